import PyProof.Rows.All
import Wide.All
import OpenK.AllK
import Wide.FinOn
import HandS.ForMost
import HandS.Evl
import HandS.IsInst
import HandS.Style
import HandS.Zip
import HandS.SortInts
import HandS.Conv
import HandS.More
import KE.GoesEnum
import HandS.Walk
import HandS.NoneIn
import HandS.SetFor
import HandS.Deep
import HandS.RaiseMore
import PyProof.ReprReads
import HandS.TupAny
import HandS.Ends
import HandS.Codes
import HandS.Words
import HandS.DeepEq
import HandS.WrittenGet
import HandS.Star
import HandS.TupLe
import HandS.Nested
import KE.DataMinMax
import HandS.TupMul
import HandS.Dict
import HandS.Iter
import KE.SortData
import KE.DataCmp
import HandS.ExcInit
import HandS.ExcField
import KE.KExcInit
import KE.KExcIs
import KE.KTryMore
import HandS.WordsExc
import HandS.DictComp
import HandS.RevRange
import HandS.Wide
import KE.KTupSum
import HandS.Flow
import HandS.TupSets
import HandS.Strs
import HandS.DictTup
import HandS.DictSubView
import KE.SortLaws
import KE.KDictSum
import HandS.ExcValue
import HandS.TupLen
import KE.KDictCopyH
import PySem.Challenge.RW_onlygroups_k05_journals_and_orders_or_no
set_option Elab.async false
set_option linter.all false
set_option maxRecDepth 100000
set_option maxHeartbeats 4000000
namespace OgR
open PySem PySem.Spec PyProof.Rows L2
section
variable {prog : Program} {w : World} {A : Around} {E : Value → Shared → Prop} {s : Shared}
/-- the items of a tuple, collected in a new list at the heap's end -/
theorem gather_tup {Q : List Value → Shared → Prop} {t : Addr} {o : Obj} {xs : Array Value} {m : Nat} (got : s.heap.get? t = some o) (cl : o.cls = .type "tuple")
    (dt : o.data = .seq xs m) (fits : xs.size ≤ sizeLine)
    (fin : Q xs.toList { s with heap := (s.heap.push (seqObj "list" #[] 0)).update s.heap.objs.size (Obj.mapSeq (· ++ xs)) }) :
    wpAny (model prog w) A (collect (.ref t)) Q E s := by
  have new1 : (s.heap.push (seqObj "list" #[] 0)).get? s.heap.objs.size = some (seqObj "list" #[] 0) := Heap.get?_push_size _ rfl
  have new2 := Heap.get?_update_self (Obj.mapSeq (· ++ xs)) new1 rfl
  unfold collect
  refine wpAny_bind (wpAny_runValue (codeAny_builtin F.entry_proto_collect ?_))
  rw [Around.under_plainId F.plain_proto_collect _]
  refine wpAny_bind (wpAny_newObj_type (wpAny_pure ⟨plainId_quiet F.plain_list_iadd _, codeAny_builtin F.entry_list_iadd ?_⟩))
  rw [Around.under_plainId F.plain_list_iadd _]
  refine wpAny_mono (wpAny_extend_seq (hsz := fits) (A := A) (R := fun r s' => r = .ok (.ret (.ref s.heap.objs.size)) ∧
      s' = { s with heap := (s.heap.push (seqObj "list" #[] 0)).update s.heap.objs.size (Obj.mapSeq (· ++ xs)) })
    (s := { s with heap := s.heap.push (seqObj "list" #[] 0) }) _ t _ 0 (.inr rfl) new1 (Heap.get?_push_of_some _ got) cl dt ⟨rfl, rfl⟩) (fun f s' g => ?_) (fun e s' g => absurd g.1 (by simp))
  have last : wpAny (model prog w) A (do
      match (← load s.heap.objs.size).data with
        | Data.seq ys _ => pure ys.toList
        | _ => unsupported "internal:collect") Q E { s with heap := (s.heap.push (seqObj "list" #[] 0)).update s.heap.objs.size (Obj.mapSeq (· ++ xs)) } := by
    refine wpAny_bind (wpAny_load new2 (wpAny_pure ?_))
    have e0 : ((#[] : Array Value) ++ xs).toList = xs.toList := by simp
    show Q ((#[] : Array Value) ++ xs).toList _
    rw [e0]
    exact fin
  cases f with
  | done r =>
    obtain ⟨e1, rfl⟩ := g
    cases e1
    exact last
  | again c => exact ⟨g.1, codeAny_mono g.2 fun r s2 gr => by
      obtain ⟨rfl, rfl⟩ := gr
      exact last⟩
theorem sorted_of_tup {t : Addr} {us : List Value} {ms : List Int} {Q : Value → Shared → Prop} (ht : IsTup s.heap t us.toArray) (hz : us.length ≤ sizeLine) (hI : IntsAre us ms)
    (fin : ∀ (out : List Value) (h' : Heap) (p : Addr) (e : Nat), (∀ b o, s.heap.get? b = some o → h'.get? b = some o) → s.heap.objs.size ≤ p → IntsAre out (out.map SrtO.iv) → (out.map SrtO.iv).Perm ms → (out.map SrtO.iv).Pairwise (· ≤ ·) →
      h'.get? p = some (seqObj "list" out.toArray e) → Q (.ref p) { s with heap := h' }) :
    wpAny (model prog w) A (call (.builtin "sorted") [.ref t]) Q E s := by
  obtain ⟨o, ho, hc, n, hd⟩ := ht
  refine Calls.call_function_entry kind_sorted plain_sorted entry_sorted (args_sorted1 _) ?_
  unfold Builtin.«sorted»
  refine wpAny_bind (m := checkCount "sorted" 1 1 _) (wpAny_pure ?_)
  refine wpAny_bind (gather_tup ho hc hd (by simpa using hz) ?_)
  rw [List.toList_toArray]
  have hsz : ((s.heap.push (seqObj "list" #[] 0)).update s.heap.objs.size (Obj.mapSeq (· ++ us.toArray))).objs.size = s.heap.objs.size + 1 := by
    rw [Heap.size_update, size_push']
  have keep1 : ∀ b u, s.heap.get? b = some u → ((s.heap.push (seqObj "list" #[] 0)).update s.heap.objs.size (Obj.mapSeq (· ++ us.toArray))).get? b = some u := fun b u q =>
    (Heap.get?_update_other _ _ (Nat.ne_of_gt (Heap.lt_size q))).trans (Heap.get?_push_of_some _ q)
  generalize ((s.heap.push (seqObj "list" #[] 0)).update s.heap.objs.size (Obj.mapSeq (· ++ us.toArray))) = h1 at hsz keep1
  refine wpAny_bind (wpAny_newList ?_ hz)
  have old2 : ∀ b u, s.heap.get? b = some u → b < h1.objs.size := fun b u q => Heap.lt_size (keep1 b u q)
  have hnew : (h1.push (seqObj "list" us.toArray 0)).get? h1.objs.size = some (seqObj "list" us.toArray 0) := Heap.get?_push_size _ rfl
  have hle : s.heap.objs.size ≤ h1.objs.size := by omega
  show wpAny _ _ _ _ _ { s with heap := h1.push (seqObj "list" us.toArray 0) }
  refine wpAny_bind (wpAny_holding (wpAny_call_entry slot_list_sort ⟨_, hnew, rfl⟩ entry_list_sort (SrtO.list_sort_ord SrtO.swo_int hnew hz (fun h2 => SrtO.ints_sortable hI h2) fun out a1 a2 => ⟨_, rfl, ?_⟩) (args_list_sort _)))
  obtain ⟨b1, b2, b3⟩ := SrtO.ints_out hI a1 a2
  obtain ⟨e, he⟩ := sortedHeap_at (out := out.toArray) hnew
  refine wpAny_pure ⟨_, rfl, fin out _ h1.objs.size e (fun b u q => ?_) hle b1 b2 b3 he⟩
  have hb := old2 b u q
  rw [sortedHeap_old (Nat.ne_of_lt hb) (by rw [size_push']; exact Nat.lt_succ_of_lt hb)]
  exact Heap.get?_push_of_some _ (keep1 b u q)
end
def rSrtT (K : PySem.W.Frag) : List V → Hp → VK → Prop := fun vs H Q => ∃ (a : Addr) (ms : List Int), vs = [V.ref a] ∧ SqT K H a (ms.map V.int) ∧
  ∀ (ks : List Int) (p : Addr), ks.Perm ms → ks.Pairwise (· ≤ ·) → H p = none → Q (.ref p) (upd H p (.lst (ks.map V.int)))
theorem cr_srtT {X : Cx} : CallR X (.builtin "sorted") (rSrtT X.K) := by
  intro pins s σ H vs us Q I r h
  obtain ⟨a, ms, rfl, hs, q⟩ := h
  obtain ⟨its, rv, ht, hz⟩ := I.tuple hs
  rw [Vals.ref1 r]
  refine sorted_of_tup ht (by rw [← rv.length]; exact hz) rv.ints fun out h' p e keep hp k1 k2 k3 he => ?_
  have hlen : ((out.map SrtO.iv).map V.int).length ≤ sizeLine := by
    have q1 := k2.length_eq
    rw [List.length_map] at hz
    rw [List.length_map]
    omega
  exact ⟨.ref p, upd H p (.lst ((out.map SrtO.iv).map V.int)), I.laid (t' := s.toks) keep hp ⟨hlen, out, e, vals_of_ints k1, he⟩, rfl, q _ _ k2 k3 (I.hok.fresh hp)⟩
def SqB (K : PySem.W.Frag) : Bool → Hp → Addr → List V → Prop
  | true, H, a, xs => SqT K H a xs
  | false, H, a, xs => SqL K H a xs
def SeqIs : Bool → Heap → Addr → Array Value → Prop
  | true, h, a, xs => h.IsTuple a xs
  | false, h, a, xs => h.IsList a xs
def ItIs : Bool → Heap → Addr → Addr → Nat → Prop
  | true, h, i, a, n => h.IsTupleIter i a n
  | false, h, i, a, n => h.IsListIter i a n
def itObj (b : Bool) (a : Addr) : Obj := { cls := .type (if b then "tuple_iterator" else "list_iterator"), data := .fields #[.ref a, .int 0 0] }
theorem seqB {X : Cx} {pins : List (Addr × Obj)} {σ : L2.St} {H : Hp} {s : Shared} {a : Addr} {xs : List V} {b : Bool} (I : Inv X pins σ H s) (h : SqB X.K b H a xs) :
    ∃ its : List Value, Vals xs its ∧ SeqIs b s.heap a its.toArray ∧ a < s.heap.objs.size := by
  cases b with
  | true =>
    obtain ⟨its, r, p, _⟩ := I.tuple h
    exact ⟨its, r, p, p.lt⟩
  | false =>
    obtain ⟨its, r, p, _⟩ := I.list h
    exact ⟨its, r, p.isList, p.lt⟩
theorem seqB_inj {X : Cx} {pins : List (Addr × Obj)} {σ : L2.St} {H : Hp} {s : Shared} {a : Addr} {xs ys : List V} {b : Bool} (I : Inv X pins σ H s) (h : SqB X.K b H a xs) (h' : SqB X.K b H a ys) : xs = ys := by
  cases b with
  | true => exact I.tuple_inj h h'
  | false => exact I.list_inj h h'
theorem drawsB {prog : Program} {w : World} {A : Around} (hh : A.handled = none) (b : Bool) (it a : Addr) (hne : a ≠ it) (items : Array Value) :
    Draws prog w A it [it, a] items.size (fun i v => items[i]? = some v) (fun i h => ItIs b h it a i ∧ SeqIs b h a items) := by
  cases b with
  | true => exact Draws.tuple hh it a hne items
  | false => exact Draws.list hh it a hne items
theorem beginsB (b : Bool) (a : Addr) (items : Array Value) : Begins (.ref a) (itObj b a) fun h => SeqIs b h a items := by
  cases b with
  | true => exact begins_tuple a items
  | false => exact begins_list a items
theorem itIs0 {b : Bool} {h : Heap} {i a : Addr} (e : h.get? i = some (itObj b a)) : ItIs b h i a 0 := by
  cases b with
  | true => exact ⟨_, e, rfl, rfl⟩
  | false => exact ⟨_, e, rfl, rfl⟩
theorem ItIs.obj {b : Bool} {h : Heap} {i a : Addr} {n : Nat} (x : ItIs b h i a n) : ∃ o, h.get? i = some o ∧ ∀ v, o.data ≠ .cell v := by
  cases b with
  | true =>
    obtain ⟨o, e, _, d⟩ := x
    exact ⟨o, e, fun v q => by rw [d] at q; cases q⟩
  | false =>
    obtain ⟨o, e, _, d⟩ := x
    exact ⟨o, e, fun v q => by rw [d] at q; cases q⟩
theorem ItIs.keep {b : Bool} {h h' : Heap} {i a : Addr} {n : Nat} (x : ItIs b h i a n) (k : ∀ o, h.get? i = some o → h'.get? i = some o) : ItIs b h' i a n := by
  cases b with
  | true => exact Heap.IsTupleIter.at x k
  | false => exact Heap.IsListIter.at x k
set_option maxHeartbeats 1000000 in
theorem enum_new1 {v : Value} {o : Obj} {H : Heap → Prop} (B : Begins v o H) : Meets (Builtin.«enumerate.__new__» ⟨[.type "enumerate", v], []⟩) (fun _ R s => H s.heap ∧
    R (.ok (.ret (.ref (s.heap.push o).objs.size)))
      { s with heap := (s.heap.push o).push { cls := .type "enumerate", data := .fields #[.none, .bool false, .ref s.heap.objs.size, rawInt 0, .none, .none] } }) := by
  refine .of_wp fun prog w A R s h => ?_
  obtain ⟨hp, gn, dr, tk, os⟩ := s
  obtain ⟨hH, fin⟩ := h
  have hsub := sub_enumerate
  have it1 : ∀ {A' : Around} {E : Value → Shared → Prop} {Q : Value → Shared → Prop}, Q (.ref hp.objs.size) ⟨hp.push o, gn, dr, tk, os⟩ → wpAny (model prog w) A' (pyIter v) Q E ⟨hp, gn, dr, tk, os⟩ := fun q =>
    B.iter prog w _ _ ⟨hp, gn, dr, tk, os⟩ _ hH q
  wp_walk using it1
  refine wpAny_stack_any fun st => wpAny_pure ?_
  split
  · rename_i cc _ _ _ _ _
    cases (cc == Value.type "enumerate") <;> (wp_walk using it1; exact ⟨_, rfl, fin⟩)
  · wp_walk using it1
    exact ⟨_, rfl, fin⟩
theorem enum_begins1 {prog : Program} {w : World} {A : Around} {E : Value → Shared → Prop} {s : Shared} {v : Value} {o : Obj} {H : Heap → Prop} {Q : Value → Shared → Prop} (B : Begins v o H) (h1 : H s.heap)
    (fin : ∀ h', IsEnum h' (s.heap.objs.size + 1) s.heap.objs.size 0 .none → h'.get? s.heap.objs.size = some o → h'.objs.size = s.heap.objs.size + 2 → (∀ b u, s.heap.get? b = some u → h'.get? b = some u) →
      Q (.ref (s.heap.objs.size + 1)) { s with heap := h' }) : wpAny (model prog w) A (call (.type "enumerate") [v]) Q E s := by
  refine callType_new F.called_enumerate (by decide) (F.typeCall_enumerate_1 _) (F.newCall_enumerate_1 _) (fun obj => F.args_object_init_2 obj _) F.entry_enumerate_new (enum_new1 B) ⟨h1, ?_⟩
  have sz : (s.heap.push o).objs.size = s.heap.objs.size + 1 := Heap.size_push ..
  have it := Heap.get?_push_size (s.heap.push o) (o := { cls := .type "enumerate", data := .fields #[.none, .bool false, .ref s.heap.objs.size, rawInt 0, .none, .none] }) rfl
  rw [sz] at it
  show _ ∧ _
  rw [sz]
  exact ⟨⟨_, it, rfl⟩, fin _ it (Heap.get?_push_of_some _ (Heap.get?_push_size _ B.free)) (by rw [Heap.size_push, sz]) fun b u x => Heap.get?_push_of_some _ (Heap.get?_push_of_some _ x)⟩
/-- the turns of enumerate over the sequence at a -/
def IteB (K : PySem.W.Frag) (b : Bool) (a : Addr) : It where
  go := fun i H => ∃ (xs : List V) (x : V), SqB K b H a xs ∧ xs[i]? = some x
  yld := fun i H v H' => ∃ T x, v = .ref T ∧ H T = none ∧ H' = upd H T (.tup [.int (i : Nat), x]) ∧ ∀ xs, SqB K b H a xs → xs[i]? = some x
  stop := fun i H => ∃ xs : List V, SqB K b H a xs ∧ xs.length = i
theorem turn_enumB {P : Program} {w : World} {K : PySem.W.Frag} {elts : List Expr} {kk : Nat} {tpos : Pos} {b : Bool} (a e it : Addr) :
    Turn P w K (.Tuple elts kk tpos) (IteB K b a) [e, it] e (fun i h => (∃ old, IsEnum h e it ((i : Nat) : Int) old) ∧ ItIs b h it a i ∧ e ≠ it ∧ a ≠ it ∧ e ≠ a) where
  mem := List.mem_cons_self ..
  obj := fun i h st c hc => by
    obtain ⟨⟨old, he⟩, hi, _⟩ := st
    rcases List.mem_cons.mp hc with rfl | hc
    · exact ⟨_, he, fun v q => nomatch q⟩
    · rw [List.mem_singleton.mp hc]
      exact hi.obj
  keep := fun i h h' st k => by
    obtain ⟨⟨old, he⟩, hi, r⟩ := st
    exact ⟨⟨old, k e (by simp) _ he⟩, hi.keep (k it (by simp)), r⟩
  item := by
    intro X hP hw hK hc i pins s σ H E I hf st hg
    subst hP hw hK
    obtain ⟨⟨old, he⟩, hit, hne, hai, hea⟩ := st
    obtain ⟨xs, x, hq, hx⟩ := hg
    obtain ⟨its, rv, hsq, _⟩ := seqB I hq
    obtain ⟨u, hu, ru⟩ := rv.get hx
    have lte : e < s.heap.objs.size := Heap.lt_size he
    have lti : it < s.heap.objs.size := by
      obtain ⟨o, q, _⟩ := hit.obj
      exact Heap.lt_size q
    have hlt : i < its.toArray.size := by
      have q := (List.getElem?_eq_some_iff.mp hu).1
      simpa using q
    refine wpAny_pyNext_enum_itemC (drawsB (by exact I.ok.hd hc) b it a hai its.toArray) he ⟨hit, hsq⟩ hlt hne (by simp [hne, hea]) fun y h' tk hy ho hst' hT hsz hk => ?_
    have hyu : y = u := by
      have q : its[i]? = some y := by simpa using hy
      rw [hu] at q
      exact (Option.some.inj q).symm
    subst hyu
    refine ⟨_, rfl, wpAny_letOwnedTupleGo_enum (s := { s with heap := h', toks := tk + 1 }) ho fun h2 he2 sb => ?_⟩
    have atT : h2.get? s.heap.objs.size = some { cls := .type "tuple", data := .seq #[.int i tk, y] } := (sb.2 _ (Nat.ne_of_gt lte)).trans hT
    have I1 : Inv X pins σ (upd H s.heap.objs.size (.tup [.int (i : Nat), x])) { s with heap := h2, toks := tk + 1 } := by
      refine I.turnedNew (ch := [e, it]) (fun c oc hcn q => ?_) hf (Nat.le_refl _) ⟨by show 2 ≤ sizeLine; decide, [.int i tk, y], .cons ⟨_, rfl⟩ (.cons ru .nil), ⟨_, atT, rfl, _, rfl⟩⟩
      exact (sb.2 c (fun z => hcn (by simp [z]))).trans (hk c oc (fun z => hcn (by simp [z])) (fun z => hcn (by simp [z])) q)
    refine ⟨.ref s.heap.objs.size, _, I1, rfl, ⟨_, x, rfl, I.hok.fresh (Nat.le_refl _), rfl, fun ys hy' => by rw [seqB_inj I hy' hq]; exact hx⟩, ⟨⟨y, ?_⟩, hst'.1.keep fun o q => (sb.2 it (Ne.symm hne)).trans q, hne, hai, hea⟩, fun c hcm => ?_⟩
    · have e1 : ((i + 1 : Nat) : Int) = (i : Int) + 1 := by omega
      rw [e1]
      exact he2
    · have ltc : c < s.heap.objs.size := by
        rcases List.mem_cons.mp hcm with rfl | hcm
        · exact lte
        · rw [List.mem_singleton.mp hcm]
          exact lti
      rw [upd_ne (Nat.ne_of_lt ltc)]
      exact (hf c hcm).1
  done := by
    intro X hP hw hK hc i pins s σ H E I hf st hg
    subst hP hw hK
    obtain ⟨⟨old, he⟩, hit, hne, hai, hea⟩ := st
    obtain ⟨xs, hq, hx⟩ := hg
    obtain ⟨its, rv, hsq, _⟩ := seqB I hq
    obtain ⟨f0, f1, f2, f3, f4, f5⟩ := hf it (by simp)
    have hl : its.toArray.size = i := by
      have q := rv.length
      simp
      omega
    refine wpAny_pyNext_enum_endD (drawsB (by exact I.ok.hd hc) b it a hai its.toArray) he (by rw [hl]; exact ⟨hit, hsq⟩) fun h' hk => ⟨rfl, ?_⟩
    exact I.turned (t' := s.toks) (fun c oc hcn q => hk c oc hcn q) f0 f1 f3 f4 f5
  self := fun A i s Q E st h => by
    obtain ⟨⟨_, he⟩, _⟩ := st
    exact wpAny_pyIter_enum he h
def iEnumB (K : PySem.W.Frag) (ta : TA) : TI := fun σ H R => ta σ H fun vs H1 => ∃ b a xs, vs = [.ref a] ∧ SqB K b H1 a xs ∧ R (IteB K b a) H1
theorem pi_enumB {X : Cx} {e : Expr} {ta : TA} {p pos tpos : Pos} {elts : List Expr} {kk : Nat} (hg : Gl X "enumerate") (hm : X.mg "enumerate" = none) (ha : PA X [e] ta) (hs : starEach [e] X.env = [(false, eval e X.env)] := by rfl) :
    PI X (.Tuple elts kk tpos) (.Call (.Name "enumerate" p) [e] [] pos) (iEnumB X.K ta) := by
  refine ⟨fun pins s σ H R I h => ?_⟩
  refine Call_ (ld_blt I hg hm boot_enumerate (callWith_type1 (thn (ha.run pos pins s σ H _ I h) fun us s1 ⟨vs, H1, I1, r1, g⟩ => ?_) hs rfl))
  obtain ⟨b, a, xs, ex, hq, q⟩ := g
  subst ex
  rw [Vals.ref1 r1]
  obtain ⟨its, rv, hsq, lta⟩ := seqB I1 hq
  refine enum_begins1 (beginsB b a its.toArray) hsq fun h' he hit hsz hk => wpAny_pyIter_enum he ?_
  refine ⟨s1.heap.objs.size + 1, [s1.heap.objs.size + 1, s1.heap.objs.size], _, _, H1, rfl, I1.kept (t' := s1.toks) hk, turn_enumB a (s1.heap.objs.size + 1) s1.heap.objs.size, ⟨⟨.none, he⟩, itIs0 hit, Nat.succ_ne_self _, Nat.ne_of_lt lta, Nat.ne_of_gt (Nat.lt_succ_of_lt lta)⟩, fun c hc => ?_, q⟩
  have hle : s1.heap.objs.size ≤ c := by
    rcases List.mem_cons.mp hc with rfl | hc
    · exact Nat.le_succ _
    · rw [List.mem_singleton.mp hc]
      exact Nat.le_refl _
  exact I1.fpOk hle (I1.hok.fresh hle)
end OgR
namespace OgR
open PySem PySem.Spec PyProof.Rows L2
def ItzB (K : PySem.W.Frag) (b1 b2 : Bool) (a1 a2 : Addr) : It where
  go := fun i H => ∃ (xs ys : List V) (x y : V), SqB K b1 H a1 xs ∧ SqB K b2 H a2 ys ∧ xs[i]? = some x ∧ ys[i]? = some y
  yld := fun i H v H' => ∃ T x y, v = .ref T ∧ H T = none ∧ H' = upd H T (.tup [x, y]) ∧ (∀ xs, SqB K b1 H a1 xs → xs[i]? = some x) ∧ ∀ ys, SqB K b2 H a2 ys → ys[i]? = some y
  stop := fun i H => ∃ xs ys : List V, SqB K b1 H a1 xs ∧ SqB K b2 H a2 ys ∧ i ≤ xs.length ∧ i ≤ ys.length ∧ (i = xs.length ∨ i = ys.length)
theorem turn_zipB {P : Program} {w : World} {K : PySem.W.Frag} {elts : List Expr} {kk : Nat} {tpos : Pos} {b1 b2 : Bool} {a1 a2 z TI TO i1 i2 : Addr} (S : ZipSep2 z TI TO i1 i2 [i1, a1] [i2, a2]) (n1 : a1 ≠ i1) (n2 : a2 ≠ i2) :
    Turn P w K (.Tuple elts kk tpos) (ItzB K b1 b2 a1 a2) [z, TI, TO, i1, i2] z
      (fun i h => IsZip h z TI TO .none ∧ IsTupOf2 h TI (.ref i1) (.ref i2) ∧ (∃ x y, IsTupOf2 h TO x y) ∧ ItIs b1 h i1 a1 i ∧ ItIs b2 h i2 a2 i) where
  mem := List.mem_cons_self ..
  obj := fun i h st c hc => by
    obtain ⟨hz, hTI, ⟨x, y, hTO⟩, h1, h2⟩ := st
    have q : c = z ∨ c = TI ∨ c = TO ∨ c = i1 ∨ c = i2 := by simpa using hc
    rcases q with rfl | rfl | rfl | rfl | rfl
    · exact ⟨_, hz, fun v q => nomatch q⟩
    · exact ⟨_, hTI, fun v q => nomatch q⟩
    · exact ⟨_, hTO, fun v q => nomatch q⟩
    · exact h1.obj
    · exact h2.obj
  keep := fun i h h' st k => by
    obtain ⟨hz, hTI, ⟨x, y, hTO⟩, h1, h2⟩ := st
    exact ⟨k z (by simp) _ hz, k TI (by simp) _ hTI, ⟨x, y, k TO (by simp) _ hTO⟩, h1.keep (k i1 (by simp)), h2.keep (k i2 (by simp))⟩
  item := by
    intro X hP hw hK hc i pins s σ H E I hf st hg
    subst hP hw hK
    obtain ⟨hz, hTI, ⟨x0, y0, hTO⟩, h1, h2⟩ := st
    obtain ⟨xs, ys, x, y, qx, qy, hx, hy⟩ := hg
    obtain ⟨us1, rv1, sq1, _⟩ := seqB I qx
    obtain ⟨us2, rv2, sq2, _⟩ := seqB I qy
    obtain ⟨u1, e1, r1⟩ := rv1.get hx
    obtain ⟨u2, e2, r2⟩ := rv2.get hy
    have ltz : z < s.heap.objs.size := Heap.lt_size hz
    have lt1 : i < us1.toArray.size := by
      have q := (List.getElem?_eq_some_iff.mp e1).1
      simpa using q
    have lt2 : i < us2.toArray.size := by
      have q := (List.getElem?_eq_some_iff.mp e2).1
      simpa using q
    refine wpAny_pyNext_zipD2_item S (drawsB (by exact I.ok.hd hc) b1 i1 a1 n1 us1.toArray) (drawsB (by exact I.ok.hd hc) b2 i2 a2 n2 us2.toArray) hz hTI hTO ⟨h1, sq1⟩ ⟨h2, sq2⟩ lt1 lt2
      fun v1 v2 h' tk p1 p2 z' TO' st1 st2 hT hsz hk => ?_
    have ev1 : v1 = u1 := by
      have q : us1[i]? = some v1 := by simpa using p1
      rw [e1] at q
      exact (Option.some.inj q).symm
    have ev2 : v2 = u2 := by
      have q : us2[i]? = some v2 := by simpa using p2
      rw [e2] at q
      exact (Option.some.inj q).symm
    subst ev1 ev2
    refine ⟨_, rfl, wpAny_letOwnedTupleGo_zip (s := { s with heap := h', toks := tk }) z' fun h2' z2 sb => ?_⟩
    have atT : h2'.get? s.heap.objs.size = some { cls := .type "tuple", data := .seq #[v1, v2] } := (sb.2 _ (Nat.ne_of_gt ltz)).trans hT
    have I1 : Inv X pins σ (upd H s.heap.objs.size (.tup [x, y])) { s with heap := h2', toks := tk } := by
      refine I.turnedNew (ch := [z, TI, TO, i1, i2]) (fun c oc hcn q => ?_) hf (Nat.le_refl _) ⟨by show 2 ≤ sizeLine; decide, [v1, v2], .cons r1 (.cons r2 .nil), ⟨_, atT, rfl, _, rfl⟩⟩
      have g : ∀ d, d ∈ [z, TI, TO, i1, i2] → c ≠ d := fun d hd e => hcn (e ▸ hd)
      exact (sb.2 c (g z (by simp))).trans (hk c oc (g z (by simp)) (g TO (by simp)) (g i1 (by simp)) (g i2 (by simp)) q)
    refine ⟨.ref s.heap.objs.size, _, I1, rfl, ⟨_, x, y, rfl, I.hok.fresh (Nat.le_refl _), rfl, fun l hl => by rw [seqB_inj I hl qx]; exact hx, fun l hl => by rw [seqB_inj I hl qy]; exact hy⟩, ⟨z2, ?_, ⟨v1, v2, ?_⟩, ?_, ?_⟩, fun c hcm => ?_⟩
    · exact (sb.2 _ S.TIz).trans (hk _ _ S.TIz S.TITO S.TIi1 S.TIi2 hTI)
    · exact (sb.2 _ S.TOz).trans TO'
    · exact st1.1.keep fun o q => (sb.2 _ (Ne.symm S.zi1)).trans q
    · exact st2.1.keep fun o q => (sb.2 _ (Ne.symm S.zi2)).trans q
    · have ltc : c < s.heap.objs.size := by
        have q : c = z ∨ c = TI ∨ c = TO ∨ c = i1 ∨ c = i2 := by simpa using hcm
        rcases q with rfl | rfl | rfl | rfl | rfl
        · exact ltz
        · exact Heap.lt_size hTI
        · exact Heap.lt_size hTO
        · obtain ⟨_, q, _⟩ := h1.obj
          exact Heap.lt_size q
        · obtain ⟨_, q, _⟩ := h2.obj
          exact Heap.lt_size q
      rw [upd_ne (Nat.ne_of_lt ltc)]
      exact (hf c hcm).1
  done := by
    intro X hP hw hK hc i pins s σ H E I hf st hg
    subst hP hw hK
    obtain ⟨hz, hTI, ⟨x0, y0, hTO⟩, h1, h2⟩ := st
    obtain ⟨xs, ys, qx, qy, l1, l2, hend⟩ := hg
    obtain ⟨us1, rv1, sq1, _⟩ := seqB I qx
    obtain ⟨us2, rv2, sq2, _⟩ := seqB I qy
    have m1 : xs.length = us1.toArray.size := by
      have q := rv1.length
      simpa using q
    have m2 : ys.length = us2.toArray.size := by
      have q := rv2.length
      simpa using q
    refine wpAny_pyNext_zipD2_end S (drawsB (by exact I.ok.hd hc) b1 i1 a1 n1 us1.toArray) (drawsB (by exact I.ok.hd hc) b2 i2 a2 n2 us2.toArray) hz hTI hTO ⟨h1, sq1⟩ ⟨h2, sq2⟩ (by omega) (by omega) (by omega) fun h' tk hk => ⟨rfl, ?_⟩
    refine I.turnedL (t' := tk) (ch := [z, TI, TO, i1, i2]) (fun c oc hcn q => ?_) hf
    have g : ∀ d, d ∈ [z, TI, TO, i1, i2] → c ≠ d := fun d hd e => hcn (e ▸ hd)
    exact hk c oc (g z (by simp)) (g TO (by simp)) (g i1 (by simp)) (g i2 (by simp)) q
  self := fun A i s Q E st h => wpAny_pyIter_zip st.1 h
def iZipB (K : PySem.W.Frag) (ta : TA) : TI := fun σ H R => ta σ H fun vs H1 => ∃ b1 b2 a1 a2 xs ys, vs = [.ref a1, .ref a2] ∧ SqB K b1 H1 a1 xs ∧ SqB K b2 H1 a2 ys ∧ R (ItzB K b1 b2 a1 a2) H1
theorem pi_zipB {X : Cx} {e e2 : Expr} {ta : TA} {p pos tpos : Pos} {elts : List Expr} {kk : Nat} (hg : Gl X "zip") (hm : X.mg "zip" = none) (ha : PA X [e, e2] ta)
    (hs : starEach [e, e2] X.env = (false, eval e X.env) :: starEach [e2] X.env := by rfl) (hpl : (backTo pos (starEach [e2] X.env)).any (·.1) = false := by rfl) :
    PI X (.Tuple elts kk tpos) (.Call (.Name "zip" p) [e, e2] [] pos) (iZipB X.K ta) := by
  refine ⟨fun pins s σ H R I h => ?_⟩
  refine Call_ (ld_blt I hg hm boot_zip (callWith_type1 (thn (ha.run pos pins s σ H _ I h) fun us s1 ⟨vs, H1, I1, r1, g⟩ => ?_) hs hpl))
  obtain ⟨b1, b2, a1, a2, xs, ys, ex, qx, qy, q⟩ := g
  subst ex
  obtain ⟨u, w', eus, ru, rw'⟩ := vals2 r1
  subst eus
  cases ru
  cases rw'
  obtain ⟨us1, rv1, sq1, lt1⟩ := seqB I1 qx
  obtain ⟨us2, rv2, sq2, lt2⟩ := seqB I1 qy
  refine zip_begins2 (beginsB b1 a1 us1.toArray) (beginsB b2 a2 us2.toArray) sq1 sq2 fun h' hz hTI hTO g1 g2 hsz hk => wpAny_pyIter_zip hz ?_
  have S := zip_sep2 (N := s1.heap.objs.size) (fp1 := [a1]) (fp2 := [a2]) (fun b hb => by rw [List.mem_singleton.mp hb]; exact lt1) (fun b hb => by rw [List.mem_singleton.mp hb]; exact lt2)
  refine ⟨s1.heap.objs.size + 4, [s1.heap.objs.size + 4, s1.heap.objs.size + 2, s1.heap.objs.size + 3, s1.heap.objs.size, s1.heap.objs.size + 1], _, _, H1, rfl, I1.kept (t' := s1.toks) hk,
    turn_zipB S (Nat.ne_of_lt lt1) (Nat.ne_of_lt (Nat.lt_succ_of_lt lt2)), ⟨hz, hTI, ⟨_, _, hTO⟩, itIs0 g1, itIs0 g2⟩, fun c hcm => ?_, q⟩
  have hle : s1.heap.objs.size ≤ c := by
    have e' : c = s1.heap.objs.size + 4 ∨ c = s1.heap.objs.size + 2 ∨ c = s1.heap.objs.size + 3 ∨ c = s1.heap.objs.size ∨ c = s1.heap.objs.size + 1 := by simpa using hcm
    rcases e' with q | q | q | q | q <;> rw [q] <;> first | exact Nat.le_add_right _ _ | exact Nat.le_refl _
  exact I1.fpOk hle (I1.hok.fresh hle)
theorem SqB.ex {K : PySem.W.Frag} {b : Bool} {H H' : Hp} {a : Addr} {xs : List V} (e : Evl.Ex H H') (h : SqB K b H a xs) : SqB K b H' a xs := by
  cases b with
  | true => exact Evl.ex_t e h
  | false => exact Evl.ex_l e h
def ItsB (K : PySem.W.Frag) (b : Bool) (a : Addr) : It where
  go := fun i H => ∃ xs x, SqB K b H a xs ∧ xs[i]? = some x
  yld := fun i H x H' => H' = H ∧ ∀ xs, SqB K b H a xs → xs[i]? = some x
  stop := fun i H => ∃ xs, SqB K b H a xs ∧ xs.length ≤ i
theorem turn_seqB {P : Program} {w : World} {K : PySem.W.Frag} {tg : Expr} (b : Bool) (a it : Addr) : Turn P w K tg (ItsB K b a) [it] it (fun i h => ItIs b h it a i) := by
  cases b with
  | true => exact turn_tuple a it
  | false => exact turn_list a it
def iSeqB (K : PySem.W.Frag) (tl : TE) : TI := fun σ H R => tl σ H fun x H1 => ∃ b a xs, x = .ref a ∧ SqB K b H1 a xs ∧ R (ItsB K b a) H1
theorem pi_seqB {X : Cx} {tg l : Expr} {tl : TE} (hl : PE X l tl) : PI X tg l (iSeqB X.K tl) := by
  refine ⟨fun pins s σ H R I h => thn (hl.run pins s σ H _ I h) fun v s1 ⟨x, H1, I1, r1, g⟩ => ?_⟩
  obtain ⟨b, a, xs, e, hq, q⟩ := g
  subst e
  cases r1
  obtain ⟨its, rv, hsq, lt⟩ := seqB I1 hq
  refine (beginsB b a its.toArray).iter _ _ _ _ _ _ hsq ?_
  refine ⟨s1.heap.objs.size, [s1.heap.objs.size], _, _, H1, rfl, I1.kept (t' := s1.toks) fun c o e => Heap.get?_push_of_some _ e, turn_seqB b a _, itIs0 (Heap.get?_push_size _ (beginsB b a its.toArray).free), fun c hc => ?_, q⟩
  rw [List.mem_singleton.mp hc]
  exact I1.fpOk (Nat.le_refl _) (I1.hok.fresh (Nat.le_refl _))
theorem walk_seqB {K : PySem.W.Frag} {b : Bool} {a : Addr} {xs : List V} : Walk (ItsB K b a) xs.length (fun H => SqB K b H a xs) (fun i H v H' => H' = H ∧ xs[i]? = some v) where
  goes := fun i H hi h => ⟨xs, xs[i], h, List.getElem?_eq_getElem hi⟩
  stops := fun H h => ⟨xs, h, Nat.le_refl _⟩
  yields := fun i H v H' hi h y => ⟨y.1, y.2 xs h⟩
theorem PG.or {X : Cx} {e : Expr} {g1 g2 : TG} (h1 : PG X e g1) (h2 : PG X e g2) : PG X e (fun v σ H Q => g1 v σ H Q ∨ g2 v σ H Q) :=
  ⟨fun pins s σ H v u Q I r h => by
    rcases h with h | h
    · exact h1.run pins s σ H v u Q I r h
    · exact h2.run pins s σ H v u Q I r h⟩
theorem CallR.or {X : Cx} {f : Value} {r1 r2 : List V → Hp → VK → Prop} (h1 : CallR X f r1) (h2 : CallR X f r2) : CallR X f (fun vs H Q => r1 vs H Q ∨ r2 vs H Q) := by
  intro pins s σ H vs us Q I r h
  rcases h with h | h
  · exact h1 pins s σ H vs us Q I r h
  · exact h2 pins s σ H vs us Q I r h
/-- unpacking a pair: a tuple or a list of n items -/
def gSeqB (K : PySem.W.Frag) (n : Nat) (t : TGs) : TG := fun v σ H Q => ∃ b a xs, v = .ref a ∧ SqB K b H a xs ∧ xs.length = n ∧ t xs σ H Q
theorem pg_seqB {X : Cx} {es : List Expr} {k : Nat} {pos : Pos} {t : TGs} {n : Nat} (hc : X.calm = true) (h : PGs X es t)
    (hn : (assignEach es X.env).length = n := by rfl) (hst : (assignEach es X.env).findIdx? (·.1) = none := by rfl) : PG X (.Tuple es k pos) (gSeqB X.K n t) :=
  ⟨fun pins s σ H v u Q I r hw => by
    obtain ⟨b, a, xs, e1, hq, hl, hw⟩ := hw
    cases b with
    | true => exact (pg_tup hc h hn hst).run pins s σ H v u Q I r ⟨a, xs, e1, hq, hl, hw⟩
    | false => exact (pg_unl hc h hn hst).run pins s σ H v u Q I r ⟨a, xs, e1, hq, hl, hw⟩⟩
/-- sorted(s), s a list or a tuple of ints -/
def rSrtB (K : PySem.W.Frag) : List V → Hp → VK → Prop := fun vs H Q => ∃ (b : Bool) (a : Addr) (ms : List Int), vs = [V.ref a] ∧ SqB K b H a (ms.map V.int) ∧
  ∀ (ks : List Int) (p : Addr), ks.Perm ms → ks.Pairwise (· ≤ ·) → H p = none → Q (.ref p) (upd H p (.lst (ks.map V.int)))
theorem cr_srtB {X : Cx} : CallR X (.builtin "sorted") (rSrtB X.K) := by
  intro pins s σ H vs us Q I r h
  obtain ⟨b, a, ms, e, hq, q⟩ := h
  cases b with
  | true => exact cr_srtT pins s σ H vs us Q I r ⟨a, ms, e, hq, q⟩
  | false => exact cr_sortedI pins s σ H vs us Q I r ⟨a, ms, e, hq, q⟩
/-- s[i], s a list or a tuple -/
def rIxB (K : PySem.W.Frag) : R2 := fun x y H Q => ∃ (b : Bool) (p : Addr) (xs : List V) (i : Int) (v : V), x = .ref p ∧ y = .int i ∧ SqB K b H p xs ∧ atI xs i = some v ∧ Q v H
theorem ix_B {X : Cx} : IxR X (rIxB X.K) := by
  have h : IxR X (rIx X.K) := ix_seq
  refine fun va sl pins s σ H x y u w Q I rx ry g hp => h va sl pins s σ H x y u w Q I rx ry ?_ hp
  obtain ⟨b, p, xs, i, v, e1, e2, hq, ha, q⟩ := g
  cases b with
  | true => exact .inr (.inl ⟨p, xs, i, v, e1, e2, hq, ha, q⟩)
  | false => exact .inl ⟨p, xs, i, v, e1, e2, hq, ha, q⟩
end OgR
namespace OgR
open PySem PySem.Spec PyProof.Rows L2
end OgR
namespace OgR
open PySem PySem.Spec PyProof.Rows L2
theorem card_eq : ∀ {ks ns : List Int}, ks.Nodup → (∀ k, k ∈ ns ↔ k ∈ ks) → ks.length ≤ ns.length ∧ (ks.length = ns.length ↔ ns.Nodup)
  | ks, [], hk, hm => by
    have e : ks = [] := List.eq_nil_iff_forall_not_mem.mpr fun k h => by
      have := (hm k).mpr h
      simp at this
    subst e
    simp
  | ks, n :: r, hk, hm => by
    by_cases hn : n ∈ r
    · have hm' : ∀ k, k ∈ r ↔ k ∈ ks := fun k => by
        rw [← hm k]
        constructor
        · exact fun h => List.mem_cons_of_mem _ h
        · intro h
          rcases List.mem_cons.mp h with e | e
          · rw [e]; exact hn
          · exact e
      have ih := card_eq hk hm'
      refine ⟨Nat.le_trans ih.1 (Nat.le_succ _), ?_⟩
      constructor
      · intro e
        have := ih.1
        rw [e, List.length_cons] at this
        omega
      · intro h
        exact absurd hn (List.nodup_cons.mp h).1
    · have hnk : n ∈ ks := (hm n).mp List.mem_cons_self
      have hm' : ∀ k, k ∈ r ↔ k ∈ ks.erase n := fun k => by
        rw [hk.mem_erase_iff, ← hm k]
        constructor
        · intro h
          refine ⟨fun e => hn (e ▸ h), List.mem_cons_of_mem _ h⟩
        · rintro ⟨h1, h2⟩
          rcases List.mem_cons.mp h2 with e | e
          · exact absurd e h1
          · exact e
      have ih := card_eq (hk.erase n) hm'
      have hl := List.length_erase_of_mem hnk
      have hpos : 0 < ks.length := List.length_pos_of_mem hnk
      rw [List.nodup_cons, List.length_cons]
      constructor
      · have := ih.1; omega
      · constructor
        · intro e
          exact ⟨hn, ih.2.mp (by omega)⟩
        · intro h
          have := ih.2.mpr h.2
          omega
section
variable {X : Cx}
def tLenSetN (K : PySem.W.Frag) (ta : TE) : TE := fun σ H Q => ta σ H fun x H1 => ∃ (l : Addr) (ns : List Int), x = V.ref l ∧ SqT K H1 l (ns.map V.int) ∧ ns.length ≤ 1000 ∧ ∀ c : Nat, c ≤ ns.length → (c = ns.length ↔ ns.Nodup) → Q (.int (c : Nat)) H1
theorem pe_lenSetN {a : Expr} {ta : TE} {p p2 q pos : Pos} (hc : X.calm = true) (hg : Gl X "len") (hm : X.mg "len" = none) (hg2 : Gl X "set") (hm2 : X.mg "set" = none) (ha : PE X a ta)
    (na : starEach [a] X.env = (false, eval a X.env) :: starEach [] X.env := by rfl) : PE X (.Call (.Name "len" p) [.Call (.Name "set" p2) [a] [] q] [] pos) (tLenSetN X.K ta) := by
  refine ⟨fun pins s σ H Q I h => ?_⟩
  refine Call_ (ld_blt I hg hm PySem.boot_len (PyProof.Rows.callWith_builtin1 (PyProof.Rows.args_cons ?_ rfl) rfl rfl))
  refine Call_ (ld_blt I hg2 hm2 PyProof.Rows.boot_set (PyProof.Rows.callWith_type1 (PyProof.Rows.args_cons (thn (ha.run pins s σ H _ I h) fun v s1 ⟨x, H1, I1, r1, q1⟩ => PyProof.Rows.args_nil ?_) na) na rfl))
  obtain ⟨l, ns, rfl, hq, h1, q1⟩ := q1
  cases r1
  obtain ⟨its, rv, pt, hz⟩ := I1.tuple hq
  have hi : IntsAre its.toArray.toList ns := ints_of_vals rv
  refine call_set_tupI ns (I1.ok.hd hc) (show s1.heap.IsTuple l its.toArray from pt) hi (by unfold scanBound; omega) fun h' tk c R1 hcn k => ?_
  obtain ⟨o, es, ep, t, ho, hex, hdt, g, nd, hm3, hb, hf, hn, hr, hl2⟩ := R1
  refine PyProof.Rows.args_nil ?_
  have I2 : Inv X pins σ H1 { s1 with heap := h', toks := tk } := I1.kept fun b o e => k b o e
  have hcard := card_eq (ks := es.toList.map keyOf) (ns := ns) nd fun k => by
    rw [← hm3 k]
    simp
  rw [List.length_map, Array.length_toList] at hcard
  refine call_len_set (s := { s1 with heap := h', toks := tk }) ho hex hdt hf ?_ ⟨.int (es.size : Nat), H1, I2.tok _, ⟨_, rfl⟩, q1 es.size hcard.1 hcard.2⟩
  have h5 := hcard.1
  have h6 : (es.size : Int) < 4096 := by omega
  exact Int.lt_of_lt_of_le h6 (by decide)
def rRepr (K : PySem.W.Frag) : List V → Hp → VK → Prop := fun vs H Q => ∃ (v : V) (d : PyData), vs = [v] ∧ Dp K H v d ∧ d.showable = true ∧ d.hasDict = false ∧ d.depth ≤ 40 ∧ d.shown.length ≤ sizeLine ∧ Q (.str d.shown) H
theorem cr_repr (hG : X.A.guards = some []) (hu : X.A.units + 64 < cLine) : CallR X (.builtin "repr") (rRepr X.K) := by
  intro pins s σ H xs us Q I r h
  obtain ⟨v, d, rfl, hd, hs, hnd, hdep, hz, q⟩ := h
  obtain ⟨u, rfl, ru⟩ := r.one
  obtain ⟨as, rd⟩ := Dp.reads I d v u hd ru
  have fin : ∀ (h' : Heap) (tu : Tok) (tk : Nat), (∀ b o, s.heap.get? b = some o → h'.get? b = some o) → EP X pins σ Q (.str d.shown tu) { s with heap := h', toks := tk } :=
    fun h' tu tk hk => ⟨.str d.shown, H, I.kept (t' := tk) hk, ⟨tu, rfl⟩, q⟩
  cases rd with
  | none => exact P.repr_of_none (fin _ _ _ fun _ _ e => e)
  | bool b => exact P.repr_of_bool (by have f := fin s.heap s.toks (s.toks + 1) fun _ _ e => e; cases b <;> exact f)
  | int i t =>
    have hs' : i.natAbs.log2 < 1920 := by simpa [PyData.showable] using hs
    exact P.repr_of_int hs' (fin s.heap s.toks (s.toks + 1) fun _ _ e => e)
  | str x t => exact P.repr_of_str (hsz := by simpa [PyData.shown] using hz) (fin s.heap s.toks (s.toks + 1) fun _ _ e => e)
  | dict => simp [PyData.hasDict] at hnd
  | @list a o vs n ds as h1 h2 h3 h4 =>
    have hz' : (listText (PyData.shownAll ds)).length ≤ sizeLine := by simpa only [PyData.shown] using hz
    have hT : s.TypeIs (.ref a) "list" := ⟨o, h1, h2⟩
    have hdep' : PyData.depthAll ds + 1 ≤ 40 := by simpa only [PyData.depth] using hdep
    have fin' : ∀ (h' : Heap) (tu : Tok) (tk : Nat), (∀ b o, s.heap.get? b = some o → h'.get? b = some o) → EP X pins σ Q (.str (listText (PyData.shownAll ds)) tu) { s with heap := h', toks := tk } := by
      simpa only [PyData.shown] using fin
    obtain ⟨bs, hb, hk⟩ := ReprAllK.of_readsAll (prog := X.prog) (w := X.w) h4 (by simpa [PyData.showable] using hs)
      (fun hx => by simp only [PyData.hasDict] at hnd; rw [hnd] at hx; cases hx) fun t ht => Nat.le_trans (listText_mem_le ht) hz'
    have hna : a ∉ bs := not_mem_of_deeper (.list h1 h2 h3 h4) (by simp only [PyData.depth]; omega) hb
    refine call_repr_slot (by omega) hT PySem.F.slot_list_repr.toG ?_
    obtain ⟨l⟩ := vs
    cases l with
    | nil =>
      have h5 : ReadsAll s.heap [] ds _ := h4
      cases h5
      refine call_list_repr_empty hT h1 h3 ⟨_, _, rfl, ?_⟩
      exact fin' s.heap _ _ fun _ _ e => e
    | cons x l =>
      exact call_list_reprK h1 h2 h3 hna (by simpa using hk.length_eq) (fun i y e => hk.item i y (by simpa using e)) hG (fun b _ => Clear.nil b) (by show X.A.units + 1 + _ < _; omega) (fun _ _ e => e) (fun h' tu tk hk' => ⟨_, _, rfl, fin' h' tu tk hk'⟩) hz'
  | @tuple a o vs n ds as h1 h2 h3 h4 =>
    have hz' : (tupleText (PyData.shownAll ds)).length ≤ sizeLine := by simpa only [PyData.shown] using hz
    have hdep' : PyData.depthAll ds + 1 ≤ 40 := by simpa only [PyData.depth] using hdep
    obtain ⟨bs, hb, hk⟩ := ReprAllK.of_readsAll (prog := X.prog) (w := X.w) h4 (by simpa [PyData.showable] using hs)
      (fun hx => by simp only [PyData.hasDict] at hnd; rw [hnd] at hx; cases hx) fun t ht => Nat.le_trans (tupleText_mem_le ht) hz'
    have hna : a ∉ bs := not_mem_of_deeper (.tuple h1 h2 h3 h4) (by simp only [PyData.depth]; omega) hb
    refine call_repr_slot (by omega) ⟨o, h1, h2⟩ PySem.F.slot_tuple_repr ?_
    exact call_tuple_reprK h1 h2 h3 hna hk hG (fun b _ => Clear.nil b) (by show X.A.units + 1 + _ < _; omega) (fun _ _ e => e) (fun h' tu tk hk' => ⟨_, _, rfl, by simpa only [PyData.shown] using fin h' tu tk hk'⟩) hz'
end
end OgR
namespace OgR
open PySem PySem.Spec PyProof.Rows L2
theorem rev_adjust (n : Nat) : Builtin.Slice.sliceAdjust none none (-1) (n : Int) = ((n : Int) - 1, -1) := by
  unfold Builtin.Slice.sliceAdjust
  simp
theorem rev_places (n : Nat) : Builtin.Slice.slicePlaces ((n : Int) - 1) (-1) (-1) = n := by
  unfold Builtin.Slice.slicePlaces
  simp
  split <;> omega
theorem rev_pick (xs : Array Value) : ((List.range xs.size).filterMap fun (m : Nat) => xs[(((xs.size : Int) - 1) + (m : Int) * (-1)).toNat]?) = xs.toList.reverse := by
  have e : ∀ m ∈ List.range xs.size, xs[(((xs.size : Int) - 1) + (m : Int) * (-1)).toNat]? = some (xs.toList.reverse.getD m .none) := by
    intro m hm
    have hm' : m < xs.size := List.mem_range.mp hm
    have e1 : (((xs.size : Int) - 1) + (m : Int) * (-1)).toNat = xs.size - 1 - m := by omega
    rw [e1, List.getD_eq_getElem?_getD, List.getElem?_reverse (by rw [Array.length_toList]; exact hm'), Array.length_toList, Array.getElem?_toList]
    rw [Array.getElem?_eq_getElem (by omega)]
    rfl
  have e2 : ((List.range xs.size).filterMap fun (m : Nat) => xs[(((xs.size : Int) - 1) + (m : Int) * (-1)).toNat]?) = (List.range xs.size).map fun m => xs.toList.reverse.getD m .none := by
    rw [← List.filterMap_eq_map]
    generalize List.range xs.size = R at e
    induction R with
    | nil => rfl
    | cons m R ih =>
      have e0 := e m List.mem_cons_self
      rw [List.filterMap_cons, List.filterMap_cons, e0, ih fun k hk => e k (List.mem_cons_of_mem _ hk)]
      rfl
  rw [e2]
  refine List.ext_getElem? fun i => ?_
  rw [List.getElem?_map]
  by_cases hi : i < xs.size
  · rw [List.getElem?_range hi]
    have hl : i < xs.toList.reverse.length := by rw [List.length_reverse, Array.length_toList]; exact hi
    simp only [Option.map_some, List.getD_eq_getElem?_getD]
    rw [List.getElem?_eq_getElem hl]
    rfl
  · rw [List.getElem?_eq_none (by rw [List.length_range]; omega), List.getElem?_eq_none (by rw [List.length_reverse, Array.length_toList]; omega)]
    rfl
section
variable {prog : Program} {w : World} {A : Around} {E : Value → Shared → Prop} {s : Shared}
theorem rev_applied {sl : Addr} {n : Nat} {t : Tok} {Q : Int × Int × Nat → Shared → Prop} (hs : s.heap.IsSliceOf sl .none .none (.int (-1) t)) (h : Q ((n : Int) - 1, -1, n) s) :
    wpAny (model prog w) A (Builtin.Slice.sliceApplied (.ref sl) (pure (n : Int))) Q E s := by
  obtain ⟨os, hos, -, hds⟩ := hs
  unfold Builtin.Slice.sliceApplied Builtin.Slice.sliceFields
  refine wpAny_bind (wpAny_bind (wpAny_field hos hds (x := .none) rfl (wpAny_bind (wpAny_field hos hds (x := .none) rfl (wpAny_bind (wpAny_field hos hds (x := .int (-1) t) rfl (wpAny_pure ?_)))))))
  refine wpAny_bind (slicePart_int ?_)
  show wpAny _ _ (if ((-1 : Int) == 0) = true then _ else _) _ _ s
  rw [if_neg (by decide)]
  refine wpAny_bind (slicePart_none (wpAny_bind (slicePart_none (wpAny_bind (wpAny_pure ?_)))))
  show wpAny _ _ (match Builtin.Slice.sliceAdjust none none (-1) (n : Int) with | (lo, hi) => pure (lo, (-1 : Int), Builtin.Slice.slicePlaces lo hi (-1))) _ _ s
  rw [rev_adjust]
  show wpAny _ _ (pure (((n : Int) - 1), (-1 : Int), Builtin.Slice.slicePlaces ((n : Int) - 1) (-1) (-1))) _ _ s
  rw [rev_places]
  exact wpAny_pure h
theorem getItem_rev {t sl : Addr} {items : Array Value} {tk : Tok} {Q : Value → Shared → Prop} (ht : IsTup s.heap t items) (hs : s.heap.IsSliceOf sl .none .none (.int (-1) tk))
    (h : Q (.ref s.heap.objs.size) { s with heap := s.heap.push { cls := .type "tuple", data := .seq items.toList.reverse.toArray } }) (hsz : items.size ≤ sizeLine) : wpAny (model prog w) A (getItem (.ref t) (.ref sl)) Q E s := by
  have hfit : sizeOk (.seq items.toList.reverse.toArray) := by
    show items.toList.reverse.toArray.size ≤ sizeLine
    rw [List.size_toArray, List.length_reverse, Array.length_toList]
    exact hsz
  have hTs : s.TypeIs (.ref sl) "slice" := by
    obtain ⟨os, hos, hcs, -⟩ := id hs
    exact ⟨os, hos, hcs⟩
  unfold getItem
  try with_reducible refine wpAny_holding ?_
  first | refine wpAny_bind (wpAny_pure ?_) | skip
  refine wpAny_bind (wpAny_sequenceKey ht.typeIs (by decide) (wpAny_bind (wpAny_callSpecial?_slot (name := Str.ofString "__getitem__") ht.typeIs PyProof.Rows.slot_tuple_getitem
    (wpAny_call_entry PyProof.Rows.slot_tuple_getitem ht.typeIs entry_tuple_getitem ?_ (args_tuple_getitem _ _)))))
  show wpAny _ _ (Builtin.Tuple.tupleItemsOf (.ref t) >>= _) _ _ s
  refine wpAny_bind (tupleItemsOf_ ht (wpAny_bind (wpAny_typeOf hTs ?_)))
  rw [if_pos (by decide)]
  refine wpAny_bind (rev_applied hs ?_)
  have hno : ¬ ((((items.size : Int) - 1) == 0 && (-1 : Int) == 1 && items.size == items.size) = true) := by simp
  show wpAny _ _ (if ((((items.size : Int) - 1) == 0 && (-1 : Int) == 1 && items.size == items.size) = true) then _ else _) _ _ s
  rw [if_neg hno, rev_pick]
  first
    | exact wpAny_bind (m := Builtin.Tuple.tupleExact _) (wpAny_newObj_type (wpAny_pure ⟨_, rfl, wpAny_pure h⟩) hfit)
    | exact wpAny_bind (wpAny_bind (m := Builtin.Tuple.tupleExact _) (wpAny_newObj_type (wpAny_pure (wpAny_pure ⟨_, rfl, wpAny_pure h⟩)) hfit))
    | exact wpAny_bind (wpAny_bind (m := Builtin.Tuple.tupleExact _) (wpAny_newObj_type (wpAny_pure ⟨_, rfl, wpAny_pure h⟩) hfit))
end
section
variable {X : Cx}
def tRevT (K : PySem.W.Frag) (te : TE) : TE := fun σ H Q => te σ H fun x H1 => ∃ a xs, x = .ref a ∧ SqT K H1 a xs ∧ ∀ p, H1 p = none → Q (.ref p) (upd H1 p (.tup xs.reverse))
theorem pe_revT {e : Expr} {te : TE} {k : Nat} {p1 p2 p3 pos : Pos} (he : PE X e te) : PE X (.Subscript e (.Slice none none (some (.UnaryOp .USub (.Constant (.int 1) k p1) p2)) p3) pos) (tRevT X.K te) := by
  refine ⟨fun pins s σ H Q I h => Subscript_ (thn (he.run pins s σ H _ I h) fun v s1 ⟨x, H1, I1, r1, q1⟩ => ?_)⟩
  obtain ⟨a, xs, rfl, hx, q⟩ := q1
  cases r1
  have hst : PO X (some (.UnaryOp .USub (.Constant (.int 1) k p1) p2)) (tPart (tUn (rU fun i => .int (-i)) (tC (.int 1)))) := po_some (pe_un un_neg pe_int)
  refine wpAny_Slice (thn (po_none.run pins s1 σ H1 (fun o H2 => o = none ∧ H2 = H1) I1 ⟨rfl, rfl⟩) fun vl s2 ⟨l, H2, I2, pl, el, e2⟩ => ?_)
  subst el e2
  refine thn (po_none.run pins s2 σ H2 (fun o H3 => o = none ∧ H3 = H2) I2 ⟨rfl, rfl⟩) fun vu s3 ⟨u, H3, I3, pu, eu, e3⟩ => ?_
  subst eu e3
  refine thn (hst.run pins s3 σ H3 (fun o H4 => o = some (-1) ∧ H4 = H3) I3 ⟨1, rfl, -1, rfl, rfl, rfl⟩) fun vs s4 ⟨o, H4, I4, ps, eo, e4⟩ => ?_
  subst eo e4
  cases pl
  cases pu
  cases ps with
  | int _ tk =>
    have I5 : Inv X pins σ H4 { s4 with heap := s4.heap.push { cls := .type "slice", data := .fields #[.none, .none, .int (-1) tk] } } := I4.kept (t' := s4.toks) fun b ob q => Heap.get?_push_of_some _ q
    obtain ⟨its, r, ht, hz⟩ := I5.tuple hx
    have hlen := r.length
    show wpAny (model X.prog X.w) X.A (subscriptTail e (.Slice none none (some (.UnaryOp .USub (.Constant (.int 1) k p1) p2)) p3) (.ref a) (.ref s4.heap.objs.size)) (EP X pins σ Q) X.xe { s4 with heap := s4.heap.push { cls := .type "slice", data := .fields #[.none, .none, .int (-1) tk] } }
    refine tail_any (ops := [.ref a, .ref s4.heap.objs.size]) ht.typeIs (PyProof.Rows.slot_tuple_getitem.lookup) ?_ (by with_unfolding_all rfl)
    refine getItem_rev ht (Heap.IsSliceOf.new _ .none .none (.int (-1) tk)) ⟨.ref _, _, I5.laid (t' := s4.toks) (o := .tup xs.reverse) (fun b ob q => Heap.get?_push_of_some _ q) (Nat.le_refl _) ?_, rfl, q _ (I5.hok.fresh (Nat.le_refl _))⟩ (by rw [List.size_toArray]; omega)
    exact ⟨by rw [List.length_reverse]; exact hz, _, r.reverse, ⟨_, Heap.get?_push_size _ rfl, rfl, 0, rfl⟩⟩
end
end OgR
namespace OgR
open PySem PySem.Spec PyProof.Rows L2
section
variable {P : Program} {w : World} {K : PySem.W.Frag} {mg : Str → Option Value} {base : Heap}
/-- the promise of a def for callers of whom no repr is under way -/
def FnG (P : Program) (w : World) (K : PySem.W.Frag) (mg : Str → Option Value) (base : Heap) (k : Nat) (f : Addr) (fd : FuncData) (ps : List Str) (sp : Sp) : Prop :=
  (∀ vs H Q E, sp vs H Q E → vs.length = ps.length) ∧
  ∀ (A : Around) (outer : List Env) (s : Shared) (H : Hp) (args : Args) (us : List Value) (vs : List V) (Q : VK) (E : XK), A.guards = some [] → Room k A → Env0 P w K mg base A outer s H → BindsTo s fd args (ps.zip us) → Vals vs us →
    sp vs H Q E → codeAny (model P w) A (.call (.ref f) args) (CR CX0 outer P w H s Q E) s
theorem fnG_of {x qual : Str} {st : Stmt} {f : Addr} {fd : FuncData} {N ps : List Str} {k : Nat} {sp : Sp} (F : Fun K x qual st f fd) (S : FnScope N ps (defScope st)) (hl : ∀ vs H Q E, sp vs H Q E → vs.length = ps.length)
    (body : ∀ (cdv : Value) (A : Around) (outer : List Env) (s : Shared) (H : Hp) (vs : List V) (Q : VK) (E : XK), A.guards = some [] → Room k (A.deeper (envOfC qual (defScope st) s.heap.objs.size f cdv)) → sp vs H Q E →
      ∃ t, PSs (cxOf CX0 P w K mg base N qual (defScope st) f cdv A outer s H E).nox (defBody st) t ∧ t { nx := fun _ H' => Q .non H', rt := Q } (start N vs) H) : FnG P w K mg base (k + 1) f fd ps sp := by
  obtain ⟨oc, od, kV, doc, pm, an, cdv, ct, osl, rfl, lk, hcd⟩ := F.ex
  refine ⟨hl, fun A outer s H args us vs Q E hG hr e0 hb r hsp => ?_⟩
  have here : ∀ b o, base.get? b = some o → s.heap.get? b = some o := fun b o e => (e0.bs b o e).1
  have KX : K.In s.heap := e0.mod.kin.keeps here
  refine codeAny_call_function hr.depth (KX _ _ lk) rfl S.co S.gen rfl (PySem.W.codeRec_of KX hcd) (hb _ _ _ _ (wpAny_newFunctionEnv_cells S.kind ?_ fun env he s1 y => ?_))
  · rintro ⟨n, v⟩ hy
    exact (S.par n (List.of_mem_zip hy).1).imp id fun q => ⟨q, PySem.W.cellsFrom_some _ _ _ (.inl q)⟩
  · subst he
    obtain ⟨t, ht, hq⟩ := body cdv A outer s H vs Q E hG (hr.deeper _) hsp
    have I := inv_start (CX := CX0) (E := E) S hr.hd e0 (hl _ _ _ _ hsp) r y
    refine ⟨(e0.mod.nolimit.keeps here).keeps y.toInCall.keep, codeAny_func (wpAny_mono (ht.nox.run [] s1 (start N vs) H _ I hq) ?_ fun e s' hs => hs)⟩
    rintro (_ | _ | _ | u) s' hs
    all_goals first
      | (obtain ⟨v, σ', H', J, rv, q⟩ := hs; exact ⟨v, H', J.os, J.bare, J.base, J.hok, rv, q⟩)
      | (obtain ⟨σ', H', J, q⟩ := hs; exact ⟨V.non, H', J.os, J.bare, J.base, J.hok, rfl, q⟩)
      | (obtain ⟨_, _, _, q⟩ := hs; exact q.elim)
end
section
variable {X : Cx} {k : Nat} {f : Addr} {fd : FuncData} {ps : List Str} {sp : Sp} {E : XK} {x : Str} {p pos : Pos} {e : Expr} {es : List Expr} {t : TA}
theorem pe_callG (F : FnG X.prog X.w X.K X.mg X.base k f fd ps sp) (hG : X.A.guards = some []) (hr : Room k X.A) (hg : Gl X x) (hm : X.mg x = some (.ref f)) (hk : PySem.W.keepIn X.K (.ref f) = true) (hb : Binds X.K fd ps [])
    (ha : PA X (e :: es) t) (hdb : (x == ("__debug__" : Str)) = false := by decide) (he : starEach (e :: es) X.env = (false, eval e X.env) :: starEach es X.env := by rfl) (hpl : (backTo pos (starEach es X.env)).any (·.1) = false := by rfl) :
    PE X (.Call (.Name x p) (e :: es) [] pos) (tCall sp [] E t) := by
  refine ⟨fun pins s σ H Q I h => wpAny_Call_Name_kw (ld_glob I hg hm ?_ hdb)⟩
  refine PySem.W.callWith_K (h₀ := X.base) I.ok.mod.kin hk (thn (ha.run pos pins s σ H _ I h) fun us s1 ⟨vs, H1, I1, r, q⟩ => ⟨I1.kIn, ?_⟩) he hpl
  have q' : sp (vs ++ []) H1 Q E := q
  rw [List.append_nil] at q'
  have hl : us.length = ps.length := by rw [← r.length]; exact F.1 _ _ _ _ q'
  have hb' := hb s1 us I1.kIn (by rw [List.append_nil]; exact hl)
  rw [List.append_nil] at hb'
  refine wpAny_call (codeAny_mono (F.2 X.A X.stack s1 H1 ⟨us, []⟩ us vs Q E hG hr I1.env0 hb' r q') ?_)
  rintro (e | _ | _ | _ | u) s' hq
  all_goals first
    | exact I1.after hq
    | exact False.elim hq
end
end OgR
namespace OgR
open PySem PySem.Spec PyProof.Rows L2
def scriptH (K : PySem.W.Frag) (a : Addr) (ob : Obj) (ns : List Int) : Hp := fun b => if b = a ∧ K.lookup a = none then some (.frz ob (.lst (ns.map V.int))) else none
theorem scriptH_some {K : PySem.W.Frag} {a b : Addr} {ob : Obj} {ns : List Int} {u : HO} (h : scriptH K a ob ns b = some u) : b = a ∧ K.lookup a = none ∧ u = .frz ob (.lst (ns.map V.int)) := by
  unfold scriptH at h
  split at h
  · rename_i c
    exact ⟨c.1, c.2, (Option.some.inj h).symm⟩
  · cases h
theorem law_runG {P : Program} {w : World} {K : PySem.W.Frag} {mg mb : Str → Option Value} {k : Nat} {fa a : Addr} {fd : FuncData} {x : Str} {sp : Sp} {s : Shared} {vs : List Value} {ns : List Int}
    (KX : K.In s.heap) (gl : s.heap.Ns mainGlobals mg) (bl : s.heap.Ns builtinsNs mb) (blt : ∀ x : Str, x ≠ "__name__" → mb x = bootBuiltins x) (lim : s.heap.NoLimit) (gn : s.gens = #[])
    (ha : s.heap.get? a = some { cls := .type "list", data := .seq vs.toArray }) (hi : IntsAre vs ns) (hl : ns.length ≤ sizeLine) (hr : Room k callerA)
    (F : ∀ base : Heap, K.In base → base.Ns mainGlobals mg → FnG P w K mg base k fa fd [x] sp) (bind : ∀ (s : Shared) (u : Value), BindsTo s fd ⟨[u], []⟩ [(x, u)])
    (hsp : ∀ H : Hp, SqL K H a (ns.map V.int) → sp [.ref a] H (fun v _ => v = .bl true) fun _ _ _ => False) :
    codeAny (model P w) callerA (.call (.ref fa) ⟨[.ref a], []⟩) (fun r s' => r = .ok (.ret (.bool true)) ∧ OldK s.heap s'.heap ∧ s'.os = s.os ∧ AllBare s'.gens) s := by
  have rv := vals_ints hi
  have hz : (ns.map V.int).length ≤ sizeLine := by rw [List.length_map]; exact hl
  generalize hH : scriptH K a { cls := .type "list", data := .seq vs.toArray } ns = H
  have tr : ∀ {b : Addr} {u : HO}, H b = some u → b = a ∧ K.lookup a = none ∧ u = .frz { cls := .type "list", data := .seq vs.toArray } (.lst (ns.map V.int)) := fun {b u} e => by
    rw [← hH] at e
    exact scriptH_some e
  have seq : SqL K H a (ns.map V.int) := by
    cases hk : K.lookup a with
    | none => exact .inl (.inr ⟨_, by rw [← hH]; exact if_pos ⟨rfl, hk⟩⟩)
    | some o =>
      have e := KX a o hk
      rw [ha] at e
      cases e
      exact .inr ⟨_, vs.toArray, _, hk, rfl, rfl, rfl, by rw [List.size_toArray, hi.length]; exact hl, by simpa using rv⟩
  have hok : HOk P w H s.heap := fun b u e => by
    obtain ⟨rfl, -, rfl⟩ := tr e
    exact ⟨ha, hz, vs, _, rv, ha⟩
  have kept : ∀ {b : Addr} {m : Str → Option Value}, s.heap.Ns b m → (hidT s.heap H).Ns b m := fun {b m} ⟨o, es, ep, e, d, r⟩ => ⟨o, es, ep, hidT_get e (by
    cases q : H b with
    | none => rfl
    | some u =>
      obtain ⟨rfl, -, -⟩ := tr q
      rw [ha] at e
      cases e
      cases d), d, r⟩
  have KB : K.In (hidT s.heap H) := fun b o e => hidT_get (KX b o e) (by
    cases q : H b with
    | none => rfl
    | some u =>
      obtain ⟨rfl, n, -⟩ := tr q
      rw [n] at e
      cases e)
  have M : Mod K mg (hidT s.heap H) := ⟨KB, kept gl, ⟨mb, kept bl, blt⟩, let ⟨mc, h1, h2⟩ := lim; ⟨mc, kept h1, h2⟩⟩
  have nofr : ∀ b : Addr, b ∉ frs [] := fun b hb => absurd (show b ∈ ([] : List Addr) from hb) (by simp)
  have e0 : Env0 P w K mg (hidT s.heap H) callerA [] s H := ⟨rfl, M, fun b o e => of_hidT e, Nat.le_of_eq (hidT_size _ _), trivial, fun b hb => absurd hb (nofr b), hok, .of_eq gn⟩
  refine codeAny_mono ((F _ KB (kept gl)).2 callerA [] s H ⟨[.ref a], []⟩ [.ref a] [.ref a] _ _ rfl hr e0 (bind s (.ref a)) (.cons rfl .nil) (hsp H seq)) ?_
  rintro (e | _ | _ | _ | u) s' h
  all_goals first
    | exact False.elim h
    | skip
  obtain ⟨v, H', os, bare, un, hok', r', q⟩ := h
  have q' : v = .bl true := q
  subst q'
  obtain rfl : u = Value.bool true := r'
  refine ⟨rfl, OldK.of_keep fun b o e => ?_, os, bare⟩
  cases q2 : H b with
  | none => exact un.keep b o e q2 (nofr b) (by simp)
  | some u =>
    obtain ⟨rfl, -, rfl⟩ := tr q2
    rw [ha] at e
    cases e
    exact (hok' _ _ (un.frzs _ _ _ q2)).1
theorem walk_G {l : PySem.W.OpenLaw} {n k : Nat} {q : Program} {loose : List Str} {XP : (Str → Option Value) → Heap → Prop} {YP : World → Heap → Prop} {d : DefRec} {K : Params → PySem.W.Frag} {sp : World → Sp} {x : Str}
    (hn : l.most = some n) (hn2 : n ≤ sizeLine) (hdf : d.params.defaults = []) (hr : Room k callerA) (hY : ∀ (w : World) (h : Heap), YP w h → (K w.params).In h)
    (F : ∀ (w : World) (mg : Str → Option Value) (fa : Addr) (h : Heap), (K w.params).In h → h.Ns mainGlobals mg → mg d.name = some (.ref fa) →
      ∃ fd : FuncData, (∀ (s : Shared) (u : Value), BindsTo s fd ⟨[u], []⟩ [(x, u)]) ∧ ∀ base : Heap, (K w.params).In base → base.Ns mainGlobals mg → FnG l.prog w (K w.params) mg base k fa fd [x] (sp w))
    (hsp : ∀ (w : World) (H : Hp) (a : Addr) (ns : List Int), ns.length ≤ n → SqL (K w.params) H a (ns.map V.int) → sp w [.ref a] H (fun v _ => v = .bl true) fun _ _ _ => False) :
    PySem.W.WalkO q loose XP YP l.row.toRowW d [] (fun f vs => PySem.call f vs) := by
  refine Att.attach_call hn hdf fun w s₀ s₁ mg mb fa o pm cd doc a vs ns G Y ho hd hcd hmg hobj hints hlen hg => ?_
  obtain ⟨fd, hb, hF⟩ := F w mg fa _ (hY w _ Y) G.T.g hmg
  exact law_runG (hY w _ Y) G.T.g G.T.b G.T.builtins G.T.nolimit hg hobj hints (Nat.le_trans hlen hn2) hr hF hb fun H hS => hsp w H a ns hlen hS
end OgR
namespace Dw
open PySem PySem.Spec PyProof.Rows L2 OgR Evl
mutual
inductive Dp (K : PySem.W.Frag) (G : Hp) : V → PyData → Prop
  | non : Dp K G .non .none
  | bl (b : Bool) : Dp K G (.bl b) (.bool b)
  | int (i : Int) : Dp K G (.int i) (.int i)
  | str (x : Str) : Dp K G (.str x) (.str x)
  | lst {a : Addr} {xs : List V} {ds : List PyData} (h : G a = some (.lst xs)) (t : DpAll K G xs ds) : Dp K G (.ref a) (.list ds)
  | tup {a : Addr} {xs : List V} {ds : List PyData} (h : SqT K G a xs) (t : DpAll K G xs ds) : Dp K G (.ref a) (.tuple ds)
inductive DpAll (K : PySem.W.Frag) (G : Hp) : List V → List PyData → Prop
  | nil : DpAll K G [] []
  | cons {v : V} {vs : List V} {d : PyData} {ds : List PyData} (h : Dp K G v d) (t : DpAll K G vs ds) : DpAll K G (v :: vs) (d :: ds)
end
mutual
theorem Dp.up {K : PySem.W.Frag} {G : Hp} : ∀ {d : PyData} {v : V}, Dp K G v d → L2.Dp K G v d
  | _, _, .non => .non
  | _, _, .bl b => .bl b
  | _, _, .int i => .int i
  | _, _, .str x => .str x
  | _, _, .lst h t => .lst (.inl (.inl h)) t.up
  | _, _, .tup h t => .tup h t.up
theorem DpAll.up {K : PySem.W.Frag} {G : Hp} : ∀ {ds : List PyData} {vs : List V}, DpAll K G vs ds → L2.DpAll K G vs ds
  | _, _, .nil => .nil
  | _, _, .cons h t => .cons h.up t.up
end
instance {K : PySem.W.Frag} {G : Hp} {v : V} {d : PyData} : Coe (Dp K G v d) (L2.Dp K G v d) := ⟨Dp.up⟩
instance {K : PySem.W.Frag} {G : Hp} {vs : List V} {ds : List PyData} : Coe (DpAll K G vs ds) (L2.DpAll K G vs ds) := ⟨DpAll.up⟩
theorem Dp.reads {X : Cx} {pins : List (Addr × Obj)} {σ : L2.St} {H : Hp} {s : Shared} (I : Inv X pins σ H s) (d : PyData) (v : V) (u : Value) (h : Dp X.K H v d) (r : RelV v u) : ∃ as, Reads s.heap u d as := L2.Dp.reads I d v u h.up r
mutual
theorem dp_ex {K : PySem.W.Frag} {H H' : Hp} (e : Ex H H') : ∀ {d : PyData} {v : V}, Dp K H v d → Dp K H' v d
  | _, _, .non => .non
  | _, _, .bl b => .bl b
  | _, _, .int i => .int i
  | _, _, .str x => .str x
  | _, _, .lst h t => .lst (e _ _ h) (dpa_ex e t)
  | _, _, .tup h t => .tup (ex_t e h) (dpa_ex e t)
theorem dpa_ex {K : PySem.W.Frag} {H H' : Hp} (e : Ex H H') : ∀ {ds : List PyData} {vs : List V}, DpAll K H vs ds → DpAll K H' vs ds
  | _, _, .nil => .nil
  | _, _, .cons h t => .cons (dp_ex e h) (dpa_ex e t)
end
theorem dpa_get {K : PySem.W.Frag} {H : Hp} : ∀ {ds : List PyData} {vs : List V} {i : Nat} {v : V}, DpAll K H vs ds → vs[i]? = some v → ∃ d, ds[i]? = some d ∧ Dp K H v d
  | _, _, _, _, .nil, e => by simp at e
  | _, _, 0, _, .cons h _, e => by
    simp at e
    subst e
    exact ⟨_, rfl, h⟩
  | _, _, i + 1, _, .cons _ t, e => dpa_get (i := i) t (by simpa using e)
theorem dpa_back {K : PySem.W.Frag} {H : Hp} : ∀ {ds : List PyData} {vs : List V} {i : Nat} {d : PyData}, DpAll K H vs ds → ds[i]? = some d → ∃ v, vs[i]? = some v ∧ Dp K H v d
  | _, _, _, _, .nil, e => by simp at e
  | _, _, 0, _, .cons h _, e => by
    simp at e
    subst e
    exact ⟨_, rfl, h⟩
  | _, _, i + 1, _, .cons _ t, e => dpa_back (i := i) t (by simpa using e)
theorem dpa_len {K : PySem.W.Frag} {H : Hp} : ∀ {ds : List PyData} {vs : List V}, DpAll K H vs ds → vs.length = ds.length
  | _, _, .nil => rfl
  | _, _, .cons _ t => by rw [List.length_cons, List.length_cons, dpa_len t]
theorem dpa_app {K : PySem.W.Frag} {H : Hp} : ∀ {xs ys : List V} {ds es : List PyData}, DpAll K H xs ds → DpAll K H ys es → DpAll K H (xs ++ ys) (ds ++ es)
  | _, _, _, _, .nil, h => h
  | _, _, _, _, .cons a b, h => .cons a (dpa_app b h)
theorem dpa_set {K : PySem.W.Frag} {H : Hp} {x : V} {d : PyData} (hx : Dp K H x d) : ∀ {xs : List V} {ds : List PyData} (j : Nat), DpAll K H xs ds → DpAll K H (xs.set j x) (ds.set j d)
  | _, _, _, .nil => .nil
  | _, _, 0, .cons _ t => .cons hx t
  | _, _, j + 1, .cons h t => .cons h (dpa_set hx j t)
theorem dpa_take {K : PySem.W.Frag} {H : Hp} : ∀ {xs : List V} {ds : List PyData} (j : Nat), DpAll K H xs ds → DpAll K H (xs.take j) (ds.take j)
  | _, _, 0, _ => by simp only [List.take_zero]; exact .nil
  | _, _, _ + 1, .nil => by simp only [List.take_nil]; exact .nil
  | _, _, j + 1, .cons h t => .cons h (dpa_take j t)
theorem dpa_drop {K : PySem.W.Frag} {H : Hp} : ∀ {xs : List V} {ds : List PyData} (j : Nat), DpAll K H xs ds → DpAll K H (xs.drop j) (ds.drop j)
  | _, _, 0, h => h
  | _, _, _ + 1, .nil => by simp only [List.drop_nil]; exact .nil
  | _, _, j + 1, .cons h t => dpa_drop j t
theorem dpa_rev {K : PySem.W.Frag} {H : Hp} : ∀ {xs : List V} {ds : List PyData}, DpAll K H xs ds → DpAll K H xs.reverse ds.reverse
  | _, _, .nil => .nil
  | _, _, .cons h t => by
    rw [List.reverse_cons, List.reverse_cons]
    exact dpa_app (dpa_rev t) (.cons h .nil)
theorem dpa_ints {K : PySem.W.Frag} {H : Hp} : ∀ ns : List Int, DpAll K H (ns.map V.int) (ns.map PyData.int)
  | [] => .nil
  | n :: r => .cons (.int n) (dpa_ints r)
theorem ints_dpa {K : PySem.W.Frag} {H : Hp} : ∀ {ns : List Int} {xs : List V}, DpAll K H xs (ns.map PyData.int) → xs = ns.map V.int
  | [], _, .nil => rfl
  | _ :: _, _, .cons h t => by
    cases h
    rw [ints_dpa t]
    rfl
theorem atI_dpa {K : PySem.W.Frag} {H : Hp} {xs : List V} {ds : List PyData} {i : Int} {d : PyData} (h : DpAll K H xs ds) (e : atI ds i = some d) : ∃ v, atI xs i = some v ∧ Dp K H v d := by
  unfold atI at e ⊢
  rw [dpa_len h]
  cases q : ixN ds.length i with
  | none => rw [q] at e; cases e
  | some j =>
    rw [q] at e
    exact dpa_back h e
mutual
def NoL : PyData → Bool
  | .list _ => false
  | .tuple ds => NoLA ds
  | .dict _ => false
  | _ => true
def NoLA : List PyData → Bool
  | [] => true
  | d :: ds => NoL d && NoLA ds
end
theorem NoLA.mem : ∀ {xs : List PyData}, NoLA xs = true → ∀ x ∈ xs, NoL x = true
  | _ :: _, h, _, .head _ => by
    unfold NoLA at h
    rw [Bool.and_eq_true] at h
    exact h.1
  | _ :: xs, h, x, .tail _ m => by
    unfold NoLA at h
    rw [Bool.and_eq_true] at h
    exact NoLA.mem h.2 x m
theorem NoLA.of : ∀ {xs : List PyData}, (∀ x ∈ xs, NoL x = true) → NoLA xs = true
  | [], _ => rfl
  | x :: xs, h => by
    show (NoL x && NoLA xs) = true
    rw [h x List.mem_cons_self, NoLA.of fun y hy => h y (List.mem_cons_of_mem _ hy)]
    rfl
def notTup : HO → Bool
  | .tup _ => false
  | .frz _ (.tup _) => false
  | _ => true
def BoxAt (H : Hp) (l : Addr) (c : Int) : Prop := ∃ a b : Int, H l = some (.lst [.int a, .int b, .int c]) ∧ 0 ≤ a ∧ 0 ≤ b ∧ b < 2 ^ 62 ∧ 0 ≤ c ∧ c ≤ 1000000
theorem BoxAt.keep {H H' : Hp} {l : Addr} {c : Int} (h : BoxAt H l c) (e : ∀ o, H l = some o → H' l = some o) : BoxAt H' l c := by
  obtain ⟨a, b, h1, h2⟩ := h
  exact ⟨a, b, e _ h1, h2⟩
theorem BoxAt.ne {H : Hp} {l : Addr} {c : Int} (h : BoxAt H l c) : H l ≠ none := by
  obtain ⟨a, b, h1, _⟩ := h
  rw [h1]
  exact Option.some_ne_none _
/-- an object that a def may change: a street (its class, itself, its own dict, its list of states, its list of lines), a list -/
inductive Ob where
  | st (cl a dx ps pt : Addr)
  | ls (p : Addr)
def Ob.adr : Ob → Addr
  | .st _ a _ _ _ => a
  | .ls p => p
inductive Ob.has : Ob → Addr → Prop
  | sa {cl a dx ps pt : Addr} : Ob.has (.st cl a dx ps pt) a
  | sd {cl a dx ps pt : Addr} : Ob.has (.st cl a dx ps pt) dx
  | ss {cl a dx ps pt : Addr} : Ob.has (.st cl a dx ps pt) ps
  | sl {cl a dx ps pt : Addr} : Ob.has (.st cl a dx ps pt) pt
  | l {p : Addr} : Ob.has (.ls p) p
structure Bx where
  box : Option Addr
  tab : Option Addr
  obs : List Ob
abbrev b0 : Bx := ⟨none, none, []⟩
abbrev bB (l : Addr) : Bx := ⟨some l, none, []⟩
inductive Bx.has : Bx → Addr → Prop
  | box {l : Addr} {t : Option Addr} {os : List Ob} : Bx.has ⟨some l, t, os⟩ l
  | tab {b : Option Addr} {P : Addr} {os : List Ob} : Bx.has ⟨b, some P, os⟩ P
  | ob1 {b t : Option Addr} {o : Ob} {os : List Ob} {l : Addr} (h : o.has l) : Bx.has ⟨b, t, o :: os⟩ l
  | ob2 {b t : Option Addr} {o : Ob} {os : List Ob} {l : Addr} (h : Bx.has ⟨none, none, os⟩ l) : Bx.has ⟨b, t, o :: os⟩ l
theorem Bx.has.obs {l : Addr} : ∀ {os : List Ob}, Bx.has ⟨none, none, os⟩ l → ∃ o ∈ os, o.has l
  | _, .ob1 h => ⟨_, List.mem_cons_self, h⟩
  | _, .ob2 h => let ⟨o, a, b⟩ := Bx.has.obs h; ⟨o, List.mem_cons_of_mem _ a, b⟩
theorem Bx.has.obs2 {l : Addr} {o : Ob} (h : o.has l) : ∀ {os : List Ob} {b t : Option Addr}, o ∈ os → Bx.has ⟨b, t, os⟩ l
  | _, _, _, .head _ => .ob1 h
  | _, _, _, .tail _ m => .ob2 (Bx.has.obs2 h m)
theorem Bx.has.of {x : Bx} {l : Addr} (h : x.has l) : x.box = some l ∨ x.tab = some l ∨ ∃ o ∈ x.obs, o.has l := by
  cases h with
  | box => exact .inl rfl
  | tab => exact .inr (.inl rfl)
  | ob1 h => exact .inr (.inr ⟨_, List.mem_cons_self, h⟩)
  | ob2 h =>
    obtain ⟨o, a, b⟩ := Bx.has.obs h
    exact .inr (.inr ⟨o, List.mem_cons_of_mem _ a, b⟩)
theorem Bx.has.ofb {x : Bx} {l : Addr} (h : x.box = some l) : x.has l := by
  obtain ⟨a, b, os⟩ := x
  cases (show a = some l from h)
  exact .box
theorem Bx.has.ofo {x : Bx} {l : Addr} {o : Ob} (h : o ∈ x.obs) (h2 : o.has l) : x.has l := Bx.has.obs2 h2 h
/-- they do not meet -/
structure Bx.ok (x : Bx) : Prop where
  nb : ∀ l, x.box = some l ∨ x.tab = some l → ∀ o ∈ x.obs, ¬ o.has l
  nd : x.obs.Pairwise fun o o' => ∀ b, o.has b → ¬ o'.has b
theorem Bx.ok0 {b t : Option Addr} : Bx.ok ⟨b, t, []⟩ := ⟨fun _ _ o h => absurd h List.not_mem_nil, .nil⟩
/-- what a street knows: its plots, its states, its lines -/
structure Sd where
  plots : Int
  states : List PyData
  told : List PyData
inductive Ov where
  | st (S : Sd)
  | ls (ds : List PyData)
/-- how many draws there were; what the objects hold -/
structure Cs where
  n : Int
  o : List Ov
inductive ObAt (K : PySem.W.Frag) (G H : Hp) : Ob → Ov → Prop
  | st {cl a dx ps pt : Addr} {S : Sd} {xs ys : List V} (ha : H a = some (.ins cl dx [("plots", .int S.plots), ("states", .ref ps), ("told", .ref pt)])) (hd : H dx = some (.own a)) (hs : H ps = some (.lst xs)) (ht : H pt = some (.lst ys)) (ne : ps ≠ pt)
      (ds : DpAll K G xs S.states) (dt : DpAll K G ys S.told) (ls : NoLA S.states = true) (lt : NoLA S.told = true) : ObAt K G H (.st cl a dx ps pt) (.st S)
  | ls {p : Addr} {ds : List PyData} {xs : List V} (hp : H p = some (.lst xs)) (hd : DpAll K G xs ds) (lf : NoLA ds = true) : ObAt K G H (.ls p) (.ls ds)
theorem ObAt.keep {K : PySem.W.Frag} {G H G' H' : Hp} {o : Ob} {x : Ov} (h : ObAt K G H o x) (eg : Ex G G') (e : ∀ b w, o.has b → H b = some w → H' b = some w) : ObAt K G' H' o x := by
  cases h with
  | st ha hd hs ht ne ds dt ls lt => exact .st (e _ _ .sa ha) (e _ _ .sd hd) (e _ _ .ss hs) (e _ _ .sl ht) ne (dpa_ex eg ds) (dpa_ex eg dt) ls lt
  | ls hp hd lf => exact .ls (e _ _ .l hp) (dpa_ex eg hd) lf
theorem ObAt.cell {K : PySem.W.Frag} {G H : Hp} {o : Ob} {x : Ov} (h : ObAt K G H o x) {b : Addr} (hb : o.has b) : ∃ w, H b = some w ∧ notTup w = true := by
  cases h with
  | st ha hd hs ht ne ds dt ls lt => cases hb <;> exact ⟨_, by assumption, rfl⟩
  | ls hp hd lf => cases hb; exact ⟨_, hp, rfl⟩
def ObsAt (K : PySem.W.Frag) (os : List Ob) (G H : Hp) (xs : List Ov) : Prop := Paired (ObAt K G H) os xs
theorem ObsAt.keep {K : PySem.W.Frag} {G H G' H' : Hp} (eg : Ex G G') : ∀ {os : List Ob} {xs : List Ov}, ObsAt K os G H xs → (∀ o ∈ os, ∀ b w, o.has b → H b = some w → H' b = some w) → ObsAt K os G' H' xs
  | _, _, .nil, _ => .nil
  | _, _, .cons h t, e => .cons (h.keep eg (e _ List.mem_cons_self)) (ObsAt.keep eg t fun o ho => e o (List.mem_cons_of_mem _ ho))
/-- the name of the one lambda that the program makes -/
def lamQ : Str := "apart_orders" ++ ".<locals>." ++ "<lambda>"
abbrev TabL (H : Hp) (P : Addr) : Prop := LamX.TabS H P lamQ
theorem TabL.ne {H : Hp} {P : Addr} (h : TabL H P) : ∃ ps, H P = some (.tbl ps) := by
  obtain ⟨ps, h1, _⟩ := h
  exact ⟨ps, h1⟩
def isExt : HO → Bool
  | .ext _ => true
  | _ => false
/-- what lies at an address of these -/
structure Bxs (x : Bx) (H : Hp) (l : Addr) (c : Cs) : Prop where
  box : x.box = some l → BoxAt H l c.n
  tab : x.tab = some l → TabL H l
  ne : H l ≠ none
  nt' : ∀ o, H l = some o → notTup o = true
theorem Bxs.keep {x : Bx} {H H' : Hp} {l : Addr} {c : Cs} (h : Bxs x H l c) (e : ∀ b o, (b = l ∨ isExt o = true) → H b = some o → H' b = some o) : Bxs x H' l c := by
  refine ⟨fun z => (h.box z).keep fun o => e l o (.inl rfl), fun z => ?_, ?_, fun o2 z => ?_⟩
  · obtain ⟨ps, h1, h2, h3⟩ := h.tab z
    refine ⟨ps, e l _ (.inl rfl) h1, h2, fun pos cv hc => ?_⟩
    obtain ⟨c, e1, e2⟩ := h3 pos cv hc
    exact ⟨c, e1, e c _ (.inr rfl) e2⟩
  · cases q : H l with
    | none => exact absurd q h.ne
    | some o => rw [e l o (.inl rfl) q]; exact Option.some_ne_none _
  · cases q : H l with
    | none => exact absurd q h.ne
    | some o =>
      rw [e l o (.inl rfl) q] at z
      exact h.nt' o2 (q.trans z)
theorem Bxs.ex {x : Bx} {H H' : Hp} {l : Addr} {c : Cs} (h : Bxs x H l c) (e : Ex H H') : Bxs x H' l c := h.keep fun b o _ => e b o
theorem Bxs.nt {x : Bx} {H : Hp} {l : Addr} {c : Cs} (_ : x.has l) (h : Bxs x H l c) : ∃ o, H l = some o ∧ notTup o = true := by
  cases q : H l with
  | none => exact absurd q h.ne
  | some o => exact ⟨o, rfl, h.nt' o q⟩
theorem Bxs.ofBox {x : Bx} {H : Hp} {l : Addr} {c : Cs} (hb : BoxAt H l c.n) (ht : x.tab ≠ some l) : Bxs x H l c := ⟨fun _ => hb, fun z => absurd z ht, hb.ne, fun o z => by
  obtain ⟨a, b, h1, _⟩ := hb
  rw [h1] at z
  cases z
  rfl⟩
inductive DV where
  | d (x : PyData)
  | own (ds : List PyData)
  | dic (kvs : List (Key × PyData))
  | dit (kvs : List (List Key × PyData))
  | dd (kvs : List (List Key × PyData))
  | oth (φ : Hp → Hp → V → Prop)
  | box
  | ob (k : Nat)
  | obl (ks : List Nat)
def DV.mut : DV → Bool
  | .own _ => true
  | .dic _ => true
  | .dit _ => true
  | _ => false
structure Dt where
  env : List (Option DV)
  c : Cs
structure Ct where
  K : PySem.W.Frag
  bx : Bx
  H0 : Hp
  G0 : Hp
/-- all but the box as it was -/
def Gr (C : Ct) (H H' : Hp) : Prop := ∀ b o, ¬ C.bx.has b → H b = some o → H' b = some o
theorem Gr.refl (C : Ct) (H : Hp) : Gr C H H := fun _ _ _ h => h
theorem Gr.trans {C : Ct} {H H1 H2 : Hp} (a : Gr C H H1) (b : Gr C H1 H2) : Gr C H H2 := fun x o n h => b x o n (a x o n h)
theorem Gr.of {C : Ct} {H H' : Hp} (e : Ex H H') : Gr C H H' := fun b o _ h => e b o h
/-- what is in G' is in G or new over H -/
def Nw (G G' H : Hp) : Prop := ∀ b, G' b ≠ none → G b ≠ none ∨ H b = none ∨ ∃ xs, H b = some (.tup xs)
theorem Nw.refl (G H : Hp) : Nw G G H := fun _ h => .inl h
theorem Nw.out {G G' H : Hp} (h : Nw G G' H) {b : Addr} {o : HO} (g : G b = none) (e : H b = some o) (n : notTup o = true) : G' b = none := by
  cases q : G' b with
  | none => rfl
  | some w =>
    rcases h b (by rw [q]; exact Option.some_ne_none _) with z | z | ⟨xs, z⟩
    · exact absurd g z
    · rw [e] at z; cases z
    · rw [e] at z; cases z; cases n
structure Fin (C : Ct) (G H : Hp) (c : Cs) : Prop where
  gh : Ex G H
  g0 : Ex C.G0 G
  nw : Nw C.G0 G C.H0
  hh : Gr C C.H0 H
  ok : C.bx.ok
  ob : ObsAt C.K C.bx.obs G H c.o
  bx : ∀ l, C.bx.has l → Bxs C.bx H l c ∧ G l = none ∧ C.H0 l ≠ none
/-- a dict that is only read: locked, or older than the call -/
def RdD (C : Ct) (H : Hp) (p : Addr) (ks : List (List Key × V)) : Prop := ((∃ od, H p = some (.frz od (.dT ks))) ∨ (H p = some (.dT ks) ∧ C.H0 p ≠ none)) ∧ ¬ C.bx.has p
theorem RdD.gr {C : Ct} {H H' : Hp} {p : Addr} {ks : List (List Key × V)} (h : RdD C H p ks) (e : Gr C H H') : RdD C H' p ks := by
  obtain ⟨(⟨od, h⟩ | ⟨h, h0⟩), n⟩ := h
  · exact ⟨.inl ⟨od, e p _ n h⟩, n⟩
  · exact ⟨.inr ⟨e p _ n h, h0⟩, n⟩
theorem RdD.upd {C : Ct} {H : Hp} {p q : Addr} {ks : List (List Key × V)} {u o : HO} (h : RdD C H p ks) (hq : H q = some u) (h0 : C.H0 q = none) (hn : ∀ od w, u ≠ .frz od w) : RdD C (upd H q o) p ks := by
  have hne : p ≠ q := fun z => by
    subst z
    obtain ⟨(⟨od, h⟩ | ⟨h, h1⟩), n⟩ := h
    · rw [hq] at h
      cases h
      exact hn _ _ rfl
    · exact h1 h0
  unfold RdD
  rw [upd_ne hne]
  exact h
/-- what no def changes: all but lists and dicts -/
def soft : HO → Bool
  | .lst _ => true
  | .dK _ => true
  | .dT _ => true
  | .frz _ _ => true
  | _ => false
theorem Bxs.updS {x : Bx} {H : Hp} {l p : Addr} {c : Cs} {u o : HO} (h : Bxs x H l c) (hp : H p = some u) (s : soft u = true) (hlp : l ≠ p) : Bxs x (upd H p o) l c := h.keep fun b w hb q => by
  by_cases z : b = p
  · subst z
    rcases hb with hb | hb
    · exact absurd hb.symm hlp
    · rw [hp] at q
      cases q
      cases u <;> first | (simp [soft] at s; done) | (simp [isExt] at hb; done)
  · rw [upd_ne z]
    exact q
def Kept (C : Ct) (H H' : Hp) : Prop := ∀ b o, ¬ C.bx.has b → H b = some o → soft o = false → H' b = some o
theorem Kept.refl (C : Ct) (H : Hp) : Kept C H H := fun _ _ _ h _ => h
theorem Kept.trans {C : Ct} {H H1 H2 : Hp} (a : Kept C H H1) (b : Kept C H1 H2) : Kept C H H2 := fun x o n h s => b x o n (a x o n h s) s
theorem Kept.of {C : Ct} {H H' : Hp} (e : Gr C H H') : Kept C H H' := fun b o n h _ => e b o n h
theorem Kept.upd {C : Ct} {H : Hp} {p : Addr} {u o : HO} (h : H p = some u) (s : soft u = true) : Kept C H (upd H p o) := fun b w n hb hs => by
  by_cases z : b = p
  · subst z
    rw [h] at hb
    cases hb
    rw [s] at hs
    cases hs
  · rw [upd_ne z]
    exact hb
/-- anything else that stays -/
structure Oth (C : Ct) (φ : Hp → Hp → V → Prop) (G H : Hp) (v : V) : Prop where
  now : φ G H v
  keep : ∀ G' H', Ex G G' → Kept C H H' → φ G' H' v
theorem Oth.step {C : Ct} {φ : Hp → Hp → V → Prop} {G H G' H' : Hp} {v : V} (h : Oth C φ G H v) (eg : Ex G G') (eh : Kept C H H') : Oth C φ G' H' v := ⟨h.keep G' H' eg eh, fun G2 H2 e k => h.keep G2 H2 (eg.trans e) (eh.trans k)⟩
def RV (C : Ct) (G H : Hp) (v : V) : DV → Prop
  | .oth φ => Oth C φ G H v
  | .d x => Dp C.K G v x
  | .own ds => ∃ p xs, v = .ref p ∧ H p = some (.lst xs) ∧ C.H0 p = none ∧ G p = none ∧ DpAll C.K G xs ds
  | .dic kvs => ∃ p ks, v = .ref p ∧ H p = some (.dK ks) ∧ C.H0 p = none ∧ G p = none ∧ Paired (fun a b => a.1 = b.1 ∧ Dp C.K G a.2 b.2) ks kvs
  | .dit kvs => ∃ p ks, v = .ref p ∧ H p = some (.dT ks) ∧ C.H0 p = none ∧ G p = none ∧ Paired (fun a b => a.1 = b.1 ∧ Dp C.K G a.2 b.2) ks kvs
  | .dd kvs => ∃ p ks, v = .ref p ∧ RdD C H p ks ∧ Paired (fun a b => a.1 = b.1 ∧ Dp C.K G a.2 b.2) ks kvs
  | .box => ∃ l, C.bx.box = some l ∧ v = .ref l
  | .ob k => ∃ o, C.bx.obs[k]? = some o ∧ v = .ref o.adr
  | .obl ks => ∃ a vs, v = .ref a ∧ G a = some (.lst vs) ∧ Paired (fun v k => ∃ o, C.bx.obs[k]? = some o ∧ v = .ref o.adr) vs ks
theorem obl_ex {C : Ct} {G G' H H' : Hp} {v : V} {ks : List Nat} (e : Ex G G') (h : RV C G H v (.obl ks)) : RV C G' H' v (.obl ks) := by
  obtain ⟨a, vs, h1, h2, h3⟩ := h
  exact ⟨a, vs, h1, e _ _ h2, h3⟩
structure Rel (C : Ct) (G : Hp) (σ : L2.St) (H : Hp) (s : Dt) : Prop where
  fin : Fin C G H s.c
  len : s.env.length = σ.length
  sl : ∀ (i : Nat) x, s.env[i]? = some (some x) → ∃ v, σ[i]? = some (some v) ∧ RV C G H v x
  dis : ∀ (i j : Nat) x y p, i ≠ j → s.env[i]? = some (some x) → s.env[j]? = some (some y) → x.mut = true → y.mut = true → σ[i]? = some (some (.ref p)) → σ[j]? ≠ some (some (.ref p))
theorem paired_mapP {α β : Type} {F G : α → β → Prop} {l₁ : List α} {l₂ : List β} (h : Paired F l₁ l₂) (k : ∀ a b, F a b → G a b) : Paired G l₁ l₂ := Paired.mapP h k
/-- a step: all but the box stays, what was neither data nor a slot's does not become data, no slot becomes the def's own -/
structure Gs (C : Ct) (σ : L2.St) (G H : Hp) (s : Dt) (G' H' : Hp) (s' : Dt) : Prop where
  gr : Gr C H H'
  dom : ∀ b, H b ≠ none → H' b ≠ none
  nk : ∀ b o, G b = none → ¬ C.bx.has b → H b = some o → notTup o = true → (∀ (i : Nat) x, s.env[i]? = some (some x) → x.mut = true → σ[i]? ≠ some (some (.ref b))) → G' b = none
  ks : ∀ (i : Nat) x, s'.env[i]? = some (some x) → x.mut = true → ∃ x', s.env[i]? = some (some x') ∧ x'.mut = true
theorem Gs.refl {C : Ct} {σ : L2.St} {G H : Hp} {s : Dt} : Gs C σ G H s G H s := ⟨Gr.refl C H, fun _ h => h, fun _ _ h _ _ _ _ => h, fun i x h m => ⟨x, h, m⟩⟩
theorem Gs.trans {C : Ct} {σ : L2.St} {G H G1 H1 G2 H2 : Hp} {s s1 s2 : Dt} (a : Gs C σ G H s G1 H1 s1) (b : Gs C σ G1 H1 s1 G2 H2 s2) : Gs C σ G H s G2 H2 s2 :=
  ⟨a.gr.trans b.gr, fun x h => b.dom x (a.dom x h), fun x o h1 hb h2 hn h3 => b.nk x o (a.nk x o h1 hb h2 hn h3) hb (a.gr x o hb h2) hn fun i y e m => by
    obtain ⟨y', e', m'⟩ := a.ks i y e m
    exact h3 i y' e' m', fun i x e m => by
    obtain ⟨y, e', m'⟩ := b.ks i x e m
    exact a.ks i y e' m'⟩
section
variable {C : Ct} {G G' H H' : Hp} {σ : L2.St} {s : Dt} {c c' : Cs}
theorem Gs.grow (eh : Ex H H') (nw : Nw G G' H) : Gs C σ G H s G' H' s := ⟨Gr.of eh, fun b h z => h (fresh_back eh z), fun b o h1 _ h2 hn _ => nw.out h1 h2 hn, fun i x e m => ⟨x, e, m⟩⟩
theorem Gs.side (eh : Ex H H') : Gs C σ G H s G H' s := .grow eh (Nw.refl G H)
theorem Fin.h0 (h : Fin C G H c) {b : Addr} (e : H b = none) : C.H0 b = none := by
  cases q : C.H0 b with
  | none => rfl
  | some o =>
    by_cases z : C.bx.has b
    · exact absurd e (h.bx b z).1.ne
    · rw [h.hh b o z q] at e
      cases e
theorem Fin.step (h : Fin C G H c) (eg : Ex G G') (eh : Gr C H H') (gh : Ex G' H') (nw : Nw G G' H) (ob : ObsAt C.K C.bx.obs G' H' c'.o) (bx : ∀ l, C.bx.has l → Bxs C.bx H' l c') : Fin C G' H' c' := by
  refine ⟨gh, h.g0.trans eg, fun b hb => ?_, h.hh.trans eh, h.ok, ob, fun l hl => ⟨bx l hl, ?_, (h.bx l hl).2.2⟩⟩
  · rcases nw b hb with q | q | ⟨xs, q⟩
    · exact h.nw b q
    · exact .inr (.inl (h.h0 q))
    · cases z : C.H0 b with
      | none => exact .inr (.inl rfl)
      | some o =>
        by_cases hbx : C.bx.has b
        · obtain ⟨u, u3, un⟩ := (h.bx b hbx).1.nt hbx
          rw [q] at u3
          cases u3
          cases un
        · have := h.hh b o hbx z
          rw [q] at this
          cases this
          exact .inr (.inr ⟨xs, rfl⟩)
  · obtain ⟨u, u3, un⟩ := (h.bx l hl).1.nt hl
    exact nw.out (h.bx l hl).2.1 u3 un
/-- the objects stay where a step changes the box or the table alone -/
theorem Fin.obx (h : Fin C G H c) (eg : Ex G G') {l : Addr} (hl : C.bx.box = some l ∨ C.bx.tab = some l) (e : ∀ b o, b ≠ l → H b = some o → H' b = some o) : ObsAt C.K C.bx.obs G' H' c.o :=
  h.ob.keep eg fun o ho b w hb q => e b w (fun z => h.ok.nb l hl o ho (by rw [← z]; exact hb)) q
theorem Fin.obe (h : Fin C G H c) (eg : Ex G G') (e : Ex H H') : ObsAt C.K C.bx.obs G' H' c.o := h.ob.keep eg fun _ _ b w _ q => e b w q
/-- nor where something changes that is new since the call -/
theorem Fin.obu (h : Fin C G H c) (eg : Ex G G') {p : Addr} (h0 : C.H0 p = none) (e : ∀ b o, b ≠ p → H b = some o → H' b = some o) : ObsAt C.K C.bx.obs G' H' c.o :=
  h.ob.keep eg fun o ho b w hb q => e b w (fun z => (h.bx b (.ofo ho hb)).2.2 (by rw [z]; exact h0)) q
theorem Fin.boxAt (h : Fin C G H c) {l : Addr} (hl : C.bx.box = some l) : BoxAt H l c.n := (h.bx l (.ofb hl)).1.box hl
theorem Fin.boxG (h : Fin C G H c) {l : Addr} (hl : C.bx.box = some l) : G l = none := (h.bx l (.ofb hl)).2.1
/-- the box alone changes -/
theorem Fin.boxStep (h : Fin C G H c) {l : Addr} (hl : C.bx.box = some l) (e : ∀ b o, b ≠ l → H b = some o → H' b = some o) (hb : BoxAt H' l c'.n) : ∀ l', C.bx.has l' → Bxs C.bx H' l' c' := fun l' hl' => by
  obtain ⟨a, b, ha, _⟩ := h.boxAt hl
  by_cases z : l' = l
  · subst z
    refine .ofBox hb fun q => ?_
    obtain ⟨ps, h2⟩ := ((h.bx l' hl').1.tab q).ne
    rw [ha] at h2
    cases h2
  · refine ⟨fun q => ?_, fun q => ?_, ?_, fun o2 q => ?_⟩
    · rw [hl] at q
      exact absurd (Option.some.inj q).symm z
    · obtain ⟨ps, h1, h2, h3⟩ := (h.bx l' hl').1.tab q
      refine ⟨ps, e l' _ z h1, h2, fun pos cv hc => ?_⟩
      obtain ⟨c, e1, e2⟩ := h3 pos cv hc
      exact ⟨c, e1, e c _ (fun w => by rw [w, ha] at e2; cases e2) e2⟩
    · have := (h.bx l' hl').1.ne
      cases q : H l' with
      | none => exact absurd q this
      | some o => rw [e l' o z q]; exact Option.some_ne_none _
    · cases w : H l' with
      | none => exact absurd w (h.bx l' hl').1.ne
      | some o =>
        rw [e l' o z w] at q
        exact (h.bx l' hl').1.nt' o2 (w.trans q)
theorem Fin.nbx (h : Fin C G H c) {p : Addr} (e : C.H0 p = none) : ¬ C.bx.has p := fun z => (h.bx p z).2.2 e
theorem RV.step (f : Fin C G H c) (eg : Ex G G') (eh : Gr C H H') (nw : Nw G G' H) {v : V} : ∀ {x : DV}, RV C G H v x → RV C G' H' v x
  | .d x, h => dp_ex eg h
  | .own ds, ⟨p, xs, h1, h2, h3, h4, h5⟩ => by
    refine ⟨p, xs, h1, eh p _ (f.nbx h3) h2, h3, ?_, dpa_ex eg h5⟩
    exact nw.out h4 h2 rfl
  | .dic ks, ⟨p, xs, h1, h2, h3, h4, h5⟩ => by
    refine ⟨p, xs, h1, eh p _ (f.nbx h3) h2, h3, ?_, paired_mapP h5 fun a b q => ⟨q.1, dp_ex eg q.2⟩⟩
    exact nw.out h4 h2 rfl
  | .dit ks, ⟨p, xs, h1, h2, h3, h4, h5⟩ => by
    refine ⟨p, xs, h1, eh p _ (f.nbx h3) h2, h3, ?_, paired_mapP h5 fun a b q => ⟨q.1, dp_ex eg q.2⟩⟩
    exact nw.out h4 h2 rfl
  | .oth φ, h => Oth.step (φ := φ) h eg (Kept.of eh)
  | .dd ks, ⟨p, xs, h1, h2, h5⟩ => ⟨p, xs, h1, h2.gr eh, paired_mapP h5 fun a b q => ⟨q.1, dp_ex eg q.2⟩⟩
  | .box, h => h
  | .ob _, h => h
  | .obl _, ⟨a, vs, h1, h2, h3⟩ => ⟨a, vs, h1, eg _ _ h2, h3⟩
theorem Rel.step (h : Rel C G σ H s) (eg : Ex G G') (eh : Gr C H H') (gh : Ex G' H') (nw : Nw G G' H) (ob : ObsAt C.K C.bx.obs G' H' c'.o) (bx : ∀ l, C.bx.has l → Bxs C.bx H' l c') : Rel C G' σ H' ⟨s.env, c'⟩ := by
  refine ⟨h.fin.step eg eh gh nw ob bx, h.len, fun i x e => ?_, h.dis⟩
  obtain ⟨v, hv, r⟩ := h.sl i x e
  exact ⟨v, hv, r.step h.fin eg eh nw⟩
theorem Rel.grow (h : Rel C G σ H s) (eg : Ex G G') (eh : Ex H H') (gh : Ex G' H') (nw : Nw G G' H) : Rel C G' σ H' s :=
  h.step eg (Gr.of eh) gh nw (h.fin.obe eg eh) fun l hl => (h.fin.bx l hl).1.ex eh
/-- a new object of data -/
theorem Ex.both {p : Addr} {o : HO} (gh : Ex G H) (hp : H p = none) : Ex (upd G p o) (upd H p o) := fun b u e => by
  by_cases z : b = p
  · rw [z, upd_same] at e ⊢
    exact e
  · rw [upd_ne z] at e ⊢
    exact gh b u e
theorem Nw.one {p : Addr} {o : HO} (hp : H p = none) : Nw G (upd G p o) H := fun b hb => by
  by_cases z : b = p
  · exact .inr (.inl (by rw [z]; exact hp))
  · rw [upd_ne z] at hb
    exact .inl hb
theorem Nw.trans {G1 G2 H1 : Hp} (a : Nw G G1 H) (b : Nw G1 G2 H1) (e : Ex H H1) : Nw G G2 H := fun x hx => by
  rcases b x hx with q | q | ⟨xs, q⟩
  · exact a x q
  · exact .inr (.inl (fresh_back e q))
  · cases z : H x with
    | none => exact .inr (.inl rfl)
    | some o =>
      have := e x o z
      rw [q] at this
      cases this
      exact .inr (.inr ⟨xs, rfl⟩)
theorem Rel.new (h : Rel C G σ H s) {p : Addr} {o : HO} (hp : H p = none) : Rel C (upd G p o) σ (upd H p o) s ∧ Ex G (upd G p o) ∧ Gs C σ G H s (upd G p o) (upd H p o) s := by
  have g1 : G p = none := by
    cases q : G p with
    | none => rfl
    | some u => rw [h.fin.gh p u q] at hp; cases hp
  exact ⟨h.grow (Ex.new g1) (Ex.new hp) (Ex.both h.fin.gh hp) (Nw.one hp), Ex.new g1, .grow (Ex.new hp) (Nw.one hp)⟩
theorem Rel.notslot (h : Rel C G σ H s) {p : Addr} (hp : H p = none) (i : Nat) (x : DV) (e : s.env[i]? = some (some x)) (m : x.mut = true) : σ[i]? ≠ some (some (.ref p)) := fun q => by
  obtain ⟨v, hv, r⟩ := h.sl i x e
  rw [hv] at q
  cases q
  cases x with
  | d _ => cases m
  | box => cases m
  | ob _ => cases m
  | obl _ => cases m
  | own ds =>
    obtain ⟨p', xs, a1, a2, _⟩ := r
    cases a1
    rw [hp] at a2
    cases a2
  | dic ds =>
    obtain ⟨p', xs, a1, a2, _⟩ := r
    cases a1
    rw [hp] at a2
    cases a2
  | dit ds =>
    obtain ⟨p', xs, a1, a2, _⟩ := r
    cases a1
    rw [hp] at a2
    cases a2
  | dd _ => cases m
  | oth _ => cases m
theorem Rel.gnone (h : Rel C G σ H s) {p : Addr} (hp : H p = none) : G p = none := by
  cases q : G p with
  | none => rfl
  | some u => rw [h.fin.gh p u q] at hp; cases hp
/-- a new object that is not (yet) data -/
theorem Rel.aside (h : Rel C G σ H s) (e : Ex H H') : Rel C G σ H' s := h.grow (Ex.refl G) e (h.fin.gh.trans e) (Nw.refl G H)
end
abbrev WE := Dt → (PyData → Dt → Prop) → Prop
abbrev WA := Dt → (List PyData → Dt → Prop) → Prop
abbrev WT := Dt → (Bool → Dt → Prop) → Prop
def IE (C : Ct) (t : TE) (w : WE) : Prop := ∀ G σ H s Q Q', Rel C G σ H s → w s Q →
  (∀ v d s' G' H', Q d s' → Rel C G' σ H' s' → Ex G G' → Gs C σ G H s G' H' s' → Dp C.K G' v d → Q' v H') → t σ H Q'
def IA (C : Ct) (t : TA) (w : WA) : Prop := ∀ G σ H s Q Q', Rel C G σ H s → w s Q →
  (∀ vs ds s' G' H', Q ds s' → Rel C G' σ H' s' → Ex G G' → Gs C σ G H s G' H' s' → DpAll C.K G' vs ds → Q' vs H') → t σ H Q'
def IT (C : Ct) (t : TT) (w : WT) : Prop := ∀ G σ H s Q Q', Rel C G σ H s → w s Q →
  (∀ b s' G' H', Q b s' → Rel C G' σ H' s' → Ex G G' → Gs C σ G H s G' H' s' → Q' b H') → t σ H Q'
/-- a new list of the def's own -/
def IO (C : Ct) (t : TE) (w : WA) : Prop := ∀ G σ H s Q Q', Rel C G σ H s → w s Q →
  (∀ p xs ds s' G' H', Q ds s' → Rel C G' σ H' s' → Ex G G' → Gs C σ G H s G' H' s' → H p = none → H' p = some (.lst xs) → G' p = none → DpAll C.K G' xs ds → (∀ (i : Nat) x, s'.env[i]? = some (some x) → x.mut = true → σ[i]? ≠ some (some (.ref p))) → Q' (.ref p) H') → t σ H Q'
/-- a value that is only looked at: data, or a list of the def's own -/
def Pk (C : Ct) (G H : Hp) (v : V) (d : PyData) : Prop := Dp C.K G v d ∨ ∃ p xs ds, v = .ref p ∧ d = .list ds ∧ H p = some (.lst xs) ∧ ¬ C.bx.has p ∧ DpAll C.K G xs ds
def IP (C : Ct) (t : TE) (w : WE) : Prop := ∀ G σ H s Q Q', Rel C G σ H s → w s Q →
  (∀ v d s' G' H', Q d s' → Rel C G' σ H' s' → Ex G G' → Gs C σ G H s G' H' s' → Pk C G' H' v d → Q' v H') → t σ H Q'
section
variable {C : Ct} {G G' H H' : Hp} {v : V} {d : PyData}
theorem Pk.mono (h : Pk C G H v d) (eg : Ex G G') (eh : Gr C H H') : Pk C G' H' v d := by
  rcases h with h | ⟨p, xs, ds, h1, h2, h3, h4, h5⟩
  · exact .inl (dp_ex eg h)
  · exact .inr ⟨p, xs, ds, h1, h2, eh p _ h4 h3, h4, dpa_ex eg h5⟩
theorem Pk.dp (h : Pk C G H v d) (e : Ex G H) : Dp C.K H v d := by
  rcases h with h | ⟨p, xs, ds, rfl, rfl, h3, h4, h5⟩
  · exact dp_ex e h
  · exact .lst h3 (dpa_ex e h5)
def isT : PyData → Bool
  | .tuple _ => true
  | _ => false
def its : PyData → List PyData
  | .tuple ds => ds
  | .list ds => ds
  | _ => []
def seqd : PyData → Bool
  | .tuple _ => true
  | .list _ => true
  | _ => false
theorem Pk.seq (h : Pk C G H v d) (e : Ex G H) (hs : seqd d = true) : ∃ p xs, v = .ref p ∧ SqB C.K (isT d) H p xs ∧ DpAll C.K G xs (its d) := by
  rcases h with h | ⟨p, xs, ds, rfl, rfl, h3, h4, h5⟩
  · cases h with
    | lst h t => exact ⟨_, _, rfl, .inl (.inl (e _ _ h)), t⟩
    | tup h t => exact ⟨_, _, rfl, Evl.ex_t e h, t⟩
    | _ => cases hs
  · exact ⟨p, xs, rfl, .inl (.inl h3), h5⟩
end
section
variable {C : Ct} {t ta tb tc : TE} {w wa wb : WE} {tA : TA} {wA : WA}
theorem ip_of (h : IE C t w) : IP C t w := fun G σ H s Q Q' r q k => h G σ H s Q Q' r q fun v d s' G' H' q' r' eg eh p => k v d s' G' H' q' r' eg eh (.inl p)
/-- a list of the def's own becomes data -/
def wPubO (w : WA) : WE := fun s Q => w s fun ds s' => Q (.list ds) s'
theorem ie_own {w : WA} (h : IO C t w) : IE C t (wPubO w) := fun G σ H s Q Q' r q k => h G σ H s _ Q' r q fun p xs ds s' G' H' q' r' eg eh hp h1 h2 h3 h4 => by
  have eh' : Ex (upd G' p (.lst xs)) H' := fun b u e => by
    by_cases z : b = p
    · rw [z, upd_same] at e
      rw [z, h1]
      exact e
    · rw [upd_ne z] at e
      exact r'.fin.gh b u e
  have eg' : Ex G' (upd G' p (.lst xs)) := Ex.new h2
  have nw : ∀ b, (upd G' p (.lst xs)) b ≠ none → G' b ≠ none ∨ b = p := fun b hb => by
    by_cases z : b = p
    · exact .inr z
    · rw [upd_ne z] at hb
      exact .inl hb
  have h0 : C.H0 p = none := r.fin.h0 hp
  refine k (.ref p) _ s' (upd G' p (.lst xs)) H' q' ⟨⟨eh', r'.fin.g0.trans eg', fun b hb => ?_, r'.fin.hh, r'.fin.ok, r'.fin.obe eg' (Ex.refl _), fun l hl => ⟨(r'.fin.bx l hl).1, ?_, (r'.fin.bx l hl).2.2⟩⟩, r'.len, fun i x e => ?_, r'.dis⟩ (eg.trans eg') ⟨eh.gr, eh.dom, fun b o h1 hb h2 hn h3 => by rw [upd_ne (fun z => by rw [z, hp] at h2; cases h2)]; exact eh.nk b o h1 hb h2 hn h3, eh.ks⟩ (.lst upd_same (dpa_ex eg' h3))
  · rcases nw b hb with z | z
    · exact r'.fin.nw b z
    · exact .inr (.inl (by rw [z]; exact h0))
  · rw [upd_ne (fun z => (r.fin.nbx h0) (by rw [← z]; exact hl))]
    exact (r'.fin.bx l hl).2.1
  · obtain ⟨v, hv, rv⟩ := r'.sl i x e
    refine ⟨v, hv, ?_⟩
    cases x with
    | d x => exact dp_ex eg' rv
    | box => exact rv
    | ob _ => exact rv
    | obl _ => exact obl_ex eg' rv
    | own ds' =>
      obtain ⟨p', xs', a1, a2, a3, a4, a5⟩ := rv
      refine ⟨p', xs', a1, a2, a3, ?_, dpa_ex eg' a5⟩
      rw [upd_ne fun z => h4 i _ e rfl (by rw [hv, a1, z])]
      exact a4
    | dic ks =>
      obtain ⟨p', xs', a1, a2, a3, a4, a5⟩ := rv
      refine ⟨p', xs', a1, a2, a3, ?_, paired_mapP a5 fun a b q => ⟨q.1, dp_ex eg' q.2⟩⟩
      rw [upd_ne fun z => h4 i _ e rfl (by rw [hv, a1, z])]
      exact a4
    | dit ks =>
      obtain ⟨p', xs', a1, a2, a3, a4, a5⟩ := rv
      refine ⟨p', xs', a1, a2, a3, ?_, paired_mapP a5 fun a b q => ⟨q.1, dp_ex eg' q.2⟩⟩
      rw [upd_ne fun z => h4 i _ e rfl (by rw [hv, a1, z])]
      exact a4
    | oth φ => exact Oth.step (φ := φ) rv eg' (Kept.refl C H')
    | dd ks =>
      obtain ⟨p', xs', a1, a2, a5⟩ := rv
      exact ⟨p', xs', a1, a2, paired_mapP a5 fun a b q => ⟨q.1, dp_ex eg' q.2⟩⟩
def wC (d : PyData) : WE := fun s Q => Q d s
theorem ie_c {v : V} {d : PyData} (h : ∀ G, Dp C.K G v d) : IE C (tC v) (wC d) := fun G σ H s Q Q' r q k => k v d s G H q r (Ex.refl G) Gs.refl (h G)
def wV (i : Nat) : WE := fun s Q => ∃ d, s.env[i]? = some (some (.d d)) ∧ Q d s
theorem ie_v {i : Nat} : IE C (tVar i) (wV i) := fun G σ H s Q Q' r q k => by
  obtain ⟨d, e, q⟩ := q
  obtain ⟨v, hv, rv⟩ := r.sl i _ e
  exact ⟨v, hv, k v d s G H q r (Ex.refl G) Gs.refl rv⟩
/-- a list of the def's own, from now on data -/
def wPub (i : Nat) : WE := fun s Q => ∃ ds, s.env[i]? = some (some (.own ds)) ∧ Q (.list ds) ⟨s.env.set i (some (.d (.list ds))), s.c⟩
theorem ie_pub {i : Nat} : IE C (tVar i) (wPub i) := fun G σ H s Q Q' r q k => by
  obtain ⟨ds, e, q⟩ := q
  obtain ⟨v, hv, p, xs, rfl, h1, h2, h3, h4⟩ := r.sl i _ e
  have eg : Ex G (upd G p (.lst xs)) := Ex.new h3
  have gh : Ex (upd G p (.lst xs)) H := fun b u e => by
    by_cases z : b = p
    · rw [z, upd_same] at e
      rw [z, h1]
      exact e
    · rw [upd_ne z] at e
      exact r.fin.gh b u e
  have hi : i < s.env.length := (List.getElem?_eq_some_iff.mp e).1
  have old : ∀ (j : Nat) x, (s.env.set i (some (.d (.list ds))))[j]? = some (some x) → (j = i ∧ x = .d (.list ds)) ∨ (j ≠ i ∧ s.env[j]? = some (some x)) := fun j x ej => by
    by_cases z : j = i
    · subst z
      rw [List.getElem?_set_self hi] at ej
      cases ej
      exact .inl ⟨rfl, rfl⟩
    · rw [List.getElem?_set_ne (Ne.symm z)] at ej
      exact .inr ⟨z, ej⟩
  refine ⟨.ref p, hv, k _ _ _ (upd G p (.lst xs)) H q ⟨⟨gh, r.fin.g0.trans eg, fun b hb => ?_, r.fin.hh, r.fin.ok, r.fin.obe eg (Ex.refl _), fun l hl => ⟨(r.fin.bx l hl).1, ?_, (r.fin.bx l hl).2.2⟩⟩, ?_, fun j x ej => ?_, fun j1 j2 x y p' hne e1 e2 m1 m2 => ?_⟩ eg ⟨Gr.refl C H, fun _ h => h, fun b _ h1 _ _ _ h3 => by rw [upd_ne (fun z => h3 i _ e rfl (by rw [z]; exact hv))]; exact h1, fun j x ej m => by
      rcases old j x ej with ⟨_, rfl⟩ | ⟨_, ej⟩
      · cases m
      · exact ⟨x, ej, m⟩⟩ (.lst upd_same (dpa_ex eg h4))⟩
  · by_cases z : b = p
    · exact .inr (.inl (by rw [z]; exact h2))
    · rw [upd_ne z] at hb
      exact r.fin.nw b hb
  · rw [upd_ne (fun z => (r.fin.nbx h2) (by rw [← z]; exact hl))]
    exact (r.fin.bx l hl).2.1
  · rw [List.length_set]
    exact r.len
  · rcases old j x ej with ⟨rfl, rfl⟩ | ⟨z, ej⟩
    · exact ⟨_, hv, .lst upd_same (dpa_ex eg h4)⟩
    · obtain ⟨v', hv', rv⟩ := r.sl j x ej
      refine ⟨v', hv', ?_⟩
      cases x with
      | d x => exact dp_ex eg rv
      | box => exact rv
      | ob _ => exact rv
      | obl _ => exact obl_ex eg rv
      | own ds' =>
        obtain ⟨p', xs', a1, a2, a3, a4, a5⟩ := rv
        refine ⟨p', xs', a1, a2, a3, ?_, dpa_ex eg a5⟩
        rw [upd_ne fun z' => r.dis i j _ _ p (Ne.symm z) e ej rfl rfl hv (by rw [hv', a1, z'])]
        exact a4
      | dic ks =>
        obtain ⟨p', xs', a1, a2, a3, a4, a5⟩ := rv
        refine ⟨p', xs', a1, a2, a3, ?_, paired_mapP a5 fun a b q => ⟨q.1, dp_ex eg q.2⟩⟩
        rw [upd_ne fun z' => r.dis i j _ _ p (Ne.symm z) e ej rfl rfl hv (by rw [hv', a1, z'])]
        exact a4
      | dit ks =>
        obtain ⟨p', xs', a1, a2, a3, a4, a5⟩ := rv
        refine ⟨p', xs', a1, a2, a3, ?_, paired_mapP a5 fun a b q => ⟨q.1, dp_ex eg q.2⟩⟩
        rw [upd_ne fun z' => r.dis i j _ _ p (Ne.symm z) e ej rfl rfl hv (by rw [hv', a1, z'])]
        exact a4
      | oth φ => exact Oth.step (φ := φ) rv eg (Kept.refl C H)
      | dd ks =>
        obtain ⟨p', xs', a1, a2, a5⟩ := rv
        exact ⟨p', xs', a1, a2, paired_mapP a5 fun a b q => ⟨q.1, dp_ex eg q.2⟩⟩
  · rcases old j1 x e1 with ⟨rfl, rfl⟩ | ⟨z1, e1⟩
    · cases m1
    · rcases old j2 y e2 with ⟨rfl, rfl⟩ | ⟨z2, e2⟩
      · cases m2
      · exact r.dis j1 j2 x y p' hne e1 e2 m1 m2
def DV.look : DV → Option PyData
  | .d x => some x
  | .own ds => some (.list ds)
  | _ => none
/-- a name that is only looked at -/
def wP (i : Nat) : WE := fun s Q => ∃ x d, s.env[i]? = some (some x) ∧ x.look = some d ∧ Q d s
theorem ip_v {i : Nat} : IP C (tVar i) (wP i) := fun G σ H s Q Q' r q k => by
  obtain ⟨x, d, e, hl, q⟩ := q
  obtain ⟨v, hv, rv⟩ := r.sl i _ e
  refine ⟨v, hv, k v d s G H q r (Ex.refl G) Gs.refl ?_⟩
  cases x with
  | d x => cases hl; exact .inl rv
  | own ds =>
    cases hl
    obtain ⟨p, xs, a1, a2, a3, a4, a5⟩ := rv
    exact .inr ⟨p, xs, ds, a1, rfl, a2, r.fin.nbx a3, a5⟩
  | dic _ => cases hl
  | dit _ => cases hl
  | dd _ => cases hl
  | oth _ => cases hl
  | box => cases hl
  | ob _ => cases hl
  | obl _ => cases hl
theorem ia_nil : IA C tNil (fun s Q => Q [] s) := fun G σ H s Q Q' r q k => k [] [] s G H q r (Ex.refl G) Gs.refl .nil
def wCons (w : WE) (wr : WA) : WA := fun s Q => w s fun d s1 => wr s1 fun ds s2 => Q (d :: ds) s2
theorem ia_cons {tr : TA} {wr : WA} (h : IE C t w) (hr : IA C tr wr) : IA C (tCons t tr) (wCons w wr) := fun G σ H s Q Q' r q k =>
  h G σ H s _ _ r q fun v d s1 G1 H1 q1 r1 eg1 eh1 p1 => hr G1 σ H1 s1 _ _ r1 q1 fun vs ds s2 G2 H2 q2 r2 eg2 eh2 p2 =>
    k (v :: vs) (d :: ds) s2 G2 H2 q2 r2 (eg1.trans eg2) (eh1.trans eh2) (.cons (dp_ex eg2 p1) p2)
def wTup (w : WA) : WE := fun s Q => w s fun ds s1 => ds.length ≤ 100000 ∧ Q (.tuple ds) s1
theorem ie_tup (h : IA C tA wA) : IE C (tTup tA) (wTup wA) := fun G σ H s Q Q' r q k =>
  h G σ H s _ _ r q fun vs ds s1 G1 H1 q1 r1 eg1 eh1 p1 => ⟨by rw [dpa_len p1]; exact sz_of q1.1, fun p hp => by
    obtain ⟨r2, eg2, eh2⟩ := r1.new (o := .tup vs) hp
    exact k (.ref p) _ s1 _ _ q1.2 r2 (eg1.trans eg2) (eh1.trans eh2) (.tup (.inl (.inl upd_same)) (dpa_ex eg2 p1))⟩
def wLst (w : WA) : WA := fun s Q => w s fun ds s1 => ds.length ≤ 100000 ∧ Q ds s1
/-- a new list, made at the end -/
theorem own_new {G σ H s G1 H1 s1} {Q : List PyData → Dt → Prop} {Q' : VK} {vs : List V} {ds : List PyData} (r : Rel C G σ H s) (q1 : Q ds s1) (r1 : Rel C G1 σ H1 s1) (eg1 : Ex G G1) (eh1 : Gs C σ G H s G1 H1 s1) (p1 : DpAll C.K G1 vs ds) {p : Addr} (hp : H1 p = none)
    (k : ∀ p xs ds s' G' H', Q ds s' → Rel C G' σ H' s' → Ex G G' → Gs C σ G H s G' H' s' → H p = none → H' p = some (.lst xs) → G' p = none → DpAll C.K G' xs ds → (∀ (i : Nat) x, s'.env[i]? = some (some x) → x.mut = true → σ[i]? ≠ some (some (.ref p))) → Q' (.ref p) H') : Q' (.ref p) (upd H1 p (.lst vs)) := by
  refine k p vs ds s1 G1 _ q1 (r1.aside (Ex.new hp)) eg1 (eh1.trans (.side (Ex.new hp))) ?_ upd_same (r1.gnone hp) p1 (r1.notslot hp)
  cases q : H p with
  | none => rfl
  | some o =>
    by_cases z : C.bx.has p
    · exact absurd hp (r1.fin.bx p z).1.ne
    · rw [eh1.gr p o z q] at hp
      cases hp
theorem io_lst (h : IA C tA wA) : IO C (tLst tA) (wLst wA) := fun G σ H s Q Q' r q k =>
  h G σ H s _ _ r q fun vs ds s1 G1 H1 q1 r1 eg1 eh1 p1 => ⟨by rw [dpa_len p1]; exact sz_of q1.1, fun p hp => own_new r q1.2 r1 eg1 eh1 p1 hp k⟩
def wI (C : Int → Int → Prop) (g : Int → Int → PyData) (wa wb : WE) : WE := fun s Q => wa s fun x s1 => wb s1 fun y s2 => ∃ i j, x = .int i ∧ y = .int j ∧ C i j ∧ Q (g i j) s2
theorem dp_int {K : PySem.W.Frag} {H : Hp} {v : V} {i : Int} (h : Dp K H v (.int i)) : v = .int i := by cases h; rfl
theorem dp_bl {K : PySem.W.Frag} {H : Hp} {v : V} {i : Bool} (h : Dp K H v (.bool i)) : v = .bl i := by cases h; rfl
theorem dp_str {K : PySem.W.Frag} {H : Hp} {v : V} {i : Str} (h : Dp K H v (.str i)) : v = .str i := by cases h; rfl
theorem ie_op2 {r2 : R2} {g : PyData → PyData → Dt → (PyData → Dt → Prop) → Prop} (hg : ∀ G σ H s x y d e Q Q', Rel C G σ H s → Pk C G H x d → Pk C G H y e → g d e s Q →
      (∀ v z s' G' H', Q z s' → Rel C G' σ H' s' → Ex G G' → Gs C σ G H s G' H' s' → Dp C.K G' v z → Q' v H') → r2 x y H Q') (ha : IP C ta wa) (hb : IP C tb wb) :
    IE C (tOp r2 ta tb) (fun s Q => wa s fun d s1 => wb s1 fun e s2 => g d e s2 Q) := fun G σ H s Q Q' r q k =>
  ha G σ H s _ _ r q fun v d s1 G1 H1 q1 r1 eg1 eh1 p1 => hb G1 σ H1 s1 _ _ r1 q1 fun v2 d2 s2 G2 H2 q2 rr eg2 eh2 p2 =>
    hg G2 σ H2 s2 v v2 d d2 Q Q' rr (p1.mono eg2 eh2.gr) p2 q2 fun v z s' G' H' q r' eg eh p => k v z s' G' H' q r' ((eg1.trans eg2).trans eg) ((eh1.trans eh2).trans eh) p
end
end Dw
namespace Dw
open PySem PySem.Spec PyProof.Rows L2 OgR Evl
structure DE (X : Cx) (C : Ct) (e : Expr) (t : TE) (w : WE) : Prop where
  pe : PE X e t
  ie : IE C t w
structure DP (X : Cx) (C : Ct) (e : Expr) (t : TE) (w : WE) : Prop where
  pe : PE X e t
  ip : IP C t w
structure DO (X : Cx) (C : Ct) (e : Expr) (t : TE) (w : WA) : Prop where
  pe : PE X e t
  io : IO C t w
structure DA (X : Cx) (C : Ct) (es : List Expr) (t : TA) (w : WA) : Prop where
  pa : PA X es t
  ia : IA C t w
structure DT (X : Cx) (C : Ct) (e : Expr) (t : TT) (w : WT) : Prop where
  pt : PT X e t
  it : IT C t w
structure DW (X : Cx) (C : Ct) (e : Expr) (t : TT) (w : WT) : Prop where
  pw : PW X e t
  it : IT C t w
/-- a list looked at whose place is known: fresh, or of the def's own -/
def IL (C : Ct) (t : TE) (w : WA) : Prop := ∀ G σ H s Q Q', Rel C G σ H s → w s Q →
  (∀ p xs ds s' G' H', Q ds s' → Rel C G' σ H' s' → Ex G G' → Gs C σ G H s G' H' s' → H' p = some (.lst xs) → ¬ C.bx.has p → DpAll C.K G' xs ds → Q' (.ref p) H') → t σ H Q'
structure DL (X : Cx) (C : Ct) (e : Expr) (t : TE) (w : WA) : Prop where
  pe : PE X e t
  il : IL C t w
section
variable {X : Cx} {C : Ct} {a b e : Expr} {es : List Expr} {pos : Pos} {t ta tb tc : TE} {w wa wb wc : WE} {tA : TA} {wA : WA}
theorem DE.p (h : DE X C e t w) : DP X C e t w := ⟨h.pe, ip_of h.ie⟩
theorem DO.d {w : WA} (h : DO X C e t w) : DE X C e t (wPubO w) := ⟨h.pe, ie_own h.io⟩
theorem DO.l {w : WA} (h : DO X C e t w) : DL X C e t w := ⟨h.pe, fun G σ H s Q Q' r q k => h.io G σ H s Q Q' r q fun p xs ds s' G' H' q' r' eg eh hp h1 h2 h3 h4 =>
  k p xs ds s' G' H' q' r' eg eh h1 (r'.fin.nbx (r.fin.h0 hp)) h3⟩
theorem DW.q {t : TT} {w : WT} (h : DW X C e t w) : DT X C e t w := ⟨h.pw.pt, h.it⟩
theorem de_int {i : Int} {j} : DE X C (.Constant (.int i) j pos) (tC (.int i)) (wC (.int i)) := ⟨pe_int, ie_c fun _ => .int i⟩
theorem de_str {i : Str} {j} : DE X C (.Constant (.str i) j pos) (tC (.str i)) (wC (.str i)) := ⟨pe_str, ie_c fun _ => .str i⟩
theorem de_bl {i : Bool} {j} : DE X C (.Constant (.bool i) j pos) (tC (.bl i)) (wC (.bool i)) := ⟨pe_bl, ie_c fun _ => .bl i⟩
theorem de_non {j} : DE X C (.Constant .none j pos) (tC .non) (wC .none) := ⟨pe_non, ie_c fun _ => .non⟩
theorem de_v (i : Nat) {x : Str} (hN : X.N[i]? = some x := by rfl) (hv : Vis X.env.scope x := by first | exact Or.inl rfl | exact Or.inr (Or.inl rfl) | exact Or.inr (Or.inr rfl)) (hd : (x == ("__debug__" : Str)) = false := by decide)
    (hcd : (x == ("__classdict__" : Str)) = false := by decide) : DE X C (.Name x pos) (tVar i) (wV i) := ⟨pe_var hN hv hd hcd, ie_v⟩
theorem de_pub (i : Nat) {x : Str} (hN : X.N[i]? = some x := by rfl) (hv : Vis X.env.scope x := by first | exact Or.inl rfl | exact Or.inr (Or.inl rfl) | exact Or.inr (Or.inr rfl)) (hd : (x == ("__debug__" : Str)) = false := by decide)
    (hcd : (x == ("__classdict__" : Str)) = false := by decide) : DE X C (.Name x pos) (tVar i) (wPub i) := ⟨pe_var hN hv hd hcd, ie_pub⟩
theorem dp_v (i : Nat) {x : Str} (hN : X.N[i]? = some x := by rfl) (hv : Vis X.env.scope x := by first | exact Or.inl rfl | exact Or.inr (Or.inl rfl) | exact Or.inr (Or.inr rfl)) (hd : (x == ("__debug__" : Str)) = false := by decide)
    (hcd : (x == ("__classdict__" : Str)) = false := by decide) : DP X C (.Name x pos) (tVar i) (wP i) := ⟨pe_var hN hv hd hcd, ip_v⟩
def wL (i : Nat) : WA := fun s Q => ∃ ds, s.env[i]? = some (some (.own ds)) ∧ Q ds s
theorem da_nil : DA X C [] tNil (fun s Q => Q [] s) := ⟨pa_nil, ia_nil⟩
theorem da_cons {tr : TA} {wr : WA} (h : DE X C e t w) (hr : DA X C es tr wr) (hs : starEach (e :: es) X.env = (false, eval e X.env) :: starEach es X.env := by rfl) : DA X C (e :: es) (tCons t tr) (wCons w wr) := ⟨pa_cons h.pe hr.pa hs, ia_cons h.ie hr.ia⟩
theorem de_tup {k} (h : DA X C es tA wA) : DE X C (.Tuple es k pos) (tTup tA) (wTup wA) := ⟨pe_tup h.pa, ie_tup h.ia⟩
theorem do_lst (h : DA X C es tA wA) : DO X C (.List es pos) (tLst tA) (wLst wA) := ⟨pe_lst h.pa, io_lst h.ia⟩
abbrev G2 := PyData → PyData → Dt → (PyData → Dt → Prop) → Prop
structure R2D (C : Ct) (r : R2) (g : G2) : Prop where
  run : ∀ G σ H s x y d e Q Q', Rel C G σ H s → Pk C G H x d → Pk C G H y e → g d e s Q → (∀ v z s' G' H', Q z s' → Rel C G' σ H' s' → Ex G G' → Gs C σ G H s G' H' s' → Dp C.K G' v z → Q' v H') → r x y H Q'
structure OpD (X : Cx) (C : Ct) (f : Value → Value → Sem Value) (r : R2) (g : G2) : Prop where
  op : OpR X f r
  rd : R2D C r g
def w2 (g : G2) (wa wb : WE) : WE := fun s Q => wa s fun d s1 => wb s1 fun e s2 => g d e s2 Q
theorem de_bin {op : Operator} {r : R2} {g : G2} (o : OpD X C (binaryOp op) r g) (ha : DP X C a ta wa) (hb : DP X C b tb wb) : DE X C (.BinOp a op b pos) (tOp r ta tb) (w2 g wa wb) := ⟨pe_op o.op ha.pe hb.pe, ie_op2 o.rd.run ha.ip hb.ip⟩
theorem de_cmp {op : CmpOp} {r : R2} {g : G2} (o : OpD X C (compareOp op) r g) (ha : DP X C a ta wa) (hb : DP X C b tb wb) (hm : behindInMarks op b = false := by first | exact nomark _ | rfl) : DE X C (.Compare a [op] [b] pos) (tOp r ta tb) (w2 g wa wb) := ⟨pe_cmpR o.op ha.pe hb.pe hm, ie_op2 o.rd.run ha.ip hb.ip⟩
/-- a value as a test -/
def wTest (w : WE) : WT := fun s Q => w s fun d s1 => ∃ k, d = .bool k ∧ Q k s1
theorem it_test (h : IE C t w) : IT C (tTest t) (wTest w) := fun G σ H s Q Q' r q k => h G σ H s _ _ r q fun v d s1 G1 H1 q1 r1 eg eh p => by
  obtain ⟨b, rfl, q2⟩ := q1
  exact ⟨b, dp_bl p, k b s1 G1 H1 q2 r1 eg eh⟩
theorem it_B (h : IE C t w) : IT C (tB t) (wTest w) := it_test h
theorem dt_cmp {op : CmpOp} {r : R2} {g : G2} (o : OpD X C (compareOp op) r g) (ha : DP X C a ta wa) (hb : DP X C b tb wb) (hm : behindInMarks op b = false := by first | exact nomark _ | rfl) : DT X C (.Compare a [op] [b] pos) (tTest (tOp r ta tb)) (wTest (w2 g wa wb)) :=
  ⟨pt_cmpR o.op ha.pe hb.pe hm, it_test (ie_op2 o.rd.run ha.ip hb.ip)⟩
theorem dt_val (h : DE X C e t w) (he : ∀ whole, isTrue e X.env whole = (do let v ← whole; standAt e.pos; holding [v] (truthy v)) := by intro _; rfl) : DT X C e (tB t) (wTest w) := ⟨pt_val h.pe he, it_B h.ie⟩
/-- a op b op' c -/
def wChain (g g' : G2) (wa wb wc : WE) : WE := fun s Q => wa s fun d s1 => wb s1 fun e s2 => g d e s2 fun z s3 => ∃ k, z = .bool k ∧ if k = true then wc s3 fun f s4 => g' e f s4 Q else Q (.bool false) s3
theorem ie_chain {r r' : R2} {g g' : G2} (hr : R2D C r g) (hr' : R2D C r' g') (ha : IP C ta wa) (hb : IP C tb wb) (hc : IP C tc wc) : IE C (tChain r r' ta tb tc) (wChain g g' wa wb wc) := fun G σ H s Q Q' r q k =>
  ha G σ H s _ _ r q fun v d s1 G1 H1 q1 r1 eg1 eh1 p1 => hb G1 σ H1 s1 _ _ r1 q1 fun v2 d2 s2 G2 H2 q2 rr eg2 eh2 p2 =>
    hr.run G2 σ H2 s2 v v2 d d2 _ _ rr (p1.mono eg2 eh2.gr) p2 q2 fun v3 z s3 G3 H3 q3 r3 eg3 eh3 p3 => by
      obtain ⟨kk, rfl, q3⟩ := q3
      refine ⟨kk, dp_bl p3, ?_⟩
      cases kk with
      | false =>
        refine iteF ?_
        rw [if_neg (by decide)] at q3
        exact k _ _ s3 G3 H3 q3 r3 ((eg1.trans eg2).trans eg3) ((eh1.trans eh2).trans eh3) (.bl _)
      | true =>
        refine iteT ?_
        rw [if_pos rfl] at q3
        exact hc G3 σ H3 s3 _ _ r3 q3 fun v4 f s4 G4 H4 q4 r4 eg4 eh4 p4 => hr'.run G4 σ H4 s4 v2 v4 d2 f _ _ r4 ((p2.mono eg3 eh3.gr).mono eg4 eh4.gr) p4 q4 fun v5 z s5 G5 H5 q5 r5 eg5 eh5 p5 =>
          k v5 z s5 G5 H5 q5 r5 ((((eg1.trans eg2).trans eg3).trans eg4).trans eg5) ((((eh1.trans eh2).trans eh3).trans eh4).trans eh5) p5
theorem de_chain {c : Expr} {op op' : CmpOp} {r r' : R2} {g g' : G2} (o : OpD X C (compareOp op) r g) (o' : OpD X C (compareOp op') r' g') (ha : DP X C a ta wa) (hb : DP X C b tb wb) (hc : DP X C c tc wc) (hm : lastMarks [op, op'] [b, c] = false := by with_unfolding_all rfl) :
    DE X C (.Compare a [op, op'] [b, c] pos) (tChain r r' ta tb tc) (wChain g g' wa wb wc) := ⟨pe_chain o.op o'.op ha.pe hb.pe hc.pe hm, ie_chain o.rd o'.rd ha.ip hb.ip hc.ip⟩
theorem dt_chain {c : Expr} {op op' : CmpOp} {r r' : R2} {g g' : G2} (o : OpD X C (compareOp op) r g) (o' : OpD X C (compareOp op') r' g') (ha : DP X C a ta wa) (hb : DP X C b tb wb) (hc : DP X C c tc wc) (hm : lastMarks [op, op'] [b, c] = false := by with_unfolding_all rfl) :
    DT X C (.Compare a [op, op'] [b, c] pos) (tTest (tChain r r' ta tb tc)) (wTest (wChain g g' wa wb wc)) := ⟨pt_chain o.op o'.op ha.pe hb.pe hc.pe hm, it_test (ie_chain o.rd o'.rd ha.ip hb.ip hc.ip)⟩
def wAnd (u v : WT) : WT := fun s Q => u s fun b s1 => if b = true then v s1 Q else Q false s1
def wOr (u v : WT) : WT := fun s Q => u s fun b s1 => if b = true then Q true s1 else v s1 Q
def wNot (u : WT) : WT := fun s Q => u s fun b s1 => Q (!b) s1
theorem it_and {t u : TT} {w v : WT} (h : IT C t w) (h2 : IT C u v) : IT C (tAnd t u) (wAnd w v) := fun G σ H s Q Q' r q k => h G σ H s _ _ r q fun b s1 G1 H1 q1 r1 eg eh => by
  cases b with
  | false =>
    rw [if_neg (by decide)] at q1
    exact iteF (k false s1 G1 H1 q1 r1 eg eh)
  | true =>
    rw [if_pos rfl] at q1
    exact iteT (h2 G1 σ H1 s1 _ _ r1 q1 fun b s2 G2 H2 q2 r2 eg2 eh2 => k b s2 G2 H2 q2 r2 (eg.trans eg2) (eh.trans eh2))
theorem it_or {t u : TT} {w v : WT} (h : IT C t w) (h2 : IT C u v) : IT C (tOr t u) (wOr w v) := fun G σ H s Q Q' r q k => h G σ H s _ _ r q fun b s1 G1 H1 q1 r1 eg eh => by
  cases b with
  | true =>
    rw [if_pos rfl] at q1
    exact iteT (k true s1 G1 H1 q1 r1 eg eh)
  | false =>
    rw [if_neg (by decide)] at q1
    exact iteF (h2 G1 σ H1 s1 _ _ r1 q1 fun b s2 G2 H2 q2 r2 eg2 eh2 => k b s2 G2 H2 q2 r2 (eg.trans eg2) (eh.trans eh2))
theorem it_not {t : TT} {w : WT} (h : IT C t w) : IT C (tNot t) (wNot w) := fun G σ H s Q Q' r q k => h G σ H s _ _ r q fun b s1 G1 H1 q1 r1 eg eh => k (!b) s1 G1 H1 q1 r1 eg eh
variable {rest : List Expr} {tA' tB' : TT} {wA' wB' : WT}
theorem dw_and1 (h : DT X C a tA' wA') : DW X C (.BoolOp .And [a] pos) tA' wA' := ⟨pw_and1 h.pt, h.it⟩
theorem dw_or1 (h : DT X C a tA' wA') : DW X C (.BoolOp .Or [a] pos) tA' wA' := ⟨pw_or1 h.pt, h.it⟩
theorem dw_and (h : DT X C a tA' wA') (h2 : DW X C (.BoolOp .And (b :: rest) pos) tB' wB') : DW X C (.BoolOp .And (a :: b :: rest) pos) (tAnd tA' tB') (wAnd wA' wB') := ⟨pw_and h.pt h2.pw, it_and h.it h2.it⟩
theorem dw_or (h : DT X C a tA' wA') (h2 : DW X C (.BoolOp .Or (b :: rest) pos) tB' wB') : DW X C (.BoolOp .Or (a :: b :: rest) pos) (tOr tA' tB') (wOr wA' wB') := ⟨pw_or h.pt h2.pw, it_or h.it h2.it⟩
theorem dt_not (h : DT X C a tA' wA') : DT X C (.UnaryOp .Not a pos) (tNot tA') (wNot wA') := ⟨pt_not h.pt, it_not h.it⟩
def wAndV (u v : WE) : WE := fun s Q => u s fun d s1 => ∃ b, d = .bool b ∧ if b = true then v s1 Q else Q (.bool false) s1
def wOrV (u v : WE) : WE := fun s Q => u s fun d s1 => ∃ b, d = .bool b ∧ if b = true then Q (.bool true) s1 else v s1 Q
def wNotV (u : WE) : WE := fun s Q => u s fun d s1 => ∃ b, d = .bool b ∧ Q (.bool (!b)) s1
theorem ie_andV (h : IE C ta wa) (h2 : IE C tb wb) : IE C (tAndV ta tb) (wAndV wa wb) := fun G σ H s Q Q' r q k => h G σ H s _ _ r q fun v d s1 G1 H1 q1 r1 eg eh p => by
  obtain ⟨b, rfl, q1⟩ := q1
  refine ⟨b, dp_bl p, ?_⟩
  cases b with
  | false =>
    rw [if_neg (by decide)] at q1
    exact iteF (k _ _ s1 G1 H1 q1 r1 eg eh (.bl _))
  | true =>
    rw [if_pos rfl] at q1
    exact iteT (h2 G1 σ H1 s1 _ _ r1 q1 fun v d s2 G2 H2 q2 r2 eg2 eh2 p2 => k v d s2 G2 H2 q2 r2 (eg.trans eg2) (eh.trans eh2) p2)
theorem ie_notV (h : IE C ta wa) : IE C (tNotV ta) (wNotV wa) := fun G σ H s Q Q' r q k => h G σ H s _ _ r q fun v d s1 G1 H1 q1 r1 eg eh p => by
  obtain ⟨b, rfl, q1⟩ := q1
  exact ⟨b, dp_bl p, k _ _ s1 G1 H1 q1 r1 eg eh (.bl _)⟩
theorem de_one {op} (h : DE X C a t w) : DE X C (.BoolOp op [a] pos) t w := ⟨pe_one h.pe, h.ie⟩
theorem de_and (h : DE X C a ta wa) (h2 : DE X C (.BoolOp .And (b :: rest) pos) tb wb) : DE X C (.BoolOp .And (a :: b :: rest) pos) (tAndV ta tb) (wAndV wa wb) := ⟨pe_and h.pe h2.pe, ie_andV h.ie h2.ie⟩
theorem de_not (h : DE X C a t w) : DE X C (.UnaryOp .Not a pos) (tNotV t) (wNotV w) := ⟨pe_not h.pe, ie_notV h.ie⟩
def wIf (c : WT) (u v : WE) : WE := fun s Q => c s fun b s1 => if b = true then u s1 Q else v s1 Q
theorem de_if {c : Expr} (hc : DT X C c tA' wA') (h : DE X C a ta wa) (h2 : DE X C b tb wb) : DE X C (.IfExp c a b pos) (tIf tA' ta tb) (wIf wA' wa wb) := ⟨pe_ifExp hc.pt h.pe h2.pe, fun G σ H s Q Q' r q k =>
  hc.it G σ H s _ _ r q fun bb s1 G1 H1 q1 r1 eg eh => by
    cases bb with
    | true =>
      rw [if_pos rfl] at q1
      exact iteT (h.ie G1 σ H1 s1 _ _ r1 q1 fun v d s2 G2 H2 q2 r2 eg2 eh2 p2 => k v d s2 G2 H2 q2 r2 (eg.trans eg2) (eh.trans eh2) p2)
    | false =>
      rw [if_neg (by decide)] at q1
      exact iteF (h2.ie G1 σ H1 s1 _ _ r1 q1 fun v d s2 G2 H2 q2 r2 eg2 eh2 p2 => k v d s2 G2 H2 q2 r2 (eg.trans eg2) (eh.trans eh2) p2)⟩
/-- truth of a list, tuple, text, int, None -/
def truD : PyData → Option Bool
  | .none => some false
  | .bool b => some b
  | .int i => some (i != 0)
  | .str y => if y.length ≤ 100000 then some ((y.length : Int) != 0) else none
  | .list ds => some (!ds.isEmpty)
  | .tuple ds => some (!ds.isEmpty)
  | .dict _ => none
theorem dpa_emp {K : PySem.W.Frag} {H : Hp} {xs : List V} {ds : List PyData} (h : DpAll K H xs ds) : xs.isEmpty = ds.isEmpty := by
  cases h <;> rfl
def wTru (w : WE) : WT := fun s Q => w s fun d s1 => ∃ k, truD d = some k ∧ Q k s1
theorem dt_tru (hK : X.K = C.K) (h : DP X C e t w) (he : ∀ whole, isTrue e X.env whole = (do let v ← whole; standAt e.pos; holding [v] (truthy v)) := by intro _; rfl) : DT X C e (fun σ H Q => t σ H fun x H' => ∃ k, TruV C.K x H' k ∧ Q k H') (wTru w) :=
  ⟨hK ▸ pt_truth h.pe he, fun G σ H s Q Q' r q k => h.ip G σ H s _ _ r q fun v d s1 G1 H1 q1 r1 eg eh p => by
    obtain ⟨b, hb, q1⟩ := q1
    refine ⟨b, ?_, k b s1 G1 H1 q1 r1 eg eh⟩
    have hd := p.dp r1.fin.gh
    cases d with
    | none => cases hd; cases hb; rfl
    | bool _ => cases hd; cases hb; rfl
    | int _ => cases hd; cases hb; rfl
    | str y =>
      cases hd
      have hb' : (if y.length ≤ 100000 then some ((y.length : Int) != 0) else none) = some b := hb
      split at hb'
      · rename_i hy
        cases hb'
        exact ⟨sz_of hy, rfl⟩
      · cases hb'
    | list ds =>
      cases hd with
      | lst h1 h2 =>
        cases hb
        exact .inl ⟨_, .inl (.inl h1), by rw [dpa_emp h2]⟩
    | tuple ds =>
      cases hd with
      | tup h1 h2 =>
        cases hb
        exact .inr (.inl ⟨_, h1, by rw [dpa_emp h2]⟩)
    | dict _ => cases hb⟩
end
def gI0 (f : Int → Int → PyData) : G2 := fun d e s Q => ∃ i j, d = .int i ∧ e = .int j ∧ Q (f i j) s
def gI (P : Int → Int → Prop) (f : Int → Int → PyData) : G2 := fun d e s Q => ∃ i j, d = .int i ∧ e = .int j ∧ P i j ∧ Q (f i j) s
section
variable {X : Cx} {C : Ct}
theorem pk_int {G H : Hp} {v : V} {i : Int} (h : Pk C G H v (.int i)) : v = .int i := by
  rcases h with h | ⟨_, _, _, _, h, _⟩
  · exact dp_int h
  · cases h
theorem pk_str {G H : Hp} {v : V} {i : Str} (h : Pk C G H v (.str i)) : v = .str i := by
  rcases h with h | ⟨_, _, _, _, h, _⟩
  · exact dp_str h
  · cases h
theorem pk_bl {G H : Hp} {v : V} {i : Bool} (h : Pk C G H v (.bool i)) : v = .bl i := by
  rcases h with h | ⟨_, _, _, _, h, _⟩
  · exact dp_bl h
  · cases h
theorem r2_I0 {f : Int → Int → V} {g : Int → Int → PyData} (hg : ∀ G i j, Dp C.K G (f i j) (g i j)) : R2D C (rI0 f) (gI0 g) := ⟨fun G σ H s x y d e Q Q' r p1 p2 q k => by
  obtain ⟨i, j, rfl, rfl, q⟩ := q
  exact ⟨i, j, pk_int p1, pk_int p2, k _ _ s G H q r (Ex.refl G) Gs.refl (hg _ _ _)⟩⟩
theorem r2_I {P : Int → Int → Prop} {f : Int → Int → V} {g : Int → Int → PyData} (hg : ∀ G i j, Dp C.K G (f i j) (g i j)) : R2D C (rI P f) (gI P g) := ⟨fun G σ H s x y d e Q Q' r p1 p2 q k => by
  obtain ⟨i, j, rfl, rfl, hc, q⟩ := q
  exact ⟨i, j, pk_int p1, pk_int p2, hc, k _ _ s G H q r (Ex.refl G) Gs.refl (hg _ _ _)⟩⟩
theorem o_add : OpD X C (binaryOp .Add) (rI0 fun i j => .int (i + j)) (gI0 fun i j => .int (i + j)) := ⟨op_add, r2_I0 fun _ _ _ => .int _⟩
theorem o_sub : OpD X C (binaryOp .Sub) (rI0 fun i j => .int (i - j)) (gI0 fun i j => .int (i - j)) := ⟨op_sub, r2_I0 fun _ _ _ => .int _⟩
theorem o_mul : OpD X C (binaryOp .Mult) (rI CMul fun i j => .int (i * j)) (gI CMul fun i j => .int (i * j)) := ⟨op_mul, r2_I fun _ _ _ => .int _⟩
theorem o_pow : OpD X C (binaryOp .Pow) (rI CPow fun i j => .int (i ^ j.toNat)) (gI CPow fun i j => .int (i ^ j.toNat)) := ⟨op_pow, r2_I fun _ _ _ => .int _⟩
theorem o_lt : OpD X C (compareOp .Lt) (rI0 fun i j => .bl (decide (i < j))) (gI0 fun i j => .bool (decide (i < j))) := ⟨op_lt, r2_I0 fun _ _ _ => .bl _⟩
theorem o_le : OpD X C (compareOp .LtE) (rI0 fun i j => .bl (decide (i ≤ j))) (gI0 fun i j => .bool (decide (i ≤ j))) := ⟨op_le, r2_I0 fun _ _ _ => .bl _⟩
theorem o_gt : OpD X C (compareOp .Gt) (rI0 fun i j => .bl (decide (j < i))) (gI0 fun i j => .bool (decide (j < i))) := ⟨op_gt, r2_I0 fun _ _ _ => .bl _⟩
theorem o_ge : OpD X C (compareOp .GtE) (rI0 fun i j => .bl (decide (j ≤ i))) (gI0 fun i j => .bool (decide (j ≤ i))) := ⟨op_ge, r2_I0 fun _ _ _ => .bl _⟩
/-- == and != of data -/
def Shp (d : PyData) : Prop := SeqAt.shaped d = true
def gEq : G2 := fun d e s Q => Shp d ∧ Shp e ∧ Q (.bool (PyData.eqv d e)) s
def gNe : G2 := fun d e s Q => Shp d ∧ Shp e ∧ Q (.bool (!PyData.eqv d e)) s
theorem o_eq (hK : X.K = C.K) (hu : X.A.units + 64 < cLine) : OpD X C (compareOp .Eq) (rEqD C.K) gEq := ⟨hK ▸ op_eqD hu, ⟨fun G σ H s x y d e Q Q' r p1 p2 q k => ⟨d, e, p1.dp r.fin.gh, p2.dp r.fin.gh, q.1, q.2.1, k _ _ s G H q.2.2 r (Ex.refl G) Gs.refl (.bl _)⟩⟩⟩
theorem o_ne (hK : X.K = C.K) (hu : X.A.units + 64 < cLine) : OpD X C (compareOp .NotEq) (rNeD C.K) gNe := ⟨hK ▸ op_neD hu, ⟨fun G σ H s x y d e Q Q' r p1 p2 q k => ⟨d, e, p1.dp r.fin.gh, p2.dp r.fin.gh, q.1, q.2.1, k _ _ s G H q.2.2 r (Ex.refl G) Gs.refl (.bl _)⟩⟩⟩
/-- in, not in a list or a tuple of data -/
def rInB (K : PySem.W.Frag) (neg : Bool) : R2 := fun x y H Q => ∃ d e, Dp K H x d ∧ Dp K H y e ∧ seqd e = true ∧ Shp d ∧ Shp e ∧ Q (.bl (neg ^^ (its e).any fun z => PyData.eqv z d)) H
theorem shp_room {d e : PyData} {A : Around} (hd : Shp d) (hu : A.units + 65 < cLine) (ds : List PyData) : A.units + 1 + min (PyData.depthAll ds) d.depth < cLine := by
  have h1 := SeqAt.depth_of_shaped hd
  have h2 : min (PyData.depthAll ds) d.depth ≤ d.depth := Nat.min_le_right _ _
  omega
theorem op_inB (hu : X.A.units + 65 < cLine) : OpR X (compareOp .In) (rInB X.K false) := by
  intro pins s σ H x y v u Q I rx ry h
  obtain ⟨d, e, hd, he, hs, sd, se, q⟩ := h
  obtain ⟨as, r1⟩ := Dp.reads I d x v hd rx
  obtain ⟨bs, r2⟩ := Dp.reads I e y u he ry
  rw [Bool.false_xor] at q
  cases e with
  | list ds => exact SeqAt.in_list_reads r2 r1 (SeqAt.canLay_of_shaped se) (SeqAt.canLay_of_shaped sd) (shp_room (e := d) sd hu ds) ⟨.bl _, H, I, rfl, q⟩
  | tuple ds => exact SeqAt.in_tuple_reads r2 r1 (SeqAt.canLay_of_shaped se) (SeqAt.canLay_of_shaped sd) (shp_room (e := d) sd hu ds) ⟨.bl _, H, I, rfl, q⟩
  | _ => cases hs
def gIn (neg : Bool) : G2 := fun d e s Q => seqd e = true ∧ Shp d ∧ Shp e ∧ Q (.bool (neg ^^ (its e).any fun z => PyData.eqv z d)) s
theorem r2_in {neg : Bool} : R2D C (rInB C.K neg) (gIn neg) := ⟨fun G σ H s x y d e Q Q' r p1 p2 q k => ⟨d, e, p1.dp r.fin.gh, p2.dp r.fin.gh, q.1, q.2.1, q.2.2.1, k _ _ s G H q.2.2.2 r (Ex.refl G) Gs.refl (.bl _)⟩⟩
theorem o_in (hK : X.K = C.K) (hu : X.A.units + 65 < cLine) : OpD X C (compareOp .In) (rInB C.K false) (gIn false) := ⟨hK ▸ op_inB hu, r2_in⟩
/-- is None, is not None, is of bools -/
def isNone : PyData → Bool
  | .none => true
  | _ => false
theorem pk_none {G H : Hp} {v : V} {d : PyData} (h : Pk C G H v d) : decide (v = .non) = isNone d := by
  rcases h with h | ⟨_, _, _, rfl, rfl, _⟩
  · cases h <;> rfl
  · rfl
def gIsN : G2 := fun d e s Q => e = .none ∧ Q (.bool (isNone d)) s
def gNotN : G2 := fun d e s Q => e = .none ∧ Q (.bool (!isNone d)) s
theorem pk_non {G H : Hp} {v : V} (h : Pk C G H v .none) : v = .non := by
  rcases h with h | ⟨_, _, _, _, h, _⟩
  · cases h; rfl
  · cases h
theorem o_isN : OpD X C (compareOp .Is) (fun x y H Q => y = .non ∧ Q (.bl (decide (x = .non))) H) gIsN := ⟨op_isN, ⟨fun G σ H s x y d e Q Q' r p1 p2 q k => by
  obtain ⟨rfl, q⟩ := q
  refine ⟨pk_non p2, ?_⟩
  rw [pk_none p1]
  exact k _ _ s G H q r (Ex.refl G) Gs.refl (.bl _)⟩⟩
def gIsB : G2 := fun d e s Q => ∃ a b, d = .bool a ∧ e = .bool b ∧ Q (.bool (decide (a = b))) s
def gNotB : G2 := fun d e s Q => ∃ a b, d = .bool a ∧ e = .bool b ∧ Q (.bool (!decide (a = b))) s
theorem o_isB : OpD X C (compareOp .Is) rIsB gIsB := ⟨op_isBl, ⟨fun G σ H s x y d e Q Q' r p1 p2 q k => by
  obtain ⟨a, b, rfl, rfl, q⟩ := q
  exact ⟨a, b, pk_bl p1, pk_bl p2, k _ _ s G H q r (Ex.refl G) Gs.refl (.bl _)⟩⟩⟩
/-- tuple + tuple -/
def gCatT : G2 := fun d e s Q => ∃ ds es, d = .tuple ds ∧ e = .tuple es ∧ ds.length + es.length ≤ 100000 ∧ Q (.tuple (ds ++ es)) s
theorem pk_tup {G H : Hp} {v : V} {ds : List PyData} (h : Pk C G H v (.tuple ds)) : ∃ p xs, v = .ref p ∧ SqT C.K G p xs ∧ DpAll C.K G xs ds := by
  rcases h with h | ⟨_, _, _, _, h, _⟩
  · cases h with
    | tup h1 h2 => exact ⟨_, _, rfl, h1, h2⟩
  · cases h
/-- text + text -/
def gCatS : G2 := fun d e s Q => ∃ i j, d = .str i ∧ e = .str j ∧ i.length + j.length ≤ 100000 ∧ Q (.str (i ++ j)) s
/-- s[i], a list or a tuple -/
def gIx : G2 := fun d e s Q => ∃ i z, seqd d = true ∧ e = .int i ∧ atI (its d) i = some z ∧ Q z s
theorem r2_ix : R2D C (rIxB C.K) gIx := ⟨fun G σ H s x y d e Q Q' r p1 p2 q k => by
  obtain ⟨i, z, hs, rfl, ha, q⟩ := q
  obtain ⟨p, xs, rfl, h1, h2⟩ := p1.seq r.fin.gh hs
  obtain ⟨v, hv, pv⟩ := atI_dpa h2 ha
  exact ⟨isT d, p, xs, i, v, rfl, pk_int p2, h1, hv, k _ _ s G H q r (Ex.refl G) Gs.refl pv⟩⟩
variable {a b e : Expr} {es : List Expr} {pos : Pos} {t ta tb tc : TE} {w wa wb wc : WE} {tA : TA} {wA : WA}
theorem de_ix (hK : X.K = C.K) (ha : DP X C a ta wa) (hb : DP X C b tb wb) (hs : PlainIx b := by exact fun _ _ => rfl) : DE X C (.Subscript a b pos) (tOp (rIxB C.K) ta tb) (w2 gIx wa wb) := ⟨pe_ix (hK ▸ ix_B) ha.pe hb.pe hs, ie_op2 r2_ix.run ha.ip hb.ip⟩
def wCat (u v : WA) : WA := fun s Q => u s fun ds s1 => v s1 fun es s2 => ds.length + es.length ≤ 100000 ∧ Q (ds ++ es) s2
def wRep (u : WA) (v : WE) : WA := fun s Q => u s fun ds s1 => v s1 fun e s2 => ∃ k : Nat, e = .int k ∧ ds.length * k ≤ 100000 ∧ k ≤ 100000 ∧ Q (List.replicate k ds).flatten s2
end
end Dw
namespace Dw
open PySem PySem.Spec PyProof.Rows L2 OgR Evl
abbrev G1 := PyData → Dt → (PyData → Dt → Prop) → Prop
structure R1D (C : Ct) (r : List V → Hp → VK → Prop) (g : G1) : Prop where
  run : ∀ G σ H s x d Q Q', Rel C G σ H s → Pk C G H x d → g d s Q → (∀ v z s' G' H', Q z s' → Rel C G' σ H' s' → Ex G G' → Gs C σ G H s G' H' s' → Dp C.K G' v z → Q' v H') → r [x] H Q'
/-- .. that give a new list -/
structure R1O (C : Ct) (r : List V → Hp → VK → Prop) (g : PyData → Dt → (List PyData → Dt → Prop) → Prop) : Prop where
  run : ∀ G σ H s x d Q Q', Rel C G σ H s → Pk C G H x d → g d s Q → (∀ vs ds p, Q ds s → DpAll C.K G vs ds → H p = none → Q' (.ref p) (upd H p (.lst vs))) → r [x] H Q'
def w1 (g : G1) (wa : WE) : WE := fun s Q => wa s fun d s1 => g d s1 Q
def w1O (g : PyData → Dt → (List PyData → Dt → Prop) → Prop) (wa : WE) : WA := fun s Q => wa s fun d s1 => g d s1 Q
section
variable {X : Cx} {C : Ct} {a b e : Expr} {es : List Expr} {pos p : Pos} {t ta tb tc : TE} {w wa wb wc : WE} {tA : TA} {wA : WA} {x : Str} {bid : String} {r : List V → Hp → VK → Prop} {g : G1} {gO : PyData → Dt → (List PyData → Dt → Prop) → Prop}
theorem ie_1 (hr : R1D C r g) (ha : IP C ta wa) : IE C (tCB r (tCons ta tNil)) (w1 g wa) := fun G σ H s Q Q' rr q k => ha G σ H s _ _ rr q fun v d s1 G1 H1 q1 r1 eg eh pk =>
  hr.run G1 σ H1 s1 v d _ _ r1 pk q1 fun v2 z s2 G2 H2 q2 r2 eg2 eh2 p2 => k v2 z s2 G2 H2 q2 r2 (eg.trans eg2) (eh.trans eh2) p2
theorem io_1 (hr : R1O C r gO) (ha : IP C ta wa) : IO C (tCB r (tCons ta tNil)) (w1O gO wa) := fun G σ H s Q Q' rr q k => ha G σ H s _ _ rr q fun v d s1 G1 H1 q1 r1 eg eh pk =>
  hr.run G1 σ H1 s1 v d _ _ r1 pk q1 fun vs ds p q2 hd hp => own_new rr q2 r1 eg eh hd hp k
theorem de_b1 (hc : CallR X (.builtin bid) r) (hr : R1D C r g) (hg : Gl X x) (hm : X.mg x = none) (hv : bootBuiltins x = some (.builtin bid)) (ha : DP X C a ta wa) (hn : x ≠ "__name__" := by decide) (hdb : (x == ("__debug__" : Str)) = false := by decide)
    (hs : starEach [a] X.env = (false, eval a X.env) :: starEach [] X.env := by rfl) : DE X C (.Call (.Name x p) [a] [] pos) (tCB r (tCons ta tNil)) (w1 g wa) := ⟨pe_callB hc hg hm hv (pa_cons ha.pe pa_nil hs) hn hdb hs, ie_1 hr ha.ip⟩
theorem de_t1 (hc : CallR X (.type bid) r) (hr : R1D C r g) (hg : Gl X x) (hm : X.mg x = none) (hv : bootBuiltins x = some (.type bid)) (ha : DP X C a ta wa) (hn : x ≠ "__name__" := by decide) (hdb : (x == ("__debug__" : Str)) = false := by decide)
    (hs : starEach [a] X.env = (false, eval a X.env) :: starEach [] X.env := by rfl) : DE X C (.Call (.Name x p) [a] [] pos) (tCB r (tCons ta tNil)) (w1 g wa) := ⟨pe_callTy hc hg hm hv (pa_cons ha.pe pa_nil hs) hn hdb hs, ie_1 hr ha.ip⟩
theorem do_b1 (hc : CallR X (.builtin bid) r) (hr : R1O C r gO) (hg : Gl X x) (hm : X.mg x = none) (hv : bootBuiltins x = some (.builtin bid)) (ha : DP X C a ta wa) (hn : x ≠ "__name__" := by decide) (hdb : (x == ("__debug__" : Str)) = false := by decide)
    (hs : starEach [a] X.env = (false, eval a X.env) :: starEach [] X.env := by rfl) : DO X C (.Call (.Name x p) [a] [] pos) (tCB r (tCons ta tNil)) (w1O gO wa) := ⟨pe_callB hc hg hm hv (pa_cons ha.pe pa_nil hs) hn hdb hs, io_1 hr ha.ip⟩
theorem do_t1 (hc : CallR X (.type bid) r) (hr : R1O C r gO) (hg : Gl X x) (hm : X.mg x = none) (hv : bootBuiltins x = some (.type bid)) (ha : DP X C a ta wa) (hn : x ≠ "__name__" := by decide) (hdb : (x == ("__debug__" : Str)) = false := by decide)
    (hs : starEach [a] X.env = (false, eval a X.env) :: starEach [] X.env := by rfl) : DO X C (.Call (.Name x p) [a] [] pos) (tCB r (tCons ta tNil)) (w1O gO wa) := ⟨pe_callTy hc hg hm hv (pa_cons ha.pe pa_nil hs) hn hdb hs, io_1 hr ha.ip⟩
def lenD : PyData → Option Nat
  | .list ds => some ds.length
  | .tuple ds => some ds.length
  | .str z => if z.length ≤ 100000 then some z.length else none
  | _ => none
def gLen : G1 := fun d s Q => ∃ n : Nat, lenD d = some n ∧ Q (.int n) s
theorem r1_len : R1D C (fun xs H Q => ∃ x n, xs = [x] ∧ LenV C.K x H n ∧ Q (.int n) H) gLen := ⟨fun G σ H s x d Q Q' r pk q k => by
  obtain ⟨n, hn, q⟩ := q
  refine ⟨x, n, rfl, ?_, k _ _ s G H q r (Ex.refl G) Gs.refl (.int _)⟩
  have hd := pk.dp r.fin.gh
  cases d with
  | list ds =>
    cases hd with
    | lst h1 h2 => cases hn; exact .inl ⟨_, .inl (.inl h1), (dpa_len h2).symm⟩
  | tuple ds =>
    cases hd with
    | tup h1 h2 => cases hn; exact .inr ⟨_, h1, (dpa_len h2).symm⟩
  | str z =>
    cases hd
    have hb' : (if z.length ≤ 100000 then some z.length else none) = some n := hn
    split at hb'
    · rename_i hy
      cases hb'
      exact ⟨sz_of hy, rfl⟩
    · cases hb'
  | none => cases hn
  | bool _ => cases hn
  | int _ => cases hn
  | dict _ => cases hn⟩
theorem de_len (hK : X.K = C.K) (hg : Gl X "len") (hm : X.mg "len" = none) (ha : DP X C a ta wa) (hs : starEach [a] X.env = (false, eval a X.env) :: starEach [] X.env := by rfl) :
    DE X C (.Call (.Name "len" p) [a] [] pos) (tCB (fun xs H Q => ∃ x n, xs = [x] ∧ LenV C.K x H n ∧ Q (.int n) H) (tCons ta tNil)) (w1 gLen wa) := de_b1 (hK ▸ call_len) r1_len hg hm PySem.boot_len ha (by decide) (by decide) hs
def gTupleOf : G1 := fun d s Q => seqd d = true ∧ Q (.tuple (its d)) s
def rTupleOf (K : PySem.W.Frag) : List V → Hp → VK → Prop := fun xs H Q => ∃ p ys, xs = [.ref p] ∧ ((SqL K H p ys ∧ ∀ l, H l = none → Q (.ref l) (upd H l (.tup ys))) ∨ (SqT K H p ys ∧ Q (.ref p) H))
theorem r1_tupleOf : R1D C (rTupleOf C.K) gTupleOf := ⟨fun G σ H s x d Q Q' r pk q k => by
  obtain ⟨hs, q⟩ := q
  obtain ⟨p, xs, rfl, h1, h2⟩ := pk.seq r.fin.gh hs
  refine ⟨p, xs, rfl, ?_⟩
  cases d with
  | list ds =>
    refine .inl ⟨h1, fun l hl => ?_⟩
    obtain ⟨r2, eg, eh⟩ := r.new (o := .tup xs) hl
    exact k _ _ s _ _ q r2 eg eh (.tup (.inl (.inl upd_same)) (dpa_ex eg h2))
  | tuple ds =>
    obtain ⟨p', xs', e, h3, h4⟩ := pk_tup pk
    cases e
    exact .inr ⟨h1, k _ _ s G H q r (Ex.refl G) Gs.refl (.tup h3 h4)⟩
  | _ => cases hs⟩
theorem de_tupleOf (hK : X.K = C.K) (hg : Gl X "tuple") (hm : X.mg "tuple" = none) (ha : DP X C a ta wa) (hs : starEach [a] X.env = (false, eval a X.env) :: starEach [] X.env := by rfl) :
    DE X C (.Call (.Name "tuple" p) [a] [] pos) (tCB (rTupleOf C.K) (tCons ta tNil)) (w1 gTupleOf wa) := de_t1 (hK ▸ call_tuple_of) r1_tupleOf hg hm (by decide +kernel) ha (by decide) (by decide) hs
def gListOf : PyData → Dt → (List PyData → Dt → Prop) → Prop := fun d s Q => seqd d = true ∧ Q (its d) s
def rListOf (K : PySem.W.Frag) : List V → Hp → VK → Prop := fun xs H Q => ∃ p ys, xs = [.ref p] ∧ (SqL K H p ys ∨ SqT K H p ys) ∧ ∀ l, H l = none → Q (.ref l) (upd H l (.lst ys))
theorem r1_listOf : R1O C (rListOf C.K) gListOf := ⟨fun G σ H s x d Q Q' r pk q k => by
  obtain ⟨hs, q⟩ := q
  obtain ⟨p, xs, rfl, h1, h2⟩ := pk.seq r.fin.gh hs
  refine ⟨p, xs, rfl, ?_, fun l hl => k xs _ l q h2 hl⟩
  cases d with
  | list ds => exact .inl h1
  | tuple ds => exact .inr h1
  | _ => cases hs⟩
theorem do_listOf (hK : X.K = C.K) (hg : Gl X "list") (hm : X.mg "list" = none) (ha : DP X C a ta wa) (hs : starEach [a] X.env = (false, eval a X.env) :: starEach [] X.env := by rfl) :
    DO X C (.Call (.Name "list" p) [a] [] pos) (tCB (rListOf C.K) (tCons ta tNil)) (w1O gListOf wa) := do_t1 (hK ▸ call_list_of) r1_listOf hg hm (by decide +kernel) ha (by decide) (by decide) hs
/-- list(range(n)) -/
def iotaD (a b : Int) : List PyData := (List.range (b - a).toNat).map fun (i : Nat) => .int (a + (i : Nat))
theorem dpa_iota {K : PySem.W.Frag} {H : Hp} (a b : Int) : DpAll K H (rgV a b) (iotaD a b) := by
  unfold rgV iotaD
  generalize List.range (b - a).toNat = l
  induction l with
  | nil => exact .nil
  | cons x l ih => exact .cons (.int _) ih
def wRg1 (wa : WE) : WA := fun s Q => wa s fun d s1 => ∃ n : Int, d = .int n ∧ 0 ≤ n ∧ n ≤ 100000 ∧ Q (iotaD 0 n) s1
theorem do_listRg {p2 pos2 : Pos} (hc : X.calm = true) (hg : Gl X "list") (hm : X.mg "list" = none) (hg2 : Gl X "range") (hm2 : X.mg "range" = none) (ha : DE X C a ta wa) (hs : starEach [a] X.env = (false, eval a X.env) :: starEach [] X.env := by rfl)
    (hs2 : starEach [.Call (.Name "range" p2) [a] [] pos2] X.env = (false, eval (.Call (.Name "range" p2) [a] [] pos2) X.env) :: starEach [] X.env := by rfl) :
    DO X C (.Call (.Name "list" p) [.Call (.Name "range" p2) [a] [] pos2] [] pos) (tLstRg (tRg1 ta)) (wRg1 wa) := ⟨pe_listRg hc hg hm (prg_1 hg2 hm2 ha.pe hs) hs2, fun G σ H s Q Q' r q k =>
  ha.ie G σ H s _ _ r q fun v d s1 G1 H1 q1 r1 eg eh p => by
    obtain ⟨n, rfl, h0, h1, q1⟩ := q1
    exact ⟨n, dp_int p, RgOk.of_le (by decide) (by omega) (by decide) h0, fun l hl => own_new r q1 r1 eg eh (dpa_iota 0 n) hl k⟩⟩
theorem pk_lst {G H : Hp} {v : V} {ds : List PyData} (h : Pk C G H v (.list ds)) (e : Ex G H) : ∃ p xs, v = .ref p ∧ SqL C.K H p xs ∧ DpAll C.K G xs ds := h.seq e rfl
theorem bls_dpa {K : PySem.W.Frag} {H : Hp} : ∀ {ns : List Bool} {xs : List V}, DpAll K H xs (ns.map PyData.bool) → xs = ns.map V.bl
  | [], _, .nil => rfl
  | _ :: _, _, .cons h t => by
    cases h
    rw [bls_dpa t]
    rfl
def gAll : G1 := fun d s Q => ∃ bs : List Bool, d = .list (bs.map .bool) ∧ Q (.bool (bs.all id)) s
theorem r1_all : R1D C (rAll C.K) gAll := ⟨fun G σ H s x d Q Q' r pk q k => by
  obtain ⟨ns, rfl, q⟩ := q
  obtain ⟨p, xs, rfl, h1, h2⟩ := pk_lst pk r.fin.gh
  rw [bls_dpa h2] at h1
  exact ⟨p, ns, rfl, h1, k _ _ s G H q r (Ex.refl G) Gs.refl (.bl _)⟩⟩
theorem de_all (hK : X.K = C.K) (hc : X.calm = true) (hg : Gl X "all") (hm : X.mg "all" = none) (ha : DP X C a ta wa) (hs : starEach [a] X.env = (false, eval a X.env) :: starEach [] X.env := by rfl) :
    DE X C (.Call (.Name "all" p) [a] [] pos) (tCB (rAll C.K) (tCons ta tNil)) (w1 gAll wa) := de_b1 (hK ▸ cr_all hc) r1_all hg hm (by decide +kernel) ha (by decide) (by decide) hs
def gInt : G1 := fun d s Q => (∃ i, d = .int i ∧ Q (.int i) s) ∨ ∃ b, d = .bool b ∧ Q (.int (if b then 1 else 0)) s
theorem r1_int : R1D C (fun xs H Q => (∃ i, xs = [.int i] ∧ Q (.int i) H) ∨ ∃ k, xs = [.bl k] ∧ Q (.int (if k then 1 else 0)) H) gInt := ⟨fun G σ H s x d Q Q' r pk q k => by
  rcases q with ⟨i, rfl, q⟩ | ⟨b, rfl, q⟩
  · exact .inl ⟨i, by rw [pk_int pk], k _ _ s G H q r (Ex.refl G) Gs.refl (.int _)⟩
  · exact .inr ⟨b, by rw [pk_bl pk], k _ _ s G H q r (Ex.refl G) Gs.refl (.int _)⟩⟩
theorem de_toInt (hg : Gl X "int") (hm : X.mg "int" = none) (ha : DP X C a ta wa) (hs : starEach [a] X.env = (false, eval a X.env) :: starEach [] X.env := by rfl) :
    DE X C (.Call (.Name "int" p) [a] [] pos) (tCB (fun xs H Q => (∃ i, xs = [.int i] ∧ Q (.int i) H) ∨ ∃ k, xs = [.bl k] ∧ Q (.int (if k then 1 else 0)) H) (tCons ta tNil)) (w1 gInt wa) := de_t1 call_int1 r1_int hg hm (by decide +kernel) ha (by decide) (by decide) hs
def gStr : G1 := fun d s Q => ∃ i : Int, d = .int i ∧ i.natAbs < 2 ^ 1000 ∧ Q (.str (toString i)) s
theorem r1_str : R1D C (fun xs H Q => ∃ i : Int, xs = [.int i] ∧ i.natAbs.log2 < 1920 ∧ Q (.str (toString i)) H) gStr := ⟨fun G σ H s x d Q Q' r pk q k => by
  obtain ⟨i, rfl, hi, q⟩ := q
  refine ⟨i, by rw [pk_int pk], ?_, k _ _ s G H q r (Ex.refl G) Gs.refl (.str _)⟩
  by_cases hz : i.natAbs = 0
  · rw [hz]
    decide
  · exact (Nat.log2_lt hz).mpr (Nat.lt_of_lt_of_le hi (Nat.pow_le_pow_right (by decide) (by decide)))⟩
theorem de_toStr (hg : Gl X "str") (hm : X.mg "str" = none) (ha : DP X C a ta wa) (hs : starEach [a] X.env = (false, eval a X.env) :: starEach [] X.env := by rfl) :
    DE X C (.Call (.Name "str" p) [a] [] pos) (tCB (fun xs H Q => ∃ i : Int, xs = [.int i] ∧ i.natAbs.log2 < 1920 ∧ Q (.str (toString i)) H) (tCons ta tNil)) (w1 gStr wa) := de_t1 call_str_int r1_str hg hm (by decide +kernel) ha (by decide) (by decide) hs
/-- max(a, b), min(a, b) of ints -/
def w2a (g : G2) (wa wb : WE) : WE := fun s Q => wa s fun d s1 => wb s1 fun e s2 => g d e s2 Q
/-- sorted(s) of ints -/
def sortI (ns : List Int) : List Int := ns.mergeSort fun a b => decide (a ≤ b)
theorem perm_sorted_eq : ∀ {a b : List Int}, a.Perm b → a.Pairwise (· ≤ ·) → b.Pairwise (· ≤ ·) → a = b := by
  intro a b h ha hb
  exact h.eq_of_pairwise (le := (· ≤ ·)) (fun x y _ _ h1 h2 => Int.le_antisymm h1 h2) ha hb
theorem sortI_eq {ks ns : List Int} (h : ks.Perm ns) (hk : ks.Pairwise (· ≤ ·)) : ks = sortI ns := by
  refine perm_sorted_eq (h.trans (List.mergeSort_perm ns _).symm) hk ?_
  have := List.pairwise_mergeSort (le := fun a b : Int => decide (a ≤ b)) (fun a b c h1 h2 => by simp at *; omega) (fun a b => by simp; omega) ns
  exact this.imp fun h => by simpa using h
def gSorted : PyData → Dt → (List PyData → Dt → Prop) → Prop := fun d s Q => ∃ ns : List Int, seqd d = true ∧ its d = ns.map .int ∧ Q ((sortI ns).map .int) s
theorem r1_sorted : R1O C (rSrtB C.K) gSorted := ⟨fun G σ H s x d Q Q' r pk q k => by
  obtain ⟨ns, hs, he, q⟩ := q
  obtain ⟨p, xs, rfl, h1, h2⟩ := pk.seq r.fin.gh hs
  rw [he] at h2
  rw [ints_dpa h2] at h1
  refine ⟨isT d, p, ns, rfl, h1, fun ks l hp hk hl => ?_⟩
  rw [sortI_eq hp hk]
  exact k _ _ l q (dpa_ints _) hl⟩
theorem do_sorted (hK : X.K = C.K) (hg : Gl X "sorted") (hm : X.mg "sorted" = none) (ha : DP X C a ta wa) (hs : starEach [a] X.env = (false, eval a X.env) :: starEach [] X.env := by rfl) :
    DO X C (.Call (.Name "sorted" p) [a] [] pos) (tCB (rSrtB C.K) (tCons ta tNil)) (w1O gSorted wa) := do_b1 (hK ▸ cr_srtB) r1_sorted hg hm (by decide +kernel) ha (by decide) (by decide) hs
end
end Dw
namespace Dw
open PySem PySem.Spec PyProof.Rows L2 OgR Evl
theorem tyx_L {K : PySem.W.Frag} {H : Hp} {a : Addr} {xs : List V} (h : SqL K H a xs) : TyX K H (.ref a) (.type "list") := by
  rcases h with (h | ⟨o, h⟩) | ⟨o, _, _, hk, hc, _⟩
  · exact .base (.lst h)
  · exact .base (.frz h)
  · exact .kList hk hc
theorem tyx_T {K : PySem.W.Frag} {H : Hp} {a : Addr} {xs : List V} (h : SqT K H a xs) : TyX K H (.ref a) (.type "tuple") := by
  rcases h with (h | ⟨o, h⟩) | ⟨o, _, _, hk, hc, _⟩
  · exact .base (.tup h)
  · exact .fTuple h
  · exact .kTuple hk hc
def tyN : PyData → String
  | .none => "NoneType"
  | .bool _ => "bool"
  | .int _ => "int"
  | .str _ => "str"
  | .list _ => "list"
  | .tuple _ => "tuple"
  | .dict _ => "dict"
theorem tyx_D {K : PySem.W.Frag} {H : Hp} {v : V} {d : PyData} (h : Dp K H v d) : TyX K H v (.type (tyN d)) := by
  cases h with
  | non => exact .base .non
  | bl b => exact .base (.bl b)
  | int i => exact .base (.int i)
  | str x => exact .base (.str x)
  | lst h _ => exact tyx_L (.inl (.inl h))
  | tup h _ => exact tyx_T h
/-- whether data is of a built-in class -/
inductive Ty where
  | int | bool | str | list | tuple
def Ty.nm : Ty → String
  | .int => "int"
  | .bool => "bool"
  | .str => "str"
  | .list => "list"
  | .tuple => "tuple"
def isA : Ty → PyData → Bool
  | .int, .int _ => true
  | .int, .bool _ => true
  | .bool, .bool _ => true
  | .str, .str _ => true
  | .list, .list _ => true
  | .tuple, .tuple _ => true
  | _, _ => false
theorem kt (T : Ty) (d : PyData) : kitB (tyN d) T.nm = some (isA T d) := by
  cases T with
  | int =>
    cases d with
    | none => exact (show kitB "NoneType" "int" = some false by decide +kernel)
    | bool _ => exact (show kitB "bool" "int" = some true by decide +kernel)
    | int _ => exact (show kitB "int" "int" = some true by decide +kernel)
    | str _ => exact (show kitB "str" "int" = some false by decide +kernel)
    | list _ => exact (show kitB "list" "int" = some false by decide +kernel)
    | tuple _ => exact (show kitB "tuple" "int" = some false by decide +kernel)
    | dict _ => exact (show kitB "dict" "int" = some false by decide +kernel)
  | bool =>
    cases d with
    | none => exact (show kitB "NoneType" "bool" = some false by decide +kernel)
    | bool _ => exact (show kitB "bool" "bool" = some true by decide +kernel)
    | int _ => exact (show kitB "int" "bool" = some false by decide +kernel)
    | str _ => exact (show kitB "str" "bool" = some false by decide +kernel)
    | list _ => exact (show kitB "list" "bool" = some false by decide +kernel)
    | tuple _ => exact (show kitB "tuple" "bool" = some false by decide +kernel)
    | dict _ => exact (show kitB "dict" "bool" = some false by decide +kernel)
  | str =>
    cases d with
    | none => exact (show kitB "NoneType" "str" = some false by decide +kernel)
    | bool _ => exact (show kitB "bool" "str" = some false by decide +kernel)
    | int _ => exact (show kitB "int" "str" = some false by decide +kernel)
    | str _ => exact (show kitB "str" "str" = some true by decide +kernel)
    | list _ => exact (show kitB "list" "str" = some false by decide +kernel)
    | tuple _ => exact (show kitB "tuple" "str" = some false by decide +kernel)
    | dict _ => exact (show kitB "dict" "str" = some false by decide +kernel)
  | list =>
    cases d with
    | none => exact (show kitB "NoneType" "list" = some false by decide +kernel)
    | bool _ => exact (show kitB "bool" "list" = some false by decide +kernel)
    | int _ => exact (show kitB "int" "list" = some false by decide +kernel)
    | str _ => exact (show kitB "str" "list" = some false by decide +kernel)
    | list _ => exact (show kitB "list" "list" = some true by decide +kernel)
    | tuple _ => exact (show kitB "tuple" "list" = some false by decide +kernel)
    | dict _ => exact (show kitB "dict" "list" = some false by decide +kernel)
  | tuple =>
    cases d with
    | none => exact (show kitB "NoneType" "tuple" = some false by decide +kernel)
    | bool _ => exact (show kitB "bool" "tuple" = some false by decide +kernel)
    | int _ => exact (show kitB "int" "tuple" = some false by decide +kernel)
    | str _ => exact (show kitB "str" "tuple" = some false by decide +kernel)
    | list _ => exact (show kitB "list" "tuple" = some false by decide +kernel)
    | tuple _ => exact (show kitB "tuple" "tuple" = some true by decide +kernel)
    | dict _ => exact (show kitB "dict" "tuple" = some false by decide +kernel)
theorem kit2 {K : PySem.W.Frag} {x a b : String} {b1 b2 : Bool} (h1 : kitB x a = some b1) (h2 : kitB x b = some b2) : PySem.W.kitAny K (.type x) [.type a, .type b] = some (b1 || b2) := by
  cases b1 with
  | true => exact kitAny_cons (kit_ty h1) (fun e => nomatch e) (fun _ => rfl)
  | false =>
    cases b2 with
    | true => exact kitAny_cons (kit_ty h1) (fun _ => kitAny_cons (kit_ty h2) (fun e => nomatch e) (fun _ => rfl)) (fun e => nomatch e)
    | false => exact kitAny_cons (kit_ty h1) (fun _ => kitAny_cons (kit_ty h2) (fun _ => kitAny_nil) (fun e => nomatch e)) (fun e => nomatch e)
section
variable {X : Cx} {C : Ct} {a b e : Expr} {es : List Expr} {pos p : Pos} {t ta tb tc : TE} {w wa wb wc : WE} {tA : TA} {wA : WA} {x : Str}
def wIsi (T : Ty) (wa : WE) : WE := fun s Q => wa s fun d s1 => Q (.bool (isA T d)) s1
theorem ie_isi {T : Ty} (ha : IP C ta wa) : IE C (tCB (rIsi C.K) (tCons ta (tCons (tC (.ty T.nm)) tNil))) (wIsi T wa) := fun G σ H s Q Q' r q k =>
  ha G σ H s _ _ r q fun v d s1 G1 H1 q1 r1 eg eh pk => ⟨v, _, _, _, isA T d, rfl, .ty _, tyx_D (pk.dp r1.fin.gh), kit_ty (kt T d), k _ _ s1 G1 H1 q1 r1 eg eh (.bl _)⟩
theorem de_isi (T : Ty) {y : Str} {p2 : Pos} (hK : X.K = C.K) (hg : Gl X "isinstance") (hm : X.mg "isinstance" = none) (hg2 : Gl X y) (hm2 : X.mg y = none) (hb2 : bootBuiltins y = some (.type T.nm)) (ha : DP X C a ta wa)
    (hs : starEach [a, .Name y p2] X.env = (false, eval a X.env) :: starEach [.Name y p2] X.env := by rfl) (hpl : (backTo pos (starEach [.Name y p2] X.env)).any (·.1) = false := by rfl) (hny : y ≠ "__name__" := by decide) (hdy : (y == ("__debug__" : Str)) = false := by decide)
    (hs2 : starEach [.Name y p2] X.env = (false, eval (.Name y p2) X.env) :: starEach [] X.env := by rfl) :
    DE X C (.Call (.Name "isinstance" p) [a, .Name y p2] [] pos) (tCB (rIsi C.K) (tCons ta (tCons (tC (.ty T.nm)) tNil))) (wIsi T wa) :=
  ⟨pe_callB (hK ▸ call_isi) hg hm (by decide +kernel) (pa_cons ha.pe (pa_cons (pe_bltn (v := .ty T.nm) hg2 hm2 hb2 rfl hny hdy) pa_nil hs2) hs) (by decide) (by decide) hs hpl, ie_isi ha.ip⟩
def wIsi2 (T U : Ty) (wa : WE) : WE := fun s Q => wa s fun d s1 => Q (.bool (isA T d || isA U d)) s1
theorem de_isi2 (T U : Ty) {y z : Str} {p2 p3 p4 : Pos} {kk} (hK : X.K = C.K) (hg : Gl X "isinstance") (hm : X.mg "isinstance" = none) (hg2 : Gl X y) (hm2 : X.mg y = none) (hb2 : bootBuiltins y = some (.type T.nm))
    (hg3 : Gl X z) (hm3 : X.mg z = none) (hb3 : bootBuiltins z = some (.type U.nm)) (ha : DP X C a ta wa)
    (hs : starEach [a, .Tuple [.Name y p2, .Name z p3] kk p4] X.env = (false, eval a X.env) :: starEach [.Tuple [.Name y p2, .Name z p3] kk p4] X.env := by rfl) (hpl : (backTo pos (starEach [.Tuple [.Name y p2, .Name z p3] kk p4] X.env)).any (·.1) = false := by rfl)
    (hny : y ≠ "__name__" := by decide) (hdy : (y == ("__debug__" : Str)) = false := by decide) (hnz : z ≠ "__name__" := by decide) (hdz : (z == ("__debug__" : Str)) = false := by decide)
    (hs2 : starEach [.Tuple [.Name y p2, .Name z p3] kk p4] X.env = (false, eval (.Tuple [.Name y p2, .Name z p3] kk p4) X.env) :: starEach [] X.env := by rfl)
    (hs3 : starEach [.Name y p2, .Name z p3] X.env = (false, eval (.Name y p2) X.env) :: starEach [.Name z p3] X.env := by rfl) (hs4 : starEach [.Name z p3] X.env = (false, eval (.Name z p3) X.env) :: starEach [] X.env := by rfl) :
    DE X C (.Call (.Name "isinstance" p) [a, .Tuple [.Name y p2, .Name z p3] kk p4] [] pos) (tCB (rIsiT C.K) (tCons ta (tCons (tTup (tCons (tC (.ty T.nm)) (tCons (tC (.ty U.nm)) tNil))) tNil))) (wIsi2 T U wa) :=
  ⟨pe_callB (hK ▸ call_isiT) hg hm (by decide +kernel) (pa_cons ha.pe (pa_cons (pe_tup (pa_cons (pe_bltn (v := .ty T.nm) hg2 hm2 hb2 rfl hny hdy) (pa_cons (pe_bltn (v := .ty U.nm) hg3 hm3 hb3 rfl hnz hdz) pa_nil hs4) hs3)) pa_nil hs2) hs) (by decide) (by decide) hs hpl,
   fun G σ H s Q Q' r q k => ha.ip G σ H s _ _ r q fun v d s1 G1 H1 q1 r1 eg eh pk => ⟨(show 2 ≤ sizeLine by decide), fun tp htp => by
    have e : Ex H1 (upd H1 tp (.tup [.ty T.nm, .ty U.nm])) := Ex.new htp
    exact ⟨v, tp, _, _, _, isA T d || isA U d, rfl, upd_same, .cons (.ty _) (.cons (.ty _) .nil), tyx_D (dp_ex e (pk.dp r1.fin.gh)), kit2 (kt T d) (kt U d), k _ _ s1 G1 _ q1 (r1.aside e) eg (eh.trans (.side e)) (.bl _)⟩⟩⟩
def cutD (xs : List PyData) (lo hi : Option Int) : List PyData := (xs.drop (HT.sIx xs.length 0 lo)).take (HT.sIx xs.length xs.length hi - HT.sIx xs.length 0 lo)
theorem dpa_cut {K : PySem.W.Frag} {H : Hp} {xs : List V} {ds : List PyData} (h : DpAll K H xs ds) (lo hi : Option Int) : DpAll K H (cutV xs lo hi) (cutD ds lo hi) := by
  unfold cutV cutD
  rw [dpa_len h]
  exact dpa_take _ (dpa_drop _ h)
abbrev WO := Dt → (Option Int → Dt → Prop) → Prop
def IOp (C : Ct) (t : TO) (w : WO) : Prop := ∀ G σ H s Q Q', Rel C G σ H s → w s Q →
  (∀ o s' G' H', Q o s' → Rel C G' σ H' s' → Ex G G' → Gs C σ G H s G' H' s' → Q' o H') → t σ H Q'
structure DOp (X : Cx) (C : Ct) (e : Option Expr) (t : TO) (w : WO) : Prop where
  po : PO X e t
  io : IOp C t w
theorem do_none : DOp X C none tNoPart (fun s Q => Q none s) := ⟨po_none, fun G σ H s Q Q' r q k => k none s G H q r (Ex.refl G) Gs.refl⟩
theorem do_some (h : DE X C e t w) : DOp X C (some e) (tPart t) (fun s Q => w s fun d s1 => ∃ i, d = .int i ∧ Q (some i) s1) := ⟨po_some h.pe, fun G σ H s Q Q' r q k => h.ie G σ H s _ _ r q fun v d s1 G1 H1 q1 r1 eg eh p => by
  obtain ⟨i, rfl, q1⟩ := q1
  exact ⟨i, dp_int p, k (some i) s1 G1 H1 q1 r1 eg eh⟩⟩
variable {lo hi : Option Expr} {tl th : TO} {wl wh : WO} {p2 : Pos}
def wSlT (wa : WE) (wl wh : WO) : WE := fun s Q => wa s fun d s1 => wl s1 fun l s2 => wh s2 fun h s3 => ∃ ds, d = .tuple ds ∧ Q (.tuple (cutD ds l h)) s3
/-- t[lo:hi] -/
theorem de_slT (hK : X.K = C.K) (ha : DP X C a ta wa) (hl : DOp X C lo tl wl) (hh : DOp X C hi th wh) : DE X C (.Subscript a (.Slice lo hi none p2) pos) (tSl (rSlA C.K) ta tl th) (wSlT wa wl wh) := ⟨pe_slice (hK ▸ sl_tupA) ha.pe hl.po hh.po, fun G σ H s Q Q' r q k =>
  ha.ip G σ H s _ _ r q fun v d s1 G1 H1 q1 r1 eg1 eh1 pk => hl.io G1 σ H1 s1 _ _ r1 q1 fun l s2 G2 H2 q2 r2 eg2 eh2 => hh.io G2 σ H2 s2 _ _ r2 q2 fun h s3 G3 H3 q3 r3 eg3 eh3 => by
    obtain ⟨ds, rfl, q3⟩ := q3
    obtain ⟨p, xs, rfl, h1, h2⟩ := pk_tup pk
    have h1' := Evl.ex_t ((eg2.trans eg3).trans r3.fin.gh) h1
    have h2' := dpa_ex (eg2.trans eg3) h2
    refine ⟨p, xs, rfl, h1', fun hw => ?_, fun _ l hl => ?_⟩
    · have e : cutD ds l h = ds := by
        unfold cutD
        rw [dpa_len h2'] at hw
        rw [hw.1, hw.2, List.drop_zero, Nat.sub_zero, List.take_length]
      rw [e] at q3
      exact k _ _ s3 G3 H3 q3 r3 ((eg1.trans eg2).trans eg3) ((eh1.trans eh2).trans eh3) (.tup (Evl.ex_t (eg2.trans eg3) h1) h2')
    · obtain ⟨r4, eg, eh⟩ := r3.new (o := .tup (cutV xs _ _)) hl
      exact k _ _ s3 _ _ q3 r4 (((eg1.trans eg2).trans eg3).trans eg) (((eh1.trans eh2).trans eh3).trans eh) (.tup (.inl (.inl upd_same)) (dpa_ex eg (dpa_cut h2' _ _)))⟩
/-- xs[lo:hi], a new list -/
def wSlL (wa : WE) (wl wh : WO) : WA := fun s Q => wa s fun d s1 => wl s1 fun l s2 => wh s2 fun h s3 => ∃ ds, d = .list ds ∧ Q (cutD ds l h) s3
/-- s[lo:hi], a text -/
def wSlS (wa : WE) (wl wh : WO) : WE := fun s Q => wa s fun d s1 => wl s1 fun l s2 => wh s2 fun h s3 => ∃ z, d = .str z ∧ z.length ≤ 100000 ∧ Q (.str (cutS z l h)) s3
/-- t[::-1], a tuple -/
def wRevT (wa : WE) : WE := fun s Q => wa s fun d s1 => ∃ ds, d = .tuple ds ∧ Q (.tuple ds.reverse) s1
theorem de_revT {k : Nat} {p1 p3 : Pos} (hK : X.K = C.K) (ha : DP X C a ta wa) : DE X C (.Subscript a (.Slice none none (some (.UnaryOp .USub (.Constant (.int 1) k p1) p2)) p3) pos) (tRevT C.K ta) (wRevT wa) := ⟨hK ▸ pe_revT ha.pe, fun G σ H s Q Q' r q k =>
  ha.ip G σ H s _ _ r q fun v d s1 G1 H1 q1 r1 eg1 eh1 pk => by
    obtain ⟨ds, rfl, q1⟩ := q1
    obtain ⟨p, xs, rfl, h1, h2⟩ := pk_tup pk
    refine ⟨p, xs, rfl, Evl.ex_t r1.fin.gh h1, fun l hl => ?_⟩
    obtain ⟨r4, eg, eh⟩ := r1.new (o := .tup xs.reverse) hl
    exact k _ _ s1 _ _ q1 r4 (eg1.trans eg) (eh1.trans eh) (.tup (.inl (.inl upd_same)) (dpa_ex eg (dpa_rev h2)))⟩
/-- -n -/
def wNeg (wa : WE) : WE := fun s Q => wa s fun d s1 => ∃ i, d = .int i ∧ Q (.int (-i)) s1
theorem de_neg (ha : DE X C a ta wa) : DE X C (.UnaryOp .USub a pos) (tUn (rU fun i => .int (-i)) ta) (wNeg wa) := ⟨pe_un un_neg ha.pe, fun G σ H s Q Q' r q k =>
  ha.ie G σ H s _ _ r q fun v d s1 G1 H1 q1 r1 eg1 eh1 p => by
    obtain ⟨i, rfl, q1⟩ := q1
    exact ⟨i, dp_int p, k _ _ s1 G1 H1 q1 r1 eg1 eh1 (.int _)⟩⟩
abbrev FP := List PyData → (PyData → Prop) → Prop
abbrev FB := List PyData → Int → (PyData → Int → Prop) → Prop
/-- a def that only reads and makes data -/
def spP (K : PySem.W.Frag) (F : FP) : Sp := fun vs H Q _ => ∃ G ds R, Ex G H ∧ DpAll K G vs ds ∧ F ds R ∧
  ∀ v d G' H', R d → Ex G G' → Ex H H' → Ex G' H' → Nw G G' H → Dp K G' v d → Q v H'
/-- a def that draws: the box is its first argument -/
def spB (K : PySem.W.Frag) (F : FB) : Sp := fun vs H Q _ => ∃ l vs' G ds c R, vs = .ref l :: vs' ∧ BoxAt H l c ∧ G l = none ∧ Ex G H ∧ DpAll K G vs' ds ∧ F ds c R ∧
  ∀ v d c' G' H', R d c' → Ex G G' → (∀ b o, b ≠ l → H b = some o → H' b = some o) → BoxAt H' l c' → Ex G' H' → Nw G G' H → Dp K G' v d → Q v H'
def wCall (F : FP) (wA : WA) : WE := fun s Q => wA s fun ds s1 => F ds fun d => Q d s1
theorem ie_call {F : FP} {E : XK} (h : IA C tA wA) : IE C (tCall (spP C.K F) [] E tA) (wCall F wA) := fun G σ H s Q Q' r q k =>
  h G σ H s _ _ r q fun vs ds s1 G1 H1 q1 r1 eg eh p => ⟨G1, ds, _, r1.fin.gh, by rw [List.append_nil]; exact p, q1, fun v d G2 H2 q2 eg2 eh2 gh nw pd =>
    k v d s1 G2 H2 q2 (r1.grow eg2 eh2 gh nw) (eg.trans eg2) (eh.trans (.grow eh2 nw)) pd⟩
/-- .. the box in slot i -/
def wCallB (i : Nat) (F : FB) (wA : WA) : WE := fun s Q => s.env[i]? = some (some .box) ∧ wA s fun ds s1 => F ds s1.c.n fun d c' => Q d ⟨s1.env, c', s1.c.o⟩
theorem ie_callB {F : FB} {E : XK} {i : Nat} (h : IA C tA wA) : IE C (tCall (spB C.K F) [] E (tCons (tVar i) tA)) (wCallB i F wA) := fun G σ H s Q Q' r q k => by
  obtain ⟨e, q⟩ := q
  obtain ⟨v, hv, l, hl, rfl⟩ := r.sl i _ e
  refine ⟨_, hv, h G σ H s _ _ r q fun vs ds s1 G1 H1 q1 r1 eg eh p => ⟨l, vs, G1, ds, s1.c.n, _, by rw [List.append_nil], r1.fin.boxAt hl, r1.fin.boxG hl, r1.fin.gh, p, q1, fun v d c' G2 H2 q2 eg2 eh2 hb gh nw pd => ?_⟩⟩
  have gr : Gr C H1 H2 := fun b o hn hb => eh2 b o (fun z => hn (by rw [z]; exact .ofb hl)) hb
  refine k v d _ G2 H2 q2 (r1.step (c' := ⟨c', s1.c.o⟩) eg2 gr gh nw (r1.fin.obx eg2 (.inl hl) eh2) (r1.fin.boxStep (c' := ⟨c', s1.c.o⟩) hl eh2 hb)) (eg.trans eg2) (eh.trans ⟨gr, fun b h z => ?_, fun b o h1 _ h2 hn _ => nw.out h1 h2 hn, fun i x e m => ⟨x, e, m⟩⟩) pd
  · by_cases hb2 : b = l
    · exact hb.ne (hb2 ▸ z)
    · cases q : H1 b with
      | none => exact h q
      | some o => rw [eh2 b o hb2 q] at z; cases z
end
end Dw
namespace Dw
open PySem PySem.Spec PyProof.Rows L2 OgR Evl
def Dt.set (s : Dt) (i : Nat) (x : DV) : Dt := ⟨s.env.set i (some x), s.c⟩
section
variable {C : Ct} {G G' H H' : Hp} {σ : L2.St} {s : Dt} {c c' : Cs}
theorem get_set {α : Type} {l : List (Option α)} {i j : Nat} {x y : α} (h : (l.set i (some x))[j]? = some (some y)) : (j = i ∧ y = x ∧ i < l.length) ∨ (j ≠ i ∧ l[j]? = some (some y)) := by
  by_cases z : j = i
  · subst z
    by_cases hl : j < l.length
    · rw [List.getElem?_set_self hl] at h
      cases h
      exact .inl ⟨rfl, rfl, hl⟩
    · rw [List.getElem?_eq_none (by rw [List.length_set]; omega)] at h
      cases h
  · rw [List.getElem?_set_ne (Ne.symm z)] at h
    exact .inr ⟨z, h⟩
theorem Rel.put (r : Rel C G σ H s) {i : Nat} {v : V} {x : DV} (rv : RV C G H v x) (hd : x.mut = true → ∀ (j : Nat) y p, s.env[j]? = some (some y) → y.mut = true → v = .ref p → σ[j]? ≠ some (some (.ref p))) : Rel C G (σ.set i (some v)) H (s.set i x) := by
  refine ⟨r.fin, by show (s.env.set i _).length = _; rw [List.length_set, List.length_set]; exact r.len, fun j y e => ?_, fun j k y z p hne e1 e2 m1 m2 hs => ?_⟩
  · rcases get_set e with ⟨rfl, rfl, hl⟩ | ⟨z, e⟩
    · exact ⟨v, List.getElem?_set_self (by rw [← r.len]; exact hl), rv⟩
    · obtain ⟨v', hv, rv'⟩ := r.sl j y e
      exact ⟨v', by rw [List.getElem?_set_ne (Ne.symm z)]; exact hv, rv'⟩
  · rcases get_set e1 with ⟨w1, w2, hl⟩ | ⟨z1, f1⟩
    · rcases get_set e2 with ⟨w3, _, _⟩ | ⟨z2, f2⟩
      · exact absurd (w1.trans w3.symm) hne
      · subst w1
        subst w2
        rw [List.getElem?_set_self (by rw [← r.len]; exact hl)] at hs
        cases hs
        rw [List.getElem?_set_ne (Ne.symm z2)]
        exact hd m1 k z p f2 m2 rfl
    · rw [List.getElem?_set_ne (Ne.symm z1)] at hs
      rcases get_set e2 with ⟨w1, w2, hl⟩ | ⟨z2, f2⟩
      · subst w1
        subst w2
        rw [List.getElem?_set_self (by rw [← r.len]; exact hl)]
        intro q
        cases q
        exact hd m2 j y p f1 m1 rfl hs
      · rw [List.getElem?_set_ne (Ne.symm z2)]
        exact r.dis j k y z p hne f1 f2 m1 m2 hs
theorem Rel.putd (r : Rel C G σ H s) {i : Nat} {v : V} {d : PyData} (rv : Dp C.K G v d) : Rel C G (σ.set i (some v)) H (s.set i (.d d)) := r.put (x := .d d) rv fun m => nomatch m
/-- a list of the def's own changes -/
theorem Rel.mutl (r : Rel C G σ H s) {i : Nat} {p : Addr} {ds ds' : List PyData} {xs' : List V} (e : s.env[i]? = some (some (.own ds))) (hs : σ[i]? = some (some (.ref p))) (hd : DpAll C.K G xs' ds') : Rel C G σ (upd H p (.lst xs')) (s.set i (.own ds')) := by
  obtain ⟨v, hv, p', xs, hvp, h1, h2, h3, h4⟩ := r.sl i _ e
  rw [hs] at hv
  cases hv
  cases hvp
  have gp : ∀ b, G b ≠ none → b ≠ p := fun b hb z => hb (by rw [z]; exact h3)
  refine ⟨⟨fun b o hb => ?_, r.fin.g0, r.fin.nw, fun b o n hb => ?_, r.fin.ok, r.fin.obu (Ex.refl G) h2 (fun b o n e => by rw [upd_ne n]; exact e), fun l hl => ?_⟩, by show (s.env.set i _).length = _; rw [List.length_set]; exact r.len, fun j y ej => ?_, fun j k y z q hne e1 e2 m1 m2 => ?_⟩
  · rw [upd_ne (gp b (by rw [hb]; exact Option.some_ne_none _))]
    exact r.fin.gh b o hb
  · rw [upd_ne (fun z => by rw [z, h2] at hb; cases hb)]
    exact r.fin.hh b o n hb
  · have hlp : l ≠ p := fun z => r.fin.nbx h2 (by rw [← z]; exact hl)
    exact ⟨(r.fin.bx l hl).1.updS h1 rfl hlp, (r.fin.bx l hl).2⟩
  · rcases get_set ej with ⟨rfl, rfl, hl⟩ | ⟨z, ej⟩
    · exact ⟨_, hs, p, xs', rfl, upd_same, h2, h3, hd⟩
    · obtain ⟨v', hv', rv⟩ := r.sl j y ej
      refine ⟨v', hv', ?_⟩
      cases y with
      | d x => exact rv
      | box => exact rv
      | ob _ => exact rv
      | obl _ => exact rv
      | own ds2 =>
        obtain ⟨p2, xs2, a1, a2, a3, a4, a5⟩ := rv
        exact ⟨p2, xs2, a1, by rw [upd_ne fun z' => r.dis i j _ _ p (Ne.symm z) e ej rfl rfl hs (by rw [hv', a1, z'])]; exact a2, a3, a4, a5⟩
      | dic ks =>
        obtain ⟨p2, xs2, a1, a2, a3, a4, a5⟩ := rv
        exact ⟨p2, xs2, a1, by rw [upd_ne fun z' => r.dis i j _ _ p (Ne.symm z) e ej rfl rfl hs (by rw [hv', a1, z'])]; exact a2, a3, a4, a5⟩
      | dit ks =>
        obtain ⟨p2, xs2, a1, a2, a3, a4, a5⟩ := rv
        exact ⟨p2, xs2, a1, by rw [upd_ne fun z' => r.dis i j _ _ p (Ne.symm z) e ej rfl rfl hs (by rw [hv', a1, z'])]; exact a2, a3, a4, a5⟩
      | oth φ => exact Oth.step (φ := φ) rv (Ex.refl G) (Kept.upd h1 rfl)
      | dd ks =>
        obtain ⟨p2, xs2, a1, a2, a5⟩ := rv
        exact ⟨p2, xs2, a1, a2.upd h1 h2 (fun _ _ z => by cases z), a5⟩
  · have go : ∀ (j : Nat) y, (s.set i (.own ds')).env[j]? = some (some y) → y.mut = true → ∃ y', s.env[j]? = some (some y') ∧ y'.mut = true := fun j y ej m => by
      rcases get_set ej with ⟨rfl, rfl, hl⟩ | ⟨z, ej⟩
      · exact ⟨_, e, rfl⟩
      · exact ⟨y, ej, m⟩
    obtain ⟨y', f1, n1⟩ := go j y e1 m1
    obtain ⟨z', f2, n2⟩ := go k z e2 m2
    exact r.dis j k y' z' q hne f1 f2 n1 n2
end
abbrev WG := PyData → Dt → (Dt → Prop) → Prop
abbrev WGs := List PyData → Dt → (Dt → Prop) → Prop
def IG (C : Ct) (g : TG) (ks : List Nat) (w : WG) : Prop := ∀ G σ H s v d Q Q', Rel C G σ H s → Dp C.K G v d → w d s Q →
  (∀ σ' s', Q s' → Rel C G σ' H s' → σ'.length = σ.length → (∀ j : Nat, j ∉ ks → σ'[j]? = σ[j]?) → Q' σ' H) → g v σ H Q'
def IGs (C : Ct) (g : TGs) (ks : List Nat) (w : WGs) : Prop := ∀ G σ H s vs ds Q Q', Rel C G σ H s → DpAll C.K G vs ds → w ds s Q →
  (∀ σ' s', Q s' → Rel C G σ' H s' → σ'.length = σ.length → (∀ j : Nat, j ∉ ks → σ'[j]? = σ[j]?) → Q' σ' H) → g vs σ H Q'
structure DG (X : Cx) (C : Ct) (e : Expr) (g : TG) (ks : List Nat) (w : WG) : Prop where
  pg : PG X e g
  ig : IG C g ks w
structure DGs (X : Cx) (C : Ct) (es : List Expr) (g : TGs) (ks : List Nat) (w : WGs) : Prop where
  pg : PGs X es g
  ig : IGs C g ks w
section
variable {X : Cx} {C : Ct} {a b e tg : Expr} {es : List Expr} {pos p : Pos} {t ta tb tc : TE} {w wa wb wc : WE} {tA : TA} {wA : WA} {x : Str}
def wName (i : Nat) : WG := fun d s Q => Q (s.set i (.d d))
theorem ig_name (i : Nat) : IG C (gName i) [i] (wName i) := fun G σ H s v d Q Q' r p q k =>
  k _ _ q (r.putd p) (List.length_set ..) fun j hj => List.getElem?_set_ne (fun z => hj (by simp [z]))
theorem dg_name (i : Nat) (hN : X.N.Nodup) (hi : X.N[i]? = some x := by rfl) (hx : Loc X.env.scope x := by first | exact .inl rfl | exact .inr rfl) (hf : X.fn x = true ∨ X.env.scope.names.lookup x = some .local := by first | exact .inl rfl | exact .inr rfl | assumption) : DG X C (.Name x pos) (gName i) [i] (wName i) :=
  ⟨pg_name hN hi hx hf, ig_name i⟩
def wGNil : WGs := fun ds s Q => ds = [] ∧ Q s
def wGCons (w : WG) (u : WGs) : WGs := fun ds s Q => ∃ d r, ds = d :: r ∧ w d s fun s' => u r s' Q
theorem dgs_nil : DGs X C [] gNil [] wGNil := ⟨pgs_nil, fun G σ H s vs ds Q Q' r p q k => by
  obtain ⟨rfl, q⟩ := q
  cases p
  exact ⟨rfl, k σ s q r rfl fun _ _ => rfl⟩⟩
theorem dgs_cons {g : TG} {gs : TGs} {k1 k2 : List Nat} {w : WG} {u : WGs} (h1 : DG X C e g k1 w) (h2 : DGs X C es gs k2 u) (hs : PGs X (e :: es) (gCons g gs) := by exact pgs_cons (DG.pg (by assumption)) (DGs.pg (by assumption))) : DGs X C (e :: es) (gCons g gs) (k1 ++ k2) (wGCons w u) := ⟨hs, fun G σ H s vs ds Q Q' r p q k => by
  obtain ⟨d, ds', rfl, q⟩ := q
  cases p with
  | @cons v vs' _ _ p1 p2 =>
    refine ⟨v, vs', rfl, h1.ig G σ H s v d _ _ r p1 q fun σ1 s1 q1 r1 l1 f1 => h2.ig G σ1 H s1 vs' ds' _ _ r1 p2 q1 fun σ2 s2 q2 r2 l2 f2 => k σ2 s2 q2 r2 (l2.trans l1) fun j hj => ?_⟩
    rw [List.mem_append, not_or] at hj
    rw [f2 j hj.2, f1 j hj.1]⟩
def wGTup (n : Nat) (u : WGs) : WG := fun d s Q => seqd d = true ∧ (its d).length = n ∧ u (its d) s Q
theorem ig_tup {n : Nat} {g : TGs} {ks : List Nat} {u : WGs} (h : IGs C g ks u) : IG C (gSeqB C.K n g) ks (wGTup n u) := fun G σ H s v d Q Q' r p q k => by
  obtain ⟨hs, hl, q⟩ := q
  obtain ⟨a, xs, rfl, h1, h2⟩ := (show Pk C G H v d from .inl p).seq r.fin.gh hs
  exact ⟨isT d, a, xs, rfl, h1, by rw [dpa_len h2]; exact hl, h G σ H s xs (its d) Q Q' r h2 q k⟩
theorem dg_tup {n : Nat} {g : TGs} {ks : List Nat} {u : WGs} {k : Nat} (hK : X.K = C.K) (hc : X.calm = true) (h : DGs X C es g ks u) (hn : (assignEach es X.env).length = n := by rfl) (hst : (assignEach es X.env).findIdx? (·.1) = none := by rfl) :
    DG X C (.Tuple es k pos) (gSeqB C.K n g) ks (wGTup n u) := ⟨hK ▸ pg_seqB hc h.pg hn hst, ig_tup h.ig⟩
def ItD (C : Ct) (G1 : Hp) (J : It) (ds : List PyData) : Prop := ∀ G2 H2, Ex G1 G2 → Ex G2 H2 → (∀ (i : Nat) d, ds[i]? = some d → J.go i H2 ∧ ∀ x H3, J.yld i H2 x H3 → ∃ G3, Ex G2 G3 ∧ Ex H2 H3 ∧ Ex G3 H3 ∧ Nw G2 G3 H2 ∧ Dp C.K G3 x d) ∧ J.stop ds.length H2
def II (C : Ct) (wi : TI) (w : WA) : Prop := ∀ G σ H s Q R, Rel C G σ H s → w s Q →
  (∀ J ds s' G' H', Q ds s' → Rel C G' σ H' s' → Ex G G' → Gs C σ G H s G' H' s' → ItD C G' J ds → R J H') → wi σ H R
structure DI (X : Cx) (C : Ct) (tg iter : Expr) (wi : TI) (w : WA) : Prop where
  pi : PI X tg iter wi
  ii : II C wi w
def wSeq (w : WE) : WA := fun s Q => w s fun d s1 => seqd d = true ∧ Q (its d) s1
theorem dp_seq {G H : Hp} {v : V} {d : PyData} (h : Dp C.K G v d) (hs : seqd d = true) : ∃ p xs, v = .ref p ∧ SqB C.K (isT d) G p xs ∧ DpAll C.K G xs (its d) := (show Pk C G G v d from .inl h).seq (Ex.refl G) hs
theorem itd_seq {G : Hp} {p : Addr} {b : Bool} {xs : List V} {ds : List PyData} (h1 : SqB C.K b G p xs) (h2 : DpAll C.K G xs ds) : ItD C G (ItsB C.K b p) ds := fun G2 H2 e1 e2 => by
  have h1' := SqB.ex (e1.trans e2) h1
  refine ⟨fun i d hd => ?_, xs, h1', by rw [dpa_len h2]; exact Nat.le_refl _⟩
  obtain ⟨v, hv, pv⟩ := dpa_back h2 hd
  refine ⟨⟨xs, v, h1', hv⟩, fun x H3 y => ?_⟩
  obtain ⟨rfl, hy⟩ := y
  have e := hy xs h1'
  rw [hv] at e
  cases e
  exact ⟨G2, Ex.refl _, Ex.refl _, e2, Nw.refl _ _, dp_ex e1 pv⟩
theorem di_seq (hK : X.K = C.K) (h : DE X C e t w) : DI X C tg e (iSeqB C.K t) (wSeq w) := ⟨hK ▸ pi_seqB h.pe, fun G σ H s Q R r q k => h.ie G σ H s _ _ r q fun v d s1 G1 H1 q1 r1 eg eh p => by
  obtain ⟨hs, q1⟩ := q1
  obtain ⟨a, xs, rfl, h1, h2⟩ := dp_seq (H := H1) p hs
  exact ⟨isT d, a, xs, rfl, SqB.ex r1.fin.gh h1, k _ _ s1 G1 H1 q1 r1 eg eh (itd_seq h1 h2)⟩⟩
def wRng1 (w : WE) : WA := fun s Q => w s fun d s1 => ∃ j : Int, d = .int j ∧ -(2 ^ 62) ≤ j ∧ j < 2 ^ 62 ∧ Q (iotaD 0 j) s1
theorem iota_get {a b : Int} {i : Nat} {d : PyData} (h : (iotaD a b)[i]? = some d) : i < (b - a).toNat ∧ d = .int (a + i) := by
  unfold iotaD at h
  rw [List.getElem?_map] at h
  cases q : (List.range (b - a).toNat)[i]? with
  | none => rw [q] at h; cases h
  | some m =>
    rw [q] at h
    have h1 := List.getElem?_eq_some_iff.mp q
    obtain ⟨h2, h3⟩ := h1
    rw [List.getElem_range] at h3
    rw [List.length_range] at h2
    subst h3
    exact ⟨h2, by simpa using h.symm⟩
theorem iota_len (a b : Int) : (iotaD a b).length = (b - a).toNat := by unfold iotaD; rw [List.length_map, List.length_range]
theorem itd_rng {G : Hp} {a b : Int} : ItD C G (Itr a (b - a).toNat) (iotaD a b) := fun G2 H2 e1 e2 => by
  refine ⟨fun i d hd => ?_, by rw [iota_len]; exact Nat.le_refl _⟩
  obtain ⟨h1, rfl⟩ := iota_get hd
  refine ⟨h1, fun x H3 y => ?_⟩
  obtain ⟨rfl, rfl⟩ := y
  exact ⟨G2, Ex.refl _, Ex.refl _, e2, Nw.refl _ _, .int _⟩
theorem di_rng1 (hg : Gl X "range") (hm : X.mg "range" = none) (h : DE X C a ta wa) (hs : starEach [a] X.env = [(false, eval a X.env)] := by rfl) (hs2 : starEach [a] X.env = (false, eval a X.env) :: starEach [] X.env := by rfl) :
    DI X C tg (.Call (.Name "range" p) [a] [] pos) (iRng1 (tCons ta tNil)) (wRng1 wa) := ⟨pi_range1 hg hm (pa_cons h.pe pa_nil hs2) hs, fun G σ H s Q R r q k => h.ie G σ H s _ _ r q fun v d s1 G1 H1 q1 r1 eg eh p => by
  obtain ⟨j, rfl, h1, h2, q1⟩ := q1
  refine ⟨j, by rw [dp_int p], h1, h2, ?_⟩
  have := itd_rng (C := C) (G := G1) (a := 0) (b := j)
  rw [Int.sub_zero] at this
  exact k _ _ s1 G1 H1 q1 r1 eg eh this⟩
/-- enumerate -/
def enumD (ds : List PyData) : List PyData := ds.mapIdx fun i d => .tuple [.int (i : Nat), d]
def wEnum (w : WE) : WA := fun s Q => w s fun d s1 => seqd d = true ∧ Q (enumD (its d)) s1
theorem itd_enum {G : Hp} {p : Addr} {b : Bool} {xs : List V} {ds : List PyData} (h1 : SqB C.K b G p xs) (h2 : DpAll C.K G xs ds) : ItD C G (IteB C.K b p) (enumD ds) := fun G2 H2 e1 e2 => by
  have h1' := SqB.ex (e1.trans e2) h1
  refine ⟨fun i d hd => ?_, xs, h1', by unfold enumD; rw [List.length_mapIdx]; exact dpa_len h2⟩
  unfold enumD at hd
  rw [List.getElem?_mapIdx] at hd
  cases q : ds[i]? with
  | none => rw [q] at hd; cases hd
  | some z =>
    rw [q] at hd
    cases hd
    obtain ⟨v, hv, pv⟩ := dpa_back h2 q
    refine ⟨⟨xs, v, h1', hv⟩, fun x H3 y => ?_⟩
    obtain ⟨T, v2, rfl, hT, rfl, hy⟩ := y
    have e := hy xs h1'
    rw [hv] at e
    cases e
    have g1 : G2 T = none := fresh_back e2 hT
    exact ⟨upd G2 T (.tup [.int (i : Nat), v]), Ex.new g1, Ex.new hT, Ex.both e2 hT, Nw.one hT, .tup (.inl (.inl upd_same)) (.cons (.int _) (.cons (dp_ex (e1.trans (Ex.new g1)) pv) .nil))⟩
theorem di_enum {elts : List Expr} {kk : Nat} {tpos : Pos} (hK : X.K = C.K) (hg : Gl X "enumerate") (hm : X.mg "enumerate" = none) (h : DE X C a ta wa) (hs : starEach [a] X.env = [(false, eval a X.env)] := by rfl) (hs2 : starEach [a] X.env = (false, eval a X.env) :: starEach [] X.env := by rfl) :
    DI X C (.Tuple elts kk tpos) (.Call (.Name "enumerate" p) [a] [] pos) (iEnumB C.K (tCons ta tNil)) (wEnum wa) := ⟨hK ▸ pi_enumB hg hm (pa_cons h.pe pa_nil hs2) hs, fun G σ H s Q R r q k => h.ie G σ H s _ _ r q fun v d s1 G1 H1 q1 r1 eg eh p => by
  obtain ⟨hs, q1⟩ := q1
  obtain ⟨a, xs, rfl, h1, h2⟩ := dp_seq (H := H1) p hs
  exact ⟨isT d, a, xs, rfl, SqB.ex r1.fin.gh h1, k _ _ s1 G1 H1 q1 r1 eg eh (itd_enum h1 h2)⟩⟩
/-- zip of two -/
def zipD (ds es : List PyData) : List PyData := List.zipWith (fun d e => .tuple [d, e]) ds es
def wZip (w u : WE) : WA := fun s Q => w s fun d s1 => u s1 fun e s2 => seqd d = true ∧ seqd e = true ∧ Q (zipD (its d) (its e)) s2
theorem itd_zip {G : Hp} {p p' : Addr} {b b' : Bool} {xs xs' : List V} {ds ds' : List PyData} (h1 : SqB C.K b G p xs) (h2 : DpAll C.K G xs ds) (h1' : SqB C.K b' G p' xs') (h2' : DpAll C.K G xs' ds') : ItD C G (ItzB C.K b b' p p') (zipD ds ds') := fun G2 H2 e1 e2 => by
  have k1 := SqB.ex (e1.trans e2) h1
  have k2 := SqB.ex (e1.trans e2) h1'
  have l1 := dpa_len h2
  have l2 := dpa_len h2'
  refine ⟨fun i d hd => ?_, xs, xs', k1, k2, ?_, ?_, ?_⟩
  · unfold zipD at hd
    rw [List.getElem?_zipWith] at hd
    cases q : ds[i]? with
    | none => rw [q] at hd; cases hd
    | some z =>
      cases q' : ds'[i]? with
      | none => rw [q, q'] at hd; cases hd
      | some z' =>
        rw [q, q'] at hd
        cases hd
        obtain ⟨v, hv, pv⟩ := dpa_back h2 q
        obtain ⟨v', hv', pv'⟩ := dpa_back h2' q'
        refine ⟨⟨xs, xs', v, v', k1, k2, hv, hv'⟩, fun x H3 y => ?_⟩
        obtain ⟨T, u, u', rfl, hT, rfl, hy, hy'⟩ := y
        have e := hy xs k1
        rw [hv] at e
        cases e
        have e := hy' xs' k2
        rw [hv'] at e
        cases e
        have g1 : G2 T = none := fresh_back e2 hT
        exact ⟨upd G2 T (.tup [v, v']), Ex.new g1, Ex.new hT, Ex.both e2 hT, Nw.one hT, .tup (.inl (.inl upd_same)) (.cons (dp_ex (e1.trans (Ex.new g1)) pv) (.cons (dp_ex (e1.trans (Ex.new g1)) pv') .nil))⟩
  all_goals unfold zipD; rw [List.length_zipWith]; omega
theorem di_zip {elts : List Expr} {kk : Nat} {tpos : Pos} (hK : X.K = C.K) (hg : Gl X "zip") (hm : X.mg "zip" = none) (h : DE X C a ta wa) (h' : DE X C b tb wb) (hpi : PI X (.Tuple elts kk tpos) (.Call (.Name "zip" p) [a, b] [] pos) (iZipB X.K (tCons ta (tCons tb tNil)))) :
    DI X C (.Tuple elts kk tpos) (.Call (.Name "zip" p) [a, b] [] pos) (iZipB C.K (tCons ta (tCons tb tNil))) (wZip wa wb) := ⟨hK ▸ hpi, fun G σ H s Q R r q k => h.ie G σ H s _ _ r q fun v d s1 G1 H1 q1 r1 eg eh p =>
  h'.ie G1 σ H1 s1 _ _ r1 q1 fun v' d' s2 G2 H2 q2 r2 eg2 eh2 p' => by
  obtain ⟨hs, hs', q2⟩ := q2
  obtain ⟨a, xs, rfl, h1, h2⟩ := dp_seq (H := H1) (dp_ex eg2 p) hs
  obtain ⟨a', xs', rfl, h1', h2'⟩ := dp_seq (H := H2) p' hs'
  exact ⟨isT d, isT d', a, a', xs, xs', rfl, SqB.ex r2.fin.gh h1, SqB.ex r2.fin.gh h1', k _ _ s2 G2 H2 q2 r2 (eg.trans eg2) (eh.trans eh2) (itd_zip h1 h2 h1' h2')⟩⟩
end
structure DEnds where
  nx : Dt → Prop
  rt : PyData → Cs → Prop
  bk : Dt → Prop := fun _ => False
  ct : Dt → Prop := fun _ => False
abbrev WS := DEnds → Dt → Prop
structure Outs (C : Ct) (G : Hp) (D : Ends) (DD : DEnds) : Prop where
  nx : ∀ σ' H' s' G', DD.nx s' → Rel C G' σ' H' s' → Ex G G' → D.nx σ' H'
  bk : ∀ σ' H' s' G', DD.bk s' → Rel C G' σ' H' s' → Ex G G' → D.bk σ' H'
  ct : ∀ σ' H' s' G', DD.ct s' → Rel C G' σ' H' s' → Ex G G' → D.ct σ' H'
  rt : ∀ v d c' G' H', DD.rt d c' → Fin C G' H' c' → Ex G G' → Dp C.K G' v d → D.rt v H'
theorem Outs.mono {C : Ct} {G G1 : Hp} {D : Ends} {DD : DEnds} (o : Outs C G D DD) (e : Ex G G1) : Outs C G1 D DD :=
  ⟨fun σ H s G' a b c => o.nx σ H s G' a b (e.trans c), fun σ H s G' a b c => o.bk σ H s G' a b (e.trans c), fun σ H s G' a b c => o.ct σ H s G' a b (e.trans c), fun v d c' G' H' a b c p => o.rt v d c' G' H' a b (e.trans c) p⟩
def IS (C : Ct) (t : TS) (w : WS) : Prop := ∀ G σ H s D DD, Rel C G σ H s → w DD s → Outs C G D DD → t D σ H
structure DS (X : Cx) (C : Ct) (st : Stmt) (t : TS) (w : WS) : Prop where
  ps : PS X st t
  is : IS C t w
structure DSs (X : Cx) (C : Ct) (st : List Stmt) (t : TS) (w : WS) : Prop where
  ps : PSs X st t
  is : IS C t w
section
variable {X : Cx} {C : Ct} {a b e tg : Expr} {es : List Expr} {pos p : Pos} {t ta tb tc : TE} {w wa wb wc : WE} {tA : TA} {wA : WA} {x : Str} {st : Stmt} {sts : List Stmt} {u v : TS} {wu wv : WS}
def wNext : WS := fun DD s => DD.nx s
def wSq (w u : WS) : WS := fun DD s => w { DD with nx := u DD } s
theorem is_seq (h : IS C u wu) (h2 : IS C v wv) : IS C (tSeq u v) (wSq wu wv) := fun G σ H s D DD r q o =>
  h G σ H s _ _ r q ⟨fun σ' H' s' G' n r' e => h2 G' σ' H' s' D DD r' n (o.mono e), o.bk, o.ct, o.rt⟩
theorem dss_nil : DSs X C [] tNext wNext := ⟨pss_nil, fun G σ H s D DD r q o => o.nx σ H s G q r (Ex.refl G)⟩
theorem dss_cons (h : DS X C st u wu) (h2 : DSs X C sts v wv) : DSs X C (st :: sts) (tSeq u v) (wSq wu wv) := ⟨pss_cons h.ps h2.ps, is_seq h.is h2.is⟩
/-- a statement that several ways lead out of: what holds behind it, said once -/
def wSqC (w u : WS) : WS := fun DD s => ∃ P : Dt → Prop, w { DD with nx := P } s ∧ ∀ s', P s' → u DD s'
theorem dss_cut (h : DS X C st u wu) (h2 : DSs X C sts v wv) : DSs X C (st :: sts) (tSeq u v) (wSqC wu wv) := ⟨pss_cons h.ps h2.ps, fun G σ H s D DD r q o => by
  obtain ⟨P, q1, q2⟩ := q
  exact h.is G σ H s _ _ r q1 ⟨fun σ' H' s' G' n r' e => h2.is G' σ' H' s' D DD r' (q2 s' n) (o.mono e), o.bk, o.ct, o.rt⟩⟩
theorem dss_one (h : DS X C st u wu) : DSs X C [st] u wu := ⟨pss_one h.ps, h.is⟩
def wRet (w : WE) : WS := fun DD s => w s fun d s1 => DD.rt d s1.c
theorem ds_ret (h : DE X C e t w) : DS X C (.Return (some e) pos) (tRet t) (wRet w) := ⟨ps_ret h.pe, fun G σ H s D DD r q o => h.ie G σ H s _ _ r q fun v d s1 G1 H1 q1 r1 eg eh p => o.rt v d s1.c G1 H1 q1 r1.fin eg p⟩
def wIfS (c : WT) (u v : WS) : WS := fun DD s => c s fun b s1 => if b = true then u DD s1 else v DD s1
theorem ds_if {c : Expr} {l1 l2 : List Stmt} {tc : TT} {wc : WT} (hc : DT X C c tc wc) (h1 : DSs X C l1 u wu) (h2 : DSs X C l2 v wv) : DS X C (.If c l1 l2 pos) (tIfS tc u v) (wIfS wc wu wv) := ⟨ps_if hc.pt h1.ps h2.ps, fun G σ H s D DD r q o =>
  hc.it G σ H s _ _ r q fun b s1 G1 H1 q1 r1 eg eh => by
    cases b with
    | true =>
      rw [if_pos rfl] at q1
      exact iteT (h1.is G1 σ H1 s1 D DD r1 q1 (o.mono eg))
    | false =>
      rw [if_neg (by decide)] at q1
      exact iteF (h2.is G1 σ H1 s1 D DD r1 q1 (o.mono eg))⟩
def wDrop (w : WE) : WS := fun DD s => w s fun _ s1 => DD.nx s1
/-- target = e -/
def wAsg (w : WE) (g : WG) : WS := fun DD s => w s fun d s1 => g d s1 DD.nx
theorem is_asg {g : TG} {ks : List Nat} {wg : WG} (h : IE C t w) (hg : IG C g ks wg) : IS C (tAsg t g) (wAsg w wg) := fun G σ H s D DD r q o =>
  h G σ H s _ _ r q fun v d s1 G1 H1 q1 r1 eg eh p => hg G1 σ H1 s1 v d _ _ r1 p q1 fun σ' s' q2 r2 _ _ => o.nx σ' H1 s' G1 q2 r2 eg
theorem ds_asg {g : TG} {ks : List Nat} {wg : WG} (h : DE X C e t w) (hg : DG X C tg g ks wg) (hs : swapsWithSole [tg] e pos.line X.env = pure false := by rfl) (hw : swappedStores [tg] e X.env = pure none := by rfl)
    (h1 : (assignEach [tg] X.env).map (·.2) = [assign tg X.env] := by rfl) : DS X C (.Assign [tg] e pos) (tAsg t g) (wAsg w wg) := ⟨ps_asg h.pe hg.pg hs hw h1, is_asg h.ie hg.ig⟩
theorem ds_set (i : Nat) {pos' : Pos} (hN : X.N.Nodup) (h : DE X C e t w) (hi : X.N[i]? = some x := by rfl) (hx : Loc X.env.scope x := by first | exact .inl rfl | exact .inr rfl) (hs : swapsWith e (some (.Name x pos')) pos.line X.env = pure false := by rfl)
    (hf : X.fn x = true ∨ X.env.scope.names.lookup x = some .local := by first | exact .inl rfl | exact .inr rfl | assumption) : DS X C (.Assign [.Name x pos'] e pos) (tAsg t (gName i)) (wAsg w (wName i)) := ⟨ps_set hN hi hx h.pe hs hf, is_asg h.ie (ig_name i)⟩
/-- name = a new list of the def's own -/
def wOwn (i : Nat) (w : WA) : WS := fun DD s => w s fun ds s1 => DD.nx (s1.set i (.own ds))
theorem is_own {i : Nat} {w : WA} (h : IO C t w) : IS C (tAsg t (gName i)) (wOwn i w) := fun G σ H s D DD r q o =>
  h G σ H s _ _ r q fun p xs ds s1 G1 H1 q1 r1 eg eh hp h1 h2 h3 h4 => o.nx _ H1 _ G1 q1 (r1.put (x := .own ds) ⟨p, xs, rfl, h1, r.fin.h0 hp, h2, h3⟩ fun _ j y p' ej m z => by
    cases z
    exact h4 j y ej m) eg
theorem ds_own (i : Nat) {w : WA} {pos' : Pos} (hN : X.N.Nodup) (h : DO X C e t w) (hi : X.N[i]? = some x := by rfl) (hx : Loc X.env.scope x := by first | exact .inl rfl | exact .inr rfl) (hs : swapsWith e (some (.Name x pos')) pos.line X.env = pure false := by rfl)
    (hf : X.fn x = true ∨ X.env.scope.names.lookup x = some .local := by first | exact .inl rfl | exact .inr rfl | assumption) : DS X C (.Assign [.Name x pos'] e pos) (tAsg t (gName i)) (wOwn i w) := ⟨ps_set hN hi hx h.pe hs hf, is_own h.io⟩
/-- name += e -/
def wAug (i : Nat) (f : Int → Int → Int) (w : WE) : WS := fun DD s => ∃ m, s.env[i]? = some (some (.d (.int m))) ∧ w s fun d s1 => ∃ n, d = .int n ∧ DD.nx (s1.set i (.d (.int (f m n))))
theorem is_aug {i : Nat} {f : Int → Int → Int} (h : IE C t w) : IS C (tAug i t (ipI f)) (wAug i f w) := fun G σ H s D DD r q o => by
  obtain ⟨m, em, q⟩ := q
  obtain ⟨v, hv, rv⟩ := r.sl i _ em
  refine ⟨v, hv, h G σ H s _ _ r q fun y d s1 G1 H1 q1 r1 eg eh p => ?_⟩
  obtain ⟨n, rfl, q1⟩ := q1
  exact ⟨m, n, dp_int rv, dp_int p, o.nx _ H1 _ G1 q1 (r1.putd (.int _)) eg⟩
theorem ds_iadd (i : Nat) {pos' : Pos} (hN : X.N.Nodup) (h : DE X C e t w) (hi : X.N[i]? = some x := by rfl) (hx : Loc X.env.scope x := by first | exact .inl rfl | exact .inr rfl) (hf : X.fn x = true ∨ X.env.scope.names.lookup x = some .local := by first | exact .inl rfl | exact .inr rfl | assumption) :
    DS X C (.AugAssign (.Name x pos') .Add e pos) (tAug i t (ipI fun i j => i + j)) (wAug i (fun i j => i + j) w) := ⟨ps_aug hN hi hx h.pe ip_add hf, is_aug h.ie⟩
def wMeth (i : Nat) (wA : WA) (f : List PyData → List PyData → (PyData → List PyData → Prop) → Prop) : WE := fun s Q => (∃ ds0, s.env[i]? = some (some (.own ds0))) ∧ wA s fun as s1 => ∃ ds, s1.env[i]? = some (some (.own ds)) ∧ f ds as fun d ds' => Q d (s1.set i (.own ds'))
/-- such a method as a statement -/
theorem is_meth {i : Nat} {r : V → List V → Hp → VK → Prop} {f : List PyData → List PyData → (PyData → List PyData → Prop) → Prop}
    (hr : ∀ G H p xs vs ds as R Q', H p = some (.lst xs) → DpAll C.K G xs ds → DpAll C.K G vs as → f ds as R → (∀ v d xs' ds', R d ds' → DpAll C.K G xs' ds' → Dp C.K G v d → Q' v (upd H p (.lst xs'))) → r (.ref p) vs H Q') (h : IA C tA wA) :
    IS C (tDrop (tBM C.K "list" r (tVar i) tA)) (wDrop (wMeth i wA f)) := fun G σ H s D DD rr q o => by
  obtain ⟨⟨ds0, e0⟩, q⟩ := q
  obtain ⟨v, hv, p, xs0, rfl, b1, b2, b3, b4⟩ := rr.sl i _ e0
  refine ⟨_, hv, .inl ⟨rfl, _, .inl (.inl b1)⟩, h G σ H s _ _ rr q fun vs as s1 G1 H1 q1 r1 eg eh pa => ?_⟩
  obtain ⟨ds, e1, q1⟩ := q1
  obtain ⟨v', hv', p', xs, hvp, a1, a2, a3, a4⟩ := r1.sl i _ e1
  rw [hv] at hv'
  cases hv'
  cases hvp
  exact hr G1 H1 p xs vs ds as _ _ a1 a4 pa q1 fun v d xs' ds' q2 hd pd => o.nx σ _ _ G1 q2 (r1.mutl e1 hv hd) eg
def fAppend : List PyData → List PyData → (PyData → List PyData → Prop) → Prop := fun ds as Q => ∃ d, as = [d] ∧ ds.length < 100000 ∧ Q .none (ds ++ [d])
theorem ds_append (i : Nat) {apos cpos : Pos} (hK : X.K = C.K) (h : DE X C e t w) (hv : PE X (.Name x p) (tVar i) := by exact pv _) (hb : PE X (.Call (.Attribute (.Name x p) "append" apos) [e] [] cpos) (tBM X.K "list" rAppend (tVar i) (tCons t tNil)))
    (hs : swapsWith (.Call (.Attribute (.Name x p) "append" apos) [e] [] cpos) none pos.line X.env = pure false := by rfl) :
    DS X C (.Expr (.Call (.Attribute (.Name x p) "append" apos) [e] [] cpos) pos) (tDrop (tBM C.K "list" rAppend (tVar i) (tCons t tNil))) (wDrop (wMeth i (wCons w fun s Q => Q [] s) fAppend)) :=
  ⟨ps_expr (hK ▸ hb) hs, is_meth (fun G H p xs vs ds as R Q' h1 h2 h3 hf k => by
    obtain ⟨d, rfl, hl, hf⟩ := hf
    cases h3 with
    | cons p1 p2 =>
      cases p2
      exact ⟨p, xs, _, rfl, rfl, h1, sz_lt (by rw [dpa_len h2]; exact hl), k _ _ _ _ hf (dpa_app h2 (.cons p1 .nil)) .non⟩) (ia_cons h.ie ia_nil)⟩
end
end Dw
namespace Dw
open PySem PySem.Spec PyProof.Rows L2 OgR Evl
section
variable {X : Cx} {C : Ct} {a b e tg : Expr} {es : List Expr} {pos p : Pos} {t ta tb tc te : TE} {w wa wb wc we : WE} {tA : TA} {wA : WA} {x : Str} {st : Stmt} {sts : List Stmt} {u v : TS} {wu wv : WS}
def wFor (w : WA) (g : WG) (wb : WS) : WS := fun DD s => w s fun ds s1 => ∃ Inv : Nat → Dt → Prop, Inv 0 s1 ∧
  (∀ (i : Nat) d s2, ds[i]? = some d → Inv i s2 → g d s2 fun s3 => wb { nx := Inv (i + 1), rt := DD.rt, bk := DD.nx, ct := Inv (i + 1) } s3) ∧ ∀ s2, Inv ds.length s2 → DD.nx s2
theorem is_for {wi : TI} {wI : WA} {g : TG} {ks : List Nat} {wg : WG} {tb : TS} {wb : WS} (hi : II C wi wI) (hg : IG C g ks wg) (hb : IS C tb wb) : IS C (tFor wi g tb) (wFor wI wg wb) := fun G σ H s D DD r q o =>
  hi G σ H s _ _ r q fun J ds s1 G1 H1 q1 r1 eg eh itd => by
    obtain ⟨Inv, h0, hs, hd⟩ := q1
    refine ⟨fun i m σ' H' => m = ds.length - i ∧ i ≤ ds.length ∧ ∃ G' s', Ex G1 G' ∧ Rel C G' σ' H' s' ∧ Inv i s', ⟨ds.length, by simp, Nat.zero_le _, G1, s1, Ex.refl G1, r1, h0⟩, ?_⟩
    rintro i m σ' H' ⟨rfl, hi, G', s', e', r', inv⟩
    obtain ⟨go, stop⟩ := itd G' H' e' r'.fin.gh
    by_cases hlt : i < ds.length
    · have hd1 : ds[i]? = some ds[i] := List.getElem?_eq_getElem hlt
      obtain ⟨g1, g2⟩ := go i _ hd1
      refine .inr ⟨g1, fun σ2 H2 => ∃ G2 s2, Ex G1 G2 ∧ Rel C G2 σ2 H2 s2 ∧ Inv (i + 1) s2, fun σ2 H2 ⟨G2, s2, a1, a2, a3⟩ => ⟨ds.length - (i + 1), by omega, rfl, hlt, G2, s2, a1, a2, a3⟩, fun x H3 y => ?_⟩
      obtain ⟨G3, b1, b2, b3, b4, b5⟩ := g2 x H3 y
      have r3 := r'.grow b1 b2 b3 b4
      have e3 := e'.trans b1
      refine hg G3 σ' H3 s' x _ _ _ r3 b5 (hs i _ s' hd1 inv) fun σ4 s4 q4 r4 _ _ => hb G3 σ4 H3 s4 _ _ r4 q4 ⟨fun σ5 H5 s5 G5 q r e => ⟨G5, s5, e3.trans e, r, q⟩, fun σ5 H5 s5 G5 q r e => o.nx σ5 H5 s5 G5 q r ((eg.trans e3).trans e), fun σ5 H5 s5 G5 q r e => ⟨G5, s5, e3.trans e, r, q⟩, fun v d c' G5 H5 q f e p => o.rt v d c' G5 H5 q f ((eg.trans e3).trans e) p⟩
    · have e : i = ds.length := by omega
      subst e
      exact .inl ⟨stop, o.nx σ' H' s' G' (hd s' inv) r' (eg.trans e')⟩
theorem ds_for {iter : Expr} {wi : TI} {wI : WA} {g : TG} {ks : List Nat} {wg : WG} {tb : TS} {wb : WS} (hp : PassesOwn (model X.prog X.w) X.A X.env X.xe) (hc : X.calm = true) (hi : DI X C tg iter wi wI) (hg : DG X C tg g ks wg) (hb : DSs X C sts tb wb)
    (hs : ∀ x, foldedSetIterable iter X.env x = pure x := by intro _; rfl) : DS X C (.For tg iter sts [] pos) (tFor wi g tb) (wFor wI wg wb) := ⟨ps_for hp hc hi.pi hg.pg hb.ps hs, is_for hi.ii hg.ig hb.is⟩
def wWhile (c : WT) (wb : WS) : WS := fun DD s => ∃ Inv : Nat → Dt → Prop, (∃ m, Inv m s) ∧ ∀ m s, Inv m s → c s fun b s1 => if b = true then wb { nx := fun s2 => ∃ m', m' < m ∧ Inv m' s2, rt := DD.rt, bk := DD.nx, ct := fun s2 => ∃ m', m' < m ∧ Inv m' s2 } s1 else DD.nx s1
def wipeD (env : List (Option DV)) : List Nat → List (Option DV)
  | [] => env
  | v :: vs => (wipeD env vs).set v none
theorem wipeD_len (env : List (Option DV)) : ∀ vs : List Nat, (wipeD env vs).length = env.length
  | [] => rfl
  | v :: vs => by unfold wipeD; rw [List.length_set, wipeD_len env vs]
theorem wipeD_some {env : List (Option DV)} {i : Nat} {x : DV} : ∀ {vs : List Nat}, (wipeD env vs)[i]? = some (some x) → env[i]? = some (some x) ∧ i ∉ vs
  | [], h => ⟨h, by simp⟩
  | v :: vs, h => by
    unfold wipeD at h
    by_cases hi : v = i
    · subst hi
      by_cases hv : v < (wipeD env vs).length
      · rw [List.getElem?_set_self hv] at h; cases h
      · rw [List.getElem?_eq_none (by rw [List.length_set]; omega)] at h; cases h
    · rw [List.getElem?_set_ne hi] at h
      obtain ⟨h1, h2⟩ := wipeD_some h
      exact ⟨h1, by simp only [List.mem_cons, not_or]; exact ⟨fun e => hi e.symm, h2⟩⟩
theorem wipe_get (σ : L2.St) (j : Nat) : ∀ vs : List Nat, (wipe σ vs)[j]? = if j ∈ vs then (if j < σ.length then some none else none) else σ[j]?
  | [] => by simp [wipe]
  | v :: vs => by
    unfold wipe
    by_cases hv : v = j
    · subst hv
      rw [if_pos (by simp)]
      by_cases hl : v < σ.length
      · rw [List.getElem?_set_self (by rw [wipe_length]; exact hl), if_pos hl]
      · rw [List.getElem?_eq_none (by rw [List.length_set, wipe_length]; omega), if_neg hl]
    · rw [List.getElem?_set_ne hv, wipe_get σ j vs]
      by_cases hm : j ∈ vs
      · rw [if_pos hm, if_pos (show j ∈ v :: vs from List.mem_cons_of_mem _ hm)]
      · rw [if_neg hm, if_neg (show ¬ j ∈ v :: vs by simp only [List.mem_cons, not_or]; exact ⟨fun z => hv z.symm, hm⟩)]
theorem wipe_of {σ σ2 : L2.St} {vs ks : List Nat} (hl : σ2.length = (wipe σ vs).length) (h : ∀ j : Nat, j ∉ ks → σ2[j]? = (wipe σ vs)[j]?) (hk : ∀ k ∈ ks, k ∈ vs) : wipe σ2 vs = wipe σ vs := by
  refine List.ext_getElem? fun j => ?_
  rw [wipe_length] at hl
  rw [wipe_get, wipe_get]
  by_cases hj : j ∈ vs
  · rw [if_pos hj, if_pos hj, hl]
  · rw [if_neg hj, if_neg hj, h j fun z => hj (hk j z), wipe_get, if_neg hj]
theorem Rel.wipe {G H : Hp} {σ : L2.St} {s : Dt} (r : Rel C G σ H s) (vs : List Nat) : Rel C G (L2.wipe σ vs) H ⟨wipeD s.env vs, s.c⟩ := by
  have go : ∀ (i : Nat), i ∉ vs → (L2.wipe σ vs)[i]? = σ[i]? := fun i hi => by rw [wipe_get, if_neg hi]
  refine ⟨r.fin, by show (wipeD s.env vs).length = _; rw [wipeD_len, wipe_length]; exact r.len, fun i x e => ?_, fun i j x y p hne e1 e2 m1 m2 => ?_⟩
  · obtain ⟨e', hi⟩ := wipeD_some e
    obtain ⟨v, hv, rv⟩ := r.sl i x e'
    exact ⟨v, by rw [go i hi]; exact hv, rv⟩
  · obtain ⟨e1', h1⟩ := wipeD_some e1
    obtain ⟨e2', h2⟩ := wipeD_some e2
    rw [go i h1, go j h2]
    exact r.dis i j x y p hne e1' e2' m1 m2
/-- what is neither data nor the box stays so, where the slots keep their own lists -/
theorem Gs.keep {σ : L2.St} {G H G' H' : Hp} {s s' : Dt} (g : Gs C σ G H s G' H' s') (r : Rel C G σ H s) (r' : Rel C G' σ H' s') (he : s'.env = s.env) {b : Addr} {o : HO} (h1 : G b = none) (hb : ¬ C.bx.has b) (h2 : H b = some o) (hn : notTup o = true) : G' b = none := by
  by_cases hx : ∃ (i : Nat) (x : DV), s.env[i]? = some (some x) ∧ x.mut = true ∧ σ[i]? = some (some (.ref b))
  · obtain ⟨i, x, e, m, hs⟩ := hx
    rw [← he] at e
    obtain ⟨v, hv, rv⟩ := r'.sl i x e
    rw [hs] at hv
    cases hv
    cases x with
    | d _ => cases m
    | box => cases m
    | ob _ => cases m
    | obl _ => cases m
    | own ds =>
      obtain ⟨p', xs, a1, a2, a3, a4, a5⟩ := rv
      cases a1
      exact a4
    | dic ds =>
      obtain ⟨p', xs, a1, a2, a3, a4, a5⟩ := rv
      cases a1
      exact a4
    | dit ds =>
      obtain ⟨p', xs, a1, a2, a3, a4, a5⟩ := rv
      cases a1
      exact a4
    | dd _ => cases m
    | oth _ => cases m
  · exact g.nk b _ h1 hb h2 hn fun i x e m hs => hx ⟨i, x, e, m, hs⟩
theorem Rel.back {σ σ2 : L2.St} {G H G' H' : Hp} {env : List (Option DV)} {c : Cs} {s2 s' : Dt} (r : Rel C G σ H ⟨env, c⟩) (r2 : Rel C G σ2 H s2) (r' : Rel C G' σ2 H' s') (he : s'.env = s2.env) (eg : Ex G G') (g : Gs C σ2 G H s2 G' H' s') : Rel C G' σ H' ⟨env, s'.c⟩ := by
  refine ⟨r'.fin, r.len, fun i x e => ?_, r.dis⟩
  obtain ⟨v, hv, rv⟩ := r.sl i x e
  refine ⟨v, hv, ?_⟩
  cases x with
  | d _ => exact dp_ex eg rv
  | box => exact rv
  | ob _ => exact rv
  | obl _ => exact obl_ex eg rv
  | own ds =>
    obtain ⟨p', xs, a1, a2, a3, a4, a5⟩ := rv
    exact ⟨p', xs, a1, g.gr p' _ (r.fin.nbx a3) a2, a3, g.keep r2 r' he a4 (r.fin.nbx a3) a2 rfl, dpa_ex eg a5⟩
  | dic ds =>
    obtain ⟨p', xs, a1, a2, a3, a4, a5⟩ := rv
    exact ⟨p', xs, a1, g.gr p' _ (r.fin.nbx a3) a2, a3, g.keep r2 r' he a4 (r.fin.nbx a3) a2 rfl, paired_mapP a5 fun a b q => ⟨q.1, dp_ex eg q.2⟩⟩
  | dit ds =>
    obtain ⟨p', xs, a1, a2, a3, a4, a5⟩ := rv
    exact ⟨p', xs, a1, g.gr p' _ (r.fin.nbx a3) a2, a3, g.keep r2 r' he a4 (r.fin.nbx a3) a2 rfl, paired_mapP a5 fun a b q => ⟨q.1, dp_ex eg q.2⟩⟩
  | oth φ => exact Oth.step (φ := φ) rv eg (Kept.of g.gr)
  | dd ds =>
    obtain ⟨p', xs, a1, a2, a5⟩ := rv
    exact ⟨p', xs, a1, a2.gr g.gr, paired_mapP a5 fun a b q => ⟨q.1, dp_ex eg q.2⟩⟩
def wLc (w : WA) (g : WG) (tt : WT) (te : WE) (vs : List Nat) : WA := fun s Q => w s fun ds s1 => ∃ Inv : Nat → List PyData → Cs → Prop, Inv 0 [] s1.c ∧
  (∀ (i : Nat) d acc c, ds[i]? = some d → Inv i acc c → g d ⟨wipeD s1.env vs, c⟩ fun s2 => tt s2 fun b s3 => s3.env = s2.env ∧ if b = true then te s3 fun y s4 => s4.env = s2.env ∧ acc.length < 100000 ∧ Inv (i + 1) (acc ++ [y]) s4.c else Inv (i + 1) acc s3.c) ∧
  ∀ acc c, Inv ds.length acc c → Q acc ⟨s1.env, c⟩
theorem io_lc {wi : TI} {wI : WA} {g : TG} {ks vs : List Nat} {wg : WG} {tt : TT} {wt : WT} (hk : ∀ k ∈ ks, k ∈ vs) (hi : II C wi wI) (hg : IG C g ks wg) (ht : IT C tt wt) (he : IE C te we) : IO C (tLc wi g tt te vs) (wLc wI wg wt we vs) := fun G σ H s Q Q' r q k =>
  hi G σ H s _ _ r q fun J ds s1 G1 H1 q1 r1 eg eh itd D hD => by
    obtain ⟨Inv, h0, hs, hd⟩ := q1
    have hHD : H D = none := by
      cases z : H D with
      | none => rfl
      | some o => exact absurd hD (eh.dom D (by rw [z]; exact Option.some_ne_none _))
    refine ⟨fun i m H' => m = ds.length - i ∧ i ≤ ds.length ∧ ∃ G' acc xs c', Ex G1 G' ∧ Rel C G' σ H' ⟨s1.env, c'⟩ ∧ Gs C σ G1 H1 s1 G' H' ⟨s1.env, c'⟩ ∧ H' D = some (.lst xs) ∧ G' D = none ∧ DpAll C.K G' xs acc ∧ Inv i acc c', ⟨ds.length, by simp, Nat.zero_le _, G1, [], [], s1.c, Ex.refl G1, r1.aside (Ex.new hD), .side (Ex.new hD), upd_same, r1.gnone hD, .nil, h0⟩, ?_⟩
    rintro i m H' ⟨rfl, hi, G', acc, xs, c', e', r', g', hHd, hGd, dacc, inv⟩
    obtain ⟨go, stop⟩ := itd G' H' e' r'.fin.gh
    have nbD : ¬ C.bx.has D := r.fin.nbx (r.fin.h0 hHD)
    by_cases hlt : i < ds.length
    · have hd1 : ds[i]? = some ds[i] := List.getElem?_eq_getElem hlt
      obtain ⟨g1, g2⟩ := go i _ hd1
      refine .inr ⟨g1, fun H2 => ∃ G' acc xs c', Ex G1 G' ∧ Rel C G' σ H2 ⟨s1.env, c'⟩ ∧ Gs C σ G1 H1 s1 G' H2 ⟨s1.env, c'⟩ ∧ H2 D = some (.lst xs) ∧ G' D = none ∧ DpAll C.K G' xs acc ∧ Inv (i + 1) acc c', fun H2 ⟨G2, a1, a2, a3, a4, a5, a6, a7, a8, a9, a10⟩ => ⟨ds.length - (i + 1), by omega, rfl, hlt, G2, a1, a2, a3, a4, a5, a6, a7, a8, a9, a10⟩, fun x H3 y => ?_⟩
      obtain ⟨G3, b1, b2, b3, b4, b5⟩ := g2 x H3 y
      have r3 := r'.grow b1 b2 b3 b4
      have gs3 : Gs C σ G' H' ⟨s1.env, c'⟩ G3 H3 ⟨s1.env, c'⟩ := .grow b2 b4
      have e3 := e'.trans b1
      have hG3 : G3 D = none := gs3.nk D _ hGd nbD hHd rfl fun j y ej m z => by
        obtain ⟨v, hv, rv⟩ := r1.sl j y ej
        rw [z] at hv
        cases hv
        exact r1.notslot hD j y ej m z
      refine hg G3 (L2.wipe σ vs) H3 ⟨wipeD s1.env vs, c'⟩ x _ _ _ (r3.wipe vs) b5 (hs i _ acc c' hd1 inv) fun σ4 s4 q4 r4 l4 f4 => ⟨wipe_of l4 f4 hk, ht G3 σ4 H3 s4 _ _ r4 q4 fun bb s5 G5 H5 q5 r5 eg5 gs5 => ?_⟩
      obtain ⟨he5, q5⟩ := q5
      cases bb with
      | false =>
        rw [if_neg (by decide)] at q5
        have rr := r3.back r4 r5 he5 eg5 gs5
        refine iteF ⟨G5, acc, xs, s5.c, e3.trans eg5, rr, g'.trans (gs3.trans ⟨gs5.gr, gs5.dom, fun b o h1 hb h2 hn h3 => gs5.keep r4 r5 he5 h1 hb h2 hn, fun i x e m => ⟨x, e, m⟩⟩), gs5.gr D _ nbD (b2 D _ hHd), gs5.keep r4 r5 he5 hG3 nbD (b2 D _ hHd) rfl, dpa_ex (b1.trans eg5) dacc, q5⟩
      | true =>
        rw [if_pos rfl] at q5
        refine iteT (he G5 σ4 H5 s5 _ _ r5 q5 fun v y s6 G6 H6 q6 r6 eg6 gs6 pv => ?_)
        obtain ⟨he6, hl, q6⟩ := q6
        have gs7 := gs5.trans gs6
        have rr := r3.back r4 r6 he6 (eg5.trans eg6) gs7
        have hD6 : H6 D = some (.lst xs) := gs7.gr D _ nbD (b2 D _ hHd)
        have gD6 : G6 D = none := gs7.keep r4 r6 he6 hG3 nbD (b2 D _ hHd) rfl
        have hm : ∀ b, b ≠ D → upd H6 D (.lst (xs ++ [v])) b = H6 b := fun b hb => upd_ne hb
        refine ⟨xs, hD6, sz_lt (by rw [dpa_len dacc]; exact hl), G6, acc ++ [y], xs ++ [v], s6.c, e3.trans (eg5.trans eg6), ?_, ?_, upd_same, gD6, dpa_app (dpa_ex ((b1.trans eg5).trans eg6) dacc) (.cons pv .nil), q6⟩
        · -- D is no slot's and not data
          have h0D : C.H0 D = none := r.fin.h0 hHD
          refine ⟨⟨fun b o hb => ?_, rr.fin.g0, rr.fin.nw, fun b o n hb => ?_, rr.fin.ok, rr.fin.obu (Ex.refl _) h0D (fun b o n e => by rw [hm b n]; exact e), fun l hl => ?_⟩, rr.len, fun j y ej => ?_, rr.dis⟩
          · rw [hm b (fun z => by rw [z, gD6] at hb; cases hb)]
            exact rr.fin.gh b o hb
          · rw [hm b (fun z => by rw [z, h0D] at hb; cases hb)]
            exact rr.fin.hh b o n hb
          · exact ⟨(rr.fin.bx l hl).1.updS hD6 rfl (fun z => nbD (by rw [← z]; exact hl)), (rr.fin.bx l hl).2⟩
          · obtain ⟨v', hv', rv⟩ := rr.sl j y ej
            refine ⟨v', hv', ?_⟩
            cases y with
            | d _ => exact rv
            | box => exact rv
            | ob _ => exact rv
            | obl _ => exact rv
            | own ds2 =>
              obtain ⟨p2, xs2, a1, a2, a3, a4, a5⟩ := rv
              exact ⟨p2, xs2, a1, by rw [hm p2 (fun z => r1.notslot hD j _ ej rfl (by rw [hv', a1, z]))]; exact a2, a3, a4, a5⟩
            | dic ds2 =>
              obtain ⟨p2, xs2, a1, a2, a3, a4, a5⟩ := rv
              exact ⟨p2, xs2, a1, by rw [hm p2 (fun z => r1.notslot hD j _ ej rfl (by rw [hv', a1, z]))]; exact a2, a3, a4, a5⟩
            | dit ds2 =>
              obtain ⟨p2, xs2, a1, a2, a3, a4, a5⟩ := rv
              exact ⟨p2, xs2, a1, by rw [hm p2 (fun z => r1.notslot hD j _ ej rfl (by rw [hv', a1, z]))]; exact a2, a3, a4, a5⟩
            | oth φ => exact Oth.step (φ := φ) rv (Ex.refl G6) (Kept.upd hD6 rfl)
            | dd ds2 =>
              obtain ⟨p2, xs2, a1, a2, a5⟩ := rv
              exact ⟨p2, xs2, a1, a2.upd hD6 h0D (fun _ _ z => by cases z), a5⟩
        · have gg := g'.trans (gs3.trans (s2 := ⟨s1.env, s6.c⟩) ⟨gs7.gr, gs7.dom, fun b o h1 hb h2 hn h3 => gs7.keep r4 r6 he6 h1 hb h2 hn, fun i x e m => ⟨x, e, m⟩⟩)
          refine ⟨fun b o n hb => ?_, fun b hb => ?_, gg.nk, gg.ks⟩
          · rw [hm b (fun z => by rw [z, hD] at hb; cases hb)]
            exact gg.gr b o n hb
          · by_cases z : b = D
            · rw [z, upd_same]
              exact Option.some_ne_none _
            · rw [hm b z]
              exact gg.dom b hb
    · have e : i = ds.length := by omega
      subst e
      refine .inl ⟨stop, k D xs acc ⟨s1.env, c'⟩ G' H' (hd acc c' inv) r' (eg.trans e') (eh.trans g') hHD hHd hGd dacc fun j y ej m => r1.notslot hD j y ej m⟩
theorem do_lc {elt iter : Expr} {ifs : List Expr} {scope : Scope} {own : List (Str × Nat)} {wi : TI} {wI : WA} {g : TG} {ks : List Nat} {wg : WG} {tt : TT} {wt : WT} (hc : X.calm = true) (hN : X.N.Nodup) (hi : DI X C tg iter wi wI) (ok : BlkOk X.N X.env.scope scope own)
    (hg : ∀ (s : Shared) (H : Hp) (A : Addr) (cl : List (Str × Addr)) (fp : List Addr), DG (X.blk s H scope (compEnvC scope cl A X.env) fp) C tg g ks wg)
    (ht : (∀ (s : Shared) (H : Hp) (A : Addr) (cl : List (Str × Addr)) (fp : List Addr), PTs (X.blk s H scope (compEnvC scope cl A X.env) fp) ifs tt) ∧ IT C tt wt)
    (he : ∀ (s : Shared) (H : Hp) (A : Addr) (cl : List (Str × Addr)) (fp : List Addr), DE (X.blk s H scope (compEnvC scope cl A X.env) fp) C elt te we) (hk : ∀ k ∈ ks, k ∈ own.map (·.2) := by decide) (hs : ∀ x, foldedSetIterable iter X.env x = pure x := by intro _; rfl) :
    DO X C (.ListComp elt [⟨tg, iter, ifs, 0⟩] scope pos) (tLc wi g tt te (own.map (·.2))) (wLc wI wg wt we (own.map (·.2))) :=
  ⟨pe_lc hc hN hi.pi ok (fun s H A cl fp => (hg s H A cl fp).pg) ht.1 (fun s H A cl fp => (he s H A cl fp).pe) hs,
   io_lc hk hi.ii (hg {} (fun _ => none) 0 [] []).ig ht.2 (he {} (fun _ => none) 0 [] []).ie⟩
end
end Dw
namespace Dw
open PySem PySem.Spec PyProof.Rows L2 OgR Evl
section
variable {P : Program} {wd : World} {K : PySem.W.Frag} {mg : Str → Option Value} {base : Heap}
structure Fct (K : PySem.W.Frag) (mg : Str → Option Value) (x : Str) (st : Stmt) (ps : List Str) : Prop where
  ex : ∃ f fd, Fun K x x st f fd ∧ Binds K fd ps [] ∧ mg x = some (.ref f)
def perm {α : Type} (π : List Nat) (l : List α) : List α := π.filterMap fun i => l[i]?
/-- how names alone bind -/
def ByP (fd : FuncData) (ps ks : List Str) (π : List Nat) : Prop := ∀ (s : Shared) (ws : List Value), ws.length = ks.length → BindsTo s fd ⟨[], ks.zip ws⟩ (ps.zip (perm π ws))
structure Def (P : Program) (wd : World) (K : PySem.W.Frag) (mg : Str → Option Value) (base : Heap) (k : Nat) (x : Str) (st : Stmt) (ps : List Str) (sp : Sp) : Prop where
  ex : ∃ f fd, FnG P wd K mg base k f fd ps sp ∧ Fun K x x st f fd ∧ Binds K fd ps [] ∧ mg x = some (.ref f)
theorem Def.mono {j k : Nat} {x : Str} {st : Stmt} {ps : List Str} {sp : Sp} (D : Def P wd K mg base j x st ps sp) (h : j ≤ k) : Def P wd K mg base k x st ps sp := by
  obtain ⟨f, fd, G, F, b, m⟩ := D.ex
  exact ⟨f, fd, ⟨G.1, fun A outer s H args us vs Q E hG hr => G.2 A outer s H args us vs Q E hG (hr.mono h)⟩, F, b, m⟩
theorem Def.imp {k : Nat} {x : Str} {st : Stmt} {ps : List Str} {sp sp' : Sp} (D : Def P wd K mg base k x st ps sp) (h : ∀ vs H Q E, sp' vs H Q E → sp vs H Q E) : Def P wd K mg base k x st ps sp' := by
  obtain ⟨f, fd, G, F, b, m⟩ := D.ex
  exact ⟨f, fd, ⟨fun vs H Q E q => G.1 vs H Q E (h _ _ _ _ q), fun A outer s H args us vs Q E hG hr he hb hv hs => G.2 A outer s H args us vs Q E hG hr he hb hv (h _ _ _ _ hs)⟩, F, b, m⟩
/-- a promise that asks for what cannot be -/
theorem Def.no {k : Nat} {x : Str} {st : Stmt} {ps : List Str} {sp : Sp} (c : Fct K mg x st ps) (h : ∀ vs H Q E, ¬ sp vs H Q E) : Def P wd K mg base k x st ps sp := by
  obtain ⟨f, fd, F, b, m⟩ := c.ex
  exact ⟨f, fd, ⟨fun vs H Q E q => (h _ _ _ _ q).elim, fun A outer s H args us vs Q E hG hr he hb hv hs => (h _ _ _ _ hs).elim⟩, F, b, m⟩
def env0 (N : List Str) (xs : List DV) : List (Option DV) := xs.map some ++ List.replicate (N.length - xs.length) none
theorem env0_get {N : List Str} {xs : List DV} {i : Nat} {x : DV} (h : (env0 N xs)[i]? = some (some x)) : xs[i]? = some x := by
  unfold env0 at h
  by_cases hl : i < xs.length
  · rw [List.getElem?_append_left (by rw [List.length_map]; exact hl), List.getElem?_map, List.getElem?_eq_getElem hl] at h
    rw [List.getElem?_eq_getElem hl]
    simpa using h
  · rw [List.getElem?_append_right (by rw [List.length_map]; omega)] at h
    obtain ⟨_, h2⟩ := List.getElem?_eq_some_iff.mp h
    rw [List.getElem_replicate] at h2
    cases h2
theorem start_get {N : List Str} {vs : List V} {i : Nat} {v : V} (h : vs[i]? = some v) : (L2.start N vs)[i]? = some (some v) := by
  unfold L2.start
  have hl := (List.getElem?_eq_some_iff.mp h).1
  rw [List.getElem?_append_left (by rw [List.length_map]; exact hl), List.getElem?_map, h]
  rfl
theorem env0_len {N : List Str} {xs : List DV} {vs : List V} (h : xs.length = vs.length) : (env0 N xs).length = (L2.start N vs).length := by
  unfold env0 L2.start
  rw [List.length_append, List.length_append, List.length_map, List.length_map, List.length_replicate, List.length_replicate, h]
theorem Def.pure {k : Nat} {x : Str} {st : Stmt} {N ps : List Str} {F : FP} (c : Fct K mg x st ps) (S : FnScope N ps (defScope st)) (hl : ∀ ds R, F ds R → ds.length = ps.length)
    (body : ∀ (f : Addr) (cdv : Value) (A : Around) (outer : List Env) (s : Shared) (H G : Hp) (E : XK) (ds : List PyData) (R : PyData → Prop), A.guards = some [] → Room k (A.deeper (envOfC x (defScope st) s.heap.objs.size f cdv)) → F ds R →
      ∃ t w, DSs (cxOf CX0 P wd K mg base N x (defScope st) f cdv A outer s H E).nox ⟨K, b0, H, G⟩ (defBody st) t w ∧ w { nx := fun _ => R .none, rt := fun d _ => R d } ⟨env0 N (ds.map .d), 0, []⟩) : Def P wd K mg base (k + 1) x st ps (spP K F) := by
  obtain ⟨f, fd, Fn, b, m⟩ := c.ex
  refine ⟨f, fd, fnG_of Fn S (fun vs H Q E h => ?_) (fun cdv A outer s H vs Q E hG hr h => ?_), Fn, b, m⟩
  · obtain ⟨G, ds, R, _, p, hF, _⟩ := h
    rw [dpa_len p]
    exact hl ds R hF
  · obtain ⟨G, ds, R, gh, p, hF, kk⟩ := h
    obtain ⟨t, w, D, hw⟩ := body f cdv A outer s H G E ds R hG hr hF
    have rel : Rel ⟨K, b0, H, G⟩ G (L2.start N vs) H ⟨env0 N (ds.map .d), 0, []⟩ := by
      refine ⟨⟨gh, Ex.refl G, Nw.refl G H, Gr.refl _ H, Bx.ok0, .nil, fun l hl => nomatch hl⟩, env0_len (by rw [List.length_map, dpa_len p]), fun i x e => ?_, fun i j x y q _ e1 _ m1 => ?_⟩
      · have e' := env0_get e
        rw [List.getElem?_map] at e'
        cases q : ds[i]? with
        | none => rw [q] at e'; cases e'
        | some d =>
          rw [q] at e'
          cases e'
          obtain ⟨v, hv, pv⟩ := dpa_back p q
          exact ⟨v, start_get hv, pv⟩
      · have e' := env0_get e1
        rw [List.getElem?_map] at e'
        cases q : ds[i]? with
        | none => rw [q] at e'; cases e'
        | some d => rw [q] at e'; cases e'; cases m1
    refine ⟨t, D.ps, D.is G (L2.start N vs) H _ _ _ rel hw ⟨fun σ' H' s' G' hn r' e => ?_, fun _ _ _ _ h => h.elim, fun _ _ _ _ h => h.elim, fun v d c' G' H' hR f' e pv => ?_⟩⟩
    · exact kk .non .none G' H' hn e (fun b o hb => r'.fin.hh b o (fun z => nomatch z) hb) r'.fin.gh r'.fin.nw .non
    · exact kk v d G' H' hR e (fun b o hb => f'.hh b o (fun z => nomatch z) hb) f'.gh f'.nw pv
theorem Def.draws {k : Nat} {x : Str} {st : Stmt} {N ps : List Str} {F : FB} (c : Fct K mg x st ps) (S : FnScope N ps (defScope st)) (hl : ∀ ds c R, F ds c R → ds.length + 1 = ps.length)
    (body : ∀ (f : Addr) (cdv : Value) (A : Around) (outer : List Env) (s : Shared) (H G : Hp) (l : Addr) (E : XK) (ds : List PyData) (c : Int) (R : PyData → Int → Prop), A.guards = some [] → Room k (A.deeper (envOfC x (defScope st) s.heap.objs.size f cdv)) → F ds c R →
      ∃ t w, DSs (cxOf CX0 P wd K mg base N x (defScope st) f cdv A outer s H E).nox ⟨K, bB l, H, G⟩ (defBody st) t w ∧ w { nx := fun s => R .none s.c.n, rt := fun d c => R d c.n } ⟨env0 N (.box :: ds.map .d), c, []⟩) : Def P wd K mg base (k + 1) x st ps (spB K F) := by
  obtain ⟨f, fd, Fn, b, m⟩ := c.ex
  refine ⟨f, fd, fnG_of Fn S (fun vs H Q E h => ?_) (fun cdv A outer s H vs Q E hG hr h => ?_), Fn, b, m⟩
  · obtain ⟨l, vs', G, ds, c, R, rfl, _, _, _, p, hF, _⟩ := h
    rw [List.length_cons, dpa_len p]
    exact hl ds c R hF
  · obtain ⟨l, vs', G, ds, c, R, rfl, hB, hGl, gh, p, hF, kk⟩ := h
    obtain ⟨t, w, D, hw⟩ := body f cdv A outer s H G l E ds c R hG hr hF
    have rel : Rel ⟨K, bB l, H, G⟩ G (L2.start N (.ref l :: vs')) H ⟨env0 N (.box :: ds.map .d), c, []⟩ := by
      refine ⟨⟨gh, Ex.refl G, Nw.refl G H, Gr.refl _ H, Bx.ok0, .nil, fun l' hl' => ?_⟩, env0_len (by rw [List.length_cons, List.length_cons, List.length_map, dpa_len p]), fun i x e => ?_, fun i j x y q _ e1 _ m1 => ?_⟩
      · cases hl'
        exact ⟨.ofBox hB (fun z => nomatch z), hGl, hB.ne⟩
      · have e' := env0_get e
        cases i with
        | zero =>
          cases e'
          exact ⟨.ref l, start_get rfl, l, rfl, rfl⟩
        | succ i =>
          rw [List.getElem?_cons_succ, List.getElem?_map] at e'
          cases q : ds[i]? with
          | none => rw [q] at e'; cases e'
          | some d =>
            rw [q] at e'
            cases e'
            obtain ⟨v, hv, pv⟩ := dpa_back p q
            exact ⟨v, start_get (by rw [List.getElem?_cons_succ]; exact hv), pv⟩
      · have e' := env0_get e1
        cases i with
        | zero => cases e'; cases m1
        | succ i =>
          rw [List.getElem?_cons_succ, List.getElem?_map] at e'
          cases q : ds[i]? with
          | none => rw [q] at e'; cases e'
          | some d => rw [q] at e'; cases e'; cases m1
    refine ⟨t, D.ps, D.is G _ H _ _ _ rel hw ⟨fun σ' H' s' G' hn r' e => ?_, fun _ _ _ _ h => h.elim, fun _ _ _ _ h => h.elim, fun v d c' G' H' hR f' e pv => ?_⟩⟩
    · exact kk .non .none s'.c.n G' H' hn e (fun b o hb hx => r'.fin.hh b o (fun z => hb (by cases z; rfl)) hx) (r'.fin.boxAt rfl) r'.fin.gh r'.fin.nw .non
    · exact kk v d c'.n G' H' hR e (fun b o hb hx => f'.hh b o (fun z => hb (by cases z; rfl)) hx) (f'.boxAt rfl) f'.gh f'.nw pv
end
section
variable {X : Cx} {C : Ct} {a b e tg : Expr} {es : List Expr} {pos p : Pos} {t ta tb tc te : TE} {w wa wb wc we : WE} {tA : TA} {wA : WA} {x : Str} {st : Stmt} {sts : List Stmt} {ps : List Str} {k : Nat}
theorem de_c {F : FP} (D : Def X.prog X.w X.K X.mg X.base k x st ps (spP C.K F)) (hG : X.A.guards = some []) (hr : Room k X.A) (hg : Gl X x)
    (ha : DA X C (e :: es) tA wA) (hdb : (x == ("__debug__" : Str)) = false := by decide) (he : starEach (e :: es) X.env = (false, eval e X.env) :: starEach es X.env := by rfl) (hpl : (backTo pos (starEach es X.env)).any (·.1) = false := by rfl) :
    DE X C (.Call (.Name x p) (e :: es) [] pos) (tCall (spP C.K F) [] E0 tA) (wCall F wA) := by
  obtain ⟨f, fd, G, Fn, b, m⟩ := D.ex
  exact ⟨pe_callG G hG hr hg m Fn.kp b ha.pa hdb he hpl, ie_call ha.ia⟩
theorem de_cB (i : Nat) {F : FB} {y : Str} {p2 : Pos} (D : Def X.prog X.w X.K X.mg X.base k x st ps (spB C.K F)) (hG : X.A.guards = some []) (hr : Room k X.A) (hg : Gl X x)
    (ha : DA X C es tA wA) (hv : PE X (.Name y p2) (tVar i) := by exact pv _) (hdb : (x == ("__debug__" : Str)) = false := by decide) (he : starEach (.Name y p2 :: es) X.env = (false, eval (.Name y p2) X.env) :: starEach es X.env := by rfl) (hpl : (backTo pos (starEach es X.env)).any (·.1) = false := by rfl) :
    DE X C (.Call (.Name x p) (.Name y p2 :: es) [] pos) (tCall (spB C.K F) [] E0 (tCons (tVar i) tA)) (wCallB i F wA) := by
  obtain ⟨f, fd, G, Fn, b, m⟩ := D.ex
  exact ⟨pe_callG G hG hr hg m Fn.kp b (pa_cons hv ha.pa he) hdb he hpl, ie_callB ha.ia⟩
structure DKw (X : Cx) (C : Ct) (kws : List Keyword) (t : TA) (w : WA) : Prop where
  pk : PK X kws t
  ia : IA C t w
theorem dk_nil : DKw X C [] tNil (fun s Q => Q [] s) := ⟨pk_nil, ia_nil⟩
theorem dk_cons {kws : List Keyword} {nm : Option Str} {kpos : Pos} {tr : TA} {wr : WA} (h : DE X C e t w) (hr : DKw X C kws tr wr) : DKw X C (⟨nm, e, kpos⟩ :: kws) (tCons t tr) (wCons w wr) := ⟨pk_cons h.pe hr.pk, ia_cons h.ie hr.ia⟩
def tNm (sp : Sp) (n : Nat) (π : List Nat) (E : XK) (tk : TA) : TE := fun σ H Q => tk σ H fun zs H1 => zs.length = n ∧ sp (perm π zs) H1 Q E
theorem vals_perm {π : List Nat} {zs : List V} {ws : List Value} (h : Vals zs ws) : Vals (perm π zs) (perm π ws) := by
  unfold perm
  induction π with
  | nil => exact .nil
  | cons i π ih =>
    rw [List.filterMap_cons, List.filterMap_cons]
    cases q : zs[i]? with
    | none => rw [h.none_of q]; exact ih
    | some v =>
      obtain ⟨u, hu, ru⟩ := h.get q
      rw [hu]
      exact .cons ru ih
theorem dpa_perm {K : PySem.W.Frag} {G : Hp} {π : List Nat} {zs : List V} {ds : List PyData} (h : DpAll K G zs ds) : DpAll K G (perm π zs) (perm π ds) := by
  unfold perm
  induction π with
  | nil => exact .nil
  | cons i π ih =>
    rw [List.filterMap_cons, List.filterMap_cons]
    cases q : zs[i]? with
    | none =>
      rw [List.getElem?_eq_none_iff.mpr (by rw [← dpa_len h]; exact List.getElem?_eq_none_iff.mp q)]
      exact ih
    | some v =>
      obtain ⟨u, hu, ru⟩ := dpa_get h q
      rw [hu]
      exact .cons ru ih
theorem pe_nm {n : Nat} {f : Addr} {fd : FuncData} {ks : List Str} {sp : Sp} {kws : List Keyword} {tk : TA} {π : List Nat} (F : FnG X.prog X.w X.K X.mg X.base k f fd ps sp) (hG : X.A.guards = some []) (hr : Room k X.A) (hg : Gl X x) (hm : X.mg x = some (.ref f)) (hk : PySem.W.keepIn X.K (.ref f) = true) (hb : ByP fd ps ks π) (hn : ks.length = n) (hkw : PK X kws tk)
    (hall : (backToKw pos (keywordEach kws X.env)).all (·.1.isSome) = true := by rfl) (hks : (backToKw pos (keywordEach kws X.env)).filterMap (·.1) = ks := by rfl) (hdb : (x == ("__debug__" : Str)) = false := by decide)
    (hpl : ((backTo pos (starEach [] X.env)).any (·.1) || (backToKw pos (keywordEach kws X.env)).any (·.1.isNone)) = false := by rfl) :
    PE X (.Call (.Name x p) [] kws pos) (tNm sp n π E0 tk) := by
  refine ⟨fun pins s σ H Q I h => wpAny_Call_Name_kw (ld_glob I hg hm ?_ hdb)⟩
  refine PySem.W.callWith_KW0 (h₀ := X.base) I.ok.mod.kin hk hall (thn (hkw.run pos pins s σ H _ I h) fun ws s1 ⟨zs, H1, I1, rz, hl, q⟩ => ⟨I1.kIn, ?_⟩) hpl
  rw [hks]
  have hwl : ws.length = ks.length := by rw [← rz.length, hl, hn]
  refine wpAny_call (codeAny_mono (F.2 X.A X.stack s1 H1 ⟨[], ks.zip ws⟩ (perm π ws) (perm π zs) Q E0 hG hr I1.env0 (hb s1 ws hwl) (vals_perm rz) q) ?_)
  rintro (e | _ | _ | _ | u) s' hq
  all_goals first
    | exact I1.after hq
    | exact False.elim hq
def wNm (F : FP) (n : Nat) (π : List Nat) (wA : WA) : WE := fun s Q => wA s fun ds s1 => ds.length = n ∧ F (perm π ds) fun d => Q d s1
theorem ie_nm {F : FP} {n : Nat} {π : List Nat} (h : IA C tA wA) : IE C (tNm (spP C.K F) n π E0 tA) (wNm F n π wA) := fun G σ H s Q Q' r q k =>
  h G σ H s _ _ r q fun vs ds s1 G1 H1 q1 r1 eg eh p => ⟨by rw [dpa_len p]; exact q1.1, G1, perm π ds, _, r1.fin.gh, dpa_perm p, q1.2, fun v d G2 H2 q2 eg2 eh2 gh nw pd =>
    k v d s1 G2 H2 q2 (r1.grow eg2 eh2 gh nw) (eg.trans eg2) (eh.trans (.grow eh2 nw)) pd⟩
theorem de_nm {F : FP} {ks : List Str} {kws : List Keyword} {tk : TA} {wk : WA} (π : List Nat) (D : Def X.prog X.w X.K X.mg X.base k x st ps (spP C.K F)) (hG : X.A.guards = some []) (hr : Room k X.A) (hg : Gl X x)
    (hby : ∀ (kV doc pm : Value) (an : Option Addr) (cdv ct : Value) (ws : List Value), ws.length = ks.length → bindArgs (PySem.W.fnOf x x (defArgs st) (defBody st) (defScope st) .none kV doc pm an cdv ct) ⟨[], ks.zip ws⟩ = Pure.pure (ps.zip (perm π ws))) (hkw : DKw X C kws tk wk)
    (hall : (backToKw pos (keywordEach kws X.env)).all (·.1.isSome) = true := by rfl) (hks : (backToKw pos (keywordEach kws X.env)).filterMap (·.1) = ks := by rfl) (hdb : (x == ("__debug__" : Str)) = false := by decide)
    (hpl : ((backTo pos (starEach [] X.env)).any (·.1) || (backToKw pos (keywordEach kws X.env)).any (·.1.isNone)) = false := by rfl) :
    DE X C (.Call (.Name x p) [] kws pos) (tNm (spP C.K F) ks.length π E0 tk) (wNm F ks.length π wk) := by
  obtain ⟨f, fd, G, Fn, b, m⟩ := D.ex
  refine ⟨pe_nm (ks := ks) G hG hr hg m Fn.kp ?_ rfl hkw.pk hall hks hdb hpl, ie_nm hkw.ia⟩
  obtain ⟨oc, od, kV, doc, pm, an, cdv, ct, osl, rfl, lk, hcd⟩ := Fn.ex
  exact fun s ws hl => .of_eq (hby kV doc pm an cdv ct ws hl)
theorem ds_setLc {elt iter : Expr} {ifs : List Expr} {scope : Scope} {own : List (Str × Nat)} {wi : TI} {wI : WA} {g : TG} {ks : List Nat} {wg : WG} {tt : TT} {wt : WT} (i : Nat) {y : Str} {py spos : Pos} (hc : X.calm = true) (hN : X.N.Nodup) (hy : X.N[i]? = some y) (hyl : X.env.scope.names.lookup y = some .local)
    (hsw : swapsWith (.ListComp elt [⟨tg, iter, ifs, 0⟩] scope pos) (some (.Name y py)) spos.line X.env = Pure.pure true) (hi : DI X C tg iter wi wI) (ok : BlkOk X.N X.env.scope scope own)
    (hg : ∀ (s : Shared) (H : Hp) (A : Addr) (cl : List (Str × Addr)) (fp : List Addr), DG (X.blk s H scope (compEnvC scope cl A X.env) fp) C tg g ks wg)
    (ht : (∀ (s : Shared) (H : Hp) (A : Addr) (cl : List (Str × Addr)) (fp : List Addr), PTs (X.blk s H scope (compEnvC scope cl A X.env) fp) ifs tt) ∧ IT C tt wt)
    (he : ∀ (s : Shared) (H : Hp) (A : Addr) (cl : List (Str × Addr)) (fp : List Addr), DE (X.blk s H scope (compEnvC scope cl A X.env) fp) C elt te we) (hk : ∀ k ∈ ks, k ∈ own.map (·.2) := by decide) (hs : ∀ x, foldedSetIterable iter X.env x = Pure.pure x := by intro _; rfl) :
    DS X C (.Assign [.Name y py] (.ListComp elt [⟨tg, iter, ifs, 0⟩] scope pos) spos) (tAsg (tLc wi g tt te (own.map (·.2))) (gName i)) (wAsg (wPubO (wLc wI wg wt we (own.map (·.2)))) (wName i)) :=
  ⟨ps_setLc hc hN hy hyl hsw hi.pi ok (fun s H A cl fp => (hg s H A cl fp).pg) ht.1 (fun s H A cl fp => (he s H A cl fp).pe) hs, is_asg (ie_own (io_lc hk hi.ii (hg {} (fun _ => none) 0 [] []).ig ht.2 (he {} (fun _ => none) 0 [] []).ie)) (ig_name i)⟩
theorem ts_one {c : Expr} {scope : Scope} {tt : TT} {wt : WT} (h : ∀ (s : Shared) (H : Hp) (A : Addr) (cl : List (Str × Addr)) (fp : List Addr), DT (X.blk s H scope (compEnvC scope cl A X.env) fp) C c tt wt) :
    (∀ (s : Shared) (H : Hp) (A : Addr) (cl : List (Str × Addr)) (fp : List Addr), PTs (X.blk s H scope (compEnvC scope cl A X.env) fp) [c] tt) ∧ IT C tt wt := ⟨fun s H A cl fp => pts_one (h s H A cl fp).pt, (h {} (fun _ => none) 0 [] []).it⟩
theorem ts_no {scope : Scope} : (∀ (s : Shared) (H : Hp) (A : Addr) (cl : List (Str × Addr)) (fp : List Addr), PTs (X.blk s H scope (compEnvC scope cl A X.env) fp) [] tYes) ∧ IT C tYes (fun s Q => Q true s) :=
  ⟨fun _ _ _ _ _ => pts_nil, fun G σ H s Q Q' r q k => k true s G H q r (Ex.refl G) Gs.refl⟩
abbrev WX := Dt → (DV → Dt → Prop) → Prop
abbrev WXs := Dt → (List DV → Dt → Prop) → Prop
def PV (C : Ct) (σ : L2.St) (G H : Hp) (s : Dt) (v : V) : DV → Prop
  | .d x => Dp C.K G v x
  | .own ds => ∃ p xs, v = .ref p ∧ H p = some (.lst xs) ∧ C.H0 p = none ∧ G p = none ∧ DpAll C.K G xs ds ∧ ∀ (i : Nat) x, s.env[i]? = some (some x) → x.mut = true → σ[i]? ≠ some (some (.ref p))
  | .dic ds => ∃ p xs, v = .ref p ∧ H p = some (.dK xs) ∧ C.H0 p = none ∧ G p = none ∧ Paired (fun a b => a.1 = b.1 ∧ Dp C.K G a.2 b.2) xs ds ∧ ∀ (i : Nat) x, s.env[i]? = some (some x) → x.mut = true → σ[i]? ≠ some (some (.ref p))
  | .dit ds => ∃ p xs, v = .ref p ∧ H p = some (.dT xs) ∧ C.H0 p = none ∧ G p = none ∧ Paired (fun a b => a.1 = b.1 ∧ Dp C.K G a.2 b.2) xs ds ∧ ∀ (i : Nat) x, s.env[i]? = some (some x) → x.mut = true → σ[i]? ≠ some (some (.ref p))
  | .oth φ => φ G H v ∧ ∀ G' H', Ex G G' → φ G' H' v
  | _ => False
theorem PV.mono {σ : L2.St} {G H G' H' : Hp} {s s' : Dt} {v : V} {x : DV} (h : PV C σ G H s v x) (r : Rel C G σ H s) (eg : Ex G G') (g : Gs C σ G H s G' H' s') : PV C σ G' H' s' v x := by
  cases x with
  | d _ => exact dp_ex eg h
  | own ds =>
    obtain ⟨p, xs, a1, a2, a3, a4, a5, a6⟩ := h
    refine ⟨p, xs, a1, g.gr p _ (r.fin.nbx a3) a2, a3, g.nk p _ a4 (r.fin.nbx a3) a2 rfl a6, dpa_ex eg a5, fun i y e m => ?_⟩
    obtain ⟨y', e', m'⟩ := g.ks i y e m
    exact a6 i y' e' m'
  | dic ds =>
    obtain ⟨p, xs, a1, a2, a3, a4, a5, a6⟩ := h
    refine ⟨p, xs, a1, g.gr p _ (r.fin.nbx a3) a2, a3, g.nk p _ a4 (r.fin.nbx a3) a2 rfl a6, paired_mapP a5 fun a b q => ⟨q.1, dp_ex eg q.2⟩, fun i y e m => ?_⟩
    obtain ⟨y', e', m'⟩ := g.ks i y e m
    exact a6 i y' e' m'
  | dit ds =>
    obtain ⟨p, xs, a1, a2, a3, a4, a5, a6⟩ := h
    refine ⟨p, xs, a1, g.gr p _ (r.fin.nbx a3) a2, a3, g.nk p _ a4 (r.fin.nbx a3) a2 rfl a6, paired_mapP a5 fun a b q => ⟨q.1, dp_ex eg q.2⟩, fun i y e m => ?_⟩
    obtain ⟨y', e', m'⟩ := g.ks i y e m
    exact a6 i y' e' m'
  | oth _ => exact ⟨h.2 _ _ eg, fun G2 H2 e => h.2 G2 H2 (eg.trans e)⟩
  | dd _ => exact h
  | box => exact h
  | ob _ => exact h
  | obl _ => exact h
theorem PV.rv {σ : L2.St} {G H : Hp} {s : Dt} {v : V} {x : DV} (h : PV C σ G H s v x) : RV C G H v x := by
  cases x with
  | d _ => exact h
  | own ds =>
    obtain ⟨p, xs, a1, a2, a3, a4, a5, a6⟩ := h
    exact ⟨p, xs, a1, a2, a3, a4, a5⟩
  | dic _ =>
    obtain ⟨p, xs, a1, a2, a3, a4, a5, a6⟩ := h
    exact ⟨p, xs, a1, a2, a3, a4, a5⟩
  | dit _ =>
    obtain ⟨p, xs, a1, a2, a3, a4, a5, a6⟩ := h
    exact ⟨p, xs, a1, a2, a3, a4, a5⟩
  | oth _ => exact ⟨h.1, fun G' H' e _ => h.2 G' H' e⟩
  | dd _ => exact h.elim
  | box => exact h.elim
  | ob _ => exact h.elim
  | obl _ => exact h.elim
/-- new places over H -/
def Frs (H : Hp) (vs : List V) (xs : List DV) : Prop := ∀ (i : Nat) x p, xs[i]? = some x → x.mut = true → vs[i]? = some (.ref p) → H p = none
def Dst (vs : List V) (xs : List DV) : Prop := ∀ (i j : Nat) x y p, i ≠ j → xs[i]? = some x → xs[j]? = some y → x.mut = true → y.mut = true → vs[i]? = some (.ref p) → vs[j]? ≠ some (.ref p)
inductive PVs (C : Ct) (σ : L2.St) (G H : Hp) (s : Dt) : List V → List DV → Prop
  | nil : PVs C σ G H s [] []
  | cons {v : V} {x : DV} {vs : List V} {xs : List DV} : PV C σ G H s v x → PVs C σ G H s vs xs → PVs C σ G H s (v :: vs) (x :: xs)
def IX (C : Ct) (t : TE) (w : WX) : Prop := ∀ G σ H s Q Q', Rel C G σ H s → w s Q →
  (∀ v x s' G' H', Q x s' → Rel C G' σ H' s' → Ex G G' → Gs C σ G H s G' H' s' → PV C σ G' H' s' v x → (∀ p, x.mut = true → v = .ref p → H p = none) → Q' v H') → t σ H Q'
def IXs (C : Ct) (t : TA) (w : WXs) : Prop := ∀ G σ H s Q Q', Rel C G σ H s → w s Q →
  (∀ vs xs s' G' H', Q xs s' → Rel C G' σ H' s' → Ex G G' → Gs C σ G H s G' H' s' → PVs C σ G' H' s' vs xs → Frs H vs xs → Dst vs xs → Q' vs H') → t σ H Q'
structure DX (X : Cx) (C : Ct) (e : Expr) (t : TE) (w : WX) : Prop where
  pe : PE X e t
  ix : IX C t w
structure DXs (X : Cx) (C : Ct) (es : List Expr) (t : TA) (w : WXs) : Prop where
  pa : PA X es t
  ix : IXs C t w
theorem DE.dx (h : DE X C e t w) : DX X C e t (fun s Q => w s fun d s1 => Q (.d d) s1) := ⟨h.pe, fun G σ H s Q Q' r q k => h.ie G σ H s _ _ r q fun v d s' G' H' q' r' eg g p => k v (.d d) s' G' H' q' r' eg g p fun _ m => nomatch m⟩
theorem DO.dx {w : WA} (h : DO X C e t w) : DX X C e t (fun s Q => w s fun ds s1 => Q (.own ds) s1) := ⟨h.pe, fun G σ H s Q Q' r q k => h.io G σ H s _ _ r q fun p xs ds s' G' H' q' r' eg g hp h1 h2 h3 h4 =>
  k (.ref p) (.own ds) s' G' H' q' r' eg g ⟨p, xs, rfl, h1, r.fin.h0 hp, h2, h3, h4⟩ fun p' _ z => by cases z; exact hp⟩
theorem dx_nil : DXs X C [] tNil (fun s Q => Q [] s) := ⟨pa_nil, fun G σ H s Q Q' r q k => k [] [] s G H q r (Ex.refl G) Gs.refl .nil (fun i x p e => by simp at e) fun i j x y p _ e => by simp at e⟩
theorem PVs.mono {σ : L2.St} {G H G' H' : Hp} {s s' : Dt} (r : Rel C G σ H s) (eg : Ex G G') (g : Gs C σ G H s G' H' s') : ∀ {vs : List V} {xs : List DV}, PVs C σ G H s vs xs → PVs C σ G' H' s' vs xs
  | _, _, .nil => .nil
  | _, _, .cons h t => .cons (h.mono r eg g) (PVs.mono r eg g t)
theorem dx_cons {tr : TA} {w : WX} {wr : WXs} (h : DX X C e t w) (hr : DXs X C es tr wr) (hs : starEach (e :: es) X.env = (false, eval e X.env) :: starEach es X.env := by rfl) : DXs X C (e :: es) (tCons t tr) (fun s Q => w s fun x s1 => wr s1 fun xs s2 => Q (x :: xs) s2) :=
  ⟨pa_cons h.pe hr.pa hs, fun G σ H s Q Q' r q k => h.ix G σ H s _ _ r q fun v x s1 G1 H1 q1 r1 eg1 g1 p1 f1 => hr.ix G1 σ H1 s1 _ _ r1 q1 fun vs xs s2 G2 H2 q2 r2 eg2 g2 p2 f2 d2 => by
    refine k (v :: vs) (x :: xs) s2 G2 H2 q2 r2 (eg1.trans eg2) (g1.trans g2) (.cons (p1.mono r1 eg2 g2) p2) (fun i y p ei m hv => ?_) fun i j y z p hne ei ej m1 m2 hv => ?_
    · cases i with
      | zero =>
        cases ei
        cases hv
        exact f1 p m rfl
      | succ i =>
        have := f2 i y p (by simpa using ei) m (by simpa using hv)
        cases q : H p with
        | none => rfl
        | some o => exact absurd this (g1.dom p (by rw [q]; exact Option.some_ne_none _))
    · have key : ∀ (n : Nat) (y z : DV) (p : Addr), y = x → xs[n]? = some z → y.mut = true → z.mut = true → v = .ref p → vs[n]? ≠ some (.ref p) := fun n y z p e1 e2 m1 m2 hv hn => by
        subst e1
        have hz := f2 n z p e2 m2 hn
        cases y with
        | own ds =>
          obtain ⟨p', xs', a1, a2, _⟩ := p1
          rw [hv] at a1
          cases a1
          rw [hz] at a2
          cases a2
        | dic ds =>
          obtain ⟨p', xs', a1, a2, _⟩ := p1
          rw [hv] at a1
          cases a1
          rw [hz] at a2
          cases a2
        | dit ds =>
          obtain ⟨p', xs', a1, a2, _⟩ := p1
          rw [hv] at a1
          cases a1
          rw [hz] at a2
          cases a2
        | dd _ => exact p1
        | oth _ => cases m1
        | d _ => cases m1
        | box => cases m1
        | ob _ => cases m1
        | obl _ => cases m1
      cases i with
      | zero =>
        cases j with
        | zero => exact absurd rfl hne
        | succ j =>
          cases ei
          cases hv
          simpa using key j x z p rfl (by simpa using ej) m1 m2 rfl
      | succ i =>
        cases j with
        | zero =>
          cases ej
          intro hn
          cases hn
          exact key i x y p rfl (by simpa using ei) m2 m1 rfl (by simpa using hv)
        | succ j => simpa using d2 i j y z p (fun e => hne (by rw [e])) (by simpa using ei) (by simpa using ej) m1 m2 (by simpa using hv)⟩
/-- names by slots, all different -/
def setS (σ : L2.St) : List Nat → List V → L2.St
  | k :: ks, v :: vs => setS (σ.set k (some v)) ks vs
  | _, _ => σ
def Dt.sets (s : Dt) : List Nat → List DV → Dt
  | k :: ks, x :: xs => (s.set k x).sets ks xs
  | _, _ => s
theorem rel_sets {G H : Hp} : ∀ {ks : List Nat} {vs : List V} {xs : List DV} {σ : L2.St} {s : Dt}, Rel C G σ H s → PVs C σ G H s vs xs → Dst vs xs → Rel C G (setS σ ks vs) H (s.sets ks xs)
  | [], _, _, _, _, r, _, _ => r
  | _ :: _, _, _, _, _, r, .nil, _ => r
  | k :: ks, _, _, σ, s, r, .cons (v := v) (x := x) (vs := vs) (xs := xs) h t, hd => by
    have r1 : Rel C G (σ.set k (some v)) H (s.set k x) := r.put h.rv fun m j y p ej mj hv => by
      cases x with
      | own ds =>
        obtain ⟨p', xs', a1, a2, a3, a4, a5, a6⟩ := h
        rw [hv] at a1
        cases a1
        exact a6 j y ej mj
      | d _ => cases m
      | box => cases m
      | ob _ => cases m
      | obl _ => cases m
      | dic ds =>
        obtain ⟨p', xs', a1, a2, a3, a4, a5, a6⟩ := h
        rw [hv] at a1
        cases a1
        exact a6 j y ej mj
      | dit ds =>
        obtain ⟨p', xs', a1, a2, a3, a4, a5, a6⟩ := h
        rw [hv] at a1
        cases a1
        exact a6 j y ej mj
      | dd _ => exact h.elim
      | oth _ => cases m
    refine rel_sets (ks := ks) r1 ?_ fun i j y z p hne ei ej m1 m2 hv => by
      simpa using hd (i + 1) (j + 1) y z p (fun e => hne (Nat.succ.inj e)) (by simpa using ei) (by simpa using ej) m1 m2 (by simpa using hv)
    -- the others stay no slot's
    have go : ∀ {vs' : List V} {xs' : List DV}, PVs C σ G H s vs' xs' → (∀ (n : Nat) z p, xs'[n]? = some z → z.mut = true → vs'[n]? = some (.ref p) → x.mut = true → v ≠ .ref p) → PVs C (σ.set k (some v)) G H (s.set k x) vs' xs' := by
      intro vs' xs' hp
      induction hp with
      | nil => exact fun _ => .nil
      | @cons v' x' vs' xs' h' t' ih =>
        intro hq
        refine .cons ?_ (ih fun n z p e m hv => hq (n + 1) z p (by simpa using e) m (by simpa using hv))
        cases x' with
        | d _ => exact h'
        | own ds' =>
          obtain ⟨p', xs'', a1, a2, a3, a4, a5, a6⟩ := h'
          refine ⟨p', xs'', a1, a2, a3, a4, a5, fun i y e m => ?_⟩
          rcases get_set e with ⟨rfl, rfl, hl⟩ | ⟨z, e⟩
          · intro hs
            rw [List.getElem?_set_self (by rw [← r.len]; exact hl)] at hs
            cases hs
            exact hq 0 _ p' rfl rfl (by rw [a1]; rfl) m rfl
          · rw [List.getElem?_set_ne (Ne.symm z)]
            exact a6 i y e m
        | dic ds' =>
          obtain ⟨p', xs'', a1, a2, a3, a4, a5, a6⟩ := h'
          refine ⟨p', xs'', a1, a2, a3, a4, a5, fun i y e m => ?_⟩
          rcases get_set e with ⟨rfl, rfl, hl⟩ | ⟨z, e⟩
          · intro hs
            rw [List.getElem?_set_self (by rw [← r.len]; exact hl)] at hs
            cases hs
            exact hq 0 _ p' rfl rfl (by rw [a1]; rfl) m rfl
          · rw [List.getElem?_set_ne (Ne.symm z)]
            exact a6 i y e m
        | dit ds' =>
          obtain ⟨p', xs'', a1, a2, a3, a4, a5, a6⟩ := h'
          refine ⟨p', xs'', a1, a2, a3, a4, a5, fun i y e m => ?_⟩
          rcases get_set e with ⟨rfl, rfl, hl⟩ | ⟨z, e⟩
          · intro hs
            rw [List.getElem?_set_self (by rw [← r.len]; exact hl)] at hs
            cases hs
            exact hq 0 _ p' rfl rfl (by rw [a1]; rfl) m rfl
          · rw [List.getElem?_set_ne (Ne.symm z)]
            exact a6 i y e m
        | dd _ => exact h'
        | oth _ => exact h'
        | box => exact h'
        | ob _ => exact h'
        | obl _ => exact h'
    exact go t fun n z p e m hv hx hvp => hd 0 (n + 1) x z p (by omega) rfl (by simpa using e) hx m (by rw [hvp]; rfl) (by simpa using hv)
def wPar (n : Nat) (ks : List Nat) (w : WXs) : WS := fun DD s => w s fun xs s1 => xs.length = n ∧ DD.nx (s1.sets ks xs)
theorem pvs_len {σ : L2.St} {G H : Hp} {s : Dt} : ∀ {vs : List V} {xs : List DV}, PVs C σ G H s vs xs → vs.length = xs.length
  | _, _, .nil => rfl
  | _, _, .cons _ t => by rw [List.length_cons, List.length_cons, pvs_len t]
theorem is_par2 {i j : Nat} {w : WXs} (h : IXs C tA w) : IS C (tPar i j tA) (wPar 2 [i, j] w) := fun G σ H s D DD r q o => h G σ H s _ _ r q fun vs xs s1 G1 H1 q1 r1 eg g p f d => by
  obtain ⟨hl, q1⟩ := q1
  have hv := pvs_len p
  match vs, hv with
  | [v, v'], _ => exact ⟨v, v', rfl, o.nx _ H1 _ G1 q1 (rel_sets (ks := [i, j]) r1 p d) eg⟩
  | [], hv => rw [hl] at hv; simp at hv
  | [_], hv => rw [hl] at hv; simp at hv
  | _ :: _ :: _ :: _, hv => rw [hl] at hv; simp at hv
theorem ds_par2 (i j : Nat) {xn yn : Str} {px py pt : Pos} {kt k2 pt2} {w : WXs} (hc : X.calm = true) (hN : X.N.Nodup) (h : DXs X C [a, b] tA w) (hi : X.N[i]? = some xn := by rfl) (hj : X.N[j]? = some yn := by rfl) (hij : i ≠ j := by decide)
    (hx : X.env.scope.names.lookup xn = some .local := by rfl) (hy : X.env.scope.names.lookup yn = some .local := by rfl)
    (hw : swappedStores [.Tuple [.Name xn px, .Name yn py] kt pt] (.Tuple [a, b] k2 pt2) X.env = Pure.pure (some [xn, yn]) := by rfl)
    (hs : swapsWithSole [.Tuple [.Name xn px, .Name yn py] kt pt] (.Tuple [a, b] k2 pt2) pos.line X.env = Pure.pure false := by rfl) :
    DS X C (.Assign [.Tuple [.Name xn px, .Name yn py] kt pt] (.Tuple [a, b] k2 pt2) pos) (tPar i j tA) (wPar 2 [i, j] w) := ⟨ps_par hc hN hi hj hij hx hy h.pa hw hs, is_par2 h.ix⟩
theorem is_par3 {i j l : Nat} {w : WXs} (h : IXs C tA w) : IS C (tPar3 i j l tA) (wPar 3 [i, j, l] w) := fun G σ H s D DD r q o => h G σ H s _ _ r q fun vs xs s1 G1 H1 q1 r1 eg g p f d => by
  obtain ⟨hl, q1⟩ := q1
  have hv := pvs_len p
  match vs, hv with
  | [v, v', v''], _ => exact ⟨v, v', v'', rfl, o.nx _ H1 _ G1 q1 (rel_sets (ks := [i, j, l]) r1 p d) eg⟩
  | [], hv => rw [hl] at hv; simp at hv
  | [_], hv => rw [hl] at hv; simp at hv
  | [_, _], hv => rw [hl] at hv; simp at hv
  | _ :: _ :: _ :: _ :: _, hv => rw [hl] at hv; simp at hv
def gNames : List Nat → TGs
  | [] => gNil
  | k :: ks => gCons (gName k) (gNames ks)
theorem ig_names {G H : Hp} {D : L2.St → Hp → Prop} : ∀ {ks : List Nat} {vs : List V} {σ : L2.St}, vs.length = ks.length → D (setS σ ks vs) H → gNames ks vs σ H D
  | [], [], _, _, h => ⟨rfl, h⟩
  | k :: ks, v :: vs, σ, hl, h => ⟨v, vs, rfl, ig_names (G := G) (ks := ks) (by simpa using hl) h⟩
theorem is_parT {n : Nat} {ks : List Nat} {w : WXs} (hn : ks.length = n) (hn2 : n ≤ 100 := by decide) (h : IXs C tA w) : IS C (tAsg (tTup tA) (gTup C.K n (gNames ks))) (wPar n ks w) := fun G σ H s D DD r q o => h G σ H s _ _ r q fun vs xs s1 G1 H1 q1 r1 eg g p f d => by
  obtain ⟨hl, q1⟩ := q1
  have hv := pvs_len p
  refine ⟨sz_of (by omega), fun T hT => ⟨T, vs, rfl, .inl (.inl upd_same), by omega, ig_names (G := G) (by omega) ?_⟩⟩
  have e : Ex H1 (upd H1 T (.tup vs)) := Ex.new hT
  exact o.nx _ _ _ G1 q1 (rel_sets (ks := ks) (r1.aside e) (p.mono r1 (Ex.refl G1) (.side e)) d) eg
theorem ds_parT {n : Nat} (ks : List Nat) {kk k2 : Nat} {es2 : List Expr} {pt pt2 : Pos} {w : WXs} (hK : X.K = C.K) (hpg : PG X (.Tuple es kk pt) (gTup X.K n (gNames ks))) (hn : ks.length = n) (h : DXs X C es2 tA w) (hn2 : n ≤ 100 := by decide)
    (hs : swapsWithSole [.Tuple es kk pt] (.Tuple es2 k2 pt2) pos.line X.env = Pure.pure false := by rfl) (hw : swappedStores [.Tuple es kk pt] (.Tuple es2 k2 pt2) X.env = Pure.pure none := by rfl) (h1 : (assignEach [.Tuple es kk pt] X.env).map (·.2) = [assign (.Tuple es kk pt) X.env] := by rfl) :
    DS X C (.Assign [.Tuple es kk pt] (.Tuple es2 k2 pt2) pos) (tAsg (tTup tA) (gTup C.K n (gNames ks))) (wPar n ks w) := ⟨ps_asg (pe_tup h.pa) (hK ▸ hpg) hs hw h1, is_parT hn hn2 h.ix⟩
end
end Dw
namespace Dw
open PySem PySem.Spec PyProof.Rows L2 OgR Evl
section
variable {X : Cx} {C : Ct} {a b e tg : Expr} {es : List Expr} {pos p : Pos} {t ta tb tc te ty : TE} {w wa wb wc we wy : WE} {tA : TA} {wA : WA} {x : Str} {st : Stmt} {sts : List Stmt} {ps : List Str} {k : Nat}
structure GC (K : PySem.W.Frag) (mg : Str → Option Value) (x : Str) (d : PyData) : Prop where
  ex : ∃ a, mg x = some (.ref a) ∧ ∀ G, Dp K G (.ref a) d
def tGl (mg : Str → Option Value) (x : Str) : TE := fun _ H Q => ∀ a, mg x = some (.ref a) → Q (.ref a) H
theorem de_gc {d : PyData} {mg : Str → Option Value} (c : GC C.K mg x d) (hg : Gl X x) (hmg : X.mg = mg := by rfl) (hd : (x == ("__debug__" : Str)) = false := by decide) : DE X C (.Name x pos) (tGl mg x) (wC d) := by
  subst hmg
  obtain ⟨a, hm, hD⟩ := c.ex
  refine ⟨⟨fun pins s σ H Q I h => (pe_glob (v := .ref a) hg hm rfl hd).run pins s σ H Q I (h a hm)⟩, fun G σ H s Q Q' r q k a' hm' => ?_⟩
  rw [hm] at hm'
  cases hm'
  exact k _ _ s G H q r (Ex.refl G) Gs.refl (hD G)
def vOf : PyData → V
  | .int i => .int i
  | .str z => .str z
  | .bool b => .bl b
  | _ => .non
def flt : PyData → Bool
  | .int _ | .str _ | .bool _ | .none => true
  | _ => false
theorem dp_flt {K : PySem.W.Frag} {G : Hp} {d : PyData} (h : flt d = true) : Dp K G (vOf d) d := by
  cases d with
  | none => exact .non
  | bool b => exact .bl b
  | int i => exact .int i
  | str z => exact .str z
  | list _ => cases h
  | tuple _ => cases h
  | dict _ => cases h
def wGix (tbl : List (Str × PyData)) (wy : WE) : WE := fun s Q => wy s fun y s1 => ∃ z d, y = .str z ∧ (z, d) ∈ tbl ∧ Q d s1
/-- a displayed dict -/
def keyD : PyData → Option Key
  | .int i => some (.inl i)
  | .str z => some (.inr z)
  | _ => none
theorem key_v {K : PySem.W.Frag} {G : Hp} {v : V} {d : PyData} {k : Key} (h : Dp K G v d) (e : keyD d = some k) : v = kV k := by
  cases h with
  | int i => cases e; rfl
  | str z => cases e; rfl
  | _ => cases e
def kvsV (tbl : List (Key × PyData)) : List (Key × V) := tbl.map fun kd => (kd.1, vOf kd.2)
def lookD (tbl : List (Key × PyData)) (k : Key) : Option PyData := (tbl.find? fun kd => decide (kd.1 = k)).map (·.2)
def wDix (tbl : List (Key × PyData)) (wy : WE) : WE := fun s Q => wy s fun y s1 => ∃ k d, keyD y = some k ∧ lookD tbl k = some d ∧ Q d s1
theorem valV_of {tbl : List (Key × PyData)} {k : Key} {d : PyData} (h : lookD tbl k = some d) : valV (kvsV tbl) k = some (vOf d) := by
  unfold lookD at h
  unfold valV kvsV
  rw [List.find?_map]
  cases q : tbl.find? (fun kd => decide (kd.1 = k)) with
  | none => rw [q] at h; cases h
  | some kd =>
    rw [q] at h
    cases h
    have e : ((fun kv : Key × V => decide (kv.1 = k)) ∘ fun kd : Key × PyData => (kd.1, vOf kd.2)) = fun kd => decide (kd.1 = k) := rfl
    rw [e, q]
    rfl
theorem lookD_mem {tbl : List (Key × PyData)} {k : Key} {d : PyData} (h : lookD tbl k = some d) : (k, d) ∈ tbl := by
  unfold lookD at h
  cases q : tbl.find? (fun kd => decide (kd.1 = k)) with
  | none => rw [q] at h; cases h
  | some kd =>
    rw [q] at h
    cases h
    have h1 := List.find?_some q
    have h2 := List.mem_of_find?_eq_some q
    obtain ⟨k', d'⟩ := kd
    have e : k' = k := of_decide_eq_true h1
    subst e
    exact h2
theorem de_dix {keys : List (Option Expr)} {vals : List Expr} {trs : List (TE × TE)} {p2 : Pos} (tbl : List (Key × PyData)) (hu : X.A.units + 1 < cLine) (hp : PE X (.Dict keys vals p2) (tDisp trs)) (hc : ∀ σ H Q, Q ((kvsV tbl).map fun kv => (kV kv.1, kv.2)) H → tPairs trs σ H Q) (hy : DE X C b ty wy)
    (hm : mergeK [] (kvsV tbl) = kvsV tbl := by rfl) (hl : tbl.length ≤ 15 := by decide) (hf : ∀ kd ∈ tbl, flt kd.2 = true := by decide) (hs : NoSl b := by exact fun _ _ => rfl) :
    DE X C (.Subscript (.Dict keys vals p2) b pos) (tDGet (tDisp trs) ty) (wDix tbl wy) := ⟨pe_dget hu hp hy.pe hs, fun G σ H s Q Q' r q k pp hpp => hc _ _ _ ⟨upd_same, kvsV tbl, rfl, by unfold kvsV; rw [List.length_map]; exact hl, by
    have e1 : Ex H (upd (upd H pp (.dK [])) pp (.dK (mergeK [] (kvsV tbl)))) := by
      rw [upd_upd]
      exact Ex.new hpp
    refine hy.ie G σ _ s _ _ (r.aside e1) q fun v d s1 G1 H1 q1 r1 eg g pd => ?_
    obtain ⟨kk, dd, hk, hl2, q1⟩ := q1
    have hp1 : H1 pp = some (.dK (kvsV tbl)) := by
      rw [hm] at g
      exact g.gr pp _ (r.fin.nbx (r.fin.h0 hpp)) upd_same
    refine ⟨pp, vOf dd, rfl, ?_, k _ _ s1 G1 H1 q1 r1 eg ((Gs.side e1).trans g) (dp_flt (hf _ (lookD_mem hl2)))⟩
    rw [key_v pd hk, ← valV_of hl2]
    exact DGet.k hp1⟩⟩
def rCatL (K : PySem.W.Frag) : R2 := fun x y H Q => ∃ l m xs zs, x = .ref l ∧ y = .ref m ∧ SqL K H l xs ∧ SqL K H m zs ∧ xs.length + zs.length ≤ sizeLine ∧ ∀ p, H p = none → Q (.ref p) (upd H p (.lst (xs ++ zs)))
theorem op_catL : OpR X (binaryOp .Add) (rCatL X.K) := by
  intro pins s σ H x y v u Q I rx ry h
  obtain ⟨l, m, xs, zs, rfl, rfl, h1, h2, hz, q⟩ := h
  cases rx
  cases ry
  obtain ⟨its, r1, p1, _⟩ := I.list h1
  obtain ⟨js, r2, p2, _⟩ := I.list h2
  obtain ⟨⟨c1, d1, t1, s1⟩, n1, g1, e1, _, k1⟩ := p1
  obtain ⟨⟨c2, d2, t2, s2⟩, n2, g2, e2, _, k2⟩ := p2
  simp only at e1 k1 e2 k2
  subst e1 k1 e2 k2
  have hl : its.toArray.size + js.toArray.size ≤ sizeLine := by rw [List.size_toArray, List.size_toArray, ← r1.length, ← r2.length]; exact hz
  have hp := list_addW l m its.toArray js.toArray n1 n2 d1 d2 s1 s2 hl
  refine concat_meets ⟨_, g1, rfl⟩ ⟨_, g2, rfl⟩ noFill_list_add seq_list_add F.slot_list_add F.entry_list_add (F.args_list_add_2 _ _) hp ⟨g1, g2, ?_⟩
  rw [show its.toArray ++ js.toArray = (its ++ js).toArray by simp]
  exact ⟨.ref _, _, I.lnew (t' := s.toks) (r1.append r2) (by rw [List.length_append]; exact hz), rfl, q _ I.fresh⟩
def wCatP (u v : WE) : WA := fun s Q => u s fun d s1 => v s1 fun e s2 => ∃ ds es, d = .list ds ∧ e = .list es ∧ ds.length + es.length ≤ 100000 ∧ Q (ds ++ es) s2
theorem do_catP (hK : X.K = C.K) (ha : DP X C a ta wa) (hb : DP X C b tb wb) : DO X C (.BinOp a .Add b pos) (tOp (rCatL C.K) ta tb) (wCatP wa wb) := ⟨pe_op (hK ▸ op_catL) ha.pe hb.pe, fun G σ H s Q Q' r q k =>
  ha.ip G σ H s _ _ r q fun v d s1 G1 H1 q1 r1 eg1 g1 p1 => hb.ip G1 σ H1 s1 _ _ r1 q1 fun v2 d2 s2 G2 H2 q2 r2 eg2 g2 p2 => by
    obtain ⟨ds, es, rfl, rfl, hl, q2⟩ := q2
    obtain ⟨a, xs, rfl, h1, h2⟩ := pk_lst (p1.mono eg2 g2.gr) r2.fin.gh
    obtain ⟨b, ys, rfl, h3, h4⟩ := pk_lst p2 r2.fin.gh
    exact ⟨a, b, xs, ys, rfl, rfl, h1, h3, sz_of (by rw [dpa_len h2, dpa_len h4]; exact hl), fun l hl => own_new r q2 r2 (eg1.trans eg2) (g1.trans g2) (dpa_app h2 h4) hl k⟩⟩
/-- y = x.pop(), y = x.pop(i) -/
def wPopTo (j i : Nat) (wA : WA) (f : List PyData → List PyData → (PyData → List PyData → Prop) → Prop) : WS := fun DD s => (∃ ds0, s.env[i]? = some (some (.own ds0))) ∧ wA s fun as s1 => ∃ ds, s1.env[i]? = some (some (.own ds)) ∧ f ds as fun d ds' => DD.nx ((s1.set i (.own ds')).set j (.d d))
def fPop : List PyData → List PyData → (PyData → List PyData → Prop) → Prop := fun ds as Q => ∃ ds' d, as = [] ∧ ds = ds' ++ [d] ∧ Q d ds'
theorem dpa_snoc {K : PySem.W.Frag} {G : Hp} {xs : List V} {ds : List PyData} {d : PyData} (h : DpAll K G xs (ds ++ [d])) : ∃ ys y, xs = ys ++ [y] ∧ DpAll K G ys ds ∧ Dp K G y d := by
  have h1 := dpa_take ds.length h
  have h2 := dpa_drop ds.length h
  rw [List.take_left' rfl] at h1
  rw [List.drop_left' rfl] at h2
  have e := List.take_append_drop ds.length xs
  generalize List.drop ds.length xs = r at h2 e
  cases h2 with
  | cons p1 p2 =>
    cases p2
    exact ⟨_, _, e.symm, h1, p1⟩
/-- a list's method of no argument, its answer stored -/
theorem is_pop0 {i j : Nat} : IS C (tAsg (tBM0 C.K "list" rPop (tVar i)) (gName j)) (wPopTo j i (fun s Q => Q [] s) fPop) := fun G σ H s D DD rr q o => by
  obtain ⟨⟨ds0, e0⟩, ds, e1, ds', d, _, rfl, q⟩ := q
  obtain ⟨v, hv, p, xs, rfl, a1, a2, a3, a4⟩ := rr.sl i _ e1
  obtain ⟨ys, y, rfl, h1, h2⟩ := dpa_snoc a4
  refine ⟨_, hv, .inl ⟨rfl, _, .inl (.inl a1)⟩, p, ys ++ [y], y, rfl, rfl, a1, ?_, ?_⟩
  · rw [List.length_append, List.length_singleton, Nat.add_sub_cancel, List.getElem?_concat_length]
  · rw [List.dropLast_concat]
    exact o.nx _ _ _ G q ((rr.mutl e1 hv h1).putd h2) (Ex.refl G)
theorem ds_popTo (j i : Nat) {y : Str} {apos cpos py : Pos} (hK : X.K = C.K) (hN : X.N.Nodup) (hb : PE X (.Call (.Attribute (.Name x p) "pop" apos) [] [] cpos) (tBM0 X.K "list" rPop (tVar i)))
    (hi : X.N[j]? = some y := by rfl) (hx : Loc X.env.scope y := by first | exact .inl rfl | exact .inr rfl) (hs : swapsWith (.Call (.Attribute (.Name x p) "pop" apos) [] [] cpos) (some (.Name y py)) pos.line X.env = Pure.pure false := by rfl)
    (hf : X.fn y = true ∨ X.env.scope.names.lookup y = some .local := by first | exact .inl rfl | exact .inr rfl | assumption) :
    DS X C (.Assign [.Name y py] (.Call (.Attribute (.Name x p) "pop" apos) [] [] cpos) pos) (tAsg (tBM0 C.K "list" rPop (tVar i)) (gName j)) (wPopTo j i (fun s Q => Q [] s) fPop) := ⟨ps_set hN hi hx (hK ▸ hb) hs hf, is_pop0⟩
/-- x.pop(i), x.insert(i, y) as statements -/
def fPopAt : List PyData → List PyData → (PyData → List PyData → Prop) → Prop := fun ds as Q => ∃ (n : Nat) (d : PyData), as = [.int n] ∧ ds[n]? = some d ∧ n < 100000 ∧ Q d (ds.eraseIdx n)
def fIns : List PyData → List PyData → (PyData → List PyData → Prop) → Prop := fun ds as Q => ∃ (n : Nat) (d : PyData), as = [.int n, d] ∧ ds.length < 100000 ∧ n < 100000 ∧ Q .none (ds.take n ++ [d] ++ ds.drop n)
theorem dpa_erase {K : PySem.W.Frag} {G : Hp} : ∀ {xs : List V} {ds : List PyData} (n : Nat), DpAll K G xs ds → DpAll K G (xs.eraseIdx n) (ds.eraseIdx n)
  | _, _, _, .nil => .nil
  | _, _, 0, .cons _ t => t
  | _, _, n + 1, .cons h t => .cons h (dpa_erase n t)
theorem seqIx {n m : Nat} (h : n < m) : seqIndex? (n : Int) m = some n := by
  have := (ixN_seq (n := m) (i := n) (j := n) (by unfold ixN; rw [if_pos (by omega), if_pos (by omega), Int.toNat_natCast])).1
  exact this
theorem ds_popAt (i : Nat) {apos cpos : Pos} (hK : X.K = C.K) (h : DE X C e t w) (hb : PE X (.Call (.Attribute (.Name x p) "pop" apos) [e] [] cpos) (tBM X.K "list" rPopAt (tVar i) (tCons t tNil)))
    (hs : swapsWith (.Call (.Attribute (.Name x p) "pop" apos) [e] [] cpos) none pos.line X.env = Pure.pure false := by rfl) :
    DS X C (.Expr (.Call (.Attribute (.Name x p) "pop" apos) [e] [] cpos) pos) (tDrop (tBM C.K "list" rPopAt (tVar i) (tCons t tNil))) (wDrop (wMeth i (wCons w fun s Q => Q [] s) fPopAt)) :=
  ⟨ps_expr (hK ▸ hb) hs, is_meth (fun G H p xs vs ds as R Q' h1 h2 h3 hf k => by
    obtain ⟨n, d, rfl, hd, hn, hf⟩ := hf
    cases h3 with
    | cons p1 p2 =>
      cases p2
      obtain ⟨v, hv, pv⟩ := dpa_back h2 hd
      have hl : n < xs.length := (List.getElem?_eq_some_iff.mp hv).1
      exact ⟨p, xs, n, n, v, rfl, by rw [dp_int p1], h1, by omega, by omega, seqIx hl, hv, k _ _ _ _ hf (dpa_erase n h2) pv⟩) (ia_cons h.ie ia_nil)⟩
theorem ds_ins (i : Nat) {apos cpos : Pos} (hK : X.K = C.K) (h : DE X C a ta wa) (h' : DE X C b tb wb) (hb : PE X (.Call (.Attribute (.Name x p) "insert" apos) [a, b] [] cpos) (tBM X.K "list" (fun x vs H Q => ∃ (l : Addr) (xs : List V) (i : Int) (y : V), x = .ref l ∧ vs = [.int i, y] ∧ H l = some (.lst xs) ∧ xs.length < sizeLine ∧ 0 ≤ i ∧ i < 2 ^ 63 ∧
    Q .non (upd H l (.lst (xs.take i.toNat ++ [y] ++ xs.drop i.toNat)))) (tVar i) (tCons ta (tCons tb tNil))))
    (hs : swapsWith (.Call (.Attribute (.Name x p) "insert" apos) [a, b] [] cpos) none pos.line X.env = Pure.pure false := by rfl) :
    DS X C (.Expr (.Call (.Attribute (.Name x p) "insert" apos) [a, b] [] cpos) pos) (tDrop (tBM C.K "list" (fun x vs H Q => ∃ (l : Addr) (xs : List V) (i : Int) (y : V), x = .ref l ∧ vs = [.int i, y] ∧ H l = some (.lst xs) ∧ xs.length < sizeLine ∧ 0 ≤ i ∧ i < 2 ^ 63 ∧
    Q .non (upd H l (.lst (xs.take i.toNat ++ [y] ++ xs.drop i.toNat)))) (tVar i) (tCons ta (tCons tb tNil)))) (wDrop (wMeth i (wCons wa (wCons wb fun s Q => Q [] s)) fIns)) :=
  ⟨ps_expr (hK ▸ hb) hs, is_meth (fun G H p xs vs ds as R Q' h1 h2 h3 hf k => by
    obtain ⟨n, d, rfl, hl, hn, hf⟩ := hf
    cases h3 with
    | cons p1 p2 =>
      cases p2 with
      | cons p2 p3 =>
        cases p3
        refine ⟨p, xs, n, _, rfl, by rw [dp_int p1], h1, sz_lt (by rw [dpa_len h2]; exact hl), by omega, by omega, ?_⟩
        rw [Int.toNat_natCast]
        exact k _ _ _ _ hf (dpa_app (dpa_app (dpa_take n h2) (.cons p2 .nil)) (dpa_drop n h2)) .non) (ia_cons h.ie (ia_cons h'.ie ia_nil))⟩
/-- x[i] = e -/
def wSetIx (i : Nat) (we wi : WE) : WS := fun DD s => we s fun d s1 => (∃ ds0, s1.env[i]? = some (some (.own ds0))) ∧ wi s1 fun k s2 => ∃ (n : Nat) (ds : List PyData), k = .int n ∧ s2.env[i]? = some (some (.own ds)) ∧ n < ds.length ∧ DD.nx (s2.set i (.own (ds.set n d)))
theorem ds_setIx (i : Nat) {p2 : Pos} (h : DE X C e t w) (hi : DE X C b ty wy) (hps : PS X (.Assign [.Subscript (.Name x p) b p2] e pos) (tAsg t (gSub (tVar i) ty rSetL))) : DS X C (.Assign [.Subscript (.Name x p) b p2] e pos) (tAsg t (gSub (tVar i) ty rSetL)) (wSetIx i w wy) := ⟨hps, fun G σ H s D DD r q o =>
  h.ie G σ H s _ _ r q fun v d s1 G1 H1 q1 r1 eg1 g1 pd => by
    obtain ⟨⟨ds0, e0⟩, q1⟩ := q1
    obtain ⟨v0, hv0, _⟩ := r1.sl i _ e0
    refine ⟨v0, hv0, hi.ie G1 σ H1 s1 _ _ r1 q1 fun v2 kk s2 G2 H2 q2 r2 eg2 g2 pk => ?_⟩
    obtain ⟨n, ds, rfl, e2, hn, q2⟩ := q2
    obtain ⟨v3, hv3, pp, xs, rfl, a1, a2, a3, a4⟩ := r2.sl i _ e2
    rw [hv0] at hv3
    cases hv3
    have hl : n < xs.length := by rw [dpa_len a4]; exact hn
    exact ⟨pp, xs, n, n, rfl, dp_int pk, a1, by unfold ixN; rw [if_pos (by omega), if_pos (by omega), Int.toNat_natCast], o.nx _ _ _ G2 q2 (r2.mutl e2 hv0 (dpa_set (dp_ex eg2 pd) n a4)) (eg1.trans eg2)⟩⟩
def RepOk (d : PyData) : Prop := d.showable = true ∧ d.hasDict = false ∧ d.depth ≤ 40 ∧ d.shown.length ≤ sizeLine
def gRepr : G1 := fun d s Q => RepOk d ∧ Q (.str d.shown) s
theorem r1_repr : R1D C (rRepr C.K) gRepr := ⟨fun G σ H s x d Q Q' r pk q k => by
  obtain ⟨⟨h1, h2, h3, h4⟩, q⟩ := q
  exact ⟨x, d, rfl, pk.dp r.fin.gh, h1, h2, h3, h4, k _ _ s G H q r (Ex.refl G) Gs.refl (.str _)⟩⟩
theorem de_repr (hK : X.K = C.K) (hG : X.A.guards = some []) (hu : X.A.units + 64 < cLine) (hg : Gl X "repr") (hm : X.mg "repr" = none) (ha : DP X C a ta wa) (hs : starEach [a] X.env = (false, eval a X.env) :: starEach [] X.env := by rfl) :
    DE X C (.Call (.Name "repr" p) [a] [] pos) (tCB (rRepr C.K) (tCons ta tNil)) (w1 gRepr wa) := de_b1 (hK ▸ cr_repr hG hu) r1_repr hg hm (by decide +kernel) ha (by decide) (by decide) hs
def gMinT : G1 := fun d s Q => ∃ (n : Int) (ns : List Int), d = .tuple ((n :: ns).map .int) ∧ Q (.int (ns.foldl min n)) s
end
end Dw
namespace Dw
open PySem PySem.Spec PyProof.Rows L2 OgR Evl
theorem u65 {k : Nat} {A : Around} (r : Room k A) : A.units + 65 < cLine := by have := r.un; omega
section
variable {X : Cx} {C : Ct} {a b c e tg : Expr} {es : List Expr} {pos p : Pos} {t ta tb tc te ty : TE} {w wa wb wc we wy : WE} {tA : TA} {wA : WA} {x : Str} {st : Stmt} {sts : List Stmt} {ps : List Str} {k : Nat}
theorem dgs_c {g : TG} {gs : TGs} {k1 k2 : List Nat} {w : WG} {u : WGs} (h1 : DG X C e g k1 w) (h2 : DGs X C es gs k2 u) (hs : (assignEach (e :: es) X.env).map (·.2) = assign e X.env :: (assignEach es X.env).map (·.2) := by rfl) :
    DGs X C (e :: es) (gCons g gs) (k1 ++ k2) (wGCons w u) := dgs_cons h1 h2 (pgs_cons h1.pg h2.pg hs)
theorem di_zip2 {elts : List Expr} {kk : Nat} {tpos : Pos} (hK : X.K = C.K) (hg : Gl X "zip") (hm : X.mg "zip" = none) (h : DE X C a ta wa) (h' : DE X C b tb wb) (hs : starEach [a, b] X.env = (false, eval a X.env) :: starEach [b] X.env := by rfl) (hs2 : starEach [b] X.env = (false, eval b X.env) :: starEach [] X.env := by rfl)
    (hpl : (backTo pos (starEach [b] X.env)).any (·.1) = false := by rfl) : DI X C (.Tuple elts kk tpos) (.Call (.Name "zip" p) [a, b] [] pos) (iZipB C.K (tCons ta (tCons tb tNil))) (wZip wa wb) :=
  di_zip hK hg hm h h' (pi_zipB hg hm (pa_cons h.pe (pa_cons h'.pe pa_nil hs2) hs) hs hpl)
theorem ds_par3 (i j l : Nat) {xn yn zn : Str} {px py pz pt : Pos} {kt k2 pt2} {w : WXs} (hc : X.calm = true) (hN : X.N.Nodup) (h : DXs X C [a, b, c] tA w) (hi : X.N[i]? = some xn := by rfl) (hj : X.N[j]? = some yn := by rfl) (hl : X.N[l]? = some zn := by rfl) (hij : i ≠ j := by decide) (hil : i ≠ l := by decide) (hjl : j ≠ l := by decide)
    (hx : X.env.scope.names.lookup xn = some .local := by rfl) (hy : X.env.scope.names.lookup yn = some .local := by rfl) (hz : X.env.scope.names.lookup zn = some .local := by rfl)
    (hw : swappedStores [.Tuple [.Name xn px, .Name yn py, .Name zn pz] kt pt] (.Tuple [a, b, c] k2 pt2) X.env = Pure.pure (some [xn, yn, zn]) := by rfl)
    (hs : swapsWithSole [.Tuple [.Name xn px, .Name yn py, .Name zn pz] kt pt] (.Tuple [a, b, c] k2 pt2) pos.line X.env = Pure.pure false := by rfl) :
    DS X C (.Assign [.Tuple [.Name xn px, .Name yn py, .Name zn pz] kt pt] (.Tuple [a, b, c] k2 pt2) pos) (tPar3 i j l tA) (wPar 3 [i, j, l] w) := ⟨ps_par3 hc hN hi hj hl hij hil hjl hx hy hz h.pa hw hs, is_par3 h.ix⟩
theorem ds_app (i : Nat) {apos cpos : Pos} (hK : X.K = C.K) (h : DE X C e t w) (hv : PE X (.Name x p) (tVar i) := by exact pv _) (hb0 : attributeBase (.Name x p) "append" X.env (eval (.Name x p) X.env) = eval (.Name x p) X.env := by rfl)
    (hfew : ((backTo cpos (starEach [e] X.env)).all (fun x => !x.1) && (backToKw cpos (keywordEach [] X.env)).all (fun x => x.1.isSome) && decide ([e].length + ([] : List Keyword).length + (if ([] : List Keyword).isEmpty then 0 else 1) < 30)) = true := by rfl)
    (hline : (apos.endLine == cpos.line) = true := by rfl) (hst : starEach [e] X.env = (false, eval e X.env) :: starEach [] X.env := by rfl) (hpl : (backTo cpos (starEach [] X.env)).any (·.1) = false := by rfl)
    (hs : swapsWith (.Call (.Attribute (.Name x p) "append" apos) [e] [] cpos) none pos.line X.env = Pure.pure false := by rfl) :
    DS X C (.Expr (.Call (.Attribute (.Name x p) "append" apos) [e] [] cpos) pos) (tDrop (tBM C.K "list" rAppend (tVar i) (tCons t tNil))) (wDrop (wMeth i (wCons w fun s Q => Q [] s) fAppend)) :=
  ds_append i hK h hv (pe_bm PySem.F.plainAttrs_list PySem.F.slot_list_append PySem.F.type_list_append mt_append hv (pa_cons h.pe pa_nil hst) hb0 hfew hline hst hpl) hs
theorem ds_popA (i : Nat) {apos cpos : Pos} (hK : X.K = C.K) (h : DE X C e t w) (hv : PE X (.Name x p) (tVar i) := by exact pv _) (hb0 : attributeBase (.Name x p) "pop" X.env (eval (.Name x p) X.env) = eval (.Name x p) X.env := by rfl)
    (hfew : ((backTo cpos (starEach [e] X.env)).all (fun x => !x.1) && (backToKw cpos (keywordEach [] X.env)).all (fun x => x.1.isSome) && decide ([e].length + ([] : List Keyword).length + (if ([] : List Keyword).isEmpty then 0 else 1) < 30)) = true := by rfl)
    (hline : (apos.endLine == cpos.line) = true := by rfl) (hst : starEach [e] X.env = (false, eval e X.env) :: starEach [] X.env := by rfl) (hpl : (backTo cpos (starEach [] X.env)).any (·.1) = false := by rfl)
    (hs : swapsWith (.Call (.Attribute (.Name x p) "pop" apos) [e] [] cpos) none pos.line X.env = Pure.pure false := by rfl) :
    DS X C (.Expr (.Call (.Attribute (.Name x p) "pop" apos) [e] [] cpos) pos) (tDrop (tBM C.K "list" rPopAt (tVar i) (tCons t tNil))) (wDrop (wMeth i (wCons w fun s Q => Q [] s) fPopAt)) :=
  ds_popAt i hK h (pe_bm PySem.F.plainAttrs_list PySem.F.slot_list_pop PySem.F.type_list_pop mt_popAt hv (pa_cons h.pe pa_nil hst) hb0 hfew hline hst hpl) hs
abbrev rIns : V → List V → Hp → VK → Prop := fun x vs H Q => ∃ (l : Addr) (xs : List V) (i : Int) (y : V), x = .ref l ∧ vs = [.int i, y] ∧ H l = some (.lst xs) ∧ xs.length < sizeLine ∧ 0 ≤ i ∧ i < 2 ^ 63 ∧
  Q .non (upd H l (.lst (xs.take i.toNat ++ [y] ++ xs.drop i.toNat)))
theorem ds_insA (i : Nat) {apos cpos : Pos} (hK : X.K = C.K) (h : DE X C a ta wa) (h' : DE X C b tb wb) (hv : PE X (.Name x p) (tVar i) := by exact pv _) (hb0 : attributeBase (.Name x p) "insert" X.env (eval (.Name x p) X.env) = eval (.Name x p) X.env := by rfl)
    (hfew : ((backTo cpos (starEach [a, b] X.env)).all (fun x => !x.1) && (backToKw cpos (keywordEach [] X.env)).all (fun x => x.1.isSome) && decide ([a, b].length + ([] : List Keyword).length + (if ([] : List Keyword).isEmpty then 0 else 1) < 30)) = true := by rfl)
    (hline : (apos.endLine == cpos.line) = true := by rfl) (hst : starEach [a, b] X.env = (false, eval a X.env) :: starEach [b] X.env := by rfl) (hst2 : starEach [b] X.env = (false, eval b X.env) :: starEach [] X.env := by rfl) (hpl : (backTo cpos (starEach [b] X.env)).any (·.1) = false := by rfl)
    (hs : swapsWith (.Call (.Attribute (.Name x p) "insert" apos) [a, b] [] cpos) none pos.line X.env = Pure.pure false := by rfl) :
    DS X C (.Expr (.Call (.Attribute (.Name x p) "insert" apos) [a, b] [] cpos) pos) (tDrop (tBM C.K "list" rIns (tVar i) (tCons ta (tCons tb tNil)))) (wDrop (wMeth i (wCons wa (wCons wb fun s Q => Q [] s)) fIns)) :=
  ds_ins i hK h h' (pe_bm PySem.F.plainAttrs_list PySem.F.slot_list_insert PySem.F.type_list_insert mt_insert hv (pa_cons h.pe (pa_cons h'.pe pa_nil hst2) hst) hb0 hfew hline hst hpl) hs
theorem ds_sub (i : Nat) {p2 : Pos} (h : DE X C e t w) (hi : DE X C b ty wy) (hps : PE X e t → PE X b ty → PS X (.Assign [.Subscript (.Name x p) b p2] e pos) (tAsg t (gSub (tVar i) ty rSetL)) := by exact fun h hi => ps_asg h (pg_sub (pv _) hi set_list)) :
    DS X C (.Assign [.Subscript (.Name x p) b p2] e pos) (tAsg t (gSub (tVar i) ty rSetL)) (wSetIx i w wy) := ds_setIx i h hi (hps h.pe hi.pe)
end
theorem for_by {ds : List PyData} {g : WG} {wb : WS} {DD : DEnds} {s1 : Dt} (Inv : Nat → Dt → Prop) (h0 : Inv 0 s1)
    (hs : ∀ (i : Nat) d s2 (J : Dt → Prop), ds[i]? = some d → Inv i s2 → (∀ s, Inv (i + 1) s → J s) → g d s2 fun s3 => wb { nx := J, rt := DD.rt, bk := DD.nx, ct := J } s3) (hd : ∀ s2, Inv ds.length s2 → DD.nx s2) :
    ∃ Inv : Nat → Dt → Prop, Inv 0 s1 ∧ (∀ (i : Nat) d s2, ds[i]? = some d → Inv i s2 → g d s2 fun s3 => wb { nx := Inv (i + 1), rt := DD.rt, bk := DD.nx, ct := Inv (i + 1) } s3) ∧ ∀ s2, Inv ds.length s2 → DD.nx s2 :=
  ⟨Inv, h0, fun i d s2 e inv => hs i d s2 (Inv (i + 1)) e inv fun _ h => h, hd⟩
theorem lc_by {ds : List PyData} {g : WG} {tt : WT} {te : WE} {vs : List Nat} {env : List (Option DV)} {c : Cs} {Q : List PyData → Dt → Prop} (f : PyData → Option PyData) (hl : ds.length ≤ 99999)
    (h : ∀ d ∈ ds, ∀ (acc : List PyData) (J : List PyData → Cs → Prop), acc.length < 100000 → (∀ y, f d = some y → J (acc ++ [y]) c) → (f d = none → J acc c) →
      g d ⟨wipeD env vs, c⟩ fun s2 => tt s2 fun b s3 => s3.env = s2.env ∧ if b = true then te s3 fun y s4 => s4.env = s2.env ∧ acc.length < 100000 ∧ J (acc ++ [y]) s4.c else J acc s3.c) (q : Q (ds.filterMap f) ⟨env, c⟩) :
    ∃ Inv : Nat → List PyData → Cs → Prop, Inv 0 [] c ∧
      (∀ (i : Nat) d acc c', ds[i]? = some d → Inv i acc c' → g d ⟨wipeD env vs, c'⟩ fun s2 => tt s2 fun b s3 => s3.env = s2.env ∧ if b = true then te s3 fun y s4 => s4.env = s2.env ∧ acc.length < 100000 ∧ Inv (i + 1) (acc ++ [y]) s4.c else Inv (i + 1) acc s3.c) ∧
      ∀ acc c', Inv ds.length acc c' → Q acc ⟨env, c'⟩ := by
  refine ⟨fun i acc c' => c' = c ∧ acc = (ds.take i).filterMap f, ⟨rfl, rfl⟩, fun i d acc c' hd inv => ?_, fun acc c' inv => ?_⟩
  · obtain ⟨rfl, rfl⟩ := inv
    have e : ds.take (i + 1) = ds.take i ++ [d] := by rw [List.take_add_one, hd]; rfl
    refine h d (List.mem_of_getElem? hd) _ (fun acc c2 => c2 = c' ∧ acc = (ds.take (i + 1)).filterMap f) ?_ (fun y hy => ⟨rfl, ?_⟩) fun hy => ⟨rfl, ?_⟩
    · have := List.length_filterMap_le f (ds.take i)
      rw [List.length_take] at this
      omega
    · rw [e, List.filterMap_append, List.filterMap_cons, hy]
      rfl
    · rw [e, List.filterMap_append, List.filterMap_cons, hy]
      simp
  · obtain ⟨rfl, rfl⟩ := inv
    rw [List.take_length]
    exact q
theorem lc_map {ds : List PyData} {g : WG} {te : WE} {vs : List Nat} {env : List (Option DV)} {c : Cs} {Q : List PyData → Dt → Prop} (f : PyData → PyData) (hl : ds.length ≤ 99999)
    (h : ∀ d ∈ ds, ∀ (acc : List PyData) (J : List PyData → Cs → Prop), acc.length < 100000 → J (acc ++ [f d]) c → g d ⟨wipeD env vs, c⟩ fun s2 => te s2 fun y s4 => s4.env = s2.env ∧ acc.length < 100000 ∧ J (acc ++ [y]) s4.c) (q : Q (ds.map f) ⟨env, c⟩) :
    ∃ Inv : Nat → List PyData → Cs → Prop, Inv 0 [] c ∧
      (∀ (i : Nat) d acc c', ds[i]? = some d → Inv i acc c' → g d ⟨wipeD env vs, c'⟩ fun s2 => (fun s (Q : Bool → Dt → Prop) => Q true s) s2 fun b s3 => s3.env = s2.env ∧ if b = true then te s3 fun y s4 => s4.env = s2.env ∧ acc.length < 100000 ∧ Inv (i + 1) (acc ++ [y]) s4.c else Inv (i + 1) acc s3.c) ∧
      ∀ acc c', Inv ds.length acc c' → Q acc ⟨env, c'⟩ := by
  refine ⟨fun i acc c' => c' = c ∧ acc = (ds.take i).map f, ⟨rfl, rfl⟩, fun i d acc c' hd inv => ?_, fun acc c' inv => ?_⟩
  · obtain ⟨rfl, rfl⟩ := inv
    have e : ds.take (i + 1) = ds.take i ++ [d] := by rw [List.take_add_one, hd]; rfl
    have := h d (List.mem_of_getElem? hd) ((ds.take i).map f) (fun acc c2 => c2 = c' ∧ acc = (ds.take (i + 1)).map f) (by rw [List.length_map, List.length_take]; omega) ⟨rfl, by rw [e, List.map_append]; rfl⟩
    simp only [if_true, true_and]
    exact this
  · obtain ⟨rfl, rfl⟩ := inv
    rw [List.take_length]
    exact q
end Dw
namespace Dw
open PySem PySem.Spec PyProof.Rows L2 OgR Evl
/-- data whose text is short -/
structure Shw (k m : Nat) (d : PyData) : Prop where
  sh : d.showable = true
  nd : d.hasDict = false
  dp : d.depth ≤ k
  ln : d.shown.length ≤ m
theorem Shw.up {k m k' m' : Nat} {d : PyData} (h : Shw k m d) (hk : k ≤ k') (hm : m ≤ m') : Shw k' m' d := ⟨h.sh, h.nd, Nat.le_trans h.dp hk, Nat.le_trans h.ln hm⟩
theorem tf_le {m : Nat} : ∀ (ts : List Str) (k : Nat) (acc : Str), (∀ t ∈ ts, t.length ≤ m) → (textFrom k acc ts).length ≤ acc.length + (m + 2) * ts.length
  | [], k, acc, _ => by show acc.length ≤ _; omega
  | t :: ts, k, acc, h => by
    have ih := tf_le ts (k + 1) (acc ++ (if k > 0 then ", " else "" : String) ++ t) fun x hx => h x (List.mem_cons_of_mem _ hx)
    have h1 := h t List.mem_cons_self
    rw [strLen_append, strLen_append] at ih
    have h2 : (Str.ofString (if k > 0 then ", " else "")).length ≤ 2 := by
      split <;> decide
    show (textFrom (k + 1) (acc ++ (if k > 0 then ", " else "" : String) ++ t) ts).length ≤ _
    rw [List.length_cons, Nat.mul_add]
    have e3 : (Str.ofString (if k > 0 then ", " else "")).length ≤ 2 := h2
    omega
theorem piled_le {m : Nat} : ∀ ts : List Str, (∀ t ∈ ts, t.length ≤ m) → piled ts ≤ (m + 2) * ts.length
  | [], _ => by rw [piled_nil]; omega
  | t :: ts, h => by
    rw [piled_cons, List.length_cons, Nat.mul_add]
    have := piled_le ts fun x hx => h x (List.mem_cons_of_mem _ hx)
    have := h t List.mem_cons_self
    omega
theorem lt_le {m : Nat} {ts : List Str} (h : ∀ t ∈ ts, t.length ≤ m) : (listText ts).length ≤ (m + 2) * ts.length + 4 := by
  have h1 := tf_le ts 0 "[" h
  show (textFrom 0 "[" ts ++ "]").length ≤ _
  rw [strLen_append]
  have e1 : (Str.ofString "[").length = 1 := by decide
  have e2 : (Str.ofString "]").length = 1 := by decide
  omega
theorem tt_le {m : Nat} {ts : List Str} (h : ∀ t ∈ ts, t.length ≤ m) : (tupleText ts).length ≤ (m + 2) * ts.length + 4 := by
  unfold tupleText
  rw [strLen_append, strLen_append]
  have e1 : (Str.ofString "(").length = 1 := by decide
  have e2 : (Str.ofString (if ts.length == 1 then ",)" else ")")).length ≤ 2 := by
    split <;> decide
  have h1 := piled_le ts h
  by_cases hn : ts = []
  · subst hn
    have e3 : ((Str.ofString ", ").join []).length = 0 := by decide
    rw [e3]
    omega
  · have h2 := join_length_add ts hn
    omega
theorem shownAll_map : ∀ ds : List PyData, PyData.shownAll ds = ds.map PyData.shown
  | [] => by simp only [PyData.shownAll, List.map_nil]
  | d :: ds => by simp only [PyData.shownAll, List.map_cons, shownAll_map ds]
theorem seq_facts {k m : Nat} : ∀ {ds : List PyData}, (∀ d ∈ ds, Shw k m d) → PyData.showableAll ds = true ∧ PyData.hasDictAll ds = false ∧ PyData.depthAll ds ≤ k
  | [], _ => ⟨by simp only [PyData.showableAll], by simp only [PyData.hasDictAll], by simp only [PyData.depthAll]; omega⟩
  | d :: ds, h => by
    obtain ⟨h1, h2, h3⟩ := seq_facts fun x hx => h x (List.mem_cons_of_mem _ hx)
    have h0 := h d List.mem_cons_self
    refine ⟨?_, ?_, ?_⟩
    · simp only [PyData.showableAll, h0.sh, h1, Bool.and_self]
    · simp only [PyData.hasDictAll, h0.nd, h2, Bool.or_self]
    · simp only [PyData.depthAll]
      exact Nat.max_le.mpr ⟨h0.dp, h3⟩
theorem shw_tup {k m n : Nat} {ds : List PyData} (h : ∀ d ∈ ds, Shw k m d) (hn : ds.length ≤ n) : Shw (k + 1) ((m + 2) * n + 4) (.tuple ds) := by
  obtain ⟨h1, h2, h3⟩ := seq_facts h
  refine ⟨by simpa only [PyData.showable] using h1, by simpa only [PyData.hasDict] using h2, by simp only [PyData.depth]; omega, ?_⟩
  simp only [PyData.shown]
  refine Nat.le_trans (tt_le (m := m) fun t ht => ?_) ?_
  · rw [shownAll_map] at ht
    obtain ⟨d, hd, rfl⟩ := List.mem_map.mp ht
    exact (h d hd).ln
  · rw [shownAll_map, List.length_map]
    exact Nat.add_le_add_right (Nat.mul_le_mul_left _ hn) 4
theorem shw_lst {k m n : Nat} {ds : List PyData} (h : ∀ d ∈ ds, Shw k m d) (hn : ds.length ≤ n) : Shw (k + 1) ((m + 2) * n + 4) (.list ds) := by
  obtain ⟨h1, h2, h3⟩ := seq_facts h
  refine ⟨by simpa only [PyData.showable] using h1, by simpa only [PyData.hasDict] using h2, by simp only [PyData.depth]; omega, ?_⟩
  simp only [PyData.shown]
  refine Nat.le_trans (lt_le (m := m) fun t ht => ?_) ?_
  · rw [shownAll_map] at ht
    obtain ⟨d, hd, rfl⟩ := List.mem_map.mp ht
    exact (h d hd).ln
  · rw [shownAll_map, List.length_map]
    exact Nat.add_le_add_right (Nat.mul_le_mul_left _ hn) 4
theorem shw_int {i : Int} (h : i.natAbs ≤ 10 ^ 30 + 1000) : Shw 0 400 (.int i) := by
  have h1 : i.natAbs < 10 ^ 31 := Nat.lt_of_le_of_lt h (by decide)
  have h2 := int_text_length_le10 (k := 31) (by decide) h1
  refine ⟨?_, rfl, Nat.le_refl _, ?_⟩
  · simp only [PyData.showable, decide_eq_true_eq]
    by_cases hz : i.natAbs = 0
    · rw [hz]
      decide
    · exact (Nat.log2_lt hz).mpr (Nat.lt_of_lt_of_le h1 (Nat.le_trans (show 10 ^ 31 ≤ 2 ^ 128 by decide) (Nat.pow_le_pow_right (by decide) (by decide))))
  · simp only [PyData.shown]
    rw [PySem.ofString_length]
    omega
theorem shw_none : Shw 0 400 .none := ⟨rfl, rfl, Nat.le_refl _, by decide⟩
theorem shw_bool (b : Bool) : Shw 0 400 (.bool b) := by cases b <;> exact ⟨rfl, rfl, Nat.le_refl _, by decide⟩
theorem shw_str {x : Str} (h : (reprText x).length ≤ 400) : Shw 0 400 (.str x) := ⟨rfl, rfl, Nat.le_refl _, h⟩
theorem sok (s : String) : PyData.strOk (Str.ofString s) = true := by
  unfold PyData.strOk
  rw [Array.all_eq_true_iff_forall_mem]
  intro c hc
  have : c ∈ s.toList.map Char.toNat := by
    rw [Str.ofString_eq_toList] at hc
    simpa using hc
  obtain ⟨ch, _, rfl⟩ := List.mem_map.mp this
  have h := ch.valid
  refine decide_eq_true ?_
  have : ch.val.toNat < 1114112 := by
    rcases h with h | h
    · exact Nat.lt_trans h (by decide)
    · exact h.2
  exact this
theorem eqv_str (x y : Str) : PyData.eqv (.str x) (.str y) = decide (x = y) := by
  simp only [PyData.eqv]
  by_cases h : x = y
  · subst h
    simp
  · rw [decide_eq_false h]
    exact beq_eq_false_iff_ne.mpr h
theorem eqv_int (x y : Int) : PyData.eqv (.int x) (.int y) = decide (x = y) := by
  simp only [PyData.eqv]
  by_cases h : x = y
  · subst h
    simp
  · rw [decide_eq_false h]
    exact beq_eq_false_iff_ne.mpr h
theorem eqv_bool (x y : Bool) : PyData.eqv (.bool x) (.bool y) = decide (x = y) := by
  cases x <;> cases y <;> rfl
def FlB : PyData → Prop
  | .none => True
  | .bool _ => True
  | .int i => i.natAbs ≤ 10 ^ 30 + 1000
  | .str z => PyData.strOk z = true ∧ (reprText z).length ≤ 400
  | _ => False
def Bd (w : Nat) : Nat → PyData → Prop
  | 0, d => FlB d
  | k + 1, d => FlB d ∨ ∃ ds, (d = .list ds ∨ d = .tuple ds) ∧ ds.length ≤ w ∧ ∀ x ∈ ds, Bd w k x
theorem Bd.flat {w k : Nat} {d : PyData} (h : FlB d) : Bd w k d := by
  cases k with
  | zero => exact h
  | succ k => exact .inl h
theorem Bd.up {w w' : Nat} (hw : w ≤ w') : ∀ {k k' : Nat} {d : PyData}, k ≤ k' → Bd w k d → Bd w' k' d
  | 0, _, _, _, h => .flat h
  | k + 1, 0, _, hk, _ => absurd hk (by omega)
  | k + 1, k' + 1, d, hk, h => by
    rcases h with h | ⟨ds, e, hl, hd⟩
    · exact .inl h
    · exact .inr ⟨ds, e, Nat.le_trans hl hw, fun x hx => Bd.up hw (by omega) (hd x hx)⟩
theorem bd_tup {w k : Nat} {ds : List PyData} (hl : ds.length ≤ w) (h : ∀ x ∈ ds, Bd w k x) : Bd w (k + 1) (.tuple ds) := .inr ⟨ds, .inr rfl, hl, h⟩
theorem bd_lst {w k : Nat} {ds : List PyData} (hl : ds.length ≤ w) (h : ∀ x ∈ ds, Bd w k x) : Bd w (k + 1) (.list ds) := .inr ⟨ds, .inl rfl, hl, h⟩
/-- the parts of bounded data -/
theorem Bd.its {w k : Nat} {d : PyData} (h : Bd w k d) (hs : seqd d = true) : ∃ j, k = j + 1 ∧ (Dw.its d).length ≤ w ∧ ∀ x ∈ Dw.its d, Bd w j x := by
  cases k with
  | zero => cases d <;> first | exact (h : False).elim | cases hs
  | succ k =>
    refine ⟨k, rfl, ?_⟩
    rcases h with h | ⟨ds, rfl | rfl, hl, hd⟩
    · cases d <;> first | exact (h : False).elim | cases hs
    · exact ⟨hl, hd⟩
    · exact ⟨hl, hd⟩
theorem canAll : ∀ {ds : List PyData}, (∀ d ∈ ds, PyData.canLay0 d = true) → PyData.canLayAll0 ds = true
  | [], _ => by simp only [PyData.canLayAll0]
  | d :: ds, h => by simp only [PyData.canLayAll0, h d List.mem_cons_self, canAll fun x hx => h x (List.mem_cons_of_mem _ hx), Bool.and_self]
theorem depAll {n : Nat} : ∀ {ds : List PyData}, (∀ d ∈ ds, PyData.depth d ≤ n) → PyData.depthAll ds ≤ n
  | [], _ => by simp only [PyData.depthAll]; omega
  | d :: ds, h => by
    simp only [PyData.depthAll]
    exact Nat.max_le.mpr ⟨h d List.mem_cons_self, depAll fun x hx => h x (List.mem_cons_of_mem _ hx)⟩
theorem FlB.can {d : PyData} (h : FlB d) : PyData.canLay0 d = true ∧ PyData.depth d = 0 := by
  cases d with
  | none => exact ⟨by simp only [PyData.canLay0], by simp only [PyData.depth]⟩
  | bool _ => exact ⟨by simp only [PyData.canLay0], by simp only [PyData.depth]⟩
  | int _ => exact ⟨by simp only [PyData.canLay0], by simp only [PyData.depth]⟩
  | str z => exact ⟨by simp only [PyData.canLay0]; exact h.1, by simp only [PyData.depth]⟩
  | list _ => exact h.elim
  | tuple _ => exact h.elim
  | dict _ => exact h.elim
theorem Bd.can {w : Nat} : ∀ {k : Nat} {d : PyData}, Bd w k d → PyData.canLay0 d = true ∧ PyData.depth d ≤ k
  | 0, d, h => ⟨(FlB.can h).1, by rw [(FlB.can h).2]; exact Nat.le_refl _⟩
  | k + 1, d, h => by
    rcases h with h | ⟨ds, rfl | rfl, hl, hd⟩
    · exact ⟨h.can.1, by rw [h.can.2]; omega⟩
    · refine ⟨by simp only [PyData.canLay0]; exact canAll fun x hx => (Bd.can (hd x hx)).1, ?_⟩
      simp only [PyData.depth]
      exact Nat.succ_le_succ (depAll fun x hx => (Bd.can (hd x hx)).2)
    · refine ⟨by simp only [PyData.canLay0]; exact canAll fun x hx => (Bd.can (hd x hx)).1, ?_⟩
      simp only [PyData.depth]
      exact Nat.succ_le_succ (depAll fun x hx => (Bd.can (hd x hx)).2)
theorem Bd.shp {w k : Nat} {d : PyData} (h : Bd w k d) (hk : k ≤ 64) : Shp d := by
  obtain ⟨h1, h2⟩ := h.can
  exact Bool.and_eq_true_iff.mpr ⟨h1, decide_eq_true (Nat.le_trans h2 hk)⟩
theorem shp_int (i : Int) : Shp (.int i) := rfl
theorem shp_z {z : Str} (h : PyData.strOk z = true) : Shp (.str z) := by
  show SeqAt.shaped (.str z) = true
  simp [SeqAt.shaped, PyData.canLay0, PyData.depth, h]
theorem shp_str (s : String) : Shp (.str (Str.ofString s)) := shp_z (sok s)
/-- how long the text of bounded data is -/
def lenB (w : Nat) : Nat → Nat
  | 0 => 400
  | k + 1 => (lenB w k + 2) * w + 404
theorem FlB.shw {d : PyData} (h : FlB d) : Shw 0 400 d := by
  cases d with
  | none => exact shw_none
  | bool _ => exact shw_bool _
  | int _ => exact shw_int h
  | str z => exact shw_str h.2
  | list _ => exact h.elim
  | tuple _ => exact h.elim
  | dict _ => exact h.elim
theorem lenB_400 (w : Nat) : ∀ k, 400 ≤ lenB w k
  | 0 => Nat.le_refl _
  | k + 1 => by show 400 ≤ (lenB w k + 2) * w + 404; omega
theorem Bd.shw {w : Nat} : ∀ {k : Nat} {d : PyData}, Bd w k d → Shw k (lenB w k) d
  | 0, d, h => FlB.shw h
  | k + 1, d, h => by
    rcases h with h | ⟨ds, rfl | rfl, hl, hd⟩
    · exact h.shw.up (Nat.zero_le _) (lenB_400 w (k + 1))
    · exact (shw_lst (fun x hx => Bd.shw (hd x hx)) hl).up (Nat.le_refl _) (by show _ ≤ (lenB w k + 2) * w + 404; omega)
    · exact (shw_tup (fun x hx => Bd.shw (hd x hx)) hl).up (Nat.le_refl _) (by show _ ≤ (lenB w k + 2) * w + 404; omega)
theorem Bd.rep {w k : Nat} {d : PyData} (h : Bd w k d) (hk : k ≤ 40) (hl : lenB w k ≤ sizeLine) : RepOk d := by
  have s := h.shw
  exact ⟨s.sh, s.nd, Nat.le_trans s.dp hk, Nat.le_trans s.ln hl⟩
end Dw
namespace Dw
open PySem PySem.Spec PyProof.Rows L2 OgR Evl
def Lf (b : Nat) : PyData → Prop
  | .none => True
  | .bool _ => True
  | .int i => i.natAbs ≤ 10 ^ 30 + b
  | .str z => PyData.strOk z = true ∧ (reprText z).length ≤ 400
  | _ => False
theorem Lf.fl {b : Nat} (hb : b ≤ 1000) {d : PyData} (h : Lf b d) : FlB d := by
  cases d with
  | int i => exact Nat.le_trans (h : i.natAbs ≤ 10 ^ 30 + b) (by omega)
  | _ => exact h
theorem Lf.up {b b' : Nat} (hb : b ≤ b') {d : PyData} (h : Lf b d) : Lf b' d := by
  cases d with
  | int i => exact Nat.le_trans (h : i.natAbs ≤ 10 ^ 30 + b) (by omega)
  | _ => exact h
def Lv (b w : Nat) : Nat → PyData → Prop
  | 0, d => Lf b d
  | k + 1, d => Lf b d ∨ ∃ ds, (d = .list ds ∨ d = .tuple ds) ∧ ds.length ≤ w ∧ ∀ x ∈ ds, Lv b w k x
theorem Lv.flat {b w k : Nat} {d : PyData} (h : Lf b d) : Lv b w k d := by
  cases k with
  | zero => exact h
  | succ k => exact .inl h
theorem Lv.up {b b' w w' : Nat} (hb : b ≤ b') (hw : w ≤ w') : ∀ {k k' : Nat} {d : PyData}, k ≤ k' → Lv b w k d → Lv b' w' k' d
  | 0, _, _, _, h => .flat (Lf.up hb h)
  | k + 1, 0, _, hk, _ => absurd hk (by omega)
  | k + 1, k' + 1, d, hk, h => by
    rcases h with h | ⟨ds, e, hl, hd⟩
    · exact .inl (h.up hb)
    · exact .inr ⟨ds, e, Nat.le_trans hl hw, fun x hx => Lv.up hb hw (by omega) (hd x hx)⟩
theorem Lv.bd {b w : Nat} (hb : b ≤ 1000) : ∀ {k : Nat} {d : PyData}, Lv b w k d → Bd w k d
  | 0, _, h => Lf.fl hb h
  | k + 1, d, h => by
    rcases h with h | ⟨ds, e, hl, hd⟩
    · exact .inl (h.fl hb)
    · exact .inr ⟨ds, e, hl, fun x hx => Lv.bd hb (hd x hx)⟩
theorem Lv.its {b w k : Nat} {d : PyData} (h : Lv b w k d) (hs : seqd d = true) : ∃ j, k = j + 1 ∧ (Dw.its d).length ≤ w ∧ ∀ x ∈ Dw.its d, Lv b w j x := by
  cases k with
  | zero => cases d <;> first | exact (h : False).elim | cases hs
  | succ k =>
    refine ⟨k, rfl, ?_⟩
    rcases h with h | ⟨ds, rfl | rfl, hl, hd⟩
    · cases d <;> first | exact (h : False).elim | cases hs
    · exact ⟨hl, hd⟩
    · exact ⟨hl, hd⟩
mutual
def Tw : PyData → Nat
  | .list ds => TwA ds + 4
  | .tuple ds => TwA ds + 4
  | _ => 400
def TwA : List PyData → Nat
  | [] => 0
  | d :: ds => Tw d + 2 + TwA ds
end
theorem twA_app : ∀ xs ys : List PyData, TwA (xs ++ ys) = TwA xs + TwA ys
  | [], ys => by simp only [List.nil_append, TwA]; omega
  | x :: xs, ys => by
    simp only [List.cons_append, TwA, twA_app xs ys]
    omega
theorem twA_mem : ∀ {xs : List PyData} {x : PyData}, x ∈ xs → Tw x + 2 ≤ TwA xs
  | y :: xs, x, h => by
    simp only [TwA]
    rcases List.mem_cons.mp h with rfl | h
    · omega
    · have := twA_mem h
      omega
theorem twA_td (xs : List PyData) (n : Nat) : TwA (xs.take n) + TwA (xs.drop n) = TwA xs := by
  rw [← twA_app, List.take_append_drop]
theorem twA_erase : ∀ (xs : List PyData) (n : Nat), TwA (xs.eraseIdx n) ≤ TwA xs
  | [], n => by simp [List.eraseIdx]
  | x :: xs, 0 => by simp only [List.eraseIdx, TwA]; omega
  | x :: xs, n + 1 => by
    have := twA_erase xs n
    simp only [List.eraseIdx, TwA]
    omega
theorem twA_set : ∀ (xs : List PyData) (n : Nat) (x y : PyData), xs[n]? = some x → TwA (xs.set n y) + Tw x = TwA xs + Tw y
  | [], n, x, y, h => by simp at h
  | z :: xs, 0, x, y, h => by
    have : z = x := Option.some.inj h
    subst this
    simp only [List.set, TwA]
    omega
  | z :: xs, n + 1, x, y, h => by
    have := twA_set xs n x y h
    simp only [List.set, TwA]
    omega
theorem twA_len : ∀ (m : Nat) (xs : List PyData), (∀ x ∈ xs, Tw x ≤ m) → TwA xs ≤ (m + 2) * xs.length
  | m, [], _ => by simp only [TwA]; omega
  | m, x :: xs, h => by
    have h1 := h x List.mem_cons_self
    have h2 := twA_len m xs fun y hy => h y (List.mem_cons_of_mem _ hy)
    simp only [TwA, List.length_cons, Nat.mul_add]
    omega
theorem tf_le2 : ∀ (ts : List Str) (k : Nat) (acc : Str), (textFrom k acc ts).length ≤ acc.length + piled ts
  | [], k, acc => by rw [piled_nil]; exact Nat.le_refl _
  | t :: ts, k, acc => by
    have ih := tf_le2 ts (k + 1) (acc ++ (if k > 0 then ", " else "" : String) ++ t)
    rw [strLen_append, strLen_append] at ih
    have e3 : (Str.ofString (if k > 0 then ", " else "")).length ≤ 2 := by
      split <;> decide
    show (textFrom (k + 1) (acc ++ (if k > 0 then ", " else "" : String) ++ t) ts).length ≤ _
    rw [piled_cons]
    omega
theorem lt_le2 (ts : List Str) : (listText ts).length ≤ piled ts + 4 := by
  have h1 := tf_le2 ts 0 "["
  show (textFrom 0 "[" ts ++ "]").length ≤ _
  rw [strLen_append]
  have e1 : (Str.ofString "[").length = 1 := by decide
  have e2 : (Str.ofString "]").length = 1 := by decide
  omega
theorem tt_le2 (ts : List Str) : (tupleText ts).length ≤ piled ts + 4 := by
  unfold tupleText
  rw [strLen_append, strLen_append]
  have e1 : (Str.ofString "(").length = 1 := by decide
  have e2 : (Str.ofString (if ts.length == 1 then ",)" else ")")).length ≤ 2 := by
    split <;> decide
  by_cases hn : ts = []
  · subst hn
    have e3 : ((Str.ofString ", ").join []).length = 0 := by decide
    rw [e3]
    omega
  · have h2 := join_length_add ts hn
    omega
theorem piled_tw : ∀ {ds : List PyData}, (∀ d ∈ ds, d.shown.length ≤ Tw d) → piled (PyData.shownAll ds) ≤ TwA ds
  | [], _ => by simp only [PyData.shownAll, TwA, piled_nil]; exact Nat.le_refl _
  | d :: ds, h => by
    have h1 := h d List.mem_cons_self
    have h2 := piled_tw fun x hx => h x (List.mem_cons_of_mem _ hx)
    simp only [PyData.shownAll, TwA, piled_cons]
    omega
theorem FlB.tw {d : PyData} (h : FlB d) : Tw d = 400 := by
  cases d with
  | list _ => exact h.elim
  | tuple _ => exact h.elim
  | dict _ => exact h.elim
  | _ => simp only [Tw]
theorem Bd.tw {w : Nat} : ∀ {k : Nat} {d : PyData}, Bd w k d → d.shown.length ≤ Tw d
  | 0, d, h => by rw [FlB.tw h]; exact (FlB.shw h).ln
  | k + 1, d, h => by
    rcases h with h | ⟨ds, rfl | rfl, hl, hd⟩
    · rw [FlB.tw h]
      exact (FlB.shw h).ln
    · have := piled_tw fun x hx => Bd.tw (hd x hx)
      have h2 := lt_le2 (PyData.shownAll ds)
      simp only [PyData.shown, Tw]
      omega
    · have := piled_tw fun x hx => Bd.tw (hd x hx)
      have h2 := tt_le2 (PyData.shownAll ds)
      simp only [PyData.shown, Tw]
      omega
structure Sm (b w k L : Nat) (d : PyData) : Prop where
  lv : Lv b w k d
  tw : Tw d ≤ L
theorem Sm.up {b w k L b' w' k' L' : Nat} {d : PyData} (h : Sm b w k L d) (hb : b ≤ b') (hw : w ≤ w') (hk : k ≤ k') (hL : L ≤ L') : Sm b' w' k' L' d := ⟨h.lv.up hb hw hk, Nat.le_trans h.tw hL⟩
theorem Sm.bd {b w k L : Nat} {d : PyData} (h : Sm b w k L d) (hb : b ≤ 1000) : Bd w k d := h.lv.bd hb
theorem Sm.rep {b w k L : Nat} {d : PyData} (h : Sm b w k L d) (hb : b ≤ 1000) (hk : k ≤ 40) (hL : L ≤ sizeLine) : RepOk d := by
  have s := (h.bd hb).shw
  exact ⟨s.sh, s.nd, Nat.le_trans s.dp hk, Nat.le_trans (h.bd hb).tw (Nat.le_trans h.tw hL)⟩
theorem Lf.tw {b : Nat} {d : PyData} (h : Lf b d) : Tw d = 400 := by
  cases d with
  | list _ => exact h.elim
  | tuple _ => exact h.elim
  | dict _ => exact h.elim
  | _ => simp only [Tw]
theorem Sm.leaf {b w k L : Nat} {d : PyData} (h : Lf b d) (hL : 400 ≤ L) : Sm b w k L d := ⟨.flat h, by rw [h.tw]; exact hL⟩
theorem Sm.tup {b w k L : Nat} {ds : List PyData} (h : ∀ x ∈ ds, Lv b w k x) (hw : ds.length ≤ w) (hL : TwA ds + 4 ≤ L) : Sm b w (k + 1) L (.tuple ds) := ⟨.inr ⟨ds, .inr rfl, hw, h⟩, by simp only [Tw]; exact hL⟩
theorem Sm.lst {b w k L : Nat} {ds : List PyData} (h : ∀ x ∈ ds, Lv b w k x) (hw : ds.length ≤ w) (hL : TwA ds + 4 ≤ L) : Sm b w (k + 1) L (.list ds) := ⟨.inr ⟨ds, .inl rfl, hw, h⟩, by simp only [Tw]; exact hL⟩
theorem lf_digits {b : Nat} (hb : b ≤ 1000) {i : Int} (h : i.natAbs ≤ 10 ^ 30 + b) {b' : Nat} : Lf b' (.str (toString i)) := by
  have h1 : i.natAbs < 10 ^ 31 := by omega
  have h2 := int_text_length_le10 (k := 31) (by decide) h1
  refine ⟨sok _, ?_⟩
  have h3 : (reprText (Str.ofString (toString i))).length ≤ 10 * (Str.ofString (toString i)).length + 2 := PySem.StrLaws.reprText_len _ fun c hc => by
    have hs := sok (toString i)
    unfold PyData.strOk at hs
    rw [Array.all_eq_true_iff_forall_mem] at hs
    have := of_decide_eq_true (hs c (by simpa using hc))
    exact Nat.lt_of_lt_of_le this (by decide)
  rw [PySem.ofString_length] at h3
  exact Nat.le_trans h3 (by omega)
end Dw
namespace Dw
open PySem PySem.Spec PyProof.Rows L2 OgR Evl
section
variable {X : Cx} {C : Ct}
/-- != of texts -/
def gNeS : G2 := fun d e s Q => ∃ x y, d = .str x ∧ e = .str y ∧ Q (.bool (!decide (x = y))) s
theorem o_neS : OpD X C (compareOp .NotEq) rNe gNeS := ⟨op_ne, ⟨fun G σ H s x y d e Q Q' r p1 p2 q k => by
  obtain ⟨a, b, rfl, rfl, q⟩ := q
  have h1 := pk_str p1
  have h2 := pk_str p2
  subst h1 h2
  refine ⟨rfl, ?_⟩
  have e : decide (V.str a = V.str b) = decide (a = b) := by simp
  rw [e]
  exact k _ _ s G H q r (Ex.refl G) Gs.refl (.bl _)⟩⟩
def repD (k : Int) (ds : List PyData) : List PyData := (List.replicate k.toNat ds).flatten
def gRepN : G2 := fun d e s Q => ∃ (ds : List PyData) (k : Int), d = .tuple ds ∧ e = .int k ∧ ds ≠ [] ∧ -1000 ≤ k ∧ k ≤ 1000 ∧ ds.length ≤ 1000 ∧ Q (.tuple (repD k ds)) s
end
end Dw
namespace Dw
open PySem PySem.Spec PyProof.Rows L2 OgR Evl
def ExB (l : Addr) (H H' : Hp) : Prop := ∀ a o, a ≠ l → H a = some o → H' a = some o
theorem ExB.of {l : Addr} {H H' : Hp} (e : Ex H H') : ExB l H H' := fun a o _ h => e a o h
theorem ExB.trans {l : Addr} {H H1 H2 : Hp} (a : ExB l H H1) (b : ExB l H1 H2) : ExB l H H2 := fun x o n h => b x o n (a x o n h)
theorem ExB.mut {l p : Addr} {H H' : Hp} {o : HO} (e : ExB l H H') (h : H p = none) : ExB l H (upd H' p o) := fun x u n hx => by
  rw [upd_ne (fun z => by rw [z, h] at hx; cases hx)]
  exact e x u n hx
theorem BoxAt.ex {H H' : Hp} {l : Addr} {c : Int} (h : BoxAt H l c) (e : Ex H H') : BoxAt H' l c := h.keep fun o q => e l o q
theorem BoxAt.upd {H : Hp} {l p : Addr} {c : Int} {o : HO} (h : BoxAt H l c) (n : l ≠ p) : BoxAt (upd H p o) l c := h.keep fun u q => by
  rw [upd_ne n]
  exact q
theorem repT_snoc (n : Nat) : List.replicate (n + 1) true = List.replicate n true ++ [true] := by
  rw [List.replicate_succ']
theorem repT_all (n : Nat) : (List.replicate n true).all id = true := by
  rw [List.all_eq_true]
  intro x hx
  rw [(List.mem_replicate.mp hx).2]
  rfl
theorem box01 (b : Bool) : -(2 ^ 64) < (if b = true then (1 : Int) else 0) ∧ (if b = true then (1 : Int) else 0) < 2 ^ 64 := by
  cases b <;> decide
/-- promises of _law_cell_at, _law_box, _law_right, law -/
def spCel (K : PySem.W.Frag) : Sp := fun vs H Q _ => ∃ (a : Addr) (ns : List Int) (k : Nat), vs = [.ref a, .int k] ∧ SqL K H a (ns.map V.int) ∧ Q (.int (ns.getD k 0)) H
def spBox (K : PySem.W.Frag) : Sp := fun vs H Q _ => ∃ (a : Addr) (ns : List Int) (k : Nat), vs = [.ref a, .int k] ∧ SqL K H a (ns.map V.int) ∧ k ≤ 1000 ∧
  ∀ l x y, H l = none → 0 ≤ x → 0 ≤ y → y < 2 ^ 62 → Q (.ref l) (upd H l (.lst [.int x, .int y, .int 0]))
def spRight : Sp := fun vs H Q _ => ∃ (l : Addr) (c : Int), vs = [.ref l] ∧ BoxAt H l c ∧ c ≤ 800000 ∧ ∀ H' c', ExB l H H' → BoxAt H' l c' → c' ≤ c + 1000 → Q (.bl true) H'
def spLaw (K : PySem.W.Frag) : Sp := fun vs H Q _ => ∃ (s : Addr) (ns : List Int), vs = [.ref s] ∧ SqL K H s (ns.map V.int) ∧ ns.length ≤ 63 ∧ ∀ H', Q (.bl true) H'
/-- what a law's _law_right promises -/
def fRight : FB := fun ds c R => ds = [] ∧ c ≤ 800000 ∧ ∀ c', c' ≤ c + 1000 → R (.bool true) c'
theorem right_of {P : Program} {wd : World} {K : PySem.W.Frag} {mg : Str → Option Value} {base : Heap} {k : Nat} {x : Str} {st : Stmt} {ps : List Str} (D : Def P wd K mg base k x st ps (spB K fRight)) : Def P wd K mg base k x st ps spRight :=
  D.imp fun vs H Q E h => by
    obtain ⟨l, c, rfl, hB, hc, q⟩ := h
    refine ⟨l, [], fun _ => none, [], c, fun d c' => d = .bool true ∧ c' ≤ c + 1000, rfl, hB, rfl, (fun b o h => by cases h), .nil, ⟨rfl, hc, fun c' h => ⟨rfl, h⟩⟩, fun v d c' G' H' hR eg eh hB' gh nw pd => ?_⟩
    obtain ⟨rfl, h2⟩ := hR
    rw [dp_bl pd]
    exact q H' c' (fun a o n h => eh a o n h) hB' h2
end Dw
namespace Dw
open PySem PySem.Spec PyProof.Rows L2 OgR Evl
section
variable {κ : Type} [DecidableEq κ]
def lookG (tbl : List (κ × PyData)) (k : κ) : Option PyData := (tbl.find? fun kd => decide (kd.1 = k)).map (·.2)
def putG (tbl : List (κ × PyData)) (k : κ) (d : PyData) : List (κ × PyData) :=
  if (tbl.any fun kd => decide (kd.1 = k)) = true then tbl.map (fun kd => if kd.1 = k then (kd.1, d) else kd) else tbl ++ [(k, d)]
abbrev PK2 (K : PySem.W.Frag) (G : Hp) (ks : List (κ × V)) (kvs : List (κ × PyData)) : Prop := Paired (fun a b => a.1 = b.1 ∧ Dp K G a.2 b.2) ks kvs
theorem look_pair {K : PySem.W.Frag} {G : Hp} (k : κ) {ks : List (κ × V)} {kvs : List (κ × PyData)} (h : PK2 K G ks kvs) :
    (valV ks k = none ∧ lookG kvs k = none) ∨ ∃ v d, valV ks k = some v ∧ lookG kvs k = some d ∧ Dp K G v d := by
  unfold valV lookG
  induction h with
  | nil => exact .inl ⟨rfl, rfl⟩
  | @cons a b l1 l2 h t ih =>
    by_cases e : a.1 = k
    · refine .inr ⟨a.2, b.2, ?_, ?_, h.2⟩
      · rw [List.find?_cons_of_pos (by simpa using e)]
        rfl
      · rw [List.find?_cons_of_pos (by rw [← h.1]; simpa using e)]
        rfl
    · rw [List.find?_cons_of_neg (by simpa using e), List.find?_cons_of_neg (by rw [← h.1]; simpa using e)]
      exact ih
theorem any_pair {K : PySem.W.Frag} {G : Hp} (k : κ) {ks : List (κ × V)} {kvs : List (κ × PyData)} (h : PK2 K G ks kvs) : (ks.any fun kd => decide (kd.1 = k)) = (kvs.any fun kd => decide (kd.1 = k)) := by
  induction h with
  | nil => rfl
  | cons h t ih => rw [List.any_cons, List.any_cons, ih, h.1]
theorem map_pair {K : PySem.W.Frag} {G : Hp} (k : κ) {v : V} {d : PyData} (hv : Dp K G v d) {ks : List (κ × V)} {kvs : List (κ × PyData)} (h : PK2 K G ks kvs) : PK2 K G (ks.map fun kv => if kv.1 = k then (kv.1, v) else kv) (kvs.map fun kv => if kv.1 = k then (kv.1, d) else kv) := by
  induction h with
  | nil => exact .nil
  | @cons a b l1 l2 h t ih =>
    refine .cons ?_ ih
    show (if a.1 = k then (a.1, v) else a).1 = (if b.1 = k then (b.1, d) else b).1 ∧ Dp K G (if a.1 = k then (a.1, v) else a).2 (if b.1 = k then (b.1, d) else b).2
    rw [← h.1]
    by_cases e : a.1 = k
    · rw [if_pos e, if_pos e]
      exact ⟨rfl, hv⟩
    · rw [if_neg e, if_neg e]
      exact h
theorem snoc_pair {K : PySem.W.Frag} {G : Hp} (k : κ) {v : V} {d : PyData} (hv : Dp K G v d) {ks : List (κ × V)} {kvs : List (κ × PyData)} (h : PK2 K G ks kvs) : PK2 K G (ks ++ [(k, v)]) (kvs ++ [(k, d)]) := by
  induction h with
  | nil => exact .cons ⟨rfl, hv⟩ .nil
  | cons h t ih => exact .cons h ih
theorem put_pair {K : PySem.W.Frag} {G : Hp} (k : κ) {v : V} {d : PyData} (hv : Dp K G v d) {ks : List (κ × V)} {kvs : List (κ × PyData)} (h : PK2 K G ks kvs) : PK2 K G (putK ks k v) (putG kvs k d) := by
  unfold putK putG
  rw [any_pair k h]
  split
  · exact map_pair k hv h
  · exact snoc_pair k hv h
theorem len_pair {K : PySem.W.Frag} {G : Hp} {ks : List (κ × V)} {kvs : List (κ × PyData)} (h : PK2 K G ks kvs) : ks.length = kvs.length := by
  induction h with
  | nil => rfl
  | cons h t ih => rw [List.length_cons, List.length_cons, ih]
end
section
variable {C : Ct} {G G' H H' : Hp} {σ : L2.St} {s : Dt} {c c' : Cs}
/-- an object of the def's own changes, and what stands in its slot -/
theorem Rel.mutO (r : Rel C G σ H s) {i : Nat} {p : Addr} {x x' : DV} {u o : HO} (e : s.env[i]? = some (some x)) (mx : x.mut = true) (hs : σ[i]? = some (some (.ref p))) (h1 : H p = some u) (hu : ∀ od w, u ≠ .frz od w) (h2 : C.H0 p = none) (h3 : G p = none) (rv : RV C G (upd H p o) (.ref p) x') (su : soft u = true := by rfl) : Rel C G σ (upd H p o) (s.set i x') := by
  have gp : ∀ b, G b ≠ none → b ≠ p := fun b hb z => hb (by rw [z]; exact h3)
  have oth : ∀ (j : Nat) y q, j ≠ i → s.env[j]? = some (some y) → y.mut = true → σ[j]? = some (some (.ref q)) → q ≠ p := fun j y q hj ej m hq z => r.dis i j x y p (Ne.symm hj) e ej mx m hs (by rw [hq, z])
  refine ⟨⟨fun b o hb => ?_, r.fin.g0, r.fin.nw, fun b o n hb => ?_, r.fin.ok, r.fin.obu (Ex.refl G) h2 (fun b o n e => by rw [upd_ne n]; exact e), fun l hl => ?_⟩, by show (s.env.set i _).length = _; rw [List.length_set]; exact r.len, fun j y ej => ?_, fun j k y z q hne e1 e2 m1 m2 => ?_⟩
  · rw [upd_ne (gp b (by rw [hb]; exact Option.some_ne_none _))]
    exact r.fin.gh b o hb
  · rw [upd_ne (fun z => by rw [z, h2] at hb; cases hb)]
    exact r.fin.hh b o n hb
  · have hlp : l ≠ p := fun z => r.fin.nbx h2 (by rw [← z]; exact hl)
    exact ⟨(r.fin.bx l hl).1.updS h1 su hlp, (r.fin.bx l hl).2⟩
  · rcases get_set ej with ⟨rfl, rfl, hl⟩ | ⟨z, ej⟩
    · exact ⟨_, hs, rv⟩
    · obtain ⟨v', hv', rv⟩ := r.sl j y ej
      refine ⟨v', hv', ?_⟩
      cases y with
      | d x => exact rv
      | box => exact rv
      | ob _ => exact rv
      | obl _ => exact rv
      | own ds2 =>
        obtain ⟨p2, xs2, rfl, a2, a3, a4, a5⟩ := rv
        exact ⟨p2, xs2, rfl, by rw [upd_ne (oth j _ p2 z ej rfl hv')]; exact a2, a3, a4, a5⟩
      | dic ks =>
        obtain ⟨p2, xs2, rfl, a2, a3, a4, a5⟩ := rv
        exact ⟨p2, xs2, rfl, by rw [upd_ne (oth j _ p2 z ej rfl hv')]; exact a2, a3, a4, a5⟩
      | dit ks =>
        obtain ⟨p2, xs2, rfl, a2, a3, a4, a5⟩ := rv
        exact ⟨p2, xs2, rfl, by rw [upd_ne (oth j _ p2 z ej rfl hv')]; exact a2, a3, a4, a5⟩
      | oth φ => exact Oth.step (φ := φ) rv (Ex.refl G) (Kept.upd h1 su)
      | dd ks =>
        obtain ⟨p2, xs2, a1, a2, a5⟩ := rv
        exact ⟨p2, xs2, a1, a2.upd h1 h2 hu, a5⟩
  · have go : ∀ (j : Nat) y, (s.set i x').env[j]? = some (some y) → y.mut = true → ∃ y', s.env[j]? = some (some y') ∧ y'.mut = true := fun j y ej m => by
      rcases get_set ej with ⟨rfl, rfl, hl⟩ | ⟨z, ej⟩
      · exact ⟨_, e, mx⟩
      · exact ⟨y, ej, m⟩
    obtain ⟨y', f1, n1⟩ := go j y e1 m1
    obtain ⟨z', f2, n2⟩ := go k z e2 m2
    exact r.dis j k y' z' q hne f1 f2 n1 n2
end
section
variable {X : Cx} {C : Ct} {a b e f tg : Expr} {es : List Expr} {pos p : Pos} {t ta tb tc te ty tx : TE} {w wa wb wc we wy wx : WE} {tA : TA} {wA : WA} {x : Str} {st : Stmt} {sts : List Stmt} {ps : List Str} {k : Nat}
theorem ds_newT (i : Nat) {pos' p2 : Pos} (hN : X.N.Nodup) (hi : X.N[i]? = some x := by rfl) (hx : Loc X.env.scope x := by first | exact .inl rfl | exact .inr rfl) (hs : swapsWith (.Dict [] [] p2) (some (.Name x pos')) pos.line X.env = pure false := by rfl)
    (hf : X.fn x = true ∨ X.env.scope.names.lookup x = some .local := by first | exact .inl rfl | exact .inr rfl | assumption) : DS X C (.Assign [.Name x pos'] (.Dict [] [] p2) pos) (tAsg tDNewT (gName i)) (fun DD s => DD.nx (s.set i (.dit []))) :=
  ⟨ps_set hN hi hx pe_dnewT hs hf, fun G σ H s D DD r q o p hp => o.nx _ _ _ G q ((r.aside (Ex.new hp)).put (x := .dit []) ⟨p, [], rfl, upd_same, r.fin.h0 hp, r.gnone hp, .nil⟩ fun _ j y p' ej m z => by
    cases z
    exact r.notslot hp j y ej m) (Ex.refl G)⟩
/-- d.get(e, f), int and text keys -/
def wDGet2 (i : Nat) (we wf : WE) : WE := fun s Q => (∃ kvs0, s.env[i]? = some (some (.dic kvs0))) ∧ we s fun kd s1 => wf s1 fun fd s2 => ∃ kvs k, s2.env[i]? = some (some (.dic kvs)) ∧ keyD kd = some k ∧ Q ((lookG kvs k).getD fd) s2
/-- d[k] = e, int and text keys -/
def wDPut (i : Nat) (we wy : WE) : WS := fun DD s => we s fun d s1 => (∃ kvs0, s1.env[i]? = some (some (.dic kvs0))) ∧ wy s1 fun kd s2 => ∃ kvs k, s2.env[i]? = some (some (.dic kvs)) ∧ keyD kd = some k ∧ kvs.length < 100000 ∧ DD.nx (s2.set i (.dic (putG kvs k d)))
def keysD : List PyData → Option (List Key)
  | [] => some []
  | d :: ds => match keyD d, keysD ds with
    | some k, some ks => some (k :: ks)
    | _, _ => none
theorem keys_v {K : PySem.W.Frag} {G : Hp} : ∀ {ds : List PyData} {vs : List V} {ks : List Key}, DpAll K G vs ds → keysD ds = some ks → vs = ks.map kV
  | _, _, _, .nil, e => by cases e; rfl
  | d :: ds, _, _, .cons h t, e => by
    unfold keysD at e
    split at e
    · rename_i k ks h1 h2
      cases e
      rw [key_v h h1, keys_v t h2]
      rfl
    · cases e
/-- d[(a, b)] = e -/
def wTPut (i : Nat) (we : WE) (wA : WA) : WS := fun DD s => we s fun d s1 => (∃ kvs0, s1.env[i]? = some (some (.dit kvs0))) ∧ wA s1 fun kd s2 => ∃ kvs k, s2.env[i]? = some (some (.dit kvs)) ∧ keysD kd = some k ∧ kd.length ≤ 100000 ∧ kvs.length < 100000 ∧ DD.nx (s2.set i (.dit (putG kvs k d)))
theorem ds_tput (i : Nat) {p2 p3 : Pos} {kk : Nat} (hu : X.A.units + 1 < cLine) (h : DE X C e te we) (hA : DA X C es tA wA) (hv : PE X (.Name x p) (tVar i) := by exact pv _) (hs : swapsWith e (some (.Subscript (.Name x p) (.Tuple es kk p3) p2)) pos.line X.env = pure false := by rfl) :
    DS X C (.Assign [.Subscript (.Name x p) (.Tuple es kk p3) p2] e pos) (sDPut (tVar i) (tTup tA) te) (wTPut i we wA) := ⟨ps_dput hu hv (pe_tup hA.pa) h.pe hs, fun G σ H s D DD r q o => h.ie G σ H s _ _ r q fun v1 d1 s1 G1 H1 q1 r1 eg1 g1 p1 => by
  obtain ⟨⟨kvs0, e0⟩, q1⟩ := q1
  obtain ⟨v, hv, p, ks, rfl, a1, a2, a3, a4⟩ := r1.sl i _ e0
  refine ⟨_, hv, hA.ia G1 σ H1 s1 _ _ r1 q1 fun vs2 ds2 s2 G2 H2 q2 r2 eg2 g2 p2 => ?_⟩
  obtain ⟨kvs, kk, e2, hk, hl0, hl, q2⟩ := q2
  obtain ⟨v', hv', p', ks', hp', b1, b2, b3, b4⟩ := r2.sl i _ e2
  rw [hv] at hv'
  cases hv'
  cases hp'
  refine ⟨by rw [dpa_len p2]; exact sz_of hl0, fun T hT => ?_⟩
  have ne : p ≠ T := fun z => by rw [z, hT] at b1; cases b1
  have b1' : upd H2 T (.tup vs2) p = some (.dT ks') := by rw [upd_ne ne]; exact b1
  have r3 := r2.aside (Ex.new (o := .tup vs2) hT)
  refine ⟨p, _, rfl, DPut.t b1' (b := T) (k := kk) (by rw [upd_same, keys_v p2 hk]) (sz_lt (by rw [len_pair b4]; exact hl)), o.nx σ _ _ G2 q2 (r3.mutO (x' := .dit (putG kvs kk d1)) e2 rfl hv b1' (fun _ _ z => by cases z) b2 b3 ⟨p, putK ks' kk v1, rfl, upd_same, b2, b3, put_pair kk (dp_ex eg2 p1) b4⟩) (eg1.trans eg2)⟩⟩
/-- d[(a, b)], the dict only read -/
def wTGet (i : Nat) (wA : WA) : WE := fun s Q => (∃ kvs0, s.env[i]? = some (some (.dd kvs0))) ∧ wA s fun kd s1 => ∃ kvs k d, s1.env[i]? = some (some (.dd kvs)) ∧ keysD kd = some k ∧ kd.length ≤ 100000 ∧ lookG kvs k = some d ∧ Q d s1
theorem RdD.rd {H : Hp} {p : Addr} {ks : List (List Key × V)} (h : RdD C H p ks) : Rd H p (.dT ks) := by
  obtain ⟨(⟨od, h⟩ | ⟨h, h0⟩), n⟩ := h
  · exact .inr ⟨od, h⟩
  · exact .inl h
theorem de_tget (i : Nat) {p2 p3 : Pos} {kk : Nat} (hu : X.A.units + 1 < cLine) (hA : DA X C es tA wA) (hv : PE X (.Name x p) (tVar i) := by exact pv _) (hs : NoSl (.Tuple es kk p3) := by exact fun _ _ => rfl) :
    DE X C (.Subscript (.Name x p) (.Tuple es kk p3) pos) (tDGet (tVar i) (tTup tA)) (wTGet i wA) := ⟨pe_dget hu hv (pe_tup hA.pa) hs, fun G σ H s Q Q' r q k => by
  obtain ⟨⟨kvs0, e0⟩, q⟩ := q
  obtain ⟨v, hv, p, ks, rfl, a1, a2⟩ := r.sl i _ e0
  refine ⟨_, hv, hA.ia G σ H s _ _ r q fun vs ds s1 G1 H1 q1 r1 eg1 g1 p1 => ?_⟩
  obtain ⟨kvs, kk, d, e2, hk, hl, hd, q1⟩ := q1
  obtain ⟨v', hv', p', ks', hp', b1, b2⟩ := r1.sl i _ e2
  rw [hv] at hv'
  cases hv'
  cases hp'
  refine ⟨by rw [dpa_len p1]; exact sz_of hl, fun T hT => ?_⟩
  rcases look_pair kk b2 with ⟨z1, z2⟩ | ⟨v3, d3, z1, z2, z3⟩
  · rw [z2] at hd
    cases hd
  · rw [z2] at hd
    cases hd
    refine ⟨p, v3, rfl, .inr ⟨ks', kk, T, ?_, rfl, by rw [upd_same, keys_v p1 hk], z1.symm⟩, k _ _ s1 G1 _ q1 (r1.aside (Ex.new hT)) eg1 (g1.trans (.side (Ex.new hT))) z3⟩
    exact (b1.gr (Gr.of (Ex.new hT))).rd⟩
end
end Dw
namespace Dw
open PySem PySem.Spec PyProof.Rows L2 OgR Evl
section
variable {X : Cx} {C : Ct} {a b e tg : Expr} {es : List Expr} {pos p : Pos} {t ta tb tc te : TE} {w wa wb wc we : WE} {tA : TA} {wA : WA} {x : Str} {st : Stmt} {sts : List Stmt} {u v : TS} {wu wv : WS}
theorem lc_core {J : It} {ds : List PyData} {g : TG} {ks vs : List Nat} {wg : WG} {tt : TT} {wt : WT} {te : TE} {we : WE} {G H : Hp} {σ : L2.St} {s : Dt} {Q : List PyData → Dt → Prop} {Q' : VK} (hk : ∀ k ∈ ks, k ∈ vs) (ht : IT C tt wt) (he : IE C te we) (r : Rel C G σ H s)
    (turn : ∀ G' H' c', Ex G G' → Rel C G' σ H' ⟨s.env, c'⟩ → Gs C σ G H s G' H' ⟨s.env, c'⟩ → (∀ (i : Nat) d, ds[i]? = some d → J.go i H' ∧ ∀ x H3, J.yld i H' x H3 → ∃ G3, Ex G' G3 ∧ Ex H' H3 ∧ Ex G3 H3 ∧ Nw G' G3 H' ∧ ∀ σ2 s2 Q Q', Rel C G3 σ2 H3 s2 → wg d s2 Q →
      (∀ σ' s', Q s' → Rel C G3 σ' H3 s' → σ'.length = σ2.length → (∀ j : Nat, j ∉ ks → σ'[j]? = σ2[j]?) → Q' σ' H3) → g x σ2 H3 Q') ∧ J.stop ds.length H')
    (q1 : ∃ Inv : Nat → List PyData → Cs → Prop, Inv 0 [] s.c ∧
      (∀ (i : Nat) d acc c, ds[i]? = some d → Inv i acc c → wg d ⟨wipeD s.env vs, c⟩ fun s2 => wt s2 fun b s3 => s3.env = s2.env ∧ if b = true then we s3 fun y s4 => s4.env = s2.env ∧ acc.length < 100000 ∧ Inv (i + 1) (acc ++ [y]) s4.c else Inv (i + 1) acc s3.c) ∧
      ∀ acc c, Inv ds.length acc c → Q acc ⟨s.env, c⟩)
    (k : ∀ p xs ds s' G' H', Q ds s' → Rel C G' σ H' s' → Ex G G' → Gs C σ G H s G' H' s' → H p = none → H' p = some (.lst xs) → G' p = none → DpAll C.K G' xs ds → (∀ (i : Nat) x, s'.env[i]? = some (some x) → x.mut = true → σ[i]? ≠ some (some (.ref p))) → Q' (.ref p) H') :
    tLc (fun _ H1 R => R J H1) g tt te vs σ H Q' := fun D hD => by
    obtain ⟨Inv, h0, hs, hd⟩ := q1
    have hHD : H D = none := by
      cases z : H D with
      | none => rfl
      | some o => rw [z] at hD; cases hD
    refine ⟨fun i m H' => m = ds.length - i ∧ i ≤ ds.length ∧ ∃ G' acc xs c', Ex G G' ∧ Rel C G' σ H' ⟨s.env, c'⟩ ∧ Gs C σ G H s G' H' ⟨s.env, c'⟩ ∧ H' D = some (.lst xs) ∧ G' D = none ∧ DpAll C.K G' xs acc ∧ Inv i acc c', ⟨ds.length, by simp, Nat.zero_le _, G, [], [], s.c, Ex.refl G, r.aside (Ex.new hD), .side (Ex.new hD), upd_same, r.gnone hD, .nil, h0⟩, ?_⟩
    rintro i m H' ⟨rfl, hi, G', acc, xs, c', e', r', g', hHd, hGd, dacc, inv⟩
    obtain ⟨go, stop⟩ := turn G' H' c' e' r' g'
    have nbD : ¬ C.bx.has D := r.fin.nbx (r.fin.h0 hHD)
    by_cases hlt : i < ds.length
    · have hd1 : ds[i]? = some ds[i] := List.getElem?_eq_getElem hlt
      obtain ⟨g1, g2⟩ := go i _ hd1
      refine .inr ⟨g1, fun H2 => ∃ G' acc xs c', Ex G G' ∧ Rel C G' σ H2 ⟨s.env, c'⟩ ∧ Gs C σ G H s G' H2 ⟨s.env, c'⟩ ∧ H2 D = some (.lst xs) ∧ G' D = none ∧ DpAll C.K G' xs acc ∧ Inv (i + 1) acc c', fun H2 ⟨G2, a1, a2, a3, a4, a5, a6, a7, a8, a9, a10⟩ => ⟨ds.length - (i + 1), by omega, rfl, hlt, G2, a1, a2, a3, a4, a5, a6, a7, a8, a9, a10⟩, fun x H3 y => ?_⟩
      obtain ⟨G3, b1, b2, b3, b4, b5⟩ := g2 x H3 y
      have r3 := r'.grow b1 b2 b3 b4
      have gs3 : Gs C σ G' H' ⟨s.env, c'⟩ G3 H3 ⟨s.env, c'⟩ := .grow b2 b4
      have e3 := e'.trans b1
      have hG3 : G3 D = none := gs3.nk D _ hGd nbD hHd rfl fun j y ej m z => by
        obtain ⟨v, hv, rv⟩ := r.sl j y ej
        rw [z] at hv
        cases hv
        exact r.notslot hD j y ej m z
      refine b5 (L2.wipe σ vs) ⟨wipeD s.env vs, c'⟩ _ _ (r3.wipe vs) (hs i _ acc c' hd1 inv) fun σ4 s4 q4 r4 l4 f4 => ⟨wipe_of l4 f4 hk, ht G3 σ4 H3 s4 _ _ r4 q4 fun bb s5 G5 H5 q5 r5 eg5 gs5 => ?_⟩
      obtain ⟨he5, q5⟩ := q5
      cases bb with
      | false =>
        rw [if_neg (by decide)] at q5
        have rr := r3.back r4 r5 he5 eg5 gs5
        refine iteF ⟨G5, acc, xs, s5.c, e3.trans eg5, rr, g'.trans (gs3.trans ⟨gs5.gr, gs5.dom, fun b o h1 hb h2 hn h3 => gs5.keep r4 r5 he5 h1 hb h2 hn, fun i x e m => ⟨x, e, m⟩⟩), gs5.gr D _ nbD (b2 D _ hHd), gs5.keep r4 r5 he5 hG3 nbD (b2 D _ hHd) rfl, dpa_ex (b1.trans eg5) dacc, q5⟩
      | true =>
        rw [if_pos rfl] at q5
        refine iteT (he G5 σ4 H5 s5 _ _ r5 q5 fun v y s6 G6 H6 q6 r6 eg6 gs6 pv => ?_)
        obtain ⟨he6, hl, q6⟩ := q6
        have gs7 := gs5.trans gs6
        have rr := r3.back r4 r6 he6 (eg5.trans eg6) gs7
        have hD6 : H6 D = some (.lst xs) := gs7.gr D _ nbD (b2 D _ hHd)
        have gD6 : G6 D = none := gs7.keep r4 r6 he6 hG3 nbD (b2 D _ hHd) rfl
        have hm : ∀ b, b ≠ D → upd H6 D (.lst (xs ++ [v])) b = H6 b := fun b hb => upd_ne hb
        refine ⟨xs, hD6, sz_lt (by rw [dpa_len dacc]; exact hl), G6, acc ++ [y], xs ++ [v], s6.c, e3.trans (eg5.trans eg6), ?_, ?_, upd_same, gD6, dpa_app (dpa_ex ((b1.trans eg5).trans eg6) dacc) (.cons pv .nil), q6⟩
        · -- D is no slot's and not data
          have h0D : C.H0 D = none := r.fin.h0 hHD
          refine ⟨⟨fun b o hb => ?_, rr.fin.g0, rr.fin.nw, fun b o n hb => ?_, rr.fin.ok, rr.fin.obu (Ex.refl _) h0D (fun b o n e => by rw [hm b n]; exact e), fun l hl => ?_⟩, rr.len, fun j y ej => ?_, rr.dis⟩
          · rw [hm b (fun z => by rw [z, gD6] at hb; cases hb)]
            exact rr.fin.gh b o hb
          · rw [hm b (fun z => by rw [z, h0D] at hb; cases hb)]
            exact rr.fin.hh b o n hb
          · exact ⟨(rr.fin.bx l hl).1.updS hD6 rfl (fun z => nbD (by rw [← z]; exact hl)), (rr.fin.bx l hl).2⟩
          · obtain ⟨v', hv', rv⟩ := rr.sl j y ej
            refine ⟨v', hv', ?_⟩
            cases y with
            | d _ => exact rv
            | box => exact rv
            | ob _ => exact rv
            | obl _ => exact rv
            | own ds2 =>
              obtain ⟨p2, xs2, a1, a2, a3, a4, a5⟩ := rv
              exact ⟨p2, xs2, a1, by rw [hm p2 (fun z => r.notslot hD j _ ej rfl (by rw [hv', a1, z]))]; exact a2, a3, a4, a5⟩
            | dic ds2 =>
              obtain ⟨p2, xs2, a1, a2, a3, a4, a5⟩ := rv
              exact ⟨p2, xs2, a1, by rw [hm p2 (fun z => r.notslot hD j _ ej rfl (by rw [hv', a1, z]))]; exact a2, a3, a4, a5⟩
            | dit ds2 =>
              obtain ⟨p2, xs2, a1, a2, a3, a4, a5⟩ := rv
              exact ⟨p2, xs2, a1, by rw [hm p2 (fun z => r.notslot hD j _ ej rfl (by rw [hv', a1, z]))]; exact a2, a3, a4, a5⟩
            | oth φ => exact Oth.step (φ := φ) rv (Ex.refl G6) (Kept.upd hD6 rfl)
            | dd ds2 =>
              obtain ⟨p2, xs2, a1, a2, a5⟩ := rv
              exact ⟨p2, xs2, a1, a2.upd hD6 h0D (fun _ _ z => by cases z), a5⟩
        · have gg := g'.trans (gs3.trans (s2 := ⟨s.env, s6.c⟩) ⟨gs7.gr, gs7.dom, fun b o h1 hb h2 hn h3 => gs7.keep r4 r6 he6 h1 hb h2 hn, fun i x e m => ⟨x, e, m⟩⟩)
          refine ⟨fun b o n hb => ?_, fun b hb => ?_, gg.nk, gg.ks⟩
          · rw [hm b (fun z => by rw [z, hD] at hb; cases hb)]
            exact gg.gr b o n hb
          · by_cases z : b = D
            · rw [z, upd_same]
              exact Option.some_ne_none _
            · rw [hm b z]
              exact gg.dom b hb
    · have e : i = ds.length := by omega
      subst e
      refine .inl ⟨stop, k D xs acc ⟨s.env, c'⟩ G' H' (hd acc c' inv) r' e' g' hHD hHd hGd dacc fun j y ej m => r.notslot hD j y ej m⟩
def kD : Key → PyData
  | .inl i => .int i
  | .inr z => .str z
theorem dp_kD {K : PySem.W.Frag} {G : Hp} : ∀ k : Key, Dp K G (kV k) (kD k)
  | .inl i => .int i
  | .inr z => .str z
theorem dpa_kD {K : PySem.W.Frag} {G : Hp} : ∀ ks : List Key, DpAll K G (ks.map kV) (ks.map kD)
  | [] => .nil
  | k :: ks => .cons (dp_kD k) (dpa_kD ks)
def keyT (kv : List Key × PyData) : PyData := .tuple (kv.1.map kD)
/-- targets of a tuple that stands in the heap -/
def IGH (C : Ct) (g : TG) (ks : List Nat) (w : WG) : Prop := ∀ G σ H s q xs ds Q Q', Rel C G σ H s → H q = some (.tup xs) → DpAll C.K G xs ds → w (.tuple ds) s Q →
  (∀ σ' s', Q s' → Rel C G σ' H s' → σ'.length = σ.length → (∀ j : Nat, j ∉ ks → σ'[j]? = σ[j]?) → Q' σ' H) → g (.ref q) σ H Q'
theorem igh_tup {n : Nat} {g : TGs} {ks : List Nat} {u : WGs} (h : IGs C g ks u) : IGH C (gSeqB C.K n g) ks (wGTup n u) := fun G σ H s q xs ds Q Q' r hq hd hw k => by
  obtain ⟨hs, hl, hw⟩ := hw
  exact ⟨true, q, xs, rfl, .inl (.inl hq), by rw [dpa_len hd]; exact hl, h G σ H s xs ds Q Q' r hd hw k⟩
def noDD (env : List (Option DV)) : Bool := env.all fun x => match x with
  | some (.dd _) => false
  | _ => true
theorem noDD_at {env : List (Option DV)} (h : noDD env = true) {i : Nat} {kvs : List (List Key × PyData)} : env[i]? ≠ some (some (.dd kvs)) := fun e => by
  have := List.all_eq_true.mp h _ (List.mem_of_getElem? e)
  cases this
def wLcK (i0 : Nat) (g : WG) (tt : WT) (te : WE) (vs : List Nat) : WA := fun s Q => ∃ kvs, s.env[i0]? = some (some (.dit kvs)) ∧ noDD s.env = true ∧ ∃ Inv : Nat → List PyData → Cs → Prop, Inv 0 [] s.c ∧
  (∀ (i : Nat) d acc c, (kvs.map keyT)[i]? = some d → Inv i acc c → g d ⟨wipeD (s.env.set i0 (some (.dd kvs))) vs, c⟩ fun s2 => tt s2 fun b s3 => s3.env = s2.env ∧ if b = true then te s3 fun y s4 => s4.env = s2.env ∧ acc.length < 100000 ∧ Inv (i + 1) (acc ++ [y]) s4.c else Inv (i + 1) acc s3.c) ∧
  ∀ acc c, Inv (kvs.map keyT).length acc c → Q acc ⟨s.env, c⟩
theorem pair_at {α β : Type} {F : α → β → Prop} : ∀ {l1 : List α} {l2 : List β} {i : Nat} {b : β}, Paired F l1 l2 → l2[i]? = some b → ∃ a, l1[i]? = some a ∧ F a b
  | _, _, _, _, .nil, e => by simp at e
  | _, _, 0, _, .cons h _, e => by
    simp at e
    subst e
    exact ⟨_, rfl, h⟩
  | _, _, i + 1, _, .cons _ t, e => pair_at (i := i) t (by simpa using e)
theorem io_lcK {i0 : Nat} {g : TG} {ks vs : List Nat} {wg : WG} {tt : TT} {wt : WT} (hk : ∀ k ∈ ks, k ∈ vs) (hg : IGH C g ks wg) (ht : IT C tt wt) (he : IE C te we) : IO C (tLockE (tLc (iKeys (tVar i0)) g tt te vs)) (wLcK i0 wg wt we vs) := fun G σ H s Q Q' r q k => by
  obtain ⟨kvs, e0, nd, q⟩ := q
  obtain ⟨v, hv, p, kk, rfl, h1, h2, h3, h4⟩ := r.sl i0 _ e0
  refine ⟨p, _, h1, trivial, fun od => ?_⟩
  have nb := r.fin.nbx h2
  have rl : Rel C G σ (upd H p (.frz od (.dT kk))) (s.set i0 (.dd kvs)) := r.mutO (x' := .dd kvs) e0 rfl hv h1 (fun _ _ z => by cases z) h2 h3 ⟨p, kk, rfl, ⟨.inl ⟨od, upd_same⟩, nb⟩, h4⟩
  have hl : kk.length = kvs.length := len_pair h4
  refine ⟨_, hv, p, od, rfl, .inr ⟨kk, upd_same, ?_⟩⟩
  have fz : ∀ (G' H' : Hp) (c' : Cs), Gs C σ G (upd H p (.frz od (.dT kk))) (s.set i0 (.dd kvs)) G' H' ⟨(s.set i0 (.dd kvs)).env, c'⟩ → H' p = some (.frz od (.dT kk)) := fun G' H' c' gs => gs.gr p _ nb upd_same
  have np : ∀ (i : Nat) x, (s.set i0 (.dd kvs)).env[i]? = some (some x) → x.mut = true → σ[i]? ≠ some (some (.ref p)) := fun i x ei m hp => by
    rcases get_set ei with ⟨rfl, rfl, _⟩ | ⟨z, ei⟩
    · cases m
    · exact r.dis i0 i _ x p (Ne.symm z) e0 ei rfl m hv hp
  exact lc_core (J := Itkt p od kk) (ds := kvs.map keyT) (Q' := fun v H' => H' p = some (.frz od (.dT kk)) ∧ Q' v (upd H' p (.dT kk))) (Q := fun acc s' => ∃ c', s' = ⟨(s.set i0 (.dd kvs)).env, c'⟩ ∧ Q acc ⟨s.env, c'⟩) hk ht he rl (fun G' H' c' eg rr gs => by
    have hz := fz G' H' c' gs
    refine ⟨fun i d hd => ?_, hz, by rw [List.length_map, hl]; exact Nat.le_refl _⟩
    rw [List.getElem?_map] at hd
    cases qk : kvs[i]? with
    | none => rw [qk] at hd; cases hd
    | some kv =>
      rw [qk] at hd
      cases hd
      obtain ⟨kw, hw, ek, _⟩ := pair_at h4 qk
      refine ⟨⟨hz, (List.getElem?_eq_some_iff.mp hw).1⟩, fun x H3 y => ?_⟩
      obtain ⟨rfl, k1, v1, q1, hk1, rfl, hq1⟩ := y
      rw [hw] at hk1
      cases hk1
      refine ⟨G', Ex.refl G', Ex.refl H3, rr.fin.gh, Nw.refl G' H3, fun σ2 s2 Q2 Q2' r2 w2 k2 => ?_⟩
      refine hg G' σ2 H3 s2 q1 _ _ Q2 Q2' r2 hq1 (dpa_kD k1) ?_ k2
      have ek' : k1 = kv.1 := ek
      rw [ek']
      exact w2) (by
    obtain ⟨Inv, i0', is, ie⟩ := q
    exact ⟨Inv, i0', is, fun acc c hi => ⟨c, rfl, ie acc c hi⟩⟩) fun D xs acc s' G' H' qq r' eg gs hD hD' gD dacc nsl => by
    obtain ⟨c', rfl, qq⟩ := qq
    have hz := fz G' H' c' gs
    have hDp : D ≠ p := fun z => by rw [z, hz] at hD'; cases hD'
    have gp : G' p = none := gs.nk p _ h3 nb upd_same rfl np
    refine ⟨hz, ?_⟩
    have env0 : (s.env.set i0 (some (.dd kvs))).set i0 (some (.dit kvs)) = s.env := by
      rw [List.set_set]
      refine List.ext_getElem? fun j => ?_
      by_cases z : i0 = j
      · subst z
        rw [List.getElem?_set_self (List.getElem?_eq_some_iff.mp e0).1, e0]
      · rw [List.getElem?_set_ne z]
    have oth : ∀ (j : Nat) y, j ≠ i0 → s.env[j]? = some (some y) → (s.set i0 (.dd kvs)).env[j]? = some (some y) := fun j y z ej => by
      show (s.env.set i0 _)[j]? = _
      rw [List.getElem?_set_ne (Ne.symm z)]
      exact ej
    have hu : ∀ b, b ≠ p → upd H' p (.dT kk) b = H' b := fun b hb => upd_ne hb
    have rel : Rel C G' σ (upd H' p (.dT kk)) ⟨s.env, c'⟩ := by
      refine ⟨⟨fun b o hb => ?_, r'.fin.g0, r'.fin.nw, fun b o n hb => ?_, r'.fin.ok, r'.fin.obu (Ex.refl _) h2 (fun b o n e => by rw [hu b n]; exact e), fun l hl => ?_⟩, r.len, fun j y ej => ?_, r.dis⟩
      · rw [hu b (fun z => by rw [z, gp] at hb; cases hb)]
        exact r'.fin.gh b o hb
      · rw [hu b (fun z => by rw [z, h2] at hb; cases hb)]
        exact r'.fin.hh b o n hb
      · exact ⟨(r'.fin.bx l hl).1.updS hz rfl (fun z => nb (by rw [← z]; exact hl)), (r'.fin.bx l hl).2⟩
      · by_cases z : j = i0
        · subst z
          rw [e0] at ej
          cases ej
          exact ⟨_, hv, p, kk, rfl, upd_same, h2, gp, paired_mapP h4 fun a b q => ⟨q.1, dp_ex eg q.2⟩⟩
        · obtain ⟨v', hv', rv⟩ := r'.sl j y (oth j y z ej)
          refine ⟨v', hv', ?_⟩
          have nep : ∀ q, v' = .ref q → y.mut = true → q ≠ p := fun q hq m zz => np j y (oth j y z ej) m (by rw [hv', hq, zz])
          cases y with
          | d x => exact rv
          | box => exact rv
          | ob _ => exact rv
          | obl _ => exact rv
          | own ds2 =>
            obtain ⟨p2, xs2, a1, a2, a3, a4, a5⟩ := rv
            exact ⟨p2, xs2, a1, by rw [hu p2 (nep p2 a1 rfl)]; exact a2, a3, a4, a5⟩
          | dic ds2 =>
            obtain ⟨p2, xs2, a1, a2, a3, a4, a5⟩ := rv
            exact ⟨p2, xs2, a1, by rw [hu p2 (nep p2 a1 rfl)]; exact a2, a3, a4, a5⟩
          | dit ds2 =>
            obtain ⟨p2, xs2, a1, a2, a3, a4, a5⟩ := rv
            exact ⟨p2, xs2, a1, by rw [hu p2 (nep p2 a1 rfl)]; exact a2, a3, a4, a5⟩
          | dd ds2 => exact absurd ej (noDD_at nd)
          | oth φ => exact Oth.step (φ := φ) rv (Ex.refl G') (Kept.upd hz rfl)
    have hHD : H D = none := by rw [upd_ne hDp] at hD; exact hD
    refine k D xs acc ⟨s.env, c'⟩ G' _ qq rel eg ⟨fun b o n hb => ?_, fun b hb => ?_, fun b ob b1 bb b2 bn b3 => ?_, fun i x e m => ⟨x, e, m⟩⟩ hHD (by rw [hu D hDp]; exact hD') gD dacc fun i x ei m => ?_
    · by_cases z : b = p
      · subst z
        rw [h1] at hb
        cases hb
        exact upd_same
      · rw [hu b z]
        exact gs.gr b o n (by rw [upd_ne z]; exact hb)
    · by_cases z : b = p
      · subst z
        rw [upd_same]
        exact Option.some_ne_none _
      · rw [hu b z]
        exact gs.dom b (by rw [upd_ne z]; exact hb)
    · by_cases z : b = p
      · subst z
        exact gp
      · refine gs.nk b ob b1 bb (by rw [upd_ne z]; exact b2) bn fun i x ei m => ?_
        rcases get_set ei with ⟨rfl, rfl, _⟩ | ⟨z', ei⟩
        · cases m
        · exact b3 i x ei m
    · by_cases z : i = i0
      · subst z
        rw [hv]
        intro zz
        cases zz
        exact hDp rfl
      · exact nsl i x (oth i x z ei) m
theorem do_lcK (i0 : Nat) {elt : Expr} {ifs : List Expr} {scope : Scope} {own : List (Str × Nat)} {p2 : Pos} {g : TG} {ks : List Nat} {wg : WG} {tt : TT} {wt : WT} (hc : X.calm = true) (hN : X.N.Nodup) (ok : BlkOk X.N X.env.scope scope own)
    (hg : (∀ (s : Shared) (H : Hp) (A : Addr) (cl : List (Str × Addr)) (fp : List Addr), PG (X.blk s H scope (compEnvC scope cl A X.env) fp) tg g) ∧ IGH C g ks wg)
    (ht : (∀ (s : Shared) (H : Hp) (A : Addr) (cl : List (Str × Addr)) (fp : List Addr), PTs (X.blk s H scope (compEnvC scope cl A X.env) fp) ifs tt) ∧ IT C tt wt)
    (he : ∀ (s : Shared) (H : Hp) (A : Addr) (cl : List (Str × Addr)) (fp : List Addr), DE (X.blk s H scope (compEnvC scope cl A X.env) fp) C elt te we) (hv : PE X (.Name x p2) (tVar i0) := by exact pv _) (hk : ∀ k ∈ ks, k ∈ own.map (·.2) := by decide) (hs : ∀ z, foldedSetIterable (.Name x p2) X.env z = pure z := by intro _; rfl) :
    DO X C (.ListComp elt [⟨tg, .Name x p2, ifs, 0⟩] scope pos) (tLockE (tLc (iKeys (tVar i0)) g tt te (own.map (·.2)))) (wLcK i0 wg wt we (own.map (·.2))) :=
  ⟨pe_lock (pe_lc hc hN (pi_keys hv) ok hg.1 ht.1 (fun s H A cl fp => (he s H A cl fp).pe) hs), io_lcK hk hg.2 ht.2 (he {} (fun _ => none) 0 [] []).ie⟩
end
end Dw
namespace Dw
open PySem PySem.Spec PyProof.Rows L2 OgR Evl
def hdD : PyData → PyData
  | .tuple (a :: b :: _) => .tuple [a, b]
  | d => d
/-- (int, text) or (int, text, something flat) -/
def RowD (d : PyData) : Prop := ∃ i z r, d = .tuple (.int i :: .str z :: r) ∧ PySem.W.alikeAll r r = true ∧ PyData.depthAll r = 0
structure RowsOk (ds : List PyData) : Prop where
  row : ∀ d ∈ ds, RowD d
  uni : ∀ d ∈ ds, ∀ e ∈ ds, hdD d = hdD e → d = e
def hdLe (a b : PyData) : Bool := !PySem.W.dataLt (hdD b) (hdD a)
theorem row_uni {h : Heap} {v : Value} {d e : PyData} {as bs : List Addr} (hd : RowD d) (he : RowD e) (ra : Reads h v d as) (rb : Reads h v e bs) : hdD d = hdD e := by
  obtain ⟨i, z, r, rfl, _⟩ := hd
  obtain ⟨j, y, q, rfl, _⟩ := he
  cases ra with
  | @tuple a o vs n _ _ h1 h2 h3 h4 =>
    cases rb with
    | @tuple a' o' vs' n' _ _ k1 k2 k3 k4 =>
      rw [h1] at k1
      cases k1
      rw [h3] at k3
      injection k3 with e1 e2
      subst e1
      generalize vs.toList = l at h4 k4
      cases h4 with
      | cons r1 h4 =>
        cases k4 with
        | cons r1' k4 =>
          cases h4 with
          | cons r2 h4 =>
            cases k4 with
            | cons r2' k4 =>
              cases r1
              cases r1'
              cases r2
              cases r2'
              rfl
def RdIn (h : Heap) (ds : List PyData) (v : Value) (d : PyData) : Prop := d ∈ ds ∧ ∃ as, Reads h v d as
noncomputable def rowKind (h : Heap) (ds : List PyData) : PyProof.Rows.KeyKind where
  toKeyOrd := listOrd itemOrd
  keyOf v := open Classical in if w : ∃ d, RdIn h ds v d then some (PySem.W.keyToks (hdD w.choose)) else none
  dflt := List.nil
theorem row_key {h : Heap} {ds : List PyData} {v : Value} (w : ∃ d, RdIn h ds v d) : (rowKind h ds).keyOf v = some (PySem.W.keyToks (hdD w.choose)) := dif_pos w
theorem row_nokey {h : Heap} {ds : List PyData} {v : Value} (w : ¬ ∃ d, RdIn h ds v d) : (rowKind h ds).keyOf v = none := dif_neg w
theorem rowKind_some {h : Heap} {ds : List PyData} (ok : RowsOk ds) {v : Value} {d : PyData} {as : List Addr} (hd : d ∈ ds) (r : Reads h v d as) : (rowKind h ds).keyOf v = some (PySem.W.keyToks (hdD d)) := by
  have w : ∃ d, RdIn h ds v d := ⟨d, hd, as, r⟩
  obtain ⟨c1, c2, c3⟩ := w.choose_spec
  rw [row_key w, row_uni (ok.row _ c1) (ok.row _ hd) c3 r]
theorem rowKind_inv {h : Heap} {ds : List PyData} {v : Value} {k : List (Int ⊕ List Nat)} (e : (rowKind h ds).keyOf v = some k) : ∃ d as, d ∈ ds ∧ Reads h v d as ∧ k = PySem.W.keyToks (hdD d) := by
  by_cases w : ∃ d, RdIn h ds v d
  · rw [row_key w] at e
    obtain ⟨c1, c2, c3⟩ := w.choose_spec
    exact ⟨_, c2, c1, c3, (Option.some.inj e).symm⟩
  · rw [row_nokey w] at e
    cases e
section
variable {prog : Program} {w : World} {A : Around} {s : Shared}
/-- two such tuples compared as sorting does -/
theorem row_lex {fin : Bool} {Q : Bool → Shared → Prop} {i j : Int} {z y : Str} {r q : List PyData} {vs ws : List Value} {as bs : List Addr} (ra : ReadsAll s.heap vs (.int i :: .str z :: r) as) (rb : ReadsAll s.heap ws (.int j :: .str y :: q) bs)
    (same : i = j → z = y → r = q) (hr : PySem.W.alikeAll r r = true) (hdp : PyData.depthAll r = 0) (hu : A.units < cLine) (hf : fin = decide ((PyData.int i :: .str z :: r).length < (PyData.int j :: .str y :: q).length))
    (hq : Q (PySem.W.dataLt (.tuple [.int i, .str z]) (.tuple [.int j, .str y])) s) : PySem.W.KatLex prog w A true fin Q (vs.zip ws) 0 s := by
  have al1 : PySem.W.alike (.int i) (.int j) = true := rfl
  have al2 : PySem.W.alike (.str z) (.str y) = true := rfl
  have u0 : ∀ x : PyData, x.depth = 0 → ∀ x' : PyData, A.units + min x.depth x'.depth < cLine := fun x h x' => by
    rw [h, Nat.zero_min]
    exact hu
  rw [PySem.W.dataLt_tuple] at hq
  cases ra with
  | cons r1 ra =>
    cases rb with
    | cons r1' rb =>
      cases ra with
      | cons r2 ra =>
        cases rb with
        | cons r2' rb =>
          rw [List.zip_cons_cons, List.zip_cons_cons]
          refine PySem.W.kat_cons (PySem.W.eqAt_alike _ _ A s _ _ _ _ r1 r1' al1 (u0 _ rfl _) prog w _ _ ?_)
          cases e1 : PyData.eqv (.int i) (.int j) with
          | false =>
            rw [PySem.W.dataLt_all_no al1 e1] at hq
            exact PySem.W.kat_no (PySem.W.oneLt_alike (by intro _ t e; cases e) r1 r1' al1 (by intro e; cases e) (u0 _ rfl _) hq)
          | true =>
            rw [PySem.W.dataLt_all_yes al1 e1] at hq
            refine PySem.W.kat_yes (PySem.W.kat_cons (PySem.W.eqAt_alike _ _ A s _ _ _ _ r2 r2' al2 (u0 _ rfl _) prog w _ _ ?_))
            cases e2 : PyData.eqv (.str z) (.str y) with
            | false =>
              rw [PySem.W.dataLt_all_no al2 e2] at hq
              exact PySem.W.kat_no (PySem.W.oneLt_alike (by intro _ t e; cases e) r2 r2' al2 (by intro e; cases e) (u0 _ rfl _) hq)
            | true =>
              rw [PySem.W.dataLt_all_yes al2 e2] at hq
              have ei : i = j := by simpa [PyData.eqv] using e1
              have ez : z = y := by simpa [PyData.eqv] using e2
              have er := same ei ez
              subst er
              refine PySem.W.kat_yes (PySem.W.katLex_alike r r 2 _ _ _ _ ra rb hr (by rw [hdp, Nat.zero_min]; exact hu) (fun _ h => absurd h (by decide)) ?_ ?_)
              · rw [hf]
                simp
              · have e3 : PyProof.Rows.lexLt itemOrd (PySem.W.keyToksAll r) (PySem.W.keyToksAll r) = PyProof.Rows.lexLt itemOrd (PySem.W.keyToksAll []) (PySem.W.keyToksAll []) := by rw [lex_irrefl, lex_irrefl]
                rw [e3]
                exact hq
theorem row_dt {d : PyData} (h : RowD d) : ∃ x r, d = .tuple (x :: r) ∧ PySem.W.dataType x = .type "int" := by
  obtain ⟨i, z, r, rfl, _⟩ := h
  exact ⟨_, _, rfl, rfl⟩
theorem row_sorts {vs : List Value} {ds : List PyData} (e : PySem.W.EachIs (fun v d => ∃ as, Reads s.heap v d as) vs ds) (ok : RowsOk ds) (hu : A.units < cLine) : PySem.W.SortsAt prog w A s (rowKind s.heap ds) vs := by
  refine ⟨fun v hv => ?_, tuples' true, ?_, fun h2 E Q hq => ?_⟩
  · obtain ⟨d, hd, as, r⟩ := e.left v hv
    exact ⟨_, rowKind_some ok hd r⟩
  · intro E x y a b Q ha hb hq
    obtain ⟨d, as, hd, ra, rfl⟩ := rowKind_inv ha
    obtain ⟨d', as', hd', rb, rfl⟩ := rowKind_inv hb
    obtain ⟨i, z, r, e1, al, dp⟩ := ok.row d hd
    obtain ⟨j, y, q, e2, _, _⟩ := ok.row d' hd'
    have un : i = j → z = y → r = q := fun h1 h2 => by
      have := ok.uni d hd d' hd' (by rw [e1, e2, h1, h2]; rfl)
      rw [e1, e2] at this
      injection this with this
      simp only [List.cons.injEq] at this
      exact this.2.2
    subst e1 e2
    cases ra with
    | @tuple l o xs n _ _ h1 h2 h3 h4 =>
      cases rb with
      | @tuple l' o' xs' n' _ _ k1 k2 k3 k4 =>
        have n1 : xs.size = (PyData.int i :: .str z :: r).length := by simpa using SeqAt.ReadsAll.length _ _ _ h4
        have n2 : xs'.size = (PyData.int j :: .str y :: q).length := by simpa using SeqAt.ReadsAll.length _ _ _ k4
        exact PySem.W.kat_lt h1 h3 k1 k3 (row_lex h4 k4 un al dp hu (by rw [n1, n2]) hq)
  · have ht : ∀ d, d ∈ ds → ∃ x r, d = PyData.tuple (x :: r) := fun d hd => by
      obtain ⟨x, r, e, _⟩ := row_dt (ok.row d hd)
      exact ⟨x, r, e⟩
    obtain ⟨fs, t1, t2, t3⟩ := PySem.W.each_katTups e ht
    refine PySem.W.kat_kind (T := .type "int") t1 (by omega) (fun f hf => ?_) (beq_self_eq_true _) hq
    obtain ⟨x, r, as, m1, m2⟩ := t3 f hf
    obtain ⟨x2, r2, e3, e4⟩ := row_dt (ok.row _ m1)
    cases e3
    rw [← e4]
    exact PySem.W.looks_reads m2
end
theorem each_of {K : PySem.W.Frag} {H : Hp} {P : V → PyData → Prop} : ∀ {xs : List V} {us : List Value} {ds : List PyData}, Vals xs us → DpAll K H xs ds → (∀ (j : Nat) x d, xs[j]? = some x → ds[j]? = some d → P x d) → PySem.W.EachIs (fun u d => ∃ x, RelV x u ∧ P x d) us ds
  | _, _, _, .nil, .nil, _ => .nil
  | _, _, _, .cons r rs, .cons p ps, h => .cons ⟨_, r, h 0 _ _ rfl rfl⟩ (each_of rs ps fun j x d e1 e2 => h (j + 1) x d (by simpa using e1) (by simpa using e2))
theorem each_back {P : V → PyData → Prop} : ∀ {us : List Value} {ds : List PyData}, PySem.W.EachIs (fun u d => ∃ x, RelV x u ∧ P x d) us ds → ∃ ys : List V, Vals ys us ∧ Paired P ys ds
  | _, _, .nil => ⟨[], .nil, .nil⟩
  | _, _, .cons ⟨x, r, p⟩ t => by
    obtain ⟨ys, h1, h2⟩ := each_back t
    exact ⟨x :: ys, .cons r h1, .cons p h2⟩
theorem pair_dpa {K : PySem.W.Frag} {G : Hp} {P : V → PyData → Prop} (h : ∀ x d, P x d → Dp K G x d) : ∀ {ys : List V} {ds : List PyData}, Paired P ys ds → DpAll K G ys ds
  | _, _, .nil => .nil
  | _, _, .cons p t => .cons (h _ _ p) (pair_dpa h t)
def srtR (ds : List PyData) : List PyData := ds.mergeSort hdLe
section
variable {prog : Program} {w : World} {A : Around} {E : Value → Shared → Prop} {s : Shared} {κ : PyProof.Rows.KeyKind}
/-- sorted(t), t a tuple -/
theorem sorted_tupV {l : Addr} {vs : List Value} {Q : Value → Shared → Prop} (ht : IsTup s.heap l vs.toArray) (S : PySem.W.SortsAt prog w A.in1.in1 { s with heap := PySem.W.sortingHeap (PySem.W.copyHeap s.heap vs) (s.heap.objs.size + 1) vs } κ vs) (hL : vs.length ≤ sizeLine)
    (h : Q (.ref (s.heap.objs.size + 1)) { s with heap := sortedAll s.heap vs (PySem.W.sortVals κ false vs vs).toArray }) : wpAny (model prog w) A (call (.builtin "sorted") [.ref l]) Q E s := by
  obtain ⟨o, ho, hc, n, hd⟩ := ht
  refine Calls.call_function_entry kind_sorted plain_sorted entry_sorted (args_sorted1 _) ?_
  unfold Builtin.«sorted»
  refine wpAny_bind (m := checkCount "sorted" 1 1 _) (wpAny_pure ?_)
  refine wpAny_bind (gather_tup ho hc hd (by simpa using hL) ?_)
  rw [List.toList_toArray]
  have hsz : ((s.heap.push (seqObj "list" #[] 0)).update s.heap.objs.size (Obj.mapSeq (· ++ vs.toArray))).objs.size = s.heap.objs.size + 1 := by
    rw [Heap.size_update, size_push']
  refine wpAny_bind (wpAny_newList ?_ hL)
  show wpAny _ _ _ _ _ { s with heap := PySem.W.copyHeap s.heap vs }
  rw [hsz]
  refine wpAny_bind (wpAny_holding (wpAny_call_entry slot_list_sort ⟨_, PySem.W.copyHeap_at s.heap vs, rfl⟩ entry_list_sort (PySem.W.list_sort_vals (s := { s with heap := PySem.W.copyHeap s.heap vs }) (PySem.W.copyHeap_at s.heap vs) S hL ⟨_, rfl, wpAny_pure ⟨_, rfl, h⟩⟩) (args_list_sort _)))
end
def rSrtR (K : PySem.W.Frag) : List V → Hp → VK → Prop := fun vs H Q => ∃ (b : Bool) (a : Addr) (xs : List V) (ds : List PyData), vs = [.ref a] ∧ SqB K b H a xs ∧ DpAll K H xs ds ∧ RowsOk ds ∧ ∀ ys p, (∀ G, DpAll K G xs ds → DpAll K G ys (srtR ds)) → H p = none → Q (.ref p) (upd H p (.lst ys))
theorem cr_srtR {X : Cx} (hu : X.A.units + 64 < cLine) : CallR X (.builtin "sorted") (rSrtR X.K) := by
  intro pins s σ H vs us Q I r h
  obtain ⟨bb, a, xs, ds, rfl, hs, hd, ok, q⟩ := h
  have go : ∃ its : List Value, Vals xs its ∧ xs.length ≤ sizeLine ∧ ∀ {κ : PyProof.Rows.KeyKind} {Q : Value → Shared → Prop}, PySem.W.SortsAt X.prog X.w X.A.in1.in1 { s with heap := PySem.W.sortingHeap (PySem.W.copyHeap s.heap its) (s.heap.objs.size + 1) its } κ its → its.length ≤ sizeLine →
      Q (.ref (s.heap.objs.size + 1)) { s with heap := sortedAll s.heap its (PySem.W.sortVals κ false its its).toArray } → wpAny (model X.prog X.w) X.A (call (.builtin "sorted") [.ref a]) Q X.xe s := by
    cases bb with
    | true =>
      obtain ⟨its, rv, pt, hz⟩ := I.tuple hs
      exact ⟨its, rv, hz, fun S hL h => sorted_tupV pt S hL h⟩
    | false =>
      obtain ⟨its, rv, pt, hz⟩ := I.list hs
      exact ⟨its, rv, hz, fun S hL h => PySem.W.sorted_vals pt.isList S hL h⟩
  obtain ⟨its, rv, hz, run⟩ := go
  rw [Vals.ref1 r]
  have er : PySem.W.EachIs (fun u d => ∃ as, Reads s.heap u d as) its ds := (each_of (P := fun x d => Dp X.K H x d) rv hd fun j x d e1 e2 => by
    obtain ⟨d', e3, p⟩ := dpa_get hd e1
    rw [e2] at e3
    cases e3
    exact p).mono fun u d ⟨x, rx, px⟩ => Dp.reads I d x u px rx
  have ee : PySem.W.EachIs (fun u d => ∃ x, RelV x u ∧ ∀ G, DpAll X.K G xs ds → Dp X.K G x d) its ds := each_of rv hd fun j x d e1 e2 G hG => by
    obtain ⟨d', e3, p⟩ := dpa_get hG e1
    rw [e2] at e3
    cases e3
    exact p
  have er2 : PySem.W.EachIs (fun u d => ∃ as, Reads (PySem.W.sortingHeap (PySem.W.copyHeap s.heap its) (s.heap.objs.size + 1) its) u d as) its ds := er.mono fun _ _ w => ⟨w.choose, PyProof.Rows.Reads.keeps (fun _ _ => PySem.W.sorting_copy_old) w.choose_spec⟩
  have hk : PySem.W.EachIs (fun u d => (rowKind (PySem.W.sortingHeap (PySem.W.copyHeap s.heap its) (s.heap.objs.size + 1) its) ds).keyOf u = some (PySem.W.keyToks (hdD d))) its ds := (PySem.W.each_mem er2).mono fun _ _ w => rowKind_some ok w.2 w.1.choose_spec
  have hl : its.length = ds.length := er.length
  refine run (κ := rowKind (PySem.W.sortingHeap (PySem.W.copyHeap s.heap its) (s.heap.objs.size + 1) its) ds) (row_sorts (s := { s with heap := PySem.W.sortingHeap (PySem.W.copyHeap s.heap its) (s.heap.objs.size + 1) its }) er2 ok ?_) (by rw [← rv.length]; exact hz) ?_
  · show X.A.units + 1 + 1 < cLine
    omega
  · have es := PySem.W.sortVals_each (rev := false) (κ := rowKind (PySem.W.sortingHeap (PySem.W.copyHeap s.heap its) (s.heap.objs.size + 1) its) ds) (fun d => PySem.W.keyToks (hdD d)) ee hk
    obtain ⟨ys, y1, y2⟩ := each_back es
    obtain ⟨n, hn⟩ := sortedAll_at s.heap its (PySem.W.sortVals (rowKind (PySem.W.sortingHeap (PySem.W.copyHeap s.heap its) (s.heap.objs.size + 1) its) ds) false its its).toArray
    refine ⟨.ref (s.heap.objs.size + 1), upd H (s.heap.objs.size + 1) (.lst ys), I.laid (t' := s.toks) (fun _ _ => sortedAll_old) (Nat.le_succ _) ⟨?_, _, n, y1, ?_⟩, rfl, q ys _ (fun G hG => pair_dpa (fun x d p => p G hG) y2) (I.hok.fresh (Nat.le_succ _))⟩
    · have z1 := y1.length
      have z2 := es.length
      rw [z1, z2, List.length_mergeSort, ← hl, ← rv.length]
      exact hz
    · exact hn
section
variable {X : Cx} {C : Ct} {a b e : Expr} {pos p : Pos} {t ta tb : TE} {w wa wb : WE}
def gSrtR : PyData → Dt → (List PyData → Dt → Prop) → Prop := fun d s Q => seqd d = true ∧ RowsOk (its d) ∧ Q (srtR (its d)) s
theorem r1_srtR : R1O C (rSrtR C.K) gSrtR := ⟨fun G σ H s x d Q Q' r pk q k => by
  obtain ⟨hs, ok, q⟩ := q
  obtain ⟨p, xs, rfl, h1, h2⟩ := pk.seq r.fin.gh hs
  exact ⟨isT d, p, xs, its d, rfl, h1, dpa_ex r.fin.gh h2, ok, fun ys l hy hl => k ys _ l q (hy G h2) hl⟩⟩
theorem do_srtR (hK : X.K = C.K) (hu : X.A.units + 64 < cLine) (hg : Gl X "sorted") (hm : X.mg "sorted" = none) (ha : DP X C a ta wa) (hs : starEach [a] X.env = (false, eval a X.env) :: starEach [] X.env := by rfl) :
    DO X C (.Call (.Name "sorted" p) [a] [] pos) (tCB (rSrtR C.K) (tCons ta tNil)) (w1O gSrtR wa) := do_b1 (hK ▸ cr_srtR hu) r1_srtR hg hm (by decide +kernel) ha (by decide) (by decide) hs
theorem srtR_perm (ds : List PyData) : (srtR ds).Perm ds := List.mergeSort_perm ds hdLe
/-- d < e, tuples of an int and a text -/
def PairD (d : PyData) : Prop := ∃ i z, d = .tuple [.int i, .str z]
def rLtP (K : PySem.W.Frag) : R2 := fun x y H Q => ∃ d e, Dp K H x d ∧ Dp K H y e ∧ PairD d ∧ PairD e ∧ Q (.bl (PySem.W.dataLt d e)) H
theorem op_ltP (hu : X.A.units + 64 < cLine) : OpR X (compareOp .Lt) (rLtP X.K) := by
  intro pins s σ H x y v u Q I rx ry h
  obtain ⟨d, e, hd, he, ⟨i, z, rfl⟩, ⟨j, q, rfl⟩, k⟩ := h
  obtain ⟨as, r1⟩ := Dp.reads I _ x v hd rx
  obtain ⟨bs, r2⟩ := Dp.reads I _ y u he ry
  exact PySem.W.lt_data r1 r2 rfl (by intro z; cases z) (by simp [PyData.depth, PyData.depthAll]; omega) ⟨.bl _, H, I, rfl, k⟩
def gLtP : G2 := fun d e s Q => PairD d ∧ PairD e ∧ Q (.bool (PySem.W.dataLt d e)) s
theorem o_ltP (hK : X.K = C.K) (hu : X.A.units + 64 < cLine) : OpD X C (compareOp .Lt) (rLtP C.K) gLtP := ⟨hK ▸ op_ltP hu, ⟨fun G σ H s x y d e Q Q' r p1 p2 q k => ⟨d, e, p1.dp r.fin.gh, p2.dp r.fin.gh, q.1, q.2.1, k _ _ s G H q.2.2 r (Ex.refl G) Gs.refl (.bl _)⟩⟩⟩
end
end Dw
namespace Gx
open PySem PySem.Spec PyProof.Rows L2
structure XC (K : PySem.W.Frag) (C : Addr) (B newId initId : String) (bmB : List Value) : Prop where
  fb : ExcBaseFacts B newId initId bmB
  sf : StoreFacts B bmB "object.__setattr__" "object"
  ini : PySem.W.excInitIn K C bmB newId = true
  ovr : PySem.W.excOver K C bmB = true
  dct : PySem.W.hasDictIn K C = true
  sa : PySem.W.findIn K (.ref C) "__setattr__" = some (some (.builtin "object.__setattr__"))
  ga : PySem.W.findIn K (.ref C) "__getattribute__" = some (some (.builtin "BaseException.__getattribute__"))
  gg : PySem.W.findIn K (.ref C) "__getattr__" = some none
  sub : PySem.W.subIn K (.ref C) (.type "BaseException") = some true
  cls : PySem.W.findIn K (.ref C) "__class__" = some (some (.builtin "object.__class__"))
  kp : PySem.W.keepIn K (.ref C) = true
  cin : (PySem.W.clsIn K C).isSome = true
  mro : PySem.W.mroIn K C (.type "object") = some true
  spc : PySem.W.specialIn K (.builtin "object.__class__") "__get__" = some (some (.builtin "getset_descriptor.__get__"))
  tks : PySem.W.takesIn K (.builtin "object.__class__") = some true
end Gx
namespace PySem.GxK
open PySem.W PySem.Calls PyProof.Rows
end PySem.GxK
namespace Gx
open PySem PySem.Spec PyProof.Rows L2
def XCx (K : PySem.W.Frag) (C : Addr) : Prop := ∃ B n i bm, XC K C B n i bm
/-- at a: an exception of the class at C, with the fields fs -/
def XAt (H : Hp) (a C : Addr) (fs : List (Str × V)) : Prop := ∃ d, H a = some (exo a C (some d)) ∧ H d = some (exd d fs)
theorem XAt.mono {H H' : Hp} {a C : Addr} {fs : List (Str × V)} (h : XAt H a C fs) (e : ∀ b o, H b = some o → H' b = some o) : XAt H' a C fs := by
  obtain ⟨d, h1, h2⟩ := h
  exact ⟨d, e _ _ h1, e _ _ h2⟩
end Gx
namespace Gx
open PySem PySem.Spec PyProof.Rows L2
/-- at a: an exception of the class cls, its dict at d -/
def exg (a : Addr) (cls : Value) (d : Option Addr) : HO := .ext fun h => ∃ (oe : Obj) (vs : Array Value), h.get? a = some oe ∧ Zc cls d oe ∧ oe.data = .fields vs
end Gx
namespace Dw
open PySem PySem.Spec PyProof.Rows L2 OgR Evl Gx
section
variable {X : Cx} {C : Ct} {a b e : Expr} {es : List Expr} {pos p p2 : Pos} {t ta tb te : TE} {w wa wb we : WE} {tA : TA} {wA : WA} {lo hi : Option Expr} {tl th : TO} {wl wh : WO}
def cutSq (d : PyData) (lo hi : Option Int) : PyData := match d with
  | .tuple ds => .tuple (cutD ds lo hi)
  | .list ds => .list (cutD ds lo hi)
  | d => d
def wSlB (wa : WE) (wl wh : WO) : WE := fun s Q => wa s fun d s1 => wl s1 fun l s2 => wh s2 fun h s3 => seqd d = true ∧ Q (cutSq d l h) s3
def wStar (w : WE) (wr : WA) : WA := fun s Q => w s fun d s1 => seqd d = true ∧ wr s1 fun ds s2 => Q (its d ++ ds) s2
end
inductive Oc where
  | ok (d : PyData)
  | ex (nm fld : Str) (d : PyData)
abbrev FX := List PyData → (Oc → Prop) → Prop
/-- which data a field takes -/
def okF (tup : Bool) (d : PyData) : Bool := !tup || isT d
section
variable {X : Cx} {C : Ct} {e : Expr} {p pos pos' : Pos} {te : TE} {we : WE} {x fld : Str} {tup : Bool} {Cc : Addr} {R : Oc → Prop} {E : XK}
/-- raise C(e) -/
def wRaise (R : Oc → Prop) (x fld : Str) (tup : Bool) (we : WE) : WS := fun _ s => we s fun d _ => okF tup d = true ∧ R (.ex x fld d)
end
abbrev WY := Dt → (PyData → Dt → Prop) → (Str → Str → PyData → Dt → Prop) → Prop
section
variable {X : Cx} {C : Ct} {a b c e : Expr} {pos p : Pos} {ta tb : L2.WX → TE} {wa wb : WY} {tc : TT} {wc : WT} {x : Str} {st : Stmt} {ps : List Str} {k : Nat}
def wNmX (F : FX) (n : Nat) (π : List Nat) (wA : WA) : WY := fun s Q QX => wA s fun ds s1 => ds.length = n ∧ F (perm π ds) fun o => match o with
  | .ok d => Q d s1
  | .ex nm fld d => QX nm fld d s1
end
/-- a caught exception in a slot -/
def xcV (K : PySem.W.Frag) (mg : Str → Option Value) (bx : Bx) (nm fld : Str) (d : PyData) : Hp → Hp → V → Prop := fun G H v => ∃ (a Cc dx : Addr) (u : V), v = .ref a ∧ mg nm = some (.ref Cc) ∧ ¬ bx.has a ∧ ¬ bx.has dx ∧ H a = some (exg a (.ref Cc) (some dx)) ∧ H dx = some (.xd [(fld, u)]) ∧ Dp K G u d
end Dw
namespace Gx
open PySem PySem.Spec PyProof.Rows L2
end Gx
namespace Dw
open PySem PySem.Spec PyProof.Rows L2 OgR Evl Gx
section
variable {X : Cx} {C : Ct} {c c' : Expr} {pos p p2 : Pos} {x n : Str} {cV cV' : V} {cv cv' : Value}
/-- what is known of a class by its name -/
def KitN (K : PySem.W.Frag) (mg : Str → Option Value) (nm : Str) (cvs : List Value) (b : Bool) : Prop := ∀ Cc, mg nm = some (.ref Cc) → XCx K Cc ∧ PySem.W.kitAny K (.ref Cc) cvs = some b
def FldN (K : PySem.W.Frag) (mg : Str → Option Value) (nm fld : Str) : Prop := ∀ Cc, mg nm = some (.ref Cc) → XCx K Cc ∧ PySem.W.findIn K (.ref Cc) fld = some none
def wXat (K : PySem.W.Frag) (mg : Str → Option Value) (bx : Bx) (i : Nat) (n : Str) : WE := fun s Q => ∃ nm d, s.env[i]? = some (some (.oth (xcV K mg bx nm n d))) ∧ FldN K mg nm n ∧ Q d s
def wXis (K : PySem.W.Frag) (mg : Str → Option Value) (bx : Bx) (i : Nat) (cvs : List Value) : WE := fun s Q => ∃ nm fld d b, s.env[i]? = some (some (.oth (xcV K mg bx nm fld d))) ∧ KitN K mg nm cvs b ∧ Q (.bool b) s
end
end Dw
namespace Dw
open PySem PySem.Spec PyProof.Rows L2 OgR Evl Gx
section
variable {X : Cx} {C : Ct} {a b e tg : Expr} {es : List Expr} {pos p : Pos} {te : TE} {we : WE} {x : Str}
theorem do_lcKT (i0 : Nat) {elt : Expr} {ifs : List Expr} {scope : Scope} {own : List (Str × Nat)} {p2 tpos : Pos} {kk n : Nat} {g : TGs} {ks : List Nat} {wg : WGs} {tt : TT} {wt : WT} (hK : X.K = C.K) (hc : X.calm = true) (hN : X.N.Nodup) (ok : BlkOk X.N X.env.scope scope own)
    (hg : ∀ (s : Shared) (H : Hp) (A : Addr) (cl : List (Str × Addr)) (fp : List Addr), DGs (X.blk s H scope (compEnvC scope cl A X.env) fp) C es g ks wg)
    (ht : (∀ (s : Shared) (H : Hp) (A : Addr) (cl : List (Str × Addr)) (fp : List Addr), PTs (X.blk s H scope (compEnvC scope cl A X.env) fp) ifs tt) ∧ IT C tt wt)
    (he : ∀ (s : Shared) (H : Hp) (A : Addr) (cl : List (Str × Addr)) (fp : List Addr), DE (X.blk s H scope (compEnvC scope cl A X.env) fp) C elt te we) (hv : PE X (.Name x p2) (tVar i0) := by exact pv _) (hk : ∀ k ∈ ks, k ∈ own.map (·.2) := by decide) (hs : ∀ z, foldedSetIterable (.Name x p2) X.env z = pure z := by intro _; rfl)
    (hn : ∀ (s : Shared) (H : Hp) (A : Addr) (cl : List (Str × Addr)) (fp : List Addr), (assignEach es (X.blk s H scope (compEnvC scope cl A X.env) fp).env).length = n := by intros; rfl) (hst : ∀ (s : Shared) (H : Hp) (A : Addr) (cl : List (Str × Addr)) (fp : List Addr), (assignEach es (X.blk s H scope (compEnvC scope cl A X.env) fp).env).findIdx? (·.1) = none := by intros; rfl) :
    DO X C (.ListComp elt [⟨.Tuple es kk tpos, .Name x p2, ifs, 0⟩] scope pos) (tLockE (tLc (iKeys (tVar i0)) (gSeqB C.K n g) tt te (own.map (·.2)))) (wLcK i0 (wGTup n wg) wt we (own.map (·.2))) :=
  do_lcK i0 hc hN ok ⟨fun s H A cl fp => (dg_tup (X := X.blk s H scope (compEnvC scope cl A X.env) fp) hK hc (hg s H A cl fp) (hn s H A cl fp) (hst s H A cl fp)).pg, igh_tup (hg {} (fun _ => none) 0 [] []).ig⟩ ht he hv hk hs
end
section
variable {X : Cx} {C : Ct}
/-- == of texts -/
def gEqS : G2 := fun d e s Q => ∃ x y, d = .str x ∧ e = .str y ∧ Q (.bool (decide (x = y))) s
end
end Dw
namespace Dw
open PySem PySem.Spec PyProof.Rows L2 OgR Evl
theorem fnG_ok {P : Program} {w : World} {K : PySem.W.Frag} {mg : Str → Option Value} {base : Heap} {k : Nat} {f : Addr} {fd : FuncData} {ps : List Str} {sp : Sp} (F : FnOk P w K mg base CX0 k f fd ps sp) : FnG P w K mg base k f fd ps sp :=
  ⟨F.len, fun A outer s H args us vs Q E _ hr => F.run A outer s H args us vs Q E hr⟩
/-- what is new becomes data -/
def nwG (G H H' : Hp) : Hp := fun b => match H b with
  | none => H' b
  | some _ => G b
section
variable {G H H' : Hp}
theorem nwG_at {b : Addr} (h : H b = none) : nwG G H H' b = H' b := by
  unfold nwG
  rw [h]
theorem nwG_old {b : Addr} {o : HO} (h : H b = some o) : nwG G H H' b = G b := by
  unfold nwG
  rw [h]
theorem nwG_up (gh : Ex G H) : Ex G (nwG G H H') := fun b o e => by
  rw [nwG_old (gh b o e)]
  exact e
theorem nwG_in (gh : Ex G H) (eh : Ex H H') : Ex (nwG G H H') H' := fun b o e => by
  cases q : H b with
  | none => rw [nwG_at q] at e; exact e
  | some u => rw [nwG_old q] at e; exact eh b o (gh b o e)
theorem nwG_nw : Nw G (nwG G H H') H := fun b hb => by
  cases q : H b with
  | none => exact .inr (.inl rfl)
  | some u => rw [nwG_old q] at hb; exact .inl hb
end
theorem dpa_one {K : PySem.W.Frag} {G : Hp} {vs : List V} {d : PyData} (h : DpAll K G vs [d]) : ∃ v, vs = [v] ∧ Dp K G v d := by
  cases h with
  | cons a b => cases b; exact ⟨_, rfl, a⟩
theorem dp_sq {K : PySem.W.Frag} {G : Hp} {v : V} {d : PyData} (h : Dp K G v d) (hs : seqd d = true) : ∃ p xs, v = .ref p ∧ SqB K (isT d) G p xs ∧ DpAll K G xs (its d) := by
  cases h with
  | lst h t => exact ⟨_, _, rfl, .inl (.inl h), t⟩
  | tup h t => exact ⟨_, _, rfl, h, t⟩
  | _ => cases hs
/-- a row of ints, given as a tuple or a list -/
def IsR (d : PyData) (ns : List Int) : Prop := d = .tuple (ns.map .int) ∨ d = .list (ns.map .int)
theorem IsR.sq {d : PyData} {ns : List Int} (h : IsR d ns) : seqd d = true ∧ its d = ns.map .int := by
  rcases h with rfl | rfl <;> exact ⟨rfl, rfl⟩
theorem dp_row {K : PySem.W.Frag} {G H : Hp} {v : V} {d : PyData} {ns : List Int} (gh : Ex G H) (h : Dp K G v d) (r : IsR d ns) : ∃ b p, v = .ref p ∧ SqB K b H p (ns.map V.int) := by
  obtain ⟨p, xs, rfl, h1, h2⟩ := dp_sq h r.sq.1
  rw [r.sq.2] at h2
  rw [ints_dpa h2] at h1
  exact ⟨_, p, rfl, h1.ex gh⟩
end Dw
namespace Dw
open PySem PySem.Spec PyProof.Rows L2 OgR Evl
def ForD (ds : List PyData) (g : WG) (wb : WS) (DD : DEnds) (s1 : Dt) : Prop := ∃ Inv : Nat → Dt → Prop, Inv 0 s1 ∧
  (∀ (i : Nat) d s2, ds[i]? = some d → Inv i s2 → g d s2 fun s3 => wb { nx := Inv (i + 1), rt := DD.rt, bk := DD.nx, ct := Inv (i + 1) } s3) ∧ ∀ s2, Inv ds.length s2 → DD.nx s2
theorem wFor_eq {w : WA} {g : WG} {wb : WS} {DD : DEnds} {s : Dt} : wFor w g wb DD s = w s fun ds s1 => ForD ds g wb DD s1 := rfl
theorem forD_by {ds : List PyData} {g : WG} {wb : WS} {DD : DEnds} {s1 : Dt} (Inv : Nat → Dt → Prop) (h0 : Inv 0 s1)
    (hs : ∀ (i : Nat) d s2 (J : Dt → Prop), ds[i]? = some d → Inv i s2 → (∀ s, Inv (i + 1) s → J s) → g d s2 fun s3 => wb { nx := J, rt := DD.rt, bk := DD.nx, ct := J } s3) (hd : ∀ s2, Inv ds.length s2 → DD.nx s2) : ForD ds g wb DD s1 :=
  for_by Inv h0 hs hd
def WhileD (c : WT) (wb : WS) (DD : DEnds) (s : Dt) : Prop := wWhile c wb DD s
theorem wWhile_eq {c : WT} {wb : WS} {DD : DEnds} {s : Dt} : wWhile c wb DD s = WhileD c wb DD s := rfl
def LcD (ds : List PyData) (g : WG) (tt : WT) (te : WE) (vs : List Nat) (s1 : Dt) (Q : List PyData → Dt → Prop) : Prop := ∃ Inv : Nat → List PyData → Cs → Prop, Inv 0 [] s1.c ∧
  (∀ (i : Nat) d acc c, ds[i]? = some d → Inv i acc c → g d ⟨wipeD s1.env vs, c⟩ fun s2 => tt s2 fun b s3 => s3.env = s2.env ∧ if b = true then te s3 fun y s4 => s4.env = s2.env ∧ acc.length < 100000 ∧ Inv (i + 1) (acc ++ [y]) s4.c else Inv (i + 1) acc s3.c) ∧
  ∀ acc c, Inv ds.length acc c → Q acc ⟨s1.env, c⟩
theorem wLc_eq {w : WA} {g : WG} {tt : WT} {te : WE} {vs : List Nat} {s : Dt} {Q : List PyData → Dt → Prop} : wLc w g tt te vs s Q = w s fun ds s1 => LcD ds g tt te vs s1 Q := rfl
theorem lcD_map {ds : List PyData} {g : WG} {te : WE} {vs : List Nat} {env : List (Option DV)} {c : Cs} {Q : List PyData → Dt → Prop} (f : PyData → PyData) (hl : ds.length ≤ 99999)
    (h : ∀ d ∈ ds, ∀ (acc : List PyData) (J : List PyData → Cs → Prop), acc.length < 100000 → J (acc ++ [f d]) c → g d ⟨wipeD env vs, c⟩ fun s2 => te s2 fun y s4 => s4.env = s2.env ∧ acc.length < 100000 ∧ J (acc ++ [y]) s4.c) (q : Q (ds.map f) ⟨env, c⟩) : LcD ds g (fun s Q => Q true s) te vs ⟨env, c⟩ Q :=
  lc_map f hl h q
theorem look_d (x : PyData) : (DV.d x).look = some x := rfl
theorem look_own (x : List PyData) : (DV.own x).look = some (.list x) := rfl
theorem shpI (i : Int) : Shp (.int i) = True := eq_true rfl
theorem shpB (i : Bool) : Shp (.bool i) = True := eq_true rfl
theorem shpN : Shp .none = True := eq_true rfl
theorem shpS (s : String) : Shp (.str (Str.ofString s)) = True := eq_true (shp_str s)
theorem seqT (ds : List PyData) : seqd (.tuple ds) = true := rfl
theorem seqL (ds : List PyData) : seqd (.list ds) = true := rfl
theorem itsT (ds : List PyData) : its (.tuple ds) = ds := rfl
theorem itsL (ds : List PyData) : its (.list ds) = ds := rfl
theorem lenT (ds : List PyData) : lenD (.tuple ds) = some ds.length := rfl
theorem lenL (ds : List PyData) : lenD (.list ds) = some ds.length := rfl
theorem okFF (d : PyData) : okF false d = true := rfl
theorem at_nat {l : List PyData} {i : Nat} (h : i < l.length) : atI l (i : Int) = l[i]? := by
  unfold atI ixN
  rw [if_pos (by omega), if_pos (by omega)]
  rfl
theorem wGCons_c {w : WG} {u : WGs} {d : PyData} {r : List PyData} {s : Dt} {Q : Dt → Prop} : wGCons w u (d :: r) s Q = w d s fun s' => u r s' Q := by
  refine propext ⟨fun ⟨d', r', e, h⟩ => ?_, fun h => ⟨d, r, rfl, h⟩⟩
  cases e
  exact h
theorem wGNil_n {s : Dt} {Q : Dt → Prop} : wGNil [] s Q = Q s := propext ⟨fun h => h.2, fun h => ⟨rfl, h⟩⟩
end Dw
namespace Dw
open PySem PySem.Spec PyProof.Rows L2 OgR Evl
def AV (K : PySem.W.Frag) (bx : Bx) (G H : Hp) (v : V) : DV → Prop
  | .d x => Dp K G v x
  | .dd kvs => ∃ p ks, v = .ref p ∧ Rd H p (.dT ks) ∧ ¬ bx.has p ∧ Paired (fun a b => a.1 = b.1 ∧ Dp K G a.2 b.2) ks kvs
  | .oth φ => φ G H v ∧ ∀ G' H', Ex G G' → (∀ b o, ¬ bx.has b → H b = some o → soft o = false → H' b = some o) → φ G' H' v
  | _ => False
inductive AVs (K : PySem.W.Frag) (bx : Bx) (G H : Hp) : List V → List DV → Prop
  | nil : AVs K bx G H [] []
  | cons {v x vs xs} (h : AV K bx G H v x) (t : AVs K bx G H vs xs) : AVs K bx G H (v :: vs) (x :: xs)
section
variable {C : Ct} {K : PySem.W.Frag} {bx : Bx} {G H G' H' : Hp} {σ : L2.St}
theorem rd_gr {p : Addr} {o : HO} (h : Rd H p o) (n : ¬ C.bx.has p) (e : Gr C H H') : Rd H' p o := by
  rcases h with h | ⟨od, h⟩
  · exact .inl (e p _ n h)
  · exact .inr ⟨od, e p _ n h⟩
theorem AV.mono {v : V} : ∀ {x : DV}, AV C.K C.bx G H v x → Ex G G' → Gr C H H' → AV C.K C.bx G' H' v x
  | .d x, h, eg, _ => dp_ex eg h
  | .dd kvs, ⟨p, ks, h1, h2, h3, h4⟩, eg, eh => ⟨p, ks, h1, rd_gr h2 h3 eh, h3, paired_mapP h4 fun a b q => ⟨q.1, dp_ex eg q.2⟩⟩
  | .oth φ, h, eg, eh => ⟨h.2 _ _ eg (Kept.of eh), fun G2 H2 e k => h.2 G2 H2 (eg.trans e) ((Kept.of (C := C) eh).trans k)⟩
  | .own _, h, _, _ => h.elim
  | .dic _, h, _, _ => h.elim
  | .dit _, h, _, _ => h.elim
  | .box, h, _, _ => h.elim
  | .ob _, h, _, _ => h.elim
  | .obl _, h, _, _ => h.elim
theorem AVs.mono {vs : List V} {xs : List DV} (h : AVs C.K C.bx G H vs xs) (eg : Ex G G') (eh : Gr C H H') : AVs C.K C.bx G' H' vs xs := by
  induction h with
  | nil => exact .nil
  | cons h _ ih => exact .cons (h.mono eg eh) ih
theorem AVs.len {vs : List V} {xs : List DV} (h : AVs K bx G H vs xs) : vs.length = xs.length := by
  induction h with
  | nil => rfl
  | cons _ _ ih => rw [List.length_cons, List.length_cons, ih]
theorem AVs.at {vs : List V} {xs : List DV} (h : AVs K bx G H vs xs) : ∀ {i : Nat} {x : DV}, xs[i]? = some x → ∃ v, vs[i]? = some v ∧ AV K bx G H v x := by
  induction h with
  | nil => intro i x e; simp at e
  | cons h _ ih =>
    intro i x e
    cases i with
    | zero => cases e; exact ⟨_, rfl, h⟩
    | succ i => rw [List.getElem?_cons_succ] at e ⊢; exact ih e
theorem AV.none {v : V} : ∀ {x : DV}, AV K bx G H v x → AV K b0 G H v x
  | .d x, h => h
  | .dd kvs, ⟨p, ks, h1, h2, h3, h4⟩ => ⟨p, ks, h1, h2, (fun z => nomatch z), h4⟩
  | .oth φ, h => ⟨h.1, fun G' H' e k => h.2 G' H' e fun b o _ hb hs => k b o (fun z => nomatch z) hb hs⟩
  | .own _, h => h.elim
  | .dic _, h => h.elim
  | .dit _, h => h.elim
  | .box, h => h.elim
  | .ob _, h => h.elim
  | .obl _, h => h.elim
theorem AVs.none {vs : List V} {xs : List DV} (h : AVs K bx G H vs xs) : AVs K b0 G H vs xs := by
  induction h with
  | nil => exact .nil
  | cons h _ ih => exact .cons h.none ih
end
section
variable {X : Cx} {C : Ct} {a b e : Expr} {es : List Expr} {pos p : Pos} {t te : TE} {w we : WE} {tr tA : TA} {wr wA : WXs} {x : Str}
def wYd (w : WE) (wr : WXs) : WXs := fun s Q => w s fun d s1 => wr s1 fun xs s2 => Q (.d d :: xs) s2
/-- a dict that a slot holds -/
def dicAt (s : Dt) (i : Nat) (kvs : List (List Key × PyData)) : Prop := s.env[i]? = some (some (.dit kvs)) ∨ s.env[i]? = some (some (.dd kvs))
def wYdic (i : Nat) (wr : WXs) : WXs := fun s Q => ∃ kvs, dicAt s i kvs ∧ wr s fun xs s2 => Q (.dd kvs :: xs) s2
def wYfn (i : Nat) (φ : Hp → Hp → V → Prop) (wr : WXs) : WXs := fun s Q => s.env[i]? = some (some (.oth φ)) ∧ wr s fun xs s2 => Q (.oth φ :: xs) s2
/-- a def named -/
def wYg (φ : Hp → Hp → V → Prop) (wr : WXs) : WXs := fun s Q => wr s fun xs s2 => Q (.oth φ :: xs) s2
end
abbrev FD := List DV → (PyData → Prop) → Prop
def wCallD (F : FD) (wA : WXs) : WE := fun s Q => wA s fun xs s1 => F xs fun d => Q d s1
section
variable {X : Cx} {C : Ct} {e : Expr} {es : List Expr} {pos p : Pos} {tA : TA} {wA : WXs} {x : Str} {st : Stmt} {ps : List Str} {k : Nat}
def wCallV (i : Nat) (φ : Hp → Hp → V → Prop) (g : FP) (wA : WA) : WE := fun s Q => s.env[i]? = some (some (.oth φ)) ∧ wA s fun ds s1 => g ds fun d => Q d s1
end
end Dw
namespace Dw
open PySem PySem.Spec PyProof.Rows L2 OgR Evl
end Dw
namespace Dw
open PySem PySem.Spec PyProof.Rows L2 OgR Evl
abbrev KVs := List (List Key × PyData)
abbrev WN := Dt → (KVs → Dt → Prop) → Prop
def DcD (ds : List PyData) (g : WG) (wA : WA) (wv : WE) (vs : List Nat) (s1 : Dt) (Q : KVs → Dt → Prop) : Prop := ∃ Inv : Nat → KVs → Cs → Prop, Inv 0 [] s1.c ∧
  (∀ (i : Nat) d kvs c, ds[i]? = some d → Inv i kvs c → g d ⟨wipeD s1.env vs, c⟩ fun s2 => wA s2 fun kd s3 => kd.length ≤ 100000 ∧ wv s3 fun y s4 => s4.env = s2.env ∧ ∃ k, keysD kd = some k ∧ kvs.length < 100000 ∧ Inv (i + 1) (putG kvs k y) s4.c) ∧
  ∀ kvs c, Inv ds.length kvs c → Q kvs ⟨s1.env, c⟩
def wDcT (wI : WA) (g : WG) (wA : WA) (wv : WE) (vs : List Nat) : WN := fun s Q => wI s fun ds s1 => DcD ds g wA wv vs s1 Q
abbrev FN := List DV → (KVs → Prop) → Prop
/-- name = f(..), f a def that returns a new dict -/
def wSetN (i : Nat) (F : FN) (wA : WXs) : WS := fun DD s => wA s fun xs s1 => F xs fun kvs => DD.nx (s1.set i (.dit kvs))
section
variable {X : Cx} {C : Ct} {e : Expr} {es : List Expr} {pos p cpos py : Pos} {tA : TA} {wA : WXs} {x y : Str} {st : Stmt} {ps : List Str} {k : Nat}
def wTGet2 (i : Nat) (wA : WA) (wf : WE) : WE := fun s Q => (∃ kvs0, dicAt s i kvs0) ∧ wA s fun kd s1 => kd.length ≤ 100000 ∧ wf s1 fun fd s2 => ∃ kvs k, dicAt s2 i kvs ∧ keysD kd = some k ∧ Q ((lookG kvs k).getD fd) s2
def wTGet1 (i : Nat) (wA : WA) : WE := fun s Q => (∃ kvs0, dicAt s i kvs0) ∧ wA s fun kd s1 => kd.length ≤ 100000 ∧ ∃ kvs k, dicAt s1 i kvs ∧ keysD kd = some k ∧ Q ((lookG kvs k).getD .none) s1
end
end Dw
namespace Dw
open PySem PySem.Spec PyProof.Rows L2 OgR Evl
section
variable {X : Cx} {C : Ct} {a b c e tg : Expr} {es : List Expr} {pos p p2 : Pos} {t ta tb tc te ty : TE} {w wa wb wc we wy : WE} {x : Str}
def wRng2 (wa wb : WE) : WA := fun s Q => wa s fun d s1 => wb s1 fun e s2 => ∃ i j : Int, d = .int i ∧ e = .int j ∧ -(2 ^ 62) ≤ i ∧ i < 2 ^ 62 ∧ -(2 ^ 62) ≤ j ∧ j < 2 ^ 62 ∧ Q (iotaD i j) s2
/-- i, i - 1, .., j + 1 -/
def downD (i j : Int) : List PyData := (List.range (i - j).toNat).map fun k => .int (i - (k : Nat))
def wRngD (wa wb : WE) : WA := fun s Q => wa s fun d s1 => wb s1 fun e s2 => ∃ i j : Int, d = .int i ∧ e = .int j ∧ -(2 ^ 62) ≤ i ∧ i < 2 ^ 62 ∧ -(2 ^ 62) ≤ j ∧ j < 2 ^ 62 ∧ Q (downD i j) s2
def wRevR (wa : WE) : WA := fun s Q => wa s fun d s1 => ∃ j : Int, d = .int j ∧ -(2 ^ 62) ≤ j ∧ j < 2 ^ 62 ∧ Q (downD (j - 1) (-1)) s1
def gRevL : PyData → Dt → (List PyData → Dt → Prop) → Prop := fun d s Q => ∃ ds, d = .list ds ∧ Q ds.reverse s
def wAugIx (i : Nat) (wy we : WE) : WS := fun DD s => (∃ ds0, s.env[i]? = some (some (.own ds0))) ∧ wy s fun kd s1 => ∃ (n : Nat) (ds : List PyData) (m : Int), kd = .int n ∧ s1.env[i]? = some (some (.own ds)) ∧ ds[n]? = some (.int m) ∧ we s1 fun d s2 => ∃ (j : Int) (ds2 : List PyData), d = .int j ∧ s2.env[i]? = some (some (.own ds2)) ∧ n < ds2.length ∧ DD.nx (s2.set i (.own (ds2.set n (.int (m + j)))))
end
end Dw
namespace Dw
open PySem PySem.Spec PyProof.Rows L2 OgR Evl
end Dw
namespace Dw
open PySem PySem.Spec PyProof.Rows L2 OgR Evl
theorem lcD_enc {α : Type} {g : WG} {tt : WT} {te : WE} {vs : List Nat} {env : List (Option DV)} {c : Cs} {Q : List PyData → Dt → Prop} (l : List α) (enc : α → PyData) (f : α → Option PyData) (hl : l.length ≤ 99999)
    (h : ∀ a ∈ l, ∀ (acc : List PyData) (J : List PyData → Cs → Prop), acc.length < 100000 → (∀ y, f a = some y → J (acc ++ [y]) c) → (f a = none → J acc c) →
      g (enc a) ⟨wipeD env vs, c⟩ fun s2 => tt s2 fun b s3 => s3.env = s2.env ∧ if b = true then te s3 fun y s4 => s4.env = s2.env ∧ acc.length < 100000 ∧ J (acc ++ [y]) s4.c else J acc s3.c) (q : Q (l.filterMap f) ⟨env, c⟩) : LcD (l.map enc) g tt te vs ⟨env, c⟩ Q := by
  refine ⟨fun i acc c' => c' = c ∧ acc = (l.take i).filterMap f, ⟨rfl, rfl⟩, fun i d acc c' hd inv => ?_, fun acc c' inv => ?_⟩
  · obtain ⟨rfl, rfl⟩ := inv
    rw [List.getElem?_map] at hd
    obtain ⟨a, ha, rfl⟩ := Option.map_eq_some_iff.mp hd
    have hi := (List.getElem?_eq_some_iff.mp ha).1
    refine h a (List.mem_of_getElem? ha) _ (fun acc' c'' => c'' = c' ∧ acc' = (l.take (i + 1)).filterMap f) ?_ (fun y hy => ⟨rfl, ?_⟩) (fun hy => ⟨rfl, ?_⟩)
    · have := List.length_filterMap_le f (l.take i)
      rw [List.length_take] at this
      omega
    · rw [List.take_add_one, ha, List.filterMap_append]
      simp [hy]
    · rw [List.take_add_one, ha, List.filterMap_append]
      simp [hy]
  · obtain ⟨rfl, rfl⟩ := inv
    rw [List.length_map, List.take_length]
    exact q
theorem lcD_encM {α : Type} {g : WG} {te : WE} {vs : List Nat} {env : List (Option DV)} {c : Cs} {Q : List PyData → Dt → Prop} (l : List α) (enc : α → PyData) (f : α → PyData) (hl : l.length ≤ 99999)
    (h : ∀ a ∈ l, ∀ (acc : List PyData) (J : List PyData → Cs → Prop), acc.length < 100000 → J (acc ++ [f a]) c → g (enc a) ⟨wipeD env vs, c⟩ fun s2 => te s2 fun y s4 => s4.env = s2.env ∧ acc.length < 100000 ∧ J (acc ++ [y]) s4.c) (q : Q (l.map f) ⟨env, c⟩) : LcD (l.map enc) g (fun s Q => Q true s) te vs ⟨env, c⟩ Q := by
  refine lcD_enc l enc (fun a => some (f a)) hl (fun a ha acc J hacc h1 h0 => ?_) (by rw [List.filterMap_eq_map']; exact q)
  have := h a ha acc J hacc (h1 _ rfl)
  simpa using this
end Dw
namespace Dw
open PySem PySem.Spec PyProof.Rows L2 OgR Evl
end Dw
namespace Dw
open PySem PySem.Spec PyProof.Rows L2 OgR Evl
end Dw
namespace Dw
open PySem PySem.Spec PyProof.Rows L2 OgR Evl
end Dw
namespace Dw
open PySem PySem.Spec PyProof.Rows L2 OgR Evl
section
variable {X : Cx} {C : Ct} {b e : Expr} {pos p : Pos} {ty te : TE} {wy we : WE} {x : Str}
def wKGet (i : Nat) (wy : WE) : WE := fun s Q => (∃ kvs0, s.env[i]? = some (some (.dic kvs0))) ∧ wy s fun kd s1 => ∃ kvs k d, s1.env[i]? = some (some (.dic kvs)) ∧ keyD kd = some k ∧ lookG kvs k = some d ∧ Q d s1
def wKAug (i : Nat) (wy we : WE) : WS := fun DD s => (∃ kvs0, s.env[i]? = some (some (.dic kvs0))) ∧ wy s fun kd s1 => ∃ kvs k, ∃ m : Int, s1.env[i]? = some (some (.dic kvs)) ∧ keyD kd = some k ∧ lookG kvs k = some (.int m) ∧
  we s1 fun d s2 => ∃ (n : Int) (kvs2 : _), d = .int n ∧ s2.env[i]? = some (some (.dic kvs2)) ∧ kvs2.length < 100000 ∧ DD.nx (s2.set i (.dic (putG kvs2 k (.int (m + n)))))
end
abbrev KVK := List (Key × PyData)
def DcK (ds : List PyData) (g : WG) (wk wv : WE) (vs : List Nat) (s1 : Dt) (Q : KVK → Dt → Prop) : Prop := ∃ Inv : Nat → KVK → Cs → Prop, Inv 0 [] s1.c ∧
  (∀ (i : Nat) d kvs c, ds[i]? = some d → Inv i kvs c → g d ⟨wipeD s1.env vs, c⟩ fun s2 => wk s2 fun kd s3 => wv s3 fun y s4 => s4.env = s2.env ∧ ∃ k, keyD kd = some k ∧ kvs.length < 100000 ∧ Inv (i + 1) (putG kvs k y) s4.c) ∧
  ∀ kvs c, Inv ds.length kvs c → Q kvs ⟨s1.env, c⟩
def wDcK (j : Nat) (wI : WA) (g : WG) (wk wv : WE) (vs : List Nat) : WS := fun DD s => wI s fun ds s1 => DcK ds g wk wv vs s1 fun kvs s2 => DD.nx (s2.set j (.dic kvs))
end Dw
namespace Dw
open PySem PySem.Spec PyProof.Rows L2 OgR Evl
section
variable {X : Cx} {C : Ct} {o e a f : Expr} {pos p apos cpos : Pos} {to te : TE} {wo we : WE}
def wLIdx (wo we : WE) : WE := fun s Q => wo s fun d s1 => ∃ ds, d = .list ds ∧ we s1 fun y s2 => Shp d ∧ Shp y ∧ ∃ (j : Nat) (z : PyData), ds[j]? = some z ∧ z.eqv y = true ∧ (∀ (m : Nat) (z' : PyData), m < j → ds[m]? = some z' → z'.eqv y = false) ∧ Q (.int (j : Nat)) s2
end
def prI (q : Int × PyData) : PyData := .tuple [.int q.1, q.2]
section
variable {X : Cx} {C : Ct} {o e a f : Expr} {pos p apos cpos : Pos} {ta te tf : TE} {wa we wf : WE}
def wDPGet (wa we wf : WE) : WE := fun s Q => wa s fun d s1 => ∃ ps : List (Int × PyData), d = .list (ps.map prI) ∧ (ps.map (·.1)).Nodup ∧ we s1 fun y s2 => ∃ i : Int, y = .int i ∧ wf s2 fun z s3 => Q ((lookG (ps.map fun q => ((Sum.inl q.1 : Key), q.2)) (.inl i)).getD z) s3
end
end Dw
namespace Dw
open PySem PySem.Spec PyProof.Rows L2 OgR Evl
section
variable {X : Cx} {C : Ct} {a b : Expr} {pos p : Pos} {ta tb : TE} {wa wb : WE}
def wRg2 (wa wb : WE) : WA := fun s Q => wa s fun d s1 => wb s1 fun e s2 => ∃ i j : Int, d = .int i ∧ e = .int j ∧ 0 ≤ i ∧ i ≤ 100000 ∧ 0 ≤ j ∧ j ≤ 100000 ∧ Q (iotaD i j) s2
end
end Dw
namespace Dw
open PySem PySem.Spec PyProof.Rows L2 OgR Evl
def gLenSet : G1 := fun d s Q => ∃ ns : List Int, d = .tuple (ns.map .int) ∧ ns.length ≤ 1000 ∧ ∀ c : Nat, c ≤ ns.length → (c = ns.length ↔ ns.Nodup) → Q (.int (c : Nat)) s
theorem de_lenSet {X : Cx} {C : Ct} {a : Expr} {ta : TE} {wa : WE} {p p2 q pos : Pos} (hK : X.K = C.K) (hc : X.calm = true) (hg : Gl X "len") (hm : X.mg "len" = none) (hg2 : Gl X "set") (hm2 : X.mg "set" = none) (ha : DP X C a ta wa)
    (hs : starEach [a] X.env = (false, eval a X.env) :: starEach [] X.env := by rfl) : DE X C (.Call (.Name "len" p) [.Call (.Name "set" p2) [a] [] q] [] pos) (tLenSetN X.K ta) (w1 gLenSet wa) :=
  ⟨pe_lenSetN hc hg hm hg2 hm2 ha.pe hs, fun G σ H s Q Q' rr h k => ha.ip G σ H s _ _ rr h fun v d s1 G1 H1 h1 r1 eg eh pk => by
    obtain ⟨ns, rfl, hl, h2⟩ := h1
    obtain ⟨p, xs, rfl, e1, e2⟩ := pk.seq r1.fin.gh rfl
    rw [show its (PyData.tuple (ns.map .int)) = ns.map .int from rfl] at e2
    rw [ints_dpa e2] at e1
    exact ⟨p, ns, rfl, hK ▸ e1, hl, fun c c1 c2 => k _ _ s1 G1 H1 (h2 c c1 c2) r1 eg eh (.int _)⟩⟩
def wNotT (w : WE) : WE := fun s Q => w s fun d s1 => ∃ k, truD d = some k ∧ Q (.bool (!k)) s1
theorem de_notT {X : Cx} {C : Ct} {a : Expr} {t : TE} {w : WE} {pos : Pos} (hK : X.K = C.K) (h : DP X C a t w) (he : ∀ whole, isTrue a X.env whole = (do let v ← whole; standAt a.pos; holding [v] (truthy v)) := by intro _; rfl) : DE X C (.UnaryOp .Not a pos) (tNotT X.K t) (wNotT w) :=
  ⟨pe_notT h.pe, fun G σ H s Q Q' r q k => hK ▸ (dt_tru hK h he).it G σ H s (fun b s1 => Q (.bool (!b)) s1) (fun b H1 => Q' (.bl (!b)) H1) r q fun b s1 G1 H1 q1 r1 eg eh => k _ _ s1 G1 H1 q1 r1 eg eh (.bl _)⟩
end Dw
namespace Smk
open PySem PySem.Spec PyProof.Rows L2
/-- a mask whose round i -> 5 i + 1 meets all places -/
structure MOk (m : Nat) : Prop where
  one : m = 7 ∨ m = 31 ∨ m = 127 ∨ m = 511
  odd : m % 2 = 1
  meets : ∀ j, j ≤ m → ∃ b, b ≤ m ∧ lcgN m b = j
  again : lcgN m (m + 1) = 0
theorem MOk.small {m : Nat} (M : MOk m) : m ≤ 511 := by rcases M.one with e | e | e | e <;> omega
/-- the round, listed -/
def rnd (m : Nat) : Nat → Nat → List Nat
  | 0, _ => []
  | f + 1, x => x :: rnd m f ((x * 5 + 1) % (m + 1))
theorem rnd_get (m : Nat) : ∀ (f a k : Nat), k < f → (rnd m f (lcgN m a))[k]? = some (lcgN m (a + k))
  | 0, _, _, h => absurd h (Nat.not_lt_zero _)
  | f + 1, a, 0, _ => rfl
  | f + 1, a, k + 1, h => by
    have e := rnd_get m f (a + 1) k (by omega)
    rw [show a + 1 + k = a + (k + 1) by omega] at e
    exact e
theorem rnd_len (m : Nat) : ∀ (f x : Nat), (rnd m f x).length = f
  | 0, _ => rfl
  | f + 1, x => congrArg (· + 1) (rnd_len m f _)
theorem mok511 : MOk 511 := ⟨.inr (.inr (.inr rfl)), rfl, fun j hj => by
  have q : ((List.range 512).all fun j => (rnd 511 512 0).contains j) = true := by decide +kernel
  have h := List.all_eq_true.mp q j (List.mem_range.mpr (by omega))
  obtain ⟨k, hk, e⟩ := List.getElem_of_mem (List.contains_iff_mem.mp h)
  rw [rnd_len] at hk
  have e2 := rnd_get 511 512 0 k hk
  rw [Nat.zero_add] at e2
  refine ⟨k, by omega, ?_⟩
  have e3 : (rnd 511 512 (lcgN 511 0))[k]? = some j := by
    rw [show lcgN 511 0 = 0 from rfl, List.getElem?_eq_getElem (by rw [rnd_len]; exact hk), e]
  rw [e3] at e2
  exact (Option.some.inj e2).symm, by decide +kernel⟩
theorem mok_of {m : Nat} (h : MaskOk m) : MOk m := ⟨by rcases h with e | e | e <;> simp [e], mask_odd h, fun _ hj => lcg_all h hj, lcg_round h⟩
theorem mok7 : MOk 7 := mok_of (.inl rfl)
theorem mok31 : MOk 31 := mok_of (.inr (.inl rfl))
theorem mok127 : MOk 127 := mok_of (.inr (.inr rfl))
variable {m : Nat}
theorem twice (M : MOk m) : ∀ k, lcgN m (m + 1 + k) = lcgN m k
  | 0 => M.again
  | k + 1 => congrArg (fun z => (z * 5 + 1) % (m + 1)) (twice M k)
theorem from_i (M : MOk m) {i j : Nat} (hi : i ≤ m) (hj : j ≤ m) : ∃ k, k ≤ m ∧ lcgI m i k = j := by
  obtain ⟨a, ha, rfl⟩ := M.meets i hi
  obtain ⟨b, hb, rfl⟩ := M.meets j hj
  by_cases c : a ≤ b
  · exact ⟨b - a, by omega, by rw [lcgN_add, show a + (b - a) = b by omega]⟩
  · exact ⟨b + (m + 1) - a, by omega, by rw [lcgN_add, show a + (b + (m + 1) - a) = m + 1 + b by omega, twice M]⟩
theorem run_hit (M : MOk m) (h : Int) {j : Nat} (hj : j ≤ m) : ∃ n, n ≤ m + 12 ∧ runI m (SetTable.bits h) n = j := by
  obtain ⟨k, hk, e⟩ := from_i M (runI_le m (SetTable.bits h) 12) hj
  exact ⟨12 + k, by omega, (runI_tail (bits_lt h) k).trans e⟩
theorem way_hit (M : MOk m) (h : Int) {j : Nat} (hj : j ≤ m) : ∃ k, k < 10 * SetTable.turns m ∧ way m h k = j := by
  obtain ⟨n, hn, e⟩ := run_hit M h hj
  obtain ⟨k, hk, e2⟩ := run_nth m (SetTable.bits h) n
  refine ⟨k, by show k < 10 * (m + 15); omega, ?_⟩
  show (nth m (runAt m (SetTable.bits h % (m + 1)) (SetTable.bits h)) k).j = j
  rw [e2]
  exact e
theorem way_in (m : Nat) (h : Int) (k : Nat) : way m h k ≤ m := by
  have b : SetTable.bits h % (m + 1) ≤ m := Nat.le_of_lt_succ (Nat.mod_lt _ (Nat.succ_pos m))
  have r := runEnd_bd b
  have q := nth_in (m := m) k (runAt m (SetTable.bits h % (m + 1)) (SetTable.bits h)) (show SetTable.bits h % (m + 1) + (SetTable.runEnd m (SetTable.bits h % (m + 1)) - SetTable.bits h % (m + 1)) ≤ m by omega)
  exact Nat.le_trans (Nat.le_add_right _ _) q
/-- a table that finds all its hashes -/
structure Tb (t : SetTable) (hs : List Int) : Prop where
  up : Ris t.place.toList
  nodum : t.dummies = #[]
  size : t.place.size = hs.length
  mask : MOk t.mask
  found : ∀ (i : Nat) (h : Int) (j : Nat), hs[i]? = some h → t.place.toList[i]? = some j → ∃ k, way t.mask h k = j ∧ ∀ k', k' < k → way t.mask h k' ∈ t.place.toList
variable {t : SetTable} {hs : List Int}
theorem Tb.gap (T : Tb t hs) (few : hs.length ≤ t.mask) (h : Int) : ∃ K, K < 10 * SetTable.turns t.mask ∧ way t.mask h K ∉ t.place.toList ∧ ∀ k, k < K → way t.mask h k ∈ t.place.toList := by
  obtain ⟨j, hj, out⟩ := st_missing t.place.toList (t.mask + 1) (by rw [Array.length_toList, T.size]; omega)
  obtain ⟨k, hk, rfl⟩ := way_hit T.mask h (show j ≤ t.mask by omega)
  obtain ⟨K, a, b, c⟩ := st_least (p := fun k => way t.mask h k ∉ t.place.toList) k out
  exact ⟨K, by omega, b, fun i hi => Classical.not_not.mp (c i hi)⟩
theorem Tb.ahead (T : Tb t hs) {h : Int} {K i j : Nat} (out : way t.mask h K ∉ t.place.toList) (hi : hs[i]? = some h) (hj : t.place.toList[i]? = some j) : ∃ k, k < K ∧ way t.mask h k = j := by
  obtain ⟨k, rfl, b⟩ := T.found i h j hi hj
  refine ⟨k, ?_, rfl⟩
  by_cases c : k < K
  · exact c
  · by_cases d : K = k
    · subst d
      exact absurd (List.mem_of_getElem? hj) out
    · exact absurd (b K (by omega)) out
/-- one more in the first gap of its way -/
theorem Tb.more (T : Tb t hs) {h : Int} {K : Nat} (out : way t.mask h K ∉ t.place.toList) (b : ∀ k, k < K → way t.mask h k ∈ t.place.toList) {j : Nat} (ej : j = way t.mask h K) {p : Nat} (ep : p = SetTable.below t.place j) :
    (t.put j).2 = p ∧ p ≤ hs.length ∧ Tb (t.put j).1 (hs.take p ++ h :: hs.drop p) ∧ (t.put j).1.mask = t.mask ∧ (t.put j).1.led = t.led ∧ (t.put j).1.fill = hs.length + 1 := by
  obtain ⟨c1, _, _⟩ := below_cut T.up j
  rw [← ep] at c1
  have l1 : p ≤ t.place.toList.length := by rw [Array.length_toList]; exact c1
  have l2 : p ≤ hs.length := by rw [← T.size]; exact c1
  have pl := put_place t j
  rw [← ep] at pl
  have sz : (t.put j).1.place.size = hs.length + 1 := by rw [← Array.length_toList, pl, len_ins _ l1, Array.length_toList, T.size]
  have keep : ∀ {x : Nat}, x ∈ t.place.toList → x ∈ (t.put j).1.place.toList := fun hx => by rw [pl]; exact mem_ins.2 (.inr hx)
  refine ⟨ep.symm, l2, ⟨?_, put_dm T.nodum j, by rw [len_ins _ l2]; exact sz, T.mask, fun i g x h1 h2 => ?_⟩, rfl, rfl, ?_⟩
  · exact ris_insert T.up fun z => out (ej ▸ List.mem_of_getElem? ((Array.getElem?_toList).trans z))
  · rw [tins_get hs l2] at h1
    rw [pl, tins_get _ l1] at h2
    by_cases c : i < p
    · rw [if_pos c] at h1 h2
      obtain ⟨k, e, z⟩ := T.found i g x h1 h2
      exact ⟨k, e, fun y hy => keep (z y hy)⟩
    · rw [if_neg c] at h1 h2
      by_cases d : i = p
      · rw [if_pos d] at h1 h2
        cases h1
        cases h2
        exact ⟨K, ej.symm, fun y hy => keep (b y hy)⟩
      · rw [if_neg d] at h1 h2
        obtain ⟨k, e, z⟩ := T.found (i - 1) g x h1 h2
        exact ⟨k, e, fun y hy => keep (z y hy)⟩
  · show (t.put j).1.place.size + (t.put j).1.dummies.size = hs.length + 1
    rw [sz, put_dm T.nodum j]
    rfl
theorem free_hit (M : MOk m) (owner : Array (Option Nat)) (h : Int) {j : Nat} (hj : j ≤ m) (hf : oAt owner j = none) :
    ∃ K, SetTable.layClean.free m owner (SetTable.turns m) (SetTable.bits h % (m + 1)) (SetTable.bits h) = some (way m h K) ∧ oAt owner (way m h K) = none ∧ ∀ k, k < K → oAt owner (way m h k) ≠ none := by
  obtain ⟨n, hn, e⟩ := run_hit M h hj
  have wj : way m h (L2.off m (SetTable.bits h % (m + 1)) (SetTable.bits h) n) = j := by
    unfold way
    rw [nth_off, itL_run]
    exact e
  obtain ⟨K, a, b, c⟩ := st_least (p := fun k => oAt owner (way m h k) = none) _ (wj.symm ▸ hf)
  refine ⟨K, free_spec m owner (SetTable.turns m) n _ _ K (show n < m + 15 by omega) a (fun k hk => ?_) ?_, b, c⟩
  · cases z : oAt owner (way m h k) with
    | none => exact absurd z (c k hk)
    | some _ => rfl
  · have b' : oAt owner (nth m (runAt m (SetTable.bits h % (m + 1)) (SetTable.bits h)) K).j = none := b
    rw [b']
    rfl
/-- who sits where, after these hashes -/
structure Sit (m : Nat) (done : List Int) (owner : Array (Option Nat)) : Prop where
  size : owner.size = m + 1
  why : ∀ j k, j ≤ m → oAt owner j = some k → ∃ h K, done[k]? = some h ∧ way m h K = j ∧ ∀ k', k' < K → oAt owner (way m h k') ≠ none
  all : ∀ k, k < done.length → ∃ j, j ≤ m ∧ oAt owner j = some k
  few : ∃ ps : List Nat, ps.length = done.length ∧ ∀ j, j ≤ m → oAt owner j ≠ none → j ∈ ps
theorem Sit.next (M : MOk m) {done : List Int} {owner : Array (Option Nat)} (W : Sit m done owner) (room : done.length ≤ m) (h : Int) :
    ∃ j, SetTable.layClean.free m owner (SetTable.turns m) (SetTable.bits h % (m + 1)) (SetTable.bits h) = some j ∧ Sit m (done ++ [h]) (owner.setIfInBounds j (some done.length)) := by
  obtain ⟨ps, pl, pin⟩ := W.few
  obtain ⟨x, hx, xout⟩ := st_missing ps (m + 1) (by omega)
  have xfree : oAt owner x = none := Classical.not_not.mp fun z => xout (pin x (by omega) z)
  obtain ⟨K, e1, e2, e3⟩ := free_hit M owner h (show x ≤ m by omega) xfree
  have lt : way m h K < owner.size := by have := way_in m h K; rw [W.size]; omega
  have self := oAt_set_self (some done.length) lt
  have other : ∀ {i : Nat}, i ≠ way m h K → oAt (owner.setIfInBounds (way m h K) (some done.length)) i = oAt owner i := fun h => oAt_set_ne _ h
  generalize hw : owner.setIfInBounds (way m h K) (some done.length) = ow at self other
  have stay : ∀ {i : Nat}, oAt owner i ≠ none → oAt ow i ≠ none := fun {i} hi => by
    by_cases c : i = way m h K
    · rw [c, self]
      exact Option.some_ne_none _
    · rw [other c]
      exact hi
  have sz : (done ++ [h]).length = done.length + 1 := List.length_append
  refine ⟨_, e1, ?_⟩
  rw [hw]
  refine ⟨by rw [← hw, Array.size_setIfInBounds, W.size], fun j k hj q => ?_, fun k hk => ?_, way m h K :: ps, by rw [sz, List.length_cons, pl], fun j hj q => ?_⟩
  · by_cases c : j = way m h K
    · rw [c, self] at q
      cases q
      exact ⟨h, K, by rw [List.getElem?_append_right (Nat.le_refl _), Nat.sub_self]; rfl, c.symm, fun k' hk' => stay (e3 k' hk')⟩
    · rw [other c] at q
      obtain ⟨g, L, a1, a2, a3⟩ := W.why j k hj q
      exact ⟨g, L, by rw [List.getElem?_append_left (List.getElem?_eq_some_iff.mp a1).1, a1], a2, fun k' hk' => stay (a3 k' hk')⟩
  · rw [sz] at hk
    by_cases c : k < done.length
    · obtain ⟨j, hj, q⟩ := W.all k c
      exact ⟨j, hj, by rw [other (fun z => by rw [z, e2] at q; cases q), q]⟩
    · obtain rfl : k = done.length := by omega
      exact ⟨_, way_in m h K, self⟩
  · by_cases c : j = way m h K
    · exact c ▸ List.mem_cons_self
    · rw [other c] at q
      exact List.mem_cons_of_mem _ (pin j hj q)
theorem sit_all (M : MOk m) : ∀ (rest done : List Int) (owner : Array (Option Nat)), Sit m done owner → done.length + rest.length ≤ m →
    ∃ ow, rest.foldl (stepF m) (some (owner, done.length)) = some (ow, (done ++ rest).length) ∧ Sit m (done ++ rest) ow
  | [], done, owner, W, _ => ⟨owner, by simp, by simpa using W⟩
  | h :: rest, done, owner, W, few => by
    rw [List.length_cons] at few
    obtain ⟨j, e, W2⟩ := W.next M (by omega) h
    obtain ⟨ow, f, W3⟩ := sit_all M rest (done ++ [h]) _ W2 (by rw [List.length_append, List.length_singleton]; omega)
    rw [List.append_assoc, List.singleton_append] at f W3
    refine ⟨ow, ?_, W3⟩
    rw [List.foldl_cons, stepF_some e, ← f, List.length_append]
    rfl
theorem lay_ok (M : MOk m) {hs : Array Int} (few : hs.size ≤ m) : ∃ owner, SetTable.layClean m hs = some owner ∧ Sit m hs.toList owner := by
  have init : Sit m [] (Array.replicate (m + 1) none) := ⟨by simp, (fun j k hj e => by rw [oAt_init hj] at e; cases e), fun k hk => absurd hk (Nat.not_lt_zero _), [], rfl, fun j hj e => absurd (oAt_init hj) e⟩
  obtain ⟨ow, f, W⟩ := sit_all M hs.toList [] _ init (by rw [Array.length_toList]; simpa using few)
  refine ⟨ow, ?_, by simpa using W⟩
  rw [layClean_eq, show hs.toList.foldl (stepF m) (some (Array.replicate (m + 1) none, 0)) = _ from f]
  rfl
theorem laid_ok (t : SetTable) {hs : Array Int} {wanted M : Nat} (hw : SetTable.sizeAbove wanted - 1 = M) (hM : MOk M) (few : hs.size ≤ M) :
    ∃ t' order, t.relaid hs wanted = some (t', order) ∧ order.toList.Perm (List.range hs.size) ∧ Tb t' (order.toList.map fun i => hs.getD i 0) ∧ t'.mask = M ∧ t'.led = t.led := by
  obtain ⟨ow, e, W⟩ := lay_ok hM few
  have rl : t.relaid hs wanted = some (tabOf t M ow, ((liveOf M ow).map (·.2)).toArray) := by rw [relaid_eq, hw, e]; rfl
  obtain ⟨r1, r2⟩ : Ris ((liveOf M ow).map (·.1)) ∧ ∀ x ∈ (liveOf M ow).map (·.1), x ∈ List.range (M + 1) := ris_live (fun j => ow.getD j none) (List.range (M + 1)) (by unfold Ris; exact List.pairwise_lt_range)
  have nd : ((liveOf M ow).map (·.1)).Nodup := r1.imp fun h => Nat.ne_of_lt h
  have len : (liveOf M ow).length = hs.size := by
    obtain ⟨ps, p1, p2⟩ := W.few
    have a := nat_nodup_len _ ps nd fun x hx => by
      obtain ⟨⟨y, k⟩, hq, rfl⟩ := List.mem_map.mp hx
      obtain ⟨b1, b2⟩ := (mem_live W.size).1 hq
      exact p2 y b1 (by rw [b2]; exact Option.some_ne_none _)
    have b := nat_nodup_len (List.range hs.size) ((liveOf M ow).map (·.2)) List.nodup_range fun k hk => by
      obtain ⟨j, b1, b2⟩ := W.all k (by rw [Array.length_toList]; exact List.mem_range.mp hk)
      exact List.mem_map.mpr ⟨(j, k), (mem_live W.size).2 ⟨b1, b2⟩, rfl⟩
    have z : hs.toList.length = hs.size := Array.length_toList
    rw [List.length_map, p1, z] at a
    rw [List.length_map, List.length_range] at b
    omega
  refine ⟨_, _, rl, ?_, ⟨r1, rfl, ?_, hM, fun i h j h1 h2 => ?_⟩, rfl, rfl⟩
  · refine perm_range hs.size _ (by show ((liveOf M ow).map (·.2)).length = _; rw [List.length_map, len]) fun k hk => ?_
    obtain ⟨j, b1, b2⟩ := W.all k (by rw [Array.length_toList]; exact hk)
    exact List.mem_map.mpr ⟨(j, k), (mem_live W.size).2 ⟨b1, b2⟩, rfl⟩
  · show ((liveOf M ow).map (·.1)).toArray.size = (((liveOf M ow).map (·.2)).map fun i => hs.getD i 0).length
    simp
  · have h1' : (((liveOf M ow).map (·.2)).map fun i => hs.getD i 0)[i]? = some h := h1
    have h2' : ((liveOf M ow).map (·.1))[i]? = some j := h2
    rw [List.getElem?_map] at h2'
    rw [List.getElem?_map, List.getElem?_map] at h1'
    obtain ⟨⟨y, k⟩, hq, e1⟩ := Option.map_eq_some_iff.mp h2'
    rw [hq] at h1'
    cases e1
    obtain ⟨b1, b2⟩ := (mem_live W.size).1 (List.mem_of_getElem? hq)
    obtain ⟨g, K, a1, a2, a3⟩ := W.why y k b1 b2
    have eh : hs.getD k 0 = g := by rw [Array.getD_eq_getD_getElem?, ← Array.getElem?_toList, a1]; rfl
    have h3 : hs.getD k 0 = h := Option.some.inj h1'
    rw [eh] at h3
    subst h3
    refine ⟨K, a2, fun k' hk' => ?_⟩
    show way M g k' ∈ (liveOf M ow).map (·.1)
    obtain ⟨z, hz⟩ := Option.ne_none_iff_exists'.mp (a3 k' hk')
    exact List.mem_map.mpr ⟨(way M g k', z), (mem_live W.size).2 ⟨way_in M g k', hz⟩, rfl⟩
/-- how tables grow -/
theorem grow5 : SetTable.sizeAbove (SetTable.grown 5) = 32 := by decide +kernel
theorem grow19 : SetTable.sizeAbove (SetTable.grown 19) = 128 := by decide +kernel
theorem grow77 : SetTable.sizeAbove (SetTable.grown 77) = 512 := by decide +kernel
end Smk
namespace Smk
open PySem PySem.Spec PyProof.Rows L2
section
variable {P : Program} {w : World} {A : Around} {E : Value → Shared → Prop} {s : Shared}
abbrev kh (P : Program) (w : World) (k : List Key) : Int := tupleKeyHash (mixKind P w) k
abbrev IsK (P : Program) (w : World) (h : Heap) (k : List Key) (a : Addr) : Prop := IsTupleKey (mixKind P w) h k a
/-- what stands in such a tuple -/
def Flt (v : Value) : Prop := (∃ i t, v = .int i t) ∨ ∃ x t, v = .str x t
theorem flt_of {k : List Key} {vs : List Value} (h : ItemsAre (mixKind P w) k vs) : ∀ v ∈ vs, Flt v := by
  induction h with
  | nil => exact fun _ z => nomatch z
  | cons h1 _ ih =>
    intro v hv
    cases hv with
    | head =>
      rcases keyIs_shape h1 with ⟨i, t, _, e⟩ | ⟨x, t, _, e⟩
      · exact .inl ⟨i, t, e⟩
      · exact .inr ⟨x, t, e⟩
    | tail _ z => exact ih v z
theorem noClass {v : Value} (h : Flt v) (n : Nat) : ofAClassStatement n v = pure false := by
  rcases h with ⟨i, t, rfl⟩ | ⟨x, t, rfl⟩ <;> cases n <;> rfl
theorem byVal {v : Value} (h : Flt v) (n : Nat) : ∃ b, hashByValue n v = pure b := by
  rcases h with ⟨i, t, rfl⟩ | ⟨x, t, rfl⟩ <;> exact ⟨_, by cases n <;> rfl⟩
theorem class_key {k : List Key} {b : Addr} {Q : Bool → Shared → Prop} (hk : IsK P w s.heap k b) (q : Q false s) : wpAny (model P w) A (ofAClassStatement 8 (.ref b)) Q E s := by
  have ty := hk.typeIs
  obtain ⟨o, its, n, h1, _, h2, h3⟩ := hk
  have fl := flt_of h3
  unfold ofAClassStatement
  refine wpAny_bind (wpAny_typeOf ty ?_)
  dsimp only
  simp only [show (("tuple" : String) == "tuple") = true by decide, if_true, Bool.not_true, Bool.false_eq_true, if_false]
  try refine wpAny_bind (wpAny_pure ?_)
  try simp only [Bool.not_true, Bool.false_eq_true, if_false]
  show wpAny _ _ (seqItems? (.ref b) >>= _) _ _ _
  refine wpAny_bind (wpAny_seqItems h1 h2 ?_)
  dsimp only
  refine wpAny_bind ?_
  show wpAny _ _ (forIn its _ _) _ _ _
  rw [← Array.forIn_toList]
  refine wpAny_forIn_list _ (fun l r z => r.1 = none ∧ z = s ∧ ∀ v ∈ l, Flt v) _ (fun v l r z hz => ?_) (fun r z hz => ?_) _ _ ⟨rfl, rfl, fl⟩
  · obtain ⟨e1, rfl, e2⟩ := hz
    rw [noClass (e2 v (.head _))]
    refine wpAny_bind (wpAny_pure ?_)
    simp only [Bool.false_eq_true, if_false]
    exact wpAny_pure ⟨rfl, rfl, fun u hu => e2 u (.tail _ hu)⟩
  · obtain ⟨r1, r2⟩ := r
    obtain ⟨e1, rfl, _⟩ := hz
    cases (show r1 = none from e1)
    exact wpAny_pure q
/-- hashed by value, or not -/
theorem value_key {k : List Key} {b : Addr} {Q : Bool → Shared → Prop} (hk : IsK P w s.heap k b) (q : ∀ c, Q c s) : wpAny (model P w) A (hashByValue 8 (.ref b)) Q E s := by
  have ty := hk.typeIs
  obtain ⟨o, its, n, h1, _, h2, h3⟩ := hk
  have fl := flt_of h3
  unfold hashByValue
  refine wpAny_bind (wpAny_specialOf ty F.slot_tuple_hash.lookup ?_)
  show wpAny _ _ (seqItems? (.ref b) >>= _) _ _ _
  refine wpAny_bind (wpAny_seqItems h1 h2 ?_)
  refine wpAny_bind ?_
  show wpAny _ _ (forIn its _ _) _ _ _
  rw [← Array.forIn_toList]
  refine wpAny_forIn_list _ (fun l r z => z = s ∧ ∀ v ∈ l, Flt v) _ (fun v l r z hz => ?_) (fun r z hz => ?_) _ _ ⟨rfl, fl⟩
  · obtain ⟨rfl, e2⟩ := hz
    obtain ⟨c, e⟩ := byVal (e2 v (.head _)) 7
    rw [e]
    refine wpAny_bind (wpAny_pure ?_)
    cases c with
    | true =>
      simp only [Bool.not_true, Bool.false_eq_true, if_false]
      exact wpAny_pure ⟨rfl, fun u hu => e2 u (.tail _ hu)⟩
    | false =>
      simp only [Bool.not_false, if_true]
      exact wpAny_pure (wpAny_pure (q _))
  · obtain ⟨rfl, _⟩ := hz
    obtain ⟨r1, r2⟩ := r
    cases r1 with
    | none => exact wpAny_pure (q _)
    | some c => exact wpAny_pure (q _)
/-- looking for one among others shows nothing -/
theorem unseen {k : List Key} {b : Addr} {Q : Bool → Shared → Prop} (hk : IsK P w s.heap k b) {ys : List Value} (hy : ∀ y ∈ ys, ∃ g c, y = Value.ref c ∧ IsK P w s.heap g c) (q : Q false s) : wpAny (model P w) A (searchCouldBeSeen (.ref b) ys) Q E s := by
  unfold searchCouldBeSeen
  refine wpAny_bind ?_
  refine wpAny_forIn_list _ (fun l r z => r.1 = none ∧ z = s ∧ ∀ y ∈ l, ∃ g c, y = Value.ref c ∧ IsK P w s.heap g c) _ (fun v l r z hz => ?_) (fun r z hz => ?_) _ _ ⟨rfl, rfl, hy⟩
  · obtain ⟨e1, rfl, e2⟩ := hz
    obtain ⟨g, c, rfl, hc⟩ := e2 v (.head _)
    have rest : ∀ y ∈ l, ∃ g c, y = Value.ref c ∧ IsK P w z.heap g c := fun u hu => e2 u (.tail _ hu)
    dsimp only
    by_cases very : (b == c || (carriedByValue (.ref b) && carriedByValue (.ref c))) = true
    · exact wp_if_pos very (wpAny_pure ⟨rfl, rfl, rest⟩)
    · refine wp_if_neg very (wpAny_bind (wpAny_eqIsQuiet_tuple hk ?_))
      simp only [Bool.not_true, Bool.false_eq_true, if_false]
      refine wpAny_bind (wpAny_eqIsQuiet_tuple hc ?_)
      simp only [Bool.not_true, Bool.false_eq_true, if_false]
      refine wpAny_bind (class_key hk ?_)
      simp only [Bool.false_eq_true, if_false]
      refine wpAny_bind (class_key hc ?_)
      simp only [Bool.false_eq_true, if_false]
      exact wpAny_pure ⟨rfl, rfl, rest⟩
  · obtain ⟨r1, r2⟩ := r
    obtain ⟨e1, rfl, _⟩ := hz
    cases (show r1 = none from e1)
    exact wpAny_pure q
def ents (P : Program) (w : World) (L : List (Addr × List Key)) : List (Int × Value) := L.map fun p => (kh P w p.2, Value.ref p.1)
structure Ts (P : Program) (w : World) (h : Heap) (a : Addr) (L : List (Addr × List Key)) (es : Array (Int × Value)) (ep : Nat) (t : SetTable) : Prop where
  ob : ∃ o, h.get? a = some o ∧ o.ExactSet ∧ o.data = .set es ep t
  en : es.toList = ents P w L
  tb : Tb t (L.map fun p => kh P w p.2)
  nd : (L.map (·.2)).Nodup
  ky : ∀ p ∈ L, IsK P w h p.2 p.1
  led : w.params.followText "set-order" = true ∨ t.led = true
  room : L.length * 5 < t.mask * 3
variable {a : Addr} {L : List (Addr × List Key)} {es : Array (Int × Value)} {ep : Nat} {t : SetTable}
theorem ents_len (h : es.toList = ents P w L) : es.size = L.length := by
  rw [← Array.length_toList, h]
  exact List.length_map ..
theorem ents_at (h : es.toList = ents P w L) {i : Nat} {p : Addr × List Key} (e : L[i]? = some p) : es[i]? = some (kh P w p.2, Value.ref p.1) := by
  rw [← Array.getElem?_toList, h]
  unfold ents
  rw [List.getElem?_map, e]
  rfl
theorem fits_of {n : Nat} (e : t.place.size = n) (d : t.dummies = #[]) (l : n ≤ t.mask) : t.fits n = true := by
  unfold SetTable.fits SetTable.fill
  rw [d, e]
  simpa using l
theorem Ts.fits (R : Ts P w s.heap a L es ep t) : t.fits es.size = true := by
  have e := ents_len R.en
  have r := R.room
  refine fits_of (R.tb.size.trans ?_) R.tb.nodum (by omega)
  rw [List.length_map, e]
theorem Ts.few (R : Ts P w s.heap a L es ep t) : L.length ≤ 306 := by
  have r := R.room
  have m := R.tb.mask.small
  omega
/-- the c-th place of the way -/
abbrev wy (t : SetTable) (g : Int) (c : Nat) : SetTable.Probe := nth t.mask (runAt t.mask (SetTable.bits g % (t.mask + 1)) (SetTable.bits g)) c
theorem wy_dummy (t : SetTable) (g : Int) : ∀ c, (wy t g c).dummy = none
  | 0 => rfl
  | c + 1 => by
    unfold wy
    rw [nth_succ]
    have ih := wy_dummy t g c
    unfold wy at ih
    unfold adv
    split
    · exact ih
    · exact ih
theorem wy_more (t : SetTable) (g : Int) (c q : Nat) : nth t.mask (wy t g c) q = wy t g (c + q) := (nth_add t.mask c _ q).symm
/-- looking for a key from the c-th place of its way on -/
theorem look_from (R : Ts P w s.heap a L es ep t) {x : Addr} {k : List Key} (hx : IsK P w s.heap k x) (hu : A.units < cLine) {K : Nat} (kf : K < 10 * SetTable.turns t.mask) (gap : way t.mask (kh P w k) K ∉ t.place.toList)
    (full : ∀ c, c < K → way t.mask (kh P w k) c ∈ t.place.toList) {Q : SetFound → Shared → Prop} (yes : k ∈ L.map (·.2) → Q (.there none) s) (no : k ∉ L.map (·.2) → Q (.free (way t.mask (kh P w k) K) false) s) :
    ∀ (f c : Nat) (stand : Option SetTable.Probe), stand.getD (t.probeStart (kh P w k)) = wy t (kh P w k) c → c ≤ K → K - c < f →
      (∀ (i : Nat) p, L[i]? = some p → p.2 = k → ∃ d, c ≤ d ∧ d < K ∧ t.place.toList[i]? = some (way t.mask (kh P w k) d)) → wpAny (model P w) A (setSearchFrom a (.ref x) (kh P w k) true f stand) Q E s
  | 0, c, stand, _, _, z, _ => absurd z (Nat.not_lt_zero _)
  | f + 1, c, stand, hst, hc, hf, left => by
    obtain ⟨o, ho, hex, hd⟩ := R.ob
    have fits := R.fits
    rw [setSearchFrom_succ]
    refine wpAny_bind (wpAny_setState_of ho hd fits ?_)
    dsimp only
    refine wp_if_neg (show ¬ t.gaveWay = true by unfold SetTable.gaveWay; rw [R.tb.mask.odd]; decide) ?_
    try refine wpAny_bind (wpAny_pure ?_)
    have place : ∀ q, (nth t.mask (wy t (kh P w k) c) q).j = way t.mask (kh P w k) (c + q) := fun q => congrArg SetTable.Probe.j (wy_more t _ c q)
    have ck : c + (K - c) = K := by omega
    have hashes : ∀ (i : Nat) p, L[i]? = some p → (es[i]?.map (·.1)).getD 0 = kh P w p.2 := fun i p hp => by rw [ents_at R.en hp]; rfl
    rcases go_spec t R.tb.up R.tb.nodum (fun i => (es[i]?.map (·.1)).getD 0) (kh P w k) (10 * SetTable.turns t.mask) (K - c) (wy t (kh P w k) c) (wy_dummy t _ c) (by omega)
      (fun q hq => by rw [place]; exact full _ (by omega)) (by rw [place, ck]; exact gap) with ⟨q, i, hq, hi, hh, hno, met⟩ | ⟨hno, met⟩
    · have met2 : t.probe (fun i => (es[i]?.map (·.1)).getD 0) (kh P w k) (stand.getD (t.probeStart (kh P w k))) = some (.candidate (way t.mask (kh P w k) (c + q)) i (wy t (kh P w k) (c + (q + 1)))) := by
        rw [hst, ← place, ← wy_more]
        exact met
      rw [met2]
      dsimp only
      rw [place] at hi
      have il : i < L.length := by
        have h1 := (List.getElem?_eq_some_iff.mp hi).1
        have h2 := R.tb.size
        rw [List.length_map] at h2
        rw [Array.length_toList] at h1
        omega
      obtain ⟨p, hp⟩ : ∃ p, L[i]? = some p := ⟨_, List.getElem?_eq_getElem il⟩
      have pm : p ∈ L := List.mem_of_getElem? hp
      have live : t.slot (way t.mask (kh P w k) (c + q)) = .live i := slot_live R.tb.up hi
      have go : wpAny (model P w) A (searchRest a (.ref x) (kh P w k) true f es t (way t.mask (kh P w k) (c + q)) i (wy t (kh P w k) (c + (q + 1)))) Q E s := by
        unfold searchRest
        rw [ents_at R.en hp]
        dsimp only
        refine wpAny_bind (wpAny_holding (wpAny_eqBool_tuple hu (R.ky p pm) hx ?_))
        refine wpAny_bind (wpAny_setState_of ho hd fits ?_)
        dsimp only
        by_cases same : p.2 = k
        · exact wp_if_pos (by rw [decide_eq_true same]; rfl) (wpAny_pure (yes (List.mem_map.mpr ⟨p, pm, same⟩)))
        · refine wp_if_neg (by rw [decide_eq_false same]; decide) ?_
          try refine wpAny_bind (wpAny_pure ?_)
          rw [sameMem]
          dsimp only
          simp only [if_true, live, ents_at R.en hp]
          refine wpAny_bind (wpAny_isSame_ref_self (wpAny_bind (wpAny_pure ?_)))
          simp only [if_true]
          refine wp_if_neg (by rw [decide_eq_false same]; decide) ?_
          refine look_from R hx hu kf gap full yes no f (c + (q + 1)) _ rfl (by omega) (by omega) fun i0 p0 h0 k0 => ?_
          obtain ⟨d, a1, a2, a3⟩ := left i0 p0 h0 k0
          refine ⟨d, ?_, a2, a3⟩
          by_cases z : d < c + q
          · exact absurd ((hashes i0 p0 h0).trans (congrArg (kh P w) k0)) (hno (d - c) i0 (by omega) (by rw [place, show c + (d - c) = d by omega]; exact a3))
          · by_cases y : d = c + q
            · subst y
              have e0 := slot_live R.tb.up a3
              rw [live] at e0
              cases e0
              rw [hp] at h0
              cases h0
              exact absurd k0 same
            · omega
      by_cases led : t.led = true
      · refine wp_if_neg (by rw [led]; decide) ?_
        try refine wpAny_bind (wpAny_pure ?_)
        exact go
      · refine wp_if_pos (by simpa using led) (wpAny_bind (unseen hx (fun y hy => ?_) ?_))
        · obtain ⟨e, he, rfl⟩ := List.mem_map.mp hy
          have he : e ∈ es.toList := by
            have : e ∈ es ∧ e.1 = kh P w k := by simpa using he
            simpa using this.1
          rw [R.en] at he
          obtain ⟨p2, hp2, rfl⟩ := List.mem_map.mp he
          exact ⟨p2.2, p2.1, rfl, R.ky p2 hp2⟩
        · refine wp_if_neg (by decide) ?_
          try refine wpAny_bind (wpAny_pure ?_)
          exact go
    · have met2 : t.probe (fun i => (es[i]?.map (·.1)).getD 0) (kh P w k) (stand.getD (t.probeStart (kh P w k))) = some (.empty (way t.mask (kh P w k) K) none) := by
        have e2 := place (K - c)
        rw [ck] at e2
        rw [hst, ← e2]
        exact met
      rw [met2]
      dsimp only
      refine wpAny_pure (no fun hm => ?_)
      obtain ⟨p0, h0, rfl⟩ := List.mem_map.mp hm
      obtain ⟨i0, h1, e0⟩ := List.getElem_of_mem h0
      have h00 : L[i0]? = some p0 := by rw [List.getElem?_eq_getElem h1, e0]
      obtain ⟨d, a1, a2, a3⟩ := left i0 p0 h00 rfl
      exact hno (d - c) i0 (by omega) (by rw [place, show c + (d - c) = d by omega]; exact a3) (hashes i0 p0 h00)
theorem look_at (R : Ts P w s.heap a L es ep t) {x : Addr} {k : List Key} (hx : IsK P w s.heap k x) (hu : A.units < cLine) {Q : SetFound → Shared → Prop} (yes : k ∈ L.map (·.2) → Q (.there none) s)
    (no : ∀ K, k ∉ L.map (·.2) → way t.mask (kh P w k) K ∉ t.place.toList → (∀ c, c < K → way t.mask (kh P w k) c ∈ t.place.toList) → Q (.free (way t.mask (kh P w k) K) false) s) :
    wpAny (model P w) A (setSearch a (.ref x) (kh P w k) true) Q E s := by
  have r := R.room
  have m := R.tb.mask.small
  obtain ⟨K, kf, gap, full⟩ := R.tb.gap (by rw [List.length_map]; omega) (kh P w k)
  have big : K < 100000 := by
    have e : SetTable.turns t.mask = t.mask + 15 := rfl
    rw [e] at kf
    omega
  unfold setSearch
  refine look_from R hx hu kf gap full yes (fun z => no K z gap full) 100000 0 none rfl (Nat.zero_le _) (by omega) fun i p hp hk => ?_
  have hi : (L.map fun p => kh P w p.2)[i]? = some (kh P w k) := by rw [List.getElem?_map, hp, ← hk]; rfl
  have il : i < t.place.toList.length := by
    have h1 := (List.getElem?_eq_some_iff.mp hp).1
    rw [Array.length_toList, R.tb.size, List.length_map]
    exact h1
  obtain ⟨c, hc, e⟩ := R.tb.ahead gap hi (List.getElem?_eq_getElem il)
  exact ⟨c, Nat.zero_le _, hc, by rw [e]; exact List.getElem?_eq_getElem il⟩
end
end Smk
namespace Smk
open PySem PySem.Spec PyProof.Rows L2
section
variable {P : Program} {w : World} {A : Around} {E : Value → Shared → Prop} {s : Shared}
theorem IsK.other {h h' : Heap} {k : List Key} {a b : Addr} {o : Obj} {es : Array (Int × Value)} {ep : Nat} {t : SetTable} (hb : IsK P w h k b) (ho : h.get? a = some o) (hd : o.data = .set es ep t) (hs : Heap.SameBut a h h') : IsK P w h' k b := by
  obtain ⟨u, its, n, e1, e2, e3, e4⟩ := hb
  refine ⟨u, its, n, (hs.2 b fun z => ?_).trans e1, e2, e3, e4⟩
  subst z
  rw [ho] at e1
  cases e1
  rw [hd] at e3
  cases e3
theorem IsK.stay {h h' : Heap} {k : List Key} {b : Addr} (x : IsK P w h k b) (hk : ∀ c o, h.get? c = some o → h'.get? c = some o) : IsK P w h' k b := by
  obtain ⟨u, its, n, e1, r⟩ := x
  exact ⟨u, its, n, hk b u e1, r⟩
theorem pick_range {α : Type} (L : List α) : ∀ n, n ≤ L.length → (List.range n).filterMap (fun i => L[i]?) = L.take n
  | 0, _ => rfl
  | n + 1, h => by
    rw [List.range_succ, List.filterMap_append, pick_range L n (by omega), List.take_succ, List.getElem?_eq_getElem h, List.filterMap_cons_some (List.getElem?_eq_getElem h)]
    rfl
/-- entries in another order -/
theorem ents_perm {L : List (Addr × List Key)} {es : Array (Int × Value)} {order : Array Nat} (hr : es.toList = ents P w L) (hp : order.toList.Perm (List.range L.length)) :
    ∃ L2, (order.filterMap (es[·]?)).toList = ents P w L2 ∧ L2.Perm L ∧ (L2.map fun p => kh P w p.2) = order.toList.map fun i => (es.map (·.1)).getD i 0 := by
  have all : ∀ l : List Nat, (∀ i ∈ l, i < L.length) → l.filterMap (fun i => es[i]?) = ents P w (l.filterMap fun i => L[i]?) ∧ ((l.filterMap fun i => L[i]?).map fun p => kh P w p.2) = l.map fun i => (es.map (·.1)).getD i 0 := by
    intro l
    induction l with
    | nil => exact fun _ => ⟨rfl, rfl⟩
    | cons i l ih =>
      intro hl
      obtain ⟨p, hi⟩ : ∃ p, L[i]? = some p := ⟨_, List.getElem?_eq_getElem (hl i (.head _))⟩
      have he := ents_at (P := P) (w := w) hr hi
      obtain ⟨e1, e2⟩ := ih fun j hj => hl j (.tail _ hj)
      refine ⟨?_, ?_⟩
      · rw [List.filterMap_cons_some he, List.filterMap_cons_some hi, e1]
        rfl
      · rw [List.filterMap_cons_some hi, List.map_cons, List.map_cons, e2]
        congr 1
        rw [Array.getD_eq_getD_getElem?, Array.getElem?_map, he]
        rfl
  obtain ⟨e1, e2⟩ := all order.toList fun i hi => List.mem_range.mp (hp.mem_iff.mp hi)
  refine ⟨_, by first | (rw [Array.toList_filterMap]; exact e1) | simpa using e1, ?_, e2⟩
  have q := hp.filterMap fun i => L[i]?
  rw [pick_range L _ (Nat.le_refl _), List.take_length] at q
  exact q
theorem ents_ins (L : List (Addr × List Key)) (p : Nat) (x : Addr) (k : List Key) : ents P w (L.take p ++ (x, k) :: L.drop p) = (ents P w L).take p ++ (kh P w k, Value.ref x) :: (ents P w L).drop p := by
  unfold ents
  rw [List.map_append, List.map_cons, List.map_take, List.map_drop]
variable {a : Addr} {L : List (Addr × List Key)} {es : Array (Int × Value)} {ep : Nat} {t : SetTable}
/-- a larger table -/
theorem larger {o : Obj} (ho : s.heap.get? a = some o) (hex : o.ExactSet) (hd : o.data = .set es ep t) (en : es.toList = ents P w L) (tb : Tb t (L.map fun p => kh P w p.2)) (fl : L.length ≤ t.mask)
    (nd : (L.map (·.2)).Nodup) (ky : ∀ p ∈ L, IsK P w s.heap p.2 p.1) (led : w.params.followText "set-order" = true ∨ t.led = true) {wanted M : Nat}
    (hw : SetTable.sizeAbove wanted - 1 = M) (hM : MOk M) (h512 : SetTable.sizeAbove wanted ≤ 512) (room : L.length * 5 < M * 3) {Q : Unit → Shared → Prop}
    (q : ∀ h' L' es' ep' t', Heap.SameBut a s.heap h' → Ts P w h' a L' es' ep' t' → L'.Perm L → Q () { s with heap := h' }) : wpAny (model P w) A (setRelay a wanted) Q E s := by
  have sz := ents_len en
  have fit : t.fits es.size = true := fits_of (by rw [tb.size, List.length_map, sz]) tb.nodum (by omega)
  have m := hM.small
  obtain ⟨t', order, e, hp, T, em, el⟩ := laid_ok t (hs := es.map (·.1)) hw hM (by rw [Array.size_map, sz]; omega)
  rw [Array.size_map, sz] at hp
  obtain ⟨L2, r1, r2, r3⟩ := ents_perm en hp
  rw [← r3] at T
  have sz2 := ents_len r1
  rw [r2.length_eq] at sz2
  rw [setRelay_eq]
  refine wpAny_bind (wpAny_setState_of ho hd fit ?_)
  dsimp only
  refine wp_if_neg (by rw [sizeLine_eq]; omega) ?_
  try refine wpAny_bind (wpAny_pure ?_)
  rw [e]
  dsimp only
  refine wpAny_bind ?_
  refine wp_if_neg (by rw [sz2, sz]; simp) ?_
  try refine wpAny_bind (wpAny_pure ?_)
  refine wpAny_pure ?_
  dsimp only
  generalize order.filterMap (es[·]?) = es2 at r1 sz2 ⊢
  refine wpAny_storeSet_of ho hd ?_ (by rw [sz2, sizeLine_eq]; omega)
  have sb : Heap.SameBut a s.heap (s.heap.update a (Obj.putSet es2 t')) := .update ..
  exact q _ L2 es2 (ep + 1) t' sb ⟨⟨_, store_at ho hd, ⟨hex.1, hex.2.1, hex.2.2⟩, rfl⟩, r1, T, (r2.map (·.2)).nodup_iff.mpr nd, fun p z => (ky p (r2.mem_iff.mp z)).other ho hd sb, by rw [el]; exact led, by rw [r2.length_eq, em]; exact room⟩ r2
/-- putting a key in -/
theorem put_key (R : Ts P w s.heap a L es ep t) {x : Addr} {k : List Key} (hx : IsK P w s.heap k x) (hu : A.units < cLine) (few : L.length + 1 ≤ 306 ∨ k ∈ L.map (·.2)) {Q : Bool → Shared → Prop}
    (q : ∀ b h' L' es' ep' t', Heap.SameBut a s.heap h' → Ts P w h' a L' es' ep' t' → (k ∈ L.map (·.2) → L' = L) → (k ∉ L.map (·.2) → L'.Perm ((x, k) :: L)) → Q b { s with heap := h' }) :
    wpAny (model P w) A (setAddHashed a (.ref x) (kh P w k)) Q E s := by
  obtain ⟨o, ho, hex, hd⟩ := R.ob
  have sz := ents_len R.en
  have room := R.room
  have fit := R.fits
  unfold setAddHashed
  refine wpAny_holding ?_
  rw [show (100000 : Nat) = 99999 + 1 from rfl, setAddHashedIn_succ]
  refine wpAny_bind (wpAny_setState_of ho hd fit ?_)
  dsimp only
  refine wp_if_neg (show ¬ byScan (.ref x) es = true from Bool.false_ne_true) ?_
  try refine wpAny_bind (wpAny_pure ?_)
  refine wpAny_bind (look_at R hx hu (fun hm => ?_) fun K hm gap full => ?_)
  · exact wpAny_pure (q false s.heap L es ep t (.refl a _) R (fun _ => rfl) fun z => absurd hm z)
  dsimp only
  have few : L.length + 1 ≤ 306 := few.resolve_right hm
  refine wpAny_bind (wpAny_setState_of ho hd fit ?_)
  dsimp only
  obtain ⟨j, hj⟩ : ∃ j, j = way t.mask (kh P w k) K := ⟨_, rfl⟩
  obtain ⟨p, hpp⟩ : ∃ p, p = SetTable.below t.place j := ⟨_, rfl⟩
  obtain ⟨q1, q2, q3, q4, q5, q6⟩ := R.tb.more gap full hj hpp
  rw [← hj]
  generalize hpt : t.put j = pt at q1 q3 q4 q5 q6 ⊢
  obtain ⟨t1, p1⟩ := pt
  dsimp only at q1 q3 q4 q5 q6 ⊢
  subst q1
  rw [List.length_map] at q2 q6
  have pm := put_perm L p1 (x, k)
  have pl : (L.take p1 ++ (x, k) :: L.drop p1).length = L.length + 1 := pm.length_eq
  have hin : (SetTable.insertAt es p1 (kh P w k, Value.ref x)).toList = ents P w (L.take p1 ++ (x, k) :: L.drop p1) := by rw [SetTable.toList_insertAt, ents_ins, R.en]
  have hmap : (L.take p1 ++ (x, k) :: L.drop p1).map (fun p => kh P w p.2) = (L.map fun p => kh P w p.2).take p1 ++ kh P w k :: (L.map fun p => kh P w p.2).drop p1 := by rw [List.map_append, List.map_cons, List.map_take, List.map_drop]
  rw [← hmap] at q3
  have nd1 : ((L.take p1 ++ (x, k) :: L.drop p1).map (·.2)).Nodup := (pm.map (·.2)).nodup_iff.mpr (List.nodup_cons.mpr ⟨hm, R.nd⟩)
  have hes := ents_len hin
  rw [pl] at hes
  generalize SetTable.insertAt es p1 (kh P w k, Value.ref x) = es1 at hin hes ⊢
  generalize L.take p1 ++ (x, k) :: L.drop p1 = L1 at pm pl q3 nd1 hin
  -- whatever is said of hashing by value, the table goes on
  have rest : ∀ t2 : SetTable, t2.place = t1.place → t2.dummies = t1.dummies → t2.mask = t1.mask → t2.led = t1.led → wpAny (model P w) A (do
      storeSet a es1 t2
      if !false && t2.tooFull then setRelay a (SetTable.grown (es.size + 1))
      return true) Q E s := fun t2 u1 u2 u3 u4 => by
    have tb2 : Tb t2 (L1.map fun p => kh P w p.2) := ⟨by rw [u1]; exact q3.up, by rw [u2]; exact q3.nodum, by rw [u1]; exact q3.size, by rw [u3]; exact q3.mask, by rw [u1, u3]; exact q3.found⟩
    have fill2 : t2.fill = L.length + 1 := by
      rw [← q6]
      unfold SetTable.fill
      rw [u1, u2]
    refine wpAny_bind (wpAny_storeSet_of ho hd ?_ (by rw [hes, sizeLine_eq]; omega))
    have sb : Heap.SameBut a s.heap (s.heap.update a (Obj.putSet es1 t2)) := .update ..
    have ho1 := store_at (es' := es1) (t' := t2) ho hd
    generalize s.heap.update a (Obj.putSet es1 t2) = h1 at sb ho1 ⊢
    have ky1 : ∀ p ∈ L1, IsK P w h1 p.2 p.1 := fun p hp => by
      rcases List.mem_cons.mp (pm.mem_iff.mp hp) with e | hp
      · rw [e]
        exact hx.other ho hd sb
      · exact (R.ky p hp).other ho hd sb
    have led2 : w.params.followText "set-order" = true ∨ t2.led = true := by rw [u4, q5]; exact R.led
    by_cases tf : t2.tooFull = true
    · have full : (L.length + 1) * 5 ≥ t.mask * 3 := by
        have z := tf
        unfold SetTable.tooFull at z
        rw [decide_eq_true_eq, fill2, u3, q4] at z
        exact z
      have go : ∀ M, SetTable.sizeAbove (SetTable.grown (L.length + 1)) - 1 = M → MOk M → SetTable.sizeAbove (SetTable.grown (L.length + 1)) ≤ 512 → (L.length + 1) * 5 < M * 3 →
          wpAny (model P w) A (setRelay a (SetTable.grown (L.length + 1))) (fun _ s' => wpAny (model P w) A (pure true) Q E s') E { s with heap := h1 } := fun M g1 g2 g3 g4 =>
        larger (s := { s with heap := h1 }) ho1 ⟨hex.1, hex.2.1, hex.2.2⟩ rfl hin tb2 (by rw [pl, u3, q4]; omega) nd1 ky1 led2 g1 g2 g3 (by rw [pl]; exact g4) fun h2 L2 es2 ep2 t2 sb2 R2 pm2 =>
          wpAny_pure (q true h2 L2 es2 ep2 t2 (sb.trans sb2) R2 (fun z => absurd z hm) fun _ => pm2.trans pm)
      refine wp_if_pos (by rw [tf]; rfl) (wpAny_bind ?_)
      rw [sz]
      have m := R.tb.mask.small
      -- 5 of 8, 19 of 32, 77 of 128; 306 of 512 are too few
      have which : (t.mask = 7 ∨ t.mask = 31 ∨ t.mask = 127 ∨ t.mask = 511) → wpAny (model P w) A (setRelay a (SetTable.grown (L.length + 1))) (fun _ s' => wpAny (model P w) A (pure true) Q E s') E { s with heap := h1 } := fun c => by
        rcases c with c | c | c | c
        · rw [c] at room full
          obtain e : L.length + 1 = 5 := by omega
          rw [e] at go ⊢
          exact go 31 (by rw [grow5]) mok31 (by rw [grow5]; decide) (by decide)
        · rw [c] at room full
          obtain e : L.length + 1 = 19 := by omega
          rw [e] at go ⊢
          exact go 127 (by rw [grow19]) mok127 (by rw [grow19]; decide) (by decide)
        · rw [c] at room full
          obtain e : L.length + 1 = 77 := by omega
          rw [e] at go ⊢
          exact go 511 (by rw [grow77]) mok511 (by rw [grow77]; decide) (by decide)
        · rw [c] at full
          omega
      exact which R.tb.mask.one
    · refine wp_if_neg (by simpa using tf) ?_
      refine wpAny_pure (q true h1 L1 es1 (ep + 1) t2 sb ⟨⟨_, ho1, ⟨hex.1, hex.2.1, hex.2.2⟩, rfl⟩, hin, tb2, nd1, ky1, led2, ?_⟩ (fun z => absurd z hm) fun _ => pm)
      have z := tf
      unfold SetTable.tooFull at z
      rw [decide_eq_true_eq, fill2] at z
      rw [pl]
      omega
  have both : ∀ c : Bool, wpAny (model P w) A (do
      storeSet a es1 (if c = true then t1 else { t1 with plain := false })
      if !false && (if c = true then t1 else { t1 with plain := false }).tooFull then setRelay a (SetTable.grown (es.size + 1))
      return true) Q E s := fun c => by
    cases c with
    | true => exact rest t1 rfl rfl rfl rfl
    | false => exact rest { t1 with plain := false } rfl rfl rfl rfl
  by_cases pl : t1.plain = true
  · exact wp_if_pos pl (wpAny_bind (value_key hx fun c => both c))
  · exact wp_if_neg pl (wpAny_bind (wpAny_pure (both true)))
/-- what the set has of the first i -/
structure Have (ks : List (Addr × List Key)) (i : Nat) (L : List (Addr × List Key)) : Prop where
  sub : ∀ p ∈ L, p ∈ ks.take i
  all : ∀ p ∈ ks.take i, p.2 ∈ L.map (·.2)
theorem Have.next {ks L L' : List (Addr × List Key)} {i : Nat} {x : Addr × List Key} (g : Have ks i L) (h : ks[i]? = some x) (c1 : x.2 ∈ L.map (·.2) → L' = L) (c2 : x.2 ∉ L.map (·.2) → L'.Perm (x :: L)) : Have ks (i + 1) L' := by
  have e : ks.take (i + 1) = ks.take i ++ [x] := by rw [List.take_add_one, h]; rfl
  by_cases hm : x.2 ∈ L.map (·.2)
  · rw [c1 hm]
    refine ⟨fun p hp => ?_, fun p hp => ?_⟩
    · rw [e]
      exact List.mem_append_left _ (g.sub p hp)
    · rw [e] at hp
      rcases List.mem_append.mp hp with z | z
      · exact g.all p z
      · rw [List.mem_singleton.mp z]
        exact hm
  · have pm := c2 hm
    refine ⟨fun p hp => ?_, fun p hp => ?_⟩
    · rw [e]
      rcases List.mem_cons.mp (pm.mem_iff.mp hp) with z | z
      · exact List.mem_append_right _ (List.mem_singleton.mpr z)
      · exact List.mem_append_left _ (g.sub p z)
    · rw [e] at hp
      rw [(pm.map (·.2)).mem_iff]
      rcases List.mem_append.mp hp with z | z
      · exact List.mem_cons_of_mem _ (g.all p z)
      · rw [List.mem_singleton.mp z]
        exact List.mem_cons_self
theorem Ts.stay {h h' : Heap} (R : Ts P w h a L es ep t) (ha : ∀ o, h.get? a = some o → h'.get? a = some o) (ht : ∀ p ∈ L, IsK P w h' p.2 p.1) : Ts P w h' a L es ep t := by
  obtain ⟨o, ho, r⟩ := R.ob
  exact ⟨⟨o, ha o ho, r⟩, R.en, R.tb, R.nd, ht, R.led, R.room⟩
def newSet (w : World) : Obj := { cls := .type "set", dict := none, data := .set #[] 0 (.fresh 0 0 (!w.params.followText "set-order")) }
theorem ts_new {h : Heap} (ho : h.get? a = some (newSet w)) : Ts P w h a [] #[] 0 (.fresh 0 0 (!w.params.followText "set-order")) :=
  ⟨⟨_, ho, ⟨rfl, rfl, rfl⟩, rfl⟩, rfl, ⟨.nil, rfl, rfl, mok7, fun i h j z => by cases z⟩, .nil, (fun _ z => nomatch z), by
    show _ ∨ (!w.params.followText "set-order") = true
    cases w.params.followText "set-order"
    · exact .inr rfl
    · exact .inl rfl, show 0 * 5 < 7 * 3 by decide⟩
/-- the loop of set.update -/
theorem update_keys {I : Addr} {fp wr : List Addr} {G : Array GenState → Array GenState → Prop} {n : Nat} {Pv : Nat → Value → Prop} {St : Nat → Shared → Prop} {R : Result → Shared → Prop}
    (W : WalksS P w A.in1 I fp wr G n Pv St) (S : Addr) (hSf : S ∉ fp) (ks : List (Addr × List Key)) (hn : n = ks.length) (few : ∀ L : List (Addr × List Key), (∀ p ∈ L, p ∈ ks) → (L.map (·.2)).Nodup → L.length ≤ 306) (val : ∀ i v, Pv i v → ∃ p, ks[i]? = some p ∧ v = .ref p.1)
    (h0 : Heap) (hk : ∀ p ∈ ks, IsK P w h0 p.2 p.1) (hS0 : h0.get? S = none) (hw0 : ∀ b ∈ wr, h0.get? b = none) (hu : A.in1.units < cLine) :
    ∀ (k i : Nat) (s : Shared), n - i = k → i ≤ n → St i s → (∀ b o, h0.get? b = some o → s.heap.get? b = some o) → (∃ L es ep t, Ts P w s.heap S L es ep t ∧ Have ks i L) →
      (∀ s' L es ep t, Moved (S :: wr) G s s' → Ts P w s'.heap S L es ep t → Have ks n L → (∀ b o, h0.get? b = some o → s'.heap.get? b = some o) → R (.ok (.ret .none)) s') →
      codeAny (model P w) A (.builtin "set.update.loop" ⟨[.ref S, .ref I], []⟩) R s := by
  have out : S ∉ wr := fun h => hSf (W.sub _ h)
  have up : ∀ b ∈ wr, b ∈ S :: wr := fun b hb => List.mem_cons_of_mem _ hb
  have on : ∀ {s s' : Shared}, Moved wr G s s' → (∀ b o, h0.get? b = some o → s.heap.get? b = some o) → ∀ b o, h0.get? b = some o → s'.heap.get? b = some o := fun hm e b o z => hm.heap b o (fun hb => by rw [hw0 b hb] at z; cases z) (e b o z)
  intro k
  induction k with
  | zero =>
    intro i s hk' hi hst hkp ⟨L, es, ep, t, hS, g⟩ hR
    obtain rfl : i = n := by omega
    refine codeAny_builtin F.entry_set_update_loop ?_
    rw [Around.under_plainId F.plain_set_update_loop _]
    show wpAny _ A.in1 (pyNext (.ref I) >>= _) _ _ _
    refine wpAny_bind (W.done s _ _ hst fun s' hm => ?_)
    show wpAny _ A.in1 (ret Value.none) _ _ _
    have e := on hm hkp
    exact wpAny_pure (hR s' L es ep t (hm.mono up) (hS.stay (fun o z => hm.heap S o out z) fun p hp => (hk p (List.mem_of_mem_take (g.sub p hp))).stay e) g e)
  | succ k ih =>
    intro i s hk' hi hst hkp ⟨L, es, ep, t, hS, g⟩ hR
    have hlt : i < n := by omega
    refine codeAny_builtin F.entry_set_update_loop ?_
    rw [Around.under_plainId F.plain_set_update_loop _]
    show wpAny _ A.in1 (pyNext (.ref I) >>= _) _ _ _
    refine wpAny_bind (W.item i s _ _ hlt hst fun v s' hP hst' hm => ?_)
    obtain ⟨p, hp, rfl⟩ := val i v hP
    have e := on hm hkp
    have subk : ∀ p ∈ L, p ∈ ks := fun p hp => List.mem_of_mem_take (g.sub p hp)
    have hS' : Ts P w s'.heap S L es ep t := hS.stay (fun o z => hm.heap S o out z) fun q hq => (hk q (subk q hq)).stay e
    have pk : p ∈ ks := List.mem_of_getElem? hp
    have hx : IsK P w s'.heap p.2 p.1 := (hk p pk).stay e
    show wpAny _ A.in1 (holding [Value.ref p.1] (setAdd S (.ref p.1)) >>= _) _ _ _
    refine wpAny_bind (wpAny_holding ?_)
    unfold setAdd
    refine wpAny_holding (wpAny_bind (wpAny_pyHash_tuple hu hx ?_))
    have few1 : L.length + 1 ≤ 306 ∨ p.2 ∈ L.map (·.2) := by
      by_cases c : p.2 ∈ L.map (·.2)
      · exact .inr c
      · exact .inl (few (p :: L) (fun q hq => by rcases List.mem_cons.mp hq with z | z; exact z ▸ pk; exact subk q z) (List.nodup_cons.mpr ⟨c, hS.nd⟩))
    refine put_key (s := { s' with toks := s'.toks + (p.2.length + 1) }) hS' hx hu few1 fun b h' L' es' ep' t' hsb hS2 c1 c2 => ?_
    have e2 : ∀ b o, h0.get? b = some o → h'.get? b = some o := fun b o z => (hsb.2 b (fun y => by rw [y, hS0] at z; cases z)).trans (e b o z)
    refine wpAny_pure ⟨plainId_quiet F.plain_set_update_loop _, ih (i + 1) _ (by omega) hlt (W.frame _ s' _ _ hst' (Nat.le_add_right _ _) fun b hb o z => ?_) e2 ⟨L', es', ep', t', hS2, g.next hp c1 c2⟩ fun s'' L2 es2 ep2 t2 hm2 hS3 g3 e3 => ?_⟩
    · rw [hsb.2 b (fun y : b = S => hSf (y ▸ hb))]
      exact z
    · refine hR s'' L2 es2 ep2 t2 (Moved.trans W.gtrans ((hm.mono up).then_heap (Nat.le_add_right _ _) fun b o hb z => ?_) hm2) hS3 g3 e3
      rw [hsb.2 b (fun y : b = S => hb (y ▸ List.mem_cons_self))]
      exact z
end
end Smk
namespace Dw
open PySem PySem.Spec PyProof.Rows L2 OgR Evl
section
variable {X : Cx} {C : Ct}
def rSetL (K : PySem.W.Frag) (w : World) : List V → Hp → VK → Prop := fun vs H Q => ∃ (p : Addr) (ns : List Int), vs = [V.ref p] ∧ SqL K H p (ns.map V.int) ∧ ns.length ≤ 1000 ∧ ∀ l c, H l = none → c ≤ ns.length → Q (.ref l) (upd H l (SetO w l (fun j => decide (j ∈ ns)) c))
def gSrtSet (d : PyData) (s : Dt) (Q : List PyData → Dt → Prop) : Prop := ∃ ns : List Int, d = .list (ns.map .int) ∧ ns.length ≤ 60 ∧ ∀ ks : List Int, ks.Pairwise (· < ·) → (∀ k, k ∈ ks ↔ k ∈ ns) → Q (ks.map .int) s
end
end Dw
namespace Smk
open PySem PySem.Spec PyProof.Rows L2
section
variable {P : Program} {w : World} {A : Around} {E : Value → Shared → Prop} {s : Shared}
set_option maxHeartbeats 3200000 in
theorem set_keys {l : Addr} {xs : Array Value} (ks : List (Addr × List Key)) {Q : Value → Shared → Prop} (nh : A.handled = none) (lst : s.heap.IsList l xs) (hit : xs.toList = ks.map fun p => Value.ref p.1) (hk : ∀ p ∈ ks, IsK P w s.heap p.2 p.1)
    (few : ∀ L : List (Addr × List Key), (∀ p ∈ L, p ∈ ks) → (L.map (·.2)).Nodup → L.length ≤ 306) (hu : A.units + 3 < cLine)
    (k : ∀ (h' : Heap) (tk : Nat) L es ep t, Ts P w h' s.heap.objs.size L es ep t → Have ks ks.length L → (∀ b o, s.heap.get? b = some o → h'.get? b = some o) → Q (.ref s.heap.objs.size) { s with heap := h', toks := tk }) :
    wpAny (model P w) A (call (.type "set") [.ref l]) Q E s := by
  have many : xs.size = ks.length := by rw [← Array.length_toList, hit, List.length_map]
  obtain ⟨c, tl, m1⟩ := F.called_set.mro
  have m2 := F.called_set.made
  have m3 := F.called_set.sub
  refine wpAny_call (codeAny_of_tree ?_)
  show wpAny _ _ (callAny (.type "set") _) _ _ _
  refine wpAny_pure ⟨Code.quiet_builtin _ (by decide +kernel), codeAny_builtin F.entry_type_call ?_⟩
  rw [Around.under_plain (weight_type_call_type "set" [.ref l] []) rfl]
  have m4 := F.called_set.notType
  have m5 := F.called_set.canCreate
  have m6 := F.typeCall_set_1 (.ref l)
  repeat (any_goals (first | assumption | wp_step))
  refine codeAny_mono (code_set_led1 (.ref l) (E := E) (Q₁ := fun o z => o = .ref s.heap.objs.size ∧ z = { s with heap := s.heap.push (newSet w) }) ⟨rfl, rfl⟩) fun r z hz => ?_
  cases r with
  | error e => exact hz
  | ok fl =>
    cases fl with
    | ret o =>
      obtain ⟨rfl, rfl⟩ := hz
      have here : (s.heap.push (newSet w)).get? s.heap.objs.size = some (newSet w) := Heap.get?_push_size _ rfl
      have ty : Shared.TypeIs { s with heap := s.heap.push (newSet w) } (.ref s.heap.objs.size) "set" := ⟨_, here, rfl⟩
      have i1 := F.called_set.init.lookup
      have i2 := F.called_set.init.bind (.ref s.heap.objs.size)
      repeat (any_goals (first | assumption | wp_step))
      refine codeAny_mono (codeAny_call_builtin (R := wants (fun r z => r = .none ∧ ∃ h' tk L es ep t, z = { s with heap := h', toks := tk } ∧ Ts P w h' s.heap.objs.size L es ep t ∧ Have ks ks.length L ∧ ∀ b o, s.heap.get? b = some o → h'.get? b = some o) E) F.called_set.init.plain F.entry_set_init (check_set_init_1 ty ?_)) fun r2 z2 hz2 => ?_
      · obtain ⟨ol, g1, g2, nl, g3⟩ := lst
        obtain ⟨o1, o2, o3, o4⟩ := ol
        simp only at g2 g3
        subst g2; subst g3
        have g4 : (s.heap.push (newSet w)).get? l = some { cls := .type "list", dict := o2, data := .seq xs nl, slots := o4 } := Heap.get?_push_of_some _ g1
        have n1 : isSubtype (.type "list") (.type "set") = pure false := by rw [isSubtype_type]; kernel_rfl
        have n2 : isSubtype (.type "list") (.type "frozenset") = pure false := by rw [isSubtype_type]; kernel_rfl
        have n3 : (Value.type "list" == Value.type "dict") = false := by decide
        have li : (s.heap.push (newSet w)).IsList l xs := ⟨_, g4, rfl, nl, rfl⟩
        unfold Builtin.«set.__init__» noKeywords Builtin.Frozenset.updateFrom
        generalize hPI : pyIter = PI
        wp_walk
        subst hPI
        refine wpAny_pyIter_list li ?_
        refine wpAny_bind (wpAny_runValue ?_)
        have low : l < s.heap.objs.size := Heap.lt_size g1
        have size : (s.heap.push (newSet w)).objs.size = s.heap.objs.size + 1 := Heap.size_push ..
        have apart : l ≠ (s.heap.push (newSet w)).objs.size := fun e => Nat.lt_irrefl _ (Nat.lt_of_lt_of_eq (Nat.lt_succ_of_lt low) (e.trans size).symm)
        have out : s.heap.objs.size ∉ [(s.heap.push (newSet w)).objs.size, l] := by
          simp only [List.mem_cons, List.not_mem_nil, or_false, not_or]
          exact ⟨fun e => absurd (e.trans size) (Nat.ne_of_lt (Nat.lt_succ_self _)), (Nat.ne_of_lt low).symm⟩
        have val : ∀ (i : Nat) (v : Value), xs[i]? = some v → ∃ p, ks[i]? = some p ∧ v = .ref p.1 := fun i v hv => by
          rw [← Array.getElem?_toList, hit, List.getElem?_map] at hv
          obtain ⟨p, hp, rfl⟩ := Option.map_eq_some_iff.mp hv
          exact ⟨p, hp, rfl⟩
        have free : ∀ b, s.heap.objs.size ≤ b → s.heap.get? b = none := fun b hb => by
          cases q : s.heap.get? b with
          | none => rfl
          | some o => exact absurd (Nat.lt_of_lt_of_le (Heap.lt_size q) hb) (Nat.lt_irrefl _)
        have fresh : ∀ it : Obj, ((s.heap.push (newSet w)).push it).get? s.heap.objs.size = some (newSet w) := fun it => Heap.get?_push_of_some _ here
        refine update_keys ((Walks.list (by simp [nh]) _ l apart xs).toS) s.heap.objs.size out ks many few val s.heap hk (free _ (Nat.le_refl _)) (fun b hb => free b (by rw [List.mem_singleton.mp hb, size]; omega)) hu (xs.size - 0) 0 _ (by omega) (Nat.zero_le _) ⟨⟨_, Heap.get?_push_size _ rfl, rfl, rfl⟩, (li.push _)⟩
          (fun b o e => Heap.get?_push_of_some _ (Heap.get?_push_of_some _ e)) ⟨[], #[], 0, _, ts_new (fresh _), ⟨fun _ z => (nomatch z), fun _ z => by simp at z⟩⟩ fun z L es ep t hm hS g kp => ?_
        obtain ⟨h', z1, z2, tk, z3⟩ := z
        have e1 : z1 = s.gens := hm.gens
        have e2 : z2 = s.drawn := hm.drawn
        have e3 : z3 = s.os := hm.os
        subst e1; subst e2; subst e3
        show wpAny _ _ _ _ _ _
        refine wpAny_pure ?_
        show wpAny _ _ (ret Value.none) _ _ _
        rw [many] at g
        exact wpAny_pure ⟨rfl, h', tk, L, es, ep, t, rfl, hS, g, kp⟩
      · cases r2 with
        | error e => exact hz2
        | ok fl2 =>
          cases fl2 with
          | ret r =>
            obtain ⟨rfl, h', tk, L, es, ep, t, rfl, hS, g, kp⟩ := hz2
            repeat (any_goals (first | assumption | wp_step))
            exact k _ _ _ _ _ _ hS g kp
          | _ => exact hz2.elim
    | _ => exact hz.elim
structure Tz (P : Program) (w : World) (h : Heap) (a : Addr) (L : List (Addr × List Key)) : Prop where
  ex : ∃ (es : Array (Int × Value)) (ep : Nat) (t : SetTable), (∃ o, h.get? a = some o ∧ o.ExactSet ∧ o.data = .set es ep t) ∧ es.toList = ents P w L ∧ Tb t (L.map fun p => kh P w p.2) ∧ (L.map (·.2)).Nodup ∧ (w.params.followText "set-order" = true ∨ t.led = true) ∧ L.length * 5 < t.mask * 3
def SetK (P : Program) (w : World) (a : Addr) (L : List (Addr × List Key)) : HO := .ext fun h => Tz P w h a L
theorem Ts.z {h : Heap} {a : Addr} {L : List (Addr × List Key)} {es : Array (Int × Value)} {ep : Nat} {t : SetTable} (R : Ts P w h a L es ep t) : Tz P w h a L := ⟨es, ep, t, R.ob, R.en, R.tb, R.nd, R.led, R.room⟩
theorem setK_new {H : Hp} {h : Heap} {a : Addr} {L : List (Addr × List Key)} (R : Tz P w h a L) : ObjOk P w H h a (SetK P w a L) := by
  obtain ⟨es, ep, t, ⟨o, ho, r⟩, q⟩ := id R.ex
  refine ⟨R, ⟨o, ho⟩, fun h1 h2 p k => ?_⟩
  obtain ⟨es', ep', t', ⟨o', ho', r'⟩, q'⟩ := Tz.ex p
  exact ⟨es', ep', t', ⟨o', k o' ho', r'⟩, q'⟩
end
theorem items_keys {P : Program} {w : World} : ∀ {k : List Key} {us : List Value}, Vals (k.map kV) us → ItemsAre (mixKind P w) k us
  | [], _, .nil => .nil
  | .inl n :: k, _, .cons r t => by
    obtain ⟨tk, rfl⟩ := r
    exact .cons (keyIs_int n tk) (items_keys t)
  | .inr n :: k, _, .cons r t => by
    obtain ⟨tk, rfl⟩ := r
    exact .cons (keyIs_str n tk) (items_keys t)
theorem refs_keys : ∀ {ks : List (Addr × List Key)} {us : List Value}, Vals (ks.map fun p => V.ref p.1) us → us = ks.map fun p => Value.ref p.1
  | [], _, .nil => rfl
  | p :: ks, _, .cons r t => by
    cases r
    rw [refs_keys t]
    rfl
section
variable {X : Cx}
theorem inv_key {pins : List (Addr × Obj)} {σ : L2.St} {H : Hp} {s : Shared} {b : Addr} {k : List Key} (I : Inv X pins σ H s) (h : SqT X.K H b (k.map kV)) : IsK X.prog X.w s.heap k b := by
  obtain ⟨its, r, ⟨o, ho, hc, n, hd⟩, _⟩ := I.tuple h
  exact ⟨o, its.toArray, n, ho, hc, hd, by simpa using items_keys r⟩
def rSetKy (K : PySem.W.Frag) (P : Program) (w : World) : List V → Hp → VK → Prop := fun xs H Q => ∃ (l : Addr) (ks : List (Addr × List Key)), xs = [V.ref l] ∧ SqL K H l (ks.map fun p => V.ref p.1) ∧ (∀ p ∈ ks, SqT K H p.1 (p.2.map kV)) ∧ (∀ L : List (Addr × List Key), (∀ p ∈ L, p ∈ ks) → (L.map (·.2)).Nodup → L.length ≤ 306) ∧
  ∀ a L, H a = none → (∀ p ∈ L, p ∈ ks) → (∀ p ∈ ks, p.2 ∈ L.map (·.2)) → (L.map (·.2)).Nodup → Q (.ref a) (upd H a (SetK P w a L))
theorem cr_setKy (hc : X.calm = true) (hu : X.A.units + 64 < cLine) : CallR X (.type "set") (rSetKy X.K X.prog X.w) := by
  intro pins s σ H xs us Q I r h
  obtain ⟨l, ks, rfl, hl, hk, hf, q⟩ := h
  rw [Vals.ref1 r]
  obtain ⟨its, rv, pl, hz⟩ := I.list hl
  have hn : H s.heap.objs.size = none := I.hok.fresh (Nat.le_refl _)
  refine set_keys (P := X.prog) (w := X.w) ks (I.ok.hd hc) pl.isList (by simpa using refs_keys rv) (fun p hp => inv_key I (hk p hp)) hf (by omega) fun h' tk L es ep t R g k => ?_
  refine ⟨.ref s.heap.objs.size, upd H s.heap.objs.size (SetK X.prog X.w s.heap.objs.size L), I.laid (t' := tk) k (Nat.le_refl _) (setK_new R.z), rfl, q _ L hn (fun p hp => List.mem_of_mem_take (g.sub p hp)) (fun p hp => g.all p (by rw [List.take_length]; exact hp)) R.nd⟩
/-- len(set) -/
def rLenKy (P : Program) (w : World) : List V → Hp → VK → Prop := fun xs H Q => ∃ a L, xs = [V.ref a] ∧ H a = some (SetK P w a L) ∧ Q (.int L.length) H
theorem cr_lenKy : CallR X (.builtin "len") (rLenKy X.prog X.w) := by
  intro pins s σ H xs us Q I r h
  obtain ⟨a, L, rfl, ha, q⟩ := h
  rw [Vals.ref1 r]
  have R0 : Tz X.prog X.w s.heap a L := (I.hok a _ ha).1
  obtain ⟨es, ep, t, ⟨o, ho, hex, hd⟩, en, tb, nd, led, room⟩ := R0.ex
  have sz := ents_len en
  have m := tb.mask.small
  refine call_len_set ho hex hd (fits_of (by rw [tb.size, List.length_map, sz]) tb.nodum (by omega)) (by omega) ?_
  refine ⟨.int L.length, H, I.tok _, ⟨_, by rw [sz]⟩, q⟩
end
end Smk
namespace Dw
open PySem PySem.Spec PyProof.Rows L2 OgR Evl
section
variable {C : Ct} {G H : Hp} {σ : L2.St} {s : Dt}
/-- a new list of numbers, made while a list of the def's own is taken for data -/
def wPeekO (i : Nat) (w : WA) : WA := fun s Q => ∃ ds, s.env[i]? = some (some (.own ds)) ∧ w ⟨s.env.set i (some (.d (.list ds))), s.c⟩ fun rs s1 => (∀ r ∈ rs, ∃ n, r = .int n) ∧ Q rs ⟨s.env, s1.c⟩
def wPick2 (i j l m : Nat) (F : FB) (wc : WT) : WS := fun DD s => wc s fun b s1 => ∃ ds, ((b = true ∧ s1.env[i]? = some (some (.d (.list ds)))) ∨ (b = false ∧ s1.env[j]? = some (some (.own ds)))) ∧ s1.env[l]? = some (some .box) ∧ i < s1.env.length ∧ ∃ fs, s1.env[m]? = some (some (.own fs)) ∧ fs.length < 100000 ∧
  F [.list ds] s1.c.n fun d c' => ∃ n, d = .int n ∧ DD.nx ⟨(s1.env.set i none).set m (some (.own (fs ++ [.int n]))), c', s1.c.o⟩
end
section
variable {X : Cx} {C : Ct} {a b e tg : Expr} {es : List Expr} {pos p : Pos} {t ta tb te : TE} {w wa wb we : WE} {tA : TA} {wA : WA} {x : Str} {st st1 st2 : Stmt} {sts : List Stmt} {v : TS} {w1 w2 wv : WS}
def fRem : List PyData → List PyData → (PyData → List PyData → Prop) → Prop := fun ds as Q => ∃ (ns : List Int) (k : Int), as = [.int k] ∧ ds = ns.map .int ∧ ns.Nodup ∧ k ∈ ns ∧ Q .none ((ns.filter fun y => decide (y ≠ k)).map .int)
def wExt (i : Nat) (w : WA) : WS := fun DD s => (∃ ds0, s.env[i]? = some (some (.own ds0))) ∧ w s fun es s1 => ∃ ds, s1.env[i]? = some (some (.own ds)) ∧ ds.length + es.length < 100000 ∧ DD.nx (s1.set i (.own (ds ++ es)))
end
end Dw
namespace Dw
open PySem PySem.Spec PyProof.Rows L2 OgR Evl
end Dw
namespace Dw
open PySem PySem.Spec PyProof.Rows L2 OgR Evl
end Dw
namespace Dw
open PySem PySem.Spec PyProof.Rows L2 OgR Evl
end Dw
namespace Dw
open PySem PySem.Spec PyProof.Rows L2 OgR Evl
def FzV (K : PySem.W.Frag) (G : Hp) (v : V) (kvs : KVs) : Prop := ∃ p od ks, v = .ref p ∧ G p = some (.frz od (.dT ks)) ∧ PK2 K G ks kvs
theorem FzV.ex {K : PySem.W.Frag} {G G' : Hp} {v : V} {kvs : KVs} (h : FzV K G v kvs) (e : Ex G G') : FzV K G' v kvs := by
  obtain ⟨p, od, ks, h1, h2, h3⟩ := h
  exact ⟨p, od, ks, h1, e _ _ h2, paired_mapP h3 fun a b q => ⟨q.1, dp_ex e q.2⟩⟩
def fzO (K : PySem.W.Frag) (v0 : V) (kvs : KVs) : Hp → Hp → V → Prop := fun G _ v => v = v0 ∧ FzV K G v kvs
section
variable {C : Ct} {G H : Hp} {σ : L2.St} {s : Dt}
theorem fz_rv {v : V} {kvs : KVs} (h : FzV C.K G v kvs) : RV C G H v (.oth (fzO C.K v kvs)) := ⟨⟨rfl, h⟩, fun _ _ e _ => ⟨rfl, h.ex e⟩⟩
theorem Rel.pubA (r : Rel C G σ H s) {p : Addr} {o : HO} (h1 : H p = some o) (h2 : G p = none) (h0 : C.H0 p = none) (h4 : ∀ (i : Nat) y, s.env[i]? = some (some y) → y.mut = true → σ[i]? ≠ some (some (.ref p))) : Rel C (upd G p o) σ H s := by
  have eg' : Ex G (upd G p o) := Ex.new h2
  have eh' : Ex (upd G p o) H := fun b u e => by
    by_cases z : b = p
    · rw [z, upd_same] at e
      rw [z, h1]
      exact e
    · rw [upd_ne z] at e
      exact r.fin.gh b u e
  have nw : ∀ b, (upd G p o) b ≠ none → G b ≠ none ∨ b = p := fun b hb => by
    by_cases z : b = p
    · exact .inr z
    · rw [upd_ne z] at hb
      exact .inl hb
  refine ⟨⟨eh', r.fin.g0.trans eg', fun b hb => ?_, r.fin.hh, r.fin.ok, r.fin.obe eg' (Ex.refl _), fun l hl => ⟨(r.fin.bx l hl).1, ?_, (r.fin.bx l hl).2.2⟩⟩, r.len, fun i x e => ?_, r.dis⟩
  · rcases nw b hb with z | z
    · exact r.fin.nw b z
    · exact .inr (.inl (by rw [z]; exact h0))
  · rw [upd_ne (fun z => (r.fin.nbx h0) (by rw [← z]; exact hl))]
    exact (r.fin.bx l hl).2.1
  · obtain ⟨v, hv, rv⟩ := r.sl i x e
    refine ⟨v, hv, ?_⟩
    cases x with
    | d x => exact dp_ex eg' rv
    | box => exact rv
    | ob _ => exact rv
    | obl _ => exact obl_ex eg' rv
    | own ds' =>
      obtain ⟨p', xs', a1, a2, a3, a4, a5⟩ := rv
      refine ⟨p', xs', a1, a2, a3, ?_, dpa_ex eg' a5⟩
      rw [upd_ne fun z => h4 i _ e rfl (by rw [hv, a1, z])]
      exact a4
    | dic ks =>
      obtain ⟨p', xs', a1, a2, a3, a4, a5⟩ := rv
      refine ⟨p', xs', a1, a2, a3, ?_, paired_mapP a5 fun a b q => ⟨q.1, dp_ex eg' q.2⟩⟩
      rw [upd_ne fun z => h4 i _ e rfl (by rw [hv, a1, z])]
      exact a4
    | dit ks =>
      obtain ⟨p', xs', a1, a2, a3, a4, a5⟩ := rv
      refine ⟨p', xs', a1, a2, a3, ?_, paired_mapP a5 fun a b q => ⟨q.1, dp_ex eg' q.2⟩⟩
      rw [upd_ne fun z => h4 i _ e rfl (by rw [hv, a1, z])]
      exact a4
    | oth φ => exact Oth.step (φ := φ) rv eg' (Kept.refl C H)
    | dd ks =>
      obtain ⟨p', xs', a1, a2, a5⟩ := rv
      exact ⟨p', xs', a1, a2, paired_mapP a5 fun a b q => ⟨q.1, dp_ex eg' q.2⟩⟩
/-- a dict of the def's own is locked for good -/
theorem Rel.frz (r : Rel C G σ H s) {i : Nat} {kvs : KVs} (e : s.env[i]? = some (some (.dit kvs))) : ∃ p ks, σ[i]? = some (some (.ref p)) ∧ H p = some (.dT ks) ∧
    ∀ od, Rel C (upd G p (.frz od (.dT ks))) σ (upd H p (.frz od (.dT ks))) (s.set i (.oth (fzO C.K (.ref p) kvs))) ∧ Ex G (upd G p (.frz od (.dT ks))) ∧ FzV C.K (upd G p (.frz od (.dT ks))) (.ref p) kvs := by
  obtain ⟨v, hv, p, ks, rfl, h1, h2, h3, h4⟩ := r.sl i _ e
  refine ⟨p, ks, hv, h1, fun od => ?_⟩
  have eg : Ex G (upd G p (.frz od (.dT ks))) := Ex.new h3
  have fz : FzV C.K (upd G p (.frz od (.dT ks))) (.ref p) kvs := ⟨p, od, ks, rfl, upd_same, paired_mapP h4 fun a b q => ⟨q.1, dp_ex eg q.2⟩⟩
  have r1 : Rel C G σ (upd H p (.frz od (.dT ks))) (s.set i (.oth fun _ _ _ => True)) := r.mutO (x' := .oth fun _ _ _ => True) e rfl hv h1 (fun _ _ z => by cases z) h2 h3 ⟨trivial, fun _ _ _ _ => trivial⟩
  have r2 := r1.pubA (p := p) upd_same h3 h2 fun j y ej m => by
    rcases get_set ej with ⟨rfl, rfl, _⟩ | ⟨z, ej⟩
    · cases m
    · exact r.dis i j _ y p (Ne.symm z) e ej rfl m hv
  have r3 := r2.put (i := i) (v := .ref p) (x := .oth (fzO C.K (.ref p) kvs)) (fz_rv fz) fun m => nomatch m
  have e1 : σ.set i (some (.ref p)) = σ := by
    refine List.ext_getElem? fun j => ?_
    by_cases z : i = j
    · subst z
      rw [List.getElem?_set_self (List.getElem?_eq_some_iff.mp hv).1, hv]
    · rw [List.getElem?_set_ne z]
  have e2 : (s.set i (.oth fun _ _ _ => True)).set i (.oth (fzO C.K (.ref p) kvs)) = s.set i (.oth (fzO C.K (.ref p) kvs)) := by
    unfold Dt.set
    rw [List.set_set]
  rw [e1, e2] at r3
  exact ⟨r3, eg, fz⟩
end
end Dw
namespace Dw
open PySem PySem.Spec PyProof.Rows L2 OgR Evl
end Dw
namespace Dw
open PySem PySem.Spec PyProof.Rows L2 OgR Evl
end Dw
namespace Dw
open PySem PySem.Spec PyProof.Rows L2 OgR Evl
def leA (a b : PyData) : Bool := !PySem.W.dataLt b a
def srtA (ds : List PyData) : List PyData := ds.mergeSort leA
structure SrtOk (ds : List PyData) : Prop where
  al : PySem.W.AllAlike ds
  so : PySem.W.Sortable ds
  dp : ∀ d ∈ ds, d.depth ≤ 60
def rSrtA (K : PySem.W.Frag) : List V → Hp → VK → Prop := fun vs H Q => ∃ (a : Addr) (xs : List V) (ds : List PyData), vs = [.ref a] ∧ SqB K false H a xs ∧ DpAll K H xs ds ∧ SrtOk ds ∧ ∀ ys p, (∀ G, DpAll K G xs ds → DpAll K G ys (srtA ds)) → H p = none → Q (.ref p) (upd H p (.lst ys))
theorem cr_srtA {X : Cx} (hu : X.A.units + 64 < cLine) : CallR X (.builtin "sorted") (rSrtA X.K) := by
  intro pins s σ H vs us Q I r h
  obtain ⟨a, xs, ds, rfl, hs, hd, ok, q⟩ := h
  obtain ⟨its, rv, pt, hz⟩ := I.list hs
  rw [Vals.ref1 r]
  have er : PySem.W.EachIs (fun u d => ∃ as, Reads s.heap u d as) its ds := (each_of (P := fun x d => Dp X.K H x d) rv hd fun j x d e1 e2 => by
    obtain ⟨d', e3, p⟩ := dpa_get hd e1
    rw [e2] at e3
    cases e3
    exact p).mono fun u d ⟨x, rx, px⟩ => Dp.reads I d x u px rx
  have ee : PySem.W.EachIs (fun u d => ∃ x, RelV x u ∧ ∀ G, DpAll X.K G xs ds → Dp X.K G x d) its ds := each_of rv hd fun j x d e1 e2 G hG => by
    obtain ⟨d', e3, p⟩ := dpa_get hG e1
    rw [e2] at e3
    cases e3
    exact p
  have hl : its.length = ds.length := er.length
  have hL : ds.length ≤ sizeLine := by rw [← hl, ← rv.length]; exact hz
  refine PySem.W.sorted_data (enc := fun d => d) pt.isList ee er (by rw [List.map_id']; exact ok.al) (by rw [List.map_id']; exact ok.so) hL (fun d hd => by have := ok.dp d hd; show _ + d.depth < _; omega) (fun out ho es => ?_)
  have es : PySem.W.EachIs (fun u d => ∃ x, RelV x u ∧ ∀ G, DpAll X.K G xs ds → Dp X.K G x d) out (srtA ds) := es
  obtain ⟨ys, y1, y2⟩ := each_back es
  obtain ⟨n, hn⟩ := sortedAll_at s.heap its out.toArray
  refine ⟨.ref (s.heap.objs.size + 1), upd H (s.heap.objs.size + 1) (.lst ys), I.laid (t' := s.toks) (fun _ _ => sortedAll_old) (Nat.le_succ _) ⟨?_, _, n, y1, hn⟩, rfl, q ys _ (fun G hG => pair_dpa (fun x d p => p G hG) y2) (I.hok.fresh (Nat.le_succ _))⟩
  rw [y1.length, ho]
  exact hL
section
variable {X : Cx} {C : Ct} {a b e : Expr} {pos p : Pos} {t ta tb : TE} {w wa wb : WE}
def gSrtA : PyData → Dt → (List PyData → Dt → Prop) → Prop := fun d s Q => ∃ ds, d = .list ds ∧ SrtOk ds ∧ Q (srtA ds) s
theorem r1_srtA : R1O C (rSrtA C.K) gSrtA := ⟨fun G σ H s x d Q Q' r pk q k => by
  obtain ⟨ds, rfl, ok, q⟩ := q
  obtain ⟨p, xs, rfl, h1, h2⟩ := pk.seq r.fin.gh rfl
  exact ⟨p, xs, ds, rfl, h1, dpa_ex r.fin.gh h2, ok, fun ys l hy hl => k ys _ l q (hy G h2) hl⟩⟩
theorem do_srtA (hK : X.K = C.K) (hu : X.A.units + 64 < cLine) (hg : Gl X "sorted") (hm : X.mg "sorted" = none) (ha : DP X C a ta wa) (hs : starEach [a] X.env = (false, eval a X.env) :: starEach [] X.env := by rfl) :
    DO X C (.Call (.Name "sorted" p) [a] [] pos) (tCB (rSrtA C.K) (tCons ta tNil)) (w1O gSrtA wa) := do_b1 (hK ▸ cr_srtA hu) r1_srtA hg hm (by decide +kernel) ha (by decide) (by decide) hs
end
theorem lt_irr (a : PyData) : PySem.W.dataLt a a = false := lex_irrefl ..
theorem lt_asy {a b : PyData} (h : PySem.W.dataLt a b = true) : PySem.W.dataLt b a = false := by
  cases e : PySem.W.dataLt b a with
  | false => rfl
  | true =>
    have := lex_trans _ _ _ h e
    rw [lex_irrefl] at this
    cases this
theorem leA_total : PySem.W.TotalLe leA := PySem.W.sortLe_total (listOrd itemOrd) false PySem.W.keyToks
theorem pw_mem {α : Type} {R : α → α → Prop} : ∀ {l : List α}, l.Pairwise R → ∀ a ∈ l, ∀ b ∈ l, a = b ∨ R a b ∨ R b a
  | [], _, a, ha, _, _ => by simp at ha
  | c :: l, h, a, ha, b, hb => by
    rw [List.pairwise_cons] at h
    rcases List.mem_cons.mp ha with rfl | ha
    · rcases List.mem_cons.mp hb with rfl | hb
      · exact .inl rfl
      · exact .inr (.inl (h.1 b hb))
    · rcases List.mem_cons.mp hb with e | hb
      · exact .inr (.inr (by rw [e]; exact h.1 a ha))
      · exact pw_mem h.2 a ha b hb
theorem srtA_eq {l ds : List PyData} (hp : ds.Perm l) (hl : l.Pairwise fun a b => PySem.W.dataLt a b = true) : srtA ds = l := by
  have h1 : (srtA ds).Pairwise fun a b => leA a b = true := PySem.W.sort_pairwise leA_total ds
  have h2 : (srtA ds).Perm l := (List.mergeSort_perm ds leA).trans hp
  refine List.Perm.eq_of_pairwise (fun a b ha hb h3 h4 => ?_) h1 (hl.imp fun {a b} h => ?_) h2
  · rcases pw_mem hl a (h2.mem_iff.mp ha) b hb with h | h | h
    · exact h
    · unfold leA at h4
      rw [h] at h4
      cases h4
    · unfold leA at h3
      rw [h] at h3
      cases h3
  · show (!PySem.W.dataLt b a) = true
    rw [lt_asy h]
    rfl
end Dw
namespace Dw
open PySem PySem.Spec PyProof.Rows L2 OgR Evl
end Dw
namespace Dw
open PySem PySem.Spec PyProof.Rows L2 OgR Evl
end Dw
namespace Dw
open PySem PySem.Spec PyProof.Rows L2 OgR Evl
end Dw
namespace Dw
open PySem PySem.Spec PyProof.Rows L2 OgR Evl Smk
def ktD (k : List Key) : PyData := .tuple (k.map kD)
theorem keys_dpa {K : PySem.W.Frag} {G : Hp} : ∀ {k : List Key} {xs : List V}, DpAll K G xs (k.map kD) → xs = k.map kV
  | [], _, .nil => rfl
  | .inl i :: k, _, .cons h t => by
    cases h
    rw [keys_dpa t]
    rfl
  | .inr i :: k, _, .cons h t => by
    cases h
    rw [keys_dpa t]
    rfl
/-- the tuples of a list, with where they stand -/
theorem tups_dpa {K : PySem.W.Frag} {G : Hp} : ∀ {kss : List (List Key)} {xs : List V}, DpAll K G xs (kss.map ktD) → ∃ ks : List (Addr × List Key), xs = ks.map (fun p => V.ref p.1) ∧ ks.map (·.2) = kss ∧ ∀ p ∈ ks, SqT K G p.1 (p.2.map kV)
  | [], _, .nil => ⟨[], rfl, rfl, fun _ z => nomatch z⟩
  | k :: kss, _, .cons h t => by
    obtain ⟨ks, rfl, e2, e3⟩ := tups_dpa t
    cases h with
    | @tup a ys _ h1 h2 =>
      rw [keys_dpa h2] at h1
      refine ⟨(a, k) :: ks, rfl, by rw [List.map_cons, e2], fun p hp => ?_⟩
      rcases List.mem_cons.mp hp with z | z
      · rw [z]
        exact h1
      · exact e3 p z
def FewK (kss : List (List Key)) : Prop := ∀ l : List (List Key), l.Nodup → (∀ x ∈ l, x ∈ kss) → l.length ≤ 306
theorem few_of {ks : List (Addr × List Key)} (h : FewK (ks.map (·.2))) : ∀ L : List (Addr × List Key), (∀ p ∈ L, p ∈ ks) → (L.map (·.2)).Nodup → L.length ≤ 306 := fun L h1 h2 => by
  have := h (L.map (·.2)) h2 fun x hx => by
    obtain ⟨p, hp, rfl⟩ := List.mem_map.mp hx
    exact List.mem_map.mpr ⟨p, h1 p hp, rfl⟩
  rwa [List.length_map] at this
def gLenSetK : G1 := fun d s Q => ∃ kss : List (List Key), d = .list (kss.map ktD) ∧ FewK kss ∧ ∀ l : List (List Key), l.Nodup → (∀ x, x ∈ l ↔ x ∈ kss) → Q (.int (l.length : Nat)) s
section
variable {X : Cx} {C : Ct} {a b e : Expr} {pos p p2 q : Pos} {t ta tb : TE} {w wa wb : WE}
theorem de_lenSetK (hK : X.K = C.K) (hc : X.calm = true) (hu : X.A.units + 64 < cLine) (hg : Gl X "len") (hm : X.mg "len" = none) (hg2 : Gl X "set") (hm2 : X.mg "set" = none) (ha : DP X C a ta wa)
    (hs : starEach [a] X.env = (false, eval a X.env) :: starEach [] X.env := by rfl) (hs2 : starEach [.Call (.Name "set" p2) [a] [] q] X.env = (false, eval (.Call (.Name "set" p2) [a] [] q) X.env) :: starEach [] X.env := by rfl) :
    DE X C (.Call (.Name "len" p) [.Call (.Name "set" p2) [a] [] q] [] pos) (tCB (rLenKy X.prog X.w) (tCons (tCB (rSetKy X.K X.prog X.w) (tCons ta tNil)) tNil)) (w1 gLenSetK wa) :=
  ⟨pe_callB cr_lenKy hg hm PySem.boot_len (pa_cons (pe_callTy (cr_setKy hc hu) hg2 hm2 PyProof.Rows.boot_set (pa_cons ha.pe pa_nil hs) (by decide) (by decide) hs) pa_nil hs2) (by decide) (by decide) hs2,
   fun G σ H s Q Q' rr h k => ha.ip G σ H s _ _ rr h fun v d s1 G1 H1 h1 r1 eg eh pk => by
    obtain ⟨kss, rfl, few, h2⟩ := h1
    obtain ⟨l, xs, rfl, e1, e2⟩ := pk_lst pk r1.fin.gh
    obtain ⟨ks, rfl, rfl, e3⟩ := tups_dpa e2
    refine ⟨l, ks, rfl, hK ▸ e1, fun p hp => hK ▸ Evl.ex_t r1.fin.gh (e3 p hp), few_of few, fun a L ha hL1 hL2 hL3 => ?_⟩
    have e : Ex H1 (upd H1 a (SetK X.prog X.w a L)) := Ex.new ha
    refine ⟨a, L, rfl, upd_same, ?_⟩
    have := h2 (L.map (·.2)) hL3 fun x => ⟨fun hx => by
      obtain ⟨p, hp, rfl⟩ := List.mem_map.mp hx
      exact List.mem_map.mpr ⟨p, hL1 p hp, rfl⟩, fun hx => by
      obtain ⟨p, hp, rfl⟩ := List.mem_map.mp hx
      exact hL2 p hp⟩
    rw [List.length_map] at this
    exact k _ _ s1 G1 _ this (r1.aside e) eg (eh.trans (.side e)) (.int _)⟩
end
def gSrtSetK (d : PyData) (s : Dt) (Q : List PyData → Dt → Prop) : Prop := ∃ kss : List (List Key), d = .list (kss.map ktD) ∧ FewK kss ∧ ∀ l : List (List Key), l.Nodup → (∀ x, x ∈ l ↔ x ∈ kss) → (SrtOk (l.map ktD) ∨ l = [[]]) ∧ Q (srtA (l.map ktD)) s
end Dw
namespace Dw
open PySem PySem.Spec PyProof.Rows L2 OgR Evl
end Dw
namespace OgM
abbrev Seg := Int × Nat
def Ok : Int → List Seg → Prop
  | _, [] => True
  | lo, x :: r => lo < x.1 ∧ Ok (x.1 + x.2 + 1) r
def Mem (p : Int) (g : List Seg) : Prop := ∃ x ∈ g, x.1 ≤ p ∧ p ≤ x.1 + x.2
theorem mem_cons {p : Int} {x : Seg} {g : List Seg} : Mem p (x :: g) ↔ (x.1 ≤ p ∧ p ≤ x.1 + x.2) ∨ Mem p g := by
  simp [Mem]
theorem mem_nil {p : Int} : ¬ Mem p [] := by simp [Mem]
theorem ok_lt : ∀ {g : List Seg} {lo p : Int}, Ok lo g → Mem p g → lo < p
  | [], _, _, _, h => absurd h mem_nil
  | x :: r, lo, p, h, m => by
    rcases mem_cons.mp m with m | m
    · have := h.1; omega
    · have := ok_lt h.2 m; have := h.1; omega
theorem ok_mono : ∀ {g : List Seg} {lo lo' : Int}, lo' ≤ lo → Ok lo g → Ok lo' g
  | [], _, _, _, _ => trivial
  | x :: r, lo, lo', h, k => ⟨by have := k.1; omega, k.2⟩
/-- one more plot -/
def add (p : Int) : List Seg → List Seg
  | [] => [(p, 0)]
  | (s, n) :: r =>
    if p < s - 1 then (p, 0) :: (s, n) :: r
    else if p = s - 1 then (p, n + 1) :: r
    else if p = s + n + 1 then
      match r with
      | [] => [(s, n + 1)]
      | (s', n') :: r' => if s' = p + 1 then (s, n + n' + 2) :: r' else (s, n + 1) :: (s', n') :: r'
    else (s, n) :: add p r
theorem ok_add : ∀ {g : List Seg} {lo p : Int}, Ok lo g → ¬ Mem p g → lo < p → Ok lo (add p g)
  | [], lo, p, _, _, h => ⟨h, trivial⟩
  | (s, n) :: r, lo, p, k, nm, h => by
    have k1 : lo < s := k.1
    have k2 : Ok (s + n + 1) r := k.2
    have nm1 : ¬ (s ≤ p ∧ p ≤ s + n) := fun e => nm (mem_cons.mpr (.inl e))
    have nm2 : ¬ Mem p r := fun e => nm (mem_cons.mpr (.inr e))
    unfold add
    split
    · exact ⟨h, by show p + ((0 : Nat) : Int) + 1 < s; omega, k2⟩
    · split
      · refine ⟨h, ?_⟩
        refine ok_mono ?_ k2
        show p + ((n + 1 : Nat) : Int) + 1 ≤ _
        omega
      · split
        · cases r with
          | nil => exact ⟨k1, trivial⟩
          | cons y r' =>
            obtain ⟨s', n'⟩ := y
            have k3 : s + n + 1 < s' := k2.1
            have k4 : Ok (s' + n' + 1) r' := k2.2
            show Ok lo (if s' = p + 1 then (s, n + n' + 2) :: r' else (s, n + 1) :: (s', n') :: r')
            split
            · refine ⟨k1, ok_mono ?_ k4⟩
              show s + ((n + n' + 2 : Nat) : Int) + 1 ≤ _
              omega
            · refine ⟨k1, ?_, k4⟩
              show s + ((n + 1 : Nat) : Int) + 1 < s'
              omega
        · exact ⟨k1, ok_add k2 nm2 (by show s + (n : Int) + 1 < p; omega)⟩
theorem mem_add : ∀ {g : List Seg} {lo p q : Int}, Ok lo g → (Mem q (add p g) ↔ q = p ∨ Mem q g)
  | [], lo, p, q, _ => by
    show Mem q [(p, 0)] ↔ _
    rw [mem_cons]
    simp only [mem_nil, or_false]
    constructor
    · intro h; have : p ≤ q ∧ q ≤ p + ((0 : Nat) : Int) := h; omega
    · intro h; exact ⟨by show p ≤ q; omega, by show q ≤ p + ((0 : Nat) : Int); omega⟩
  | (s, n) :: r, lo, p, q, k => by
    have k2 : Ok (s + n + 1) r := k.2
    unfold add
    split
    · rw [mem_cons]
      constructor
      · rintro (h | h)
        · have : p ≤ q ∧ q ≤ p + ((0 : Nat) : Int) := h
          exact .inl (by omega)
        · exact .inr h
      · rintro (h | h)
        · exact .inl ⟨by show p ≤ q; omega, by show q ≤ p + ((0 : Nat) : Int); omega⟩
        · exact .inr h
    · split
      · rename_i h1 h2
        rw [mem_cons, mem_cons]
        constructor
        · rintro (h | h)
          · have : p ≤ q ∧ q ≤ p + ((n + 1 : Nat) : Int) := h
            by_cases e : q = p
            · exact .inl e
            · exact .inr (.inl ⟨by show s ≤ q; omega, by show q ≤ s + (n : Int); omega⟩)
          · exact .inr (.inr h)
        · rintro (h | h | h)
          · exact .inl ⟨by show p ≤ q; omega, by show q ≤ p + ((n + 1 : Nat) : Int); omega⟩
          · have : s ≤ q ∧ q ≤ s + (n : Int) := h
            exact .inl ⟨by show p ≤ q; omega, by show q ≤ p + ((n + 1 : Nat) : Int); omega⟩
          · exact .inr h
      · split
        · rename_i h1 h2 h3
          cases r with
          | nil =>
            show Mem q [(s, n + 1)] ↔ _
            rw [mem_cons, mem_cons]
            constructor
            · rintro (h | h)
              · have : s ≤ q ∧ q ≤ s + ((n + 1 : Nat) : Int) := h
                by_cases e : q = p
                · exact .inl e
                · exact .inr (.inl ⟨by show s ≤ q; omega, by show q ≤ s + (n : Int); omega⟩)
              · exact .inr (.inr h)
            · rintro (h | h | h)
              · exact .inl ⟨by show s ≤ q; omega, by show q ≤ s + ((n + 1 : Nat) : Int); omega⟩
              · have : s ≤ q ∧ q ≤ s + (n : Int) := h
                exact .inl ⟨by show s ≤ q; omega, by show q ≤ s + ((n + 1 : Nat) : Int); omega⟩
              · exact .inr h
          | cons y r' =>
            obtain ⟨s', n'⟩ := y
            show Mem q (if s' = p + 1 then (s, n + n' + 2) :: r' else (s, n + 1) :: (s', n') :: r') ↔ _
            split
            · rename_i h4
              rw [mem_cons, mem_cons, mem_cons]
              constructor
              · rintro (h | h)
                · have : s ≤ q ∧ q ≤ s + ((n + n' + 2 : Nat) : Int) := h
                  by_cases e : q = p
                  · exact .inl e
                  · by_cases e2 : q < p
                    · exact .inr (.inl ⟨by show s ≤ q; omega, by show q ≤ s + (n : Int); omega⟩)
                    · exact .inr (.inr (.inl ⟨by show s' ≤ q; omega, by show q ≤ s' + (n' : Int); omega⟩))
                · exact .inr (.inr (.inr h))
              · rintro (h | h | h | h)
                · exact .inl ⟨by show s ≤ q; omega, by show q ≤ s + ((n + n' + 2 : Nat) : Int); omega⟩
                · have : s ≤ q ∧ q ≤ s + (n : Int) := h
                  exact .inl ⟨by show s ≤ q; omega, by show q ≤ s + ((n + n' + 2 : Nat) : Int); omega⟩
                · have : s' ≤ q ∧ q ≤ s' + (n' : Int) := h
                  exact .inl ⟨by show s ≤ q; omega, by show q ≤ s + ((n + n' + 2 : Nat) : Int); omega⟩
                · exact .inr h
            · rw [mem_cons (x := (s, n + 1)), mem_cons (x := (s, n))]
              constructor
              · rintro (h | h)
                · have : s ≤ q ∧ q ≤ s + ((n + 1 : Nat) : Int) := h
                  by_cases e : q = p
                  · exact .inl e
                  · exact .inr (.inl ⟨by show s ≤ q; omega, by show q ≤ s + (n : Int); omega⟩)
                · exact .inr (.inr h)
              · rintro (h | h | h)
                · exact .inl ⟨by show s ≤ q; omega, by show q ≤ s + ((n + 1 : Nat) : Int); omega⟩
                · have : s ≤ q ∧ q ≤ s + (n : Int) := h
                  exact .inl ⟨by show s ≤ q; omega, by show q ≤ s + ((n + 1 : Nat) : Int); omega⟩
                · exact .inr h
        · rw [mem_cons, mem_cons, mem_add k2]
          constructor
          · rintro (h | h | h)
            · exact .inr (.inl h)
            · exact .inl h
            · exact .inr (.inr h)
          · rintro (h | h | h)
            · exact .inr (.inl h)
            · exact .inl h
            · exact .inr (.inr h)
/-- segments are told by their members -/
theorem ok_ext : ∀ {g g' : List Seg} {lo lo' : Int}, Ok lo g → Ok lo' g' → (∀ q, Mem q g ↔ Mem q g') → g = g'
  | [], [], _, _, _, _, _ => rfl
  | [], (s, n) :: r, _, _, _, _, h => absurd ((h s).mpr (mem_cons.mpr (.inl ⟨Int.le_refl _, by show s ≤ s + (n : Int); omega⟩))) mem_nil
  | (s, n) :: r, [], _, _, _, _, h => absurd ((h s).mp (mem_cons.mpr (.inl ⟨Int.le_refl _, by show s ≤ s + (n : Int); omega⟩))) mem_nil
  | (s, n) :: r, (s', n') :: r', lo, lo', k, k', h => by
    have k2 : Ok (s + n + 1) r := k.2
    have k2' : Ok (s' + n' + 1) r' := k'.2
    have in1 : ∀ q, s ≤ q → q ≤ s + n → Mem q ((s', n') :: r') := fun q a b => (h q).mp (mem_cons.mpr (.inl ⟨a, b⟩))
    have in2 : ∀ q, s' ≤ q → q ≤ s' + n' → Mem q ((s, n) :: r) := fun q a b => (h q).mpr (mem_cons.mpr (.inl ⟨a, b⟩))
    have lo1 : ∀ {q}, Mem q ((s', n') :: r') → s' ≤ q := fun {q} m => by
      rcases mem_cons.mp m with m | m
      · exact m.1
      · have := ok_lt k2' m; omega
    have lo2 : ∀ {q}, Mem q ((s, n) :: r) → s ≤ q := fun {q} m => by
      rcases mem_cons.mp m with m | m
      · exact m.1
      · have := ok_lt k2 m; omega
    have es : s = s' := by
      have a := lo1 (in1 s (Int.le_refl _) (by omega))
      have b := lo2 (in2 s' (Int.le_refl _) (by omega))
      omega
    subst es
    have en : n = n' := by
      by_cases e1 : n < n'
      · have m := in2 (s + n + 1) (by omega) (by omega)
        rcases mem_cons.mp m with m | m
        · have := m.2; simp only at this; omega
        · have := ok_lt k2 m; omega
      · by_cases e2 : n' < n
        · have m := in1 (s + n' + 1) (by omega) (by omega)
          rcases mem_cons.mp m with m | m
          · have := m.2; simp only at this; omega
          · have := ok_lt k2' m; omega
        · omega
    subst en
    have er : r = r' := ok_ext k2 k2' fun q => by
      constructor
      · intro m
        have lt := ok_lt k2 m
        rcases mem_cons.mp ((h q).mp (mem_cons.mpr (.inr m))) with a | a
        · have := a.2; simp only at this; omega
        · exact a
      · intro m
        have lt := ok_lt k2' m
        rcases mem_cons.mp ((h q).mpr (mem_cons.mpr (.inr m))) with a | a
        · have := a.2; simp only at this; omega
        · exact a
    rw [er]
/-- the segments of a list of plots -/
def segs : List Int → List Seg := List.foldl (fun g p => add p g) []
theorem segs_snoc (l : List Int) (p : Int) : segs (l ++ [p]) = add p (segs l) := by
  unfold segs
  rw [List.foldl_append]
  rfl
theorem lower : ∀ l : List Int, ∃ lo : Int, ∀ p ∈ l, lo < p
  | [] => ⟨0, fun p h => absurd h (by simp)⟩
  | x :: r => by
    obtain ⟨lo, h⟩ := lower r
    refine ⟨min lo (x - 1), fun p hp => ?_⟩
    rcases List.mem_cons.mp hp with e | hp
    · subst e; omega
    · have := h p hp; omega
theorem snoc_ind {α : Type} {P : List α → Prop} (h0 : P []) (h1 : ∀ l x, P l → P (l ++ [x])) (l : List α) : P l := by
  have h : ∀ l : List α, P l.reverse := fun l => by
    induction l with
    | nil => exact h0
    | cons x r ih =>
      rw [List.reverse_cons]
      exact h1 _ _ ih
  have := h l.reverse
  rwa [List.reverse_reverse] at this
theorem segs_ok : ∀ {l : List Int} {lo : Int}, l.Nodup → (∀ p ∈ l, lo < p) → Ok lo (segs l) ∧ ∀ q, Mem q (segs l) ↔ q ∈ l := by
  intro l
  induction l using snoc_ind with
  | h0 => exact fun _ _ => ⟨trivial, fun q => by simp [segs, Mem]⟩
  | h1 l p ih => 
    intro lo hn hl
    have hn' : l.Nodup ∧ p ∉ l := by
      rw [List.nodup_append] at hn
      exact ⟨hn.1, fun h => hn.2.2 p h p (by simp) rfl⟩
    obtain ⟨a, b⟩ := ih hn'.1 fun q hq => hl q (by simp [hq])
    rw [segs_snoc]
    refine ⟨ok_add a (fun m => hn'.2 ((b p).mp m)) (hl p (by simp)), fun q => ?_⟩
    rw [mem_add a, b q]
    simp [or_comm]
theorem segs_eq {l l' : List Int} (h : l.Nodup) (h' : l'.Nodup) (e : ∀ q, q ∈ l ↔ q ∈ l') : segs l = segs l' := by
  obtain ⟨lo, hl⟩ := lower l
  obtain ⟨lo', hl'⟩ := lower l'
  obtain ⟨a, b⟩ := segs_ok h hl
  obtain ⟨a', b'⟩ := segs_ok h' hl'
  exact ok_ext a a' fun q => by rw [b q, b' q, e q]
end OgM
namespace OgM
inductive Wd where
  | new | beside | between
  deriving DecidableEq
def Wd.step : Wd → Int
  | .new => 1
  | .beside => 0
  | .between => -1
abbrev Ch := Wd × Nat
def shift : Ch → Ch
  | (.new, k) => (.new, k + 1)
  | (.beside, k) => (.beside, k + 2)
  | (.between, k) => (.between, k + 1)
def pick (p : Int) : List Seg → Ch
  | [] => (.new, 0)
  | (s, n) :: r =>
    if p < s - 1 then (.new, 0)
    else if p = s - 1 then (.beside, 0)
    else if p = s + n + 1 then
      match r with
      | [] => (.beside, 1)
      | (s', _) :: _ => if s' = p + 1 then (.between, 0) else (.beside, 1)
    else shift (pick p r)
theorem shift_word (c : Ch) : (shift c).1 = c.1 := by
  obtain ⟨w, k⟩ := c
  cases w <;> rfl
/-- the four places of a new plot beside the first segment -/
theorem places {P : Prop} {s : Int} {n : Nat} {p : Int} {r : List Seg} (nm : ¬ (s ≤ p ∧ p ≤ s + n)) (h1 : p < s - 1 → P) (h2 : p = s - 1 → P) (h3 : p = s + n + 1 → P) (h4 : s + n + 1 < p → P) : P := by
  by_cases e1 : p < s - 1
  · exact h1 e1
  · by_cases e2 : p = s - 1
    · exact h2 e2
    · by_cases e3 : p = s + n + 1
      · exact h3 e3
      · exact h4 (by omega)
theorem pick_1 {p s : Int} {n : Nat} {r : List Seg} (h : p < s - 1) : pick p ((s, n) :: r) = (.new, 0) ∧ add p ((s, n) :: r) = (p, 0) :: (s, n) :: r := by
  unfold pick add
  rw [if_pos h, if_pos h]
  exact ⟨rfl, rfl⟩
theorem pick_2 {p s : Int} {n : Nat} {r : List Seg} (h : p = s - 1) : pick p ((s, n) :: r) = (.beside, 0) ∧ add p ((s, n) :: r) = (p, n + 1) :: r := by
  unfold pick add
  rw [if_neg (by omega), if_pos h, if_neg (by omega), if_pos h]
  exact ⟨rfl, rfl⟩
theorem pick_30 {p s : Int} {n : Nat} (h : p = s + n + 1) : pick p [(s, n)] = (.beside, 1) ∧ add p [(s, n)] = [(s, n + 1)] := by
  unfold pick add
  rw [if_neg (by omega), if_neg (by omega), if_pos h, if_neg (by omega), if_neg (by omega), if_pos h]
  exact ⟨rfl, rfl⟩
theorem pick_31 {p s s' : Int} {n n' : Nat} {r : List Seg} (h : p = s + n + 1) (h' : s' = p + 1) : pick p ((s, n) :: (s', n') :: r) = (.between, 0) ∧ add p ((s, n) :: (s', n') :: r) = (s, n + n' + 2) :: r := by
  unfold pick add
  rw [if_neg (by omega), if_neg (by omega), if_pos h, if_neg (by omega), if_neg (by omega), if_pos h]
  show (if s' = p + 1 then (Wd.between, 0) else (Wd.beside, 1)) = _ ∧ (if s' = p + 1 then (s, n + n' + 2) :: r else (s, n + 1) :: (s', n') :: r) = _
  rw [if_pos h', if_pos h']
  exact ⟨rfl, rfl⟩
theorem pick_32 {p s s' : Int} {n n' : Nat} {r : List Seg} (h : p = s + n + 1) (h' : s' ≠ p + 1) : pick p ((s, n) :: (s', n') :: r) = (.beside, 1) ∧ add p ((s, n) :: (s', n') :: r) = (s, n + 1) :: (s', n') :: r := by
  unfold pick add
  rw [if_neg (by omega), if_neg (by omega), if_pos h, if_neg (by omega), if_neg (by omega), if_pos h]
  show (if s' = p + 1 then (Wd.between, 0) else (Wd.beside, 1)) = _ ∧ (if s' = p + 1 then (s, n + n' + 2) :: r else (s, n + 1) :: (s', n') :: r) = _
  rw [if_neg h', if_neg h']
  exact ⟨rfl, rfl⟩
theorem pick_4 {p s : Int} {n : Nat} {r : List Seg} (h : s + n + 1 < p) : pick p ((s, n) :: r) = shift (pick p r) ∧ add p ((s, n) :: r) = (s, n) :: add p r := by
  constructor
  · conv => lhs; unfold pick
    rw [if_neg (by omega), if_neg (by omega), if_neg (by omega)]
  · conv => lhs; unfold add
    rw [if_neg (by omega), if_neg (by omega), if_neg (by omega)]
/-- a way through: the six cases at the first segment -/
theorem way {C : List Seg → Prop} {p : Int} (h0 : C []) (h1 : ∀ (s : Int) (n : Nat) (r : List Seg), p < s - 1 → Ok (s + n + 1) r → C ((s, n) :: r)) (h2 : ∀ (s : Int) (n : Nat) (r : List Seg), p = s - 1 → Ok (s + n + 1) r → C ((s, n) :: r))
    (h30 : ∀ (s : Int) (n : Nat), p = s + n + 1 → C [(s, n)]) (h31 : ∀ (s : Int) (n : Nat) (s' : Int) (n' : Nat) (r : List Seg), p = s + n + 1 → s' = p + 1 → Ok (s' + n' + 1) r → C ((s, n) :: (s', n') :: r))
    (h32 : ∀ (s : Int) (n : Nat) (s' : Int) (n' : Nat) (r : List Seg), p = s + n + 1 → p + 1 < s' → Ok (s' + n' + 1) r → C ((s, n) :: (s', n') :: r))
    (h4 : ∀ (s : Int) (n : Nat) (r : List Seg), s + n + 1 < p → Ok (s + n + 1) r → ¬ Mem p r → C r → C ((s, n) :: r)) : ∀ {g : List Seg} {lo : Int}, Ok lo g → ¬ Mem p g → C g
  | [], _, _, _ => h0
  | (s, n) :: r, lo, k, nm => by
    have k2 : Ok (s + n + 1) r := k.2
    have nm1 : ¬ (s ≤ p ∧ p ≤ s + n) := fun e => nm (mem_cons.mpr (.inl e))
    have nm2 : ¬ Mem p r := fun e => nm (mem_cons.mpr (.inr e))
    refine places (r := r) nm1 (fun e => h1 s n r e k2) (fun e => h2 s n r e k2) (fun e => ?_) (fun e => h4 s n r e k2 nm2 (way h0 h1 h2 h30 h31 h32 h4 k2 nm2))
    cases r with
    | nil => exact h30 s n e
    | cons y r' =>
      obtain ⟨s', n'⟩ := y
      have k3 : s + n + 1 < s' := k2.1
      by_cases e' : s' = p + 1
      · exact h31 s n s' n' r' e e' k2.2
      · exact h32 s n s' n' r' e (by omega) k2.2
def left (p : Int) (g : List Seg) : Nat := (g.filter fun x => decide (x.1 + x.2 < p)).length
theorem left_0 : ∀ {g : List Seg} {lo p : Int}, Ok lo g → p ≤ lo + 1 → left p g = 0
  | [], _, _, _, _ => rfl
  | (s, n) :: r, lo, p, k, h => by
    have k1 : lo < s := k.1
    have k2 : Ok (s + n + 1) r := k.2
    unfold left
    rw [List.filter_cons, if_neg (by simp; omega)]
    exact left_0 k2 (by omega)
theorem left_yes {p s : Int} {n : Nat} {r : List Seg} (h : s + n < p) : left p ((s, n) :: r) = left p r + 1 := by
  unfold left
  rw [List.filter_cons, if_pos (by simp; omega)]
  rfl
theorem left_no {p s : Int} {n : Nat} {r : List Seg} (h : ¬ s + n < p) : left p ((s, n) :: r) = left p r := by
  unfold left
  rw [List.filter_cons, if_neg (by simp; omega)]
theorem nmem {g : List Seg} {lo p : Int} (k : Ok lo g) (h : p ≤ lo) : ¬ Mem p g := fun m => by
  have := ok_lt k m
  omega
/-- what a choice says -/
structure Says (p : Int) (g : List Seg) (c : Ch) : Prop where
  new : c.1 = .new ↔ ¬ Mem (p - 1) g ∧ ¬ Mem (p + 1) g
  btw : c.1 = .between ↔ Mem (p - 1) g ∧ Mem (p + 1) g
  n1 : c.1 = .new → c.2 = left p g ∧ c.2 ≤ g.length
  n2 : c.1 = .between → c.2 + 1 = left p g ∧ c.2 + 1 < g.length
  n3 : c.1 = .beside → Mem (p - 1) g → c.2 + 1 = 2 * left p g ∧ c.2 < 2 * g.length
  n4 : c.1 = .beside → ¬ Mem (p - 1) g → c.2 = 2 * left p g ∧ c.2 < 2 * g.length
  len : ((add p g).length : Int) = g.length + c.1.step
theorem says {g : List Seg} {lo p : Int} (k : Ok lo g) (nm : ¬ Mem p g) : Says p g (pick p g) := by
  refine way (C := fun g => Says p g (pick p g)) ?_ ?_ ?_ ?_ ?_ ?_ ?_ k nm
  · refine ⟨?_, ?_, ?_, ?_, ?_, ?_, rfl⟩
    · simp [pick, mem_nil]
    · simp [pick, mem_nil]
    · simp [pick, left]
    · simp [pick]
    · simp [pick]
    · simp [pick]
  · intro s n r h kr
    rw [(pick_1 h).1]
    have a1 : ¬ Mem (p - 1) ((s, n) :: r) := fun m => by
      rcases mem_cons.mp m with m | m
      · have := m.1; simp only at this; omega
      · have := ok_lt kr m; omega
    have a2 : ¬ Mem (p + 1) ((s, n) :: r) := fun m => by
      rcases mem_cons.mp m with m | m
      · have := m.1; simp only at this; omega
      · have := ok_lt kr m; omega
    refine ⟨by simp [a1, a2], by simp [a1], fun _ => ⟨?_, Nat.zero_le _⟩, by simp, by simp, by simp, ?_⟩
    · rw [left_no (by omega), left_0 kr (by omega)]
    · rw [(pick_1 h).2]
      simp [Wd.step]
  · intro s n r h kr
    rw [(pick_2 h).1]
    have a1 : ¬ Mem (p - 1) ((s, n) :: r) := fun m => by
      rcases mem_cons.mp m with m | m
      · have := m.1; simp only at this; omega
      · have := ok_lt kr m; omega
    have a2 : Mem (p + 1) ((s, n) :: r) := mem_cons.mpr (.inl ⟨by show s ≤ p + 1; omega, by show p + 1 ≤ s + (n : Int); omega⟩)
    refine ⟨by simp [a2], by simp [a1], by simp, by simp, fun _ m => absurd m a1, fun _ _ => ⟨?_, by simp⟩, ?_⟩
    · rw [left_no (by omega), left_0 kr (by omega)]
    · rw [(pick_2 h).2]
      simp [Wd.step]
  · intro s n h
    rw [(pick_30 h).1]
    have a1 : Mem (p - 1) [(s, n)] := mem_cons.mpr (.inl ⟨by show s ≤ p - 1; omega, by show p - 1 ≤ s + (n : Int); omega⟩)
    have a2 : ¬ Mem (p + 1) [(s, n)] := fun m => by
      rcases mem_cons.mp m with m | m
      · have := m.2; simp only at this; omega
      · exact mem_nil m
    refine ⟨by simp [a1], by simp [a2], by simp, by simp, fun _ _ => ⟨?_, by simp⟩, fun _ m => absurd a1 m, ?_⟩
    · rw [left_yes (by omega)]
      rfl
    · rw [(pick_30 h).2]
      simp [Wd.step]
  · intro s n s' n' r h h' kr
    rw [(pick_31 h h').1]
    have a1 : Mem (p - 1) ((s, n) :: (s', n') :: r) := mem_cons.mpr (.inl ⟨by show s ≤ p - 1; omega, by show p - 1 ≤ s + (n : Int); omega⟩)
    have a2 : Mem (p + 1) ((s, n) :: (s', n') :: r) := mem_cons.mpr (.inr (mem_cons.mpr (.inl ⟨by show s' ≤ p + 1; omega, by show p + 1 ≤ s' + (n' : Int); omega⟩)))
    refine ⟨by simp [a1], by simp [a1, a2], by simp, fun _ => ⟨?_, by simp⟩, by simp, by simp, ?_⟩
    · rw [left_yes (by omega), left_no (by omega), left_0 kr (by omega)]
    · rw [(pick_31 h h').2]
      simp [Wd.step]
      omega
  · intro s n s' n' r h h' kr
    rw [(pick_32 h (by omega)).1]
    have a1 : Mem (p - 1) ((s, n) :: (s', n') :: r) := mem_cons.mpr (.inl ⟨by show s ≤ p - 1; omega, by show p - 1 ≤ s + (n : Int); omega⟩)
    have a2 : ¬ Mem (p + 1) ((s, n) :: (s', n') :: r) := fun m => by
      rcases mem_cons.mp m with m | m
      · have := m.2; simp only at this; omega
      · rcases mem_cons.mp m with m | m
        · have := m.1; simp only at this; omega
        · have := ok_lt kr m; omega
    refine ⟨by simp [a1], by simp [a2], by simp, by simp, fun _ _ => ⟨?_, by simp; omega⟩, fun _ m => absurd a1 m, ?_⟩
    · rw [left_yes (by omega), left_no (by omega), left_0 kr (by omega)]
    · rw [(pick_32 h (by omega)).2]
      simp [Wd.step]
  · intro s n r h kr nmr ih
    rw [(pick_4 h).1]
    have b1 : Mem (p - 1) ((s, n) :: r) ↔ Mem (p - 1) r := by
      rw [mem_cons]
      exact ⟨fun m => m.elim (fun m => by have := m.2; simp only at this; omega) id, .inr⟩
    have b2 : Mem (p + 1) ((s, n) :: r) ↔ Mem (p + 1) r := by
      rw [mem_cons]
      exact ⟨fun m => m.elim (fun m => by have := m.2; simp only at this; omega) id, .inr⟩
    have bl : left p ((s, n) :: r) = left p r + 1 := left_yes (by omega)
    have ad := (pick_4 (r := r) h).2
    have hl := ih.len
    generalize hc : pick p r = c at ih
    obtain ⟨w, m⟩ := c
    have e1 := ih.new
    have e2 := ih.btw
    have e3 := ih.n1
    have e4 := ih.n2
    have e5 := ih.n3
    have e6 := ih.n4
    have e7 := ih.len
    have hlen : ((add p ((s, n) :: r)).length : Int) = ((s, n) :: r).length + w.step := by
      rw [ad, List.length_cons, List.length_cons]
      have : ((add p r).length : Int) = r.length + w.step := e7
      omega
    have hw : (shift (w, m)).1 = w := shift_word _
    refine ⟨?_, ?_, ?_, ?_, ?_, ?_, ?_⟩
    · rw [hw, b1, b2]; exact e1
    · rw [hw, b1, b2]; exact e2
    · intro e
      rw [hw] at e
      subst e
      obtain ⟨f1, f2⟩ := e3 rfl
      rw [bl, List.length_cons]
      exact ⟨by show m + 1 = _; simp only at f1; omega, by show m + 1 ≤ _; simp only at f2; omega⟩
    · intro e
      rw [hw] at e
      subst e
      obtain ⟨f1, f2⟩ := e4 rfl
      rw [bl, List.length_cons]
      exact ⟨by show m + 1 + 1 = _; simp only at f1; omega, by show m + 1 + 1 < _; simp only at f2; omega⟩
    · intro e z
      rw [hw] at e
      subst e
      obtain ⟨f1, f2⟩ := e5 rfl (b1.mp z)
      rw [bl, List.length_cons]
      exact ⟨by show m + 2 + 1 = _; simp only at f1; omega, by show m + 2 < _; simp only at f2; omega⟩
    · intro e z
      rw [hw] at e
      subst e
      obtain ⟨f1, f2⟩ := e6 rfl (fun q => z (b1.mpr q))
      rw [bl, List.length_cons]
      exact ⟨by show m + 2 = _; simp only at f1; omega, by show m + 2 < _; simp only at f2; omega⟩
    · rw [hw]; exact hlen
end OgM
namespace OgM
def runStep (g : List Seg) (p : Int) : List Seg :=
  match g.getLast? with
  | none => [(p, 0)]
  | some (s, n) => if s + n = p - 1 then g.dropLast ++ [(s, n + 1)] else g ++ [(p, 0)]
theorem add_last : ∀ {g : List Seg} {lo p : Int}, Ok lo g → (∀ q, Mem q g → q < p) → add p g = runStep g p
  | [], _, _, _, _ => rfl
  | [(s, n)], lo, p, k, h => by
    have e : s + n < p := h _ (mem_cons.mpr (.inl ⟨by show s ≤ s + (n : Int); omega, Int.le_refl _⟩))
    show add p [(s, n)] = if s + n = p - 1 then [] ++ [(s, n + 1)] else [(s, n)] ++ [(p, 0)]
    by_cases e2 : s + n = p - 1
    · rw [if_pos e2, (pick_30 (by omega)).2]
      rfl
    · rw [if_neg e2, (pick_4 (by omega)).2]
      rfl
  | (s, n) :: y :: r, lo, p, k, h => by
    have k2 : Ok (s + n + 1) (y :: r) := k.2
    have e : y.1 + y.2 < p := h _ (mem_cons.mpr (.inr (mem_cons.mpr (.inl ⟨by show y.1 ≤ y.1 + (y.2 : Int); omega, Int.le_refl _⟩))))
    have k3 : s + n + 1 < y.1 := k2.1
    rw [(pick_4 (by omega)).2, add_last k2 fun q m => h q (mem_cons.mpr (.inr m))]
    unfold runStep
    rw [List.getLast?_cons_cons]
    have ed : ((s, n) :: y :: r).dropLast = (s, n) :: (y :: r).dropLast := rfl
    rw [ed]
    split
    · rename_i e0
      exact absurd (List.getLast?_eq_none_iff.mp e0) (by simp)
    · split <;> rfl
theorem segs_rise {l : List Int} {p : Int} (h : l.Pairwise (· < ·)) (hp : ∀ q ∈ l, q < p) : segs (l ++ [p]) = runStep (segs l) p := by
  have nd : l.Nodup := h.imp fun {a b} (x : a < b) => Int.ne_of_lt x
  obtain ⟨lo, hl⟩ := lower l
  obtain ⟨a, b⟩ := segs_ok nd hl
  rw [segs_snoc]
  exact add_last a fun q m => hp q ((b q).mp m)
def sgi (x : Seg) : List Int := (List.range (x.2 + 1)).map fun (i : Nat) => x.1 + (i : Int)
theorem sgi_snoc (s : Int) (n : Nat) : sgi (s, n) ++ [s + n + 1] = sgi (s, n + 1) := by
  unfold sgi
  show _ = (List.range (n + 1 + 1)).map _
  rw [List.range_succ (n := n + 1), List.map_append]
  simp
  omega
theorem sgi_cons (s : Int) (n : Nat) : s :: sgi (s + 1, n) = sgi (s, n + 1) := by
  unfold sgi
  show _ = (List.range (n + 1 + 1)).map _
  rw [List.range_succ_eq_map (n := n + 1), List.map_cons, List.map_map]
  congr 1
  · simp
  · refine List.map_congr_left fun a _ => ?_
    show s + 1 + (a : Int) = s + ((a + 1 : Nat) : Int)
    omega
theorem sgi_join (s : Int) (n n' : Nat) : sgi (s, n) ++ [s + n + 1] ++ sgi (s + n + 2, n') = sgi (s, n + n' + 2) := by
  induction n' with
  | zero =>
    rw [sgi_snoc]
    have : sgi (s + n + 2, 0) = [s + ((n + 1 : Nat) : Int) + 1] := by
      unfold sgi
      simp
      omega
    rw [this, sgi_snoc]
  | succ k ih =>
    rw [← sgi_snoc, ← List.append_assoc, ih]
    have : s + n + 2 + k + 1 = s + ((n + k + 2 : Nat) : Int) + 1 := by omega
    rw [this, sgi_snoc]
    rfl
theorem sgi_len (x : Seg) : (sgi x).length = x.2 + 1 := by simp [sgi]
theorem sgi_last (x : Seg) : (sgi x).getLast? = some (x.1 + x.2) := by
  unfold sgi
  rw [List.range_succ, List.map_append]
  simp
theorem sgi_head (x : Seg) : (sgi x).head? = some x.1 := by
  unfold sgi
  rw [List.range_succ_eq_map, List.map_cons]
  simp
def applyC (t : Nat) (c : Ch) (st : List (List Nat)) : List (List Nat) :=
  match c.1 with
  | .new => st.take c.2 ++ [[t]] ++ st.drop c.2
  | .between => st.take c.2 ++ [(st.getD c.2 []) ++ [t] ++ (st.getD (c.2 + 1) [])] ++ st.drop (c.2 + 2)
  | .beside => if c.2 % 2 = 0 then st.set (c.2 / 2) (t :: st.getD (c.2 / 2) []) else st.set (c.2 / 2) (st.getD (c.2 / 2) [] ++ [t])
theorem applyC_shift (t : Nat) (c : Ch) (a : List Nat) (st : List (List Nat)) : applyC t (shift c) (a :: st) = a :: applyC t c st := by
  obtain ⟨w, k⟩ := c
  cases w with
  | new => simp [applyC, shift]
  | between =>
    show (a :: st).take (k + 1) ++ [((a :: st).getD (k + 1) []) ++ [t] ++ ((a :: st).getD (k + 1 + 1) [])] ++ (a :: st).drop (k + 1 + 2) = _
    simp [applyC]
  | beside =>
    show (if (k + 2) % 2 = 0 then (a :: st).set ((k + 2) / 2) (t :: (a :: st).getD ((k + 2) / 2) []) else (a :: st).set ((k + 2) / 2) ((a :: st).getD ((k + 2) / 2) [] ++ [t])) = a :: (if k % 2 = 0 then st.set (k / 2) (t :: st.getD (k / 2) []) else st.set (k / 2) (st.getD (k / 2) [] ++ [t]))
    have e1 : (k + 2) / 2 = k / 2 + 1 := by omega
    have e2 : (k + 2) % 2 = k % 2 := by omega
    rw [e1, e2]
    split <;> simp
/-- st are the times of the segments g, told by f -/
def Told (f : Nat → Int) (st : List (List Nat)) (g : List Seg) : Prop := st.map (·.map f) = g.map sgi
theorem told_cons {f : Nat → Int} {st : List (List Nat)} {x : Seg} {g : List Seg} (h : Told f st (x :: g)) : ∃ a st', st = a :: st' ∧ a.map f = sgi x ∧ Told f st' g := by
  cases st with
  | nil => exact absurd h (by simp [Told])
  | cons a st' =>
    have q : a.map f :: st'.map (·.map f) = sgi x :: g.map sgi := h
    injection q with q1 q2
    exact ⟨a, st', rfl, q1, q2⟩
theorem told_add {f : Nat → Int} {t : Nat} {p : Int} (ft : f t = p) {g : List Seg} {lo : Int} (k : Ok lo g) (nm : ¬ Mem p g) :
    ∀ st, Told f st g → Told f (applyC t (pick p g) st) (add p g) ∧ ∀ x, x ∈ (applyC t (pick p g) st).flatten ↔ x = t ∨ x ∈ st.flatten := by
  refine way (C := fun g => ∀ st, Told f st g → Told f (applyC t (pick p g) st) (add p g) ∧ ∀ x, x ∈ (applyC t (pick p g) st).flatten ↔ x = t ∨ x ∈ st.flatten) ?_ ?_ ?_ ?_ ?_ ?_ ?_ k nm
  · intro st h
    have e : st = [] := by simpa [Told] using h
    subst e
    refine ⟨?_, fun x => by simp [applyC, pick]⟩
    simp [Told, applyC, pick, add, sgi, ft]
  · intro s n r h kr st ht
    rw [(pick_1 h).1, (pick_1 h).2]
    refine ⟨?_, fun x => by simp [applyC]⟩
    show ([[t]] ++ st).map (·.map f) = _
    rw [List.map_append, ht]
    simp [sgi, ft]
  · intro s n r h kr st ht
    rw [(pick_2 h).1, (pick_2 h).2]
    obtain ⟨a, st', rfl, ha, ht'⟩ := told_cons ht
    refine ⟨?_, fun x => by simp [applyC, or_assoc]⟩
    show (t :: a).map f :: st'.map (·.map f) = sgi (p, n + 1) :: r.map sgi
    rw [ht', List.map_cons, ha, ft, ← sgi_cons]
    have : p + 1 = s := by omega
    rw [this]
  · intro s n h st ht
    rw [(pick_30 h).1, (pick_30 h).2]
    obtain ⟨a, st', rfl, ha, ht'⟩ := told_cons ht
    refine ⟨?_, fun x => by simp [applyC, or_assoc, or_left_comm]⟩
    show (a ++ [t]).map f :: st'.map (·.map f) = sgi (s, n + 1) :: [].map sgi
    rw [ht', List.map_append, ha, ← sgi_snoc]
    simp [ft, h]
  · intro s n s' n' r h h' kr st ht
    rw [(pick_31 h h').1, (pick_31 h h').2]
    obtain ⟨a, st', rfl, ha, ht'⟩ := told_cons ht
    obtain ⟨b, st'', rfl, hb, ht''⟩ := told_cons ht'
    refine ⟨?_, fun x => by simp [applyC, or_assoc, or_left_comm]⟩
    show (a ++ [t] ++ b).map f :: st''.map (·.map f) = sgi (s, n + n' + 2) :: r.map sgi
    rw [ht'', List.map_append, List.map_append, ha, hb, ← sgi_join]
    have : s' = s + n + 2 := by omega
    simp [ft, h, this]
  · intro s n s' n' r h h' kr st ht
    rw [(pick_32 h (by omega)).1, (pick_32 h (by omega)).2]
    obtain ⟨a, st', rfl, ha, ht'⟩ := told_cons ht
    refine ⟨?_, fun x => by simp [applyC, or_assoc, or_left_comm]⟩
    show (a ++ [t]).map f :: st'.map (·.map f) = sgi (s, n + 1) :: ((s', n') :: r).map sgi
    rw [ht', List.map_append, ha, ← sgi_snoc]
    simp [ft, h]
  · intro s n r h kr nmr ih st ht
    rw [(pick_4 h).1, (pick_4 h).2]
    obtain ⟨a, st', rfl, ha, ht'⟩ := told_cons ht
    obtain ⟨i1, i2⟩ := ih st' ht'
    rw [applyC_shift]
    refine ⟨?_, fun x => ?_⟩
    · show a.map f :: (applyC t (pick p r) st').map (·.map f) = sgi (s, n) :: (add p r).map sgi
      rw [ha, i1]
    · rw [List.flatten_cons, List.flatten_cons, List.mem_append, List.mem_append, i2 x, or_left_comm]
end OgM
namespace OgM
theorem getLast_snoc {α : Type} (l : List α) (x : α) : (l ++ [x]).getLast? = some x := by simp
theorem rise_of {l k : List Int} (hn : l.Nodup) (hp : k.Perm l) (hs : k.Pairwise (· ≤ ·)) : k.Pairwise (· < ·) := by
  have nk : k.Nodup := hp.nodup_iff.mpr hn
  exact (hs.and nk).imp fun {a b} h => by have := h.1; have := h.2; omega
theorem add_len : ∀ (p : Int) (g : List Seg), (add p g).length ≤ g.length + 1
  | p, [] => by simp [add]
  | p, (s, n) :: r => by
    unfold add
    split
    · simp
    · split
      · simp
      · split
        · cases r with
          | nil => simp
          | cons y r' =>
            obtain ⟨s', n'⟩ := y
            show (if s' = p + 1 then (s, n + n' + 2) :: r' else (s, n + 1) :: (s', n') :: r').length ≤ _
            split <;> simp <;> omega
        · have := add_len p r
          simp
          omega
theorem segs_len (l : List Int) : (segs l).length ≤ l.length := by
  induction l using snoc_ind with
  | h0 => simp [segs]
  | h1 l p ih =>
    rw [segs_snoc, List.length_append]
    have := add_len p (segs l)
    simp
    omega
def size : List Seg → Nat
  | [] => 0
  | x :: r => x.2 + 1 + size r
theorem size_add : ∀ (p : Int) (g : List Seg), size (add p g) = size g + 1
  | p, [] => rfl
  | p, (s, n) :: r => by
    unfold add
    split
    · show 0 + 1 + (n + 1 + size r) = n + 1 + size r + 1
      omega
    · split
      · show n + 1 + 1 + size r = n + 1 + size r + 1
        omega
      · split
        · cases r with
          | nil => rfl
          | cons y r' =>
            obtain ⟨s', n'⟩ := y
            show size (if s' = p + 1 then (s, n + n' + 2) :: r' else (s, n + 1) :: (s', n') :: r') = n + 1 + (n' + 1 + size r') + 1
            split
            · show n + n' + 2 + 1 + size r' = _
              omega
            · show n + 1 + 1 + (n' + 1 + size r') = _
              omega
        · show n + 1 + size (add p r) = n + 1 + size r + 1
          rw [size_add p r]
          omega
theorem segs_size (l : List Int) : size (segs l) = l.length := by
  induction l using snoc_ind with
  | h0 => rfl
  | h1 l p ih =>
    rw [segs_snoc, size_add, ih]
    simp
theorem size_mem : ∀ {g : List Seg} {x : Seg}, x ∈ g → x.2 + 1 ≤ size g
  | y :: r, x, h => by
    rcases List.mem_cons.mp h with e | h
    · subst e
      show x.2 + 1 ≤ x.2 + 1 + size r
      omega
    · have := size_mem h
      show x.2 + 1 ≤ y.2 + 1 + size r
      omega
def picks (row : List Int) : List Ch := (List.range row.length).map fun i => pick (row.getD i 0) (segs (row.take i))
theorem picks_len (row : List Int) : (picks row).length = row.length := by simp [picks]
structure Row (n : Int) (row : List Int) : Prop where
  nd : row.Nodup
  lo : ∀ p ∈ row, 0 ≤ p
  hi : ∀ p ∈ row, p < n
theorem Row.take {n : Int} {row : List Int} (h : Row n row) (i : Nat) : Row n (row.take i) :=
  ⟨h.nd.sublist (List.take_sublist _ _), fun p q => h.lo p (List.mem_of_mem_take q), fun p q => h.hi p (List.mem_of_mem_take q)⟩
theorem Row.ok {n : Int} {row : List Int} (h : Row n row) : Ok (-1) (segs row) ∧ ∀ q, Mem q (segs row) ↔ q ∈ row :=
  segs_ok h.nd fun p hp => by have := h.lo p hp; omega
theorem Row.fresh {n : Int} {row : List Int} (h : Row n row) {i : Nat} {p : Int} (e : row[i]? = some p) : p ∉ row.take i := by
  intro m
  obtain ⟨j, hj⟩ := List.getElem?_of_mem m
  rw [List.getElem?_take] at hj
  split at hj
  · rename_i lt
    obtain ⟨a, ea⟩ := List.getElem?_eq_some_iff.mp e
    obtain ⟨b, eb⟩ := List.getElem?_eq_some_iff.mp hj
    have := (List.getElem_inj h.nd).mp (eb.trans ea.symm)
    omega
  · cases hj
theorem take_snoc {row : List Int} {i : Nat} {p : Int} (e : row[i]? = some p) : row.take (i + 1) = row.take i ++ [p] := by
  rw [List.take_add_one, e]
  rfl
theorem Row.says {n : Int} {row : List Int} (h : Row n row) {i : Nat} {p : Int} (e : row[i]? = some p) : Says p (segs (row.take i)) (pick p (segs (row.take i))) :=
  OgM.says (h.take i).ok.1 fun m => h.fresh e (((h.take i).ok.2 p).mp m)
theorem Row.segs {n : Int} {row : List Int} (h : Row n row) {i : Nat} {p : Int} (e : row[i]? = some p) : segs (row.take (i + 1)) = add p (segs (row.take i)) := by
  rw [take_snoc e, segs_snoc]
theorem picks_get {row : List Int} {i : Nat} {p : Int} (e : row[i]? = some p) : (picks row)[i]? = some (pick p (segs (row.take i))) := by
  have hi := (List.getElem?_eq_some_iff.mp e).1
  unfold picks
  rw [List.getElem?_map, List.getElem?_range hi]
  show some (pick (row.getD i 0) _) = some _
  rw [List.getD_eq_getElem?_getD, e]
  rfl
end OgM
namespace OgM
def nearB (p : Int) (x : Seg) : Bool := decide (p - 1 = x.1 + x.2) || decide (p + 1 = x.1)
def near (p : Int) (g : List Seg) : List Nat := (List.range g.length).filter fun i => nearB p (g.getD i (0, 0))
theorem filter_ne_len {l : List Int} (h : l.Nodup) {z : Int} (m : z ∈ l) : (l.filter (· != z)).length + 1 = l.length := by
  rw [← h.erase_eq_filter, List.length_erase_of_mem m]
  have := List.length_pos_of_mem m
  omega
def Wd.ix : Wd → Nat
  | .new => 0
  | .beside => 1
  | .between => 2
def b1 (c : Bool) : Nat := if c then 1 else 0
theorem nb_pick {l : List Int} (hn : l.Nodup) {p : Int} (hp : p ∉ l) : b1 (decide (p - 1 ∈ l)) + b1 (decide (p + 1 ∈ l)) = (pick p (segs l)).1.ix := by
  obtain ⟨lo, hl⟩ := lower l
  obtain ⟨k, km⟩ := segs_ok hn hl
  have S := says k (p := p) fun m => hp ((km p).mp m)
  have e1 := S.new
  have e2 := S.btw
  rw [km, km] at e1 e2
  by_cases a : p - 1 ∈ l <;> by_cases b : p + 1 ∈ l
  · rw [e2.mpr ⟨a, b⟩, decide_eq_true a, decide_eq_true b]
    rfl
  · have : (pick p (segs l)).1 = .beside := by
      cases h : (pick p (segs l)).1 with
      | new => exact absurd a (e1.mp h).1
      | beside => rfl
      | between => exact absurd (e2.mp h).2 b
    rw [this, decide_eq_true a, decide_eq_false b]
    rfl
  · have : (pick p (segs l)).1 = .beside := by
      cases h : (pick p (segs l)).1 with
      | new => exact absurd b (e1.mp h).2
      | beside => rfl
      | between => exact absurd (e2.mp h).1 a
    rw [this, decide_eq_false a, decide_eq_true b]
    rfl
  · rw [e1.mpr ⟨a, b⟩, decide_eq_false a, decide_eq_false b]
    rfl
end OgM
namespace OgM
def Valid (c : Ch) (n : Nat) : Prop :=
  match c.1 with
  | .new => c.2 ≤ n
  | .beside => c.2 < 2 * n
  | .between => c.2 + 1 < n
def stAt (cs : List Ch) : Nat → List (List Nat)
  | 0 => []
  | i + 1 => applyC i (cs.getD i (.new, 0)) (stAt cs i)
def VCh (cs : List Ch) : Prop := ∀ i c, cs[i]? = some c → Valid c (stAt cs i).length
theorem flat_cut (st : List (List Nat)) (k : Nat) : (st.take k).flatten.length + (st.drop k).flatten.length = st.flatten.length := by
  rw [← List.length_append, ← List.flatten_append, List.take_append_drop]
theorem getD_at {α : Type} {l : List α} {j : Nat} {x d : α} (h : l[j]? = some x) : l.getD j d = x := by
  rw [List.getD_eq_getElem?_getD, h]
  rfl
theorem drop_at {α : Type} {l : List α} {j : Nat} {x : α} (h : l[j]? = some x) : l.drop j = x :: l.drop (j + 1) := by
  obtain ⟨a, e⟩ := List.getElem?_eq_some_iff.mp h
  rw [← e]
  exact List.drop_eq_getElem_cons a
theorem apply_size {c : Ch} {st : List (List Nat)} (t : Nat) (h : Valid c st.length) : (applyC t c st).flatten.length = st.flatten.length + 1 ∧ ((applyC t c st).length : Int) = st.length + c.1.step := by
  obtain ⟨w, k⟩ := c
  cases w with
  | new =>
    have h' : k ≤ st.length := h
    have e := flat_cut st k
    constructor
    · show (st.take k ++ [[t]] ++ st.drop k).flatten.length = _
      simp only [List.flatten_append, List.length_append, List.flatten_cons, List.flatten_nil, List.length_cons, List.length_nil]
      omega
    · show ((st.take k ++ [[t]] ++ st.drop k).length : Int) = st.length + 1
      simp only [List.length_append, List.length_take, List.length_drop, List.length_cons, List.length_nil]
      omega
  | between =>
    have h' : k + 1 < st.length := h
    have e := flat_cut st k
    have a1 : st[k]? = some (st[k]'(by omega)) := List.getElem?_eq_getElem _
    have a2 : st[k + 1]? = some (st[k + 1]'h') := List.getElem?_eq_getElem _
    rw [drop_at a1, drop_at a2, show k + 1 + 1 = k + 2 from rfl] at e
    simp only [List.flatten_cons, List.length_append] at e
    constructor
    · show (st.take k ++ [(st.getD k []) ++ [t] ++ (st.getD (k + 1) [])] ++ st.drop (k + 2)).flatten.length = _
      rw [getD_at a1, getD_at a2]
      simp only [List.flatten_append, List.length_append, List.flatten_cons, List.flatten_nil, List.length_cons, List.length_nil]
      omega
    · show ((st.take k ++ [(st.getD k []) ++ [t] ++ (st.getD (k + 1) [])] ++ st.drop (k + 2)).length : Int) = st.length + -1
      simp only [List.length_append, List.length_take, List.length_drop, List.length_cons, List.length_nil]
      omega
  | beside =>
    have h' : k < 2 * st.length := h
    have hj : k / 2 < st.length := by omega
    have e := flat_cut st (k / 2)
    have a1 : st[k / 2]? = some (st[k / 2]'hj) := List.getElem?_eq_getElem _
    rw [drop_at a1] at e
    simp only [List.flatten_cons, List.length_append] at e
    show (if k % 2 = 0 then st.set (k / 2) (t :: st.getD (k / 2) []) else st.set (k / 2) (st.getD (k / 2) [] ++ [t])).flatten.length = _ ∧ ((if k % 2 = 0 then st.set (k / 2) (t :: st.getD (k / 2) []) else st.set (k / 2) (st.getD (k / 2) [] ++ [t])).length : Int) = st.length + 0
    rw [getD_at a1]
    split
    · rw [List.length_set, List.set_eq_take_append_cons_drop, if_pos hj]
      simp only [List.flatten_append, List.length_append, List.flatten_cons, List.length_cons]
      omega
    · rw [List.length_set, List.set_eq_take_append_cons_drop, if_pos hj]
      simp only [List.flatten_append, List.length_append, List.flatten_cons, List.length_cons, List.length_nil]
      omega
/-- a row's choices are valid, and their groups are its segments -/
theorem picks_told {n : Int} {row : List Int} (h : Row n row) : ∀ i, i ≤ row.length → Told (fun t => row.getD t 0) (stAt (picks row) i) (OgM.segs (row.take i)) ∧ ∀ x, x ∈ (stAt (picks row) i).flatten ↔ x < i
  | 0, _ => ⟨by simp [Told, stAt, OgM.segs], fun x => by simp [stAt]⟩
  | i + 1, hi => by
    obtain ⟨h1, h2⟩ := picks_told h i (by omega)
    have e : row[i]? = some (row[i]'hi) := List.getElem?_eq_getElem _
    have q := told_add (f := fun t => row.getD t 0) (t := i) (p := row[i]'hi) (getD_at e) (h.take i).ok.1 (fun m => h.fresh e (((h.take i).ok.2 _).mp m)) _ h1
    show Told _ (applyC i ((picks row).getD i (.new, 0)) (stAt (picks row) i)) _ ∧ ∀ x, x ∈ (applyC i ((picks row).getD i (.new, 0)) (stAt (picks row) i)).flatten ↔ x < i + 1
    rw [getD_at (picks_get e), h.segs e]
    refine ⟨q.1, fun x => ?_⟩
    rw [q.2 x, h2 x]
    omega
theorem picks_valid {n : Int} {row : List Int} (h : Row n row) : VCh (picks row) := by
  intro i c e
  have hi := (List.getElem?_eq_some_iff.mp e).1
  rw [picks_len] at hi
  have er : row[i]? = some (row[i]'hi) := List.getElem?_eq_getElem _
  rw [picks_get er] at e
  have ec := Option.some.inj e
  obtain ⟨h1, _⟩ := picks_told h i (by omega)
  have hl : (stAt (picks row) i).length = (OgM.segs (row.take i)).length := by
    have := congrArg List.length h1
    simpa using this
  rw [hl]
  have S := h.says er
  rw [ec] at S
  obtain ⟨w, k⟩ := c
  cases w with
  | new => exact (S.n1 rfl).2
  | between => exact (S.n2 rfl).2
  | beside =>
    by_cases m : Mem (row[i]'hi - 1) (OgM.segs (row.take i))
    · exact (S.n3 rfl m).2
    · exact (S.n4 rfl m).2
theorem apply_mem {c : Ch} {st : List (List Nat)} (t : Nat) (h : Valid c st.length) (x : Nat) : x ∈ (applyC t c st).flatten ↔ x = t ∨ x ∈ st.flatten := by
  have cut : ∀ k, x ∈ st.flatten ↔ x ∈ (st.take k).flatten ∨ x ∈ (st.drop k).flatten := fun k => by
    rw [← List.mem_append, ← List.flatten_append, List.take_append_drop]
  obtain ⟨w, k⟩ := c
  cases w with
  | new =>
    show x ∈ (st.take k ++ [[t]] ++ st.drop k).flatten ↔ _
    rw [cut k]
    simp only [List.flatten_append, List.mem_append, List.flatten_cons, List.flatten_nil, List.mem_singleton, List.append_nil]
    constructor
    · rintro ((a | a) | a)
      · exact .inr (.inl a)
      · exact .inl a
      · exact .inr (.inr a)
    · rintro (a | a | a)
      · exact .inl (.inr a)
      · exact .inl (.inl a)
      · exact .inr a
  | between =>
    have h' : k + 1 < st.length := h
    have a1 : st[k]? = some (st[k]'(by omega)) := List.getElem?_eq_getElem _
    have a2 : st[k + 1]? = some (st[k + 1]'h') := List.getElem?_eq_getElem _
    show x ∈ (st.take k ++ [(st.getD k []) ++ [t] ++ (st.getD (k + 1) [])] ++ st.drop (k + 2)).flatten ↔ _
    rw [cut k, drop_at a1, drop_at a2, show k + 1 + 1 = k + 2 from rfl, getD_at a1, getD_at a2]
    simp only [List.flatten_append, List.mem_append, List.flatten_cons, List.flatten_nil, List.mem_singleton, List.append_nil]
    constructor
    · rintro ((a | ((a | a) | a)) | a)
      · exact .inr (.inl a)
      · exact .inr (.inr (.inl a))
      · exact .inl a
      · exact .inr (.inr (.inr (.inl a)))
      · exact .inr (.inr (.inr (.inr a)))
    · rintro (a | a | a | a | a)
      · exact .inl (.inr (.inl (.inr a)))
      · exact .inl (.inl a)
      · exact .inl (.inr (.inl (.inl a)))
      · exact .inl (.inr (.inr a))
      · exact .inr a
  | beside =>
    have h' : k < 2 * st.length := h
    have hj : k / 2 < st.length := by omega
    have a1 : st[k / 2]? = some (st[k / 2]'hj) := List.getElem?_eq_getElem _
    show x ∈ (if k % 2 = 0 then st.set (k / 2) (t :: st.getD (k / 2) []) else st.set (k / 2) (st.getD (k / 2) [] ++ [t])).flatten ↔ _
    rw [cut (k / 2), drop_at a1, getD_at a1]
    split
    · rw [List.set_eq_take_append_cons_drop, if_pos hj]
      simp only [List.flatten_append, List.mem_append, List.flatten_cons, List.mem_cons]
      constructor
      · rintro (a | (a | a) | a)
        · exact .inr (.inl a)
        · exact .inl a
        · exact .inr (.inr (.inl a))
        · exact .inr (.inr (.inr a))
      · rintro (a | a | a | a)
        · exact .inr (.inl (.inl a))
        · exact .inl a
        · exact .inr (.inl (.inr a))
        · exact .inr (.inr a)
    · rw [List.set_eq_take_append_cons_drop, if_pos hj]
      simp only [List.flatten_append, List.mem_append, List.flatten_cons, List.mem_singleton]
      constructor
      · rintro (a | (a | a) | a)
        · exact .inr (.inl a)
        · exact .inr (.inr (.inl a))
        · exact .inl a
        · exact .inr (.inr (.inr a))
      · rintro (a | a | a | a)
        · exact .inr (.inl (.inr a))
        · exact .inl a
        · exact .inr (.inl (.inl a))
        · exact .inr (.inr a)
theorem st_mem {cs : List Ch} (v : VCh cs) : ∀ i, i ≤ cs.length → ∀ x, x ∈ (stAt cs i).flatten ↔ x < i
  | 0, _, x => by simp [stAt]
  | i + 1, h, x => by
    have e : cs[i]? = some (cs[i]'h) := List.getElem?_eq_getElem _
    show x ∈ (applyC i (cs.getD i (.new, 0)) (stAt cs i)).flatten ↔ _
    rw [getD_at e, apply_mem i (v i _ e), st_mem v i (by omega) x]
    omega
theorem steps_sum {cs : List Ch} (v : VCh cs) : ∀ i, i ≤ cs.length → (((cs.take i).map fun c => c.1.step).sum : Int) = (stAt cs i).length
  | 0, _ => rfl
  | i + 1, h => by
    have e : cs[i]? = some (cs[i]'h) := List.getElem?_eq_getElem _
    have q := (apply_size i (v i _ e)).2
    have ih := steps_sum v i (by omega)
    show _ = ((applyC i (cs.getD i (.new, 0)) (stAt cs i)).length : Int)
    rw [getD_at e, List.take_add_one, e, List.map_append, List.sum_append]
    show _ + ((cs[i]'h).1.step + 0) = _
    omega
end OgM
namespace OgM
theorem sgi_inj {x y : Seg} (h : sgi x = sgi y) : x = y := by
  have h1 : (sgi x).length = (sgi y).length := by rw [h]
  have h2 : (sgi x).head? = (sgi y).head? := by rw [h]
  rw [sgi_len, sgi_len] at h1
  rw [sgi_head, sgi_head] at h2
  obtain ⟨a, b⟩ := x
  obtain ⟨c, d⟩ := y
  have e1 : a = c := Option.some.inj h2
  have e2 : b = d := by simpa using h1
  rw [e1, e2]
theorem told_cons' {f : Nat → Int} {a : List Nat} {st : List (List Nat)} {g : List Seg} (h : Told f (a :: st) g) : ∃ x g', g = x :: g' ∧ a.map f = sgi x ∧ Told f st g' := by
  cases g with
  | nil => exact absurd h (by simp [Told])
  | cons x g' =>
    have q : a.map f :: st.map (·.map f) = sgi x :: g'.map sgi := h
    injection q with q1 q2
    exact ⟨x, g', rfl, q1, q2⟩
/-- parts of a segment -/
theorem sgi_pre {l : List Int} {p : Int} {x : Seg} (h : p :: l = sgi x) (hl : l ≠ []) : ∃ n, x = (p, n + 1) ∧ l = sgi (p + 1, n) := by
  obtain ⟨s, m⟩ := x
  cases m with
  | zero =>
    have : (p :: l).length = 1 := by rw [h, sgi_len]
    simp at this
    exact absurd this hl
  | succ n =>
    rw [← sgi_cons] at h
    injection h with h1 h2
    exact ⟨n, by rw [h1], by rw [h1]; exact h2⟩
theorem sgi_suf {l : List Int} {p : Int} {x : Seg} (h : l ++ [p] = sgi x) (hl : l ≠ []) : ∃ s n, x = (s, n + 1) ∧ l = sgi (s, n) ∧ p = s + n + 1 := by
  obtain ⟨s, m⟩ := x
  cases m with
  | zero =>
    have : (l ++ [p]).length = 1 := by rw [h, sgi_len]
    simp at this
    exact absurd this hl
  | succ n =>
    rw [← sgi_snoc] at h
    have h1 := List.append_inj' h rfl
    exact ⟨s, n, rfl, h1.1, by simpa using h1.2⟩
theorem sgi_mid {l r : List Int} {p : Int} {x : Seg} (h : l ++ [p] ++ r = sgi x) (hl : l ≠ []) (hr : r ≠ []) : ∃ s n n', x = (s, n + n' + 2) ∧ l = sgi (s, n) ∧ p = s + n + 1 ∧ r = sgi (s + n + 2, n') := by
  obtain ⟨s, m⟩ := x
  have len : l.length + 1 + r.length = m + 1 := by
    have := congrArg List.length h
    rw [sgi_len, List.length_append, List.length_append, List.length_singleton] at this
    exact this
  obtain ⟨n, hn⟩ : ∃ n, l.length = n + 1 := ⟨l.length - 1, by have := List.length_pos_iff.mpr hl; omega⟩
  obtain ⟨n', hn'⟩ : ∃ n, r.length = n + 1 := ⟨r.length - 1, by have := List.length_pos_iff.mpr hr; omega⟩
  have e : m = n + n' + 2 := by omega
  subst e
  rw [← sgi_join] at h
  have h1 := List.append_inj' h (by rw [sgi_len]; exact hn')
  have h2 := List.append_inj' h1.1 rfl
  exact ⟨s, n, n', rfl, h2.1, by simpa using h2.2, h1.2⟩
/-- all groups have houses -/
def Full (st : List (List Nat)) : Prop := ∀ a ∈ st, a ≠ []
theorem valid_shift {c : Ch} {n : Nat} (h : Valid c (n + 1)) : (∃ c', c = shift c' ∧ Valid c' n) ∨ (c = (.new, 0) ∨ c = (.beside, 0) ∨ c = (.beside, 1) ∨ c = (.between, 0)) := by
  obtain ⟨w, k⟩ := c
  cases w with
  | new =>
    cases k with
    | zero => exact .inr (.inl rfl)
    | succ k => exact .inl ⟨(.new, k), rfl, by have h : k + 1 ≤ n + 1 := h; show k ≤ n; omega⟩
  | between =>
    cases k with
    | zero => exact .inr (.inr (.inr (.inr rfl)))
    | succ k => exact .inl ⟨(.between, k), rfl, by have h : k + 1 + 1 < n + 1 := h; show k + 1 < n; omega⟩
  | beside =>
    match k, h with
    | 0, _ => exact .inr (.inr (.inl rfl))
    | 1, _ => exact .inr (.inr (.inr (.inl rfl)))
    | k + 2, h => exact .inl ⟨(.beside, k), rfl, by have h : k + 2 < 2 * (n + 1) := h; show k < 2 * n; omega⟩
theorem un_apply {f : Nat → Int} {t : Nat} : ∀ {st : List (List Nat)} {c : Ch} {g' : List Seg} {lo : Int}, Valid c st.length → Full st → Told f (applyC t c st) g' → Ok lo g' →
    ∃ g, Told f st g ∧ Ok lo g ∧ ¬ Mem (f t) g ∧ add (f t) g = g' ∧ pick (f t) g = c ∧ lo < f t
  | [], c, g', lo, hv, hF, ht, ok => by
    obtain ⟨w, k⟩ := c
    cases w with
    | beside => exact absurd (show k < 2 * 0 from hv) (by omega)
    | between => exact absurd (show k + 1 < 0 from hv) (by omega)
    | new =>
      have hk : k = 0 := by have h : k ≤ 0 := hv; omega
      subst hk
      have e : applyC t (.new, 0) [] = [[t]] := rfl
      rw [e] at ht
      obtain ⟨x, r, rfl, h1, h2⟩ := told_cons' ht
      have hr : r = [] := by simpa [Told] using h2
      subst hr
      have hx : x = (f t, 0) := sgi_inj (by rw [← h1]; simp [sgi])
      subst hx
      exact ⟨[], rfl, trivial, mem_nil, rfl, rfl, ok.1⟩
  | a :: st, c, g', lo, hv, hF, ht, ok => by
    have ha : a ≠ [] := hF a List.mem_cons_self
    have hF' : Full st := fun b hb => hF b (List.mem_cons_of_mem _ hb)
    rcases valid_shift (n := st.length) hv with ⟨c', rfl, hv'⟩ | rfl | rfl | rfl | rfl
    · rw [applyC_shift] at ht
      obtain ⟨⟨s, n⟩, r, rfl, h1, h2⟩ := told_cons' ht
      obtain ⟨g, t1, t2, t3, t4, t5, t6⟩ := un_apply hv' hF' h2 ok.2
      have h4 : s + n + 1 < f t := t6
      refine ⟨(s, n) :: g, ?_, ⟨ok.1, t2⟩, fun m => ?_, ?_, ?_, ?_⟩
      · show a.map f :: st.map (·.map f) = sgi (s, n) :: g.map sgi
        rw [h1, t1]
      · rcases mem_cons.mp m with m | m
        · have m : s ≤ f t ∧ f t ≤ s + n := m
          omega
        · exact t3 m
      · rw [(pick_4 h4).2, t4]
      · rw [(pick_4 h4).1, t5]
      · have := ok.1
        show lo < f t
        have q : lo < s := this
        omega
    · -- new, at the left
      have e : applyC t (.new, 0) (a :: st) = [t] :: a :: st := rfl
      rw [e] at ht
      obtain ⟨x, r, rfl, h1, h2⟩ := told_cons' ht
      have hx : x = (f t, 0) := sgi_inj (by rw [← h1]; simp [sgi])
      subst hx
      obtain ⟨⟨s, n⟩, r2, rfl, h3, h4⟩ := told_cons' h2
      have o1 : lo < f t := ok.1
      have o2 : f t + (0 : Nat) + 1 < s := ok.2.1
      have hp : f t < s - 1 := by omega
      refine ⟨(s, n) :: r2, h2, ⟨by show lo < s; omega, ok.2.2⟩, nmem (lo := f t) ⟨by show f t < s; omega, ok.2.2⟩ (Int.le_refl _), (pick_1 hp).2, (pick_1 hp).1, o1⟩
    · have e : applyC t (.beside, 0) (a :: st) = (t :: a) :: st := rfl
      rw [e] at ht
      obtain ⟨x, r, rfl, h1, h2⟩ := told_cons' ht
      obtain ⟨n, rfl, h3⟩ := sgi_pre (l := a.map f) (by rw [← h1]; rfl) (by simpa using ha)
      have o1 : lo < f t := ok.1
      have o2 : Ok (f t + ((n + 1 : Nat) : Int) + 1) r := ok.2
      have hp : f t = (f t + 1) - 1 := by omega
      have o3 : Ok (f t + 1 + (n : Int) + 1) r := by
        have : f t + 1 + (n : Int) + 1 = f t + ((n + 1 : Nat) : Int) + 1 := by omega
        rw [this]; exact o2
      refine ⟨(f t + 1, n) :: r, ?_, ⟨by show lo < f t + 1; omega, o3⟩, nmem (lo := f t) ⟨by show f t < f t + 1; omega, o3⟩ (Int.le_refl _), (pick_2 hp).2, (pick_2 hp).1, o1⟩
      show a.map f :: st.map (·.map f) = sgi (f t + 1, n) :: r.map sgi
      rw [h3, h2]
    · have e : applyC t (.beside, 1) (a :: st) = (a ++ [t]) :: st := rfl
      rw [e] at ht
      obtain ⟨x, r, rfl, h1, h2⟩ := told_cons' ht
      obtain ⟨s, n, rfl, h3, h4⟩ := sgi_suf (l := a.map f) (p := f t) (by rw [← h1]; simp) (by simpa using ha)
      have o1 : lo < s := ok.1
      have o2 : Ok (s + ((n + 1 : Nat) : Int) + 1) r := ok.2
      have o3 : Ok (s + (n : Int) + 1) r := ok_mono (by omega) o2
      have tld : Told f (a :: st) ((s, n) :: r) := by
        show a.map f :: st.map (·.map f) = sgi (s, n) :: r.map sgi
        rw [h3, h2]
      have nm : ¬ Mem (f t) ((s, n) :: r) := fun m => by
        rcases mem_cons.mp m with m | m
        · have m : s ≤ f t ∧ f t ≤ s + n := m
          omega
        · have := ok_lt o2 m
          omega
      cases r with
      | nil => exact ⟨_, tld, ⟨o1, o3⟩, nm, (pick_30 h4).2, (pick_30 h4).1, by omega⟩
      | cons y r =>
        obtain ⟨s', n'⟩ := y
        have o4 : s + ((n + 1 : Nat) : Int) + 1 < s' := o2.1
        have hne : s' ≠ f t + 1 := by omega
        exact ⟨_, tld, ⟨o1, o3⟩, nm, (pick_32 h4 hne).2, (pick_32 h4 hne).1, by omega⟩
    · cases st with
      | nil => exact absurd (show 0 + 1 < 1 from hv) (by omega)
      | cons b st =>
        have hb : b ≠ [] := hF' b List.mem_cons_self
        have e : applyC t (.between, 0) (a :: b :: st) = (a ++ [t] ++ b) :: st := rfl
        rw [e] at ht
        obtain ⟨x, r, rfl, h1, h2⟩ := told_cons' ht
        obtain ⟨s, n, n', rfl, h3, h4, h5⟩ := sgi_mid (l := a.map f) (p := f t) (r := b.map f) (by rw [← h1]; simp) (by simpa using ha) (by simpa using hb)
        have o1 : lo < s := ok.1
        have o2 : Ok (s + ((n + n' + 2 : Nat) : Int) + 1) r := ok.2
        have o3 : Ok (s + n + 2 + (n' : Int) + 1) r := by
          have : s + n + 2 + (n' : Int) + 1 = s + ((n + n' + 2 : Nat) : Int) + 1 := by omega
          rw [this]; exact o2
        have hp : s + (n : Int) + 2 = f t + 1 := by omega
        refine ⟨(s, n) :: (s + n + 2, n') :: r, ?_, ⟨o1, by show s + (n : Int) + 1 < s + n + 2; omega, o3⟩, fun m => ?_, (pick_31 h4 hp).2, (pick_31 h4 hp).1, by omega⟩
        · show a.map f :: b.map f :: st.map (·.map f) = sgi (s, n) :: sgi (s + n + 2, n') :: r.map sgi
          rw [h3, h5, h2]
        · rcases mem_cons.mp m with m | m
          · have m : s ≤ f t ∧ f t ≤ s + n := m
            omega
          · rcases mem_cons.mp m with m | m
            · have m : s + n + 2 ≤ f t ∧ f t ≤ s + n + 2 + n' := m
              omega
            · have := ok_lt o2 m
              omega
end OgM
namespace OgM
theorem apply_facts {t : Nat} : ∀ {st : List (List Nat)} {c : Ch}, Valid c st.length → Full st → Full (applyC t c st) ∧ (applyC t c st).flatten.Perm (t :: st.flatten)
  | [], c, hv, hF => by
    obtain ⟨w, k⟩ := c
    cases w with
    | beside => exact absurd (show k < 2 * 0 from hv) (by omega)
    | between => exact absurd (show k + 1 < 0 from hv) (by omega)
    | new =>
      have hk : k = 0 := by have h : k ≤ 0 := hv; omega
      subst hk
      exact ⟨fun a ha => by rw [List.mem_singleton.mp (show a ∈ [[t]] from ha)]; simp, List.Perm.refl _⟩
  | a :: st, c, hv, hF => by
    have ha : a ≠ [] := hF a List.mem_cons_self
    have hF' : Full st := fun b hb => hF b (List.mem_cons_of_mem _ hb)
    rcases valid_shift (n := st.length) hv with ⟨c', rfl, hv'⟩ | rfl | rfl | rfl | rfl
    · rw [applyC_shift]
      obtain ⟨h1, h2⟩ := apply_facts (t := t) hv' hF'
      refine ⟨fun b hb => ?_, ?_⟩
      · rcases List.mem_cons.mp hb with rfl | hb
        · exact ha
        · exact h1 b hb
      · show (a ++ (applyC t c' st).flatten).Perm (t :: (a ++ st.flatten))
        exact (List.Perm.append_left a h2).trans List.perm_middle
    · have e : applyC t (.new, 0) (a :: st) = [t] :: a :: st := rfl
      rw [e]
      refine ⟨fun b hb => ?_, List.Perm.refl _⟩
      rcases List.mem_cons.mp hb with rfl | hb
      · simp
      · exact hF b hb
    · have e : applyC t (.beside, 0) (a :: st) = (t :: a) :: st := rfl
      rw [e]
      refine ⟨fun b hb => ?_, List.Perm.refl _⟩
      rcases List.mem_cons.mp hb with rfl | hb
      · simp
      · exact hF' b hb
    · have e : applyC t (.beside, 1) (a :: st) = (a ++ [t]) :: st := rfl
      rw [e]
      refine ⟨fun b hb => ?_, ?_⟩
      · rcases List.mem_cons.mp hb with rfl | hb
        · simp
        · exact hF' b hb
      · show ((a ++ [t]) ++ st.flatten).Perm (t :: (a ++ st.flatten))
        rw [List.append_assoc]
        exact List.perm_middle
    · cases st with
      | nil => exact absurd (show 0 + 1 < 1 from hv) (by omega)
      | cons b st =>
        have e : applyC t (.between, 0) (a :: b :: st) = (a ++ [t] ++ b) :: st := rfl
        rw [e]
        refine ⟨fun x hx => ?_, ?_⟩
        · rcases List.mem_cons.mp hx with rfl | hx
          · simp
          · exact hF' x (List.mem_cons_of_mem _ hx)
        · show ((a ++ [t] ++ b) ++ st.flatten).Perm (t :: (a ++ (b ++ st.flatten)))
          rw [List.append_assoc, List.append_assoc]
          exact List.perm_middle
theorem st_facts {cs : List Ch} (v : VCh cs) : ∀ i, i ≤ cs.length → Full (stAt cs i) ∧ (stAt cs i).flatten.Nodup
  | 0, _ => ⟨fun a ha => absurd ha (by simp [stAt]), List.nodup_nil⟩
  | i + 1, h => by
    obtain ⟨h1, h2⟩ := st_facts v i (by omega)
    have e : cs[i]? = some (cs[i]'h) := List.getElem?_eq_getElem _
    have q := apply_facts (t := i) (v i _ e) h1
    show Full (applyC i (cs.getD i (.new, 0)) (stAt cs i)) ∧ (applyC i (cs.getD i (.new, 0)) (stAt cs i)).flatten.Nodup
    rw [getD_at e]
    refine ⟨q.1, q.2.nodup_iff.mpr (List.nodup_cons.mpr ⟨fun m => ?_, h2⟩)⟩
    have := (st_mem v i (by omega) i).mp m
    omega
section
variable {cs : List Ch} {f : Nat → Int} {g : List Seg} {lo : Int}
theorem down (v : VCh cs) (ht : Told f (stAt cs cs.length) g) (ok : Ok lo g) : ∀ k, k ≤ cs.length → ∃ g', Told f (stAt cs (cs.length - k)) g' ∧ Ok lo g'
  | 0, _ => ⟨g, ht, ok⟩
  | k + 1, hk => by
    obtain ⟨g', h1, h2⟩ := down v ht ok k (by omega)
    have hi : cs.length - (k + 1) < cs.length := by omega
    have e : cs[cs.length - (k + 1)]? = some (cs[cs.length - (k + 1)]'hi) := List.getElem?_eq_getElem _
    have e2 : cs.length - k = cs.length - (k + 1) + 1 := by omega
    rw [e2] at h1
    have h1 : Told f (applyC (cs.length - (k + 1)) (cs.getD (cs.length - (k + 1)) (.new, 0)) (stAt cs (cs.length - (k + 1)))) g' := h1
    rw [getD_at e] at h1
    obtain ⟨g0, t1, t2, _⟩ := un_apply (v _ _ e) (st_facts v _ (by omega)).1 h1 h2
    exact ⟨g0, t1, t2⟩
theorem turn (v : VCh cs) (ht : Told f (stAt cs cs.length) g) (ok : Ok lo g) {i : Nat} (hi : i < cs.length) : ∃ g0 g1, Told f (stAt cs i) g0 ∧ Told f (stAt cs (i + 1)) g1 ∧ Ok lo g0 ∧ ¬ Mem (f i) g0 ∧ add (f i) g0 = g1 ∧ pick (f i) g0 = cs[i]'hi ∧ lo < f i := by
  obtain ⟨g1, h1, h2⟩ := down v ht ok (cs.length - (i + 1)) (by omega)
  have e2 : cs.length - (cs.length - (i + 1)) = i + 1 := by omega
  rw [e2] at h1
  have e : cs[i]? = some (cs[i]'hi) := List.getElem?_eq_getElem _
  have h1' : Told f (applyC i (cs.getD i (.new, 0)) (stAt cs i)) g1 := h1
  rw [getD_at e] at h1'
  obtain ⟨g0, t1, t2, t3, t4, t5, t6⟩ := un_apply (v _ _ e) (st_facts v _ (by omega)).1 h1' h2
  exact ⟨g0, g1, t1, h1, t2, t3, t4, t5, t6⟩
end
def lay : Int → List Int → List (List Nat) → List Seg
  | b, h :: hs, a :: st => (b + h, a.length - 1) :: lay (b + h + a.length) hs st
  | _, _, _ => []
theorem lay_ok : ∀ (b : Int) {hs : List Int} {st : List (List Nat)}, Full st → (∀ x ∈ hs.take st.length, 1 ≤ x) → Ok b (lay b hs st)
  | _, [], [], _, _ => trivial
  | _, [], _ :: _, _, _ => trivial
  | _, _ :: _, [], _, _ => trivial
  | b, x :: hs, a :: st, hF, h => by
    have h1 := h x (by simp)
    have ha : 0 < a.length := List.length_pos_iff.mpr (hF a List.mem_cons_self)
    refine ⟨by show b < b + x; omega, ?_⟩
    have e : b + x + ((a.length - 1 : Nat) : Int) + 1 = b + x + (a.length : Int) := by omega
    show Ok (b + x + ((a.length - 1 : Nat) : Int) + 1) (lay (b + x + (a.length : Int)) hs st)
    rw [e]
    exact lay_ok _ (fun c hc => hF c (List.mem_cons_of_mem _ hc)) fun y hy => h y (by simp [hy])
end OgM
namespace OgM
/-- how many groups there are, by the choices -/
theorem segs_steps {n : Int} {row : List Int} (h : Row n row) {i : Nat} (hi : i ≤ row.length) : ((segs (row.take i)).length : Int) = (((picks row).take i).map fun c => c.1.step).sum := by
  obtain ⟨t, _⟩ := picks_told h i hi
  have e := congrArg List.length (show _ = _ from t)
  rw [List.length_map, List.length_map] at e
  rw [steps_sum (picks_valid h) i (by rw [picks_len]; exact hi), e]
/-- the number of groups before -/
theorem st_segs {n : Int} {row : List Int} (h : Row n row) {i : Nat} (hi : i ≤ row.length) : (stAt (picks row) i).length = (segs (row.take i)).length := by
  obtain ⟨t, _⟩ := picks_told h i hi
  have e := congrArg List.length (show _ = _ from t)
  rw [List.length_map, List.length_map] at e
  exact e
end OgM
namespace OgM
inductive NV where
  | g (n : Nat)
  | h (w : Wd)
deriving DecidableEq
structure Nt where
  t : Nat
  v : NV
deriving DecidableEq
def NV.g? : NV → Option Nat
  | .g n => some n
  | .h _ => none
def NV.h? : NV → Option Wd
  | .g _ => none
  | .h w => some w
/-- the number of groups noted for a time; of several the last -/
def gAt : List Nt → Nat → Option Nat
  | [], _ => none
  | n :: ns, t => (gAt ns t).or (if n.t = t then n.v.g? else none)
def hAt : List Nt → Nat → Option Wd
  | [], _ => none
  | n :: ns, t => (hAt ns t).or (if n.t = t then n.v.h? else none)
def waysN (w : Wd) (m : Nat) : Nat := match w with
  | .new => m + 1
  | .beside => 2 * m
  | .between => m - 1
theorem valid_ways {w : Wd} {k m : Nat} : Valid (w, k) m ↔ k < waysN w m := by
  cases w
  · show k ≤ m ↔ k < m + 1
    omega
  · exact Iff.rfl
  · show k + 1 < m ↔ k < m - 1
    omega
/-- the number of groups after such a house -/
def nextM (m : Nat) : Wd → Nat
  | .new => m + 1
  | .beside => m
  | .between => m - 1
theorem nextM_step {m : Nat} {w : Wd} (h : waysN w m ≠ 0) : (nextM m w : Int) = m + w.step := by
  cases w
  · rfl
  · show (m : Int) = m + 0
    omega
  · have h : m - 1 ≠ 0 := h
    show ((m - 1 : Nat) : Int) = m + -1
    omega
def wOk (ns : List Nt) (t m : Nat) (w : Wd) : Bool := decide (waysN w m ≠ 0) && ((hAt ns t).getD w == w && (gAt ns t).getD (nextM m w) == nextM m w)
end OgM
namespace OgM
end OgM
namespace OgM
end OgM
namespace OgM
end OgM
namespace OgM
def mFold (m : Nat) (cs : List Ch) : Nat := cs.foldl (fun m c => nextM m c.1) m
/-- each choice is one for the groups that it finds -/
def VM (m : Nat) (cs : List Ch) : Prop := ∀ (i : Nat) c, cs[i]? = some c → Valid c (mFold m (cs.take i))
theorem VM.tail {m : Nat} {c : Ch} {cs : List Ch} (h : VM m (c :: cs)) : Valid c m ∧ VM (nextM m c.1) cs := ⟨h 0 c rfl, fun i d hd => h (i + 1) d (by rw [List.getElem?_cons_succ]; exact hd)⟩
theorem VM.cons {m : Nat} {c : Ch} {cs : List Ch} (h1 : Valid c m) (h2 : VM (nextM m c.1) cs) : VM m (c :: cs) := fun i d hd => by
  cases i with
  | zero => cases hd; exact h1
  | succ i => rw [List.getElem?_cons_succ] at hd; exact h2 i d hd
end OgM
namespace OgM
theorem picks_next {n : Int} {row : List Int} (h : Row n row) {i : Nat} {w : Wd} {c : Nat} (hc : (picks row)[i]? = some (w, c)) : (segs (row.take (i + 1))).length = nextM (segs (row.take i)).length w ∧ c < waysN w (segs (row.take i)).length := by
  have hi : i < row.length := by
    have := (List.getElem?_eq_some_iff.mp hc).1
    rw [picks_len] at this
    exact this
  have hv := picks_valid h i _ hc
  rw [st_segs h (by omega)] at hv
  have hlt := valid_ways.mp hv
  refine ⟨?_, hlt⟩
  have a := segs_steps h (show i + 1 ≤ row.length by omega)
  have b := segs_steps h (show i ≤ row.length by omega)
  rw [List.take_add_one (l := picks row), hc, List.map_append, List.sum_append] at a
  have c' : ((some (w, c) : Option Ch).toList.map fun c => c.1.step).sum = w.step := by simp
  rw [c'] at a
  have := nextM_step (w := w) (m := (segs (row.take i)).length) (by omega)
  omega
end OgM
namespace OgM
end OgM
namespace OgM
end OgM
namespace OgM
end OgM
namespace OgM
/-- how many choices the house of a time has -/
def pw (row : List Int) (i : Nat) : Nat := waysN ((picks row)[i]?.getD (.new, 0)).1 (segs (row.take i)).length
end OgM
namespace OgM
end OgM
namespace OgM
def mx (a b : Int) : Int := if b > a then b else a
end OgM
namespace Dw
open PySem PySem.Spec PyProof.Rows L2 OgR Evl
def wAppPop (i j : Nat) (w : WE) : WS := fun DD s => (∃ d0, s.env[i]? = some (some (.own d0))) ∧ (∃ e0, s.env[j]? = some (some (.own e0))) ∧ w s fun a s1 => ∃ (n : Nat) (ds es : List PyData) (d : PyData), a = .int (n : Nat) ∧ s1.env[i]? = some (some (.own ds)) ∧ s1.env[j]? = some (some (.own es)) ∧ es[n]? = some d ∧ n < 100000 ∧ ds.length < 100000 ∧
  DD.nx ((s1.set j (.own (es.eraseIdx n))).set i (.own (ds ++ [d])))
end Dw
namespace Dw
open PySem PySem.Spec PyProof.Rows L2 OgR Evl
section
variable {X : Cx} {C : Ct}
def gLenSetL : G1 := fun d s Q => ∃ ns : List Int, d = .list (ns.map .int) ∧ ns.length ≤ 1000 ∧ ∀ ks : List Int, ks.Nodup → (∀ k, k ∈ ks ↔ k ∈ ns) → Q (.int (ks.length : Nat)) s
end
end Dw
namespace Dw
open PySem PySem.Spec PyProof.Rows L2 OgR Evl
section
variable {X : Cx} {C : Ct} {e : Expr} {pos : Pos} {t : TE} {w : WE} {x : Str}
def wAugM (i : Nat) (w : WE) : WS := fun DD s => ∃ m, s.env[i]? = some (some (.d (.int m))) ∧ w s fun d s1 => ∃ n, d = .int n ∧ CMul m n ∧ DD.nx (s1.set i (.d (.int (m * n))))
end
end Dw
namespace Dw
open PySem PySem.Spec PyProof.Rows L2 OgR Evl
end Dw
namespace OgM
def gNotes (row : List Int) : List Nt := (List.range row.length).map fun t => ⟨t, .g (segs (row.take (t + 1))).length⟩
inductive Grow : List Int → Int → Int → Prop
  | one (a : Int) : Grow [a] a a
  | low {q : List Int} {lo hi : Int} : Grow q lo hi → Grow (q ++ [lo - 1]) (lo - 1) hi
  | high {q : List Int} {lo hi : Int} : Grow q lo hi → Grow (q ++ [hi + 1]) lo (hi + 1)
theorem Grow.mem {q : List Int} {lo hi : Int} (h : Grow q lo hi) : lo ≤ hi ∧ (∀ x, x ∈ q ↔ lo ≤ x ∧ x ≤ hi) ∧ q.Nodup ∧ (q.length : Int) = hi - lo + 1 := by
  induction h with
  | one a => exact ⟨by omega, fun x => by simp; omega, by simp, by simp⟩
  | @low q lo hi h ih =>
    obtain ⟨h1, h2, h3, h4⟩ := ih
    refine ⟨by omega, fun x => ?_, ?_, ?_⟩
    · rw [List.mem_append, h2, List.mem_singleton]
      omega
    · refine List.nodup_append.mpr ⟨h3, by simp, fun a ha b hb => ?_⟩
      have := (h2 a).mp ha
      rw [List.mem_singleton.mp hb]
      omega
    · rw [List.length_append]
      simp only [List.length_cons, List.length_nil]
      omega
  | @high q lo hi h ih =>
    obtain ⟨h1, h2, h3, h4⟩ := ih
    refine ⟨by omega, fun x => ?_, ?_, ?_⟩
    · rw [List.mem_append, h2, List.mem_singleton]
      omega
    · refine List.nodup_append.mpr ⟨h3, by simp, fun a ha b hb => ?_⟩
      have := (h2 a).mp ha
      rw [List.mem_singleton.mp hb]
      omega
    · rw [List.length_append]
      simp only [List.length_cons, List.length_nil]
      omega
end OgM
namespace OgM
end OgM
namespace OgM
/-- ms says no more than ns -/
structure Less (ms ns : List Nt) : Prop where
  h : ∀ t w, hAt ms t = some w → hAt ns t = some w
  g : ∀ t x, gAt ms t = some x → gAt ns t = some x
theorem Less.ok {ms ns : List Nt} (l : Less ms ns) {t m : Nat} {w : Wd} (h : wOk ns t m w = true) : wOk ms t m w = true := by
  unfold wOk at h ⊢
  rw [Bool.and_eq_true, Bool.and_eq_true] at h ⊢
  refine ⟨h.1, ?_, ?_⟩
  · cases hm : hAt ms t with
    | none => simp
    | some v =>
      have := l.h t v hm
      rw [this] at h
      exact h.2.1
  · cases hm : gAt ms t with
    | none => simp
    | some v =>
      have := l.g t v hm
      rw [this] at h
      exact h.2.2
end OgM
namespace OgM
def Ne (x : Int × Int) : Prop := x.1 ≤ x.2
theorem none_of {ns : List Nt} {t : Nat} (h : ∀ x ∈ ns, x.t ≠ t) : hAt ns t = none ∧ gAt ns t = none := by
  induction ns with
  | nil => exact ⟨rfl, rfl⟩
  | cons x l ih =>
    obtain ⟨h1, h2⟩ := ih fun y hy => h y (List.mem_cons_of_mem _ hy)
    have hx := h x List.mem_cons_self
    refine ⟨?_, ?_⟩
    · show (hAt l t).or (if x.t = t then _ else none) = none
      rw [h1, if_neg hx]
      rfl
    · show (gAt l t).or (if x.t = t then _ else none) = none
      rw [h2, if_neg hx]
      rfl
end OgM
namespace Og
open PySem PySem.Spec PyProof.Rows L2 OgR Evl
def topS (i : Nat) : Stmt := PySem.Challenge.pw_onlygroups_k05_journals_and_orders_or_no.main.body.getD i (.Pass ⟨0, 0, 0, 0⟩)
section
variable {P : Program} {w : World} {K : PySem.W.Frag} {mg : Str → Option Value} {base : Heap}
def BoxAt (H : Hp) (l : Addr) (c : Int) : Prop := ∃ a b : Int, H l = some (.lst [.int a, .int b, .int c]) ∧ 0 ≤ a ∧ 0 ≤ b ∧ b < 2 ^ 62 ∧ 0 ≤ c ∧ c ≤ 1000000
end
end Og
namespace Og
open PySem PySem.Spec PyProof.Rows L2 OgR Evl OgM
def dInts (l : List Int) : List PyData := l.map PyData.int
theorem dp_ints {K : PySem.W.Frag} {H : Hp} : ∀ l : List Int, DpAll K H (l.map V.int) (dInts l)
  | [] => .nil
  | i :: l => .cons (.int i) (dp_ints l)
def dLL (g : List Seg) : List PyData := g.map fun x => PyData.list (dInts (sgi x))
def PR (H0 H : Hp) (q : Addr) (x : Seg) : Prop := H0 q = none ∧ H q = some (.lst ((sgi x).map V.int))
structure LL (H0 H : Hp) (p : Addr) (g : List Seg) : Prop where
  new : H0 p = none
  ex : ∃ qs : List Addr, H p = some (.lst (qs.map V.ref)) ∧ Paired (PR H0 H) qs g ∧ p ∉ qs
theorem paired_mem {α β : Type} {F : α → β → Prop} : ∀ {l : List α} {g : List β}, Paired F l g → ∀ a ∈ l, ∃ b ∈ g, F a b
  | _, _, .nil, a, h => absurd h (by simp)
  | _, _, .cons r t, a, h => by
    rcases List.mem_cons.mp h with e | h
    · subst e
      exact ⟨_, by simp, r⟩
    · obtain ⟨b, hb, q⟩ := paired_mem t a h
      exact ⟨b, by simp [hb], q⟩
/-- the runs are kept where their lists are -/
theorem PR.keep {H0 H H' : Hp} {qs : List Addr} {g : List Seg} (h : Paired (PR H0 H) qs g) (k : ∀ q ∈ qs, ∀ o, H q = some o → H' q = some o) : Paired (PR H0 H') qs g := by
  induction h with
  | nil => exact .nil
  | cons r t ih =>
    exact .cons ⟨r.1, k _ (by simp) _ r.2⟩ (ih fun q hq o e => k q (by simp [hq]) o e)
theorem LL.len {H0 H : Hp} {p : Addr} {g : List Seg} (h : LL H0 H p g) : ∃ qs : List Addr, H p = some (.lst (qs.map V.ref)) ∧ qs.length = g.length := by
  obtain ⟨qs, e, r, _⟩ := h.ex
  exact ⟨qs, e, r.length⟩
theorem LL.keep {H0 H H' : Hp} {p : Addr} {g : List Seg} (h : LL H0 H p g) (e : Ex H H') : LL H0 H' p g := by
  obtain ⟨qs, e1, r, np⟩ := h.ex
  exact ⟨h.new, qs, e _ _ e1, PR.keep r (fun q _ o x => e q o x), np⟩
theorem pr_dp {K : PySem.W.Frag} {H0 H : Hp} : ∀ {qs : List Addr} {g : List Seg}, Paired (PR H0 H) qs g → DpAll K H (qs.map V.ref) (dLL g)
  | _, _, .nil => .nil
  | _, _, .cons a t => .cons (.lst (.inl (.inl a.2)) (dp_ints _)) (pr_dp t)
theorem LL.dp {K : PySem.W.Frag} {H0 H : Hp} {p : Addr} {g : List Seg} (h : LL H0 H p g) : Dp K H (.ref p) (.list (dLL g)) := by
  obtain ⟨qs, e1, r, _⟩ := h.ex
  exact .lst (.inl (.inl e1)) (pr_dp r)
end Og
namespace Og
open PySem PySem.Spec PyProof.Rows L2 OgR Evl OgM
theorem take_next {α : Type} {g : List α} {i : Nat} {x : α} (e : g[i]? = some x) : g.take (i + 1) = g.take i ++ [x] := by
  rw [List.take_add_one, e]
  rfl
end Og
namespace Og
open PySem PySem.Spec PyProof.Rows L2 OgR Evl OgM
def wstr : Wd → Str
  | .new => "new"
  | .beside => "beside"
  | .between => "between"
theorem Cw.new {H H' : Hp} {f : Nat → Bool} {v : Nat → V} {D T : Addr} {i : Nat} {o : HO} (h : Cw H f v D i H') (hT : H' T = none) : Cw H f v D i (upd H' T o) := by
  obtain ⟨h1, h2, h3⟩ := h
  exact ⟨h1, h2.trans (Ex.new hT), by rw [upd_ne (ne_of_none h3 hT)]; exact h3⟩
end Og
namespace Og
open PySem PySem.Spec PyProof.Rows L2 OgR Evl OgM
/-- choices, as a list or tuple (b) of lists or tuples (b') -/
def chV (c : Ch) : List V := [.str (wstr c.1), .int (c.2 : Nat)]
def ChIs (K : PySem.W.Frag) (b b' : Bool) (H : Hp) (a : Addr) (cs : List Ch) : Prop := ∃ ts : List Addr, SqB K b H a (ts.map V.ref) ∧ Paired (fun t c => SqB K b' H t (chV c)) ts cs
theorem ChIs.ex {K : PySem.W.Frag} {b b' : Bool} {H H' : Hp} {a : Addr} {cs : List Ch} (e : Ex H H') (h : ChIs K b b' H a cs) : ChIs K b b' H' a cs := by
  obtain ⟨ts, h1, h2⟩ := h
  exact ⟨ts, h1.ex e, h2.mono fun _ _ x => x.ex e⟩
section
variable {P : Program} {w : World} {K : PySem.W.Frag} {mg : Str → Option Value} {base : Heap}
theorem nodup_fresh {row : List Int} (h : row.Nodup) {i : Nat} {p : Int} (e : row[i]? = some p) : p ∉ row.take i := by
  intro m
  obtain ⟨j, hj⟩ := List.getElem?_of_mem m
  rw [List.getElem?_take] at hj
  split at hj
  · rename_i lt
    obtain ⟨a, ea⟩ := List.getElem?_eq_some_iff.mp e
    obtain ⟨b, eb⟩ := List.getElem?_eq_some_iff.mp hj
    have := (List.getElem_inj h).mp (eb.trans ea.symm)
    omega
  · cases hj
end
end Og
namespace Og
open PySem PySem.Spec PyProof.Rows L2 OgR Evl OgM
/-- all but l as it was -/
def ExB (l : Addr) (H H' : Hp) : Prop := ∀ a o, a ≠ l → H a = some o → H' a = some o
theorem ExB.of {l : Addr} {H H' : Hp} (e : Ex H H') : ExB l H H' := fun a o _ h => e a o h
theorem ExB.trans {l : Addr} {H H1 H2 : Hp} (a : ExB l H H1) (b : ExB l H1 H2) : ExB l H H2 := fun x o n h => b x o n (a x o n h)
theorem ExB.box {l : Addr} {H : Hp} {o : HO} : ExB l H (upd H l o) := fun x u n h => by
  rw [upd_ne n]
  exact h
theorem ExB.mut {l p : Addr} {H H' : Hp} {o : HO} (e : ExB l H H') (h : H p = none) : ExB l H (upd H' p o) := fun x u n hx => by
  rw [upd_ne (ne_of_none hx h)]
  exact e x u n hx
theorem BoxAt.ex {H H' : Hp} {l : Addr} {c : Int} (h : BoxAt H l c) (e : Ex H H') : BoxAt H' l c := by
  obtain ⟨a, b, h1, h2⟩ := h
  exact ⟨a, b, e _ _ h1, h2⟩
theorem BoxAt.at {H : Hp} {l : Addr} {c : Int} (h : BoxAt H l c) : ∃ xs, H l = some (.lst xs) := by
  obtain ⟨a, b, h1, _⟩ := h
  exact ⟨_, h1⟩
theorem BoxAt.upd {H : Hp} {l p : Addr} {c : Int} {o : HO} (h : BoxAt H l c) (n : l ≠ p) : BoxAt (upd H p o) l c := by
  obtain ⟨a, b, h1, h2⟩ := h
  exact ⟨a, b, by rw [upd_ne n]; exact h1, h2⟩
section
variable {P : Program} {w : World} {K : PySem.W.Frag} {mg : Str → Option Value} {base : Heap}
structure QInv (H : Hp) (l lf fo : Addr) (B : Int) (n i : Nat) (H3 : Hp) (c3 : Int) (lft row : List Int) : Prop where
  ex : ExB l H H3
  box : BoxAt H3 l c3
  hc : c3 ≤ B
  atL : H3 lf = some (.lst (lft.map V.int))
  atF : H3 fo = some (.lst (row.map V.int))
  nlf : lf ≠ l
  nfo : fo ≠ l
  nlo : lf ≠ fo
  fof : H fo = none
  rok : OgM.Row n row
  len : row.length = i
  nd : lft.Nodup
  mem : ∀ p, p ∈ lft ↔ (0 ≤ p ∧ p < n) ∧ p ∉ row
  cnt : lft.length + i = n
section
variable {H : Hp} {l lf fo : Addr} {B : Int} {n i : Nat} {H3 : Hp} {c3 : Int} {lft row : List Int}
theorem QInv.step {D : Addr} {z B' : Int} (h : QInv H l lf fo B n i H3 c3 lft row) (hb : c3 ≤ B') (hz : z ∈ lft) (hD : (upd H3 fo (.lst ((row ++ [z]).map V.int))) D = none) {H4 : Hp}
    (e : Ex (upd H3 fo (.lst ((row ++ [z]).map V.int))) H4) (at4 : H4 D = some (.lst ((lft.filter (· != z)).map V.int))) : QInv H l D fo B' n (i + 1) H4 c3 (lft.filter (· != z)) (row ++ [z]) := by
  have hz' := (h.mem z).mp hz
  obtain ⟨xs, hxl⟩ := h.box.at
  have b5 : BoxAt (upd H3 fo (.lst ((row ++ [z]).map V.int))) l c3 := h.box.upd (Ne.symm h.nfo)
  obtain ⟨xs5, hx5⟩ := b5.at
  refine ⟨(h.ex.mut h.fof).trans (.of e), b5.ex e, hb, at4, e _ _ upd_same, Ne.symm (ne_of_none hx5 hD), h.nfo, Ne.symm (ne_of_none upd_same hD), h.fof, ⟨?_, ?_, ?_⟩, ?_, h.nd.filter _, fun p => ?_, ?_⟩
  · rw [List.nodup_append]
    refine ⟨h.rok.nd, by simp, fun a ha b hb' e' => ?_⟩
    rw [List.mem_singleton.mp hb'] at e'
    subst e'
    exact hz'.2 ha
  · intro p hp
    rcases List.mem_append.mp hp with hp | hp
    · exact h.rok.lo p hp
    · rw [List.mem_singleton.mp hp]
      exact hz'.1.1
  · intro p hp
    rcases List.mem_append.mp hp with hp | hp
    · exact h.rok.hi p hp
    · rw [List.mem_singleton.mp hp]
      exact hz'.1.2
  · rw [List.length_append, h.len]
    rfl
  · rw [List.mem_filter, h.mem p]
    simp
    exact ⟨fun ⟨⟨a, b⟩, c⟩ => ⟨a, b, c⟩, fun ⟨a, b, c⟩ => ⟨⟨a, b⟩, c⟩⟩
  · have := filter_ne_len h.nd hz
    have := h.cnt
    omega
end
end
end Og
namespace Og
open PySem PySem.Spec PyProof.Rows L2 OgR Evl OgM
theorem ixT (K : PySem.W.Frag) {X : Cx} (h : X.K = K := by rfl) : IxR X (rIxT K) := by
  subst h
  exact ix_tup
def dk (v : V) (l : List Int) : List (Key × V) := l.map fun p => ((Sum.inl p : Key), v)
theorem dk_val (v : V) (k : Int) : ∀ l : List Int, valV (dk v l) (Sum.inl k) = if k ∈ l then some v else none
  | [] => by simp [dk, valV]
  | x :: r => by
    show valV ((Sum.inl x, v) :: dk v r) (Sum.inl k) = _
    by_cases e : x = k
    · rw [valV_pos (by rw [e])]
      simp [e]
    · rw [valV_neg (fun z => e (Sum.inl.inj z)), dk_val v k r]
      have : ¬ k = x := fun z => e z.symm
      simp [this]
theorem dk_some (v : V) (k : Int) (l : List Int) : (valV (dk v l) (Sum.inl k)).isSome = decide (k ∈ l) := by
  rw [dk_val]
  by_cases h : k ∈ l <;> simp [h]
theorem dk_put {v : V} {k : Int} {l : List Int} (h : k ∉ l) : putK (dk v l) (Sum.inl k) v = dk v (l ++ [k]) := by
  unfold putK
  have : ((dk v l).any fun kv => decide (kv.1 = Sum.inl k)) = false := by
    rw [valV_any, dk_some]
    simp [h]
  rw [this]
  simp [dk]
theorem dk_len (v : V) (l : List Int) : (dk v l).length = l.length := by simp [dk]
abbrev sNb : Stmt := topS 6
theorem scNb : FnScope ["row", "found", "built", "plot"] ["row"] (defScope sNb) := ⟨rfl, rfl, rfl, by decide +kernel, rfl, by decide +kernel, by decide +kernel⟩
abbrev sHouses : Stmt := topS 8
theorem scHouses : FnScope ["row", "beside"] ["row"] (defScope sHouses) := ⟨rfl, rfl, rfl, by decide +kernel, rfl, by decide +kernel, by decide +kernel⟩
def wordsV : List V := [.str (wstr .new), .str (wstr .beside), .str (wstr .between)]
section
variable {P : Program} {w : World} {K : PySem.W.Frag} {mg : Str → Option Value} {base : Heap}
def spNb (K : PySem.W.Frag) : Sp := fun vs H Q _ => ∃ (b : Bool) (a : Addr) (ns : List Int), vs = [.ref a] ∧ SqB K b H a (ns.map V.int) ∧ ns.Nodup ∧ ns.length ≤ 900 ∧
  ∀ H' p, Ex H H' → H p = none → H' p = some (.lst ((picks ns).map fun c => V.int (c.1.ix : Nat))) → Q (.ref p) H'
theorem b1_val (v : V) (k : Int) (l : List Int) : (valV (dk (.int 1) l) (Sum.inl k)).getD (.int 0) = .int (b1 (decide (k ∈ l)) : Nat) := by
  rw [dk_val]
  by_cases h : k ∈ l <;> simp [h, b1]
theorem ok_nb {f : Addr} {fd : FuncData} {k : Nat} (F : Fun K "neighbours" "neighbours" sNb f fd) : FnOk P w K mg base CX0 (k + 1) f fd ["row"] (spNb K) := by
  refine F.ok scNb (fun vs H Q E h => ?_) (fun cdv A outer s H vs Q E hr h => ?_)
  · obtain ⟨_, _, _, rfl, _⟩ := h
    rfl
  · obtain ⟨b, a, ns, rfl, hS, hnd, hlen, q⟩ := h
    have hu := hu_of hr
    refine ⟨_, pss_cons (ps_set (i := 1) scNb.nd rfl (.inl rfl) (pe_lst pa_nil)) (pss_cons (ps_set (i := 2) scNb.nd rfl (.inl rfl) pe_dnewK)
      (pss_cons (ps_for PassesOwn.never rfl (pi_seqB (pv 0)) (pg_name (i := 3) scNb.nd rfl (.inl rfl))
        (pss_cons (ps_expr (pe_bm PySem.F.plainAttrs_list PySem.F.slot_list_append PySem.F.type_list_append mt_append (pv 1) (pa_cons (pe_op op_add (pe_dget2 hu (pv 2) (pe_op op_sub (pv 3) pe_int) pe_int ⟨rfl, rfl, rfl, rfl⟩) (pe_dget2 hu (pv 2) (pe_op op_add (pv 3) pe_int) pe_int ⟨rfl, rfl, rfl, rfl⟩)) pa_nil)))
        (pss_one (ps_dput hu (pv 2) (pv 3) pe_int rfl))))
      (pss_one (ps_ret (pv 1))))), ?_⟩
    refine ⟨Nat.zero_le _, fun fo hfo d hd => ?_⟩
    have x1 : Ex H (upd H fo (.lst [])) := Ex.new hfo
    have x2 := x1.trans (Ex.new (o := .dK []) hd)
    have hd0 : H d = none := fresh_back x1 hd
    have nfd : fo ≠ d := ne_of_none upd_same hd
    refine ⟨_, rfl, b, a, _, rfl, hS.ex x2, for_it (walk_seqB (K := K) (b := b) (a := a) (xs := ns.map V.int)) (fun i σ H3 => ∃ y3, σ = [some (.ref a), some (.ref fo), some (.ref d), y3] ∧ Ex H H3 ∧ H3 fo = some (.lst (((picks ns).take i).map fun c => V.int (c.1.ix : Nat))) ∧ H3 d = some (.dK (dk (.int 1) (ns.take i)))) ?_ ?_ ?_ ?_⟩
    · refine ⟨none, rfl, x2, ?_, upd_same⟩
      rw [upd_ne nfd, upd_same]
      rfl
    · rintro i σ H3 _ ⟨_, _, e3, _⟩
      exact hS.ex e3
    · rintro i x σ H3 H3' hi ⟨y3, rfl, e3, hf3, hd3⟩ ⟨rfl, hx⟩
      rw [List.getElem?_map] at hx
      obtain ⟨p, hp, rfl⟩ := Option.map_eq_some_iff.mp hx
      have hfr := nodup_fresh hnd hp
      have hnb := nb_pick (hnd.sublist (List.take_sublist i ns)) hfr
      have hil := (List.getElem?_eq_some_iff.mp hp).1
      refine ⟨_, rfl, .inl ⟨rfl, _, .inl (.inl hf3)⟩, _, rfl, d, rfl, .inl ⟨_, .inl hd3⟩, _, rfl, _, _, rfl, rfl, _, DGet.k (k := Sum.inl (p - 1)) hd3, _, rfl, d, rfl, .inl ⟨_, .inl hd3⟩, _, rfl, _, _, rfl, rfl, _, DGet.k (k := Sum.inl (p + 1)) hd3, ?_⟩
      rw [b1_val (.int 1), b1_val (.int 1)]
      refine ⟨_, _, rfl, rfl, fo, _, _, rfl, rfl, hf3, ?_, ?_⟩
      · rw [List.length_map, List.length_take, picks_len]
        exact small1000 (by omega)
      · refine ⟨_, rfl, _, rfl, d, _, rfl, DPut.k (k := Sum.inl p) (kvs := dk (.int 1) (ns.take i)) ?_ ?_, _, rfl, Ex.mut (Ex.mut e3 hfo) hd0, ?_, ?_⟩
        · rw [upd_ne (Ne.symm nfd)]
          exact hd3
        · rw [dk_len, List.length_take]
          exact small1000 (by omega)
        · rw [upd_ne nfd, upd_same, take_next (picks_get hp), List.map_append]
          have e7 : (b1 (decide (p - 1 ∈ ns.take i)) : Int) + (b1 (decide (p + 1 ∈ ns.take i)) : Int) = ((pick p (segs (ns.take i))).1.ix : Int) := by
            rw [← hnb]
            omega
          show some (HO.lst (_ ++ [V.int ((b1 (decide (p - 1 ∈ ns.take i)) : Int) + (b1 (decide (p + 1 ∈ ns.take i)) : Int))])) = _
          rw [e7]
          rfl
        · rw [upd_same, dk_put hfr, take_next hp]
    · rintro σ H3 ⟨y3, rfl, e3, hf3, hd3⟩
      rw [List.take_of_length_le (by rw [picks_len, List.length_map]; exact Nat.le_refl _)] at hf3
      exact ⟨_, rfl, q H3 fo e3 hfo hf3⟩
def spHouses (K : PySem.W.Frag) : Sp := fun vs H Q _ => ∃ (b : Bool) (a : Addr) (ns : List Int), vs = [.ref a] ∧ SqB K b H a (ns.map V.int) ∧ ns.Nodup ∧ ns.length ≤ 900 ∧
  ∀ H' p, Ex H H' → H p = none → H' p = some (.tup ((picks ns).map fun c => V.str (wstr c.1))) → Q (.ref p) H'
theorem ok_houses {f fN aW : Addr} {fd fdN : FuncData} {k : Nat} (F : Fun K "houses" "houses" sHouses f fd) (FN : Fun K "neighbours" "neighbours" sNb fN fdN) (bN : Binds K fdN ["row"] []) (gN : mg "neighbours" = some (.ref fN))
    (gW : mg "WORDS" = some (.ref aW)) (sW : ∀ H, SqT K H aW wordsV) (mt : mg "tuple" = none) : FnOk P w K mg base CX0 (k + 2) f fd ["row"] (spHouses K) := by
  have GN : FnOk P w K mg base CX0 (k + 1) fN fdN ["row"] (spNb K) := ok_nb FN
  refine F.ok scHouses (fun vs H Q E h => ?_) (fun cdv A outer s H vs Q E hr h => ?_)
  · obtain ⟨_, _, _, rfl, _⟩ := h
    rfl
  · obtain ⟨b, a, ns, rfl, hS, hnd, hlen, q⟩ := h
    refine ⟨_, pss_one (ps_ret (pe_callTy call_tuple_of (by rfl) mt (by decide +kernel) (pa_cons
        (pe_lc (own := [("beside", 1)]) (g := gName 1) (by rfl) scHouses.nd (pi_list (pe_call GN hr (by rfl) gN FN.kp bN .nil pass0 (pa_cons (pv 0) pa_nil)))
          (blkOk_by (own := [("beside", 1)]) (N := ["row", "beside"]) (sc := defScope sHouses) (by decide +kernel))
          (fun _ _ _ _ _ => pg_name (i := 1) scHouses.nd rfl (Or.inl rfl) (hf := Or.inr rfl))
          (fun _ _ _ _ _ => pts_nil)
          (fun _ _ _ _ _ => pe_ix (ixT K) (pe_glob (v := .ref aW) rfl gW rfl) (pv 1) (fun _ _ => rfl))) pa_nil))), ?_⟩
    refine ⟨_, rfl, b, a, ns, rfl, hS, hnd, hlen, fun H1 fo e1 hfo hf1 => ⟨fo, rfl, ⟨_, .inl (.inl hf1)⟩, fun D hD => lc_list (xs := (picks ns).map fun c => V.int (c.1.ix : Nat)) (fun i H' => Ex H1 H' ∧ H' D = some (.lst (((picks ns).take i).map fun c => V.str (wstr c.1)))) ⟨Ex.new hD, upd_same⟩ (fun i H' _ c => .inl (.inl (c.1 _ _ hf1))) (fun i x H' hx c => ?_) (fun H2 c => ?_)⟩⟩
    · rw [List.getElem?_map] at hx
      obtain ⟨ch, hch, rfl⟩ := Option.map_eq_some_iff.mp hx
      have hil := (List.getElem?_eq_some_iff.mp hch).1
      rw [picks_len] at hil
      have hw : atI wordsV ((ch.1.ix : Nat) : Int) = some (.str (wstr ch.1)) := by
        refine atI_nat ?_
        cases ch.1 <;> rfl
      refine ⟨rfl, _, rfl, aW, wordsV, _, _, rfl, rfl, sW _, hw, _, c.2, ?_, Ex.mut c.1 hD, ?_⟩
      · rw [List.length_map, List.length_take, picks_len]
        exact small1000 (by omega)
      · rw [upd_same, take_next hch, List.map_append]
        rfl
    · rw [List.take_of_length_le (by rw [List.length_map]; exact Nat.le_refl _)] at c
      exact ⟨D, _, rfl, .inl ⟨.inl (.inl c.2), fun t ht => q _ t ((e1.trans c.1).trans (Ex.new ht)) (fresh_back (e1.trans c.1) ht) upd_same⟩⟩
end
end Og
namespace Og
open PySem PySem.Spec PyProof.Rows L2 OgR Evl OgM
theorem paired_take {α β : Type} {F : α → β → Prop} : ∀ {l : List α} {g : List β} (k : Nat), Paired F l g → Paired F (l.take k) (g.take k)
  | _, _, 0, _ => .nil
  | _, _, _ + 1, .nil => .nil
  | _, _, k + 1, .cons r t => .cons r (paired_take k t)
theorem paired_drop {α β : Type} {F : α → β → Prop} : ∀ {l : List α} {g : List β} (k : Nat), Paired F l g → Paired F (l.drop k) (g.drop k)
  | _, _, 0, h => h
  | _, _, _ + 1, .nil => .nil
  | _, _, k + 1, .cons r t => paired_drop k t
theorem paired_app {α β : Type} {F : α → β → Prop} : ∀ {l l' : List α} {g g' : List β}, Paired F l g → Paired F l' g' → Paired F (l ++ l') (g ++ g')
  | _, _, _, _, .nil, h => h
  | _, _, _, _, .cons r t, h => .cons r (paired_app t h)
theorem paired_keep {α β : Type} {F G : α → β → Prop} : ∀ {l : List α} {g : List β}, Paired F l g → (∀ a ∈ l, ∀ b, F a b → G a b) → Paired G l g
  | _, _, .nil, _ => .nil
  | _, _, .cons r t, h => .cons (h _ (by simp) _ r) (paired_keep t fun a ha b => h a (by simp [ha]) b)
def tv (n : Nat) : V := .int (n : Int)
def PTm (H0 H : Hp) (q : Addr) (ts : List Nat) : Prop := H0 q = none ∧ H q = some (.lst (ts.map tv))
structure TL (H0 H : Hp) (p : Addr) (qs : List Addr) (st : List (List Nat)) : Prop where
  new : H0 p = none
  ex : Ex H0 H
  atP : H p = some (.lst (qs.map V.ref))
  pr : Paired (PTm H0 H) qs st
  np : p ∉ qs
  nd : qs.Nodup
section
variable {H0 H : Hp} {p : Addr} {qs : List Addr} {st : List (List Nat)}
theorem TL.mem {q : Addr} (h : TL H0 H p qs st) (m : q ∈ qs) : ∃ ts, H q = some (.lst ts) ∧ H0 q = none := by
  obtain ⟨b, _, x⟩ := paired_mem h.pr q m
  exact ⟨_, x.2, x.1⟩
/-- one of its lists is changed -/
theorem TL.one {q : Addr} {ts ts' : List Nat} {j : Nat} (h : TL H0 H p qs st) (hq : qs[j]? = some q) (hs : st[j]? = some ts) :
    TL H0 (upd H q (.lst (ts'.map tv))) p qs (st.set j ts') := by
  have hm : q ∈ qs := List.mem_of_getElem? hq
  have nqp : q ≠ p := fun z => h.np (z ▸ hm)
  obtain ⟨_, _, h0⟩ := h.mem hm
  have hj := (List.getElem?_eq_some_iff.mp hs).1
  have hjq := (List.getElem?_eq_some_iff.mp hq).1
  have eq : qs = qs.take j ++ q :: qs.drop (j + 1) := by
    rw [← drop_at hq, List.take_append_drop]
  have nd := h.nd
  rw [eq, List.nodup_append] at nd
  obtain ⟨n1, n2, n3⟩ := nd
  rw [List.nodup_cons] at n2
  refine ⟨h.new, h.ex.mut h0, by rw [upd_ne (Ne.symm nqp)]; exact h.atP, ?_, h.np, h.nd⟩
  rw [List.set_eq_take_append_cons_drop, if_pos hj]
  conv => arg 2; rw [eq]
  refine paired_app (paired_keep (paired_take j h.pr) fun q' hq' b x => ⟨x.1, ?_⟩) (.cons ⟨h0, upd_same⟩ (paired_keep (paired_drop (j + 1) h.pr) fun q' hq' b x => ⟨x.1, ?_⟩))
  · rw [upd_ne (fun z => n3 q' hq' q (by simp) z)]
    exact x.2
  · rw [upd_ne (fun (z : q' = q) => n2.1 (z ▸ hq'))]
    exact x.2
end
end Og
namespace OgM
end OgM
namespace Og05
open PySem PySem.Spec PyProof.Rows L2 OgR Evl Dw
def topS (i : Nat) : Stmt := PySem.Challenge.pw_onlygroups_k05_journals_and_orders_or_no.main.body.getD i (.Pass ⟨0, 0, 0, 0⟩)
abbrev s_is_number : Stmt := topS 1
theorem sc_is_number : FnScope ["thing"] ["thing"] (defScope s_is_number) := ⟨rfl, rfl, rfl, by decide +kernel, rfl, by decide +kernel, by decide +kernel⟩
abbrev s_is_number_below : Stmt := topS 2
theorem sc_is_number_below : FnScope ["thing", "limit"] ["thing", "limit"] (defScope s_is_number_below) := ⟨rfl, rfl, rfl, by decide +kernel, rfl, by decide +kernel, by decide +kernel⟩
abbrev s_is_row : Stmt := topS 5
theorem sc_is_row : FnScope ["plots", "thing", "plot"] ["plots", "thing"] (defScope s_is_row) := ⟨rfl, rfl, rfl, by decide +kernel, rfl, by decide +kernel, by decide +kernel⟩
abbrev s_neighbours : Stmt := topS 6
abbrev s_groups : Stmt := topS 7
theorem sc_groups : FnScope ["row", "after", "many", "beside"] ["row"] (defScope s_groups) := ⟨rfl, rfl, rfl, by decide +kernel, rfl, by decide +kernel, by decide +kernel⟩
abbrev s_houses : Stmt := topS 8
abbrev s_is_value : Stmt := topS 10
theorem sc_is_value : FnScope ["sort", "thing"] ["sort", "thing"] (defScope s_is_value) := ⟨rfl, rfl, rfl, by decide +kernel, rfl, by decide +kernel, by decide +kernel⟩
abbrev s_is_note : Stmt := topS 11
theorem sc_is_note : FnScope ["thing", "time", "sort", "value"] ["thing"] (defScope s_is_note) := ⟨rfl, rfl, rfl, by decide +kernel, rfl, by decide +kernel, by decide +kernel⟩
abbrev s_is_notes : Stmt := topS 12
theorem sc_is_notes : FnScope ["times", "thing", "early", "late", "note"] ["times", "thing"] (defScope s_is_notes) := ⟨rfl, rfl, rfl, by decide +kernel, rfl, by decide +kernel, by decide +kernel⟩
abbrev s_is_journal : Stmt := topS 13
theorem sc_is_journal : FnScope ["thing", "plots", "times", "notes"] ["thing"] (defScope s_is_journal) := ⟨rfl, rfl, rfl, by decide +kernel, rfl, by decide +kernel, by decide +kernel⟩
abbrev s_true_value : Stmt := topS 14
theorem sc_true_value : FnScope ["row", "time", "sort"] ["row", "time", "sort"] (defScope s_true_value) := ⟨rfl, rfl, rfl, by decide +kernel, rfl, by decide +kernel, by decide +kernel⟩
abbrev s_untrue_times : Stmt := topS 15
theorem sc_untrue_times : FnScope ["notes", "row", "time", "sort", "value"] ["notes", "row"] (defScope s_untrue_times) := ⟨rfl, rfl, rfl, by decide +kernel, rfl, by decide +kernel, by decide +kernel⟩
abbrev s_is_order : Stmt := topS 16
theorem sc_is_order : FnScope ["journal", "thing", "plots", "times", "notes"] ["journal", "thing"] (defScope s_is_order) := ⟨rfl, rfl, rfl, by decide +kernel, rfl, by decide +kernel, by decide +kernel⟩
abbrev s_journal_of : Stmt := topS 17
theorem sc_journal_of : FnScope ["plots", "row", "notes", "time", "many"] ["plots", "row"] (defScope s_journal_of) := ⟨rfl, rfl, rfl, by decide +kernel, rfl, by decide +kernel, by decide +kernel⟩
abbrev s_l_cell_at : Stmt := topS 19
theorem sc_l_cell_at : FnScope ["_law_script", "_law_k"] ["_law_script", "_law_k"] (defScope s_l_cell_at) := ⟨rfl, rfl, rfl, by decide +kernel, rfl, by decide +kernel, by decide +kernel⟩
abbrev s_l_box : Stmt := topS 20
theorem sc_l_box : FnScope ["_law_script", "_law_k", "_law_core"] ["_law_script", "_law_k"] (defScope s_l_box) := ⟨rfl, rfl, rfl, by decide +kernel, rfl, by decide +kernel, by decide +kernel⟩
abbrev s_l_take : Stmt := topS 21
theorem sc_l_take : FnScope ["_law_box_here", "_law_below", "_law_found", "_law_once", "_law_twice"] ["_law_box_here", "_law_below"] (defScope s_l_take) := ⟨rfl, rfl, rfl, by decide +kernel, rfl, by decide +kernel, by decide +kernel⟩
abbrev s_l_of : Stmt := topS 22
theorem sc_l_of : FnScope ["_law_box_here", "_law_some"] ["_law_box_here", "_law_some"] (defScope s_l_of) := ⟨rfl, rfl, rfl, by decide +kernel, rfl, by decide +kernel, by decide +kernel⟩
abbrev s_l_same : Stmt := topS 23
theorem sc_l_same : FnScope ["_law_found", "_law_due", "_law_a", "_law_b"] ["_law_found", "_law_due"] (defScope s_l_same) := ⟨rfl, rfl, rfl, by decide +kernel, rfl, by decide +kernel, by decide +kernel⟩
abbrev s_l_lists : Stmt := topS 24
theorem sc_l_lists : FnScope ["_law_part", "_law_piece"] ["_law_part"] (defScope s_l_lists) := ⟨rfl, rfl, rfl, by decide +kernel, rfl, by decide +kernel, by decide +kernel⟩
abbrev s_l_is_int : Stmt := topS 25
theorem sc_l_is_int : FnScope ["_law_matter"] ["_law_matter"] (defScope s_l_is_int) := ⟨rfl, rfl, rfl, by decide +kernel, rfl, by decide +kernel, by decide +kernel⟩
abbrev s_l_runs : Stmt := topS 26
theorem sc_l_runs : FnScope ["_law_there", "_law_found", "_law_plot", "_law_some"] ["_law_there"] (defScope s_l_runs) := ⟨rfl, rfl, rfl, by decide +kernel, rfl, by decide +kernel, by decide +kernel⟩
abbrev s_l_seen : Stmt := topS 27
theorem sc_l_seen : FnScope ["_law_queue_here", "_law_counts", "_law_words", "_law_before", "_law_spot"] ["_law_queue_here"] (defScope s_l_seen) := ⟨rfl, rfl, rfl, by decide +kernel, rfl, by decide +kernel, by decide +kernel⟩
abbrev s_l_queue : Stmt := topS 28
theorem sc_l_queue : FnScope ["_law_box_here", "_law_count", "_law_size", "_law_left", "_law_found", "_law_near", "_law_spot", "_law_some", "_law_plot"] ["_law_box_here", "_law_count", "_law_size"] (defScope s_l_queue) := ⟨rfl, rfl, rfl, by decide +kernel, rfl, by decide +kernel, by decide +kernel⟩
abbrev s_l_notes : Stmt := topS 29
theorem sc_l_notes : FnScope ["_law_box_here", "_law_queue_here", "_law_found", "_law_dense", "_law_counts", "_law_words", "_law_spot"] ["_law_box_here", "_law_queue_here"] (defScope s_l_notes) := ⟨rfl, rfl, rfl, by decide +kernel, rfl, by decide +kernel, by decide +kernel⟩
abbrev s_l_story : Stmt := topS 30
theorem sc_l_story : FnScope ["_law_box_here", "_law_most", "_law_count", "_law_size", "_law_queue_here"] ["_law_box_here", "_law_most"] (defScope s_l_story) := ⟨rfl, rfl, rfl, by decide +kernel, rfl, by decide +kernel, by decide +kernel⟩
abbrev s_l_spoilt : Stmt := topS 31
theorem sc_l_spoilt : FnScope ["_law_box_here", "_law_book", "_law_count", "_law_size", "_law_notes_here", "_law_found", "_law_spot", "_law_kind", "_law_value", "_law_turn"] ["_law_box_here", "_law_book"] (defScope s_l_spoilt) := ⟨rfl, rfl, rfl, by decide +kernel, rfl, by decide +kernel, by decide +kernel⟩
abbrev s_l_false : Stmt := topS 32
theorem sc_l_false : FnScope ["_law_book", "_law_queue_here", "_law_counts", "_law_words", "_law_found", "_law_spot", "_law_kind", "_law_value"] ["_law_book", "_law_queue_here"] (defScope s_l_false) := ⟨rfl, rfl, rfl, by decide +kernel, rfl, by decide +kernel, by decide +kernel⟩
abbrev s_l_bent : Stmt := topS 33
theorem sc_l_bent : FnScope ["_law_box_here", "_law_part", "_law_way", "_law_at", "_law_some", "_law_odd"] ["_law_box_here", "_law_part"] (defScope s_l_bent) := ⟨rfl, rfl, rfl, by decide +kernel, rfl, by decide +kernel, by decide +kernel⟩
abbrev s_l_is_note : Stmt := topS 34
theorem sc_l_is_note : FnScope ["_law_size", "_law_matter"] ["_law_size", "_law_matter"] (defScope s_l_is_note) := ⟨rfl, rfl, rfl, by decide +kernel, rfl, by decide +kernel, by decide +kernel⟩
abbrev s_l_is_book : Stmt := topS 35
theorem sc_l_is_book : FnScope ["_law_matter", "_law_heads", "_law_part"] ["_law_matter"] (defScope s_l_is_book) := ⟨rfl, rfl, rfl, by decide +kernel, rfl, by decide +kernel, by decide +kernel⟩
abbrev s_l_is_order : Stmt := topS 36
theorem sc_l_is_order : FnScope ["_law_book", "_law_matter", "_law_plot"] ["_law_book", "_law_matter"] (defScope s_l_is_order) := ⟨rfl, rfl, rfl, by decide +kernel, rfl, by decide +kernel, by decide +kernel⟩
abbrev s_l_right : Stmt := topS 37
theorem sc_l_right : FnScope ["_law_box_here", "_law_queue_here", "_law_book", "_law_own", "_law_count", "_law_size", "_law_notes_here", "_law_matters", "_law_turn", "_law_matter", "_law_kept", "_law_due", "_law_told", "_law_more", "_law_counts", "_law_plot", "_law_spot"] ["_law_box_here"] (defScope s_l_right) := ⟨rfl, rfl, rfl, by decide +kernel, rfl, by decide +kernel, by decide +kernel⟩
abbrev s_law : Stmt := topS 38
theorem sc_law : FnScope ["_law_script", "_law_k", "_law_box_here", "_law_turn"] ["_law_script"] (defScope s_law) := ⟨rfl, rfl, rfl, by decide +kernel, rfl, by decide +kernel, by decide +kernel⟩
structure Top (wd : World) (K : PySem.W.Frag) (mg : Str → Option Value) : Prop where
  d_is_number : Fct K mg "is_number" s_is_number ["thing"]
  d_is_number_below : Fct K mg "is_number_below" s_is_number_below ["thing", "limit"]
  d_is_row : Fct K mg "is_row" s_is_row ["plots", "thing"]
  d_neighbours : Fct K mg "neighbours" s_neighbours ["row"]
  d_groups : Fct K mg "groups" s_groups ["row"]
  d_houses : Fct K mg "houses" s_houses ["row"]
  d_is_value : Fct K mg "is_value" s_is_value ["sort", "thing"]
  d_is_note : Fct K mg "is_note" s_is_note ["thing"]
  d_is_notes : Fct K mg "is_notes" s_is_notes ["times", "thing"]
  d_is_journal : Fct K mg "is_journal" s_is_journal ["thing"]
  d_true_value : Fct K mg "true_value" s_true_value ["row", "time", "sort"]
  d_untrue_times : Fct K mg "untrue_times" s_untrue_times ["notes", "row"]
  d_is_order : Fct K mg "is_order" s_is_order ["journal", "thing"]
  d_journal_of : Fct K mg "journal_of" s_journal_of ["plots", "row"]
  d_l_cell_at : Fct K mg "_law_cell_at" s_l_cell_at ["_law_script", "_law_k"]
  d_l_box : Fct K mg "_law_box" s_l_box ["_law_script", "_law_k"]
  d_l_take : Fct K mg "_law_take" s_l_take ["_law_box_here", "_law_below"]
  d_l_of : Fct K mg "_law_of" s_l_of ["_law_box_here", "_law_some"]
  d_l_same : Fct K mg "_law_same" s_l_same ["_law_found", "_law_due"]
  d_l_lists : Fct K mg "_law_lists" s_l_lists ["_law_part"]
  d_l_is_int : Fct K mg "_law_is_int" s_l_is_int ["_law_matter"]
  d_l_runs : Fct K mg "_law_runs" s_l_runs ["_law_there"]
  d_l_seen : Fct K mg "_law_seen" s_l_seen ["_law_queue_here"]
  d_l_queue : Fct K mg "_law_queue" s_l_queue ["_law_box_here", "_law_count", "_law_size"]
  d_l_notes : Fct K mg "_law_notes" s_l_notes ["_law_box_here", "_law_queue_here"]
  d_l_story : Fct K mg "_law_story" s_l_story ["_law_box_here", "_law_most"]
  d_l_spoilt : Fct K mg "_law_spoilt" s_l_spoilt ["_law_box_here", "_law_book"]
  d_l_false : Fct K mg "_law_false" s_l_false ["_law_book", "_law_queue_here"]
  d_l_bent : Fct K mg "_law_bent" s_l_bent ["_law_box_here", "_law_part"]
  d_l_is_note : Fct K mg "_law_is_note" s_l_is_note ["_law_size", "_law_matter"]
  d_l_is_book : Fct K mg "_law_is_book" s_l_is_book ["_law_matter"]
  d_l_is_order : Fct K mg "_law_is_order" s_l_is_order ["_law_book", "_law_matter"]
  d_l_right : Fct K mg "_law_right" s_l_right ["_law_box_here"]
  c_WORDS : GC K mg "WORDS" (.tuple [.str "new", .str "beside", .str "between"])
  b_abs : mg "abs" = none
  b_all : mg "all" = none
  b_bool : mg "bool" = none
  b_enumerate : mg "enumerate" = none
  b_int : mg "int" = none
  b_isinstance : mg "isinstance" = none
  b_len : mg "len" = none
  b_list : mg "list" = none
  b_min : mg "min" = none
  b_range : mg "range" = none
  b_repr : mg "repr" = none
  b_set : mg "set" = none
  b_sorted : mg "sorted" = none
  b_str : mg "str" = none
  b_tuple : mg "tuple" = none
  b_zip : mg "zip" = none
open PySem PySem.Spec PyProof.Rows L2 OgR Evl Dw OgM
def wstr : Wd → Str
  | .new => "new"
  | .beside => "beside"
  | .between => "between"
theorem sok_w (w : Wd) : PyData.strOk (wstr w) = true := by cases w <;> exact sok _
theorem wstr_inj {w v : Wd} : (wstr w = wstr v) = (w = v) := by
  refine propext ⟨fun h => ?_, fun h => by rw [h]⟩
  cases w <;> cases v <;> first | rfl | exact absurd h (by decide +kernel)
def chT (c : Ch) : PyData := .tuple [.str (wstr c.1), .int (c.2 : Nat)]
def sortS : NV → Str
  | .g _ => "groups"
  | .h _ => "house"
def valD : NV → PyData
  | .g n => .int (n : Nat)
  | .h w => .str (wstr w)
def ntD (n : Nt) : PyData := .tuple [.int (n.t : Nat), .str (sortS n.v), valD n.v]
def ntL (n : Nt) : PyData := .list [.int (n.t : Nat), .str (sortS n.v), valD n.v]
def IsNts (d : PyData) (ns : List Nt) : Prop := d = .tuple (ns.map ntD) ∨ d = .list (ns.map ntL)
def IsBook (d : PyData) (p t : Nat) (ns : List Nt) : Prop := ∃ e, IsNts e ns ∧ (d = .tuple [.int (p : Nat), .int (t : Nat), e] ∨ d = .list [.int (p : Nat), .int (t : Nat), e])
theorem IsBook.sq {d : PyData} {p t : Nat} {ns : List Nt} (h : IsBook d p t ns) : ∃ e, IsNts e ns ∧ seqd d = true ∧ its d = [.int (p : Nat), .int (t : Nat), e] := by
  obtain ⟨e, he, rfl | rfl⟩ := h <;> exact ⟨e, he, rfl, rfl⟩
local macro_rules | `(tactic| walk_at "s1") => `(tactic| simp only [wPubO, wC, wV, wPub, wP, wCons, wTup, wLst, wL, w2, wTest, wChain, wAnd, wOr, Dw.wNot, wAndV, wOrV, wNotV, wIf, Dw.wTru, truD, gI0, gI, gEq, gNe, gIn, gIsN, gNotN, gIsB, gNotB, gCatT, gCatS, gIx, wCat, wRep, w1, w1O, gLen, gTupleOf, gListOf, wRg1, gInt, gStr, w2a, wSlT, wSlL, wSlS, wRevT, wNeg, wCall, wCallB, wName, wGNil_n, wGCons_c, wGTup, wSeq, wRng1, wEnum, wZip, wNext, wSq, wRet, wIfS, wDrop, wAsg, wOwn, wAug, wMeth, fAppend, wFor_eq, wWhile_eq, wipeD, wLc_eq, Dw.wNm, wPar, wGix, wDix, wCatP, wPopTo, fPop, fPopAt, fIns, wSetIx, gRepr, gMinT, gNeS, gRepN, wDGet2, wDPut, wTPut, wTGet, gSrtR, gLtP, wSlB, wStar, wRaise, wNmX, wXat, wXis, gEqS, wYd, wYdic, wYfn, wYg, wCallD, wCallV, wSetN, wDcT, wTGet2, wTGet1, dicAt, wRng2, wRngD, wRevR, gRevL, wAugIx, look_d, look_own, shpI, shpB, shpN, shpS, seqT, seqL, itsT, itsL, lenT, lenL, okFF, eqv_str, eqv_int, eqv_bool, isNone, perm, Dt.set, Dt.sets, env0, List.map_cons, List.map_nil, List.cons_append, List.nil_append, List.getElem?_cons_zero, List.getElem?_cons_succ, List.set_cons_succ, List.set_cons_zero, List.filterMap_cons, List.filterMap_nil, Option.some.injEq, DV.d.injEq, DV.own.injEq, DV.dit.injEq, DV.dd.injEq, DV.oth.injEq, reduceCtorEq, false_or, or_false, false_and, and_false, exists_false, PyData.int.injEq, PyData.bool.injEq, PyData.str.injEq, PyData.tuple.injEq, PyData.list.injEq, List.cons.injEq, exists_eq_left, exists_eq_left', exists_eq_right, exists_eq_right', exists_and_left, exists_eq', exists_eq, and_true, true_and, and_self, and_assoc, List.length_cons, List.length_nil, List.replicate, Nat.reduceAdd, Nat.reduceSub, Nat.reduceLeDiff, Nat.zero_le, decide_eq_true_eq, Bool.not_eq_true', decide_eq_false_iff_not, ite_true, ite_false, if_true, if_false, Bool.false_eq_true, Bool.true_eq_false, eq_self, List.reduceReplicate, Bool.not_true, Bool.not_false, reduceIte])
section
variable {P : Program} {wd : World} {K : PySem.W.Frag} {mg : Str → Option Value} {base : Heap}
def Bk (d : PyData) (p T : Nat) (ns : List Nt) : Prop := IsBook d p T ns ∧ T ≤ p ∧ p < 2 ^ 62 ∧ T ≤ 1000 ∧ ns.length ≤ 10000
end
theorem ws (w : Wd) : Og.wstr w = wstr w := by cases w <;> rfl
section
variable {P : Program} {wd : World} {K : PySem.W.Frag} {mg : Str → Option Value} {base : Heap}
def wdsD (row : List Int) : List PyData := (picks row).map fun c => .str (wstr c.1)
theorem words_at {aW : Addr} (h : ∀ G, Dw.Dp K G (.ref aW) (.tuple [.str "new", .str "beside", .str "between"])) : ∀ H, SqT K H aW Og.wordsV := fun H => by
  cases h H with
  | tup h t =>
    cases t with
    | cons a t =>
      cases t with
      | cons b t =>
        cases t with
        | cons c t =>
          cases t
          cases a
          cases b
          cases c
          exact h
def f_houses : FP := fun ds R => ∃ d row, ds = [d] ∧ IsR d row ∧ row.Nodup ∧ row.length ≤ 900 ∧ R (.tuple (wdsD row))
theorem ok_houses (T : Top wd K mg) : Def P wd K mg base 2 "houses" s_houses ["row"] (spP K f_houses) := by
  obtain ⟨f, fd, F, b, m⟩ := T.d_houses.ex
  obtain ⟨fN, fdN, FN, bN, gN⟩ := T.d_neighbours.ex
  obtain ⟨aW, gW, hW⟩ := T.c_WORDS.ex
  refine ⟨f, fd, fnG_ok ((Og.ok_houses (k := 0) F FN bN gN gW (words_at hW) T.b_tuple).imp fun vs H Q E h => ?_), F, b, m⟩
  obtain ⟨G, ds, R, gh, hd, ⟨d, row, rfl, hr, hn, hl, q⟩, k⟩ := h
  obtain ⟨v, rfl, hv⟩ := dpa_one hd
  obtain ⟨bb, p, rfl, hs⟩ := dp_row gh hv hr
  refine ⟨bb, p, row, rfl, hs, hn, hl, fun H' t eh ht ht' => k _ _ (nwG G H H') H' q (nwG_up gh) eh (nwG_in gh eh) nwG_nw (.tup (.inl (.inl (by rw [nwG_at ht]; exact ht'))) ?_)⟩
  unfold wdsD
  induction picks row with
  | nil => exact .nil
  | cons c cs ih => exact .cons (by show Dw.Dp K _ (.str (Og.wstr c.1)) (.str (wstr c.1)); rw [ws]; exact .str _) ih
def IsC (d : PyData) (cs : List Ch) : Prop := d = .tuple (cs.map chT) ∨ d = .list (cs.map chT)
theorem IsC.sq {d : PyData} {cs : List Ch} (h : IsC d cs) : seqd d = true ∧ its d = cs.map chT := by
  rcases h with rfl | rfl <;> exact ⟨rfl, rfl⟩
end
open PySem PySem.Spec PyProof.Rows L2 OgR Evl Dw OgM Gx
def rowT (row : List Int) : PyData := .tuple (row.map .int)
def cntT (row : List Int) : List PyData := (List.range row.length).map fun i => .int ((segs (row.take (i + 1))).length : Nat)
theorem ix_step (w : Wd) : (1 : Int) - ((w.ix : Nat) : Int) = w.step := by cases w <;> rfl
section
variable {P : Program} {wd : World} {K : PySem.W.Frag} {mg : Str → Option Value} {base : Heap} {c : Nat → Addr}
def f_nb : FP := fun ds R => ∃ d row, ds = [d] ∧ IsR d row ∧ row.Nodup ∧ row.length ≤ 900 ∧ R (.list ((picks row).map fun c => .int (c.1.ix : Nat)))
theorem ok_neighbours (T : Top wd K mg) : Def P wd K mg base 1 "neighbours" s_neighbours ["row"] (spP K f_nb) := by
  obtain ⟨f, fd, F, b, m⟩ := T.d_neighbours.ex
  refine ⟨f, fd, fnG_ok ((Og.ok_nb (k := 0) F).imp fun vs H Q E h => ?_), F, b, m⟩
  obtain ⟨G, ds, R, gh, hd, ⟨d, row, rfl, hr, hn, hl, q⟩, k⟩ := h
  obtain ⟨v, rfl, hv⟩ := dpa_one hd
  obtain ⟨bb, p, rfl, hs⟩ := dp_row gh hv hr
  refine ⟨bb, p, row, rfl, hs, hn, hl, fun H' t eh ht ht' => k _ _ (nwG G H H') H' q (nwG_up gh) eh (nwG_in gh eh) nwG_nw (.lst (by rw [nwG_at ht]; exact ht') ?_)⟩
  induction picks row with
  | nil => exact .nil
  | cons c cs ih => exact .cons (.int _) ih
def f_groups : FP := fun ds R => ∃ d row, ∃ n : Nat, ds = [d] ∧ IsR d row ∧ OgM.Row (n : Nat) row ∧ row.length ≤ 900 ∧ R (.tuple (cntT row))
theorem ok_groups (T : Top wd K mg) : Def P wd K mg base 2 "groups" s_groups ["row"] (spP K f_groups) := by
  have g_neighbours := ok_neighbours (P := P) (base := base) T
  refine Def.pure T.d_groups sc_groups (fun ds R h => by obtain ⟨_, _, _, rfl, _⟩ := h; rfl) (fun f cdv A outer s H G E ds R hG hr h => ?_)
  obtain ⟨d, row, n, rfl, hd, hR, hl, q⟩ := h
  refine ⟨_, _, (dss_cons (ds_own 1 sc_groups.nd (do_lst da_nil))
      (dss_cons (ds_set 2 sc_groups.nd de_int)
      (dss_cons (ds_for PassesOwn.never (by rfl) (di_seq rfl (de_c g_neighbours hG (hr.mono (by omega)) (by rfl) (da_cons (de_v 0) da_nil))) (dg_name 3 sc_groups.nd)
        (dss_cons (ds_iadd 2 sc_groups.nd (de_bin o_sub (DE.p de_int) (dp_v 3)))
        (dss_one (ds_app 1 rfl (de_v 2)))))
      (dss_one (ds_ret (de_tupleOf rfl (by rfl) T.b_tuple (dp_v 1))))))), ?_⟩
  walk_at "s1"
  refine ⟨d, row, rfl, hd, hR.nd, hl, rfl, ?_⟩
  refine forD_by (fun i s2 => ∃ y3, i ≤ row.length ∧ s2 = ⟨[some (.d d), some (.own ((List.range i).map fun j => .int ((segs (row.take (j + 1))).length : Nat))), some (.d (.int ((segs (row.take i)).length : Nat))), y3], 0, []⟩) ⟨none, Nat.zero_le _, rfl⟩ (fun i d1 s2 J e2 inv hJ => ?_) (fun s2 inv => ?_)
  · obtain ⟨y3, hi, rfl⟩ := inv
    have e2 : ((picks row).map fun c => PyData.int (c.1.ix : Nat))[i]? = some d1 := e2
    rw [List.getElem?_map] at e2
    obtain ⟨⟨w, k⟩, hc, rfl⟩ := Option.map_eq_some_iff.mp e2
    have hi2 : i < row.length := by
      have := (List.getElem?_eq_some_iff.mp hc).1
      rw [picks_len] at this
      exact this
    obtain ⟨n1, n2⟩ := picks_next hR hc
    walk_at "s1"
    have e3 : ((segs (row.take i)).length : Int) + (1 - ((w.ix : Nat) : Int)) = ((segs (row.take (i + 1))).length : Nat) := by
      rw [ix_step, n1]
      exact (nextM_step (by omega)).symm
    have e4 : ∀ x : Int, ((segs (row.take i)).length : Int) + 1 - x = ((segs (row.take i)).length : Int) + (1 - x) := fun x => by omega
    first | rw [e3] | (rw [e4, e3])
    have e5 : (List.range i).map (fun j => PyData.int ((segs (row.take (j + 1))).length : Nat)) ++ [PyData.int ((segs (row.take (i + 1))).length : Nat)] = (List.range (i + 1)).map fun j => PyData.int ((segs (row.take (j + 1))).length : Nat) := by
      rw [List.range_succ, List.map_append]
      rfl
    rw [e5]
    exact ⟨by rw [List.length_map, List.length_range]; omega, hJ _ ⟨_, hi2, rfl⟩⟩
  · obtain ⟨y3, hi, rfl⟩ := inv
    walk_at "s1"
    rw [List.length_map, picks_len]
    exact q
def truV (row : List Int) (t : Nat) : NV → NV
  | .g _ => .g (segs (row.take (t + 1))).length
  | .h _ => .h ((picks row)[t]?.getD (.new, 0)).1
theorem shp_val (v : NV) : Shp (valD v) := by
  cases v
  · exact rfl
  · exact shp_z (sok_w _)
theorem eqv_val (row : List Int) (t : Nat) (v : NV) : (valD (truV row t v)).eqv (valD v) = decide (truV row t v = v) := by
  cases v with
  | g x =>
    show PyData.eqv (.int _) (.int _) = decide (NV.g _ = NV.g x)
    rw [eqv_int]
    simp only [NV.g.injEq]
    by_cases h : (segs (row.take (t + 1))).length = x
    · rw [decide_eq_true h, decide_eq_true (by omega)]
    · rw [decide_eq_false h, decide_eq_false (by omega)]
  | h x =>
    show PyData.eqv (.str _) (.str _) = decide (NV.h _ = NV.h x)
    rw [eqv_str]
    simp only [NV.h.injEq, wstr_inj]
def f_true : FP := fun ds R => ∃ d row, ∃ n t : Nat, ∃ v : NV, ds = [d, .int (t : Nat), .str (sortS v)] ∧ IsR d row ∧ OgM.Row (n : Nat) row ∧ row.length ≤ 900 ∧ t < row.length ∧ R (valD (truV row t v))
theorem ok_true_value (T : Top wd K mg) : Def P wd K mg base 3 "true_value" s_true_value ["row", "time", "sort"] (spP K f_true) := by
  have g_groups := ok_groups (P := P) (base := base) T
  have g_houses := ok_houses (P := P) (base := base) T
  refine Def.pure T.d_true_value sc_true_value (fun ds R h => by obtain ⟨_, _, _, _, _, rfl, _⟩ := h; rfl) (fun f cdv A outer s H G E ds R hG hr h => ?_)
  obtain ⟨d, row, n, t, v, rfl, hd, hR, hl, ht, q⟩ := h
  refine ⟨_, _, (dss_cons (ds_if (dt_cmp (o_eq rfl hr.units) (dp_v 2) (DE.p de_str)) (dss_one (ds_ret (de_ix rfl (DE.p (de_c g_groups hG (hr.mono (by omega)) (by rfl) (da_cons (de_v 0) da_nil))) (dp_v 1)))) dss_nil)
      (dss_one (ds_ret (de_ix rfl (DE.p (de_c g_houses hG (hr.mono (by omega)) (by rfl) (da_cons (de_v 0) da_nil))) (dp_v 1))))), ?_⟩
  walk_at "s1"
  cases v with
  | g x =>
    refine ⟨shp_str _, (if_pos rfl).mpr ⟨d, row, n, rfl, hd, hR, hl, rfl, _, ?_, q⟩⟩
    show atI (cntT row) (t : Int) = _
    unfold cntT
    rw [at_nat (by rw [List.length_map, List.length_range]; exact ht), List.getElem?_map, List.getElem?_eq_getElem (by rw [List.length_range]; exact ht), List.getElem_range]
    rfl
  | h x =>
    refine ⟨shp_str _, (if_neg (show ¬ (Str.ofString "house" = Str.ofString "groups") by decide +kernel)).mpr ⟨d, row, rfl, hd, hR.nd, hl, rfl, _, ?_, q⟩⟩
    show atI (wdsD row) (t : Int) = _
    unfold wdsD truV
    rw [at_nat (by rw [List.length_map, picks_len]; exact ht), List.getElem?_map, List.getElem?_eq_getElem (by rw [picks_len]; exact ht)]
    rfl
def f_untrue : FP := fun ds R => ∃ e d row, ∃ n : Nat, ∃ ns : List Nt, ds = [e, d] ∧ IsNts e ns ∧ IsR d row ∧ OgM.Row (n : Nat) row ∧ row.length ≤ 900 ∧ ns.length ≤ 10000 ∧ (∀ x ∈ ns, x.t < row.length) ∧ R (.list ((ns.filter fun x => decide (truV row x.t x.v ≠ x.v)).map fun x => .int (x.t : Nat)))
theorem ok_untrue_times (T : Top wd K mg) : Def P wd K mg base 4 "untrue_times" s_untrue_times ["notes", "row"] (spP K f_untrue) := by
  have g_true_value := ok_true_value (P := P) (base := base) T
  refine Def.pure T.d_untrue_times sc_untrue_times (fun ds R h => by obtain ⟨_, _, _, _, _, rfl, _⟩ := h; rfl) (fun f cdv A outer s H G E ds R hG hr h => ?_)
  obtain ⟨e, d, row, n, ns, rfl, he, hd, hR, hl, hns, ht, q⟩ := h
  refine ⟨_, _, (dss_one (ds_ret (DO.d (do_lc (own := [("time", 2), ("sort", 3), ("value", 4)]) (by rfl) sc_untrue_times.nd (di_seq rfl (de_v 0)) (blkOk_by (own := [("time", 2), ("sort", 3), ("value", 4)]) (N := ["notes", "row", "time", "sort", "value"]) (sc := defScope s_untrue_times) (by decide +kernel)) (fun _ _ _ _ _ => (dg_tup (n := 3) rfl (by rfl) (dgs_c (dg_name 2 sc_untrue_times.nd (hf := by first | exact Or.inr rfl | exact Or.inl rfl)) (dgs_c (dg_name 3 sc_untrue_times.nd (hf := by first | exact Or.inr rfl | exact Or.inl rfl)) (dgs_c (dg_name 4 sc_untrue_times.nd (hf := by first | exact Or.inr rfl | exact Or.inl rfl)) dgs_nil))))) (ts_one fun _ _ _ _ _ => (dt_cmp (o_ne rfl hr.units) (DE.p (de_c g_true_value hG (hr.mono (by omega)) (by rfl) (da_cons (de_v 1) (da_cons (de_v 2) (da_cons (de_v 3) da_nil))))) (dp_v 4))) (fun _ _ _ _ _ => (de_v 2)))))), ?_⟩
  walk_at "s1"
  have one : ∀ (x : Nt), x ∈ ns → ∀ (acc : List PyData) (J : List PyData → Cs → Prop), acc.length < 100000 → (∀ y, (if truV row x.t x.v = x.v then none else some (PyData.int (x.t : Nat))) = some y → J (acc ++ [y]) ⟨0, []⟩) → ((if truV row x.t x.v = x.v then none else some (PyData.int (x.t : Nat))) = none → J acc ⟨0, []⟩) →
      f_true [d, .int (x.t : Nat), .str (sortS x.v)] fun d_1 => Shp d_1 ∧ Shp (valD x.v) ∧ if d_1.eqv (valD x.v) = false then acc.length < 100000 ∧ J (acc ++ [.int (x.t : Nat)]) ⟨0, []⟩ else J acc ⟨0, []⟩ := fun x hx acc J hacc h1 h0 => by
    refine ⟨d, row, n, x.t, x.v, rfl, hd, hR, hl, ht x hx, shp_val _, shp_val _, ?_⟩
    rw [eqv_val]
    by_cases hq : truV row x.t x.v = x.v
    · rw [if_neg (by rw [decide_eq_true hq]; decide)]
      exact h0 (if_pos hq)
    · rw [if_pos (by rw [decide_eq_false hq])]
      exact ⟨hacc, h1 _ (if_neg hq)⟩
  have efm : ns.filterMap (fun x => if truV row x.t x.v = x.v then none else some (PyData.int (x.t : Nat))) = (ns.filter fun x => decide (truV row x.t x.v ≠ x.v)).map fun x => .int (x.t : Nat) := by
    clear one ht q hns he
    induction ns with
    | nil => rfl
    | cons x l ih =>
      rw [List.filterMap_cons, List.filter_cons, ih]
      by_cases hq : truV row x.t x.v = x.v
      · rw [if_pos hq, if_neg (by simp [hq])]
      · rw [if_neg hq, if_pos (by simp [hq])]
        rfl
  rw [← efm] at q
  rcases he with rfl | rfl
  · refine ⟨rfl, lcD_enc ns ntD _ (by omega) (fun x hx acc J hacc h1 h0 => ?_) q⟩
    simp only [ntD]
    walk_at "s1"
    exact one x hx acc J hacc h1 h0
  · refine ⟨rfl, lcD_enc ns ntL _ (by omega) (fun x hx acc J hacc h1 h0 => ?_) q⟩
    simp only [ntL]
    walk_at "s1"
    exact one x hx acc J hacc h1 h0
end
local macro_rules | `(tactic| walk_at "d") => `(tactic| first
  | refine ⟨_, rfl, ?_⟩ | refine ⟨_, _, rfl, rfl, ?_⟩ | refine iteT ?_ | refine iteF ?_ | refine ⟨_, _, rfl, rfl, rfl, ?_⟩)
section
variable {P : Program} {wd : World} {K : PySem.W.Frag} {mg : Str → Option Value} {base : Heap}
def spTake : Sp := fun vs H Q _ => ∃ (l : Addr) (c n : Int), vs = [.ref l, .int n] ∧ Dw.BoxAt H l c ∧ 1 ≤ n ∧ n ≤ 10000000 ∧ c < 1000000 ∧
  ∀ r xs c', 0 ≤ r → r < n → Dw.BoxAt (upd H l (.lst xs)) l c' → c' ≤ c + 1 → Q (.int r) (upd H l (.lst xs))
theorem raw_take {f : Addr} {fd : FuncData} {k : Nat} (F : Fun K "_law_take" "_law_take" s_l_take f fd) : FnG P wd K mg base (k + 1) f fd ["_law_box_here", "_law_below"] spTake := by
  refine fnG_of F sc_l_take (fun vs H Q E h => ?_) (fun cdv A outer s H vs Q E hG hr h => ?_)
  · obtain ⟨l, c, n, rfl, _⟩ := h
    rfl
  · obtain ⟨l, c, n, rfl, ⟨a, b, hl, ha, hb, hb2, hc, hc2⟩, hn, hn2, hc3, q⟩ := h
    have hL : SqL K H l [.int a, .int b, .int c] := .inl (.inl hl)
    have X0 : ∀ {X : Cx} {j : Int} {p p1 p2 : Pos} {k : Nat} (hv : PE X (.Name "_law_box_here" p1) (tVar 0)), PE X (.Subscript (.Name "_law_box_here" p1) (.Constant (.int j) k p2) p) (tOp (rIxL X.K) (tVar 0) (fun _ H Q => Q (.int j) H)) := fun hv => pe_ix ix_list hv pe_int (fun _ _ => rfl)
    refine ⟨_, pss_cons (ps_if (pt_cmpR op_gt (X0 (pv 0)) pe_int (nomark _))
        (pss_cons (ps_set (i := 2) sc_l_take.nd rfl (.inl rfl) (pe_op op_mod (X0 (pv 0)) (pv 1)))
          (pss_cons (ps_asg (pe_op op_fdiv (X0 (pv 0)) (pv 1)) (pg_sub (pv 0) pe_int set_list))
          (pss_one (ps_ret (pv 2))))) pss_nil)
      (pss_cons (ps_if (pt_cmpR op_gt (pv 1) (pe_op op_pow pe_int pe_int) (nomark _)) (pss_one ps_never) pss_nil)
      (pss_cons (ps_asg (pe_op op_add (X0 (pv 0)) pe_int) (pg_sub (pv 0) pe_int set_list))
      (pss_cons (ps_set (i := 3) sc_l_take.nd rfl (.inl rfl) (pe_op op_mod (pe_op op_mul (pe_op op_add (X0 (pv 0)) (pe_op op_mul pe_int (X0 (pv 0)))) (pe_op op_add pe_int (X0 (pv 0)))) pe_int))
      (pss_cons (ps_set (i := 4) sc_l_take.nd rfl (.inl rfl) (pe_op op_mod (pe_op op_mul (pe_op op_add (pe_op op_add (pv 3) (X0 (pv 0))) (pe_op op_fdiv (X0 (pv 0)) pe_int)) (pe_op op_add (pe_op op_mod (pv 3) pe_int) pe_int)) pe_int))
      (pss_one (ps_ret (pe_op op_mod (pe_op op_fdiv (pe_op op_mod (pe_op op_add (pe_op op_mul (pv 4) pe_int) (pv 3)) pe_int) pe_int) (pv 1)))))))), ?_⟩
    refine ⟨_, rfl, l, _, 0, _, rfl, rfl, hL, rfl, _, _, rfl, rfl, _, rfl, ite2 (fun e => ?_) (fun e => ?_)⟩
    · have h1 := of_decide_eq_true e
      refine ⟨_, rfl, l, _, 0, _, rfl, rfl, hL, rfl, _, rfl, _, _, rfl, rfl, by omega, ?_⟩
      refine ⟨_, rfl, l, _, 0, _, rfl, rfl, hL, rfl, _, rfl, _, _, rfl, rfl, ⟨by omega, by omega⟩, _, rfl, l, _, 0, 0, rfl, rfl, hl, rfl, ?_⟩
      refine ⟨_, rfl, ?_⟩
      refine q _ _ c (Int.emod_nonneg _ (by omega)) (Int.emod_lt_of_pos _ (by omega)) ⟨_, _, upd_same, Int.ediv_nonneg ha (by omega), hb, hb2, hc, hc2⟩ (by omega)
    · refine ⟨_, rfl, _, _, rfl, rfl, ⟨by decide, by decide, by decide⟩, _, _, rfl, rfl, _, rfl, ite2 (fun e2 => ?_) (fun e2 => ?_)⟩
      · have h2 := of_decide_eq_true e2
        exact absurd h2 (by show ¬ ((10 : Int) ^ 7 < n); omega)
      · refine ⟨_, rfl, l, _, 2, _, rfl, rfl, hL, rfl, _, _, rfl, rfl, _, rfl, l, _, 2, 2, rfl, rfl, hl, rfl, ?_⟩
        have hl2 : upd H l (.lst [.int a, .int b, .int (c + 1)]) l = some (.lst [.int a, .int b, .int (c + 1)]) := upd_same
        have hL2 : SqL K (upd H l (.lst [.int a, .int b, .int (c + 1)])) l [.int a, .int b, .int (c + 1)] := .inl (.inl hl2)
        show tSeq _ _ _ _ (upd H l (.lst [.int a, .int b, .int (c + 1)]))
        refine ⟨_, rfl, l, _, 1, _, rfl, rfl, hL2, rfl, _, rfl, l, _, 2, _, rfl, rfl, hL2, rfl, _, _, rfl, rfl, .inl ⟨by decide, by decide⟩, _, _, rfl, rfl, _, rfl, l, _, 2, _, rfl, rfl, hL2, rfl, _, _, rfl, rfl, _, _, rfl, rfl, .inl ⟨by omega, by omega⟩, _, _, rfl, rfl, by omega, ?_⟩
        refine ⟨_, rfl, _, rfl, l, _, 2, _, rfl, rfl, hL2, rfl, _, _, rfl, rfl, _, rfl, l, _, 1, _, rfl, rfl, hL2, rfl, _, _, rfl, rfl, ⟨by decide, by decide⟩, _, _, rfl, rfl, _, rfl, _, _, rfl, rfl, by omega, _, _, rfl, rfl, _, _, rfl, rfl, .inr ⟨?_, ?_⟩, _, _, rfl, rfl, by omega, ?_⟩
        · have := Int.emod_nonneg ((b + 48271 * (c + 1)) * (39373 + (c + 1)) % 2147483647) (show (40009 : Int) ≠ 0 by decide); omega
        · have := Int.emod_lt_of_pos ((b + 48271 * (c + 1)) * (39373 + (c + 1)) % 2147483647) (show (0 : Int) < 40009 by decide); omega
        · refine ⟨_, rfl, _, _, rfl, rfl, .inr ⟨by decide, by decide⟩, _, rfl, _, _, rfl, rfl, _, _, rfl, rfl, by omega, _, _, rfl, rfl, ⟨by decide, by decide⟩, _, rfl, _, _, rfl, rfl, by omega, ?_⟩
          exact q _ _ (c + 1) (Int.emod_nonneg _ (by omega)) (Int.emod_lt_of_pos _ (by omega)) ⟨_, _, upd_same, ha, hb, hb2, by omega, by omega⟩ (by omega)
def f_take : FB := fun ds c R => ∃ n : Int, ds = [.int n] ∧ 1 ≤ n ∧ n ≤ 10000000 ∧ c < 1000000 ∧ ∀ r c', 0 ≤ r → r < n → c' ≤ c + 1 → R (.int r) c'
theorem ok_l_take (T : Top wd K mg) : Def P wd K mg base 1 "_law_take" s_l_take ["_law_box_here", "_law_below"] (spB K f_take) := by
  obtain ⟨f, fd, F, b, m⟩ := T.d_l_take.ex
  refine Def.imp (sp := spTake) ⟨f, fd, raw_take F, F, b, m⟩ fun vs H Q E h => ?_
  obtain ⟨l, vs', G, ds, c, R, rfl, hB, hGl, gh, p, ⟨n, rfl, h1, h2, h3, hR⟩, kk⟩ := h
  cases p with
  | cons p1 p2 =>
    cases p2
    refine ⟨l, c, n, by rw [dp_int p1], hB, h1, h2, h3, fun r xs c' r0 r1 hB' hc' => kk (.int r) (.int r) c' G _ (hR r c' r0 r1 hc') (Ex.refl G) (fun b o hb h => by rw [upd_ne hb]; exact h) hB' (fun b o h => ?_) (Nw.refl G H) (.int r)⟩
    rw [upd_ne (fun z => by rw [z, hGl] at h; cases h)]
    exact gh b o h
def f_of : FB := fun ds c R => ∃ x, ds = [x] ∧ seqd x = true ∧ 1 ≤ (its x).length ∧ (its x).length ≤ 1000 ∧ c < 1000000 ∧ ∀ d c', d ∈ its x → c' ≤ c + 1 → R d c'
theorem ok_l_of (T : Top wd K mg) : Def P wd K mg base 2 "_law_of" s_l_of ["_law_box_here", "_law_some"] (spB K f_of) := by
  have g_l_take := ok_l_take (P := P) (base := base) T
  refine Def.draws T.d_l_of sc_l_of (fun ds c R h => by obtain ⟨x, rfl, _⟩ := h; rfl) (fun f cdv A outer s H G l E ds c R hG hr h => ?_)
  obtain ⟨x, rfl, hs, h1, h2, hc, q⟩ := h
  refine ⟨_, _, (dss_one (ds_ret (de_ix rfl (dp_v 1) (DE.p (de_cB 0 g_l_take hG (hr.mono (by omega)) (by rfl) (da_cons (de_len rfl (by rfl) T.b_len (dp_v 1)) da_nil)))))), ?_⟩
  have hl : lenD x = some (its x).length := by cases x <;> first | rfl | cases hs
  refine ⟨_, x, rfl, rfl, rfl, _, x, rfl, rfl, (its x).length, hl, _, rfl, by omega, by omega, hc, fun r c' r0 r1 hc' => ?_⟩
  have hr2 : r.toNat < (its x).length := by omega
  refine ⟨r, _, hs, rfl, ?_, q _ c' (List.getElem_mem hr2) hc'⟩
  unfold atI ixN
  rw [if_pos r0, if_pos r1]
  exact List.getElem?_eq_getElem hr2
end
local macro_rules | `(tactic| walk_at "d") => `(tactic| first
  | refine ⟨_, rfl, ?_⟩ | refine ⟨_, _, rfl, rfl, ?_⟩ | refine iteT ?_ | refine iteF ?_ | refine ⟨_, _, rfl, rfl, rfl, ?_⟩ | refine ⟨rfl, ?_⟩)
def OnB (w : Nat) (C : PyData → Prop) (d : PyData) : Prop := FlB d ∨ ∃ es, (d = .list es ∨ d = .tuple es) ∧ es.length ≤ w ∧ ∀ x ∈ es, C x
theorem FlB.shp {d : PyData} (h : FlB d) : Shp d := Bd.shp (w := 0) (k := 0) h (by decide)
theorem zip_self {es : List PyData} {x : PyData} (h : x ∈ zipD es es) : ∃ d ∈ es, x = .tuple [d, d] := by
  unfold zipD at h
  induction es with
  | nil => simp at h
  | cons e es ih =>
    rw [List.zipWith_cons_cons] at h
    rcases List.mem_cons.mp h with rfl | h
    · exact ⟨e, List.mem_cons_self, rfl⟩
    · obtain ⟨d, hd, r⟩ := ih h
      exact ⟨d, List.mem_cons_of_mem _ hd, r⟩
theorem zip_len (es : List PyData) : (zipD es es).length = es.length := by unfold zipD; rw [List.length_zipWith]; omega
theorem all_true {l : List PyData} : ((l.map fun _ => true).all id) = true := by rw [List.all_map]; simp
section
variable {P : Program} {wd : World} {K : PySem.W.Frag} {mg : Str → Option Value} {base : Heap}
def f_same (C : PyData → Prop) : FP := fun ds R => ∃ d, ds = [d, d] ∧ C d ∧ R (.bool true)
theorem same_step (T : Top wd K mg) {m w : Nat} {C : PyData → Prop} (hw : w ≤ 1000) (g_l_same : Def P wd K mg base m "_law_same" s_l_same ["_law_found", "_law_due"] (spP K (f_same C))) :
    Def P wd K mg base (m + 1) "_law_same" s_l_same ["_law_found", "_law_due"] (spP K (f_same (OnB w C))) := by
  refine Def.pure T.d_l_same sc_l_same (fun ds R h => by obtain ⟨d, rfl, _⟩ := h; rfl) (fun f cdv A outer s H G E ds R hG hr h => ?_)
  obtain ⟨d, rfl, hd, q⟩ := h
  refine ⟨_, _, (dss_cons (ds_if (dt_val (de_isi2 .list .tuple rfl (by rfl) T.b_isinstance (by rfl) T.b_list (by decide +kernel) (by rfl) T.b_tuple (by decide +kernel) (dp_v 1))) (dss_cons (ds_if (DW.q (dw_or (dt_cmp (o_ne rfl hr.units) (DE.p (de_isi .list rfl (by rfl) T.b_isinstance (by rfl) T.b_list (by decide +kernel) (dp_v 0))) (DE.p (de_isi .list rfl (by rfl) T.b_isinstance (by rfl) T.b_list (by decide +kernel) (dp_v 1)))) (dw_or1 (dt_cmp (o_ne rfl hr.units) (DE.p (de_isi .tuple rfl (by rfl) T.b_isinstance (by rfl) T.b_tuple (by decide +kernel) (dp_v 0))) (DE.p (de_isi .tuple rfl (by rfl) T.b_isinstance (by rfl) T.b_tuple (by decide +kernel) (dp_v 1))))))) (dss_one (ds_ret de_bl)) dss_nil)
        (dss_one (ds_ret (de_and (de_cmp (o_eq rfl hr.units) (DE.p (de_len rfl (by rfl) T.b_len (dp_v 0))) (DE.p (de_len rfl (by rfl) T.b_len (dp_v 1)))) (de_one (de_all rfl (by rfl) (by rfl) T.b_all (DE.p (DO.d (do_lc (own := [("_law_a", 2), ("_law_b", 3)]) (by rfl) sc_l_same.nd (di_zip2 rfl (by rfl) T.b_zip (de_v 0) (de_v 1)) (blkOk_by (own := [("_law_a", 2), ("_law_b", 3)]) (N := ["_law_found", "_law_due", "_law_a", "_law_b"]) (sc := defScope s_l_same) (by decide +kernel)) (fun _ _ _ _ _ => (dg_tup (n := 2) rfl (by rfl) (dgs_c (dg_name 2 sc_l_same.nd (hf := by first | exact Or.inr rfl | exact Or.inl rfl)) (dgs_c (dg_name 3 sc_l_same.nd (hf := by first | exact Or.inr rfl | exact Or.inl rfl)) dgs_nil)))) ts_no (fun _ _ _ _ _ => (de_c g_l_same hG (hr.mono (by omega)) (by rfl) (da_cons (de_v 2) (da_cons (de_v 3) da_nil))))))))))))) dss_nil)
      (dss_cons (ds_if (DW.q (dw_or (dt_cmp o_isN (dp_v 1) (DE.p de_non)) (dw_or1 (dt_val (de_isi2 .bool .str rfl (by rfl) T.b_isinstance (by rfl) T.b_bool (by decide +kernel) (by rfl) T.b_str (by decide +kernel) (dp_v 1)))))) (dss_one (ds_ret (de_and (de_cmp (o_eq rfl hr.units) (dp_v 0) (dp_v 1)) (de_and (de_cmp (o_eq rfl hr.units) (DE.p (de_isi .bool rfl (by rfl) T.b_isinstance (by rfl) T.b_bool (by decide +kernel) (dp_v 0))) (DE.p (de_isi .bool rfl (by rfl) T.b_isinstance (by rfl) T.b_bool (by decide +kernel) (dp_v 1)))) (de_one (de_cmp (o_eq rfl hr.units) (DE.p (de_cmp o_isN (dp_v 0) (DE.p de_non))) (DE.p (de_cmp o_isN (dp_v 1) (DE.p de_non))))))))) dss_nil)
      (dss_one (ds_ret (de_and (de_isi .int rfl (by rfl) T.b_isinstance (by rfl) T.b_int (by decide +kernel) (dp_v 0)) (de_and (de_not (de_isi .bool rfl (by rfl) T.b_isinstance (by rfl) T.b_bool (by decide +kernel) (dp_v 0))) (de_one (de_cmp (o_eq rfl hr.units) (dp_v 0) (dp_v 1))))))))), ?_⟩
  have flat : ∀ d : PyData, FlB d → Shp d := fun d h => FlB.shp h
  rcases hd with hf | ⟨es, he, hl, hC⟩
  · cases d with
    | none =>
      repeat walk_at "d"
      exact q
    | bool b =>
      repeat walk_at "d"
      rw [eqv_bool, decide_eq_true rfl]
      repeat walk_at "d"
      exact q
    | int i =>
      repeat walk_at "d"
      rw [eqv_int, decide_eq_true rfl]
      exact q
    | str z =>
      repeat walk_at "d"
      refine ⟨flat _ hf, flat _ hf, ?_⟩
      rw [eqv_str, decide_eq_true rfl]
      repeat walk_at "d"
      exact q
    | list _ => exact hf.elim
    | tuple _ => exact hf.elim
    | dict _ => exact hf.elim
  · rcases he with rfl | rfl
    all_goals
      repeat walk_at "d"
      rw [eqv_int, decide_eq_true rfl]
      repeat walk_at "d"
      refine lc_map (fun _ => .bool true) (by show (zipD es es).length ≤ _; rw [zip_len]; omega) (fun x hx acc J hacc hJ => ?_) ⟨(zipD es es).map fun _ => true, by rw [List.map_map]; rfl, ?_⟩
      · obtain ⟨y, hy, rfl⟩ := zip_self hx
        exact ⟨rfl, rfl, y, [y], rfl, y, [], rfl, rfl, y, rfl, y, rfl, y, rfl, hC y hy, rfl, hacc, hJ⟩
      · rw [all_true]
        exact q
theorem ok_l_same (T : Top wd K mg) {w : Nat} (hw : w ≤ 1000) : ∀ k : Nat, Def P wd K mg base (k + 1) "_law_same" s_l_same ["_law_found", "_law_due"] (spP K (f_same (Bd w k)))
  | 0 => by
    have h0 : Def P wd K mg base 0 "_law_same" s_l_same ["_law_found", "_law_due"] (spP K (f_same fun _ => False)) := Def.no T.d_l_same fun vs H Q E h => by
      obtain ⟨_, _, _, _, _, ⟨_, _, h, _⟩, _⟩ := h
      exact h
    refine (same_step T hw h0).imp fun vs H Q E h => ?_
    obtain ⟨G, ds, R, h1, h2, ⟨d, h3, h4, h5⟩, h6⟩ := h
    exact ⟨G, ds, R, h1, h2, ⟨d, h3, .inl h4, h5⟩, h6⟩
  | k + 1 => same_step T hw (ok_l_same T hw k)
def softK : Nat → PyData → PyData
  | 0, d => d
  | k + 1, d => if seqd d = true then .list ((its d).map (softK k)) else d
def f_lists (C : PyData → Prop) (g : PyData → PyData) : FP := fun ds R => ∃ d, ds = [d] ∧ C d ∧ R (g d)
theorem lists_step (T : Top wd K mg) {m w : Nat} {C : PyData → Prop} {g : PyData → PyData} (hw : w ≤ 1000) (g_l_lists : Def P wd K mg base m "_law_lists" s_l_lists ["_law_part"] (spP K (f_lists C g))) :
    Def P wd K mg base (m + 1) "_law_lists" s_l_lists ["_law_part"] (spP K (f_lists (OnB w C) fun d => if seqd d = true then .list ((its d).map g) else d)) := by
  refine Def.pure T.d_l_lists sc_l_lists (fun ds R h => by obtain ⟨d, rfl, _⟩ := h; rfl) (fun f cdv A outer s H G E ds R hG hr h => ?_)
  obtain ⟨d, rfl, hd, q⟩ := h
  refine ⟨_, _, (dss_one (ds_ret (de_if (dt_val (de_isi2 .list .tuple rfl (by rfl) T.b_isinstance (by rfl) T.b_list (by decide +kernel) (by rfl) T.b_tuple (by decide +kernel) (dp_v 0))) (DO.d (do_lc (own := [("_law_piece", 1)]) (by rfl) sc_l_lists.nd (di_seq rfl (de_v 0)) (blkOk_by (own := [("_law_piece", 1)]) (N := ["_law_part", "_law_piece"]) (sc := defScope s_l_lists) (by decide +kernel)) (fun _ _ _ _ _ => (dg_name 1 sc_l_lists.nd (hf := by first | exact Or.inr rfl | exact Or.inl rfl))) ts_no (fun _ _ _ _ _ => (de_c g_l_lists hG (hr.mono (by omega)) (by rfl) (da_cons (de_v 1) da_nil))))) (de_v 0)))), ?_⟩
  rcases hd with hf | ⟨es, he, hl, hC⟩
  · cases d with
    | list _ => exact hf.elim
    | tuple _ => exact hf.elim
    | dict _ => exact hf.elim
    | _ =>
      repeat walk_at "d"
      exact q
  · rcases he with rfl | rfl
    all_goals
      repeat walk_at "d"
      refine lc_map g (show es.length ≤ 99999 by omega) (fun x hx acc J hacc hJ => ⟨x, rfl, x, rfl, hC x hx, rfl, hacc, hJ⟩) q
theorem ok_l_lists (T : Top wd K mg) {w : Nat} (hw : w ≤ 1000) : ∀ k : Nat, Def P wd K mg base (k + 1) "_law_lists" s_l_lists ["_law_part"] (spP K (f_lists (Bd w k) (softK k)))
  | 0 => by
    have h0 : Def P wd K mg base 0 "_law_lists" s_l_lists ["_law_part"] (spP K (f_lists (fun _ => False) id)) := Def.no T.d_l_lists fun vs H Q E h => by
      obtain ⟨_, _, _, _, _, ⟨_, _, h, _⟩, _⟩ := h
      exact h
    refine (lists_step T hw h0).imp fun vs H Q E h => ?_
    obtain ⟨G, ds, R, h1, h2, ⟨d, h3, h4, h5⟩, h6⟩ := h
    refine ⟨G, ds, R, h1, h2, ⟨d, h3, .inl h4, ?_⟩, h6⟩
    have e : seqd d = false := by cases d <;> first | rfl | exact (h4 : False).elim
    simp only [e]
    exact h5
  | k + 1 => lists_step T hw (ok_l_lists T hw k)
end
local macro_rules | `(tactic| walk_at "d") => `(tactic| first
  | refine ⟨_, rfl, ?_⟩ | refine ⟨_, _, rfl, rfl, ?_⟩ | refine iteT ?_ | refine iteF ?_ | refine ⟨_, _, rfl, rfl, rfl, ?_⟩ | refine ⟨rfl, ?_⟩)
theorem sortI_perm (ns : List Int) : (sortI ns).Perm ns := List.mergeSort_perm ns _
theorem sortI_le (ns : List Int) : (sortI ns).Pairwise (· ≤ ·) := by
  have := List.pairwise_mergeSort (le := fun a b : Int => decide (a ≤ b)) (fun a b c h1 h2 => by simp at *; omega) (fun a b => by simp; omega) ns
  exact this.imp fun h => by simpa using h
def runD (x : Seg) : PyData := .list ((sgi x).map .int)
def runsD (g : List Seg) : List PyData := g.map runD
theorem at_last {α : Type} (l : List α) (x : α) : atI (l ++ [x]) (-1) = some x := by
  unfold atI ixN
  rw [if_neg (by decide), if_pos (by rw [List.length_append]; simp; omega), List.length_append]
  show (l ++ [x])[((-1 : Int) + ((l.length + 1 : Nat) : Int)).toNat]? = some x
  rw [show ((-1 : Int) + ((l.length + 1 : Nat) : Int)).toNat = l.length by omega, List.getElem?_concat_length]
theorem run_last (x : Seg) : atI ((sgi x).map PyData.int) (-1) = some (.int (x.1 + x.2)) := by
  obtain ⟨l0, hl0⟩ := List.getLast?_eq_some_iff.mp (sgi_last x)
  rw [hl0, List.map_append]
  exact at_last _ _
theorem eqv_nilR (g : List Seg) : PyData.eqv (.list (runsD g)) (.list []) = g.isEmpty := by
  cases g <;> simp [runsD, PyData.eqv, PyData.eqvAll]
theorem can_ints (l : List Int) : PyData.canLayAll0 (l.map PyData.int) = true := canAll fun d h => by
  obtain ⟨i, _, rfl⟩ := List.mem_map.mp h
  simp only [PyData.canLay0]
theorem dep_ints (l : List Int) : PyData.depthAll (l.map PyData.int) ≤ 0 := depAll fun d h => by
  obtain ⟨i, _, rfl⟩ := List.mem_map.mp h
  simp only [PyData.depth]
  exact Nat.le_refl _
theorem shp_ints (l : List Int) : Shp (.list (l.map .int)) := Bool.and_eq_true_iff.mpr ⟨by simp only [PyData.canLay0]; exact can_ints l, decide_eq_true (by simp only [PyData.depth]; have := dep_ints l; omega)⟩
theorem shp_runs (g : List Seg) : Shp (.list (runsD g)) := by
  refine Bool.and_eq_true_iff.mpr ⟨?_, decide_eq_true ?_⟩
  · simp only [PyData.canLay0]
    refine canAll fun d h => ?_
    obtain ⟨x, _, rfl⟩ := List.mem_map.mp h
    simp only [runD, PyData.canLay0]
    exact can_ints _
  · simp only [PyData.depth]
    have : PyData.depthAll (runsD g) ≤ 1 := depAll fun d h => by
      obtain ⟨x, _, rfl⟩ := List.mem_map.mp h
      simp only [runD, PyData.depth]
      have := dep_ints (sgi x)
      omega
    omega
section
variable {P : Program} {wd : World} {K : PySem.W.Frag} {mg : Str → Option Value} {base : Heap}
def f_runs : FP := fun ds R => ∃ b ns, ds = [b] ∧ seqd b = true ∧ its b = ns.map .int ∧ ns.Nodup ∧ ns.length ≤ 1000 ∧ R (.list (runsD (segs ns)))
theorem ok_l_runs (T : Top wd K mg) : Def P wd K mg base 1 "_law_runs" s_l_runs ["_law_there"] (spP K f_runs) := by
  refine Def.pure T.d_l_runs sc_l_runs (fun ds R h => by obtain ⟨_, _, rfl, _⟩ := h; rfl) (fun f cdv A outer s H G E ds R hG hr h => ?_)
  obtain ⟨b, ns, rfl, hs, he, hnd, hl, q⟩ := h
  refine ⟨_, _, (dss_cons (ds_own 1 sc_l_runs.nd (do_lst da_nil))
      (dss_cons (ds_for PassesOwn.never (by rfl) (di_seq rfl (DO.d (do_sorted rfl (by rfl) T.b_sorted (dp_v 0)))) (dg_name 2 sc_l_runs.nd)
        (dss_one (ds_if (DW.q (dw_and (dt_cmp (o_ne rfl hr.units) (dp_v 1) (DE.p (DO.d (do_lst da_nil)))) (dw_and1 (dt_cmp (o_eq rfl hr.units) (DE.p (de_ix rfl (DE.p (de_ix rfl (dp_v 1) (DE.p (de_neg de_int)))) (DE.p (de_neg de_int)))) (DE.p (de_bin o_sub (dp_v 2) (DE.p de_int))))))) (dss_cons (ds_popTo 3 1 rfl sc_l_runs.nd (pe_bm0 PySem.F.plainAttrs_list PySem.F.slot_list_pop PySem.F.type_list_pop mt_pop (pv 1)))
          (dss_one (ds_app 1 rfl (DO.d (do_catP rfl (dp_v 3) (DE.p (DO.d (do_lst (da_cons (de_v 2) da_nil))))))))) (dss_one (ds_app 1 rfl (DO.d (do_lst (da_cons (de_v 2) da_nil))))))))
      (dss_one (ds_ret (de_pub 1))))), ?_⟩
  have hperm := sortI_perm ns
  have rise := rise_of hnd hperm (sortI_le ns)
  have hseg : segs (sortI ns) = segs ns := segs_eq (hperm.nodup_iff.mpr hnd) hnd fun q => hperm.mem_iff
  have hlk : (sortI ns).length ≤ 1000 := by rw [hperm.length_eq]; exact hl
  generalize hk : sortI ns = ks at *
  refine ⟨Nat.zero_le _, _, b, rfl, rfl, ns, hs, he, rfl, for_by (fun i s2 => ∃ y2 y3, s2 = ⟨[some (.d b), some (.own (runsD (segs (ks.take i)))), y2, y3], 0, []⟩) ⟨none, none, rfl⟩ (fun i d s2 J hi inv hJ => ?_) (fun s2 inv => ?_)⟩
  · obtain ⟨y2, y3, rfl⟩ := inv
    have hi : ((sortI ns).map PyData.int)[i]? = some d := hi
    rw [hk, List.getElem?_map] at hi
    obtain ⟨z, hz, rfl⟩ := Option.map_eq_some_iff.mp hi
    have hstep : segs (ks.take (i + 1)) = runStep (segs (ks.take i)) z := by
      rw [take_snoc hz]
      refine segs_rise (rise.sublist (List.take_sublist _ _)) fun q hq => ?_
      have hh := rise.sublist (List.take_sublist (i + 1) ks)
      rw [take_snoc hz, List.pairwise_append] at hh
      exact hh.2.2 q hq z (by simp)
    rw [hstep] at hJ
    have hlq : (segs (ks.take i)).length ≤ 1000 := by
      have q1 := segs_len (ks.take i)
      rw [List.length_take] at q1
      omega
    have hsz : ∀ x ∈ segs (ks.take i), x.2 + 1 ≤ 1000 := fun x hx => by
      have h7 := size_mem hx
      rw [segs_size, List.length_take] at h7
      omega
    generalize segs (ks.take i) = g at hlq hsz hJ
    repeat walk_at "d"
    refine ⟨Nat.zero_le _, shp_runs _, rfl, _, rfl, ?_⟩
    rw [eqv_nilR]
    rcases List.eq_nil_or_concat g with rfl | ⟨g', x, hg⟩
    · refine iteF (iteF ?_)
      refine ⟨⟨_, rfl⟩, .int z, rfl, (show 1 ≤ 100000 by decide), _, rfl, .list [.int z], rfl, (show 0 < 100000 by decide), ?_⟩
      refine hJ _ ⟨some (.d (.int z)), y3, ?_⟩
      have e2 : runsD (runStep [] z) = [.list [.int z]] := by
        unfold runsD runD runStep
        simp [sgi]
      rw [e2]
      rfl
    · rw [List.concat_eq_append] at hg
      subst hg
      obtain ⟨s0, n0⟩ := x
      have hne : (g' ++ [(s0, n0)]).isEmpty = false := by simp
      rw [hne]
      refine iteT ?_
      have e1 : runsD (g' ++ [(s0, n0)]) = runsD g' ++ [runD (s0, n0)] := by unfold runsD; rw [List.map_append]; rfl
      rw [e1]
      have hlg : (runsD g').length < 1000 := by
        unfold runsD
        rw [List.length_map]
        rw [List.length_append] at hlq
        simp at hlq
        omega
      refine ⟨_, _, rfl, rfl, 1, rfl, -1, _, rfl, rfl, at_last _ _, 1, rfl, -1, _, rfl, rfl, run_last _, _, _, rfl, rfl, _, _, rfl, rfl, shp_int _, shp_int _, _, rfl, ?_⟩
      rw [eqv_int]
      refine ite2 (fun hc => ?_) (fun hc => ?_)
      · have hc' : s0 + (n0 : Int) = z - 1 := of_decide_eq_true hc
        refine ⟨⟨_, rfl⟩, _, rfl, runsD g', runD (s0, n0), rfl, rfl, ?_⟩
        have hn := hsz (s0, n0) (by simp)
        refine ⟨⟨_, rfl⟩, _, _, rfl, rfl, .int z, rfl, (show 1 ≤ 100000 by decide), (sgi (s0, n0)).map .int, [.int z], rfl, rfl, ?_, _, rfl, _, rfl, by omega, ?_⟩
        · rw [List.length_map, sgi_len]
          show n0 + 1 + 1 ≤ 100000
          have : n0 + 1 ≤ 1000 := hn
          omega
        · refine hJ _ ⟨some (.d (.int z)), some (.d (runD (s0, n0))), ?_⟩
          have e3 : runStep (g' ++ [(s0, n0)]) z = g' ++ [(s0, n0 + 1)] := by
            unfold runStep
            rw [getLast_snoc]
            show (if s0 + (n0 : Int) = z - 1 then _ else _) = _
            rw [if_pos hc', List.dropLast_concat]
          have e9 := sgi_snoc s0 n0
          rw [show s0 + (n0 : Int) + 1 = z by omega] at e9
          have e2 : runsD (g' ++ [(s0, n0 + 1)]) = runsD g' ++ [.list ((sgi (s0, n0)).map .int ++ [.int z])] := by
            have e4 : runD (s0, n0 + 1) = .list ((sgi (s0, n0)).map .int ++ [.int z]) := by
              unfold runD
              rw [← e9, List.map_append]
              rfl
            unfold runsD
            rw [List.map_append, ← e4]
            rfl
          rw [e3, e2]
          rfl
      · have hc' : ¬ s0 + (n0 : Int) = z - 1 := fun h => hc (decide_eq_true h)
        refine ⟨⟨_, rfl⟩, .int z, rfl, (show 1 ≤ 100000 by decide), _, rfl, .list [.int z], rfl, ?_, ?_⟩
        · rw [List.length_append]
          simp
          omega
        · refine hJ _ ⟨some (.d (.int z)), y3, ?_⟩
          have e3 : runStep (g' ++ [(s0, n0)]) z = g' ++ [(s0, n0)] ++ [(z, 0)] := by
            unfold runStep
            rw [getLast_snoc]
            show (if s0 + (n0 : Int) = z - 1 then _ else _) = _
            rw [if_neg hc']
          have e2 : runsD (g' ++ [(s0, n0)] ++ [(z, 0)]) = runsD g' ++ [runD (s0, n0)] ++ [.list [.int z]] := by
            unfold runsD runD
            rw [List.map_append, List.map_append]
            simp [sgi]
          rw [e3, e2]
          rfl
  · obtain ⟨y2, y3, rfl⟩ := inv
    have hlen : (its (PyData.list ((sortI ns).map .int))).length = ks.length := by
      show ((sortI ns).map PyData.int).length = _
      rw [hk, List.length_map]
    refine ⟨_, rfl, ?_⟩
    have e3 : ks.take (its (PyData.list ((sortI ns).map .int))).length = ks := by rw [hlen, List.take_length]
    show R (.list (runsD (segs (ks.take _))))
    rw [e3, hseg]
    exact q
end
local macro_rules | `(tactic| walk_at "d") => `(tactic| first
  | refine ⟨_, rfl, ?_⟩ | refine ⟨_, _, rfl, rfl, ?_⟩ | refine iteT ?_ | refine iteF ?_ | refine ⟨_, _, rfl, rfl, rfl, ?_⟩ | refine ⟨rfl, ?_⟩)
theorem eqv_nilL (ds : List PyData) : PyData.eqv (.list ds) (.list []) = ds.isEmpty := by
  cases ds <;> simp [PyData.eqv, PyData.eqvAll]
theorem len_erase : ∀ {l : List Int} {x : Int}, l.Nodup → x ∈ l → (l.filter fun y => decide (y ≠ x)).length + 1 = l.length
  | [], x, _, h => by simp at h
  | y :: l, x, hn, h => by
    rw [List.nodup_cons] at hn
    by_cases e : y = x
    · subst e
      rw [List.filter_cons_of_neg (by simp)]
      have : l.filter (fun z => decide (z ≠ y)) = l := List.filter_eq_self.mpr fun z hz => decide_eq_true fun e => hn.1 (e ▸ hz)
      rw [this]
      rfl
    · rw [List.filter_cons_of_pos (by simp [e])]
      rcases List.mem_cons.mp h with h | h
      · exact absurd h.symm e
      · have := len_erase hn.2 h
        simp only [List.length_cons]
        omega
structure QInv (n i : Nat) (left row : List Int) : Prop where
  nl : left.Nodup
  nr : row.Nodup
  len : left.length + row.length = n
  rl : row.length = i
  dis : ∀ x ∈ left, x ∉ row
  bl : ∀ x ∈ left, 0 ≤ x ∧ x < n
  br : ∀ x ∈ row, 0 ≤ x ∧ x < n
theorem QInv.step {n i : Nat} {left row : List Int} (h : QInv n i left row) {x : Int} (hx : x ∈ left) : QInv n (i + 1) (left.filter fun y => decide (y ≠ x)) (row ++ [x]) := by
  have hl := len_erase h.nl hx
  refine ⟨h.nl.filter _, ?_, ?_, by rw [List.length_append, h.rl]; rfl, fun y hy => ?_, fun y hy => h.bl y ((List.mem_filter.mp hy).1), fun y hy => ?_⟩
  · rw [List.nodup_append]
    refine ⟨h.nr, by simp, fun a ha b hb e => ?_⟩
    rw [List.mem_singleton] at hb
    subst hb
    subst e
    exact h.dis a hx ha
  · have := h.len
    rw [List.length_append, List.length_singleton]
    omega
  · obtain ⟨h1, h2⟩ := List.mem_filter.mp hy
    have : y ≠ x := of_decide_eq_true h2
    rw [List.mem_append, List.mem_singleton, not_or]
    exact ⟨h.dis y h1, this⟩
  · rcases List.mem_append.mp hy with h1 | h1
    · exact h.br y h1
    · rw [List.mem_singleton.mp h1]
      exact h.bl x hx
theorem iota_ints (n : Nat) : iotaD 0 (n : Int) = ((List.range n).map fun (i : Nat) => (i : Int)).map PyData.int := by
  unfold iotaD
  rw [List.map_map, Int.sub_zero, Int.toNat_natCast]
  refine List.map_congr_left fun i _ => ?_
  show PyData.int (0 + (i : Int)) = PyData.int (i : Int)
  rw [Int.zero_add]
theorem QInv.start (n : Nat) : QInv n 0 ((List.range n).map fun (i : Nat) => (i : Int)) [] := by
  refine ⟨?_, List.nodup_nil, by simp, rfl, fun x _ => by simp, fun x hx => ?_, fun x hx => by simp at hx⟩
  · refine List.pairwise_map.mpr (List.nodup_range.imp fun {a b} h e => h ?_)
    exact Int.ofNat.inj e
  · obtain ⟨i, hi, rfl⟩ := List.mem_map.mp hx
    rw [List.mem_range] at hi
    omega
def inR (row : List Int) (y : Int) : Bool := (row.map PyData.int).any fun z => PyData.eqv z (.int y)
def nearF (row : List Int) : PyData → Option PyData
  | .int x => if (inR row (x - 1) || inR row (x + 1)) = true then some (.int x) else none
  | _ => none
def notF (x : Int) : PyData → Option PyData
  | .int y => if y ≠ x then some (.int y) else none
  | _ => none
theorem notF_map (x : Int) : ∀ left : List Int, (left.map PyData.int).filterMap (notF x) = (left.filter fun y => decide (y ≠ x)).map .int
  | [] => rfl
  | y :: l => by
    rw [List.map_cons, List.filterMap_cons, List.filter_cons, notF_map x l]
    by_cases e : y = x
    · simp [e, notF]
    · simp [e, notF]
section
variable {P : Program} {wd : World} {K : PySem.W.Frag} {mg : Str → Option Value} {base : Heap}
def f_queue : FB := fun ds c R => ∃ n m : Nat, ds = [.int n, .int m] ∧ n ≤ 100 ∧ m ≤ n ∧ c ≤ 900000 ∧ ∀ (row : List Int) c', row.Nodup → row.length = m → (∀ x ∈ row, 0 ≤ x ∧ x < n) → c' ≤ c + 1 + 2 * m → R (rowT row) c'
theorem ok_l_queue (T : Top wd K mg) : Def P wd K mg base 3 "_law_queue" s_l_queue ["_law_box_here", "_law_count", "_law_size"] (spB K f_queue) := by
  have g_l_take := ok_l_take (P := P) (base := base) T
  have g_l_of := ok_l_of (P := P) (base := base) T
  refine Def.draws T.d_l_queue sc_l_queue (fun ds c R h => by obtain ⟨_, _, rfl, _⟩ := h; rfl) (fun f cdv A outer s H G l E ds c R hG hr h => ?_)
  obtain ⟨n, m, rfl, hn, hm, hc, q⟩ := h
  refine ⟨_, _, (dss_cons (ds_parT [3, 4, 5] rfl (pg_tup rfl (pgs_cons (pg_name (i := 3) sc_l_queue.nd rfl (.inl rfl)) (pgs_cons (pg_name (i := 4) sc_l_queue.nd rfl (.inr rfl)) (pgs_cons (pg_name (i := 5) sc_l_queue.nd rfl (.inl rfl)) pgs_nil)))) rfl (dx_cons (DE.dx (DO.d (do_listRg (by rfl) (by rfl) T.b_list (by rfl) T.b_range (de_v 1)))) (dx_cons (DO.dx (do_lst da_nil)) (dx_cons (DE.dx (de_cB 0 g_l_take hG (hr.mono (by omega)) (by rfl) (da_cons de_int da_nil))) dx_nil))))
      (dss_cons (ds_for PassesOwn.never (by rfl) (di_rng1 (by rfl) T.b_range (de_v 2)) (dg_name 6 sc_l_queue.nd)
        (dss_cons (ds_setLc 7 (own := [("_law_plot", 8)]) (by rfl) sc_l_queue.nd rfl rfl (sw_true rfl rfl rfl (by decide +kernel)) (di_seq rfl (de_v 3)) (blkOk_by (own := [("_law_plot", 8)]) (N := ["_law_box_here", "_law_count", "_law_size", "_law_left", "_law_found", "_law_near", "_law_spot", "_law_some", "_law_plot"]) (sc := defScope s_l_queue) (by decide +kernel)) (fun _ _ _ _ _ => (dg_name 8 sc_l_queue.nd (hf := by first | exact Or.inr rfl | exact Or.inl rfl))) (ts_one fun _ _ _ _ _ => (DW.q (dw_or (dt_cmp (o_in rfl (u65 hr)) (DE.p (de_bin o_sub (dp_v 8) (DE.p de_int))) (dp_v 4)) (dw_or1 (dt_cmp (o_in rfl (u65 hr)) (DE.p (de_bin o_add (dp_v 8) (DE.p de_int))) (dp_v 4)))))) (fun _ _ _ _ _ => (de_v 8)))
        (dss_cut (ds_set 7 sc_l_queue.nd (de_if (DW.q (dw_and (dt_cmp (o_eq rfl hr.units) (dp_v 5) (DE.p de_int)) (dw_and (dt_cmp (o_ne rfl hr.units) (dp_v 7) (DE.p (DO.d (do_lst da_nil)))) (dw_and1 (dt_cmp o_gt (DE.p (de_cB 0 g_l_take hG (hr.mono (by omega)) (by rfl) (da_cons de_int da_nil))) (DE.p de_int)))))) (de_v 7) (de_v 3)))
        (dss_cons (ds_app 4 rfl (de_cB 0 g_l_of hG (hr.mono (by omega)) (by rfl) (da_cons (de_v 7) da_nil)))
        (dss_one (ds_setLc 3 (own := [("_law_plot", 8)]) (by rfl) sc_l_queue.nd rfl rfl (sw_true rfl rfl rfl (by decide +kernel)) (di_seq rfl (de_v 3)) (blkOk_by (own := [("_law_plot", 8)]) (N := ["_law_box_here", "_law_count", "_law_size", "_law_left", "_law_found", "_law_near", "_law_spot", "_law_some", "_law_plot"]) (sc := defScope s_l_queue) (by decide +kernel)) (fun _ _ _ _ _ => (dg_name 8 sc_l_queue.nd (hf := by first | exact Or.inr rfl | exact Or.inl rfl))) (ts_one fun _ _ _ _ _ => (dt_cmp (o_ne rfl hr.units) (dp_v 8) (DE.p (de_ix rfl (dp_v 4) (DE.p (de_neg de_int)))))) (fun _ _ _ _ _ => (de_v 8))))))))
      (dss_one (ds_ret (de_tupleOf rfl (by rfl) T.b_tuple (dp_v 4)))))), ?_⟩
  refine ⟨_, rfl, n, rfl, by omega, by omega, Nat.zero_le _, rfl, 3, rfl, by decide, by decide, (show c < 1000000 by omega), fun near c1 _ _ hc1 => ⟨rfl, ?_⟩⟩
  refine ⟨.int m, rfl, m, rfl, by omega, by omega, for_by (fun i s2 => ∃ left row y6 y7 y8 c2, s2 = ⟨[some .box, some (.d (.int n)), some (.d (.int m)), some (.d (.list (left.map .int))), some (.own (row.map .int)), some (.d (.int near)), y6, y7, y8], c2, []⟩ ∧ QInv n i left row ∧ c2 ≤ c + 1 + 2 * i) ?_ (fun i d s2 J hi inv hJ => ?_) (fun s2 inv => ?_)⟩
  · have hc1' : c1 ≤ c + 1 := hc1
    refine ⟨_, [], none, none, none, c1, ?_, QInv.start n, by omega⟩
    rw [← iota_ints]
    rfl
  · obtain ⟨left, row, y6, y7, y8, c2, rfl, Qi, hc2⟩ := inv
    obtain ⟨him, rfl⟩ := iota_get hi
    rw [Int.sub_zero, Int.toNat_natCast] at him
    have hll : 1 ≤ left.length := by have := Qi.len; have := Qi.rl; omega
    have hll2 : left.length ≤ 100 := by have := Qi.len; omega
    refine ⟨_, rfl, rfl, lc_by (ds := left.map PyData.int) (nearF row) (show (left.map PyData.int).length ≤ 99999 by rw [List.length_map]; omega) (fun d hd acc J' hacc h1 h0 => ?_) ?_⟩
    · obtain ⟨x, hx, rfl⟩ := List.mem_map.mp hd
      refine ⟨_, _, rfl, rfl, x, 1, rfl, rfl, _, _, rfl, rfl, rfl, shp_int _, shp_ints _, _, rfl, ?_⟩
      show if (false ^^ inR row (x - 1)) = true then _ else _
      rw [Bool.false_xor]
      cases hb : inR row (x - 1) with
      | true =>
        refine iteT ⟨rfl, iteT ⟨_, rfl, rfl, hacc, h1 (.int x) ?_⟩⟩
        show (if (inR row (x - 1) || inR row (x + 1)) = true then some (PyData.int x) else none) = _
        rw [hb]
        rfl
      | false =>
        refine iteF ⟨_, _, rfl, rfl, x, 1, rfl, rfl, _, _, rfl, rfl, rfl, shp_int _, shp_ints _, _, rfl, ?_⟩
        show _ ∧ if (false ^^ inR row (x + 1)) = true then _ else _
        rw [Bool.false_xor]
        cases hb2 : inR row (x + 1) with
        | true =>
          refine ⟨rfl, iteT ⟨_, rfl, rfl, hacc, h1 (.int x) ?_⟩⟩
          show (if (inR row (x - 1) || inR row (x + 1)) = true then some (PyData.int x) else none) = _
          rw [hb, hb2]
          rfl
        | false =>
          refine ⟨rfl, iteF (h0 ?_)⟩
          show (if (inR row (x - 1) || inR row (x + 1)) = true then some (PyData.int x) else none) = _
          rw [hb, hb2]
          rfl
    · -- the houses that may come next
      have hsome : ∀ d ∈ (left.map PyData.int).filterMap (nearF row), ∃ x ∈ left, d = .int x := fun d hd => by
        obtain ⟨e, he, h⟩ := List.mem_filterMap.mp hd
        obtain ⟨x, hx, rfl⟩ := List.mem_map.mp he
        refine ⟨x, hx, ?_⟩
        have h : (if (inR row (x - 1) || inR row (x + 1)) = true then some (PyData.int x) else none) = some d := h
        split at h
        · cases h; rfl
        · cases h
      have hlen := List.length_filterMap_le (nearF row) (left.map PyData.int)
      have hshp : Shp (.list ((left.map PyData.int).filterMap (nearF row))) := by
        refine Bool.and_eq_true_iff.mpr ⟨?_, decide_eq_true ?_⟩
        · simp only [PyData.canLay0]
          refine canAll fun d hd => ?_
          obtain ⟨x, _, rfl⟩ := hsome d hd
          simp only [PyData.canLay0]
        · simp only [PyData.depth]
          have := depAll (n := 0) fun d hd => by
            obtain ⟨x, _, rfl⟩ := hsome d hd
            simp only [PyData.depth]
            exact Nat.le_refl _
          omega
      generalize (left.map PyData.int).filterMap (nearF row) = some1 at hsome hlen hshp ⊢
      rw [List.length_map] at hlen
      have hleft : ∀ d ∈ left.map PyData.int, ∃ x ∈ left, d = .int x := fun d hd => by
        obtain ⟨x, hx, rfl⟩ := List.mem_map.mp hd
        exact ⟨x, hx, rfl⟩
      have hleft1 : 1 ≤ (left.map PyData.int).length := by rw [List.length_map]; exact hll
      have hleft2 : (left.map PyData.int).length ≤ 1000 := by rw [List.length_map]; omega
      have hc3 : c2 < 999990 := by omega
      refine ⟨fun s2 => ∃ ds c3 y8', s2 = ⟨[some .box, some (.d (.int n)), some (.d (.int m)), some (.d (.list (left.map .int))), some (.own (row.map .int)), some (.d (.int near)), some (.d (.int (0 + i))), some (.d (.list ds)), y8'], c3, []⟩ ∧ (∀ d ∈ ds, ∃ x ∈ left, d = .int x) ∧ 1 ≤ ds.length ∧ ds.length ≤ 1000 ∧ c3 ≤ c2 + 1, ?_, fun s2 hP => ?_⟩
      · refine ⟨_, _, rfl, rfl, shp_int _, shp_int _, _, rfl, ite2 (fun e1 => ?_) (fun e1 => iteF ?_)⟩
        · refine ⟨_, _, rfl, rfl, Nat.zero_le _, hshp, rfl, _, rfl, ?_⟩
          rw [eqv_nilL]
          cases hemp : some1.isEmpty with
          | true =>
            refine iteF (iteF ?_)
            exact ⟨_, rfl, left.map .int, c2, _, rfl, hleft, hleft1, hleft2, by omega⟩
          | false =>
            have hs1 : 1 ≤ some1.length := by
              cases some1 with
              | nil => cases hemp
              | cons _ _ => simp
            refine iteT ⟨rfl, 4, rfl, by decide, by decide, (show c2 < 1000000 by omega), fun r c3 r0 r1 hc3' => ⟨r, 0, rfl, rfl, _, rfl, ite2 (fun e2 => ?_) (fun e2 => ?_)⟩⟩
            · exact ⟨_, rfl, some1, c3, _, rfl, hsome, hs1, by omega, hc3'⟩
            · exact ⟨_, rfl, left.map .int, c3, _, rfl, hleft, hleft1, hleft2, hc3'⟩
        · exact ⟨_, rfl, left.map .int, c2, _, rfl, hleft, hleft1, hleft2, by omega⟩
      · obtain ⟨ds, c3, y8', rfl, h1, h2, h3, h4⟩ := hP
        refine ⟨⟨_, rfl⟩, rfl, _, rfl, _, rfl, rfl, h2, h3, (show c3 < 1000000 by omega), fun d c4 hd hc4 => ?_⟩
        obtain ⟨x, hx, rfl⟩ := h1 d hd
        refine ⟨_, rfl, .int x, rfl, ?_, ?_⟩
        · have := Qi.len
          rw [List.length_map]
          omega
        refine ⟨_, rfl, rfl, lc_by (ds := left.map PyData.int) (notF x) (show (left.map PyData.int).length ≤ 99999 by omega) (fun d hd acc J' hacc h1 h0 => ?_) ?_⟩
        · obtain ⟨y, hy, rfl⟩ := List.mem_map.mp hd
          refine ⟨_, _, rfl, rfl, _, _, rfl, rfl, 1, rfl, -1, .int x, rfl, rfl, at_last _ _, shp_int _, shp_int _, _, rfl, ?_⟩
          rw [eqv_int]
          by_cases e : y = x
          · rw [decide_eq_true e]
            exact ⟨rfl, iteF (h0 (if_neg (fun z => z e)))⟩
          · rw [decide_eq_false e]
            exact ⟨rfl, iteT ⟨_, rfl, rfl, hacc, h1 (.int y) (if_pos e)⟩⟩
        · refine hJ _ ⟨left.filter (fun y => decide (y ≠ x)), row ++ [x], some (.d (.int (0 + i))), some (.d (.list ds)), y8', c4, ?_, Qi.step hx, ?_⟩
          · rw [notF_map]
            have e2 : (row ++ [x]).map PyData.int = row.map .int ++ [.int x] := by rw [List.map_append]; rfl
            rw [e2]
            rfl
          · have : c4 ≤ c3 + 1 := hc4
            have : ((i + 1 : Nat) : Int) = (i : Int) + 1 := by omega
            omega
  · obtain ⟨left, row, y6, y7, y8, c2, rfl, Qi, hc2⟩ := inv
    have hlen : (iotaD 0 (m : Int)).length = m := by rw [iota_len, Int.sub_zero, Int.toNat_natCast]
    rw [hlen] at Qi hc2
    exact ⟨_, _, rfl, rfl, rfl, q row c2 Qi.nr Qi.rl Qi.br hc2⟩
end
local macro_rules | `(tactic| walk_at "d") => `(tactic| first
  | refine ⟨_, rfl, ?_⟩ | refine ⟨_, _, rfl, rfl, ?_⟩ | refine iteT ?_ | refine iteF ?_ | refine ⟨_, _, rfl, rfl, rfl, ?_⟩ | refine ⟨rfl, ?_⟩)
def cntsD (row : List Int) (i : Nat) : List PyData := (List.range i).map fun j => .int ((segs (row.take (j + 1))).length : Nat)
def wrdsD (row : List Int) (i : Nat) : List PyData := (List.range i).map fun j => .str (wstr (pick (row.getD j 0) (segs (row.take j))).1)
section
variable {P : Program} {wd : World} {K : PySem.W.Frag} {mg : Str → Option Value} {base : Heap}
def f_seen : FP := fun ds R => ∃ row, ds = [rowT row] ∧ row.Nodup ∧ row.length ≤ 900 ∧ R (.tuple [.list (cntsD row row.length), .list (wrdsD row row.length)])
theorem ok_l_seen (T : Top wd K mg) : Def P wd K mg base 2 "_law_seen" s_l_seen ["_law_queue_here"] (spP K f_seen) := by
  have g_l_runs := ok_l_runs (P := P) (base := base) T
  refine Def.pure T.d_l_seen sc_l_seen (fun ds R h => by obtain ⟨_, rfl, _⟩ := h; rfl) (fun f cdv A outer s H G E ds R hG hr h => ?_)
  obtain ⟨row, rfl, hnd, hl, q⟩ := h
  refine ⟨_, _, (dss_cons (ds_par3 1 2 3 (by rfl) sc_l_seen.nd (dx_cons (DO.dx (do_lst da_nil)) (dx_cons (DO.dx (do_lst da_nil)) (dx_cons (DE.dx de_int) dx_nil))))
      (dss_cons (ds_for PassesOwn.never (by rfl) (di_rng1 (by rfl) T.b_range (de_len rfl (by rfl) T.b_len (dp_v 0))) (dg_name 4 sc_l_seen.nd)
        (dss_cons (ds_app 1 rfl (de_len rfl (by rfl) T.b_len (DE.p (de_c g_l_runs hG (hr.mono (by omega)) (by rfl) (da_cons (de_slT rfl (dp_v 0) do_none (do_some (de_bin o_add (dp_v 4) (DE.p de_int)))) da_nil)))))
        (dss_cons (ds_app 2 rfl (de_dix [(.inl (1), .str "new"), (.inl (0), .str "beside"), (.inl (-1), .str "between")] (hu_of hr) (pe_disp (pps_cons pe_int pe_str (pps_cons pe_int pe_str (pps_cons (pe_un un_neg pe_int) pe_str pps_nil))) (by rfl) (by rfl) (fun z => by cases z) (by decide)) (fun _ _ _ q => ⟨_, rfl, q⟩) (de_bin o_sub (DE.p (de_ix rfl (dp_v 1) (DE.p (de_neg de_int)))) (dp_v 3))))
        (dss_one (ds_set 3 sc_l_seen.nd (de_ix rfl (dp_v 1) (DE.p (de_neg de_int))))))))
      (dss_one (ds_ret (de_tup (da_cons (de_pub 1) (da_cons (de_pub 2) da_nil))))))), ?_⟩
  refine ⟨Nat.zero_le _, Nat.zero_le _, rfl, ?_⟩
  have hlen : (its (rowT row)).length = row.length := by show (row.map PyData.int).length = _; rw [List.length_map]
  refine ⟨_, _, rfl, rfl, row.length, by show some (row.map PyData.int).length = _; rw [List.length_map], _, rfl, by omega, by omega, for_by (fun i s2 => ∃ y4, s2 = ⟨[some (.d (rowT row)), some (.own (cntsD row i)), some (.own (wrdsD row i)), some (.d (.int ((segs (row.take i)).length : Nat))), y4], 0, []⟩) ⟨none, rfl⟩ (fun i d s2 J hi inv hJ => ?_) (fun s2 inv => ?_)⟩
  · obtain ⟨y4, rfl⟩ := inv
    obtain ⟨hi2, rfl⟩ := iota_get hi
    have hi2 : i < row.length := by
      have : i < ((row.length : Int) - 0).toNat := hi2
      omega
    have e3 : row[i]? = some row[i] := List.getElem?_eq_getElem hi2
    have e2 : Dw.cutD (row.map PyData.int) none (some ((0 : Int) + (i : Int) + 1)) = (row.take (i + 1)).map .int := by
      unfold Dw.cutD
      rw [show (0 : Int) + (i : Int) + 1 = ((i + 1 : Nat) : Int) by omega, HT.sIx_none, HT.sIx_nat, List.drop_zero, Nat.sub_zero, List.length_map, Nat.min_eq_left (by omega), List.map_take]
    have ec : cntsD row (i + 1) = cntsD row i ++ [.int ((segs (row.take (i + 1))).length : Nat)] := by
      unfold cntsD
      rw [List.range_succ, List.map_append]
      rfl
    have ew : wrdsD row (i + 1) = wrdsD row i ++ [.str (wstr (pick row[i] (segs (row.take i))).1)] := by
      unfold wrdsD
      rw [List.range_succ, List.map_append]
      have e5 : row.getD i 0 = row[i] := by rw [List.getD_eq_getElem?_getD, e3]; rfl
      simp only [List.map_cons, List.map_nil, e5]
    have hni := hnd.sublist (List.take_sublist (i + 1) row)
    rw [take_snoc e3, List.nodup_append] at hni
    have hp : row[i] ∉ row.take i := fun h => hni.2.2 _ h _ (by simp) rfl
    obtain ⟨lo, hlo⟩ := lower (row.take i)
    obtain ⟨hok, hmem⟩ := segs_ok hni.1 hlo
    have sy := (says hok (fun m => hp ((hmem _).mp m))).len
    have es : segs (row.take (i + 1)) = add row[i] (segs (row.take i)) := by rw [take_snoc e3, segs_snoc]
    rw [← es] at sy
    rw [ec, ew] at hJ
    have hrl : (cntsD row i).length = i := by unfold cntsD; rw [List.length_map, List.length_range]
    have hwl : (wrdsD row i).length = i := by unfold wrdsD; rw [List.length_map, List.length_range]
    refine ⟨⟨_, rfl⟩, _, _, rfl, rfl, _, _, rfl, rfl, _, 1, rfl, rfl, _, rfl, row.map .int, rfl, ?_⟩
    rw [e2]
    refine ⟨_, row.take (i + 1), rfl, rfl, rfl, hnd.sublist (List.take_sublist _ _), by rw [List.length_take]; omega, (segs (row.take (i + 1))).length, by show some (runsD (segs (row.take (i + 1)))).length = _; unfold runsD; rw [List.length_map], _, rfl, _, rfl, (show (cntsD row i).length < 100000 by omega), ?_⟩
    generalize pick row[i] (segs (row.take i)) = ch at sy hJ
    have hlook : lookD [(.inl 1, .str "new"), (.inl 0, .str "beside"), (.inl (-1), .str "between")] (.inl ((((segs (row.take (i + 1))).length : Nat) : Int) - ((segs (row.take i)).length : Nat))) = some (.str (wstr ch.1)) := by
      have : (((segs (row.take (i + 1))).length : Nat) : Int) - ((segs (row.take i)).length : Nat) = ch.1.step := by omega
      rw [this]
      cases ch.1 <;> rfl
    refine ⟨⟨_, rfl⟩, _, _, rfl, rfl, 1, rfl, -1, _, rfl, rfl, at_last _ _, _, _, rfl, rfl, _, _, rfl, rfl, _, _, rfl, hlook, _, rfl, _, rfl, (show (wrdsD row i).length < 100000 by omega), ?_⟩
    exact ⟨_, _, rfl, rfl, 1, rfl, -1, _, rfl, rfl, at_last _ _, hJ _ ⟨_, rfl⟩⟩
  · obtain ⟨y4, rfl⟩ := inv
    have e1 : (iotaD 0 ((row.length : Nat) : Int)).length = row.length := by
      unfold iotaD
      rw [List.length_map, List.length_range]
      omega
    rw [e1]
    exact ⟨_, rfl, _, rfl, (show 2 ≤ 100000 by decide), q⟩
end
local macro_rules | `(tactic| walk_at "s2") => `(tactic| simp only [wPubO, wC, wV, wPub, wP, wCons, wTup, wLst, wL, w2, wTest, wChain, wAnd, wOr, Dw.wNot, wAndV, wOrV, wNotV, wIf, Dw.wTru, truD, gI0, gI, gEq, gNe, gIn, gIsN, gNotN, gIsB, gNotB, gCatT, gCatS, gIx, wCat, wRep, w1, w1O, gLen, gTupleOf, gListOf, wRg1, gInt, gStr, w2a, wSlT, wSlL, wSlS, wRevT, wNeg, wCall, wCallB, wName, wGNil_n, wGCons_c, wGTup, wSeq, wRng1, wEnum, wZip, wNext, wSq, wRet, wIfS, wDrop, wAsg, wOwn, wAug, wMeth, fAppend, wFor_eq, wWhile_eq, wipeD, wLc_eq, Dw.wNm, wPar, wGix, wDix, wCatP, wPopTo, fPop, fPopAt, fIns, wSetIx, gRepr, gMinT, gNeS, gRepN, wDGet2, wDPut, wTPut, wTGet, gSrtR, gSrtA, gLtP, wSlB, wStar, wRaise, wNmX, wXat, wXis, gEqS, wYd, wYdic, wYfn, wYg, wCallD, wCallV, wSetN, wDcT, wTGet2, wTGet1, dicAt, wRng2, wRngD, wRevR, gRevL, wAugIx, wPeekO, wPick2, wExt, fRem, look_d, look_own, shpI, shpB, shpN, shpS, seqT, seqL, itsT, itsL, lenT, lenL, okFF, eqv_str, eqv_int, eqv_bool, isNone, perm, Dt.set, Dt.sets, env0, List.map_cons, List.map_nil, List.cons_append, List.nil_append, List.getElem?_cons_zero, List.getElem?_cons_succ, List.set_cons_succ, List.set_cons_zero, List.filterMap_cons, List.filterMap_nil, Option.some.injEq, DV.d.injEq, DV.own.injEq, DV.dit.injEq, DV.dd.injEq, DV.oth.injEq, reduceCtorEq, false_or, or_false, false_and, and_false, exists_false, PyData.int.injEq, PyData.bool.injEq, PyData.str.injEq, PyData.tuple.injEq, PyData.list.injEq, List.cons.injEq, exists_eq_left, exists_eq_left', exists_eq_right, exists_eq_right', exists_and_left, exists_eq', exists_eq, and_true, true_and, and_self, and_assoc, List.length_cons, List.length_nil, List.replicate, Nat.reduceAdd, Nat.reduceSub, Nat.reduceLeDiff, Nat.zero_le, decide_eq_true_eq, Bool.not_eq_true', decide_eq_false_iff_not, ite_true, ite_false, if_true, if_false, Bool.false_eq_true, Bool.true_eq_false, eq_self, List.reduceReplicate, Bool.not_true, Bool.not_false, reduceIte])
def vOrd : NV → Nat
  | .g _ => 0
  | .h _ => 1
def nLt (x y : Nt) : Prop := x.t < y.t ∨ (x.t = y.t ∧ vOrd x.v < vOrd y.v)
/-- notes that are true for a row, as they ascend -/
structure Sn (row : List Int) (k : Nat) (xs : List Nt) : Prop where
  tru : ∀ x ∈ xs, x.t < k ∧ truV row x.t x.v = x.v
  rise : xs.Pairwise nLt
  len : xs.length ≤ 2 * k
theorem cnts_at {row : List Int} {t : Nat} (h : t < row.length) : atI (cntsD row row.length) (t : Int) = some (.int ((segs (row.take (t + 1))).length : Nat)) := by
  unfold cntsD
  rw [at_nat (by rw [List.length_map, List.length_range]; exact h), List.getElem?_map, List.getElem?_eq_getElem (by rw [List.length_range]; exact h), List.getElem_range]
  rfl
theorem wrds_at {row : List Int} {t : Nat} (h : t < row.length) : atI (wrdsD row row.length) (t : Int) = some (.str (wstr ((picks row)[t]?.getD (.new, 0)).1)) := by
  unfold wrdsD
  rw [at_nat (by rw [List.length_map, List.length_range]; exact h), List.getElem?_map, List.getElem?_eq_getElem (by rw [List.length_range]; exact h), List.getElem_range, picks_get (List.getElem?_eq_getElem h)]
  show some (PyData.str (wstr (pick (row.getD t 0) (segs (row.take t))).1)) = _
  rw [List.getD_eq_getElem?_getD, List.getElem?_eq_getElem h]
  rfl
theorem snoc_rise {xs : List Nt} {x : Nt} (h : xs.Pairwise nLt) (hx : ∀ y ∈ xs, nLt y x) : (xs ++ [x]).Pairwise nLt :=
  List.pairwise_append.mpr ⟨h, List.pairwise_singleton _ _, fun a ha b hb => by rw [List.mem_singleton.mp hb]; exact hx a ha⟩
section
variable {P : Program} {wd : World} {K : PySem.W.Frag} {mg : Str → Option Value} {base : Heap}
def f_notes : FB := fun ds c R => ∃ row, ds = [rowT row] ∧ row.Nodup ∧ row.length ≤ 20 ∧ c ≤ 900000 ∧ ∀ (xs : List Nt) c', Sn row row.length xs → c' ≤ c + 1 + 2 * row.length → R (.tuple (xs.map ntD)) c'
theorem ok_l_notes (T : Top wd K mg) : Def P wd K mg base 3 "_law_notes" s_l_notes ["_law_box_here", "_law_queue_here"] (spB K f_notes) := by
  have g_l_take := ok_l_take (P := P) (base := base) T
  have g_l_seen := ok_l_seen (P := P) (base := base) T
  refine Def.draws T.d_l_notes sc_l_notes (fun ds c R h => by obtain ⟨_, rfl, _⟩ := h; rfl) (fun f cdv A outer s H G l E ds c R hG hr h => ?_)
  obtain ⟨row, rfl, hnd, hl, hc, q⟩ := h
  refine ⟨_, _, (dss_cons (ds_par2 2 3 (by rfl) sc_l_notes.nd (dx_cons (DO.dx (do_lst da_nil)) (dx_cons (DE.dx (de_bin o_add (DE.p de_int) (DE.p (de_cB 0 g_l_take hG (hr.mono (by omega)) (by rfl) (da_cons de_int da_nil))))) dx_nil)))
      (dss_cons (ds_asg (de_c g_l_seen hG (hr.mono (by omega)) (by rfl) (da_cons (de_v 1) da_nil)) (dg_tup (n := 2) rfl (by rfl) (dgs_c (dg_name 4 sc_l_notes.nd) (dgs_c (dg_name 5 sc_l_notes.nd) dgs_nil))))
      (dss_cons (ds_for PassesOwn.never (by rfl) (di_rng1 (by rfl) T.b_range (de_len rfl (by rfl) T.b_len (dp_v 1))) (dg_name 6 sc_l_notes.nd)
        (dss_cut (ds_if (dt_cmp o_lt (DE.p (de_cB 0 g_l_take hG (hr.mono (by omega)) (by rfl) (da_cons de_int da_nil))) (dp_v 3)) (dss_one (ds_app 2 rfl (de_tup (da_cons (de_v 6) (da_cons de_str (da_cons (de_ix rfl (dp_v 4) (dp_v 6)) da_nil)))))) dss_nil)
        (dss_one (ds_if (dt_cmp (o_eq rfl hr.units) (DE.p (de_cB 0 g_l_take hG (hr.mono (by omega)) (by rfl) (da_cons de_int da_nil))) (DE.p de_int)) (dss_one (ds_app 2 rfl (de_tup (da_cons (de_v 6) (da_cons de_str (da_cons (de_ix rfl (dp_v 5) (dp_v 6)) da_nil)))))) dss_nil))))
      (dss_one (ds_ret (de_tupleOf rfl (by rfl) T.b_tuple (dp_v 2))))))), ?_⟩
  walk_at "s2"
  refine ⟨4, rfl, by decide, by decide, (show c < 1000000 by omega), fun r c1 _ _ hc1 => ?_⟩
  have hc1 : c1 ≤ c + 1 := hc1
  walk_at "s2"
  refine ⟨row, rfl, hnd, by omega, ?_⟩
  walk_at "s2"
  have hlr : lenD (rowT row) = some row.length := by show some (row.map PyData.int).length = _; rw [List.length_map]
  refine ⟨row.length, hlr, by omega, by omega, ?_⟩
  refine forD_by (fun i s2 => ∃ xs y6 c2, s2 = ⟨[some .box, some (.d (rowT row)), some (.own (xs.map ntD)), some (.d (.int (1 + r))), some (.d (.list (cntsD row row.length))), some (.d (.list (wrdsD row row.length))), y6], c2, []⟩ ∧ Sn row i xs ∧ c2 ≤ c + 1 + 2 * (i : Nat)) ⟨[], none, c1, rfl, ⟨fun x h => by simp at h, .nil, by simp⟩, by omega⟩ (fun i d s2 J hi inv hJ => ?_) (fun s2 inv => ?_)
  · obtain ⟨xs, y6, c2, rfl, hS, hc2⟩ := inv
    obtain ⟨hi2, rfl⟩ := iota_get hi
    have hi2 : i < row.length := by
      have : i < ((row.length : Int) - 0).toNat := hi2
      omega
    have ec := cnts_at hi2
    have ew := wrds_at hi2
    have hxl := hS.len
    rw [Int.zero_add]
    refine ⟨fun s3 => ∃ xs : List Nt, ∃ c3, s3 = ⟨[some .box, some (.d (rowT row)), some (.own (xs.map ntD)), some (.d (.int (1 + r))), some (.d (.list (cntsD row row.length))), some (.d (.list (wrdsD row row.length))), some (.d (.int (i : Int)))], c3, []⟩ ∧ (∀ x ∈ xs, (x.t < i ∨ x.t = i ∧ vOrd x.v = 0) ∧ truV row x.t x.v = x.v) ∧ xs.Pairwise nLt ∧ xs.length ≤ 2 * i + 1 ∧ c3 ≤ c + 1 + 2 * (i : Nat) + 1, ?_, ?_⟩
    · walk_at "s2"
      refine ⟨5, rfl, by decide, by decide, (show c2 < 1000000 by omega), fun r2 c3 _ _ hc3 => ?_⟩
      have hc3 : c3 ≤ c2 + 1 := hc3
      walk_at "s2"
      by_cases hd : r2 < 1 + r
      · rw [if_pos hd]
        refine ⟨_, ec, (show (xs.map ntD).length < 100000 by rw [List.length_map]; omega), ?_⟩
        refine ⟨xs ++ [⟨i, .g (segs (row.take (i + 1))).length⟩], c3, by rw [List.map_append]; rfl, fun x hx => ?_, snoc_rise hS.rise fun y hy => .inl (hS.tru y hy).1, by rw [List.length_append]; show xs.length + 1 ≤ _; omega, by omega⟩
        rcases List.mem_append.mp hx with hx | hx
        · exact ⟨.inl (hS.tru x hx).1, (hS.tru x hx).2⟩
        · rw [List.mem_singleton.mp hx]
          exact ⟨.inr ⟨rfl, rfl⟩, rfl⟩
      · rw [if_neg hd]
        exact ⟨xs, c3, rfl, fun x hx => ⟨.inl (hS.tru x hx).1, (hS.tru x hx).2⟩, hS.rise, by omega, by omega⟩
    · rintro s3 ⟨xs, c3, rfl, ht, hri, hxl, hc3⟩
      walk_at "s2"
      refine ⟨6, rfl, by decide, by decide, (show c3 < 1000000 by omega), fun r2 c4 _ _ hc4 => ?_⟩
      have hc4 : c4 ≤ c3 + 1 := hc4
      walk_at "s2"
      by_cases hd : r2 = 0
      · rw [if_pos hd]
        refine ⟨_, ew, (show (xs.map ntD).length < 100000 by rw [List.length_map]; omega), hJ _ ⟨xs ++ [⟨i, .h ((picks row)[i]?.getD (.new, 0)).1⟩], _, c4, by rw [List.map_append]; rfl, ⟨fun x hx => ?_, snoc_rise hri fun y hy => ?_, by rw [List.length_append]; show xs.length + 1 ≤ _; omega⟩, by omega⟩⟩
        · rcases List.mem_append.mp hx with hx | hx
          · exact ⟨by rcases (ht x hx).1 with h | h <;> omega, (ht x hx).2⟩
          · rw [List.mem_singleton.mp hx]
            exact ⟨Nat.lt_succ_self i, rfl⟩
        · rcases (ht y hy).1 with h | h
          · exact .inl h
          · exact .inr ⟨h.1, by rw [h.2]; exact Nat.zero_lt_one⟩
      · rw [if_neg hd]
        exact hJ _ ⟨xs, _, c4, rfl, ⟨fun x hx => ⟨by rcases (ht x hx).1 with h | h <;> omega, (ht x hx).2⟩, hri, by omega⟩, by omega⟩
  · obtain ⟨xs, y6, c2, rfl, hS, hc2⟩ := inv
    have e1 : (iotaD 0 ((row.length : Nat) : Int)).length = row.length := by
      unfold iotaD
      rw [List.length_map, List.length_range]
      omega
    rw [e1] at hS hc2
    walk_at "s2"
    exact q xs c2 hS hc2
def bkT (p T : Nat) (xs : List Nt) : PyData := .tuple [.int (p : Nat), .int (T : Nat), .tuple (xs.map ntD)]
def f_story : FB := fun ds c R => ∃ m : Nat, ds = [.int m] ∧ m ≤ 20 ∧ c ≤ 810000 ∧ ∀ (row : List Int) (n k : Nat) (xs : List Nt) c', k ≤ n → n ≤ m → OgM.Row (n : Nat) row → row.length = k → Sn row k xs → c' ≤ c + 100 → R (.tuple [rowT row, bkT n k xs]) c'
theorem ok_l_story (T : Top wd K mg) : Def P wd K mg base 4 "_law_story" s_l_story ["_law_box_here", "_law_most"] (spB K f_story) := by
  have g_l_take := ok_l_take (P := P) (base := base) T
  have g_l_queue := ok_l_queue (P := P) (base := base) T
  have g_l_notes := ok_l_notes (P := P) (base := base) T
  refine Def.draws T.d_l_story sc_l_story (fun ds c R h => by obtain ⟨_, rfl, _⟩ := h; rfl) (fun f cdv A outer s H G l E ds c R hG hr h => ?_)
  obtain ⟨m, rfl, hm, hc, q⟩ := h
  refine ⟨_, _, (dss_cons (ds_set 2 sc_l_story.nd (de_cB 0 g_l_take hG (hr.mono (by omega)) (by rfl) (da_cons (de_bin o_add (dp_v 1) (DE.p de_int)) da_nil)))
      (dss_cut (ds_set 3 sc_l_story.nd (de_if (dt_cmp (o_eq rfl hr.units) (DE.p (de_cB 0 g_l_take hG (hr.mono (by omega)) (by rfl) (da_cons de_int da_nil))) (DE.p de_int)) (de_v 2) (de_cB 0 g_l_take hG (hr.mono (by omega)) (by rfl) (da_cons (de_bin o_add (dp_v 2) (DE.p de_int)) da_nil))))
      (dss_cons (ds_set 4 sc_l_story.nd (de_cB 0 g_l_queue hG (hr.mono (by omega)) (by rfl) (da_cons (de_v 2) (da_cons (de_v 3) da_nil))))
      (dss_one (ds_ret (de_tup (da_cons (de_v 4) (da_cons (de_tup (da_cons (de_v 2) (da_cons (de_v 3) (da_cons (de_cB 0 g_l_notes hG (hr.mono (by omega)) (by rfl) (da_cons (de_v 4) da_nil)) da_nil)))) da_nil)))))))), ?_⟩
  walk_at "s2"
  refine ⟨_, rfl, by omega, by omega, (show c < 1000000 by omega), fun n0 c1 h0 h1 hc1 => ?_⟩
  have hc1 : c1 ≤ c + 1 := hc1
  obtain ⟨n, rfl⟩ : ∃ n : Nat, n0 = n := ⟨n0.toNat, by omega⟩
  refine ⟨fun s3 => ∃ k : Nat, ∃ c3, k ≤ n ∧ s3 = ⟨[some .box, some (.d (.int (m : Nat))), some (.d (.int (n : Nat))), some (.d (.int (k : Nat))), none], c3, []⟩ ∧ c3 ≤ c + 3, ?_, ?_⟩
  · walk_at "s2"
    refine ⟨3, rfl, by decide, by decide, (show c1 < 1000000 by omega), fun r2 c2 _ _ hc2 => ?_⟩
    have hc2 : c2 ≤ c1 + 1 := hc2
    walk_at "s2"
    by_cases hd : r2 = 0
    · rw [if_pos hd]
      exact ⟨n, Nat.le_refl _, c2, rfl, by omega⟩
    · rw [if_neg hd]
      refine ⟨_, rfl, by omega, by omega, (show c2 < 1000000 by omega), fun r3 c3 h3 h4 hc3 => ?_⟩
      have hc3 : c3 ≤ c2 + 1 := hc3
      exact ⟨r3.toNat, by omega, c3, by rw [Int.toNat_of_nonneg h3], by omega⟩
  · rintro s3 ⟨k, c3, hk, rfl, hc3⟩
    walk_at "s2"
    refine ⟨n, k, rfl, by omega, hk, (show c3 ≤ 900000 by omega), fun row c4 hnd hrl hrb hc4 => ?_⟩
    have hc4 : c4 ≤ c3 + 1 + 2 * k := hc4
    walk_at "s2"
    refine ⟨row, rfl, hnd, by omega, by omega, fun xs c5 hS hc5 => ?_⟩
    have hR : OgM.Row (n : Nat) row := ⟨hnd, fun p hp => (hrb p hp).1, fun p hp => (hrb p hp).2⟩
    rw [hrl] at hS hc5
    walk_at "s2"
    exact q row n k xs c5 hk (by omega) hR hrl hS (by omega)
end
local macro_rules | `(tactic| walk_at "d") => `(tactic| first
  | refine ⟨_, rfl, ?_⟩ | refine ⟨_, _, rfl, rfl, ?_⟩ | refine iteT ?_ | refine iteF ?_ | refine ⟨_, _, rfl, rfl, rfl, ?_⟩ | refine ⟨rfl, ?_⟩)
abbrev NT := Int × Str × PyData
def nD (n : NT) : PyData := .tuple [.int n.1, .str n.2.1, n.2.2]
def hD (n : NT) : PyData := .tuple [.int n.1, .str n.2.1]
structure NOk (n : NT) : Prop where
  t : n.1.natAbs ≤ 1000
  s : FlB (.str n.2.1)
  v : FlB n.2.2
  al : PySem.W.alikeAll [n.2.2] [n.2.2] = true
  nt : ∃ x : Nt, n = (((x.t : Nat) : Int), sortS x.v, valD x.v)
  b : ∀ i : Int, n.2.2 = .int i → i.natAbs ≤ 1000
def BkD (c z : PyData) (ns : List NT) : PyData := .tuple [c, z, .tuple (ns.map nD)]
theorem rowD_n {n : NT} (h : NOk n) : RowD (nD n) := ⟨n.1, n.2.1, [n.2.2], rfl, h.al, by simp only [PyData.depthAll]; rw [(FlB.can h.v).2]; rfl⟩
theorem rows_ok {ns : List NT} (h1 : ∀ n ∈ ns, NOk n) (h2 : ∀ n ∈ ns, ∀ m ∈ ns, n.1 = m.1 → n.2.1 = m.2.1 → n = m) : RowsOk (ns.map nD) := by
  refine ⟨fun d hd => ?_, fun d hd e he q => ?_⟩
  · obtain ⟨n, hn, rfl⟩ := List.mem_map.mp hd
    exact rowD_n (h1 n hn)
  · obtain ⟨n, hn, rfl⟩ := List.mem_map.mp hd
    obtain ⟨m, hm, rfl⟩ := List.mem_map.mp he
    have q : PyData.tuple [.int n.1, .str n.2.1] = .tuple [.int m.1, .str m.2.1] := q
    simp only [PyData.tuple.injEq, List.cons.injEq, PyData.int.injEq, PyData.str.injEq, and_true] at q
    rw [h2 n hn m hm q.1 q.2]
local macro_rules | `(tactic| walk_at "d") => `(tactic| first
  | refine ⟨_, rfl, ?_⟩ | refine ⟨_, _, rfl, rfl, ?_⟩ | refine iteT ?_ | refine iteF ?_ | refine ⟨_, _, rfl, rfl, rfl, ?_⟩ | refine ⟨rfl, ?_⟩)
/-- notes with ok parts, told apart by their heads -/
structure NU (ns : List NT) : Prop where
  ok : ∀ n ∈ ns, NOk n
  uni : ∀ n ∈ ns, ∀ m ∈ ns, n.1 = m.1 → n.2.1 = m.2.1 → n = m
  nd : ns.Nodup
theorem NU.nil : NU [] := ⟨fun n h => by simp at h, fun n h => by simp at h, List.nodup_nil⟩
def WdS (z : Str) : Prop := ∃ w : Wd, z = wstr w
theorem flb_s (w : Wd) : FlB (.str (wstr w)) := by cases w <;> exact ⟨sok _, by decide +kernel⟩
theorem nok_g {t i : Int} (h1 : 0 ≤ t ∧ t ≤ 1000) (h2 : 0 ≤ i ∧ i ≤ 1000) : NOk (t, "groups", .int i) :=
  ⟨by show t.natAbs ≤ 1000; omega, ⟨sok "groups", (show (reprText "groups").length ≤ 400 by decide +kernel)⟩, by show i.natAbs ≤ _; omega, rfl, ⟨⟨t.toNat, .g i.toNat⟩, by
    show (t, (_ : Str), PyData.int i) = (((t.toNat : Nat) : Int), (_ : Str), PyData.int ((i.toNat : Nat) : Int))
    rw [Int.toNat_of_nonneg h1.1, Int.toNat_of_nonneg h2.1]
    rfl⟩, fun j e => by
      have e : PyData.int i = .int j := e
      injection e with e
      omega⟩
theorem flb_w (w : Wd) : WdS (wstr w) := ⟨w, rfl⟩
theorem nok_h {t : Int} {z : Str} (h1 : 0 ≤ t ∧ t ≤ 1000) (h2 : WdS z) : NOk (t, "house", .str z) := by
  obtain ⟨w, rfl⟩ := h2
  refine ⟨by show t.natAbs ≤ 1000; omega, ⟨sok "house", (show (reprText "house").length ≤ 400 by decide +kernel)⟩, flb_s w, rfl, ⟨⟨t.toNat, .h w⟩, ?_⟩, fun j e => (by cases e)⟩
  show (t, (_ : Str), PyData.str (wstr w)) = (((t.toNat : Nat) : Int), (_ : Str), PyData.str (wstr w))
  rw [Int.toNat_of_nonneg h1.1]
  rfl
local macro_rules | `(tactic| walk_at "d") => `(tactic| first
  | refine ⟨_, rfl, ?_⟩ | refine ⟨_, _, rfl, rfl, ?_⟩ | refine iteT ?_ | refine iteF ?_ | refine ⟨_, _, rfl, rfl, rfl, ?_⟩ | refine ⟨rfl, ?_⟩)
def kvN (n : NT) : List Key × PyData := ([.inl n.1, .inr n.2.1], n.2.2)
theorem key_iff (m n : NT) : (kvN m).1 = (kvN n).1 ↔ m.1 = n.1 ∧ m.2.1 = n.2.1 := by
  unfold kvN
  constructor
  · intro h
    have h1 := (List.cons.inj h).1
    have h2 := (List.cons.inj (List.cons.inj h).2).1
    exact ⟨Sum.inl.inj h1, Sum.inr.inj h2⟩
  · rintro ⟨h1, h2⟩
    rw [h1, h2]
def putN (ns : List NT) (n : NT) : List NT := if (ns.any fun m => decide ((kvN m).1 = (kvN n).1)) = true then ns.map (fun m => if (kvN m).1 = (kvN n).1 then n else m) else ns ++ [n]
theorem put_kv (ns : List NT) (n : NT) : putG (ns.map kvN) (kvN n).1 n.2.2 = (putN ns n).map kvN := by
  unfold putG putN
  have e : ((ns.map kvN).any fun kd => decide (kd.1 = (kvN n).1)) = (ns.any fun m => decide ((kvN m).1 = (kvN n).1)) := by rw [List.any_map]; rfl
  rw [e]
  split
  · rw [List.map_map, List.map_map]
    refine List.map_congr_left fun m _ => ?_
    show (if (kvN m).1 = (kvN n).1 then ((kvN m).1, n.2.2) else kvN m) = kvN (if (kvN m).1 = (kvN n).1 then n else m)
    by_cases h : (kvN m).1 = (kvN n).1
    · rw [if_pos h, if_pos h, h]
      rfl
    · rw [if_neg h, if_neg h]
  · rw [List.map_append]
    rfl
theorem putN_mem {ns : List NT} {n x : NT} (h : x ∈ putN ns n) : x = n ∨ x ∈ ns ∧ (kvN x).1 ≠ (kvN n).1 := by
  unfold putN at h
  split at h
  · obtain ⟨m, hm, e⟩ := List.mem_map.mp h
    by_cases hq : (kvN m).1 = (kvN n).1
    · rw [if_pos hq] at e
      exact .inl e.symm
    · rw [if_neg hq] at e
      subst e
      exact .inr ⟨hm, hq⟩
  · rename_i hn
    rcases List.mem_append.mp h with h | h
    · refine .inr ⟨h, fun e => hn ?_⟩
      exact List.any_eq_true.mpr ⟨x, h, decide_eq_true e⟩
    · exact .inl (List.mem_singleton.mp h)
theorem NU.put {ns : List NT} {n : NT} (h : NU ns) (hn : NOk n) : NU (putN ns n) := by
  refine ⟨fun x hx => ?_, fun x hx y hy a b => ?_, ?nd⟩
  case nd =>
    unfold putN
    split
    · unfold List.Nodup
      rw [List.pairwise_map]
      refine h.nd.imp_of_mem fun {a b} ha hb hab => ?_
      by_cases q1 : (kvN a).1 = (kvN n).1
      · by_cases q2 : (kvN b).1 = (kvN n).1
        · obtain ⟨e1, e2⟩ := (key_iff a b).mp (q1.trans q2.symm)
          exact absurd (h.uni a ha b hb e1 e2) hab
        · rw [if_pos q1, if_neg q2]
          exact fun z => q2 (by rw [← z])
      · by_cases q2 : (kvN b).1 = (kvN n).1
        · rw [if_neg q1, if_pos q2]
          exact fun z => q1 (by rw [z])
        · rw [if_neg q1, if_neg q2]
          exact hab
    · rename_i hn2
      refine List.nodup_append.mpr ⟨h.nd, by simp, fun a ha b hb e => hn2 ?_⟩
      rw [List.mem_singleton.mp hb] at e
      exact List.any_eq_true.mpr ⟨a, ha, decide_eq_true (by rw [e])⟩
  · rcases putN_mem hx with rfl | ⟨hx, _⟩
    · exact hn
    · exact h.ok x hx
  · rcases putN_mem hx with hx | ⟨hx, n1⟩
    · rcases putN_mem hy with hy | ⟨hy, n2⟩
      · rw [hx, hy]
      · exact absurd ((key_iff y n).mpr (by rw [← hx]; exact ⟨a.symm, b.symm⟩)) n2
    · rcases putN_mem hy with hy | ⟨hy, n2⟩
      · exact absurd ((key_iff x n).mpr (by rw [← hy]; exact ⟨a, b⟩)) n1
      · exact h.uni x hx y hy a b
theorem putN_len (ns : List NT) (n : NT) : (putN ns n).length ≤ ns.length + 1 := by
  unfold putN
  split
  · rw [List.length_map]
    omega
  · rw [List.length_append]
    exact Nat.le_refl _
theorem look_kv {ns : List NT} {n : NT} (h : NU ns) (hn : n ∈ ns) : lookG (ns.map kvN) (kvN n).1 = some n.2.2 := by
  unfold lookG
  rw [List.find?_map]
  have : (ns.find? ((fun kd : List Key × PyData => decide (kd.1 = (kvN n).1)) ∘ kvN)).isSome = true := List.find?_isSome.mpr ⟨n, hn, decide_eq_true rfl⟩
  obtain ⟨m, hm⟩ := Option.isSome_iff_exists.mp this
  have hp := List.find?_some hm
  have hp : decide ((kvN m).1 = (kvN n).1) = true := hp
  have h1 := of_decide_eq_true hp
  have h2 := List.mem_of_find?_eq_some hm
  obtain ⟨a, b⟩ := (key_iff m n).mp h1
  rw [hm, h.uni m h2 n hn a b]
  rfl
def gN : PyData → NT
  | .tuple [.int t, .str s, v] => (t, s, v)
  | _ => (0, "", .none)
theorem perm_n {l : List PyData} {ns : List NT} (h : l.Perm (ns.map nD)) : ∃ ns' : List NT, l = ns'.map nD ∧ ns'.Perm ns := by
  refine ⟨l.map gN, ?_, ?_⟩
  · rw [List.map_map]
    have : ∀ d ∈ l, (nD ∘ gN) d = d := fun d hd => by
      obtain ⟨n, _, rfl⟩ := List.mem_map.mp (h.mem_iff.mp hd)
      rfl
    exact (List.map_congr_left this |>.trans (List.map_id l)).symm
  · have := h.map gN
    rw [List.map_map] at this
    have e : ns.map (gN ∘ nD) = ns := by
      have : (gN ∘ nD) = id := funext fun n => rfl
      rw [this, List.map_id]
    rw [e] at this
    exact this
theorem NU.perm {ns ns' : List NT} (h : NU ns) (p : ns'.Perm ns) : NU ns' := ⟨fun n hn => h.ok n (p.mem_iff.mp hn), fun n hn m hm => h.uni n (p.mem_iff.mp hn) m (p.mem_iff.mp hm), p.nodup_iff.mpr h.nd⟩
theorem lcK_map {i0 : Nat} {g : WG} {te : WE} {vs : List Nat} {s : Dt} {Q : List PyData → Dt → Prop} {kvs : List (List Key × PyData)} (f : PyData → PyData) (e0 : s.env[i0]? = some (some (.dit kvs))) (nd : noDD s.env = true) (hl : kvs.length ≤ 99999)
    (h : ∀ d ∈ kvs.map keyT, ∀ (acc : List PyData) (J : List PyData → Cs → Prop), acc.length < 100000 → J (acc ++ [f d]) s.c → g d ⟨wipeD (s.env.set i0 (some (.dd kvs))) vs, s.c⟩ fun s2 => te s2 fun y s4 => s4.env = s2.env ∧ acc.length < 100000 ∧ J (acc ++ [y]) s4.c) (q : Q ((kvs.map keyT).map f) s) :
    wLcK i0 g (fun s Q => Q true s) te vs s Q :=
  ⟨kvs, e0, nd, lc_map (Q := fun acc s' => Q acc ⟨s.env, s'.c⟩) (env := s.env.set i0 (some (.dd kvs))) (c := s.c) f (by rw [List.length_map]; exact hl) h q⟩
def fK (ms : List NT) : PyData → PyData
  | .tuple [.int t, .str s] => .tuple [.int t, .str s, (lookG (ms.map kvN) [.inl t, .inr s]).getD .none]
  | _ => .none
theorem fK_map {ms : List NT} (h : NU ms) : (((ms.map kvN).map keyT).map (fK ms)) = ms.map nD := by
  rw [List.map_map, List.map_map]
  refine List.map_congr_left fun m hm => ?_
  show PyData.tuple [.int m.1, .str m.2.1, (lookG (ms.map kvN) (kvN m).1).getD .none] = nD m
  rw [look_kv h hm]
  rfl
section
variable {P : Program} {wd : World} {K : PySem.W.Frag} {mg : Str → Option Value} {base : Heap}
def f_spoilt : FB := fun ds c R => ∃ (n k : Nat) (ns : List NT), ds = [BkD (.int n) (.int k) ns] ∧ n ≤ 20 ∧ k ≤ n ∧ NU ns ∧ (∀ n ∈ ns, 0 ≤ n.1 ∧ n.1 < (k : Int)) ∧ ns.length ≤ 2 * k ∧ c ≤ 850000 ∧
  ∀ (ns' : List NT) c', NU ns' → (ns'.map nD).Pairwise (fun a b => hdLe a b = true) → (∀ n ∈ ns', 0 ≤ n.1 ∧ n.1 < (k : Int)) → ns'.length ≤ 2 * k + 3 → c' ≤ c + 20 → R (BkD (.int n) (.int k) ns') c'
theorem ok_l_spoilt (T : Top wd K mg) : Def P wd K mg base 3 "_law_spoilt" s_l_spoilt ["_law_box_here", "_law_book"] (spB K f_spoilt) := by
  have g_l_take := ok_l_take (P := P) (base := base) T
  have g_l_of := ok_l_of (P := P) (base := base) T
  refine Def.draws T.d_l_spoilt sc_l_spoilt (fun ds c R h => by obtain ⟨_, _, _, rfl, _⟩ := h; rfl) (fun f cdv A outer s H G l E ds c R hG hr h => ?_)
  obtain ⟨n, k, ns, rfl, hn, hk, hU, hb, hnl, hc, q⟩ := h
  refine ⟨_, _, (dss_cons (ds_asg (de_v 1) (dg_tup (n := 3) rfl (by rfl) (dgs_c (dg_name 2 sc_l_spoilt.nd) (dgs_c (dg_name 3 sc_l_spoilt.nd) (dgs_c (dg_name 4 sc_l_spoilt.nd) dgs_nil)))))
      (dss_cons (ds_newT 5 sc_l_spoilt.nd)
      (dss_cons (ds_for PassesOwn.never (by rfl) (di_seq rfl (de_v 4)) (dg_tup (n := 3) rfl (by rfl) (dgs_c (dg_name 6 sc_l_spoilt.nd) (dgs_c (dg_name 7 sc_l_spoilt.nd) (dgs_c (dg_name 8 sc_l_spoilt.nd) dgs_nil))))
        (dss_one (ds_tput 5 (hu_of hr) (de_v 8) (da_cons (de_v 6) (da_cons (de_v 7) da_nil)))))
      (dss_cons (ds_for PassesOwn.never (by rfl) (di_rng1 (by rfl) T.b_range (de_bin o_mul (DE.p (de_bin o_add (DE.p de_int) (DE.p (de_cB 0 g_l_take hG (hr.mono (by omega)) (by rfl) (da_cons de_int da_nil))))) (DE.p (de_toInt (by rfl) T.b_int (DE.p (de_cmp o_gt (dp_v 3) (DE.p de_int))))))) (dg_name 9 sc_l_spoilt.nd)
        (dss_cons (ds_par2 7 6 (by rfl) sc_l_spoilt.nd (dx_cons (DE.dx (de_cB 0 g_l_of hG (hr.mono (by omega)) (by rfl) (da_cons (DO.d (do_lst (da_cons de_str (da_cons de_str (da_cons de_str da_nil))))) da_nil))) (dx_cons (DE.dx (de_cB 0 g_l_take hG (hr.mono (by omega)) (by rfl) (da_cons (de_v 3) da_nil))) dx_nil)))
        (dss_cut (ds_set 8 sc_l_spoilt.nd (de_if (dt_cmp (o_eq rfl hr.units) (dp_v 7) (DE.p de_str)) (de_bin o_add (DE.p de_int) (DE.p (de_cB 0 g_l_take hG (hr.mono (by omega)) (by rfl) (da_cons (de_bin o_add (DE.p de_int) (dp_v 3)) da_nil)))) (de_cB 0 g_l_of hG (hr.mono (by omega)) (by rfl) (da_cons (DO.d (do_lst (da_cons de_str (da_cons de_str (da_cons de_str da_nil))))) da_nil))))
        (dss_one (ds_tput 5 (hu_of hr) (de_v 8) (da_cons (de_v 6) (da_cons (de_v 7) da_nil)))))))
      (dss_one (ds_ret (de_tup (da_cons (de_v 2) (da_cons (de_v 3) (da_cons (de_tupleOf rfl (by rfl) T.b_tuple (DE.p (DO.d (do_srtR rfl hr.units (by rfl) T.b_sorted (DE.p (DO.d (do_lcKT 5 (n := 2) (own := [("_law_spot", 6), ("_law_kind", 7)]) rfl (by rfl) sc_l_spoilt.nd (blkOk_by (own := [("_law_spot", 6), ("_law_kind", 7)]) (N := ["_law_box_here", "_law_book", "_law_count", "_law_size", "_law_notes_here", "_law_found", "_law_spot", "_law_kind", "_law_value", "_law_turn"]) (sc := defScope s_l_spoilt) (by decide +kernel)) (fun _ _ _ _ _ => (dgs_c (dg_name 6 sc_l_spoilt.nd (hf := by first | exact Or.inr rfl | exact Or.inl rfl)) (dgs_c (dg_name 7 sc_l_spoilt.nd (hf := by first | exact Or.inr rfl | exact Or.inl rfl)) dgs_nil))) ts_no (fun _ _ _ _ _ => (de_tup (da_cons (de_v 6) (da_cons (de_v 7) (da_cons (de_tget 5 (p2 := ⟨0, 0, 0, 0⟩) (hu_of hr) (da_cons (de_v 6) (da_cons (de_v 7) da_nil))) da_nil)))))))))))) da_nil)))))))))), ?_⟩
  refine ⟨_, rfl, rfl, rfl, _, _, rfl, _, _, rfl, _, _, rfl, rfl, ?_⟩
  refine ⟨_, rfl, rfl, for_by (fun i s2 => ∃ ms y6 y7 y8, s2 = ⟨[some .box, some (.d (BkD (.int n) (.int k) ns)), some (.d (.int n)), some (.d (.int k)), some (.d (.tuple (ns.map nD))), some (.dit (ms.map kvN)), y6, y7, y8, none], c, []⟩ ∧ noDD [y6, y7, y8] = true ∧ NU ms ∧ (∀ n ∈ ms, 0 ≤ n.1 ∧ n.1 < (k : Int)) ∧ ms.length ≤ i) ⟨[], none, none, none, rfl, rfl, .nil, fun n h => by simp at h, Nat.le_refl _⟩ (fun i d s2 J hi inv hJ => ?_) (fun s2 inv => ?_)⟩
  · obtain ⟨ms, y6, y7, y8, rfl, hdd, hM, hmb, hml⟩ := inv
    have hi : (ns.map nD)[i]? = some d := hi
    rw [List.getElem?_map] at hi
    obtain ⟨m, hm, rfl⟩ := Option.map_eq_some_iff.mp hi
    have hmm := List.mem_of_getElem? hm
    have hil := (List.getElem?_eq_some_iff.mp hm).1
    refine ⟨rfl, rfl, _, _, rfl, _, _, rfl, _, _, rfl, rfl, _, rfl, ⟨_, rfl⟩, _, rfl, _, rfl, ms.map kvN, (kvN m).1, rfl, rfl, (show 2 ≤ 100000 by decide), (show (ms.map kvN).length < 100000 by rw [List.length_map]; omega), hJ _ ⟨putN ms m, some (.d (.int m.1)), some (.d (.str m.2.1)), some (.d m.2.2), ?_, rfl, hM.put (hU.ok m hmm), fun x hx => ?_, by have := putN_len ms m; omega⟩⟩
    · show (⟨[some .box, _, _, _, _, some (.dit (putG (ms.map kvN) (kvN m).1 m.2.2)), _, _, _, none], c, []⟩ : Dt) = _
      rw [put_kv]
    · rcases putN_mem hx with rfl | ⟨hx, _⟩
      · exact hb _ hmm
      · exact hmb x hx
  · obtain ⟨ms, y6, y7, y8, rfl, hdd, hM, hmb, hml⟩ := inv
    have hml : ms.length ≤ ns.length := by
      rw [show (its (.tuple (ns.map nD))).length = ns.length from List.length_map ..] at hml
      exact hml
    refine ⟨rfl, 3, rfl, by decide, by decide, (show c < 1000000 by omega), fun r c1 hr0 hr1 hc1 => ?_⟩
    have hc1 : c1 ≤ c + 1 := hc1
    refine ⟨1, r, rfl, rfl, _, _, rfl, rfl, k, 0, rfl, rfl, .inr ⟨_, rfl, _, _, rfl, rfl, .inl ⟨by omega, by omega⟩, ?_⟩⟩
    have hz : ((1 + r) * (if decide ((0 : Int) < (k : Int)) then 1 else 0)) ≤ 3 ∧ 0 ≤ ((1 + r) * (if decide ((0 : Int) < (k : Int)) then 1 else 0)) ∧ (k = 0 → ((1 + r) * (if decide ((0 : Int) < (k : Int)) then 1 else 0)) = 0) := by
      by_cases h0 : (0 : Int) < (k : Int)
      · rw [decide_eq_true h0, if_pos rfl]
        omega
      · rw [decide_eq_false h0, if_neg (by decide)]
        omega
    obtain ⟨tt, htt⟩ : ∃ t : Int, t = (1 + r) * (if decide ((0 : Int) < (k : Int)) then 1 else 0) := ⟨_, rfl⟩
    rw [← htt] at hz
    refine ⟨tt, by rw [htt], by omega, by omega, for_by (fun i s2 => ∃ ms y6 y7 y8 y9 c2, s2 = ⟨[some .box, some (.d (BkD (.int n) (.int k) ns)), some (.d (.int n)), some (.d (.int k)), some (.d (.tuple (ns.map nD))), some (.dit (ms.map kvN)), y6, y7, y8, y9], c2, []⟩ ∧ noDD [y6, y7, y8, y9] = true ∧ NU ms ∧ (∀ n ∈ ms, 0 ≤ n.1 ∧ n.1 < (k : Int)) ∧ ms.length ≤ ns.length + i ∧ c2 ≤ c1 + 3 * (i : Nat)) ⟨ms, y6, y7, y8, none, c1, rfl, ?_, hM, hmb, by omega, by omega⟩ (fun i d s2 J hi inv hJ => ?_) (fun s2 inv => ?_)⟩
    · show (_ && (_ && (_ && true))) = true
      simpa [noDD] using hdd
    · obtain ⟨ms, y6, y7, y8, y9, c2, rfl, hdd, hM, hmb, hml, hc2⟩ := inv
      obtain ⟨hi2, rfl⟩ := iota_get hi
      have hi2 : (i : Int) < tt := by omega
      have hk1 : 1 ≤ k := by
        rcases Nat.eq_zero_or_pos k with h | h
        · have := hz.2.2 h
          omega
        · exact h
      refine ⟨rfl, (show 3 ≤ 100000 by decide), _, rfl, rfl, (show 1 ≤ 3 by decide), (show 3 ≤ 1000 by decide), (show c2 < 1000000 by omega), fun kd c3 hkd hc3 => ?_⟩
      have hc3 : c3 ≤ c2 + 1 := hc3
      refine ⟨rfl, _, rfl, k, rfl, by omega, by omega, (show c3 < 1000000 by omega), fun sp c4 hs0 hs1 hc4 => ?_⟩
      have hc4 : c4 ≤ c3 + 1 := hc4
      have hkd : kd = .str "groups" ∨ kd = .str "house" := by
        have hkd : kd ∈ [PyData.str "groups", .str "groups", .str "house"] := hkd
        simp only [List.mem_cons, List.not_mem_nil, or_false] at hkd
        rcases hkd with h | h | h
        · exact .inl h
        · exact .inl h
        · exact .inr h
      refine ⟨rfl, fun s3 => ∃ (m : NT) (c5 : Int), NOk m ∧ 0 ≤ m.1 ∧ m.1 < (k : Int) ∧ c5 ≤ c4 + 1 ∧ s3 = ⟨[some .box, some (.d (BkD (.int n) (.int k) ns)), some (.d (.int n)), some (.d (.int k)), some (.d (.tuple (ns.map nD))), some (.dit (ms.map kvN)), some (.d (.int m.1)), some (.d (.str m.2.1)), some (.d m.2.2), some (.d (.int (0 + (i : Int))))], c5, []⟩, ?_, ?_⟩
      · rcases hkd with rfl | rfl
        · refine ⟨_, _, rfl, rfl, shp_str "groups", shp_str "groups", _, rfl, ?_⟩
          rw [eqv_str, decide_eq_true rfl]
          refine iteT ⟨rfl, _, _, rfl, rfl, 1, k, rfl, rfl, _, rfl, by omega, by omega, (show c4 < 1000000 by omega), fun v c5 hv0 hv1 hc5 => ⟨1, v, rfl, rfl, ?_⟩⟩
          have hc5 : c5 ≤ c4 + 1 := hc5
          exact ⟨(sp, "groups", .int (1 + v)), c5, nok_g (by omega) (by omega), hs0, hs1, hc5, rfl⟩
        · refine ⟨_, _, rfl, rfl, shp_str "house", shp_str "groups", _, rfl, ?_⟩
          rw [eqv_str, decide_eq_false (by decide)]
          refine iteF ⟨rfl, (show 3 ≤ 100000 by decide), _, rfl, rfl, (show 1 ≤ 3 by decide), (show 3 ≤ 1000 by decide), (show c4 < 1000000 by omega), fun vd c5 hvd hc5 => ?_⟩
          have hc5 : c5 ≤ c4 + 1 := hc5
          have hvd : vd ∈ [PyData.str "new", .str "beside", .str "between"] := hvd
          have hz : ∃ z : Str, vd = .str z ∧ WdS z := by
            simp only [List.mem_cons, List.not_mem_nil, or_false] at hvd
            rcases hvd with h | h | h
            · exact ⟨_, h, flb_w .new⟩
            · exact ⟨_, h, flb_w .beside⟩
            · exact ⟨_, h, flb_w .between⟩
          obtain ⟨z, rfl, hfz⟩ := hz
          exact ⟨(sp, "house", .str z), c5, nok_h (by omega) hfz, hs0, hs1, hc5, rfl⟩
      · rintro s3 ⟨m, c5, hmo, hm0, hm1, hc5, rfl⟩
        refine ⟨_, rfl, ⟨_, rfl⟩, _, rfl, _, rfl, ms.map kvN, (kvN m).1, rfl, rfl, (show 2 ≤ 100000 by decide), (show (ms.map kvN).length < 100000 by rw [List.length_map]; omega), hJ _ ⟨putN ms m, some (.d (.int m.1)), some (.d (.str m.2.1)), some (.d m.2.2), some (.d (.int (0 + (i : Int)))), c5, ?_, rfl, hM.put hmo, fun x hx => ?_, by have := putN_len ms m; omega, by omega⟩⟩
        · show (⟨[some .box, _, _, _, _, some (.dit (putG (ms.map kvN) (kvN m).1 m.2.2)), _, _, _, _], c5, []⟩ : Dt) = _
          rw [put_kv]
        · rcases putN_mem hx with rfl | ⟨hx, _⟩
          · exact ⟨hm0, hm1⟩
          · exact hmb x hx
    · obtain ⟨ms, y6, y7, y8, y9, c2, rfl, hdd, hM, hmb, hml, hc2⟩ := inv
      have e1 : (iotaD 0 tt).length ≤ 3 := by
        unfold iotaD
        rw [List.length_map, List.length_range]
        omega
      refine ⟨_, rfl, _, rfl, lcK_map (fK ms) rfl hdd (by rw [List.length_map]; omega) (fun d hd acc J' hacc hJ' => ?_) ?_⟩
      · obtain ⟨kv, hkv, rfl⟩ := List.mem_map.mp hd
        obtain ⟨m, hm, rfl⟩ := List.mem_map.mp hkv
        refine ⟨rfl, rfl, _, _, rfl, _, _, rfl, rfl, _, rfl, _, rfl, ⟨_, rfl⟩, _, rfl, _, rfl, ms.map kvN, (kvN m).1, _, rfl, rfl, (show 2 ≤ 100000 by decide), look_kv hM hm, (show 3 ≤ 100000 by decide), rfl, hacc, ?_⟩
        have hJ' : J' (acc ++ [.tuple [.int m.1, .str m.2.1, (lookG (ms.map kvN) (kvN m).1).getD .none]]) ⟨c2, []⟩ := hJ'
        rw [look_kv hM hm] at hJ'
        exact hJ'
      · rw [fK_map hM]
        obtain ⟨ns', e2, hp⟩ := perm_n (srtR_perm (ms.map nD))
        refine ⟨rfl, rows_ok hM.ok hM.uni, rfl, (show 3 ≤ 100000 by decide), ?_⟩
        show R (.tuple [.int n, .int k, .tuple (srtR (ms.map nD))]) c2
        rw [e2]
        exact q ns' c2 (hM.perm hp) (by rw [← e2]; unfold srtR; exact List.pairwise_mergeSort (le := hdLe) (fun a b c h1 h2 => leA_total.1 _ _ _ h1 h2) (fun a b => Bool.or_eq_true_iff.mpr (leA_total.2 (hdD a) (hdD b))) _) (fun x hx => hmb x (hp.mem_iff.mp hx)) (by rw [hp.length_eq]; omega) (by omega)
end
local macro_rules | `(tactic| walk_at "d") => `(tactic| first
  | refine ⟨_, rfl, ?_⟩ | refine ⟨_, _, rfl, rfl, ?_⟩ | refine iteT ?_ | refine iteF ?_ | refine ⟨_, _, rfl, rfl, rfl, ?_⟩)
def isNum : PyData → Bool
  | .int _ => true
  | _ => false
def isBelow (d : PyData) (n : Int) : Bool :=
  match d with
  | .int i => decide (0 ≤ i) && decide (i < n)
  | _ => false
def stepOf (z : Str) : Option Int := if z = "new" then some 1 else if z = "beside" then some 0 else if z = "between" then some (-1) else none
section
variable {P : Program} {wd : World} {K : PySem.W.Frag} {mg : Str → Option Value} {base : Heap}
def f_is_number : FP := fun ds R => ∃ d, ds = [d] ∧ R (.bool (isNum d))
theorem ok_is_number (T : Top wd K mg) : Def P wd K mg base 1 "is_number" s_is_number ["thing"] (spP K f_is_number) := by
  refine Def.pure T.d_is_number sc_is_number (fun ds R h => by obtain ⟨d, rfl, _⟩ := h; rfl) (fun f cdv A outer s H G E ds R hG hr h => ?_)
  obtain ⟨d, rfl, q⟩ := h
  refine ⟨_, _, (dss_one (ds_ret (de_and (de_isi .int rfl (by rfl) T.b_isinstance (by rfl) T.b_int (by decide +kernel) (dp_v 0)) (de_one (de_not (de_isi .bool rfl (by rfl) T.b_isinstance (by rfl) T.b_bool (by decide +kernel) (dp_v 0))))))), ?_⟩
  cases d <;> (repeat walk_at "d") <;> exact q
def f_is_number_below : FP := fun ds R => ∃ d n, ds = [d, .int n] ∧ R (.bool (isBelow d n))
theorem ok_is_number_below (T : Top wd K mg) : Def P wd K mg base 2 "is_number_below" s_is_number_below ["thing", "limit"] (spP K f_is_number_below) := by
  have g_is_number := ok_is_number (P := P) (base := base) T
  refine Def.pure T.d_is_number_below sc_is_number_below (fun ds R h => by obtain ⟨d, n, rfl, _⟩ := h; rfl) (fun f cdv A outer s H G E ds R hG hr h => ?_)
  obtain ⟨d, n, rfl, q⟩ := h
  refine ⟨_, _, (dss_one (ds_ret (de_and (de_c g_is_number hG (hr.mono (by decide)) (by rfl) (da_cons (de_v 0) da_nil)) (de_one (de_chain o_le o_lt (de_int).p (dp_v 0) (dp_v 1)))))), ?_⟩
  cases d with
  | int i =>
    repeat walk_at "d"
    refine ite2 (fun e => ?_) (fun e => ?_)
    · repeat walk_at "d"
      have e1 : isBelow (.int i) n = decide (i < n) := by show (decide (0 ≤ i) && decide (i < n)) = _; rw [e]; rfl
      rw [e1] at q
      exact q
    · have e1 : isBelow (.int i) n = false := by show (decide (0 ≤ i) && decide (i < n)) = _; rw [eq_false_of_ne_true e]; rfl
      rw [e1] at q
      exact q
  | _ => (repeat walk_at "d") <;> exact q
theorem any_words (d : PyData) : ([PyData.str "new", .str "beside", .str "between"].any fun z => PyData.eqv z d) = (match d with | .str z => (stepOf z).isSome | _ => false) := by
  cases d with
  | str z =>
    simp only [List.any_cons, List.any_nil, Bool.or_false, eqv_str, stepOf]
    by_cases h1 : z = "new"
    · subst h1
      decide +kernel
    · by_cases h2 : z = "beside"
      · subst h2
        decide +kernel
      · by_cases h3 : z = "between"
        · subst h3
          decide +kernel
        · simp [h1, h2, h3, Ne.symm h1, Ne.symm h2, Ne.symm h3]
  | _ => simp [PyData.eqv]
theorem shp_words : Shp (.tuple [.str "new", .str "beside", .str "between"]) := by
  show SeqAt.shaped _ = true
  decide +kernel
end
local macro_rules | `(tactic| walk_at "d") => `(tactic| first
  | refine ⟨_, rfl, ?_⟩ | refine ⟨_, _, rfl, rfl, ?_⟩ | refine iteT ?_ | refine iteF ?_ | refine ⟨_, _, rfl, rfl, rfl, ?_⟩)
section
variable {P : Program} {wd : World} {K : PySem.W.Frag} {mg : Str → Option Value} {base : Heap}
theorem ok_l_is_int (T : Top wd K mg) : Def P wd K mg base 1 "_law_is_int" s_l_is_int ["_law_matter"] (spP K f_is_number) := by
  refine Def.pure T.d_l_is_int sc_l_is_int (fun ds R h => by obtain ⟨d, rfl, _⟩ := h; rfl) (fun f cdv A outer s H G E ds R hG hr h => ?_)
  obtain ⟨d, rfl, q⟩ := h
  refine ⟨_, _, (dss_one (ds_ret (de_and (de_isi .int rfl (by rfl) T.b_isinstance (by rfl) T.b_int (by decide +kernel) (dp_v 0)) (de_one (de_not (de_isi .bool rfl (by rfl) T.b_isinstance (by rfl) T.b_bool (by decide +kernel) (dp_v 0))))))), ?_⟩
  cases d <;> (repeat walk_at "d") <;> exact q
end
local macro_rules | `(tactic| walk_at "s3") => `(tactic| simp only [wPubO, wC, wV, wPub, wP, wCons, wTup, wLst, wL, w2, wTest, wChain, wAnd, wOr, Dw.wNot, wAndV, wOrV, wNotV, wIf, Dw.wTru, truD, gI0, gI, gEq, gNe, gIn, gIsN, gNotN, gIsB, gNotB, gCatT, gCatS, gIx, wCat, wRep, w1, w1O, gLen, gTupleOf, gListOf, wRg1, gInt, gStr, w2a, wSlT, wSlL, wSlS, wRevT, wNeg, wCall, wCallB, wName, wGNil_n, wGCons_c, wGTup, wSeq, wRng1, wEnum, wZip, wNext, wSq, wRet, wIfS, wDrop, wAsg, wOwn, wAug, wMeth, fAppend, wFor_eq, wWhile_eq, wipeD, wLc_eq, Dw.wNm, wPar, wGix, wDix, wCatP, wPopTo, fPop, fPopAt, fIns, wSetIx, gRepr, gMinT, gNeS, gRepN, wDGet2, wDPut, wTPut, wTGet, gSrtR, gSrtA, gLtP, wSlB, wStar, wRaise, wNmX, wXat, wXis, gEqS, wYd, wYdic, wYfn, wYg, wCallD, wCallV, wSetN, wDcT, wTGet2, wTGet1, dicAt, wRng2, wRngD, wRevR, gRevL, wIsi, wNotT, wAugIx, wPeekO, wPick2, wExt, fRem, look_d, look_own, shpI, shpB, shpN, shpS, seqT, seqL, itsT, itsL, lenT, lenL, okFF, eqv_str, eqv_int, eqv_bool, isNone, perm, Dt.set, Dt.sets, env0, List.map_cons, List.map_nil, List.cons_append, List.nil_append, List.getElem?_cons_zero, List.getElem?_cons_succ, List.set_cons_succ, List.set_cons_zero, List.filterMap_cons, List.filterMap_nil, Option.some.injEq, DV.d.injEq, DV.own.injEq, DV.dit.injEq, DV.dd.injEq, DV.oth.injEq, reduceCtorEq, false_or, or_false, false_and, and_false, exists_false, PyData.int.injEq, PyData.bool.injEq, PyData.str.injEq, PyData.tuple.injEq, PyData.list.injEq, List.cons.injEq, exists_eq_left, exists_eq_left', exists_eq_right, exists_eq_right', exists_and_left, exists_eq', exists_eq, and_true, true_and, and_self, and_assoc, List.length_cons, List.length_nil, List.replicate, Nat.reduceAdd, Nat.reduceSub, Nat.reduceLeDiff, Nat.zero_le, decide_eq_true_eq, Bool.not_eq_true', decide_eq_false_iff_not, ite_true, ite_false, if_true, if_false, Bool.false_eq_true, Bool.true_eq_false, eq_self, List.reduceReplicate, Bool.not_true, Bool.not_false, reduceIte])
local macro_rules | `(tactic| walk_at "s4") => `(tactic| simp only [wPubO, wC, wV, wPub, wP, wCons, wTup, wLst, wL, w2, wTest, wChain, wAnd, wOr, Dw.wNot, wAndV, wOrV, wNotV, wIf, Dw.wTru, truD, gI0, gI, gEq, gNe, gIn, gIsN, gNotN, gIsB, gNotB, gCatT, gCatS, gIx, wCat, wRep, w1, w1O, gLen, gTupleOf, gListOf, wRg1, gInt, gStr, w2a, wSlT, wSlL, wSlS, wRevT, wNeg, wCall, wCallB, wName, wGNil_n, wGCons_c, wGTup, wSeq, wRng1, wEnum, wZip, wNext, wSq, wRet, wIfS, wDrop, wAsg, wOwn, wAug, wMeth, fAppend, wFor_eq, wWhile_eq, wipeD, wLc_eq, Dw.wNm, wPar, wGix, wDix, wCatP, wPopTo, fPop, fPopAt, fIns, wSetIx, gRepr, gMinT, gNeS, gRepN, wDGet2, wKGet, wLIdx, wDPGet, wKAug, wDcK, wDPut, wTPut, wTGet, gSrtR, gSrtA, gLtP, wSlB, wStar, wRaise, wNmX, wXat, wXis, gEqS, wYd, wYdic, wYfn, wYg, wCallD, wCallV, wSetN, wDcT, wTGet2, wTGet1, dicAt, wRng2, wRg2, wRngD, wRevR, gRevL, wAugM, gLenSetL, wAppPop, gSrtSet, wIsi, wNotT, wAugIx, wPeekO, wPick2, wExt, fRem, look_d, look_own, shpI, shpB, shpN, shpS, seqT, seqL, itsT, itsL, lenT, lenL, okFF, eqv_str, eqv_int, eqv_bool, isNone, perm, Dt.set, Dt.sets, env0, List.map_cons, List.map_nil, List.cons_append, List.nil_append, List.getElem?_cons_zero, List.getElem?_cons_succ, List.set_cons_succ, List.set_cons_zero, List.filterMap_cons, List.filterMap_nil, Option.some.injEq, DV.d.injEq, DV.own.injEq, DV.dit.injEq, DV.dd.injEq, DV.oth.injEq, reduceCtorEq, false_or, or_false, false_and, and_false, exists_false, PyData.int.injEq, PyData.bool.injEq, PyData.str.injEq, PyData.tuple.injEq, PyData.list.injEq, List.cons.injEq, exists_eq_left, exists_eq_left', exists_eq_right, exists_eq_right', exists_and_left, exists_eq', exists_eq, and_true, true_and, and_self, and_assoc, List.length_cons, List.length_nil, List.replicate, Nat.reduceAdd, Nat.reduceSub, Nat.reduceLeDiff, Nat.zero_le, decide_eq_true_eq, Bool.not_eq_true', decide_eq_false_iff_not, ite_true, ite_false, if_true, if_false, Bool.false_eq_true, Bool.true_eq_false, eq_self, List.reduceReplicate, Bool.not_true, Bool.not_false, reduceIte])
local macro_rules | `(tactic| walk_at "d") => `(tactic| first
  | refine ⟨_, rfl, ?_⟩ | refine ⟨_, _, rfl, rfl, ?_⟩ | refine iteT ?_ | refine iteF ?_ | refine ⟨_, _, rfl, rfl, rfl, ?_⟩ | refine ⟨rfl, ?_⟩)
def ge1 : PyData → Bool
  | .int i => decide (1 ≤ i)
  | _ => false
def wordD : PyData → Bool
  | .str z => (stepOf z).isSome
  | _ => false
def valB (s v : PyData) : Bool := if PyData.eqv s (.str "groups") = true then ge1 v else PyData.eqv s (.str "house") && wordD v
def ge0 : PyData → Bool
  | .int i => decide (0 ≤ i)
  | _ => false
def noteB : PyData → Bool
  | .tuple [t, s, v] => ge0 t && valB s v
  | _ => false
theorem eqv_strs {s : PyData} {z : Str} (h : PyData.eqv s (.str z) = true) : s = .str z := by
  cases s with
  | str y => rw [eqv_str] at h; rw [of_decide_eq_true h]
  | _ => simp [PyData.eqv] at h
def gS (b : Bool) : Str := if b then "groups" else "house"
theorem val_sort {s v : PyData} (h : valB s v = true) : ∃ b, s = .str (gS b) := by
  unfold valB at h
  split at h
  · rename_i e
    exact ⟨true, eqv_strs e⟩
  · exact ⟨false, eqv_strs (Bool.and_eq_true_iff.mp h).1⟩
theorem note_is {x : PyData} (h : noteB x = true) : ∃ (i : Int) (b : Bool) (v : PyData), x = .tuple [.int i, .str (gS b), v] ∧ 0 ≤ i ∧ valB (.str (gS b)) v = true := by
  unfold noteB at h
  split at h
  · rename_i t s v
    obtain ⟨h1, h2⟩ := Bool.and_eq_true_iff.mp h
    obtain ⟨b, rfl⟩ := val_sort h2
    cases t with
    | int i => exact ⟨i, b, v, rfl, of_decide_eq_true h1, h2⟩
    | _ => cases h1
  · cases h
theorem cut_one (ds : List PyData) : Dw.cutD ds (some 1) none = ds.drop 1 := by
  cases ds with
  | nil => rfl
  | cons x l =>
    unfold Dw.cutD
    simp [HT.sIx]
theorem zip_nextD (ds : List PyData) : zipD ds (Dw.cutD ds (some 1) none) = (ds.zip (ds.drop 1)).map fun z => PyData.tuple [z.1, z.2] := by
  have e : Dw.cutD ds (some 1) none = ds.drop 1 := cut_one ds
  rw [e]
  unfold zipD
  rw [List.zip, List.map_zipWith]
def tBelow (T : Int) : PyData → Bool
  | .tuple (.int i :: _) => decide (i < T)
  | _ => false
theorem below_ints {n : Int} : ∀ ds : List PyData, (∀ x ∈ ds, isBelow x n = true) → ∃ row : List Int, ds = row.map .int ∧ ∀ x ∈ row, 0 ≤ x ∧ x < n
  | [], _ => ⟨[], rfl, fun x hx => by cases hx⟩
  | d :: ds, h => by
    obtain ⟨row, rfl, hr⟩ := below_ints ds fun x hx => h x (.tail _ hx)
    have h1 := h d (.head _)
    cases d with
    | int i =>
      have h1 := Bool.and_eq_true_iff.mp h1
      refine ⟨i :: row, rfl, fun x hx => ?_⟩
      rcases List.mem_cons.mp hx with rfl | hx
      · exact ⟨of_decide_eq_true h1.1, of_decide_eq_true h1.2⟩
      · exact hr x hx
    | _ => cases h1
def headD (x : PyData) : PyData := .tuple (Dw.cutD (its x) none (some 2))
def chainB (ds : List PyData) : Bool := (ds.zip (ds.drop 1)).all fun p => PySem.W.dataLt (headD p.1) (headD p.2)
def notesB (T : Int) : PyData → Bool
  | .tuple ds => (ds.all fun x => noteB x && tBelow T x) && chainB ds
  | _ => false
def notesIf : PyData → PyData → Bool
  | .int T, ns => notesB T ns
  | _, _ => false
def bookB : PyData → Bool
  | .tuple [.int p, t, ns] => isBelow t (p + 1) && notesIf t ns
  | _ => false
def OrdP (p T : Nat) (xs : List Nt) (d : PyData) : Prop := ∃ row : List Int, d = .tuple (row.map .int) ∧ OgM.Row (p : Nat) row ∧ row.length = T ∧ ∀ x ∈ xs, truV row x.t x.v = x.v
section
variable {P : Program} {wd : World} {K : PySem.W.Frag} {mg : Str → Option Value} {base : Heap} {c : Nat → Addr}
def f_val : FP := fun ds R => ∃ s v, ds = [s, v] ∧ Shp s ∧ Shp v ∧ R (.bool (valB s v))
theorem ok_is_value (T : Top wd K mg) : Def P wd K mg base 2 "is_value" s_is_value ["sort", "thing"] (spP K f_val) := by
  have g_is_number := ok_is_number (P := P) (base := base) T
  refine Def.pure T.d_is_value sc_is_value (fun ds R h => by obtain ⟨_, _, rfl, _⟩ := h; rfl) (fun f cdv A outer s H G E ds R hG hr h => ?_)
  obtain ⟨s, v, rfl, hs, hv, q⟩ := h
  refine ⟨_, _, (dss_cons (ds_if (dt_cmp (o_eq rfl hr.units) (dp_v 0) (DE.p de_str)) (dss_one (ds_ret (de_and (de_c g_is_number hG (hr.mono (by omega)) (by rfl) (da_cons (de_v 1) da_nil)) (de_one (de_cmp o_ge (dp_v 1) (DE.p de_int)))))) dss_nil)
      (dss_one (ds_ret (de_and (de_cmp (o_eq rfl hr.units) (dp_v 0) (DE.p de_str)) (de_one (de_cmp (o_in rfl (u65 hr)) (dp_v 1) (DE.p (de_gc T.c_WORDS (by rfl))))))))), ?_⟩
  walk_at "s4"
  refine ⟨hs, ?_⟩
  unfold valB at q
  by_cases h : s.eqv (.str "groups") = true
  · rw [if_pos h] at q ⊢
    refine ⟨v, rfl, isNum v, rfl, ?_⟩
    cases v with
    | int i => exact iteT ⟨i, rfl, q⟩
    | _ => exact iteF q
  · rw [if_neg h] at q ⊢
    refine ⟨hs, ?_⟩
    by_cases h2 : s.eqv (.str "house") = true
    · rw [if_pos h2]
      rw [h2, Bool.true_and] at q
      refine ⟨hv, shp_words, ?_⟩
      rw [any_words, Bool.false_xor]
      cases v <;> exact q
    · rw [if_neg h2]
      rw [Bool.eq_false_iff.mpr h2, Bool.false_and] at q
      exact q
def f_note : FP := fun ds R => ∃ d w k, ds = [d] ∧ Bd w k d ∧ k ≤ 60 ∧ R (.bool (noteB d))
theorem ok_is_note (T : Top wd K mg) : Def P wd K mg base 3 "is_note" s_is_note ["thing"] (spP K f_note) := by
  have g_is_number := ok_is_number (P := P) (base := base) T
  have g_is_value := ok_is_value (P := P) (base := base) T
  refine Def.pure T.d_is_note sc_is_note (fun ds R h => by obtain ⟨_, _, _, rfl, _⟩ := h; rfl) (fun f cdv A outer s H G E ds R hG hr h => ?_)
  obtain ⟨d, w, k, rfl, hd, hk, q⟩ := h
  refine ⟨_, _, (dss_cons (ds_if (DW.q (dw_or (dt_not (dt_val (de_isi .tuple rfl (by rfl) T.b_isinstance (by rfl) T.b_tuple (by decide +kernel) (dp_v 0)))) (dw_or1 (dt_cmp (o_ne rfl hr.units) (DE.p (de_len rfl (by rfl) T.b_len (dp_v 0))) (DE.p de_int))))) (dss_one (ds_ret de_bl)) dss_nil)
      (dss_cons (ds_asg (de_v 0) (dg_tup (n := 3) rfl (by rfl) (dgs_c (dg_name 1 sc_is_note.nd) (dgs_c (dg_name 2 sc_is_note.nd) (dgs_c (dg_name 3 sc_is_note.nd) dgs_nil)))))
      (dss_one (ds_ret (de_and (de_c g_is_number hG (hr.mono (by omega)) (by rfl) (da_cons (de_v 1) da_nil)) (de_and (de_cmp o_ge (dp_v 1) (DE.p de_int)) (de_one (de_c g_is_value hG (hr.mono (by omega)) (by rfl) (da_cons (de_v 2) (da_cons (de_v 3) da_nil)))))))))), ?_⟩
  walk_at "s4"
  cases d with
  | tuple ds =>
    rw [if_neg (by intro z; cases z)]
    refine ⟨ds.length, rfl, ?_⟩
    by_cases hl : ds.length = 3
    · rw [if_neg (by omega)]
      match ds, hl with
      | [t, s, v], _ =>
        obtain ⟨j, rfl, _, hx⟩ := hd.its rfl
        have bs : Bd w j s := hx s (by simp [its])
        have bv : Bd w j v := hx v (by simp [its])
        refine ⟨rfl, rfl, ?_⟩
        show wGCons (wName 1) (wGCons (wName 2) (wGCons (wName 3) wGNil)) [t, s, v] _ _
        walk_at "s4"
        refine ⟨t, rfl, isNum t, rfl, ?_⟩
        cases t with
        | int i =>
          refine iteT ⟨i, rfl, ?_⟩
          have e : noteB (.tuple [.int i, s, v]) = (decide (0 ≤ i) && valB s v) := rfl
          rw [e] at q
          by_cases h0 : 0 ≤ i
          · rw [decide_eq_true h0, Bool.true_and] at q
            exact (if_pos h0).mpr ⟨s, v, rfl, bs.shp (by omega), bv.shp (by omega), q⟩
          · rw [decide_eq_false h0, Bool.false_and] at q
            exact (if_neg h0).mpr q
        | _ => exact iteF q
    · rw [if_pos (by omega)]
      have e : noteB (.tuple ds) = false := by
        unfold noteB
        split
        · rename_i h
          cases h
          exact absurd rfl hl
        · rfl
      rw [e] at q
      exact q
  | _ => exact (if_pos (by rfl)).mpr q
def f_notes2 : FP := fun ds R => ∃ T d w k, ds = [.int T, d] ∧ Bd w k d ∧ k ≤ 60 ∧ w ≤ 1000 ∧ R (.bool (notesB T d))
theorem ok_is_notes (T : Top wd K mg) : Def P wd K mg base 4 "is_notes" s_is_notes ["times", "thing"] (spP K f_notes2) := by
  have g_is_note := ok_is_note (P := P) (base := base) T
  refine Def.pure T.d_is_notes sc_is_notes (fun ds R h => by obtain ⟨_, _, _, _, rfl, _⟩ := h; rfl) (fun f cdv A outer s H G E ds R hG hr h => ?_)
  obtain ⟨n, d, w, k, rfl, hd, hk, hw, q⟩ := h
  refine ⟨_, _, (dss_cons (ds_if (dt_not (dt_val (de_isi .tuple rfl (by rfl) T.b_isinstance (by rfl) T.b_tuple (by decide +kernel) (dp_v 1)))) (dss_one (ds_ret de_bl)) dss_nil)
      (dss_cons (ds_if (dt_not (dt_val (de_all rfl (by rfl) (by rfl) T.b_all (DE.p (DO.d (do_lc (own := [("note", 4)]) (by rfl) sc_is_notes.nd (di_seq rfl (de_v 1)) (blkOk_by (own := [("note", 4)]) (N := ["times", "thing", "early", "late", "note"]) (sc := defScope s_is_notes) (by decide +kernel)) (fun _ _ _ _ _ => (dg_name 4 sc_is_notes.nd (hf := by first | exact Or.inr rfl | exact Or.inl rfl))) ts_no (fun _ _ _ _ _ => (de_and (de_c g_is_note hG (hr.mono (by omega)) (by rfl) (da_cons (de_v 4) da_nil)) (de_one (de_cmp o_lt (DE.p (de_ix rfl (dp_v 4) (DE.p de_int))) (dp_v 0))))))))))) (dss_one (ds_ret de_bl)) dss_nil)
      (dss_one (ds_ret (de_all rfl (by rfl) (by rfl) T.b_all (DE.p (DO.d (do_lc (own := [("early", 2), ("late", 3)]) (by rfl) sc_is_notes.nd (di_zip2 rfl (by rfl) T.b_zip (de_v 1) (de_slT rfl (dp_v 1) (do_some de_int) do_none)) (blkOk_by (own := [("early", 2), ("late", 3)]) (N := ["times", "thing", "early", "late", "note"]) (sc := defScope s_is_notes) (by decide +kernel)) (fun _ _ _ _ _ => (dg_tup (n := 2) rfl (by rfl) (dgs_c (dg_name 2 sc_is_notes.nd (hf := by first | exact Or.inr rfl | exact Or.inl rfl)) (dgs_c (dg_name 3 sc_is_notes.nd (hf := by first | exact Or.inr rfl | exact Or.inl rfl)) dgs_nil)))) ts_no (fun _ _ _ _ _ => (de_cmp (o_ltP rfl hr.units) (DE.p (de_slT rfl (dp_v 2) do_none (do_some de_int))) (DE.p (de_slT rfl (dp_v 3) do_none (do_some de_int))))))))))))), ?_⟩
  walk_at "s4"
  cases d with
  | tuple ds =>
    rw [if_neg (by intro z; cases z)]
    obtain ⟨j, rfl, hl, hx⟩ := hd.its rfl
    have hl : ds.length ≤ w := hl
    have hx : ∀ x ∈ ds, Bd w j x := hx
    refine ⟨rfl, ?_⟩
    refine lcD_map (ds := ds) (fun x => .bool (noteB x && tBelow n x)) (by omega) (fun x hx' acc J hacc h1 => ?_) ?_
    · walk_at "s4"
      refine ⟨x, w, j, rfl, hx x hx', by omega, noteB x, rfl, ?_⟩
      by_cases hb : noteB x = true
      · rw [if_pos hb]
        rw [hb, Bool.true_and] at h1
        obtain ⟨i, b, v, rfl, _, _⟩ := note_is hb
        exact ⟨rfl, _, rfl, i, rfl, hacc, h1⟩
      · rw [if_neg hb]
        rw [Bool.eq_false_iff.mpr hb, Bool.false_and] at h1
        exact ⟨hacc, h1⟩
    refine ⟨ds.map fun x => noteB x && tBelow n x, by rw [List.map_map]; rfl, (ds.map fun x => noteB x && tBelow n x).all id, rfl, ?_⟩
    have e0 : (ds.map fun x => noteB x && tBelow n x).all id = ds.all fun x => noteB x && tBelow n x := by rw [List.all_map]; rfl
    rw [e0]
    have e1 : notesB n (.tuple ds) = ((ds.all fun x => noteB x && tBelow n x) && chainB ds) := rfl
    rw [e1] at q
    by_cases hall : (ds.all fun x => noteB x && tBelow n x) = true
    · rw [if_neg (by rw [hall]; decide)]
      rw [hall, Bool.true_and] at q
      walk_at "s4"
      rw [zip_nextD]
      have hnote : ∀ x ∈ ds, noteB x = true := fun x hx => (Bool.and_eq_true_iff.mp (List.all_eq_true.mp hall x hx)).1
      refine lcD_encM (ds.zip (ds.drop 1)) (fun z => PyData.tuple [z.1, z.2]) (fun z => .bool (PySem.W.dataLt (headD z.1) (headD z.2))) (by rw [List.length_zip]; omega) (fun z hz acc J hacc h1 => ?_) ?_
      · obtain ⟨z1, z2⟩ := z
        have hm := List.of_mem_zip hz
        obtain ⟨i1, b1, v1, e1, _⟩ := note_is (hnote z1 hm.1)
        obtain ⟨i2, b2, v2, e2, _⟩ := note_is (hnote z2 (List.mem_of_mem_drop hm.2))
        have e1 : z1 = .tuple [.int i1, .str (gS b1), v1] := e1
        have e2 : z2 = .tuple [.int i2, .str (gS b2), v2] := e2
        subst e1 e2
        walk_at "s4"
        exact ⟨⟨_, _, rfl⟩, ⟨_, _, rfl⟩, hacc, h1⟩
      · refine ⟨(ds.zip (ds.drop 1)).map fun z => PySem.W.dataLt (headD z.1) (headD z.2), by rw [List.map_map]; rfl, ?_⟩
        have e2 : ((ds.zip (ds.drop 1)).map fun z => PySem.W.dataLt (headD z.1) (headD z.2)).all id = chainB ds := by rw [List.all_map]; rfl
        rw [e2]
        exact q
    · rw [if_pos (Bool.eq_false_iff.mpr hall)]
      rw [Bool.eq_false_iff.mpr hall, Bool.false_and] at q
      exact q
  | _ => exact (if_pos (by rfl)).mpr q
def f_book2 : FP := fun ds R => ∃ d w k, ds = [d] ∧ Bd w k d ∧ k ≤ 60 ∧ w ≤ 1000 ∧ R (.bool (bookB d))
theorem ok_is_journal (T : Top wd K mg) : Def P wd K mg base 5 "is_journal" s_is_journal ["thing"] (spP K f_book2) := by
  have g_is_number := ok_is_number (P := P) (base := base) T
  have g_is_number_below := ok_is_number_below (P := P) (base := base) T
  have g_is_notes := ok_is_notes (P := P) (base := base) T
  refine Def.pure T.d_is_journal sc_is_journal (fun ds R h => by obtain ⟨_, _, _, rfl, _⟩ := h; rfl) (fun f cdv A outer s H G E ds R hG hr h => ?_)
  obtain ⟨d, w, k, rfl, hd, hk, hw, q⟩ := h
  refine ⟨_, _, (dss_cons (ds_if (DW.q (dw_or (dt_not (dt_val (de_isi .tuple rfl (by rfl) T.b_isinstance (by rfl) T.b_tuple (by decide +kernel) (dp_v 0)))) (dw_or1 (dt_cmp (o_ne rfl hr.units) (DE.p (de_len rfl (by rfl) T.b_len (dp_v 0))) (DE.p de_int))))) (dss_one (ds_ret de_bl)) dss_nil)
      (dss_cons (ds_asg (de_v 0) (dg_tup (n := 3) rfl (by rfl) (dgs_c (dg_name 1 sc_is_journal.nd) (dgs_c (dg_name 2 sc_is_journal.nd) (dgs_c (dg_name 3 sc_is_journal.nd) dgs_nil)))))
      (dss_cons (ds_if (DW.q (dw_or (dt_not (dt_val (de_c g_is_number hG (hr.mono (by omega)) (by rfl) (da_cons (de_v 1) da_nil)))) (dw_or1 (dt_not (dt_val (de_c g_is_number_below hG (hr.mono (by omega)) (by rfl) (da_cons (de_v 2) (da_cons (de_bin o_add (dp_v 1) (DE.p de_int)) da_nil)))))))) (dss_one (ds_ret de_bl)) dss_nil)
      (dss_one (ds_ret (de_c g_is_notes hG (hr.mono (by omega)) (by rfl) (da_cons (de_v 2) (da_cons (de_v 3) da_nil)))))))), ?_⟩
  walk_at "s4"
  cases d with
  | tuple ds =>
    rw [if_neg (by intro z; cases z)]
    refine ⟨ds.length, rfl, ?_⟩
    by_cases hl : ds.length = 3
    · rw [if_neg (by omega)]
      match ds, hl with
      | [p, t, ns], _ =>
        obtain ⟨j, rfl, _, hx⟩ := hd.its rfl
        have bn : Bd w j ns := hx ns (by simp [its])
        refine ⟨rfl, rfl, ?_⟩
        show wGCons (wName 1) (wGCons (wName 2) (wGCons (wName 3) wGNil)) [p, t, ns] _ _
        walk_at "s4"
        refine ⟨p, rfl, isNum p, rfl, ?_⟩
        cases p with
        | int i =>
          refine (if_neg (by intro z; cases z)).mpr ⟨i, rfl, t, i + 1, rfl, isBelow t (i + 1), rfl, ?_⟩
          have e : bookB (.tuple [.int i, t, ns]) = (isBelow t (i + 1) && notesIf t ns) := rfl
          rw [e] at q
          by_cases hb : isBelow t (i + 1) = true
          · rw [if_neg (by rw [hb]; decide)]
            rw [hb, Bool.true_and] at q
            cases t with
            | int m => exact ⟨m, ns, w, j, rfl, bn, by omega, hw, q⟩
            | _ => cases hb
          · rw [if_pos (Bool.eq_false_iff.mpr hb)]
            rw [Bool.eq_false_iff.mpr hb, Bool.false_and] at q
            exact q
        | _ => exact (if_pos (by rfl)).mpr q
    · rw [if_pos (by omega)]
      have e : bookB (.tuple ds) = false := by
        unfold bookB
        split
        · rename_i h
          cases h
          exact absurd rfl hl
        · rfl
      rw [e] at q
      exact q
  | _ => exact (if_pos (by rfl)).mpr q
def f_row2 : FP := fun ds R => ∃ n d w k, ds = [.int n, d] ∧ Bd w k d ∧ k ≤ 60 ∧ w ≤ 1000 ∧ ∀ b : Bool, (b = true ↔ ∃ row : List Int, d = .tuple (row.map .int) ∧ OgM.Row n row) → R (.bool b)
theorem ok_is_row2 (T : Top wd K mg) : Def P wd K mg base 3 "is_row" s_is_row ["plots", "thing"] (spP K f_row2) := by
  have g_is_number_below := ok_is_number_below (P := P) (base := base) T
  refine Def.pure T.d_is_row sc_is_row (fun ds R h => by obtain ⟨_, _, _, _, rfl, _⟩ := h; rfl) (fun f cdv A outer s H G E ds R hG hr h => ?_)
  obtain ⟨n, d, w, k, rfl, hd, hk, hw, q⟩ := h
  refine ⟨_, _, (dss_cons (ds_if (dt_not (dt_val (de_isi .tuple rfl (by rfl) T.b_isinstance (by rfl) T.b_tuple (by decide +kernel) (dp_v 1)))) (dss_one (ds_ret de_bl)) dss_nil)
      (dss_cons (ds_if (dt_not (dt_val (de_all rfl (by rfl) (by rfl) T.b_all (DE.p (DO.d (do_lc (own := [("plot", 2)]) (by rfl) sc_is_row.nd (di_seq rfl (de_v 1)) (blkOk_by (own := [("plot", 2)]) (N := ["plots", "thing", "plot"]) (sc := defScope s_is_row) (by decide +kernel)) (fun _ _ _ _ _ => (dg_name 2 sc_is_row.nd (hf := by first | exact Or.inr rfl | exact Or.inl rfl))) ts_no (fun _ _ _ _ _ => (de_c g_is_number_below hG (hr.mono (by omega)) (by rfl) (da_cons (de_v 2) (da_cons (de_v 0) da_nil)))))))))) (dss_one (ds_ret de_bl)) dss_nil)
      (dss_one (ds_ret (de_cmp (o_eq rfl hr.units) (DE.p (de_lenSet rfl (by rfl) (by rfl) T.b_len (by rfl) T.b_set (dp_v 1))) (DE.p (de_len rfl (by rfl) T.b_len (dp_v 1)))))))), ?_⟩
  walk_at "s4"
  have no : (¬ ∃ ds, d = PyData.tuple ds) → R (.bool false) := fun h => q false ⟨fun z => (by cases z), fun ⟨row, e, _⟩ => absurd ⟨_, e⟩ h⟩
  cases d with
  | tuple ds =>
    rw [if_neg (by intro z; cases z)]
    obtain ⟨j, rfl, hl, hx⟩ := hd.its rfl
    have hl : ds.length ≤ w := hl
    refine ⟨rfl, ?_⟩
    refine lcD_map (ds := ds) (fun x => .bool (isBelow x n)) (by omega) (fun x hx' acc J hacc h1 => ?_) ?_
    · walk_at "s4"
      exact ⟨x, n, rfl, hacc, h1⟩
    refine ⟨ds.map fun x => isBelow x n, by rw [List.map_map]; rfl, (ds.map fun x => isBelow x n).all id, rfl, ?_⟩
    have e0 : (ds.map fun x => isBelow x n).all id = ds.all fun x => isBelow x n := by rw [List.all_map]; rfl
    rw [e0]
    by_cases hall : (ds.all fun x => isBelow x n) = true
    · rw [if_neg (by rw [hall]; decide)]
      obtain ⟨row, rfl, hr⟩ := below_ints ds (fun x hx => List.all_eq_true.mp hall x hx)
      rw [List.length_map] at hl
      walk_at "s4"
      refine ⟨row, rfl, by omega, fun cn hc1 hc2 => ?_⟩
      walk_at "s4"
      refine q _ ?_
      rw [decide_eq_true_iff, List.length_map]
      constructor
      · intro h
        exact ⟨row, rfl, hc2.mp (by omega), fun x hx => (hr x hx).1, fun x hx => (hr x hx).2⟩
      · rintro ⟨row2, e, hR⟩
        have e : row = row2 := by
          simp only [PyData.tuple.injEq] at e
          exact (List.map_inj_right (fun x y h => by simpa using h)).mp e
        subst e
        have := hc2.mpr hR.nd
        omega
    · rw [if_pos (Bool.eq_false_iff.mpr hall)]
      refine q false ⟨fun z => (by cases z), fun ⟨row, e, hR⟩ => absurd (List.all_eq_true.mpr fun x hx => ?_) hall⟩
      simp only [PyData.tuple.injEq] at e
      subst e
      obtain ⟨y, hy, rfl⟩ := List.mem_map.mp hx
      exact Bool.and_eq_true_iff.mpr ⟨decide_eq_true (hR.lo y hy), decide_eq_true (hR.hi y hy)⟩
  | _ => exact (if_pos (by rfl)).mpr (no fun ⟨_, z⟩ => by cases z)
def f_order2 : FP := fun ds R => ∃ b d p T ns w k, ds = [b, d] ∧ Bk b p T ns ∧ T ≤ 900 ∧ (∀ x ∈ ns, x.t < T) ∧ Bd w k d ∧ k ≤ 60 ∧ w ≤ 1000 ∧ ∀ b : Bool, (b = true ↔ OrdP p T ns d) → R (.bool b)
theorem ok_is_order2 (T : Top wd K mg) : Def P wd K mg base 5 "is_order" s_is_order ["journal", "thing"] (spP K f_order2) := by
  have g_is_row := ok_is_row2 (P := P) (base := base) T
  have g_untrue_times := ok_untrue_times (P := P) (base := base) T
  refine Def.pure T.d_is_order sc_is_order (fun ds R h => by obtain ⟨_, _, _, _, _, _, _, rfl, _⟩ := h; rfl) (fun f cdv A outer s H G E ds R hG hr h => ?_)
  obtain ⟨b, d, p, n, ns, w, k, rfl, hB, hT, hns, hd, hk, hw, q⟩ := h
  obtain ⟨e, he, hs1, hs2⟩ := hB.1.sq
  refine ⟨_, _, (dss_cons (ds_asg (de_v 0) (dg_tup (n := 3) rfl (by rfl) (dgs_c (dg_name 2 sc_is_order.nd) (dgs_c (dg_name 3 sc_is_order.nd) (dgs_c (dg_name 4 sc_is_order.nd) dgs_nil)))))
      (dss_one (ds_ret (de_and (de_c g_is_row hG (hr.mono (by omega)) (by rfl) (da_cons (de_v 2) (da_cons (de_v 1) da_nil))) (de_and (de_cmp (o_eq rfl hr.units) (DE.p (de_len rfl (by rfl) T.b_len (dp_v 1))) (dp_v 3)) (de_one (de_notT rfl (DE.p (de_c g_untrue_times hG (hr.mono (by omega)) (by rfl) (da_cons (de_v 4) (da_cons (de_v 1) da_nil))))))))))), ?_⟩
  walk_at "s4"
  simp only [hs1, hs2]
  walk_at "s4"
  refine ⟨p, d, w, k, rfl, hd, hk, hw, fun b1 h1 => ⟨b1, rfl, ?_⟩⟩
  by_cases hb : b1 = true
  · obtain ⟨row, rfl, hR⟩ := h1.mp hb
    rw [if_pos hb]
    refine ⟨row.length, by show some (row.map PyData.int).length = _; rw [List.length_map], ?_⟩
    by_cases hl : row.length = n
    · rw [if_pos (by omega)]
      refine ⟨e, _, row, p, ns, rfl, he, .inl rfl, hR, by omega, hB.2.2.2.2, fun x hx => by have := hns x hx; omega, ?_⟩
      walk_at "s4"
      have e1 : (!(!((ns.filter fun x => decide (truV row x.t x.v ≠ x.v)).map fun x => PyData.int (x.t : Nat)).isEmpty)) = true ↔ OrdP p n ns (.tuple (row.map .int)) := by
        rw [Bool.not_not, List.isEmpty_iff, List.map_eq_nil_iff, List.filter_eq_nil_iff]
        constructor
        · intro h
          exact ⟨row, rfl, hR, hl, fun x hx => by simpa using h x hx⟩
        · rintro ⟨row2, e, _, _, h⟩ x hx
          have e : row = row2 := by
            simp only [PyData.tuple.injEq] at e
            exact (List.map_inj_right (fun x y h => by simpa using h)).mp e
          subst e
          simpa using h x hx
      first | exact q _ e1 | exact ⟨_, rfl, q _ e1⟩
    · rw [if_neg (by omega)]
      refine q false ⟨fun z => (by cases z), fun ⟨row2, e, _, h, _⟩ => ?_⟩
      have e : row = row2 := by
        simp only [PyData.tuple.injEq] at e
        exact (List.map_inj_right (fun x y h => by simpa using h)).mp e
      subst e
      exact absurd h hl
  · rw [if_neg hb]
    exact q false ⟨fun z => (by cases z), fun ⟨row2, e, hR, _⟩ => absurd (h1.mpr ⟨row2, e, hR⟩) hb⟩
end
theorem lt_int (x y : Int) : PySem.W.dataLt (.int x) (.int y) = decide (x < y) := by
  have h := PySem.W.dataLt_ints [x] [y]
  unfold PySem.W.rowLt at h
  rw [List.map_cons, List.map_cons, List.map_nil, PySem.W.dataLt_cons (x := .int x) (y := .int y) rfl] at h
  rw [eqv_int] at h
  by_cases e : x = y
  · subst e
    rw [lt_irr]
    simp
  · rw [if_neg (by simpa using e)] at h
    rw [h]
    simp [List.cons_lt_cons_iff]
local macro_rules | `(tactic| walk_at "s5") => `(tactic| simp only [wPubO, wC, wV, wPub, wP, wCons, wTup, wLst, wL, w2, wTest, wChain, wAnd, wOr, Dw.wNot, wAndV, wOrV, wNotV, wIf, Dw.wTru, truD, gI0, gI, gEq, gNe, gIn, gIsN, gNotN, gIsB, gNotB, gCatT, gCatS, gIx, wCat, wRep, w1, w1O, gLen, gTupleOf, gListOf, wRg1, gInt, gStr, w2a, wSlT, wSlL, wSlS, wRevT, wNeg, wCall, wCallB, wName, wGNil_n, wGCons_c, wGTup, wSeq, wRng1, wEnum, wZip, wNext, wSq, wRet, wIfS, wDrop, wAsg, wOwn, wAug, wMeth, fAppend, wFor_eq, wWhile_eq, wipeD, wLc_eq, Dw.wNm, wPar, wGix, wDix, wCatP, wPopTo, fPop, fPopAt, fIns, wSetIx, gRepr, gMinT, gNeS, gRepN, wDGet2, wDPut, wTPut, wTGet, gSrtR, gLtP, wSlB, wStar, wRaise, wNmX, wXat, wXis, gEqS, wYd, wYdic, wYfn, wYg, wCallD, wCallV, wSetN, wDcT, wTGet2, wTGet1, dicAt, wRng2, wRngD, wRevR, gRevL, wAugIx, wPeekO, wPick2, wExt, fRem, look_d, look_own, shpI, shpB, shpN, shpS, seqT, seqL, itsT, itsL, lenT, lenL, okFF, eqv_str, eqv_int, eqv_bool, isNone, perm, Dt.set, Dt.sets, env0, List.map_cons, List.map_nil, List.cons_append, List.nil_append, List.getElem?_cons_zero, List.getElem?_cons_succ, List.set_cons_succ, List.set_cons_zero, List.filterMap_cons, List.filterMap_nil, Option.some.injEq, DV.d.injEq, DV.own.injEq, DV.dit.injEq, DV.dd.injEq, DV.oth.injEq, reduceCtorEq, false_or, or_false, false_and, and_false, exists_false, PyData.int.injEq, PyData.bool.injEq, PyData.str.injEq, PyData.tuple.injEq, PyData.list.injEq, List.cons.injEq, exists_eq_left, exists_eq_left', exists_eq_right, exists_eq_right', exists_and_left, exists_eq', exists_eq, and_true, true_and, and_self, and_assoc, List.length_cons, List.length_nil, List.replicate, Nat.reduceAdd, Nat.reduceSub, Nat.reduceLeDiff, Nat.zero_le, decide_eq_true_eq, Bool.not_eq_true', decide_eq_false_iff_not, ite_true, ite_false, if_true, if_false, Bool.false_eq_true, Bool.true_eq_false, eq_self, List.reduceReplicate, Bool.not_true, Bool.not_false, reduceIte])
theorem eqv_val' (row : List Int) (t : Nat) (v : NV) : (valD v).eqv (valD (truV row t v)) = decide (truV row t v = v) := by
  cases v with
  | g x =>
    show PyData.eqv (.int _) (.int _) = decide (NV.g _ = NV.g x)
    rw [eqv_int]
    simp only [NV.g.injEq]
    by_cases h : (segs (row.take (t + 1))).length = x
    · rw [decide_eq_true h, decide_eq_true (by omega)]
    · rw [decide_eq_false h, decide_eq_false (by omega)]
  | h x =>
    show PyData.eqv (.str _) (.str _) = decide (NV.h _ = NV.h x)
    rw [eqv_str]
    simp only [NV.h.injEq, wstr_inj]
    by_cases h : ((picks row)[t]?.getD (.new, 0)).1 = x
    · rw [decide_eq_true h, decide_eq_true h.symm]
    · rw [decide_eq_false h, decide_eq_false (Ne.symm h)]
section
variable {P : Program} {wd : World} {K : PySem.W.Frag} {mg : Str → Option Value} {base : Heap}
def falD (xs : List Nt) (row : List Int) : List PyData := (xs.filter fun x => decide (truV row x.t x.v ≠ x.v)).map fun x => .int (x.t : Nat)
def f_false : FP := fun ds R => ∃ p T xs row, ds = [bkT p T xs, rowT row] ∧ row.Nodup ∧ row.length ≤ 900 ∧ xs.length ≤ 1000 ∧ (∀ x ∈ xs, x.t < row.length) ∧ R (.list (falD xs row))
theorem ok_l_false (T : Top wd K mg) : Def P wd K mg base 3 "_law_false" s_l_false ["_law_book", "_law_queue_here"] (spP K f_false) := by
  have g_l_seen := ok_l_seen (P := P) (base := base) T
  refine Def.pure T.d_l_false sc_l_false (fun ds R h => by obtain ⟨_, _, _, _, rfl, _⟩ := h; rfl) (fun f cdv A outer s H G E ds R hG hr h => ?_)
  obtain ⟨p, n, xs, row, rfl, hn, hl, hx, ht, q⟩ := h
  refine ⟨_, _, (dss_cons (ds_asg (de_c g_l_seen hG (hr.mono (by omega)) (by rfl) (da_cons (de_v 1) da_nil)) (dg_tup (n := 2) rfl (by rfl) (dgs_c (dg_name 2 sc_l_false.nd) (dgs_c (dg_name 3 sc_l_false.nd) dgs_nil))))
      (dss_cons (ds_own 4 sc_l_false.nd (do_lst da_nil))
      (dss_cons (ds_for PassesOwn.never (by rfl) (di_seq rfl (de_ix rfl (dp_v 0) (DE.p de_int))) (dg_tup (n := 3) rfl (by rfl) (dgs_c (dg_name 5 sc_l_false.nd) (dgs_c (dg_name 6 sc_l_false.nd) (dgs_c (dg_name 7 sc_l_false.nd) dgs_nil))))
        (dss_one (ds_if (dt_cmp (o_ne rfl hr.units) (dp_v 7) (DE.p (de_if (dt_cmp (o_eq rfl hr.units) (dp_v 6) (DE.p de_str)) (de_ix rfl (dp_v 2) (dp_v 5)) (de_ix rfl (dp_v 3) (dp_v 5))))) (dss_one (ds_app 4 rfl (de_v 5))) dss_nil)))
      (dss_one (ds_ret (de_pub 4)))))), ?_⟩
  simp only [bkT]
  walk_at "s5"
  refine ⟨row, rfl, hn, hl, ?_⟩
  walk_at "s5"
  refine ⟨_, rfl, rfl, ?_⟩
  refine forD_by (fun i s2 => ∃ y5 y6 y7, s2 = ⟨[some (.d (bkT p n xs)), some (.d (rowT row)), some (.d (.list (cntsD row row.length))), some (.d (.list (wrdsD row row.length))), some (.own (falD (xs.take i) row)), y5, y6, y7], 0, []⟩) ⟨none, none, none, rfl⟩ (fun i d s2 J e2 inv hJ => ?_) (fun s2 inv => ?_)
  · obtain ⟨y5, y6, y7, rfl⟩ := inv
    have e2 : (xs.map ntD)[i]? = some d := e2
    rw [List.getElem?_map] at e2
    obtain ⟨x, hx2, rfl⟩ := Option.map_eq_some_iff.mp e2
    have hxt := ht x (List.mem_of_getElem? hx2)
    have hi := (List.getElem?_eq_some_iff.mp hx2).1
    have hstep : falD (xs.take (i + 1)) row = if truV row x.t x.v ≠ x.v then falD (xs.take i) row ++ [.int (x.t : Nat)] else falD (xs.take i) row := by
      unfold falD
      rw [List.take_add_one, hx2, List.filter_append, List.map_append]
      by_cases z : truV row x.t x.v = x.v <;> simp [z]
    have hlen : (falD (xs.take i) row).length < 100000 := by
      unfold falD
      rw [List.length_map]
      have := List.length_filter_le (fun x => decide (truV row x.t x.v ≠ x.v)) (xs.take i)
      rw [List.length_take] at this
      omega
    have fin : Shp (valD x.v) ∧ Shp (valD (truV row x.t x.v)) ∧ if (valD x.v).eqv (valD (truV row x.t x.v)) = false then (falD (xs.take i) row).length < 100000 ∧ J ⟨[some (.d (bkT p n xs)), some (.d (rowT row)), some (.d (.list (cntsD row row.length))), some (.d (.list (wrdsD row row.length))), some (.own (falD (xs.take i) row ++ [.int (x.t : Nat)])), some (.d (.int (x.t : Nat))), some (.d (.str (sortS x.v))), some (.d (valD x.v))], 0, []⟩
        else J ⟨[some (.d (bkT p n xs)), some (.d (rowT row)), some (.d (.list (cntsD row row.length))), some (.d (.list (wrdsD row row.length))), some (.own (falD (xs.take i) row)), some (.d (.int (x.t : Nat))), some (.d (.str (sortS x.v))), some (.d (valD x.v))], 0, []⟩ := by
      refine ⟨shp_val _, shp_val _, ?_⟩
      rw [eqv_val']
      by_cases z : truV row x.t x.v = x.v
      · rw [if_neg (by simp [z])]
        refine hJ _ ⟨some (.d (.int (x.t : Nat))), some (.d (.str (sortS x.v))), some (.d (valD x.v)), ?_⟩
        rw [hstep, if_neg (by simp [z])]
      · rw [if_pos (by simp [z])]
        refine ⟨hlen, hJ _ ⟨some (.d (.int (x.t : Nat))), some (.d (.str (sortS x.v))), some (.d (valD x.v)), ?_⟩⟩
        rw [hstep, if_pos z]
    simp only [ntD]
    walk_at "s5"
    obtain ⟨t, v⟩ := x
    cases v with
    | g x => exact ⟨shp_str _, (if_pos rfl).mpr ⟨_, cnts_at hxt, fin⟩⟩
    | h x => exact ⟨shp_str _, (if_neg (show ¬ (Str.ofString "house" = Str.ofString "groups") by decide +kernel)).mpr ⟨_, wrds_at hxt, fin⟩⟩
  · obtain ⟨y5, y6, y7, rfl⟩ := inv
    have hle : (xs.map ntD).length = xs.length := List.length_map ..
    rw [show (its (PyData.tuple (xs.map ntD))).length = xs.length from hle, List.take_length]
    walk_at "s5"
    exact q
end
local macro_rules | `(tactic| walk_at "s6") => `(tactic| simp only [gLenSetK, gSrtSetK, wPubO, wC, wV, wPub, wP, wCons, wTup, wLst, wL, w2, wTest, wChain, wAnd, wOr, Dw.wNot, wAndV, wOrV, wNotV, wIf, Dw.wTru, truD, gI0, gI, gEq, gNe, gIn, gIsN, gNotN, gIsB, gNotB, gCatT, gCatS, gIx, wCat, wRep, w1, w1O, gLen, gTupleOf, gListOf, wRg1, gInt, gStr, w2a, wSlT, wSlL, wSlS, wRevT, wNeg, wCall, wCallB, wName, wGNil_n, wGCons_c, wGTup, wSeq, wRng1, wEnum, wZip, wNext, wSq, wRet, wIfS, wDrop, wAsg, wOwn, wAug, wMeth, fAppend, wFor_eq, wWhile_eq, wipeD, wLc_eq, Dw.wNm, wPar, wGix, wDix, wCatP, wPopTo, fPop, fPopAt, fIns, wSetIx, gRepr, gMinT, gNeS, gRepN, wDGet2, wKGet, wLIdx, wDPGet, wKAug, wDcK, wDPut, wTPut, wTGet, gSrtR, gSrtA, gLtP, wSlB, wStar, wRaise, wNmX, wXat, wXis, gEqS, wYd, wYdic, wYfn, wYg, wCallD, wCallV, wSetN, wDcT, wTGet2, wTGet1, dicAt, wRng2, wRg2, wRngD, wRevR, gRevL, wAugM, gLenSetL, wAppPop, gSrtSet, wIsi, wNotT, wAugIx, wPeekO, wPick2, wExt, fRem, look_d, look_own, shpI, shpB, shpN, shpS, seqT, seqL, itsT, itsL, lenT, lenL, okFF, eqv_str, eqv_int, eqv_bool, isNone, perm, Dt.set, Dt.sets, env0, List.map_cons, List.map_nil, List.cons_append, List.nil_append, List.getElem?_cons_zero, List.getElem?_cons_succ, List.set_cons_succ, List.set_cons_zero, List.filterMap_cons, List.filterMap_nil, Option.some.injEq, DV.d.injEq, DV.own.injEq, DV.dit.injEq, DV.dd.injEq, DV.oth.injEq, reduceCtorEq, false_or, or_false, false_and, and_false, exists_false, PyData.int.injEq, PyData.bool.injEq, PyData.str.injEq, PyData.tuple.injEq, PyData.list.injEq, List.cons.injEq, exists_eq_left, exists_eq_left', exists_eq_right, exists_eq_right', exists_and_left, exists_eq', exists_eq, and_true, true_and, and_self, and_assoc, List.length_cons, List.length_nil, List.replicate, Nat.reduceAdd, Nat.reduceSub, Nat.reduceLeDiff, Nat.zero_le, decide_eq_true_eq, Bool.not_eq_true', decide_eq_false_iff_not, ite_true, ite_false, if_true, if_false, Bool.false_eq_true, Bool.true_eq_false, eq_self, List.reduceReplicate, Bool.not_true, Bool.not_false, reduceIte])
theorem valB_h {s v : PyData} (h : PyData.eqv s (.str "house") = true) : valB s v = wordD v := by
  have := eqv_strs h
  subst this
  rfl
theorem valB_n {s v : PyData} (h : ¬ PyData.eqv s (.str "house") = true) : valB s v = if PyData.eqv s (.str "groups") = true then ge1 v else false := by
  unfold valB
  rw [Bool.eq_false_iff.mpr h, Bool.false_and]
def headP (h : Int × Bool) : PyData := .tuple [.int h.1, .str (gS h.2)]
def headK (h : Int × Bool) : List Key := [.inl h.1, .inr (gS h.2)]
theorem gS_inj {a b : Bool} (h : gS a = gS b) : a = b := by
  cases a <;> cases b <;> first | rfl | exact absurd h (by decide)
theorem headK_inj {a b : Int × Bool} (h : headK a = headK b) : a = b := by
  obtain ⟨a1, a2⟩ := a
  obtain ⟨b1, b2⟩ := b
  simp only [headK, List.cons.injEq, Sum.inl.injEq, Sum.inr.injEq, and_true] at h
  rw [h.1, gS_inj h.2]
theorem headP_inj {a b : Int × Bool} (h : headP a = headP b) : a = b := by
  obtain ⟨a1, a2⟩ := a
  obtain ⟨b1, b2⟩ := b
  simp only [headP, PyData.tuple.injEq, List.cons.injEq, PyData.int.injEq, PyData.str.injEq, and_true] at h
  rw [h.1, gS_inj h.2]
theorem headP_tri {a b : Int × Bool} (h : a ≠ b) : PySem.W.dataLt (headP a) (headP b) = true ∨ PySem.W.dataLt (headP b) (headP a) = true := by
  obtain ⟨a1, a2⟩ := a
  obtain ⟨b1, b2⟩ := b
  unfold headP
  rw [PySem.W.dataLt_pair rfl rfl, PySem.W.dataLt_pair rfl rfl]
  simp only [eqv_int, eqv_str, lt_int, decide_eq_true_eq]
  by_cases e : a1 = b1
  · subst e
    rw [if_pos rfl, if_pos rfl]
    have hne : a2 ≠ b2 := fun z => h (by rw [z])
    cases a2 <;> cases b2 <;> first | exact absurd rfl hne | decide +kernel
  · rw [if_neg e, if_neg (Ne.symm e)]
    rcases Int.lt_or_gt_of_ne e with h1 | h1
    · exact .inl (decide_eq_true h1)
    · exact .inr (decide_eq_true h1)
theorem lt_tr {a b c : PyData} (h1 : PySem.W.dataLt a b = true) (h2 : PySem.W.dataLt b c = true) : PySem.W.dataLt a c = true := lex_trans _ _ _ h1 h2
theorem chain_pw : ∀ l : List PyData, ((l.zip (l.drop 1)).all fun p => PySem.W.dataLt p.1 p.2) = true → l.Pairwise fun a b => PySem.W.dataLt a b = true
  | [], _ => .nil
  | [a], _ => List.pairwise_singleton ..
  | a :: b :: l, h => by
    have h : (PySem.W.dataLt a b && (((b :: l).zip l).all fun p => PySem.W.dataLt p.1 p.2)) = true := h
    obtain ⟨h1, h2⟩ := Bool.and_eq_true_iff.mp h
    have ih := chain_pw (b :: l) h2
    refine List.pairwise_cons.mpr ⟨fun x hx => ?_, ih⟩
    rcases List.mem_cons.mp hx with rfl | hx
    · exact h1
    · exact lt_tr h1 ((List.pairwise_cons.mp ih).1 x hx)
theorem pw_chain {l : List PyData} (h : l.Pairwise fun a b => PySem.W.dataLt a b = true) : ((l.zip (l.drop 1)).all fun p => PySem.W.dataLt p.1 p.2) = true := by
  refine List.all_eq_true.mpr fun z hz => ?_
  obtain ⟨i, hi, e⟩ := List.getElem_of_mem hz
  rw [List.getElem_zip] at e
  subst e
  rw [List.length_zip, List.length_drop] at hi
  have := List.pairwise_iff_getElem.mp h i (i + 1) (by omega) (by omega) (by omega)
  simp only [List.getElem_drop, Nat.add_comm 1 i]
  exact this
theorem srt_heads (hs : List (Int × Bool)) : SrtOk (hs.map headP) := by
  refine ⟨fun d hd d' hd' => ?_, .inl fun d hd => ?_, fun d hd => ?_⟩
  · obtain ⟨a, _, rfl⟩ := List.mem_map.mp hd
    obtain ⟨b, _, rfl⟩ := List.mem_map.mp hd'
    rfl
  · obtain ⟨a, _, rfl⟩ := List.mem_map.mp hd
    exact ⟨_, _, rfl⟩
  · obtain ⟨a, _, rfl⟩ := List.mem_map.mp hd
    show PyData.depth (.tuple [.int a.1, .str (gS a.2)]) ≤ 60
    simp only [PyData.depth, PyData.depthAll]
    decide
theorem few_len {kss : List (List Key)} (h : kss.length ≤ 306) : FewK kss := fun l hl hm => Nat.le_trans (hl.length_le_of_subset hm) h
theorem once_of (l : List (List Key)) : ∃ r : List (List Key), r.Nodup ∧ ∀ x, x ∈ r ↔ x ∈ l := by
  induction l with
  | nil => exact ⟨[], .nil, fun x => Iff.rfl⟩
  | cons a l ih =>
    obtain ⟨r, h1, h2⟩ := ih
    by_cases h : a ∈ r
    · refine ⟨r, h1, fun x => ?_⟩
      rw [h2, List.mem_cons]
      exact ⟨.inr, fun z => z.elim (fun e => by rw [e]; exact (h2 a).mp h) id⟩
    · exact ⟨a :: r, List.nodup_cons.mpr ⟨h, h1⟩, fun x => by rw [List.mem_cons, List.mem_cons, h2]⟩
theorem nums_ints : ∀ ds : List PyData, (∀ x ∈ ds, isNum x = true) → ∃ row : List Int, ds = row.map .int
  | [], _ => ⟨[], rfl⟩
  | d :: ds, h => by
    obtain ⟨row, rfl⟩ := nums_ints ds fun x hx => h x (.tail _ hx)
    have h1 := h d (.head _)
    cases d with
    | int i => exact ⟨i :: row, rfl⟩
    | _ => cases h1
theorem shp_intsL {α : Type} {l : List α} (f : α → Int) : Shp (.list (l.map fun x => PyData.int (f x))) := by
  have h := shp_ints (l.map f)
  rw [List.map_map] at h
  exact h
theorem shp_heads (hs : List (Int × Bool)) : Shp (.list (hs.map headP)) := by
  refine Bool.and_eq_true_iff.mpr ⟨?_, decide_eq_true ?_⟩
  · simp only [PyData.canLay0]
    refine canAll fun d hd => ?_
    obtain ⟨x, _, rfl⟩ := List.mem_map.mp hd
    show PyData.canLay0 (.tuple [.int x.1, .str (gS x.2)]) = true
    simp only [PyData.canLay0]
    exact canAll fun d hd => by
      simp only [List.mem_cons, List.not_mem_nil, or_false] at hd
      rcases hd with rfl | rfl
      · rfl
      · show PyData.strOk (gS x.2) = true
        cases x.2 <;> decide +kernel
  · simp only [PyData.depth]
    have := depAll (ds := hs.map headP) (n := 1) fun d hd => by
      obtain ⟨x, _, rfl⟩ := List.mem_map.mp hd
      show PyData.depth (.tuple [.int x.1, .str (gS x.2)]) ≤ 1
      simp only [PyData.depth, PyData.depthAll]
      decide
    omega
theorem heads_of : ∀ ds : List PyData, (∀ x ∈ ds, noteB x = true) → ∃ hs : List (Int × Bool), ds.map headD = hs.map headP
  | [], _ => ⟨[], rfl⟩
  | d :: ds, h => by
    obtain ⟨hs, e⟩ := heads_of ds fun x hx => h x (.tail _ hx)
    obtain ⟨i, b, v, rfl, _, _⟩ := note_is (h d (.head _))
    refine ⟨(i, b) :: hs, ?_⟩
    rw [List.map_cons, List.map_cons, e]
    rfl
theorem chain_heads {ds : List PyData} {hs : List (Int × Bool)} (e : ds.map headD = hs.map headP) : chainB ds = (((hs.map headP).zip ((hs.map headP).drop 1)).all fun p => PySem.W.dataLt p.1 p.2) := by
  rw [← e, ← List.map_drop, List.zip_map, List.all_map]
  rfl
theorem eqv_heads (hs ls : List (Int × Bool)) : PyData.eqv (.list (hs.map headP)) (.list (ls.map headP)) = decide (hs = ls) := by
  show PyData.eqvAll _ _ = _
  induction hs generalizing ls with
  | nil => cases ls <;> rfl
  | cons a hs ih =>
    cases ls with
    | nil => rfl
    | cons b ls =>
      rw [List.map_cons, List.map_cons, PyData.eqvAll, ih]
      have e : PyData.eqv (headP a) (headP b) = decide (a = b) := by
        obtain ⟨a1, a2⟩ := a
        obtain ⟨b1, b2⟩ := b
        simp only [headP, PyData.eqv, PyData.eqvAll, Bool.and_true]
        by_cases h1 : a1 = b1
        · subst h1
          cases a2 <;> cases b2 <;> simp <;> decide
        · simp [h1]
      rw [e]
      by_cases h1 : a = b <;> by_cases h2 : hs = ls <;> simp [h1, h2]
theorem srt_of (hs : List (Int × Bool)) : ∃ ls : List (Int × Bool), srtA (hs.map headP) = ls.map headP := by
  have h1 : (srtA (hs.map headP)).Perm (hs.map headP) := List.mergeSort_perm _ _
  have key : ∀ l : List PyData, (∀ d ∈ l, ∃ h, d = headP h) → ∃ ls : List (Int × Bool), l = ls.map headP := fun l => by
    induction l with
    | nil => exact fun _ => ⟨[], rfl⟩
    | cons d l ih =>
      intro h
      obtain ⟨ls, rfl⟩ := ih fun x hx => h x (.tail _ hx)
      obtain ⟨a, rfl⟩ := h d (.head _)
      exact ⟨a :: ls, rfl⟩
  obtain ⟨ls, e⟩ := key _ fun d hd => by
    obtain ⟨a, _, rfl⟩ := List.mem_map.mp (h1.mem_iff.mp hd)
    exact ⟨a, rfl⟩
  exact ⟨ls, e⟩
theorem heads_iff {ds : List PyData} {hs ls : List (Int × Bool)} (e : ds.map headD = hs.map headP) (h1 : srtA (hs.map headP) = ls.map headP) {l : List (List Key)} (hl : l.Nodup) (hm : ∀ x, x ∈ l ↔ x ∈ hs.map headK) : chainB ds = (decide (hs = ls) && decide (l.length = hs.length)) := by
  rw [chain_heads e]
  have hn : l.length = hs.length ↔ hs.Nodup := by
    constructor
    · intro h
      refine List.nodup_iff_count.mpr fun a => Nat.le_of_not_lt fun h2 => ?_
      have h3 : a ∈ hs.erase a := List.count_pos_iff.mp (by rw [List.count_erase_self]; omega)
      have h4 : ∀ x ∈ l, x ∈ (hs.erase a).map headK := fun x hx => by
        obtain ⟨b, hb, rfl⟩ := List.mem_map.mp ((hm x).mp hx)
        refine List.mem_map.mpr ⟨b, ?_, rfl⟩
        by_cases z : b = a
        · rw [z]; exact h3
        · exact (List.mem_erase_of_ne z).mpr hb
      have h5 := hl.length_le_of_subset h4
      have ha : a ∈ hs := List.mem_of_mem_erase h3
      have := List.length_pos_of_mem ha
      rw [List.length_map, List.length_erase_of_mem ha] at h5
      omega
    · intro h
      have h2 : (hs.map headK).Nodup := List.pairwise_map.mpr (h.imp fun {a b} n z => n (headK_inj z))
      have := (List.perm_ext_iff_of_nodup hl h2).mpr hm
      rw [this.length_eq, List.length_map]
  rw [Bool.eq_iff_iff, Bool.and_eq_true_iff, decide_eq_true_iff, decide_eq_true_iff, hn]
  constructor
  · intro h
    have hp := chain_pw _ h
    have h2 := srtA_eq (List.Perm.refl _) hp
    rw [h1] at h2
    refine ⟨(List.map_inj_right fun a b z => headP_inj z).mp h2.symm, ?_⟩
    exact (List.pairwise_map.mp hp).imp fun {a b} h z => by rw [z, lt_irr] at h; cases h
  · rintro ⟨rfl, h⟩
    refine pw_chain (List.pairwise_map.mpr ?_)
    have h2 : (hs.map headP).Pairwise fun a b => leA a b = true := by
      rw [← h1]
      exact PySem.W.sort_pairwise leA_total _
    refine (List.pairwise_map.mp h2).imp₂ (fun a b h3 h4 => ?_) h
    rcases headP_tri h4 with h5 | h5
    · exact h5
    · unfold leA at h3
      rw [h5] at h3
      cases h3
section
variable {P : Program} {wd : World} {K : PySem.W.Frag} {mg : Str → Option Value} {base : Heap} {c : Nat → Addr}
def f_lnote : FP := fun ds R => ∃ T d w k, ds = [.int T, d] ∧ Bd w k d ∧ k ≤ 60 ∧ R (.bool (noteB d && tBelow T d))
theorem ok_l_is_note (T : Top wd K mg) : Def P wd K mg base 2 "_law_is_note" s_l_is_note ["_law_size", "_law_matter"] (spP K f_lnote) := by
  have g_l_is_int := ok_l_is_int (P := P) (base := base) T
  refine Def.pure T.d_l_is_note sc_l_is_note (fun ds R h => by obtain ⟨_, _, _, _, rfl, _⟩ := h; rfl) (fun f cdv A outer s H G E ds R hG hr h => ?_)
  obtain ⟨n, d, w, k, rfl, hd, hk, q⟩ := h
  refine ⟨_, _, (dss_cons (ds_if (DW.q (dw_or (dt_not (dt_val (de_isi .tuple rfl (by rfl) T.b_isinstance (by rfl) T.b_tuple (by decide +kernel) (dp_v 1)))) (dw_or (dt_cmp (o_ne rfl hr.units) (DE.p (de_len rfl (by rfl) T.b_len (dp_v 1))) (DE.p de_int)) (dw_or (dt_not (dt_val (de_c g_l_is_int hG (hr.mono (by omega)) (by rfl) (da_cons (de_ix rfl (dp_v 1) (DE.p de_int)) da_nil)))) (dw_or1 (dt_not (dt_chain o_le o_lt (DE.p de_int) (DE.p (de_ix rfl (dp_v 1) (DE.p de_int))) (dp_v 0)))))))) (dss_one (ds_ret de_bl)) dss_nil)
      (dss_cons (ds_if (dt_cmp (o_eq rfl hr.units) (DE.p (de_ix rfl (dp_v 1) (DE.p de_int))) (DE.p de_str)) (dss_one (ds_ret (de_and (de_isi .str rfl (by rfl) T.b_isinstance (by rfl) T.b_str (by decide +kernel) (DE.p (de_ix rfl (dp_v 1) (DE.p de_int)))) (de_one (de_cmp (o_in rfl (u65 hr)) (DE.p (de_ix rfl (dp_v 1) (DE.p de_int))) (DE.p (de_tup (da_cons de_str (da_cons de_str (da_cons de_str da_nil)))))))))) dss_nil)
      (dss_one (ds_ret (de_and (de_cmp (o_eq rfl hr.units) (DE.p (de_ix rfl (dp_v 1) (DE.p de_int))) (DE.p de_str)) (de_and (de_c g_l_is_int hG (hr.mono (by omega)) (by rfl) (da_cons (de_ix rfl (dp_v 1) (DE.p de_int)) da_nil)) (de_one (de_cmp o_ge (DE.p (de_ix rfl (dp_v 1) (DE.p de_int))) (DE.p de_int))))))))), ?_⟩
  walk_at "s6"
  cases d with
  | tuple ds =>
    rw [if_neg (by intro z; cases z)]
    refine ⟨ds.length, rfl, ?_⟩
    by_cases hl : ds.length = 3
    · rw [if_neg (by omega)]
      match ds, hl with
      | [t, s, v], _ =>
        obtain ⟨j, rfl, _, hx⟩ := hd.its rfl
        have bs : Bd w j s := hx s (by simp [its])
        have bv : Bd w j v := hx v (by simp [its])
        refine ⟨rfl, t, rfl, t, rfl, isNum t, rfl, ?_⟩
        cases t with
        | int i =>
          refine (if_neg (by intro z; cases z)).mpr ⟨rfl, .int i, rfl, i, rfl, ?_⟩
          have e : (noteB (.tuple [.int i, s, v]) && tBelow n (.tuple [.int i, s, v])) = ((decide (0 ≤ i) && valB s v) && decide (i < n)) := rfl
          rw [e] at q
          by_cases h0 : 0 ≤ i
          · rw [decide_eq_true h0, Bool.true_and] at q
            refine (if_pos h0).mpr ⟨i, rfl, ?_⟩
            by_cases hn : i < n
            · rw [decide_eq_true hn, Bool.and_true] at q
              refine (if_neg (fun z => z hn)).mpr ⟨rfl, s, rfl, bs.shp (by omega), ?_⟩
              by_cases hh : PyData.eqv s (.str "house") = true
              · rw [valB_h hh] at q
                refine (if_pos hh).mpr ⟨rfl, v, rfl, ?_⟩
                cases v with
                | str z =>
                  refine (if_pos (by rfl)).mpr ⟨rfl, .str z, rfl, bv.shp (by omega), shp_words, ?_⟩
                  rw [any_words, Bool.false_xor]
                  exact q
                | _ => exact (if_neg (by intro z; cases z)).mpr q
              · rw [valB_n hh] at q
                refine (if_neg hh).mpr ⟨rfl, s, rfl, bs.shp (by omega), ?_⟩
                by_cases hg : PyData.eqv s (.str "groups") = true
                · rw [if_pos hg] at q ⊢
                  refine ⟨rfl, v, rfl, v, rfl, isNum v, rfl, ?_⟩
                  cases v with
                  | int m =>
                    refine (if_pos (by rfl)).mpr ?_
                    exact ⟨rfl, .int m, rfl, m, rfl, q⟩
                  | _ => exact (if_neg (by intro z; cases z)).mpr q
                · rw [if_neg hg] at q ⊢
                  exact q
            · rw [decide_eq_false hn, Bool.and_false] at q
              exact (if_pos hn).mpr q
          · rw [decide_eq_false h0, Bool.false_and, Bool.false_and] at q
            exact (if_neg h0).mpr q
        | _ => exact (if_pos (by rfl)).mpr q
    · rw [if_pos (by omega)]
      have e : noteB (.tuple ds) = false := by
        unfold noteB
        split
        · rename_i h
          cases h
          exact absurd rfl hl
        · rfl
      rw [e, Bool.false_and] at q
      exact q
  | _ => exact (if_pos (by rfl)).mpr q
def f_lbook : FP := fun ds R => ∃ d w k, ds = [d] ∧ Bd w k d ∧ k ≤ 60 ∧ w ≤ 300 ∧ R (.bool (bookB d))
theorem ok_l_is_book (T : Top wd K mg) : Def P wd K mg base 3 "_law_is_book" s_l_is_book ["_law_matter"] (spP K f_lbook) := by
  have g_l_is_int := ok_l_is_int (P := P) (base := base) T
  have g_l_is_note := ok_l_is_note (P := P) (base := base) T
  refine Def.pure T.d_l_is_book sc_l_is_book (fun ds R h => by obtain ⟨_, _, _, rfl, _⟩ := h; rfl) (fun f cdv A outer s H G E ds R hG hr h => ?_)
  obtain ⟨d, w, k, rfl, hd, hk, hw, q⟩ := h
  refine ⟨_, _, (dss_cons (ds_if (DW.q (dw_or (dt_not (dt_val (de_isi .tuple rfl (by rfl) T.b_isinstance (by rfl) T.b_tuple (by decide +kernel) (dp_v 0)))) (dw_or (dt_cmp (o_ne rfl hr.units) (DE.p (de_len rfl (by rfl) T.b_len (dp_v 0))) (DE.p de_int)) (dw_or (dt_not (dt_val (de_c g_l_is_int hG (hr.mono (by omega)) (by rfl) (da_cons (de_ix rfl (dp_v 0) (DE.p de_int)) da_nil)))) (dw_or1 (dt_not (dt_val (de_c g_l_is_int hG (hr.mono (by omega)) (by rfl) (da_cons (de_ix rfl (dp_v 0) (DE.p de_int)) da_nil))))))))) (dss_one (ds_ret de_bl)) dss_nil)
      (dss_cons (ds_if (DW.q (dw_or (dt_not (dt_chain o_le o_le (DE.p de_int) (DE.p (de_ix rfl (dp_v 0) (DE.p de_int))) (DE.p (de_ix rfl (dp_v 0) (DE.p de_int))))) (dw_or1 (dt_not (dt_val (de_isi .tuple rfl (by rfl) T.b_isinstance (by rfl) T.b_tuple (by decide +kernel) (DE.p (de_ix rfl (dp_v 0) (DE.p de_int))))))))) (dss_one (ds_ret de_bl)) dss_nil)
      (dss_cons (ds_if (dt_not (dt_val (de_all rfl (by rfl) (by rfl) T.b_all (DE.p (DO.d (do_lc (own := [("_law_part", 2)]) (by rfl) sc_l_is_book.nd (di_seq rfl (de_ix rfl (dp_v 0) (DE.p de_int))) (blkOk_by (own := [("_law_part", 2)]) (N := ["_law_matter", "_law_heads", "_law_part"]) (sc := defScope s_l_is_book) (by decide +kernel)) (fun _ _ _ _ _ => (dg_name 2 sc_l_is_book.nd (hf := by first | exact Or.inr rfl | exact Or.inl rfl))) ts_no (fun _ _ _ _ _ => (de_c g_l_is_note hG (hr.mono (by omega)) (by rfl) (da_cons (de_ix rfl (dp_v 0) (DE.p de_int)) (da_cons (de_v 2) da_nil)))))))))) (dss_one (ds_ret de_bl)) dss_nil)
      (dss_cons (ds_setLc 1 (own := [("_law_part", 2)]) (by rfl) sc_l_is_book.nd rfl rfl (sw_true rfl rfl rfl (by decide +kernel)) (di_seq rfl (de_ix rfl (dp_v 0) (DE.p de_int))) (blkOk_by (own := [("_law_part", 2)]) (N := ["_law_matter", "_law_heads", "_law_part"]) (sc := defScope s_l_is_book) (by decide +kernel)) (fun _ _ _ _ _ => (dg_name 2 sc_l_is_book.nd (hf := by first | exact Or.inr rfl | exact Or.inl rfl))) ts_no (fun _ _ _ _ _ => (de_slT rfl (dp_v 2) do_none (do_some de_int))))
      (dss_one (ds_ret (de_and (de_cmp (o_eq rfl hr.units) (dp_v 1) (DE.p (DO.d (do_srtA rfl hr.units (by rfl) T.b_sorted (dp_v 1))))) (de_one (de_cmp (o_eq rfl hr.units) (DE.p (de_lenSetK rfl (by rfl) hr.units (by rfl) T.b_len (by rfl) T.b_set (dp_v 1))) (DE.p (de_len rfl (by rfl) T.b_len (dp_v 1)))))))))))), ?_⟩
  walk_at "s6"
  cases d with
  | tuple ds =>
    rw [if_neg (by intro z; cases z)]
    refine ⟨ds.length, rfl, ?_⟩
    by_cases hl : ds.length = 3
    · rw [if_neg (by omega)]
      match ds, hl with
      | [p, t, ns], _ =>
        obtain ⟨j, rfl, _, hx⟩ := hd.its rfl
        have bn : Bd w j ns := hx ns (by simp [its])
        refine ⟨rfl, p, rfl, p, rfl, isNum p, rfl, ?_⟩
        have e : ∀ i : Int, bookB (.tuple [.int i, t, ns]) = (isBelow t (i + 1) && notesIf t ns) := fun i => rfl
        cases p with
        | int i =>
          rw [e] at q
          refine (if_neg (by intro z; cases z)).mpr ⟨rfl, t, rfl, t, rfl, isNum t, rfl, ?_⟩
          cases t with
          | int m =>
            refine (if_neg (by intro z; cases z)).mpr ⟨rfl, .int m, rfl, m, rfl, ?_⟩
            have e2 : (isBelow (.int m) (i + 1) && notesIf (.int m) ns) = ((decide (0 ≤ m) && decide (m < i + 1)) && notesB m ns) := rfl
            rw [e2] at q
            by_cases h0 : 0 ≤ m
            · rw [decide_eq_true h0, Bool.true_and] at q
              refine (if_pos h0).mpr ⟨rfl, .int i, rfl, m, rfl, i, rfl, ?_⟩
              by_cases h1 : m ≤ i
              · rw [decide_eq_true (show m < i + 1 by omega), Bool.true_and] at q
                refine (if_neg (fun z => z h1)).mpr ⟨rfl, ns, rfl, ?_⟩
                cases ns with
                | tuple ns =>
                  refine (if_neg (by intro z; cases z)).mpr ?_
                  obtain ⟨j2, rfl, hnl, hnx⟩ := bn.its rfl
                  have hnl : ns.length ≤ w := hnl
                  have hnx : ∀ x ∈ ns, Bd w j2 x := hnx
                  have e3 : notesB m (.tuple ns) = ((ns.all fun x => noteB x && tBelow m x) && chainB ns) := rfl
                  rw [e3] at q
                  refine ⟨rfl, _, rfl, rfl, ?_⟩
                  refine lcD_map (ds := ns) (fun x => .bool (noteB x && tBelow m x)) (by omega) (fun x hx' acc J hacc h1 => ?_) ?_
                  · walk_at "s6"
                    exact ⟨_, rfl, m, x, w, j2, rfl, hnx x hx', by omega, hacc, h1⟩
                  refine ⟨ns.map fun x => noteB x && tBelow m x, by rw [List.map_map]; rfl, (ns.map fun x => noteB x && tBelow m x).all id, rfl, ?_⟩
                  have e0 : (ns.map fun x => noteB x && tBelow m x).all id = ns.all fun x => noteB x && tBelow m x := by rw [List.all_map]; rfl
                  rw [e0]
                  by_cases hall : (ns.all fun x => noteB x && tBelow m x) = true
                  · rw [if_neg (by rw [hall]; decide)]
                    rw [hall, Bool.true_and] at q
                    have hnote : ∀ x ∈ ns, noteB x = true := fun x hx => (Bool.and_eq_true_iff.mp (List.all_eq_true.mp hall x hx)).1
                    obtain ⟨hs, eh⟩ := heads_of ns hnote
                    obtain ⟨ls, el⟩ := srt_of hs
                    have hsl : hs.length = ns.length := by
                      have := congrArg List.length eh
                      rw [List.length_map, List.length_map] at this
                      exact this.symm
                    walk_at "s6"
                    refine ⟨_, rfl, rfl, ?_⟩
                    refine lcD_map (ds := ns) headD (by omega) (fun x hx' acc J hacc h1 => ?_) ?_
                    · obtain ⟨i1, b1, v1, rfl, _, _⟩ := note_is (hnote x hx')
                      walk_at "s6"
                      exact ⟨hacc, h1⟩
                    rw [eh]
                    walk_at "s6"
                    refine ⟨srt_heads hs, shp_heads hs, by rw [el]; exact shp_heads ls, ?_⟩
                    rw [el, eqv_heads]
                    by_cases hq : hs = ls
                    · rw [if_pos (decide_eq_true hq)]
                      refine ⟨hs.map headK, by rw [List.map_map]; rfl, few_len (by rw [List.length_map]; omega), fun l hl hm => ?_⟩
                      rw [heads_iff eh el hl hm, decide_eq_true hq, Bool.true_and] at q
                      rw [List.length_map]
                      have e4 : decide ((l.length : Int) = ((hs.length : Nat) : Int)) = decide (l.length = hs.length) := decide_eq_decide.mpr ⟨fun h => by omega, fun h => by omega⟩
                      rw [e4]
                      exact q
                    · rw [if_neg (by rw [decide_eq_false hq]; decide)]
                      obtain ⟨l, hl, hm⟩ := once_of (hs.map headK)
                      rw [heads_iff eh el hl hm, decide_eq_false hq, Bool.false_and] at q
                      exact q
                  · rw [if_pos (Bool.eq_false_iff.mpr hall)]
                    rw [Bool.eq_false_iff.mpr hall, Bool.false_and] at q
                    exact q
                | _ => exact (if_pos (by rfl)).mpr q
              · rw [decide_eq_false (show ¬ m < i + 1 by omega), Bool.false_and] at q
                exact (if_pos h1).mpr q
            · rw [decide_eq_false h0, Bool.false_and, Bool.false_and] at q
              exact (if_neg h0).mpr q
          | _ => exact (if_pos (by rfl)).mpr q
        | _ => exact (if_pos (by rfl)).mpr q
    · rw [if_pos (by omega)]
      have e : bookB (.tuple ds) = false := by
        unfold bookB
        split
        · rename_i h
          cases h
          exact absurd rfl hl
        · rfl
      rw [e] at q
      exact q
  | _ => exact (if_pos (by rfl)).mpr q
def f_lorder : FP := fun ds R => ∃ d p T xs w k, ds = [bkT p T xs, d] ∧ T ≤ 900 ∧ xs.length ≤ 1000 ∧ (∀ x ∈ xs, x.t < T) ∧ Bd w k d ∧ k ≤ 60 ∧ w ≤ 1000 ∧ ∀ b : Bool, (b = true ↔ OrdP p T xs d) → R (.bool b)
theorem ok_l_is_order (T : Top wd K mg) : Def P wd K mg base 4 "_law_is_order" s_l_is_order ["_law_book", "_law_matter"] (spP K f_lorder) := by
  have g_l_is_int := ok_l_is_int (P := P) (base := base) T
  have g_l_false := ok_l_false (P := P) (base := base) T
  refine Def.pure T.d_l_is_order sc_l_is_order (fun ds R h => by obtain ⟨_, _, _, _, _, _, rfl, _⟩ := h; rfl) (fun f cdv A outer s H G E ds R hG hr h => ?_)
  obtain ⟨d, p, n, xs, w, k, rfl, hT, hxl, hxs, hd, hk, hw, q⟩ := h
  refine ⟨_, _, (dss_cons (ds_if (DW.q (dw_or (dt_not (dt_val (de_isi .tuple rfl (by rfl) T.b_isinstance (by rfl) T.b_tuple (by decide +kernel) (dp_v 1)))) (dw_or (dt_cmp (o_ne rfl hr.units) (DE.p (de_len rfl (by rfl) T.b_len (dp_v 1))) (DE.p (de_ix rfl (dp_v 0) (DE.p de_int)))) (dw_or1 (dt_not (dt_val (de_all rfl (by rfl) (by rfl) T.b_all (DE.p (DO.d (do_lc (own := [("_law_plot", 2)]) (by rfl) sc_l_is_order.nd (di_seq rfl (de_v 1)) (blkOk_by (own := [("_law_plot", 2)]) (N := ["_law_book", "_law_matter", "_law_plot"]) (sc := defScope s_l_is_order) (by decide +kernel)) (fun _ _ _ _ _ => (dg_name 2 sc_l_is_order.nd (hf := by first | exact Or.inr rfl | exact Or.inl rfl))) ts_no (fun _ _ _ _ _ => (de_c g_l_is_int hG (hr.mono (by omega)) (by rfl) (da_cons (de_v 2) da_nil))))))))))))) (dss_one (ds_ret de_bl)) dss_nil)
      (dss_cons (ds_if (DW.q (dw_or (dt_cmp (o_ne rfl hr.units) (DE.p (de_lenSet rfl (by rfl) (by rfl) T.b_len (by rfl) T.b_set (dp_v 1))) (DE.p (de_len rfl (by rfl) T.b_len (dp_v 1)))) (dw_or1 (dt_not (dt_val (de_all rfl (by rfl) (by rfl) T.b_all (DE.p (DO.d (do_lc (own := [("_law_plot", 2)]) (by rfl) sc_l_is_order.nd (di_seq rfl (de_v 1)) (blkOk_by (own := [("_law_plot", 2)]) (N := ["_law_book", "_law_matter", "_law_plot"]) (sc := defScope s_l_is_order) (by decide +kernel)) (fun _ _ _ _ _ => (dg_name 2 sc_l_is_order.nd (hf := by first | exact Or.inr rfl | exact Or.inl rfl))) ts_no (fun _ _ _ _ _ => (de_chain o_le o_lt (DE.p de_int) (dp_v 2) (DE.p (de_ix rfl (dp_v 0) (DE.p de_int)))))))))))))) (dss_one (ds_ret de_bl)) dss_nil)
      (dss_one (ds_ret (de_cmp (o_eq rfl hr.units) (DE.p (de_c g_l_false hG (hr.mono (by omega)) (by rfl) (da_cons (de_v 0) (da_cons (de_v 1) da_nil)))) (DE.p (DO.d (do_lst da_nil)))))))), ?_⟩
  walk_at "s6"
  have no : (¬ ∃ row : List Int, d = PyData.tuple (row.map .int) ∧ OgM.Row (p : Nat) row ∧ row.length = n) → R (.bool false) := fun h => q false ⟨fun z => (by cases z), fun ⟨row, e, h1, h2, _⟩ => absurd ⟨row, e, h1, h2⟩ h⟩
  cases d with
  | tuple ds =>
    rw [if_neg (by intro z; cases z)]
    obtain ⟨j, rfl, hl, hx⟩ := hd.its rfl
    have hl : ds.length ≤ w := hl
    refine ⟨ds.length, rfl, rfl, _, rfl, shp_int _, ?_⟩
    rw [eqv_int]
    by_cases hn : ds.length = n
    · rw [if_neg (by rw [decide_eq_true (show (ds.length : Int) = ((n : Nat) : Int) by omega)]; decide)]
      refine ⟨rfl, ?_⟩
      refine lcD_map (ds := ds) (fun x => .bool (isNum x)) (by omega) (fun x hx' acc J hacc h1 => ?_) ?_
      · walk_at "s6"
        exact ⟨x, rfl, hacc, h1⟩
      refine ⟨ds.map fun x => isNum x, by rw [List.map_map]; rfl, (ds.map fun x => isNum x).all id, rfl, ?_⟩
      have e0 : (ds.map fun x => isNum x).all id = ds.all fun x => isNum x := by rw [List.all_map]; rfl
      rw [e0]
      by_cases hall : (ds.all fun x => isNum x) = true
      · rw [if_neg (by rw [hall]; decide)]
        obtain ⟨row, rfl⟩ := nums_ints ds (fun x hx => List.all_eq_true.mp hall x hx)
        rw [List.length_map] at hl hn
        walk_at "s6"
        refine ⟨row, rfl, by omega, fun cn hc1 hc2 => ?_⟩
        walk_at "s6"
        have hinj : ∀ row2 : List Int, PyData.tuple (row.map .int) = .tuple (row2.map .int) → row = row2 := fun row2 e => by
          simp only [PyData.tuple.injEq] at e
          exact (List.map_inj_right (fun x y h => by simpa using h)).mp e
        rw [List.length_map]
        by_cases hcn : cn = row.length
        · rw [if_neg (fun z => z (by rw [hcn]))]
          have hnd := hc2.mp hcn
          refine lcD_encM row PyData.int (fun x => .bool (decide (0 ≤ x) && decide (x < (p : Int)))) (by omega) (fun x hx' acc J hacc h1 => ?_) ?_
          · walk_at "s6"
            by_cases h0 : 0 ≤ x
            · rw [decide_eq_true h0, Bool.true_and] at h1
              refine (if_pos h0).mpr ⟨rfl, _, rfl, (p : Int), rfl, hacc, h1⟩
            · rw [decide_eq_false h0, Bool.false_and] at h1
              exact (if_neg h0).mpr ⟨hacc, h1⟩
          refine ⟨row.map fun x => decide (0 ≤ x) && decide (x < (p : Int)), by rw [List.map_map]; rfl, (row.map fun x => decide (0 ≤ x) && decide (x < (p : Int))).all id, rfl, ?_⟩
          have e1 : (row.map fun x => decide (0 ≤ x) && decide (x < (p : Int))).all id = row.all fun x => decide (0 ≤ x) && decide (x < (p : Int)) := by rw [List.all_map]; rfl
          rw [e1]
          by_cases hb : (row.all fun x => decide (0 ≤ x) && decide (x < (p : Int))) = true
          · rw [if_neg (by rw [hb]; decide)]
            have hR : OgM.Row (p : Nat) row := ⟨hnd, fun x hx => of_decide_eq_true (Bool.and_eq_true_iff.mp (List.all_eq_true.mp hb x hx)).1, fun x hx => of_decide_eq_true (Bool.and_eq_true_iff.mp (List.all_eq_true.mp hb x hx)).2⟩
            walk_at "s6"
            refine ⟨p, n, xs, row, rfl, hnd, by omega, hxl, fun x hx => by have := hxs x hx; omega, shp_intsL _, rfl, ?_⟩
            rw [eqv_nilL]
            refine q _ ?_
            unfold falD
            rw [List.isEmpty_iff, List.map_eq_nil_iff, List.filter_eq_nil_iff]
            constructor
            · intro h
              exact ⟨row, rfl, hR, hn, fun x hx => by simpa using h x hx⟩
            · rintro ⟨row2, e, _, _, h⟩ x hx
              obtain rfl := hinj row2 e
              simpa using h x hx
          · rw [if_pos (Bool.eq_false_iff.mpr hb)]
            refine no fun ⟨row2, e, hR, _⟩ => hb (List.all_eq_true.mpr fun x hx => ?_)
            obtain rfl := hinj row2 e
            exact Bool.and_eq_true_iff.mpr ⟨decide_eq_true (hR.lo x hx), decide_eq_true (hR.hi x hx)⟩
        · rw [if_pos (fun z => hcn (by omega))]
          refine no fun ⟨row2, e, hR, _⟩ => hcn ?_
          obtain rfl := hinj row2 e
          exact hc2.mpr hR.nd
      · rw [if_pos (Bool.eq_false_iff.mpr hall)]
        refine no fun ⟨row, e, _, _⟩ => absurd (List.all_eq_true.mpr fun x hx => ?_) hall
        simp only [PyData.tuple.injEq] at e
        subst e
        obtain ⟨y, hy, rfl⟩ := List.mem_map.mp hx
        rfl
    · rw [if_pos (decide_eq_false (show ¬ (ds.length : Int) = ((n : Nat) : Int) by omega))]
      refine no fun ⟨row, e, _, h⟩ => ?_
      simp only [PyData.tuple.injEq] at e
      subst e
      rw [List.length_map] at hn
      exact hn h
  | _ => exact (if_pos (by rfl)).mpr (no fun ⟨_, z, _⟩ => by cases z)
end
local macro_rules | `(tactic| walk_at "d") => `(tactic| first
  | refine ⟨_, rfl, ?_⟩ | refine ⟨_, _, rfl, rfl, ?_⟩ | refine iteT ?_ | refine iteF ?_ | refine ⟨_, _, rfl, rfl, rfl, ?_⟩ | refine ⟨rfl, ?_⟩)
def ods : List PyData := [.none, .bool true, .bool false, .int (-1), .int 0, .int 1, .str "", .str "new", .tuple [], .list [], .tuple [.int 0], .list [.int 0], .tuple [.str "new", .int 0], .tuple [.int 0, .str "groups", .int 1], .int (10 ^ 30)]
theorem lf_new {b : Nat} : Lf b (.str "new") := ⟨sok "new", by decide +kernel⟩
theorem lf_groups {b : Nat} : Lf b (.str "groups") := ⟨sok "groups", by decide +kernel⟩
theorem lf_empty {b : Nat} : Lf b (.str "") := ⟨sok "", by decide +kernel⟩
theorem lf_i {b : Nat} {i : Int} (h : i.natAbs ≤ 1000000) : Lf b (.int i) := Nat.le_trans h (by omega)
theorem ods_ok {b w k : Nat} (hw : 3 ≤ w) : ∀ x ∈ ods, Sm b w (k + 1) 2000 x := by
  intro x hx
  have i0 : Lv b w k (.int 0) := .flat (lf_i (by decide))
  have i1 : Lv b w k (.int 1) := .flat (lf_i (by decide))
  have n0 : Lv b w k (.str "new") := .flat lf_new
  have g0 : Lv b w k (.str "groups") := .flat lf_groups
  unfold ods at hx
  simp only [List.mem_cons, List.not_mem_nil, or_false] at hx
  rcases hx with rfl | rfl | rfl | rfl | rfl | rfl | rfl | rfl | rfl | rfl | rfl | rfl | rfl | rfl | rfl
  · exact .leaf trivial (by decide)
  · exact .leaf trivial (by decide)
  · exact .leaf trivial (by decide)
  · exact .leaf (lf_i (by decide)) (by decide)
  · exact .leaf (lf_i (by decide)) (by decide)
  · exact .leaf (lf_i (by decide)) (by decide)
  · exact .leaf lf_empty (by decide)
  · exact .leaf lf_new (by decide)
  · exact .tup (fun x hx => absurd hx (by simp)) (Nat.zero_le _) (by simp [TwA])
  · exact .lst (fun x hx => absurd hx (by simp)) (Nat.zero_le _) (by simp [TwA])
  · exact .tup (fun x hx => by simp only [List.mem_cons, List.not_mem_nil, or_false] at hx; subst hx; exact i0) (by simp; omega) (by simp [TwA, Tw])
  · exact .lst (fun x hx => by simp only [List.mem_cons, List.not_mem_nil, or_false] at hx; subst hx; exact i0) (by simp; omega) (by simp [TwA, Tw])
  · exact .tup (fun x hx => by simp only [List.mem_cons, List.not_mem_nil, or_false] at hx; rcases hx with rfl | rfl <;> assumption) (by simp; omega) (by simp [TwA, Tw])
  · exact .tup (fun x hx => by simp only [List.mem_cons, List.not_mem_nil, or_false] at hx; rcases hx with rfl | rfl | rfl <;> assumption) (by simp; omega) (by simp [TwA, Tw])
  · have h30 : (10 ^ 30 : Int).natAbs ≤ 10 ^ 30 + b := by
      have : (10 ^ 30 : Int).natAbs = 10 ^ 30 := by decide
      rw [this]
      exact Nat.le_add_right _ _
    exact .leaf h30 (by decide)
section
variable {P : Program} {wd : World} {K : PySem.W.Frag} {mg : Str → Option Value} {base : Heap}
def f_bent (k : Nat) : FB := fun ds c R => ∃ d b w L, ds = [d] ∧ Sm b w k L d ∧ b ≤ 900 ∧ 3 ≤ w ∧ w ≤ 900 ∧ c + 2 * k ≤ 900000 ∧ ∀ d' c', Sm (b + 1) (w + 1) (k + 1) (2 * L + 2000) d' → c' ≤ c + 2 * (k + 1) → R d' c'
def f_bentS : Nat → FB
  | 0 => fun _ _ _ => False
  | k + 1 => f_bent k
theorem bent_step (T : Top wd K mg) {k : Nat} (hk : k ≤ 50) (g_l_bent : Def P wd K mg base (k + 2) "_law_bent" s_l_bent ["_law_box_here", "_law_part"] (spB K (f_bentS k))) :
    Def P wd K mg base (k + 3) "_law_bent" s_l_bent ["_law_box_here", "_law_part"] (spB K (f_bent k)) := by
  have g_l_take := ok_l_take (P := P) (base := base) T
  have g_l_of := ok_l_of (P := P) (base := base) T
  refine Def.draws T.d_l_bent sc_l_bent (fun ds c R h => by obtain ⟨_, _, _, _, rfl, _⟩ := h; rfl) (fun f cdv A outer s H G l E ds c R hG hr h => ?_)
  obtain ⟨d, b, w, L, rfl, hd, hb, hw3, hw, hc, q⟩ := h
  refine ⟨_, _, (dss_cons (ds_set 2 sc_l_bent.nd (de_cB 0 g_l_take hG (hr.mono (by omega)) (by rfl) (da_cons de_int da_nil)))
      (dss_cut (ds_if (DW.q (dw_and (dt_val (de_isi2 .tuple .list rfl (by rfl) T.b_isinstance (by rfl) T.b_tuple (by decide +kernel) (by rfl) T.b_list (by decide +kernel) (dp_v 1))) (dw_and (dt_cmp o_gt (DE.p (de_len rfl (by rfl) T.b_len (dp_v 1))) (DE.p de_int)) (dw_and1 (dt_cmp o_gt (dp_v 2) (DE.p de_int)))))) (dss_cons (ds_par2 3 4 (by rfl) sc_l_bent.nd (dx_cons (DE.dx (de_cB 0 g_l_take hG (hr.mono (by omega)) (by rfl) (da_cons (de_len rfl (by rfl) T.b_len (dp_v 1)) da_nil))) (dx_cons (DO.dx (do_listOf rfl (by rfl) T.b_list (dp_v 1))) dx_nil)))
        (dss_cut (ds_if (dt_cmp (o_eq rfl hr.units) (dp_v 2) (DE.p de_int)) (dss_one (ds_popA 4 rfl (de_v 3))) (dss_one (ds_if (dt_cmp (o_eq rfl hr.units) (dp_v 2) (DE.p de_int)) (dss_one (ds_insA 4 rfl (de_v 3) (de_ix rfl (dp_v 4) (dp_v 3)))) (dss_one (ds_sub 4 (de_cB 0 g_l_bent hG (hr.mono (by omega)) (by rfl) (da_cons (de_ix rfl (dp_v 4) (dp_v 3)) da_nil)) (de_v 3))))))
        (dss_one (ds_ret (de_if (dt_val (de_isi .tuple rfl (by rfl) T.b_isinstance (by rfl) T.b_tuple (by decide +kernel) (dp_v 1))) (de_tupleOf rfl (by rfl) T.b_tuple (dp_v 4)) (de_pub 4)))))) dss_nil)
      (dss_cut (ds_if (DW.q (dw_and (dt_cmp (o_eq rfl hr.units) (dp_v 2) (DE.p de_int)) (dw_and1 (dt_val (de_isi2 .tuple .list rfl (by rfl) T.b_isinstance (by rfl) T.b_tuple (by decide +kernel) (by rfl) T.b_list (by decide +kernel) (dp_v 1)))))) (dss_one (ds_ret (de_if (dt_val (de_isi .tuple rfl (by rfl) T.b_isinstance (by rfl) T.b_tuple (by decide +kernel) (dp_v 1))) (DO.d (do_listOf rfl (by rfl) T.b_list (dp_v 1))) (de_tupleOf rfl (by rfl) T.b_tuple (dp_v 1))))) dss_nil)
      (dss_cons (ds_own 5 sc_l_bent.nd (do_lst (da_cons de_non (da_cons de_bl (da_cons de_bl (da_cons (de_neg de_int) (da_cons de_int (da_cons de_int (da_cons de_str (da_cons de_str (da_cons (de_tup da_nil) (da_cons (DO.d (do_lst da_nil)) (da_cons (de_tup (da_cons de_int da_nil)) (da_cons (DO.d (do_lst (da_cons de_int da_nil))) (da_cons (de_tup (da_cons de_str (da_cons de_int da_nil))) (da_cons (de_tup (da_cons de_int (da_cons de_str (da_cons de_int da_nil)))) (da_cons (de_bin o_pow (DE.p de_int) (DE.p de_int)) da_nil)))))))))))))))))
      (dss_cut (ds_if (DW.q (dw_and (dt_val (de_isi .int rfl (by rfl) T.b_isinstance (by rfl) T.b_int (by decide +kernel) (dp_v 1))) (dw_and1 (dt_not (dt_val (de_isi .bool rfl (by rfl) T.b_isinstance (by rfl) T.b_bool (by decide +kernel) (dp_v 1))))))) (dss_one (ds_own 5 sc_l_bent.nd (do_catP rfl (dp_v 5) (DE.p (DO.d (do_lst (da_cons (de_bin o_add (dp_v 1) (DE.p de_int)) (da_cons (de_bin o_sub (dp_v 1) (DE.p de_int)) (da_cons (de_bin o_add (dp_v 1) (DE.p de_int)) (da_cons (de_toStr (by rfl) T.b_str (dp_v 1)) da_nil)))))))))) dss_nil)
      (dss_one (ds_ret (de_cB 0 g_l_of hG (hr.mono (by omega)) (by rfl) (da_cons (de_pub 5) da_nil))))))))), ?_⟩
  have hk2 : (0 : Int) ≤ k := Int.natCast_nonneg k
  refine ⟨rfl, 6, rfl, by decide, by decide, (show c < 1000000 by omega), fun way c1 hw0 hw6 hc1 => ?_⟩
  have hc1' : c1 ≤ c + 1 := hc1
  refine ⟨fun s2 => s2 = ⟨[some .box, some (.d d), some (.d (.int way)), none, none, none], c1, []⟩, ?_, fun s2 hs2 => ?_⟩
  · have nx : (fun s2 : Dt => s2 = ⟨[some .box, some (.d d), some (.d (.int way)), none, none, none], c1, []⟩) ⟨[some .box, some (.d d), some (.d (.int way)), none, none, none], c1, []⟩ := rfl
    cases d with
    | tuple ds =>
      obtain ⟨j, rfl, hl, hx⟩ := hd.lv.its rfl
      have hl : ds.length ≤ w := hl
      have hx : ∀ x ∈ ds, Lv b w j x := hx
      have ht := hd.tw
      simp only [Tw] at ht
      refine ⟨_, _, rfl, rfl, _, rfl, iteT ⟨_, _, rfl, rfl, ds.length, rfl, _, _, rfl, rfl, _, rfl, ?_⟩⟩
      refine ite2 (fun e1 => ?_) (fun e1 => iteF nx)
      have e1' := of_decide_eq_true e1
      refine ⟨_, _, rfl, rfl, _, _, rfl, rfl, _, rfl, ?_⟩
      refine ite2 (fun e2 => ?_) (fun e2 => nx)
      have e2' := of_decide_eq_true e2
      refine ⟨rfl, _, _, rfl, rfl, ds.length, rfl, _, rfl, by omega, by omega, (show c1 < 1000000 by omega), fun at0 c2 a0 a1 hc2 => ?_⟩
      have hc2' : c2 ≤ c1 + 1 := hc2
      obtain ⟨n, rfl⟩ := Int.eq_ofNat_of_zero_le a0
      have hn : n < ds.length := by omega
      have hat : ds[n]? = some ds[n] := List.getElem?_eq_getElem hn
      have hatI : atI ds ((n : Nat) : Int) = some ds[n] := by
        unfold atI ixN
        rw [if_pos (by omega), if_pos (by omega), Int.toNat_natCast]
        exact hat
      have hmem : ds[n] ∈ ds := List.getElem_mem hn
      have htw := twA_mem hmem
      refine ⟨_, _, rfl, rfl, rfl, rfl, ?_⟩
      refine ⟨fun s2 => ∃ es c3, s2 = ⟨[some .box, some (.d (.tuple ds)), some (.d (.int way)), some (.d (.int n)), some (.own es), none], c3, []⟩ ∧ c3 ≤ c + 2 * ((j + 1 : Nat) + 1) ∧ es.length ≤ w + 1 ∧ (∀ x ∈ es, Lv (b + 1) (w + 1) (j + 1) x) ∧ TwA es + 4 ≤ 2 * L + 2000, ?_, fun s2 hs2 => ?_⟩
      · refine ⟨_, _, rfl, rfl, shp_int _, shp_int _, _, rfl, ?_⟩
        refine ite2 (fun e3 => ?_) (fun e3 => ?_)
        · refine ⟨⟨_, rfl⟩, _, rfl, _, rfl, n, ds[n], rfl, hat, by omega, ds.eraseIdx n, c2, rfl, by omega, ?_, fun x hxm => (hx x (List.mem_of_mem_eraseIdx hxm)).up (by omega) (by omega) (by omega), ?_⟩
          · have := List.length_eraseIdx_le ds n
            omega
          · have := twA_erase ds n
            omega
        · refine ⟨_, _, rfl, rfl, shp_int _, shp_int _, _, rfl, ?_⟩
          refine ite2 (fun e4 => ?_) (fun e4 => ?_)
          · refine ⟨⟨_, rfl⟩, _, rfl, _, _, rfl, rfl, _, _, rfl, rfl, (n : Int), ds[n], rfl, rfl, hatI, _, rfl, n, ds[n], rfl, (show ds.length < 100000 by omega), by omega, ds.take n ++ [ds[n]] ++ ds.drop n, c2, rfl, by omega, ?_, fun x hxm => ?_, ?_⟩
            · rw [List.length_append, List.length_append, List.length_take, List.length_drop]
              simp
              omega
            · have : x ∈ ds := by
                simp only [List.mem_append, List.mem_singleton] at hxm
                rcases hxm with (h | h) | h
                · exact List.mem_of_mem_take h
                · rw [h]; exact hmem
                · exact List.mem_of_mem_drop h
              exact (hx x this).up (by omega) (by omega) (by omega)
            · rw [twA_app, twA_app]
              have := twA_td ds n
              simp only [TwA]
              omega
          · refine ⟨rfl, _, _, rfl, rfl, _, _, rfl, rfl, (n : Int), ds[n], rfl, rfl, hatI, ds[n], b, w, Tw ds[n], rfl, ⟨hx _ hmem, Nat.le_refl _⟩, hb, hw3, hw, (show c2 + 2 * (j : Int) ≤ 900000 by omega), fun y c3 hy hc3 => ?_⟩
            have hc3' : c3 ≤ c2 + 2 * ((j : Int) + 1) := hc3
            refine ⟨⟨_, rfl⟩, _, rfl, n, ds, rfl, rfl, hn, ds.set n y, c3, rfl, by omega, ?_, fun x hxm => ?_, ?_⟩
            · rw [List.length_set]
              omega
            · rcases List.mem_or_eq_of_mem_set hxm with h | h
              · exact (hx x h).up (by omega) (by omega) (by omega)
              · rw [h]; exact hy.lv
            · have h1 := twA_set ds n ds[n] y hat
              have h2 := hy.tw
              omega
      · obtain ⟨es, c3, rfl, hc3, hes, hlv, htwe⟩ := hs2
        exact ⟨_, _, rfl, rfl, _, rfl, iteT ⟨_, _, rfl, rfl, rfl, q _ _ (.tup hlv hes htwe) hc3⟩⟩
    | list ds =>
      obtain ⟨j, rfl, hl, hx⟩ := hd.lv.its rfl
      have hl : ds.length ≤ w := hl
      have hx : ∀ x ∈ ds, Lv b w j x := hx
      have ht := hd.tw
      simp only [Tw] at ht
      refine ⟨_, _, rfl, rfl, _, rfl, iteT ⟨_, _, rfl, rfl, ds.length, rfl, _, _, rfl, rfl, _, rfl, ?_⟩⟩
      refine ite2 (fun e1 => ?_) (fun e1 => iteF nx)
      have e1' := of_decide_eq_true e1
      refine ⟨_, _, rfl, rfl, _, _, rfl, rfl, _, rfl, ?_⟩
      refine ite2 (fun e2 => ?_) (fun e2 => nx)
      have e2' := of_decide_eq_true e2
      refine ⟨rfl, _, _, rfl, rfl, ds.length, rfl, _, rfl, by omega, by omega, (show c1 < 1000000 by omega), fun at0 c2 a0 a1 hc2 => ?_⟩
      have hc2' : c2 ≤ c1 + 1 := hc2
      obtain ⟨n, rfl⟩ := Int.eq_ofNat_of_zero_le a0
      have hn : n < ds.length := by omega
      have hat : ds[n]? = some ds[n] := List.getElem?_eq_getElem hn
      have hatI : atI ds ((n : Nat) : Int) = some ds[n] := by
        unfold atI ixN
        rw [if_pos (by omega), if_pos (by omega), Int.toNat_natCast]
        exact hat
      have hmem : ds[n] ∈ ds := List.getElem_mem hn
      have htw := twA_mem hmem
      refine ⟨_, _, rfl, rfl, rfl, rfl, ?_⟩
      refine ⟨fun s2 => ∃ es c3, s2 = ⟨[some .box, some (.d (.list ds)), some (.d (.int way)), some (.d (.int n)), some (.own es), none], c3, []⟩ ∧ c3 ≤ c + 2 * ((j + 1 : Nat) + 1) ∧ es.length ≤ w + 1 ∧ (∀ x ∈ es, Lv (b + 1) (w + 1) (j + 1) x) ∧ TwA es + 4 ≤ 2 * L + 2000, ?_, fun s2 hs2 => ?_⟩
      · refine ⟨_, _, rfl, rfl, shp_int _, shp_int _, _, rfl, ?_⟩
        refine ite2 (fun e3 => ?_) (fun e3 => ?_)
        · refine ⟨⟨_, rfl⟩, _, rfl, _, rfl, n, ds[n], rfl, hat, by omega, ds.eraseIdx n, c2, rfl, by omega, ?_, fun x hxm => (hx x (List.mem_of_mem_eraseIdx hxm)).up (by omega) (by omega) (by omega), ?_⟩
          · have := List.length_eraseIdx_le ds n
            omega
          · have := twA_erase ds n
            omega
        · refine ⟨_, _, rfl, rfl, shp_int _, shp_int _, _, rfl, ?_⟩
          refine ite2 (fun e4 => ?_) (fun e4 => ?_)
          · refine ⟨⟨_, rfl⟩, _, rfl, _, _, rfl, rfl, _, _, rfl, rfl, (n : Int), ds[n], rfl, rfl, hatI, _, rfl, n, ds[n], rfl, (show ds.length < 100000 by omega), by omega, ds.take n ++ [ds[n]] ++ ds.drop n, c2, rfl, by omega, ?_, fun x hxm => ?_, ?_⟩
            · rw [List.length_append, List.length_append, List.length_take, List.length_drop]
              simp
              omega
            · have : x ∈ ds := by
                simp only [List.mem_append, List.mem_singleton] at hxm
                rcases hxm with (h | h) | h
                · exact List.mem_of_mem_take h
                · rw [h]; exact hmem
                · exact List.mem_of_mem_drop h
              exact (hx x this).up (by omega) (by omega) (by omega)
            · rw [twA_app, twA_app]
              have := twA_td ds n
              simp only [TwA]
              omega
          · refine ⟨rfl, _, _, rfl, rfl, _, _, rfl, rfl, (n : Int), ds[n], rfl, rfl, hatI, ds[n], b, w, Tw ds[n], rfl, ⟨hx _ hmem, Nat.le_refl _⟩, hb, hw3, hw, (show c2 + 2 * (j : Int) ≤ 900000 by omega), fun y c3 hy hc3 => ?_⟩
            have hc3' : c3 ≤ c2 + 2 * ((j : Int) + 1) := hc3
            refine ⟨⟨_, rfl⟩, _, rfl, n, ds, rfl, rfl, hn, ds.set n y, c3, rfl, by omega, ?_, fun x hxm => ?_, ?_⟩
            · rw [List.length_set]
              omega
            · rcases List.mem_or_eq_of_mem_set hxm with h | h
              · exact (hx x h).up (by omega) (by omega) (by omega)
              · rw [h]; exact hy.lv
            · have h1 := twA_set ds n ds[n] y hat
              have h2 := hy.tw
              omega
      · obtain ⟨es, c3, rfl, hc3, hes, hlv, htwe⟩ := hs2
        exact ⟨_, _, rfl, rfl, _, rfl, iteF ⟨_, rfl, q _ _ (.lst hlv hes htwe) hc3⟩⟩
    | _ => (repeat walk_at "d") <;> exact nx
  · subst hs2
    refine ⟨fun s2 => s2 = ⟨[some .box, some (.d d), some (.d (.int way)), none, none, none], c1, []⟩, ?_, fun s2 hs2 => ?_⟩
    · have nx : (fun s2 : Dt => s2 = ⟨[some .box, some (.d d), some (.d (.int way)), none, none, none], c1, []⟩) ⟨[some .box, some (.d d), some (.d (.int way)), none, none, none], c1, []⟩ := rfl
      refine ⟨_, _, rfl, rfl, shp_int _, shp_int _, _, rfl, ?_⟩
      refine ite2 (fun e => ?_) (fun e => ?_)
      · cases d with
        | tuple ds =>
          refine ⟨_, _, rfl, rfl, _, rfl, iteT ⟨_, _, rfl, rfl, _, rfl, iteT ⟨_, _, rfl, rfl, rfl, q _ _ ?_ (show c1 ≤ _ by omega)⟩⟩⟩
          obtain ⟨j, rfl, hl, hx⟩ := hd.lv.its rfl
          have ht := hd.tw
          simp only [Tw] at ht
          exact .lst (fun x hxm => (hx x hxm).up (by omega) (by omega) (by omega)) (show ds.length ≤ w + 1 from Nat.le_trans hl (by omega)) (by show TwA ds + 4 ≤ _; omega)
        | list ds =>
          refine ⟨_, _, rfl, rfl, _, rfl, iteT ⟨_, _, rfl, rfl, _, rfl, iteF ⟨_, _, rfl, rfl, rfl, q _ _ ?_ (show c1 ≤ _ by omega)⟩⟩⟩
          obtain ⟨j, rfl, hl, hx⟩ := hd.lv.its rfl
          have ht := hd.tw
          simp only [Tw] at ht
          exact .tup (fun x hxm => (hx x hxm).up (by omega) (by omega) (by omega)) (show ds.length ≤ w + 1 from Nat.le_trans hl (by omega)) (by show TwA ds + 4 ≤ _; omega)
        | _ => (repeat walk_at "d") <;> exact nx
      · exact iteF nx
    · subst hs2
      have l0 : ∀ {m n : Nat}, m ≤ 1000 → m ≤ 100000 := fun {m n} h => by omega
      refine ⟨1, rfl, (show 0 ≤ 100000 by decide), (show 0 ≤ 100000 by decide), (show 1 ≤ 100000 by decide), (show 1 ≤ 100000 by decide), (show 2 ≤ 100000 by decide), (show 3 ≤ 100000 by decide), 10, 30, rfl, rfl, ⟨by decide, by decide, by decide⟩, (show 15 ≤ 100000 by decide), ?_⟩
      refine ⟨fun s2 => ∃ os, s2 = ⟨[some .box, some (.d d), some (.d (.int way)), none, none, some (.own os)], c1, []⟩ ∧ 1 ≤ os.length ∧ os.length ≤ 1000 ∧ ∀ x ∈ os, Sm (b + 1) (w + 1) (k + 1) (2 * L + 2000) x, ?_, fun s2 hs2 => ?_⟩
      · have ho : ∀ x ∈ ods, Sm (b + 1) (w + 1) (k + 1) (2 * L + 2000) x := fun x hx => (ods_ok (b := b + 1) (w := w + 1) (k := k) (by omega) x hx).up (Nat.le_refl _) (Nat.le_refl _) (Nat.le_refl _) (by omega)
        have base : (fun s2 : Dt => ∃ os, s2 = ⟨[some .box, some (.d d), some (.d (.int way)), none, none, some (.own os)], c1, []⟩ ∧ 1 ≤ os.length ∧ os.length ≤ 1000 ∧ ∀ x ∈ os, Sm (b + 1) (w + 1) (k + 1) (2 * L + 2000) x) ⟨[some .box, some (.d d), some (.d (.int way)), none, none, some (.own ods)], c1, []⟩ := ⟨ods, rfl, by decide, by decide, ho⟩
        cases d with
        | int i =>
          have hi : Lf b (.int i) := by
            cases k with
            | zero => exact hd.lv
            | succ k =>
              rcases hd.lv with h | ⟨ds, h | h, _⟩
              · exact h
              · cases h
              · cases h
          have hi : i.natAbs ≤ 10 ^ 30 + b := hi
          refine ⟨_, _, rfl, rfl, _, rfl, iteT ⟨_, _, rfl, rfl, _, rfl, iteT ⟨_, _, rfl, rfl, _, _, rfl, rfl, i, 1, rfl, rfl, _, _, rfl, rfl, i, 1, rfl, rfl, _, _, rfl, rfl, i, 1, rfl, rfl, _, _, rfl, rfl, i, rfl, ?_, (show 4 ≤ 100000 by decide), _, _, rfl, rfl, (show 19 ≤ 100000 by decide), ?_⟩⟩⟩
          · exact Nat.lt_of_le_of_lt hi (Nat.lt_of_lt_of_le (show 10 ^ 30 + b < 10 ^ 31 by omega) (Nat.le_trans (show 10 ^ 31 ≤ 2 ^ 128 by decide) (Nat.pow_le_pow_right (by decide) (by decide))))
          · refine ⟨ods ++ [.int (i + 1), .int (i - 1), .int (i + 1), .str (toString i)], rfl, by simp [ods], by simp [ods], fun x hx => ?_⟩
            rcases List.mem_append.mp hx with hx | hx
            · exact ho x hx
            · simp only [List.mem_cons, List.not_mem_nil, or_false] at hx
              rcases hx with rfl | rfl | rfl | rfl
              · exact .leaf (show (i + 1).natAbs ≤ 10 ^ 30 + (b + 1) by omega) (by omega)
              · exact .leaf (show (i - 1).natAbs ≤ 10 ^ 30 + (b + 1) by omega) (by omega)
              · exact .leaf (show (i + 1).natAbs ≤ 10 ^ 30 + (b + 1) by omega) (by omega)
              · exact .leaf (lf_digits (by omega) hi) (by omega)
        | _ => (repeat walk_at "d") <;> exact ⟨by decide, by decide, ho⟩
      · obtain ⟨os, rfl, h1, h2, h3⟩ := hs2
        refine ⟨rfl, os, rfl, .list os, rfl, rfl, h1, h2, (show c1 < 1000000 by omega), fun x c' hx hc' => q x c' (h3 x hx) ?_⟩
        have hc2 : c' ≤ c1 + 1 := hc'
        omega
theorem ok_l_bent (T : Top wd K mg) : ∀ k, k ≤ 50 → Def P wd K mg base (k + 3) "_law_bent" s_l_bent ["_law_box_here", "_law_part"] (spB K (f_bent k))
  | 0, h => bent_step T h (Def.no T.d_l_bent fun vs H Q E h => by
      obtain ⟨l, vs', G, ds, c, R, _, _, _, _, _, h, _⟩ := h
      exact h)
  | k + 1, h => bent_step T h (ok_l_bent T k (by omega))
end
local macro_rules | `(tactic| walk_at "s7") => `(tactic| simp only [wPubO, wC, wV, wPub, wP, wCons, wTup, wLst, wL, w2, wTest, wChain, wAnd, wOr, Dw.wNot, wAndV, wOrV, wNotV, wIf, Dw.wTru, truD, gI0, gI, gEq, gNe, gIn, gIsN, gNotN, gIsB, gNotB, gCatT, gCatS, gIx, wCat, wRep, w1, w1O, gLen, gTupleOf, gListOf, wRg1, gInt, gStr, w2a, wSlT, wSlL, wSlS, wRevT, wNeg, wCall, wCallB, wName, wGNil_n, wGCons_c, wGTup, wSeq, wRng1, wEnum, wZip, wNext, wSq, wRet, wIfS, wDrop, wAsg, wOwn, wAug, wMeth, fAppend, wFor_eq, wWhile_eq, wipeD, wLc_eq, Dw.wNm, wPar, wGix, wDix, wCatP, wPopTo, fPop, fPopAt, fIns, wSetIx, gRepr, gMinT, gNeS, gRepN, wDGet2, wDPut, wTPut, wTGet, gSrtR, gSrtA, gLtP, wSlB, wStar, wRaise, wNmX, wXat, wXis, gEqS, wYd, wYdic, wYfn, wYg, wCallD, wCallV, wSetN, wDcT, wTGet2, wTGet1, dicAt, wRng2, wRngD, wRevR, gRevL, wAppPop, gSrtSet, wIsi, wNotT, wAugIx, wPeekO, wPick2, wExt, fRem, look_d, look_own, shpI, shpB, shpN, shpS, seqT, seqL, itsT, itsL, lenT, lenL, okFF, eqv_str, eqv_int, eqv_bool, isNone, perm, Dt.set, Dt.sets, env0, List.map_cons, List.map_nil, List.cons_append, List.nil_append, List.getElem?_cons_zero, List.getElem?_cons_succ, List.set_cons_succ, List.set_cons_zero, List.filterMap_cons, List.filterMap_nil, Option.some.injEq, DV.d.injEq, DV.own.injEq, DV.dit.injEq, DV.dd.injEq, DV.oth.injEq, reduceCtorEq, false_or, or_false, false_and, and_false, exists_false, PyData.int.injEq, PyData.bool.injEq, PyData.str.injEq, PyData.tuple.injEq, PyData.list.injEq, List.cons.injEq, exists_eq_left, exists_eq_left', exists_eq_right, exists_eq_right', exists_and_left, exists_eq', exists_eq, and_true, true_and, and_self, and_assoc, List.length_cons, List.length_nil, List.replicate, Nat.reduceAdd, Nat.reduceSub, Nat.reduceLeDiff, Nat.zero_le, decide_eq_true_eq, Bool.not_eq_true', decide_eq_false_iff_not, ite_true, ite_false, if_true, if_false, Bool.false_eq_true, Bool.true_eq_false, eq_self, List.reduceReplicate, Bool.not_true, Bool.not_false, reduceIte])
section
variable {P : Program} {wd : World} {K : PySem.W.Frag} {mg : Str → Option Value} {base : Heap} {c : Nat → Addr}
def f_jof : FP := fun ds R => ∃ (n : Nat) (d : PyData) (row : List Int), ds = [.int (n : Nat), d] ∧ IsR d row ∧ OgM.Row (n : Nat) row ∧ row.length ≤ 900 ∧ R (bkT n row.length (gNotes row))
theorem ok_journal_of (T : Top wd K mg) : Def P wd K mg base 3 "journal_of" s_journal_of ["plots", "row"] (spP K f_jof) := by
  have g_groups := ok_groups (P := P) (base := base) T
  refine Def.pure T.d_journal_of sc_journal_of (fun ds R h => by obtain ⟨_, _, _, rfl, _⟩ := h; rfl) (fun f cdv A outer s H G E ds R hG hr h => ?_)
  obtain ⟨n, d, row, rfl, hd, hR, hl, q⟩ := h
  refine ⟨_, _, (dss_cons (ds_setLc 2 (own := [("time", 3), ("many", 4)]) (by rfl) sc_journal_of.nd rfl rfl (sw_true rfl rfl rfl (by decide +kernel)) (di_enum rfl (by rfl) T.b_enumerate (de_c g_groups hG (hr.mono (by omega)) (by rfl) (da_cons (de_v 1) da_nil))) (blkOk_by (own := [("time", 3), ("many", 4)]) (N := ["plots", "row", "notes", "time", "many"]) (sc := defScope s_journal_of) (by decide +kernel)) (fun _ _ _ _ _ => (dg_tup (n := 2) rfl (by rfl) (dgs_c (dg_name 3 sc_journal_of.nd (hf := by first | exact Or.inr rfl | exact Or.inl rfl)) (dgs_c (dg_name 4 sc_journal_of.nd (hf := by first | exact Or.inr rfl | exact Or.inl rfl)) dgs_nil)))) ts_no (fun _ _ _ _ _ => (de_tup (da_cons (de_v 3) (da_cons de_str (da_cons (de_v 4) da_nil))))))
      (dss_one (ds_ret (de_tup (da_cons (de_v 0) (da_cons (de_len rfl (by rfl) T.b_len (dp_v 1)) (da_cons (de_tupleOf rfl (by rfl) T.b_tuple (dp_v 2)) da_nil))))))), ?_⟩
  walk_at "s7"
  refine ⟨_, row, n, rfl, hd, hR, hl, rfl, ?_⟩
  have een : enumD (its (PyData.tuple (cntT row))) = (gNotes row).map fun x => PyData.tuple [.int (x.t : Nat), valD x.v] := by
    refine List.ext_getElem? fun i => ?_
    unfold enumD gNotes
    rw [List.getElem?_map, List.getElem?_mapIdx, List.getElem?_map]
    show Option.map _ (cntT row)[i]? = _
    unfold cntT
    rw [List.getElem?_map]
    cases h : (List.range row.length)[i]? with
    | none => rfl
    | some j =>
      have : j = i := by
        obtain ⟨h1, h2⟩ := List.getElem?_eq_some_iff.mp h
        rw [List.getElem_range] at h2
        exact h2.symm
      subst this
      rfl
  have hgl : (gNotes row).length = row.length := by unfold gNotes; rw [List.length_map, List.length_range]
  rw [een]
  refine lcD_encM (gNotes row) _ ntD (by omega) (fun x hx acc J hacc hJ => ?_) ?_
  · obtain ⟨t, _, rfl⟩ := List.mem_map.mp hx
    walk_at "s7"
    exact ⟨hacc, hJ⟩
  · walk_at "s7"
    have : lenD d = some row.length := by rcases hd with rfl | rfl <;> (show some (row.map PyData.int).length = _; rw [List.length_map])
    exact ⟨_, this, q⟩
end
def ntH (x : Nt) : PyData := .tuple [.int (x.t : Nat), .str (sortS x.v)]
theorem lt_head {x y : Nt} (h : nLt x y) : PySem.W.dataLt (ntH x) (ntH y) = true := by
  have al : PySem.W.alike (.int (x.t : Nat)) (.int (y.t : Nat)) = true := rfl
  unfold ntH
  rw [PySem.W.dataLt_tuple, PySem.W.dataLt_cons al]
  rcases h with h | ⟨h1, h2⟩
  · rw [if_neg (by rw [eqv_int]; simp; omega), lt_int]
    exact decide_eq_true (by omega)
  · rw [if_pos (by rw [eqv_int, h1]; exact decide_eq_true rfl)]
    obtain ⟨t, v⟩ := x
    obtain ⟨s, w⟩ := y
    cases v <;> cases w
    · exact absurd h2 (Nat.lt_irrefl 0)
    · show PyProof.Rows.lexLt itemOrd (PySem.W.keyToksAll [PyData.str (Str.ofString "groups")]) (PySem.W.keyToksAll [PyData.str (Str.ofString "house")]) = true
      decide +kernel
    · exact absurd h2 (Nat.not_lt_zero 1)
    · exact absurd h2 (Nat.lt_irrefl 1)
theorem hd_nt (x : Nt) : hdD (ntD x) = ntH x := rfl
theorem nLt_irr {x : Nt} : ¬ nLt x x := fun h => by
  rcases h with h | h
  · exact Nat.lt_irrefl _ h
  · exact Nat.lt_irrefl _ h.2
theorem val_al (v : NV) : PySem.W.alikeAll [valD v] [valD v] = true := by cases v <;> rfl
theorem ord_ne : ∀ {v w : NV}, vOrd v < vOrd w → sortS v = sortS w → False
  | .g _, .g _, h, _ => Nat.lt_irrefl 0 h
  | .g _, .h _, _, e => absurd (show ("groups" : Str) = "house" from e) (by decide)
  | .h _, .g _, h, _ => Nat.not_lt_zero 1 h
  | .h _, .h _, h, _ => Nat.lt_irrefl 1 h
def bkL (p T : Nat) (xs : List Nt) : PyData := .list [.int (p : Nat), .int (T : Nat), .list (xs.map ntL)]
theorem flb_nat {n : Nat} (h : n ≤ 1000) : FlB (.int n) := by show (n : Int).natAbs ≤ _; omega
theorem flb_wd (w : Wd) : FlB (.str (wstr w)) := by cases w <;> exact ⟨sok _, by decide +kernel⟩
theorem flb_sort (v : NV) : FlB (.str (sortS v)) := by
  cases v
  · exact ⟨sok "groups", (show (reprText "groups").length ≤ 400 by decide +kernel)⟩
  · exact ⟨sok "house", (show (reprText "house").length ≤ 400 by decide +kernel)⟩
/-- times and numbers are small -/
structure NSm (xs : List Nt) : Prop where
  t : ∀ x ∈ xs, x.t ≤ 1000
  v : ∀ x ∈ xs, FlB (valD x.v)
  l : xs.length ≤ 100
  b : ∀ x ∈ xs, ∀ i : Int, valD x.v = .int i → i.natAbs ≤ 1000
theorem NSm.flb {xs : List Nt} (h : NSm xs) {x : Nt} (hx : x ∈ xs) : FlB (valD x.v) := h.v x hx
theorem bd_bkT {n k : Nat} {xs : List Nt} (hn : n ≤ 1000) (hk : k ≤ 1000) (h : NSm xs) : Bd 100 3 (bkT n k xs) := bd_tup (show 3 ≤ 100 by decide) fun x hx => by
  simp only [List.mem_cons, List.not_mem_nil, or_false] at hx
  rcases hx with rfl | rfl | rfl
  · exact .flat (flb_nat hn)
  · exact .flat (flb_nat hk)
  · refine bd_tup (by rw [List.length_map]; exact h.l) fun x hx => ?_
    obtain ⟨m, hm, rfl⟩ := List.mem_map.mp hx
    refine bd_tup (show 3 ≤ 100 by decide) fun x hx => ?_
    simp only [List.mem_cons, List.not_mem_nil, or_false] at hx
    rcases hx with rfl | rfl | rfl
    · exact .flat (flb_nat (h.t m hm))
    · exact .flat (flb_sort _)
    · exact .flat (h.flb hm)
theorem sn_small {row : List Int} {k : Nat} {xs : List Nt} (h : Sn row k xs) (hk : k ≤ 40) (hl : row.length = k) : NSm xs := by
  refine ⟨fun x hx => by have := (h.tru x hx).1; omega, fun x hx => ?_, by have := h.len; omega, fun x hx i hi => ?_⟩
  rotate_left
  · cases hv : x.v with
    | h w => rw [hv] at hi; cases hi
    | g n =>
      rw [hv] at hi
      have hi : PyData.int (n : Nat) = .int i := hi
      injection hi with hi
      have h1 := (h.tru x hx).2
      rw [hv] at h1
      have h1 : NV.g (segs (row.take (x.t + 1))).length = NV.g n := h1
      injection h1 with h1
      have := segs_len (row.take (x.t + 1))
      rw [List.length_take] at this
      omega
  cases hv : x.v with
  | h w => exact flb_wd w
  | g n =>
    have h1 := (h.tru x hx).2
    rw [hv] at h1
    have h1 : NV.g (segs (row.take (x.t + 1))).length = NV.g n := h1
    injection h1 with h1
    have := segs_len (row.take (x.t + 1))
    rw [List.length_take] at this
    exact flb_nat (by omega)
structure Uni (T : Nat) (xs : List Nt) : Prop where
  t : ∀ x ∈ xs, x.t < T
  u : ∀ x ∈ xs, ∀ y ∈ xs, x.t = y.t → sortS x.v = sortS y.v → x = y
def encN (x : Nt) : NT := (((x.t : Nat) : Int), sortS x.v, valD x.v)
theorem encN_inj {x y : Nt} (h : encN x = encN y) : x = y := by
  obtain ⟨t, v⟩ := x
  obtain ⟨s, w⟩ := y
  unfold encN at h
  injection h with h1 h2
  injection h2 with h2 h3
  have h1 : (t : Int) = (s : Int) := h1
  have e : t = s := by omega
  subst e
  cases v with
  | g a =>
    cases w with
    | g b =>
      have h3 : PyData.int (a : Nat) = PyData.int (b : Nat) := h3
      injection h3 with h3
      have : a = b := by omega
      rw [this]
    | h b => cases h3
  | h a =>
    cases w with
    | g b => cases h3
    | h b =>
      have h3 : PyData.str (wstr a) = PyData.str (wstr b) := h3
      injection h3 with h3
      rw [wstr_inj] at h3
      rw [h3]
theorem enc_all : ∀ {ns : List NT}, (∀ m ∈ ns, NOk m) → ∃ xs : List Nt, ns = xs.map encN
  | [], _ => ⟨[], rfl⟩
  | m :: ns, h => by
    obtain ⟨xs, rfl⟩ := enc_all fun k hk => h k (List.mem_cons_of_mem _ hk)
    obtain ⟨x, hx⟩ := (h m (List.mem_cons_self ..)).nt
    exact ⟨x :: xs, by rw [hx]; rfl⟩
local macro_rules | `(tactic| walk_at "s8") => `(tactic| simp only [wPubO, wC, wV, wPub, wP, wCons, wTup, wLst, wL, w2, wTest, wChain, wAnd, wOr, Dw.wNot, wAndV, wOrV, wNotV, wIf, Dw.wTru, truD, gI0, gI, gEq, gNe, gIn, gIsN, gNotN, gIsB, gNotB, gCatT, gCatS, gIx, wCat, wRep, w1, w1O, gLen, gTupleOf, gListOf, wRg1, gInt, gStr, w2a, wSlT, wSlL, wSlS, wRevT, wNeg, wCall, wCallB, wName, wGNil_n, wGCons_c, wGTup, wSeq, wRng1, wEnum, wZip, wNext, wSq, wRet, wIfS, wDrop, wAsg, wOwn, wAug, wMeth, fAppend, wFor_eq, wWhile_eq, wipeD, wLc_eq, Dw.wNm, wPar, wGix, wDix, wCatP, wPopTo, fPop, fPopAt, fIns, wSetIx, gRepr, gMinT, gNeS, gRepN, wDGet2, wDPut, wTPut, wTGet, gSrtR, gSrtA, gLtP, wSlB, wStar, wRaise, wNmX, wXat, wXis, gEqS, wYd, wYdic, wYfn, wYg, wCallD, wCallV, wSetN, wDcT, wTGet2, wTGet1, dicAt, wRng2, wRngD, wRevR, gRevL, wAugM, gLenSetL, wAppPop, gSrtSet, wIsi, wNotT, wAugIx, wPeekO, wPick2, wExt, fRem, look_d, look_own, shpI, shpB, shpN, shpS, seqT, seqL, itsT, itsL, lenT, lenL, okFF, eqv_str, eqv_int, eqv_bool, isNone, perm, Dt.set, Dt.sets, env0, List.map_cons, List.map_nil, List.cons_append, List.nil_append, List.getElem?_cons_zero, List.getElem?_cons_succ, List.set_cons_succ, List.set_cons_zero, List.filterMap_cons, List.filterMap_nil, Option.some.injEq, DV.d.injEq, DV.own.injEq, DV.dit.injEq, DV.dd.injEq, DV.oth.injEq, reduceCtorEq, false_or, or_false, false_and, and_false, exists_false, PyData.int.injEq, PyData.bool.injEq, PyData.str.injEq, PyData.tuple.injEq, PyData.list.injEq, List.cons.injEq, exists_eq_left, exists_eq_left', exists_eq_right, exists_eq_right', exists_and_left, exists_eq', exists_eq, and_true, true_and, and_self, and_assoc, List.length_cons, List.length_nil, List.replicate, Nat.reduceAdd, Nat.reduceSub, Nat.reduceLeDiff, Nat.zero_le, decide_eq_true_eq, Bool.not_eq_true', decide_eq_false_iff_not, ite_true, ite_false, if_true, if_false, Bool.false_eq_true, Bool.true_eq_false, eq_self, List.reduceReplicate, Bool.not_true, Bool.not_false, reduceIte])
/-- a journal's notes -/
structure JOk (k : Nat) (xs : List Nt) : Prop where
  t : ∀ x ∈ xs, x.t < k
  rise : xs.Pairwise nLt
  sm : NSm xs
theorem rise_uni {xs : List Nt} (h : xs.Pairwise nLt) : ∀ x ∈ xs, ∀ y ∈ xs, x.t = y.t → sortS x.v = sortS y.v → x = y := fun x hx y hy e1 e2 => by
  rcases pw_mem h x hx y hy with e | e | e
  · exact e
  · rcases e with e | e
    · omega
    · exact (ord_ne e.2 e2).elim
  · rcases e with e | e
    · omega
    · exact (ord_ne e.2 e2.symm).elim
theorem JOk.uni {k : Nat} {xs : List Nt} (h : JOk k xs) : Uni k xs := ⟨h.t, rise_uni h.rise⟩
theorem rise_nd {xs : List Nt} (h : xs.Pairwise nLt) : xs.Nodup := by
  unfold List.Nodup
  exact h.imp fun {a b} hab (e : a = b) => nLt_irr (by rw [e] at hab; exact hab)
theorem nok_enc {x : Nt} (h1 : x.t ≤ 1000) (h2 : FlB (valD x.v)) (h3 : ∀ i : Int, valD x.v = .int i → i.natAbs ≤ 1000) : NOk (encN x) :=
  ⟨by show ((x.t : Nat) : Int).natAbs ≤ 1000; omega, flb_sort _, h2, val_al _, ⟨x, rfl⟩, h3⟩
theorem nu_enc {k : Nat} {xs : List Nt} (h : JOk k xs) : NU (xs.map encN) := by
  refine ⟨fun m hm => ?_, fun m hm m' hm' e1 e2 => ?_, ?_⟩
  · obtain ⟨x, hx, rfl⟩ := List.mem_map.mp hm
    exact nok_enc (h.sm.t x hx) (h.sm.v x hx) (h.sm.b x hx)
  · obtain ⟨x, hx, rfl⟩ := List.mem_map.mp hm
    obtain ⟨y, hy, rfl⟩ := List.mem_map.mp hm'
    have e1 : ((x.t : Nat) : Int) = ((y.t : Nat) : Int) := e1
    rw [rise_uni h.rise x hx y hy (by omega) e2]
  · unfold List.Nodup
    rw [List.pairwise_map]
    exact (rise_nd h.rise).imp fun hab e => hab (encN_inj e)
theorem tri {x y : Nt} (h : ¬ (x.t = y.t ∧ sortS x.v = sortS y.v)) : nLt x y ∨ nLt y x := by
  rcases Nat.lt_trichotomy x.t y.t with e | e | e
  · exact .inl (.inl e)
  · obtain ⟨t, v⟩ := x
    obtain ⟨s, w⟩ := y
    cases v <;> cases w
    · exact absurd ⟨e, rfl⟩ h
    · exact .inl (.inr ⟨e, Nat.zero_lt_one⟩)
    · exact .inr (.inr ⟨e.symm, Nat.zero_lt_one⟩)
    · exact absurd ⟨e, rfl⟩ h
  · exact .inr (.inl e)
theorem of_spoilt {k : Nat} {ns : List NT} (hU : NU ns) (hp : (ns.map nD).Pairwise fun a b => hdLe a b = true) (hb : ∀ n ∈ ns, 0 ≤ n.1 ∧ n.1 < (k : Int)) (hl : ns.length ≤ 100) : ∃ xs, ns = xs.map encN ∧ JOk k xs := by
  obtain ⟨xs, rfl⟩ := enc_all hU.ok
  refine ⟨xs, rfl, fun x hx => ?_, ?_, fun x hx => ?_, fun x hx => (hU.ok (encN x) (List.mem_map.mpr ⟨x, hx, rfl⟩)).v, by rw [List.length_map] at hl; exact hl, fun x hx => (hU.ok (encN x) (List.mem_map.mpr ⟨x, hx, rfl⟩)).b⟩
  · have := hb (encN x) (List.mem_map.mpr ⟨x, hx, rfl⟩)
    have : ((x.t : Nat) : Int) < (k : Int) := this.2
    omega
  · rw [List.map_map, List.pairwise_map] at hp
    have hnd := hU.nd
    unfold List.Nodup at hnd
    rw [List.pairwise_map] at hnd
    refine (hp.and hnd).imp_of_mem fun {x y} hx hy hxy => ?_
    obtain ⟨h1, h2⟩ := hxy
    have hne : ¬ (x.t = y.t ∧ sortS x.v = sortS y.v) := fun e => h2 (hU.uni _ (List.mem_map.mpr ⟨x, hx, rfl⟩) _ (List.mem_map.mpr ⟨y, hy, rfl⟩) (by show ((x.t : Nat) : Int) = ((y.t : Nat) : Int); omega) e.2)
    rcases tri hne with e | e
    · exact e
    · have h1 : hdLe (ntD x) (ntD y) = true := h1
      unfold hdLe at h1
      rw [hd_nt, hd_nt, lt_head e] at h1
      cases h1
  · have := (hU.ok (encN x) (List.mem_map.mpr ⟨x, hx, rfl⟩)).t
    have this : ((x.t : Nat) : Int).natAbs ≤ 1000 := this
    omega
def lvb (b w : Nat) : Nat → PyData → Bool
  | _, .none => true
  | _, .bool _ => true
  | _, .int i => decide (i.natAbs ≤ 10 ^ 30 + b)
  | _, .str z => PyData.strOk z && decide ((reprText z).length ≤ 400)
  | k + 1, .list ds => decide (ds.length ≤ w) && ds.all (lvb b w k)
  | k + 1, .tuple ds => decide (ds.length ≤ w) && ds.all (lvb b w k)
  | _, _ => false
theorem lv_of {b w : Nat} : ∀ {k : Nat} {d : PyData}, lvb b w k d = true → Lv b w k d
  | 0, .none, _ => trivial
  | 0, .bool _, _ => trivial
  | 0, .int i, h => (of_decide_eq_true h : i.natAbs ≤ 10 ^ 30 + b)
  | 0, .str z, h => by
    have := Bool.and_eq_true_iff.mp h
    exact ⟨this.1, of_decide_eq_true this.2⟩
  | k + 1, .none, _ => .inl trivial
  | k + 1, .bool _, _ => .inl trivial
  | k + 1, .int i, h => .inl (of_decide_eq_true h : i.natAbs ≤ 10 ^ 30 + b)
  | k + 1, .str z, h => by
    have := Bool.and_eq_true_iff.mp h
    exact .inl ⟨this.1, of_decide_eq_true this.2⟩
  | k + 1, .list ds, h => by
    have := Bool.and_eq_true_iff.mp h
    exact .inr ⟨ds, .inl rfl, of_decide_eq_true this.1, fun x hx => lv_of (List.all_eq_true.mp this.2 x hx)⟩
  | k + 1, .tuple ds, h => by
    have := Bool.and_eq_true_iff.mp h
    exact .inr ⟨ds, .inr rfl, of_decide_eq_true this.1, fun x hx => lv_of (List.all_eq_true.mp this.2 x hx)⟩
theorem all_app {α : Type} {M : α → Prop} {xs ys : List α} (h : ∀ x ∈ xs, M x) (h' : ∀ x ∈ ys, M x) : ∀ x ∈ xs ++ ys, M x := fun x hx => by
  rcases List.mem_append.mp hx with h1 | h1
  · exact h x h1
  · exact h' x h1
theorem all_c {α : Type} {M : α → Prop} {a : α} {l : List α} (h : M a) (h' : ∀ x ∈ l, M x) : ∀ x ∈ a :: l, M x := fun x hx => by
  rcases List.mem_cons.mp hx with rfl | h1
  · exact h
  · exact h' x h1
theorem all_n {α : Type} {M : α → Prop} : ∀ x ∈ ([] : List α), M x := fun x hx => absurd hx (by simp)
abbrev M0 (d : PyData) : Prop := Sm 0 25 3 30000 d
abbrev M2 (d : PyData) : Prop := Sm 1 26 4 62000 d
theorem M0.two {d : PyData} (h : M0 d) : M2 d := h.up (by decide) (by decide) (by decide) (by decide)
theorem sm_tup {k m n : Nat} {es : List PyData} (h : ∀ x ∈ es, Sm 0 25 k m x) (hl : es.length ≤ n) (hn : n ≤ 25) : Sm 0 25 (k + 1) ((m + 2) * n + 4) (.tuple es) := by
  have := twA_len m es fun x hx => (h x hx).tw
  have h2 : (m + 2) * es.length ≤ (m + 2) * n := Nat.mul_le_mul_left _ hl
  exact .tup (fun x hx => (h x hx).lv) (by omega) (by omega)
theorem sm_lst {k m n : Nat} {es : List PyData} (h : ∀ x ∈ es, Sm 0 25 k m x) (hl : es.length ≤ n) (hn : n ≤ 25) : Sm 0 25 (k + 1) ((m + 2) * n + 4) (.list es) := by
  have := twA_len m es fun x hx => (h x hx).tw
  have h2 : (m + 2) * es.length ≤ (m + 2) * n := Nat.mul_le_mul_left _ hl
  exact .lst (fun x hx => (h x hx).lv) (by omega) (by omega)
theorem lf_nt {x : Nt} (h1 : x.t ≤ 1000) (h2 : ∀ i : Int, valD x.v = .int i → i.natAbs ≤ 1000) : ∀ y ∈ [PyData.int (x.t : Nat), .str (sortS x.v), valD x.v], Sm 0 25 0 400 y := by
  refine all_c (.leaf (show ((x.t : Nat) : Int).natAbs ≤ _ by omega) (by decide)) (all_c (.leaf ?_ (by decide)) (all_c (.leaf ?_ (by decide)) all_n))
  · cases x.v with
    | g a => exact ⟨sok "groups", (show (reprText "groups").length ≤ 400 by decide +kernel)⟩
    | h w => exact ⟨sok "house", (show (reprText "house").length ≤ 400 by decide +kernel)⟩
  · cases hv : x.v with
    | g a =>
      have := h2 (a : Nat) (by rw [hv]; rfl)
      exact (show ((a : Nat) : Int).natAbs ≤ _ by omega)
    | h w => cases w <;> exact ⟨sok _, by decide +kernel⟩
theorem sm_ntD {x : Nt} (h1 : x.t ≤ 1000) (h2 : ∀ i : Int, valD x.v = .int i → i.natAbs ≤ 1000) : Sm 0 25 1 1210 (ntD x) := sm_tup (n := 3) (lf_nt h1 h2) (show 3 ≤ 3 by decide) (by decide)
theorem sm_ntL {x : Nt} (h1 : x.t ≤ 1000) (h2 : ∀ i : Int, valD x.v = .int i → i.natAbs ≤ 1000) : Sm 0 25 1 1210 (ntL x) := sm_lst (n := 3) (lf_nt h1 h2) (show 3 ≤ 3 by decide) (by decide)
theorem sm_i {k : Nat} {i : Int} (h : i.natAbs ≤ 1000) {L : Nat} (hL : 400 ≤ L) : Sm 0 25 k L (.int i) := .leaf (show i.natAbs ≤ _ by omega) hL
theorem soft_bkT (n k : Nat) (xs : List Nt) : softK 3 (bkT n k xs) = bkL n k xs := by
  show PyData.list [.int n, .int k, .list ((xs.map ntD).map (softK 1))] = PyData.list [.int n, .int k, .list (xs.map ntL)]
  rw [List.map_map]
  have : xs.map (softK 1 ∘ ntD) = xs.map ntL := List.map_congr_left fun m _ => by
    obtain ⟨t, v⟩ := m
    cases v <;> rfl
  rw [this]
theorem sm_ns {xs : List Nt} (h : NSm xs) (hl : xs.length ≤ 21) : Sm 0 25 2 25456 (.tuple (xs.map ntD)) := sm_tup (n := 21) (m := 1210) (fun y hy => by
  obtain ⟨x, hx, rfl⟩ := List.mem_map.mp hy
  exact sm_ntD (h.t x hx) (h.b x hx)) (by rw [List.length_map]; exact hl) (by decide)
theorem sm_nsL {xs : List Nt} (h : NSm xs) (hl : xs.length ≤ 21) : Sm 0 25 2 25456 (.list (xs.map ntL)) := sm_lst (n := 21) (m := 1210) (fun y hy => by
  obtain ⟨x, hx, rfl⟩ := List.mem_map.mp hy
  exact sm_ntL (h.t x hx) (h.b x hx)) (by rw [List.length_map]; exact hl) (by decide)
theorem tw_i (i : Int) : Tw (.int i) = 400 := by simp only [Tw]
theorem m0_own {n k : Nat} {xs : List Nt} (hn : n ≤ 9) (hk : k ≤ 9) (h : NSm xs) (hl : xs.length ≤ 21) : M0 (bkT n k xs) ∧ M0 (.list [.int (n : Nat), .int (k : Nat), .tuple (xs.map ntD)]) ∧ M0 (bkL n k xs) := by
  have h1 := sm_ns h hl
  have h2 := sm_nsL h hl
  have i1 : Lv 0 25 2 (.int (n : Nat)) := .flat (show ((n : Nat) : Int).natAbs ≤ _ by omega)
  have i2 : Lv 0 25 2 (.int (k : Nat)) := .flat (show ((k : Nat) : Int).natAbs ≤ _ by omega)
  have t1 := h1.tw
  have t2 := h2.tw
  refine ⟨.tup (all_c i1 (all_c i2 (all_c h1.lv all_n))) (show 3 ≤ 25 by decide) ?_, .lst (all_c i1 (all_c i2 (all_c h1.lv all_n))) (show 3 ≤ 25 by decide) ?_, .lst (all_c i1 (all_c i2 (all_c h2.lv all_n))) (show 3 ≤ 25 by decide) ?_⟩ <;> (simp only [TwA, tw_i]; omega)
theorem ints_sm {l : List Int} (h : ∀ x ∈ l, 0 ≤ x ∧ x < 10) : ∀ y ∈ l.map PyData.int, Sm 0 25 0 400 y := fun y hy => by
  obtain ⟨x, hx, rfl⟩ := List.mem_map.mp hy
  have := h x hx
  exact sm_i (by omega) (by decide)
theorem m0_row {l : List Int} (h : ∀ x ∈ l, 0 ≤ x ∧ x < 10) (hl : l.length ≤ 9) : M0 (rowT l) ∧ M0 (.list (l.map .int)) := by
  have h1 : (l.map PyData.int).length ≤ 9 := by rw [List.length_map]; exact hl
  exact ⟨(sm_tup (n := 9) (m := 400) (ints_sm h) h1 (by decide)).up (by decide) (by decide) (by decide) (by decide), (sm_lst (n := 9) (m := 400) (ints_sm h) h1 (by decide)).up (by decide) (by decide) (by decide) (by decide)⟩
def tf (x : Int) : PyData := if x < 2 then .bool (decide (x = 1)) else .int x
theorem m0_tf {l : List Int} (h : ∀ x ∈ l, 0 ≤ x ∧ x < 10) (hl : l.length ≤ 9) : M0 (.tuple (l.map tf)) := (sm_tup (n := 9) (m := 400) (k := 0) (fun y hy => by
  obtain ⟨x, hx, rfl⟩ := List.mem_map.mp hy
  unfold tf
  split
  · exact .leaf trivial (by decide)
  · have := h x hx
    exact sm_i (by omega) (by decide)) (by rw [List.length_map]; exact hl) (by decide)).up (by decide) (by decide) (by decide) (by decide)
theorem iota_rg (k : Nat) : iotaD 0 (k : Int) = (List.range k).map fun i => PyData.int (i : Nat) := by
  refine List.ext_getElem? fun i => ?_
  rw [List.getElem?_map]
  by_cases hi : i < k
  · rw [List.getElem?_range hi]
    have hl : i < (iotaD 0 (k : Int)).length := by rw [iota_len]; omega
    have := (iota_get (List.getElem?_eq_getElem hl)).2
    rw [List.getElem?_eq_getElem hl, this, Int.zero_add]
    rfl
  · rw [List.getElem?_eq_none (by rw [iota_len]; omega), List.getElem?_eq_none (by rw [List.length_range]; omega)]
    rfl
theorem sm1 {d : PyData} (h : (lvb 0 25 3 d && decide (Tw d ≤ 30000)) = true) : M2 d := M0.two (by
  have := Bool.and_eq_true_iff.mp h
  exact ⟨lv_of this.1, of_decide_eq_true this.2⟩)
theorem bool_iff {p : Prop} {a b : Bool} (h1 : a = true ↔ p) (h2 : b = true ↔ p) : a = b := Bool.eq_iff_iff.mpr (h1.trans h2.symm)
section
variable {P : Program} {wd : World} {K : PySem.W.Frag} {mg : Str → Option Value} {base : Heap} {c : Nat → Addr}
theorem ok_l_right (T : Top wd K mg) : Def P wd K mg base 8 "_law_right" s_l_right ["_law_box_here"] (spB K fRight) := by
  have g_l_take := ok_l_take (P := P) (base := base) T
  have g_l_of := ok_l_of (P := P) (base := base) T
  have g_l_story := ok_l_story (P := P) (base := base) T
  have g_l_spoilt := ok_l_spoilt (P := P) (base := base) T
  have g_l_seen := ok_l_seen (P := P) (base := base) T
  have g_l_queue := ok_l_queue (P := P) (base := base) T
  have g_l_bent := ok_l_bent (P := P) (base := base) T 3 (by decide)
  have g_l_lists := ok_l_lists (P := P) (base := base) T (w := 100) (by decide) 3
  have g_l_same := (ok_l_same (P := P) (base := base) T (w := 100) (by decide) 4).imp (sp' := spP K (f_same (Bd 100 4))) fun _ _ _ _ h => h
  have g_l_is_book := ok_l_is_book (P := P) (base := base) T
  have g_l_is_order := ok_l_is_order (P := P) (base := base) T
  have g_is_journal := ok_is_journal (P := P) (base := base) T
  have g_is_order := ok_is_order2 (P := P) (base := base) T
  have g_journal_of := ok_journal_of (P := P) (base := base) T
  refine Def.draws T.d_l_right sc_l_right (fun ds c R h => by obtain ⟨rfl, _⟩ := h; rfl) (fun f cdv A outer s H G l E ds c0 R hG hr h => ?_)
  obtain ⟨rfl, hc, q⟩ := h
  refine ⟨_, _, (dss_cons (ds_asg (de_cB 0 g_l_story hG (hr.mono (by omega)) (by rfl) (da_cons de_int da_nil)) (dg_tup (n := 2) rfl (by rfl) (dgs_c (dg_name 1 sc_l_right.nd) (dgs_c (dg_name 2 sc_l_right.nd) dgs_nil))))
      (dss_cut (ds_set 3 sc_l_right.nd (de_if (dt_cmp (o_eq rfl hr.units) (DE.p (de_cB 0 g_l_take hG (hr.mono (by omega)) (by rfl) (da_cons de_int da_nil))) (DE.p de_int)) (de_cB 0 g_l_spoilt hG (hr.mono (by omega)) (by rfl) (da_cons (de_v 2) da_nil)) (de_v 2)))
      (dss_cons (ds_asg (de_v 3) (dg_tup (n := 3) rfl (by rfl) (dgs_c (dg_name 4 sc_l_right.nd) (dgs_c (dg_name 5 sc_l_right.nd) (dgs_c (dg_name 6 sc_l_right.nd) dgs_nil)))))
      (dss_cons (ds_own 7 sc_l_right.nd (do_lst (da_cons (de_v 3) (da_cons (DO.d (do_listOf rfl (by rfl) T.b_list (dp_v 3))) (da_cons (de_c g_l_lists hG (hr.mono (by omega)) (by rfl) (da_cons (de_v 3) da_nil)) (da_cons (de_v 6) (da_cons (de_v 1) (da_cons (DO.d (do_listOf rfl (by rfl) T.b_list (dp_v 1))) (da_cons (de_revT rfl (dp_v 1)) (da_cons (de_tup da_nil) (da_cons (DO.d (do_lst da_nil)) (da_cons de_non (da_cons de_int (da_cons de_str da_nil))))))))))))))
      (dss_cons (ds_own 7 sc_l_right.nd (do_catP rfl (dp_v 7) (DE.p (DO.d (do_lst (da_cons (de_tup (da_cons de_int (da_cons de_int (da_cons (de_tup da_nil) da_nil)))) (da_cons (de_tup (da_cons de_int (da_cons de_int (da_cons (de_tup da_nil) da_nil)))) da_nil)))))))
      (dss_cons (ds_own 7 sc_l_right.nd (do_catP rfl (dp_v 7) (DE.p (DO.d (do_lst (da_cons (de_tup (da_cons de_int (da_cons de_int (da_cons (de_tup (da_cons (de_tup (da_cons de_int (da_cons de_str (da_cons de_int da_nil)))) da_nil)) da_nil)))) (da_cons (de_tup (da_cons de_int (da_cons de_int (da_cons (de_tup (da_cons (de_tup (da_cons de_int (da_cons de_str (da_cons de_int da_nil)))) da_nil)) da_nil)))) da_nil)))))))
      (dss_cons (ds_own 7 sc_l_right.nd (do_catP rfl (dp_v 7) (DE.p (DO.d (do_lst (da_cons (de_tup (da_cons de_int (da_cons de_int (da_cons (de_tup (da_cons (de_tup (da_cons de_int (da_cons de_str (da_cons de_str da_nil)))) da_nil)) da_nil)))) (da_cons (de_tup (da_cons de_int (da_cons de_int (da_cons (de_tup da_nil) da_nil)))) da_nil)))))))
      (dss_cons (ds_own 7 sc_l_right.nd (do_catP rfl (dp_v 7) (DE.p (DO.d (do_lst (da_cons (de_tup (da_cons de_int (da_cons de_int (da_cons (de_tup (da_cons (de_tup (da_cons de_int (da_cons de_str (da_cons de_int da_nil)))) da_nil)) da_nil)))) (da_cons (de_tup (da_cons de_int (da_cons de_int (da_cons (de_tup (da_cons (de_tup (da_cons de_int (da_cons de_str (da_cons de_str da_nil)))) da_nil)) da_nil)))) da_nil)))))))
      (dss_cons (ds_own 7 sc_l_right.nd (do_catP rfl (dp_v 7) (DE.p (DO.d (do_lst (da_cons (de_tup (da_cons de_int (da_cons de_int (da_cons (de_tup (da_cons (de_tup (da_cons de_int (da_cons de_str (da_cons de_int da_nil)))) da_nil)) da_nil)))) (da_cons (de_tup (da_cons de_bl (da_cons de_int (da_cons (de_tup da_nil) da_nil)))) da_nil)))))))
      (dss_cons (ds_own 7 sc_l_right.nd (do_catP rfl (dp_v 7) (DE.p (DO.d (do_lst (da_cons (de_tup (da_cons de_int (da_cons de_int (da_cons (de_tup (da_cons (de_tup (da_cons de_int (da_cons de_str (da_cons de_str da_nil)))) da_nil)) da_nil)))) (da_cons (de_tup (da_cons de_int (da_cons de_int (da_cons (de_tup (da_cons (de_tup (da_cons de_int (da_cons de_str (da_cons de_int da_nil)))) da_nil)) da_nil)))) da_nil)))))))
      (dss_cons (ds_own 7 sc_l_right.nd (do_catP rfl (dp_v 7) (DE.p (DO.d (do_lst (da_cons (de_tup (da_cons de_int (da_cons de_int (da_cons (de_tup (da_cons (de_tup (da_cons de_int (da_cons de_str (da_cons de_bl da_nil)))) da_nil)) da_nil)))) (da_cons (de_tup (da_cons de_int (da_cons de_int (da_cons (DO.d (do_lst da_nil)) da_nil)))) da_nil)))))))
      (dss_cons (ds_own 7 sc_l_right.nd (do_catP rfl (dp_v 7) (DE.p (DO.d (do_lst (da_cons (de_tup (da_cons de_int (da_cons de_int (da_cons (de_tup (da_cons (de_tup (da_cons de_int (da_cons de_str (da_cons de_str da_nil)))) (da_cons (de_tup (da_cons de_int (da_cons de_str (da_cons de_int da_nil)))) da_nil))) da_nil)))) da_nil))))))
      (dss_cons (ds_own 7 sc_l_right.nd (do_catP rfl (dp_v 7) (DE.p (DO.d (do_lst (da_cons (de_tup (da_cons de_int (da_cons de_int (da_cons (de_tup (da_cons (de_tup (da_cons de_int (da_cons de_str (da_cons de_int da_nil)))) (da_cons (de_tup (da_cons de_int (da_cons de_str (da_cons de_str da_nil)))) da_nil))) da_nil)))) da_nil))))))
      (dss_cons (ds_own 7 sc_l_right.nd (do_catP rfl (dp_v 7) (DE.p (DO.d (do_lst (da_cons (de_tup (da_cons de_int (da_cons de_int (da_cons (de_tup (da_cons (de_tup (da_cons de_int (da_cons de_str (da_cons de_int da_nil)))) (da_cons (de_tup (da_cons de_int (da_cons de_str (da_cons de_int da_nil)))) da_nil))) da_nil)))) (da_cons (de_tup (da_cons de_int (da_cons de_int (da_cons (de_tup (da_cons (de_tup (da_cons de_int (da_cons de_str (da_cons (de_bin o_pow (DE.p de_int) (DE.p de_int)) da_nil)))) da_nil)) da_nil)))) da_nil)))))))
      (dss_cons (ds_own 7 sc_l_right.nd (do_catP rfl (dp_v 7) (DE.p (DO.d (do_lst (da_cons (de_tup (da_cons (de_v 4) (da_cons (de_v 5) da_nil))) da_nil))))))
      (dss_cons (ds_app 7 rfl (de_tupleOf rfl (by rfl) T.b_tuple (DE.p (DO.d (do_lc (own := [("_law_plot", 15)]) (by rfl) sc_l_right.nd (di_seq rfl (de_v 1)) (blkOk_by (own := [("_law_plot", 15)]) (N := ["_law_box_here", "_law_queue_here", "_law_book", "_law_own", "_law_count", "_law_size", "_law_notes_here", "_law_matters", "_law_turn", "_law_matter", "_law_kept", "_law_due", "_law_told", "_law_more", "_law_counts", "_law_plot", "_law_spot"]) (sc := defScope s_l_right) (by decide +kernel)) (fun _ _ _ _ _ => (dg_name 15 sc_l_right.nd (hf := by first | exact Or.inr rfl | exact Or.inl rfl))) ts_no (fun _ _ _ _ _ => (de_if (dt_cmp o_lt (dp_v 15) (DE.p de_int)) (de_cmp (o_eq rfl hr.units) (dp_v 15) (DE.p de_int)) (de_v 15))))))))
      (dss_cons (ds_for PassesOwn.never (by rfl) (di_rng1 (by rfl) T.b_range de_int) (dg_name 8 sc_l_right.nd)
        (dss_cons (ds_app 7 rfl (de_cB 0 g_l_queue hG (hr.mono (by omega)) (by rfl) (da_cons (de_v 4) (da_cons (de_v 5) da_nil))))
        (dss_one (ds_app 7 rfl (de_cB 0 g_l_bent hG (hr.mono (by omega)) (by rfl) (da_cons (de_cB 0 g_l_of hG (hr.mono (by omega)) (by rfl) (da_cons (DO.d (do_lst (da_cons (de_v 3) (da_cons (de_v 3) (da_cons (de_v 1) da_nil))))) da_nil)) da_nil))))))
      (dss_cons (ds_for PassesOwn.never (by rfl) (di_seq rfl (de_pub 7)) (dg_name 9 sc_l_right.nd)
        (dss_cons (ds_par2 10 11 (by rfl) sc_l_right.nd (dx_cons (DE.dx (de_repr rfl hG hr.units (by rfl) T.b_repr (dp_v 9))) (dx_cons (DE.dx (DO.d (do_lst (da_cons (de_c g_l_is_book hG (hr.mono (by omega)) (by rfl) (da_cons (de_v 9) da_nil)) (da_cons (de_c g_l_is_order hG (hr.mono (by omega)) (by rfl) (da_cons (de_v 3) (da_cons (de_v 9) da_nil))) da_nil))))) dx_nil)))
        (dss_cons (ds_set 12 sc_l_right.nd (DO.d (do_lst (da_cons (de_c g_is_journal hG (hr.mono (by omega)) (by rfl) (da_cons (de_v 9) da_nil)) (da_cons (de_c g_is_order hG (hr.mono (by omega)) (by rfl) (da_cons (de_v 3) (da_cons (de_v 9) da_nil))) da_nil)))))
        (dss_cons (ds_set 13 sc_l_right.nd (DO.d (do_lst (da_cons (de_nm (ks := ["thing"]) [0] g_is_journal hG (hr.mono (by omega)) (by rfl) (fun _ _ _ _ _ _ ws hl => match ws, hl with | [_], _ => rfl) (dk_cons (de_v 9) dk_nil)) (da_cons (de_nm (ks := ["thing", "journal"]) [1, 0] g_is_order hG (hr.mono (by omega)) (by rfl) (fun _ _ _ _ _ _ ws hl => match ws, hl with | [_, _], _ => rfl) (dk_cons (de_v 9) (dk_cons (de_c g_l_lists hG (hr.mono (by omega)) (by rfl) (da_cons (de_v 3) da_nil)) dk_nil))) da_nil)))))
        (dss_one (ds_if (DW.q (dw_or (dt_not (dt_val (de_c g_l_same hG (hr.mono (by omega)) (by rfl) (da_cons (DO.d (do_lst (da_cons (de_v 12) (da_cons (de_v 13) da_nil)))) (da_cons (DO.d (do_lst (da_cons (de_v 11) (da_cons (de_v 11) da_nil)))) da_nil))))) (dw_or1 (dt_cmp o_neS (DE.p (de_repr rfl hG hr.units (by rfl) T.b_repr (dp_v 9))) (dp_v 10))))) (dss_one (ds_ret de_bl)) dss_nil))))))
      (dss_cons (ds_set 14 sc_l_right.nd (de_ix rfl (DE.p (de_c g_l_seen hG (hr.mono (by omega)) (by rfl) (da_cons (de_v 1) da_nil))) (DE.p de_int)))
      (dss_cons (ds_set 11 sc_l_right.nd (de_tup (da_cons (de_v 4) (da_cons (de_v 5) (da_cons (de_tupleOf rfl (by rfl) T.b_tuple (DE.p (DO.d (do_lc (own := [("_law_spot", 16)]) (by rfl) sc_l_right.nd (di_rng1 (by rfl) T.b_range (de_v 5)) (blkOk_by (own := [("_law_spot", 16)]) (N := ["_law_box_here", "_law_queue_here", "_law_book", "_law_own", "_law_count", "_law_size", "_law_notes_here", "_law_matters", "_law_turn", "_law_matter", "_law_kept", "_law_due", "_law_told", "_law_more", "_law_counts", "_law_plot", "_law_spot"]) (sc := defScope s_l_right) (by decide +kernel)) (fun _ _ _ _ _ => (dg_name 16 sc_l_right.nd (hf := by first | exact Or.inr rfl | exact Or.inl rfl))) ts_no (fun _ _ _ _ _ => (de_tup (da_cons (de_v 16) (da_cons de_str (da_cons (de_ix rfl (dp_v 14) (dp_v 16)) da_nil))))))))) da_nil)))))
      (dss_cons (ds_if (dt_not (dt_val (de_c g_l_same hG (hr.mono (by omega)) (by rfl) (da_cons (DO.d (do_lst (da_cons (de_c g_journal_of hG (hr.mono (by omega)) (by rfl) (da_cons (de_v 4) (da_cons (de_v 1) da_nil))) (da_cons (de_nm (ks := ["row", "plots"]) [1, 0] g_journal_of hG (hr.mono (by omega)) (by rfl) (fun _ _ _ _ _ _ ws hl => match ws, hl with | [_, _], _ => rfl) (dk_cons (DO.d (do_listOf rfl (by rfl) T.b_list (dp_v 1))) (dk_cons (de_v 4) dk_nil))) da_nil)))) (da_cons (DO.d (do_lst (da_cons (de_v 11) (da_cons (de_v 11) da_nil)))) da_nil))))) (dss_one (ds_ret de_bl)) dss_nil)
      (dss_one (ds_ret (de_and (de_cmp o_isB (DE.p (de_c g_is_order hG (hr.mono (by omega)) (by rfl) (da_cons (de_v 2) (da_cons (de_v 1) da_nil)))) (DE.p de_bl)) (de_one (de_cmp o_isB (DE.p (de_c g_is_order hG (hr.mono (by omega)) (by rfl) (da_cons (de_v 11) (da_cons (de_v 1) da_nil)))) (DE.p de_bl))))))))))))))))))))))))))), ?_⟩
  walk_at "s6"
  refine ⟨9, rfl, by decide, by omega, fun row n k xs c1 hk hn hR hrl hS hc1 => ?_⟩
  have hc1 : c1 ≤ c0 + 100 := hc1
  have hJ : JOk k xs := ⟨fun x hx => (hS.tru x hx).1, hS.rise, sn_small hS (by omega) hrl⟩
  have hxl := hS.len
  walk_at "s6"
  refine ⟨fun s2 => ∃ (ys : List Nt) (c2 : Int), s2 = ⟨[some .box, some (.d (rowT row)), some (.d (bkT n k xs)), some (.d (bkT n k ys)), none, none, none, none, none, none, none, none, none, none, none, none, none], c2, []⟩ ∧ JOk k ys ∧ ys.length ≤ 2 * k + 3 ∧ c2 ≤ c0 + 121, ?_, fun s2 hs2 => ?_⟩
  · walk_at "s6"
    refine ⟨2, rfl, by decide, by decide, by show c1 < _; omega, fun r2 c2 _ _ hc2 => ?_⟩
    have hc2 : c2 ≤ c1 + 1 := hc2
    walk_at "s6"
    by_cases hr2 : r2 = 0
    · rw [if_pos hr2]
      have e3 : BkD (.int n) (.int k) (xs.map encN) = bkT n k xs := by
        unfold BkD bkT
        rw [List.map_map]
        rfl
      refine ⟨n, k, xs.map encN, by rw [e3], by omega, hk, nu_enc hJ, fun m hm => ?_, by rw [List.length_map]; exact hxl, by show c2 ≤ _; omega, fun ns' c3 hU' hp' hb' hnl' hc3 => ?_⟩
      · obtain ⟨x, hx, rfl⟩ := List.mem_map.mp hm
        have := hJ.t x hx
        show 0 ≤ ((x.t : Nat) : Int) ∧ ((x.t : Nat) : Int) < (k : Int)
        omega
      · have hc3 : c3 ≤ c2 + 20 := hc3
        obtain ⟨ys, rfl, hJ2⟩ := of_spoilt hU' hp' hb' (by omega)
        have e4 : BkD (.int n) (.int k) (ys.map encN) = bkT n k ys := by
          unfold BkD bkT
          rw [List.map_map]
          rfl
        rw [e4]
        rw [List.length_map] at hnl'
        exact ⟨ys, c3, rfl, hJ2, hnl', by omega⟩
    · rw [if_neg hr2]
      exact ⟨xs, c2, rfl, hJ, by omega, by omega⟩
  obtain ⟨ys, c2, rfl, hJ2, hyl, hc2⟩ := hs2
  have hrow : ∀ x ∈ row, 0 ≤ x ∧ x < 10 := fun x hx => by have := hR.lo x hx; have := hR.hi x hx; omega
  have hrl9 : row.length ≤ 9 := by omega
  obtain ⟨m1, m2, m3⟩ := m0_own (k := k) hn (by omega) hJ2.sm (by omega)
  obtain ⟨m4, m5⟩ := m0_row hrow hrl9
  have m6 := (m0_row (l := row.reverse) (fun x hx => hrow x (List.mem_reverse.mp hx)) (by rw [List.length_reverse]; exact hrl9)).1
  have m7 := m0_tf hrow hrl9
  have m8 : M0 (.tuple (ys.map ntD)) := (sm_ns hJ2.sm (by omega)).up (by decide) (by decide) (by decide) (by decide)
  walk_at "s6"
  refine ⟨rfl, rfl, ?_⟩
  show wGCons (wName 4) (wGCons (wName 5) (wGCons (wName 6) wGNil)) [.int (n : Nat), .int (k : Nat), .tuple (ys.map ntD)] _ _
  walk_at "s6"
  refine ⟨rfl, bkT n k ys, rfl, bd_bkT (by omega) (by omega) hJ2.sm, rfl, _, rfl, ⟨by decide, by decide, by decide⟩, rfl, ?_⟩
  refine lcD_encM row .int tf (by omega) (fun x hx acc J' hacc h1 => ?_) ?_
  · walk_at "s6"
    unfold tf at h1
    by_cases hx2 : x < 2
    · rw [if_pos hx2] at h1 ⊢
      exact ⟨hacc, h1⟩
    · rw [if_neg hx2] at h1 ⊢
      exact ⟨hacc, h1⟩
  walk_at "s6"
  have mnk : M2 (.tuple [.int (n : Nat), .int (k : Nat)]) := M0.two ((sm_tup (n := 2) (m := 400) (k := 0) (all_c (sm_i (by omega) (by decide)) (all_c (sm_i (by omega) (by decide)) all_n)) (show 2 ≤ 2 by decide) (by decide)).up (by decide) (by decide) (by decide) (by decide))
  refine ⟨by decide, by decide, by decide, ?_⟩
  refine forD_by (fun i s2 => ∃ (ms : List PyData) (y8 : Option DV) (c3 : Int), s2 = ⟨[some .box, some (.d (rowT row)), some (.d (bkT n k xs)), some (.d (bkT n k ys)), some (.d (.int n)), some (.d (.int k)), some (.d (.tuple (ys.map ntD))), some (.own ms), y8, none, none, none, none, none, none, none, none], c3, []⟩ ∧ ms.length ≤ 60 + 2 * i ∧ (∀ x ∈ ms, M2 x) ∧ c3 ≤ c2 + 40 * i ∧ i ≤ 8) ⟨_, none, c2, rfl, by simp only [List.length_cons, List.length_nil]; omega, ?_, by omega, by omega⟩ (fun i d s2 J e2 inv hJ' => ?_) (fun s2 inv => ?_)
  · refine all_c m1.two (all_c m2.two (all_c (by rw [soft_bkT]; exact m3.two) (all_c m8.two (all_c m4.two (all_c m5.two (all_c (by rw [← List.map_reverse]; exact m6.two) ?_))))))
    repeat (refine all_c (sm1 (by decide +kernel)) ?_)
    exact all_c mnk (all_c m7.two all_n)
  · obtain ⟨ms, y8, c3, rfl, hml, hM, hc3, hi8⟩ := inv
    obtain ⟨him, rfl⟩ := iota_get e2
    have him : i < 8 := him
    walk_at "s6"
    refine ⟨n, k, rfl, by omega, hk, by omega, fun r c4 hnd hrk hrb hc4 => ⟨by omega, _, rfl, rfl, (show 1 ≤ 3 by decide), (show 3 ≤ 1000 by decide), by omega, fun d1 c5 hd1 hc5 => ?_⟩⟩
    have hd0 : M0 d1 := all_c m1 (all_c m1 (all_c m4 all_n)) d1 hd1
    refine ⟨d1, 0, 25, 30000, rfl, hd0, by decide, by decide, by decide, by omega, fun d2 c6 hd2 hc6 => ⟨by rw [List.length_append]; show ms.length + 1 < _; omega, hJ' _ ⟨_, _, c6, rfl, ?_, ?_, ?_, by omega⟩⟩⟩
    · rw [List.length_append, List.length_append]
      show ms.length + 1 + 1 ≤ _
      omega
    · have hr9 : ∀ x ∈ r, 0 ≤ x ∧ x < 10 := fun x hx => by have := hrb x hx; omega
      exact all_app (all_app hM (all_c (m0_row hr9 (by omega)).1.two all_n)) (all_c (hd2.up (by decide) (by decide) (by decide) (by decide)) all_n)
    · have : k ≤ 9 := by omega
      omega
  obtain ⟨ms, y8, c3, rfl, hml, hM, hc3, hi8⟩ := inv
  clear hi8
  have hc3 : c3 ≤ c0 + 500 := by
    have : (iotaD 0 8).length = 8 := by decide
    omega
  walk_at "s6"
  have hB : Bk (bkT n k ys) n k ys := ⟨⟨_, .inl rfl, .inl rfl⟩, hk, by omega, by omega, by omega⟩
  have hBL : Bk (bkL n k ys) n k ys := ⟨⟨_, .inr rfl, .inr rfl⟩, hk, by omega, by omega, by omega⟩
  refine forD_by (fun i s2 => ∃ y9 y10 y11 y12 y13 : Option DV, s2 = ⟨[some .box, some (.d (rowT row)), some (.d (bkT n k xs)), some (.d (bkT n k ys)), some (.d (.int n)), some (.d (.int k)), some (.d (.tuple (ys.map ntD))), some (.d (.list ms)), y8, y9, y10, y11, y12, y13, none, none, none], c3, []⟩) ⟨_, _, _, _, _, rfl⟩ (fun i d s2 J e2 inv hJ' => ?_) (fun s2 inv => ?_)
  · obtain ⟨y9, y10, y11, y12, y13, rfl⟩ := inv
    have hd : M2 d := hM d (List.mem_of_getElem? e2)
    have hb : Bd 26 4 d := hd.bd (by decide)
    walk_at "s6"
    refine ⟨hd.rep (by decide) (by decide) (by decide), d, 26, 4, rfl, hb, by decide, by decide, ?_⟩
    refine ⟨d, n, k, ys, 26, 4, rfl, by omega, by omega, hJ2.t, hb, by decide, by decide, fun b1 hb1 => ?_⟩
    refine ⟨d, 26, 4, rfl, hb, by decide, by decide, ?_⟩
    refine ⟨_, d, n, k, ys, 26, 4, rfl, hB, by omega, hJ2.t, hb, by decide, by decide, fun b2 hb2 => ?_⟩
    obtain rfl := bool_iff hb2 hb1
    refine ⟨d, 26, 4, rfl, hb, by decide, by decide, bkT n k ys, rfl, bd_bkT (by omega) (by omega) hJ2.sm, ?_⟩
    rw [soft_bkT]
    refine ⟨_, d, n, k, ys, 26, 4, rfl, hBL, by omega, hJ2.t, hb, by decide, by decide, fun b3 hb3 => ?_⟩
    obtain rfl := bool_iff hb3 hb2
    have bb : ∀ x y : Bool, Bd 100 3 (.list [.bool x, .bool y]) := fun x y => bd_lst (k := 2) (show 2 ≤ 100 by decide) (all_c (.flat trivial) (all_c (.flat trivial) all_n))
    refine ⟨_, rfl, bd_lst (k := 3) (show 2 ≤ 100 by decide) (all_c (bb _ _) (all_c (bb _ _) all_n)), true, rfl, ?_⟩
    rw [if_neg (by decide)]
    refine ⟨hd.rep (by decide) (by decide) (by decide), ?_⟩
    rw [if_neg (fun z => z trivial)]
    exact hJ' _ ⟨_, _, _, _, _, rfl⟩
  obtain ⟨y9, y10, y11, y12, y13, rfl⟩ := inv
  walk_at "s6"
  refine ⟨row, rfl, hR.nd, by omega, rfl, .list (cntsD row row.length), rfl, by omega, by omega, ?_⟩
  rw [iota_rg]
  refine lcD_encM (List.range k) (fun i => PyData.int (i : Nat)) (fun t => ntD ⟨t, .g (segs (row.take (t + 1))).length⟩) (by rw [List.length_range]; omega) (fun i hi acc J' hacc h1 => ?_) ?_
  · have hi := List.mem_range.mp hi
    walk_at "s6"
    exact ⟨_, cnts_at (by omega), hacc, h1⟩
  walk_at "s6"
  have e5 : PyData.tuple [.int (n : Nat), .int (k : Nat), .tuple ((List.range k).map fun t => ntD ⟨t, .g (segs (row.take (t + 1))).length⟩)] = bkT n k (gNotes row) := by
    unfold bkT gNotes
    rw [List.map_map, hrl]
    rfl
  rw [e5]
  have hgm : ∀ x ∈ gNotes row, ∃ t, t < k ∧ x = ⟨t, .g (segs (row.take (t + 1))).length⟩ := fun x hx => by
    obtain ⟨t, ht, rfl⟩ := List.mem_map.mp hx
    exact ⟨t, by rw [← hrl]; exact List.mem_range.mp ht, rfl⟩
  have hgv : ∀ t, t < k → (segs (row.take (t + 1))).length ≤ 9 := fun t ht => by
    have := segs_len (row.take (t + 1))
    rw [List.length_take] at this
    omega
  have hgt : ∀ x ∈ gNotes row, x.t < k := fun x hx => by
    obtain ⟨t, ht, rfl⟩ := hgm x hx
    exact ht
  have hgl : (gNotes row).length ≤ 100 := by
    unfold gNotes
    rw [List.length_map, List.length_range]
    omega
  have hgr : ∀ x ∈ gNotes row, truV row x.t x.v = x.v := fun x hx => by
    obtain ⟨t, ht, rfl⟩ := hgm x hx
    rfl
  have hgN : NSm (gNotes row) := by
    refine ⟨fun x hx => by have := hgt x hx; omega, fun x hx => ?_, hgl, fun x hx i hi => ?_⟩
    · obtain ⟨t, ht, rfl⟩ := hgm x hx
      have := hgv t ht
      exact flb_nat (by omega)
    · obtain ⟨t, ht, rfl⟩ := hgm x hx
      have := hgv t ht
      have hi : PyData.int ((segs (row.take (t + 1))).length : Nat) = .int i := hi
      injection hi with hi
      omega
  have hBx : Bk (bkT n k xs) n k xs := ⟨⟨_, .inl rfl, .inl rfl⟩, hk, by omega, by omega, by omega⟩
  have hBg : Bk (bkT n k (gNotes row)) n k (gNotes row) := ⟨⟨_, .inl rfl, .inl rfl⟩, hk, by omega, by omega, by omega⟩
  have bdg := bd_bkT (n := n) (k := k) (by omega) (by omega) hgN
  have bdr := (m4.two.bd (by decide))
  refine ⟨n, rowT row, row, rfl, .inl rfl, hR, by omega, rfl, n, _, row, rfl, .inr rfl, hR, by omega, ?_⟩
  rw [hrl]
  refine ⟨_, rfl, bd_lst (k := 3) (show 2 ≤ 100 by decide) (all_c bdg (all_c bdg all_n)), true, rfl, ?_⟩
  rw [if_neg (by decide)]
  have hO : ∀ zs : List Nt, (∀ x ∈ zs, truV row x.t x.v = x.v) → OrdP n k zs (rowT row) := fun zs hz => ⟨row, rfl, hR, hrl, hz⟩
  refine ⟨_, rowT row, n, k, xs, 26, 4, rfl, hBx, by omega, hJ.t, bdr, by decide, by decide, fun b1 hb1 => ?_⟩
  obtain rfl : b1 = true := hb1.mpr (hO xs fun x hx => (hS.tru x hx).2)
  refine ⟨true, rfl, ?_⟩
  rw [if_pos rfl]
  refine ⟨_, rowT row, n, k, gNotes row, 26, 4, rfl, hBg, by omega, hgt, bdr, by decide, by decide, fun b2 hb2 => ?_⟩
  obtain rfl : b2 = true := hb2.mpr (hO _ hgr)
  exact ⟨true, rfl, q c3 (by show c3 ≤ _; omega)⟩
end
section
variable {P : Program} {wd : World} {K : PySem.W.Frag} {mg : Str → Option Value} {base : Heap}
theorem ok_l_cell_at (T : Top wd K mg) : Def P wd K mg base 1 "_law_cell_at" s_l_cell_at ["_law_script", "_law_k"] (spCel K) := by
  obtain ⟨f, fd, F, b, m⟩ := T.d_l_cell_at.ex
  refine ⟨f, fd, fnG_of F sc_l_cell_at (fun vs H Q E h => ?_) (fun cdv A outer s H vs Q E hG hr h => ?_), F, b, m⟩
  · obtain ⟨a, ns, k, rfl, _⟩ := h
    rfl
  · obtain ⟨a, ns, j, rfl, hS, q⟩ := h
    refine ⟨_, pss_cons (ps_if (pt_cmpR op_lt (pv 1) (pe_callB call_len_seq (by rfl) T.b_len PySem.boot_len (pa_cons (pv 0) pa_nil)) (nomark _))
        (pss_one (ps_ret (pe_ix ix_list (pv 0) (pv 1) (fun _ _ => rfl)))) pss_nil)
      (pss_one (ps_ret pe_int)), ?_⟩
    refine ⟨_, rfl, _, rfl, a, _, rfl, .inl hS, _, _, rfl, rfl, _, rfl, ite2 (fun e => ?_) (fun e => ?_)⟩
    · have h1 := of_decide_eq_true e
      rw [List.length_map] at h1
      have hj : j < ns.length := by omega
      refine ⟨_, rfl, _, rfl, a, _, _, _, rfl, rfl, hS, atI_nat (j := j) (v := .int ns[j]) ?_, ?_⟩
      · rw [List.getElem?_map, List.getElem?_eq_getElem hj]; rfl
      · rw [List.getD_eq_getElem?_getD, List.getElem?_eq_getElem hj] at q
        exact q
    · have hj : ¬ j < ns.length := fun z => e (decide_eq_true (by rw [List.length_map]; omega))
      rw [List.getD_eq_getElem?_getD, List.getElem?_eq_none (by omega)] at q
      exact q
theorem ok_l_box (T : Top wd K mg) : Def P wd K mg base 2 "_law_box" s_l_box ["_law_script", "_law_k"] (spBox K) := by
  obtain ⟨fC, fdC, GC, FC, bC, gC⟩ := (ok_l_cell_at (P := P) (base := base) T).ex
  obtain ⟨f, fd, F, b, m⟩ := T.d_l_box.ex
  refine ⟨f, fd, fnG_of F sc_l_box (fun vs H Q E h => ?_) (fun cdv A outer s H vs Q E hG hr h => ?_), F, b, m⟩
  · obtain ⟨a, ns, k, rfl, _⟩ := h
    rfl
  · obtain ⟨a, ns, j, rfl, hS, hj, q⟩ := h
    refine ⟨_, pss_cons (ps_set (i := 2) sc_l_box.nd rfl (.inl rfl) (pe_callG (E := E0) GC hG hr (by rfl) gC FC.kp bC (pa_cons (pv 0) (pa_cons (pv 1) pa_nil))))
      (pss_one (ps_ret (pe_lst (pa_cons (pe_op op_mul (pe_callB call_abs (by rfl) T.b_abs (by decide +kernel) (pa_cons (pv 2) pa_nil))
            (pe_callTy call_int1 (by rfl) T.b_int (by decide +kernel) (pa_cons (pe_cmpR op_ge (pe_callB call_abs (by rfl) T.b_abs (by decide +kernel) (pa_cons (pv 2) pa_nil)) (pe_op op_pow pe_int pe_int) (nomark _)) pa_nil)))
          (pa_cons (pe_op op_add (pe_op op_add (pe_op op_mod (pv 2) pe_int) (pe_op op_mul pe_int (pv 1))) pe_int) (pa_cons pe_int pa_nil)))))), ?_⟩
    refine ⟨_, rfl, _, rfl, a, ns, j, rfl, hS, ?_⟩
    generalize ns.getD j 0 = c
    refine ⟨_, rfl, _, rfl, _, rfl, _, rfl, _, _, rfl, rfl, ⟨by decide, by decide, by decide⟩, _, _, rfl, rfl, .inr ⟨_, rfl, _, _, rfl, rfl, .inr ?_, ?_⟩⟩
    · exact box01 _
    · refine ⟨_, rfl, _, _, rfl, rfl, (show (0 : Int) < 2305843009213693951 by decide), _, rfl, _, _, rfl, rfl, .inl ⟨by decide, by decide⟩, _, _, rfl, rfl, _, _, rfl, rfl, (show 3 ≤ sizeLine by decide), fun l hl => ?_⟩
      refine q l _ _ hl ?_ ?_ ?_
      · split <;> split <;> simp <;> omega
      · have := Int.emod_nonneg c (show (2305843009213693951 : Int) ≠ 0 by decide); omega
      · have := Int.emod_lt_of_pos c (show (0 : Int) < 2305843009213693951 by decide); omega
theorem ok_law {f : Addr} {fd : FuncData} (F : Fun K "law" "law" s_law f fd) (T : Top wd K mg) : FnG P wd K mg base 9 f fd ["_law_script"] (spLaw K) := by
  obtain ⟨fB, fdB, GB, FB, bB, gB⟩ := ((ok_l_box (P := P) (base := base) T).mono (show 2 ≤ 8 by decide)).ex
  obtain ⟨fR, fdR, GR, FR, bR, gR⟩ := (right_of (ok_l_right (P := P) (base := base) T)).ex
  refine fnG_of F sc_law (fun vs H Q E h => ?_) (fun cdv A outer s H vs Q E hG hr h => ?_)
  · obtain ⟨_, _, rfl, _⟩ := h
    rfl
  · obtain ⟨sc, ns, rfl, hS, hlen, q⟩ := h
    refine ⟨_, pss_cons (ps_for PassesOwn.never rfl (pi_range1 rfl T.b_range (pa_cons (pe_op op_add pe_int (pe_callB (call_min2 (by rfl)) (by rfl) T.b_min (by decide +kernel) (pa_cons pe_int (pa_cons (pe_callB call_len_seq (by rfl) T.b_len PySem.boot_len (pa_cons (pv 0) pa_nil)) pa_nil)))) pa_nil)) (pg_name (i := 1) sc_law.nd rfl (.inl rfl))
        (pss_cons (ps_set (i := 2) sc_law.nd rfl (.inr rfl) (pe_callG (E := E0) GB hG hr (by rfl) gB FB.kp bB (pa_cons (pv 0) (pa_cons (pv 1) pa_nil))))
        (pss_one (ps_if (pt_not (pt_val (pe_callB (cr_all (by rfl)) (by rfl) T.b_all (by decide +kernel) (pa_cons
          (pe_lc (own := [("_law_turn", 3)]) (g := gName 3) (by rfl) sc_law.nd (pi_range1 rfl T.b_range (pa_cons pe_int pa_nil))
            (blkOk_by (own := [("_law_turn", 3)]) (N := ["_law_script", "_law_k", "_law_box_here", "_law_turn"]) (sc := defScope s_law) (by decide +kernel))
            (fun _ _ _ _ _ => pg_name (i := 3) sc_law.nd rfl (Or.inl rfl) (hf := Or.inr rfl))
            (fun _ _ _ _ _ => pts_nil)
            (fun _ _ _ _ _ => pe_callG (E := E0) GR hG hr (by rfl) gR FR.kp bR (pa_cons (pv 2) pa_nil))) pa_nil)))) (pss_one (ps_ret pe_bl)) pss_nil))))
      (pss_one (ps_ret pe_bl)), ?_⟩
    have hmin : ∀ j : Int, 0 ≤ j → (0 : Int) ≤ (if j < 3 then j else 3) ∧ (if j < 3 then j else 3) ≤ 3 := fun j h => by split <;> omega
    have hm := hmin ((ns.map V.int).length : Int) (by omega)
    refine ⟨_, rfl, sc, _, rfl, .inl hS, _, _, rfl, _, _, rfl, rfl, _, rfl, by omega, by omega, for_range (lo := 0) (fun i σ H3 => ∃ y1 y2, σ = [some (.ref sc), y1, y2, none] ∧ SqL K H3 sc (ns.map V.int)) ?_ ?_ ?_⟩
    · exact ⟨none, none, rfl, hS⟩
    · rintro i σ H3 hi ⟨y1, y2, rfl, hS3⟩
      have hi4 : i ≤ 1000 := by omega
      rw [Int.zero_add]
      refine ⟨_, rfl, _, rfl, sc, ns, i, rfl, hS3, hi4, fun l x y hl hx hy hy2 => ?_⟩
      have hB0 : Dw.BoxAt (upd H3 l (.lst [.int x, .int y, .int 0])) l 0 := ⟨x, y, upd_same, hx, hy, hy2, by omega, by omega⟩
      have e0 : Ex H3 (upd H3 l (.lst [.int x, .int y, .int 0])) := Ex.new hl
      generalize (upd H3 l (.lst [.int x, .int y, .int 0])) = H4 at hB0 e0
      have hbx := hB0.ne
      refine ⟨3, rfl, by decide, by decide, fun D hD => lc_range (lo := 0) (n := 3) (fun j H' => ExB l H4 H' ∧ H' D = some (.lst ((List.replicate j true).map V.bl)) ∧ ∃ c', Dw.BoxAt H' l c' ∧ c' ≤ 1000 * (j : Int)) ⟨.of (Ex.new hD), upd_same, 0, hB0.ex (Ex.new hD), by omega⟩ (fun j H' hj c => ?_) (fun H5 c => ?_)⟩
      · obtain ⟨c1, c2, c', c3, c4⟩ := c
        have nlD : D ≠ l := fun z => hbx (z ▸ hD)
        refine ⟨rfl, _, rfl, l, c', rfl, c3, by omega, fun H6 c6 e6 hB6 hc6 => ?_⟩
        refine ⟨_, e6 _ _ nlD c2, ?_, (c1.trans e6).mut hD, ?_, c6, hB6.upd (Ne.symm nlD), by omega⟩
        · rw [List.length_map, List.length_replicate]
          have : j < 3 := hj
          rw [sizeLine_eq]
          omega
        · rw [upd_same, repT_snoc, List.map_append]
          rfl
      · obtain ⟨c1, c2, _⟩ := c
        refine ⟨D, _, rfl, .inl (.inl c2), _, rfl, ?_⟩
        rw [repT_all]
        refine iteF ⟨_, _, rfl, ?_⟩
        have e5 : Ex H3 H5 := fun b o hb => c1 b o (fun z => by rw [z, hl] at hb; cases hb) (e0 b o hb)
        exact ex_l e5 hS3
    · rintro σ H3 _
      exact q _
end
theorem all_mk {l : PySem.W.OpenLaw} {w : World} {K : PySem.W.Frag} {h : Heap} {mg : Str → Option Value} {fa : Addr} (X : K.In h) (G : h.Ns mainGlobals mg) (hfa : mg "law" = some (.ref fa))
    {f0 f1 f2 f3 f4 f5 f6 f7 f8 f9 f10 f11 f12 f13 f14 f15 f16 f17 f18 f19 f20 f21 f22 f23 f24 f25 f26 f27 f28 f29 f30 f31 f32 f33 : Addr} {od0 an0 od1 an1 od2 an2 od3 an3 od4 an4 od5 an5 od6 an6 od7 an7 od8 an8 od9 an9 od10 an10 od11 an11 od12 an12 od13 an13 od14 an14 od15 an15 od16 an16 od17 an17 od18 an18 od19 an19 od20 an20 od21 an21 od22 an22 od23 an23 od24 an24 od25 an25 od26 an26 od27 an27 od28 an28 od29 an29 od30 an30 od31 an31 od32 an32 od33 an33 : Option Addr} {sl0 sl1 sl2 sl3 sl4 sl5 sl6 sl7 sl8 sl9 sl10 sl11 sl12 sl13 sl14 sl15 sl16 sl17 sl18 sl19 sl20 sl21 sl22 sl23 sl24 sl25 sl26 sl27 sl28 sl29 sl30 sl31 sl32 sl33 : Array (Option Value)} {oc0 kV0 dc0 pm0 cd0 ct0 oc1 kV1 dc1 pm1 cd1 ct1 oc2 kV2 dc2 pm2 cd2 ct2 oc3 kV3 dc3 pm3 cd3 ct3 oc4 kV4 dc4 pm4 cd4 ct4 oc5 kV5 dc5 pm5 cd5 ct5 oc6 kV6 dc6 pm6 cd6 ct6 oc7 kV7 dc7 pm7 cd7 ct7 oc8 kV8 dc8 pm8 cd8 ct8 oc9 kV9 dc9 pm9 cd9 ct9 oc10 kV10 dc10 pm10 cd10 ct10 oc11 kV11 dc11 pm11 cd11 ct11 oc12 kV12 dc12 pm12 cd12 ct12 oc13 kV13 dc13 pm13 cd13 ct13 oc14 kV14 dc14 pm14 cd14 ct14 oc15 kV15 dc15 pm15 cd15 ct15 oc16 kV16 dc16 pm16 cd16 ct16 oc17 kV17 dc17 pm17 cd17 ct17 oc18 kV18 dc18 pm18 cd18 ct18 oc19 kV19 dc19 pm19 cd19 ct19 oc20 kV20 dc20 pm20 cd20 ct20 oc21 kV21 dc21 pm21 cd21 ct21 oc22 kV22 dc22 pm22 cd22 ct22 oc23 kV23 dc23 pm23 cd23 ct23 oc24 kV24 dc24 pm24 cd24 ct24 oc25 kV25 dc25 pm25 cd25 ct25 oc26 kV26 dc26 pm26 cd26 ct26 oc27 kV27 dc27 pm27 cd27 ct27 oc28 kV28 dc28 pm28 cd28 ct28 oc29 kV29 dc29 pm29 cd29 ct29 oc30 kV30 dc30 pm30 cd30 ct30 oc31 kV31 dc31 pm31 cd31 ct31 oc32 kV32 dc32 pm32 cd32 ct32 oc33 kV33 dc33 pm33 cd33 ct33 : Value}
    (a0 : PySem.W.nsIn K mainGlobals "is_number" = some (some (.ref f0)))
    (l0 : K.lookup f0 = some ⟨oc0, od0, .func (PySem.W.fnOf "is_number" "is_number" (defArgs s_is_number) (defBody s_is_number) (defScope s_is_number) .none kV0 dc0 pm0 an0 cd0 ct0), sl0⟩)
    (c0 : PySem.W.codeIn K cd0 "is_number" = true) (k0 : PySem.W.keepIn K (.ref f0) = true)
    (a1 : PySem.W.nsIn K mainGlobals "is_number_below" = some (some (.ref f1)))
    (l1 : K.lookup f1 = some ⟨oc1, od1, .func (PySem.W.fnOf "is_number_below" "is_number_below" (defArgs s_is_number_below) (defBody s_is_number_below) (defScope s_is_number_below) .none kV1 dc1 pm1 an1 cd1 ct1), sl1⟩)
    (c1 : PySem.W.codeIn K cd1 "is_number_below" = true) (k1 : PySem.W.keepIn K (.ref f1) = true)
    (a2 : PySem.W.nsIn K mainGlobals "is_row" = some (some (.ref f2)))
    (l2 : K.lookup f2 = some ⟨oc2, od2, .func (PySem.W.fnOf "is_row" "is_row" (defArgs s_is_row) (defBody s_is_row) (defScope s_is_row) .none kV2 dc2 pm2 an2 cd2 ct2), sl2⟩)
    (c2 : PySem.W.codeIn K cd2 "is_row" = true) (k2 : PySem.W.keepIn K (.ref f2) = true)
    (a3 : PySem.W.nsIn K mainGlobals "neighbours" = some (some (.ref f3)))
    (l3 : K.lookup f3 = some ⟨oc3, od3, .func (PySem.W.fnOf "neighbours" "neighbours" (defArgs s_neighbours) (defBody s_neighbours) (defScope s_neighbours) .none kV3 dc3 pm3 an3 cd3 ct3), sl3⟩)
    (c3 : PySem.W.codeIn K cd3 "neighbours" = true) (k3 : PySem.W.keepIn K (.ref f3) = true)
    (a4 : PySem.W.nsIn K mainGlobals "groups" = some (some (.ref f4)))
    (l4 : K.lookup f4 = some ⟨oc4, od4, .func (PySem.W.fnOf "groups" "groups" (defArgs s_groups) (defBody s_groups) (defScope s_groups) .none kV4 dc4 pm4 an4 cd4 ct4), sl4⟩)
    (c4 : PySem.W.codeIn K cd4 "groups" = true) (k4 : PySem.W.keepIn K (.ref f4) = true)
    (a5 : PySem.W.nsIn K mainGlobals "houses" = some (some (.ref f5)))
    (l5 : K.lookup f5 = some ⟨oc5, od5, .func (PySem.W.fnOf "houses" "houses" (defArgs s_houses) (defBody s_houses) (defScope s_houses) .none kV5 dc5 pm5 an5 cd5 ct5), sl5⟩)
    (c5 : PySem.W.codeIn K cd5 "houses" = true) (k5 : PySem.W.keepIn K (.ref f5) = true)
    (a6 : PySem.W.nsIn K mainGlobals "is_value" = some (some (.ref f6)))
    (l6 : K.lookup f6 = some ⟨oc6, od6, .func (PySem.W.fnOf "is_value" "is_value" (defArgs s_is_value) (defBody s_is_value) (defScope s_is_value) .none kV6 dc6 pm6 an6 cd6 ct6), sl6⟩)
    (c6 : PySem.W.codeIn K cd6 "is_value" = true) (k6 : PySem.W.keepIn K (.ref f6) = true)
    (a7 : PySem.W.nsIn K mainGlobals "is_note" = some (some (.ref f7)))
    (l7 : K.lookup f7 = some ⟨oc7, od7, .func (PySem.W.fnOf "is_note" "is_note" (defArgs s_is_note) (defBody s_is_note) (defScope s_is_note) .none kV7 dc7 pm7 an7 cd7 ct7), sl7⟩)
    (c7 : PySem.W.codeIn K cd7 "is_note" = true) (k7 : PySem.W.keepIn K (.ref f7) = true)
    (a8 : PySem.W.nsIn K mainGlobals "is_notes" = some (some (.ref f8)))
    (l8 : K.lookup f8 = some ⟨oc8, od8, .func (PySem.W.fnOf "is_notes" "is_notes" (defArgs s_is_notes) (defBody s_is_notes) (defScope s_is_notes) .none kV8 dc8 pm8 an8 cd8 ct8), sl8⟩)
    (c8 : PySem.W.codeIn K cd8 "is_notes" = true) (k8 : PySem.W.keepIn K (.ref f8) = true)
    (a9 : PySem.W.nsIn K mainGlobals "is_journal" = some (some (.ref f9)))
    (l9 : K.lookup f9 = some ⟨oc9, od9, .func (PySem.W.fnOf "is_journal" "is_journal" (defArgs s_is_journal) (defBody s_is_journal) (defScope s_is_journal) .none kV9 dc9 pm9 an9 cd9 ct9), sl9⟩)
    (c9 : PySem.W.codeIn K cd9 "is_journal" = true) (k9 : PySem.W.keepIn K (.ref f9) = true)
    (a10 : PySem.W.nsIn K mainGlobals "true_value" = some (some (.ref f10)))
    (l10 : K.lookup f10 = some ⟨oc10, od10, .func (PySem.W.fnOf "true_value" "true_value" (defArgs s_true_value) (defBody s_true_value) (defScope s_true_value) .none kV10 dc10 pm10 an10 cd10 ct10), sl10⟩)
    (c10 : PySem.W.codeIn K cd10 "true_value" = true) (k10 : PySem.W.keepIn K (.ref f10) = true)
    (a11 : PySem.W.nsIn K mainGlobals "untrue_times" = some (some (.ref f11)))
    (l11 : K.lookup f11 = some ⟨oc11, od11, .func (PySem.W.fnOf "untrue_times" "untrue_times" (defArgs s_untrue_times) (defBody s_untrue_times) (defScope s_untrue_times) .none kV11 dc11 pm11 an11 cd11 ct11), sl11⟩)
    (c11 : PySem.W.codeIn K cd11 "untrue_times" = true) (k11 : PySem.W.keepIn K (.ref f11) = true)
    (a12 : PySem.W.nsIn K mainGlobals "is_order" = some (some (.ref f12)))
    (l12 : K.lookup f12 = some ⟨oc12, od12, .func (PySem.W.fnOf "is_order" "is_order" (defArgs s_is_order) (defBody s_is_order) (defScope s_is_order) .none kV12 dc12 pm12 an12 cd12 ct12), sl12⟩)
    (c12 : PySem.W.codeIn K cd12 "is_order" = true) (k12 : PySem.W.keepIn K (.ref f12) = true)
    (a13 : PySem.W.nsIn K mainGlobals "journal_of" = some (some (.ref f13)))
    (l13 : K.lookup f13 = some ⟨oc13, od13, .func (PySem.W.fnOf "journal_of" "journal_of" (defArgs s_journal_of) (defBody s_journal_of) (defScope s_journal_of) .none kV13 dc13 pm13 an13 cd13 ct13), sl13⟩)
    (c13 : PySem.W.codeIn K cd13 "journal_of" = true) (k13 : PySem.W.keepIn K (.ref f13) = true)
    (a14 : PySem.W.nsIn K mainGlobals "_law_cell_at" = some (some (.ref f14)))
    (l14 : K.lookup f14 = some ⟨oc14, od14, .func (PySem.W.fnOf "_law_cell_at" "_law_cell_at" (defArgs s_l_cell_at) (defBody s_l_cell_at) (defScope s_l_cell_at) .none kV14 dc14 pm14 an14 cd14 ct14), sl14⟩)
    (c14 : PySem.W.codeIn K cd14 "_law_cell_at" = true) (k14 : PySem.W.keepIn K (.ref f14) = true)
    (a15 : PySem.W.nsIn K mainGlobals "_law_box" = some (some (.ref f15)))
    (l15 : K.lookup f15 = some ⟨oc15, od15, .func (PySem.W.fnOf "_law_box" "_law_box" (defArgs s_l_box) (defBody s_l_box) (defScope s_l_box) .none kV15 dc15 pm15 an15 cd15 ct15), sl15⟩)
    (c15 : PySem.W.codeIn K cd15 "_law_box" = true) (k15 : PySem.W.keepIn K (.ref f15) = true)
    (a16 : PySem.W.nsIn K mainGlobals "_law_take" = some (some (.ref f16)))
    (l16 : K.lookup f16 = some ⟨oc16, od16, .func (PySem.W.fnOf "_law_take" "_law_take" (defArgs s_l_take) (defBody s_l_take) (defScope s_l_take) .none kV16 dc16 pm16 an16 cd16 ct16), sl16⟩)
    (c16 : PySem.W.codeIn K cd16 "_law_take" = true) (k16 : PySem.W.keepIn K (.ref f16) = true)
    (a17 : PySem.W.nsIn K mainGlobals "_law_of" = some (some (.ref f17)))
    (l17 : K.lookup f17 = some ⟨oc17, od17, .func (PySem.W.fnOf "_law_of" "_law_of" (defArgs s_l_of) (defBody s_l_of) (defScope s_l_of) .none kV17 dc17 pm17 an17 cd17 ct17), sl17⟩)
    (c17 : PySem.W.codeIn K cd17 "_law_of" = true) (k17 : PySem.W.keepIn K (.ref f17) = true)
    (a18 : PySem.W.nsIn K mainGlobals "_law_same" = some (some (.ref f18)))
    (l18 : K.lookup f18 = some ⟨oc18, od18, .func (PySem.W.fnOf "_law_same" "_law_same" (defArgs s_l_same) (defBody s_l_same) (defScope s_l_same) .none kV18 dc18 pm18 an18 cd18 ct18), sl18⟩)
    (c18 : PySem.W.codeIn K cd18 "_law_same" = true) (k18 : PySem.W.keepIn K (.ref f18) = true)
    (a19 : PySem.W.nsIn K mainGlobals "_law_lists" = some (some (.ref f19)))
    (l19 : K.lookup f19 = some ⟨oc19, od19, .func (PySem.W.fnOf "_law_lists" "_law_lists" (defArgs s_l_lists) (defBody s_l_lists) (defScope s_l_lists) .none kV19 dc19 pm19 an19 cd19 ct19), sl19⟩)
    (c19 : PySem.W.codeIn K cd19 "_law_lists" = true) (k19 : PySem.W.keepIn K (.ref f19) = true)
    (a20 : PySem.W.nsIn K mainGlobals "_law_is_int" = some (some (.ref f20)))
    (l20 : K.lookup f20 = some ⟨oc20, od20, .func (PySem.W.fnOf "_law_is_int" "_law_is_int" (defArgs s_l_is_int) (defBody s_l_is_int) (defScope s_l_is_int) .none kV20 dc20 pm20 an20 cd20 ct20), sl20⟩)
    (c20 : PySem.W.codeIn K cd20 "_law_is_int" = true) (k20 : PySem.W.keepIn K (.ref f20) = true)
    (a21 : PySem.W.nsIn K mainGlobals "_law_runs" = some (some (.ref f21)))
    (l21 : K.lookup f21 = some ⟨oc21, od21, .func (PySem.W.fnOf "_law_runs" "_law_runs" (defArgs s_l_runs) (defBody s_l_runs) (defScope s_l_runs) .none kV21 dc21 pm21 an21 cd21 ct21), sl21⟩)
    (c21 : PySem.W.codeIn K cd21 "_law_runs" = true) (k21 : PySem.W.keepIn K (.ref f21) = true)
    (a22 : PySem.W.nsIn K mainGlobals "_law_seen" = some (some (.ref f22)))
    (l22 : K.lookup f22 = some ⟨oc22, od22, .func (PySem.W.fnOf "_law_seen" "_law_seen" (defArgs s_l_seen) (defBody s_l_seen) (defScope s_l_seen) .none kV22 dc22 pm22 an22 cd22 ct22), sl22⟩)
    (c22 : PySem.W.codeIn K cd22 "_law_seen" = true) (k22 : PySem.W.keepIn K (.ref f22) = true)
    (a23 : PySem.W.nsIn K mainGlobals "_law_queue" = some (some (.ref f23)))
    (l23 : K.lookup f23 = some ⟨oc23, od23, .func (PySem.W.fnOf "_law_queue" "_law_queue" (defArgs s_l_queue) (defBody s_l_queue) (defScope s_l_queue) .none kV23 dc23 pm23 an23 cd23 ct23), sl23⟩)
    (c23 : PySem.W.codeIn K cd23 "_law_queue" = true) (k23 : PySem.W.keepIn K (.ref f23) = true)
    (a24 : PySem.W.nsIn K mainGlobals "_law_notes" = some (some (.ref f24)))
    (l24 : K.lookup f24 = some ⟨oc24, od24, .func (PySem.W.fnOf "_law_notes" "_law_notes" (defArgs s_l_notes) (defBody s_l_notes) (defScope s_l_notes) .none kV24 dc24 pm24 an24 cd24 ct24), sl24⟩)
    (c24 : PySem.W.codeIn K cd24 "_law_notes" = true) (k24 : PySem.W.keepIn K (.ref f24) = true)
    (a25 : PySem.W.nsIn K mainGlobals "_law_story" = some (some (.ref f25)))
    (l25 : K.lookup f25 = some ⟨oc25, od25, .func (PySem.W.fnOf "_law_story" "_law_story" (defArgs s_l_story) (defBody s_l_story) (defScope s_l_story) .none kV25 dc25 pm25 an25 cd25 ct25), sl25⟩)
    (c25 : PySem.W.codeIn K cd25 "_law_story" = true) (k25 : PySem.W.keepIn K (.ref f25) = true)
    (a26 : PySem.W.nsIn K mainGlobals "_law_spoilt" = some (some (.ref f26)))
    (l26 : K.lookup f26 = some ⟨oc26, od26, .func (PySem.W.fnOf "_law_spoilt" "_law_spoilt" (defArgs s_l_spoilt) (defBody s_l_spoilt) (defScope s_l_spoilt) .none kV26 dc26 pm26 an26 cd26 ct26), sl26⟩)
    (c26 : PySem.W.codeIn K cd26 "_law_spoilt" = true) (k26 : PySem.W.keepIn K (.ref f26) = true)
    (a27 : PySem.W.nsIn K mainGlobals "_law_false" = some (some (.ref f27)))
    (l27 : K.lookup f27 = some ⟨oc27, od27, .func (PySem.W.fnOf "_law_false" "_law_false" (defArgs s_l_false) (defBody s_l_false) (defScope s_l_false) .none kV27 dc27 pm27 an27 cd27 ct27), sl27⟩)
    (c27 : PySem.W.codeIn K cd27 "_law_false" = true) (k27 : PySem.W.keepIn K (.ref f27) = true)
    (a28 : PySem.W.nsIn K mainGlobals "_law_bent" = some (some (.ref f28)))
    (l28 : K.lookup f28 = some ⟨oc28, od28, .func (PySem.W.fnOf "_law_bent" "_law_bent" (defArgs s_l_bent) (defBody s_l_bent) (defScope s_l_bent) .none kV28 dc28 pm28 an28 cd28 ct28), sl28⟩)
    (c28 : PySem.W.codeIn K cd28 "_law_bent" = true) (k28 : PySem.W.keepIn K (.ref f28) = true)
    (a29 : PySem.W.nsIn K mainGlobals "_law_is_note" = some (some (.ref f29)))
    (l29 : K.lookup f29 = some ⟨oc29, od29, .func (PySem.W.fnOf "_law_is_note" "_law_is_note" (defArgs s_l_is_note) (defBody s_l_is_note) (defScope s_l_is_note) .none kV29 dc29 pm29 an29 cd29 ct29), sl29⟩)
    (c29 : PySem.W.codeIn K cd29 "_law_is_note" = true) (k29 : PySem.W.keepIn K (.ref f29) = true)
    (a30 : PySem.W.nsIn K mainGlobals "_law_is_book" = some (some (.ref f30)))
    (l30 : K.lookup f30 = some ⟨oc30, od30, .func (PySem.W.fnOf "_law_is_book" "_law_is_book" (defArgs s_l_is_book) (defBody s_l_is_book) (defScope s_l_is_book) .none kV30 dc30 pm30 an30 cd30 ct30), sl30⟩)
    (c30 : PySem.W.codeIn K cd30 "_law_is_book" = true) (k30 : PySem.W.keepIn K (.ref f30) = true)
    (a31 : PySem.W.nsIn K mainGlobals "_law_is_order" = some (some (.ref f31)))
    (l31 : K.lookup f31 = some ⟨oc31, od31, .func (PySem.W.fnOf "_law_is_order" "_law_is_order" (defArgs s_l_is_order) (defBody s_l_is_order) (defScope s_l_is_order) .none kV31 dc31 pm31 an31 cd31 ct31), sl31⟩)
    (c31 : PySem.W.codeIn K cd31 "_law_is_order" = true) (k31 : PySem.W.keepIn K (.ref f31) = true)
    (a32 : PySem.W.nsIn K mainGlobals "_law_right" = some (some (.ref f32)))
    (l32 : K.lookup f32 = some ⟨oc32, od32, .func (PySem.W.fnOf "_law_right" "_law_right" (defArgs s_l_right) (defBody s_l_right) (defScope s_l_right) .none kV32 dc32 pm32 an32 cd32 ct32), sl32⟩)
    (c32 : PySem.W.codeIn K cd32 "_law_right" = true) (k32 : PySem.W.keepIn K (.ref f32) = true)
    (a33 : PySem.W.nsIn K mainGlobals "law" = some (some (.ref f33)))
    (l33 : K.lookup f33 = some ⟨oc33, od33, .func (PySem.W.fnOf "law" "law" (defArgs s_law) (defBody s_law) (defScope s_law) .none kV33 dc33 pm33 an33 cd33 ct33), sl33⟩)
    (c33 : PySem.W.codeIn K cd33 "law" = true) (k33 : PySem.W.keepIn K (.ref f33) = true)
    {aD0 : Addr} {dd0 : Option Addr} {nn0 : Nat} {ss0 : Array (Option Value)} {t0_0 t0_1 t0_2 : Tok} (e0 : PySem.W.nsIn K mainGlobals "WORDS" = some (some (.ref aD0))) (lk0 : K.lookup aD0 = some ⟨.type "tuple", dd0, .seq #[.str "new" t0_0, .str "beside" t0_1, .str "between" t0_2] nn0, ss0⟩)
    (z_abs : PySem.W.nsIn K mainGlobals "abs" = some none)
    (z_all : PySem.W.nsIn K mainGlobals "all" = some none)
    (z_bool : PySem.W.nsIn K mainGlobals "bool" = some none)
    (z_enumerate : PySem.W.nsIn K mainGlobals "enumerate" = some none)
    (z_int : PySem.W.nsIn K mainGlobals "int" = some none)
    (z_isinstance : PySem.W.nsIn K mainGlobals "isinstance" = some none)
    (z_len : PySem.W.nsIn K mainGlobals "len" = some none)
    (z_list : PySem.W.nsIn K mainGlobals "list" = some none)
    (z_min : PySem.W.nsIn K mainGlobals "min" = some none)
    (z_range : PySem.W.nsIn K mainGlobals "range" = some none)
    (z_repr : PySem.W.nsIn K mainGlobals "repr" = some none)
    (z_set : PySem.W.nsIn K mainGlobals "set" = some none)
    (z_sorted : PySem.W.nsIn K mainGlobals "sorted" = some none)
    (z_str : PySem.W.nsIn K mainGlobals "str" = some none)
    (z_tuple : PySem.W.nsIn K mainGlobals "tuple" = some none)
    (z_zip : PySem.W.nsIn K mainGlobals "zip" = some none) :
    ∃ fd : FuncData, (∀ (s : Shared) (v : Value), BindsTo s fd ⟨[v], []⟩ [("_law_script", v)]) ∧ ∀ base : Heap, K.In base → base.Ns mainGlobals mg → FnG l.prog w K mg base 9 fa fd ["_law_script"] (Dw.spLaw K) := by
  have e := hfa.symm.trans (PySem.W.mg_of X G a33)
  cases e
  have F0 := fun_mk (st := s_is_number) l0 c0 k0
  have b0 := F0.binds (ps := ["thing"]) fun _ _ _ _ _ _ us hl => match us, hl with | [_], _ => rfl
  have F1 := fun_mk (st := s_is_number_below) l1 c1 k1
  have b1 := F1.binds (ps := ["thing", "limit"]) fun _ _ _ _ _ _ us hl => match us, hl with | [_, _], _ => rfl
  have F2 := fun_mk (st := s_is_row) l2 c2 k2
  have b2 := F2.binds (ps := ["plots", "thing"]) fun _ _ _ _ _ _ us hl => match us, hl with | [_, _], _ => rfl
  have F3 := fun_mk (st := s_neighbours) l3 c3 k3
  have b3 := F3.binds (ps := ["row"]) fun _ _ _ _ _ _ us hl => match us, hl with | [_], _ => rfl
  have F4 := fun_mk (st := s_groups) l4 c4 k4
  have b4 := F4.binds (ps := ["row"]) fun _ _ _ _ _ _ us hl => match us, hl with | [_], _ => rfl
  have F5 := fun_mk (st := s_houses) l5 c5 k5
  have b5 := F5.binds (ps := ["row"]) fun _ _ _ _ _ _ us hl => match us, hl with | [_], _ => rfl
  have F6 := fun_mk (st := s_is_value) l6 c6 k6
  have b6 := F6.binds (ps := ["sort", "thing"]) fun _ _ _ _ _ _ us hl => match us, hl with | [_, _], _ => rfl
  have F7 := fun_mk (st := s_is_note) l7 c7 k7
  have b7 := F7.binds (ps := ["thing"]) fun _ _ _ _ _ _ us hl => match us, hl with | [_], _ => rfl
  have F8 := fun_mk (st := s_is_notes) l8 c8 k8
  have b8 := F8.binds (ps := ["times", "thing"]) fun _ _ _ _ _ _ us hl => match us, hl with | [_, _], _ => rfl
  have F9 := fun_mk (st := s_is_journal) l9 c9 k9
  have b9 := F9.binds (ps := ["thing"]) fun _ _ _ _ _ _ us hl => match us, hl with | [_], _ => rfl
  have F10 := fun_mk (st := s_true_value) l10 c10 k10
  have b10 := F10.binds (ps := ["row", "time", "sort"]) fun _ _ _ _ _ _ us hl => match us, hl with | [_, _, _], _ => rfl
  have F11 := fun_mk (st := s_untrue_times) l11 c11 k11
  have b11 := F11.binds (ps := ["notes", "row"]) fun _ _ _ _ _ _ us hl => match us, hl with | [_, _], _ => rfl
  have F12 := fun_mk (st := s_is_order) l12 c12 k12
  have b12 := F12.binds (ps := ["journal", "thing"]) fun _ _ _ _ _ _ us hl => match us, hl with | [_, _], _ => rfl
  have F13 := fun_mk (st := s_journal_of) l13 c13 k13
  have b13 := F13.binds (ps := ["plots", "row"]) fun _ _ _ _ _ _ us hl => match us, hl with | [_, _], _ => rfl
  have F14 := fun_mk (st := s_l_cell_at) l14 c14 k14
  have b14 := F14.binds (ps := ["_law_script", "_law_k"]) fun _ _ _ _ _ _ us hl => match us, hl with | [_, _], _ => rfl
  have F15 := fun_mk (st := s_l_box) l15 c15 k15
  have b15 := F15.binds (ps := ["_law_script", "_law_k"]) fun _ _ _ _ _ _ us hl => match us, hl with | [_, _], _ => rfl
  have F16 := fun_mk (st := s_l_take) l16 c16 k16
  have b16 := F16.binds (ps := ["_law_box_here", "_law_below"]) fun _ _ _ _ _ _ us hl => match us, hl with | [_, _], _ => rfl
  have F17 := fun_mk (st := s_l_of) l17 c17 k17
  have b17 := F17.binds (ps := ["_law_box_here", "_law_some"]) fun _ _ _ _ _ _ us hl => match us, hl with | [_, _], _ => rfl
  have F18 := fun_mk (st := s_l_same) l18 c18 k18
  have b18 := F18.binds (ps := ["_law_found", "_law_due"]) fun _ _ _ _ _ _ us hl => match us, hl with | [_, _], _ => rfl
  have F19 := fun_mk (st := s_l_lists) l19 c19 k19
  have b19 := F19.binds (ps := ["_law_part"]) fun _ _ _ _ _ _ us hl => match us, hl with | [_], _ => rfl
  have F20 := fun_mk (st := s_l_is_int) l20 c20 k20
  have b20 := F20.binds (ps := ["_law_matter"]) fun _ _ _ _ _ _ us hl => match us, hl with | [_], _ => rfl
  have F21 := fun_mk (st := s_l_runs) l21 c21 k21
  have b21 := F21.binds (ps := ["_law_there"]) fun _ _ _ _ _ _ us hl => match us, hl with | [_], _ => rfl
  have F22 := fun_mk (st := s_l_seen) l22 c22 k22
  have b22 := F22.binds (ps := ["_law_queue_here"]) fun _ _ _ _ _ _ us hl => match us, hl with | [_], _ => rfl
  have F23 := fun_mk (st := s_l_queue) l23 c23 k23
  have b23 := F23.binds (ps := ["_law_box_here", "_law_count", "_law_size"]) fun _ _ _ _ _ _ us hl => match us, hl with | [_, _, _], _ => rfl
  have F24 := fun_mk (st := s_l_notes) l24 c24 k24
  have b24 := F24.binds (ps := ["_law_box_here", "_law_queue_here"]) fun _ _ _ _ _ _ us hl => match us, hl with | [_, _], _ => rfl
  have F25 := fun_mk (st := s_l_story) l25 c25 k25
  have b25 := F25.binds (ps := ["_law_box_here", "_law_most"]) fun _ _ _ _ _ _ us hl => match us, hl with | [_, _], _ => rfl
  have F26 := fun_mk (st := s_l_spoilt) l26 c26 k26
  have b26 := F26.binds (ps := ["_law_box_here", "_law_book"]) fun _ _ _ _ _ _ us hl => match us, hl with | [_, _], _ => rfl
  have F27 := fun_mk (st := s_l_false) l27 c27 k27
  have b27 := F27.binds (ps := ["_law_book", "_law_queue_here"]) fun _ _ _ _ _ _ us hl => match us, hl with | [_, _], _ => rfl
  have F28 := fun_mk (st := s_l_bent) l28 c28 k28
  have b28 := F28.binds (ps := ["_law_box_here", "_law_part"]) fun _ _ _ _ _ _ us hl => match us, hl with | [_, _], _ => rfl
  have F29 := fun_mk (st := s_l_is_note) l29 c29 k29
  have b29 := F29.binds (ps := ["_law_size", "_law_matter"]) fun _ _ _ _ _ _ us hl => match us, hl with | [_, _], _ => rfl
  have F30 := fun_mk (st := s_l_is_book) l30 c30 k30
  have b30 := F30.binds (ps := ["_law_matter"]) fun _ _ _ _ _ _ us hl => match us, hl with | [_], _ => rfl
  have F31 := fun_mk (st := s_l_is_order) l31 c31 k31
  have b31 := F31.binds (ps := ["_law_book", "_law_matter"]) fun _ _ _ _ _ _ us hl => match us, hl with | [_, _], _ => rfl
  have F32 := fun_mk (st := s_l_right) l32 c32 k32
  have b32 := F32.binds (ps := ["_law_box_here"]) fun _ _ _ _ _ _ us hl => match us, hl with | [_], _ => rfl
  have F33 := fun_mk (st := s_law) l33 c33 k33
  have T : Top w K mg := ⟨⟨⟨f0, _, F0, b0, PySem.W.mg_of X G a0⟩⟩, ⟨⟨f1, _, F1, b1, PySem.W.mg_of X G a1⟩⟩, ⟨⟨f2, _, F2, b2, PySem.W.mg_of X G a2⟩⟩, ⟨⟨f3, _, F3, b3, PySem.W.mg_of X G a3⟩⟩, ⟨⟨f4, _, F4, b4, PySem.W.mg_of X G a4⟩⟩, ⟨⟨f5, _, F5, b5, PySem.W.mg_of X G a5⟩⟩, ⟨⟨f6, _, F6, b6, PySem.W.mg_of X G a6⟩⟩, ⟨⟨f7, _, F7, b7, PySem.W.mg_of X G a7⟩⟩, ⟨⟨f8, _, F8, b8, PySem.W.mg_of X G a8⟩⟩, ⟨⟨f9, _, F9, b9, PySem.W.mg_of X G a9⟩⟩, ⟨⟨f10, _, F10, b10, PySem.W.mg_of X G a10⟩⟩, ⟨⟨f11, _, F11, b11, PySem.W.mg_of X G a11⟩⟩, ⟨⟨f12, _, F12, b12, PySem.W.mg_of X G a12⟩⟩, ⟨⟨f13, _, F13, b13, PySem.W.mg_of X G a13⟩⟩, ⟨⟨f14, _, F14, b14, PySem.W.mg_of X G a14⟩⟩, ⟨⟨f15, _, F15, b15, PySem.W.mg_of X G a15⟩⟩, ⟨⟨f16, _, F16, b16, PySem.W.mg_of X G a16⟩⟩, ⟨⟨f17, _, F17, b17, PySem.W.mg_of X G a17⟩⟩, ⟨⟨f18, _, F18, b18, PySem.W.mg_of X G a18⟩⟩, ⟨⟨f19, _, F19, b19, PySem.W.mg_of X G a19⟩⟩, ⟨⟨f20, _, F20, b20, PySem.W.mg_of X G a20⟩⟩, ⟨⟨f21, _, F21, b21, PySem.W.mg_of X G a21⟩⟩, ⟨⟨f22, _, F22, b22, PySem.W.mg_of X G a22⟩⟩, ⟨⟨f23, _, F23, b23, PySem.W.mg_of X G a23⟩⟩, ⟨⟨f24, _, F24, b24, PySem.W.mg_of X G a24⟩⟩, ⟨⟨f25, _, F25, b25, PySem.W.mg_of X G a25⟩⟩, ⟨⟨f26, _, F26, b26, PySem.W.mg_of X G a26⟩⟩, ⟨⟨f27, _, F27, b27, PySem.W.mg_of X G a27⟩⟩, ⟨⟨f28, _, F28, b28, PySem.W.mg_of X G a28⟩⟩, ⟨⟨f29, _, F29, b29, PySem.W.mg_of X G a29⟩⟩, ⟨⟨f30, _, F30, b30, PySem.W.mg_of X G a30⟩⟩, ⟨⟨f31, _, F31, b31, PySem.W.mg_of X G a31⟩⟩, ⟨⟨f32, _, F32, b32, PySem.W.mg_of X G a32⟩⟩, ⟨⟨aD0, PySem.W.mg_of X G e0, fun G0 => .tup (xs := [.str "new", .str "beside", .str "between"]) (.inr ⟨_, _, _, lk0, rfl, rfl, (show 3 ≤ sizeLine by decide), (.cons ⟨_, rfl⟩ (.cons ⟨_, rfl⟩ (.cons ⟨_, rfl⟩ .nil)))⟩) (.cons (.str _) (.cons (.str _) (.cons (.str _) .nil)))⟩⟩, PySem.W.mg_none_of X G z_abs, PySem.W.mg_none_of X G z_all, PySem.W.mg_none_of X G z_bool, PySem.W.mg_none_of X G z_enumerate, PySem.W.mg_none_of X G z_int, PySem.W.mg_none_of X G z_isinstance, PySem.W.mg_none_of X G z_len, PySem.W.mg_none_of X G z_list, PySem.W.mg_none_of X G z_min, PySem.W.mg_none_of X G z_range, PySem.W.mg_none_of X G z_repr, PySem.W.mg_none_of X G z_set, PySem.W.mg_none_of X G z_sorted, PySem.W.mg_none_of X G z_str, PySem.W.mg_none_of X G z_tuple, PySem.W.mg_none_of X G z_zip⟩
  exact ⟨_, fun s v => .of_eq rfl, fun base _ _ => ok_law F33 T⟩
end Og05
open PySem PySem.W PyProof.Rows
set_option maxHeartbeats 0 in
theorem PySem.Challenge.cw_onlygroups_k05_journals_and_orders_or_no_holds : PySem.Challenge.rw_onlygroups_k05_journals_and_orders_or_no.Holds := by
  w_on; o_law; k_head; (case hw => w_witness2)
  k_fill
  refine OgR.walk_G (l := PySem.Challenge.rw_onlygroups_k05_journals_and_orders_or_no) (n := 63) (k := 9) (x := "_law_script") (sp := fun w => Dw.spLaw _) rfl (by decide) rfl ⟨rfl, by decide, by decide⟩ (fun w h Y => PySem.W.kIn_of Y) ?F (fun _ _ a ns hl hS => ⟨a, ns, rfl, hS, hl, fun _ => rfl⟩)
  case F =>
    intro w mg fa h KX G hmg
    refine' Og05.all_mk KX G hmg ?a0 ?l0 ?c0 ?k0 ?a1 ?l1 ?c1 ?k1 ?a2 ?l2 ?c2 ?k2 ?a3 ?l3 ?c3 ?k3 ?a4 ?l4 ?c4 ?k4 ?a5 ?l5 ?c5 ?k5 ?a6 ?l6 ?c6 ?k6 ?a7 ?l7 ?c7 ?k7 ?a8 ?l8 ?c8 ?k8 ?a9 ?l9 ?c9 ?k9 ?a10 ?l10 ?c10 ?k10 ?a11 ?l11 ?c11 ?k11 ?a12 ?l12 ?c12 ?k12 ?a13 ?l13 ?c13 ?k13 ?a14 ?l14 ?c14 ?k14 ?a15 ?l15 ?c15 ?k15 ?a16 ?l16 ?c16 ?k16 ?a17 ?l17 ?c17 ?k17 ?a18 ?l18 ?c18 ?k18 ?a19 ?l19 ?c19 ?k19 ?a20 ?l20 ?c20 ?k20 ?a21 ?l21 ?c21 ?k21 ?a22 ?l22 ?c22 ?k22 ?a23 ?l23 ?c23 ?k23 ?a24 ?l24 ?c24 ?k24 ?a25 ?l25 ?c25 ?k25 ?a26 ?l26 ?c26 ?k26 ?a27 ?l27 ?c27 ?k27 ?a28 ?l28 ?c28 ?k28 ?a29 ?l29 ?c29 ?k29 ?a30 ?l30 ?c30 ?k30 ?a31 ?l31 ?c31 ?k31 ?a32 ?l32 ?c32 ?k32 ?a33 ?l33 ?c33 ?k33 ?e0 ?lk0 ?z_abs ?z_all ?z_bool ?z_enumerate ?z_int ?z_isinstance ?z_len ?z_list ?z_min ?z_range ?z_repr ?z_set ?z_sorted ?z_str ?z_tuple ?z_zip
    (case a0 => k_is)
    (case l0 => k_is)
    (case c0 => k_is)
    (case k0 => k_is)
    (case a1 => k_is)
    (case l1 => k_is)
    (case c1 => k_is)
    (case k1 => k_is)
    (case a2 => k_is)
    (case l2 => k_is)
    (case c2 => k_is)
    (case k2 => k_is)
    (case a3 => k_is)
    (case l3 => k_is)
    (case c3 => k_is)
    (case k3 => k_is)
    (case a4 => k_is)
    (case l4 => k_is)
    (case c4 => k_is)
    (case k4 => k_is)
    (case a5 => k_is)
    (case l5 => k_is)
    (case c5 => k_is)
    (case k5 => k_is)
    (case a6 => k_is)
    (case l6 => k_is)
    (case c6 => k_is)
    (case k6 => k_is)
    (case a7 => k_is)
    (case l7 => k_is)
    (case c7 => k_is)
    (case k7 => k_is)
    (case a8 => k_is)
    (case l8 => k_is)
    (case c8 => k_is)
    (case k8 => k_is)
    (case a9 => k_is)
    (case l9 => k_is)
    (case c9 => k_is)
    (case k9 => k_is)
    (case a10 => k_is)
    (case l10 => k_is)
    (case c10 => k_is)
    (case k10 => k_is)
    (case a11 => k_is)
    (case l11 => k_is)
    (case c11 => k_is)
    (case k11 => k_is)
    (case a12 => k_is)
    (case l12 => k_is)
    (case c12 => k_is)
    (case k12 => k_is)
    (case a13 => k_is)
    (case l13 => k_is)
    (case c13 => k_is)
    (case k13 => k_is)
    (case a14 => k_is)
    (case l14 => k_is)
    (case c14 => k_is)
    (case k14 => k_is)
    (case a15 => k_is)
    (case l15 => k_is)
    (case c15 => k_is)
    (case k15 => k_is)
    (case a16 => k_is)
    (case l16 => k_is)
    (case c16 => k_is)
    (case k16 => k_is)
    (case a17 => k_is)
    (case l17 => k_is)
    (case c17 => k_is)
    (case k17 => k_is)
    (case a18 => k_is)
    (case l18 => k_is)
    (case c18 => k_is)
    (case k18 => k_is)
    (case a19 => k_is)
    (case l19 => k_is)
    (case c19 => k_is)
    (case k19 => k_is)
    (case a20 => k_is)
    (case l20 => k_is)
    (case c20 => k_is)
    (case k20 => k_is)
    (case a21 => k_is)
    (case l21 => k_is)
    (case c21 => k_is)
    (case k21 => k_is)
    (case a22 => k_is)
    (case l22 => k_is)
    (case c22 => k_is)
    (case k22 => k_is)
    (case a23 => k_is)
    (case l23 => k_is)
    (case c23 => k_is)
    (case k23 => k_is)
    (case a24 => k_is)
    (case l24 => k_is)
    (case c24 => k_is)
    (case k24 => k_is)
    (case a25 => k_is)
    (case l25 => k_is)
    (case c25 => k_is)
    (case k25 => k_is)
    (case a26 => k_is)
    (case l26 => k_is)
    (case c26 => k_is)
    (case k26 => k_is)
    (case a27 => k_is)
    (case l27 => k_is)
    (case c27 => k_is)
    (case k27 => k_is)
    (case a28 => k_is)
    (case l28 => k_is)
    (case c28 => k_is)
    (case k28 => k_is)
    (case a29 => k_is)
    (case l29 => k_is)
    (case c29 => k_is)
    (case k29 => k_is)
    (case a30 => k_is)
    (case l30 => k_is)
    (case c30 => k_is)
    (case k30 => k_is)
    (case a31 => k_is)
    (case l31 => k_is)
    (case c31 => k_is)
    (case k31 => k_is)
    (case a32 => k_is)
    (case l32 => k_is)
    (case c32 => k_is)
    (case k32 => k_is)
    (case a33 => k_is)
    (case l33 => k_is)
    (case c33 => k_is)
    (case k33 => k_is)
    (case e0 => k_is)
    (case lk0 => k_is)
    (case z_abs => k_is)
    (case z_all => k_is)
    (case z_bool => k_is)
    (case z_enumerate => k_is)
    (case z_int => k_is)
    (case z_isinstance => k_is)
    (case z_len => k_is)
    (case z_list => k_is)
    (case z_min => k_is)
    (case z_range => k_is)
    (case z_repr => k_is)
    (case z_set => k_is)
    (case z_sorted => k_is)
    (case z_str => k_is)
    (case z_tuple => k_is)
    (case z_zip => k_is)
