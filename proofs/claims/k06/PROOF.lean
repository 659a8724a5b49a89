import PyProof.Rows.All
import Wide.All
import OpenK.AllK
import Wide.FinOn
import HandS.ForMost
import HandS.Evl
import HandS.IsInst
import HandS.Style
import HandS.Zip
import HandS.SortInts
import HandS.Conv
import HandS.More
import KE.GoesEnum
import HandS.Walk
import HandS.NoneIn
import HandS.SetFor
import HandS.Deep
import HandS.RaiseMore
import PyProof.ReprReads
import HandS.TupAny
import HandS.Ends
import HandS.Codes
import HandS.Words
import HandS.DeepEq
import HandS.WrittenGet
import HandS.Star
import HandS.TupLe
import KE.DataMinMax
import HandS.TupMul
import HandS.Dict
import HandS.Iter
import KE.SortData
import KE.DataCmp
import HandS.ExcInit
import HandS.ExcField
import KE.KExcInit
import KE.KExcIs
import KE.KTryMore
import HandS.WordsExc
import PySem.Challenge.RW_onlygroups_k06_notes_added_and_removed
set_option Elab.async false
set_option linter.all false
set_option maxRecDepth 100000
set_option maxHeartbeats 4000000
namespace OgR
open PySem PySem.Spec PyProof.Rows L2
/-! sorted(t), t a tuple of ints -/
section
variable {prog : Program} {w : World} {A : Around} {E : Value → Shared → Prop} {s : Shared}
/-- the items of a tuple, collected in a new list at the heap's end -/
theorem gather_tup {Q : List Value → Shared → Prop} {t : Addr} {o : Obj} {xs : Array Value} {m : Nat} (got : s.heap.get? t = some o) (cl : o.cls = .type "tuple")
    (dt : o.data = .seq xs m) (fits : xs.size ≤ sizeLine)
    (fin : Q xs.toList { s with heap := (s.heap.push (seqObj "list" #[] 0)).update s.heap.objs.size (Obj.mapSeq (· ++ xs)) }) :
    wpAny (model prog w) A (collect (.ref t)) Q E s := by
  have new1 : (s.heap.push (seqObj "list" #[] 0)).get? s.heap.objs.size = some (seqObj "list" #[] 0) := Heap.get?_push_size _ rfl
  have new2 := Heap.get?_update_self (Obj.mapSeq (· ++ xs)) new1 rfl
  unfold collect
  refine wpAny_bind (wpAny_runValue (codeAny_builtin F.entry_proto_collect ?_))
  rw [Around.under_plainId F.plain_proto_collect _]
  refine wpAny_bind (wpAny_newObj_type (wpAny_pure ⟨plainId_quiet F.plain_list_iadd _, codeAny_builtin F.entry_list_iadd ?_⟩))
  rw [Around.under_plainId F.plain_list_iadd _]
  refine wpAny_mono (wpAny_extend_seq (hsz := fits) (A := A) (R := fun r s' => r = .ok (.ret (.ref s.heap.objs.size)) ∧
      s' = { s with heap := (s.heap.push (seqObj "list" #[] 0)).update s.heap.objs.size (Obj.mapSeq (· ++ xs)) })
    (s := { s with heap := s.heap.push (seqObj "list" #[] 0) }) _ t _ 0 (.inr rfl) new1 (Heap.get?_push_of_some _ got) cl dt ⟨rfl, rfl⟩) (fun f s' g => ?_) (fun e s' g => absurd g.1 (by simp))
  have last : wpAny (model prog w) A (do
      match (← load s.heap.objs.size).data with
        | Data.seq ys _ => pure ys.toList
        | _ => unsupported "internal:collect") Q E { s with heap := (s.heap.push (seqObj "list" #[] 0)).update s.heap.objs.size (Obj.mapSeq (· ++ xs)) } := by
    refine wpAny_bind (wpAny_load new2 (wpAny_pure ?_))
    have e0 : ((#[] : Array Value) ++ xs).toList = xs.toList := by simp
    show Q ((#[] : Array Value) ++ xs).toList _
    rw [e0]
    exact fin
  cases f with
  | done r =>
    obtain ⟨e1, rfl⟩ := g
    cases e1
    exact last
  | again c => exact ⟨g.1, codeAny_mono g.2 fun r s2 gr => by
      obtain ⟨rfl, rfl⟩ := gr
      exact last⟩
theorem sorted_of_tup {t : Addr} {us : List Value} {ms : List Int} {Q : Value → Shared → Prop} (ht : IsTup s.heap t us.toArray) (hz : us.length ≤ sizeLine) (hI : IntsAre us ms)
    (fin : ∀ (out : List Value) (h' : Heap) (p : Addr) (e : Nat), (∀ b o, s.heap.get? b = some o → h'.get? b = some o) → s.heap.objs.size ≤ p → IntsAre out (out.map SrtO.iv) → (out.map SrtO.iv).Perm ms → (out.map SrtO.iv).Pairwise (· ≤ ·) →
      h'.get? p = some (seqObj "list" out.toArray e) → Q (.ref p) { s with heap := h' }) :
    wpAny (model prog w) A (call (.builtin "sorted") [.ref t]) Q E s := by
  obtain ⟨o, ho, hc, n, hd⟩ := ht
  refine Calls.call_function_entry kind_sorted plain_sorted entry_sorted (args_sorted1 _) ?_
  unfold Builtin.«sorted»
  refine wpAny_bind (m := checkCount "sorted" 1 1 _) (wpAny_pure ?_)
  refine wpAny_bind (gather_tup ho hc hd (by simpa using hz) ?_)
  rw [List.toList_toArray]
  have hsz : ((s.heap.push (seqObj "list" #[] 0)).update s.heap.objs.size (Obj.mapSeq (· ++ us.toArray))).objs.size = s.heap.objs.size + 1 := by
    rw [Heap.size_update, size_push']
  have keep1 : ∀ b u, s.heap.get? b = some u → ((s.heap.push (seqObj "list" #[] 0)).update s.heap.objs.size (Obj.mapSeq (· ++ us.toArray))).get? b = some u := fun b u q =>
    (Heap.get?_update_other _ _ (Nat.ne_of_gt (Heap.lt_size q))).trans (Heap.get?_push_of_some _ q)
  generalize ((s.heap.push (seqObj "list" #[] 0)).update s.heap.objs.size (Obj.mapSeq (· ++ us.toArray))) = h1 at hsz keep1
  refine wpAny_bind (wpAny_newList ?_ hz)
  have old2 : ∀ b u, s.heap.get? b = some u → b < h1.objs.size := fun b u q => Heap.lt_size (keep1 b u q)
  have hnew : (h1.push (seqObj "list" us.toArray 0)).get? h1.objs.size = some (seqObj "list" us.toArray 0) := Heap.get?_push_size _ rfl
  have hle : s.heap.objs.size ≤ h1.objs.size := by omega
  show wpAny _ _ _ _ _ { s with heap := h1.push (seqObj "list" us.toArray 0) }
  refine wpAny_bind (wpAny_holding (wpAny_call_entry slot_list_sort ⟨_, hnew, rfl⟩ entry_list_sort (SrtO.list_sort_ord SrtO.swo_int hnew hz (fun h2 => SrtO.ints_sortable hI h2) fun out a1 a2 => ⟨_, rfl, ?_⟩) (args_list_sort _)))
  obtain ⟨b1, b2, b3⟩ := SrtO.ints_out hI a1 a2
  obtain ⟨e, he⟩ := sortedHeap_at (out := out.toArray) hnew
  refine wpAny_pure ⟨_, rfl, fin out _ h1.objs.size e (fun b u q => ?_) hle b1 b2 b3 he⟩
  have hb := old2 b u q
  rw [sortedHeap_old (Nat.ne_of_lt hb) (by rw [size_push']; exact Nat.lt_succ_of_lt hb)]
  exact Heap.get?_push_of_some _ (keep1 b u q)
end
def rSrtT (K : PySem.W.Frag) : List V → Hp → VK → Prop := fun vs H Q => ∃ (a : Addr) (ms : List Int), vs = [V.ref a] ∧ SqT K H a (ms.map V.int) ∧
  ∀ (ks : List Int) (p : Addr), ks.Perm ms → ks.Pairwise (· ≤ ·) → H p = none → Q (.ref p) (upd H p (.lst (ks.map V.int)))
theorem cr_srtT {X : Cx} : CallR X (.builtin "sorted") (rSrtT X.K) := by
  intro pins s σ H vs us Q I r h
  obtain ⟨a, ms, rfl, hs, q⟩ := h
  obtain ⟨its, rv, ht, hz⟩ := I.tuple hs
  rw [Vals.ref1 r]
  refine sorted_of_tup ht (by rw [← rv.length]; exact hz) rv.ints fun out h' p e keep hp k1 k2 k3 he => ?_
  have hlen : ((out.map SrtO.iv).map V.int).length ≤ sizeLine := by
    have q1 := k2.length_eq
    rw [List.length_map] at hz
    rw [List.length_map]
    omega
  exact ⟨.ref p, upd H p (.lst ((out.map SrtO.iv).map V.int)), I.laid (t' := s.toks) keep hp ⟨hlen, out, e, vals_of_ints k1, he⟩, rfl, q _ _ k2 k3 (I.hok.fresh hp)⟩

/-! ### a sequence, a list or a tuple -/
def SqB (K : PySem.W.Frag) : Bool → Hp → Addr → List V → Prop
  | true, H, a, xs => SqT K H a xs
  | false, H, a, xs => SqL K H a xs
def SeqIs : Bool → Heap → Addr → Array Value → Prop
  | true, h, a, xs => h.IsTuple a xs
  | false, h, a, xs => h.IsList a xs
def ItIs : Bool → Heap → Addr → Addr → Nat → Prop
  | true, h, i, a, n => h.IsTupleIter i a n
  | false, h, i, a, n => h.IsListIter i a n
def itObj (b : Bool) (a : Addr) : Obj := { cls := .type (if b then "tuple_iterator" else "list_iterator"), data := .fields #[.ref a, .int 0 0] }
theorem seqB {X : Cx} {pins : List (Addr × Obj)} {σ : L2.St} {H : Hp} {s : Shared} {a : Addr} {xs : List V} {b : Bool} (I : Inv X pins σ H s) (h : SqB X.K b H a xs) :
    ∃ its : List Value, Vals xs its ∧ SeqIs b s.heap a its.toArray ∧ a < s.heap.objs.size := by
  cases b with
  | true =>
    obtain ⟨its, r, p, _⟩ := I.tuple h
    exact ⟨its, r, p, p.lt⟩
  | false =>
    obtain ⟨its, r, p, _⟩ := I.list h
    exact ⟨its, r, p.isList, p.lt⟩
theorem seqB_inj {X : Cx} {pins : List (Addr × Obj)} {σ : L2.St} {H : Hp} {s : Shared} {a : Addr} {xs ys : List V} {b : Bool} (I : Inv X pins σ H s) (h : SqB X.K b H a xs) (h' : SqB X.K b H a ys) : xs = ys := by
  cases b with
  | true => exact I.tuple_inj h h'
  | false => exact I.list_inj h h'
theorem drawsB {prog : Program} {w : World} {A : Around} (hh : A.handled = none) (b : Bool) (it a : Addr) (hne : a ≠ it) (items : Array Value) :
    Draws prog w A it [it, a] items.size (fun i v => items[i]? = some v) (fun i h => ItIs b h it a i ∧ SeqIs b h a items) := by
  cases b with
  | true => exact Draws.tuple hh it a hne items
  | false => exact Draws.list hh it a hne items
theorem beginsB (b : Bool) (a : Addr) (items : Array Value) : Begins (.ref a) (itObj b a) fun h => SeqIs b h a items := by
  cases b with
  | true => exact begins_tuple a items
  | false => exact begins_list a items
theorem itIs0 {b : Bool} {h : Heap} {i a : Addr} (e : h.get? i = some (itObj b a)) : ItIs b h i a 0 := by
  cases b with
  | true => exact ⟨_, e, rfl, rfl⟩
  | false => exact ⟨_, e, rfl, rfl⟩
theorem ItIs.obj {b : Bool} {h : Heap} {i a : Addr} {n : Nat} (x : ItIs b h i a n) : ∃ o, h.get? i = some o ∧ ∀ v, o.data ≠ .cell v := by
  cases b with
  | true =>
    obtain ⟨o, e, _, d⟩ := x
    exact ⟨o, e, fun v q => by rw [d] at q; cases q⟩
  | false =>
    obtain ⟨o, e, _, d⟩ := x
    exact ⟨o, e, fun v q => by rw [d] at q; cases q⟩
theorem ItIs.keep {b : Bool} {h h' : Heap} {i a : Addr} {n : Nat} (x : ItIs b h i a n) (k : ∀ o, h.get? i = some o → h'.get? i = some o) : ItIs b h' i a n := by
  cases b with
  | true => exact Heap.IsTupleIter.at x k
  | false => exact Heap.IsListIter.at x k

/-! ### enumerate of a list or a tuple -/
set_option maxHeartbeats 1000000 in
theorem enum_new1 {v : Value} {o : Obj} {H : Heap → Prop} (B : Begins v o H) : Meets (Builtin.«enumerate.__new__» ⟨[.type "enumerate", v], []⟩) (fun _ R s => H s.heap ∧
    R (.ok (.ret (.ref (s.heap.push o).objs.size)))
      { s with heap := (s.heap.push o).push { cls := .type "enumerate", data := .fields #[.none, .bool false, .ref s.heap.objs.size, rawInt 0, .none, .none] } }) := by
  refine .of_wp fun prog w A R s h => ?_
  obtain ⟨hp, gn, dr, tk, os⟩ := s
  obtain ⟨hH, fin⟩ := h
  have hsub := sub_enumerate
  have it1 : ∀ {A' : Around} {E : Value → Shared → Prop} {Q : Value → Shared → Prop}, Q (.ref hp.objs.size) ⟨hp.push o, gn, dr, tk, os⟩ → wpAny (model prog w) A' (pyIter v) Q E ⟨hp, gn, dr, tk, os⟩ := fun q =>
    B.iter prog w _ _ ⟨hp, gn, dr, tk, os⟩ _ hH q
  wp_walk using it1
  refine wpAny_stack_any fun st => wpAny_pure ?_
  split
  · rename_i cc _ _ _ _ _
    cases (cc == Value.type "enumerate") <;> (wp_walk using it1; exact ⟨_, rfl, fin⟩)
  · wp_walk using it1
    exact ⟨_, rfl, fin⟩
theorem enum_begins1 {prog : Program} {w : World} {A : Around} {E : Value → Shared → Prop} {s : Shared} {v : Value} {o : Obj} {H : Heap → Prop} {Q : Value → Shared → Prop} (B : Begins v o H) (h1 : H s.heap)
    (fin : ∀ h', IsEnum h' (s.heap.objs.size + 1) s.heap.objs.size 0 .none → h'.get? s.heap.objs.size = some o → h'.objs.size = s.heap.objs.size + 2 → (∀ b u, s.heap.get? b = some u → h'.get? b = some u) →
      Q (.ref (s.heap.objs.size + 1)) { s with heap := h' }) : wpAny (model prog w) A (call (.type "enumerate") [v]) Q E s := by
  refine callType_new F.called_enumerate (by decide) (F.typeCall_enumerate_1 _) (F.newCall_enumerate_1 _) (fun obj => F.args_object_init_2 obj _) F.entry_enumerate_new (enum_new1 B) ⟨h1, ?_⟩
  have sz : (s.heap.push o).objs.size = s.heap.objs.size + 1 := Heap.size_push ..
  have it := Heap.get?_push_size (s.heap.push o) (o := { cls := .type "enumerate", data := .fields #[.none, .bool false, .ref s.heap.objs.size, rawInt 0, .none, .none] }) rfl
  rw [sz] at it
  show _ ∧ _
  rw [sz]
  exact ⟨⟨_, it, rfl⟩, fin _ it (Heap.get?_push_of_some _ (Heap.get?_push_size _ B.free)) (by rw [Heap.size_push, sz]) fun b u x => Heap.get?_push_of_some _ (Heap.get?_push_of_some _ x)⟩
/-- the turns of enumerate over the sequence at a -/
def IteB (K : PySem.W.Frag) (b : Bool) (a : Addr) : It where
  go := fun i H => ∃ (xs : List V) (x : V), SqB K b H a xs ∧ xs[i]? = some x
  yld := fun i H v H' => ∃ T x, v = .ref T ∧ H T = none ∧ H' = upd H T (.tup [.int (i : Nat), x]) ∧ ∀ xs, SqB K b H a xs → xs[i]? = some x
  stop := fun i H => ∃ xs : List V, SqB K b H a xs ∧ xs.length = i
theorem turn_enumB {P : Program} {w : World} {K : PySem.W.Frag} {elts : List Expr} {kk : Nat} {tpos : Pos} {b : Bool} (a e it : Addr) :
    Turn P w K (.Tuple elts kk tpos) (IteB K b a) [e, it] e (fun i h => (∃ old, IsEnum h e it ((i : Nat) : Int) old) ∧ ItIs b h it a i ∧ e ≠ it ∧ a ≠ it ∧ e ≠ a) where
  mem := List.mem_cons_self ..
  obj := fun i h st c hc => by
    obtain ⟨⟨old, he⟩, hi, _⟩ := st
    rcases List.mem_cons.mp hc with rfl | hc
    · exact ⟨_, he, fun v q => nomatch q⟩
    · rw [List.mem_singleton.mp hc]
      exact hi.obj
  keep := fun i h h' st k => by
    obtain ⟨⟨old, he⟩, hi, r⟩ := st
    exact ⟨⟨old, k e (by simp) _ he⟩, hi.keep (k it (by simp)), r⟩
  item := by
    intro X hP hw hK hc i pins s σ H E I hf st hg
    subst hP hw hK
    obtain ⟨⟨old, he⟩, hit, hne, hai, hea⟩ := st
    obtain ⟨xs, x, hq, hx⟩ := hg
    obtain ⟨its, rv, hsq, _⟩ := seqB I hq
    obtain ⟨u, hu, ru⟩ := rv.get hx
    have lte : e < s.heap.objs.size := Heap.lt_size he
    have lti : it < s.heap.objs.size := by
      obtain ⟨o, q, _⟩ := hit.obj
      exact Heap.lt_size q
    have hlt : i < its.toArray.size := by
      have q := (List.getElem?_eq_some_iff.mp hu).1
      simpa using q
    refine wpAny_pyNext_enum_itemC (drawsB (by exact I.ok.hd hc) b it a hai its.toArray) he ⟨hit, hsq⟩ hlt hne (by simp [hne, hea]) fun y h' tk hy ho hst' hT hsz hk => ?_
    have hyu : y = u := by
      have q : its[i]? = some y := by simpa using hy
      rw [hu] at q
      exact (Option.some.inj q).symm
    subst hyu
    refine ⟨_, rfl, wpAny_letOwnedTupleGo_enum (s := { s with heap := h', toks := tk + 1 }) ho fun h2 he2 sb => ?_⟩
    have atT : h2.get? s.heap.objs.size = some { cls := .type "tuple", data := .seq #[.int i tk, y] } := (sb.2 _ (Nat.ne_of_gt lte)).trans hT
    have I1 : Inv X pins σ (upd H s.heap.objs.size (.tup [.int (i : Nat), x])) { s with heap := h2, toks := tk + 1 } := by
      refine I.turnedNew (ch := [e, it]) (fun c oc hcn q => ?_) hf (Nat.le_refl _) ⟨by show 2 ≤ sizeLine; decide, [.int i tk, y], .cons ⟨_, rfl⟩ (.cons ru .nil), ⟨_, atT, rfl, _, rfl⟩⟩
      exact (sb.2 c (fun z => hcn (by simp [z]))).trans (hk c oc (fun z => hcn (by simp [z])) (fun z => hcn (by simp [z])) q)
    refine ⟨.ref s.heap.objs.size, _, I1, rfl, ⟨_, x, rfl, I.hok.fresh (Nat.le_refl _), rfl, fun ys hy' => by rw [seqB_inj I hy' hq]; exact hx⟩, ⟨⟨y, ?_⟩, hst'.1.keep fun o q => (sb.2 it (Ne.symm hne)).trans q, hne, hai, hea⟩, fun c hcm => ?_⟩
    · have e1 : ((i + 1 : Nat) : Int) = (i : Int) + 1 := by omega
      rw [e1]
      exact he2
    · have ltc : c < s.heap.objs.size := by
        rcases List.mem_cons.mp hcm with rfl | hcm
        · exact lte
        · rw [List.mem_singleton.mp hcm]
          exact lti
      rw [upd_ne (Nat.ne_of_lt ltc)]
      exact (hf c hcm).1
  done := by
    intro X hP hw hK hc i pins s σ H E I hf st hg
    subst hP hw hK
    obtain ⟨⟨old, he⟩, hit, hne, hai, hea⟩ := st
    obtain ⟨xs, hq, hx⟩ := hg
    obtain ⟨its, rv, hsq, _⟩ := seqB I hq
    obtain ⟨f0, f1, f2, f3, f4, f5⟩ := hf it (by simp)
    have hl : its.toArray.size = i := by
      have q := rv.length
      simp
      omega
    refine wpAny_pyNext_enum_endD (drawsB (by exact I.ok.hd hc) b it a hai its.toArray) he (by rw [hl]; exact ⟨hit, hsq⟩) fun h' hk => ⟨rfl, ?_⟩
    exact I.turned (t' := s.toks) (fun c oc hcn q => hk c oc hcn q) f0 f1 f3 f4 f5
  self := fun A i s Q E st h => by
    obtain ⟨⟨_, he⟩, _⟩ := st
    exact wpAny_pyIter_enum he h
def iEnumB (K : PySem.W.Frag) (ta : TA) : TI := fun σ H R => ta σ H fun vs H1 => ∃ b a xs, vs = [.ref a] ∧ SqB K b H1 a xs ∧ R (IteB K b a) H1
theorem pi_enumB {X : Cx} {e : Expr} {ta : TA} {p pos tpos : Pos} {elts : List Expr} {kk : Nat} (hg : Gl X "enumerate") (hm : X.mg "enumerate" = none) (ha : PA X [e] ta) (hs : starEach [e] X.env = [(false, eval e X.env)] := by rfl) :
    PI X (.Tuple elts kk tpos) (.Call (.Name "enumerate" p) [e] [] pos) (iEnumB X.K ta) := by
  refine ⟨fun pins s σ H R I h => ?_⟩
  refine Call_ (ld_blt I hg hm boot_enumerate (callWith_type1 (thn (ha.run pos pins s σ H _ I h) fun us s1 ⟨vs, H1, I1, r1, g⟩ => ?_) hs rfl))
  obtain ⟨b, a, xs, ex, hq, q⟩ := g
  subst ex
  rw [Vals.ref1 r1]
  obtain ⟨its, rv, hsq, lta⟩ := seqB I1 hq
  refine enum_begins1 (beginsB b a its.toArray) hsq fun h' he hit hsz hk => wpAny_pyIter_enum he ?_
  refine ⟨s1.heap.objs.size + 1, [s1.heap.objs.size + 1, s1.heap.objs.size], _, _, H1, rfl, I1.kept (t' := s1.toks) hk, turn_enumB a (s1.heap.objs.size + 1) s1.heap.objs.size, ⟨⟨.none, he⟩, itIs0 hit, Nat.succ_ne_self _, Nat.ne_of_lt lta, Nat.ne_of_gt (Nat.lt_succ_of_lt lta)⟩, fun c hc => ?_, q⟩
  have hle : s1.heap.objs.size ≤ c := by
    rcases List.mem_cons.mp hc with rfl | hc
    · exact Nat.le_succ _
    · rw [List.mem_singleton.mp hc]
      exact Nat.le_refl _
  exact I1.fpOk hle (I1.hok.fresh hle)
end OgR

namespace OgR
open PySem PySem.Spec PyProof.Rows L2
/-! ### zip of two sequences, each a list or a tuple -/
def ItzB (K : PySem.W.Frag) (b1 b2 : Bool) (a1 a2 : Addr) : It where
  go := fun i H => ∃ (xs ys : List V) (x y : V), SqB K b1 H a1 xs ∧ SqB K b2 H a2 ys ∧ xs[i]? = some x ∧ ys[i]? = some y
  yld := fun i H v H' => ∃ T x y, v = .ref T ∧ H T = none ∧ H' = upd H T (.tup [x, y]) ∧ (∀ xs, SqB K b1 H a1 xs → xs[i]? = some x) ∧ ∀ ys, SqB K b2 H a2 ys → ys[i]? = some y
  stop := fun i H => ∃ xs ys : List V, SqB K b1 H a1 xs ∧ SqB K b2 H a2 ys ∧ i ≤ xs.length ∧ i ≤ ys.length ∧ (i = xs.length ∨ i = ys.length)
theorem turn_zipB {P : Program} {w : World} {K : PySem.W.Frag} {elts : List Expr} {kk : Nat} {tpos : Pos} {b1 b2 : Bool} {a1 a2 z TI TO i1 i2 : Addr} (S : ZipSep2 z TI TO i1 i2 [i1, a1] [i2, a2]) (n1 : a1 ≠ i1) (n2 : a2 ≠ i2) :
    Turn P w K (.Tuple elts kk tpos) (ItzB K b1 b2 a1 a2) [z, TI, TO, i1, i2] z
      (fun i h => IsZip h z TI TO .none ∧ IsTupOf2 h TI (.ref i1) (.ref i2) ∧ (∃ x y, IsTupOf2 h TO x y) ∧ ItIs b1 h i1 a1 i ∧ ItIs b2 h i2 a2 i) where
  mem := List.mem_cons_self ..
  obj := fun i h st c hc => by
    obtain ⟨hz, hTI, ⟨x, y, hTO⟩, h1, h2⟩ := st
    have q : c = z ∨ c = TI ∨ c = TO ∨ c = i1 ∨ c = i2 := by simpa using hc
    rcases q with rfl | rfl | rfl | rfl | rfl
    · exact ⟨_, hz, fun v q => nomatch q⟩
    · exact ⟨_, hTI, fun v q => nomatch q⟩
    · exact ⟨_, hTO, fun v q => nomatch q⟩
    · exact h1.obj
    · exact h2.obj
  keep := fun i h h' st k => by
    obtain ⟨hz, hTI, ⟨x, y, hTO⟩, h1, h2⟩ := st
    exact ⟨k z (by simp) _ hz, k TI (by simp) _ hTI, ⟨x, y, k TO (by simp) _ hTO⟩, h1.keep (k i1 (by simp)), h2.keep (k i2 (by simp))⟩
  item := by
    intro X hP hw hK hc i pins s σ H E I hf st hg
    subst hP hw hK
    obtain ⟨hz, hTI, ⟨x0, y0, hTO⟩, h1, h2⟩ := st
    obtain ⟨xs, ys, x, y, qx, qy, hx, hy⟩ := hg
    obtain ⟨us1, rv1, sq1, _⟩ := seqB I qx
    obtain ⟨us2, rv2, sq2, _⟩ := seqB I qy
    obtain ⟨u1, e1, r1⟩ := rv1.get hx
    obtain ⟨u2, e2, r2⟩ := rv2.get hy
    have ltz : z < s.heap.objs.size := Heap.lt_size hz
    have lt1 : i < us1.toArray.size := by
      have q := (List.getElem?_eq_some_iff.mp e1).1
      simpa using q
    have lt2 : i < us2.toArray.size := by
      have q := (List.getElem?_eq_some_iff.mp e2).1
      simpa using q
    refine wpAny_pyNext_zipD2_item S (drawsB (by exact I.ok.hd hc) b1 i1 a1 n1 us1.toArray) (drawsB (by exact I.ok.hd hc) b2 i2 a2 n2 us2.toArray) hz hTI hTO ⟨h1, sq1⟩ ⟨h2, sq2⟩ lt1 lt2
      fun v1 v2 h' tk p1 p2 z' TO' st1 st2 hT hsz hk => ?_
    have ev1 : v1 = u1 := by
      have q : us1[i]? = some v1 := by simpa using p1
      rw [e1] at q
      exact (Option.some.inj q).symm
    have ev2 : v2 = u2 := by
      have q : us2[i]? = some v2 := by simpa using p2
      rw [e2] at q
      exact (Option.some.inj q).symm
    subst ev1 ev2
    refine ⟨_, rfl, wpAny_letOwnedTupleGo_zip (s := { s with heap := h', toks := tk }) z' fun h2' z2 sb => ?_⟩
    have atT : h2'.get? s.heap.objs.size = some { cls := .type "tuple", data := .seq #[v1, v2] } := (sb.2 _ (Nat.ne_of_gt ltz)).trans hT
    have I1 : Inv X pins σ (upd H s.heap.objs.size (.tup [x, y])) { s with heap := h2', toks := tk } := by
      refine I.turnedNew (ch := [z, TI, TO, i1, i2]) (fun c oc hcn q => ?_) hf (Nat.le_refl _) ⟨by show 2 ≤ sizeLine; decide, [v1, v2], .cons r1 (.cons r2 .nil), ⟨_, atT, rfl, _, rfl⟩⟩
      have g : ∀ d, d ∈ [z, TI, TO, i1, i2] → c ≠ d := fun d hd e => hcn (e ▸ hd)
      exact (sb.2 c (g z (by simp))).trans (hk c oc (g z (by simp)) (g TO (by simp)) (g i1 (by simp)) (g i2 (by simp)) q)
    refine ⟨.ref s.heap.objs.size, _, I1, rfl, ⟨_, x, y, rfl, I.hok.fresh (Nat.le_refl _), rfl, fun l hl => by rw [seqB_inj I hl qx]; exact hx, fun l hl => by rw [seqB_inj I hl qy]; exact hy⟩, ⟨z2, ?_, ⟨v1, v2, ?_⟩, ?_, ?_⟩, fun c hcm => ?_⟩
    · exact (sb.2 _ S.TIz).trans (hk _ _ S.TIz S.TITO S.TIi1 S.TIi2 hTI)
    · exact (sb.2 _ S.TOz).trans TO'
    · exact st1.1.keep fun o q => (sb.2 _ (Ne.symm S.zi1)).trans q
    · exact st2.1.keep fun o q => (sb.2 _ (Ne.symm S.zi2)).trans q
    · have ltc : c < s.heap.objs.size := by
        have q : c = z ∨ c = TI ∨ c = TO ∨ c = i1 ∨ c = i2 := by simpa using hcm
        rcases q with rfl | rfl | rfl | rfl | rfl
        · exact ltz
        · exact Heap.lt_size hTI
        · exact Heap.lt_size hTO
        · obtain ⟨_, q, _⟩ := h1.obj
          exact Heap.lt_size q
        · obtain ⟨_, q, _⟩ := h2.obj
          exact Heap.lt_size q
      rw [upd_ne (Nat.ne_of_lt ltc)]
      exact (hf c hcm).1
  done := by
    intro X hP hw hK hc i pins s σ H E I hf st hg
    subst hP hw hK
    obtain ⟨hz, hTI, ⟨x0, y0, hTO⟩, h1, h2⟩ := st
    obtain ⟨xs, ys, qx, qy, l1, l2, hend⟩ := hg
    obtain ⟨us1, rv1, sq1, _⟩ := seqB I qx
    obtain ⟨us2, rv2, sq2, _⟩ := seqB I qy
    have m1 : xs.length = us1.toArray.size := by
      have q := rv1.length
      simpa using q
    have m2 : ys.length = us2.toArray.size := by
      have q := rv2.length
      simpa using q
    refine wpAny_pyNext_zipD2_end S (drawsB (by exact I.ok.hd hc) b1 i1 a1 n1 us1.toArray) (drawsB (by exact I.ok.hd hc) b2 i2 a2 n2 us2.toArray) hz hTI hTO ⟨h1, sq1⟩ ⟨h2, sq2⟩ (by omega) (by omega) (by omega) fun h' tk hk => ⟨rfl, ?_⟩
    refine I.turnedL (t' := tk) (ch := [z, TI, TO, i1, i2]) (fun c oc hcn q => ?_) hf
    have g : ∀ d, d ∈ [z, TI, TO, i1, i2] → c ≠ d := fun d hd e => hcn (e ▸ hd)
    exact hk c oc (g z (by simp)) (g TO (by simp)) (g i1 (by simp)) (g i2 (by simp)) q
  self := fun A i s Q E st h => wpAny_pyIter_zip st.1 h
def iZipB (K : PySem.W.Frag) (ta : TA) : TI := fun σ H R => ta σ H fun vs H1 => ∃ b1 b2 a1 a2 xs ys, vs = [.ref a1, .ref a2] ∧ SqB K b1 H1 a1 xs ∧ SqB K b2 H1 a2 ys ∧ R (ItzB K b1 b2 a1 a2) H1
theorem pi_zipB {X : Cx} {e e2 : Expr} {ta : TA} {p pos tpos : Pos} {elts : List Expr} {kk : Nat} (hg : Gl X "zip") (hm : X.mg "zip" = none) (ha : PA X [e, e2] ta)
    (hs : starEach [e, e2] X.env = (false, eval e X.env) :: starEach [e2] X.env := by rfl) (hpl : (backTo pos (starEach [e2] X.env)).any (·.1) = false := by rfl) :
    PI X (.Tuple elts kk tpos) (.Call (.Name "zip" p) [e, e2] [] pos) (iZipB X.K ta) := by
  refine ⟨fun pins s σ H R I h => ?_⟩
  refine Call_ (ld_blt I hg hm boot_zip (callWith_type1 (thn (ha.run pos pins s σ H _ I h) fun us s1 ⟨vs, H1, I1, r1, g⟩ => ?_) hs hpl))
  obtain ⟨b1, b2, a1, a2, xs, ys, ex, qx, qy, q⟩ := g
  subst ex
  obtain ⟨u, w', eus, ru, rw'⟩ := vals2 r1
  subst eus
  cases ru
  cases rw'
  obtain ⟨us1, rv1, sq1, lt1⟩ := seqB I1 qx
  obtain ⟨us2, rv2, sq2, lt2⟩ := seqB I1 qy
  refine zip_begins2 (beginsB b1 a1 us1.toArray) (beginsB b2 a2 us2.toArray) sq1 sq2 fun h' hz hTI hTO g1 g2 hsz hk => wpAny_pyIter_zip hz ?_
  have S := zip_sep2 (N := s1.heap.objs.size) (fp1 := [a1]) (fp2 := [a2]) (fun b hb => by rw [List.mem_singleton.mp hb]; exact lt1) (fun b hb => by rw [List.mem_singleton.mp hb]; exact lt2)
  refine ⟨s1.heap.objs.size + 4, [s1.heap.objs.size + 4, s1.heap.objs.size + 2, s1.heap.objs.size + 3, s1.heap.objs.size, s1.heap.objs.size + 1], _, _, H1, rfl, I1.kept (t' := s1.toks) hk,
    turn_zipB S (Nat.ne_of_lt lt1) (Nat.ne_of_lt (Nat.lt_succ_of_lt lt2)), ⟨hz, hTI, ⟨_, _, hTO⟩, itIs0 g1, itIs0 g2⟩, fun c hcm => ?_, q⟩
  have hle : s1.heap.objs.size ≤ c := by
    have e' : c = s1.heap.objs.size + 4 ∨ c = s1.heap.objs.size + 2 ∨ c = s1.heap.objs.size + 3 ∨ c = s1.heap.objs.size ∨ c = s1.heap.objs.size + 1 := by simpa using hcm
    rcases e' with q | q | q | q | q <;> rw [q] <;> first | exact Nat.le_add_right _ _ | exact Nat.le_refl _
  exact I1.fpOk hle (I1.hok.fresh hle)
/-! ### their walks -/
theorem SqB.ex {K : PySem.W.Frag} {b : Bool} {H H' : Hp} {a : Addr} {xs : List V} (e : Evl.Ex H H') (h : SqB K b H a xs) : SqB K b H' a xs := by
  cases b with
  | true => exact Evl.ex_t e h
  | false => exact Evl.ex_l e h
theorem walk_enumB {K : PySem.W.Frag} {b : Bool} {a : Addr} {xs : List V} : Walk (IteB K b a) xs.length (fun H => SqB K b H a xs) (fun i H v H' => ∃ T x, v = .ref T ∧ H T = none ∧ H' = upd H T (.tup [.int (i : Nat), x]) ∧ xs[i]? = some x) where
  goes := fun i H hi h => ⟨xs, xs[i], h, List.getElem?_eq_getElem hi⟩
  stops := fun H h => ⟨xs, h, rfl⟩
  yields := fun i H v H' hi h y => by
    obtain ⟨T, x, e1, e2, e3, e4⟩ := y
    exact ⟨T, x, e1, e2, e3, e4 xs h⟩
theorem walk_zipB {K : PySem.W.Frag} {b1 b2 : Bool} {a1 a2 : Addr} {xs ys : List V} (hl : xs.length = ys.length) : Walk (ItzB K b1 b2 a1 a2) xs.length (fun H => SqB K b1 H a1 xs ∧ SqB K b2 H a2 ys)
    (fun i H v H' => ∃ T x y, v = .ref T ∧ H T = none ∧ H' = upd H T (.tup [x, y]) ∧ xs[i]? = some x ∧ ys[i]? = some y) where
  goes := fun i H hi h => ⟨xs, ys, xs[i], ys[i]'(by omega), h.1, h.2, List.getElem?_eq_getElem hi, List.getElem?_eq_getElem (by omega)⟩
  stops := fun H h => ⟨xs, ys, h.1, h.2, Nat.le_refl _, by omega, .inl rfl⟩
  yields := fun i H v H' hi h y => by
    obtain ⟨T, x, z, e1, e2, e3, e4, e5⟩ := y
    exact ⟨T, x, z, e1, e2, e3, e4 xs h.1, e5 ys h.2⟩
/-! ### for x in s, s a list or a tuple -/
def ItsB (K : PySem.W.Frag) (b : Bool) (a : Addr) : It where
  go := fun i H => ∃ xs x, SqB K b H a xs ∧ xs[i]? = some x
  yld := fun i H x H' => H' = H ∧ ∀ xs, SqB K b H a xs → xs[i]? = some x
  stop := fun i H => ∃ xs, SqB K b H a xs ∧ xs.length ≤ i
theorem turn_seqB {P : Program} {w : World} {K : PySem.W.Frag} {tg : Expr} (b : Bool) (a it : Addr) : Turn P w K tg (ItsB K b a) [it] it (fun i h => ItIs b h it a i) := by
  cases b with
  | true => exact turn_tuple a it
  | false => exact turn_list a it
def iSeqB (K : PySem.W.Frag) (tl : TE) : TI := fun σ H R => tl σ H fun x H1 => ∃ b a xs, x = .ref a ∧ SqB K b H1 a xs ∧ R (ItsB K b a) H1
theorem pi_seqB {X : Cx} {tg l : Expr} {tl : TE} (hl : PE X l tl) : PI X tg l (iSeqB X.K tl) := by
  refine ⟨fun pins s σ H R I h => thn (hl.run pins s σ H _ I h) fun v s1 ⟨x, H1, I1, r1, g⟩ => ?_⟩
  obtain ⟨b, a, xs, e, hq, q⟩ := g
  subst e
  cases r1
  obtain ⟨its, rv, hsq, lt⟩ := seqB I1 hq
  refine (beginsB b a its.toArray).iter _ _ _ _ _ _ hsq ?_
  refine ⟨s1.heap.objs.size, [s1.heap.objs.size], _, _, H1, rfl, I1.kept (t' := s1.toks) fun c o e => Heap.get?_push_of_some _ e, turn_seqB b a _, itIs0 (Heap.get?_push_size _ (beginsB b a its.toArray).free), fun c hc => ?_, q⟩
  rw [List.mem_singleton.mp hc]
  exact I1.fpOk (Nat.le_refl _) (I1.hok.fresh (Nat.le_refl _))
theorem walk_seqB {K : PySem.W.Frag} {b : Bool} {a : Addr} {xs : List V} : Walk (ItsB K b a) xs.length (fun H => SqB K b H a xs) (fun i H v H' => H' = H ∧ xs[i]? = some v) where
  goes := fun i H hi h => ⟨xs, xs[i], h, List.getElem?_eq_getElem hi⟩
  stops := fun H h => ⟨xs, h, Nat.le_refl _⟩
  yields := fun i H v H' hi h y => ⟨y.1, y.2 xs h⟩
/-! ### one of two readings -/
theorem PG.or {X : Cx} {e : Expr} {g1 g2 : TG} (h1 : PG X e g1) (h2 : PG X e g2) : PG X e (fun v σ H Q => g1 v σ H Q ∨ g2 v σ H Q) :=
  ⟨fun pins s σ H v u Q I r h => by
    rcases h with h | h
    · exact h1.run pins s σ H v u Q I r h
    · exact h2.run pins s σ H v u Q I r h⟩
theorem CallR.or {X : Cx} {f : Value} {r1 r2 : List V → Hp → VK → Prop} (h1 : CallR X f r1) (h2 : CallR X f r2) : CallR X f (fun vs H Q => r1 vs H Q ∨ r2 vs H Q) := by
  intro pins s σ H vs us Q I r h
  rcases h with h | h
  · exact h1 pins s σ H vs us Q I r h
  · exact h2 pins s σ H vs us Q I r h
/-- unpacking a pair: a tuple or a list of n items -/
def gSeqB (K : PySem.W.Frag) (n : Nat) (t : TGs) : TG := fun v σ H Q => ∃ b a xs, v = .ref a ∧ SqB K b H a xs ∧ xs.length = n ∧ t xs σ H Q
theorem pg_seqB {X : Cx} {es : List Expr} {k : Nat} {pos : Pos} {t : TGs} {n : Nat} (hc : X.calm = true) (h : PGs X es t)
    (hn : (assignEach es X.env).length = n := by rfl) (hst : (assignEach es X.env).findIdx? (·.1) = none := by rfl) : PG X (.Tuple es k pos) (gSeqB X.K n t) :=
  ⟨fun pins s σ H v u Q I r hw => by
    obtain ⟨b, a, xs, e1, hq, hl, hw⟩ := hw
    cases b with
    | true => exact (pg_tup hc h hn hst).run pins s σ H v u Q I r ⟨a, xs, e1, hq, hl, hw⟩
    | false => exact (pg_unl hc h hn hst).run pins s σ H v u Q I r ⟨a, xs, e1, hq, hl, hw⟩⟩
/-- sorted(s), s a list or a tuple of ints -/
def rSrtB (K : PySem.W.Frag) : List V → Hp → VK → Prop := fun vs H Q => ∃ (b : Bool) (a : Addr) (ms : List Int), vs = [V.ref a] ∧ SqB K b H a (ms.map V.int) ∧
  ∀ (ks : List Int) (p : Addr), ks.Perm ms → ks.Pairwise (· ≤ ·) → H p = none → Q (.ref p) (upd H p (.lst (ks.map V.int)))
theorem cr_srtB {X : Cx} : CallR X (.builtin "sorted") (rSrtB X.K) := by
  intro pins s σ H vs us Q I r h
  obtain ⟨b, a, ms, e, hq, q⟩ := h
  cases b with
  | true => exact cr_srtT pins s σ H vs us Q I r ⟨a, ms, e, hq, q⟩
  | false => exact cr_sortedI pins s σ H vs us Q I r ⟨a, ms, e, hq, q⟩
/-- len(s), s a list or a tuple -/
def rLenB (K : PySem.W.Frag) : List V → Hp → VK → Prop := fun vs H Q => ∃ (b : Bool) (a : Addr) (xs : List V), vs = [V.ref a] ∧ SqB K b H a xs ∧ Q (.int (xs.length : Int)) H
theorem cr_lenB {X : Cx} : CallR X (.builtin "len") (rLenB X.K) := by
  intro pins s σ H vs us Q I r h
  obtain ⟨b, a, xs, e, hq, q⟩ := h
  cases b with
  | true => exact call_len_seq pins s σ H vs us Q I r ⟨a, xs, e, .inr hq, q⟩
  | false => exact call_len_seq pins s σ H vs us Q I r ⟨a, xs, e, .inl hq, q⟩
/-- s[i], s a list or a tuple -/
def rIxB (K : PySem.W.Frag) : R2 := fun x y H Q => ∃ (b : Bool) (p : Addr) (xs : List V) (i : Int) (v : V), x = .ref p ∧ y = .int i ∧ SqB K b H p xs ∧ atI xs i = some v ∧ Q v H
theorem ix_B {X : Cx} : IxR X (rIxB X.K) := by
  have h : IxR X (rIx X.K) := ix_seq
  refine fun va sl pins s σ H x y u w Q I rx ry g hp => h va sl pins s σ H x y u w Q I rx ry ?_ hp
  obtain ⟨b, p, xs, i, v, e1, e2, hq, ha, q⟩ := g
  cases b with
  | true => exact .inr (.inl ⟨p, xs, i, v, e1, e2, hq, ha, q⟩)
  | false => exact .inl ⟨p, xs, i, v, e1, e2, hq, ha, q⟩
end OgR

namespace OgR
open PySem PySem.Spec PyProof.Rows L2
/-! ### l[a:c] = a list -/
def gSl (to : TE) (tl th : TO) : TG := fun v σ H Q => to σ H fun o H1 => tl σ H1 fun lo H2 => th σ H2 fun hi H3 => ∃ (l b : Addr) (xs ys : List V) (a c : Int), o = .ref l ∧ v = .ref b ∧ lo = some a ∧ hi = some c ∧ H3 l = some (.lst xs) ∧ H3 b = some (.lst ys) ∧ l ≠ b ∧
  0 ≤ a ∧ a ≤ c ∧ c ≤ xs.length ∧ xs.length + ys.length ≤ sizeLine ∧ Q σ (upd H3 l (.lst (xs.take a.toNat ++ ys ++ xs.drop c.toNat)))
theorem pg_sl {X : Cx} {o : Expr} {lo hi : Option Expr} {pos p2 : Pos} {to : TE} {tl th : TO} (ho : PE X o to) (hl : PO X lo tl) (hu : PO X hi th)
    (ha : ∀ v, assign (.Subscript o (.Slice lo hi none p2) pos) X.env v = (do
      let ov ← holding [v] (eval o X.env)
      let iv ← holding [v, ov] (eval (.Slice lo hi none p2) X.env)
      standAt pos
      holding [v, ov, iv] (setItem ov iv v)
      release [iv, v, ov] []) := by intro _; rfl) : PG X (.Subscript o (.Slice lo hi none p2) pos) (gSl to tl th) := by
  refine ⟨fun pins s σ H v u Q I r h => ?_⟩
  rw [ha]
  refine wpAny_bind (wpAny_holding (thn (ho.run pins s σ H _ I h) fun ov s1 ⟨x, H1, I1, r1, q1⟩ => ?_))
  refine wpAny_bind (wpAny_holding (wpAny_Slice (thn (hl.run pins s1 σ H1 _ I1 q1) fun vl s2 ⟨l, H2, I2, pl, q2⟩ => thn (hu.run pins s2 σ H2 _ I2 q2) fun vu s3 ⟨w', H3, I3, pu, q3⟩ => ?_)))
  rw [evalPart_none]
  refine wpAny_pure ?_
  obtain ⟨la, lb, xs, ys, a, c, rfl, rfl, rfl, rfl, e1, e2, hne, h0, hac, hc, hz, q⟩ := q3
  cases r1
  cases r
  have I4 : Inv X pins σ H3 { s3 with heap := s3.heap.push { cls := .type "slice", data := .fields #[vl, vu, .none] } } := I3.kept (t' := s3.toks) fun b ob q => Heap.get?_push_of_some _ q
  refine wpAny_bind (wpAny_standAt (wpAny_bind (wpAny_holding ?_)))
  cases pl with
  | int a ta =>
    cases pu with
    | int c tc => exact set_slice I4 e1 e2 hne (Heap.IsSliceOf.new ..) ⟨_, rfl⟩ ⟨_, rfl⟩ h0 hac hc hz fun s' I' => wpAny_release ⟨_, _, I', q⟩
end OgR

namespace OgR
open PySem PySem.Spec PyProof.Rows L2
/-! ### len(set(t)), t a tuple of ints, some of them perhaps twice -/
theorem card_eq : ∀ {ks ns : List Int}, ks.Nodup → (∀ k, k ∈ ns ↔ k ∈ ks) → ks.length ≤ ns.length ∧ (ks.length = ns.length ↔ ns.Nodup)
  | ks, [], hk, hm => by
    have e : ks = [] := List.eq_nil_iff_forall_not_mem.mpr fun k h => by
      have := (hm k).mpr h
      simp at this
    subst e
    simp
  | ks, n :: r, hk, hm => by
    by_cases hn : n ∈ r
    · have hm' : ∀ k, k ∈ r ↔ k ∈ ks := fun k => by
        rw [← hm k]
        constructor
        · exact fun h => List.mem_cons_of_mem _ h
        · intro h
          rcases List.mem_cons.mp h with e | e
          · rw [e]; exact hn
          · exact e
      have ih := card_eq hk hm'
      refine ⟨Nat.le_trans ih.1 (Nat.le_succ _), ?_⟩
      constructor
      · intro e
        have := ih.1
        rw [e, List.length_cons] at this
        omega
      · intro h
        exact absurd hn (List.nodup_cons.mp h).1
    · have hnk : n ∈ ks := (hm n).mp List.mem_cons_self
      have hm' : ∀ k, k ∈ r ↔ k ∈ ks.erase n := fun k => by
        rw [hk.mem_erase_iff, ← hm k]
        constructor
        · intro h
          refine ⟨fun e => hn (e ▸ h), List.mem_cons_of_mem _ h⟩
        · rintro ⟨h1, h2⟩
          rcases List.mem_cons.mp h2 with e | e
          · exact absurd e h1
          · exact e
      have ih := card_eq (hk.erase n) hm'
      have hl := List.length_erase_of_mem hnk
      have hpos : 0 < ks.length := List.length_pos_of_mem hnk
      rw [List.nodup_cons, List.length_cons]
      constructor
      · have := ih.1; omega
      · constructor
        · intro e
          exact ⟨hn, ih.2.mp (by omega)⟩
        · intro h
          have := ih.2.mpr h.2
          omega
section
variable {X : Cx}
def tLenSetN (K : PySem.W.Frag) (ta : TE) : TE := fun σ H Q => ta σ H fun x H1 => ∃ (l : Addr) (ns : List Int), x = V.ref l ∧ SqT K H1 l (ns.map V.int) ∧ ns.length ≤ 1000 ∧ ∀ c : Nat, c ≤ ns.length → (c = ns.length ↔ ns.Nodup) → Q (.int (c : Nat)) H1
theorem pe_lenSetN {a : Expr} {ta : TE} {p p2 q pos : Pos} (hc : X.calm = true) (hg : Gl X "len") (hm : X.mg "len" = none) (hg2 : Gl X "set") (hm2 : X.mg "set" = none) (ha : PE X a ta)
    (na : starEach [a] X.env = (false, eval a X.env) :: starEach [] X.env := by rfl) : PE X (.Call (.Name "len" p) [.Call (.Name "set" p2) [a] [] q] [] pos) (tLenSetN X.K ta) := by
  refine ⟨fun pins s σ H Q I h => ?_⟩
  refine Call_ (ld_blt I hg hm PySem.boot_len (PyProof.Rows.callWith_builtin1 (PyProof.Rows.args_cons ?_ rfl) rfl rfl))
  refine Call_ (ld_blt I hg2 hm2 PyProof.Rows.boot_set (PyProof.Rows.callWith_type1 (PyProof.Rows.args_cons (thn (ha.run pins s σ H _ I h) fun v s1 ⟨x, H1, I1, r1, q1⟩ => PyProof.Rows.args_nil ?_) na) na rfl))
  obtain ⟨l, ns, rfl, hq, h1, q1⟩ := q1
  cases r1
  obtain ⟨its, rv, pt, hz⟩ := I1.tuple hq
  have hi : IntsAre its.toArray.toList ns := ints_of_vals rv
  refine call_set_tupI ns (I1.ok.hd hc) (show s1.heap.IsTuple l its.toArray from pt) hi (by unfold scanBound; omega) fun h' tk c R1 hcn k => ?_
  obtain ⟨o, es, ep, t, ho, hex, hdt, g, nd, hm3, hb, hf, hn, hr, hl2⟩ := R1
  refine PyProof.Rows.args_nil ?_
  have I2 : Inv X pins σ H1 { s1 with heap := h', toks := tk } := I1.kept fun b o e => k b o e
  have hcard := card_eq (ks := es.toList.map keyOf) (ns := ns) nd fun k => by
    rw [← hm3 k]
    simp
  rw [List.length_map, Array.length_toList] at hcard
  refine call_len_set (s := { s1 with heap := h', toks := tk }) ho hex hdt hf ?_ ⟨.int (es.size : Nat), H1, I2.tok _, ⟨_, rfl⟩, q1 es.size hcard.1 hcard.2⟩
  have h5 := hcard.1
  have h6 : (es.size : Int) < 4096 := by omega
  exact Int.lt_of_lt_of_le h6 (by decide)
/-! ### repr(x), x data -/
def rRepr (K : PySem.W.Frag) : List V → Hp → VK → Prop := fun vs H Q => ∃ (v : V) (d : PyData), vs = [v] ∧ Dp K H v d ∧ d.showable = true ∧ d.hasDict = false ∧ d.depth ≤ 40 ∧ d.shown.length ≤ sizeLine ∧ Q (.str d.shown) H
theorem cr_repr (hG : X.A.guards = some []) (hu : X.A.units + 64 < cLine) : CallR X (.builtin "repr") (rRepr X.K) := by
  intro pins s σ H xs us Q I r h
  obtain ⟨v, d, rfl, hd, hs, hnd, hdep, hz, q⟩ := h
  obtain ⟨u, rfl, ru⟩ := r.one
  obtain ⟨as, rd⟩ := Dp.reads I d v u hd ru
  have fin : ∀ (h' : Heap) (tu : Tok) (tk : Nat), (∀ b o, s.heap.get? b = some o → h'.get? b = some o) → EP X pins σ Q (.str d.shown tu) { s with heap := h', toks := tk } :=
    fun h' tu tk hk => ⟨.str d.shown, H, I.kept (t' := tk) hk, ⟨tu, rfl⟩, q⟩
  cases rd with
  | none => exact P.repr_of_none (fin _ _ _ fun _ _ e => e)
  | bool b => exact P.repr_of_bool (by have f := fin s.heap s.toks (s.toks + 1) fun _ _ e => e; cases b <;> exact f)
  | int i t =>
    have hs' : i.natAbs.log2 < 1920 := by simpa [PyData.showable] using hs
    exact P.repr_of_int hs' (fin s.heap s.toks (s.toks + 1) fun _ _ e => e)
  | str x t => exact P.repr_of_str (hsz := by simpa [PyData.shown] using hz) (fin s.heap s.toks (s.toks + 1) fun _ _ e => e)
  | dict => simp [PyData.hasDict] at hnd
  | @list a o vs n ds as h1 h2 h3 h4 =>
    have hz' : (listText (PyData.shownAll ds)).length ≤ sizeLine := by simpa only [PyData.shown] using hz
    have hT : s.TypeIs (.ref a) "list" := ⟨o, h1, h2⟩
    have hdep' : PyData.depthAll ds + 1 ≤ 40 := by simpa only [PyData.depth] using hdep
    have fin' : ∀ (h' : Heap) (tu : Tok) (tk : Nat), (∀ b o, s.heap.get? b = some o → h'.get? b = some o) → EP X pins σ Q (.str (listText (PyData.shownAll ds)) tu) { s with heap := h', toks := tk } := by
      simpa only [PyData.shown] using fin
    obtain ⟨bs, hb, hk⟩ := ReprAllK.of_readsAll (prog := X.prog) (w := X.w) h4 (by simpa [PyData.showable] using hs)
      (fun hx => by simp only [PyData.hasDict] at hnd; rw [hnd] at hx; cases hx) fun t ht => Nat.le_trans (listText_mem_le ht) hz'
    have hna : a ∉ bs := not_mem_of_deeper (.list h1 h2 h3 h4) (by simp only [PyData.depth]; omega) hb
    refine call_repr_slot (by omega) hT PySem.F.slot_list_repr.toG ?_
    obtain ⟨l⟩ := vs
    cases l with
    | nil =>
      have h5 : ReadsAll s.heap [] ds _ := h4
      cases h5
      refine call_list_repr_empty hT h1 h3 ⟨_, _, rfl, ?_⟩
      exact fin' s.heap _ _ fun _ _ e => e
    | cons x l =>
      exact call_list_reprK h1 h2 h3 hna (by simpa using hk.length_eq) (fun i y e => hk.item i y (by simpa using e)) hG (fun b _ => Clear.nil b) (by show X.A.units + 1 + _ < _; omega) (fun _ _ e => e) (fun h' tu tk hk' => ⟨_, _, rfl, fin' h' tu tk hk'⟩) hz'
  | @tuple a o vs n ds as h1 h2 h3 h4 =>
    have hz' : (tupleText (PyData.shownAll ds)).length ≤ sizeLine := by simpa only [PyData.shown] using hz
    have hdep' : PyData.depthAll ds + 1 ≤ 40 := by simpa only [PyData.depth] using hdep
    obtain ⟨bs, hb, hk⟩ := ReprAllK.of_readsAll (prog := X.prog) (w := X.w) h4 (by simpa [PyData.showable] using hs)
      (fun hx => by simp only [PyData.hasDict] at hnd; rw [hnd] at hx; cases hx) fun t ht => Nat.le_trans (tupleText_mem_le ht) hz'
    have hna : a ∉ bs := not_mem_of_deeper (.tuple h1 h2 h3 h4) (by simp only [PyData.depth]; omega) hb
    refine call_repr_slot (by omega) ⟨o, h1, h2⟩ PySem.F.slot_tuple_repr ?_
    exact call_tuple_reprK h1 h2 h3 hna hk hG (fun b _ => Clear.nil b) (by show X.A.units + 1 + _ < _; omega) (fun _ _ e => e) (fun h' tu tk hk' => ⟨_, _, rfl, by simpa only [PyData.shown] using fin h' tu tk hk'⟩) hz'
end
end OgR

namespace OgR
open PySem PySem.Spec PyProof.Rows L2
/-! ### t[::-1], t a tuple -/
theorem rev_adjust (n : Nat) : Builtin.Slice.sliceAdjust none none (-1) (n : Int) = ((n : Int) - 1, -1) := by
  unfold Builtin.Slice.sliceAdjust
  simp
theorem rev_places (n : Nat) : Builtin.Slice.slicePlaces ((n : Int) - 1) (-1) (-1) = n := by
  unfold Builtin.Slice.slicePlaces
  simp
  split <;> omega
theorem rev_pick (xs : Array Value) : ((List.range xs.size).filterMap fun (m : Nat) => xs[(((xs.size : Int) - 1) + (m : Int) * (-1)).toNat]?) = xs.toList.reverse := by
  have e : ∀ m ∈ List.range xs.size, xs[(((xs.size : Int) - 1) + (m : Int) * (-1)).toNat]? = some (xs.toList.reverse.getD m .none) := by
    intro m hm
    have hm' : m < xs.size := List.mem_range.mp hm
    have e1 : (((xs.size : Int) - 1) + (m : Int) * (-1)).toNat = xs.size - 1 - m := by omega
    rw [e1, List.getD_eq_getElem?_getD, List.getElem?_reverse (by rw [Array.length_toList]; exact hm'), Array.length_toList, Array.getElem?_toList]
    rw [Array.getElem?_eq_getElem (by omega)]
    rfl
  have e2 : ((List.range xs.size).filterMap fun (m : Nat) => xs[(((xs.size : Int) - 1) + (m : Int) * (-1)).toNat]?) = (List.range xs.size).map fun m => xs.toList.reverse.getD m .none := by
    rw [← List.filterMap_eq_map]
    generalize List.range xs.size = R at e
    induction R with
    | nil => rfl
    | cons m R ih =>
      have e0 := e m List.mem_cons_self
      rw [List.filterMap_cons, List.filterMap_cons, e0, ih fun k hk => e k (List.mem_cons_of_mem _ hk)]
      rfl
  rw [e2]
  refine List.ext_getElem? fun i => ?_
  rw [List.getElem?_map]
  by_cases hi : i < xs.size
  · rw [List.getElem?_range hi]
    have hl : i < xs.toList.reverse.length := by rw [List.length_reverse, Array.length_toList]; exact hi
    simp only [Option.map_some, List.getD_eq_getElem?_getD]
    rw [List.getElem?_eq_getElem hl]
    rfl
  · rw [List.getElem?_eq_none (by rw [List.length_range]; omega), List.getElem?_eq_none (by rw [List.length_reverse, Array.length_toList]; omega)]
    rfl
section
variable {prog : Program} {w : World} {A : Around} {E : Value → Shared → Prop} {s : Shared}
theorem rev_applied {sl : Addr} {n : Nat} {t : Tok} {Q : Int × Int × Nat → Shared → Prop} (hs : s.heap.IsSliceOf sl .none .none (.int (-1) t)) (h : Q ((n : Int) - 1, -1, n) s) :
    wpAny (model prog w) A (Builtin.Slice.sliceApplied (.ref sl) (pure (n : Int))) Q E s := by
  obtain ⟨os, hos, -, hds⟩ := hs
  unfold Builtin.Slice.sliceApplied Builtin.Slice.sliceFields
  refine wpAny_bind (wpAny_bind (wpAny_field hos hds (x := .none) rfl (wpAny_bind (wpAny_field hos hds (x := .none) rfl (wpAny_bind (wpAny_field hos hds (x := .int (-1) t) rfl (wpAny_pure ?_)))))))
  refine wpAny_bind (slicePart_int ?_)
  show wpAny _ _ (if ((-1 : Int) == 0) = true then _ else _) _ _ s
  rw [if_neg (by decide)]
  refine wpAny_bind (slicePart_none (wpAny_bind (slicePart_none (wpAny_bind (wpAny_pure ?_)))))
  show wpAny _ _ (match Builtin.Slice.sliceAdjust none none (-1) (n : Int) with | (lo, hi) => pure (lo, (-1 : Int), Builtin.Slice.slicePlaces lo hi (-1))) _ _ s
  rw [rev_adjust]
  show wpAny _ _ (pure (((n : Int) - 1), (-1 : Int), Builtin.Slice.slicePlaces ((n : Int) - 1) (-1) (-1))) _ _ s
  rw [rev_places]
  exact wpAny_pure h
theorem getItem_rev {t sl : Addr} {items : Array Value} {tk : Tok} {Q : Value → Shared → Prop} (ht : IsTup s.heap t items) (hs : s.heap.IsSliceOf sl .none .none (.int (-1) tk))
    (h : Q (.ref s.heap.objs.size) { s with heap := s.heap.push { cls := .type "tuple", data := .seq items.toList.reverse.toArray } }) (hsz : items.size ≤ sizeLine) : wpAny (model prog w) A (getItem (.ref t) (.ref sl)) Q E s := by
  have hfit : sizeOk (.seq items.toList.reverse.toArray) := by
    show items.toList.reverse.toArray.size ≤ sizeLine
    rw [List.size_toArray, List.length_reverse, Array.length_toList]
    exact hsz
  have hTs : s.TypeIs (.ref sl) "slice" := by
    obtain ⟨os, hos, hcs, -⟩ := id hs
    exact ⟨os, hos, hcs⟩
  unfold getItem
  try with_reducible refine wpAny_holding ?_
  first | refine wpAny_bind (wpAny_pure ?_) | skip
  refine wpAny_bind (wpAny_sequenceKey ht.typeIs (by decide) (wpAny_bind (wpAny_callSpecial?_slot (name := Str.ofString "__getitem__") ht.typeIs PyProof.Rows.slot_tuple_getitem
    (wpAny_call_entry PyProof.Rows.slot_tuple_getitem ht.typeIs entry_tuple_getitem ?_ (args_tuple_getitem _ _)))))
  show wpAny _ _ (Builtin.Tuple.tupleItemsOf (.ref t) >>= _) _ _ s
  refine wpAny_bind (tupleItemsOf_ ht (wpAny_bind (wpAny_typeOf hTs ?_)))
  rw [if_pos (by decide)]
  refine wpAny_bind (rev_applied hs ?_)
  have hno : ¬ ((((items.size : Int) - 1) == 0 && (-1 : Int) == 1 && items.size == items.size) = true) := by simp
  show wpAny _ _ (if ((((items.size : Int) - 1) == 0 && (-1 : Int) == 1 && items.size == items.size) = true) then _ else _) _ _ s
  rw [if_neg hno, rev_pick]
  first
    | exact wpAny_bind (m := Builtin.Tuple.tupleExact _) (wpAny_newObj_type (wpAny_pure ⟨_, rfl, wpAny_pure h⟩) hfit)
    | exact wpAny_bind (wpAny_bind (m := Builtin.Tuple.tupleExact _) (wpAny_newObj_type (wpAny_pure (wpAny_pure ⟨_, rfl, wpAny_pure h⟩)) hfit))
    | exact wpAny_bind (wpAny_bind (m := Builtin.Tuple.tupleExact _) (wpAny_newObj_type (wpAny_pure ⟨_, rfl, wpAny_pure h⟩) hfit))
end
section
variable {X : Cx}
def tRevT (K : PySem.W.Frag) (te : TE) : TE := fun σ H Q => te σ H fun x H1 => ∃ a xs, x = .ref a ∧ SqT K H1 a xs ∧ ∀ p, H1 p = none → Q (.ref p) (upd H1 p (.tup xs.reverse))
theorem pe_revT {e : Expr} {te : TE} {k : Nat} {p1 p2 p3 pos : Pos} (he : PE X e te) : PE X (.Subscript e (.Slice none none (some (.UnaryOp .USub (.Constant (.int 1) k p1) p2)) p3) pos) (tRevT X.K te) := by
  refine ⟨fun pins s σ H Q I h => Subscript_ (thn (he.run pins s σ H _ I h) fun v s1 ⟨x, H1, I1, r1, q1⟩ => ?_)⟩
  obtain ⟨a, xs, rfl, hx, q⟩ := q1
  cases r1
  have hst : PO X (some (.UnaryOp .USub (.Constant (.int 1) k p1) p2)) (tPart (tUn (rU fun i => .int (-i)) (tC (.int 1)))) := po_some (pe_un un_neg pe_int)
  refine wpAny_Slice (thn (po_none.run pins s1 σ H1 (fun o H2 => o = none ∧ H2 = H1) I1 ⟨rfl, rfl⟩) fun vl s2 ⟨l, H2, I2, pl, el, e2⟩ => ?_)
  subst el e2
  refine thn (po_none.run pins s2 σ H2 (fun o H3 => o = none ∧ H3 = H2) I2 ⟨rfl, rfl⟩) fun vu s3 ⟨u, H3, I3, pu, eu, e3⟩ => ?_
  subst eu e3
  refine thn (hst.run pins s3 σ H3 (fun o H4 => o = some (-1) ∧ H4 = H3) I3 ⟨1, rfl, -1, rfl, rfl, rfl⟩) fun vs s4 ⟨o, H4, I4, ps, eo, e4⟩ => ?_
  subst eo e4
  cases pl
  cases pu
  cases ps with
  | int _ tk =>
    have I5 : Inv X pins σ H4 { s4 with heap := s4.heap.push { cls := .type "slice", data := .fields #[.none, .none, .int (-1) tk] } } := I4.kept (t' := s4.toks) fun b ob q => Heap.get?_push_of_some _ q
    obtain ⟨its, r, ht, hz⟩ := I5.tuple hx
    have hlen := r.length
    show wpAny (model X.prog X.w) X.A (subscriptTail e (.Slice none none (some (.UnaryOp .USub (.Constant (.int 1) k p1) p2)) p3) (.ref a) (.ref s4.heap.objs.size)) (EP X pins σ Q) X.xe { s4 with heap := s4.heap.push { cls := .type "slice", data := .fields #[.none, .none, .int (-1) tk] } }
    refine tail_any (ops := [.ref a, .ref s4.heap.objs.size]) ht.typeIs (PyProof.Rows.slot_tuple_getitem.lookup) ?_ (by with_unfolding_all rfl)
    refine getItem_rev ht (Heap.IsSliceOf.new _ .none .none (.int (-1) tk)) ⟨.ref _, _, I5.laid (t' := s4.toks) (o := .tup xs.reverse) (fun b ob q => Heap.get?_push_of_some _ q) (Nat.le_refl _) ?_, rfl, q _ (I5.hok.fresh (Nat.le_refl _))⟩ (by rw [List.size_toArray]; omega)
    exact ⟨by rw [List.length_reverse]; exact hz, _, r.reverse, ⟨_, Heap.get?_push_size _ rfl, rfl, 0, rfl⟩⟩
end
end OgR

namespace OgR
open PySem PySem.Spec PyProof.Rows L2
/-! ### defs that run where no repr is under way -/
section
variable {P : Program} {w : World} {K : PySem.W.Frag} {mg : Str → Option Value} {base : Heap}
/-- the promise of a def for callers of whom no repr is under way -/
def FnG (P : Program) (w : World) (K : PySem.W.Frag) (mg : Str → Option Value) (base : Heap) (k : Nat) (f : Addr) (fd : FuncData) (ps : List Str) (sp : Sp) : Prop :=
  (∀ vs H Q E, sp vs H Q E → vs.length = ps.length) ∧
  ∀ (A : Around) (outer : List Env) (s : Shared) (H : Hp) (args : Args) (us : List Value) (vs : List V) (Q : VK) (E : XK), A.guards = some [] → Room k A → Env0 P w K mg base A outer s H → BindsTo s fd args (ps.zip us) → Vals vs us →
    sp vs H Q E → codeAny (model P w) A (.call (.ref f) args) (CR CX0 outer P w H s Q E) s
theorem fnG_of {x qual : Str} {st : Stmt} {f : Addr} {fd : FuncData} {N ps : List Str} {k : Nat} {sp : Sp} (F : Fun K x qual st f fd) (S : FnScope N ps (defScope st)) (hl : ∀ vs H Q E, sp vs H Q E → vs.length = ps.length)
    (body : ∀ (cdv : Value) (A : Around) (outer : List Env) (s : Shared) (H : Hp) (vs : List V) (Q : VK) (E : XK), A.guards = some [] → Room k (A.deeper (envOfC qual (defScope st) s.heap.objs.size f cdv)) → sp vs H Q E →
      ∃ t, PSs (cxOf CX0 P w K mg base N qual (defScope st) f cdv A outer s H E).nox (defBody st) t ∧ t { nx := fun _ H' => Q .non H', rt := Q } (start N vs) H) : FnG P w K mg base (k + 1) f fd ps sp := by
  obtain ⟨oc, od, kV, doc, pm, an, cdv, ct, osl, rfl, lk, hcd⟩ := F.ex
  refine ⟨hl, fun A outer s H args us vs Q E hG hr e0 hb r hsp => ?_⟩
  have here : ∀ b o, base.get? b = some o → s.heap.get? b = some o := fun b o e => (e0.bs b o e).1
  have KX : K.In s.heap := e0.mod.kin.keeps here
  refine codeAny_call_function hr.depth (KX _ _ lk) rfl S.co S.gen rfl (PySem.W.codeRec_of KX hcd) (hb _ _ _ _ (wpAny_newFunctionEnv_cells S.kind ?_ fun env he s1 y => ?_))
  · rintro ⟨n, v⟩ hy
    exact (S.par n (List.of_mem_zip hy).1).imp id fun q => ⟨q, PySem.W.cellsFrom_some _ _ _ (.inl q)⟩
  · subst he
    obtain ⟨t, ht, hq⟩ := body cdv A outer s H vs Q E hG (hr.deeper _) hsp
    have I := inv_start (CX := CX0) (E := E) S hr.hd e0 (hl _ _ _ _ hsp) r y
    refine ⟨(e0.mod.nolimit.keeps here).keeps y.toInCall.keep, codeAny_func (wpAny_mono (ht.nox.run [] s1 (start N vs) H _ I hq) ?_ fun e s' hs => hs)⟩
    rintro (_ | _ | _ | u) s' hs
    all_goals first
      | (obtain ⟨v, σ', H', J, rv, q⟩ := hs; exact ⟨v, H', J.os, J.bare, J.base, J.hok, rv, q⟩)
      | (obtain ⟨σ', H', J, q⟩ := hs; exact ⟨V.non, H', J.os, J.bare, J.base, J.hok, rfl, q⟩)
      | (obtain ⟨_, _, _, q⟩ := hs; exact q.elim)
end
section
variable {X : Cx} {k : Nat} {f : Addr} {fd : FuncData} {ps : List Str} {sp : Sp} {E : XK} {x : Str} {p pos : Pos} {e : Expr} {es : List Expr} {t : TA}
theorem pe_callG (F : FnG X.prog X.w X.K X.mg X.base k f fd ps sp) (hG : X.A.guards = some []) (hr : Room k X.A) (hg : Gl X x) (hm : X.mg x = some (.ref f)) (hk : PySem.W.keepIn X.K (.ref f) = true) (hb : Binds X.K fd ps [])
    (ha : PA X (e :: es) t) (hdb : (x == ("__debug__" : Str)) = false := by decide) (he : starEach (e :: es) X.env = (false, eval e X.env) :: starEach es X.env := by rfl) (hpl : (backTo pos (starEach es X.env)).any (·.1) = false := by rfl) :
    PE X (.Call (.Name x p) (e :: es) [] pos) (tCall sp [] E t) := by
  refine ⟨fun pins s σ H Q I h => wpAny_Call_Name_kw (ld_glob I hg hm ?_ hdb)⟩
  refine PySem.W.callWith_K (h₀ := X.base) I.ok.mod.kin hk (thn (ha.run pos pins s σ H _ I h) fun us s1 ⟨vs, H1, I1, r, q⟩ => ⟨I1.kIn, ?_⟩) he hpl
  have q' : sp (vs ++ []) H1 Q E := q
  rw [List.append_nil] at q'
  have hl : us.length = ps.length := by rw [← r.length]; exact F.1 _ _ _ _ q'
  have hb' := hb s1 us I1.kIn (by rw [List.append_nil]; exact hl)
  rw [List.append_nil] at hb'
  refine wpAny_call (codeAny_mono (F.2 X.A X.stack s1 H1 ⟨us, []⟩ us vs Q E hG hr I1.env0 hb' r q') ?_)
  rintro (e | _ | _ | _ | u) s' hq
  all_goals first
    | exact I1.after hq
    | exact False.elim hq
end
end OgR

namespace OgR
open PySem PySem.Spec PyProof.Rows L2
/-! ### the head of a law whose def is a FnG -/
def scriptH (K : PySem.W.Frag) (a : Addr) (ob : Obj) (ns : List Int) : Hp := fun b => if b = a ∧ K.lookup a = none then some (.frz ob (.lst (ns.map V.int))) else none
theorem scriptH_some {K : PySem.W.Frag} {a b : Addr} {ob : Obj} {ns : List Int} {u : HO} (h : scriptH K a ob ns b = some u) : b = a ∧ K.lookup a = none ∧ u = .frz ob (.lst (ns.map V.int)) := by
  unfold scriptH at h
  split at h
  · rename_i c
    exact ⟨c.1, c.2, (Option.some.inj h).symm⟩
  · cases h
theorem scriptH_none {K : PySem.W.Frag} {a b : Addr} {ob : Obj} {ns : List Int} (h : ¬ (b = a ∧ K.lookup a = none)) : scriptH K a ob ns b = none := if_neg h
theorem law_runG {P : Program} {w : World} {K : PySem.W.Frag} {mg mb : Str → Option Value} {k : Nat} {fa a : Addr} {fd : FuncData} {x : Str} {sp : Sp} {s : Shared} {vs : List Value} {ns : List Int}
    (KX : K.In s.heap) (gl : s.heap.Ns mainGlobals mg) (bl : s.heap.Ns builtinsNs mb) (blt : ∀ x : Str, x ≠ "__name__" → mb x = bootBuiltins x) (lim : s.heap.NoLimit) (gn : s.gens = #[])
    (ha : s.heap.get? a = some { cls := .type "list", data := .seq vs.toArray }) (hi : IntsAre vs ns) (hl : ns.length ≤ sizeLine) (hr : Room k callerA)
    (F : ∀ base : Heap, K.In base → base.Ns mainGlobals mg → FnG P w K mg base k fa fd [x] sp) (bind : ∀ (s : Shared) (u : Value), BindsTo s fd ⟨[u], []⟩ [(x, u)])
    (hsp : ∀ H : Hp, SqL K H a (ns.map V.int) → sp [.ref a] H (fun v _ => v = .bl true) fun _ _ _ => False) :
    codeAny (model P w) callerA (.call (.ref fa) ⟨[.ref a], []⟩) (fun r s' => r = .ok (.ret (.bool true)) ∧ OldK s.heap s'.heap ∧ s'.os = s.os ∧ AllBare s'.gens) s := by
  have rv := vals_ints hi
  have hz : (ns.map V.int).length ≤ sizeLine := by rw [List.length_map]; exact hl
  generalize hH : scriptH K a { cls := .type "list", data := .seq vs.toArray } ns = H
  have tr : ∀ {b : Addr} {u : HO}, H b = some u → b = a ∧ K.lookup a = none ∧ u = .frz { cls := .type "list", data := .seq vs.toArray } (.lst (ns.map V.int)) := fun {b u} e => by
    rw [← hH] at e
    exact scriptH_some e
  have seq : SqL K H a (ns.map V.int) := by
    cases hk : K.lookup a with
    | none => exact .inl (.inr ⟨_, by rw [← hH]; exact if_pos ⟨rfl, hk⟩⟩)
    | some o =>
      have e := KX a o hk
      rw [ha] at e
      cases e
      exact .inr ⟨_, vs.toArray, _, hk, rfl, rfl, rfl, by rw [List.size_toArray, hi.length]; exact hl, by simpa using rv⟩
  have hok : HOk P w H s.heap := fun b u e => by
    obtain ⟨rfl, -, rfl⟩ := tr e
    exact ⟨ha, hz, vs, _, rv, ha⟩
  have kept : ∀ {b : Addr} {m : Str → Option Value}, s.heap.Ns b m → (hidT s.heap H).Ns b m := fun {b m} ⟨o, es, ep, e, d, r⟩ => ⟨o, es, ep, hidT_get e (by
    cases q : H b with
    | none => rfl
    | some u =>
      obtain ⟨rfl, -, -⟩ := tr q
      rw [ha] at e
      cases e
      cases d), d, r⟩
  have KB : K.In (hidT s.heap H) := fun b o e => hidT_get (KX b o e) (by
    cases q : H b with
    | none => rfl
    | some u =>
      obtain ⟨rfl, n, -⟩ := tr q
      rw [n] at e
      cases e)
  have M : Mod K mg (hidT s.heap H) := ⟨KB, kept gl, ⟨mb, kept bl, blt⟩, let ⟨mc, h1, h2⟩ := lim; ⟨mc, kept h1, h2⟩⟩
  have nofr : ∀ b : Addr, b ∉ frs [] := fun b hb => absurd (show b ∈ ([] : List Addr) from hb) (by simp)
  have e0 : Env0 P w K mg (hidT s.heap H) callerA [] s H := ⟨rfl, M, fun b o e => of_hidT e, Nat.le_of_eq (hidT_size _ _), trivial, fun b hb => absurd hb (nofr b), hok, .of_eq gn⟩
  refine codeAny_mono ((F _ KB (kept gl)).2 callerA [] s H ⟨[.ref a], []⟩ [.ref a] [.ref a] _ _ rfl hr e0 (bind s (.ref a)) (.cons rfl .nil) (hsp H seq)) ?_
  rintro (e | _ | _ | _ | u) s' h
  all_goals first
    | exact False.elim h
    | skip
  obtain ⟨v, H', os, bare, un, hok', r', q⟩ := h
  have q' : v = .bl true := q
  subst q'
  obtain rfl : u = Value.bool true := r'
  refine ⟨rfl, OldK.of_keep fun b o e => ?_, os, bare⟩
  cases q2 : H b with
  | none => exact un.keep b o e q2 (nofr b) (by simp)
  | some u =>
    obtain ⟨rfl, -, rfl⟩ := tr q2
    rw [ha] at e
    cases e
    exact (hok' _ _ (un.frzs _ _ _ q2)).1
theorem walk_G {l : PySem.W.OpenLaw} {n k : Nat} {q : Program} {loose : List Str} {XP : (Str → Option Value) → Heap → Prop} {YP : World → Heap → Prop} {d : DefRec} {K : Params → PySem.W.Frag} {sp : World → Sp} {x : Str}
    (hn : l.most = some n) (hn2 : n ≤ sizeLine) (hdf : d.params.defaults = []) (hr : Room k callerA) (hY : ∀ (w : World) (h : Heap), YP w h → (K w.params).In h)
    (F : ∀ (w : World) (mg : Str → Option Value) (fa : Addr) (h : Heap), (K w.params).In h → h.Ns mainGlobals mg → mg d.name = some (.ref fa) →
      ∃ fd : FuncData, (∀ (s : Shared) (u : Value), BindsTo s fd ⟨[u], []⟩ [(x, u)]) ∧ ∀ base : Heap, (K w.params).In base → base.Ns mainGlobals mg → FnG l.prog w (K w.params) mg base k fa fd [x] (sp w))
    (hsp : ∀ (w : World) (H : Hp) (a : Addr) (ns : List Int), ns.length ≤ n → SqL (K w.params) H a (ns.map V.int) → sp w [.ref a] H (fun v _ => v = .bl true) fun _ _ _ => False) :
    PySem.W.WalkO q loose XP YP l.row.toRowW d [] (fun f vs => PySem.call f vs) := by
  refine Att.attach_call hn hdf fun w s₀ s₁ mg mb fa o pm cd doc a vs ns G Y ho hd hcd hmg hobj hints hlen hg => ?_
  obtain ⟨fd, hb, hF⟩ := F w mg fa _ (hY w _ Y) G.T.g hmg
  exact law_runG (hY w _ Y) G.T.g G.T.b G.T.builtins G.T.nolimit hg hobj hints (Nat.le_trans hlen hn2) hr hF hb fun H hS => hsp w H a ns hlen hS
end OgR

namespace OgM
/-! ### runs of plots as segments: (s, n) is s, s + 1, .., s + n -/
abbrev Seg := Int × Nat
def Ok : Int → List Seg → Prop
  | _, [] => True
  | lo, x :: r => lo < x.1 ∧ Ok (x.1 + x.2 + 1) r
def Mem (p : Int) (g : List Seg) : Prop := ∃ x ∈ g, x.1 ≤ p ∧ p ≤ x.1 + x.2
theorem mem_cons {p : Int} {x : Seg} {g : List Seg} : Mem p (x :: g) ↔ (x.1 ≤ p ∧ p ≤ x.1 + x.2) ∨ Mem p g := by
  simp [Mem]
theorem mem_nil {p : Int} : ¬ Mem p [] := by simp [Mem]
theorem ok_lt : ∀ {g : List Seg} {lo p : Int}, Ok lo g → Mem p g → lo < p
  | [], _, _, _, h => absurd h mem_nil
  | x :: r, lo, p, h, m => by
    rcases mem_cons.mp m with m | m
    · have := h.1; omega
    · have := ok_lt h.2 m; have := h.1; omega
theorem ok_mono : ∀ {g : List Seg} {lo lo' : Int}, lo' ≤ lo → Ok lo g → Ok lo' g
  | [], _, _, _, _ => trivial
  | x :: r, lo, lo', h, k => ⟨by have := k.1; omega, k.2⟩
/-- one more plot -/
def add (p : Int) : List Seg → List Seg
  | [] => [(p, 0)]
  | (s, n) :: r =>
    if p < s - 1 then (p, 0) :: (s, n) :: r
    else if p = s - 1 then (p, n + 1) :: r
    else if p = s + n + 1 then
      match r with
      | [] => [(s, n + 1)]
      | (s', n') :: r' => if s' = p + 1 then (s, n + n' + 2) :: r' else (s, n + 1) :: (s', n') :: r'
    else (s, n) :: add p r
theorem ok_add : ∀ {g : List Seg} {lo p : Int}, Ok lo g → ¬ Mem p g → lo < p → Ok lo (add p g)
  | [], lo, p, _, _, h => ⟨h, trivial⟩
  | (s, n) :: r, lo, p, k, nm, h => by
    have k1 : lo < s := k.1
    have k2 : Ok (s + n + 1) r := k.2
    have nm1 : ¬ (s ≤ p ∧ p ≤ s + n) := fun e => nm (mem_cons.mpr (.inl e))
    have nm2 : ¬ Mem p r := fun e => nm (mem_cons.mpr (.inr e))
    unfold add
    split
    · exact ⟨h, by show p + ((0 : Nat) : Int) + 1 < s; omega, k2⟩
    · split
      · refine ⟨h, ?_⟩
        refine ok_mono ?_ k2
        show p + ((n + 1 : Nat) : Int) + 1 ≤ _
        omega
      · split
        · cases r with
          | nil => exact ⟨k1, trivial⟩
          | cons y r' =>
            obtain ⟨s', n'⟩ := y
            have k3 : s + n + 1 < s' := k2.1
            have k4 : Ok (s' + n' + 1) r' := k2.2
            show Ok lo (if s' = p + 1 then (s, n + n' + 2) :: r' else (s, n + 1) :: (s', n') :: r')
            split
            · refine ⟨k1, ok_mono ?_ k4⟩
              show s + ((n + n' + 2 : Nat) : Int) + 1 ≤ _
              omega
            · refine ⟨k1, ?_, k4⟩
              show s + ((n + 1 : Nat) : Int) + 1 < s'
              omega
        · exact ⟨k1, ok_add k2 nm2 (by show s + (n : Int) + 1 < p; omega)⟩
theorem mem_add : ∀ {g : List Seg} {lo p q : Int}, Ok lo g → (Mem q (add p g) ↔ q = p ∨ Mem q g)
  | [], lo, p, q, _ => by
    show Mem q [(p, 0)] ↔ _
    rw [mem_cons]
    simp only [mem_nil, or_false]
    constructor
    · intro h; have : p ≤ q ∧ q ≤ p + ((0 : Nat) : Int) := h; omega
    · intro h; exact ⟨by show p ≤ q; omega, by show q ≤ p + ((0 : Nat) : Int); omega⟩
  | (s, n) :: r, lo, p, q, k => by
    have k2 : Ok (s + n + 1) r := k.2
    unfold add
    split
    · rw [mem_cons]
      constructor
      · rintro (h | h)
        · have : p ≤ q ∧ q ≤ p + ((0 : Nat) : Int) := h
          exact .inl (by omega)
        · exact .inr h
      · rintro (h | h)
        · exact .inl ⟨by show p ≤ q; omega, by show q ≤ p + ((0 : Nat) : Int); omega⟩
        · exact .inr h
    · split
      · rename_i h1 h2
        rw [mem_cons, mem_cons]
        constructor
        · rintro (h | h)
          · have : p ≤ q ∧ q ≤ p + ((n + 1 : Nat) : Int) := h
            by_cases e : q = p
            · exact .inl e
            · exact .inr (.inl ⟨by show s ≤ q; omega, by show q ≤ s + (n : Int); omega⟩)
          · exact .inr (.inr h)
        · rintro (h | h | h)
          · exact .inl ⟨by show p ≤ q; omega, by show q ≤ p + ((n + 1 : Nat) : Int); omega⟩
          · have : s ≤ q ∧ q ≤ s + (n : Int) := h
            exact .inl ⟨by show p ≤ q; omega, by show q ≤ p + ((n + 1 : Nat) : Int); omega⟩
          · exact .inr h
      · split
        · rename_i h1 h2 h3
          cases r with
          | nil =>
            show Mem q [(s, n + 1)] ↔ _
            rw [mem_cons, mem_cons]
            constructor
            · rintro (h | h)
              · have : s ≤ q ∧ q ≤ s + ((n + 1 : Nat) : Int) := h
                by_cases e : q = p
                · exact .inl e
                · exact .inr (.inl ⟨by show s ≤ q; omega, by show q ≤ s + (n : Int); omega⟩)
              · exact .inr (.inr h)
            · rintro (h | h | h)
              · exact .inl ⟨by show s ≤ q; omega, by show q ≤ s + ((n + 1 : Nat) : Int); omega⟩
              · have : s ≤ q ∧ q ≤ s + (n : Int) := h
                exact .inl ⟨by show s ≤ q; omega, by show q ≤ s + ((n + 1 : Nat) : Int); omega⟩
              · exact .inr h
          | cons y r' =>
            obtain ⟨s', n'⟩ := y
            show Mem q (if s' = p + 1 then (s, n + n' + 2) :: r' else (s, n + 1) :: (s', n') :: r') ↔ _
            split
            · rename_i h4
              rw [mem_cons, mem_cons, mem_cons]
              constructor
              · rintro (h | h)
                · have : s ≤ q ∧ q ≤ s + ((n + n' + 2 : Nat) : Int) := h
                  by_cases e : q = p
                  · exact .inl e
                  · by_cases e2 : q < p
                    · exact .inr (.inl ⟨by show s ≤ q; omega, by show q ≤ s + (n : Int); omega⟩)
                    · exact .inr (.inr (.inl ⟨by show s' ≤ q; omega, by show q ≤ s' + (n' : Int); omega⟩))
                · exact .inr (.inr (.inr h))
              · rintro (h | h | h | h)
                · exact .inl ⟨by show s ≤ q; omega, by show q ≤ s + ((n + n' + 2 : Nat) : Int); omega⟩
                · have : s ≤ q ∧ q ≤ s + (n : Int) := h
                  exact .inl ⟨by show s ≤ q; omega, by show q ≤ s + ((n + n' + 2 : Nat) : Int); omega⟩
                · have : s' ≤ q ∧ q ≤ s' + (n' : Int) := h
                  exact .inl ⟨by show s ≤ q; omega, by show q ≤ s + ((n + n' + 2 : Nat) : Int); omega⟩
                · exact .inr h
            · rw [mem_cons (x := (s, n + 1)), mem_cons (x := (s, n))]
              constructor
              · rintro (h | h)
                · have : s ≤ q ∧ q ≤ s + ((n + 1 : Nat) : Int) := h
                  by_cases e : q = p
                  · exact .inl e
                  · exact .inr (.inl ⟨by show s ≤ q; omega, by show q ≤ s + (n : Int); omega⟩)
                · exact .inr (.inr h)
              · rintro (h | h | h)
                · exact .inl ⟨by show s ≤ q; omega, by show q ≤ s + ((n + 1 : Nat) : Int); omega⟩
                · have : s ≤ q ∧ q ≤ s + (n : Int) := h
                  exact .inl ⟨by show s ≤ q; omega, by show q ≤ s + ((n + 1 : Nat) : Int); omega⟩
                · exact .inr h
        · rw [mem_cons, mem_cons, mem_add k2]
          constructor
          · rintro (h | h | h)
            · exact .inr (.inl h)
            · exact .inl h
            · exact .inr (.inr h)
          · rintro (h | h | h)
            · exact .inr (.inl h)
            · exact .inl h
            · exact .inr (.inr h)
/-- segments are told by their members -/
theorem ok_ext : ∀ {g g' : List Seg} {lo lo' : Int}, Ok lo g → Ok lo' g' → (∀ q, Mem q g ↔ Mem q g') → g = g'
  | [], [], _, _, _, _, _ => rfl
  | [], (s, n) :: r, _, _, _, _, h => absurd ((h s).mpr (mem_cons.mpr (.inl ⟨Int.le_refl _, by show s ≤ s + (n : Int); omega⟩))) mem_nil
  | (s, n) :: r, [], _, _, _, _, h => absurd ((h s).mp (mem_cons.mpr (.inl ⟨Int.le_refl _, by show s ≤ s + (n : Int); omega⟩))) mem_nil
  | (s, n) :: r, (s', n') :: r', lo, lo', k, k', h => by
    have k2 : Ok (s + n + 1) r := k.2
    have k2' : Ok (s' + n' + 1) r' := k'.2
    have in1 : ∀ q, s ≤ q → q ≤ s + n → Mem q ((s', n') :: r') := fun q a b => (h q).mp (mem_cons.mpr (.inl ⟨a, b⟩))
    have in2 : ∀ q, s' ≤ q → q ≤ s' + n' → Mem q ((s, n) :: r) := fun q a b => (h q).mpr (mem_cons.mpr (.inl ⟨a, b⟩))
    have lo1 : ∀ {q}, Mem q ((s', n') :: r') → s' ≤ q := fun {q} m => by
      rcases mem_cons.mp m with m | m
      · exact m.1
      · have := ok_lt k2' m; omega
    have lo2 : ∀ {q}, Mem q ((s, n) :: r) → s ≤ q := fun {q} m => by
      rcases mem_cons.mp m with m | m
      · exact m.1
      · have := ok_lt k2 m; omega
    have es : s = s' := by
      have a := lo1 (in1 s (Int.le_refl _) (by omega))
      have b := lo2 (in2 s' (Int.le_refl _) (by omega))
      omega
    subst es
    have en : n = n' := by
      by_cases e1 : n < n'
      · have m := in2 (s + n + 1) (by omega) (by omega)
        rcases mem_cons.mp m with m | m
        · have := m.2; simp only at this; omega
        · have := ok_lt k2 m; omega
      · by_cases e2 : n' < n
        · have m := in1 (s + n' + 1) (by omega) (by omega)
          rcases mem_cons.mp m with m | m
          · have := m.2; simp only at this; omega
          · have := ok_lt k2' m; omega
        · omega
    subst en
    have er : r = r' := ok_ext k2 k2' fun q => by
      constructor
      · intro m
        have lt := ok_lt k2 m
        rcases mem_cons.mp ((h q).mp (mem_cons.mpr (.inr m))) with a | a
        · have := a.2; simp only at this; omega
        · exact a
      · intro m
        have lt := ok_lt k2' m
        rcases mem_cons.mp ((h q).mpr (mem_cons.mpr (.inr m))) with a | a
        · have := a.2; simp only at this; omega
        · exact a
    rw [er]
/-- the segments of a list of plots -/
def segs : List Int → List Seg := List.foldl (fun g p => add p g) []
theorem segs_snoc (l : List Int) (p : Int) : segs (l ++ [p]) = add p (segs l) := by
  unfold segs
  rw [List.foldl_append]
  rfl
theorem lower : ∀ l : List Int, ∃ lo : Int, ∀ p ∈ l, lo < p
  | [] => ⟨0, fun p h => absurd h (by simp)⟩
  | x :: r => by
    obtain ⟨lo, h⟩ := lower r
    refine ⟨min lo (x - 1), fun p hp => ?_⟩
    rcases List.mem_cons.mp hp with e | hp
    · subst e; omega
    · have := h p hp; omega
theorem snoc_ind {α : Type} {P : List α → Prop} (h0 : P []) (h1 : ∀ l x, P l → P (l ++ [x])) (l : List α) : P l := by
  have h : ∀ l : List α, P l.reverse := fun l => by
    induction l with
    | nil => exact h0
    | cons x r ih =>
      rw [List.reverse_cons]
      exact h1 _ _ ih
  have := h l.reverse
  rwa [List.reverse_reverse] at this
theorem segs_ok : ∀ {l : List Int} {lo : Int}, l.Nodup → (∀ p ∈ l, lo < p) → Ok lo (segs l) ∧ ∀ q, Mem q (segs l) ↔ q ∈ l := by
  intro l
  induction l using snoc_ind with
  | h0 => exact fun _ _ => ⟨trivial, fun q => by simp [segs, Mem]⟩
  | h1 l p ih => 
    intro lo hn hl
    have hn' : l.Nodup ∧ p ∉ l := by
      rw [List.nodup_append] at hn
      exact ⟨hn.1, fun h => hn.2.2 p h p (by simp) rfl⟩
    obtain ⟨a, b⟩ := ih hn'.1 fun q hq => hl q (by simp [hq])
    rw [segs_snoc]
    refine ⟨ok_add a (fun m => hn'.2 ((b p).mp m)) (hl p (by simp)), fun q => ?_⟩
    rw [mem_add a, b q]
    simp [or_comm]
theorem segs_eq {l l' : List Int} (h : l.Nodup) (h' : l'.Nodup) (e : ∀ q, q ∈ l ↔ q ∈ l') : segs l = segs l' := by
  obtain ⟨lo, hl⟩ := lower l
  obtain ⟨lo', hl'⟩ := lower l'
  obtain ⟨a, b⟩ := segs_ok h hl
  obtain ⟨a', b'⟩ := segs_ok h' hl'
  exact ok_ext a a' fun q => by rw [b q, b' q, e q]
end OgM

namespace OgM
inductive Wd where
  | new | beside | between
  deriving DecidableEq
def Wd.step : Wd → Int
  | .new => 1
  | .beside => 0
  | .between => -1
abbrev Ch := Wd × Nat
def shift : Ch → Ch
  | (.new, k) => (.new, k + 1)
  | (.beside, k) => (.beside, k + 2)
  | (.between, k) => (.between, k + 1)
def pick (p : Int) : List Seg → Ch
  | [] => (.new, 0)
  | (s, n) :: r =>
    if p < s - 1 then (.new, 0)
    else if p = s - 1 then (.beside, 0)
    else if p = s + n + 1 then
      match r with
      | [] => (.beside, 1)
      | (s', _) :: _ => if s' = p + 1 then (.between, 0) else (.beside, 1)
    else shift (pick p r)
theorem shift_word (c : Ch) : (shift c).1 = c.1 := by
  obtain ⟨w, k⟩ := c
  cases w <;> rfl
/-- the four places of a new plot beside the first segment -/
theorem places {P : Prop} {s : Int} {n : Nat} {p : Int} {r : List Seg} (nm : ¬ (s ≤ p ∧ p ≤ s + n)) (h1 : p < s - 1 → P) (h2 : p = s - 1 → P) (h3 : p = s + n + 1 → P) (h4 : s + n + 1 < p → P) : P := by
  by_cases e1 : p < s - 1
  · exact h1 e1
  · by_cases e2 : p = s - 1
    · exact h2 e2
    · by_cases e3 : p = s + n + 1
      · exact h3 e3
      · exact h4 (by omega)
theorem pick_1 {p s : Int} {n : Nat} {r : List Seg} (h : p < s - 1) : pick p ((s, n) :: r) = (.new, 0) ∧ add p ((s, n) :: r) = (p, 0) :: (s, n) :: r := by
  unfold pick add
  rw [if_pos h, if_pos h]
  exact ⟨rfl, rfl⟩
theorem pick_2 {p s : Int} {n : Nat} {r : List Seg} (h : p = s - 1) : pick p ((s, n) :: r) = (.beside, 0) ∧ add p ((s, n) :: r) = (p, n + 1) :: r := by
  unfold pick add
  rw [if_neg (by omega), if_pos h, if_neg (by omega), if_pos h]
  exact ⟨rfl, rfl⟩
theorem pick_30 {p s : Int} {n : Nat} (h : p = s + n + 1) : pick p [(s, n)] = (.beside, 1) ∧ add p [(s, n)] = [(s, n + 1)] := by
  unfold pick add
  rw [if_neg (by omega), if_neg (by omega), if_pos h, if_neg (by omega), if_neg (by omega), if_pos h]
  exact ⟨rfl, rfl⟩
theorem pick_31 {p s s' : Int} {n n' : Nat} {r : List Seg} (h : p = s + n + 1) (h' : s' = p + 1) : pick p ((s, n) :: (s', n') :: r) = (.between, 0) ∧ add p ((s, n) :: (s', n') :: r) = (s, n + n' + 2) :: r := by
  unfold pick add
  rw [if_neg (by omega), if_neg (by omega), if_pos h, if_neg (by omega), if_neg (by omega), if_pos h]
  show (if s' = p + 1 then (Wd.between, 0) else (Wd.beside, 1)) = _ ∧ (if s' = p + 1 then (s, n + n' + 2) :: r else (s, n + 1) :: (s', n') :: r) = _
  rw [if_pos h', if_pos h']
  exact ⟨rfl, rfl⟩
theorem pick_32 {p s s' : Int} {n n' : Nat} {r : List Seg} (h : p = s + n + 1) (h' : s' ≠ p + 1) : pick p ((s, n) :: (s', n') :: r) = (.beside, 1) ∧ add p ((s, n) :: (s', n') :: r) = (s, n + 1) :: (s', n') :: r := by
  unfold pick add
  rw [if_neg (by omega), if_neg (by omega), if_pos h, if_neg (by omega), if_neg (by omega), if_pos h]
  show (if s' = p + 1 then (Wd.between, 0) else (Wd.beside, 1)) = _ ∧ (if s' = p + 1 then (s, n + n' + 2) :: r else (s, n + 1) :: (s', n') :: r) = _
  rw [if_neg h', if_neg h']
  exact ⟨rfl, rfl⟩
theorem pick_4 {p s : Int} {n : Nat} {r : List Seg} (h : s + n + 1 < p) : pick p ((s, n) :: r) = shift (pick p r) ∧ add p ((s, n) :: r) = (s, n) :: add p r := by
  constructor
  · conv => lhs; unfold pick
    rw [if_neg (by omega), if_neg (by omega), if_neg (by omega)]
  · conv => lhs; unfold add
    rw [if_neg (by omega), if_neg (by omega), if_neg (by omega)]
/-- a way through: the six cases at the first segment -/
theorem way {C : List Seg → Prop} {p : Int} (h0 : C []) (h1 : ∀ (s : Int) (n : Nat) (r : List Seg), p < s - 1 → Ok (s + n + 1) r → C ((s, n) :: r)) (h2 : ∀ (s : Int) (n : Nat) (r : List Seg), p = s - 1 → Ok (s + n + 1) r → C ((s, n) :: r))
    (h30 : ∀ (s : Int) (n : Nat), p = s + n + 1 → C [(s, n)]) (h31 : ∀ (s : Int) (n : Nat) (s' : Int) (n' : Nat) (r : List Seg), p = s + n + 1 → s' = p + 1 → Ok (s' + n' + 1) r → C ((s, n) :: (s', n') :: r))
    (h32 : ∀ (s : Int) (n : Nat) (s' : Int) (n' : Nat) (r : List Seg), p = s + n + 1 → p + 1 < s' → Ok (s' + n' + 1) r → C ((s, n) :: (s', n') :: r))
    (h4 : ∀ (s : Int) (n : Nat) (r : List Seg), s + n + 1 < p → Ok (s + n + 1) r → ¬ Mem p r → C r → C ((s, n) :: r)) : ∀ {g : List Seg} {lo : Int}, Ok lo g → ¬ Mem p g → C g
  | [], _, _, _ => h0
  | (s, n) :: r, lo, k, nm => by
    have k2 : Ok (s + n + 1) r := k.2
    have nm1 : ¬ (s ≤ p ∧ p ≤ s + n) := fun e => nm (mem_cons.mpr (.inl e))
    have nm2 : ¬ Mem p r := fun e => nm (mem_cons.mpr (.inr e))
    refine places (r := r) nm1 (fun e => h1 s n r e k2) (fun e => h2 s n r e k2) (fun e => ?_) (fun e => h4 s n r e k2 nm2 (way h0 h1 h2 h30 h31 h32 h4 k2 nm2))
    cases r with
    | nil => exact h30 s n e
    | cons y r' =>
      obtain ⟨s', n'⟩ := y
      have k3 : s + n + 1 < s' := k2.1
      by_cases e' : s' = p + 1
      · exact h31 s n s' n' r' e e' k2.2
      · exact h32 s n s' n' r' e (by omega) k2.2
def left (p : Int) (g : List Seg) : Nat := (g.filter fun x => decide (x.1 + x.2 < p)).length
theorem left_0 : ∀ {g : List Seg} {lo p : Int}, Ok lo g → p ≤ lo + 1 → left p g = 0
  | [], _, _, _, _ => rfl
  | (s, n) :: r, lo, p, k, h => by
    have k1 : lo < s := k.1
    have k2 : Ok (s + n + 1) r := k.2
    unfold left
    rw [List.filter_cons, if_neg (by simp; omega)]
    exact left_0 k2 (by omega)
theorem left_yes {p s : Int} {n : Nat} {r : List Seg} (h : s + n < p) : left p ((s, n) :: r) = left p r + 1 := by
  unfold left
  rw [List.filter_cons, if_pos (by simp; omega)]
  rfl
theorem left_no {p s : Int} {n : Nat} {r : List Seg} (h : ¬ s + n < p) : left p ((s, n) :: r) = left p r := by
  unfold left
  rw [List.filter_cons, if_neg (by simp; omega)]
theorem nmem {g : List Seg} {lo p : Int} (k : Ok lo g) (h : p ≤ lo) : ¬ Mem p g := fun m => by
  have := ok_lt k m
  omega
/-- what a choice says -/
structure Says (p : Int) (g : List Seg) (c : Ch) : Prop where
  new : c.1 = .new ↔ ¬ Mem (p - 1) g ∧ ¬ Mem (p + 1) g
  btw : c.1 = .between ↔ Mem (p - 1) g ∧ Mem (p + 1) g
  n1 : c.1 = .new → c.2 = left p g ∧ c.2 ≤ g.length
  n2 : c.1 = .between → c.2 + 1 = left p g ∧ c.2 + 1 < g.length
  n3 : c.1 = .beside → Mem (p - 1) g → c.2 + 1 = 2 * left p g ∧ c.2 < 2 * g.length
  n4 : c.1 = .beside → ¬ Mem (p - 1) g → c.2 = 2 * left p g ∧ c.2 < 2 * g.length
  len : ((add p g).length : Int) = g.length + c.1.step
theorem says {g : List Seg} {lo p : Int} (k : Ok lo g) (nm : ¬ Mem p g) : Says p g (pick p g) := by
  refine way (C := fun g => Says p g (pick p g)) ?_ ?_ ?_ ?_ ?_ ?_ ?_ k nm
  · refine ⟨?_, ?_, ?_, ?_, ?_, ?_, rfl⟩
    · simp [pick, mem_nil]
    · simp [pick, mem_nil]
    · simp [pick, left]
    · simp [pick]
    · simp [pick]
    · simp [pick]
  · intro s n r h kr
    rw [(pick_1 h).1]
    have a1 : ¬ Mem (p - 1) ((s, n) :: r) := fun m => by
      rcases mem_cons.mp m with m | m
      · have := m.1; simp only at this; omega
      · have := ok_lt kr m; omega
    have a2 : ¬ Mem (p + 1) ((s, n) :: r) := fun m => by
      rcases mem_cons.mp m with m | m
      · have := m.1; simp only at this; omega
      · have := ok_lt kr m; omega
    refine ⟨by simp [a1, a2], by simp [a1], fun _ => ⟨?_, Nat.zero_le _⟩, by simp, by simp, by simp, ?_⟩
    · rw [left_no (by omega), left_0 kr (by omega)]
    · rw [(pick_1 h).2]
      simp [Wd.step]
  · intro s n r h kr
    rw [(pick_2 h).1]
    have a1 : ¬ Mem (p - 1) ((s, n) :: r) := fun m => by
      rcases mem_cons.mp m with m | m
      · have := m.1; simp only at this; omega
      · have := ok_lt kr m; omega
    have a2 : Mem (p + 1) ((s, n) :: r) := mem_cons.mpr (.inl ⟨by show s ≤ p + 1; omega, by show p + 1 ≤ s + (n : Int); omega⟩)
    refine ⟨by simp [a2], by simp [a1], by simp, by simp, fun _ m => absurd m a1, fun _ _ => ⟨?_, by simp⟩, ?_⟩
    · rw [left_no (by omega), left_0 kr (by omega)]
    · rw [(pick_2 h).2]
      simp [Wd.step]
  · intro s n h
    rw [(pick_30 h).1]
    have a1 : Mem (p - 1) [(s, n)] := mem_cons.mpr (.inl ⟨by show s ≤ p - 1; omega, by show p - 1 ≤ s + (n : Int); omega⟩)
    have a2 : ¬ Mem (p + 1) [(s, n)] := fun m => by
      rcases mem_cons.mp m with m | m
      · have := m.2; simp only at this; omega
      · exact mem_nil m
    refine ⟨by simp [a1], by simp [a2], by simp, by simp, fun _ _ => ⟨?_, by simp⟩, fun _ m => absurd a1 m, ?_⟩
    · rw [left_yes (by omega)]
      rfl
    · rw [(pick_30 h).2]
      simp [Wd.step]
  · intro s n s' n' r h h' kr
    rw [(pick_31 h h').1]
    have a1 : Mem (p - 1) ((s, n) :: (s', n') :: r) := mem_cons.mpr (.inl ⟨by show s ≤ p - 1; omega, by show p - 1 ≤ s + (n : Int); omega⟩)
    have a2 : Mem (p + 1) ((s, n) :: (s', n') :: r) := mem_cons.mpr (.inr (mem_cons.mpr (.inl ⟨by show s' ≤ p + 1; omega, by show p + 1 ≤ s' + (n' : Int); omega⟩)))
    refine ⟨by simp [a1], by simp [a1, a2], by simp, fun _ => ⟨?_, by simp⟩, by simp, by simp, ?_⟩
    · rw [left_yes (by omega), left_no (by omega), left_0 kr (by omega)]
    · rw [(pick_31 h h').2]
      simp [Wd.step]
      omega
  · intro s n s' n' r h h' kr
    rw [(pick_32 h (by omega)).1]
    have a1 : Mem (p - 1) ((s, n) :: (s', n') :: r) := mem_cons.mpr (.inl ⟨by show s ≤ p - 1; omega, by show p - 1 ≤ s + (n : Int); omega⟩)
    have a2 : ¬ Mem (p + 1) ((s, n) :: (s', n') :: r) := fun m => by
      rcases mem_cons.mp m with m | m
      · have := m.2; simp only at this; omega
      · rcases mem_cons.mp m with m | m
        · have := m.1; simp only at this; omega
        · have := ok_lt kr m; omega
    refine ⟨by simp [a1], by simp [a2], by simp, by simp, fun _ _ => ⟨?_, by simp; omega⟩, fun _ m => absurd a1 m, ?_⟩
    · rw [left_yes (by omega), left_no (by omega), left_0 kr (by omega)]
    · rw [(pick_32 h (by omega)).2]
      simp [Wd.step]
  · intro s n r h kr nmr ih
    rw [(pick_4 h).1]
    have b1 : Mem (p - 1) ((s, n) :: r) ↔ Mem (p - 1) r := by
      rw [mem_cons]
      exact ⟨fun m => m.elim (fun m => by have := m.2; simp only at this; omega) id, .inr⟩
    have b2 : Mem (p + 1) ((s, n) :: r) ↔ Mem (p + 1) r := by
      rw [mem_cons]
      exact ⟨fun m => m.elim (fun m => by have := m.2; simp only at this; omega) id, .inr⟩
    have bl : left p ((s, n) :: r) = left p r + 1 := left_yes (by omega)
    have ad := (pick_4 (r := r) h).2
    have hl := ih.len
    generalize hc : pick p r = c at ih
    obtain ⟨w, m⟩ := c
    have e1 := ih.new
    have e2 := ih.btw
    have e3 := ih.n1
    have e4 := ih.n2
    have e5 := ih.n3
    have e6 := ih.n4
    have e7 := ih.len
    have hlen : ((add p ((s, n) :: r)).length : Int) = ((s, n) :: r).length + w.step := by
      rw [ad, List.length_cons, List.length_cons]
      have : ((add p r).length : Int) = r.length + w.step := e7
      omega
    have hw : (shift (w, m)).1 = w := shift_word _
    refine ⟨?_, ?_, ?_, ?_, ?_, ?_, ?_⟩
    · rw [hw, b1, b2]; exact e1
    · rw [hw, b1, b2]; exact e2
    · intro e
      rw [hw] at e
      subst e
      obtain ⟨f1, f2⟩ := e3 rfl
      rw [bl, List.length_cons]
      exact ⟨by show m + 1 = _; simp only at f1; omega, by show m + 1 ≤ _; simp only at f2; omega⟩
    · intro e
      rw [hw] at e
      subst e
      obtain ⟨f1, f2⟩ := e4 rfl
      rw [bl, List.length_cons]
      exact ⟨by show m + 1 + 1 = _; simp only at f1; omega, by show m + 1 + 1 < _; simp only at f2; omega⟩
    · intro e z
      rw [hw] at e
      subst e
      obtain ⟨f1, f2⟩ := e5 rfl (b1.mp z)
      rw [bl, List.length_cons]
      exact ⟨by show m + 2 + 1 = _; simp only at f1; omega, by show m + 2 < _; simp only at f2; omega⟩
    · intro e z
      rw [hw] at e
      subst e
      obtain ⟨f1, f2⟩ := e6 rfl (fun q => z (b1.mpr q))
      rw [bl, List.length_cons]
      exact ⟨by show m + 2 = _; simp only at f1; omega, by show m + 2 < _; simp only at f2; omega⟩
    · rw [hw]; exact hlen
end OgM

namespace OgM
/-! ### runs, from a rising list -/
def runStep (g : List Seg) (p : Int) : List Seg :=
  match g.getLast? with
  | none => [(p, 0)]
  | some (s, n) => if s + n = p - 1 then g.dropLast ++ [(s, n + 1)] else g ++ [(p, 0)]
theorem add_last : ∀ {g : List Seg} {lo p : Int}, Ok lo g → (∀ q, Mem q g → q < p) → add p g = runStep g p
  | [], _, _, _, _ => rfl
  | [(s, n)], lo, p, k, h => by
    have e : s + n < p := h _ (mem_cons.mpr (.inl ⟨by show s ≤ s + (n : Int); omega, Int.le_refl _⟩))
    show add p [(s, n)] = if s + n = p - 1 then [] ++ [(s, n + 1)] else [(s, n)] ++ [(p, 0)]
    by_cases e2 : s + n = p - 1
    · rw [if_pos e2, (pick_30 (by omega)).2]
      rfl
    · rw [if_neg e2, (pick_4 (by omega)).2]
      rfl
  | (s, n) :: y :: r, lo, p, k, h => by
    have k2 : Ok (s + n + 1) (y :: r) := k.2
    have e : y.1 + y.2 < p := h _ (mem_cons.mpr (.inr (mem_cons.mpr (.inl ⟨by show y.1 ≤ y.1 + (y.2 : Int); omega, Int.le_refl _⟩))))
    have k3 : s + n + 1 < y.1 := k2.1
    rw [(pick_4 (by omega)).2, add_last k2 fun q m => h q (mem_cons.mpr (.inr m))]
    unfold runStep
    rw [List.getLast?_cons_cons]
    have ed : ((s, n) :: y :: r).dropLast = (s, n) :: (y :: r).dropLast := rfl
    rw [ed]
    split
    · rename_i e0
      exact absurd (List.getLast?_eq_none_iff.mp e0) (by simp)
    · split <;> rfl
theorem segs_rise {l : List Int} {p : Int} (h : l.Pairwise (· < ·)) (hp : ∀ q ∈ l, q < p) : segs (l ++ [p]) = runStep (segs l) p := by
  have nd : l.Nodup := h.imp fun {a b} (x : a < b) => Int.ne_of_lt x
  obtain ⟨lo, hl⟩ := lower l
  obtain ⟨a, b⟩ := segs_ok nd hl
  rw [segs_snoc]
  exact add_last a fun q m => hp q ((b q).mp m)
/-! ### the plots of a segment -/
def sgi (x : Seg) : List Int := (List.range (x.2 + 1)).map fun (i : Nat) => x.1 + (i : Int)
theorem sgi_snoc (s : Int) (n : Nat) : sgi (s, n) ++ [s + n + 1] = sgi (s, n + 1) := by
  unfold sgi
  show _ = (List.range (n + 1 + 1)).map _
  rw [List.range_succ (n := n + 1), List.map_append]
  simp
  omega
theorem sgi_cons (s : Int) (n : Nat) : s :: sgi (s + 1, n) = sgi (s, n + 1) := by
  unfold sgi
  show _ = (List.range (n + 1 + 1)).map _
  rw [List.range_succ_eq_map (n := n + 1), List.map_cons, List.map_map]
  congr 1
  · simp
  · refine List.map_congr_left fun a _ => ?_
    show s + 1 + (a : Int) = s + ((a + 1 : Nat) : Int)
    omega
theorem sgi_join (s : Int) (n n' : Nat) : sgi (s, n) ++ [s + n + 1] ++ sgi (s + n + 2, n') = sgi (s, n + n' + 2) := by
  induction n' with
  | zero =>
    rw [sgi_snoc]
    have : sgi (s + n + 2, 0) = [s + ((n + 1 : Nat) : Int) + 1] := by
      unfold sgi
      simp
      omega
    rw [this, sgi_snoc]
  | succ k ih =>
    rw [← sgi_snoc, ← List.append_assoc, ih]
    have : s + n + 2 + k + 1 = s + ((n + k + 2 : Nat) : Int) + 1 := by omega
    rw [this, sgi_snoc]
    rfl
theorem sgi_len (x : Seg) : (sgi x).length = x.2 + 1 := by simp [sgi]
theorem sgi_last (x : Seg) : (sgi x).getLast? = some (x.1 + x.2) := by
  unfold sgi
  rw [List.range_succ, List.map_append]
  simp
theorem sgi_head (x : Seg) : (sgi x).head? = some x.1 := by
  unfold sgi
  rw [List.range_succ_eq_map, List.map_cons]
  simp
theorem sgi_get {x : Seg} {i : Nat} (h : i ≤ x.2) : (sgi x)[i]? = some (x.1 + i) := by
  unfold sgi
  rw [List.getElem?_map, List.getElem?_range (by omega)]
  rfl
/-! ### the houses' times in their groups -/
def applyC (t : Nat) (c : Ch) (st : List (List Nat)) : List (List Nat) :=
  match c.1 with
  | .new => st.take c.2 ++ [[t]] ++ st.drop c.2
  | .between => st.take c.2 ++ [(st.getD c.2 []) ++ [t] ++ (st.getD (c.2 + 1) [])] ++ st.drop (c.2 + 2)
  | .beside => if c.2 % 2 = 0 then st.set (c.2 / 2) (t :: st.getD (c.2 / 2) []) else st.set (c.2 / 2) (st.getD (c.2 / 2) [] ++ [t])
theorem applyC_shift (t : Nat) (c : Ch) (a : List Nat) (st : List (List Nat)) : applyC t (shift c) (a :: st) = a :: applyC t c st := by
  obtain ⟨w, k⟩ := c
  cases w with
  | new => simp [applyC, shift]
  | between =>
    show (a :: st).take (k + 1) ++ [((a :: st).getD (k + 1) []) ++ [t] ++ ((a :: st).getD (k + 1 + 1) [])] ++ (a :: st).drop (k + 1 + 2) = _
    simp [applyC]
  | beside =>
    show (if (k + 2) % 2 = 0 then (a :: st).set ((k + 2) / 2) (t :: (a :: st).getD ((k + 2) / 2) []) else (a :: st).set ((k + 2) / 2) ((a :: st).getD ((k + 2) / 2) [] ++ [t])) = a :: (if k % 2 = 0 then st.set (k / 2) (t :: st.getD (k / 2) []) else st.set (k / 2) (st.getD (k / 2) [] ++ [t]))
    have e1 : (k + 2) / 2 = k / 2 + 1 := by omega
    have e2 : (k + 2) % 2 = k % 2 := by omega
    rw [e1, e2]
    split <;> simp
/-- st are the times of the segments g, told by f -/
def Told (f : Nat → Int) (st : List (List Nat)) (g : List Seg) : Prop := st.map (·.map f) = g.map sgi
theorem told_cons {f : Nat → Int} {st : List (List Nat)} {x : Seg} {g : List Seg} (h : Told f st (x :: g)) : ∃ a st', st = a :: st' ∧ a.map f = sgi x ∧ Told f st' g := by
  cases st with
  | nil => exact absurd h (by simp [Told])
  | cons a st' =>
    have q : a.map f :: st'.map (·.map f) = sgi x :: g.map sgi := h
    injection q with q1 q2
    exact ⟨a, st', rfl, q1, q2⟩
theorem told_add {f : Nat → Int} {t : Nat} {p : Int} (ft : f t = p) {g : List Seg} {lo : Int} (k : Ok lo g) (nm : ¬ Mem p g) :
    ∀ st, Told f st g → Told f (applyC t (pick p g) st) (add p g) ∧ ∀ x, x ∈ (applyC t (pick p g) st).flatten ↔ x = t ∨ x ∈ st.flatten := by
  refine way (C := fun g => ∀ st, Told f st g → Told f (applyC t (pick p g) st) (add p g) ∧ ∀ x, x ∈ (applyC t (pick p g) st).flatten ↔ x = t ∨ x ∈ st.flatten) ?_ ?_ ?_ ?_ ?_ ?_ ?_ k nm
  · intro st h
    have e : st = [] := by simpa [Told] using h
    subst e
    refine ⟨?_, fun x => by simp [applyC, pick]⟩
    simp [Told, applyC, pick, add, sgi, ft]
  · intro s n r h kr st ht
    rw [(pick_1 h).1, (pick_1 h).2]
    refine ⟨?_, fun x => by simp [applyC]⟩
    show ([[t]] ++ st).map (·.map f) = _
    rw [List.map_append, ht]
    simp [sgi, ft]
  · intro s n r h kr st ht
    rw [(pick_2 h).1, (pick_2 h).2]
    obtain ⟨a, st', rfl, ha, ht'⟩ := told_cons ht
    refine ⟨?_, fun x => by simp [applyC, or_assoc]⟩
    show (t :: a).map f :: st'.map (·.map f) = sgi (p, n + 1) :: r.map sgi
    rw [ht', List.map_cons, ha, ft, ← sgi_cons]
    have : p + 1 = s := by omega
    rw [this]
  · intro s n h st ht
    rw [(pick_30 h).1, (pick_30 h).2]
    obtain ⟨a, st', rfl, ha, ht'⟩ := told_cons ht
    refine ⟨?_, fun x => by simp [applyC, or_assoc, or_left_comm]⟩
    show (a ++ [t]).map f :: st'.map (·.map f) = sgi (s, n + 1) :: [].map sgi
    rw [ht', List.map_append, ha, ← sgi_snoc]
    simp [ft, h]
  · intro s n s' n' r h h' kr st ht
    rw [(pick_31 h h').1, (pick_31 h h').2]
    obtain ⟨a, st', rfl, ha, ht'⟩ := told_cons ht
    obtain ⟨b, st'', rfl, hb, ht''⟩ := told_cons ht'
    refine ⟨?_, fun x => by simp [applyC, or_assoc, or_left_comm]⟩
    show (a ++ [t] ++ b).map f :: st''.map (·.map f) = sgi (s, n + n' + 2) :: r.map sgi
    rw [ht'', List.map_append, List.map_append, ha, hb, ← sgi_join]
    have : s' = s + n + 2 := by omega
    simp [ft, h, this]
  · intro s n s' n' r h h' kr st ht
    rw [(pick_32 h (by omega)).1, (pick_32 h (by omega)).2]
    obtain ⟨a, st', rfl, ha, ht'⟩ := told_cons ht
    refine ⟨?_, fun x => by simp [applyC, or_assoc, or_left_comm]⟩
    show (a ++ [t]).map f :: st'.map (·.map f) = sgi (s, n + 1) :: ((s', n') :: r).map sgi
    rw [ht', List.map_append, ha, ← sgi_snoc]
    simp [ft, h]
  · intro s n r h kr nmr ih st ht
    rw [(pick_4 h).1, (pick_4 h).2]
    obtain ⟨a, st', rfl, ha, ht'⟩ := told_cons ht
    obtain ⟨i1, i2⟩ := ih st' ht'
    rw [applyC_shift]
    refine ⟨?_, fun x => ?_⟩
    · show a.map f :: (applyC t (pick p r) st').map (·.map f) = sgi (s, n) :: (add p r).map sgi
      rw [ha, i1]
    · rw [List.flatten_cons, List.flatten_cons, List.mem_append, List.mem_append, i2 x, or_left_comm]
end OgM

namespace OgM
/-! ### the empty plots between the segments -/
def holesI : Int → List Seg → List Int
  | _, [] => []
  | b, x :: r => (x.1 - b) :: holesI (x.1 + x.2 + 1) r
def endB : Int → List Seg → Int
  | b, [] => b
  | _, x :: r => endB (x.1 + x.2 + 1) r
def holes (count : Int) (g : List Seg) : List Int := holesI 0 g ++ [count - endB 0 g]
theorem holesI_snoc : ∀ (b : Int) (g : List Seg) (x : Seg), holesI b (g ++ [x]) = holesI b g ++ [x.1 - endB b g]
  | b, [], x => rfl
  | b, y :: r, x => by
    show (y.1 - b) :: holesI _ (r ++ [x]) = (y.1 - b) :: (holesI _ r ++ [x.1 - endB _ r])
    rw [holesI_snoc]
theorem endB_snoc : ∀ (b : Int) (g : List Seg) (x : Seg), endB b (g ++ [x]) = x.1 + x.2 + 1
  | b, [], x => rfl
  | b, y :: r, x => by
    show endB _ (r ++ [x]) = _
    rw [endB_snoc]
theorem holesI_len : ∀ (b : Int) (g : List Seg), (holesI b g).length = g.length
  | _, [] => rfl
  | _, x :: r => by
    show (holesI _ r).length + 1 = r.length + 1
    rw [holesI_len]
theorem holesI_pos : ∀ {g : List Seg} {b : Int}, Ok b g → ∀ x ∈ holesI b g, 1 ≤ x
  | [], _, _, x, h => absurd h (by simp [holesI])
  | y :: r, b, k, x, h => by
    have k1 := k.1
    rcases List.mem_cons.mp h with e | h
    · omega
    · exact holesI_pos k.2 x h
theorem holesI_top {g : List Seg} (k : Ok (-1) g) : ∀ (i : Nat) x, (holesI 0 g)[i]? = some x → 0 ≤ x ∧ (1 ≤ i → 1 ≤ x) := by
  intro i x h
  cases g with
  | nil => simp [holesI] at h
  | cons y r =>
    have k1 := k.1
    cases i with
    | zero =>
      have e : y.1 - 0 = x := Option.some.inj h
      exact ⟨by omega, fun q => absurd q (by omega)⟩
    | succ j =>
      have h' : (holesI (y.1 + y.2 + 1) r)[j]? = some x := h
      have q := holesI_pos k.2 x (List.mem_of_getElem? h')
      exact ⟨by omega, fun _ => q⟩
theorem endB_le : ∀ {g : List Seg} {b c : Int}, b ≤ c → (∀ q, Mem q g → q < c) → endB b g ≤ c
  | [], b, c, h, _ => h
  | x :: r, b, c, h, k => by
    have q : x.1 + x.2 < c := k _ (mem_cons.mpr (.inl ⟨by omega, Int.le_refl _⟩))
    exact endB_le (b := x.1 + x.2 + 1) (by omega) fun q m => k q (mem_cons.mpr (.inr m))
/-! ### the same, off a rising list -/
def diffs : List Int → List Int
  | x :: y :: r => (y - x) :: diffs (y :: r)
  | _ => []
theorem diffs_len : ∀ l : List Int, (diffs l).length = l.length - 1
  | [] => rfl
  | [_] => rfl
  | x :: y :: r => by
    show (diffs (y :: r)).length + 1 = _
    rw [diffs_len (y :: r)]
    simp
theorem diffs_get : ∀ (l : List Int) (i : Nat) (x y : Int), l[i]? = some x → l[i + 1]? = some y → (diffs l)[i]? = some (y - x)
  | [], i, x, y, h, _ => by simp at h
  | [a], i, x, y, h, h2 => by simp at h2
  | a :: b :: r, 0, x, y, h, h2 => by
    have e1 : a = x := Option.some.inj h
    have e2 : b = y := Option.some.inj h2
    subst e1 e2
    rfl
  | a :: b :: r, i + 1, x, y, h, h2 => diffs_get (b :: r) i x y h h2
theorem diffs_snoc : ∀ (l : List Int) (z p : Int), l.getLast? = some z → diffs (l ++ [p]) = diffs l ++ [p - z]
  | [], z, p, h => by simp at h
  | [a], z, p, h => by
    have e : a = z := Option.some.inj h
    subst e
    rfl
  | a :: b :: r, z, p, h => by
    rw [List.getLast?_cons_cons] at h
    show (b - a) :: diffs (b :: r ++ [p]) = _
    rw [diffs_snoc (b :: r) z p h]
    rfl
def inner (l : List Int) : List Int := ((diffs l).filter fun d => decide (1 < d)).map fun d => d - 1
theorem getLast_snoc {α : Type} (l : List α) (x : α) : (l ++ [x]).getLast? = some x := by simp
theorem rise_holes : ∀ {l : List Int}, l.Pairwise (· < ·) → ∀ a z, l.head? = some a → l.getLast? = some z →
    holesI 0 (segs l) = a :: inner l ∧ endB 0 (segs l) = z + 1 ∧ ∃ (g : List Seg) (s : Int) (n : Nat), segs l = g ++ [(s, n)] ∧ s + (n : Int) = z := by
  intro l
  induction l using snoc_ind with
  | h0 => exact fun _ a z h => absurd h (by simp)
  | h1 l p ih =>
    intro hp a z ha hz
    rw [getLast_snoc] at hz
    have ez : p = z := Option.some.inj hz
    subst ez
    rw [List.pairwise_append] at hp
    obtain ⟨h1, _, h3⟩ := hp
    have h3' : ∀ q ∈ l, q < p := fun q hq => h3 q hq p (by simp)
    rw [segs_rise h1 h3']
    cases l with
    | nil =>
      have e : p = a := Option.some.inj ha
      subst e
      exact ⟨by simp [segs, runStep, holesI, inner, diffs], by simp [segs, runStep, endB], [], p, 0, by simp [segs, runStep], by simp⟩
    | cons y r =>
      have ea : y = a := Option.some.inj ha
      subst ea
      obtain ⟨z0, hz0⟩ : ∃ z0, (y :: r).getLast? = some z0 := ⟨_, List.getLast?_eq_getLast (List.cons_ne_nil y r)⟩
      obtain ⟨i1, i2, g, s, n, i3, i4⟩ := ih h1 y z0 rfl hz0
      have lt : z0 < p := h3' z0 (List.mem_of_getLast? hz0)
      have ed : diffs (y :: r ++ [p]) = diffs (y :: r) ++ [p - z0] := diffs_snoc _ _ _ hz0
      have hin : ∀ t, t = p - z0 → inner (y :: r ++ [p]) = inner (y :: r) ++ (if 1 < t then [t - 1] else []) := fun t et => by
        unfold inner
        rw [ed, List.filter_append, List.map_append, ← et]
        split <;> simp_all
      unfold runStep
      rw [i3, getLast_snoc]
      show holesI 0 (if s + n = p - 1 then (g ++ [(s, n)]).dropLast ++ [(s, n + 1)] else g ++ [(s, n)] ++ [(p, 0)]) = _ ∧ endB 0 (if s + n = p - 1 then (g ++ [(s, n)]).dropLast ++ [(s, n + 1)] else g ++ [(s, n)] ++ [(p, 0)]) = _ ∧
        ∃ (g' : List Seg) (s' : Int) (n' : Nat), (if s + n = p - 1 then (g ++ [(s, n)]).dropLast ++ [(s, n + 1)] else g ++ [(s, n)] ++ [(p, 0)]) = g' ++ [(s', n')] ∧ s' + (n' : Int) = p
      rw [List.dropLast_concat]
      rw [i3] at i1 i2
      by_cases e : s + n = p - 1
      · rw [if_pos e, hin 1 (by omega), holesI_snoc, endB_snoc]
        rw [holesI_snoc] at i1
        refine ⟨?_, by show s + ((n + 1 : Nat) : Int) + 1 = _; omega, g, s, n + 1, rfl, by omega⟩
        rw [if_neg (by omega), List.append_nil]
        exact i1
      · rw [if_neg e, hin (p - z0) rfl, holesI_snoc, i1, i2, endB_snoc]
        refine ⟨?_, by show p + ((0 : Nat) : Int) + 1 = _; omega, _, p, 0, rfl, by simp⟩
        rw [if_pos (by omega)]
        show y :: inner (y :: r) ++ [p - (z0 + 1)] = y :: (inner (y :: r) ++ [p - z0 - 1])
        rw [show p - (z0 + 1) = p - z0 - 1 by omega]
        rfl
theorem rise_of {l k : List Int} (hn : l.Nodup) (hp : k.Perm l) (hs : k.Pairwise (· ≤ ·)) : k.Pairwise (· < ·) := by
  have nk : k.Nodup := hp.nodup_iff.mpr hn
  exact (hs.and nk).imp fun {a b} h => by have := h.1; have := h.2; omega
theorem add_len : ∀ (p : Int) (g : List Seg), (add p g).length ≤ g.length + 1
  | p, [] => by simp [add]
  | p, (s, n) :: r => by
    unfold add
    split
    · simp
    · split
      · simp
      · split
        · cases r with
          | nil => simp
          | cons y r' =>
            obtain ⟨s', n'⟩ := y
            show (if s' = p + 1 then (s, n + n' + 2) :: r' else (s, n + 1) :: (s', n') :: r').length ≤ _
            split <;> simp <;> omega
        · have := add_len p r
          simp
          omega
theorem segs_len (l : List Int) : (segs l).length ≤ l.length := by
  induction l using snoc_ind with
  | h0 => simp [segs]
  | h1 l p ih =>
    rw [segs_snoc, List.length_append]
    have := add_len p (segs l)
    simp
    omega
def size : List Seg → Nat
  | [] => 0
  | x :: r => x.2 + 1 + size r
theorem size_add : ∀ (p : Int) (g : List Seg), size (add p g) = size g + 1
  | p, [] => rfl
  | p, (s, n) :: r => by
    unfold add
    split
    · show 0 + 1 + (n + 1 + size r) = n + 1 + size r + 1
      omega
    · split
      · show n + 1 + 1 + size r = n + 1 + size r + 1
        omega
      · split
        · cases r with
          | nil => rfl
          | cons y r' =>
            obtain ⟨s', n'⟩ := y
            show size (if s' = p + 1 then (s, n + n' + 2) :: r' else (s, n + 1) :: (s', n') :: r') = n + 1 + (n' + 1 + size r') + 1
            split
            · show n + n' + 2 + 1 + size r' = _
              omega
            · show n + 1 + 1 + (n' + 1 + size r') = _
              omega
        · show n + 1 + size (add p r) = n + 1 + size r + 1
          rw [size_add p r]
          omega
theorem segs_size (l : List Int) : size (segs l) = l.length := by
  induction l using snoc_ind with
  | h0 => rfl
  | h1 l p ih =>
    rw [segs_snoc, size_add, ih]
    simp
theorem size_mem : ∀ {g : List Seg} {x : Seg}, x ∈ g → x.2 + 1 ≤ size g
  | y :: r, x, h => by
    rcases List.mem_cons.mp h with e | h
    · subst e
      show x.2 + 1 ≤ x.2 + 1 + size r
      omega
    · have := size_mem h
      show x.2 + 1 ≤ y.2 + 1 + size r
      omega
/-! ### a row's choices -/
def picks (row : List Int) : List Ch := (List.range row.length).map fun i => pick (row.getD i 0) (segs (row.take i))
theorem picks_len (row : List Int) : (picks row).length = row.length := by simp [picks]
structure Row (n : Int) (row : List Int) : Prop where
  nd : row.Nodup
  lo : ∀ p ∈ row, 0 ≤ p
  hi : ∀ p ∈ row, p < n
theorem Row.take {n : Int} {row : List Int} (h : Row n row) (i : Nat) : Row n (row.take i) :=
  ⟨h.nd.sublist (List.take_sublist _ _), fun p q => h.lo p (List.mem_of_mem_take q), fun p q => h.hi p (List.mem_of_mem_take q)⟩
theorem Row.ok {n : Int} {row : List Int} (h : Row n row) : Ok (-1) (segs row) ∧ ∀ q, Mem q (segs row) ↔ q ∈ row :=
  segs_ok h.nd fun p hp => by have := h.lo p hp; omega
theorem Row.fresh {n : Int} {row : List Int} (h : Row n row) {i : Nat} {p : Int} (e : row[i]? = some p) : p ∉ row.take i := by
  intro m
  obtain ⟨j, hj⟩ := List.getElem?_of_mem m
  rw [List.getElem?_take] at hj
  split at hj
  · rename_i lt
    obtain ⟨a, ea⟩ := List.getElem?_eq_some_iff.mp e
    obtain ⟨b, eb⟩ := List.getElem?_eq_some_iff.mp hj
    have := (List.getElem_inj h.nd).mp (eb.trans ea.symm)
    omega
  · cases hj
theorem take_snoc {row : List Int} {i : Nat} {p : Int} (e : row[i]? = some p) : row.take (i + 1) = row.take i ++ [p] := by
  rw [List.take_add_one, e]
  rfl
theorem Row.says {n : Int} {row : List Int} (h : Row n row) {i : Nat} {p : Int} (e : row[i]? = some p) : Says p (segs (row.take i)) (pick p (segs (row.take i))) :=
  OgM.says (h.take i).ok.1 fun m => h.fresh e (((h.take i).ok.2 p).mp m)
theorem Row.segs {n : Int} {row : List Int} (h : Row n row) {i : Nat} {p : Int} (e : row[i]? = some p) : segs (row.take (i + 1)) = add p (segs (row.take i)) := by
  rw [take_snoc e, segs_snoc]
theorem picks_get {row : List Int} {i : Nat} {p : Int} (e : row[i]? = some p) : (picks row)[i]? = some (pick p (segs (row.take i))) := by
  have hi := (List.getElem?_eq_some_iff.mp e).1
  unfold picks
  rw [List.getElem?_map, List.getElem?_range hi]
  show some (pick (row.getD i 0) _) = some _
  rw [List.getD_eq_getElem?_getD, e]
  rfl
/-- the ends of the segments, counted on the list -/
theorem ends_up : ∀ {g : List Seg} {lo : Int}, Ok lo g → (g.map fun x => x.1 + (x.2 : Int)).Nodup ∧ (∀ q, q ∈ (g.map fun x => x.1 + (x.2 : Int)) ↔ Mem q g ∧ ¬ Mem (q + 1) g) ∧ ∀ q ∈ (g.map fun x => x.1 + (x.2 : Int)), lo < q
  | [], _, _ => ⟨List.nodup_nil, fun q => by simp [mem_nil], by simp⟩
  | (s, n) :: r, lo, k => by
    have k1 : lo < s := k.1
    have k2 : Ok (s + n + 1) r := k.2
    obtain ⟨i1, i2, i3⟩ := ends_up k2
    refine ⟨?_, fun q => ?_, fun q hq => ?_⟩
    · rw [List.map_cons, List.nodup_cons]
      refine ⟨fun m => ?_, i1⟩
      have := i3 _ m
      simp only at this
      omega
    · rw [List.map_cons, List.mem_cons, i2 q, mem_cons, mem_cons]
      simp only
      constructor
      · rintro (e | ⟨e1, e2⟩)
        · refine ⟨.inl (by omega), ?_⟩
          rintro (f | f)
          · omega
          · have := ok_lt k2 f
            omega
        · refine ⟨.inr e1, ?_⟩
          rintro (f | f)
          · have := ok_lt k2 e1
            omega
          · exact e2 f
      · rintro ⟨e1 | e1, e2⟩
        · refine .inl ?_
          by_cases z : q = s + n
          · exact z
          · exact absurd (.inl (by omega)) e2
        · exact .inr ⟨e1, fun f => e2 (.inr f)⟩
    · rw [List.map_cons, List.mem_cons] at hq
      rcases hq with e | hq
      · simp only at e; omega
      · have := i3 q hq; omega
theorem left_count {l : List Int} (hn : l.Nodup) (p : Int) : (l.filter fun q => decide (q < p) && !decide (q + 1 ∈ l)).length = left p (segs l) := by
  obtain ⟨lo, hl⟩ := lower l
  obtain ⟨k, km⟩ := segs_ok hn hl
  obtain ⟨i1, i2, _⟩ := ends_up k
  have e1 : left p (segs l) = (((segs l).map fun x => x.1 + (x.2 : Int)).filter fun q => decide (q < p)).length := by
    unfold left
    rw [List.filter_map, List.length_map]
    rfl
  rw [e1]
  refine ((List.perm_ext_iff_of_nodup (hn.filter _) (i1.filter _)).mpr fun q => ?_).length_eq
  rw [List.mem_filter, List.mem_filter, i2 q, km q, km (q + 1)]
  simp
  exact ⟨fun ⟨a, b, c⟩ => ⟨⟨a, c⟩, b⟩, fun ⟨⟨a, c⟩, b⟩ => ⟨a, b, c⟩⟩
end OgM

namespace OgM
def nearB (p : Int) (x : Seg) : Bool := decide (p - 1 = x.1 + x.2) || decide (p + 1 = x.1)
def near (p : Int) (g : List Seg) : List Nat := (List.range g.length).filter fun i => nearB p (g.getD i (0, 0))
theorem near_cons (p : Int) (x : Seg) (g : List Seg) : near p (x :: g) = (if nearB p x then [0] else []) ++ (near p g).map (· + 1) := by
  unfold near
  rw [List.length_cons, List.range_succ_eq_map, List.filter_cons]
  have e : (List.map Nat.succ (List.range g.length)).filter (fun i => nearB p ((x :: g).getD i (0, 0))) = ((List.range g.length).filter fun i => nearB p (g.getD i (0, 0))).map (· + 1) := by
    rw [List.filter_map]
    rfl
  rw [e]
  show (if nearB p x = true then _ else _) = _
  split <;> simp_all
theorem near_nil : ∀ {g : List Seg} {lo p : Int}, Ok lo g → p + 1 ≤ lo → near p g = []
  | [], _, _, _, _ => rfl
  | (s, n) :: r, lo, p, k, h => by
    have k1 : lo < s := k.1
    have k2 : Ok (s + n + 1) r := k.2
    rw [near_cons, near_nil k2 (by omega)]
    have : nearB p (s, n) = false := by
      simp only [nearB, Bool.or_eq_false_iff, decide_eq_false_iff_not]
      omega
    rw [this]
    rfl
/-- near the new plot -/
structure Near (p : Int) (g : List Seg) (c : Ch) : Prop where
  n1 : c.1 = .new → near p g = [] 
  n2 : c.1 = .between → near p g = [c.2, c.2 + 1]
  n3 : c.1 = .beside → ∃ x : Seg, near p g = [c.2 / 2] ∧ g[c.2 / 2]? = some x ∧ c.2 = 2 * (c.2 / 2) + (if x.1 + x.2 < p then 1 else 0)
theorem nears {g : List Seg} {lo p : Int} (k : Ok lo g) (nm : ¬ Mem p g) : Near p g (pick p g) := by
  refine way (C := fun g => Near p g (pick p g)) ?_ ?_ ?_ ?_ ?_ ?_ ?_ k nm
  · exact ⟨fun _ => rfl, fun h => by simp [pick] at h, fun h => by simp [pick] at h⟩
  · intro s n r h kr
    rw [(pick_1 h).1]
    refine ⟨fun _ => ?_, fun h => by simp at h, fun h => by simp at h⟩
    rw [near_cons, near_nil kr (by omega)]
    have : nearB p (s, n) = false := by
      simp only [nearB, Bool.or_eq_false_iff, decide_eq_false_iff_not]
      omega
    rw [this]
    rfl
  · intro s n r h kr
    rw [(pick_2 h).1]
    refine ⟨fun h => by simp at h, fun h => by simp at h, fun _ => ⟨(s, n), ?_, rfl, ?_⟩⟩
    · rw [near_cons, near_nil kr (by omega)]
      have : nearB p (s, n) = true := by
        simp only [nearB, Bool.or_eq_true, decide_eq_true_eq]
        omega
      rw [this]
      rfl
    · show 0 = 2 * (0 / 2) + if s + (n : Int) < p then 1 else 0
      rw [if_neg (by omega)]
  · intro s n h
    rw [(pick_30 h).1]
    refine ⟨fun h => by simp at h, fun h => by simp at h, fun _ => ⟨(s, n), ?_, rfl, ?_⟩⟩
    · rw [near_cons]
      have : nearB p (s, n) = true := by
        simp only [nearB, Bool.or_eq_true, decide_eq_true_eq]
        omega
      rw [this]
      rfl
    · show 1 = 2 * (1 / 2) + if s + (n : Int) < p then 1 else 0
      rw [if_pos (by omega)]
  · intro s n s' n' r h h' kr
    rw [(pick_31 h h').1]
    refine ⟨fun h => by simp at h, fun _ => ?_, fun h => by simp at h⟩
    rw [near_cons, near_cons, near_nil kr (by omega)]
    have t1 : nearB p (s, n) = true := by
      simp only [nearB, Bool.or_eq_true, decide_eq_true_eq]
      omega
    have t2 : nearB p (s', n') = true := by
      simp only [nearB, Bool.or_eq_true, decide_eq_true_eq]
      omega
    rw [t1, t2]
    rfl
  · intro s n s' n' r h h' kr
    rw [(pick_32 h (by omega)).1]
    refine ⟨fun h => by simp at h, fun h => by simp at h, fun _ => ⟨(s, n), ?_, rfl, ?_⟩⟩
    · rw [near_cons, near_cons, near_nil kr (by omega)]
      have t1 : nearB p (s, n) = true := by
        simp only [nearB, Bool.or_eq_true, decide_eq_true_eq]
        omega
      have t2 : nearB p (s', n') = false := by
        simp only [nearB, Bool.or_eq_false_iff, decide_eq_false_iff_not]
        omega
      rw [t1, t2]
      rfl
    · show 1 = 2 * (1 / 2) + if s + (n : Int) < p then 1 else 0
      rw [if_pos (by omega)]
  · intro s n r h kr nmr ih
    rw [(pick_4 h).1]
    have t1 : nearB p (s, n) = false := by
      simp only [nearB, Bool.or_eq_false_iff, decide_eq_false_iff_not]
      omega
    have nc : near p ((s, n) :: r) = (near p r).map (· + 1) := by
      rw [near_cons, t1]
      rfl
    generalize pick p r = c at ih
    obtain ⟨w, m⟩ := c
    cases w with
    | new =>
      refine ⟨fun _ => ?_, fun h => by simp [shift] at h, fun h => by simp [shift] at h⟩
      rw [nc, ih.n1 rfl]
      rfl
    | between =>
      refine ⟨fun h => by simp [shift] at h, fun _ => ?_, fun h => by simp [shift] at h⟩
      rw [nc, ih.n2 rfl]
      rfl
    | beside =>
      refine ⟨fun h => by simp [shift] at h, fun h => by simp [shift] at h, fun _ => ?_⟩
      obtain ⟨x, e1, e2, e3⟩ := ih.n3 rfl
      simp only at e1 e2 e3
      have e4 : (m + 2) / 2 = m / 2 + 1 := by omega
      refine ⟨x, ?_, ?_, ?_⟩
      · rw [nc, e1]
        show [m / 2 + 1] = [(m + 2) / 2]
        rw [e4]
      · show ((s, n) :: r)[(m + 2) / 2]? = some x
        rw [e4]
        exact e2
      · show m + 2 = 2 * ((m + 2) / 2) + _
        rw [e4]
        omega
theorem range_filter_len {α : Type} (P : α → Bool) (d : α) : ∀ g : List α, ((List.range g.length).filter fun i => P (g.getD i d)).length = (g.filter P).length
  | [] => rfl
  | x :: r => by
    rw [List.length_cons, List.range_succ_eq_map, List.filter_cons, List.filter_cons, List.filter_map]
    have ih := range_filter_len P d r
    have e : ((List.range r.length).filter ((fun i => P ((x :: r).getD i d)) ∘ Nat.succ)).length = (r.filter P).length := ih
    show (if P x = true then _ else _ : List Nat).length = (if P x = true then _ else _ : List α).length
    split
    · rw [List.length_cons, List.length_cons, List.length_map, e]
    · rw [List.length_map, e]
theorem range_filter_map {α : Type} (P : α → Bool) (d : α) : ∀ g : List α, ((List.range g.length).filter fun i => P (g.getD i d)).map (fun i => g.getD i d) = g.filter P
  | [] => rfl
  | x :: r => by
    rw [List.length_cons, List.range_succ_eq_map, List.filter_cons, List.filter_cons, List.filter_map]
    have ih := range_filter_map P d r
    have e : (((List.range r.length).filter ((fun i => P ((x :: r).getD i d)) ∘ Nat.succ)).map Nat.succ).map (fun i => (x :: r).getD i d) = r.filter P := by
      rw [List.map_map]
      exact ih
    show (if P x = true then _ else _ : List Nat).map _ = (if P x = true then _ else _ : List α)
    split
    · rw [List.map_cons, e]
      rfl
    · exact e
theorem filter_ne_len {l : List Int} (h : l.Nodup) {z : Int} (m : z ∈ l) : (l.filter (· != z)).length + 1 = l.length := by
  rw [← h.erase_eq_filter, List.length_erase_of_mem m]
  have := List.length_pos_of_mem m
  omega
def Wd.ix : Wd → Nat
  | .new => 0
  | .beside => 1
  | .between => 2
def b1 (c : Bool) : Nat := if c then 1 else 0
theorem nb_pick {l : List Int} (hn : l.Nodup) {p : Int} (hp : p ∉ l) : b1 (decide (p - 1 ∈ l)) + b1 (decide (p + 1 ∈ l)) = (pick p (segs l)).1.ix := by
  obtain ⟨lo, hl⟩ := lower l
  obtain ⟨k, km⟩ := segs_ok hn hl
  have S := says k (p := p) fun m => hp ((km p).mp m)
  have e1 := S.new
  have e2 := S.btw
  rw [km, km] at e1 e2
  by_cases a : p - 1 ∈ l <;> by_cases b : p + 1 ∈ l
  · rw [e2.mpr ⟨a, b⟩, decide_eq_true a, decide_eq_true b]
    rfl
  · have : (pick p (segs l)).1 = .beside := by
      cases h : (pick p (segs l)).1 with
      | new => exact absurd a (e1.mp h).1
      | beside => rfl
      | between => exact absurd (e2.mp h).2 b
    rw [this, decide_eq_true a, decide_eq_false b]
    rfl
  · have : (pick p (segs l)).1 = .beside := by
      cases h : (pick p (segs l)).1 with
      | new => exact absurd b (e1.mp h).2
      | beside => rfl
      | between => exact absurd (e2.mp h).1 a
    rw [this, decide_eq_false a, decide_eq_true b]
    rfl
  · rw [e1.mpr ⟨a, b⟩, decide_eq_false a, decide_eq_false b]
    rfl
end OgM

namespace OgM
def Valid (c : Ch) (n : Nat) : Prop :=
  match c.1 with
  | .new => c.2 ≤ n
  | .beside => c.2 < 2 * n
  | .between => c.2 + 1 < n
def stAt (cs : List Ch) : Nat → List (List Nat)
  | 0 => []
  | i + 1 => applyC i (cs.getD i (.new, 0)) (stAt cs i)
def VCh (cs : List Ch) : Prop := ∀ i c, cs[i]? = some c → Valid c (stAt cs i).length
theorem flat_cut (st : List (List Nat)) (k : Nat) : (st.take k).flatten.length + (st.drop k).flatten.length = st.flatten.length := by
  rw [← List.length_append, ← List.flatten_append, List.take_append_drop]
theorem getD_at {α : Type} {l : List α} {j : Nat} {x d : α} (h : l[j]? = some x) : l.getD j d = x := by
  rw [List.getD_eq_getElem?_getD, h]
  rfl
theorem drop_at {α : Type} {l : List α} {j : Nat} {x : α} (h : l[j]? = some x) : l.drop j = x :: l.drop (j + 1) := by
  obtain ⟨a, e⟩ := List.getElem?_eq_some_iff.mp h
  rw [← e]
  exact List.drop_eq_getElem_cons a
theorem apply_size {c : Ch} {st : List (List Nat)} (t : Nat) (h : Valid c st.length) : (applyC t c st).flatten.length = st.flatten.length + 1 ∧ ((applyC t c st).length : Int) = st.length + c.1.step := by
  obtain ⟨w, k⟩ := c
  cases w with
  | new =>
    have h' : k ≤ st.length := h
    have e := flat_cut st k
    constructor
    · show (st.take k ++ [[t]] ++ st.drop k).flatten.length = _
      simp only [List.flatten_append, List.length_append, List.flatten_cons, List.flatten_nil, List.length_cons, List.length_nil]
      omega
    · show ((st.take k ++ [[t]] ++ st.drop k).length : Int) = st.length + 1
      simp only [List.length_append, List.length_take, List.length_drop, List.length_cons, List.length_nil]
      omega
  | between =>
    have h' : k + 1 < st.length := h
    have e := flat_cut st k
    have a1 : st[k]? = some (st[k]'(by omega)) := List.getElem?_eq_getElem _
    have a2 : st[k + 1]? = some (st[k + 1]'h') := List.getElem?_eq_getElem _
    rw [drop_at a1, drop_at a2, show k + 1 + 1 = k + 2 from rfl] at e
    simp only [List.flatten_cons, List.length_append] at e
    constructor
    · show (st.take k ++ [(st.getD k []) ++ [t] ++ (st.getD (k + 1) [])] ++ st.drop (k + 2)).flatten.length = _
      rw [getD_at a1, getD_at a2]
      simp only [List.flatten_append, List.length_append, List.flatten_cons, List.flatten_nil, List.length_cons, List.length_nil]
      omega
    · show ((st.take k ++ [(st.getD k []) ++ [t] ++ (st.getD (k + 1) [])] ++ st.drop (k + 2)).length : Int) = st.length + -1
      simp only [List.length_append, List.length_take, List.length_drop, List.length_cons, List.length_nil]
      omega
  | beside =>
    have h' : k < 2 * st.length := h
    have hj : k / 2 < st.length := by omega
    have e := flat_cut st (k / 2)
    have a1 : st[k / 2]? = some (st[k / 2]'hj) := List.getElem?_eq_getElem _
    rw [drop_at a1] at e
    simp only [List.flatten_cons, List.length_append] at e
    show (if k % 2 = 0 then st.set (k / 2) (t :: st.getD (k / 2) []) else st.set (k / 2) (st.getD (k / 2) [] ++ [t])).flatten.length = _ ∧ ((if k % 2 = 0 then st.set (k / 2) (t :: st.getD (k / 2) []) else st.set (k / 2) (st.getD (k / 2) [] ++ [t])).length : Int) = st.length + 0
    rw [getD_at a1]
    split
    · rw [List.length_set, List.set_eq_take_append_cons_drop, if_pos hj]
      simp only [List.flatten_append, List.length_append, List.flatten_cons, List.length_cons]
      omega
    · rw [List.length_set, List.set_eq_take_append_cons_drop, if_pos hj]
      simp only [List.flatten_append, List.length_append, List.flatten_cons, List.length_cons, List.length_nil]
      omega
theorem st_size {cs : List Ch} (v : VCh cs) : ∀ i, i ≤ cs.length → (stAt cs i).flatten.length = i ∧ (stAt cs i).length ≤ i
  | 0, _ => ⟨rfl, Nat.le_refl _⟩
  | i + 1, h => by
    obtain ⟨h1, h2⟩ := st_size v i (by omega)
    have e : cs[i]? = some (cs[i]'h) := List.getElem?_eq_getElem _
    have q := apply_size i (v i _ e)
    show (applyC i (cs.getD i (.new, 0)) (stAt cs i)).flatten.length = i + 1 ∧ (applyC i (cs.getD i (.new, 0)) (stAt cs i)).length ≤ i + 1
    rw [getD_at e]
    refine ⟨by omega, ?_⟩
    have : (cs[i]'h).1.step ≤ 1 := by cases (cs[i]'h).1 <;> decide
    omega
theorem inner_len {st : List (List Nat)} {j : Nat} {ts : List Nat} (h : st[j]? = some ts) : ts.length ≤ st.flatten.length := by
  have e := flat_cut st j
  rw [drop_at h] at e
  simp only [List.flatten_cons, List.length_append] at e
  omega
/-- a row's choices are valid, and their groups are its segments -/
theorem picks_told {n : Int} {row : List Int} (h : Row n row) : ∀ i, i ≤ row.length → Told (fun t => row.getD t 0) (stAt (picks row) i) (OgM.segs (row.take i)) ∧ ∀ x, x ∈ (stAt (picks row) i).flatten ↔ x < i
  | 0, _ => ⟨by simp [Told, stAt, OgM.segs], fun x => by simp [stAt]⟩
  | i + 1, hi => by
    obtain ⟨h1, h2⟩ := picks_told h i (by omega)
    have e : row[i]? = some (row[i]'hi) := List.getElem?_eq_getElem _
    have q := told_add (f := fun t => row.getD t 0) (t := i) (p := row[i]'hi) (getD_at e) (h.take i).ok.1 (fun m => h.fresh e (((h.take i).ok.2 _).mp m)) _ h1
    show Told _ (applyC i ((picks row).getD i (.new, 0)) (stAt (picks row) i)) _ ∧ ∀ x, x ∈ (applyC i ((picks row).getD i (.new, 0)) (stAt (picks row) i)).flatten ↔ x < i + 1
    rw [getD_at (picks_get e), h.segs e]
    refine ⟨q.1, fun x => ?_⟩
    rw [q.2 x, h2 x]
    omega
theorem picks_valid {n : Int} {row : List Int} (h : Row n row) : VCh (picks row) := by
  intro i c e
  have hi := (List.getElem?_eq_some_iff.mp e).1
  rw [picks_len] at hi
  have er : row[i]? = some (row[i]'hi) := List.getElem?_eq_getElem _
  rw [picks_get er] at e
  have ec := Option.some.inj e
  obtain ⟨h1, _⟩ := picks_told h i (by omega)
  have hl : (stAt (picks row) i).length = (OgM.segs (row.take i)).length := by
    have := congrArg List.length h1
    simpa using this
  rw [hl]
  have S := h.says er
  rw [ec] at S
  obtain ⟨w, k⟩ := c
  cases w with
  | new => exact (S.n1 rfl).2
  | between => exact (S.n2 rfl).2
  | beside =>
    by_cases m : Mem (row[i]'hi - 1) (OgM.segs (row.take i))
    · exact (S.n3 rfl m).2
    · exact (S.n4 rfl m).2
theorem apply_mem {c : Ch} {st : List (List Nat)} (t : Nat) (h : Valid c st.length) (x : Nat) : x ∈ (applyC t c st).flatten ↔ x = t ∨ x ∈ st.flatten := by
  have cut : ∀ k, x ∈ st.flatten ↔ x ∈ (st.take k).flatten ∨ x ∈ (st.drop k).flatten := fun k => by
    rw [← List.mem_append, ← List.flatten_append, List.take_append_drop]
  obtain ⟨w, k⟩ := c
  cases w with
  | new =>
    show x ∈ (st.take k ++ [[t]] ++ st.drop k).flatten ↔ _
    rw [cut k]
    simp only [List.flatten_append, List.mem_append, List.flatten_cons, List.flatten_nil, List.mem_singleton, List.append_nil]
    constructor
    · rintro ((a | a) | a)
      · exact .inr (.inl a)
      · exact .inl a
      · exact .inr (.inr a)
    · rintro (a | a | a)
      · exact .inl (.inr a)
      · exact .inl (.inl a)
      · exact .inr a
  | between =>
    have h' : k + 1 < st.length := h
    have a1 : st[k]? = some (st[k]'(by omega)) := List.getElem?_eq_getElem _
    have a2 : st[k + 1]? = some (st[k + 1]'h') := List.getElem?_eq_getElem _
    show x ∈ (st.take k ++ [(st.getD k []) ++ [t] ++ (st.getD (k + 1) [])] ++ st.drop (k + 2)).flatten ↔ _
    rw [cut k, drop_at a1, drop_at a2, show k + 1 + 1 = k + 2 from rfl, getD_at a1, getD_at a2]
    simp only [List.flatten_append, List.mem_append, List.flatten_cons, List.flatten_nil, List.mem_singleton, List.append_nil]
    constructor
    · rintro ((a | ((a | a) | a)) | a)
      · exact .inr (.inl a)
      · exact .inr (.inr (.inl a))
      · exact .inl a
      · exact .inr (.inr (.inr (.inl a)))
      · exact .inr (.inr (.inr (.inr a)))
    · rintro (a | a | a | a | a)
      · exact .inl (.inr (.inl (.inr a)))
      · exact .inl (.inl a)
      · exact .inl (.inr (.inl (.inl a)))
      · exact .inl (.inr (.inr a))
      · exact .inr a
  | beside =>
    have h' : k < 2 * st.length := h
    have hj : k / 2 < st.length := by omega
    have a1 : st[k / 2]? = some (st[k / 2]'hj) := List.getElem?_eq_getElem _
    show x ∈ (if k % 2 = 0 then st.set (k / 2) (t :: st.getD (k / 2) []) else st.set (k / 2) (st.getD (k / 2) [] ++ [t])).flatten ↔ _
    rw [cut (k / 2), drop_at a1, getD_at a1]
    split
    · rw [List.set_eq_take_append_cons_drop, if_pos hj]
      simp only [List.flatten_append, List.mem_append, List.flatten_cons, List.mem_cons]
      constructor
      · rintro (a | (a | a) | a)
        · exact .inr (.inl a)
        · exact .inl a
        · exact .inr (.inr (.inl a))
        · exact .inr (.inr (.inr a))
      · rintro (a | a | a | a)
        · exact .inr (.inl (.inl a))
        · exact .inl a
        · exact .inr (.inl (.inr a))
        · exact .inr (.inr a)
    · rw [List.set_eq_take_append_cons_drop, if_pos hj]
      simp only [List.flatten_append, List.mem_append, List.flatten_cons, List.mem_singleton]
      constructor
      · rintro (a | (a | a) | a)
        · exact .inr (.inl a)
        · exact .inr (.inr (.inl a))
        · exact .inl a
        · exact .inr (.inr (.inr a))
      · rintro (a | a | a | a)
        · exact .inr (.inl (.inr a))
        · exact .inl a
        · exact .inr (.inl (.inl a))
        · exact .inr (.inr a)
theorem st_mem {cs : List Ch} (v : VCh cs) : ∀ i, i ≤ cs.length → ∀ x, x ∈ (stAt cs i).flatten ↔ x < i
  | 0, _, x => by simp [stAt]
  | i + 1, h, x => by
    have e : cs[i]? = some (cs[i]'h) := List.getElem?_eq_getElem _
    show x ∈ (applyC i (cs.getD i (.new, 0)) (stAt cs i)).flatten ↔ _
    rw [getD_at e, apply_mem i (v i _ e), st_mem v i (by omega) x]
    omega
theorem told_get {f : Nat → Int} {st : List (List Nat)} {g : List Seg} (h : Told f st g) {j : Nat} {ts : List Nat} (e : st[j]? = some ts) : ∃ x, g[j]? = some x ∧ ts.map f = sgi x := by
  have q : (st.map (·.map f))[j]? = (g.map sgi)[j]? := by rw [h]
  rw [List.getElem?_map, List.getElem?_map, e] at q
  cases hx : g[j]? with
  | none =>
    rw [hx] at q
    cases q
  | some x =>
    rw [hx] at q
    exact ⟨x, rfl, Option.some.inj q⟩
theorem holesI_get : ∀ (b : Int) (g : List Seg) (j : Nat) (x y : Seg), g[j]? = some x → g[j + 1]? = some y → (holesI b g)[j + 1]? = some (y.1 - (x.1 + x.2 + 1))
  | b, [], j, x, y, h, _ => by simp at h
  | b, [a], j, x, y, h, h2 => by simp at h2
  | b, a :: c :: r, 0, x, y, h, h2 => by
    have e1 : a = x := Option.some.inj h
    have e2 : c = y := Option.some.inj h2
    subst e1 e2
    rfl
  | b, a :: c :: r, j + 1, x, y, h, h2 => holesI_get (a.1 + a.2 + 1) (c :: r) j x y h h2
theorem holes_len (c : Int) (g : List Seg) : (holes c g).length = g.length + 1 := by
  unfold holes
  rw [List.length_append, holesI_len]
  rfl
theorem holes_get {c : Int} {g : List Seg} {j : Nat} {x y : Seg} (h : g[j]? = some x) (h2 : g[j + 1]? = some y) : (holes c g)[j + 1]? = some (y.1 - (x.1 + x.2 + 1)) := by
  unfold holes
  have hj := (List.getElem?_eq_some_iff.mp h2).1
  rw [List.getElem?_append_left (by rw [holesI_len]; exact hj)]
  exact holesI_get 0 g j x y h h2
theorem steps_sum {cs : List Ch} (v : VCh cs) : ∀ i, i ≤ cs.length → (((cs.take i).map fun c => c.1.step).sum : Int) = (stAt cs i).length
  | 0, _ => rfl
  | i + 1, h => by
    have e : cs[i]? = some (cs[i]'h) := List.getElem?_eq_getElem _
    have q := (apply_size i (v i _ e)).2
    have ih := steps_sum v i (by omega)
    show _ = ((applyC i (cs.getD i (.new, 0)) (stAt cs i)).length : Int)
    rw [getD_at e, List.take_add_one, e, List.map_append, List.sum_append]
    show _ + ((cs[i]'h).1.step + 0) = _
    omega
end OgM

namespace Dw
open PySem PySem.Spec PyProof.Rows L2 OgR Evl
/-! ### data in a part G of the heap H; lists of the def's own beside it -/
mutual
theorem dp_ex {K : PySem.W.Frag} {H H' : Hp} (e : Ex H H') : ∀ {d : PyData} {v : V}, Dp K H v d → Dp K H' v d
  | _, _, .non => .non
  | _, _, .bl b => .bl b
  | _, _, .int i => .int i
  | _, _, .str x => .str x
  | _, _, .lst h t => .lst (ex_l e h) (dpa_ex e t)
  | _, _, .tup h t => .tup (ex_t e h) (dpa_ex e t)
theorem dpa_ex {K : PySem.W.Frag} {H H' : Hp} (e : Ex H H') : ∀ {ds : List PyData} {vs : List V}, DpAll K H vs ds → DpAll K H' vs ds
  | _, _, .nil => .nil
  | _, _, .cons h t => .cons (dp_ex e h) (dpa_ex e t)
end
theorem dpa_get {K : PySem.W.Frag} {H : Hp} : ∀ {ds : List PyData} {vs : List V} {i : Nat} {v : V}, DpAll K H vs ds → vs[i]? = some v → ∃ d, ds[i]? = some d ∧ Dp K H v d
  | _, _, _, _, .nil, e => by simp at e
  | _, _, 0, _, .cons h _, e => by
    simp at e
    subst e
    exact ⟨_, rfl, h⟩
  | _, _, i + 1, _, .cons _ t, e => dpa_get (i := i) t (by simpa using e)
theorem dpa_back {K : PySem.W.Frag} {H : Hp} : ∀ {ds : List PyData} {vs : List V} {i : Nat} {d : PyData}, DpAll K H vs ds → ds[i]? = some d → ∃ v, vs[i]? = some v ∧ Dp K H v d
  | _, _, _, _, .nil, e => by simp at e
  | _, _, 0, _, .cons h _, e => by
    simp at e
    subst e
    exact ⟨_, rfl, h⟩
  | _, _, i + 1, _, .cons _ t, e => dpa_back (i := i) t (by simpa using e)
theorem dpa_len {K : PySem.W.Frag} {H : Hp} : ∀ {ds : List PyData} {vs : List V}, DpAll K H vs ds → vs.length = ds.length
  | _, _, .nil => rfl
  | _, _, .cons _ t => by rw [List.length_cons, List.length_cons, dpa_len t]
theorem dpa_app {K : PySem.W.Frag} {H : Hp} : ∀ {xs ys : List V} {ds es : List PyData}, DpAll K H xs ds → DpAll K H ys es → DpAll K H (xs ++ ys) (ds ++ es)
  | _, _, _, _, .nil, h => h
  | _, _, _, _, .cons a b, h => .cons a (dpa_app b h)
theorem dpa_set {K : PySem.W.Frag} {H : Hp} {x : V} {d : PyData} (hx : Dp K H x d) : ∀ {xs : List V} {ds : List PyData} (j : Nat), DpAll K H xs ds → DpAll K H (xs.set j x) (ds.set j d)
  | _, _, _, .nil => .nil
  | _, _, 0, .cons _ t => .cons hx t
  | _, _, j + 1, .cons h t => .cons h (dpa_set hx j t)
theorem dpa_take {K : PySem.W.Frag} {H : Hp} : ∀ {xs : List V} {ds : List PyData} (j : Nat), DpAll K H xs ds → DpAll K H (xs.take j) (ds.take j)
  | _, _, 0, _ => by simp only [List.take_zero]; exact .nil
  | _, _, _ + 1, .nil => by simp only [List.take_nil]; exact .nil
  | _, _, j + 1, .cons h t => .cons h (dpa_take j t)
theorem dpa_drop {K : PySem.W.Frag} {H : Hp} : ∀ {xs : List V} {ds : List PyData} (j : Nat), DpAll K H xs ds → DpAll K H (xs.drop j) (ds.drop j)
  | _, _, 0, h => h
  | _, _, _ + 1, .nil => by simp only [List.drop_nil]; exact .nil
  | _, _, j + 1, .cons h t => dpa_drop j t
theorem dpa_rev {K : PySem.W.Frag} {H : Hp} : ∀ {xs : List V} {ds : List PyData}, DpAll K H xs ds → DpAll K H xs.reverse ds.reverse
  | _, _, .nil => .nil
  | _, _, .cons h t => by
    rw [List.reverse_cons, List.reverse_cons]
    exact dpa_app (dpa_rev t) (.cons h .nil)
theorem dpa_ints {K : PySem.W.Frag} {H : Hp} : ∀ ns : List Int, DpAll K H (ns.map V.int) (ns.map PyData.int)
  | [] => .nil
  | n :: r => .cons (.int n) (dpa_ints r)
theorem ints_dpa {K : PySem.W.Frag} {H : Hp} : ∀ {ns : List Int} {xs : List V}, DpAll K H xs (ns.map PyData.int) → xs = ns.map V.int
  | [], _, .nil => rfl
  | _ :: _, _, .cons h t => by
    cases h
    rw [ints_dpa t]
    rfl
theorem atI_dpa {K : PySem.W.Frag} {H : Hp} {xs : List V} {ds : List PyData} {i : Int} {d : PyData} (h : DpAll K H xs ds) (e : atI ds i = some d) : ∃ v, atI xs i = some v ∧ Dp K H v d := by
  unfold atI at e ⊢
  rw [dpa_len h]
  cases q : ixN ds.length i with
  | none => rw [q] at e; cases e
  | some j =>
    rw [q] at e
    exact dpa_back h e
/-! ### the box of draws -/
def BoxAt (H : Hp) (l : Addr) (c : Int) : Prop := ∃ a b : Int, H l = some (.lst [.int a, .int b, .int c]) ∧ 0 ≤ a ∧ 0 ≤ b ∧ b < 2 ^ 62 ∧ 0 ≤ c ∧ c ≤ 1000000
theorem BoxAt.keep {H H' : Hp} {l : Addr} {c : Int} (h : BoxAt H l c) (e : ∀ o, H l = some o → H' l = some o) : BoxAt H' l c := by
  obtain ⟨a, b, h1, h2⟩ := h
  exact ⟨a, b, e _ h1, h2⟩
theorem BoxAt.ne {H : Hp} {l : Addr} {c : Int} (h : BoxAt H l c) : H l ≠ none := by
  obtain ⟨a, b, h1, _⟩ := h
  rw [h1]
  exact Option.some_ne_none _
/-! ### the state by data -/
inductive DV where
  | d (x : PyData)
  | own (ds : List PyData)
  | dic (kvs : List (Key × PyData))
  | dit (kvs : List (List Key × PyData))
  | dd (kvs : List (List Key × PyData))
  | oth (φ : Hp → Hp → V → Prop)
  | box
def DV.mut : DV → Bool
  | .own _ => true
  | .dic _ => true
  | .dit _ => true
  | _ => false
structure Dt where
  env : List (Option DV)
  c : Int
structure Ct where
  K : PySem.W.Frag
  bx : Option Addr
  H0 : Hp
  G0 : Hp
/-- all but the box as it was -/
def Gr (C : Ct) (H H' : Hp) : Prop := ∀ b o, C.bx ≠ some b → H b = some o → H' b = some o
theorem Gr.refl (C : Ct) (H : Hp) : Gr C H H := fun _ _ _ h => h
theorem Gr.trans {C : Ct} {H H1 H2 : Hp} (a : Gr C H H1) (b : Gr C H1 H2) : Gr C H H2 := fun x o n h => b x o n (a x o n h)
theorem Gr.of {C : Ct} {H H' : Hp} (e : Ex H H') : Gr C H H' := fun b o _ h => e b o h
/-- what is in G' is in G or new over H -/
def Nw (G G' H : Hp) : Prop := ∀ b, G' b ≠ none → G b ≠ none ∨ H b = none
theorem Nw.refl (G H : Hp) : Nw G G H := fun _ h => .inl h
structure Fin (C : Ct) (G H : Hp) (c : Int) : Prop where
  gh : Ex G H
  g0 : Ex C.G0 G
  nw : Nw C.G0 G C.H0
  hh : Gr C C.H0 H
  bx : ∀ l, C.bx = some l → BoxAt H l c ∧ G l = none ∧ C.H0 l ≠ none
/-- a dict that is only read: locked, or older than the call -/
def RdD (C : Ct) (H : Hp) (p : Addr) (ks : List (List Key × V)) : Prop := ((∃ od, H p = some (.frz od (.dT ks))) ∨ (H p = some (.dT ks) ∧ C.H0 p ≠ none)) ∧ C.bx ≠ some p
theorem RdD.gr {C : Ct} {H H' : Hp} {p : Addr} {ks : List (List Key × V)} (h : RdD C H p ks) (e : Gr C H H') : RdD C H' p ks := by
  obtain ⟨(⟨od, h⟩ | ⟨h, h0⟩), n⟩ := h
  · exact ⟨.inl ⟨od, e p _ n h⟩, n⟩
  · exact ⟨.inr ⟨e p _ n h, h0⟩, n⟩
theorem RdD.upd {C : Ct} {H : Hp} {p q : Addr} {ks : List (List Key × V)} {u o : HO} (h : RdD C H p ks) (hq : H q = some u) (h0 : C.H0 q = none) (hn : ∀ od w, u ≠ .frz od w) : RdD C (upd H q o) p ks := by
  have hne : p ≠ q := fun z => by
    subst z
    obtain ⟨(⟨od, h⟩ | ⟨h, h1⟩), n⟩ := h
    · rw [hq] at h
      cases h
      exact hn _ _ rfl
    · exact h1 h0
  unfold RdD
  rw [upd_ne hne]
  exact h
/-- what no def changes: all but lists and dicts -/
def soft : HO → Bool
  | .lst _ => true
  | .dK _ => true
  | .dT _ => true
  | .frz _ _ => true
  | _ => false
def Kept (C : Ct) (H H' : Hp) : Prop := ∀ b o, C.bx ≠ some b → H b = some o → soft o = false → H' b = some o
theorem Kept.refl (C : Ct) (H : Hp) : Kept C H H := fun _ _ _ h _ => h
theorem Kept.trans {C : Ct} {H H1 H2 : Hp} (a : Kept C H H1) (b : Kept C H1 H2) : Kept C H H2 := fun x o n h s => b x o n (a x o n h s) s
theorem Kept.of {C : Ct} {H H' : Hp} (e : Gr C H H') : Kept C H H' := fun b o n h _ => e b o n h
theorem Kept.upd {C : Ct} {H : Hp} {p : Addr} {u o : HO} (h : H p = some u) (s : soft u = true) : Kept C H (upd H p o) := fun b w n hb hs => by
  by_cases z : b = p
  · subst z
    rw [h] at hb
    cases hb
    rw [s] at hs
    cases hs
  · rw [upd_ne z]
    exact hb
/-- anything else that stays -/
structure Oth (C : Ct) (φ : Hp → Hp → V → Prop) (G H : Hp) (v : V) : Prop where
  now : φ G H v
  keep : ∀ G' H', Ex G G' → Kept C H H' → φ G' H' v
theorem Oth.step {C : Ct} {φ : Hp → Hp → V → Prop} {G H G' H' : Hp} {v : V} (h : Oth C φ G H v) (eg : Ex G G') (eh : Kept C H H') : Oth C φ G' H' v := ⟨h.keep G' H' eg eh, fun G2 H2 e k => h.keep G2 H2 (eg.trans e) (eh.trans k)⟩
def RV (C : Ct) (G H : Hp) (v : V) : DV → Prop
  | .oth φ => Oth C φ G H v
  | .d x => Dp C.K G v x
  | .own ds => ∃ p xs, v = .ref p ∧ H p = some (.lst xs) ∧ C.H0 p = none ∧ G p = none ∧ DpAll C.K G xs ds
  | .dic kvs => ∃ p ks, v = .ref p ∧ H p = some (.dK ks) ∧ C.H0 p = none ∧ G p = none ∧ Paired (fun a b => a.1 = b.1 ∧ Dp C.K G a.2 b.2) ks kvs
  | .dit kvs => ∃ p ks, v = .ref p ∧ H p = some (.dT ks) ∧ C.H0 p = none ∧ G p = none ∧ Paired (fun a b => a.1 = b.1 ∧ Dp C.K G a.2 b.2) ks kvs
  | .dd kvs => ∃ p ks, v = .ref p ∧ RdD C H p ks ∧ Paired (fun a b => a.1 = b.1 ∧ Dp C.K G a.2 b.2) ks kvs
  | .box => ∃ l, C.bx = some l ∧ v = .ref l
structure Rel (C : Ct) (G : Hp) (σ : L2.St) (H : Hp) (s : Dt) : Prop where
  fin : Fin C G H s.c
  len : s.env.length = σ.length
  sl : ∀ (i : Nat) x, s.env[i]? = some (some x) → ∃ v, σ[i]? = some (some v) ∧ RV C G H v x
  dis : ∀ (i j : Nat) x y p, i ≠ j → s.env[i]? = some (some x) → s.env[j]? = some (some y) → x.mut = true → y.mut = true → σ[i]? = some (some (.ref p)) → σ[j]? ≠ some (some (.ref p))
theorem paired_mapP {α β : Type} {F G : α → β → Prop} {l₁ : List α} {l₂ : List β} (h : Paired F l₁ l₂) (k : ∀ a b, F a b → G a b) : Paired G l₁ l₂ := Paired.mapP h k
/-- a step: all but the box stays, what was neither data nor a slot's does not become data, no slot becomes the def's own -/
structure Gs (C : Ct) (σ : L2.St) (G H : Hp) (s : Dt) (G' H' : Hp) (s' : Dt) : Prop where
  gr : Gr C H H'
  dom : ∀ b, H b ≠ none → H' b ≠ none
  nk : ∀ b, G b = none → H b ≠ none → (∀ (i : Nat) x, s.env[i]? = some (some x) → x.mut = true → σ[i]? ≠ some (some (.ref b))) → G' b = none
  ks : ∀ (i : Nat) x, s'.env[i]? = some (some x) → x.mut = true → ∃ x', s.env[i]? = some (some x') ∧ x'.mut = true
theorem Gs.refl {C : Ct} {σ : L2.St} {G H : Hp} {s : Dt} : Gs C σ G H s G H s := ⟨Gr.refl C H, fun _ h => h, fun _ h _ _ => h, fun i x h m => ⟨x, h, m⟩⟩
theorem Gs.trans {C : Ct} {σ : L2.St} {G H G1 H1 G2 H2 : Hp} {s s1 s2 : Dt} (a : Gs C σ G H s G1 H1 s1) (b : Gs C σ G1 H1 s1 G2 H2 s2) : Gs C σ G H s G2 H2 s2 :=
  ⟨a.gr.trans b.gr, fun x h => b.dom x (a.dom x h), fun x h1 h2 h3 => b.nk x (a.nk x h1 h2 h3) (a.dom x h2) fun i y e m => by
    obtain ⟨y', e', m'⟩ := a.ks i y e m
    exact h3 i y' e' m', fun i x e m => by
    obtain ⟨y, e', m'⟩ := b.ks i x e m
    exact a.ks i y e' m'⟩
section
variable {C : Ct} {G G' H H' : Hp} {σ : L2.St} {s : Dt} {c c' : Int}
theorem Gs.grow (eh : Ex H H') (nw : Nw G G' H) : Gs C σ G H s G' H' s := ⟨Gr.of eh, fun b h z => h (fresh_back eh z), fun b h1 h2 _ => by
    cases q : G' b with
    | none => rfl
    | some o =>
      rcases nw b (by rw [q]; exact Option.some_ne_none _) with z | z
      · exact absurd h1 z
      · exact absurd z h2, fun i x e m => ⟨x, e, m⟩⟩
theorem Gs.side (eh : Ex H H') : Gs C σ G H s G H' s := .grow eh (Nw.refl G H)
theorem Fin.h0 (h : Fin C G H c) {b : Addr} (e : H b = none) : C.H0 b = none := by
  cases q : C.H0 b with
  | none => rfl
  | some o =>
    by_cases z : C.bx = some b
    · exact absurd e (h.bx b z).1.ne
    · rw [h.hh b o z q] at e
      cases e
theorem Fin.step (h : Fin C G H c) (eg : Ex G G') (eh : Gr C H H') (gh : Ex G' H') (nw : Nw G G' H) (bx : ∀ l, C.bx = some l → BoxAt H' l c') : Fin C G' H' c' := by
  refine ⟨gh, h.g0.trans eg, fun b hb => ?_, h.hh.trans eh, fun l hl => ⟨bx l hl, ?_, (h.bx l hl).2.2⟩⟩
  · rcases nw b hb with q | q
    · exact h.nw b q
    · exact .inr (h.h0 q)
  · cases q : G' l with
    | none => rfl
    | some o =>
      rcases nw l (by rw [q]; exact Option.some_ne_none _) with z | z
      · exact absurd (h.bx l hl).2.1 z
      · exact absurd z (h.bx l hl).1.ne
theorem Fin.nbx (h : Fin C G H c) {p : Addr} (e : C.H0 p = none) : C.bx ≠ some p := fun z => (h.bx p z).2.2 e
theorem RV.step (f : Fin C G H c) (eg : Ex G G') (eh : Gr C H H') (nw : Nw G G' H) {v : V} : ∀ {x : DV}, RV C G H v x → RV C G' H' v x
  | .d x, h => dp_ex eg h
  | .own ds, ⟨p, xs, h1, h2, h3, h4, h5⟩ => by
    refine ⟨p, xs, h1, eh p _ (f.nbx h3) h2, h3, ?_, dpa_ex eg h5⟩
    cases q : G' p with
    | none => rfl
    | some o =>
      rcases nw p (by rw [q]; exact Option.some_ne_none _) with z | z
      · exact absurd h4 z
      · rw [h2] at z; cases z
  | .dic ks, ⟨p, xs, h1, h2, h3, h4, h5⟩ => by
    refine ⟨p, xs, h1, eh p _ (f.nbx h3) h2, h3, ?_, paired_mapP h5 fun a b q => ⟨q.1, dp_ex eg q.2⟩⟩
    cases q : G' p with
    | none => rfl
    | some o =>
      rcases nw p (by rw [q]; exact Option.some_ne_none _) with z | z
      · exact absurd h4 z
      · rw [h2] at z; cases z
  | .dit ks, ⟨p, xs, h1, h2, h3, h4, h5⟩ => by
    refine ⟨p, xs, h1, eh p _ (f.nbx h3) h2, h3, ?_, paired_mapP h5 fun a b q => ⟨q.1, dp_ex eg q.2⟩⟩
    cases q : G' p with
    | none => rfl
    | some o =>
      rcases nw p (by rw [q]; exact Option.some_ne_none _) with z | z
      · exact absurd h4 z
      · rw [h2] at z; cases z
  | .oth φ, h => Oth.step (φ := φ) h eg (Kept.of eh)
  | .dd ks, ⟨p, xs, h1, h2, h5⟩ => ⟨p, xs, h1, h2.gr eh, paired_mapP h5 fun a b q => ⟨q.1, dp_ex eg q.2⟩⟩
  | .box, h => h
theorem Rel.step (h : Rel C G σ H s) (eg : Ex G G') (eh : Gr C H H') (gh : Ex G' H') (nw : Nw G G' H) (bx : ∀ l, C.bx = some l → BoxAt H' l c') : Rel C G' σ H' ⟨s.env, c'⟩ := by
  refine ⟨h.fin.step eg eh gh nw bx, h.len, fun i x e => ?_, h.dis⟩
  obtain ⟨v, hv, r⟩ := h.sl i x e
  exact ⟨v, hv, r.step h.fin eg eh nw⟩
theorem Rel.grow (h : Rel C G σ H s) (eg : Ex G G') (eh : Ex H H') (gh : Ex G' H') (nw : Nw G G' H) : Rel C G' σ H' s :=
  h.step eg (Gr.of eh) gh nw fun l hl => (h.fin.bx l hl).1.keep fun o q => eh l o q
/-- a new object of data -/
theorem Ex.both {p : Addr} {o : HO} (gh : Ex G H) (hp : H p = none) : Ex (upd G p o) (upd H p o) := fun b u e => by
  by_cases z : b = p
  · rw [z, upd_same] at e ⊢
    exact e
  · rw [upd_ne z] at e ⊢
    exact gh b u e
theorem Nw.one {p : Addr} {o : HO} (hp : H p = none) : Nw G (upd G p o) H := fun b hb => by
  by_cases z : b = p
  · exact .inr (by rw [z]; exact hp)
  · rw [upd_ne z] at hb
    exact .inl hb
theorem Nw.trans {G1 G2 H1 : Hp} (a : Nw G G1 H) (b : Nw G1 G2 H1) (e : Ex H H1) : Nw G G2 H := fun x hx => by
  rcases b x hx with q | q
  · exact a x q
  · exact .inr (fresh_back e q)
theorem Rel.new (h : Rel C G σ H s) {p : Addr} {o : HO} (hp : H p = none) : Rel C (upd G p o) σ (upd H p o) s ∧ Ex G (upd G p o) ∧ Gs C σ G H s (upd G p o) (upd H p o) s := by
  have g1 : G p = none := by
    cases q : G p with
    | none => rfl
    | some u => rw [h.fin.gh p u q] at hp; cases hp
  exact ⟨h.grow (Ex.new g1) (Ex.new hp) (Ex.both h.fin.gh hp) (Nw.one hp), Ex.new g1, .grow (Ex.new hp) (Nw.one hp)⟩
theorem Rel.notslot (h : Rel C G σ H s) {p : Addr} (hp : H p = none) (i : Nat) (x : DV) (e : s.env[i]? = some (some x)) (m : x.mut = true) : σ[i]? ≠ some (some (.ref p)) := fun q => by
  obtain ⟨v, hv, r⟩ := h.sl i x e
  rw [hv] at q
  cases q
  cases x with
  | d _ => cases m
  | box => cases m
  | own ds =>
    obtain ⟨p', xs, a1, a2, _⟩ := r
    cases a1
    rw [hp] at a2
    cases a2
  | dic ds =>
    obtain ⟨p', xs, a1, a2, _⟩ := r
    cases a1
    rw [hp] at a2
    cases a2
  | dit ds =>
    obtain ⟨p', xs, a1, a2, _⟩ := r
    cases a1
    rw [hp] at a2
    cases a2
  | dd _ => cases m
  | oth _ => cases m
theorem Rel.gnone (h : Rel C G σ H s) {p : Addr} (hp : H p = none) : G p = none := by
  cases q : G p with
  | none => rfl
  | some u => rw [h.fin.gh p u q] at hp; cases hp
/-- a new object that is not (yet) data -/
theorem Rel.aside (h : Rel C G σ H s) (e : Ex H H') : Rel C G σ H' s := h.grow (Ex.refl G) e (h.fin.gh.trans e) (Nw.refl G H)
end
/-! ### expressions -/
abbrev WE := Dt → (PyData → Dt → Prop) → Prop
abbrev WA := Dt → (List PyData → Dt → Prop) → Prop
abbrev WT := Dt → (Bool → Dt → Prop) → Prop
def IE (C : Ct) (t : TE) (w : WE) : Prop := ∀ G σ H s Q Q', Rel C G σ H s → w s Q →
  (∀ v d s' G' H', Q d s' → Rel C G' σ H' s' → Ex G G' → Gs C σ G H s G' H' s' → Dp C.K G' v d → Q' v H') → t σ H Q'
def IA (C : Ct) (t : TA) (w : WA) : Prop := ∀ G σ H s Q Q', Rel C G σ H s → w s Q →
  (∀ vs ds s' G' H', Q ds s' → Rel C G' σ H' s' → Ex G G' → Gs C σ G H s G' H' s' → DpAll C.K G' vs ds → Q' vs H') → t σ H Q'
def IT (C : Ct) (t : TT) (w : WT) : Prop := ∀ G σ H s Q Q', Rel C G σ H s → w s Q →
  (∀ b s' G' H', Q b s' → Rel C G' σ H' s' → Ex G G' → Gs C σ G H s G' H' s' → Q' b H') → t σ H Q'
/-- a new list of the def's own -/
def IO (C : Ct) (t : TE) (w : WA) : Prop := ∀ G σ H s Q Q', Rel C G σ H s → w s Q →
  (∀ p xs ds s' G' H', Q ds s' → Rel C G' σ H' s' → Ex G G' → Gs C σ G H s G' H' s' → H p = none → H' p = some (.lst xs) → G' p = none → DpAll C.K G' xs ds → (∀ (i : Nat) x, s'.env[i]? = some (some x) → x.mut = true → σ[i]? ≠ some (some (.ref p))) → Q' (.ref p) H') → t σ H Q'
/-- a value that is only looked at: data, or a list of the def's own -/
def Pk (C : Ct) (G H : Hp) (v : V) (d : PyData) : Prop := Dp C.K G v d ∨ ∃ p xs ds, v = .ref p ∧ d = .list ds ∧ H p = some (.lst xs) ∧ C.bx ≠ some p ∧ DpAll C.K G xs ds
def IP (C : Ct) (t : TE) (w : WE) : Prop := ∀ G σ H s Q Q', Rel C G σ H s → w s Q →
  (∀ v d s' G' H', Q d s' → Rel C G' σ H' s' → Ex G G' → Gs C σ G H s G' H' s' → Pk C G' H' v d → Q' v H') → t σ H Q'
section
variable {C : Ct} {G G' H H' : Hp} {v : V} {d : PyData}
theorem Pk.mono (h : Pk C G H v d) (eg : Ex G G') (eh : Gr C H H') : Pk C G' H' v d := by
  rcases h with h | ⟨p, xs, ds, h1, h2, h3, h4, h5⟩
  · exact .inl (dp_ex eg h)
  · exact .inr ⟨p, xs, ds, h1, h2, eh p _ h4 h3, h4, dpa_ex eg h5⟩
theorem Pk.dp (h : Pk C G H v d) (e : Ex G H) : Dp C.K H v d := by
  rcases h with h | ⟨p, xs, ds, rfl, rfl, h3, h4, h5⟩
  · exact dp_ex e h
  · exact .lst (.inl (.inl h3)) (dpa_ex e h5)
def isT : PyData → Bool
  | .tuple _ => true
  | _ => false
def its : PyData → List PyData
  | .tuple ds => ds
  | .list ds => ds
  | _ => []
def seqd : PyData → Bool
  | .tuple _ => true
  | .list _ => true
  | _ => false
theorem Pk.seq (h : Pk C G H v d) (e : Ex G H) (hs : seqd d = true) : ∃ p xs, v = .ref p ∧ SqB C.K (isT d) H p xs ∧ DpAll C.K G xs (its d) := by
  rcases h with h | ⟨p, xs, ds, rfl, rfl, h3, h4, h5⟩
  · cases h with
    | lst h t => exact ⟨_, _, rfl, Evl.ex_l e h, t⟩
    | tup h t => exact ⟨_, _, rfl, Evl.ex_t e h, t⟩
    | _ => cases hs
  · exact ⟨p, xs, rfl, .inl (.inl h3), h5⟩
end
section
variable {C : Ct} {t ta tb tc : TE} {w wa wb : WE} {tA : TA} {wA : WA}
theorem ip_of (h : IE C t w) : IP C t w := fun G σ H s Q Q' r q k => h G σ H s Q Q' r q fun v d s' G' H' q' r' eg eh p => k v d s' G' H' q' r' eg eh (.inl p)
/-- a list of the def's own becomes data -/
def wPubO (w : WA) : WE := fun s Q => w s fun ds s' => Q (.list ds) s'
theorem ie_own {w : WA} (h : IO C t w) : IE C t (wPubO w) := fun G σ H s Q Q' r q k => h G σ H s _ Q' r q fun p xs ds s' G' H' q' r' eg eh hp h1 h2 h3 h4 => by
  have eh' : Ex (upd G' p (.lst xs)) H' := fun b u e => by
    by_cases z : b = p
    · rw [z, upd_same] at e
      rw [z, h1]
      exact e
    · rw [upd_ne z] at e
      exact r'.fin.gh b u e
  have eg' : Ex G' (upd G' p (.lst xs)) := Ex.new h2
  have nw : ∀ b, (upd G' p (.lst xs)) b ≠ none → G' b ≠ none ∨ b = p := fun b hb => by
    by_cases z : b = p
    · exact .inr z
    · rw [upd_ne z] at hb
      exact .inl hb
  have h0 : C.H0 p = none := r.fin.h0 hp
  refine k (.ref p) _ s' (upd G' p (.lst xs)) H' q' ⟨⟨eh', r'.fin.g0.trans eg', fun b hb => ?_, r'.fin.hh, fun l hl => ⟨(r'.fin.bx l hl).1, ?_, (r'.fin.bx l hl).2.2⟩⟩, r'.len, fun i x e => ?_, r'.dis⟩ (eg.trans eg') ⟨eh.gr, eh.dom, fun b h1 h2 h3 => by rw [upd_ne (fun z => h2 (by rw [z]; exact hp))]; exact eh.nk b h1 h2 h3, eh.ks⟩ (.lst (.inl (.inl upd_same)) (dpa_ex eg' h3))
  · rcases nw b hb with z | z
    · exact r'.fin.nw b z
    · exact .inr (by rw [z]; exact h0)
  · rw [upd_ne (fun z => (r.fin.nbx h0) (by rw [← z]; exact hl))]
    exact (r'.fin.bx l hl).2.1
  · obtain ⟨v, hv, rv⟩ := r'.sl i x e
    refine ⟨v, hv, ?_⟩
    cases x with
    | d x => exact dp_ex eg' rv
    | box => exact rv
    | own ds' =>
      obtain ⟨p', xs', a1, a2, a3, a4, a5⟩ := rv
      refine ⟨p', xs', a1, a2, a3, ?_, dpa_ex eg' a5⟩
      rw [upd_ne fun z => h4 i _ e rfl (by rw [hv, a1, z])]
      exact a4
    | dic ks =>
      obtain ⟨p', xs', a1, a2, a3, a4, a5⟩ := rv
      refine ⟨p', xs', a1, a2, a3, ?_, paired_mapP a5 fun a b q => ⟨q.1, dp_ex eg' q.2⟩⟩
      rw [upd_ne fun z => h4 i _ e rfl (by rw [hv, a1, z])]
      exact a4
    | dit ks =>
      obtain ⟨p', xs', a1, a2, a3, a4, a5⟩ := rv
      refine ⟨p', xs', a1, a2, a3, ?_, paired_mapP a5 fun a b q => ⟨q.1, dp_ex eg' q.2⟩⟩
      rw [upd_ne fun z => h4 i _ e rfl (by rw [hv, a1, z])]
      exact a4
    | oth φ => exact Oth.step (φ := φ) rv eg' (Kept.refl C H')
    | dd ks =>
      obtain ⟨p', xs', a1, a2, a5⟩ := rv
      exact ⟨p', xs', a1, a2, paired_mapP a5 fun a b q => ⟨q.1, dp_ex eg' q.2⟩⟩
/-! constants, names -/
def wC (d : PyData) : WE := fun s Q => Q d s
theorem ie_c {v : V} {d : PyData} (h : ∀ G, Dp C.K G v d) : IE C (tC v) (wC d) := fun G σ H s Q Q' r q k => k v d s G H q r (Ex.refl G) Gs.refl (h G)
def wV (i : Nat) : WE := fun s Q => ∃ d, s.env[i]? = some (some (.d d)) ∧ Q d s
theorem ie_v {i : Nat} : IE C (tVar i) (wV i) := fun G σ H s Q Q' r q k => by
  obtain ⟨d, e, q⟩ := q
  obtain ⟨v, hv, rv⟩ := r.sl i _ e
  exact ⟨v, hv, k v d s G H q r (Ex.refl G) Gs.refl rv⟩
/-- a list of the def's own, from now on data -/
def wPub (i : Nat) : WE := fun s Q => ∃ ds, s.env[i]? = some (some (.own ds)) ∧ Q (.list ds) ⟨s.env.set i (some (.d (.list ds))), s.c⟩
theorem ie_pub {i : Nat} : IE C (tVar i) (wPub i) := fun G σ H s Q Q' r q k => by
  obtain ⟨ds, e, q⟩ := q
  obtain ⟨v, hv, p, xs, rfl, h1, h2, h3, h4⟩ := r.sl i _ e
  have eg : Ex G (upd G p (.lst xs)) := Ex.new h3
  have gh : Ex (upd G p (.lst xs)) H := fun b u e => by
    by_cases z : b = p
    · rw [z, upd_same] at e
      rw [z, h1]
      exact e
    · rw [upd_ne z] at e
      exact r.fin.gh b u e
  have hi : i < s.env.length := (List.getElem?_eq_some_iff.mp e).1
  have old : ∀ (j : Nat) x, (s.env.set i (some (.d (.list ds))))[j]? = some (some x) → (j = i ∧ x = .d (.list ds)) ∨ (j ≠ i ∧ s.env[j]? = some (some x)) := fun j x ej => by
    by_cases z : j = i
    · subst z
      rw [List.getElem?_set_self hi] at ej
      cases ej
      exact .inl ⟨rfl, rfl⟩
    · rw [List.getElem?_set_ne (Ne.symm z)] at ej
      exact .inr ⟨z, ej⟩
  refine ⟨.ref p, hv, k _ _ _ (upd G p (.lst xs)) H q ⟨⟨gh, r.fin.g0.trans eg, fun b hb => ?_, r.fin.hh, fun l hl => ⟨(r.fin.bx l hl).1, ?_, (r.fin.bx l hl).2.2⟩⟩, ?_, fun j x ej => ?_, fun j1 j2 x y p' hne e1 e2 m1 m2 => ?_⟩ eg ⟨Gr.refl C H, fun _ h => h, fun b h1 h2 h3 => by rw [upd_ne (fun z => h3 i _ e rfl (by rw [z]; exact hv))]; exact h1, fun j x ej m => by
      rcases old j x ej with ⟨_, rfl⟩ | ⟨_, ej⟩
      · cases m
      · exact ⟨x, ej, m⟩⟩ (.lst (.inl (.inl upd_same)) (dpa_ex eg h4))⟩
  · by_cases z : b = p
    · exact .inr (by rw [z]; exact h2)
    · rw [upd_ne z] at hb
      exact r.fin.nw b hb
  · rw [upd_ne (fun z => (r.fin.nbx h2) (by rw [← z]; exact hl))]
    exact (r.fin.bx l hl).2.1
  · rw [List.length_set]
    exact r.len
  · rcases old j x ej with ⟨rfl, rfl⟩ | ⟨z, ej⟩
    · exact ⟨_, hv, .lst (.inl (.inl upd_same)) (dpa_ex eg h4)⟩
    · obtain ⟨v', hv', rv⟩ := r.sl j x ej
      refine ⟨v', hv', ?_⟩
      cases x with
      | d x => exact dp_ex eg rv
      | box => exact rv
      | own ds' =>
        obtain ⟨p', xs', a1, a2, a3, a4, a5⟩ := rv
        refine ⟨p', xs', a1, a2, a3, ?_, dpa_ex eg a5⟩
        rw [upd_ne fun z' => r.dis i j _ _ p (Ne.symm z) e ej rfl rfl hv (by rw [hv', a1, z'])]
        exact a4
      | dic ks =>
        obtain ⟨p', xs', a1, a2, a3, a4, a5⟩ := rv
        refine ⟨p', xs', a1, a2, a3, ?_, paired_mapP a5 fun a b q => ⟨q.1, dp_ex eg q.2⟩⟩
        rw [upd_ne fun z' => r.dis i j _ _ p (Ne.symm z) e ej rfl rfl hv (by rw [hv', a1, z'])]
        exact a4
      | dit ks =>
        obtain ⟨p', xs', a1, a2, a3, a4, a5⟩ := rv
        refine ⟨p', xs', a1, a2, a3, ?_, paired_mapP a5 fun a b q => ⟨q.1, dp_ex eg q.2⟩⟩
        rw [upd_ne fun z' => r.dis i j _ _ p (Ne.symm z) e ej rfl rfl hv (by rw [hv', a1, z'])]
        exact a4
      | oth φ => exact Oth.step (φ := φ) rv eg (Kept.refl C H)
      | dd ks =>
        obtain ⟨p', xs', a1, a2, a5⟩ := rv
        exact ⟨p', xs', a1, a2, paired_mapP a5 fun a b q => ⟨q.1, dp_ex eg q.2⟩⟩
  · rcases old j1 x e1 with ⟨rfl, rfl⟩ | ⟨z1, e1⟩
    · cases m1
    · rcases old j2 y e2 with ⟨rfl, rfl⟩ | ⟨z2, e2⟩
      · cases m2
      · exact r.dis j1 j2 x y p' hne e1 e2 m1 m2
def DV.look : DV → Option PyData
  | .d x => some x
  | .own ds => some (.list ds)
  | _ => none
/-- a name that is only looked at -/
def wP (i : Nat) : WE := fun s Q => ∃ x d, s.env[i]? = some (some x) ∧ x.look = some d ∧ Q d s
theorem ip_v {i : Nat} : IP C (tVar i) (wP i) := fun G σ H s Q Q' r q k => by
  obtain ⟨x, d, e, hl, q⟩ := q
  obtain ⟨v, hv, rv⟩ := r.sl i _ e
  refine ⟨v, hv, k v d s G H q r (Ex.refl G) Gs.refl ?_⟩
  cases x with
  | d x => cases hl; exact .inl rv
  | own ds =>
    cases hl
    obtain ⟨p, xs, a1, a2, a3, a4, a5⟩ := rv
    exact .inr ⟨p, xs, ds, a1, rfl, a2, r.fin.nbx a3, a5⟩
  | dic _ => cases hl
  | dit _ => cases hl
  | dd _ => cases hl
  | oth _ => cases hl
  | box => cases hl
/-! arguments -/
theorem ia_nil : IA C tNil (fun s Q => Q [] s) := fun G σ H s Q Q' r q k => k [] [] s G H q r (Ex.refl G) Gs.refl .nil
def wCons (w : WE) (wr : WA) : WA := fun s Q => w s fun d s1 => wr s1 fun ds s2 => Q (d :: ds) s2
theorem ia_cons {tr : TA} {wr : WA} (h : IE C t w) (hr : IA C tr wr) : IA C (tCons t tr) (wCons w wr) := fun G σ H s Q Q' r q k =>
  h G σ H s _ _ r q fun v d s1 G1 H1 q1 r1 eg1 eh1 p1 => hr G1 σ H1 s1 _ _ r1 q1 fun vs ds s2 G2 H2 q2 r2 eg2 eh2 p2 =>
    k (v :: vs) (d :: ds) s2 G2 H2 q2 r2 (eg1.trans eg2) (eh1.trans eh2) (.cons (dp_ex eg2 p1) p2)
/-! displays -/
def wTup (w : WA) : WE := fun s Q => w s fun ds s1 => ds.length ≤ 100000 ∧ Q (.tuple ds) s1
theorem ie_tup (h : IA C tA wA) : IE C (tTup tA) (wTup wA) := fun G σ H s Q Q' r q k =>
  h G σ H s _ _ r q fun vs ds s1 G1 H1 q1 r1 eg1 eh1 p1 => ⟨by rw [dpa_len p1]; exact sz_of q1.1, fun p hp => by
    obtain ⟨r2, eg2, eh2⟩ := r1.new (o := .tup vs) hp
    exact k (.ref p) _ s1 _ _ q1.2 r2 (eg1.trans eg2) (eh1.trans eh2) (.tup (.inl (.inl upd_same)) (dpa_ex eg2 p1))⟩
def wLst (w : WA) : WA := fun s Q => w s fun ds s1 => ds.length ≤ 100000 ∧ Q ds s1
/-- a new list, made at the end -/
theorem own_new {G σ H s G1 H1 s1} {Q : List PyData → Dt → Prop} {Q' : VK} {vs : List V} {ds : List PyData} (r : Rel C G σ H s) (q1 : Q ds s1) (r1 : Rel C G1 σ H1 s1) (eg1 : Ex G G1) (eh1 : Gs C σ G H s G1 H1 s1) (p1 : DpAll C.K G1 vs ds) {p : Addr} (hp : H1 p = none)
    (k : ∀ p xs ds s' G' H', Q ds s' → Rel C G' σ H' s' → Ex G G' → Gs C σ G H s G' H' s' → H p = none → H' p = some (.lst xs) → G' p = none → DpAll C.K G' xs ds → (∀ (i : Nat) x, s'.env[i]? = some (some x) → x.mut = true → σ[i]? ≠ some (some (.ref p))) → Q' (.ref p) H') : Q' (.ref p) (upd H1 p (.lst vs)) := by
  refine k p vs ds s1 G1 _ q1 (r1.aside (Ex.new hp)) eg1 (eh1.trans (.side (Ex.new hp))) ?_ upd_same (r1.gnone hp) p1 (r1.notslot hp)
  cases q : H p with
  | none => rfl
  | some o =>
    by_cases z : C.bx = some p
    · exact absurd hp (r1.fin.bx p z).1.ne
    · rw [eh1.gr p o z q] at hp
      cases hp
theorem io_lst (h : IA C tA wA) : IO C (tLst tA) (wLst wA) := fun G σ H s Q Q' r q k =>
  h G σ H s _ _ r q fun vs ds s1 G1 H1 q1 r1 eg1 eh1 p1 => ⟨by rw [dpa_len p1]; exact sz_of q1.1, fun p hp => own_new r q1.2 r1 eg1 eh1 p1 hp k⟩
/-! operators on ints -/
def wI (C : Int → Int → Prop) (g : Int → Int → PyData) (wa wb : WE) : WE := fun s Q => wa s fun x s1 => wb s1 fun y s2 => ∃ i j, x = .int i ∧ y = .int j ∧ C i j ∧ Q (g i j) s2
theorem dp_int {K : PySem.W.Frag} {H : Hp} {v : V} {i : Int} (h : Dp K H v (.int i)) : v = .int i := by cases h; rfl
theorem dp_bl {K : PySem.W.Frag} {H : Hp} {v : V} {i : Bool} (h : Dp K H v (.bool i)) : v = .bl i := by cases h; rfl
theorem dp_str {K : PySem.W.Frag} {H : Hp} {v : V} {i : Str} (h : Dp K H v (.str i)) : v = .str i := by cases h; rfl
theorem ie_opI {P : Int → Int → Prop} {g : Int → Int → V} {gd : Int → Int → PyData} (hg : ∀ G i j, Dp C.K G (g i j) (gd i j)) (ha : IE C ta wa) (hb : IE C tb wb) : IE C (tOp (rI P g) ta tb) (wI P gd wa wb) := fun G σ H s Q Q' r q k =>
  ha G σ H s _ _ r q fun v d s1 G1 H1 q1 r1 eg1 eh1 p1 => hb G1 σ H1 s1 _ _ r1 q1 fun v2 d2 s2 G2 H2 q2 r2 eg2 eh2 p2 => by
    obtain ⟨i, j, rfl, rfl, hc, q3⟩ := q2
    exact ⟨i, j, dp_int p1, dp_int p2, hc, k _ _ s2 G2 H2 q3 r2 (eg1.trans eg2) (eh1.trans eh2) (hg _ _ _)⟩
def wI0 (g : Int → Int → PyData) (wa wb : WE) : WE := fun s Q => wa s fun x s1 => wb s1 fun y s2 => ∃ i j, x = .int i ∧ y = .int j ∧ Q (g i j) s2
theorem ie_opI0 {g : Int → Int → V} {gd : Int → Int → PyData} (hg : ∀ G i j, Dp C.K G (g i j) (gd i j)) (ha : IE C ta wa) (hb : IE C tb wb) : IE C (tOp (rI0 g) ta tb) (wI0 gd wa wb) := fun G σ H s Q Q' r q k =>
  ha G σ H s _ _ r q fun v d s1 G1 H1 q1 r1 eg1 eh1 p1 => hb G1 σ H1 s1 _ _ r1 q1 fun v2 d2 s2 G2 H2 q2 r2 eg2 eh2 p2 => by
    obtain ⟨i, j, rfl, rfl, q3⟩ := q2
    exact ⟨i, j, dp_int p1, dp_int p2, k _ _ s2 G2 H2 q3 r2 (eg1.trans eg2) (eh1.trans eh2) (hg _ _ _)⟩
/-! a reading of two values looked at, in general -/
theorem ie_op2 {r2 : R2} {g : PyData → PyData → Dt → (PyData → Dt → Prop) → Prop} (hg : ∀ G σ H s x y d e Q Q', Rel C G σ H s → Pk C G H x d → Pk C G H y e → g d e s Q →
      (∀ v z s' G' H', Q z s' → Rel C G' σ H' s' → Ex G G' → Gs C σ G H s G' H' s' → Dp C.K G' v z → Q' v H') → r2 x y H Q') (ha : IP C ta wa) (hb : IP C tb wb) :
    IE C (tOp r2 ta tb) (fun s Q => wa s fun d s1 => wb s1 fun e s2 => g d e s2 Q) := fun G σ H s Q Q' r q k =>
  ha G σ H s _ _ r q fun v d s1 G1 H1 q1 r1 eg1 eh1 p1 => hb G1 σ H1 s1 _ _ r1 q1 fun v2 d2 s2 G2 H2 q2 rr eg2 eh2 p2 =>
    hg G2 σ H2 s2 v v2 d d2 Q Q' rr (p1.mono eg2 eh2.gr) p2 q2 fun v z s' G' H' q r' eg eh p => k v z s' G' H' q r' ((eg1.trans eg2).trans eg) ((eh1.trans eh2).trans eh) p
theorem io_op2 {r2 : R2} {g : PyData → PyData → Dt → (List PyData → Dt → Prop) → Prop} (hg : ∀ G σ H s x y d e Q Q', Rel C G σ H s → Pk C G H x d → Pk C G H y e → g d e s Q →
      (∀ vs ds p, Q ds s → DpAll C.K G vs ds → H p = none → Q' (.ref p) (upd H p (.lst vs))) → r2 x y H Q') (ha : IP C ta wa) (hb : IP C tb wb) :
    IO C (tOp r2 ta tb) (fun s Q => wa s fun d s1 => wb s1 fun e s2 => g d e s2 Q) := fun G σ H s Q Q' r q k =>
  ha G σ H s _ _ r q fun v d s1 G1 H1 q1 r1 eg1 eh1 p1 => hb G1 σ H1 s1 _ _ r1 q1 fun v2 d2 s2 G2 H2 q2 rr eg2 eh2 p2 =>
    hg G2 σ H2 s2 v v2 d d2 Q Q' rr (p1.mono eg2 eh2.gr) p2 q2 fun vs ds p q hd hp => own_new r q rr (eg1.trans eg2) (eh1.trans eh2) hd hp k
end
end Dw

namespace Dw
open PySem PySem.Spec PyProof.Rows L2 OgR Evl
/-! ### a piece of syntax, its reading, and its reading by data -/
structure DE (X : Cx) (C : Ct) (e : Expr) (t : TE) (w : WE) : Prop where
  pe : PE X e t
  ie : IE C t w
structure DP (X : Cx) (C : Ct) (e : Expr) (t : TE) (w : WE) : Prop where
  pe : PE X e t
  ip : IP C t w
structure DO (X : Cx) (C : Ct) (e : Expr) (t : TE) (w : WA) : Prop where
  pe : PE X e t
  io : IO C t w
structure DA (X : Cx) (C : Ct) (es : List Expr) (t : TA) (w : WA) : Prop where
  pa : PA X es t
  ia : IA C t w
structure DT (X : Cx) (C : Ct) (e : Expr) (t : TT) (w : WT) : Prop where
  pt : PT X e t
  it : IT C t w
structure DW (X : Cx) (C : Ct) (e : Expr) (t : TT) (w : WT) : Prop where
  pw : PW X e t
  it : IT C t w
/-- a list looked at whose place is known: fresh, or of the def's own -/
def IL (C : Ct) (t : TE) (w : WA) : Prop := ∀ G σ H s Q Q', Rel C G σ H s → w s Q →
  (∀ p xs ds s' G' H', Q ds s' → Rel C G' σ H' s' → Ex G G' → Gs C σ G H s G' H' s' → H' p = some (.lst xs) → C.bx ≠ some p → DpAll C.K G' xs ds → Q' (.ref p) H') → t σ H Q'
structure DL (X : Cx) (C : Ct) (e : Expr) (t : TE) (w : WA) : Prop where
  pe : PE X e t
  il : IL C t w
section
variable {X : Cx} {C : Ct} {a b e : Expr} {es : List Expr} {pos : Pos} {t ta tb tc : TE} {w wa wb wc : WE} {tA : TA} {wA : WA}
theorem DE.p (h : DE X C e t w) : DP X C e t w := ⟨h.pe, ip_of h.ie⟩
theorem DO.d {w : WA} (h : DO X C e t w) : DE X C e t (wPubO w) := ⟨h.pe, ie_own h.io⟩
theorem DO.l {w : WA} (h : DO X C e t w) : DL X C e t w := ⟨h.pe, fun G σ H s Q Q' r q k => h.io G σ H s Q Q' r q fun p xs ds s' G' H' q' r' eg eh hp h1 h2 h3 h4 =>
  k p xs ds s' G' H' q' r' eg eh h1 (r'.fin.nbx (r.fin.h0 hp)) h3⟩
theorem DW.q {t : TT} {w : WT} (h : DW X C e t w) : DT X C e t w := ⟨h.pw.pt, h.it⟩
theorem de_int {i : Int} {j} : DE X C (.Constant (.int i) j pos) (tC (.int i)) (wC (.int i)) := ⟨pe_int, ie_c fun _ => .int i⟩
theorem de_str {i : Str} {j} : DE X C (.Constant (.str i) j pos) (tC (.str i)) (wC (.str i)) := ⟨pe_str, ie_c fun _ => .str i⟩
theorem de_bl {i : Bool} {j} : DE X C (.Constant (.bool i) j pos) (tC (.bl i)) (wC (.bool i)) := ⟨pe_bl, ie_c fun _ => .bl i⟩
theorem de_non {j} : DE X C (.Constant .none j pos) (tC .non) (wC .none) := ⟨pe_non, ie_c fun _ => .non⟩
theorem de_v (i : Nat) {x : Str} (hN : X.N[i]? = some x := by rfl) (hv : Vis X.env.scope x := by first | exact Or.inl rfl | exact Or.inr (Or.inl rfl) | exact Or.inr (Or.inr rfl)) (hd : (x == ("__debug__" : Str)) = false := by decide)
    (hcd : (x == ("__classdict__" : Str)) = false := by decide) : DE X C (.Name x pos) (tVar i) (wV i) := ⟨pe_var hN hv hd hcd, ie_v⟩
theorem de_pub (i : Nat) {x : Str} (hN : X.N[i]? = some x := by rfl) (hv : Vis X.env.scope x := by first | exact Or.inl rfl | exact Or.inr (Or.inl rfl) | exact Or.inr (Or.inr rfl)) (hd : (x == ("__debug__" : Str)) = false := by decide)
    (hcd : (x == ("__classdict__" : Str)) = false := by decide) : DE X C (.Name x pos) (tVar i) (wPub i) := ⟨pe_var hN hv hd hcd, ie_pub⟩
theorem dp_v (i : Nat) {x : Str} (hN : X.N[i]? = some x := by rfl) (hv : Vis X.env.scope x := by first | exact Or.inl rfl | exact Or.inr (Or.inl rfl) | exact Or.inr (Or.inr rfl)) (hd : (x == ("__debug__" : Str)) = false := by decide)
    (hcd : (x == ("__classdict__" : Str)) = false := by decide) : DP X C (.Name x pos) (tVar i) (wP i) := ⟨pe_var hN hv hd hcd, ip_v⟩
def wL (i : Nat) : WA := fun s Q => ∃ ds, s.env[i]? = some (some (.own ds)) ∧ Q ds s
theorem dl_v (i : Nat) {x : Str} (hN : X.N[i]? = some x := by rfl) (hv : Vis X.env.scope x := by first | exact Or.inl rfl | exact Or.inr (Or.inl rfl) | exact Or.inr (Or.inr rfl)) (hd : (x == ("__debug__" : Str)) = false := by decide)
    (hcd : (x == ("__classdict__" : Str)) = false := by decide) : DL X C (.Name x pos) (tVar i) (wL i) := ⟨pe_var hN hv hd hcd, fun G σ H s Q Q' r q k => by
  obtain ⟨ds, e, q⟩ := q
  obtain ⟨v, hv, p, xs, rfl, h1, h2, h3, h4⟩ := r.sl i _ e
  exact ⟨_, hv, k p xs ds s G H q r (Ex.refl G) Gs.refl h1 (r.fin.nbx h2) h4⟩⟩
/-- a constant of the module -/
theorem de_g {x : Str} {v : V} {u : Value} {d : PyData} (hg : Gl X x) (hm : X.mg x = some u) (rv : RelV v u) (hd : ∀ G, Dp C.K G v d) (hx : (x == ("__debug__" : Str)) = false := by decide) : DE X C (.Name x pos) (tC v) (wC d) := ⟨pe_glob hg hm rv hx, ie_c hd⟩
theorem da_nil : DA X C [] tNil (fun s Q => Q [] s) := ⟨pa_nil, ia_nil⟩
theorem da_cons {tr : TA} {wr : WA} (h : DE X C e t w) (hr : DA X C es tr wr) (hs : starEach (e :: es) X.env = (false, eval e X.env) :: starEach es X.env := by rfl) : DA X C (e :: es) (tCons t tr) (wCons w wr) := ⟨pa_cons h.pe hr.pa hs, ia_cons h.ie hr.ia⟩
theorem de_tup {k} (h : DA X C es tA wA) : DE X C (.Tuple es k pos) (tTup tA) (wTup wA) := ⟨pe_tup h.pa, ie_tup h.ia⟩
theorem do_lst (h : DA X C es tA wA) : DO X C (.List es pos) (tLst tA) (wLst wA) := ⟨pe_lst h.pa, io_lst h.ia⟩
/-! ### two-place operations -/
abbrev G2 := PyData → PyData → Dt → (PyData → Dt → Prop) → Prop
structure R2D (C : Ct) (r : R2) (g : G2) : Prop where
  run : ∀ G σ H s x y d e Q Q', Rel C G σ H s → Pk C G H x d → Pk C G H y e → g d e s Q → (∀ v z s' G' H', Q z s' → Rel C G' σ H' s' → Ex G G' → Gs C σ G H s G' H' s' → Dp C.K G' v z → Q' v H') → r x y H Q'
structure OpD (X : Cx) (C : Ct) (f : Value → Value → Sem Value) (r : R2) (g : G2) : Prop where
  op : OpR X f r
  rd : R2D C r g
def w2 (g : G2) (wa wb : WE) : WE := fun s Q => wa s fun d s1 => wb s1 fun e s2 => g d e s2 Q
theorem de_bin {op : Operator} {r : R2} {g : G2} (o : OpD X C (binaryOp op) r g) (ha : DP X C a ta wa) (hb : DP X C b tb wb) : DE X C (.BinOp a op b pos) (tOp r ta tb) (w2 g wa wb) := ⟨pe_op o.op ha.pe hb.pe, ie_op2 o.rd.run ha.ip hb.ip⟩
theorem de_cmp {op : CmpOp} {r : R2} {g : G2} (o : OpD X C (compareOp op) r g) (ha : DP X C a ta wa) (hb : DP X C b tb wb) (hm : behindInMarks op b = false := by first | exact nomark _ | rfl) : DE X C (.Compare a [op] [b] pos) (tOp r ta tb) (w2 g wa wb) := ⟨pe_cmpR o.op ha.pe hb.pe hm, ie_op2 o.rd.run ha.ip hb.ip⟩
/-- a value as a test -/
def wTest (w : WE) : WT := fun s Q => w s fun d s1 => ∃ k, d = .bool k ∧ Q k s1
theorem it_test (h : IE C t w) : IT C (tTest t) (wTest w) := fun G σ H s Q Q' r q k => h G σ H s _ _ r q fun v d s1 G1 H1 q1 r1 eg eh p => by
  obtain ⟨b, rfl, q2⟩ := q1
  exact ⟨b, dp_bl p, k b s1 G1 H1 q2 r1 eg eh⟩
theorem it_B (h : IE C t w) : IT C (tB t) (wTest w) := it_test h
theorem dt_cmp {op : CmpOp} {r : R2} {g : G2} (o : OpD X C (compareOp op) r g) (ha : DP X C a ta wa) (hb : DP X C b tb wb) (hm : behindInMarks op b = false := by first | exact nomark _ | rfl) : DT X C (.Compare a [op] [b] pos) (tTest (tOp r ta tb)) (wTest (w2 g wa wb)) :=
  ⟨pt_cmpR o.op ha.pe hb.pe hm, it_test (ie_op2 o.rd.run ha.ip hb.ip)⟩
theorem dt_val (h : DE X C e t w) (he : ∀ whole, isTrue e X.env whole = (do let v ← whole; standAt e.pos; holding [v] (truthy v)) := by intro _; rfl) : DT X C e (tB t) (wTest w) := ⟨pt_val h.pe he, it_B h.ie⟩
/-- a op b op' c -/
def wChain (g g' : G2) (wa wb wc : WE) : WE := fun s Q => wa s fun d s1 => wb s1 fun e s2 => g d e s2 fun z s3 => ∃ k, z = .bool k ∧ if k = true then wc s3 fun f s4 => g' e f s4 Q else Q (.bool false) s3
theorem ie_chain {r r' : R2} {g g' : G2} (hr : R2D C r g) (hr' : R2D C r' g') (ha : IP C ta wa) (hb : IP C tb wb) (hc : IP C tc wc) : IE C (tChain r r' ta tb tc) (wChain g g' wa wb wc) := fun G σ H s Q Q' r q k =>
  ha G σ H s _ _ r q fun v d s1 G1 H1 q1 r1 eg1 eh1 p1 => hb G1 σ H1 s1 _ _ r1 q1 fun v2 d2 s2 G2 H2 q2 rr eg2 eh2 p2 =>
    hr.run G2 σ H2 s2 v v2 d d2 _ _ rr (p1.mono eg2 eh2.gr) p2 q2 fun v3 z s3 G3 H3 q3 r3 eg3 eh3 p3 => by
      obtain ⟨kk, rfl, q3⟩ := q3
      refine ⟨kk, dp_bl p3, ?_⟩
      cases kk with
      | false =>
        refine iteF ?_
        rw [if_neg (by decide)] at q3
        exact k _ _ s3 G3 H3 q3 r3 ((eg1.trans eg2).trans eg3) ((eh1.trans eh2).trans eh3) (.bl _)
      | true =>
        refine iteT ?_
        rw [if_pos rfl] at q3
        exact hc G3 σ H3 s3 _ _ r3 q3 fun v4 f s4 G4 H4 q4 r4 eg4 eh4 p4 => hr'.run G4 σ H4 s4 v2 v4 d2 f _ _ r4 ((p2.mono eg3 eh3.gr).mono eg4 eh4.gr) p4 q4 fun v5 z s5 G5 H5 q5 r5 eg5 eh5 p5 =>
          k v5 z s5 G5 H5 q5 r5 ((((eg1.trans eg2).trans eg3).trans eg4).trans eg5) ((((eh1.trans eh2).trans eh3).trans eh4).trans eh5) p5
theorem de_chain {c : Expr} {op op' : CmpOp} {r r' : R2} {g g' : G2} (o : OpD X C (compareOp op) r g) (o' : OpD X C (compareOp op') r' g') (ha : DP X C a ta wa) (hb : DP X C b tb wb) (hc : DP X C c tc wc) (hm : lastMarks [op, op'] [b, c] = false := by with_unfolding_all rfl) :
    DE X C (.Compare a [op, op'] [b, c] pos) (tChain r r' ta tb tc) (wChain g g' wa wb wc) := ⟨pe_chain o.op o'.op ha.pe hb.pe hc.pe hm, ie_chain o.rd o'.rd ha.ip hb.ip hc.ip⟩
theorem dt_chain {c : Expr} {op op' : CmpOp} {r r' : R2} {g g' : G2} (o : OpD X C (compareOp op) r g) (o' : OpD X C (compareOp op') r' g') (ha : DP X C a ta wa) (hb : DP X C b tb wb) (hc : DP X C c tc wc) (hm : lastMarks [op, op'] [b, c] = false := by with_unfolding_all rfl) :
    DT X C (.Compare a [op, op'] [b, c] pos) (tTest (tChain r r' ta tb tc)) (wTest (wChain g g' wa wb wc)) := ⟨pt_chain o.op o'.op ha.pe hb.pe hc.pe hm, it_test (ie_chain o.rd o'.rd ha.ip hb.ip hc.ip)⟩
/-! and, or, not, if -/
def wAnd (u v : WT) : WT := fun s Q => u s fun b s1 => if b = true then v s1 Q else Q false s1
def wOr (u v : WT) : WT := fun s Q => u s fun b s1 => if b = true then Q true s1 else v s1 Q
def wNot (u : WT) : WT := fun s Q => u s fun b s1 => Q (!b) s1
theorem it_and {t u : TT} {w v : WT} (h : IT C t w) (h2 : IT C u v) : IT C (tAnd t u) (wAnd w v) := fun G σ H s Q Q' r q k => h G σ H s _ _ r q fun b s1 G1 H1 q1 r1 eg eh => by
  cases b with
  | false =>
    rw [if_neg (by decide)] at q1
    exact iteF (k false s1 G1 H1 q1 r1 eg eh)
  | true =>
    rw [if_pos rfl] at q1
    exact iteT (h2 G1 σ H1 s1 _ _ r1 q1 fun b s2 G2 H2 q2 r2 eg2 eh2 => k b s2 G2 H2 q2 r2 (eg.trans eg2) (eh.trans eh2))
theorem it_or {t u : TT} {w v : WT} (h : IT C t w) (h2 : IT C u v) : IT C (tOr t u) (wOr w v) := fun G σ H s Q Q' r q k => h G σ H s _ _ r q fun b s1 G1 H1 q1 r1 eg eh => by
  cases b with
  | true =>
    rw [if_pos rfl] at q1
    exact iteT (k true s1 G1 H1 q1 r1 eg eh)
  | false =>
    rw [if_neg (by decide)] at q1
    exact iteF (h2 G1 σ H1 s1 _ _ r1 q1 fun b s2 G2 H2 q2 r2 eg2 eh2 => k b s2 G2 H2 q2 r2 (eg.trans eg2) (eh.trans eh2))
theorem it_not {t : TT} {w : WT} (h : IT C t w) : IT C (tNot t) (wNot w) := fun G σ H s Q Q' r q k => h G σ H s _ _ r q fun b s1 G1 H1 q1 r1 eg eh => k (!b) s1 G1 H1 q1 r1 eg eh
variable {rest : List Expr} {tA' tB' : TT} {wA' wB' : WT}
theorem dw_and1 (h : DT X C a tA' wA') : DW X C (.BoolOp .And [a] pos) tA' wA' := ⟨pw_and1 h.pt, h.it⟩
theorem dw_or1 (h : DT X C a tA' wA') : DW X C (.BoolOp .Or [a] pos) tA' wA' := ⟨pw_or1 h.pt, h.it⟩
theorem dw_and (h : DT X C a tA' wA') (h2 : DW X C (.BoolOp .And (b :: rest) pos) tB' wB') : DW X C (.BoolOp .And (a :: b :: rest) pos) (tAnd tA' tB') (wAnd wA' wB') := ⟨pw_and h.pt h2.pw, it_and h.it h2.it⟩
theorem dw_or (h : DT X C a tA' wA') (h2 : DW X C (.BoolOp .Or (b :: rest) pos) tB' wB') : DW X C (.BoolOp .Or (a :: b :: rest) pos) (tOr tA' tB') (wOr wA' wB') := ⟨pw_or h.pt h2.pw, it_or h.it h2.it⟩
theorem dt_not (h : DT X C a tA' wA') : DT X C (.UnaryOp .Not a pos) (tNot tA') (wNot wA') := ⟨pt_not h.pt, it_not h.it⟩
def wAndV (u v : WE) : WE := fun s Q => u s fun d s1 => ∃ b, d = .bool b ∧ if b = true then v s1 Q else Q (.bool false) s1
def wOrV (u v : WE) : WE := fun s Q => u s fun d s1 => ∃ b, d = .bool b ∧ if b = true then Q (.bool true) s1 else v s1 Q
def wNotV (u : WE) : WE := fun s Q => u s fun d s1 => ∃ b, d = .bool b ∧ Q (.bool (!b)) s1
theorem ie_andV (h : IE C ta wa) (h2 : IE C tb wb) : IE C (tAndV ta tb) (wAndV wa wb) := fun G σ H s Q Q' r q k => h G σ H s _ _ r q fun v d s1 G1 H1 q1 r1 eg eh p => by
  obtain ⟨b, rfl, q1⟩ := q1
  refine ⟨b, dp_bl p, ?_⟩
  cases b with
  | false =>
    rw [if_neg (by decide)] at q1
    exact iteF (k _ _ s1 G1 H1 q1 r1 eg eh (.bl _))
  | true =>
    rw [if_pos rfl] at q1
    exact iteT (h2 G1 σ H1 s1 _ _ r1 q1 fun v d s2 G2 H2 q2 r2 eg2 eh2 p2 => k v d s2 G2 H2 q2 r2 (eg.trans eg2) (eh.trans eh2) p2)
theorem ie_orV (h : IE C ta wa) (h2 : IE C tb wb) : IE C (tOrV ta tb) (wOrV wa wb) := fun G σ H s Q Q' r q k => h G σ H s _ _ r q fun v d s1 G1 H1 q1 r1 eg eh p => by
  obtain ⟨b, rfl, q1⟩ := q1
  refine ⟨b, dp_bl p, ?_⟩
  cases b with
  | true =>
    rw [if_pos rfl] at q1
    exact iteT (k _ _ s1 G1 H1 q1 r1 eg eh (.bl _))
  | false =>
    rw [if_neg (by decide)] at q1
    exact iteF (h2 G1 σ H1 s1 _ _ r1 q1 fun v d s2 G2 H2 q2 r2 eg2 eh2 p2 => k v d s2 G2 H2 q2 r2 (eg.trans eg2) (eh.trans eh2) p2)
theorem ie_notV (h : IE C ta wa) : IE C (tNotV ta) (wNotV wa) := fun G σ H s Q Q' r q k => h G σ H s _ _ r q fun v d s1 G1 H1 q1 r1 eg eh p => by
  obtain ⟨b, rfl, q1⟩ := q1
  exact ⟨b, dp_bl p, k _ _ s1 G1 H1 q1 r1 eg eh (.bl _)⟩
theorem de_one {op} (h : DE X C a t w) : DE X C (.BoolOp op [a] pos) t w := ⟨pe_one h.pe, h.ie⟩
theorem de_and (h : DE X C a ta wa) (h2 : DE X C (.BoolOp .And (b :: rest) pos) tb wb) : DE X C (.BoolOp .And (a :: b :: rest) pos) (tAndV ta tb) (wAndV wa wb) := ⟨pe_and h.pe h2.pe, ie_andV h.ie h2.ie⟩
theorem de_or (h : DE X C a ta wa) (h2 : DE X C (.BoolOp .Or (b :: rest) pos) tb wb) : DE X C (.BoolOp .Or (a :: b :: rest) pos) (tOrV ta tb) (wOrV wa wb) := ⟨pe_or h.pe h2.pe, ie_orV h.ie h2.ie⟩
theorem de_not (h : DE X C a t w) : DE X C (.UnaryOp .Not a pos) (tNotV t) (wNotV w) := ⟨pe_not h.pe, ie_notV h.ie⟩
def wIf (c : WT) (u v : WE) : WE := fun s Q => c s fun b s1 => if b = true then u s1 Q else v s1 Q
theorem de_if {c : Expr} (hc : DT X C c tA' wA') (h : DE X C a ta wa) (h2 : DE X C b tb wb) : DE X C (.IfExp c a b pos) (tIf tA' ta tb) (wIf wA' wa wb) := ⟨pe_ifExp hc.pt h.pe h2.pe, fun G σ H s Q Q' r q k =>
  hc.it G σ H s _ _ r q fun bb s1 G1 H1 q1 r1 eg eh => by
    cases bb with
    | true =>
      rw [if_pos rfl] at q1
      exact iteT (h.ie G1 σ H1 s1 _ _ r1 q1 fun v d s2 G2 H2 q2 r2 eg2 eh2 p2 => k v d s2 G2 H2 q2 r2 (eg.trans eg2) (eh.trans eh2) p2)
    | false =>
      rw [if_neg (by decide)] at q1
      exact iteF (h2.ie G1 σ H1 s1 _ _ r1 q1 fun v d s2 G2 H2 q2 r2 eg2 eh2 p2 => k v d s2 G2 H2 q2 r2 (eg.trans eg2) (eh.trans eh2) p2)⟩
/-- truth of a list, tuple, text, int, None -/
def truD : PyData → Option Bool
  | .none => some false
  | .bool b => some b
  | .int i => some (i != 0)
  | .str y => if y.length ≤ 100000 then some ((y.length : Int) != 0) else none
  | .list ds => some (!ds.isEmpty)
  | .tuple ds => some (!ds.isEmpty)
  | .dict _ => none
theorem dpa_emp {K : PySem.W.Frag} {H : Hp} {xs : List V} {ds : List PyData} (h : DpAll K H xs ds) : xs.isEmpty = ds.isEmpty := by
  cases h <;> rfl
def wTru (w : WE) : WT := fun s Q => w s fun d s1 => ∃ k, truD d = some k ∧ Q k s1
theorem dt_tru (hK : X.K = C.K) (h : DP X C e t w) (he : ∀ whole, isTrue e X.env whole = (do let v ← whole; standAt e.pos; holding [v] (truthy v)) := by intro _; rfl) : DT X C e (fun σ H Q => t σ H fun x H' => ∃ k, TruV C.K x H' k ∧ Q k H') (wTru w) :=
  ⟨hK ▸ pt_truth h.pe he, fun G σ H s Q Q' r q k => h.ip G σ H s _ _ r q fun v d s1 G1 H1 q1 r1 eg eh p => by
    obtain ⟨b, hb, q1⟩ := q1
    refine ⟨b, ?_, k b s1 G1 H1 q1 r1 eg eh⟩
    have hd := p.dp r1.fin.gh
    cases d with
    | none => cases hd; cases hb; rfl
    | bool _ => cases hd; cases hb; rfl
    | int _ => cases hd; cases hb; rfl
    | str y =>
      cases hd
      have hb' : (if y.length ≤ 100000 then some ((y.length : Int) != 0) else none) = some b := hb
      split at hb'
      · rename_i hy
        cases hb'
        exact ⟨sz_of hy, rfl⟩
      · cases hb'
    | list ds =>
      cases hd with
      | lst h1 h2 =>
        cases hb
        exact .inl ⟨_, h1, by rw [dpa_emp h2]⟩
    | tuple ds =>
      cases hd with
      | tup h1 h2 =>
        cases hb
        exact .inr (.inl ⟨_, h1, by rw [dpa_emp h2]⟩)
    | dict _ => cases hb⟩
end
/-! ### the operations -/
def gI0 (f : Int → Int → PyData) : G2 := fun d e s Q => ∃ i j, d = .int i ∧ e = .int j ∧ Q (f i j) s
def gI (P : Int → Int → Prop) (f : Int → Int → PyData) : G2 := fun d e s Q => ∃ i j, d = .int i ∧ e = .int j ∧ P i j ∧ Q (f i j) s
section
variable {X : Cx} {C : Ct}
theorem pk_int {G H : Hp} {v : V} {i : Int} (h : Pk C G H v (.int i)) : v = .int i := by
  rcases h with h | ⟨_, _, _, _, h, _⟩
  · exact dp_int h
  · cases h
theorem pk_str {G H : Hp} {v : V} {i : Str} (h : Pk C G H v (.str i)) : v = .str i := by
  rcases h with h | ⟨_, _, _, _, h, _⟩
  · exact dp_str h
  · cases h
theorem pk_bl {G H : Hp} {v : V} {i : Bool} (h : Pk C G H v (.bool i)) : v = .bl i := by
  rcases h with h | ⟨_, _, _, _, h, _⟩
  · exact dp_bl h
  · cases h
theorem r2_I0 {f : Int → Int → V} {g : Int → Int → PyData} (hg : ∀ G i j, Dp C.K G (f i j) (g i j)) : R2D C (rI0 f) (gI0 g) := ⟨fun G σ H s x y d e Q Q' r p1 p2 q k => by
  obtain ⟨i, j, rfl, rfl, q⟩ := q
  exact ⟨i, j, pk_int p1, pk_int p2, k _ _ s G H q r (Ex.refl G) Gs.refl (hg _ _ _)⟩⟩
theorem r2_I {P : Int → Int → Prop} {f : Int → Int → V} {g : Int → Int → PyData} (hg : ∀ G i j, Dp C.K G (f i j) (g i j)) : R2D C (rI P f) (gI P g) := ⟨fun G σ H s x y d e Q Q' r p1 p2 q k => by
  obtain ⟨i, j, rfl, rfl, hc, q⟩ := q
  exact ⟨i, j, pk_int p1, pk_int p2, hc, k _ _ s G H q r (Ex.refl G) Gs.refl (hg _ _ _)⟩⟩
theorem o_add : OpD X C (binaryOp .Add) (rI0 fun i j => .int (i + j)) (gI0 fun i j => .int (i + j)) := ⟨op_add, r2_I0 fun _ _ _ => .int _⟩
theorem o_sub : OpD X C (binaryOp .Sub) (rI0 fun i j => .int (i - j)) (gI0 fun i j => .int (i - j)) := ⟨op_sub, r2_I0 fun _ _ _ => .int _⟩
theorem o_mul : OpD X C (binaryOp .Mult) (rI CMul fun i j => .int (i * j)) (gI CMul fun i j => .int (i * j)) := ⟨op_mul, r2_I fun _ _ _ => .int _⟩
theorem o_fdiv : OpD X C (binaryOp .FloorDiv) (rI CDiv fun i j => .int (i / j)) (gI CDiv fun i j => .int (i / j)) := ⟨op_fdiv, r2_I fun _ _ _ => .int _⟩
theorem o_mod : OpD X C (binaryOp .Mod) (rI (fun _ j => 0 < j) fun i j => .int (i % j)) (gI (fun _ j => 0 < j) fun i j => .int (i % j)) := ⟨op_mod, r2_I fun _ _ _ => .int _⟩
theorem o_pow : OpD X C (binaryOp .Pow) (rI CPow fun i j => .int (i ^ j.toNat)) (gI CPow fun i j => .int (i ^ j.toNat)) := ⟨op_pow, r2_I fun _ _ _ => .int _⟩
theorem o_lt : OpD X C (compareOp .Lt) (rI0 fun i j => .bl (decide (i < j))) (gI0 fun i j => .bool (decide (i < j))) := ⟨op_lt, r2_I0 fun _ _ _ => .bl _⟩
theorem o_le : OpD X C (compareOp .LtE) (rI0 fun i j => .bl (decide (i ≤ j))) (gI0 fun i j => .bool (decide (i ≤ j))) := ⟨op_le, r2_I0 fun _ _ _ => .bl _⟩
theorem o_gt : OpD X C (compareOp .Gt) (rI0 fun i j => .bl (decide (j < i))) (gI0 fun i j => .bool (decide (j < i))) := ⟨op_gt, r2_I0 fun _ _ _ => .bl _⟩
theorem o_ge : OpD X C (compareOp .GtE) (rI0 fun i j => .bl (decide (j ≤ i))) (gI0 fun i j => .bool (decide (j ≤ i))) := ⟨op_ge, r2_I0 fun _ _ _ => .bl _⟩
/-- == and != of data -/
def Shp (d : PyData) : Prop := SeqAt.shaped d = true
def gEq : G2 := fun d e s Q => Shp d ∧ Shp e ∧ Q (.bool (PyData.eqv d e)) s
def gNe : G2 := fun d e s Q => Shp d ∧ Shp e ∧ Q (.bool (!PyData.eqv d e)) s
theorem o_eq (hK : X.K = C.K) (hu : X.A.units + 64 < cLine) : OpD X C (compareOp .Eq) (rEqD C.K) gEq := ⟨hK ▸ op_eqD hu, ⟨fun G σ H s x y d e Q Q' r p1 p2 q k => ⟨d, e, p1.dp r.fin.gh, p2.dp r.fin.gh, q.1, q.2.1, k _ _ s G H q.2.2 r (Ex.refl G) Gs.refl (.bl _)⟩⟩⟩
theorem o_ne (hK : X.K = C.K) (hu : X.A.units + 64 < cLine) : OpD X C (compareOp .NotEq) (rNeD C.K) gNe := ⟨hK ▸ op_neD hu, ⟨fun G σ H s x y d e Q Q' r p1 p2 q k => ⟨d, e, p1.dp r.fin.gh, p2.dp r.fin.gh, q.1, q.2.1, k _ _ s G H q.2.2 r (Ex.refl G) Gs.refl (.bl _)⟩⟩⟩
/-- in, not in a list or a tuple of data -/
def rInB (K : PySem.W.Frag) (neg : Bool) : R2 := fun x y H Q => ∃ d e, Dp K H x d ∧ Dp K H y e ∧ seqd e = true ∧ Shp d ∧ Shp e ∧ Q (.bl (neg ^^ (its e).any fun z => PyData.eqv z d)) H
theorem shp_room {d e : PyData} {A : Around} (hd : Shp d) (hu : A.units + 65 < cLine) (ds : List PyData) : A.units + 1 + min (PyData.depthAll ds) d.depth < cLine := by
  have h1 := SeqAt.depth_of_shaped hd
  have h2 : min (PyData.depthAll ds) d.depth ≤ d.depth := Nat.min_le_right _ _
  omega
theorem op_inB (hu : X.A.units + 65 < cLine) : OpR X (compareOp .In) (rInB X.K false) := by
  intro pins s σ H x y v u Q I rx ry h
  obtain ⟨d, e, hd, he, hs, sd, se, q⟩ := h
  obtain ⟨as, r1⟩ := Dp.reads I d x v hd rx
  obtain ⟨bs, r2⟩ := Dp.reads I e y u he ry
  rw [Bool.false_xor] at q
  cases e with
  | list ds => exact SeqAt.in_list_reads r2 r1 (SeqAt.canLay_of_shaped se) (SeqAt.canLay_of_shaped sd) (shp_room (e := d) sd hu ds) ⟨.bl _, H, I, rfl, q⟩
  | tuple ds => exact SeqAt.in_tuple_reads r2 r1 (SeqAt.canLay_of_shaped se) (SeqAt.canLay_of_shaped sd) (shp_room (e := d) sd hu ds) ⟨.bl _, H, I, rfl, q⟩
  | _ => cases hs
theorem op_notInB (hu : X.A.units + 65 < cLine) : OpR X (compareOp .NotIn) (rInB X.K true) := by
  intro pins s σ H x y v u Q I rx ry h
  obtain ⟨d, e, hd, he, hs, sd, se, q⟩ := h
  obtain ⟨as, r1⟩ := Dp.reads I d x v hd rx
  obtain ⟨bs, r2⟩ := Dp.reads I e y u he ry
  rw [Bool.true_xor] at q
  cases e with
  | list ds => exact SeqAt.notIn_list_reads r2 r1 (SeqAt.canLay_of_shaped se) (SeqAt.canLay_of_shaped sd) (shp_room (e := d) sd hu ds) ⟨.bl _, H, I, rfl, q⟩
  | tuple ds => exact SeqAt.notIn_tuple_reads r2 r1 (SeqAt.canLay_of_shaped se) (SeqAt.canLay_of_shaped sd) (shp_room (e := d) sd hu ds) ⟨.bl _, H, I, rfl, q⟩
  | _ => cases hs
def gIn (neg : Bool) : G2 := fun d e s Q => seqd e = true ∧ Shp d ∧ Shp e ∧ Q (.bool (neg ^^ (its e).any fun z => PyData.eqv z d)) s
theorem r2_in {neg : Bool} : R2D C (rInB C.K neg) (gIn neg) := ⟨fun G σ H s x y d e Q Q' r p1 p2 q k => ⟨d, e, p1.dp r.fin.gh, p2.dp r.fin.gh, q.1, q.2.1, q.2.2.1, k _ _ s G H q.2.2.2 r (Ex.refl G) Gs.refl (.bl _)⟩⟩
theorem o_in (hK : X.K = C.K) (hu : X.A.units + 65 < cLine) : OpD X C (compareOp .In) (rInB C.K false) (gIn false) := ⟨hK ▸ op_inB hu, r2_in⟩
theorem o_notin (hK : X.K = C.K) (hu : X.A.units + 65 < cLine) : OpD X C (compareOp .NotIn) (rInB C.K true) (gIn true) := ⟨hK ▸ op_notInB hu, r2_in⟩
/-- is None, is not None, is of bools -/
def isNone : PyData → Bool
  | .none => true
  | _ => false
theorem pk_none {G H : Hp} {v : V} {d : PyData} (h : Pk C G H v d) : decide (v = .non) = isNone d := by
  rcases h with h | ⟨_, _, _, rfl, rfl, _⟩
  · cases h <;> rfl
  · rfl
def gIsN : G2 := fun d e s Q => e = .none ∧ Q (.bool (isNone d)) s
def gNotN : G2 := fun d e s Q => e = .none ∧ Q (.bool (!isNone d)) s
theorem pk_non {G H : Hp} {v : V} (h : Pk C G H v .none) : v = .non := by
  rcases h with h | ⟨_, _, _, _, h, _⟩
  · cases h; rfl
  · cases h
theorem o_isN : OpD X C (compareOp .Is) (fun x y H Q => y = .non ∧ Q (.bl (decide (x = .non))) H) gIsN := ⟨op_isN, ⟨fun G σ H s x y d e Q Q' r p1 p2 q k => by
  obtain ⟨rfl, q⟩ := q
  refine ⟨pk_non p2, ?_⟩
  rw [pk_none p1]
  exact k _ _ s G H q r (Ex.refl G) Gs.refl (.bl _)⟩⟩
theorem o_notN : OpD X C (compareOp .IsNot) (fun x y H Q => y = .non ∧ Q (.bl (!decide (x = .non))) H) gNotN := ⟨op_notN, ⟨fun G σ H s x y d e Q Q' r p1 p2 q k => by
  obtain ⟨rfl, q⟩ := q
  refine ⟨pk_non p2, ?_⟩
  rw [pk_none p1]
  exact k _ _ s G H q r (Ex.refl G) Gs.refl (.bl _)⟩⟩
def gIsB : G2 := fun d e s Q => ∃ a b, d = .bool a ∧ e = .bool b ∧ Q (.bool (decide (a = b))) s
def gNotB : G2 := fun d e s Q => ∃ a b, d = .bool a ∧ e = .bool b ∧ Q (.bool (!decide (a = b))) s
theorem o_isB : OpD X C (compareOp .Is) rIsB gIsB := ⟨op_isBl, ⟨fun G σ H s x y d e Q Q' r p1 p2 q k => by
  obtain ⟨a, b, rfl, rfl, q⟩ := q
  exact ⟨a, b, pk_bl p1, pk_bl p2, k _ _ s G H q r (Ex.refl G) Gs.refl (.bl _)⟩⟩⟩
theorem o_notB : OpD X C (compareOp .IsNot) rNotB gNotB := ⟨op_notBl, ⟨fun G σ H s x y d e Q Q' r p1 p2 q k => by
  obtain ⟨a, b, rfl, rfl, q⟩ := q
  exact ⟨a, b, pk_bl p1, pk_bl p2, k _ _ s G H q r (Ex.refl G) Gs.refl (.bl _)⟩⟩⟩
/-- tuple + tuple -/
def gCatT : G2 := fun d e s Q => ∃ ds es, d = .tuple ds ∧ e = .tuple es ∧ ds.length + es.length ≤ 100000 ∧ Q (.tuple (ds ++ es)) s
theorem pk_tup {G H : Hp} {v : V} {ds : List PyData} (h : Pk C G H v (.tuple ds)) : ∃ p xs, v = .ref p ∧ SqT C.K G p xs ∧ DpAll C.K G xs ds := by
  rcases h with h | ⟨_, _, _, _, h, _⟩
  · cases h with
    | tup h1 h2 => exact ⟨_, _, rfl, h1, h2⟩
  · cases h
theorem dpa_nil {K : PySem.W.Frag} {H : Hp} {ds : List PyData} (h : DpAll K H [] ds) : ds = [] := by cases h; rfl
theorem o_catT (hK : X.K = C.K) : OpD X C (binaryOp .Add) (rCatA C.K) gCatT := ⟨hK ▸ op_catA, ⟨fun G σ H s x y d e Q Q' r p1 p2 q k => by
  obtain ⟨ds, es, rfl, rfl, hl, q⟩ := q
  obtain ⟨a, xs, rfl, h1, h2⟩ := pk_tup p1
  obtain ⟨b, ys, rfl, h3, h4⟩ := pk_tup p2
  refine ⟨a, b, xs, ys, rfl, rfl, Evl.ex_t r.fin.gh h1, Evl.ex_t r.fin.gh h3, sz_of (by rw [dpa_len h2, dpa_len h4]; exact hl), fun e => ?_, fun _ e => ?_, fun _ _ p hp => ?_⟩
  · subst e
    rw [dpa_nil h2, List.nil_append] at q
    exact k _ _ s G H q r (Ex.refl G) Gs.refl (.tup h3 h4)
  · subst e
    rw [dpa_nil h4, List.append_nil] at q
    exact k _ _ s G H q r (Ex.refl G) Gs.refl (.tup h1 h2)
  · obtain ⟨r2, eg, eh⟩ := r.new (o := .tup (xs ++ ys)) hp
    exact k _ _ s _ _ q r2 eg eh (.tup (.inl (.inl upd_same)) (dpa_ex eg (dpa_app h2 h4)))⟩⟩
/-- text + text -/
def gCatS : G2 := fun d e s Q => ∃ i j, d = .str i ∧ e = .str j ∧ i.length + j.length ≤ 100000 ∧ Q (.str (i ++ j)) s
theorem o_catS : OpD X C (binaryOp .Add) (fun x y H Q => ∃ i j, x = .str i ∧ y = .str j ∧ i.length + j.length ≤ sizeLine ∧ Q (.str (i ++ j)) H) gCatS := ⟨op_add_str, ⟨fun G σ H s x y d e Q Q' r p1 p2 q k => by
  obtain ⟨i, j, rfl, rfl, hl, q⟩ := q
  exact ⟨i, j, pk_str p1, pk_str p2, sz_of hl, k _ _ s G H q r (Ex.refl G) Gs.refl (.str _)⟩⟩⟩
/-- s[i], a list or a tuple -/
def gIx : G2 := fun d e s Q => ∃ i z, seqd d = true ∧ e = .int i ∧ atI (its d) i = some z ∧ Q z s
theorem r2_ix : R2D C (rIxB C.K) gIx := ⟨fun G σ H s x y d e Q Q' r p1 p2 q k => by
  obtain ⟨i, z, hs, rfl, ha, q⟩ := q
  obtain ⟨p, xs, rfl, h1, h2⟩ := p1.seq r.fin.gh hs
  obtain ⟨v, hv, pv⟩ := atI_dpa h2 ha
  exact ⟨isT d, p, xs, i, v, rfl, pk_int p2, h1, hv, k _ _ s G H q r (Ex.refl G) Gs.refl pv⟩⟩
variable {a b e : Expr} {es : List Expr} {pos : Pos} {t ta tb tc : TE} {w wa wb wc : WE} {tA : TA} {wA : WA}
theorem de_ix (hK : X.K = C.K) (ha : DP X C a ta wa) (hb : DP X C b tb wb) (hs : PlainIx b := by exact fun _ _ => rfl) : DE X C (.Subscript a b pos) (tOp (rIxB C.K) ta tb) (w2 gIx wa wb) := ⟨pe_ix (hK ▸ ix_B) ha.pe hb.pe hs, ie_op2 r2_ix.run ha.ip hb.ip⟩
/-! ### list + list, list * int: new lists -/
def wCat (u v : WA) : WA := fun s Q => u s fun ds s1 => v s1 fun es s2 => ds.length + es.length ≤ 100000 ∧ Q (ds ++ es) s2
theorem do_cat {u v : WA} (ha : DL X C a ta u) (hb : DL X C b tb v) : DO X C (.BinOp a .Add b pos) (tOp rCat ta tb) (wCat u v) := ⟨pe_op op_cat ha.pe hb.pe, fun G σ H s Q Q' r q k =>
  ha.il G σ H s _ _ r q fun p xs ds s1 G1 H1 q1 r1 eg1 eh1 h1 n1 d1 => hb.il G1 σ H1 s1 _ _ r1 q1 fun p2 ys es s2 G2 H2 q2 r2 eg2 eh2 h2 n2 d2 =>
    ⟨p, p2, xs, ys, rfl, rfl, eh2.gr p _ n1 h1, h2, sz_of (by rw [dpa_len d1, dpa_len d2]; exact q2.1), fun l hl => own_new r q2.2 r2 (eg1.trans eg2) (eh1.trans eh2) (dpa_app (dpa_ex eg2 d1) d2) hl k⟩⟩
def wRep (u : WA) (v : WE) : WA := fun s Q => u s fun ds s1 => v s1 fun e s2 => ∃ k : Nat, e = .int k ∧ ds.length * k ≤ 100000 ∧ k ≤ 100000 ∧ Q (List.replicate k ds).flatten s2
theorem dpa_rep {K : PySem.W.Frag} {H : Hp} {xs : List V} {ds : List PyData} (h : DpAll K H xs ds) : ∀ k : Nat, DpAll K H (List.replicate k xs).flatten (List.replicate k ds).flatten
  | 0 => .nil
  | k + 1 => by
    rw [List.replicate_succ, List.replicate_succ, List.flatten_cons, List.flatten_cons]
    exact dpa_app h (dpa_rep h k)
theorem do_rep {u : WA} {v : WE} (ha : DL X C a ta u) (hb : DE X C b tb v) : DO X C (.BinOp a .Mult b pos) (tOp rRep ta tb) (wRep u v) := ⟨pe_op op_rep ha.pe hb.pe, fun G σ H s Q Q' r q k =>
  ha.il G σ H s _ _ r q fun p xs ds s1 G1 H1 q1 r1 eg1 eh1 h1 n1 d1 => hb.ie G1 σ H1 s1 _ _ r1 q1 fun v2 es s2 G2 H2 q2 r2 eg2 eh2 d2 => by
    obtain ⟨m, rfl, hm, hm2, q2⟩ := q2
    refine ⟨p, m, xs, rfl, dp_int d2, eh2.gr p _ n1 h1, by omega, by omega, sz_of (by rw [dpa_len d1]; simpa using hm), fun l hl => own_new r q2 r2 (eg1.trans eg2) (eh1.trans eh2) (by simpa using dpa_rep (dpa_ex eg2 d1) m) hl k⟩⟩
end
end Dw

namespace Dw
open PySem PySem.Spec PyProof.Rows L2 OgR Evl
/-! ### built-ins of one argument -/
abbrev G1 := PyData → Dt → (PyData → Dt → Prop) → Prop
structure R1D (C : Ct) (r : List V → Hp → VK → Prop) (g : G1) : Prop where
  run : ∀ G σ H s x d Q Q', Rel C G σ H s → Pk C G H x d → g d s Q → (∀ v z s' G' H', Q z s' → Rel C G' σ H' s' → Ex G G' → Gs C σ G H s G' H' s' → Dp C.K G' v z → Q' v H') → r [x] H Q'
/-- .. that give a new list -/
structure R1O (C : Ct) (r : List V → Hp → VK → Prop) (g : PyData → Dt → (List PyData → Dt → Prop) → Prop) : Prop where
  run : ∀ G σ H s x d Q Q', Rel C G σ H s → Pk C G H x d → g d s Q → (∀ vs ds p, Q ds s → DpAll C.K G vs ds → H p = none → Q' (.ref p) (upd H p (.lst vs))) → r [x] H Q'
def w1 (g : G1) (wa : WE) : WE := fun s Q => wa s fun d s1 => g d s1 Q
def w1O (g : PyData → Dt → (List PyData → Dt → Prop) → Prop) (wa : WE) : WA := fun s Q => wa s fun d s1 => g d s1 Q
section
variable {X : Cx} {C : Ct} {a b e : Expr} {es : List Expr} {pos p : Pos} {t ta tb tc : TE} {w wa wb wc : WE} {tA : TA} {wA : WA} {x : Str} {bid : String} {r : List V → Hp → VK → Prop} {g : G1} {gO : PyData → Dt → (List PyData → Dt → Prop) → Prop}
theorem ie_1 (hr : R1D C r g) (ha : IP C ta wa) : IE C (tCB r (tCons ta tNil)) (w1 g wa) := fun G σ H s Q Q' rr q k => ha G σ H s _ _ rr q fun v d s1 G1 H1 q1 r1 eg eh pk =>
  hr.run G1 σ H1 s1 v d _ _ r1 pk q1 fun v2 z s2 G2 H2 q2 r2 eg2 eh2 p2 => k v2 z s2 G2 H2 q2 r2 (eg.trans eg2) (eh.trans eh2) p2
theorem io_1 (hr : R1O C r gO) (ha : IP C ta wa) : IO C (tCB r (tCons ta tNil)) (w1O gO wa) := fun G σ H s Q Q' rr q k => ha G σ H s _ _ rr q fun v d s1 G1 H1 q1 r1 eg eh pk =>
  hr.run G1 σ H1 s1 v d _ _ r1 pk q1 fun vs ds p q2 hd hp => own_new rr q2 r1 eg eh hd hp k
theorem de_b1 (hc : CallR X (.builtin bid) r) (hr : R1D C r g) (hg : Gl X x) (hm : X.mg x = none) (hv : bootBuiltins x = some (.builtin bid)) (ha : DP X C a ta wa) (hn : x ≠ "__name__" := by decide) (hdb : (x == ("__debug__" : Str)) = false := by decide)
    (hs : starEach [a] X.env = (false, eval a X.env) :: starEach [] X.env := by rfl) : DE X C (.Call (.Name x p) [a] [] pos) (tCB r (tCons ta tNil)) (w1 g wa) := ⟨pe_callB hc hg hm hv (pa_cons ha.pe pa_nil hs) hn hdb hs, ie_1 hr ha.ip⟩
theorem de_t1 (hc : CallR X (.type bid) r) (hr : R1D C r g) (hg : Gl X x) (hm : X.mg x = none) (hv : bootBuiltins x = some (.type bid)) (ha : DP X C a ta wa) (hn : x ≠ "__name__" := by decide) (hdb : (x == ("__debug__" : Str)) = false := by decide)
    (hs : starEach [a] X.env = (false, eval a X.env) :: starEach [] X.env := by rfl) : DE X C (.Call (.Name x p) [a] [] pos) (tCB r (tCons ta tNil)) (w1 g wa) := ⟨pe_callTy hc hg hm hv (pa_cons ha.pe pa_nil hs) hn hdb hs, ie_1 hr ha.ip⟩
theorem do_b1 (hc : CallR X (.builtin bid) r) (hr : R1O C r gO) (hg : Gl X x) (hm : X.mg x = none) (hv : bootBuiltins x = some (.builtin bid)) (ha : DP X C a ta wa) (hn : x ≠ "__name__" := by decide) (hdb : (x == ("__debug__" : Str)) = false := by decide)
    (hs : starEach [a] X.env = (false, eval a X.env) :: starEach [] X.env := by rfl) : DO X C (.Call (.Name x p) [a] [] pos) (tCB r (tCons ta tNil)) (w1O gO wa) := ⟨pe_callB hc hg hm hv (pa_cons ha.pe pa_nil hs) hn hdb hs, io_1 hr ha.ip⟩
theorem do_t1 (hc : CallR X (.type bid) r) (hr : R1O C r gO) (hg : Gl X x) (hm : X.mg x = none) (hv : bootBuiltins x = some (.type bid)) (ha : DP X C a ta wa) (hn : x ≠ "__name__" := by decide) (hdb : (x == ("__debug__" : Str)) = false := by decide)
    (hs : starEach [a] X.env = (false, eval a X.env) :: starEach [] X.env := by rfl) : DO X C (.Call (.Name x p) [a] [] pos) (tCB r (tCons ta tNil)) (w1O gO wa) := ⟨pe_callTy hc hg hm hv (pa_cons ha.pe pa_nil hs) hn hdb hs, io_1 hr ha.ip⟩
/-! len -/
def lenD : PyData → Option Nat
  | .list ds => some ds.length
  | .tuple ds => some ds.length
  | .str z => if z.length ≤ 100000 then some z.length else none
  | _ => none
def gLen : G1 := fun d s Q => ∃ n : Nat, lenD d = some n ∧ Q (.int n) s
theorem r1_len : R1D C (fun xs H Q => ∃ x n, xs = [x] ∧ LenV C.K x H n ∧ Q (.int n) H) gLen := ⟨fun G σ H s x d Q Q' r pk q k => by
  obtain ⟨n, hn, q⟩ := q
  refine ⟨x, n, rfl, ?_, k _ _ s G H q r (Ex.refl G) Gs.refl (.int _)⟩
  have hd := pk.dp r.fin.gh
  cases d with
  | list ds =>
    cases hd with
    | lst h1 h2 => cases hn; exact .inl ⟨_, h1, (dpa_len h2).symm⟩
  | tuple ds =>
    cases hd with
    | tup h1 h2 => cases hn; exact .inr ⟨_, h1, (dpa_len h2).symm⟩
  | str z =>
    cases hd
    have hb' : (if z.length ≤ 100000 then some z.length else none) = some n := hn
    split at hb'
    · rename_i hy
      cases hb'
      exact ⟨sz_of hy, rfl⟩
    · cases hb'
  | none => cases hn
  | bool _ => cases hn
  | int _ => cases hn
  | dict _ => cases hn⟩
theorem de_len (hK : X.K = C.K) (hg : Gl X "len") (hm : X.mg "len" = none) (ha : DP X C a ta wa) (hs : starEach [a] X.env = (false, eval a X.env) :: starEach [] X.env := by rfl) :
    DE X C (.Call (.Name "len" p) [a] [] pos) (tCB (fun xs H Q => ∃ x n, xs = [x] ∧ LenV C.K x H n ∧ Q (.int n) H) (tCons ta tNil)) (w1 gLen wa) := de_b1 (hK ▸ call_len) r1_len hg hm PySem.boot_len ha (by decide) (by decide) hs
/-! tuple(x), list(x) -/
def gTupleOf : G1 := fun d s Q => seqd d = true ∧ Q (.tuple (its d)) s
def rTupleOf (K : PySem.W.Frag) : List V → Hp → VK → Prop := fun xs H Q => ∃ p ys, xs = [.ref p] ∧ ((SqL K H p ys ∧ ∀ l, H l = none → Q (.ref l) (upd H l (.tup ys))) ∨ (SqT K H p ys ∧ Q (.ref p) H))
theorem r1_tupleOf : R1D C (rTupleOf C.K) gTupleOf := ⟨fun G σ H s x d Q Q' r pk q k => by
  obtain ⟨hs, q⟩ := q
  obtain ⟨p, xs, rfl, h1, h2⟩ := pk.seq r.fin.gh hs
  refine ⟨p, xs, rfl, ?_⟩
  cases d with
  | list ds =>
    refine .inl ⟨h1, fun l hl => ?_⟩
    obtain ⟨r2, eg, eh⟩ := r.new (o := .tup xs) hl
    exact k _ _ s _ _ q r2 eg eh (.tup (.inl (.inl upd_same)) (dpa_ex eg h2))
  | tuple ds =>
    obtain ⟨p', xs', e, h3, h4⟩ := pk_tup pk
    cases e
    exact .inr ⟨h1, k _ _ s G H q r (Ex.refl G) Gs.refl (.tup h3 h4)⟩
  | _ => cases hs⟩
theorem de_tupleOf (hK : X.K = C.K) (hg : Gl X "tuple") (hm : X.mg "tuple" = none) (ha : DP X C a ta wa) (hs : starEach [a] X.env = (false, eval a X.env) :: starEach [] X.env := by rfl) :
    DE X C (.Call (.Name "tuple" p) [a] [] pos) (tCB (rTupleOf C.K) (tCons ta tNil)) (w1 gTupleOf wa) := de_t1 (hK ▸ call_tuple_of) r1_tupleOf hg hm (by decide +kernel) ha (by decide) (by decide) hs
def gListOf : PyData → Dt → (List PyData → Dt → Prop) → Prop := fun d s Q => seqd d = true ∧ Q (its d) s
def rListOf (K : PySem.W.Frag) : List V → Hp → VK → Prop := fun xs H Q => ∃ p ys, xs = [.ref p] ∧ (SqL K H p ys ∨ SqT K H p ys) ∧ ∀ l, H l = none → Q (.ref l) (upd H l (.lst ys))
theorem r1_listOf : R1O C (rListOf C.K) gListOf := ⟨fun G σ H s x d Q Q' r pk q k => by
  obtain ⟨hs, q⟩ := q
  obtain ⟨p, xs, rfl, h1, h2⟩ := pk.seq r.fin.gh hs
  refine ⟨p, xs, rfl, ?_, fun l hl => k xs _ l q h2 hl⟩
  cases d with
  | list ds => exact .inl h1
  | tuple ds => exact .inr h1
  | _ => cases hs⟩
theorem do_listOf (hK : X.K = C.K) (hg : Gl X "list") (hm : X.mg "list" = none) (ha : DP X C a ta wa) (hs : starEach [a] X.env = (false, eval a X.env) :: starEach [] X.env := by rfl) :
    DO X C (.Call (.Name "list" p) [a] [] pos) (tCB (rListOf C.K) (tCons ta tNil)) (w1O gListOf wa) := do_t1 (hK ▸ call_list_of) r1_listOf hg hm (by decide +kernel) ha (by decide) (by decide) hs
/-- list(range(n)) -/
def iotaD (a b : Int) : List PyData := (List.range (b - a).toNat).map fun (i : Nat) => .int (a + (i : Nat))
theorem dpa_iota {K : PySem.W.Frag} {H : Hp} (a b : Int) : DpAll K H (rgV a b) (iotaD a b) := by
  unfold rgV iotaD
  generalize List.range (b - a).toNat = l
  induction l with
  | nil => exact .nil
  | cons x l ih => exact .cons (.int _) ih
def wRg1 (wa : WE) : WA := fun s Q => wa s fun d s1 => ∃ n : Int, d = .int n ∧ 0 ≤ n ∧ n ≤ 100000 ∧ Q (iotaD 0 n) s1
theorem do_listRg {p2 pos2 : Pos} (hc : X.calm = true) (hg : Gl X "list") (hm : X.mg "list" = none) (hg2 : Gl X "range") (hm2 : X.mg "range" = none) (ha : DE X C a ta wa) (hs : starEach [a] X.env = (false, eval a X.env) :: starEach [] X.env := by rfl)
    (hs2 : starEach [.Call (.Name "range" p2) [a] [] pos2] X.env = (false, eval (.Call (.Name "range" p2) [a] [] pos2) X.env) :: starEach [] X.env := by rfl) :
    DO X C (.Call (.Name "list" p) [.Call (.Name "range" p2) [a] [] pos2] [] pos) (tLstRg (tRg1 ta)) (wRg1 wa) := ⟨pe_listRg hc hg hm (prg_1 hg2 hm2 ha.pe hs) hs2, fun G σ H s Q Q' r q k =>
  ha.ie G σ H s _ _ r q fun v d s1 G1 H1 q1 r1 eg eh p => by
    obtain ⟨n, rfl, h0, h1, q1⟩ := q1
    exact ⟨n, dp_int p, RgOk.of_le (by decide) (by omega) (by decide) h0, fun l hl => own_new r q1 r1 eg eh (dpa_iota 0 n) hl k⟩⟩
/-! sum, all, any, abs, int, str, min, max -/
def gSum : G1 := fun d s Q => ∃ ns : List Int, d = .list (ns.map .int) ∧ Q (.int ns.sum) s
theorem pk_lst {G H : Hp} {v : V} {ds : List PyData} (h : Pk C G H v (.list ds)) (e : Ex G H) : ∃ p xs, v = .ref p ∧ SqL C.K H p xs ∧ DpAll C.K G xs ds := h.seq e rfl
theorem r1_sum : R1D C (rSum C.K) gSum := ⟨fun G σ H s x d Q Q' r pk q k => by
  obtain ⟨ns, rfl, q⟩ := q
  obtain ⟨p, xs, rfl, h1, h2⟩ := pk_lst pk r.fin.gh
  rw [ints_dpa h2] at h1
  exact ⟨p, ns, rfl, h1, k _ _ s G H q r (Ex.refl G) Gs.refl (.int _)⟩⟩
theorem de_sum (hK : X.K = C.K) (hc : X.calm = true) (hg : Gl X "sum") (hm : X.mg "sum" = none) (ha : DP X C a ta wa) (hs : starEach [a] X.env = (false, eval a X.env) :: starEach [] X.env := by rfl) :
    DE X C (.Call (.Name "sum" p) [a] [] pos) (tCB (rSum C.K) (tCons ta tNil)) (w1 gSum wa) := de_b1 (hK ▸ cr_sum hc) r1_sum hg hm (by decide +kernel) ha (by decide) (by decide) hs
theorem bls_dpa {K : PySem.W.Frag} {H : Hp} : ∀ {ns : List Bool} {xs : List V}, DpAll K H xs (ns.map PyData.bool) → xs = ns.map V.bl
  | [], _, .nil => rfl
  | _ :: _, _, .cons h t => by
    cases h
    rw [bls_dpa t]
    rfl
def gAll : G1 := fun d s Q => ∃ bs : List Bool, d = .list (bs.map .bool) ∧ Q (.bool (bs.all id)) s
def gAny : G1 := fun d s Q => ∃ bs : List Bool, d = .list (bs.map .bool) ∧ Q (.bool (bs.any id)) s
theorem r1_all : R1D C (rAll C.K) gAll := ⟨fun G σ H s x d Q Q' r pk q k => by
  obtain ⟨ns, rfl, q⟩ := q
  obtain ⟨p, xs, rfl, h1, h2⟩ := pk_lst pk r.fin.gh
  rw [bls_dpa h2] at h1
  exact ⟨p, ns, rfl, h1, k _ _ s G H q r (Ex.refl G) Gs.refl (.bl _)⟩⟩
theorem r1_any : R1D C (rAny C.K) gAny := ⟨fun G σ H s x d Q Q' r pk q k => by
  obtain ⟨ns, rfl, q⟩ := q
  obtain ⟨p, xs, rfl, h1, h2⟩ := pk_lst pk r.fin.gh
  rw [bls_dpa h2] at h1
  exact ⟨p, ns, rfl, h1, k _ _ s G H q r (Ex.refl G) Gs.refl (.bl _)⟩⟩
theorem de_all (hK : X.K = C.K) (hc : X.calm = true) (hg : Gl X "all") (hm : X.mg "all" = none) (ha : DP X C a ta wa) (hs : starEach [a] X.env = (false, eval a X.env) :: starEach [] X.env := by rfl) :
    DE X C (.Call (.Name "all" p) [a] [] pos) (tCB (rAll C.K) (tCons ta tNil)) (w1 gAll wa) := de_b1 (hK ▸ cr_all hc) r1_all hg hm (by decide +kernel) ha (by decide) (by decide) hs
theorem de_any (hK : X.K = C.K) (hc : X.calm = true) (hg : Gl X "any") (hm : X.mg "any" = none) (ha : DP X C a ta wa) (hs : starEach [a] X.env = (false, eval a X.env) :: starEach [] X.env := by rfl) :
    DE X C (.Call (.Name "any" p) [a] [] pos) (tCB (rAny C.K) (tCons ta tNil)) (w1 gAny wa) := de_b1 (hK ▸ cr_any hc) r1_any hg hm (by decide +kernel) ha (by decide) (by decide) hs
def gInt : G1 := fun d s Q => (∃ i, d = .int i ∧ Q (.int i) s) ∨ ∃ b, d = .bool b ∧ Q (.int (if b then 1 else 0)) s
theorem r1_int : R1D C (fun xs H Q => (∃ i, xs = [.int i] ∧ Q (.int i) H) ∨ ∃ k, xs = [.bl k] ∧ Q (.int (if k then 1 else 0)) H) gInt := ⟨fun G σ H s x d Q Q' r pk q k => by
  rcases q with ⟨i, rfl, q⟩ | ⟨b, rfl, q⟩
  · exact .inl ⟨i, by rw [pk_int pk], k _ _ s G H q r (Ex.refl G) Gs.refl (.int _)⟩
  · exact .inr ⟨b, by rw [pk_bl pk], k _ _ s G H q r (Ex.refl G) Gs.refl (.int _)⟩⟩
theorem de_toInt (hg : Gl X "int") (hm : X.mg "int" = none) (ha : DP X C a ta wa) (hs : starEach [a] X.env = (false, eval a X.env) :: starEach [] X.env := by rfl) :
    DE X C (.Call (.Name "int" p) [a] [] pos) (tCB (fun xs H Q => (∃ i, xs = [.int i] ∧ Q (.int i) H) ∨ ∃ k, xs = [.bl k] ∧ Q (.int (if k then 1 else 0)) H) (tCons ta tNil)) (w1 gInt wa) := de_t1 call_int1 r1_int hg hm (by decide +kernel) ha (by decide) (by decide) hs
def gStr : G1 := fun d s Q => ∃ i : Int, d = .int i ∧ i.natAbs < 2 ^ 1000 ∧ Q (.str (toString i)) s
theorem r1_str : R1D C (fun xs H Q => ∃ i : Int, xs = [.int i] ∧ i.natAbs.log2 < 1920 ∧ Q (.str (toString i)) H) gStr := ⟨fun G σ H s x d Q Q' r pk q k => by
  obtain ⟨i, rfl, hi, q⟩ := q
  refine ⟨i, by rw [pk_int pk], ?_, k _ _ s G H q r (Ex.refl G) Gs.refl (.str _)⟩
  by_cases hz : i.natAbs = 0
  · rw [hz]
    decide
  · exact (Nat.log2_lt hz).mpr (Nat.lt_of_lt_of_le hi (Nat.pow_le_pow_right (by decide) (by decide)))⟩
theorem de_toStr (hg : Gl X "str") (hm : X.mg "str" = none) (ha : DP X C a ta wa) (hs : starEach [a] X.env = (false, eval a X.env) :: starEach [] X.env := by rfl) :
    DE X C (.Call (.Name "str" p) [a] [] pos) (tCB (fun xs H Q => ∃ i : Int, xs = [.int i] ∧ i.natAbs.log2 < 1920 ∧ Q (.str (toString i)) H) (tCons ta tNil)) (w1 gStr wa) := de_t1 call_str_int r1_str hg hm (by decide +kernel) ha (by decide) (by decide) hs
/-- max(a, b), min(a, b) of ints -/
def w2a (g : G2) (wa wb : WE) : WE := fun s Q => wa s fun d s1 => wb s1 fun e s2 => g d e s2 Q
theorem ie_2a {f : Int → Int → Int} (ha : IE C ta wa) (hb : IE C tb wb) : IE C (tCB (fun xs H Q => ∃ i j, xs = [.int i, .int j] ∧ Q (.int (f i j)) H) (tCons ta (tCons tb tNil))) (w2a (gI0 fun i j => .int (f i j)) wa wb) := fun G σ H s Q Q' r q k =>
  ha G σ H s _ _ r q fun v d s1 G1 H1 q1 r1 eg1 eh1 p1 => hb G1 σ H1 s1 _ _ r1 q1 fun v2 d2 s2 G2 H2 q2 r2 eg2 eh2 p2 => by
    obtain ⟨i, j, rfl, rfl, q3⟩ := q2
    exact ⟨i, j, by rw [dp_int p1, dp_int p2], k _ _ s2 G2 H2 q3 r2 (eg1.trans eg2) (eh1.trans eh2) (.int _)⟩
theorem de_max2 (hc : X.calm = true) (hg : Gl X "max") (hm : X.mg "max" = none) (ha : DE X C a ta wa) (hb : DE X C b tb wb) (hs : starEach [a, b] X.env = (false, eval a X.env) :: starEach [b] X.env := by rfl) (hs2 : starEach [b] X.env = (false, eval b X.env) :: starEach [] X.env := by rfl) (hpl : (backTo pos (starEach [b] X.env)).any (·.1) = false := by rfl) :
    DE X C (.Call (.Name "max" p) [a, b] [] pos) (tCB (fun xs H Q => ∃ i j, xs = [.int i, .int j] ∧ Q (.int (if j > i then j else i)) H) (tCons ta (tCons tb tNil))) (w2a (gI0 fun i j => .int (if j > i then j else i)) wa wb) :=
  ⟨pe_callB (call_max2 hc) hg hm (by decide +kernel) (pa_cons ha.pe (pa_cons hb.pe pa_nil hs2) hs) (by decide) (by decide) hs hpl, ie_2a ha.ie hb.ie⟩
theorem de_min2 (hc : X.calm = true) (hg : Gl X "min") (hm : X.mg "min" = none) (ha : DE X C a ta wa) (hb : DE X C b tb wb) (hs : starEach [a, b] X.env = (false, eval a X.env) :: starEach [b] X.env := by rfl) (hs2 : starEach [b] X.env = (false, eval b X.env) :: starEach [] X.env := by rfl) (hpl : (backTo pos (starEach [b] X.env)).any (·.1) = false := by rfl) :
    DE X C (.Call (.Name "min" p) [a, b] [] pos) (tCB (fun xs H Q => ∃ i j, xs = [.int i, .int j] ∧ Q (.int (if j < i then j else i)) H) (tCons ta (tCons tb tNil))) (w2a (gI0 fun i j => .int (if j < i then j else i)) wa wb) :=
  ⟨pe_callB (call_min2 hc) hg hm (by decide +kernel) (pa_cons ha.pe (pa_cons hb.pe pa_nil hs2) hs) (by decide) (by decide) hs hpl, ie_2a ha.ie hb.ie⟩
/-- sorted(s) of ints -/
def sortI (ns : List Int) : List Int := ns.mergeSort fun a b => decide (a ≤ b)
theorem perm_sorted_eq : ∀ {a b : List Int}, a.Perm b → a.Pairwise (· ≤ ·) → b.Pairwise (· ≤ ·) → a = b := by
  intro a b h ha hb
  exact h.eq_of_pairwise (le := (· ≤ ·)) (fun x y _ _ h1 h2 => Int.le_antisymm h1 h2) ha hb
theorem sortI_eq {ks ns : List Int} (h : ks.Perm ns) (hk : ks.Pairwise (· ≤ ·)) : ks = sortI ns := by
  refine perm_sorted_eq (h.trans (List.mergeSort_perm ns _).symm) hk ?_
  have := List.pairwise_mergeSort (le := fun a b : Int => decide (a ≤ b)) (fun a b c h1 h2 => by simp at *; omega) (fun a b => by simp; omega) ns
  exact this.imp fun h => by simpa using h
def gSorted : PyData → Dt → (List PyData → Dt → Prop) → Prop := fun d s Q => ∃ ns : List Int, seqd d = true ∧ its d = ns.map .int ∧ Q ((sortI ns).map .int) s
theorem r1_sorted : R1O C (rSrtB C.K) gSorted := ⟨fun G σ H s x d Q Q' r pk q k => by
  obtain ⟨ns, hs, he, q⟩ := q
  obtain ⟨p, xs, rfl, h1, h2⟩ := pk.seq r.fin.gh hs
  rw [he] at h2
  rw [ints_dpa h2] at h1
  refine ⟨isT d, p, ns, rfl, h1, fun ks l hp hk hl => ?_⟩
  rw [sortI_eq hp hk]
  exact k _ _ l q (dpa_ints _) hl⟩
theorem do_sorted (hK : X.K = C.K) (hg : Gl X "sorted") (hm : X.mg "sorted" = none) (ha : DP X C a ta wa) (hs : starEach [a] X.env = (false, eval a X.env) :: starEach [] X.env := by rfl) :
    DO X C (.Call (.Name "sorted" p) [a] [] pos) (tCB (rSrtB C.K) (tCons ta tNil)) (w1O gSorted wa) := do_b1 (hK ▸ cr_srtB) r1_sorted hg hm (by decide +kernel) ha (by decide) (by decide) hs
/-- min(t) of a tuple of ints -/
def minI : Int → List Int → Int
  | x, [] => x
  | x, y :: ys => minI (if y < x then y else x) ys
def rMinT (K : PySem.W.Frag) : List V → Hp → VK → Prop := fun vs H Q => ∃ (a : Addr) (ns : List Int), vs = [V.ref a] ∧ SqT K H a (ns.map V.int) ∧ 0 < ns.length ∧ ∀ m, m ∈ ns → (∀ y, y ∈ ns → m ≤ y) → Q (.int m) H
end
end Dw

namespace Dw
open PySem PySem.Spec PyProof.Rows L2 OgR Evl
/-! ### isinstance -/
theorem tyx_L {K : PySem.W.Frag} {H : Hp} {a : Addr} {xs : List V} (h : SqL K H a xs) : TyX K H (.ref a) (.type "list") := by
  rcases h with (h | ⟨o, h⟩) | ⟨o, _, _, hk, hc, _⟩
  · exact .base (.lst h)
  · exact .base (.frz h)
  · exact .kList hk hc
theorem tyx_T {K : PySem.W.Frag} {H : Hp} {a : Addr} {xs : List V} (h : SqT K H a xs) : TyX K H (.ref a) (.type "tuple") := by
  rcases h with (h | ⟨o, h⟩) | ⟨o, _, _, hk, hc, _⟩
  · exact .base (.tup h)
  · exact .fTuple h
  · exact .kTuple hk hc
def tyN : PyData → String
  | .none => "NoneType"
  | .bool _ => "bool"
  | .int _ => "int"
  | .str _ => "str"
  | .list _ => "list"
  | .tuple _ => "tuple"
  | .dict _ => "dict"
theorem tyx_D {K : PySem.W.Frag} {H : Hp} {v : V} {d : PyData} (h : Dp K H v d) : TyX K H v (.type (tyN d)) := by
  cases h with
  | non => exact .base .non
  | bl b => exact .base (.bl b)
  | int i => exact .base (.int i)
  | str x => exact .base (.str x)
  | lst h _ => exact tyx_L h
  | tup h _ => exact tyx_T h
/-- whether data is of a built-in class -/
inductive Ty where
  | int | bool | str | list | tuple
def Ty.nm : Ty → String
  | .int => "int"
  | .bool => "bool"
  | .str => "str"
  | .list => "list"
  | .tuple => "tuple"
def isA : Ty → PyData → Bool
  | .int, .int _ => true
  | .int, .bool _ => true
  | .bool, .bool _ => true
  | .str, .str _ => true
  | .list, .list _ => true
  | .tuple, .tuple _ => true
  | _, _ => false
theorem kt (T : Ty) (d : PyData) : kitB (tyN d) T.nm = some (isA T d) := by
  cases T with
  | int =>
    cases d with
    | none => exact (show kitB "NoneType" "int" = some false by decide +kernel)
    | bool _ => exact (show kitB "bool" "int" = some true by decide +kernel)
    | int _ => exact (show kitB "int" "int" = some true by decide +kernel)
    | str _ => exact (show kitB "str" "int" = some false by decide +kernel)
    | list _ => exact (show kitB "list" "int" = some false by decide +kernel)
    | tuple _ => exact (show kitB "tuple" "int" = some false by decide +kernel)
    | dict _ => exact (show kitB "dict" "int" = some false by decide +kernel)
  | bool =>
    cases d with
    | none => exact (show kitB "NoneType" "bool" = some false by decide +kernel)
    | bool _ => exact (show kitB "bool" "bool" = some true by decide +kernel)
    | int _ => exact (show kitB "int" "bool" = some false by decide +kernel)
    | str _ => exact (show kitB "str" "bool" = some false by decide +kernel)
    | list _ => exact (show kitB "list" "bool" = some false by decide +kernel)
    | tuple _ => exact (show kitB "tuple" "bool" = some false by decide +kernel)
    | dict _ => exact (show kitB "dict" "bool" = some false by decide +kernel)
  | str =>
    cases d with
    | none => exact (show kitB "NoneType" "str" = some false by decide +kernel)
    | bool _ => exact (show kitB "bool" "str" = some false by decide +kernel)
    | int _ => exact (show kitB "int" "str" = some false by decide +kernel)
    | str _ => exact (show kitB "str" "str" = some true by decide +kernel)
    | list _ => exact (show kitB "list" "str" = some false by decide +kernel)
    | tuple _ => exact (show kitB "tuple" "str" = some false by decide +kernel)
    | dict _ => exact (show kitB "dict" "str" = some false by decide +kernel)
  | list =>
    cases d with
    | none => exact (show kitB "NoneType" "list" = some false by decide +kernel)
    | bool _ => exact (show kitB "bool" "list" = some false by decide +kernel)
    | int _ => exact (show kitB "int" "list" = some false by decide +kernel)
    | str _ => exact (show kitB "str" "list" = some false by decide +kernel)
    | list _ => exact (show kitB "list" "list" = some true by decide +kernel)
    | tuple _ => exact (show kitB "tuple" "list" = some false by decide +kernel)
    | dict _ => exact (show kitB "dict" "list" = some false by decide +kernel)
  | tuple =>
    cases d with
    | none => exact (show kitB "NoneType" "tuple" = some false by decide +kernel)
    | bool _ => exact (show kitB "bool" "tuple" = some false by decide +kernel)
    | int _ => exact (show kitB "int" "tuple" = some false by decide +kernel)
    | str _ => exact (show kitB "str" "tuple" = some false by decide +kernel)
    | list _ => exact (show kitB "list" "tuple" = some false by decide +kernel)
    | tuple _ => exact (show kitB "tuple" "tuple" = some true by decide +kernel)
    | dict _ => exact (show kitB "dict" "tuple" = some false by decide +kernel)
theorem kit2 {K : PySem.W.Frag} {x a b : String} {b1 b2 : Bool} (h1 : kitB x a = some b1) (h2 : kitB x b = some b2) : PySem.W.kitAny K (.type x) [.type a, .type b] = some (b1 || b2) := by
  cases b1 with
  | true => exact kitAny_cons (kit_ty h1) (fun e => nomatch e) (fun _ => rfl)
  | false =>
    cases b2 with
    | true => exact kitAny_cons (kit_ty h1) (fun _ => kitAny_cons (kit_ty h2) (fun e => nomatch e) (fun _ => rfl)) (fun e => nomatch e)
    | false => exact kitAny_cons (kit_ty h1) (fun _ => kitAny_cons (kit_ty h2) (fun _ => kitAny_nil) (fun e => nomatch e)) (fun e => nomatch e)
section
variable {X : Cx} {C : Ct} {a b e : Expr} {es : List Expr} {pos p : Pos} {t ta tb tc : TE} {w wa wb wc : WE} {tA : TA} {wA : WA} {x : Str}
def wIsi (T : Ty) (wa : WE) : WE := fun s Q => wa s fun d s1 => Q (.bool (isA T d)) s1
theorem ie_isi {T : Ty} (ha : IP C ta wa) : IE C (tCB (rIsi C.K) (tCons ta (tCons (tC (.ty T.nm)) tNil))) (wIsi T wa) := fun G σ H s Q Q' r q k =>
  ha G σ H s _ _ r q fun v d s1 G1 H1 q1 r1 eg eh pk => ⟨v, _, _, _, isA T d, rfl, .ty _, tyx_D (pk.dp r1.fin.gh), kit_ty (kt T d), k _ _ s1 G1 H1 q1 r1 eg eh (.bl _)⟩
theorem de_isi (T : Ty) {y : Str} {p2 : Pos} (hK : X.K = C.K) (hg : Gl X "isinstance") (hm : X.mg "isinstance" = none) (hg2 : Gl X y) (hm2 : X.mg y = none) (hb2 : bootBuiltins y = some (.type T.nm)) (ha : DP X C a ta wa)
    (hs : starEach [a, .Name y p2] X.env = (false, eval a X.env) :: starEach [.Name y p2] X.env := by rfl) (hpl : (backTo pos (starEach [.Name y p2] X.env)).any (·.1) = false := by rfl) (hny : y ≠ "__name__" := by decide) (hdy : (y == ("__debug__" : Str)) = false := by decide)
    (hs2 : starEach [.Name y p2] X.env = (false, eval (.Name y p2) X.env) :: starEach [] X.env := by rfl) :
    DE X C (.Call (.Name "isinstance" p) [a, .Name y p2] [] pos) (tCB (rIsi C.K) (tCons ta (tCons (tC (.ty T.nm)) tNil))) (wIsi T wa) :=
  ⟨pe_callB (hK ▸ call_isi) hg hm (by decide +kernel) (pa_cons ha.pe (pa_cons (pe_bltn (v := .ty T.nm) hg2 hm2 hb2 rfl hny hdy) pa_nil hs2) hs) (by decide) (by decide) hs hpl, ie_isi ha.ip⟩
def wIsi2 (T U : Ty) (wa : WE) : WE := fun s Q => wa s fun d s1 => Q (.bool (isA T d || isA U d)) s1
theorem de_isi2 (T U : Ty) {y z : Str} {p2 p3 p4 : Pos} {kk} (hK : X.K = C.K) (hg : Gl X "isinstance") (hm : X.mg "isinstance" = none) (hg2 : Gl X y) (hm2 : X.mg y = none) (hb2 : bootBuiltins y = some (.type T.nm))
    (hg3 : Gl X z) (hm3 : X.mg z = none) (hb3 : bootBuiltins z = some (.type U.nm)) (ha : DP X C a ta wa)
    (hs : starEach [a, .Tuple [.Name y p2, .Name z p3] kk p4] X.env = (false, eval a X.env) :: starEach [.Tuple [.Name y p2, .Name z p3] kk p4] X.env := by rfl) (hpl : (backTo pos (starEach [.Tuple [.Name y p2, .Name z p3] kk p4] X.env)).any (·.1) = false := by rfl)
    (hny : y ≠ "__name__" := by decide) (hdy : (y == ("__debug__" : Str)) = false := by decide) (hnz : z ≠ "__name__" := by decide) (hdz : (z == ("__debug__" : Str)) = false := by decide)
    (hs2 : starEach [.Tuple [.Name y p2, .Name z p3] kk p4] X.env = (false, eval (.Tuple [.Name y p2, .Name z p3] kk p4) X.env) :: starEach [] X.env := by rfl)
    (hs3 : starEach [.Name y p2, .Name z p3] X.env = (false, eval (.Name y p2) X.env) :: starEach [.Name z p3] X.env := by rfl) (hs4 : starEach [.Name z p3] X.env = (false, eval (.Name z p3) X.env) :: starEach [] X.env := by rfl) :
    DE X C (.Call (.Name "isinstance" p) [a, .Tuple [.Name y p2, .Name z p3] kk p4] [] pos) (tCB (rIsiT C.K) (tCons ta (tCons (tTup (tCons (tC (.ty T.nm)) (tCons (tC (.ty U.nm)) tNil))) tNil))) (wIsi2 T U wa) :=
  ⟨pe_callB (hK ▸ call_isiT) hg hm (by decide +kernel) (pa_cons ha.pe (pa_cons (pe_tup (pa_cons (pe_bltn (v := .ty T.nm) hg2 hm2 hb2 rfl hny hdy) (pa_cons (pe_bltn (v := .ty U.nm) hg3 hm3 hb3 rfl hnz hdz) pa_nil hs4) hs3)) pa_nil hs2) hs) (by decide) (by decide) hs hpl,
   fun G σ H s Q Q' r q k => ha.ip G σ H s _ _ r q fun v d s1 G1 H1 q1 r1 eg eh pk => ⟨(show 2 ≤ sizeLine by decide), fun tp htp => by
    have e : Ex H1 (upd H1 tp (.tup [.ty T.nm, .ty U.nm])) := Ex.new htp
    exact ⟨v, tp, _, _, _, isA T d || isA U d, rfl, upd_same, .cons (.ty _) (.cons (.ty _) .nil), tyx_D (dp_ex e (pk.dp r1.fin.gh)), kit2 (kt T d) (kt U d), k _ _ s1 G1 _ q1 (r1.aside e) eg (eh.trans (.side e)) (.bl _)⟩⟩⟩
/-! ### slices -/
def cutD (xs : List PyData) (lo hi : Option Int) : List PyData := (xs.drop (HT.sIx xs.length 0 lo)).take (HT.sIx xs.length xs.length hi - HT.sIx xs.length 0 lo)
theorem dpa_cut {K : PySem.W.Frag} {H : Hp} {xs : List V} {ds : List PyData} (h : DpAll K H xs ds) (lo hi : Option Int) : DpAll K H (cutV xs lo hi) (cutD ds lo hi) := by
  unfold cutV cutD
  rw [dpa_len h]
  exact dpa_take _ (dpa_drop _ h)
abbrev WO := Dt → (Option Int → Dt → Prop) → Prop
def IOp (C : Ct) (t : TO) (w : WO) : Prop := ∀ G σ H s Q Q', Rel C G σ H s → w s Q →
  (∀ o s' G' H', Q o s' → Rel C G' σ H' s' → Ex G G' → Gs C σ G H s G' H' s' → Q' o H') → t σ H Q'
structure DOp (X : Cx) (C : Ct) (e : Option Expr) (t : TO) (w : WO) : Prop where
  po : PO X e t
  io : IOp C t w
theorem do_none : DOp X C none tNoPart (fun s Q => Q none s) := ⟨po_none, fun G σ H s Q Q' r q k => k none s G H q r (Ex.refl G) Gs.refl⟩
theorem do_some (h : DE X C e t w) : DOp X C (some e) (tPart t) (fun s Q => w s fun d s1 => ∃ i, d = .int i ∧ Q (some i) s1) := ⟨po_some h.pe, fun G σ H s Q Q' r q k => h.ie G σ H s _ _ r q fun v d s1 G1 H1 q1 r1 eg eh p => by
  obtain ⟨i, rfl, q1⟩ := q1
  exact ⟨i, dp_int p, k (some i) s1 G1 H1 q1 r1 eg eh⟩⟩
variable {lo hi : Option Expr} {tl th : TO} {wl wh : WO} {p2 : Pos}
def wSlT (wa : WE) (wl wh : WO) : WE := fun s Q => wa s fun d s1 => wl s1 fun l s2 => wh s2 fun h s3 => ∃ ds, d = .tuple ds ∧ Q (.tuple (cutD ds l h)) s3
/-- t[lo:hi] -/
theorem de_slT (hK : X.K = C.K) (ha : DP X C a ta wa) (hl : DOp X C lo tl wl) (hh : DOp X C hi th wh) : DE X C (.Subscript a (.Slice lo hi none p2) pos) (tSl (rSlA C.K) ta tl th) (wSlT wa wl wh) := ⟨pe_slice (hK ▸ sl_tupA) ha.pe hl.po hh.po, fun G σ H s Q Q' r q k =>
  ha.ip G σ H s _ _ r q fun v d s1 G1 H1 q1 r1 eg1 eh1 pk => hl.io G1 σ H1 s1 _ _ r1 q1 fun l s2 G2 H2 q2 r2 eg2 eh2 => hh.io G2 σ H2 s2 _ _ r2 q2 fun h s3 G3 H3 q3 r3 eg3 eh3 => by
    obtain ⟨ds, rfl, q3⟩ := q3
    obtain ⟨p, xs, rfl, h1, h2⟩ := pk_tup pk
    have h1' := Evl.ex_t ((eg2.trans eg3).trans r3.fin.gh) h1
    have h2' := dpa_ex (eg2.trans eg3) h2
    refine ⟨p, xs, rfl, h1', fun hw => ?_, fun _ l hl => ?_⟩
    · have e : cutD ds l h = ds := by
        unfold cutD
        rw [dpa_len h2'] at hw
        rw [hw.1, hw.2, List.drop_zero, Nat.sub_zero, List.take_length]
      rw [e] at q3
      exact k _ _ s3 G3 H3 q3 r3 ((eg1.trans eg2).trans eg3) ((eh1.trans eh2).trans eh3) (.tup (Evl.ex_t (eg2.trans eg3) h1) h2')
    · obtain ⟨r4, eg, eh⟩ := r3.new (o := .tup (cutV xs _ _)) hl
      exact k _ _ s3 _ _ q3 r4 (((eg1.trans eg2).trans eg3).trans eg) (((eh1.trans eh2).trans eh3).trans eh) (.tup (.inl (.inl upd_same)) (dpa_ex eg (dpa_cut h2' _ _)))⟩
/-- xs[lo:hi], a new list -/
def wSlL (wa : WE) (wl wh : WO) : WA := fun s Q => wa s fun d s1 => wl s1 fun l s2 => wh s2 fun h s3 => ∃ ds, d = .list ds ∧ Q (cutD ds l h) s3
theorem do_slL (hK : X.K = C.K) (ha : DP X C a ta wa) (hl : DOp X C lo tl wl) (hh : DOp X C hi th wh) : DO X C (.Subscript a (.Slice lo hi none p2) pos) (tSl (rSlL C.K) ta tl th) (wSlL wa wl wh) := ⟨pe_slice (hK ▸ sl_list) ha.pe hl.po hh.po, fun G σ H s Q Q' r q k =>
  ha.ip G σ H s _ _ r q fun v d s1 G1 H1 q1 r1 eg1 eh1 pk => hl.io G1 σ H1 s1 _ _ r1 q1 fun l s2 G2 H2 q2 r2 eg2 eh2 => hh.io G2 σ H2 s2 _ _ r2 q2 fun h s3 G3 H3 q3 r3 eg3 eh3 => by
    obtain ⟨ds, rfl, q3⟩ := q3
    obtain ⟨p, xs, rfl, h1, h2⟩ := pk_lst ((pk.mono eg2 eh2.gr).mono eg3 eh3.gr) r3.fin.gh
    exact ⟨p, xs, rfl, h1, fun l hl => own_new r q3 r3 ((eg1.trans eg2).trans eg3) ((eh1.trans eh2).trans eh3) (dpa_cut h2 _ _) hl k⟩⟩
/-- s[lo:hi], a text -/
def wSlS (wa : WE) (wl wh : WO) : WE := fun s Q => wa s fun d s1 => wl s1 fun l s2 => wh s2 fun h s3 => ∃ z, d = .str z ∧ z.length ≤ 100000 ∧ Q (.str (cutS z l h)) s3
theorem de_slS (ha : DP X C a ta wa) (hl : DOp X C lo tl wl) (hh : DOp X C hi th wh) : DE X C (.Subscript a (.Slice lo hi none p2) pos) (tSl rSlS ta tl th) (wSlS wa wl wh) := ⟨pe_slice sl_str ha.pe hl.po hh.po, fun G σ H s Q Q' r q k =>
  ha.ip G σ H s _ _ r q fun v d s1 G1 H1 q1 r1 eg1 eh1 pk => hl.io G1 σ H1 s1 _ _ r1 q1 fun l s2 G2 H2 q2 r2 eg2 eh2 => hh.io G2 σ H2 s2 _ _ r2 q2 fun h s3 G3 H3 q3 r3 eg3 eh3 => by
    obtain ⟨z, rfl, hz, q3⟩ := q3
    exact ⟨z, pk_str pk, sz_of hz, k _ _ s3 G3 H3 q3 r3 ((eg1.trans eg2).trans eg3) ((eh1.trans eh2).trans eh3) (.str _)⟩⟩
/-- t[::-1], a tuple -/
def wRevT (wa : WE) : WE := fun s Q => wa s fun d s1 => ∃ ds, d = .tuple ds ∧ Q (.tuple ds.reverse) s1
theorem de_revT {k : Nat} {p1 p3 : Pos} (hK : X.K = C.K) (ha : DP X C a ta wa) : DE X C (.Subscript a (.Slice none none (some (.UnaryOp .USub (.Constant (.int 1) k p1) p2)) p3) pos) (tRevT C.K ta) (wRevT wa) := ⟨hK ▸ pe_revT ha.pe, fun G σ H s Q Q' r q k =>
  ha.ip G σ H s _ _ r q fun v d s1 G1 H1 q1 r1 eg1 eh1 pk => by
    obtain ⟨ds, rfl, q1⟩ := q1
    obtain ⟨p, xs, rfl, h1, h2⟩ := pk_tup pk
    refine ⟨p, xs, rfl, Evl.ex_t r1.fin.gh h1, fun l hl => ?_⟩
    obtain ⟨r4, eg, eh⟩ := r1.new (o := .tup xs.reverse) hl
    exact k _ _ s1 _ _ q1 r4 (eg1.trans eg) (eh1.trans eh) (.tup (.inl (.inl upd_same)) (dpa_ex eg (dpa_rev h2)))⟩
/-- -n -/
def wNeg (wa : WE) : WE := fun s Q => wa s fun d s1 => ∃ i, d = .int i ∧ Q (.int (-i)) s1
theorem de_neg (ha : DE X C a ta wa) : DE X C (.UnaryOp .USub a pos) (tUn (rU fun i => .int (-i)) ta) (wNeg wa) := ⟨pe_un un_neg ha.pe, fun G σ H s Q Q' r q k =>
  ha.ie G σ H s _ _ r q fun v d s1 G1 H1 q1 r1 eg1 eh1 p => by
    obtain ⟨i, rfl, q1⟩ := q1
    exact ⟨i, dp_int p, k _ _ s1 G1 H1 q1 r1 eg1 eh1 (.int _)⟩⟩
/-! ### calls of defs -/
abbrev FP := List PyData → (PyData → Prop) → Prop
abbrev FB := List PyData → Int → (PyData → Int → Prop) → Prop
/-- a def that only reads and makes data -/
def spP (K : PySem.W.Frag) (F : FP) : Sp := fun vs H Q _ => ∃ G ds R, Ex G H ∧ DpAll K G vs ds ∧ F ds R ∧
  ∀ v d G' H', R d → Ex G G' → Ex H H' → Ex G' H' → Nw G G' H → Dp K G' v d → Q v H'
/-- a def that draws: the box is its first argument -/
def spB (K : PySem.W.Frag) (F : FB) : Sp := fun vs H Q _ => ∃ l vs' G ds c R, vs = .ref l :: vs' ∧ BoxAt H l c ∧ G l = none ∧ Ex G H ∧ DpAll K G vs' ds ∧ F ds c R ∧
  ∀ v d c' G' H', R d c' → Ex G G' → (∀ b o, b ≠ l → H b = some o → H' b = some o) → BoxAt H' l c' → Ex G' H' → Nw G G' H → Dp K G' v d → Q v H'
def wCall (F : FP) (wA : WA) : WE := fun s Q => wA s fun ds s1 => F ds fun d => Q d s1
theorem ie_call {F : FP} {E : XK} (h : IA C tA wA) : IE C (tCall (spP C.K F) [] E tA) (wCall F wA) := fun G σ H s Q Q' r q k =>
  h G σ H s _ _ r q fun vs ds s1 G1 H1 q1 r1 eg eh p => ⟨G1, ds, _, r1.fin.gh, by rw [List.append_nil]; exact p, q1, fun v d G2 H2 q2 eg2 eh2 gh nw pd =>
    k v d s1 G2 H2 q2 (r1.grow eg2 eh2 gh nw) (eg.trans eg2) (eh.trans (.grow eh2 nw)) pd⟩
theorem de_call {F : FP} {k : Nat} {f : Addr} {fd : FuncData} {ps : List Str} (G : FnOk X.prog X.w X.K X.mg X.base CX0 k f fd ps (spP C.K F)) (hr : Room k X.A) (hg : Gl X x) (hm : X.mg x = some (.ref f)) (hk : PySem.W.keepIn X.K (.ref f) = true) (hb : Binds X.K fd ps [])
    (ha : DA X C (e :: es) tA wA) (hdb : (x == ("__debug__" : Str)) = false := by decide) (he : starEach (e :: es) X.env = (false, eval e X.env) :: starEach es X.env := by rfl) (hpl : (backTo pos (starEach es X.env)).any (·.1) = false := by rfl) :
    DE X C (.Call (.Name x p) (e :: es) [] pos) (tCall (spP C.K F) [] E0 tA) (wCall F wA) := ⟨pe_call G hr hg hm hk hb .nil pass0 ha.pa hdb he hpl, ie_call ha.ia⟩
/-- .. the box in slot i -/
def wCallB (i : Nat) (F : FB) (wA : WA) : WE := fun s Q => s.env[i]? = some (some .box) ∧ wA s fun ds s1 => F ds s1.c fun d c' => Q d ⟨s1.env, c'⟩
theorem ie_callB {F : FB} {E : XK} {i : Nat} (h : IA C tA wA) : IE C (tCall (spB C.K F) [] E (tCons (tVar i) tA)) (wCallB i F wA) := fun G σ H s Q Q' r q k => by
  obtain ⟨e, q⟩ := q
  obtain ⟨v, hv, l, hl, rfl⟩ := r.sl i _ e
  refine ⟨_, hv, h G σ H s _ _ r q fun vs ds s1 G1 H1 q1 r1 eg eh p => ⟨l, vs, G1, ds, s1.c, _, by rw [List.append_nil], (r1.fin.bx l hl).1, (r1.fin.bx l hl).2.1, r1.fin.gh, p, q1, fun v d c' G2 H2 q2 eg2 eh2 hb gh nw pd => ?_⟩⟩
  have gr : Gr C H1 H2 := fun b o hn hb => eh2 b o (fun z => hn (by rw [z]; exact hl)) hb
  refine k v d _ G2 H2 q2 (r1.step eg2 gr gh nw fun l' hl' => by rw [hl] at hl'; cases hl'; exact hb) (eg.trans eg2) (eh.trans ⟨gr, fun b h z => ?_, fun b h1 h2 _ => ?_, fun i x e m => ⟨x, e, m⟩⟩) pd
  · by_cases hb2 : b = l
    · exact hb.ne (hb2 ▸ z)
    · cases q : H1 b with
      | none => exact h q
      | some o => rw [eh2 b o hb2 q] at z; cases z
  · cases q : G2 b with
    | none => rfl
    | some o =>
      rcases nw b (by rw [q]; exact Option.some_ne_none _) with z | z
      · exact absurd h1 z
      · exact absurd z h2
theorem de_callB (i : Nat) {F : FB} {k : Nat} {f : Addr} {fd : FuncData} {ps : List Str} {y : Str} {p2 : Pos} (G : FnOk X.prog X.w X.K X.mg X.base CX0 k f fd ps (spB C.K F)) (hr : Room k X.A) (hg : Gl X x) (hm : X.mg x = some (.ref f)) (hk : PySem.W.keepIn X.K (.ref f) = true) (hb : Binds X.K fd ps [])
    (ha : DA X C es tA wA) (hv : PE X (.Name y p2) (tVar i) := by exact pv _) (hdb : (x == ("__debug__" : Str)) = false := by decide) (he : starEach (.Name y p2 :: es) X.env = (false, eval (.Name y p2) X.env) :: starEach es X.env := by rfl) (hpl : (backTo pos (starEach es X.env)).any (·.1) = false := by rfl) :
    DE X C (.Call (.Name x p) (.Name y p2 :: es) [] pos) (tCall (spB C.K F) [] E0 (tCons (tVar i) tA)) (wCallB i F wA) := ⟨pe_call G hr hg hm hk hb .nil pass0 (pa_cons hv ha.pa he) hdb he hpl, ie_callB ha.ia⟩
end
end Dw

namespace Dw
open PySem PySem.Spec PyProof.Rows L2 OgR Evl
/-! ### slots -/
def Dt.set (s : Dt) (i : Nat) (x : DV) : Dt := ⟨s.env.set i (some x), s.c⟩
section
variable {C : Ct} {G G' H H' : Hp} {σ : L2.St} {s : Dt} {c c' : Int}
theorem get_set {α : Type} {l : List (Option α)} {i j : Nat} {x y : α} (h : (l.set i (some x))[j]? = some (some y)) : (j = i ∧ y = x ∧ i < l.length) ∨ (j ≠ i ∧ l[j]? = some (some y)) := by
  by_cases z : j = i
  · subst z
    by_cases hl : j < l.length
    · rw [List.getElem?_set_self hl] at h
      cases h
      exact .inl ⟨rfl, rfl, hl⟩
    · rw [List.getElem?_eq_none (by rw [List.length_set]; omega)] at h
      cases h
  · rw [List.getElem?_set_ne (Ne.symm z)] at h
    exact .inr ⟨z, h⟩
theorem Rel.put (r : Rel C G σ H s) {i : Nat} {v : V} {x : DV} (rv : RV C G H v x) (hd : x.mut = true → ∀ (j : Nat) y p, s.env[j]? = some (some y) → y.mut = true → v = .ref p → σ[j]? ≠ some (some (.ref p))) : Rel C G (σ.set i (some v)) H (s.set i x) := by
  refine ⟨r.fin, by show (s.env.set i _).length = _; rw [List.length_set, List.length_set]; exact r.len, fun j y e => ?_, fun j k y z p hne e1 e2 m1 m2 hs => ?_⟩
  · rcases get_set e with ⟨rfl, rfl, hl⟩ | ⟨z, e⟩
    · exact ⟨v, List.getElem?_set_self (by rw [← r.len]; exact hl), rv⟩
    · obtain ⟨v', hv, rv'⟩ := r.sl j y e
      exact ⟨v', by rw [List.getElem?_set_ne (Ne.symm z)]; exact hv, rv'⟩
  · rcases get_set e1 with ⟨w1, w2, hl⟩ | ⟨z1, f1⟩
    · rcases get_set e2 with ⟨w3, _, _⟩ | ⟨z2, f2⟩
      · exact absurd (w1.trans w3.symm) hne
      · subst w1
        subst w2
        rw [List.getElem?_set_self (by rw [← r.len]; exact hl)] at hs
        cases hs
        rw [List.getElem?_set_ne (Ne.symm z2)]
        exact hd m1 k z p f2 m2 rfl
    · rw [List.getElem?_set_ne (Ne.symm z1)] at hs
      rcases get_set e2 with ⟨w1, w2, hl⟩ | ⟨z2, f2⟩
      · subst w1
        subst w2
        rw [List.getElem?_set_self (by rw [← r.len]; exact hl)]
        intro q
        cases q
        exact hd m2 j y p f1 m1 rfl hs
      · rw [List.getElem?_set_ne (Ne.symm z2)]
        exact r.dis j k y z p hne f1 f2 m1 m2 hs
theorem Rel.putd (r : Rel C G σ H s) {i : Nat} {v : V} {d : PyData} (rv : Dp C.K G v d) : Rel C G (σ.set i (some v)) H (s.set i (.d d)) := r.put (x := .d d) rv fun m => nomatch m
/-- a list of the def's own changes -/
theorem Rel.mutl (r : Rel C G σ H s) {i : Nat} {p : Addr} {ds ds' : List PyData} {xs' : List V} (e : s.env[i]? = some (some (.own ds))) (hs : σ[i]? = some (some (.ref p))) (hd : DpAll C.K G xs' ds') : Rel C G σ (upd H p (.lst xs')) (s.set i (.own ds')) := by
  obtain ⟨v, hv, p', xs, hvp, h1, h2, h3, h4⟩ := r.sl i _ e
  rw [hs] at hv
  cases hv
  cases hvp
  have gp : ∀ b, G b ≠ none → b ≠ p := fun b hb z => hb (by rw [z]; exact h3)
  refine ⟨⟨fun b o hb => ?_, r.fin.g0, r.fin.nw, fun b o n hb => ?_, fun l hl => ?_⟩, by show (s.env.set i _).length = _; rw [List.length_set]; exact r.len, fun j y ej => ?_, fun j k y z q hne e1 e2 m1 m2 => ?_⟩
  · rw [upd_ne (gp b (by rw [hb]; exact Option.some_ne_none _))]
    exact r.fin.gh b o hb
  · rw [upd_ne (fun z => by rw [z, h2] at hb; cases hb)]
    exact r.fin.hh b o n hb
  · have hlp : l ≠ p := fun z => r.fin.nbx h2 (by rw [← z]; exact hl)
    refine ⟨(r.fin.bx l hl).1.keep fun o q => ?_, (r.fin.bx l hl).2⟩
    rw [upd_ne hlp]
    exact q
  · rcases get_set ej with ⟨rfl, rfl, hl⟩ | ⟨z, ej⟩
    · exact ⟨_, hs, p, xs', rfl, upd_same, h2, h3, hd⟩
    · obtain ⟨v', hv', rv⟩ := r.sl j y ej
      refine ⟨v', hv', ?_⟩
      cases y with
      | d x => exact rv
      | box => exact rv
      | own ds2 =>
        obtain ⟨p2, xs2, a1, a2, a3, a4, a5⟩ := rv
        exact ⟨p2, xs2, a1, by rw [upd_ne fun z' => r.dis i j _ _ p (Ne.symm z) e ej rfl rfl hs (by rw [hv', a1, z'])]; exact a2, a3, a4, a5⟩
      | dic ks =>
        obtain ⟨p2, xs2, a1, a2, a3, a4, a5⟩ := rv
        exact ⟨p2, xs2, a1, by rw [upd_ne fun z' => r.dis i j _ _ p (Ne.symm z) e ej rfl rfl hs (by rw [hv', a1, z'])]; exact a2, a3, a4, a5⟩
      | dit ks =>
        obtain ⟨p2, xs2, a1, a2, a3, a4, a5⟩ := rv
        exact ⟨p2, xs2, a1, by rw [upd_ne fun z' => r.dis i j _ _ p (Ne.symm z) e ej rfl rfl hs (by rw [hv', a1, z'])]; exact a2, a3, a4, a5⟩
      | oth φ => exact Oth.step (φ := φ) rv (Ex.refl G) (Kept.upd h1 rfl)
      | dd ks =>
        obtain ⟨p2, xs2, a1, a2, a5⟩ := rv
        exact ⟨p2, xs2, a1, a2.upd h1 h2 (fun _ _ z => by cases z), a5⟩
  · have go : ∀ (j : Nat) y, (s.set i (.own ds')).env[j]? = some (some y) → y.mut = true → ∃ y', s.env[j]? = some (some y') ∧ y'.mut = true := fun j y ej m => by
      rcases get_set ej with ⟨rfl, rfl, hl⟩ | ⟨z, ej⟩
      · exact ⟨_, e, rfl⟩
      · exact ⟨y, ej, m⟩
    obtain ⟨y', f1, n1⟩ := go j y e1 m1
    obtain ⟨z', f2, n2⟩ := go k z e2 m2
    exact r.dis j k y' z' q hne f1 f2 n1 n2
end
/-! ### targets -/
abbrev WG := PyData → Dt → (Dt → Prop) → Prop
abbrev WGs := List PyData → Dt → (Dt → Prop) → Prop
def IG (C : Ct) (g : TG) (ks : List Nat) (w : WG) : Prop := ∀ G σ H s v d Q Q', Rel C G σ H s → Dp C.K G v d → w d s Q →
  (∀ σ' s', Q s' → Rel C G σ' H s' → σ'.length = σ.length → (∀ j : Nat, j ∉ ks → σ'[j]? = σ[j]?) → Q' σ' H) → g v σ H Q'
def IGs (C : Ct) (g : TGs) (ks : List Nat) (w : WGs) : Prop := ∀ G σ H s vs ds Q Q', Rel C G σ H s → DpAll C.K G vs ds → w ds s Q →
  (∀ σ' s', Q s' → Rel C G σ' H s' → σ'.length = σ.length → (∀ j : Nat, j ∉ ks → σ'[j]? = σ[j]?) → Q' σ' H) → g vs σ H Q'
structure DG (X : Cx) (C : Ct) (e : Expr) (g : TG) (ks : List Nat) (w : WG) : Prop where
  pg : PG X e g
  ig : IG C g ks w
structure DGs (X : Cx) (C : Ct) (es : List Expr) (g : TGs) (ks : List Nat) (w : WGs) : Prop where
  pg : PGs X es g
  ig : IGs C g ks w
section
variable {X : Cx} {C : Ct} {a b e tg : Expr} {es : List Expr} {pos p : Pos} {t ta tb tc : TE} {w wa wb wc : WE} {tA : TA} {wA : WA} {x : Str}
def wName (i : Nat) : WG := fun d s Q => Q (s.set i (.d d))
theorem ig_name (i : Nat) : IG C (gName i) [i] (wName i) := fun G σ H s v d Q Q' r p q k =>
  k _ _ q (r.putd p) (List.length_set ..) fun j hj => List.getElem?_set_ne (fun z => hj (by simp [z]))
theorem dg_name (i : Nat) (hN : X.N.Nodup) (hi : X.N[i]? = some x := by rfl) (hx : Loc X.env.scope x := by first | exact .inl rfl | exact .inr rfl) (hf : X.fn x = true ∨ X.env.scope.names.lookup x = some .local := by first | exact .inl rfl | exact .inr rfl | assumption) : DG X C (.Name x pos) (gName i) [i] (wName i) :=
  ⟨pg_name hN hi hx hf, ig_name i⟩
def wGNil : WGs := fun ds s Q => ds = [] ∧ Q s
def wGCons (w : WG) (u : WGs) : WGs := fun ds s Q => ∃ d r, ds = d :: r ∧ w d s fun s' => u r s' Q
theorem dgs_nil : DGs X C [] gNil [] wGNil := ⟨pgs_nil, fun G σ H s vs ds Q Q' r p q k => by
  obtain ⟨rfl, q⟩ := q
  cases p
  exact ⟨rfl, k σ s q r rfl fun _ _ => rfl⟩⟩
theorem dgs_cons {g : TG} {gs : TGs} {k1 k2 : List Nat} {w : WG} {u : WGs} (h1 : DG X C e g k1 w) (h2 : DGs X C es gs k2 u) (hs : PGs X (e :: es) (gCons g gs) := by exact pgs_cons (DG.pg (by assumption)) (DGs.pg (by assumption))) : DGs X C (e :: es) (gCons g gs) (k1 ++ k2) (wGCons w u) := ⟨hs, fun G σ H s vs ds Q Q' r p q k => by
  obtain ⟨d, ds', rfl, q⟩ := q
  cases p with
  | @cons v vs' _ _ p1 p2 =>
    refine ⟨v, vs', rfl, h1.ig G σ H s v d _ _ r p1 q fun σ1 s1 q1 r1 l1 f1 => h2.ig G σ1 H s1 vs' ds' _ _ r1 p2 q1 fun σ2 s2 q2 r2 l2 f2 => k σ2 s2 q2 r2 (l2.trans l1) fun j hj => ?_⟩
    rw [List.mem_append, not_or] at hj
    rw [f2 j hj.2, f1 j hj.1]⟩
def wGTup (n : Nat) (u : WGs) : WG := fun d s Q => seqd d = true ∧ (its d).length = n ∧ u (its d) s Q
theorem ig_tup {n : Nat} {g : TGs} {ks : List Nat} {u : WGs} (h : IGs C g ks u) : IG C (gSeqB C.K n g) ks (wGTup n u) := fun G σ H s v d Q Q' r p q k => by
  obtain ⟨hs, hl, q⟩ := q
  obtain ⟨a, xs, rfl, h1, h2⟩ := (show Pk C G H v d from .inl p).seq r.fin.gh hs
  exact ⟨isT d, a, xs, rfl, h1, by rw [dpa_len h2]; exact hl, h G σ H s xs (its d) Q Q' r h2 q k⟩
theorem dg_tup {n : Nat} {g : TGs} {ks : List Nat} {u : WGs} {k : Nat} (hK : X.K = C.K) (hc : X.calm = true) (h : DGs X C es g ks u) (hn : (assignEach es X.env).length = n := by rfl) (hst : (assignEach es X.env).findIdx? (·.1) = none := by rfl) :
    DG X C (.Tuple es k pos) (gSeqB C.K n g) ks (wGTup n u) := ⟨hK ▸ pg_seqB hc h.pg hn hst, ig_tup h.ig⟩
/-! ### what is walked -/
def ItD (C : Ct) (G1 : Hp) (J : It) (ds : List PyData) : Prop := ∀ G2 H2, Ex G1 G2 → Ex G2 H2 → (∀ (i : Nat) d, ds[i]? = some d → J.go i H2 ∧ ∀ x H3, J.yld i H2 x H3 → ∃ G3, Ex G2 G3 ∧ Ex H2 H3 ∧ Ex G3 H3 ∧ Nw G2 G3 H2 ∧ Dp C.K G3 x d) ∧ J.stop ds.length H2
def II (C : Ct) (wi : TI) (w : WA) : Prop := ∀ G σ H s Q R, Rel C G σ H s → w s Q →
  (∀ J ds s' G' H', Q ds s' → Rel C G' σ H' s' → Ex G G' → Gs C σ G H s G' H' s' → ItD C G' J ds → R J H') → wi σ H R
structure DI (X : Cx) (C : Ct) (tg iter : Expr) (wi : TI) (w : WA) : Prop where
  pi : PI X tg iter wi
  ii : II C wi w
def wSeq (w : WE) : WA := fun s Q => w s fun d s1 => seqd d = true ∧ Q (its d) s1
theorem dp_seq {G H : Hp} {v : V} {d : PyData} (h : Dp C.K G v d) (hs : seqd d = true) : ∃ p xs, v = .ref p ∧ SqB C.K (isT d) G p xs ∧ DpAll C.K G xs (its d) := (show Pk C G G v d from .inl h).seq (Ex.refl G) hs
theorem itd_seq {G : Hp} {p : Addr} {b : Bool} {xs : List V} {ds : List PyData} (h1 : SqB C.K b G p xs) (h2 : DpAll C.K G xs ds) : ItD C G (ItsB C.K b p) ds := fun G2 H2 e1 e2 => by
  have h1' := SqB.ex (e1.trans e2) h1
  refine ⟨fun i d hd => ?_, xs, h1', by rw [dpa_len h2]; exact Nat.le_refl _⟩
  obtain ⟨v, hv, pv⟩ := dpa_back h2 hd
  refine ⟨⟨xs, v, h1', hv⟩, fun x H3 y => ?_⟩
  obtain ⟨rfl, hy⟩ := y
  have e := hy xs h1'
  rw [hv] at e
  cases e
  exact ⟨G2, Ex.refl _, Ex.refl _, e2, Nw.refl _ _, dp_ex e1 pv⟩
theorem di_seq (hK : X.K = C.K) (h : DE X C e t w) : DI X C tg e (iSeqB C.K t) (wSeq w) := ⟨hK ▸ pi_seqB h.pe, fun G σ H s Q R r q k => h.ie G σ H s _ _ r q fun v d s1 G1 H1 q1 r1 eg eh p => by
  obtain ⟨hs, q1⟩ := q1
  obtain ⟨a, xs, rfl, h1, h2⟩ := dp_seq (H := H1) p hs
  exact ⟨isT d, a, xs, rfl, SqB.ex r1.fin.gh h1, k _ _ s1 G1 H1 q1 r1 eg eh (itd_seq h1 h2)⟩⟩
def wRng1 (w : WE) : WA := fun s Q => w s fun d s1 => ∃ j : Int, d = .int j ∧ -(2 ^ 62) ≤ j ∧ j < 2 ^ 62 ∧ Q (iotaD 0 j) s1
theorem iota_get {a b : Int} {i : Nat} {d : PyData} (h : (iotaD a b)[i]? = some d) : i < (b - a).toNat ∧ d = .int (a + i) := by
  unfold iotaD at h
  rw [List.getElem?_map] at h
  cases q : (List.range (b - a).toNat)[i]? with
  | none => rw [q] at h; cases h
  | some m =>
    rw [q] at h
    have h1 := List.getElem?_eq_some_iff.mp q
    obtain ⟨h2, h3⟩ := h1
    rw [List.getElem_range] at h3
    rw [List.length_range] at h2
    subst h3
    exact ⟨h2, by simpa using h.symm⟩
theorem iota_len (a b : Int) : (iotaD a b).length = (b - a).toNat := by unfold iotaD; rw [List.length_map, List.length_range]
theorem itd_rng {G : Hp} {a b : Int} : ItD C G (Itr a (b - a).toNat) (iotaD a b) := fun G2 H2 e1 e2 => by
  refine ⟨fun i d hd => ?_, by rw [iota_len]; exact Nat.le_refl _⟩
  obtain ⟨h1, rfl⟩ := iota_get hd
  refine ⟨h1, fun x H3 y => ?_⟩
  obtain ⟨rfl, rfl⟩ := y
  exact ⟨G2, Ex.refl _, Ex.refl _, e2, Nw.refl _ _, .int _⟩
theorem di_rng1 (hg : Gl X "range") (hm : X.mg "range" = none) (h : DE X C a ta wa) (hs : starEach [a] X.env = [(false, eval a X.env)] := by rfl) (hs2 : starEach [a] X.env = (false, eval a X.env) :: starEach [] X.env := by rfl) :
    DI X C tg (.Call (.Name "range" p) [a] [] pos) (iRng1 (tCons ta tNil)) (wRng1 wa) := ⟨pi_range1 hg hm (pa_cons h.pe pa_nil hs2) hs, fun G σ H s Q R r q k => h.ie G σ H s _ _ r q fun v d s1 G1 H1 q1 r1 eg eh p => by
  obtain ⟨j, rfl, h1, h2, q1⟩ := q1
  refine ⟨j, by rw [dp_int p], h1, h2, ?_⟩
  have := itd_rng (C := C) (G := G1) (a := 0) (b := j)
  rw [Int.sub_zero] at this
  exact k _ _ s1 G1 H1 q1 r1 eg eh this⟩
/-- enumerate -/
def enumD (ds : List PyData) : List PyData := ds.mapIdx fun i d => .tuple [.int (i : Nat), d]
def wEnum (w : WE) : WA := fun s Q => w s fun d s1 => seqd d = true ∧ Q (enumD (its d)) s1
theorem itd_enum {G : Hp} {p : Addr} {b : Bool} {xs : List V} {ds : List PyData} (h1 : SqB C.K b G p xs) (h2 : DpAll C.K G xs ds) : ItD C G (IteB C.K b p) (enumD ds) := fun G2 H2 e1 e2 => by
  have h1' := SqB.ex (e1.trans e2) h1
  refine ⟨fun i d hd => ?_, xs, h1', by unfold enumD; rw [List.length_mapIdx]; exact dpa_len h2⟩
  unfold enumD at hd
  rw [List.getElem?_mapIdx] at hd
  cases q : ds[i]? with
  | none => rw [q] at hd; cases hd
  | some z =>
    rw [q] at hd
    cases hd
    obtain ⟨v, hv, pv⟩ := dpa_back h2 q
    refine ⟨⟨xs, v, h1', hv⟩, fun x H3 y => ?_⟩
    obtain ⟨T, v2, rfl, hT, rfl, hy⟩ := y
    have e := hy xs h1'
    rw [hv] at e
    cases e
    have g1 : G2 T = none := fresh_back e2 hT
    exact ⟨upd G2 T (.tup [.int (i : Nat), v]), Ex.new g1, Ex.new hT, Ex.both e2 hT, Nw.one hT, .tup (.inl (.inl upd_same)) (.cons (.int _) (.cons (dp_ex (e1.trans (Ex.new g1)) pv) .nil))⟩
theorem di_enum {elts : List Expr} {kk : Nat} {tpos : Pos} (hK : X.K = C.K) (hg : Gl X "enumerate") (hm : X.mg "enumerate" = none) (h : DE X C a ta wa) (hs : starEach [a] X.env = [(false, eval a X.env)] := by rfl) (hs2 : starEach [a] X.env = (false, eval a X.env) :: starEach [] X.env := by rfl) :
    DI X C (.Tuple elts kk tpos) (.Call (.Name "enumerate" p) [a] [] pos) (iEnumB C.K (tCons ta tNil)) (wEnum wa) := ⟨hK ▸ pi_enumB hg hm (pa_cons h.pe pa_nil hs2) hs, fun G σ H s Q R r q k => h.ie G σ H s _ _ r q fun v d s1 G1 H1 q1 r1 eg eh p => by
  obtain ⟨hs, q1⟩ := q1
  obtain ⟨a, xs, rfl, h1, h2⟩ := dp_seq (H := H1) p hs
  exact ⟨isT d, a, xs, rfl, SqB.ex r1.fin.gh h1, k _ _ s1 G1 H1 q1 r1 eg eh (itd_enum h1 h2)⟩⟩
/-- zip of two -/
def zipD (ds es : List PyData) : List PyData := List.zipWith (fun d e => .tuple [d, e]) ds es
def wZip (w u : WE) : WA := fun s Q => w s fun d s1 => u s1 fun e s2 => seqd d = true ∧ seqd e = true ∧ Q (zipD (its d) (its e)) s2
theorem itd_zip {G : Hp} {p p' : Addr} {b b' : Bool} {xs xs' : List V} {ds ds' : List PyData} (h1 : SqB C.K b G p xs) (h2 : DpAll C.K G xs ds) (h1' : SqB C.K b' G p' xs') (h2' : DpAll C.K G xs' ds') : ItD C G (ItzB C.K b b' p p') (zipD ds ds') := fun G2 H2 e1 e2 => by
  have k1 := SqB.ex (e1.trans e2) h1
  have k2 := SqB.ex (e1.trans e2) h1'
  have l1 := dpa_len h2
  have l2 := dpa_len h2'
  refine ⟨fun i d hd => ?_, xs, xs', k1, k2, ?_, ?_, ?_⟩
  · unfold zipD at hd
    rw [List.getElem?_zipWith] at hd
    cases q : ds[i]? with
    | none => rw [q] at hd; cases hd
    | some z =>
      cases q' : ds'[i]? with
      | none => rw [q, q'] at hd; cases hd
      | some z' =>
        rw [q, q'] at hd
        cases hd
        obtain ⟨v, hv, pv⟩ := dpa_back h2 q
        obtain ⟨v', hv', pv'⟩ := dpa_back h2' q'
        refine ⟨⟨xs, xs', v, v', k1, k2, hv, hv'⟩, fun x H3 y => ?_⟩
        obtain ⟨T, u, u', rfl, hT, rfl, hy, hy'⟩ := y
        have e := hy xs k1
        rw [hv] at e
        cases e
        have e := hy' xs' k2
        rw [hv'] at e
        cases e
        have g1 : G2 T = none := fresh_back e2 hT
        exact ⟨upd G2 T (.tup [v, v']), Ex.new g1, Ex.new hT, Ex.both e2 hT, Nw.one hT, .tup (.inl (.inl upd_same)) (.cons (dp_ex (e1.trans (Ex.new g1)) pv) (.cons (dp_ex (e1.trans (Ex.new g1)) pv') .nil))⟩
  all_goals unfold zipD; rw [List.length_zipWith]; omega
theorem di_zip {elts : List Expr} {kk : Nat} {tpos : Pos} (hK : X.K = C.K) (hg : Gl X "zip") (hm : X.mg "zip" = none) (h : DE X C a ta wa) (h' : DE X C b tb wb) (hpi : PI X (.Tuple elts kk tpos) (.Call (.Name "zip" p) [a, b] [] pos) (iZipB X.K (tCons ta (tCons tb tNil)))) :
    DI X C (.Tuple elts kk tpos) (.Call (.Name "zip" p) [a, b] [] pos) (iZipB C.K (tCons ta (tCons tb tNil))) (wZip wa wb) := ⟨hK ▸ hpi, fun G σ H s Q R r q k => h.ie G σ H s _ _ r q fun v d s1 G1 H1 q1 r1 eg eh p =>
  h'.ie G1 σ H1 s1 _ _ r1 q1 fun v' d' s2 G2 H2 q2 r2 eg2 eh2 p' => by
  obtain ⟨hs, hs', q2⟩ := q2
  obtain ⟨a, xs, rfl, h1, h2⟩ := dp_seq (H := H1) (dp_ex eg2 p) hs
  obtain ⟨a', xs', rfl, h1', h2'⟩ := dp_seq (H := H2) p' hs'
  exact ⟨isT d, isT d', a, a', xs, xs', rfl, SqB.ex r2.fin.gh h1, SqB.ex r2.fin.gh h1', k _ _ s2 G2 H2 q2 r2 (eg.trans eg2) (eh.trans eh2) (itd_zip h1 h2 h1' h2')⟩⟩
/-- a text, sign by sign -/
def signsD (z : Str) : List PyData := z.cps.toList.map fun c => .str ⟨#[c]⟩
def wSigns (w : WE) : WA := fun s Q => w s fun d s1 => ∃ z, d = .str z ∧ Q (signsD z) s1
end
/-! ### statements -/
structure DEnds where
  nx : Dt → Prop
  rt : PyData → Int → Prop
  bk : Dt → Prop := fun _ => False
  ct : Dt → Prop := fun _ => False
abbrev WS := DEnds → Dt → Prop
structure Outs (C : Ct) (G : Hp) (D : Ends) (DD : DEnds) : Prop where
  nx : ∀ σ' H' s' G', DD.nx s' → Rel C G' σ' H' s' → Ex G G' → D.nx σ' H'
  bk : ∀ σ' H' s' G', DD.bk s' → Rel C G' σ' H' s' → Ex G G' → D.bk σ' H'
  ct : ∀ σ' H' s' G', DD.ct s' → Rel C G' σ' H' s' → Ex G G' → D.ct σ' H'
  rt : ∀ v d c' G' H', DD.rt d c' → Fin C G' H' c' → Ex G G' → Dp C.K G' v d → D.rt v H'
theorem Outs.mono {C : Ct} {G G1 : Hp} {D : Ends} {DD : DEnds} (o : Outs C G D DD) (e : Ex G G1) : Outs C G1 D DD :=
  ⟨fun σ H s G' a b c => o.nx σ H s G' a b (e.trans c), fun σ H s G' a b c => o.bk σ H s G' a b (e.trans c), fun σ H s G' a b c => o.ct σ H s G' a b (e.trans c), fun v d c' G' H' a b c p => o.rt v d c' G' H' a b (e.trans c) p⟩
def IS (C : Ct) (t : TS) (w : WS) : Prop := ∀ G σ H s D DD, Rel C G σ H s → w DD s → Outs C G D DD → t D σ H
structure DS (X : Cx) (C : Ct) (st : Stmt) (t : TS) (w : WS) : Prop where
  ps : PS X st t
  is : IS C t w
structure DSs (X : Cx) (C : Ct) (st : List Stmt) (t : TS) (w : WS) : Prop where
  ps : PSs X st t
  is : IS C t w
section
variable {X : Cx} {C : Ct} {a b e tg : Expr} {es : List Expr} {pos p : Pos} {t ta tb tc : TE} {w wa wb wc : WE} {tA : TA} {wA : WA} {x : Str} {st : Stmt} {sts : List Stmt} {u v : TS} {wu wv : WS}
def wNext : WS := fun DD s => DD.nx s
def wSq (w u : WS) : WS := fun DD s => w { DD with nx := u DD } s
theorem is_seq (h : IS C u wu) (h2 : IS C v wv) : IS C (tSeq u v) (wSq wu wv) := fun G σ H s D DD r q o =>
  h G σ H s _ _ r q ⟨fun σ' H' s' G' n r' e => h2 G' σ' H' s' D DD r' n (o.mono e), o.bk, o.ct, o.rt⟩
theorem dss_nil : DSs X C [] tNext wNext := ⟨pss_nil, fun G σ H s D DD r q o => o.nx σ H s G q r (Ex.refl G)⟩
theorem dss_cons (h : DS X C st u wu) (h2 : DSs X C sts v wv) : DSs X C (st :: sts) (tSeq u v) (wSq wu wv) := ⟨pss_cons h.ps h2.ps, is_seq h.is h2.is⟩
/-- a statement that several ways lead out of: what holds behind it, said once -/
def wSqC (w u : WS) : WS := fun DD s => ∃ P : Dt → Prop, w { DD with nx := P } s ∧ ∀ s', P s' → u DD s'
theorem dss_cut (h : DS X C st u wu) (h2 : DSs X C sts v wv) : DSs X C (st :: sts) (tSeq u v) (wSqC wu wv) := ⟨pss_cons h.ps h2.ps, fun G σ H s D DD r q o => by
  obtain ⟨P, q1, q2⟩ := q
  exact h.is G σ H s _ _ r q1 ⟨fun σ' H' s' G' n r' e => h2.is G' σ' H' s' D DD r' (q2 s' n) (o.mono e), o.bk, o.ct, o.rt⟩⟩
theorem dss_one (h : DS X C st u wu) : DSs X C [st] u wu := ⟨pss_one h.ps, h.is⟩
theorem ds_doc {x : Str} {j pos'} : DS X C (.Expr (.Constant (.str x) j pos) pos') tNext wNext := ⟨ps_doc, fun G σ H s D DD r q o => o.nx σ H s G q r (Ex.refl G)⟩
theorem ds_pass : DS X C (.Pass pos) tNext wNext := ⟨ps_pass, fun G σ H s D DD r q o => o.nx σ H s G q r (Ex.refl G)⟩
theorem ds_break : DS X C (.Break pos) tBreak (fun DD s => DD.bk s) := ⟨ps_break, fun G σ H s D DD r q o => o.bk σ H s G q r (Ex.refl G)⟩
theorem ds_continue : DS X C (.Continue pos) tCont (fun DD s => DD.ct s) := ⟨ps_continue, fun G σ H s D DD r q o => o.ct σ H s G q r (Ex.refl G)⟩
theorem ds_never : DS X C st tNever (fun _ _ => False) := ⟨ps_never, fun G σ H s D DD r q o => q.elim⟩
def wRet (w : WE) : WS := fun DD s => w s fun d s1 => DD.rt d s1.c
theorem ds_ret (h : DE X C e t w) : DS X C (.Return (some e) pos) (tRet t) (wRet w) := ⟨ps_ret h.pe, fun G σ H s D DD r q o => h.ie G σ H s _ _ r q fun v d s1 G1 H1 q1 r1 eg eh p => o.rt v d s1.c G1 H1 q1 r1.fin eg p⟩
theorem ds_retN : DS X C (.Return none pos) tRetN (fun DD s => DD.rt .none s.c) := ⟨ps_retN, fun G σ H s D DD r q o => o.rt .non .none s.c G H q r.fin (Ex.refl G) .non⟩
def wIfS (c : WT) (u v : WS) : WS := fun DD s => c s fun b s1 => if b = true then u DD s1 else v DD s1
theorem ds_if {c : Expr} {l1 l2 : List Stmt} {tc : TT} {wc : WT} (hc : DT X C c tc wc) (h1 : DSs X C l1 u wu) (h2 : DSs X C l2 v wv) : DS X C (.If c l1 l2 pos) (tIfS tc u v) (wIfS wc wu wv) := ⟨ps_if hc.pt h1.ps h2.ps, fun G σ H s D DD r q o =>
  hc.it G σ H s _ _ r q fun b s1 G1 H1 q1 r1 eg eh => by
    cases b with
    | true =>
      rw [if_pos rfl] at q1
      exact iteT (h1.is G1 σ H1 s1 D DD r1 q1 (o.mono eg))
    | false =>
      rw [if_neg (by decide)] at q1
      exact iteF (h2.is G1 σ H1 s1 D DD r1 q1 (o.mono eg))⟩
def wDrop (w : WE) : WS := fun DD s => w s fun _ s1 => DD.nx s1
theorem ds_expr (h : DE X C e t w) (hs : swapsWith e none pos.line X.env = pure false := by rfl) : DS X C (.Expr e pos) (tDrop t) (wDrop w) := ⟨ps_expr h.pe hs, fun G σ H s D DD r q o => h.ie G σ H s _ _ r q fun v d s1 G1 H1 q1 r1 eg eh p => o.nx σ H1 s1 G1 q1 r1 eg⟩
/-- target = e -/
def wAsg (w : WE) (g : WG) : WS := fun DD s => w s fun d s1 => g d s1 DD.nx
theorem is_asg {g : TG} {ks : List Nat} {wg : WG} (h : IE C t w) (hg : IG C g ks wg) : IS C (tAsg t g) (wAsg w wg) := fun G σ H s D DD r q o =>
  h G σ H s _ _ r q fun v d s1 G1 H1 q1 r1 eg eh p => hg G1 σ H1 s1 v d _ _ r1 p q1 fun σ' s' q2 r2 _ _ => o.nx σ' H1 s' G1 q2 r2 eg
theorem ds_asg {g : TG} {ks : List Nat} {wg : WG} (h : DE X C e t w) (hg : DG X C tg g ks wg) (hs : swapsWithSole [tg] e pos.line X.env = pure false := by rfl) (hw : swappedStores [tg] e X.env = pure none := by rfl)
    (h1 : (assignEach [tg] X.env).map (·.2) = [assign tg X.env] := by rfl) : DS X C (.Assign [tg] e pos) (tAsg t g) (wAsg w wg) := ⟨ps_asg h.pe hg.pg hs hw h1, is_asg h.ie hg.ig⟩
theorem ds_set (i : Nat) {pos' : Pos} (hN : X.N.Nodup) (h : DE X C e t w) (hi : X.N[i]? = some x := by rfl) (hx : Loc X.env.scope x := by first | exact .inl rfl | exact .inr rfl) (hs : swapsWith e (some (.Name x pos')) pos.line X.env = pure false := by rfl)
    (hf : X.fn x = true ∨ X.env.scope.names.lookup x = some .local := by first | exact .inl rfl | exact .inr rfl | assumption) : DS X C (.Assign [.Name x pos'] e pos) (tAsg t (gName i)) (wAsg w (wName i)) := ⟨ps_set hN hi hx h.pe hs hf, is_asg h.ie (ig_name i)⟩
/-- name = a new list of the def's own -/
def wOwn (i : Nat) (w : WA) : WS := fun DD s => w s fun ds s1 => DD.nx (s1.set i (.own ds))
theorem is_own {i : Nat} {w : WA} (h : IO C t w) : IS C (tAsg t (gName i)) (wOwn i w) := fun G σ H s D DD r q o =>
  h G σ H s _ _ r q fun p xs ds s1 G1 H1 q1 r1 eg eh hp h1 h2 h3 h4 => o.nx _ H1 _ G1 q1 (r1.put (x := .own ds) ⟨p, xs, rfl, h1, r.fin.h0 hp, h2, h3⟩ fun _ j y p' ej m z => by
    cases z
    exact h4 j y ej m) eg
theorem ds_own (i : Nat) {w : WA} {pos' : Pos} (hN : X.N.Nodup) (h : DO X C e t w) (hi : X.N[i]? = some x := by rfl) (hx : Loc X.env.scope x := by first | exact .inl rfl | exact .inr rfl) (hs : swapsWith e (some (.Name x pos')) pos.line X.env = pure false := by rfl)
    (hf : X.fn x = true ∨ X.env.scope.names.lookup x = some .local := by first | exact .inl rfl | exact .inr rfl | assumption) : DS X C (.Assign [.Name x pos'] e pos) (tAsg t (gName i)) (wOwn i w) := ⟨ps_set hN hi hx h.pe hs hf, is_own h.io⟩
/-- name += e -/
def wAug (i : Nat) (f : Int → Int → Int) (w : WE) : WS := fun DD s => ∃ m, s.env[i]? = some (some (.d (.int m))) ∧ w s fun d s1 => ∃ n, d = .int n ∧ DD.nx (s1.set i (.d (.int (f m n))))
theorem is_aug {i : Nat} {f : Int → Int → Int} (h : IE C t w) : IS C (tAug i t (ipI f)) (wAug i f w) := fun G σ H s D DD r q o => by
  obtain ⟨m, em, q⟩ := q
  obtain ⟨v, hv, rv⟩ := r.sl i _ em
  refine ⟨v, hv, h G σ H s _ _ r q fun y d s1 G1 H1 q1 r1 eg eh p => ?_⟩
  obtain ⟨n, rfl, q1⟩ := q1
  exact ⟨m, n, dp_int rv, dp_int p, o.nx _ H1 _ G1 q1 (r1.putd (.int _)) eg⟩
theorem ds_iadd (i : Nat) {pos' : Pos} (hN : X.N.Nodup) (h : DE X C e t w) (hi : X.N[i]? = some x := by rfl) (hx : Loc X.env.scope x := by first | exact .inl rfl | exact .inr rfl) (hf : X.fn x = true ∨ X.env.scope.names.lookup x = some .local := by first | exact .inl rfl | exact .inr rfl | assumption) :
    DS X C (.AugAssign (.Name x pos') .Add e pos) (tAug i t (ipI fun i j => i + j)) (wAug i (fun i j => i + j) w) := ⟨ps_aug hN hi hx h.pe ip_add hf, is_aug h.ie⟩
theorem ds_isub (i : Nat) {pos' : Pos} (hN : X.N.Nodup) (h : DE X C e t w) (hi : X.N[i]? = some x := by rfl) (hx : Loc X.env.scope x := by first | exact .inl rfl | exact .inr rfl) (hf : X.fn x = true ∨ X.env.scope.names.lookup x = some .local := by first | exact .inl rfl | exact .inr rfl | assumption) :
    DS X C (.AugAssign (.Name x pos') .Sub e pos) (tAug i t (ipI fun i j => i - j)) (wAug i (fun i j => i - j) w) := ⟨ps_aug hN hi hx h.pe ip_sub hf, is_aug h.ie⟩
/-! lists of the def's own, changed -/
def wMeth (i : Nat) (wA : WA) (f : List PyData → List PyData → (PyData → List PyData → Prop) → Prop) : WE := fun s Q => (∃ ds0, s.env[i]? = some (some (.own ds0))) ∧ wA s fun as s1 => ∃ ds, s1.env[i]? = some (some (.own ds)) ∧ f ds as fun d ds' => Q d (s1.set i (.own ds'))
/-- such a method as a statement -/
theorem is_meth {i : Nat} {r : V → List V → Hp → VK → Prop} {f : List PyData → List PyData → (PyData → List PyData → Prop) → Prop}
    (hr : ∀ G H p xs vs ds as R Q', H p = some (.lst xs) → DpAll C.K G xs ds → DpAll C.K G vs as → f ds as R → (∀ v d xs' ds', R d ds' → DpAll C.K G xs' ds' → Dp C.K G v d → Q' v (upd H p (.lst xs'))) → r (.ref p) vs H Q') (h : IA C tA wA) :
    IS C (tDrop (tBM C.K "list" r (tVar i) tA)) (wDrop (wMeth i wA f)) := fun G σ H s D DD rr q o => by
  obtain ⟨⟨ds0, e0⟩, q⟩ := q
  obtain ⟨v, hv, p, xs0, rfl, b1, b2, b3, b4⟩ := rr.sl i _ e0
  refine ⟨_, hv, .inl ⟨rfl, _, .inl (.inl b1)⟩, h G σ H s _ _ rr q fun vs as s1 G1 H1 q1 r1 eg eh pa => ?_⟩
  obtain ⟨ds, e1, q1⟩ := q1
  obtain ⟨v', hv', p', xs, hvp, a1, a2, a3, a4⟩ := r1.sl i _ e1
  rw [hv] at hv'
  cases hv'
  cases hvp
  exact hr G1 H1 p xs vs ds as _ _ a1 a4 pa q1 fun v d xs' ds' q2 hd pd => o.nx σ _ _ G1 q2 (r1.mutl e1 hv hd) eg
def fAppend : List PyData → List PyData → (PyData → List PyData → Prop) → Prop := fun ds as Q => ∃ d, as = [d] ∧ ds.length < 100000 ∧ Q .none (ds ++ [d])
theorem ds_append (i : Nat) {apos cpos : Pos} (hK : X.K = C.K) (h : DE X C e t w) (hv : PE X (.Name x p) (tVar i) := by exact pv _) (hb : PE X (.Call (.Attribute (.Name x p) "append" apos) [e] [] cpos) (tBM X.K "list" rAppend (tVar i) (tCons t tNil)))
    (hs : swapsWith (.Call (.Attribute (.Name x p) "append" apos) [e] [] cpos) none pos.line X.env = pure false := by rfl) :
    DS X C (.Expr (.Call (.Attribute (.Name x p) "append" apos) [e] [] cpos) pos) (tDrop (tBM C.K "list" rAppend (tVar i) (tCons t tNil))) (wDrop (wMeth i (wCons w fun s Q => Q [] s) fAppend)) :=
  ⟨ps_expr (hK ▸ hb) hs, is_meth (fun G H p xs vs ds as R Q' h1 h2 h3 hf k => by
    obtain ⟨d, rfl, hl, hf⟩ := hf
    cases h3 with
    | cons p1 p2 =>
      cases p2
      exact ⟨p, xs, _, rfl, rfl, h1, sz_lt (by rw [dpa_len h2]; exact hl), k _ _ _ _ hf (dpa_app h2 (.cons p1 .nil)) .non⟩) (ia_cons h.ie ia_nil)⟩
end
end Dw

namespace Dw
open PySem PySem.Spec PyProof.Rows L2 OgR Evl
section
variable {X : Cx} {C : Ct} {a b e tg : Expr} {es : List Expr} {pos p : Pos} {t ta tb tc te : TE} {w wa wb wc we : WE} {tA : TA} {wA : WA} {x : Str} {st : Stmt} {sts : List Stmt} {u v : TS} {wu wv : WS}
/-! ### for -/
def wFor (w : WA) (g : WG) (wb : WS) : WS := fun DD s => w s fun ds s1 => ∃ Inv : Nat → Dt → Prop, Inv 0 s1 ∧
  (∀ (i : Nat) d s2, ds[i]? = some d → Inv i s2 → g d s2 fun s3 => wb { nx := Inv (i + 1), rt := DD.rt, bk := DD.nx, ct := Inv (i + 1) } s3) ∧ ∀ s2, Inv ds.length s2 → DD.nx s2
theorem is_for {wi : TI} {wI : WA} {g : TG} {ks : List Nat} {wg : WG} {tb : TS} {wb : WS} (hi : II C wi wI) (hg : IG C g ks wg) (hb : IS C tb wb) : IS C (tFor wi g tb) (wFor wI wg wb) := fun G σ H s D DD r q o =>
  hi G σ H s _ _ r q fun J ds s1 G1 H1 q1 r1 eg eh itd => by
    obtain ⟨Inv, h0, hs, hd⟩ := q1
    refine ⟨fun i m σ' H' => m = ds.length - i ∧ i ≤ ds.length ∧ ∃ G' s', Ex G1 G' ∧ Rel C G' σ' H' s' ∧ Inv i s', ⟨ds.length, by simp, Nat.zero_le _, G1, s1, Ex.refl G1, r1, h0⟩, ?_⟩
    rintro i m σ' H' ⟨rfl, hi, G', s', e', r', inv⟩
    obtain ⟨go, stop⟩ := itd G' H' e' r'.fin.gh
    by_cases hlt : i < ds.length
    · have hd1 : ds[i]? = some ds[i] := List.getElem?_eq_getElem hlt
      obtain ⟨g1, g2⟩ := go i _ hd1
      refine .inr ⟨g1, fun σ2 H2 => ∃ G2 s2, Ex G1 G2 ∧ Rel C G2 σ2 H2 s2 ∧ Inv (i + 1) s2, fun σ2 H2 ⟨G2, s2, a1, a2, a3⟩ => ⟨ds.length - (i + 1), by omega, rfl, hlt, G2, s2, a1, a2, a3⟩, fun x H3 y => ?_⟩
      obtain ⟨G3, b1, b2, b3, b4, b5⟩ := g2 x H3 y
      have r3 := r'.grow b1 b2 b3 b4
      have e3 := e'.trans b1
      refine hg G3 σ' H3 s' x _ _ _ r3 b5 (hs i _ s' hd1 inv) fun σ4 s4 q4 r4 _ _ => hb G3 σ4 H3 s4 _ _ r4 q4 ⟨fun σ5 H5 s5 G5 q r e => ⟨G5, s5, e3.trans e, r, q⟩, fun σ5 H5 s5 G5 q r e => o.nx σ5 H5 s5 G5 q r ((eg.trans e3).trans e), fun σ5 H5 s5 G5 q r e => ⟨G5, s5, e3.trans e, r, q⟩, fun v d c' G5 H5 q f e p => o.rt v d c' G5 H5 q f ((eg.trans e3).trans e) p⟩
    · have e : i = ds.length := by omega
      subst e
      exact .inl ⟨stop, o.nx σ' H' s' G' (hd s' inv) r' (eg.trans e')⟩
theorem ds_for {iter : Expr} {wi : TI} {wI : WA} {g : TG} {ks : List Nat} {wg : WG} {tb : TS} {wb : WS} (hp : PassesOwn (model X.prog X.w) X.A X.env X.xe) (hc : X.calm = true) (hi : DI X C tg iter wi wI) (hg : DG X C tg g ks wg) (hb : DSs X C sts tb wb)
    (hs : ∀ x, foldedSetIterable iter X.env x = pure x := by intro _; rfl) : DS X C (.For tg iter sts [] pos) (tFor wi g tb) (wFor wI wg wb) := ⟨ps_for hp hc hi.pi hg.pg hb.ps hs, is_for hi.ii hg.ig hb.is⟩
/-! ### while -/
def wWhile (c : WT) (wb : WS) : WS := fun DD s => ∃ Inv : Nat → Dt → Prop, (∃ m, Inv m s) ∧ ∀ m s, Inv m s → c s fun b s1 => if b = true then wb { nx := fun s2 => ∃ m', m' < m ∧ Inv m' s2, rt := DD.rt, bk := DD.nx, ct := fun s2 => ∃ m', m' < m ∧ Inv m' s2 } s1 else DD.nx s1
theorem ds_while {c : Expr} {tc : TT} {wc : WT} {tb : TS} {wb : WS} (hp : PassesOwn (model X.prog X.w) X.A X.env X.xe) (hc : DT X C c tc wc) (hb : DSs X C sts tb wb) : DS X C (.While c sts [] pos) (tWhile tc tb) (wWhile wc wb) := ⟨ps_while hp hc.pt hb.ps, fun G σ H s D DD r q o => by
  obtain ⟨Inv, ⟨m0, h0⟩, hs⟩ := q
  refine ⟨fun m σ' H' => ∃ G' s', Ex G G' ∧ Rel C G' σ' H' s' ∧ Inv m s', ⟨m0, G, s, Ex.refl G, r, h0⟩, ?_⟩
  rintro m σ' H' ⟨G', s', e', r', inv⟩
  refine hc.it G' σ' H' s' _ _ r' (hs m s' inv) fun b s1 G1 H1 q1 r1 eg eh => ?_
  cases b with
  | false =>
    rw [if_neg (by decide)] at q1
    exact iteF (o.nx σ' H1 s1 G1 q1 r1 (e'.trans eg))
  | true =>
    rw [if_pos rfl] at q1
    refine iteT ⟨fun σ2 H2 => ∃ m' G2 s2, m' < m ∧ Ex G G2 ∧ Rel C G2 σ2 H2 s2 ∧ Inv m' s2, fun σ2 H2 ⟨m', G2, s2, a0, a1, a2, a3⟩ => ⟨m', a0, G2, s2, a1, a2, a3⟩, hb.is G1 σ' H1 s1 _ _ r1 q1 ⟨fun σ5 H5 s5 G5 q r e => ?_, fun σ5 H5 s5 G5 q r e => o.nx σ5 H5 s5 G5 q r ((e'.trans eg).trans e), fun σ5 H5 s5 G5 q r e => ?_, fun v d c' G5 H5 q f e p => o.rt v d c' G5 H5 q f ((e'.trans eg).trans e) p⟩⟩
    · obtain ⟨m', hm, q⟩ := q
      exact ⟨m', G5, s5, hm, (e'.trans eg).trans e, r, q⟩
    · obtain ⟨m', hm, q⟩ := q
      exact ⟨m', G5, s5, hm, (e'.trans eg).trans e, r, q⟩⟩
/-! ### comprehensions -/
def wipeD (env : List (Option DV)) : List Nat → List (Option DV)
  | [] => env
  | v :: vs => (wipeD env vs).set v none
theorem wipeD_len (env : List (Option DV)) : ∀ vs : List Nat, (wipeD env vs).length = env.length
  | [] => rfl
  | v :: vs => by unfold wipeD; rw [List.length_set, wipeD_len env vs]
theorem wipeD_some {env : List (Option DV)} {i : Nat} {x : DV} : ∀ {vs : List Nat}, (wipeD env vs)[i]? = some (some x) → env[i]? = some (some x) ∧ i ∉ vs
  | [], h => ⟨h, by simp⟩
  | v :: vs, h => by
    unfold wipeD at h
    by_cases hi : v = i
    · subst hi
      by_cases hv : v < (wipeD env vs).length
      · rw [List.getElem?_set_self hv] at h; cases h
      · rw [List.getElem?_eq_none (by rw [List.length_set]; omega)] at h; cases h
    · rw [List.getElem?_set_ne hi] at h
      obtain ⟨h1, h2⟩ := wipeD_some h
      exact ⟨h1, by simp only [List.mem_cons, not_or]; exact ⟨fun e => hi e.symm, h2⟩⟩
theorem wipe_get (σ : L2.St) (j : Nat) : ∀ vs : List Nat, (wipe σ vs)[j]? = if j ∈ vs then (if j < σ.length then some none else none) else σ[j]?
  | [] => by simp [wipe]
  | v :: vs => by
    unfold wipe
    by_cases hv : v = j
    · subst hv
      rw [if_pos (by simp)]
      by_cases hl : v < σ.length
      · rw [List.getElem?_set_self (by rw [wipe_length]; exact hl), if_pos hl]
      · rw [List.getElem?_eq_none (by rw [List.length_set, wipe_length]; omega), if_neg hl]
    · rw [List.getElem?_set_ne hv, wipe_get σ j vs]
      by_cases hm : j ∈ vs
      · rw [if_pos hm, if_pos (show j ∈ v :: vs from List.mem_cons_of_mem _ hm)]
      · rw [if_neg hm, if_neg (show ¬ j ∈ v :: vs by simp only [List.mem_cons, not_or]; exact ⟨fun z => hv z.symm, hm⟩)]
theorem wipe_of {σ σ2 : L2.St} {vs ks : List Nat} (hl : σ2.length = (wipe σ vs).length) (h : ∀ j : Nat, j ∉ ks → σ2[j]? = (wipe σ vs)[j]?) (hk : ∀ k ∈ ks, k ∈ vs) : wipe σ2 vs = wipe σ vs := by
  refine List.ext_getElem? fun j => ?_
  rw [wipe_length] at hl
  rw [wipe_get, wipe_get]
  by_cases hj : j ∈ vs
  · rw [if_pos hj, if_pos hj, hl]
  · rw [if_neg hj, if_neg hj, h j fun z => hj (hk j z), wipe_get, if_neg hj]
theorem Rel.wipe {G H : Hp} {σ : L2.St} {s : Dt} (r : Rel C G σ H s) (vs : List Nat) : Rel C G (L2.wipe σ vs) H ⟨wipeD s.env vs, s.c⟩ := by
  have go : ∀ (i : Nat), i ∉ vs → (L2.wipe σ vs)[i]? = σ[i]? := fun i hi => by rw [wipe_get, if_neg hi]
  refine ⟨r.fin, by show (wipeD s.env vs).length = _; rw [wipeD_len, wipe_length]; exact r.len, fun i x e => ?_, fun i j x y p hne e1 e2 m1 m2 => ?_⟩
  · obtain ⟨e', hi⟩ := wipeD_some e
    obtain ⟨v, hv, rv⟩ := r.sl i x e'
    exact ⟨v, by rw [go i hi]; exact hv, rv⟩
  · obtain ⟨e1', h1⟩ := wipeD_some e1
    obtain ⟨e2', h2⟩ := wipeD_some e2
    rw [go i h1, go j h2]
    exact r.dis i j x y p hne e1' e2' m1 m2
/-- what is neither data nor the box stays so, where the slots keep their own lists -/
theorem Gs.keep {σ : L2.St} {G H G' H' : Hp} {s s' : Dt} (g : Gs C σ G H s G' H' s') (r : Rel C G σ H s) (r' : Rel C G' σ H' s') (he : s'.env = s.env) {b : Addr} (h1 : G b = none) (h2 : H b ≠ none) : G' b = none := by
  by_cases hx : ∃ (i : Nat) (x : DV), s.env[i]? = some (some x) ∧ x.mut = true ∧ σ[i]? = some (some (.ref b))
  · obtain ⟨i, x, e, m, hs⟩ := hx
    rw [← he] at e
    obtain ⟨v, hv, rv⟩ := r'.sl i x e
    rw [hs] at hv
    cases hv
    cases x with
    | d _ => cases m
    | box => cases m
    | own ds =>
      obtain ⟨p', xs, a1, a2, a3, a4, a5⟩ := rv
      cases a1
      exact a4
    | dic ds =>
      obtain ⟨p', xs, a1, a2, a3, a4, a5⟩ := rv
      cases a1
      exact a4
    | dit ds =>
      obtain ⟨p', xs, a1, a2, a3, a4, a5⟩ := rv
      cases a1
      exact a4
    | dd _ => cases m
    | oth _ => cases m
  · exact g.nk b h1 h2 fun i x e m hs => hx ⟨i, x, e, m, hs⟩
theorem Rel.back {σ σ2 : L2.St} {G H G' H' : Hp} {env : List (Option DV)} {c : Int} {s2 s' : Dt} (r : Rel C G σ H ⟨env, c⟩) (r2 : Rel C G σ2 H s2) (r' : Rel C G' σ2 H' s') (he : s'.env = s2.env) (eg : Ex G G') (g : Gs C σ2 G H s2 G' H' s') : Rel C G' σ H' ⟨env, s'.c⟩ := by
  refine ⟨r'.fin, r.len, fun i x e => ?_, r.dis⟩
  obtain ⟨v, hv, rv⟩ := r.sl i x e
  refine ⟨v, hv, ?_⟩
  cases x with
  | d _ => exact dp_ex eg rv
  | box => exact rv
  | own ds =>
    obtain ⟨p', xs, a1, a2, a3, a4, a5⟩ := rv
    exact ⟨p', xs, a1, g.gr p' _ (r.fin.nbx a3) a2, a3, g.keep r2 r' he a4 (by rw [a2]; exact Option.some_ne_none _), dpa_ex eg a5⟩
  | dic ds =>
    obtain ⟨p', xs, a1, a2, a3, a4, a5⟩ := rv
    exact ⟨p', xs, a1, g.gr p' _ (r.fin.nbx a3) a2, a3, g.keep r2 r' he a4 (by rw [a2]; exact Option.some_ne_none _), paired_mapP a5 fun a b q => ⟨q.1, dp_ex eg q.2⟩⟩
  | dit ds =>
    obtain ⟨p', xs, a1, a2, a3, a4, a5⟩ := rv
    exact ⟨p', xs, a1, g.gr p' _ (r.fin.nbx a3) a2, a3, g.keep r2 r' he a4 (by rw [a2]; exact Option.some_ne_none _), paired_mapP a5 fun a b q => ⟨q.1, dp_ex eg q.2⟩⟩
  | oth φ => exact Oth.step (φ := φ) rv eg (Kept.of g.gr)
  | dd ds =>
    obtain ⟨p', xs, a1, a2, a5⟩ := rv
    exact ⟨p', xs, a1, a2.gr g.gr, paired_mapP a5 fun a b q => ⟨q.1, dp_ex eg q.2⟩⟩
def wLc (w : WA) (g : WG) (tt : WT) (te : WE) (vs : List Nat) : WA := fun s Q => w s fun ds s1 => ∃ Inv : Nat → List PyData → Int → Prop, Inv 0 [] s1.c ∧
  (∀ (i : Nat) d acc c, ds[i]? = some d → Inv i acc c → g d ⟨wipeD s1.env vs, c⟩ fun s2 => tt s2 fun b s3 => s3.env = s2.env ∧ if b = true then te s3 fun y s4 => s4.env = s2.env ∧ acc.length < 100000 ∧ Inv (i + 1) (acc ++ [y]) s4.c else Inv (i + 1) acc s3.c) ∧
  ∀ acc c, Inv ds.length acc c → Q acc ⟨s1.env, c⟩
theorem io_lc {wi : TI} {wI : WA} {g : TG} {ks vs : List Nat} {wg : WG} {tt : TT} {wt : WT} (hk : ∀ k ∈ ks, k ∈ vs) (hi : II C wi wI) (hg : IG C g ks wg) (ht : IT C tt wt) (he : IE C te we) : IO C (tLc wi g tt te vs) (wLc wI wg wt we vs) := fun G σ H s Q Q' r q k =>
  hi G σ H s _ _ r q fun J ds s1 G1 H1 q1 r1 eg eh itd D hD => by
    obtain ⟨Inv, h0, hs, hd⟩ := q1
    have hHD : H D = none := by
      cases z : H D with
      | none => rfl
      | some o => exact absurd hD (eh.dom D (by rw [z]; exact Option.some_ne_none _))
    refine ⟨fun i m H' => m = ds.length - i ∧ i ≤ ds.length ∧ ∃ G' acc xs c', Ex G1 G' ∧ Rel C G' σ H' ⟨s1.env, c'⟩ ∧ Gs C σ G1 H1 s1 G' H' ⟨s1.env, c'⟩ ∧ H' D = some (.lst xs) ∧ G' D = none ∧ DpAll C.K G' xs acc ∧ Inv i acc c', ⟨ds.length, by simp, Nat.zero_le _, G1, [], [], s1.c, Ex.refl G1, r1.aside (Ex.new hD), .side (Ex.new hD), upd_same, r1.gnone hD, .nil, h0⟩, ?_⟩
    rintro i m H' ⟨rfl, hi, G', acc, xs, c', e', r', g', hHd, hGd, dacc, inv⟩
    obtain ⟨go, stop⟩ := itd G' H' e' r'.fin.gh
    have nbD : C.bx ≠ some D := r.fin.nbx (r.fin.h0 hHD)
    by_cases hlt : i < ds.length
    · have hd1 : ds[i]? = some ds[i] := List.getElem?_eq_getElem hlt
      obtain ⟨g1, g2⟩ := go i _ hd1
      refine .inr ⟨g1, fun H2 => ∃ G' acc xs c', Ex G1 G' ∧ Rel C G' σ H2 ⟨s1.env, c'⟩ ∧ Gs C σ G1 H1 s1 G' H2 ⟨s1.env, c'⟩ ∧ H2 D = some (.lst xs) ∧ G' D = none ∧ DpAll C.K G' xs acc ∧ Inv (i + 1) acc c', fun H2 ⟨G2, a1, a2, a3, a4, a5, a6, a7, a8, a9, a10⟩ => ⟨ds.length - (i + 1), by omega, rfl, hlt, G2, a1, a2, a3, a4, a5, a6, a7, a8, a9, a10⟩, fun x H3 y => ?_⟩
      obtain ⟨G3, b1, b2, b3, b4, b5⟩ := g2 x H3 y
      have r3 := r'.grow b1 b2 b3 b4
      have gs3 : Gs C σ G' H' ⟨s1.env, c'⟩ G3 H3 ⟨s1.env, c'⟩ := .grow b2 b4
      have e3 := e'.trans b1
      have hG3 : G3 D = none := gs3.nk D hGd (by rw [hHd]; exact Option.some_ne_none _) fun j y ej m z => by
        obtain ⟨v, hv, rv⟩ := r1.sl j y ej
        rw [z] at hv
        cases hv
        exact r1.notslot hD j y ej m z
      refine hg G3 (L2.wipe σ vs) H3 ⟨wipeD s1.env vs, c'⟩ x _ _ _ (r3.wipe vs) b5 (hs i _ acc c' hd1 inv) fun σ4 s4 q4 r4 l4 f4 => ⟨wipe_of l4 f4 hk, ht G3 σ4 H3 s4 _ _ r4 q4 fun bb s5 G5 H5 q5 r5 eg5 gs5 => ?_⟩
      obtain ⟨he5, q5⟩ := q5
      cases bb with
      | false =>
        rw [if_neg (by decide)] at q5
        have rr := r3.back r4 r5 he5 eg5 gs5
        refine iteF ⟨G5, acc, xs, s5.c, e3.trans eg5, rr, g'.trans (gs3.trans ⟨gs5.gr, gs5.dom, fun b h1 h2 h3 => gs5.keep r4 r5 he5 h1 h2, fun i x e m => ⟨x, e, m⟩⟩), gs5.gr D _ nbD (b2 D _ hHd), gs5.keep r4 r5 he5 hG3 (by rw [b2 D _ hHd]; exact Option.some_ne_none _), dpa_ex (b1.trans eg5) dacc, q5⟩
      | true =>
        rw [if_pos rfl] at q5
        refine iteT (he G5 σ4 H5 s5 _ _ r5 q5 fun v y s6 G6 H6 q6 r6 eg6 gs6 pv => ?_)
        obtain ⟨he6, hl, q6⟩ := q6
        have gs7 := gs5.trans gs6
        have rr := r3.back r4 r6 he6 (eg5.trans eg6) gs7
        have hD6 : H6 D = some (.lst xs) := gs7.gr D _ nbD (b2 D _ hHd)
        have gD6 : G6 D = none := gs7.keep r4 r6 he6 hG3 (by rw [b2 D _ hHd]; exact Option.some_ne_none _)
        have hm : ∀ b, b ≠ D → upd H6 D (.lst (xs ++ [v])) b = H6 b := fun b hb => upd_ne hb
        refine ⟨xs, hD6, sz_lt (by rw [dpa_len dacc]; exact hl), G6, acc ++ [y], xs ++ [v], s6.c, e3.trans (eg5.trans eg6), ?_, ?_, upd_same, gD6, dpa_app (dpa_ex ((b1.trans eg5).trans eg6) dacc) (.cons pv .nil), q6⟩
        · -- D is no slot's and not data
          have h0D : C.H0 D = none := r.fin.h0 hHD
          refine ⟨⟨fun b o hb => ?_, rr.fin.g0, rr.fin.nw, fun b o n hb => ?_, fun l hl => ?_⟩, rr.len, fun j y ej => ?_, rr.dis⟩
          · rw [hm b (fun z => by rw [z, gD6] at hb; cases hb)]
            exact rr.fin.gh b o hb
          · rw [hm b (fun z => by rw [z, h0D] at hb; cases hb)]
            exact rr.fin.hh b o n hb
          · refine ⟨(rr.fin.bx l hl).1.keep fun o q => ?_, (rr.fin.bx l hl).2⟩
            rw [hm l (fun z => nbD (by rw [← z]; exact hl))]
            exact q
          · obtain ⟨v', hv', rv⟩ := rr.sl j y ej
            refine ⟨v', hv', ?_⟩
            cases y with
            | d _ => exact rv
            | box => exact rv
            | own ds2 =>
              obtain ⟨p2, xs2, a1, a2, a3, a4, a5⟩ := rv
              exact ⟨p2, xs2, a1, by rw [hm p2 (fun z => r1.notslot hD j _ ej rfl (by rw [hv', a1, z]))]; exact a2, a3, a4, a5⟩
            | dic ds2 =>
              obtain ⟨p2, xs2, a1, a2, a3, a4, a5⟩ := rv
              exact ⟨p2, xs2, a1, by rw [hm p2 (fun z => r1.notslot hD j _ ej rfl (by rw [hv', a1, z]))]; exact a2, a3, a4, a5⟩
            | dit ds2 =>
              obtain ⟨p2, xs2, a1, a2, a3, a4, a5⟩ := rv
              exact ⟨p2, xs2, a1, by rw [hm p2 (fun z => r1.notslot hD j _ ej rfl (by rw [hv', a1, z]))]; exact a2, a3, a4, a5⟩
            | oth φ => exact Oth.step (φ := φ) rv (Ex.refl G6) (Kept.upd hD6 rfl)
            | dd ds2 =>
              obtain ⟨p2, xs2, a1, a2, a5⟩ := rv
              exact ⟨p2, xs2, a1, a2.upd hD6 h0D (fun _ _ z => by cases z), a5⟩
        · have gg := g'.trans (gs3.trans (s2 := ⟨s1.env, s6.c⟩) ⟨gs7.gr, gs7.dom, fun b h1 h2 h3 => gs7.keep r4 r6 he6 h1 h2, fun i x e m => ⟨x, e, m⟩⟩)
          refine ⟨fun b o n hb => ?_, fun b hb => ?_, gg.nk, gg.ks⟩
          · rw [hm b (fun z => by rw [z, hD] at hb; cases hb)]
            exact gg.gr b o n hb
          · by_cases z : b = D
            · rw [z, upd_same]
              exact Option.some_ne_none _
            · rw [hm b z]
              exact gg.dom b hb
    · have e : i = ds.length := by omega
      subst e
      refine .inl ⟨stop, k D xs acc ⟨s1.env, c'⟩ G' H' (hd acc c' inv) r' (eg.trans e') (eh.trans g') hHD hHd hGd dacc fun j y ej m => r1.notslot hD j y ej m⟩
theorem do_lc {elt iter : Expr} {ifs : List Expr} {scope : Scope} {own : List (Str × Nat)} {wi : TI} {wI : WA} {g : TG} {ks : List Nat} {wg : WG} {tt : TT} {wt : WT} (hc : X.calm = true) (hN : X.N.Nodup) (hi : DI X C tg iter wi wI) (ok : BlkOk X.N X.env.scope scope own)
    (hg : ∀ (s : Shared) (H : Hp) (A : Addr) (cl : List (Str × Addr)) (fp : List Addr), DG (X.blk s H scope (compEnvC scope cl A X.env) fp) C tg g ks wg)
    (ht : (∀ (s : Shared) (H : Hp) (A : Addr) (cl : List (Str × Addr)) (fp : List Addr), PTs (X.blk s H scope (compEnvC scope cl A X.env) fp) ifs tt) ∧ IT C tt wt)
    (he : ∀ (s : Shared) (H : Hp) (A : Addr) (cl : List (Str × Addr)) (fp : List Addr), DE (X.blk s H scope (compEnvC scope cl A X.env) fp) C elt te we) (hk : ∀ k ∈ ks, k ∈ own.map (·.2) := by decide) (hs : ∀ x, foldedSetIterable iter X.env x = pure x := by intro _; rfl) :
    DO X C (.ListComp elt [⟨tg, iter, ifs, 0⟩] scope pos) (tLc wi g tt te (own.map (·.2))) (wLc wI wg wt we (own.map (·.2))) :=
  ⟨pe_lc hc hN hi.pi ok (fun s H A cl fp => (hg s H A cl fp).pg) ht.1 (fun s H A cl fp => (he s H A cl fp).pe) hs,
   io_lc hk hi.ii (hg {} (fun _ => none) 0 [] []).ig ht.2 (he {} (fun _ => none) 0 [] []).ie⟩
end
end Dw

namespace Dw
open PySem PySem.Spec PyProof.Rows L2 OgR Evl
/-! ### defs: where they stand, what they promise -/
section
variable {P : Program} {wd : World} {K : PySem.W.Frag} {mg : Str → Option Value} {base : Heap}
structure Fct (K : PySem.W.Frag) (mg : Str → Option Value) (x : Str) (st : Stmt) (ps : List Str) : Prop where
  ex : ∃ f fd, Fun K x x st f fd ∧ Binds K fd ps [] ∧ mg x = some (.ref f)
def perm {α : Type} (π : List Nat) (l : List α) : List α := π.filterMap fun i => l[i]?
/-- how names alone bind -/
def ByP (fd : FuncData) (ps ks : List Str) (π : List Nat) : Prop := ∀ (s : Shared) (ws : List Value), ws.length = ks.length → BindsTo s fd ⟨[], ks.zip ws⟩ (ps.zip (perm π ws))
structure Def (P : Program) (wd : World) (K : PySem.W.Frag) (mg : Str → Option Value) (base : Heap) (k : Nat) (x : Str) (st : Stmt) (ps : List Str) (sp : Sp) : Prop where
  ex : ∃ f fd, FnG P wd K mg base k f fd ps sp ∧ Fun K x x st f fd ∧ Binds K fd ps [] ∧ mg x = some (.ref f)
theorem Def.mono {j k : Nat} {x : Str} {st : Stmt} {ps : List Str} {sp : Sp} (D : Def P wd K mg base j x st ps sp) (h : j ≤ k) : Def P wd K mg base k x st ps sp := by
  obtain ⟨f, fd, G, F, b, m⟩ := D.ex
  exact ⟨f, fd, ⟨G.1, fun A outer s H args us vs Q E hG hr => G.2 A outer s H args us vs Q E hG (hr.mono h)⟩, F, b, m⟩
theorem Def.imp {k : Nat} {x : Str} {st : Stmt} {ps : List Str} {sp sp' : Sp} (D : Def P wd K mg base k x st ps sp) (h : ∀ vs H Q E, sp' vs H Q E → sp vs H Q E) : Def P wd K mg base k x st ps sp' := by
  obtain ⟨f, fd, G, F, b, m⟩ := D.ex
  exact ⟨f, fd, ⟨fun vs H Q E q => G.1 vs H Q E (h _ _ _ _ q), fun A outer s H args us vs Q E hG hr he hb hv hs => G.2 A outer s H args us vs Q E hG hr he hb hv (h _ _ _ _ hs)⟩, F, b, m⟩
/-- a promise that asks for what cannot be -/
theorem Def.no {k : Nat} {x : Str} {st : Stmt} {ps : List Str} {sp : Sp} (c : Fct K mg x st ps) (h : ∀ vs H Q E, ¬ sp vs H Q E) : Def P wd K mg base k x st ps sp := by
  obtain ⟨f, fd, F, b, m⟩ := c.ex
  exact ⟨f, fd, ⟨fun vs H Q E q => (h _ _ _ _ q).elim, fun A outer s H args us vs Q E hG hr he hb hv hs => (h _ _ _ _ hs).elim⟩, F, b, m⟩
def env0 (N : List Str) (xs : List DV) : List (Option DV) := xs.map some ++ List.replicate (N.length - xs.length) none
theorem env0_get {N : List Str} {xs : List DV} {i : Nat} {x : DV} (h : (env0 N xs)[i]? = some (some x)) : xs[i]? = some x := by
  unfold env0 at h
  by_cases hl : i < xs.length
  · rw [List.getElem?_append_left (by rw [List.length_map]; exact hl), List.getElem?_map, List.getElem?_eq_getElem hl] at h
    rw [List.getElem?_eq_getElem hl]
    simpa using h
  · rw [List.getElem?_append_right (by rw [List.length_map]; omega)] at h
    obtain ⟨_, h2⟩ := List.getElem?_eq_some_iff.mp h
    rw [List.getElem_replicate] at h2
    cases h2
theorem start_get {N : List Str} {vs : List V} {i : Nat} {v : V} (h : vs[i]? = some v) : (L2.start N vs)[i]? = some (some v) := by
  unfold L2.start
  have hl := (List.getElem?_eq_some_iff.mp h).1
  rw [List.getElem?_append_left (by rw [List.length_map]; exact hl), List.getElem?_map, h]
  rfl
theorem env0_len {N : List Str} {xs : List DV} {vs : List V} (h : xs.length = vs.length) : (env0 N xs).length = (L2.start N vs).length := by
  unfold env0 L2.start
  rw [List.length_append, List.length_append, List.length_map, List.length_map, List.length_replicate, List.length_replicate, h]
theorem Def.pure {k : Nat} {x : Str} {st : Stmt} {N ps : List Str} {F : FP} (c : Fct K mg x st ps) (S : FnScope N ps (defScope st)) (hl : ∀ ds R, F ds R → ds.length = ps.length)
    (body : ∀ (f : Addr) (cdv : Value) (A : Around) (outer : List Env) (s : Shared) (H G : Hp) (E : XK) (ds : List PyData) (R : PyData → Prop), A.guards = some [] → Room k (A.deeper (envOfC x (defScope st) s.heap.objs.size f cdv)) → F ds R →
      ∃ t w, DSs (cxOf CX0 P wd K mg base N x (defScope st) f cdv A outer s H E).nox ⟨K, none, H, G⟩ (defBody st) t w ∧ w { nx := fun _ => R .none, rt := fun d _ => R d } ⟨env0 N (ds.map .d), 0⟩) : Def P wd K mg base (k + 1) x st ps (spP K F) := by
  obtain ⟨f, fd, Fn, b, m⟩ := c.ex
  refine ⟨f, fd, fnG_of Fn S (fun vs H Q E h => ?_) (fun cdv A outer s H vs Q E hG hr h => ?_), Fn, b, m⟩
  · obtain ⟨G, ds, R, _, p, hF, _⟩ := h
    rw [dpa_len p]
    exact hl ds R hF
  · obtain ⟨G, ds, R, gh, p, hF, kk⟩ := h
    obtain ⟨t, w, D, hw⟩ := body f cdv A outer s H G E ds R hG hr hF
    have rel : Rel ⟨K, none, H, G⟩ G (L2.start N vs) H ⟨env0 N (ds.map .d), 0⟩ := by
      refine ⟨⟨gh, Ex.refl G, Nw.refl G H, Gr.refl _ H, fun l hl => nomatch hl⟩, env0_len (by rw [List.length_map, dpa_len p]), fun i x e => ?_, fun i j x y q _ e1 _ m1 => ?_⟩
      · have e' := env0_get e
        rw [List.getElem?_map] at e'
        cases q : ds[i]? with
        | none => rw [q] at e'; cases e'
        | some d =>
          rw [q] at e'
          cases e'
          obtain ⟨v, hv, pv⟩ := dpa_back p q
          exact ⟨v, start_get hv, pv⟩
      · have e' := env0_get e1
        rw [List.getElem?_map] at e'
        cases q : ds[i]? with
        | none => rw [q] at e'; cases e'
        | some d => rw [q] at e'; cases e'; cases m1
    refine ⟨t, D.ps, D.is G (L2.start N vs) H _ _ _ rel hw ⟨fun σ' H' s' G' hn r' e => ?_, fun _ _ _ _ h => h.elim, fun _ _ _ _ h => h.elim, fun v d c' G' H' hR f' e pv => ?_⟩⟩
    · exact kk .non .none G' H' hn e (fun b o hb => r'.fin.hh b o (fun z => nomatch z) hb) r'.fin.gh r'.fin.nw .non
    · exact kk v d G' H' hR e (fun b o hb => f'.hh b o (fun z => nomatch z) hb) f'.gh f'.nw pv
theorem Def.draws {k : Nat} {x : Str} {st : Stmt} {N ps : List Str} {F : FB} (c : Fct K mg x st ps) (S : FnScope N ps (defScope st)) (hl : ∀ ds c R, F ds c R → ds.length + 1 = ps.length)
    (body : ∀ (f : Addr) (cdv : Value) (A : Around) (outer : List Env) (s : Shared) (H G : Hp) (l : Addr) (E : XK) (ds : List PyData) (c : Int) (R : PyData → Int → Prop), A.guards = some [] → Room k (A.deeper (envOfC x (defScope st) s.heap.objs.size f cdv)) → F ds c R →
      ∃ t w, DSs (cxOf CX0 P wd K mg base N x (defScope st) f cdv A outer s H E).nox ⟨K, some l, H, G⟩ (defBody st) t w ∧ w { nx := fun s => R .none s.c, rt := R } ⟨env0 N (.box :: ds.map .d), c⟩) : Def P wd K mg base (k + 1) x st ps (spB K F) := by
  obtain ⟨f, fd, Fn, b, m⟩ := c.ex
  refine ⟨f, fd, fnG_of Fn S (fun vs H Q E h => ?_) (fun cdv A outer s H vs Q E hG hr h => ?_), Fn, b, m⟩
  · obtain ⟨l, vs', G, ds, c, R, rfl, _, _, _, p, hF, _⟩ := h
    rw [List.length_cons, dpa_len p]
    exact hl ds c R hF
  · obtain ⟨l, vs', G, ds, c, R, rfl, hB, hGl, gh, p, hF, kk⟩ := h
    obtain ⟨t, w, D, hw⟩ := body f cdv A outer s H G l E ds c R hG hr hF
    have rel : Rel ⟨K, some l, H, G⟩ G (L2.start N (.ref l :: vs')) H ⟨env0 N (.box :: ds.map .d), c⟩ := by
      refine ⟨⟨gh, Ex.refl G, Nw.refl G H, Gr.refl _ H, fun l' hl' => ?_⟩, env0_len (by rw [List.length_cons, List.length_cons, List.length_map, dpa_len p]), fun i x e => ?_, fun i j x y q _ e1 _ m1 => ?_⟩
      · cases hl'
        exact ⟨hB, hGl, hB.ne⟩
      · have e' := env0_get e
        cases i with
        | zero =>
          cases e'
          exact ⟨.ref l, start_get rfl, l, rfl, rfl⟩
        | succ i =>
          rw [List.getElem?_cons_succ, List.getElem?_map] at e'
          cases q : ds[i]? with
          | none => rw [q] at e'; cases e'
          | some d =>
            rw [q] at e'
            cases e'
            obtain ⟨v, hv, pv⟩ := dpa_back p q
            exact ⟨v, start_get (by rw [List.getElem?_cons_succ]; exact hv), pv⟩
      · have e' := env0_get e1
        cases i with
        | zero => cases e'; cases m1
        | succ i =>
          rw [List.getElem?_cons_succ, List.getElem?_map] at e'
          cases q : ds[i]? with
          | none => rw [q] at e'; cases e'
          | some d => rw [q] at e'; cases e'; cases m1
    refine ⟨t, D.ps, D.is G _ H _ _ _ rel hw ⟨fun σ' H' s' G' hn r' e => ?_, fun _ _ _ _ h => h.elim, fun _ _ _ _ h => h.elim, fun v d c' G' H' hR f' e pv => ?_⟩⟩
    · exact kk .non .none s'.c G' H' hn e (fun b o hb hx => r'.fin.hh b o (fun z => hb (by cases z; rfl)) hx) (r'.fin.bx l rfl).1 r'.fin.gh r'.fin.nw .non
    · exact kk v d c' G' H' hR e (fun b o hb hx => f'.hh b o (fun z => hb (by cases z; rfl)) hx) (f'.bx l rfl).1 f'.gh f'.nw pv
end
section
variable {X : Cx} {C : Ct} {a b e tg : Expr} {es : List Expr} {pos p : Pos} {t ta tb tc te : TE} {w wa wb wc we : WE} {tA : TA} {wA : WA} {x : Str} {st : Stmt} {sts : List Stmt} {ps : List Str} {k : Nat}
theorem de_c {F : FP} (D : Def X.prog X.w X.K X.mg X.base k x st ps (spP C.K F)) (hG : X.A.guards = some []) (hr : Room k X.A) (hg : Gl X x)
    (ha : DA X C (e :: es) tA wA) (hdb : (x == ("__debug__" : Str)) = false := by decide) (he : starEach (e :: es) X.env = (false, eval e X.env) :: starEach es X.env := by rfl) (hpl : (backTo pos (starEach es X.env)).any (·.1) = false := by rfl) :
    DE X C (.Call (.Name x p) (e :: es) [] pos) (tCall (spP C.K F) [] E0 tA) (wCall F wA) := by
  obtain ⟨f, fd, G, Fn, b, m⟩ := D.ex
  exact ⟨pe_callG G hG hr hg m Fn.kp b ha.pa hdb he hpl, ie_call ha.ia⟩
theorem de_cB (i : Nat) {F : FB} {y : Str} {p2 : Pos} (D : Def X.prog X.w X.K X.mg X.base k x st ps (spB C.K F)) (hG : X.A.guards = some []) (hr : Room k X.A) (hg : Gl X x)
    (ha : DA X C es tA wA) (hv : PE X (.Name y p2) (tVar i) := by exact pv _) (hdb : (x == ("__debug__" : Str)) = false := by decide) (he : starEach (.Name y p2 :: es) X.env = (false, eval (.Name y p2) X.env) :: starEach es X.env := by rfl) (hpl : (backTo pos (starEach es X.env)).any (·.1) = false := by rfl) :
    DE X C (.Call (.Name x p) (.Name y p2 :: es) [] pos) (tCall (spB C.K F) [] E0 (tCons (tVar i) tA)) (wCallB i F wA) := by
  obtain ⟨f, fd, G, Fn, b, m⟩ := D.ex
  exact ⟨pe_callG G hG hr hg m Fn.kp b (pa_cons hv ha.pa he) hdb he hpl, ie_callB ha.ia⟩
/-! by names alone -/
structure DKw (X : Cx) (C : Ct) (kws : List Keyword) (t : TA) (w : WA) : Prop where
  pk : PK X kws t
  ia : IA C t w
theorem dk_nil : DKw X C [] tNil (fun s Q => Q [] s) := ⟨pk_nil, ia_nil⟩
theorem dk_cons {kws : List Keyword} {nm : Option Str} {kpos : Pos} {tr : TA} {wr : WA} (h : DE X C e t w) (hr : DKw X C kws tr wr) : DKw X C (⟨nm, e, kpos⟩ :: kws) (tCons t tr) (wCons w wr) := ⟨pk_cons h.pe hr.pk, ia_cons h.ie hr.ia⟩
def tNm (sp : Sp) (n : Nat) (π : List Nat) (E : XK) (tk : TA) : TE := fun σ H Q => tk σ H fun zs H1 => zs.length = n ∧ sp (perm π zs) H1 Q E
theorem vals_perm {π : List Nat} {zs : List V} {ws : List Value} (h : Vals zs ws) : Vals (perm π zs) (perm π ws) := by
  unfold perm
  induction π with
  | nil => exact .nil
  | cons i π ih =>
    rw [List.filterMap_cons, List.filterMap_cons]
    cases q : zs[i]? with
    | none => rw [h.none_of q]; exact ih
    | some v =>
      obtain ⟨u, hu, ru⟩ := h.get q
      rw [hu]
      exact .cons ru ih
theorem dpa_perm {K : PySem.W.Frag} {G : Hp} {π : List Nat} {zs : List V} {ds : List PyData} (h : DpAll K G zs ds) : DpAll K G (perm π zs) (perm π ds) := by
  unfold perm
  induction π with
  | nil => exact .nil
  | cons i π ih =>
    rw [List.filterMap_cons, List.filterMap_cons]
    cases q : zs[i]? with
    | none =>
      rw [List.getElem?_eq_none_iff.mpr (by rw [← dpa_len h]; exact List.getElem?_eq_none_iff.mp q)]
      exact ih
    | some v =>
      obtain ⟨u, hu, ru⟩ := dpa_get h q
      rw [hu]
      exact .cons ru ih
theorem pe_nm {n : Nat} {f : Addr} {fd : FuncData} {ks : List Str} {sp : Sp} {kws : List Keyword} {tk : TA} {π : List Nat} (F : FnG X.prog X.w X.K X.mg X.base k f fd ps sp) (hG : X.A.guards = some []) (hr : Room k X.A) (hg : Gl X x) (hm : X.mg x = some (.ref f)) (hk : PySem.W.keepIn X.K (.ref f) = true) (hb : ByP fd ps ks π) (hn : ks.length = n) (hkw : PK X kws tk)
    (hall : (backToKw pos (keywordEach kws X.env)).all (·.1.isSome) = true := by rfl) (hks : (backToKw pos (keywordEach kws X.env)).filterMap (·.1) = ks := by rfl) (hdb : (x == ("__debug__" : Str)) = false := by decide)
    (hpl : ((backTo pos (starEach [] X.env)).any (·.1) || (backToKw pos (keywordEach kws X.env)).any (·.1.isNone)) = false := by rfl) :
    PE X (.Call (.Name x p) [] kws pos) (tNm sp n π E0 tk) := by
  refine ⟨fun pins s σ H Q I h => wpAny_Call_Name_kw (ld_glob I hg hm ?_ hdb)⟩
  refine PySem.W.callWith_KW0 (h₀ := X.base) I.ok.mod.kin hk hall (thn (hkw.run pos pins s σ H _ I h) fun ws s1 ⟨zs, H1, I1, rz, hl, q⟩ => ⟨I1.kIn, ?_⟩) hpl
  rw [hks]
  have hwl : ws.length = ks.length := by rw [← rz.length, hl, hn]
  refine wpAny_call (codeAny_mono (F.2 X.A X.stack s1 H1 ⟨[], ks.zip ws⟩ (perm π ws) (perm π zs) Q E0 hG hr I1.env0 (hb s1 ws hwl) (vals_perm rz) q) ?_)
  rintro (e | _ | _ | _ | u) s' hq
  all_goals first
    | exact I1.after hq
    | exact False.elim hq
def wNm (F : FP) (n : Nat) (π : List Nat) (wA : WA) : WE := fun s Q => wA s fun ds s1 => ds.length = n ∧ F (perm π ds) fun d => Q d s1
theorem ie_nm {F : FP} {n : Nat} {π : List Nat} (h : IA C tA wA) : IE C (tNm (spP C.K F) n π E0 tA) (wNm F n π wA) := fun G σ H s Q Q' r q k =>
  h G σ H s _ _ r q fun vs ds s1 G1 H1 q1 r1 eg eh p => ⟨by rw [dpa_len p]; exact q1.1, G1, perm π ds, _, r1.fin.gh, dpa_perm p, q1.2, fun v d G2 H2 q2 eg2 eh2 gh nw pd =>
    k v d s1 G2 H2 q2 (r1.grow eg2 eh2 gh nw) (eg.trans eg2) (eh.trans (.grow eh2 nw)) pd⟩
theorem de_nm {F : FP} {ks : List Str} {kws : List Keyword} {tk : TA} {wk : WA} (π : List Nat) (D : Def X.prog X.w X.K X.mg X.base k x st ps (spP C.K F)) (hG : X.A.guards = some []) (hr : Room k X.A) (hg : Gl X x)
    (hby : ∀ (kV doc pm : Value) (an : Option Addr) (cdv ct : Value) (ws : List Value), ws.length = ks.length → bindArgs (PySem.W.fnOf x x (defArgs st) (defBody st) (defScope st) .none kV doc pm an cdv ct) ⟨[], ks.zip ws⟩ = Pure.pure (ps.zip (perm π ws))) (hkw : DKw X C kws tk wk)
    (hall : (backToKw pos (keywordEach kws X.env)).all (·.1.isSome) = true := by rfl) (hks : (backToKw pos (keywordEach kws X.env)).filterMap (·.1) = ks := by rfl) (hdb : (x == ("__debug__" : Str)) = false := by decide)
    (hpl : ((backTo pos (starEach [] X.env)).any (·.1) || (backToKw pos (keywordEach kws X.env)).any (·.1.isNone)) = false := by rfl) :
    DE X C (.Call (.Name x p) [] kws pos) (tNm (spP C.K F) ks.length π E0 tk) (wNm F ks.length π wk) := by
  obtain ⟨f, fd, G, Fn, b, m⟩ := D.ex
  refine ⟨pe_nm (ks := ks) G hG hr hg m Fn.kp ?_ rfl hkw.pk hall hks hdb hpl, ie_nm hkw.ia⟩
  obtain ⟨oc, od, kV, doc, pm, an, cdv, ct, osl, rfl, lk, hcd⟩ := Fn.ex
  exact fun s ws hl => .of_eq (hby kV doc pm an cdv ct ws hl)
/-! ### name = [..] on one line -/
theorem ds_setLc {elt iter : Expr} {ifs : List Expr} {scope : Scope} {own : List (Str × Nat)} {wi : TI} {wI : WA} {g : TG} {ks : List Nat} {wg : WG} {tt : TT} {wt : WT} (i : Nat) {y : Str} {py spos : Pos} (hc : X.calm = true) (hN : X.N.Nodup) (hy : X.N[i]? = some y) (hyl : X.env.scope.names.lookup y = some .local)
    (hsw : swapsWith (.ListComp elt [⟨tg, iter, ifs, 0⟩] scope pos) (some (.Name y py)) spos.line X.env = Pure.pure true) (hi : DI X C tg iter wi wI) (ok : BlkOk X.N X.env.scope scope own)
    (hg : ∀ (s : Shared) (H : Hp) (A : Addr) (cl : List (Str × Addr)) (fp : List Addr), DG (X.blk s H scope (compEnvC scope cl A X.env) fp) C tg g ks wg)
    (ht : (∀ (s : Shared) (H : Hp) (A : Addr) (cl : List (Str × Addr)) (fp : List Addr), PTs (X.blk s H scope (compEnvC scope cl A X.env) fp) ifs tt) ∧ IT C tt wt)
    (he : ∀ (s : Shared) (H : Hp) (A : Addr) (cl : List (Str × Addr)) (fp : List Addr), DE (X.blk s H scope (compEnvC scope cl A X.env) fp) C elt te we) (hk : ∀ k ∈ ks, k ∈ own.map (·.2) := by decide) (hs : ∀ x, foldedSetIterable iter X.env x = Pure.pure x := by intro _; rfl) :
    DS X C (.Assign [.Name y py] (.ListComp elt [⟨tg, iter, ifs, 0⟩] scope pos) spos) (tAsg (tLc wi g tt te (own.map (·.2))) (gName i)) (wAsg (wPubO (wLc wI wg wt we (own.map (·.2)))) (wName i)) :=
  ⟨ps_setLc hc hN hy hyl hsw hi.pi ok (fun s H A cl fp => (hg s H A cl fp).pg) ht.1 (fun s H A cl fp => (he s H A cl fp).pe) hs, is_asg (ie_own (io_lc hk hi.ii (hg {} (fun _ => none) 0 [] []).ig ht.2 (he {} (fun _ => none) 0 [] []).ie)) (ig_name i)⟩
theorem ds_ownLc {elt iter : Expr} {ifs : List Expr} {scope : Scope} {own : List (Str × Nat)} {wi : TI} {wI : WA} {g : TG} {ks : List Nat} {wg : WG} {tt : TT} {wt : WT} (i : Nat) {y : Str} {py spos : Pos} (hc : X.calm = true) (hN : X.N.Nodup) (hy : X.N[i]? = some y) (hyl : X.env.scope.names.lookup y = some .local)
    (hsw : swapsWith (.ListComp elt [⟨tg, iter, ifs, 0⟩] scope pos) (some (.Name y py)) spos.line X.env = Pure.pure true) (hi : DI X C tg iter wi wI) (ok : BlkOk X.N X.env.scope scope own)
    (hg : ∀ (s : Shared) (H : Hp) (A : Addr) (cl : List (Str × Addr)) (fp : List Addr), DG (X.blk s H scope (compEnvC scope cl A X.env) fp) C tg g ks wg)
    (ht : (∀ (s : Shared) (H : Hp) (A : Addr) (cl : List (Str × Addr)) (fp : List Addr), PTs (X.blk s H scope (compEnvC scope cl A X.env) fp) ifs tt) ∧ IT C tt wt)
    (he : ∀ (s : Shared) (H : Hp) (A : Addr) (cl : List (Str × Addr)) (fp : List Addr), DE (X.blk s H scope (compEnvC scope cl A X.env) fp) C elt te we) (hk : ∀ k ∈ ks, k ∈ own.map (·.2) := by decide) (hs : ∀ x, foldedSetIterable iter X.env x = Pure.pure x := by intro _; rfl) :
    DS X C (.Assign [.Name y py] (.ListComp elt [⟨tg, iter, ifs, 0⟩] scope pos) spos) (tAsg (tLc wi g tt te (own.map (·.2))) (gName i)) (wOwn i (wLc wI wg wt we (own.map (·.2)))) :=
  ⟨ps_setLc hc hN hy hyl hsw hi.pi ok (fun s H A cl fp => (hg s H A cl fp).pg) ht.1 (fun s H A cl fp => (he s H A cl fp).pe) hs, is_own (io_lc hk hi.ii (hg {} (fun _ => none) 0 [] []).ig ht.2 (he {} (fun _ => none) 0 [] []).ie)⟩
theorem ts_nil : (∀ (s : Shared) (H : Hp) (scope : Scope) (A : Addr) (cl : List (Str × Addr)) (fp : List Addr), PTs (X.blk s H scope (compEnvC scope cl A X.env) fp) [] tYes) ∧ IT C tYes (fun s Q => Q true s) :=
  ⟨fun _ _ _ _ _ _ => pts_nil, fun G σ H s Q Q' r q k => k true s G H q r (Ex.refl G) Gs.refl⟩
theorem ts_one {c : Expr} {scope : Scope} {tt : TT} {wt : WT} (h : ∀ (s : Shared) (H : Hp) (A : Addr) (cl : List (Str × Addr)) (fp : List Addr), DT (X.blk s H scope (compEnvC scope cl A X.env) fp) C c tt wt) :
    (∀ (s : Shared) (H : Hp) (A : Addr) (cl : List (Str × Addr)) (fp : List Addr), PTs (X.blk s H scope (compEnvC scope cl A X.env) fp) [c] tt) ∧ IT C tt wt := ⟨fun s H A cl fp => pts_one (h s H A cl fp).pt, (h {} (fun _ => none) 0 [] []).it⟩
theorem ts_no {scope : Scope} : (∀ (s : Shared) (H : Hp) (A : Addr) (cl : List (Str × Addr)) (fp : List Addr), PTs (X.blk s H scope (compEnvC scope cl A X.env) fp) [] tYes) ∧ IT C tYes (fun s Q => Q true s) :=
  ⟨fun _ _ _ _ _ => pts_nil, fun G σ H s Q Q' r q k => k true s G H q r (Ex.refl G) Gs.refl⟩
/-! ### several names at once, some of them new lists of the def's own -/
abbrev WX := Dt → (DV → Dt → Prop) → Prop
abbrev WXs := Dt → (List DV → Dt → Prop) → Prop
def PV (C : Ct) (σ : L2.St) (G H : Hp) (s : Dt) (v : V) : DV → Prop
  | .d x => Dp C.K G v x
  | .own ds => ∃ p xs, v = .ref p ∧ H p = some (.lst xs) ∧ C.H0 p = none ∧ G p = none ∧ DpAll C.K G xs ds ∧ ∀ (i : Nat) x, s.env[i]? = some (some x) → x.mut = true → σ[i]? ≠ some (some (.ref p))
  | _ => False
theorem PV.mono {σ : L2.St} {G H G' H' : Hp} {s s' : Dt} {v : V} {x : DV} (h : PV C σ G H s v x) (r : Rel C G σ H s) (eg : Ex G G') (g : Gs C σ G H s G' H' s') : PV C σ G' H' s' v x := by
  cases x with
  | d _ => exact dp_ex eg h
  | own ds =>
    obtain ⟨p, xs, a1, a2, a3, a4, a5, a6⟩ := h
    refine ⟨p, xs, a1, g.gr p _ (r.fin.nbx a3) a2, a3, g.nk p a4 (by rw [a2]; exact Option.some_ne_none _) a6, dpa_ex eg a5, fun i y e m => ?_⟩
    obtain ⟨y', e', m'⟩ := g.ks i y e m
    exact a6 i y' e' m'
  | dic _ => exact h
  | dit _ => exact h
  | dd _ => exact h
  | oth _ => exact h
  | box => exact h
theorem PV.rv {σ : L2.St} {G H : Hp} {s : Dt} {v : V} {x : DV} (h : PV C σ G H s v x) : RV C G H v x := by
  cases x with
  | d _ => exact h
  | own ds =>
    obtain ⟨p, xs, a1, a2, a3, a4, a5, a6⟩ := h
    exact ⟨p, xs, a1, a2, a3, a4, a5⟩
  | dic _ => exact h.elim
  | dit _ => exact h.elim
  | dd _ => exact h.elim
  | oth _ => exact h.elim
  | box => exact h.elim
/-- new places over H -/
def Frs (H : Hp) (vs : List V) (xs : List DV) : Prop := ∀ (i : Nat) x p, xs[i]? = some x → x.mut = true → vs[i]? = some (.ref p) → H p = none
def Dst (vs : List V) (xs : List DV) : Prop := ∀ (i j : Nat) x y p, i ≠ j → xs[i]? = some x → xs[j]? = some y → x.mut = true → y.mut = true → vs[i]? = some (.ref p) → vs[j]? ≠ some (.ref p)
inductive PVs (C : Ct) (σ : L2.St) (G H : Hp) (s : Dt) : List V → List DV → Prop
  | nil : PVs C σ G H s [] []
  | cons {v : V} {x : DV} {vs : List V} {xs : List DV} : PV C σ G H s v x → PVs C σ G H s vs xs → PVs C σ G H s (v :: vs) (x :: xs)
def IX (C : Ct) (t : TE) (w : WX) : Prop := ∀ G σ H s Q Q', Rel C G σ H s → w s Q →
  (∀ v x s' G' H', Q x s' → Rel C G' σ H' s' → Ex G G' → Gs C σ G H s G' H' s' → PV C σ G' H' s' v x → (∀ p, x.mut = true → v = .ref p → H p = none) → Q' v H') → t σ H Q'
def IXs (C : Ct) (t : TA) (w : WXs) : Prop := ∀ G σ H s Q Q', Rel C G σ H s → w s Q →
  (∀ vs xs s' G' H', Q xs s' → Rel C G' σ H' s' → Ex G G' → Gs C σ G H s G' H' s' → PVs C σ G' H' s' vs xs → Frs H vs xs → Dst vs xs → Q' vs H') → t σ H Q'
structure DX (X : Cx) (C : Ct) (e : Expr) (t : TE) (w : WX) : Prop where
  pe : PE X e t
  ix : IX C t w
structure DXs (X : Cx) (C : Ct) (es : List Expr) (t : TA) (w : WXs) : Prop where
  pa : PA X es t
  ix : IXs C t w
theorem DE.dx (h : DE X C e t w) : DX X C e t (fun s Q => w s fun d s1 => Q (.d d) s1) := ⟨h.pe, fun G σ H s Q Q' r q k => h.ie G σ H s _ _ r q fun v d s' G' H' q' r' eg g p => k v (.d d) s' G' H' q' r' eg g p fun _ m => nomatch m⟩
theorem DO.dx {w : WA} (h : DO X C e t w) : DX X C e t (fun s Q => w s fun ds s1 => Q (.own ds) s1) := ⟨h.pe, fun G σ H s Q Q' r q k => h.io G σ H s _ _ r q fun p xs ds s' G' H' q' r' eg g hp h1 h2 h3 h4 =>
  k (.ref p) (.own ds) s' G' H' q' r' eg g ⟨p, xs, rfl, h1, r.fin.h0 hp, h2, h3, h4⟩ fun p' _ z => by cases z; exact hp⟩
theorem dx_nil : DXs X C [] tNil (fun s Q => Q [] s) := ⟨pa_nil, fun G σ H s Q Q' r q k => k [] [] s G H q r (Ex.refl G) Gs.refl .nil (fun i x p e => by simp at e) fun i j x y p _ e => by simp at e⟩
theorem PVs.mono {σ : L2.St} {G H G' H' : Hp} {s s' : Dt} (r : Rel C G σ H s) (eg : Ex G G') (g : Gs C σ G H s G' H' s') : ∀ {vs : List V} {xs : List DV}, PVs C σ G H s vs xs → PVs C σ G' H' s' vs xs
  | _, _, .nil => .nil
  | _, _, .cons h t => .cons (h.mono r eg g) (PVs.mono r eg g t)
theorem dx_cons {tr : TA} {w : WX} {wr : WXs} (h : DX X C e t w) (hr : DXs X C es tr wr) (hs : starEach (e :: es) X.env = (false, eval e X.env) :: starEach es X.env := by rfl) : DXs X C (e :: es) (tCons t tr) (fun s Q => w s fun x s1 => wr s1 fun xs s2 => Q (x :: xs) s2) :=
  ⟨pa_cons h.pe hr.pa hs, fun G σ H s Q Q' r q k => h.ix G σ H s _ _ r q fun v x s1 G1 H1 q1 r1 eg1 g1 p1 f1 => hr.ix G1 σ H1 s1 _ _ r1 q1 fun vs xs s2 G2 H2 q2 r2 eg2 g2 p2 f2 d2 => by
    refine k (v :: vs) (x :: xs) s2 G2 H2 q2 r2 (eg1.trans eg2) (g1.trans g2) (.cons (p1.mono r1 eg2 g2) p2) (fun i y p ei m hv => ?_) fun i j y z p hne ei ej m1 m2 hv => ?_
    · cases i with
      | zero =>
        cases ei
        cases hv
        exact f1 p m rfl
      | succ i =>
        have := f2 i y p (by simpa using ei) m (by simpa using hv)
        cases q : H p with
        | none => rfl
        | some o => exact absurd this (g1.dom p (by rw [q]; exact Option.some_ne_none _))
    · have key : ∀ (n : Nat) (y z : DV) (p : Addr), y = x → xs[n]? = some z → y.mut = true → z.mut = true → v = .ref p → vs[n]? ≠ some (.ref p) := fun n y z p e1 e2 m1 m2 hv hn => by
        subst e1
        have hz := f2 n z p e2 m2 hn
        cases y with
        | own ds =>
          obtain ⟨p', xs', a1, a2, _⟩ := p1
          rw [hv] at a1
          cases a1
          rw [hz] at a2
          cases a2
        | dic _ => exact p1
        | dit _ => exact p1
        | dd _ => exact p1
        | oth _ => exact p1
        | d _ => cases m1
        | box => cases m1
      cases i with
      | zero =>
        cases j with
        | zero => exact absurd rfl hne
        | succ j =>
          cases ei
          cases hv
          simpa using key j x z p rfl (by simpa using ej) m1 m2 rfl
      | succ i =>
        cases j with
        | zero =>
          cases ej
          intro hn
          cases hn
          exact key i x y p rfl (by simpa using ei) m2 m1 rfl (by simpa using hv)
        | succ j => simpa using d2 i j y z p (fun e => hne (by rw [e])) (by simpa using ei) (by simpa using ej) m1 m2 (by simpa using hv)⟩
/-- names by slots, all different -/
def setS (σ : L2.St) : List Nat → List V → L2.St
  | k :: ks, v :: vs => setS (σ.set k (some v)) ks vs
  | _, _ => σ
def Dt.sets (s : Dt) : List Nat → List DV → Dt
  | k :: ks, x :: xs => (s.set k x).sets ks xs
  | _, _ => s
theorem rel_sets {G H : Hp} : ∀ {ks : List Nat} {vs : List V} {xs : List DV} {σ : L2.St} {s : Dt}, Rel C G σ H s → PVs C σ G H s vs xs → Dst vs xs → Rel C G (setS σ ks vs) H (s.sets ks xs)
  | [], _, _, _, _, r, _, _ => r
  | _ :: _, _, _, _, _, r, .nil, _ => r
  | k :: ks, _, _, σ, s, r, .cons (v := v) (x := x) (vs := vs) (xs := xs) h t, hd => by
    have r1 : Rel C G (σ.set k (some v)) H (s.set k x) := r.put h.rv fun m j y p ej mj hv => by
      cases x with
      | own ds =>
        obtain ⟨p', xs', a1, a2, a3, a4, a5, a6⟩ := h
        rw [hv] at a1
        cases a1
        exact a6 j y ej mj
      | d _ => cases m
      | box => cases m
      | dic _ => exact h.elim
      | dit _ => exact h.elim
      | dd _ => exact h.elim
      | oth _ => exact h.elim
    refine rel_sets (ks := ks) r1 ?_ fun i j y z p hne ei ej m1 m2 hv => by
      simpa using hd (i + 1) (j + 1) y z p (fun e => hne (Nat.succ.inj e)) (by simpa using ei) (by simpa using ej) m1 m2 (by simpa using hv)
    -- the others stay no slot's
    have go : ∀ {vs' : List V} {xs' : List DV}, PVs C σ G H s vs' xs' → (∀ (n : Nat) z p, xs'[n]? = some z → z.mut = true → vs'[n]? = some (.ref p) → x.mut = true → v ≠ .ref p) → PVs C (σ.set k (some v)) G H (s.set k x) vs' xs' := by
      intro vs' xs' hp
      induction hp with
      | nil => exact fun _ => .nil
      | @cons v' x' vs' xs' h' t' ih =>
        intro hq
        refine .cons ?_ (ih fun n z p e m hv => hq (n + 1) z p (by simpa using e) m (by simpa using hv))
        cases x' with
        | d _ => exact h'
        | own ds' =>
          obtain ⟨p', xs'', a1, a2, a3, a4, a5, a6⟩ := h'
          refine ⟨p', xs'', a1, a2, a3, a4, a5, fun i y e m => ?_⟩
          rcases get_set e with ⟨rfl, rfl, hl⟩ | ⟨z, e⟩
          · intro hs
            rw [List.getElem?_set_self (by rw [← r.len]; exact hl)] at hs
            cases hs
            exact hq 0 _ p' rfl rfl (by rw [a1]; rfl) m rfl
          · rw [List.getElem?_set_ne (Ne.symm z)]
            exact a6 i y e m
        | dic _ => exact h'
        | dit _ => exact h'
        | dd _ => exact h'
        | oth _ => exact h'
        | box => exact h'
    exact go t fun n z p e m hv hx hvp => hd 0 (n + 1) x z p (by omega) rfl (by simpa using e) hx m (by rw [hvp]; rfl) (by simpa using hv)
def wPar (n : Nat) (ks : List Nat) (w : WXs) : WS := fun DD s => w s fun xs s1 => xs.length = n ∧ DD.nx (s1.sets ks xs)
theorem pvs_len {σ : L2.St} {G H : Hp} {s : Dt} : ∀ {vs : List V} {xs : List DV}, PVs C σ G H s vs xs → vs.length = xs.length
  | _, _, .nil => rfl
  | _, _, .cons _ t => by rw [List.length_cons, List.length_cons, pvs_len t]
theorem is_par2 {i j : Nat} {w : WXs} (h : IXs C tA w) : IS C (tPar i j tA) (wPar 2 [i, j] w) := fun G σ H s D DD r q o => h G σ H s _ _ r q fun vs xs s1 G1 H1 q1 r1 eg g p f d => by
  obtain ⟨hl, q1⟩ := q1
  have hv := pvs_len p
  match vs, hv with
  | [v, v'], _ => exact ⟨v, v', rfl, o.nx _ H1 _ G1 q1 (rel_sets (ks := [i, j]) r1 p d) eg⟩
  | [], hv => rw [hl] at hv; simp at hv
  | [_], hv => rw [hl] at hv; simp at hv
  | _ :: _ :: _ :: _, hv => rw [hl] at hv; simp at hv
theorem ds_par2 (i j : Nat) {xn yn : Str} {px py pt : Pos} {kt k2 pt2} {w : WXs} (hc : X.calm = true) (hN : X.N.Nodup) (h : DXs X C [a, b] tA w) (hi : X.N[i]? = some xn := by rfl) (hj : X.N[j]? = some yn := by rfl) (hij : i ≠ j := by decide)
    (hx : X.env.scope.names.lookup xn = some .local := by rfl) (hy : X.env.scope.names.lookup yn = some .local := by rfl)
    (hw : swappedStores [.Tuple [.Name xn px, .Name yn py] kt pt] (.Tuple [a, b] k2 pt2) X.env = Pure.pure (some [xn, yn]) := by rfl)
    (hs : swapsWithSole [.Tuple [.Name xn px, .Name yn py] kt pt] (.Tuple [a, b] k2 pt2) pos.line X.env = Pure.pure false := by rfl) :
    DS X C (.Assign [.Tuple [.Name xn px, .Name yn py] kt pt] (.Tuple [a, b] k2 pt2) pos) (tPar i j tA) (wPar 2 [i, j] w) := ⟨ps_par hc hN hi hj hij hx hy h.pa hw hs, is_par2 h.ix⟩
theorem is_par3 {i j l : Nat} {w : WXs} (h : IXs C tA w) : IS C (tPar3 i j l tA) (wPar 3 [i, j, l] w) := fun G σ H s D DD r q o => h G σ H s _ _ r q fun vs xs s1 G1 H1 q1 r1 eg g p f d => by
  obtain ⟨hl, q1⟩ := q1
  have hv := pvs_len p
  match vs, hv with
  | [v, v', v''], _ => exact ⟨v, v', v'', rfl, o.nx _ H1 _ G1 q1 (rel_sets (ks := [i, j, l]) r1 p d) eg⟩
  | [], hv => rw [hl] at hv; simp at hv
  | [_], hv => rw [hl] at hv; simp at hv
  | [_, _], hv => rw [hl] at hv; simp at hv
  | _ :: _ :: _ :: _ :: _, hv => rw [hl] at hv; simp at hv
def gNames : List Nat → TGs
  | [] => gNil
  | k :: ks => gCons (gName k) (gNames ks)
theorem ig_names {G H : Hp} {D : L2.St → Hp → Prop} : ∀ {ks : List Nat} {vs : List V} {σ : L2.St}, vs.length = ks.length → D (setS σ ks vs) H → gNames ks vs σ H D
  | [], [], _, _, h => ⟨rfl, h⟩
  | k :: ks, v :: vs, σ, hl, h => ⟨v, vs, rfl, ig_names (G := G) (ks := ks) (by simpa using hl) h⟩
theorem is_parT {n : Nat} {ks : List Nat} {w : WXs} (hn : ks.length = n) (hn2 : n ≤ 100 := by decide) (h : IXs C tA w) : IS C (tAsg (tTup tA) (gTup C.K n (gNames ks))) (wPar n ks w) := fun G σ H s D DD r q o => h G σ H s _ _ r q fun vs xs s1 G1 H1 q1 r1 eg g p f d => by
  obtain ⟨hl, q1⟩ := q1
  have hv := pvs_len p
  refine ⟨sz_of (by omega), fun T hT => ⟨T, vs, rfl, .inl (.inl upd_same), by omega, ig_names (G := G) (by omega) ?_⟩⟩
  have e : Ex H1 (upd H1 T (.tup vs)) := Ex.new hT
  exact o.nx _ _ _ G1 q1 (rel_sets (ks := ks) (r1.aside e) (p.mono r1 (Ex.refl G1) (.side e)) d) eg
theorem ds_parT {n : Nat} (ks : List Nat) {kk k2 : Nat} {es2 : List Expr} {pt pt2 : Pos} {w : WXs} (hK : X.K = C.K) (hpg : PG X (.Tuple es kk pt) (gTup X.K n (gNames ks))) (hn : ks.length = n) (h : DXs X C es2 tA w) (hn2 : n ≤ 100 := by decide)
    (hs : swapsWithSole [.Tuple es kk pt] (.Tuple es2 k2 pt2) pos.line X.env = Pure.pure false := by rfl) (hw : swappedStores [.Tuple es kk pt] (.Tuple es2 k2 pt2) X.env = Pure.pure none := by rfl) (h1 : (assignEach [.Tuple es kk pt] X.env).map (·.2) = [assign (.Tuple es kk pt) X.env] := by rfl) :
    DS X C (.Assign [.Tuple es kk pt] (.Tuple es2 k2 pt2) pos) (tAsg (tTup tA) (gTup C.K n (gNames ks))) (wPar n ks w) := ⟨ps_asg (pe_tup h.pa) (hK ▸ hpg) hs hw h1, is_parT hn hn2 h.ix⟩
end
end Dw

namespace Dw
open PySem PySem.Spec PyProof.Rows L2 OgR Evl
section
variable {X : Cx} {C : Ct} {a b e tg : Expr} {es : List Expr} {pos p : Pos} {t ta tb tc te ty : TE} {w wa wb wc we wy : WE} {tA : TA} {wA : WA} {x : Str} {st : Stmt} {sts : List Stmt} {ps : List Str} {k : Nat}
/-! ### constants of the module -/
structure GC (K : PySem.W.Frag) (mg : Str → Option Value) (x : Str) (d : PyData) : Prop where
  ex : ∃ a, mg x = some (.ref a) ∧ ∀ G, Dp K G (.ref a) d
def tGl (mg : Str → Option Value) (x : Str) : TE := fun _ H Q => ∀ a, mg x = some (.ref a) → Q (.ref a) H
theorem de_gc {d : PyData} {mg : Str → Option Value} (c : GC C.K mg x d) (hg : Gl X x) (hmg : X.mg = mg := by rfl) (hd : (x == ("__debug__" : Str)) = false := by decide) : DE X C (.Name x pos) (tGl mg x) (wC d) := by
  subst hmg
  obtain ⟨a, hm, hD⟩ := c.ex
  refine ⟨⟨fun pins s σ H Q I h => (pe_glob (v := .ref a) hg hm rfl hd).run pins s σ H Q I (h a hm)⟩, fun G σ H s Q Q' r q k a' hm' => ?_⟩
  rw [hm] at hm'
  cases hm'
  exact k _ _ s G H q r (Ex.refl G) Gs.refl (hD G)
/-- an int of the module -/
theorem de_gi {i : Int} {tk : Tok} (hm : X.mg x = some (.int i tk)) (hg : Gl X x) (hd : (x == ("__debug__" : Str)) = false := by decide) : DE X C (.Name x pos) (tC (.int i)) (wC (.int i)) := ⟨pe_glob hg hm ⟨_, rfl⟩ hd, ie_c fun _ => .int _⟩
/-! ### dicts of constants, by a key -/
def vOf : PyData → V
  | .int i => .int i
  | .str z => .str z
  | .bool b => .bl b
  | _ => .non
def flt : PyData → Bool
  | .int _ | .str _ | .bool _ | .none => true
  | _ => false
theorem dp_flt {K : PySem.W.Frag} {G : Hp} {d : PyData} (h : flt d = true) : Dp K G (vOf d) d := by
  cases d with
  | none => exact .non
  | bool b => exact .bl b
  | int i => exact .int i
  | str z => exact .str z
  | list _ => cases h
  | tuple _ => cases h
  | dict _ => cases h
structure GD (wd : World) (K : PySem.W.Frag) (mg : Str → Option Value) (x : Str) (tbl : List (Str × PyData)) : Prop where
  ex : ∃ a, mg x = some (.ref a) ∧ ∀ z d, (z, d) ∈ tbl → flt d = true ∧ KDct K wd a z (vOf d)
def wGix (tbl : List (Str × PyData)) (wy : WE) : WE := fun s Q => wy s fun y s1 => ∃ z d, y = .str z ∧ (z, d) ∈ tbl ∧ Q d s1
theorem de_gix {tbl : List (Str × PyData)} {p2 : Pos} {wd : World} {mg : Str → Option Value} (c : GD wd C.K mg x tbl) (hK : X.K = C.K) (hg : Gl X x) (hy : DE X C b ty wy) (hmg : X.mg = mg := by rfl) (hwd : X.w = wd := by rfl) (hs : PlainIx b := by exact fun _ _ => rfl) (hd : (x == ("__debug__" : Str)) = false := by decide) :
    DE X C (.Subscript (.Name x p2) b pos) (tOp (rIxD C.K wd) (tGl mg x) ty) (wGix tbl wy) := by
  subst hmg hwd
  obtain ⟨a, hm, hD⟩ := c.ex
  have hpe : PE X (.Name x p2) (tGl X.mg x) := ⟨fun pins s σ H Q I h => (pe_glob (v := .ref a) hg hm rfl hd).run pins s σ H Q I (h a hm)⟩
  refine ⟨pe_ix (hK ▸ ix_kdict) hpe hy.pe hs, fun G σ H s Q Q' r q k a' hm' => hy.ie G σ H s _ _ r q fun v d s1 G1 H1 q1 r1 eg g pd => ?_⟩
  rw [hm] at hm'
  cases hm'
  obtain ⟨z, dd, rfl, hz, q1⟩ := q1
  obtain ⟨hf, kd⟩ := hD z dd hz
  exact ⟨a, z, vOf dd, rfl, dp_str pd, kd, k _ _ s1 G1 H1 q1 r1 eg g (dp_flt hf)⟩
/-- a displayed dict -/
def keyD : PyData → Option Key
  | .int i => some (.inl i)
  | .str z => some (.inr z)
  | _ => none
theorem key_v {K : PySem.W.Frag} {G : Hp} {v : V} {d : PyData} {k : Key} (h : Dp K G v d) (e : keyD d = some k) : v = kV k := by
  cases h with
  | int i => cases e; rfl
  | str z => cases e; rfl
  | _ => cases e
def kvsV (tbl : List (Key × PyData)) : List (Key × V) := tbl.map fun kd => (kd.1, vOf kd.2)
def lookD (tbl : List (Key × PyData)) (k : Key) : Option PyData := (tbl.find? fun kd => decide (kd.1 = k)).map (·.2)
def wDix (tbl : List (Key × PyData)) (wy : WE) : WE := fun s Q => wy s fun y s1 => ∃ k d, keyD y = some k ∧ lookD tbl k = some d ∧ Q d s1
theorem valV_of {tbl : List (Key × PyData)} {k : Key} {d : PyData} (h : lookD tbl k = some d) : valV (kvsV tbl) k = some (vOf d) := by
  unfold lookD at h
  unfold valV kvsV
  rw [List.find?_map]
  cases q : tbl.find? (fun kd => decide (kd.1 = k)) with
  | none => rw [q] at h; cases h
  | some kd =>
    rw [q] at h
    cases h
    have e : ((fun kv : Key × V => decide (kv.1 = k)) ∘ fun kd : Key × PyData => (kd.1, vOf kd.2)) = fun kd => decide (kd.1 = k) := rfl
    rw [e, q]
    rfl
theorem lookD_mem {tbl : List (Key × PyData)} {k : Key} {d : PyData} (h : lookD tbl k = some d) : (k, d) ∈ tbl := by
  unfold lookD at h
  cases q : tbl.find? (fun kd => decide (kd.1 = k)) with
  | none => rw [q] at h; cases h
  | some kd =>
    rw [q] at h
    cases h
    have h1 := List.find?_some q
    have h2 := List.mem_of_find?_eq_some q
    obtain ⟨k', d'⟩ := kd
    have e : k' = k := of_decide_eq_true h1
    subst e
    exact h2
theorem de_dix {keys : List (Option Expr)} {vals : List Expr} {trs : List (TE × TE)} {p2 : Pos} (tbl : List (Key × PyData)) (hu : X.A.units + 1 < cLine) (hp : PE X (.Dict keys vals p2) (tDisp trs)) (hc : ∀ σ H Q, Q ((kvsV tbl).map fun kv => (kV kv.1, kv.2)) H → tPairs trs σ H Q) (hy : DE X C b ty wy)
    (hm : mergeK [] (kvsV tbl) = kvsV tbl := by rfl) (hl : tbl.length ≤ 15 := by decide) (hf : ∀ kd ∈ tbl, flt kd.2 = true := by decide) (hs : NoSl b := by exact fun _ _ => rfl) :
    DE X C (.Subscript (.Dict keys vals p2) b pos) (tDGet (tDisp trs) ty) (wDix tbl wy) := ⟨pe_dget hu hp hy.pe hs, fun G σ H s Q Q' r q k pp hpp => hc _ _ _ ⟨upd_same, kvsV tbl, rfl, by unfold kvsV; rw [List.length_map]; exact hl, by
    have e1 : Ex H (upd (upd H pp (.dK [])) pp (.dK (mergeK [] (kvsV tbl)))) := by
      rw [upd_upd]
      exact Ex.new hpp
    refine hy.ie G σ _ s _ _ (r.aside e1) q fun v d s1 G1 H1 q1 r1 eg g pd => ?_
    obtain ⟨kk, dd, hk, hl2, q1⟩ := q1
    have hp1 : H1 pp = some (.dK (kvsV tbl)) := by
      rw [hm] at g
      exact g.gr pp _ (r.fin.nbx (r.fin.h0 hpp)) upd_same
    refine ⟨pp, vOf dd, rfl, ?_, k _ _ s1 G1 H1 q1 r1 eg ((Gs.side e1).trans g) (dp_flt (hf _ (lookD_mem hl2)))⟩
    rw [key_v pd hk, ← valV_of hl2]
    exact DGet.k hp1⟩⟩
/-! ### list + list, looked at -/
def rCatL (K : PySem.W.Frag) : R2 := fun x y H Q => ∃ l m xs zs, x = .ref l ∧ y = .ref m ∧ SqL K H l xs ∧ SqL K H m zs ∧ xs.length + zs.length ≤ sizeLine ∧ ∀ p, H p = none → Q (.ref p) (upd H p (.lst (xs ++ zs)))
theorem op_catL : OpR X (binaryOp .Add) (rCatL X.K) := by
  intro pins s σ H x y v u Q I rx ry h
  obtain ⟨l, m, xs, zs, rfl, rfl, h1, h2, hz, q⟩ := h
  cases rx
  cases ry
  obtain ⟨its, r1, p1, _⟩ := I.list h1
  obtain ⟨js, r2, p2, _⟩ := I.list h2
  obtain ⟨⟨c1, d1, t1, s1⟩, n1, g1, e1, _, k1⟩ := p1
  obtain ⟨⟨c2, d2, t2, s2⟩, n2, g2, e2, _, k2⟩ := p2
  simp only at e1 k1 e2 k2
  subst e1 k1 e2 k2
  have hl : its.toArray.size + js.toArray.size ≤ sizeLine := by rw [List.size_toArray, List.size_toArray, ← r1.length, ← r2.length]; exact hz
  have hp := list_addW l m its.toArray js.toArray n1 n2 d1 d2 s1 s2 hl
  refine concat_meets ⟨_, g1, rfl⟩ ⟨_, g2, rfl⟩ noFill_list_add seq_list_add F.slot_list_add F.entry_list_add (F.args_list_add_2 _ _) hp ⟨g1, g2, ?_⟩
  rw [show its.toArray ++ js.toArray = (its ++ js).toArray by simp]
  exact ⟨.ref _, _, I.lnew (t' := s.toks) (r1.append r2) (by rw [List.length_append]; exact hz), rfl, q _ I.fresh⟩
def wCatP (u v : WE) : WA := fun s Q => u s fun d s1 => v s1 fun e s2 => ∃ ds es, d = .list ds ∧ e = .list es ∧ ds.length + es.length ≤ 100000 ∧ Q (ds ++ es) s2
theorem do_catP (hK : X.K = C.K) (ha : DP X C a ta wa) (hb : DP X C b tb wb) : DO X C (.BinOp a .Add b pos) (tOp (rCatL C.K) ta tb) (wCatP wa wb) := ⟨pe_op (hK ▸ op_catL) ha.pe hb.pe, fun G σ H s Q Q' r q k =>
  ha.ip G σ H s _ _ r q fun v d s1 G1 H1 q1 r1 eg1 g1 p1 => hb.ip G1 σ H1 s1 _ _ r1 q1 fun v2 d2 s2 G2 H2 q2 r2 eg2 g2 p2 => by
    obtain ⟨ds, es, rfl, rfl, hl, q2⟩ := q2
    obtain ⟨a, xs, rfl, h1, h2⟩ := pk_lst (p1.mono eg2 g2.gr) r2.fin.gh
    obtain ⟨b, ys, rfl, h3, h4⟩ := pk_lst p2 r2.fin.gh
    exact ⟨a, b, xs, ys, rfl, rfl, h1, h3, sz_of (by rw [dpa_len h2, dpa_len h4]; exact hl), fun l hl => own_new r q2 r2 (eg1.trans eg2) (g1.trans g2) (dpa_app h2 h4) hl k⟩⟩
/-! ### more of lists of the def's own -/
/-- y = x.pop(), y = x.pop(i) -/
def wPopTo (j i : Nat) (wA : WA) (f : List PyData → List PyData → (PyData → List PyData → Prop) → Prop) : WS := fun DD s => (∃ ds0, s.env[i]? = some (some (.own ds0))) ∧ wA s fun as s1 => ∃ ds, s1.env[i]? = some (some (.own ds)) ∧ f ds as fun d ds' => DD.nx ((s1.set i (.own ds')).set j (.d d))
def fPop : List PyData → List PyData → (PyData → List PyData → Prop) → Prop := fun ds as Q => ∃ ds' d, as = [] ∧ ds = ds' ++ [d] ∧ Q d ds'
theorem dpa_snoc {K : PySem.W.Frag} {G : Hp} {xs : List V} {ds : List PyData} {d : PyData} (h : DpAll K G xs (ds ++ [d])) : ∃ ys y, xs = ys ++ [y] ∧ DpAll K G ys ds ∧ Dp K G y d := by
  have h1 := dpa_take ds.length h
  have h2 := dpa_drop ds.length h
  rw [List.take_left' rfl] at h1
  rw [List.drop_left' rfl] at h2
  have e := List.take_append_drop ds.length xs
  generalize List.drop ds.length xs = r at h2 e
  cases h2 with
  | cons p1 p2 =>
    cases p2
    exact ⟨_, _, e.symm, h1, p1⟩
/-- a list's method of no argument, its answer stored -/
theorem is_pop0 {i j : Nat} : IS C (tAsg (tBM0 C.K "list" rPop (tVar i)) (gName j)) (wPopTo j i (fun s Q => Q [] s) fPop) := fun G σ H s D DD rr q o => by
  obtain ⟨⟨ds0, e0⟩, ds, e1, ds', d, _, rfl, q⟩ := q
  obtain ⟨v, hv, p, xs, rfl, a1, a2, a3, a4⟩ := rr.sl i _ e1
  obtain ⟨ys, y, rfl, h1, h2⟩ := dpa_snoc a4
  refine ⟨_, hv, .inl ⟨rfl, _, .inl (.inl a1)⟩, p, ys ++ [y], y, rfl, rfl, a1, ?_, ?_⟩
  · rw [List.length_append, List.length_singleton, Nat.add_sub_cancel, List.getElem?_concat_length]
  · rw [List.dropLast_concat]
    exact o.nx _ _ _ G q ((rr.mutl e1 hv h1).putd h2) (Ex.refl G)
theorem ds_popTo (j i : Nat) {y : Str} {apos cpos py : Pos} (hK : X.K = C.K) (hN : X.N.Nodup) (hb : PE X (.Call (.Attribute (.Name x p) "pop" apos) [] [] cpos) (tBM0 X.K "list" rPop (tVar i)))
    (hi : X.N[j]? = some y := by rfl) (hx : Loc X.env.scope y := by first | exact .inl rfl | exact .inr rfl) (hs : swapsWith (.Call (.Attribute (.Name x p) "pop" apos) [] [] cpos) (some (.Name y py)) pos.line X.env = Pure.pure false := by rfl)
    (hf : X.fn y = true ∨ X.env.scope.names.lookup y = some .local := by first | exact .inl rfl | exact .inr rfl | assumption) :
    DS X C (.Assign [.Name y py] (.Call (.Attribute (.Name x p) "pop" apos) [] [] cpos) pos) (tAsg (tBM0 C.K "list" rPop (tVar i)) (gName j)) (wPopTo j i (fun s Q => Q [] s) fPop) := ⟨ps_set hN hi hx (hK ▸ hb) hs hf, is_pop0⟩
/-- x.pop(i), x.insert(i, y) as statements -/
def fPopAt : List PyData → List PyData → (PyData → List PyData → Prop) → Prop := fun ds as Q => ∃ (n : Nat) (d : PyData), as = [.int n] ∧ ds[n]? = some d ∧ n < 100000 ∧ Q d (ds.eraseIdx n)
def fIns : List PyData → List PyData → (PyData → List PyData → Prop) → Prop := fun ds as Q => ∃ (n : Nat) (d : PyData), as = [.int n, d] ∧ ds.length < 100000 ∧ n < 100000 ∧ Q .none (ds.take n ++ [d] ++ ds.drop n)
theorem dpa_erase {K : PySem.W.Frag} {G : Hp} : ∀ {xs : List V} {ds : List PyData} (n : Nat), DpAll K G xs ds → DpAll K G (xs.eraseIdx n) (ds.eraseIdx n)
  | _, _, _, .nil => .nil
  | _, _, 0, .cons _ t => t
  | _, _, n + 1, .cons h t => .cons h (dpa_erase n t)
theorem seqIx {n m : Nat} (h : n < m) : seqIndex? (n : Int) m = some n := by
  have := (ixN_seq (n := m) (i := n) (j := n) (by unfold ixN; rw [if_pos (by omega), if_pos (by omega), Int.toNat_natCast])).1
  exact this
theorem ds_popAt (i : Nat) {apos cpos : Pos} (hK : X.K = C.K) (h : DE X C e t w) (hb : PE X (.Call (.Attribute (.Name x p) "pop" apos) [e] [] cpos) (tBM X.K "list" rPopAt (tVar i) (tCons t tNil)))
    (hs : swapsWith (.Call (.Attribute (.Name x p) "pop" apos) [e] [] cpos) none pos.line X.env = Pure.pure false := by rfl) :
    DS X C (.Expr (.Call (.Attribute (.Name x p) "pop" apos) [e] [] cpos) pos) (tDrop (tBM C.K "list" rPopAt (tVar i) (tCons t tNil))) (wDrop (wMeth i (wCons w fun s Q => Q [] s) fPopAt)) :=
  ⟨ps_expr (hK ▸ hb) hs, is_meth (fun G H p xs vs ds as R Q' h1 h2 h3 hf k => by
    obtain ⟨n, d, rfl, hd, hn, hf⟩ := hf
    cases h3 with
    | cons p1 p2 =>
      cases p2
      obtain ⟨v, hv, pv⟩ := dpa_back h2 hd
      have hl : n < xs.length := (List.getElem?_eq_some_iff.mp hv).1
      exact ⟨p, xs, n, n, v, rfl, by rw [dp_int p1], h1, by omega, by omega, seqIx hl, hv, k _ _ _ _ hf (dpa_erase n h2) pv⟩) (ia_cons h.ie ia_nil)⟩
theorem ds_ins (i : Nat) {apos cpos : Pos} (hK : X.K = C.K) (h : DE X C a ta wa) (h' : DE X C b tb wb) (hb : PE X (.Call (.Attribute (.Name x p) "insert" apos) [a, b] [] cpos) (tBM X.K "list" (fun x vs H Q => ∃ (l : Addr) (xs : List V) (i : Int) (y : V), x = .ref l ∧ vs = [.int i, y] ∧ H l = some (.lst xs) ∧ xs.length < sizeLine ∧ 0 ≤ i ∧ i < 2 ^ 63 ∧
    Q .non (upd H l (.lst (xs.take i.toNat ++ [y] ++ xs.drop i.toNat)))) (tVar i) (tCons ta (tCons tb tNil))))
    (hs : swapsWith (.Call (.Attribute (.Name x p) "insert" apos) [a, b] [] cpos) none pos.line X.env = Pure.pure false := by rfl) :
    DS X C (.Expr (.Call (.Attribute (.Name x p) "insert" apos) [a, b] [] cpos) pos) (tDrop (tBM C.K "list" (fun x vs H Q => ∃ (l : Addr) (xs : List V) (i : Int) (y : V), x = .ref l ∧ vs = [.int i, y] ∧ H l = some (.lst xs) ∧ xs.length < sizeLine ∧ 0 ≤ i ∧ i < 2 ^ 63 ∧
    Q .non (upd H l (.lst (xs.take i.toNat ++ [y] ++ xs.drop i.toNat)))) (tVar i) (tCons ta (tCons tb tNil)))) (wDrop (wMeth i (wCons wa (wCons wb fun s Q => Q [] s)) fIns)) :=
  ⟨ps_expr (hK ▸ hb) hs, is_meth (fun G H p xs vs ds as R Q' h1 h2 h3 hf k => by
    obtain ⟨n, d, rfl, hl, hn, hf⟩ := hf
    cases h3 with
    | cons p1 p2 =>
      cases p2 with
      | cons p2 p3 =>
        cases p3
        refine ⟨p, xs, n, _, rfl, by rw [dp_int p1], h1, sz_lt (by rw [dpa_len h2]; exact hl), by omega, by omega, ?_⟩
        rw [Int.toNat_natCast]
        exact k _ _ _ _ hf (dpa_app (dpa_app (dpa_take n h2) (.cons p2 .nil)) (dpa_drop n h2)) .non) (ia_cons h.ie (ia_cons h'.ie ia_nil))⟩
/-- x[i] = e -/
def wSetIx (i : Nat) (we wi : WE) : WS := fun DD s => we s fun d s1 => (∃ ds0, s1.env[i]? = some (some (.own ds0))) ∧ wi s1 fun k s2 => ∃ (n : Nat) (ds : List PyData), k = .int n ∧ s2.env[i]? = some (some (.own ds)) ∧ n < ds.length ∧ DD.nx (s2.set i (.own (ds.set n d)))
theorem ds_setIx (i : Nat) {p2 : Pos} (h : DE X C e t w) (hi : DE X C b ty wy) (hps : PS X (.Assign [.Subscript (.Name x p) b p2] e pos) (tAsg t (gSub (tVar i) ty rSetL))) : DS X C (.Assign [.Subscript (.Name x p) b p2] e pos) (tAsg t (gSub (tVar i) ty rSetL)) (wSetIx i w wy) := ⟨hps, fun G σ H s D DD r q o =>
  h.ie G σ H s _ _ r q fun v d s1 G1 H1 q1 r1 eg1 g1 pd => by
    obtain ⟨⟨ds0, e0⟩, q1⟩ := q1
    obtain ⟨v0, hv0, _⟩ := r1.sl i _ e0
    refine ⟨v0, hv0, hi.ie G1 σ H1 s1 _ _ r1 q1 fun v2 kk s2 G2 H2 q2 r2 eg2 g2 pk => ?_⟩
    obtain ⟨n, ds, rfl, e2, hn, q2⟩ := q2
    obtain ⟨v3, hv3, pp, xs, rfl, a1, a2, a3, a4⟩ := r2.sl i _ e2
    rw [hv0] at hv3
    cases hv3
    have hl : n < xs.length := by rw [dpa_len a4]; exact hn
    exact ⟨pp, xs, n, n, rfl, dp_int pk, a1, by unfold ixN; rw [if_pos (by omega), if_pos (by omega), Int.toNat_natCast], o.nx _ _ _ G2 q2 (r2.mutl e2 hv0 (dpa_set (dp_ex eg2 pd) n a4)) (eg1.trans eg2)⟩⟩
/-! ### repr of data -/
def RepOk (d : PyData) : Prop := d.showable = true ∧ d.hasDict = false ∧ d.depth ≤ 40 ∧ d.shown.length ≤ sizeLine
def gRepr : G1 := fun d s Q => RepOk d ∧ Q (.str d.shown) s
theorem r1_repr : R1D C (rRepr C.K) gRepr := ⟨fun G σ H s x d Q Q' r pk q k => by
  obtain ⟨⟨h1, h2, h3, h4⟩, q⟩ := q
  exact ⟨x, d, rfl, pk.dp r.fin.gh, h1, h2, h3, h4, k _ _ s G H q r (Ex.refl G) Gs.refl (.str _)⟩⟩
theorem de_repr (hK : X.K = C.K) (hG : X.A.guards = some []) (hu : X.A.units + 64 < cLine) (hg : Gl X "repr") (hm : X.mg "repr" = none) (ha : DP X C a ta wa) (hs : starEach [a] X.env = (false, eval a X.env) :: starEach [] X.env := by rfl) :
    DE X C (.Call (.Name "repr" p) [a] [] pos) (tCB (rRepr C.K) (tCons ta tNil)) (w1 gRepr wa) := de_b1 (hK ▸ cr_repr hG hu) r1_repr hg hm (by decide +kernel) ha (by decide) (by decide) hs
/-! ### min of a tuple of ints -/
def rMinT' (K : PySem.W.Frag) : List V → Hp → VK → Prop := fun vs H Q => ∃ (a : Addr) (n : Int) (ns : List Int), vs = [V.ref a] ∧ SqT K H a ((n :: ns).map V.int) ∧ Q (.int (ns.foldl min n)) H
theorem reads_ints {h : Heap} : ∀ {us : List Value} {ns : List Int}, IntsAre us ns → ∃ as, ReadsAll h us (ns.map PyData.int) as
  | _, _, .nil => ⟨_, .nil⟩
  | _, _, .cons n t r => by
    obtain ⟨as, q⟩ := reads_ints r
    exact ⟨_, .cons (.int n t) q⟩
theorem alike_ints (ns : List Int) : PySem.W.AlikeAll (ns.map PyData.int) := by
  refine ⟨fun x hx y hy => ?_, fun x hx => ?_⟩
  · obtain ⟨i, _, rfl⟩ := List.mem_map.mp hx
    obtain ⟨j, _, rfl⟩ := List.mem_map.mp hy
    simp only [PySem.W.alike]
  · obtain ⟨i, _, rfl⟩ := List.mem_map.mp hx
    exact fun e => nomatch e
theorem depth_ints : ∀ ns : List Int, PyData.depthAll (ns.map PyData.int) = 0
  | [] => by simp [PyData.depthAll]
  | n :: r => by rw [List.map_cons]; simp only [PyData.depthAll, PyData.depth]; rw [depth_ints r]; rfl
theorem cr_minT (hc : X.calm = true) (hu : X.A.units + 1 < cLine) : CallR X (.builtin "min") (rMinT' X.K) := by
  intro pins s σ H vs us Q I r h
  obtain ⟨a, n, ns, rfl, hs, q⟩ := h
  obtain ⟨its, rv, pt, hz⟩ := I.tuple hs
  rw [Vals.ref1 r]
  obtain ⟨as, ra⟩ := reads_ints (h := s.heap) rv.ints
  refine PySem.W.min_tuple_data (x := .int n) (xs := ns.map .int) (vs := its.toArray) (I.ok.hd hc) pt (by simpa using ra) (alike_ints (n :: ns)) ?_ fun i v h' tk bs hi rd hk => ?_
  · rw [show PyData.int n :: ns.map PyData.int = (n :: ns).map PyData.int from rfl, depth_ints]
    exact hu
  · rw [PySem.W.minD_ints] at rd
    cases rd
    exact ⟨.int _, H, I.kept hk, ⟨_, rfl⟩, q⟩
def gMinT : G1 := fun d s Q => ∃ (n : Int) (ns : List Int), d = .tuple ((n :: ns).map .int) ∧ Q (.int (ns.foldl min n)) s
theorem r1_minT : R1D C (rMinT' C.K) gMinT := ⟨fun G σ H s x d Q Q' r pk q k => by
  obtain ⟨n, ns, rfl, q⟩ := q
  obtain ⟨p, xs, rfl, h1, h2⟩ := pk_tup pk
  rw [ints_dpa h2] at h1
  exact ⟨p, n, ns, rfl, Evl.ex_t r.fin.gh h1, k _ _ s G H q r (Ex.refl G) Gs.refl (.int _)⟩⟩
theorem de_minT (hK : X.K = C.K) (hc : X.calm = true) (hu : X.A.units + 1 < cLine) (hg : Gl X "min") (hm : X.mg "min" = none) (ha : DP X C a ta wa) (hs : starEach [a] X.env = (false, eval a X.env) :: starEach [] X.env := by rfl) :
    DE X C (.Call (.Name "min" p) [a] [] pos) (tCB (rMinT' C.K) (tCons ta tNil)) (w1 gMinT wa) := de_b1 (hK ▸ cr_minT hc hu) r1_minT hg hm (by decide +kernel) ha (by decide) (by decide) hs
/-! ### tuple * int -/
end
end Dw

namespace Dw
open PySem PySem.Spec PyProof.Rows L2 OgR Evl
theorem u65 {k : Nat} {A : Around} (r : Room k A) : A.units + 65 < cLine := by have := r.un; omega
section
variable {X : Cx} {C : Ct} {a b c e tg : Expr} {es : List Expr} {pos p : Pos} {t ta tb tc te ty : TE} {w wa wb wc we wy : WE} {tA : TA} {wA : WA} {x : Str} {st : Stmt} {sts : List Stmt} {ps : List Str} {k : Nat}
theorem dgs_c {g : TG} {gs : TGs} {k1 k2 : List Nat} {w : WG} {u : WGs} (h1 : DG X C e g k1 w) (h2 : DGs X C es gs k2 u) (hs : (assignEach (e :: es) X.env).map (·.2) = assign e X.env :: (assignEach es X.env).map (·.2) := by rfl) :
    DGs X C (e :: es) (gCons g gs) (k1 ++ k2) (wGCons w u) := dgs_cons h1 h2 (pgs_cons h1.pg h2.pg hs)
theorem di_zip2 {elts : List Expr} {kk : Nat} {tpos : Pos} (hK : X.K = C.K) (hg : Gl X "zip") (hm : X.mg "zip" = none) (h : DE X C a ta wa) (h' : DE X C b tb wb) (hs : starEach [a, b] X.env = (false, eval a X.env) :: starEach [b] X.env := by rfl) (hs2 : starEach [b] X.env = (false, eval b X.env) :: starEach [] X.env := by rfl)
    (hpl : (backTo pos (starEach [b] X.env)).any (·.1) = false := by rfl) : DI X C (.Tuple elts kk tpos) (.Call (.Name "zip" p) [a, b] [] pos) (iZipB C.K (tCons ta (tCons tb tNil))) (wZip wa wb) :=
  di_zip hK hg hm h h' (pi_zipB hg hm (pa_cons h.pe (pa_cons h'.pe pa_nil hs2) hs) hs hpl)
theorem ds_par3 (i j l : Nat) {xn yn zn : Str} {px py pz pt : Pos} {kt k2 pt2} {w : WXs} (hc : X.calm = true) (hN : X.N.Nodup) (h : DXs X C [a, b, c] tA w) (hi : X.N[i]? = some xn := by rfl) (hj : X.N[j]? = some yn := by rfl) (hl : X.N[l]? = some zn := by rfl) (hij : i ≠ j := by decide) (hil : i ≠ l := by decide) (hjl : j ≠ l := by decide)
    (hx : X.env.scope.names.lookup xn = some .local := by rfl) (hy : X.env.scope.names.lookup yn = some .local := by rfl) (hz : X.env.scope.names.lookup zn = some .local := by rfl)
    (hw : swappedStores [.Tuple [.Name xn px, .Name yn py, .Name zn pz] kt pt] (.Tuple [a, b, c] k2 pt2) X.env = Pure.pure (some [xn, yn, zn]) := by rfl)
    (hs : swapsWithSole [.Tuple [.Name xn px, .Name yn py, .Name zn pz] kt pt] (.Tuple [a, b, c] k2 pt2) pos.line X.env = Pure.pure false := by rfl) :
    DS X C (.Assign [.Tuple [.Name xn px, .Name yn py, .Name zn pz] kt pt] (.Tuple [a, b, c] k2 pt2) pos) (tPar3 i j l tA) (wPar 3 [i, j, l] w) := ⟨ps_par3 hc hN hi hj hl hij hil hjl hx hy hz h.pa hw hs, is_par3 h.ix⟩
/-! the methods of a list of the def's own, in short -/
theorem ds_app (i : Nat) {apos cpos : Pos} (hK : X.K = C.K) (h : DE X C e t w) (hv : PE X (.Name x p) (tVar i) := by exact pv _) (hb0 : attributeBase (.Name x p) "append" X.env (eval (.Name x p) X.env) = eval (.Name x p) X.env := by rfl)
    (hfew : ((backTo cpos (starEach [e] X.env)).all (fun x => !x.1) && (backToKw cpos (keywordEach [] X.env)).all (fun x => x.1.isSome) && decide ([e].length + ([] : List Keyword).length + (if ([] : List Keyword).isEmpty then 0 else 1) < 30)) = true := by rfl)
    (hline : (apos.endLine == cpos.line) = true := by rfl) (hst : starEach [e] X.env = (false, eval e X.env) :: starEach [] X.env := by rfl) (hpl : (backTo cpos (starEach [] X.env)).any (·.1) = false := by rfl)
    (hs : swapsWith (.Call (.Attribute (.Name x p) "append" apos) [e] [] cpos) none pos.line X.env = Pure.pure false := by rfl) :
    DS X C (.Expr (.Call (.Attribute (.Name x p) "append" apos) [e] [] cpos) pos) (tDrop (tBM C.K "list" rAppend (tVar i) (tCons t tNil))) (wDrop (wMeth i (wCons w fun s Q => Q [] s) fAppend)) :=
  ds_append i hK h hv (pe_bm PySem.F.plainAttrs_list PySem.F.slot_list_append PySem.F.type_list_append mt_append hv (pa_cons h.pe pa_nil hst) hb0 hfew hline hst hpl) hs
theorem ds_popA (i : Nat) {apos cpos : Pos} (hK : X.K = C.K) (h : DE X C e t w) (hv : PE X (.Name x p) (tVar i) := by exact pv _) (hb0 : attributeBase (.Name x p) "pop" X.env (eval (.Name x p) X.env) = eval (.Name x p) X.env := by rfl)
    (hfew : ((backTo cpos (starEach [e] X.env)).all (fun x => !x.1) && (backToKw cpos (keywordEach [] X.env)).all (fun x => x.1.isSome) && decide ([e].length + ([] : List Keyword).length + (if ([] : List Keyword).isEmpty then 0 else 1) < 30)) = true := by rfl)
    (hline : (apos.endLine == cpos.line) = true := by rfl) (hst : starEach [e] X.env = (false, eval e X.env) :: starEach [] X.env := by rfl) (hpl : (backTo cpos (starEach [] X.env)).any (·.1) = false := by rfl)
    (hs : swapsWith (.Call (.Attribute (.Name x p) "pop" apos) [e] [] cpos) none pos.line X.env = Pure.pure false := by rfl) :
    DS X C (.Expr (.Call (.Attribute (.Name x p) "pop" apos) [e] [] cpos) pos) (tDrop (tBM C.K "list" rPopAt (tVar i) (tCons t tNil))) (wDrop (wMeth i (wCons w fun s Q => Q [] s) fPopAt)) :=
  ds_popAt i hK h (pe_bm PySem.F.plainAttrs_list PySem.F.slot_list_pop PySem.F.type_list_pop mt_popAt hv (pa_cons h.pe pa_nil hst) hb0 hfew hline hst hpl) hs
abbrev rIns : V → List V → Hp → VK → Prop := fun x vs H Q => ∃ (l : Addr) (xs : List V) (i : Int) (y : V), x = .ref l ∧ vs = [.int i, y] ∧ H l = some (.lst xs) ∧ xs.length < sizeLine ∧ 0 ≤ i ∧ i < 2 ^ 63 ∧
  Q .non (upd H l (.lst (xs.take i.toNat ++ [y] ++ xs.drop i.toNat)))
theorem ds_insA (i : Nat) {apos cpos : Pos} (hK : X.K = C.K) (h : DE X C a ta wa) (h' : DE X C b tb wb) (hv : PE X (.Name x p) (tVar i) := by exact pv _) (hb0 : attributeBase (.Name x p) "insert" X.env (eval (.Name x p) X.env) = eval (.Name x p) X.env := by rfl)
    (hfew : ((backTo cpos (starEach [a, b] X.env)).all (fun x => !x.1) && (backToKw cpos (keywordEach [] X.env)).all (fun x => x.1.isSome) && decide ([a, b].length + ([] : List Keyword).length + (if ([] : List Keyword).isEmpty then 0 else 1) < 30)) = true := by rfl)
    (hline : (apos.endLine == cpos.line) = true := by rfl) (hst : starEach [a, b] X.env = (false, eval a X.env) :: starEach [b] X.env := by rfl) (hst2 : starEach [b] X.env = (false, eval b X.env) :: starEach [] X.env := by rfl) (hpl : (backTo cpos (starEach [b] X.env)).any (·.1) = false := by rfl)
    (hs : swapsWith (.Call (.Attribute (.Name x p) "insert" apos) [a, b] [] cpos) none pos.line X.env = Pure.pure false := by rfl) :
    DS X C (.Expr (.Call (.Attribute (.Name x p) "insert" apos) [a, b] [] cpos) pos) (tDrop (tBM C.K "list" rIns (tVar i) (tCons ta (tCons tb tNil)))) (wDrop (wMeth i (wCons wa (wCons wb fun s Q => Q [] s)) fIns)) :=
  ds_ins i hK h h' (pe_bm PySem.F.plainAttrs_list PySem.F.slot_list_insert PySem.F.type_list_insert mt_insert hv (pa_cons h.pe (pa_cons h'.pe pa_nil hst2) hst) hb0 hfew hline hst hpl) hs
theorem ds_sub (i : Nat) {p2 : Pos} (h : DE X C e t w) (hi : DE X C b ty wy) (hps : PE X e t → PE X b ty → PS X (.Assign [.Subscript (.Name x p) b p2] e pos) (tAsg t (gSub (tVar i) ty rSetL)) := by exact fun h hi => ps_asg h (pg_sub (pv _) hi set_list)) :
    DS X C (.Assign [.Subscript (.Name x p) b p2] e pos) (tAsg t (gSub (tVar i) ty rSetL)) (wSetIx i w wy) := ds_setIx i h hi (hps h.pe hi.pe)
end
/-! ### loops, what follows a turn kept closed -/
theorem for_by {ds : List PyData} {g : WG} {wb : WS} {DD : DEnds} {s1 : Dt} (Inv : Nat → Dt → Prop) (h0 : Inv 0 s1)
    (hs : ∀ (i : Nat) d s2 (J : Dt → Prop), ds[i]? = some d → Inv i s2 → (∀ s, Inv (i + 1) s → J s) → g d s2 fun s3 => wb { nx := J, rt := DD.rt, bk := DD.nx, ct := J } s3) (hd : ∀ s2, Inv ds.length s2 → DD.nx s2) :
    ∃ Inv : Nat → Dt → Prop, Inv 0 s1 ∧ (∀ (i : Nat) d s2, ds[i]? = some d → Inv i s2 → g d s2 fun s3 => wb { nx := Inv (i + 1), rt := DD.rt, bk := DD.nx, ct := Inv (i + 1) } s3) ∧ ∀ s2, Inv ds.length s2 → DD.nx s2 :=
  ⟨Inv, h0, fun i d s2 e inv => hs i d s2 (Inv (i + 1)) e inv fun _ h => h, hd⟩
/-! ### simple comprehensions -/
theorem lc_by {ds : List PyData} {g : WG} {tt : WT} {te : WE} {vs : List Nat} {env : List (Option DV)} {c : Int} {Q : List PyData → Dt → Prop} (f : PyData → Option PyData) (hl : ds.length ≤ 99999)
    (h : ∀ d ∈ ds, ∀ (acc : List PyData) (J : List PyData → Int → Prop), acc.length < 100000 → (∀ y, f d = some y → J (acc ++ [y]) c) → (f d = none → J acc c) →
      g d ⟨wipeD env vs, c⟩ fun s2 => tt s2 fun b s3 => s3.env = s2.env ∧ if b = true then te s3 fun y s4 => s4.env = s2.env ∧ acc.length < 100000 ∧ J (acc ++ [y]) s4.c else J acc s3.c) (q : Q (ds.filterMap f) ⟨env, c⟩) :
    ∃ Inv : Nat → List PyData → Int → Prop, Inv 0 [] c ∧
      (∀ (i : Nat) d acc c', ds[i]? = some d → Inv i acc c' → g d ⟨wipeD env vs, c'⟩ fun s2 => tt s2 fun b s3 => s3.env = s2.env ∧ if b = true then te s3 fun y s4 => s4.env = s2.env ∧ acc.length < 100000 ∧ Inv (i + 1) (acc ++ [y]) s4.c else Inv (i + 1) acc s3.c) ∧
      ∀ acc c', Inv ds.length acc c' → Q acc ⟨env, c'⟩ := by
  refine ⟨fun i acc c' => c' = c ∧ acc = (ds.take i).filterMap f, ⟨rfl, rfl⟩, fun i d acc c' hd inv => ?_, fun acc c' inv => ?_⟩
  · obtain ⟨rfl, rfl⟩ := inv
    have e : ds.take (i + 1) = ds.take i ++ [d] := by rw [List.take_add_one, hd]; rfl
    refine h d (List.mem_of_getElem? hd) _ (fun acc c2 => c2 = c' ∧ acc = (ds.take (i + 1)).filterMap f) ?_ (fun y hy => ⟨rfl, ?_⟩) fun hy => ⟨rfl, ?_⟩
    · have := List.length_filterMap_le f (ds.take i)
      rw [List.length_take] at this
      omega
    · rw [e, List.filterMap_append, List.filterMap_cons, hy]
      rfl
    · rw [e, List.filterMap_append, List.filterMap_cons, hy]
      simp
  · obtain ⟨rfl, rfl⟩ := inv
    rw [List.take_length]
    exact q
theorem lc_map {ds : List PyData} {g : WG} {te : WE} {vs : List Nat} {env : List (Option DV)} {c : Int} {Q : List PyData → Dt → Prop} (f : PyData → PyData) (hl : ds.length ≤ 99999)
    (h : ∀ d ∈ ds, ∀ (acc : List PyData) (J : List PyData → Int → Prop), acc.length < 100000 → J (acc ++ [f d]) c → g d ⟨wipeD env vs, c⟩ fun s2 => te s2 fun y s4 => s4.env = s2.env ∧ acc.length < 100000 ∧ J (acc ++ [y]) s4.c) (q : Q (ds.map f) ⟨env, c⟩) :
    ∃ Inv : Nat → List PyData → Int → Prop, Inv 0 [] c ∧
      (∀ (i : Nat) d acc c', ds[i]? = some d → Inv i acc c' → g d ⟨wipeD env vs, c'⟩ fun s2 => (fun s (Q : Bool → Dt → Prop) => Q true s) s2 fun b s3 => s3.env = s2.env ∧ if b = true then te s3 fun y s4 => s4.env = s2.env ∧ acc.length < 100000 ∧ Inv (i + 1) (acc ++ [y]) s4.c else Inv (i + 1) acc s3.c) ∧
      ∀ acc c', Inv ds.length acc c' → Q acc ⟨env, c'⟩ := by
  refine ⟨fun i acc c' => c' = c ∧ acc = (ds.take i).map f, ⟨rfl, rfl⟩, fun i d acc c' hd inv => ?_, fun acc c' inv => ?_⟩
  · obtain ⟨rfl, rfl⟩ := inv
    have e : ds.take (i + 1) = ds.take i ++ [d] := by rw [List.take_add_one, hd]; rfl
    have := h d (List.mem_of_getElem? hd) ((ds.take i).map f) (fun acc c2 => c2 = c' ∧ acc = (ds.take (i + 1)).map f) (by rw [List.length_map, List.length_take]; omega) ⟨rfl, by rw [e, List.map_append]; rfl⟩
    simp only [if_true, true_and]
    exact this
  · obtain ⟨rfl, rfl⟩ := inv
    rw [List.take_length]
    exact q
end Dw

namespace Dw
open PySem PySem.Spec PyProof.Rows L2 OgR Evl
/-- data whose text is short -/
structure Shw (k m : Nat) (d : PyData) : Prop where
  sh : d.showable = true
  nd : d.hasDict = false
  dp : d.depth ≤ k
  ln : d.shown.length ≤ m
theorem Shw.up {k m k' m' : Nat} {d : PyData} (h : Shw k m d) (hk : k ≤ k') (hm : m ≤ m') : Shw k' m' d := ⟨h.sh, h.nd, Nat.le_trans h.dp hk, Nat.le_trans h.ln hm⟩
theorem tf_le {m : Nat} : ∀ (ts : List Str) (k : Nat) (acc : Str), (∀ t ∈ ts, t.length ≤ m) → (textFrom k acc ts).length ≤ acc.length + (m + 2) * ts.length
  | [], k, acc, _ => by show acc.length ≤ _; omega
  | t :: ts, k, acc, h => by
    have ih := tf_le ts (k + 1) (acc ++ (if k > 0 then ", " else "" : String) ++ t) fun x hx => h x (List.mem_cons_of_mem _ hx)
    have h1 := h t List.mem_cons_self
    rw [strLen_append, strLen_append] at ih
    have h2 : (Str.ofString (if k > 0 then ", " else "")).length ≤ 2 := by
      split <;> decide
    show (textFrom (k + 1) (acc ++ (if k > 0 then ", " else "" : String) ++ t) ts).length ≤ _
    rw [List.length_cons, Nat.mul_add]
    have e3 : (Str.ofString (if k > 0 then ", " else "")).length ≤ 2 := h2
    omega
theorem piled_le {m : Nat} : ∀ ts : List Str, (∀ t ∈ ts, t.length ≤ m) → piled ts ≤ (m + 2) * ts.length
  | [], _ => by rw [piled_nil]; omega
  | t :: ts, h => by
    rw [piled_cons, List.length_cons, Nat.mul_add]
    have := piled_le ts fun x hx => h x (List.mem_cons_of_mem _ hx)
    have := h t List.mem_cons_self
    omega
theorem lt_le {m : Nat} {ts : List Str} (h : ∀ t ∈ ts, t.length ≤ m) : (listText ts).length ≤ (m + 2) * ts.length + 4 := by
  have h1 := tf_le ts 0 "[" h
  show (textFrom 0 "[" ts ++ "]").length ≤ _
  rw [strLen_append]
  have e1 : (Str.ofString "[").length = 1 := by decide
  have e2 : (Str.ofString "]").length = 1 := by decide
  omega
theorem tt_le {m : Nat} {ts : List Str} (h : ∀ t ∈ ts, t.length ≤ m) : (tupleText ts).length ≤ (m + 2) * ts.length + 4 := by
  unfold tupleText
  rw [strLen_append, strLen_append]
  have e1 : (Str.ofString "(").length = 1 := by decide
  have e2 : (Str.ofString (if ts.length == 1 then ",)" else ")")).length ≤ 2 := by
    split <;> decide
  have h1 := piled_le ts h
  by_cases hn : ts = []
  · subst hn
    have e3 : ((Str.ofString ", ").join []).length = 0 := by decide
    rw [e3]
    omega
  · have h2 := join_length_add ts hn
    omega
theorem shownAll_map : ∀ ds : List PyData, PyData.shownAll ds = ds.map PyData.shown
  | [] => by simp only [PyData.shownAll, List.map_nil]
  | d :: ds => by simp only [PyData.shownAll, List.map_cons, shownAll_map ds]
theorem seq_facts {k m : Nat} : ∀ {ds : List PyData}, (∀ d ∈ ds, Shw k m d) → PyData.showableAll ds = true ∧ PyData.hasDictAll ds = false ∧ PyData.depthAll ds ≤ k
  | [], _ => ⟨by simp only [PyData.showableAll], by simp only [PyData.hasDictAll], by simp only [PyData.depthAll]; omega⟩
  | d :: ds, h => by
    obtain ⟨h1, h2, h3⟩ := seq_facts fun x hx => h x (List.mem_cons_of_mem _ hx)
    have h0 := h d List.mem_cons_self
    refine ⟨?_, ?_, ?_⟩
    · simp only [PyData.showableAll, h0.sh, h1, Bool.and_self]
    · simp only [PyData.hasDictAll, h0.nd, h2, Bool.or_self]
    · simp only [PyData.depthAll]
      exact Nat.max_le.mpr ⟨h0.dp, h3⟩
theorem shw_tup {k m n : Nat} {ds : List PyData} (h : ∀ d ∈ ds, Shw k m d) (hn : ds.length ≤ n) : Shw (k + 1) ((m + 2) * n + 4) (.tuple ds) := by
  obtain ⟨h1, h2, h3⟩ := seq_facts h
  refine ⟨by simpa only [PyData.showable] using h1, by simpa only [PyData.hasDict] using h2, by simp only [PyData.depth]; omega, ?_⟩
  simp only [PyData.shown]
  refine Nat.le_trans (tt_le (m := m) fun t ht => ?_) ?_
  · rw [shownAll_map] at ht
    obtain ⟨d, hd, rfl⟩ := List.mem_map.mp ht
    exact (h d hd).ln
  · rw [shownAll_map, List.length_map]
    exact Nat.add_le_add_right (Nat.mul_le_mul_left _ hn) 4
theorem shw_lst {k m n : Nat} {ds : List PyData} (h : ∀ d ∈ ds, Shw k m d) (hn : ds.length ≤ n) : Shw (k + 1) ((m + 2) * n + 4) (.list ds) := by
  obtain ⟨h1, h2, h3⟩ := seq_facts h
  refine ⟨by simpa only [PyData.showable] using h1, by simpa only [PyData.hasDict] using h2, by simp only [PyData.depth]; omega, ?_⟩
  simp only [PyData.shown]
  refine Nat.le_trans (lt_le (m := m) fun t ht => ?_) ?_
  · rw [shownAll_map] at ht
    obtain ⟨d, hd, rfl⟩ := List.mem_map.mp ht
    exact (h d hd).ln
  · rw [shownAll_map, List.length_map]
    exact Nat.add_le_add_right (Nat.mul_le_mul_left _ hn) 4
theorem shw_int {i : Int} (h : i.natAbs ≤ 10 ^ 30 + 1000) : Shw 0 400 (.int i) := by
  have h1 : i.natAbs < 10 ^ 31 := Nat.lt_of_le_of_lt h (by decide)
  have h2 := int_text_length_le10 (k := 31) (by decide) h1
  refine ⟨?_, rfl, Nat.le_refl _, ?_⟩
  · simp only [PyData.showable, decide_eq_true_eq]
    by_cases hz : i.natAbs = 0
    · rw [hz]
      decide
    · exact (Nat.log2_lt hz).mpr (Nat.lt_of_lt_of_le h1 (Nat.le_trans (show 10 ^ 31 ≤ 2 ^ 128 by decide) (Nat.pow_le_pow_right (by decide) (by decide))))
  · simp only [PyData.shown]
    rw [PySem.ofString_length]
    omega
theorem shw_none : Shw 0 400 .none := ⟨rfl, rfl, Nat.le_refl _, by decide⟩
theorem shw_bool (b : Bool) : Shw 0 400 (.bool b) := by cases b <;> exact ⟨rfl, rfl, Nat.le_refl _, by decide⟩
theorem shw_str {x : Str} (h : (reprText x).length ≤ 400) : Shw 0 400 (.str x) := ⟨rfl, rfl, Nat.le_refl _, h⟩
theorem sok (s : String) : PyData.strOk (Str.ofString s) = true := by
  unfold PyData.strOk
  rw [Array.all_eq_true_iff_forall_mem]
  intro c hc
  have : c ∈ s.toList.map Char.toNat := by
    rw [Str.ofString_eq_toList] at hc
    simpa using hc
  obtain ⟨ch, _, rfl⟩ := List.mem_map.mp this
  have h := ch.valid
  refine decide_eq_true ?_
  have : ch.val.toNat < 1114112 := by
    rcases h with h | h
    · exact Nat.lt_trans h (by decide)
    · exact h.2
  exact this
theorem eqv_str (x y : Str) : PyData.eqv (.str x) (.str y) = decide (x = y) := by
  simp only [PyData.eqv]
  by_cases h : x = y
  · subst h
    simp
  · rw [decide_eq_false h]
    exact beq_eq_false_iff_ne.mpr h
theorem eqv_int (x y : Int) : PyData.eqv (.int x) (.int y) = decide (x = y) := by
  simp only [PyData.eqv]
  by_cases h : x = y
  · subst h
    simp
  · rw [decide_eq_false h]
    exact beq_eq_false_iff_ne.mpr h
theorem eqv_bool (x y : Bool) : PyData.eqv (.bool x) (.bool y) = decide (x = y) := by
  cases x <;> cases y <;> rfl
/-! ### bounded data -/
def FlB : PyData → Prop
  | .none => True
  | .bool _ => True
  | .int i => i.natAbs ≤ 10 ^ 30 + 1000
  | .str z => PyData.strOk z = true ∧ (reprText z).length ≤ 400
  | _ => False
def Bd (w : Nat) : Nat → PyData → Prop
  | 0, d => FlB d
  | k + 1, d => FlB d ∨ ∃ ds, (d = .list ds ∨ d = .tuple ds) ∧ ds.length ≤ w ∧ ∀ x ∈ ds, Bd w k x
theorem Bd.flat {w k : Nat} {d : PyData} (h : FlB d) : Bd w k d := by
  cases k with
  | zero => exact h
  | succ k => exact .inl h
theorem Bd.up {w w' : Nat} (hw : w ≤ w') : ∀ {k k' : Nat} {d : PyData}, k ≤ k' → Bd w k d → Bd w' k' d
  | 0, _, _, _, h => .flat h
  | k + 1, 0, _, hk, _ => absurd hk (by omega)
  | k + 1, k' + 1, d, hk, h => by
    rcases h with h | ⟨ds, e, hl, hd⟩
    · exact .inl h
    · exact .inr ⟨ds, e, Nat.le_trans hl hw, fun x hx => Bd.up hw (by omega) (hd x hx)⟩
theorem bd_tup {w k : Nat} {ds : List PyData} (hl : ds.length ≤ w) (h : ∀ x ∈ ds, Bd w k x) : Bd w (k + 1) (.tuple ds) := .inr ⟨ds, .inr rfl, hl, h⟩
theorem bd_lst {w k : Nat} {ds : List PyData} (hl : ds.length ≤ w) (h : ∀ x ∈ ds, Bd w k x) : Bd w (k + 1) (.list ds) := .inr ⟨ds, .inl rfl, hl, h⟩
/-- the parts of bounded data -/
theorem Bd.its {w k : Nat} {d : PyData} (h : Bd w k d) (hs : seqd d = true) : ∃ j, k = j + 1 ∧ (Dw.its d).length ≤ w ∧ ∀ x ∈ Dw.its d, Bd w j x := by
  cases k with
  | zero => cases d <;> first | exact (h : False).elim | cases hs
  | succ k =>
    refine ⟨k, rfl, ?_⟩
    rcases h with h | ⟨ds, rfl | rfl, hl, hd⟩
    · cases d <;> first | exact (h : False).elim | cases hs
    · exact ⟨hl, hd⟩
    · exact ⟨hl, hd⟩
theorem canAll : ∀ {ds : List PyData}, (∀ d ∈ ds, PyData.canLay0 d = true) → PyData.canLayAll0 ds = true
  | [], _ => by simp only [PyData.canLayAll0]
  | d :: ds, h => by simp only [PyData.canLayAll0, h d List.mem_cons_self, canAll fun x hx => h x (List.mem_cons_of_mem _ hx), Bool.and_self]
theorem depAll {n : Nat} : ∀ {ds : List PyData}, (∀ d ∈ ds, PyData.depth d ≤ n) → PyData.depthAll ds ≤ n
  | [], _ => by simp only [PyData.depthAll]; omega
  | d :: ds, h => by
    simp only [PyData.depthAll]
    exact Nat.max_le.mpr ⟨h d List.mem_cons_self, depAll fun x hx => h x (List.mem_cons_of_mem _ hx)⟩
theorem FlB.can {d : PyData} (h : FlB d) : PyData.canLay0 d = true ∧ PyData.depth d = 0 := by
  cases d with
  | none => exact ⟨by simp only [PyData.canLay0], by simp only [PyData.depth]⟩
  | bool _ => exact ⟨by simp only [PyData.canLay0], by simp only [PyData.depth]⟩
  | int _ => exact ⟨by simp only [PyData.canLay0], by simp only [PyData.depth]⟩
  | str z => exact ⟨by simp only [PyData.canLay0]; exact h.1, by simp only [PyData.depth]⟩
  | list _ => exact h.elim
  | tuple _ => exact h.elim
  | dict _ => exact h.elim
theorem Bd.can {w : Nat} : ∀ {k : Nat} {d : PyData}, Bd w k d → PyData.canLay0 d = true ∧ PyData.depth d ≤ k
  | 0, d, h => ⟨(FlB.can h).1, by rw [(FlB.can h).2]; exact Nat.le_refl _⟩
  | k + 1, d, h => by
    rcases h with h | ⟨ds, rfl | rfl, hl, hd⟩
    · exact ⟨h.can.1, by rw [h.can.2]; omega⟩
    · refine ⟨by simp only [PyData.canLay0]; exact canAll fun x hx => (Bd.can (hd x hx)).1, ?_⟩
      simp only [PyData.depth]
      exact Nat.succ_le_succ (depAll fun x hx => (Bd.can (hd x hx)).2)
    · refine ⟨by simp only [PyData.canLay0]; exact canAll fun x hx => (Bd.can (hd x hx)).1, ?_⟩
      simp only [PyData.depth]
      exact Nat.succ_le_succ (depAll fun x hx => (Bd.can (hd x hx)).2)
theorem Bd.shp {w k : Nat} {d : PyData} (h : Bd w k d) (hk : k ≤ 64) : Shp d := by
  obtain ⟨h1, h2⟩ := h.can
  exact Bool.and_eq_true_iff.mpr ⟨h1, decide_eq_true (Nat.le_trans h2 hk)⟩
theorem shp_int (i : Int) : Shp (.int i) := rfl
theorem shp_bool (i : Bool) : Shp (.bool i) := rfl
theorem shp_none : Shp .none := rfl
theorem shp_z {z : Str} (h : PyData.strOk z = true) : Shp (.str z) := by
  show SeqAt.shaped (.str z) = true
  simp [SeqAt.shaped, PyData.canLay0, PyData.depth, h]
theorem shp_str (s : String) : Shp (.str (Str.ofString s)) := shp_z (sok s)
/-- how long the text of bounded data is -/
def lenB (w : Nat) : Nat → Nat
  | 0 => 400
  | k + 1 => (lenB w k + 2) * w + 404
theorem FlB.shw {d : PyData} (h : FlB d) : Shw 0 400 d := by
  cases d with
  | none => exact shw_none
  | bool _ => exact shw_bool _
  | int _ => exact shw_int h
  | str z => exact shw_str h.2
  | list _ => exact h.elim
  | tuple _ => exact h.elim
  | dict _ => exact h.elim
theorem lenB_400 (w : Nat) : ∀ k, 400 ≤ lenB w k
  | 0 => Nat.le_refl _
  | k + 1 => by show 400 ≤ (lenB w k + 2) * w + 404; omega
theorem Bd.shw {w : Nat} : ∀ {k : Nat} {d : PyData}, Bd w k d → Shw k (lenB w k) d
  | 0, d, h => FlB.shw h
  | k + 1, d, h => by
    rcases h with h | ⟨ds, rfl | rfl, hl, hd⟩
    · exact h.shw.up (Nat.zero_le _) (lenB_400 w (k + 1))
    · exact (shw_lst (fun x hx => Bd.shw (hd x hx)) hl).up (Nat.le_refl _) (by show _ ≤ (lenB w k + 2) * w + 404; omega)
    · exact (shw_tup (fun x hx => Bd.shw (hd x hx)) hl).up (Nat.le_refl _) (by show _ ≤ (lenB w k + 2) * w + 404; omega)
theorem Bd.rep {w k : Nat} {d : PyData} (h : Bd w k d) (hk : k ≤ 40) (hl : lenB w k ≤ sizeLine) : RepOk d := by
  have s := h.shw
  exact ⟨s.sh, s.nd, Nat.le_trans s.dp hk, Nat.le_trans s.ln hl⟩
end Dw

namespace Dw
open PySem PySem.Spec PyProof.Rows L2 OgR Evl
/-! ### data that a law makes: leaves, depth, width, and how long its text is -/
def Lf (b : Nat) : PyData → Prop
  | .none => True
  | .bool _ => True
  | .int i => i.natAbs ≤ 10 ^ 30 + b
  | .str z => PyData.strOk z = true ∧ (reprText z).length ≤ 400
  | _ => False
theorem Lf.fl {b : Nat} (hb : b ≤ 1000) {d : PyData} (h : Lf b d) : FlB d := by
  cases d with
  | int i => exact Nat.le_trans (h : i.natAbs ≤ 10 ^ 30 + b) (by omega)
  | _ => exact h
theorem Lf.up {b b' : Nat} (hb : b ≤ b') {d : PyData} (h : Lf b d) : Lf b' d := by
  cases d with
  | int i => exact Nat.le_trans (h : i.natAbs ≤ 10 ^ 30 + b) (by omega)
  | _ => exact h
def Lv (b w : Nat) : Nat → PyData → Prop
  | 0, d => Lf b d
  | k + 1, d => Lf b d ∨ ∃ ds, (d = .list ds ∨ d = .tuple ds) ∧ ds.length ≤ w ∧ ∀ x ∈ ds, Lv b w k x
theorem Lv.flat {b w k : Nat} {d : PyData} (h : Lf b d) : Lv b w k d := by
  cases k with
  | zero => exact h
  | succ k => exact .inl h
theorem Lv.up {b b' w w' : Nat} (hb : b ≤ b') (hw : w ≤ w') : ∀ {k k' : Nat} {d : PyData}, k ≤ k' → Lv b w k d → Lv b' w' k' d
  | 0, _, _, _, h => .flat (Lf.up hb h)
  | k + 1, 0, _, hk, _ => absurd hk (by omega)
  | k + 1, k' + 1, d, hk, h => by
    rcases h with h | ⟨ds, e, hl, hd⟩
    · exact .inl (h.up hb)
    · exact .inr ⟨ds, e, Nat.le_trans hl hw, fun x hx => Lv.up hb hw (by omega) (hd x hx)⟩
theorem Lv.bd {b w : Nat} (hb : b ≤ 1000) : ∀ {k : Nat} {d : PyData}, Lv b w k d → Bd w k d
  | 0, _, h => Lf.fl hb h
  | k + 1, d, h => by
    rcases h with h | ⟨ds, e, hl, hd⟩
    · exact .inl (h.fl hb)
    · exact .inr ⟨ds, e, hl, fun x hx => Lv.bd hb (hd x hx)⟩
theorem Lv.its {b w k : Nat} {d : PyData} (h : Lv b w k d) (hs : seqd d = true) : ∃ j, k = j + 1 ∧ (Dw.its d).length ≤ w ∧ ∀ x ∈ Dw.its d, Lv b w j x := by
  cases k with
  | zero => cases d <;> first | exact (h : False).elim | cases hs
  | succ k =>
    refine ⟨k, rfl, ?_⟩
    rcases h with h | ⟨ds, rfl | rfl, hl, hd⟩
    · cases d <;> first | exact (h : False).elim | cases hs
    · exact ⟨hl, hd⟩
    · exact ⟨hl, hd⟩
mutual
def Tw : PyData → Nat
  | .list ds => TwA ds + 4
  | .tuple ds => TwA ds + 4
  | _ => 400
def TwA : List PyData → Nat
  | [] => 0
  | d :: ds => Tw d + 2 + TwA ds
end
theorem twA_app : ∀ xs ys : List PyData, TwA (xs ++ ys) = TwA xs + TwA ys
  | [], ys => by simp only [List.nil_append, TwA]; omega
  | x :: xs, ys => by
    simp only [List.cons_append, TwA, twA_app xs ys]
    omega
theorem twA_mem : ∀ {xs : List PyData} {x : PyData}, x ∈ xs → Tw x + 2 ≤ TwA xs
  | y :: xs, x, h => by
    simp only [TwA]
    rcases List.mem_cons.mp h with rfl | h
    · omega
    · have := twA_mem h
      omega
theorem twA_td (xs : List PyData) (n : Nat) : TwA (xs.take n) + TwA (xs.drop n) = TwA xs := by
  rw [← twA_app, List.take_append_drop]
theorem twA_erase : ∀ (xs : List PyData) (n : Nat), TwA (xs.eraseIdx n) ≤ TwA xs
  | [], n => by simp [List.eraseIdx]
  | x :: xs, 0 => by simp only [List.eraseIdx, TwA]; omega
  | x :: xs, n + 1 => by
    have := twA_erase xs n
    simp only [List.eraseIdx, TwA]
    omega
theorem twA_set : ∀ (xs : List PyData) (n : Nat) (x y : PyData), xs[n]? = some x → TwA (xs.set n y) + Tw x = TwA xs + Tw y
  | [], n, x, y, h => by simp at h
  | z :: xs, 0, x, y, h => by
    have : z = x := Option.some.inj h
    subst this
    simp only [List.set, TwA]
    omega
  | z :: xs, n + 1, x, y, h => by
    have := twA_set xs n x y h
    simp only [List.set, TwA]
    omega
theorem twA_len : ∀ (m : Nat) (xs : List PyData), (∀ x ∈ xs, Tw x ≤ m) → TwA xs ≤ (m + 2) * xs.length
  | m, [], _ => by simp only [TwA]; omega
  | m, x :: xs, h => by
    have h1 := h x List.mem_cons_self
    have h2 := twA_len m xs fun y hy => h y (List.mem_cons_of_mem _ hy)
    simp only [TwA, List.length_cons, Nat.mul_add]
    omega
theorem tf_le2 : ∀ (ts : List Str) (k : Nat) (acc : Str), (textFrom k acc ts).length ≤ acc.length + piled ts
  | [], k, acc => by rw [piled_nil]; exact Nat.le_refl _
  | t :: ts, k, acc => by
    have ih := tf_le2 ts (k + 1) (acc ++ (if k > 0 then ", " else "" : String) ++ t)
    rw [strLen_append, strLen_append] at ih
    have e3 : (Str.ofString (if k > 0 then ", " else "")).length ≤ 2 := by
      split <;> decide
    show (textFrom (k + 1) (acc ++ (if k > 0 then ", " else "" : String) ++ t) ts).length ≤ _
    rw [piled_cons]
    omega
theorem lt_le2 (ts : List Str) : (listText ts).length ≤ piled ts + 4 := by
  have h1 := tf_le2 ts 0 "["
  show (textFrom 0 "[" ts ++ "]").length ≤ _
  rw [strLen_append]
  have e1 : (Str.ofString "[").length = 1 := by decide
  have e2 : (Str.ofString "]").length = 1 := by decide
  omega
theorem tt_le2 (ts : List Str) : (tupleText ts).length ≤ piled ts + 4 := by
  unfold tupleText
  rw [strLen_append, strLen_append]
  have e1 : (Str.ofString "(").length = 1 := by decide
  have e2 : (Str.ofString (if ts.length == 1 then ",)" else ")")).length ≤ 2 := by
    split <;> decide
  by_cases hn : ts = []
  · subst hn
    have e3 : ((Str.ofString ", ").join []).length = 0 := by decide
    rw [e3]
    omega
  · have h2 := join_length_add ts hn
    omega
theorem piled_tw : ∀ {ds : List PyData}, (∀ d ∈ ds, d.shown.length ≤ Tw d) → piled (PyData.shownAll ds) ≤ TwA ds
  | [], _ => by simp only [PyData.shownAll, TwA, piled_nil]; exact Nat.le_refl _
  | d :: ds, h => by
    have h1 := h d List.mem_cons_self
    have h2 := piled_tw fun x hx => h x (List.mem_cons_of_mem _ hx)
    simp only [PyData.shownAll, TwA, piled_cons]
    omega
theorem FlB.tw {d : PyData} (h : FlB d) : Tw d = 400 := by
  cases d with
  | list _ => exact h.elim
  | tuple _ => exact h.elim
  | dict _ => exact h.elim
  | _ => simp only [Tw]
theorem Bd.tw {w : Nat} : ∀ {k : Nat} {d : PyData}, Bd w k d → d.shown.length ≤ Tw d
  | 0, d, h => by rw [FlB.tw h]; exact (FlB.shw h).ln
  | k + 1, d, h => by
    rcases h with h | ⟨ds, rfl | rfl, hl, hd⟩
    · rw [FlB.tw h]
      exact (FlB.shw h).ln
    · have := piled_tw fun x hx => Bd.tw (hd x hx)
      have h2 := lt_le2 (PyData.shownAll ds)
      simp only [PyData.shown, Tw]
      omega
    · have := piled_tw fun x hx => Bd.tw (hd x hx)
      have h2 := tt_le2 (PyData.shownAll ds)
      simp only [PyData.shown, Tw]
      omega
structure Sm (b w k L : Nat) (d : PyData) : Prop where
  lv : Lv b w k d
  tw : Tw d ≤ L
theorem Sm.up {b w k L b' w' k' L' : Nat} {d : PyData} (h : Sm b w k L d) (hb : b ≤ b') (hw : w ≤ w') (hk : k ≤ k') (hL : L ≤ L') : Sm b' w' k' L' d := ⟨h.lv.up hb hw hk, Nat.le_trans h.tw hL⟩
theorem Sm.bd {b w k L : Nat} {d : PyData} (h : Sm b w k L d) (hb : b ≤ 1000) : Bd w k d := h.lv.bd hb
theorem Sm.rep {b w k L : Nat} {d : PyData} (h : Sm b w k L d) (hb : b ≤ 1000) (hk : k ≤ 40) (hL : L ≤ sizeLine) : RepOk d := by
  have s := (h.bd hb).shw
  exact ⟨s.sh, s.nd, Nat.le_trans s.dp hk, Nat.le_trans (h.bd hb).tw (Nat.le_trans h.tw hL)⟩
theorem Lf.tw {b : Nat} {d : PyData} (h : Lf b d) : Tw d = 400 := by
  cases d with
  | list _ => exact h.elim
  | tuple _ => exact h.elim
  | dict _ => exact h.elim
  | _ => simp only [Tw]
theorem Sm.leaf {b w k L : Nat} {d : PyData} (h : Lf b d) (hL : 400 ≤ L) : Sm b w k L d := ⟨.flat h, by rw [h.tw]; exact hL⟩
theorem Sm.tup {b w k L : Nat} {ds : List PyData} (h : ∀ x ∈ ds, Lv b w k x) (hw : ds.length ≤ w) (hL : TwA ds + 4 ≤ L) : Sm b w (k + 1) L (.tuple ds) := ⟨.inr ⟨ds, .inr rfl, hw, h⟩, by simp only [Tw]; exact hL⟩
theorem Sm.lst {b w k L : Nat} {ds : List PyData} (h : ∀ x ∈ ds, Lv b w k x) (hw : ds.length ≤ w) (hL : TwA ds + 4 ≤ L) : Sm b w (k + 1) L (.list ds) := ⟨.inr ⟨ds, .inl rfl, hw, h⟩, by simp only [Tw]; exact hL⟩
theorem lf_digits {b : Nat} (hb : b ≤ 1000) {i : Int} (h : i.natAbs ≤ 10 ^ 30 + b) {b' : Nat} : Lf b' (.str (toString i)) := by
  have h1 : i.natAbs < 10 ^ 31 := by omega
  have h2 := int_text_length_le10 (k := 31) (by decide) h1
  refine ⟨sok _, ?_⟩
  have h3 : (reprText (Str.ofString (toString i))).length ≤ 10 * (Str.ofString (toString i)).length + 2 := PySem.StrLaws.reprText_len _ fun c hc => by
    have hs := sok (toString i)
    unfold PyData.strOk at hs
    rw [Array.all_eq_true_iff_forall_mem] at hs
    have := of_decide_eq_true (hs c (by simpa using hc))
    exact Nat.lt_of_lt_of_le this (by decide)
  rw [PySem.ofString_length] at h3
  exact Nat.le_trans h3 (by omega)


end Dw

namespace Dw
open PySem PySem.Spec PyProof.Rows L2 OgR Evl
theorem tuple_mul1 (l : Addr) (items : Array Value) (n : Nat) (dd : Option Addr) (sl : Array (Option Value)) (u : Tok) :
    Meets (Builtin.«tuple.__mul__» ⟨[.ref l, .int 1 u], []⟩) (fun _ R s => s.heap.get? l = some { cls := .type "tuple", dict := dd, data := .seq items n, slots := sl } ∧
      R (.ok (.ret (Value.ref l))) s) :=
  .of_wp fun prog w A R s h => by
    obtain ⟨hp, g, d, tk, os⟩ := s
    obtain ⟨hl, h⟩ := h
    have f1 := AutoSeq1.idx_int
    have c1 : (items.isEmpty || (1 : Int) == 1) = true := by rw [show ((1 : Int) == 1) = true by decide, Bool.or_true]
    wp_walk using wpAny_loadPart' hl
    repeat (first
      | (refine wpAny_ite_true (decide_eq_true c1) ?_; wp_walk using wpAny_loadPart' hl))
    exact ⟨_, rfl, h⟩
theorem tuple_mul0 (l : Addr) (items : Array Value) (n : Nat) (dd : Option Addr) (sl : Array (Option Value)) (x : Int) (u : Tok) (c0 : (decide (x < -(2 ^ 63)) || decide (x ≥ 2 ^ 63)) = false) (c1 : (items.isEmpty || x == 1) = false) (c2 : (decide (x ≤ 0) || items.isEmpty) = true) :
    Meets (Builtin.«tuple.__mul__» ⟨[.ref l, .int x u], []⟩) (fun _ R s => s.heap.get? l = some { cls := .type "tuple", dict := dd, data := .seq items n, slots := sl } ∧
      R (.ok (.ret (Value.ref s.heap.objs.size))) { s with heap := s.heap.push { cls := Value.type "tuple", data := Data.seq #[] }, toks := s.toks }) :=
  .of_wp fun prog w A R s h => by
    obtain ⟨hp, g, d, tk, os⟩ := s
    obtain ⟨hl, h⟩ := h
    have f1 := AutoSeq1.idx_int
    wp_walk using wpAny_loadPart' hl
    repeat (first
      | (refine wpAny_ite_false (decide_eq_false (by rw [c0]; exact Bool.false_ne_true)) ?_; wp_walk using wpAny_loadPart' hl)
      | (refine wpAny_ite_false (decide_eq_false (by rw [c1]; exact Bool.false_ne_true)) ?_; wp_walk using wpAny_loadPart' hl)
      | (refine wpAny_ite_true (decide_eq_true c2) ?_; wp_walk using wpAny_loadPart' hl))
    exact ⟨_, rfl, h⟩
/-- a tuple that is not empty, times a number -/
def rRepN (K : PySem.W.Frag) : R2 := fun x y H Q => ∃ l k xs, x = .ref l ∧ y = .int k ∧ SqT K H l xs ∧ xs ≠ [] ∧ -1000 ≤ k ∧ k ≤ 1000 ∧ xs.length ≤ 1000 ∧ (k = 1 → Q (.ref l) H) ∧ (k ≠ 1 → ∀ p, H p = none → Q (.ref p) (upd H p (.tup (List.replicate k.toNat xs).flatten)))
section
variable {X : Cx}
theorem op_repN : OpR X (binaryOp .Mult) (rRepN X.K) := by
  intro pins s σ H x y v u Q I rx ry h
  obtain ⟨l, k, xs, rfl, rfl, hT, hne, h1, h2, hz, q1, q2⟩ := h
  by_cases hk2 : 2 ≤ k
  · exact op_repT pins s σ H _ _ v u Q I rx ry ⟨l, k, xs, rfl, rfl, hT, hne, hk2, h2, hz, q2 (by omega)⟩
  cases rx
  obtain ⟨t, rfl⟩ := ry
  obtain ⟨its, r, ⟨⟨cls, dd, data, sl⟩, ho, hc, n, hd⟩, hs⟩ := I.tuple hT
  simp only at hc hd
  subst hc hd
  have hle : its.length = xs.length := r.length.symm
  have hn : its ≠ [] := fun e => hne (by
    rw [e] at hle
    exact List.eq_nil_of_length_eq_zero hle.symm)
  have hi : its.toArray.isEmpty = false := by
    cases its with
    | nil => exact absurd rfl hn
    | cons a b => rfl
  by_cases hk1 : k = 1
  · subst hk1
    refine wpAny_binaryOp_repeat_ref (T := "tuple") (U := "int") (by decide) ⟨_, ho, rfl⟩ (fun s' => typeIs_int s' 1 t) noFill_tuple_mul F.fills_int_mul F.slot_int_rmul repeat_tuple F.slot_int_index.lookup
      (call_meets F.slot_int_rmul (typeIs_int s 1 t) F.entry_int_rmul (F.args_int_rmul_2 _ _) (int_rmul_tuple 1 t l its.toArray n dd sl)
        ⟨ho, rfl, ⟨_, ho, rfl⟩, call_meets F.slot_tuple_mul ⟨_, ho, rfl⟩ F.entry_tuple_mul (F.args_tuple_mul_2 _ _) (tuple_mul1 l its.toArray n dd sl t) ⟨ho, ?_⟩⟩)
    exact ⟨.ref l, H, I, rfl, q1 rfl⟩
  · have c0 : (decide (k < -(2 ^ 63)) || decide (k ≥ 2 ^ 63)) = false := by
      rw [decide_eq_false (by omega), decide_eq_false (by omega)] <;> rfl
    have c1 : (its.toArray.isEmpty || k == 1) = false := by
      rw [hi, Bool.false_or]
      exact beq_eq_false_iff_ne.mpr hk1
    have c2 : (decide (k ≤ 0) || its.toArray.isEmpty) = true := by
      rw [decide_eq_true (by omega)]
      rfl
    refine wpAny_binaryOp_repeat_ref (T := "tuple") (U := "int") (by decide) ⟨_, ho, rfl⟩ (fun s' => typeIs_int s' k t) noFill_tuple_mul F.fills_int_mul F.slot_int_rmul repeat_tuple F.slot_int_index.lookup
      (call_meets F.slot_int_rmul (typeIs_int s k t) F.entry_int_rmul (F.args_int_rmul_2 _ _) (int_rmul_tuple k t l its.toArray n dd sl)
        ⟨ho, rfl, ⟨_, ho, rfl⟩, call_meets F.slot_tuple_mul ⟨_, ho, rfl⟩ F.entry_tuple_mul (F.args_tuple_mul_2 _ _) (tuple_mul0 l its.toArray n dd sl k t c0 c1 c2) ⟨ho, ?_⟩⟩)
    have e0 : k.toNat = 0 := by omega
    have q := q2 hk1
    rw [e0] at q
    refine ⟨.ref s.heap.objs.size, _, I.laid (t' := s.toks) (o := .tup (List.replicate 0 xs).flatten) (fun b ob q => Heap.get?_push_of_some _ q) (Nat.le_refl _) ?_, rfl, q _ (I.hok.fresh (Nat.le_refl _))⟩
    have r0 := r.rep 0
    exact ⟨Nat.zero_le _, _, r0, IsTup.new _ _⟩
end
section
variable {X : Cx} {C : Ct}
/-- != of texts -/
def gNeS : G2 := fun d e s Q => ∃ x y, d = .str x ∧ e = .str y ∧ Q (.bool (!decide (x = y))) s
theorem o_neS : OpD X C (compareOp .NotEq) rNe gNeS := ⟨op_ne, ⟨fun G σ H s x y d e Q Q' r p1 p2 q k => by
  obtain ⟨a, b, rfl, rfl, q⟩ := q
  have h1 := pk_str p1
  have h2 := pk_str p2
  subst h1 h2
  refine ⟨rfl, ?_⟩
  have e : decide (V.str a = V.str b) = decide (a = b) := by simp
  rw [e]
  exact k _ _ s G H q r (Ex.refl G) Gs.refl (.bl _)⟩⟩
def repD (k : Int) (ds : List PyData) : List PyData := (List.replicate k.toNat ds).flatten
def gRepN : G2 := fun d e s Q => ∃ (ds : List PyData) (k : Int), d = .tuple ds ∧ e = .int k ∧ ds ≠ [] ∧ -1000 ≤ k ∧ k ≤ 1000 ∧ ds.length ≤ 1000 ∧ Q (.tuple (repD k ds)) s
theorem dpa_repN {K : PySem.W.Frag} {G : Hp} {xs : List V} {ds : List PyData} (h : DpAll K G xs ds) : ∀ n, DpAll K G (List.replicate n xs).flatten (List.replicate n ds).flatten
  | 0 => .nil
  | n + 1 => by
    rw [List.replicate_succ, List.replicate_succ, List.flatten_cons, List.flatten_cons]
    exact dpa_app h (dpa_repN h n)
theorem o_repT (hK : X.K = C.K) : OpD X C (binaryOp .Mult) (rRepN C.K) gRepN := ⟨hK ▸ op_repN, ⟨fun G σ H s x y d e Q Q' r p1 p2 q k => by
  obtain ⟨ds, n, rfl, rfl, hne, h1, h2, hl, q⟩ := q
  obtain ⟨a, xs, rfl, h3, h4⟩ := pk_tup p1
  have hy : y = .int n := by
    rcases p2 with h | ⟨_, _, _, _, h, _⟩
    · exact dp_int h
    · cases h
  subst hy
  refine ⟨a, n, xs, rfl, rfl, Evl.ex_t r.fin.gh h3, fun e => hne ?_, h1, h2, by rw [dpa_len h4]; exact hl, fun e => ?_, fun e p hp => ?_⟩
  · subst e
    exact dpa_nil h4
  · subst e
    have e1 : repD 1 ds = ds := by
      unfold repD
      show (List.replicate 1 ds).flatten = ds
      simp
    rw [e1] at q
    exact k _ _ s G H q r (Ex.refl G) Gs.refl (.tup h3 h4)
  · obtain ⟨r2, eg, eh⟩ := r.new (o := .tup (List.replicate n.toNat xs).flatten) hp
    exact k _ _ s _ _ q r2 eg eh (.tup (.inl (.inl upd_same)) (dpa_ex eg (dpa_repN h4 _)))⟩⟩
end
end Dw

namespace Dw
open PySem PySem.Spec PyProof.Rows L2 OgR Evl
/-! ### what the head of a law wants -/
def ExB (l : Addr) (H H' : Hp) : Prop := ∀ a o, a ≠ l → H a = some o → H' a = some o
theorem ExB.of {l : Addr} {H H' : Hp} (e : Ex H H') : ExB l H H' := fun a o _ h => e a o h
theorem ExB.trans {l : Addr} {H H1 H2 : Hp} (a : ExB l H H1) (b : ExB l H1 H2) : ExB l H H2 := fun x o n h => b x o n (a x o n h)
theorem ExB.mut {l p : Addr} {H H' : Hp} {o : HO} (e : ExB l H H') (h : H p = none) : ExB l H (upd H' p o) := fun x u n hx => by
  rw [upd_ne (fun z => by rw [z, h] at hx; cases hx)]
  exact e x u n hx
theorem BoxAt.ex {H H' : Hp} {l : Addr} {c : Int} (h : BoxAt H l c) (e : Ex H H') : BoxAt H' l c := h.keep fun o q => e l o q
theorem BoxAt.upd {H : Hp} {l p : Addr} {c : Int} {o : HO} (h : BoxAt H l c) (n : l ≠ p) : BoxAt (upd H p o) l c := h.keep fun u q => by
  rw [upd_ne n]
  exact q
theorem repT_snoc (n : Nat) : List.replicate (n + 1) true = List.replicate n true ++ [true] := by
  rw [List.replicate_succ']
theorem repT_all (n : Nat) : (List.replicate n true).all id = true := by
  rw [List.all_eq_true]
  intro x hx
  rw [(List.mem_replicate.mp hx).2]
  rfl
theorem box01 (b : Bool) : -(2 ^ 64) < (if b = true then (1 : Int) else 0) ∧ (if b = true then (1 : Int) else 0) < 2 ^ 64 := by
  cases b <;> decide
/-- promises of _law_cell_at, _law_box, _law_right, law -/
def spCel (K : PySem.W.Frag) : Sp := fun vs H Q _ => ∃ (a : Addr) (ns : List Int) (k : Nat), vs = [.ref a, .int k] ∧ SqL K H a (ns.map V.int) ∧ Q (.int (ns.getD k 0)) H
def spBox (K : PySem.W.Frag) : Sp := fun vs H Q _ => ∃ (a : Addr) (ns : List Int) (k : Nat), vs = [.ref a, .int k] ∧ SqL K H a (ns.map V.int) ∧ k ≤ 1000 ∧
  ∀ l x y, H l = none → 0 ≤ x → 0 ≤ y → y < 2 ^ 62 → Q (.ref l) (upd H l (.lst [.int x, .int y, .int 0]))
def spRight : Sp := fun vs H Q _ => ∃ (l : Addr) (c : Int), vs = [.ref l] ∧ BoxAt H l c ∧ c ≤ 800000 ∧ ∀ H' c', ExB l H H' → BoxAt H' l c' → c' ≤ c + 1000 → Q (.bl true) H'
def spLaw (K : PySem.W.Frag) : Sp := fun vs H Q _ => ∃ (s : Addr) (ns : List Int), vs = [.ref s] ∧ SqL K H s (ns.map V.int) ∧ ns.length ≤ 63 ∧ ∀ H', Q (.bl true) H'
/-- what a law's _law_right promises -/
def fRight : FB := fun ds c R => ds = [] ∧ c ≤ 800000 ∧ ∀ c', c' ≤ c + 1000 → R (.bool true) c'
theorem right_of {P : Program} {wd : World} {K : PySem.W.Frag} {mg : Str → Option Value} {base : Heap} {k : Nat} {x : Str} {st : Stmt} {ps : List Str} (D : Def P wd K mg base k x st ps (spB K fRight)) : Def P wd K mg base k x st ps spRight :=
  D.imp fun vs H Q E h => by
    obtain ⟨l, c, rfl, hB, hc, q⟩ := h
    refine ⟨l, [], fun _ => none, [], c, fun d c' => d = .bool true ∧ c' ≤ c + 1000, rfl, hB, rfl, (fun b o h => by cases h), .nil, ⟨rfl, hc, fun c' h => ⟨rfl, h⟩⟩, fun v d c' G' H' hR eg eh hB' gh nw pd => ?_⟩
    obtain ⟨rfl, h2⟩ := hR
    rw [dp_bl pd]
    exact q H' c' (fun a o n h => eh a o n h) hB' h2
end Dw

namespace Dw
open PySem PySem.Spec PyProof.Rows L2 OgR Evl
/-! ### dicts by data -/
section
variable {κ : Type} [DecidableEq κ]
def lookG (tbl : List (κ × PyData)) (k : κ) : Option PyData := (tbl.find? fun kd => decide (kd.1 = k)).map (·.2)
def putG (tbl : List (κ × PyData)) (k : κ) (d : PyData) : List (κ × PyData) :=
  if (tbl.any fun kd => decide (kd.1 = k)) = true then tbl.map (fun kd => if kd.1 = k then (kd.1, d) else kd) else tbl ++ [(k, d)]
abbrev PK2 (K : PySem.W.Frag) (G : Hp) (ks : List (κ × V)) (kvs : List (κ × PyData)) : Prop := Paired (fun a b => a.1 = b.1 ∧ Dp K G a.2 b.2) ks kvs
theorem look_pair {K : PySem.W.Frag} {G : Hp} (k : κ) {ks : List (κ × V)} {kvs : List (κ × PyData)} (h : PK2 K G ks kvs) :
    (valV ks k = none ∧ lookG kvs k = none) ∨ ∃ v d, valV ks k = some v ∧ lookG kvs k = some d ∧ Dp K G v d := by
  unfold valV lookG
  induction h with
  | nil => exact .inl ⟨rfl, rfl⟩
  | @cons a b l1 l2 h t ih =>
    by_cases e : a.1 = k
    · refine .inr ⟨a.2, b.2, ?_, ?_, h.2⟩
      · rw [List.find?_cons_of_pos (by simpa using e)]
        rfl
      · rw [List.find?_cons_of_pos (by rw [← h.1]; simpa using e)]
        rfl
    · rw [List.find?_cons_of_neg (by simpa using e), List.find?_cons_of_neg (by rw [← h.1]; simpa using e)]
      exact ih
theorem any_pair {K : PySem.W.Frag} {G : Hp} (k : κ) {ks : List (κ × V)} {kvs : List (κ × PyData)} (h : PK2 K G ks kvs) : (ks.any fun kd => decide (kd.1 = k)) = (kvs.any fun kd => decide (kd.1 = k)) := by
  induction h with
  | nil => rfl
  | cons h t ih => rw [List.any_cons, List.any_cons, ih, h.1]
theorem map_pair {K : PySem.W.Frag} {G : Hp} (k : κ) {v : V} {d : PyData} (hv : Dp K G v d) {ks : List (κ × V)} {kvs : List (κ × PyData)} (h : PK2 K G ks kvs) : PK2 K G (ks.map fun kv => if kv.1 = k then (kv.1, v) else kv) (kvs.map fun kv => if kv.1 = k then (kv.1, d) else kv) := by
  induction h with
  | nil => exact .nil
  | @cons a b l1 l2 h t ih =>
    refine .cons ?_ ih
    show (if a.1 = k then (a.1, v) else a).1 = (if b.1 = k then (b.1, d) else b).1 ∧ Dp K G (if a.1 = k then (a.1, v) else a).2 (if b.1 = k then (b.1, d) else b).2
    rw [← h.1]
    by_cases e : a.1 = k
    · rw [if_pos e, if_pos e]
      exact ⟨rfl, hv⟩
    · rw [if_neg e, if_neg e]
      exact h
theorem snoc_pair {K : PySem.W.Frag} {G : Hp} (k : κ) {v : V} {d : PyData} (hv : Dp K G v d) {ks : List (κ × V)} {kvs : List (κ × PyData)} (h : PK2 K G ks kvs) : PK2 K G (ks ++ [(k, v)]) (kvs ++ [(k, d)]) := by
  induction h with
  | nil => exact .cons ⟨rfl, hv⟩ .nil
  | cons h t ih => exact .cons h ih
theorem put_pair {K : PySem.W.Frag} {G : Hp} (k : κ) {v : V} {d : PyData} (hv : Dp K G v d) {ks : List (κ × V)} {kvs : List (κ × PyData)} (h : PK2 K G ks kvs) : PK2 K G (putK ks k v) (putG kvs k d) := by
  unfold putK putG
  rw [any_pair k h]
  split
  · exact map_pair k hv h
  · exact snoc_pair k hv h
theorem len_pair {K : PySem.W.Frag} {G : Hp} {ks : List (κ × V)} {kvs : List (κ × PyData)} (h : PK2 K G ks kvs) : ks.length = kvs.length := by
  induction h with
  | nil => rfl
  | cons h t ih => rw [List.length_cons, List.length_cons, ih]
end
section
variable {C : Ct} {G G' H H' : Hp} {σ : L2.St} {s : Dt} {c c' : Int}
/-- an object of the def's own changes, and what stands in its slot -/
theorem Rel.mutO (r : Rel C G σ H s) {i : Nat} {p : Addr} {x x' : DV} {u o : HO} (e : s.env[i]? = some (some x)) (mx : x.mut = true) (hs : σ[i]? = some (some (.ref p))) (h1 : H p = some u) (hu : ∀ od w, u ≠ .frz od w) (h2 : C.H0 p = none) (h3 : G p = none) (rv : RV C G (upd H p o) (.ref p) x') (su : soft u = true := by rfl) : Rel C G σ (upd H p o) (s.set i x') := by
  have gp : ∀ b, G b ≠ none → b ≠ p := fun b hb z => hb (by rw [z]; exact h3)
  have oth : ∀ (j : Nat) y q, j ≠ i → s.env[j]? = some (some y) → y.mut = true → σ[j]? = some (some (.ref q)) → q ≠ p := fun j y q hj ej m hq z => r.dis i j x y p (Ne.symm hj) e ej mx m hs (by rw [hq, z])
  refine ⟨⟨fun b o hb => ?_, r.fin.g0, r.fin.nw, fun b o n hb => ?_, fun l hl => ?_⟩, by show (s.env.set i _).length = _; rw [List.length_set]; exact r.len, fun j y ej => ?_, fun j k y z q hne e1 e2 m1 m2 => ?_⟩
  · rw [upd_ne (gp b (by rw [hb]; exact Option.some_ne_none _))]
    exact r.fin.gh b o hb
  · rw [upd_ne (fun z => by rw [z, h2] at hb; cases hb)]
    exact r.fin.hh b o n hb
  · have hlp : l ≠ p := fun z => r.fin.nbx h2 (by rw [← z]; exact hl)
    refine ⟨(r.fin.bx l hl).1.keep fun o q => ?_, (r.fin.bx l hl).2⟩
    rw [upd_ne hlp]
    exact q
  · rcases get_set ej with ⟨rfl, rfl, hl⟩ | ⟨z, ej⟩
    · exact ⟨_, hs, rv⟩
    · obtain ⟨v', hv', rv⟩ := r.sl j y ej
      refine ⟨v', hv', ?_⟩
      cases y with
      | d x => exact rv
      | box => exact rv
      | own ds2 =>
        obtain ⟨p2, xs2, rfl, a2, a3, a4, a5⟩ := rv
        exact ⟨p2, xs2, rfl, by rw [upd_ne (oth j _ p2 z ej rfl hv')]; exact a2, a3, a4, a5⟩
      | dic ks =>
        obtain ⟨p2, xs2, rfl, a2, a3, a4, a5⟩ := rv
        exact ⟨p2, xs2, rfl, by rw [upd_ne (oth j _ p2 z ej rfl hv')]; exact a2, a3, a4, a5⟩
      | dit ks =>
        obtain ⟨p2, xs2, rfl, a2, a3, a4, a5⟩ := rv
        exact ⟨p2, xs2, rfl, by rw [upd_ne (oth j _ p2 z ej rfl hv')]; exact a2, a3, a4, a5⟩
      | oth φ => exact Oth.step (φ := φ) rv (Ex.refl G) (Kept.upd h1 su)
      | dd ks =>
        obtain ⟨p2, xs2, a1, a2, a5⟩ := rv
        exact ⟨p2, xs2, a1, a2.upd h1 h2 hu, a5⟩
  · have go : ∀ (j : Nat) y, (s.set i x').env[j]? = some (some y) → y.mut = true → ∃ y', s.env[j]? = some (some y') ∧ y'.mut = true := fun j y ej m => by
      rcases get_set ej with ⟨rfl, rfl, hl⟩ | ⟨z, ej⟩
      · exact ⟨_, e, mx⟩
      · exact ⟨y, ej, m⟩
    obtain ⟨y', f1, n1⟩ := go j y e1 m1
    obtain ⟨z', f2, n2⟩ := go k z e2 m2
    exact r.dis j k y' z' q hne f1 f2 n1 n2
end
section
variable {X : Cx} {C : Ct} {a b e f tg : Expr} {es : List Expr} {pos p : Pos} {t ta tb tc te ty tx : TE} {w wa wb wc we wy wx : WE} {tA : TA} {wA : WA} {x : Str} {st : Stmt} {sts : List Stmt} {ps : List Str} {k : Nat}
/-- name = {} : int and text keys; tuple keys -/
theorem ds_newD (i : Nat) {pos' p2 : Pos} (hN : X.N.Nodup) (hi : X.N[i]? = some x := by rfl) (hx : Loc X.env.scope x := by first | exact .inl rfl | exact .inr rfl) (hs : swapsWith (.Dict [] [] p2) (some (.Name x pos')) pos.line X.env = pure false := by rfl)
    (hf : X.fn x = true ∨ X.env.scope.names.lookup x = some .local := by first | exact .inl rfl | exact .inr rfl | assumption) : DS X C (.Assign [.Name x pos'] (.Dict [] [] p2) pos) (tAsg tDNewK (gName i)) (fun DD s => DD.nx (s.set i (.dic []))) :=
  ⟨ps_set hN hi hx pe_dnewK hs hf, fun G σ H s D DD r q o p hp => o.nx _ _ _ G q ((r.aside (Ex.new hp)).put (x := .dic []) ⟨p, [], rfl, upd_same, r.fin.h0 hp, r.gnone hp, .nil⟩ fun _ j y p' ej m z => by
    cases z
    exact r.notslot hp j y ej m) (Ex.refl G)⟩
theorem ds_newT (i : Nat) {pos' p2 : Pos} (hN : X.N.Nodup) (hi : X.N[i]? = some x := by rfl) (hx : Loc X.env.scope x := by first | exact .inl rfl | exact .inr rfl) (hs : swapsWith (.Dict [] [] p2) (some (.Name x pos')) pos.line X.env = pure false := by rfl)
    (hf : X.fn x = true ∨ X.env.scope.names.lookup x = some .local := by first | exact .inl rfl | exact .inr rfl | assumption) : DS X C (.Assign [.Name x pos'] (.Dict [] [] p2) pos) (tAsg tDNewT (gName i)) (fun DD s => DD.nx (s.set i (.dit []))) :=
  ⟨ps_set hN hi hx pe_dnewT hs hf, fun G σ H s D DD r q o p hp => o.nx _ _ _ G q ((r.aside (Ex.new hp)).put (x := .dit []) ⟨p, [], rfl, upd_same, r.fin.h0 hp, r.gnone hp, .nil⟩ fun _ j y p' ej m z => by
    cases z
    exact r.notslot hp j y ej m) (Ex.refl G)⟩
/-- d.get(e, f), int and text keys -/
def wDGet2 (i : Nat) (we wf : WE) : WE := fun s Q => (∃ kvs0, s.env[i]? = some (some (.dic kvs0))) ∧ we s fun kd s1 => wf s1 fun fd s2 => ∃ kvs k, s2.env[i]? = some (some (.dic kvs)) ∧ keyD kd = some k ∧ Q ((lookG kvs k).getD fd) s2
theorem de_dget2 (i : Nat) {apos cpos : Pos} (hu : X.A.units + 1 < cLine) (he : DE X C e te we) (hf : DE X C f tx wx) (hv : PE X (.Name x p) (tVar i) := by exact pv _) (m : M2 X (.Name x p) "get" apos e f cpos := by exact ⟨rfl, rfl, rfl, rfl⟩) :
    DE X C (.Call (.Attribute (.Name x p) "get" apos) [e, f] [] cpos) (tDGet2 (tVar i) te tx) (wDGet2 i we wx) := ⟨pe_dget2 hu hv he.pe hf.pe m, fun G σ H s Q Q' r q k => by
  obtain ⟨⟨kvs0, e0⟩, q⟩ := q
  obtain ⟨v, hv, p, ks, rfl, a1, a2, a3, a4⟩ := r.sl i _ e0
  refine ⟨_, hv, p, rfl, .inl ⟨ks, .inl a1⟩, he.ie G σ H s _ _ r q fun v1 d1 s1 G1 H1 q1 r1 eg1 g1 p1 => hf.ie G1 σ H1 s1 _ _ r1 q1 fun v2 d2 s2 G2 H2 q2 r2 eg2 g2 p2 => ?_⟩
  obtain ⟨kvs, kk, e2, hk, q2⟩ := q2
  obtain ⟨v', hv', p', ks', hp', b1, b2, b3, b4⟩ := r2.sl i _ e2
  rw [hv] at hv'
  cases hv'
  cases hp'
  have gs := g1.trans g2
  refine ⟨valV ks' kk, ?_, ?_⟩
  · rw [key_v p1 hk]
    exact DGet.k b1
  · rcases look_pair kk b4 with ⟨z1, z2⟩ | ⟨v3, d3, z1, z2, z3⟩
    · rw [z2] at q2
      rw [z1]
      exact k _ _ s2 G2 H2 q2 r2 (eg1.trans eg2) gs p2
    · rw [z2] at q2
      rw [z1]
      exact k _ _ s2 G2 H2 q2 r2 (eg1.trans eg2) gs z3⟩
/-- d[k] = e, int and text keys -/
def wDPut (i : Nat) (we wy : WE) : WS := fun DD s => we s fun d s1 => (∃ kvs0, s1.env[i]? = some (some (.dic kvs0))) ∧ wy s1 fun kd s2 => ∃ kvs k, s2.env[i]? = some (some (.dic kvs)) ∧ keyD kd = some k ∧ kvs.length < 100000 ∧ DD.nx (s2.set i (.dic (putG kvs k d)))
theorem ds_dput (i : Nat) {p2 : Pos} (hu : X.A.units + 1 < cLine) (h : DE X C e te we) (hy : DE X C b ty wy) (hv : PE X (.Name x p) (tVar i) := by exact pv _) (hs : swapsWith e (some (.Subscript (.Name x p) b p2)) pos.line X.env = pure false := by rfl) :
    DS X C (.Assign [.Subscript (.Name x p) b p2] e pos) (sDPut (tVar i) ty te) (wDPut i we wy) := ⟨ps_dput hu hv hy.pe h.pe hs, fun G σ H s D DD r q o => h.ie G σ H s _ _ r q fun v1 d1 s1 G1 H1 q1 r1 eg1 g1 p1 => by
  obtain ⟨⟨kvs0, e0⟩, q1⟩ := q1
  obtain ⟨v, hv, p, ks, rfl, a1, a2, a3, a4⟩ := r1.sl i _ e0
  refine ⟨_, hv, hy.ie G1 σ H1 s1 _ _ r1 q1 fun v2 d2 s2 G2 H2 q2 r2 eg2 g2 p2 => ?_⟩
  obtain ⟨kvs, kk, e2, hk, hl, q2⟩ := q2
  obtain ⟨v', hv', p', ks', hp', b1, b2, b3, b4⟩ := r2.sl i _ e2
  rw [hv] at hv'
  cases hv'
  cases hp'
  refine ⟨p, _, rfl, ?_, o.nx σ _ _ G2 q2 (r2.mutO (x' := .dic (putG kvs kk d1)) e2 rfl hv b1 (fun _ _ z => by cases z) b2 b3 ⟨p, putK ks' kk v1, rfl, upd_same, b2, b3, put_pair kk (dp_ex eg2 p1) b4⟩) (eg1.trans eg2)⟩
  rw [key_v p2 hk]
  exact DPut.k b1 (sz_lt (by rw [len_pair b4]; exact hl))⟩
/-! tuple keys, the key a display -/
def keysD : List PyData → Option (List Key)
  | [] => some []
  | d :: ds => match keyD d, keysD ds with
    | some k, some ks => some (k :: ks)
    | _, _ => none
theorem keys_v {K : PySem.W.Frag} {G : Hp} : ∀ {ds : List PyData} {vs : List V} {ks : List Key}, DpAll K G vs ds → keysD ds = some ks → vs = ks.map kV
  | _, _, _, .nil, e => by cases e; rfl
  | d :: ds, _, _, .cons h t, e => by
    unfold keysD at e
    split at e
    · rename_i k ks h1 h2
      cases e
      rw [key_v h h1, keys_v t h2]
      rfl
    · cases e
/-- d[(a, b)] = e -/
def wTPut (i : Nat) (we : WE) (wA : WA) : WS := fun DD s => we s fun d s1 => (∃ kvs0, s1.env[i]? = some (some (.dit kvs0))) ∧ wA s1 fun kd s2 => ∃ kvs k, s2.env[i]? = some (some (.dit kvs)) ∧ keysD kd = some k ∧ kd.length ≤ 100000 ∧ kvs.length < 100000 ∧ DD.nx (s2.set i (.dit (putG kvs k d)))
theorem ds_tput (i : Nat) {p2 p3 : Pos} {kk : Nat} (hu : X.A.units + 1 < cLine) (h : DE X C e te we) (hA : DA X C es tA wA) (hv : PE X (.Name x p) (tVar i) := by exact pv _) (hs : swapsWith e (some (.Subscript (.Name x p) (.Tuple es kk p3) p2)) pos.line X.env = pure false := by rfl) :
    DS X C (.Assign [.Subscript (.Name x p) (.Tuple es kk p3) p2] e pos) (sDPut (tVar i) (tTup tA) te) (wTPut i we wA) := ⟨ps_dput hu hv (pe_tup hA.pa) h.pe hs, fun G σ H s D DD r q o => h.ie G σ H s _ _ r q fun v1 d1 s1 G1 H1 q1 r1 eg1 g1 p1 => by
  obtain ⟨⟨kvs0, e0⟩, q1⟩ := q1
  obtain ⟨v, hv, p, ks, rfl, a1, a2, a3, a4⟩ := r1.sl i _ e0
  refine ⟨_, hv, hA.ia G1 σ H1 s1 _ _ r1 q1 fun vs2 ds2 s2 G2 H2 q2 r2 eg2 g2 p2 => ?_⟩
  obtain ⟨kvs, kk, e2, hk, hl0, hl, q2⟩ := q2
  obtain ⟨v', hv', p', ks', hp', b1, b2, b3, b4⟩ := r2.sl i _ e2
  rw [hv] at hv'
  cases hv'
  cases hp'
  refine ⟨by rw [dpa_len p2]; exact sz_of hl0, fun T hT => ?_⟩
  have ne : p ≠ T := fun z => by rw [z, hT] at b1; cases b1
  have b1' : upd H2 T (.tup vs2) p = some (.dT ks') := by rw [upd_ne ne]; exact b1
  have r3 := r2.aside (Ex.new (o := .tup vs2) hT)
  refine ⟨p, _, rfl, DPut.t b1' (b := T) (k := kk) (by rw [upd_same, keys_v p2 hk]) (sz_lt (by rw [len_pair b4]; exact hl)), o.nx σ _ _ G2 q2 (r3.mutO (x' := .dit (putG kvs kk d1)) e2 rfl hv b1' (fun _ _ z => by cases z) b2 b3 ⟨p, putK ks' kk v1, rfl, upd_same, b2, b3, put_pair kk (dp_ex eg2 p1) b4⟩) (eg1.trans eg2)⟩⟩
/-- d[(a, b)], the dict only read -/
def wTGet (i : Nat) (wA : WA) : WE := fun s Q => (∃ kvs0, s.env[i]? = some (some (.dd kvs0))) ∧ wA s fun kd s1 => ∃ kvs k d, s1.env[i]? = some (some (.dd kvs)) ∧ keysD kd = some k ∧ kd.length ≤ 100000 ∧ lookG kvs k = some d ∧ Q d s1
theorem RdD.rd {H : Hp} {p : Addr} {ks : List (List Key × V)} (h : RdD C H p ks) : Rd H p (.dT ks) := by
  obtain ⟨(⟨od, h⟩ | ⟨h, h0⟩), n⟩ := h
  · exact .inr ⟨od, h⟩
  · exact .inl h
theorem de_tget (i : Nat) {p2 p3 : Pos} {kk : Nat} (hu : X.A.units + 1 < cLine) (hA : DA X C es tA wA) (hv : PE X (.Name x p) (tVar i) := by exact pv _) (hs : NoSl (.Tuple es kk p3) := by exact fun _ _ => rfl) :
    DE X C (.Subscript (.Name x p) (.Tuple es kk p3) pos) (tDGet (tVar i) (tTup tA)) (wTGet i wA) := ⟨pe_dget hu hv (pe_tup hA.pa) hs, fun G σ H s Q Q' r q k => by
  obtain ⟨⟨kvs0, e0⟩, q⟩ := q
  obtain ⟨v, hv, p, ks, rfl, a1, a2⟩ := r.sl i _ e0
  refine ⟨_, hv, hA.ia G σ H s _ _ r q fun vs ds s1 G1 H1 q1 r1 eg1 g1 p1 => ?_⟩
  obtain ⟨kvs, kk, d, e2, hk, hl, hd, q1⟩ := q1
  obtain ⟨v', hv', p', ks', hp', b1, b2⟩ := r1.sl i _ e2
  rw [hv] at hv'
  cases hv'
  cases hp'
  refine ⟨by rw [dpa_len p1]; exact sz_of hl, fun T hT => ?_⟩
  rcases look_pair kk b2 with ⟨z1, z2⟩ | ⟨v3, d3, z1, z2, z3⟩
  · rw [z2] at hd
    cases hd
  · rw [z2] at hd
    cases hd
    refine ⟨p, v3, rfl, .inr ⟨ks', kk, T, ?_, rfl, by rw [upd_same, keys_v p1 hk], z1.symm⟩, k _ _ s1 G1 _ q1 (r1.aside (Ex.new hT)) eg1 (g1.trans (.side (Ex.new hT))) z3⟩
    exact (b1.gr (Gr.of (Ex.new hT))).rd⟩
end
end Dw

namespace Dw
open PySem PySem.Spec PyProof.Rows L2 OgR Evl
section
variable {X : Cx} {C : Ct} {a b e tg : Expr} {es : List Expr} {pos p : Pos} {t ta tb tc te : TE} {w wa wb wc we : WE} {tA : TA} {wA : WA} {x : Str} {st : Stmt} {sts : List Stmt} {u v : TS} {wu wv : WS}
/-! ### comprehensions, the turns said at once -/
theorem lc_core {J : It} {ds : List PyData} {g : TG} {ks vs : List Nat} {wg : WG} {tt : TT} {wt : WT} {te : TE} {we : WE} {G H : Hp} {σ : L2.St} {s : Dt} {Q : List PyData → Dt → Prop} {Q' : VK} (hk : ∀ k ∈ ks, k ∈ vs) (ht : IT C tt wt) (he : IE C te we) (r : Rel C G σ H s)
    (turn : ∀ G' H' c', Ex G G' → Rel C G' σ H' ⟨s.env, c'⟩ → Gs C σ G H s G' H' ⟨s.env, c'⟩ → (∀ (i : Nat) d, ds[i]? = some d → J.go i H' ∧ ∀ x H3, J.yld i H' x H3 → ∃ G3, Ex G' G3 ∧ Ex H' H3 ∧ Ex G3 H3 ∧ Nw G' G3 H' ∧ ∀ σ2 s2 Q Q', Rel C G3 σ2 H3 s2 → wg d s2 Q →
      (∀ σ' s', Q s' → Rel C G3 σ' H3 s' → σ'.length = σ2.length → (∀ j : Nat, j ∉ ks → σ'[j]? = σ2[j]?) → Q' σ' H3) → g x σ2 H3 Q') ∧ J.stop ds.length H')
    (q1 : ∃ Inv : Nat → List PyData → Int → Prop, Inv 0 [] s.c ∧
      (∀ (i : Nat) d acc c, ds[i]? = some d → Inv i acc c → wg d ⟨wipeD s.env vs, c⟩ fun s2 => wt s2 fun b s3 => s3.env = s2.env ∧ if b = true then we s3 fun y s4 => s4.env = s2.env ∧ acc.length < 100000 ∧ Inv (i + 1) (acc ++ [y]) s4.c else Inv (i + 1) acc s3.c) ∧
      ∀ acc c, Inv ds.length acc c → Q acc ⟨s.env, c⟩)
    (k : ∀ p xs ds s' G' H', Q ds s' → Rel C G' σ H' s' → Ex G G' → Gs C σ G H s G' H' s' → H p = none → H' p = some (.lst xs) → G' p = none → DpAll C.K G' xs ds → (∀ (i : Nat) x, s'.env[i]? = some (some x) → x.mut = true → σ[i]? ≠ some (some (.ref p))) → Q' (.ref p) H') :
    tLc (fun _ H1 R => R J H1) g tt te vs σ H Q' := fun D hD => by
    obtain ⟨Inv, h0, hs, hd⟩ := q1
    have hHD : H D = none := by
      cases z : H D with
      | none => rfl
      | some o => rw [z] at hD; cases hD
    refine ⟨fun i m H' => m = ds.length - i ∧ i ≤ ds.length ∧ ∃ G' acc xs c', Ex G G' ∧ Rel C G' σ H' ⟨s.env, c'⟩ ∧ Gs C σ G H s G' H' ⟨s.env, c'⟩ ∧ H' D = some (.lst xs) ∧ G' D = none ∧ DpAll C.K G' xs acc ∧ Inv i acc c', ⟨ds.length, by simp, Nat.zero_le _, G, [], [], s.c, Ex.refl G, r.aside (Ex.new hD), .side (Ex.new hD), upd_same, r.gnone hD, .nil, h0⟩, ?_⟩
    rintro i m H' ⟨rfl, hi, G', acc, xs, c', e', r', g', hHd, hGd, dacc, inv⟩
    obtain ⟨go, stop⟩ := turn G' H' c' e' r' g'
    have nbD : C.bx ≠ some D := r.fin.nbx (r.fin.h0 hHD)
    by_cases hlt : i < ds.length
    · have hd1 : ds[i]? = some ds[i] := List.getElem?_eq_getElem hlt
      obtain ⟨g1, g2⟩ := go i _ hd1
      refine .inr ⟨g1, fun H2 => ∃ G' acc xs c', Ex G G' ∧ Rel C G' σ H2 ⟨s.env, c'⟩ ∧ Gs C σ G H s G' H2 ⟨s.env, c'⟩ ∧ H2 D = some (.lst xs) ∧ G' D = none ∧ DpAll C.K G' xs acc ∧ Inv (i + 1) acc c', fun H2 ⟨G2, a1, a2, a3, a4, a5, a6, a7, a8, a9, a10⟩ => ⟨ds.length - (i + 1), by omega, rfl, hlt, G2, a1, a2, a3, a4, a5, a6, a7, a8, a9, a10⟩, fun x H3 y => ?_⟩
      obtain ⟨G3, b1, b2, b3, b4, b5⟩ := g2 x H3 y
      have r3 := r'.grow b1 b2 b3 b4
      have gs3 : Gs C σ G' H' ⟨s.env, c'⟩ G3 H3 ⟨s.env, c'⟩ := .grow b2 b4
      have e3 := e'.trans b1
      have hG3 : G3 D = none := gs3.nk D hGd (by rw [hHd]; exact Option.some_ne_none _) fun j y ej m z => by
        obtain ⟨v, hv, rv⟩ := r.sl j y ej
        rw [z] at hv
        cases hv
        exact r.notslot hD j y ej m z
      refine b5 (L2.wipe σ vs) ⟨wipeD s.env vs, c'⟩ _ _ (r3.wipe vs) (hs i _ acc c' hd1 inv) fun σ4 s4 q4 r4 l4 f4 => ⟨wipe_of l4 f4 hk, ht G3 σ4 H3 s4 _ _ r4 q4 fun bb s5 G5 H5 q5 r5 eg5 gs5 => ?_⟩
      obtain ⟨he5, q5⟩ := q5
      cases bb with
      | false =>
        rw [if_neg (by decide)] at q5
        have rr := r3.back r4 r5 he5 eg5 gs5
        refine iteF ⟨G5, acc, xs, s5.c, e3.trans eg5, rr, g'.trans (gs3.trans ⟨gs5.gr, gs5.dom, fun b h1 h2 h3 => gs5.keep r4 r5 he5 h1 h2, fun i x e m => ⟨x, e, m⟩⟩), gs5.gr D _ nbD (b2 D _ hHd), gs5.keep r4 r5 he5 hG3 (by rw [b2 D _ hHd]; exact Option.some_ne_none _), dpa_ex (b1.trans eg5) dacc, q5⟩
      | true =>
        rw [if_pos rfl] at q5
        refine iteT (he G5 σ4 H5 s5 _ _ r5 q5 fun v y s6 G6 H6 q6 r6 eg6 gs6 pv => ?_)
        obtain ⟨he6, hl, q6⟩ := q6
        have gs7 := gs5.trans gs6
        have rr := r3.back r4 r6 he6 (eg5.trans eg6) gs7
        have hD6 : H6 D = some (.lst xs) := gs7.gr D _ nbD (b2 D _ hHd)
        have gD6 : G6 D = none := gs7.keep r4 r6 he6 hG3 (by rw [b2 D _ hHd]; exact Option.some_ne_none _)
        have hm : ∀ b, b ≠ D → upd H6 D (.lst (xs ++ [v])) b = H6 b := fun b hb => upd_ne hb
        refine ⟨xs, hD6, sz_lt (by rw [dpa_len dacc]; exact hl), G6, acc ++ [y], xs ++ [v], s6.c, e3.trans (eg5.trans eg6), ?_, ?_, upd_same, gD6, dpa_app (dpa_ex ((b1.trans eg5).trans eg6) dacc) (.cons pv .nil), q6⟩
        · -- D is no slot's and not data
          have h0D : C.H0 D = none := r.fin.h0 hHD
          refine ⟨⟨fun b o hb => ?_, rr.fin.g0, rr.fin.nw, fun b o n hb => ?_, fun l hl => ?_⟩, rr.len, fun j y ej => ?_, rr.dis⟩
          · rw [hm b (fun z => by rw [z, gD6] at hb; cases hb)]
            exact rr.fin.gh b o hb
          · rw [hm b (fun z => by rw [z, h0D] at hb; cases hb)]
            exact rr.fin.hh b o n hb
          · refine ⟨(rr.fin.bx l hl).1.keep fun o q => ?_, (rr.fin.bx l hl).2⟩
            rw [hm l (fun z => nbD (by rw [← z]; exact hl))]
            exact q
          · obtain ⟨v', hv', rv⟩ := rr.sl j y ej
            refine ⟨v', hv', ?_⟩
            cases y with
            | d _ => exact rv
            | box => exact rv
            | own ds2 =>
              obtain ⟨p2, xs2, a1, a2, a3, a4, a5⟩ := rv
              exact ⟨p2, xs2, a1, by rw [hm p2 (fun z => r.notslot hD j _ ej rfl (by rw [hv', a1, z]))]; exact a2, a3, a4, a5⟩
            | dic ds2 =>
              obtain ⟨p2, xs2, a1, a2, a3, a4, a5⟩ := rv
              exact ⟨p2, xs2, a1, by rw [hm p2 (fun z => r.notslot hD j _ ej rfl (by rw [hv', a1, z]))]; exact a2, a3, a4, a5⟩
            | dit ds2 =>
              obtain ⟨p2, xs2, a1, a2, a3, a4, a5⟩ := rv
              exact ⟨p2, xs2, a1, by rw [hm p2 (fun z => r.notslot hD j _ ej rfl (by rw [hv', a1, z]))]; exact a2, a3, a4, a5⟩
            | oth φ => exact Oth.step (φ := φ) rv (Ex.refl G6) (Kept.upd hD6 rfl)
            | dd ds2 =>
              obtain ⟨p2, xs2, a1, a2, a5⟩ := rv
              exact ⟨p2, xs2, a1, a2.upd hD6 h0D (fun _ _ z => by cases z), a5⟩
        · have gg := g'.trans (gs3.trans (s2 := ⟨s.env, s6.c⟩) ⟨gs7.gr, gs7.dom, fun b h1 h2 h3 => gs7.keep r4 r6 he6 h1 h2, fun i x e m => ⟨x, e, m⟩⟩)
          refine ⟨fun b o n hb => ?_, fun b hb => ?_, gg.nk, gg.ks⟩
          · rw [hm b (fun z => by rw [z, hD] at hb; cases hb)]
            exact gg.gr b o n hb
          · by_cases z : b = D
            · rw [z, upd_same]
              exact Option.some_ne_none _
            · rw [hm b z]
              exact gg.dom b hb
    · have e : i = ds.length := by omega
      subst e
      refine .inl ⟨stop, k D xs acc ⟨s.env, c'⟩ G' H' (hd acc c' inv) r' e' g' hHD hHd hGd dacc fun j y ej m => r.notslot hD j y ej m⟩
/-! ### [.. for a, b in d], d a dict of the def's own with tuple keys: it is locked meanwhile -/
def kD : Key → PyData
  | .inl i => .int i
  | .inr z => .str z
theorem dp_kD {K : PySem.W.Frag} {G : Hp} : ∀ k : Key, Dp K G (kV k) (kD k)
  | .inl i => .int i
  | .inr z => .str z
theorem dpa_kD {K : PySem.W.Frag} {G : Hp} : ∀ ks : List Key, DpAll K G (ks.map kV) (ks.map kD)
  | [] => .nil
  | k :: ks => .cons (dp_kD k) (dpa_kD ks)
def keyT (kv : List Key × PyData) : PyData := .tuple (kv.1.map kD)
/-- targets of a tuple that stands in the heap -/
def IGH (C : Ct) (g : TG) (ks : List Nat) (w : WG) : Prop := ∀ G σ H s q xs ds Q Q', Rel C G σ H s → H q = some (.tup xs) → DpAll C.K G xs ds → w (.tuple ds) s Q →
  (∀ σ' s', Q s' → Rel C G σ' H s' → σ'.length = σ.length → (∀ j : Nat, j ∉ ks → σ'[j]? = σ[j]?) → Q' σ' H) → g (.ref q) σ H Q'
theorem igh_tup {n : Nat} {g : TGs} {ks : List Nat} {u : WGs} (h : IGs C g ks u) : IGH C (gSeqB C.K n g) ks (wGTup n u) := fun G σ H s q xs ds Q Q' r hq hd hw k => by
  obtain ⟨hs, hl, hw⟩ := hw
  exact ⟨true, q, xs, rfl, .inl (.inl hq), by rw [dpa_len hd]; exact hl, h G σ H s xs ds Q Q' r hd hw k⟩
def noDD (env : List (Option DV)) : Bool := env.all fun x => match x with
  | some (.dd _) => false
  | _ => true
theorem noDD_at {env : List (Option DV)} (h : noDD env = true) {i : Nat} {kvs : List (List Key × PyData)} : env[i]? ≠ some (some (.dd kvs)) := fun e => by
  have := List.all_eq_true.mp h _ (List.mem_of_getElem? e)
  cases this
def wLcK (i0 : Nat) (g : WG) (tt : WT) (te : WE) (vs : List Nat) : WA := fun s Q => ∃ kvs, s.env[i0]? = some (some (.dit kvs)) ∧ noDD s.env = true ∧ ∃ Inv : Nat → List PyData → Int → Prop, Inv 0 [] s.c ∧
  (∀ (i : Nat) d acc c, (kvs.map keyT)[i]? = some d → Inv i acc c → g d ⟨wipeD (s.env.set i0 (some (.dd kvs))) vs, c⟩ fun s2 => tt s2 fun b s3 => s3.env = s2.env ∧ if b = true then te s3 fun y s4 => s4.env = s2.env ∧ acc.length < 100000 ∧ Inv (i + 1) (acc ++ [y]) s4.c else Inv (i + 1) acc s3.c) ∧
  ∀ acc c, Inv (kvs.map keyT).length acc c → Q acc ⟨s.env, c⟩
theorem pair_at {α β : Type} {F : α → β → Prop} : ∀ {l1 : List α} {l2 : List β} {i : Nat} {b : β}, Paired F l1 l2 → l2[i]? = some b → ∃ a, l1[i]? = some a ∧ F a b
  | _, _, _, _, .nil, e => by simp at e
  | _, _, 0, _, .cons h _, e => by
    simp at e
    subst e
    exact ⟨_, rfl, h⟩
  | _, _, i + 1, _, .cons _ t, e => pair_at (i := i) t (by simpa using e)
theorem io_lcK {i0 : Nat} {g : TG} {ks vs : List Nat} {wg : WG} {tt : TT} {wt : WT} (hk : ∀ k ∈ ks, k ∈ vs) (hg : IGH C g ks wg) (ht : IT C tt wt) (he : IE C te we) : IO C (tLockE (tLc (iKeys (tVar i0)) g tt te vs)) (wLcK i0 wg wt we vs) := fun G σ H s Q Q' r q k => by
  obtain ⟨kvs, e0, nd, q⟩ := q
  obtain ⟨v, hv, p, kk, rfl, h1, h2, h3, h4⟩ := r.sl i0 _ e0
  refine ⟨p, _, h1, trivial, fun od => ?_⟩
  have nb := r.fin.nbx h2
  have rl : Rel C G σ (upd H p (.frz od (.dT kk))) (s.set i0 (.dd kvs)) := r.mutO (x' := .dd kvs) e0 rfl hv h1 (fun _ _ z => by cases z) h2 h3 ⟨p, kk, rfl, ⟨.inl ⟨od, upd_same⟩, nb⟩, h4⟩
  have hl : kk.length = kvs.length := len_pair h4
  refine ⟨_, hv, p, od, rfl, .inr ⟨kk, upd_same, ?_⟩⟩
  have fz : ∀ (G' H' : Hp) (c' : Int), Gs C σ G (upd H p (.frz od (.dT kk))) (s.set i0 (.dd kvs)) G' H' ⟨(s.set i0 (.dd kvs)).env, c'⟩ → H' p = some (.frz od (.dT kk)) := fun G' H' c' gs => gs.gr p _ nb upd_same
  have np : ∀ (i : Nat) x, (s.set i0 (.dd kvs)).env[i]? = some (some x) → x.mut = true → σ[i]? ≠ some (some (.ref p)) := fun i x ei m hp => by
    rcases get_set ei with ⟨rfl, rfl, _⟩ | ⟨z, ei⟩
    · cases m
    · exact r.dis i0 i _ x p (Ne.symm z) e0 ei rfl m hv hp
  exact lc_core (J := Itkt p od kk) (ds := kvs.map keyT) (Q' := fun v H' => H' p = some (.frz od (.dT kk)) ∧ Q' v (upd H' p (.dT kk))) (Q := fun acc s' => ∃ c', s' = ⟨(s.set i0 (.dd kvs)).env, c'⟩ ∧ Q acc ⟨s.env, c'⟩) hk ht he rl (fun G' H' c' eg rr gs => by
    have hz := fz G' H' c' gs
    refine ⟨fun i d hd => ?_, hz, by rw [List.length_map, hl]; exact Nat.le_refl _⟩
    rw [List.getElem?_map] at hd
    cases qk : kvs[i]? with
    | none => rw [qk] at hd; cases hd
    | some kv =>
      rw [qk] at hd
      cases hd
      obtain ⟨kw, hw, ek, _⟩ := pair_at h4 qk
      refine ⟨⟨hz, (List.getElem?_eq_some_iff.mp hw).1⟩, fun x H3 y => ?_⟩
      obtain ⟨rfl, k1, v1, q1, hk1, rfl, hq1⟩ := y
      rw [hw] at hk1
      cases hk1
      refine ⟨G', Ex.refl G', Ex.refl H3, rr.fin.gh, Nw.refl G' H3, fun σ2 s2 Q2 Q2' r2 w2 k2 => ?_⟩
      refine hg G' σ2 H3 s2 q1 _ _ Q2 Q2' r2 hq1 (dpa_kD k1) ?_ k2
      have ek' : k1 = kv.1 := ek
      rw [ek']
      exact w2) (by
    obtain ⟨Inv, i0', is, ie⟩ := q
    exact ⟨Inv, i0', is, fun acc c hi => ⟨c, rfl, ie acc c hi⟩⟩) fun D xs acc s' G' H' qq r' eg gs hD hD' gD dacc nsl => by
    obtain ⟨c', rfl, qq⟩ := qq
    have hz := fz G' H' c' gs
    have hDp : D ≠ p := fun z => by rw [z, hz] at hD'; cases hD'
    have gp : G' p = none := gs.nk p h3 (by rw [upd_same]; exact Option.some_ne_none _) np
    refine ⟨hz, ?_⟩
    have env0 : (s.env.set i0 (some (.dd kvs))).set i0 (some (.dit kvs)) = s.env := by
      rw [List.set_set]
      refine List.ext_getElem? fun j => ?_
      by_cases z : i0 = j
      · subst z
        rw [List.getElem?_set_self (List.getElem?_eq_some_iff.mp e0).1, e0]
      · rw [List.getElem?_set_ne z]
    have oth : ∀ (j : Nat) y, j ≠ i0 → s.env[j]? = some (some y) → (s.set i0 (.dd kvs)).env[j]? = some (some y) := fun j y z ej => by
      show (s.env.set i0 _)[j]? = _
      rw [List.getElem?_set_ne (Ne.symm z)]
      exact ej
    have hu : ∀ b, b ≠ p → upd H' p (.dT kk) b = H' b := fun b hb => upd_ne hb
    have rel : Rel C G' σ (upd H' p (.dT kk)) ⟨s.env, c'⟩ := by
      refine ⟨⟨fun b o hb => ?_, r'.fin.g0, r'.fin.nw, fun b o n hb => ?_, fun l hl => ?_⟩, r.len, fun j y ej => ?_, r.dis⟩
      · rw [hu b (fun z => by rw [z, gp] at hb; cases hb)]
        exact r'.fin.gh b o hb
      · rw [hu b (fun z => by rw [z, h2] at hb; cases hb)]
        exact r'.fin.hh b o n hb
      · refine ⟨(r'.fin.bx l hl).1.keep fun o q => ?_, (r'.fin.bx l hl).2⟩
        rw [hu l (fun z => nb (by rw [← z]; exact hl))]
        exact q
      · by_cases z : j = i0
        · subst z
          rw [e0] at ej
          cases ej
          exact ⟨_, hv, p, kk, rfl, upd_same, h2, gp, paired_mapP h4 fun a b q => ⟨q.1, dp_ex eg q.2⟩⟩
        · obtain ⟨v', hv', rv⟩ := r'.sl j y (oth j y z ej)
          refine ⟨v', hv', ?_⟩
          have nep : ∀ q, v' = .ref q → y.mut = true → q ≠ p := fun q hq m zz => np j y (oth j y z ej) m (by rw [hv', hq, zz])
          cases y with
          | d x => exact rv
          | box => exact rv
          | own ds2 =>
            obtain ⟨p2, xs2, a1, a2, a3, a4, a5⟩ := rv
            exact ⟨p2, xs2, a1, by rw [hu p2 (nep p2 a1 rfl)]; exact a2, a3, a4, a5⟩
          | dic ds2 =>
            obtain ⟨p2, xs2, a1, a2, a3, a4, a5⟩ := rv
            exact ⟨p2, xs2, a1, by rw [hu p2 (nep p2 a1 rfl)]; exact a2, a3, a4, a5⟩
          | dit ds2 =>
            obtain ⟨p2, xs2, a1, a2, a3, a4, a5⟩ := rv
            exact ⟨p2, xs2, a1, by rw [hu p2 (nep p2 a1 rfl)]; exact a2, a3, a4, a5⟩
          | dd ds2 => exact absurd ej (noDD_at nd)
          | oth φ => exact Oth.step (φ := φ) rv (Ex.refl G') (Kept.upd hz rfl)
    have hHD : H D = none := by rw [upd_ne hDp] at hD; exact hD
    refine k D xs acc ⟨s.env, c'⟩ G' _ qq rel eg ⟨fun b o n hb => ?_, fun b hb => ?_, fun b b1 b2 b3 => ?_, fun i x e m => ⟨x, e, m⟩⟩ hHD (by rw [hu D hDp]; exact hD') gD dacc fun i x ei m => ?_
    · by_cases z : b = p
      · subst z
        rw [h1] at hb
        cases hb
        exact upd_same
      · rw [hu b z]
        exact gs.gr b o n (by rw [upd_ne z]; exact hb)
    · by_cases z : b = p
      · subst z
        rw [upd_same]
        exact Option.some_ne_none _
      · rw [hu b z]
        exact gs.dom b (by rw [upd_ne z]; exact hb)
    · by_cases z : b = p
      · subst z
        exact gp
      · refine gs.nk b b1 (by rw [upd_ne z]; exact b2) fun i x ei m => ?_
        rcases get_set ei with ⟨rfl, rfl, _⟩ | ⟨z', ei⟩
        · cases m
        · exact b3 i x ei m
    · by_cases z : i = i0
      · subst z
        rw [hv]
        intro zz
        cases zz
        exact hDp rfl
      · exact nsl i x (oth i x z ei) m
theorem do_lcK (i0 : Nat) {elt : Expr} {ifs : List Expr} {scope : Scope} {own : List (Str × Nat)} {p2 : Pos} {g : TG} {ks : List Nat} {wg : WG} {tt : TT} {wt : WT} (hc : X.calm = true) (hN : X.N.Nodup) (ok : BlkOk X.N X.env.scope scope own)
    (hg : (∀ (s : Shared) (H : Hp) (A : Addr) (cl : List (Str × Addr)) (fp : List Addr), PG (X.blk s H scope (compEnvC scope cl A X.env) fp) tg g) ∧ IGH C g ks wg)
    (ht : (∀ (s : Shared) (H : Hp) (A : Addr) (cl : List (Str × Addr)) (fp : List Addr), PTs (X.blk s H scope (compEnvC scope cl A X.env) fp) ifs tt) ∧ IT C tt wt)
    (he : ∀ (s : Shared) (H : Hp) (A : Addr) (cl : List (Str × Addr)) (fp : List Addr), DE (X.blk s H scope (compEnvC scope cl A X.env) fp) C elt te we) (hv : PE X (.Name x p2) (tVar i0) := by exact pv _) (hk : ∀ k ∈ ks, k ∈ own.map (·.2) := by decide) (hs : ∀ z, foldedSetIterable (.Name x p2) X.env z = pure z := by intro _; rfl) :
    DO X C (.ListComp elt [⟨tg, .Name x p2, ifs, 0⟩] scope pos) (tLockE (tLc (iKeys (tVar i0)) g tt te (own.map (·.2)))) (wLcK i0 wg wt we (own.map (·.2))) :=
  ⟨pe_lock (pe_lc hc hN (pi_keys hv) ok hg.1 ht.1 (fun s H A cl fp => (he s H A cl fp).pe) hs), io_lcK hk hg.2 ht.2 (he {} (fun _ => none) 0 [] []).ie⟩
end
end Dw

namespace Dw
open PySem PySem.Spec PyProof.Rows L2 OgR Evl
/-! ### sorted of tuples that begin with an int and a text, all whose beginnings are different (or the whole is the same) -/
def hdD : PyData → PyData
  | .tuple (a :: b :: _) => .tuple [a, b]
  | d => d
/-- (int, text) or (int, text, something flat) -/
def RowD (d : PyData) : Prop := ∃ i z r, d = .tuple (.int i :: .str z :: r) ∧ PySem.W.alikeAll r r = true ∧ PyData.depthAll r = 0
structure RowsOk (ds : List PyData) : Prop where
  row : ∀ d ∈ ds, RowD d
  uni : ∀ d ∈ ds, ∀ e ∈ ds, hdD d = hdD e → d = e
def hdLe (a b : PyData) : Bool := !PySem.W.dataLt (hdD b) (hdD a)
theorem row_uni {h : Heap} {v : Value} {d e : PyData} {as bs : List Addr} (hd : RowD d) (he : RowD e) (ra : Reads h v d as) (rb : Reads h v e bs) : hdD d = hdD e := by
  obtain ⟨i, z, r, rfl, _⟩ := hd
  obtain ⟨j, y, q, rfl, _⟩ := he
  cases ra with
  | @tuple a o vs n _ _ h1 h2 h3 h4 =>
    cases rb with
    | @tuple a' o' vs' n' _ _ k1 k2 k3 k4 =>
      rw [h1] at k1
      cases k1
      rw [h3] at k3
      injection k3 with e1 e2
      subst e1
      generalize vs.toList = l at h4 k4
      cases h4 with
      | cons r1 h4 =>
        cases k4 with
        | cons r1' k4 =>
          cases h4 with
          | cons r2 h4 =>
            cases k4 with
            | cons r2' k4 =>
              cases r1
              cases r1'
              cases r2
              cases r2'
              rfl
def RdIn (h : Heap) (ds : List PyData) (v : Value) (d : PyData) : Prop := d ∈ ds ∧ ∃ as, Reads h v d as
noncomputable def rowKind (h : Heap) (ds : List PyData) : PyProof.Rows.KeyKind where
  toKeyOrd := listOrd itemOrd
  keyOf v := open Classical in if w : ∃ d, RdIn h ds v d then some (PySem.W.keyToks (hdD w.choose)) else none
  dflt := List.nil
theorem row_key {h : Heap} {ds : List PyData} {v : Value} (w : ∃ d, RdIn h ds v d) : (rowKind h ds).keyOf v = some (PySem.W.keyToks (hdD w.choose)) := dif_pos w
theorem row_nokey {h : Heap} {ds : List PyData} {v : Value} (w : ¬ ∃ d, RdIn h ds v d) : (rowKind h ds).keyOf v = none := dif_neg w
theorem rowKind_some {h : Heap} {ds : List PyData} (ok : RowsOk ds) {v : Value} {d : PyData} {as : List Addr} (hd : d ∈ ds) (r : Reads h v d as) : (rowKind h ds).keyOf v = some (PySem.W.keyToks (hdD d)) := by
  have w : ∃ d, RdIn h ds v d := ⟨d, hd, as, r⟩
  obtain ⟨c1, c2, c3⟩ := w.choose_spec
  rw [row_key w, row_uni (ok.row _ c1) (ok.row _ hd) c3 r]
theorem rowKind_inv {h : Heap} {ds : List PyData} {v : Value} {k : List (Int ⊕ List Nat)} (e : (rowKind h ds).keyOf v = some k) : ∃ d as, d ∈ ds ∧ Reads h v d as ∧ k = PySem.W.keyToks (hdD d) := by
  by_cases w : ∃ d, RdIn h ds v d
  · rw [row_key w] at e
    obtain ⟨c1, c2, c3⟩ := w.choose_spec
    exact ⟨_, c2, c1, c3, (Option.some.inj e).symm⟩
  · rw [row_nokey w] at e
    cases e
section
variable {prog : Program} {w : World} {A : Around} {s : Shared}
/-- two such tuples compared as sorting does -/
theorem row_lex {fin : Bool} {Q : Bool → Shared → Prop} {i j : Int} {z y : Str} {r q : List PyData} {vs ws : List Value} {as bs : List Addr} (ra : ReadsAll s.heap vs (.int i :: .str z :: r) as) (rb : ReadsAll s.heap ws (.int j :: .str y :: q) bs)
    (same : i = j → z = y → r = q) (hr : PySem.W.alikeAll r r = true) (hdp : PyData.depthAll r = 0) (hu : A.units < cLine) (hf : fin = decide ((PyData.int i :: .str z :: r).length < (PyData.int j :: .str y :: q).length))
    (hq : Q (PySem.W.dataLt (.tuple [.int i, .str z]) (.tuple [.int j, .str y])) s) : PySem.W.KatLex prog w A true fin Q (vs.zip ws) 0 s := by
  have al1 : PySem.W.alike (.int i) (.int j) = true := rfl
  have al2 : PySem.W.alike (.str z) (.str y) = true := rfl
  have u0 : ∀ x : PyData, x.depth = 0 → ∀ x' : PyData, A.units + min x.depth x'.depth < cLine := fun x h x' => by
    rw [h, Nat.zero_min]
    exact hu
  rw [PySem.W.dataLt_tuple] at hq
  cases ra with
  | cons r1 ra =>
    cases rb with
    | cons r1' rb =>
      cases ra with
      | cons r2 ra =>
        cases rb with
        | cons r2' rb =>
          rw [List.zip_cons_cons, List.zip_cons_cons]
          refine PySem.W.kat_cons (PySem.W.eqAt_alike _ _ A s _ _ _ _ r1 r1' al1 (u0 _ rfl _) prog w _ _ ?_)
          cases e1 : PyData.eqv (.int i) (.int j) with
          | false =>
            rw [PySem.W.dataLt_all_no al1 e1] at hq
            exact PySem.W.kat_no (PySem.W.oneLt_alike (by intro _ t e; cases e) r1 r1' al1 (by intro e; cases e) (u0 _ rfl _) hq)
          | true =>
            rw [PySem.W.dataLt_all_yes al1 e1] at hq
            refine PySem.W.kat_yes (PySem.W.kat_cons (PySem.W.eqAt_alike _ _ A s _ _ _ _ r2 r2' al2 (u0 _ rfl _) prog w _ _ ?_))
            cases e2 : PyData.eqv (.str z) (.str y) with
            | false =>
              rw [PySem.W.dataLt_all_no al2 e2] at hq
              exact PySem.W.kat_no (PySem.W.oneLt_alike (by intro _ t e; cases e) r2 r2' al2 (by intro e; cases e) (u0 _ rfl _) hq)
            | true =>
              rw [PySem.W.dataLt_all_yes al2 e2] at hq
              have ei : i = j := by simpa [PyData.eqv] using e1
              have ez : z = y := by simpa [PyData.eqv] using e2
              have er := same ei ez
              subst er
              refine PySem.W.kat_yes (PySem.W.katLex_alike r r 2 _ _ _ _ ra rb hr (by rw [hdp, Nat.zero_min]; exact hu) (fun _ h => absurd h (by decide)) ?_ ?_)
              · rw [hf]
                simp
              · have e3 : PyProof.Rows.lexLt itemOrd (PySem.W.keyToksAll r) (PySem.W.keyToksAll r) = PyProof.Rows.lexLt itemOrd (PySem.W.keyToksAll []) (PySem.W.keyToksAll []) := by rw [lex_irrefl, lex_irrefl]
                rw [e3]
                exact hq
theorem row_dt {d : PyData} (h : RowD d) : ∃ x r, d = .tuple (x :: r) ∧ PySem.W.dataType x = .type "int" := by
  obtain ⟨i, z, r, rfl, _⟩ := h
  exact ⟨_, _, rfl, rfl⟩
theorem row_sorts {vs : List Value} {ds : List PyData} (e : PySem.W.EachIs (fun v d => ∃ as, Reads s.heap v d as) vs ds) (ok : RowsOk ds) (hu : A.units < cLine) : PySem.W.SortsAt prog w A s (rowKind s.heap ds) vs := by
  refine ⟨fun v hv => ?_, tuples' true, ?_, fun h2 E Q hq => ?_⟩
  · obtain ⟨d, hd, as, r⟩ := e.left v hv
    exact ⟨_, rowKind_some ok hd r⟩
  · intro E x y a b Q ha hb hq
    obtain ⟨d, as, hd, ra, rfl⟩ := rowKind_inv ha
    obtain ⟨d', as', hd', rb, rfl⟩ := rowKind_inv hb
    obtain ⟨i, z, r, e1, al, dp⟩ := ok.row d hd
    obtain ⟨j, y, q, e2, _, _⟩ := ok.row d' hd'
    have un : i = j → z = y → r = q := fun h1 h2 => by
      have := ok.uni d hd d' hd' (by rw [e1, e2, h1, h2]; rfl)
      rw [e1, e2] at this
      injection this with this
      simp only [List.cons.injEq] at this
      exact this.2.2
    subst e1 e2
    cases ra with
    | @tuple l o xs n _ _ h1 h2 h3 h4 =>
      cases rb with
      | @tuple l' o' xs' n' _ _ k1 k2 k3 k4 =>
        have n1 : xs.size = (PyData.int i :: .str z :: r).length := by simpa using SeqAt.ReadsAll.length _ _ _ h4
        have n2 : xs'.size = (PyData.int j :: .str y :: q).length := by simpa using SeqAt.ReadsAll.length _ _ _ k4
        exact PySem.W.kat_lt h1 h3 k1 k3 (row_lex h4 k4 un al dp hu (by rw [n1, n2]) hq)
  · have ht : ∀ d, d ∈ ds → ∃ x r, d = PyData.tuple (x :: r) := fun d hd => by
      obtain ⟨x, r, e, _⟩ := row_dt (ok.row d hd)
      exact ⟨x, r, e⟩
    obtain ⟨fs, t1, t2, t3⟩ := PySem.W.each_katTups e ht
    refine PySem.W.kat_kind (T := .type "int") t1 (by omega) (fun f hf => ?_) (beq_self_eq_true _) hq
    obtain ⟨x, r, as, m1, m2⟩ := t3 f hf
    obtain ⟨x2, r2, e3, e4⟩ := row_dt (ok.row _ m1)
    cases e3
    rw [← e4]
    exact PySem.W.looks_reads m2
end
theorem each_of {K : PySem.W.Frag} {H : Hp} {P : V → PyData → Prop} : ∀ {xs : List V} {us : List Value} {ds : List PyData}, Vals xs us → DpAll K H xs ds → (∀ (j : Nat) x d, xs[j]? = some x → ds[j]? = some d → P x d) → PySem.W.EachIs (fun u d => ∃ x, RelV x u ∧ P x d) us ds
  | _, _, _, .nil, .nil, _ => .nil
  | _, _, _, .cons r rs, .cons p ps, h => .cons ⟨_, r, h 0 _ _ rfl rfl⟩ (each_of rs ps fun j x d e1 e2 => h (j + 1) x d (by simpa using e1) (by simpa using e2))
theorem each_back {P : V → PyData → Prop} : ∀ {us : List Value} {ds : List PyData}, PySem.W.EachIs (fun u d => ∃ x, RelV x u ∧ P x d) us ds → ∃ ys : List V, Vals ys us ∧ Paired P ys ds
  | _, _, .nil => ⟨[], .nil, .nil⟩
  | _, _, .cons ⟨x, r, p⟩ t => by
    obtain ⟨ys, h1, h2⟩ := each_back t
    exact ⟨x :: ys, .cons r h1, .cons p h2⟩
theorem pair_dpa {K : PySem.W.Frag} {G : Hp} {P : V → PyData → Prop} (h : ∀ x d, P x d → Dp K G x d) : ∀ {ys : List V} {ds : List PyData}, Paired P ys ds → DpAll K G ys ds
  | _, _, .nil => .nil
  | _, _, .cons p t => .cons (h _ _ p) (pair_dpa h t)
def srtR (ds : List PyData) : List PyData := ds.mergeSort hdLe
section
variable {prog : Program} {w : World} {A : Around} {E : Value → Shared → Prop} {s : Shared} {κ : PyProof.Rows.KeyKind}
/-- sorted(t), t a tuple -/
theorem sorted_tupV {l : Addr} {vs : List Value} {Q : Value → Shared → Prop} (ht : IsTup s.heap l vs.toArray) (S : PySem.W.SortsAt prog w A.in1.in1 { s with heap := PySem.W.sortingHeap (PySem.W.copyHeap s.heap vs) (s.heap.objs.size + 1) vs } κ vs) (hL : vs.length ≤ sizeLine)
    (h : Q (.ref (s.heap.objs.size + 1)) { s with heap := sortedAll s.heap vs (PySem.W.sortVals κ false vs vs).toArray }) : wpAny (model prog w) A (call (.builtin "sorted") [.ref l]) Q E s := by
  obtain ⟨o, ho, hc, n, hd⟩ := ht
  refine Calls.call_function_entry kind_sorted plain_sorted entry_sorted (args_sorted1 _) ?_
  unfold Builtin.«sorted»
  refine wpAny_bind (m := checkCount "sorted" 1 1 _) (wpAny_pure ?_)
  refine wpAny_bind (gather_tup ho hc hd (by simpa using hL) ?_)
  rw [List.toList_toArray]
  have hsz : ((s.heap.push (seqObj "list" #[] 0)).update s.heap.objs.size (Obj.mapSeq (· ++ vs.toArray))).objs.size = s.heap.objs.size + 1 := by
    rw [Heap.size_update, size_push']
  refine wpAny_bind (wpAny_newList ?_ hL)
  show wpAny _ _ _ _ _ { s with heap := PySem.W.copyHeap s.heap vs }
  rw [hsz]
  refine wpAny_bind (wpAny_holding (wpAny_call_entry slot_list_sort ⟨_, PySem.W.copyHeap_at s.heap vs, rfl⟩ entry_list_sort (PySem.W.list_sort_vals (s := { s with heap := PySem.W.copyHeap s.heap vs }) (PySem.W.copyHeap_at s.heap vs) S hL ⟨_, rfl, wpAny_pure ⟨_, rfl, h⟩⟩) (args_list_sort _)))
end
def rSrtR (K : PySem.W.Frag) : List V → Hp → VK → Prop := fun vs H Q => ∃ (b : Bool) (a : Addr) (xs : List V) (ds : List PyData), vs = [.ref a] ∧ SqB K b H a xs ∧ DpAll K H xs ds ∧ RowsOk ds ∧ ∀ ys p, (∀ G, DpAll K G xs ds → DpAll K G ys (srtR ds)) → H p = none → Q (.ref p) (upd H p (.lst ys))
theorem cr_srtR {X : Cx} (hu : X.A.units + 64 < cLine) : CallR X (.builtin "sorted") (rSrtR X.K) := by
  intro pins s σ H vs us Q I r h
  obtain ⟨bb, a, xs, ds, rfl, hs, hd, ok, q⟩ := h
  have go : ∃ its : List Value, Vals xs its ∧ xs.length ≤ sizeLine ∧ ∀ {κ : PyProof.Rows.KeyKind} {Q : Value → Shared → Prop}, PySem.W.SortsAt X.prog X.w X.A.in1.in1 { s with heap := PySem.W.sortingHeap (PySem.W.copyHeap s.heap its) (s.heap.objs.size + 1) its } κ its → its.length ≤ sizeLine →
      Q (.ref (s.heap.objs.size + 1)) { s with heap := sortedAll s.heap its (PySem.W.sortVals κ false its its).toArray } → wpAny (model X.prog X.w) X.A (call (.builtin "sorted") [.ref a]) Q X.xe s := by
    cases bb with
    | true =>
      obtain ⟨its, rv, pt, hz⟩ := I.tuple hs
      exact ⟨its, rv, hz, fun S hL h => sorted_tupV pt S hL h⟩
    | false =>
      obtain ⟨its, rv, pt, hz⟩ := I.list hs
      exact ⟨its, rv, hz, fun S hL h => PySem.W.sorted_vals pt.isList S hL h⟩
  obtain ⟨its, rv, hz, run⟩ := go
  rw [Vals.ref1 r]
  have er : PySem.W.EachIs (fun u d => ∃ as, Reads s.heap u d as) its ds := (each_of (P := fun x d => Dp X.K H x d) rv hd fun j x d e1 e2 => by
    obtain ⟨d', e3, p⟩ := dpa_get hd e1
    rw [e2] at e3
    cases e3
    exact p).mono fun u d ⟨x, rx, px⟩ => Dp.reads I d x u px rx
  have ee : PySem.W.EachIs (fun u d => ∃ x, RelV x u ∧ ∀ G, DpAll X.K G xs ds → Dp X.K G x d) its ds := each_of rv hd fun j x d e1 e2 G hG => by
    obtain ⟨d', e3, p⟩ := dpa_get hG e1
    rw [e2] at e3
    cases e3
    exact p
  have er2 : PySem.W.EachIs (fun u d => ∃ as, Reads (PySem.W.sortingHeap (PySem.W.copyHeap s.heap its) (s.heap.objs.size + 1) its) u d as) its ds := er.mono fun _ _ w => ⟨w.choose, PyProof.Rows.Reads.keeps (fun _ _ => PySem.W.sorting_copy_old) w.choose_spec⟩
  have hk : PySem.W.EachIs (fun u d => (rowKind (PySem.W.sortingHeap (PySem.W.copyHeap s.heap its) (s.heap.objs.size + 1) its) ds).keyOf u = some (PySem.W.keyToks (hdD d))) its ds := (PySem.W.each_mem er2).mono fun _ _ w => rowKind_some ok w.2 w.1.choose_spec
  have hl : its.length = ds.length := er.length
  refine run (κ := rowKind (PySem.W.sortingHeap (PySem.W.copyHeap s.heap its) (s.heap.objs.size + 1) its) ds) (row_sorts (s := { s with heap := PySem.W.sortingHeap (PySem.W.copyHeap s.heap its) (s.heap.objs.size + 1) its }) er2 ok ?_) (by rw [← rv.length]; exact hz) ?_
  · show X.A.units + 1 + 1 < cLine
    omega
  · have es := PySem.W.sortVals_each (rev := false) (κ := rowKind (PySem.W.sortingHeap (PySem.W.copyHeap s.heap its) (s.heap.objs.size + 1) its) ds) (fun d => PySem.W.keyToks (hdD d)) ee hk
    obtain ⟨ys, y1, y2⟩ := each_back es
    obtain ⟨n, hn⟩ := sortedAll_at s.heap its (PySem.W.sortVals (rowKind (PySem.W.sortingHeap (PySem.W.copyHeap s.heap its) (s.heap.objs.size + 1) its) ds) false its its).toArray
    refine ⟨.ref (s.heap.objs.size + 1), upd H (s.heap.objs.size + 1) (.lst ys), I.laid (t' := s.toks) (fun _ _ => sortedAll_old) (Nat.le_succ _) ⟨?_, _, n, y1, ?_⟩, rfl, q ys _ (fun G hG => pair_dpa (fun x d p => p G hG) y2) (I.hok.fresh (Nat.le_succ _))⟩
    · have z1 := y1.length
      have z2 := es.length
      rw [z1, z2, List.length_mergeSort, ← hl, ← rv.length]
      exact hz
    · exact hn
section
variable {X : Cx} {C : Ct} {a b e : Expr} {pos p : Pos} {t ta tb : TE} {w wa wb : WE}
def gSrtR : PyData → Dt → (List PyData → Dt → Prop) → Prop := fun d s Q => seqd d = true ∧ RowsOk (its d) ∧ Q (srtR (its d)) s
theorem r1_srtR : R1O C (rSrtR C.K) gSrtR := ⟨fun G σ H s x d Q Q' r pk q k => by
  obtain ⟨hs, ok, q⟩ := q
  obtain ⟨p, xs, rfl, h1, h2⟩ := pk.seq r.fin.gh hs
  exact ⟨isT d, p, xs, its d, rfl, h1, dpa_ex r.fin.gh h2, ok, fun ys l hy hl => k ys _ l q (hy G h2) hl⟩⟩
theorem do_srtR (hK : X.K = C.K) (hu : X.A.units + 64 < cLine) (hg : Gl X "sorted") (hm : X.mg "sorted" = none) (ha : DP X C a ta wa) (hs : starEach [a] X.env = (false, eval a X.env) :: starEach [] X.env := by rfl) :
    DO X C (.Call (.Name "sorted" p) [a] [] pos) (tCB (rSrtR C.K) (tCons ta tNil)) (w1O gSrtR wa) := do_b1 (hK ▸ cr_srtR hu) r1_srtR hg hm (by decide +kernel) ha (by decide) (by decide) hs
theorem srtR_perm (ds : List PyData) : (srtR ds).Perm ds := List.mergeSort_perm ds hdLe
/-- d < e, tuples of an int and a text -/
def PairD (d : PyData) : Prop := ∃ i z, d = .tuple [.int i, .str z]
def rLtP (K : PySem.W.Frag) : R2 := fun x y H Q => ∃ d e, Dp K H x d ∧ Dp K H y e ∧ PairD d ∧ PairD e ∧ Q (.bl (PySem.W.dataLt d e)) H
theorem op_ltP (hu : X.A.units + 64 < cLine) : OpR X (compareOp .Lt) (rLtP X.K) := by
  intro pins s σ H x y v u Q I rx ry h
  obtain ⟨d, e, hd, he, ⟨i, z, rfl⟩, ⟨j, q, rfl⟩, k⟩ := h
  obtain ⟨as, r1⟩ := Dp.reads I _ x v hd rx
  obtain ⟨bs, r2⟩ := Dp.reads I _ y u he ry
  exact PySem.W.lt_data r1 r2 rfl (by intro z; cases z) (by simp [PyData.depth, PyData.depthAll]; omega) ⟨.bl _, H, I, rfl, k⟩
def gLtP : G2 := fun d e s Q => PairD d ∧ PairD e ∧ Q (.bool (PySem.W.dataLt d e)) s
theorem o_ltP (hK : X.K = C.K) (hu : X.A.units + 64 < cLine) : OpD X C (compareOp .Lt) (rLtP C.K) gLtP := ⟨hK ▸ op_ltP hu, ⟨fun G σ H s x y d e Q Q' r p1 p2 q k => ⟨d, e, p1.dp r.fin.gh, p2.dp r.fin.gh, q.1, q.2.1, k _ _ s G H q.2.2 r (Ex.refl G) Gs.refl (.bl _)⟩⟩⟩
end
end Dw

namespace Gx
open PySem PySem.Spec PyProof.Rows L2
/-! ### an own exception class with an __init__, over any built-in one -/
structure XC (K : PySem.W.Frag) (C : Addr) (B newId initId : String) (bmB : List Value) : Prop where
  fb : ExcBaseFacts B newId initId bmB
  sf : StoreFacts B bmB "object.__setattr__" "object"
  ini : PySem.W.excInitIn K C bmB newId = true
  ovr : PySem.W.excOver K C bmB = true
  dct : PySem.W.hasDictIn K C = true
  sa : PySem.W.findIn K (.ref C) "__setattr__" = some (some (.builtin "object.__setattr__"))
  ga : PySem.W.findIn K (.ref C) "__getattribute__" = some (some (.builtin "BaseException.__getattribute__"))
  gg : PySem.W.findIn K (.ref C) "__getattr__" = some none
  sub : PySem.W.subIn K (.ref C) (.type "BaseException") = some true
  cls : PySem.W.findIn K (.ref C) "__class__" = some (some (.builtin "object.__class__"))
  kp : PySem.W.keepIn K (.ref C) = true
  cin : (PySem.W.clsIn K C).isSome = true
  mro : PySem.W.mroIn K C (.type "object") = some true
  spc : PySem.W.specialIn K (.builtin "object.__class__") "__get__" = some (some (.builtin "getset_descriptor.__get__"))
  tks : PySem.W.takesIn K (.builtin "object.__class__") = some true
section
variable {prog : Program} {w : World} {A : Around} {E : Value → Shared → Prop} {s : Shared} {K : PySem.W.Frag} {C x t : Addr} {B newId initId : String} {bmB : List Value}
/-- x.name = v, the first field -/
theorem osaG {name : Str} {tk : Tok} {v : Value} {R : Result → Shared → Prop} (T : XC K C B newId initId bmB) (ok : K.In s.heap) (hx : s.heap.get? x = some (PySem.W.excObj C t none .none)) (ht : PySem.W.takerIn K C name = some none)
    (hq : ∀ h' tk' dx, (∀ b o, b ≠ x → s.heap.get? b = some o → h'.get? b = some o) → s.heap.objs.size ≤ dx → dx ≠ x → h'.get? x = some (PySem.W.excObj C t (some dx) .none) →
      h'.Ns1 dx (fun y => if y = name then some v else none) → R (.ok (.ret .none)) { s with heap := h', toks := tk' }) :
    codeAny (model prog w) A (.call (.builtin "object.__setattr__") ⟨[.ref x, .str name tk, v], []⟩) R s := by
  obtain ⟨cd, c1, c2⟩ := PySem.W.any_some T.dct
  have hlt := Heap.lt_size hx
  refine PySem.W.osa_openX (od := none) T.sf ok ⟨hx, rfl, rfl, trivial⟩ T.ovr ht fun bb => ?_
  refine wpAny_bind (wpAny_pure (wpAny_bind (PySem.W.instanceDict_exc hx (PySem.W.looks_clsIn ok c1) c2 ?_)))
  obtain ⟨hp, g, dr, tk0, os⟩ := s
  show wpAny _ _ (Builtin.ObjectAttr.storeInDict hp.objs.size (.str name tk) name v) _ _ _
  refine HandSPX.store_in_new ⟨_, #[], _, (Heap.get?_update_ne _ _ _ _ (Nat.ne_of_gt hlt)).trans (Heap.get?_push_at rfl rfl), rfl, fun e he => absurd he (by simp), fun _ => rfl⟩ fun h1 tk1 ns sb => ?_
  have up : (hp.push (PySem.W.dictOf [] 0)).get? x = some (PySem.W.excObj C t none .none) := Heap.get?_push_of_some _ hx
  refine hq h1 tk1 hp.objs.size (fun b o nb hb => ?_) (Nat.le_refl _) (Nat.ne_of_gt hlt) ?_ ns
  · rw [sb.2 b (Nat.ne_of_lt (Heap.lt_size hb)), Heap.get?_update_ne _ _ _ _ nb]
    exact Heap.get?_push_of_some _ hb
  · rw [sb.2 x (Nat.ne_of_lt hlt)]
    exact Heap.get?_update_self _ up rfl
end
section
variable {X : Cx} {pins : List (Addr × Obj)} {σ : L2.St} {H : Hp} {s : Shared} {a C dx : Addr} {f : Str} {y : V} {u : Value} {A : Around} {E : Value → Shared → Prop} {B newId initId : String} {bmB : List Value}
/-- the same over the tracked heap -/
theorem storeG {Q : Unit → Shared → Prop} (T : XC X.K C B newId initId bmB) (I : Inv X pins σ H s) (he : H a = some (exo a C none)) (ht : PySem.W.takerIn X.K C f = some none) (ry : RelV y u)
    (h : ∀ dx s', H dx = none → dx ≠ a → Inv X pins σ (upd (upd H dx (exd dx [(f, y)])) a (exo a C (some dx))) s' → Q () s') : wpAny (model X.prog X.w) A (setAttr (.ref a) f u) Q E s := by
  obtain ⟨t1, ho⟩ := exo_at I.hok he
  refine PySem.W.set_plain I.kIn (od := none) ⟨ho, rfl, rfl, trivial⟩ T.sa ?_
  refine osaG (s := { s with toks := s.toks + 1 }) (t := t1) T I.kIn ho ht fun h1 tk1 dx kk sz nx hx ns => ?_
  have free : H dx = none := I.hok.fresh sz
  have young : ∀ {b : Addr} {o : Obj}, s.heap.get? b = some o → b ≠ dx := fun {b o} z e => by
    rw [e] at z
    exact absurd (Heap.lt_size z) (Nat.not_lt.mpr sz)
  have nota : ∀ {b : Addr}, H b = none → b ≠ a := fun {b} n z => by
    rw [z, he] at n
    cases n
  have far : ∀ {b : Addr} {o : HO}, H b = some o → o ≠ exo a C none → upd (upd H dx (exd dx [(f, y)])) a (exo a C (some dx)) b = some o := fun {b o} z ne => by
    have b1 : b ≠ a := fun z1 => by
      rw [z1, he] at z
      exact ne (Option.some.inj z).symm
    have b2 : b ≠ dx := fun z1 => by
      rw [z1, free] at z
      cases z
    rw [upd_ne b1, upd_ne b2]
    exact z
  have un : Un X.fs [] H (upd (upd H dx (exd dx [(f, y)])) a (exo a C (some dx))) s.heap h1 := by
    refine ⟨fun b o z n _ _ => kk b o (nota n) z, fun b o z n _ _ => ⟨o.slots, kk b o (nota n) z⟩, fun b o z n _ => ?_, fun b o z _ => ?_, fun b xs z => far z fun e => exo_tup e.symm, fun b o v z => far z fun e => exo_frz e.symm, fun b ps z => ⟨#[], ?_⟩⟩
    · rw [upd_ne (nota n), upd_ne (young z)]
      exact n
    · by_cases ab : b = a
      · exact ⟨_, ab ▸ hx⟩
      · exact ⟨o, kk b o ab z⟩
    · rw [far z fun e => exo_tbl e.symm, Array.append_empty]
  refine h dx _ free nx (I.un (t' := tk1) un fun b o z => ?_)
  by_cases ab : b = a
  · rw [ab, upd_same] at z
    cases z
    rw [ab]
    exact exo_ok hx
  · rw [upd_ne ab] at z
    by_cases bd : b = dx
    · rw [bd, upd_same] at z
      cases z
      rw [bd]
      exact exd_ok ns (relO_put (fs := []) ry fun _ => trivial)
    · rw [upd_ne bd] at z
      refine (I.hok b o z).stay (fun c v hc zz => kk c v ?_ zz) (fun c hc => far hc fun e => exo_own e.symm) fun c xs hc => far hc fun e => exo_tup e.symm
      rcases hc with hc | hc
      · exact hc ▸ ab
      · exact fun z1 => by
          rw [z1, he] at hc
          exact exo_own (Option.some.inj hc)
end
section
variable {X : Cx} {o e : Expr} {es : List Expr} {to te : TE} {ta : TA} {f : Str} {p p' pos : Pos} {C : Addr} {B newId initId : String} {bmB : List Value}
/-- self.f = e, as the first and only field -/
def tFld (C : Addr) (f : Str) (to te : TE) : TS := fun D σ H => te σ H fun y H1 => to σ H1 fun x H2 => ∃ a : Addr, x = .ref a ∧ H2 a = some (exo a C none) ∧ ∀ dx, H2 dx = none → dx ≠ a → D.nx σ (upd (upd H2 dx (exd dx [(f, y)])) a (exo a C (some dx)))
theorem ps_fld (T : XC X.K C B newId initId bmB) (ht : PySem.W.takerIn X.K C f = some none) (ho : PE X o to) (he : PE X e te) (hs : swapsWith e (some (.Attribute o f p')) pos.line X.env = pure false := by rfl) : PS X (.Assign [.Attribute o f p'] e pos) (tFld C f to te) := by
  refine ⟨fun pins s σ H D I h => plainObj_wpAny_Assign_Attribute (thn (he.run pins s σ H _ I h) fun v s1 g1 => ?_) hs⟩
  obtain ⟨y, H1, I1, ry, q1⟩ := g1
  refine thn (ho.run pins s1 σ H1 _ I1 q1) fun u s2 g2 => ?_
  obtain ⟨x, H2, I2, rx, a, e1, ha, q⟩ := g2
  subst e1
  cases (show u = Value.ref a from rx)
  exact storeG T I2 ha ht ry fun dx s3 n ne J => ⟨σ, _, J, q dx n ne⟩
end
end Gx

namespace PySem.GxK
open PySem.W PySem.Calls PyProof.Rows
/-! ### C(f=v): the class called with one name -/
section
variable {prog : Program} {w : World} {M : Model} {A : Around} {E : Value → Shared → Prop} {R : Result → Shared → Prop} {h : Heap} {g : Array GenState} {d : Drawn} {t : Nat} {os : OsState}
variable {nm q n : Str} {C N : Addr} {bs bm bmB : List Value} {hdct : Bool} {sn : List Str} {sub : List Value} {ab : Bool} {col : Option Bool} {dd : Option Addr} {k0 k1 k2 k3 k5 : Option Value} {B newId initId : String} {v : Value}
theorem kw_chkT {Q : Unit → Shared → Prop} (hC : h.get? C = some (excClassObj nm q C N bs bm hdct sn sub ab col dd k0 k1 k2 k3 k5 newId)) (hq : Q () ⟨h, g, d, t, os⟩) :
    wpAny M A (checkBuiltinCall "type.__call__" ⟨[.ref C], [(n, v)]⟩) Q E ⟨h, g, d, t, os⟩ := by
  have sb := tc_sub
  have ty : (⟨h, g, d, t, os⟩ : Shared).TypeIs (.ref C) "type" := ⟨_, hC, rfl⟩
  simp only [checkBuiltinCall, tc_kind, tc_split]
  repeat (any_goals (first | assumption | with_reducible refine wpAny_loadPart_at hC ?_ | with_reducible refine wpAny_onRaise ?_ | with_reducible refine wpAny_map ?_ | wp_step))
theorem kw_chkN (F : ExcBaseFacts B newId initId bmB) (hT : ∀ X : String, bm.contains (.type X) = bmB.contains (.type X)) {Q : Unit → Shared → Prop}
    (hC : h.get? C = some (excClassObj nm q C N bs bm hdct sn sub ab col dd k0 k1 k2 k3 k5 newId)) (hq : Q () ⟨h, g, d, t, os⟩) : wpAny M A (checkBuiltinCall newId ⟨[.ref C], [(n, v)]⟩) Q E ⟨h, g, d, t, os⟩ := by
  have inB : (Value.ref C :: bm).contains (.type B) = true := by rw [List.contains_cons, hT, F.hasB, Bool.or_true]
  have ns := F.noStar
  simp only [checkBuiltinCall, F.newKind, F.newSplit, F.newRow]
  repeat (first | refine wpAny_loadPart_at hC ?_ | (refine wpAny_isSubtype_exc hC ?_; rw [inB]) | refine wpAny_staticBase_exc hC ?_ | refine wpAny_madeBy_exc hC ?_ | simp only [bne_self_eq_false, Bool.false_eq_true, if_false] | wp_step)
  exact hq
theorem kw_new (F : ExcBaseFacts B newId initId bmB) (hT : ∀ X : String, bm.contains (.type X) = bmB.contains (.type X))
    (hC : h.get? C = some (excClassObj nm q C N bs bm hdct sn sub ab col dd k0 k1 k2 k3 k5 newId))
    (hq : R (.ok (.ret (.ref (h.objs.size + 1)))) ⟨(h.push (PySem.W.kdv_tup [])).push (HandSPX.excO C h.objs.size), g, d, t, os⟩) :
    codeAny (model prog w) A (.builtin newId ⟨[.ref C], [(n, v)]⟩) R ⟨h, g, d, t, os⟩ := by
  have fin := F.ends
  have c1 : (Value.ref C :: bm).contains (.type B) = true := by rw [List.contains_cons, hT, F.hasB, Bool.or_true]
  have c2 : (Value.ref C :: bm).contains (.type "AttributeError") = false := by rw [List.contains_cons, hT, F.noAttr]; rfl
  have c3 : (Value.ref C :: bm).contains (.type "NameError") = false := by rw [List.contains_cons, hT, F.noName]; rfl
  refine codeAny_builtinAt F.entry ?_
  unfold Builtin.«BaseException.__new__»
  refine wpAt_bind ?_
  show wpAt _ _ _ (stack >>= _) _ _ _
  refine wpAt_bind (wpAt_stack fun p below => wpAt_of_wpAny ?_)
  wp_walk
  refine wpAt_of_wpAny ?_
  rw [F.owner]
  repeat (first | with_reducible refine wpAny_madeHere_exc F.canon hC ?_ | with_reducible refine wpAny_loadPart_at hC ?_ | (with_reducible refine wpAny_isSubtype_exc hC ?_; first | rw [c1] | rw [c2] | rw [c3]) | wp_step)
  show R _ _
  rw [Heap.size_push]
  exact hq
theorem kw_call (F : ExcBaseFacts B newId initId bmB) (hT : ∀ X : String, bm.contains (.type X) = bmB.contains (.type X)) {fI : Addr}
    (hC : h.get? C = some (excClassObj nm q C N bs bm hdct sn sub ab col dd k0 k1 k2 k3 k5 newId))
    (hi : PySem.W.Looks (model prog w) h (typeLookup (.ref C) "__init__") (some (.ref fI))) (hb : ∀ self, PySem.W.Looks (model prog w) h (bindSpecial (.ref fI) self) (.ref fI, [self]))
    (hq : codeAny (model prog w) (A.under (.builtin "type.__call__" ⟨[.ref C], [(n, v)]⟩)) (.call (.ref fI) ⟨[.ref (h.objs.size + 1)], [(n, v)]⟩) (PySem.W.InitBack (h.objs.size + 1) R)
      ⟨(h.push (PySem.W.kdv_tup [])).push (HandSPX.excO C h.objs.size), g, d, t, os⟩) :
    codeAny (model prog w) A (.call (.ref C) ⟨[], [(n, v)]⟩) R ⟨h, g, d, t, os⟩ := by
  have g1 := tc_lookup
  have g2 := tc_bind (.ref C)
  have ty : (⟨h, g, d, t, os⟩ : Shared).TypeIs (.ref C) "type" := ⟨_, hC, rfl⟩
  refine codeAny_of_tree ?_
  show wpAny _ _ (callAny (.ref C) _) _ _ _
  repeat (any_goals (first | assumption | with_reducible refine wpAny_loadPart_at hC ?_ | wp_step))
  refine ⟨rfl, ?_⟩
  refine codeAny_call_builtin_at (Code.quiet_builtin _ (by decide +kernel)) entry_typeCall (kw_chkT hC ?_)
  repeat (first | with_reducible refine wpAny_loadPart_at hC ?_ | with_reducible refine wpAny_madeBy_exc hC ?_ | wp_step)
  refine codeAny_call_builtin_code (Code.quiet_builtin _ F.quiet) (kw_chkN F hT hC ?_)
  refine kw_new F hT hC ?_
  show wpAny _ _ _ _ _ _
  have up : ∀ b o, h.get? b = some o → ((h.push (PySem.W.kdv_tup [])).push (HandSPX.excO C h.objs.size)).get? b = some o := fun b o e => Heap.get?_push_of_some _ (Heap.get?_push_of_some _ e)
  have hC1 := up _ _ hC
  have hnew : ((h.push (PySem.W.kdv_tup [])).push (HandSPX.excO C h.objs.size)).get? (h.objs.size + 1) = some (HandSPX.excO C h.objs.size) := by heap_get
  have own : (Value.ref C :: bm).contains (.ref C) = true := by simp
  have i1 := hi.keeps up
  have b1 := (hb (.ref (h.objs.size + 1))).keeps up
  unfold isInstance
  repeat (first | with_reducible refine wpAny_loadPart_at hnew ?_ | (with_reducible refine wpAny_isSubtype_exc hC1 ?_; rw [own]) | wp_step)
  show wpAny _ _ (typeLookup (.ref C) _) _ _ _
  refine i1.at (wpAny_holding (wpAny_bind (b1.at (wpAny_bind (wpAny_call (codeAny_mono hq fun r s' z => ?_))))))
  rcases r with e | (u | _ | _ | _) <;> first | exact z | exact z.elim | skip
  obtain ⟨rfl, z⟩ := z
  first
    | exact wpAny_pure (wpAny_pure z)
    | (wp_walk; exact z)
end
end PySem.GxK

namespace Gx
open PySem PySem.Spec PyProof.Rows L2
def XCx (K : PySem.W.Frag) (C : Addr) : Prop := ∃ B n i bm, XC K C B n i bm
/-- at a: an exception of the class at C, with the fields fs -/
def XAt (H : Hp) (a C : Addr) (fs : List (Str × V)) : Prop := ∃ d, H a = some (exo a C (some d)) ∧ H d = some (exd d fs)
theorem XAt.mono {H H' : Hp} {a C : Addr} {fs : List (Str × V)} (h : XAt H a C fs) (e : ∀ b o, H b = some o → H' b = some o) : XAt H' a C fs := by
  obtain ⟨d, h1, h2⟩ := h
  exact ⟨d, e _ _ h1, e _ _ h2⟩
section
variable {X : Cx} {pins : List (Addr × Obj)} {σ : L2.St} {H : Hp} {s : Shared} {a C : Addr} {fs : List (Str × V)}
theorem xat_inst (I : Inv X pins σ H s) (h : XAt H a C fs) : ∃ ox od, PySem.W.InstAt s.heap a ox C (some od) ∧ ∀ f, RelO (fs.lookup f) ((PySem.W.lookIn f od).getD none) ∧ (PySem.W.lookIn f od).isSome = true := by
  obtain ⟨d, h1, h2⟩ := h
  obtain ⟨t1, ho⟩ := exo_at I.hok h1
  obtain ⟨mA, hns, rel⟩ := exd_at I.hok h2
  obtain ⟨od, hod, hl⟩ := lookIn_ns hns
  exact ⟨_, od, ⟨ho, rfl, rfl, hod⟩, fun f => ⟨by rw [hl]; exact rel f, by rw [hl]; rfl⟩⟩
end
section
variable {X : Cx} {o e : Expr} {es : List Expr} {to te : TE} {ta : TA} {f n : Str} {p p' pos : Pos}
/-- e.f -/
@[irreducible] def tGet (K : PySem.W.Frag) (n : Str) (te : TE) : TE := fun σ H Q => te σ H fun x H1 => ∃ a C fs v, x = .ref a ∧ XAt H1 a C fs ∧ XCx K C ∧ PySem.W.findIn K (.ref C) n = some none ∧ fs.lookup n = some v ∧ Q v H1
theorem pe_get (he : PE X e te) (hb : attributeBase e n X.env (eval e X.env) = eval e X.env := by rfl) : PE X (.Attribute e n pos) (tGet X.K n te) := by
  refine ⟨fun pins s σ H Q I h => ?_⟩
  unfold tGet at h
  refine attr_of hb (thn (he.run pins s σ H _ I h) fun u s1 g => ?_)
  obtain ⟨x, H1, I1, rx, a, C, fs, v, ex, ha, ⟨B, nn, ii, bm, T⟩, hno, l, q⟩ := g
  subst ex
  cases (show u = Value.ref a from rx)
  obtain ⟨ox, od, J, hl⟩ := xat_inst I1 ha
  obtain ⟨r1, r2⟩ := hl n
  rw [l] at r1
  obtain ⟨z, hz⟩ := Option.isSome_iff_exists.mp r2
  rw [hz] at r1
  obtain ⟨u2, hu, ru⟩ := RelO.some_of r1
  have hz2 : z = some u2 := hu
  subst hz2
  exact HandSPX.exc_get I1.kIn J T.ga T.gg T.sub (PySem.W.findObj_own T.dct hno rfl hz) (handed_of ru) ⟨v, H1, I1.tok _, ru, q⟩
end
section
variable {X : Cx}
/-- isinstance(e, c) -/
def rIsX (K : PySem.W.Frag) : List V → Hp → VK → Prop := fun xs H Q => ∃ (a C : Addr) (fs : List (Str × V)) (c : V) (cv : Value) (b : Bool), xs = [.ref a, c] ∧ XAt H a C fs ∧ XCx K C ∧ (∀ u, RelV c u → u = cv) ∧ PySem.W.kitOne K (.ref C) cv = some b ∧ Q (.bl b) H
theorem call_isX : CallR X (.builtin "isinstance") (rIsX X.K) := by
  intro pins s σ H xs us Q I r h
  obtain ⟨a, C, fs, c, cv, b, rfl, ha, ⟨B, n, i, bm, T⟩, hcv, e, q⟩ := h
  cases r with
  | cons rx rr =>
    cases rr with
    | cons rt rr =>
      cases rr
      cases rx
      have ec := hcv _ rt
      subst ec
      obtain ⟨ox, od, J, _⟩ := xat_inst I ha
      exact PySem.W.kia_one (PySem.W.kitx_exc T.cin T.ga T.gg T.sub T.cls T.spc T.tks T.mro) I.kIn J e (fun z => nomatch z) fun tk => ⟨.bl b, H, I.kept (t' := tk) fun _ _ z => z, rfl, q⟩
/-- isinstance(e, (c, ..)) -/
def rIsXT (K : PySem.W.Frag) : List V → Hp → VK → Prop := fun xs H Q => ∃ (a C tp : Addr) (fs : List (Str × V)) (cs : List V) (cvs : List Value) (b : Bool), xs = [.ref a, .ref tp] ∧ XAt H a C fs ∧ XCx K C ∧ H tp = some (.tup cs) ∧ (∀ us, Vals cs us → us = cvs) ∧ PySem.W.kitAny K (.ref C) cvs = some b ∧ Q (.bl b) H
theorem call_isXT : CallR X (.builtin "isinstance") (rIsXT X.K) := by
  intro pins s σ H xs us Q I r h
  obtain ⟨a, C, tp, fs, cs, cvs, b, rfl, ha, ⟨B, n, i, bm, T⟩, ht, hcv, e, q⟩ := h
  cases r with
  | cons rx rr =>
    cases rr with
    | cons rt rr =>
      cases rr
      cases rx
      cases rt
      obtain ⟨ox, od, J, _⟩ := xat_inst I ha
      obtain ⟨_, its2, r2, ob, ho, hc, nn, hd⟩ := I.hok _ _ ht
      have e2 := hcv _ r2
      subst e2
      obtain ⟨c1, c2, c3, c4⟩ := ob
      dsimp only at hc hd
      subst hc hd
      exact PySem.W.kia_tup (PySem.W.kitx_exc T.cin T.ga T.gg T.sub T.cls T.spc T.tks T.mro) I.kIn J ho e (fun z => nomatch z) fun tk => ⟨.bl b, H, I.kept (t' := tk) fun _ _ z => z, rfl, q⟩
end
/-! ### making one -/
section
variable {X : Cx} {e : Expr} {es : List Expr} {ta : TA} {p pos : Pos} {x : Str} {C fI : Addr} {k : Nat} {fd : FuncData} {ps : List Str} {sp : Sp} {B newId initId : String} {bmB : List Value}
@[irreducible] def tMk (C : Addr) (sp : Sp) (ta : TA) : TE := fun σ H Q => ta σ H fun vs H1 => vs.length ≤ 1000 ∧ ∀ a, H1 a = none → sp (.ref a :: vs) (upd H1 a (exo a C none)) (fun v H2 => v = .non ∧ Q (.ref a) H2) E0
theorem pe_mk (T : XC X.K C B newId initId bmB) (iC : PySem.W.findIn X.K (.ref C) "__init__" = some (some (.ref fI))) (tI : PySem.W.typeIn X.K (.ref fI) = some (.type "function")) (F1 : FnOk X.prog X.w X.K X.mg X.base CX0 k fI fd ps sp) (hr : Room (k + 1) X.A) (hb : Binds X.K fd ps [])
    (hg : Gl X x) (hm : X.mg x = some (.ref C)) (ha : PA X (e :: es) ta) (hdb : (x == ("__debug__" : Str)) = false := by decide) (he : starEach (e :: es) X.env = (false, eval e X.env) :: starEach es X.env := by rfl) (hpl : (backTo pos (starEach es X.env)).any (·.1) = false := by rfl) :
    PE X (.Call (.Name x p) (e :: es) [] pos) (tMk C sp ta) := by
  refine ⟨fun pins s σ H Q I h => wpAny_Call_Name_kw (ld_glob I hg hm ?_ hdb)⟩
  unfold tMk at h
  refine PySem.W.callWith_K (h₀ := X.base) I.ok.mod.kin T.kp (thn (ha.run pos pins s σ H _ I h) fun us s1 g => ?_) he hpl
  obtain ⟨vs, H1, I1, r1, hz, q1⟩ := g
  refine ⟨I1.kIn, ?_⟩
  show wpAny _ _ (call (.ref C) us) _ _ _
  obtain ⟨nm, N, qn, bs, bm, hdct, sn, sub, ab, col, dd, k0, k1, k2, k3, k5, hC, hT⟩ := PySem.W.excInit_of I1.kIn T.ini
  obtain ⟨hp, g, dr, tk, os⟩ := s1
  have sz : hp.objs.size ≤ hp.objs.size + 1 := Nat.le_succ _
  have fr : H1 (hp.objs.size + 1) = none := I1.hok.fresh sz
  have q2 := q1 (hp.objs.size + 1) fr
  have up : ∀ b o, hp.get? b = some o → ((hp.push (PySem.W.kdv_tup us)).push (HandSPX.excO C hp.objs.size)).get? b = some o := fun b o z => Heap.get?_push_of_some _ (Heap.get?_push_of_some _ z)
  have new : ((hp.push (PySem.W.kdv_tup us)).push (HandSPX.excO C hp.objs.size)).get? (hp.objs.size + 1) = some (HandSPX.excO C hp.objs.size) := by heap_get
  have I2 : Inv X pins σ (upd H1 (hp.objs.size + 1) (exo (hp.objs.size + 1) C none)) ⟨(hp.push (PySem.W.kdv_tup us)).push (HandSPX.excO C hp.objs.size), g, dr, tk, os⟩ :=
    I1.laid (t' := tk) (a := hp.objs.size + 1) (o := exo (hp.objs.size + 1) C none) (h' := (hp.push (PySem.W.kdv_tup us)).push (HandSPX.excO C hp.objs.size)) up sz (exo_ok new)
  have r2 : Vals (V.ref (hp.objs.size + 1) :: vs) (Value.ref (hp.objs.size + 1) :: us) := .cons rfl r1
  have hl : (Value.ref (hp.objs.size + 1) :: us).length = ps.length := by rw [← r2.length, F1.len _ _ _ _ q2]
  have hus : us.length ≤ sizeLine := by
    rw [← r1.length, sizeLine_eq]
    omega
  have hbb := hb ⟨(hp.push (PySem.W.kdv_tup us)).push (HandSPX.excO C hp.objs.size), g, dr, tk, os⟩ (Value.ref (hp.objs.size + 1) :: us) I2.kIn (by rw [List.append_nil]; exact hl)
  rw [List.append_nil] at hbb
  refine wpAny_call (HandSPX.call_own T.fb hT hC (PySem.W.looks_findIn I1.kIn iC) (fun self => PySem.W.bind_fn I1.kIn self tI) hus
    (codeAny_mono (F1.run _ X.stack _ _ _ _ _ _ E0 (hr.make C us []) (I2.env0.make C us []) hbb r2 q2) fun r s' w => ?_))
  rcases r with er | (_ | _ | _ | u)
  case ok.ret =>
    obtain ⟨v, H2, J, rv, ev, q3⟩ := I2.after w
    subst ev
    exact ⟨rv, .ref (hp.objs.size + 1), H2, J, rfl, q3⟩
  all_goals exact False.elim w
/-- C(f=e) -/
theorem pe_mkK {n : Str} {te : TE} {kpos : Pos} (T : XC X.K C B newId initId bmB) (iC : PySem.W.findIn X.K (.ref C) "__init__" = some (some (.ref fI))) (tI : PySem.W.typeIn X.K (.ref fI) = some (.type "function")) (F1 : FnOk X.prog X.w X.K X.mg X.base CX0 k fI fd ps sp) (hr : Room (k + 1) X.A)
    (hb : ∀ (s : Shared) (a u : Value), BindsTo s fd ⟨[a], [(n, u)]⟩ (ps.zip [a, u])) (hg : Gl X x) (hm : X.mg x = some (.ref C)) (he : PE X e te) (hn2 : ps.length = 2 := by rfl) (hdb : (x == ("__debug__" : Str)) = false := by decide)
    (hall : (backToKw pos (keywordEach [⟨some n, e, kpos⟩] X.env)).all (·.1.isSome) = true := by rfl) (hks : (backToKw pos (keywordEach [⟨some n, e, kpos⟩] X.env)).filterMap (·.1) = [n] := by rfl)
    (hpl : ((backTo pos (starEach [] X.env)).any (·.1) || (backToKw pos (keywordEach [⟨some n, e, kpos⟩] X.env)).any (·.1.isNone)) = false := by rfl) :
    PE X (.Call (.Name x p) [] [⟨some n, e, kpos⟩] pos) (tMk C sp (tCons te tNil)) := by
  refine ⟨fun pins s σ H Q I h => wpAny_Call_Name_kw (ld_glob I hg hm ?_ hdb)⟩
  unfold tMk at h
  refine PySem.W.callWith_KW0 (h₀ := X.base) I.ok.mod.kin T.kp hall (thn ((pk_cons (nm := some n) (kpos := kpos) he pk_nil).run pos pins s σ H _ I h) fun us s1 g => ?_) hpl
  obtain ⟨vs, H1, I1, r1, hz, q1⟩ := g
  refine ⟨I1.kIn, ?_⟩
  rw [hks]
  obtain ⟨nm, N, qn, bs, bm, hdct, sn, sub, ab, col, dd, k0, k1, k2, k3, k5, hC, hT⟩ := PySem.W.excInit_of I1.kIn T.ini
  obtain ⟨hp, g, dr, tk, os⟩ := s1
  have sz : hp.objs.size ≤ hp.objs.size + 1 := Nat.le_succ _
  have fr : H1 (hp.objs.size + 1) = none := I1.hok.fresh sz
  have q2 := q1 (hp.objs.size + 1) fr
  have hl := F1.len _ _ _ _ q2
  have hp2 : ps.length = 2 → ∃ v u, vs = [v] ∧ us = [u] ∧ RelV v u := fun e2 => by
    rw [e2] at hl
    cases r1 with
    | nil => simp at hl
    | cons r rr =>
      cases rr with
      | nil => exact ⟨_, _, rfl, rfl, r⟩
      | cons _ _ => simp at hl
  obtain ⟨v, u, rfl, rfl, ru⟩ := hp2 hn2
  have up : ∀ b o, hp.get? b = some o → ((hp.push (PySem.W.kdv_tup [])).push (HandSPX.excO C hp.objs.size)).get? b = some o := fun b o z => Heap.get?_push_of_some _ (Heap.get?_push_of_some _ z)
  have new : ((hp.push (PySem.W.kdv_tup [])).push (HandSPX.excO C hp.objs.size)).get? (hp.objs.size + 1) = some (HandSPX.excO C hp.objs.size) := by heap_get
  have I2 : Inv X pins σ (upd H1 (hp.objs.size + 1) (exo (hp.objs.size + 1) C none)) ⟨(hp.push (PySem.W.kdv_tup [])).push (HandSPX.excO C hp.objs.size), g, dr, tk, os⟩ :=
    I1.laid (t' := tk) (a := hp.objs.size + 1) (o := exo (hp.objs.size + 1) C none) (h' := (hp.push (PySem.W.kdv_tup [])).push (HandSPX.excO C hp.objs.size)) up sz (exo_ok new)
  have r2 : Vals [V.ref (hp.objs.size + 1), v] [Value.ref (hp.objs.size + 1), u] := .cons rfl (.cons ru .nil)
  refine wpAny_call (PySem.GxK.kw_call T.fb hT hC (PySem.W.looks_findIn I1.kIn iC) (fun self => PySem.W.bind_fn I1.kIn self tI)
    (codeAny_mono (F1.run _ X.stack _ _ _ _ _ _ E0 (hr.make C [] [(n, u)]) (I2.env0.make C [] [(n, u)]) (hb _ _ _) r2 q2) fun r s' w => ?_))
  rcases r with er | (_ | _ | _ | u)
  case ok.ret =>
    obtain ⟨v, H2, J, rv, ev, q3⟩ := I2.after w
    subst ev
    exact ⟨rv, .ref (hp.objs.size + 1), H2, J, rfl, q3⟩
  all_goals exact False.elim w
end
end Gx

namespace Gx
open PySem PySem.Spec PyProof.Rows L2
/-! ### an exception that was caught, kept as a value -/
theorem fly_keep {B h h' : Heap} {l : List Env} {e : Addr} {Z : Obj → Prop} (x : HandSPX.FlyingZ B l e Z h) (k : ∀ b o, h.get? b = some o → h'.get? b = some o) : HandSPX.FlyingZ B l e Z h' := by
  obtain ⟨f1, f2, f3, oe, vs, T, oT, ts, he, hz, hd, h1, h2, h3, h4, h5⟩ := x
  exact ⟨fun b o q => k b o (f1 b o q), f2, f3.of_keeps fun b o q _ => ⟨o, k b o q, rfl⟩, oe, vs, T, oT, ts, k _ _ he, hz, hd, h1, h2, h3, k _ _ h4, h5⟩
/-- at a: an exception of the class cls, its dict at d -/
def exg (a : Addr) (cls : Value) (d : Option Addr) : HO := .ext fun h => ∃ (oe : Obj) (vs : Array Value), h.get? a = some oe ∧ Zc cls d oe ∧ oe.data = .fields vs
theorem exg_ok {P : Program} {w : World} {H : Hp} {h : Heap} {a : Addr} {cls : Value} {d : Option Addr} {oe : Obj} {vs : Array Value} (e : h.get? a = some oe) (z : Zc cls d oe) (hd : oe.data = .fields vs) : ObjOk P w H h a (exg a cls d) :=
  ⟨⟨oe, vs, e, z, hd⟩, ⟨oe, e⟩, fun _ _ g k => by
    obtain ⟨o, v, q, r⟩ := g
    exact ⟨o, v, k o q, r⟩⟩
section
variable {X : Cx} {pins : List (Addr × Obj)} {σ : L2.St} {H : Hp} {s : Shared} {a : Addr} {cls : Value} {d : Option Addr} {oe : Obj} {vs : Array Value}
theorem track (I : Inv X pins σ H s) (ha : s.heap.get? a = some oe) (hz : Zc cls d oe) (hd : oe.data = .fields vs) (na : H a = none) (n0 : X.s_0.heap.get? a = none) (nL : a ≠ X.env.locals) (nP : ∀ p ∈ X.pn ++ pins, p.1 ≠ a) : Inv X pins σ (upd H a (exg a cls d)) s := by
  have oth : ∀ {b : Addr} {o : HO}, H b = some o → upd H a (exg a cls d) b = some o := fun {b o} e => by
    rw [upd_ne (fun z => by rw [z, na] at e; cases e)]
    exact e
  have non : ∀ {b : Addr}, b ≠ a → H b = none → upd H a (exg a cls d) b = none := fun {b} n e => by
    rw [upd_ne n]
    exact e
  refine ⟨I.ok, I.os, I.bare, ⟨I.base.keep, I.base.slot, fun b o e n hx => non (fun z => by rw [z, n0] at e; cases e) (I.base.free b o e n hx), I.base.there, fun b xs e => oth (I.base.tups b xs e), fun b o u e => oth (I.base.frzs b o u e), fun b ps e => ?_⟩, I.loc, I.cell, non (Ne.symm nL) I.free, fun x c e => non (fun z => ?_) (I.freeC x c e), fun p hp => ?_, fun b o e => ?_, I.len⟩
  · obtain ⟨m, q⟩ := I.base.tbls b ps e
    exact ⟨m, oth q⟩
  · obtain ⟨v, ob, ho, hv⟩ := I.cell x c e
    rw [z, ha] at ho
    cases ho
    rw [hd] at hv
    cases hv
  · obtain ⟨e1, e2, e3⟩ := I.pin p hp
    exact ⟨e1, non (nP p hp) e2, e3⟩
  · by_cases z : b = a
    · rw [z, upd_same] at e
      cases e
      rw [z]
      exact exg_ok ha hz hd
    · rw [upd_ne z] at e
      exact (I.hok b o e).stay (fun _ _ _ q => q) (fun c q => oth q) fun c xs q => oth q
end
/-- what 'except (..) as n: m = n' wishes of an exception of the body -/
def wKeep (K : PySem.W.Frag) (cs : List Value) (i j : Nat) (Wout : WX) (D : Ends) : WX := fun cls d σ H => ∃ b, PySem.W.exmAny K cls cs = some b ∧
  (b = true → ∀ a, H a = none → D.nx (((σ.set i (some (.ref a))).set j (some (.ref a))).set i none) (upd H a (exg a cls d))) ∧ (b = false → Wout cls d σ H)
section
variable {X : Cx} {x1 x2 x3 x4 n m : Str} {c1 c2 c3 c4 : Value} {i j : Nat} {body : List Stmt} {q1 q2 q3 q4 tp mp np ap pos pos' : Pos} {kk : Nat} {tb : WX → TS} {Wout : WX}
theorem ps_try_keep (hex : X.ex = []) (hs : X.stack = X.env :: X.outer) (hf : X.env.frame = some X.env.locals) (hN : X.N.Nodup) (hi : X.N[i]? = some n) (hln : X.env.kindOf n = some .local) (hj : X.N[j]? = some m) (hlm : X.env.kindOf m = some .local)
    (n1 : Names X x1 c1) (n2 : Names X x2 c2) (n3 : Names X x3 c3) (n4 : Names X x4 c4) (tk : Takes X Wout)
    (hb : ∀ (W : WX) (pn : List (Addr × Obj)) (xe : Value → Shared → Prop), Takes (X.tr pn xe) W → PassesOwn (model X.prog X.w) X.A X.env xe → PSs (X.tr pn xe) body (tb W))
    (hsu : ∀ (a : Addr) (oe : Obj) (pn : List (Addr × Obj)), PSs (X.suite a ((a, oe) :: pn)) [.Assign [.Name m mp] (.Name n np) ap] (tAsg (tVar i) (gName j))) :
    PS X (.Try body [.ExceptHandler (some (.Tuple [.Name x1 q1, .Name x2 q2, .Name x3 q3, .Name x4 q4] kk tp)) (some n) [.Assign [.Name m mp] (.Name n np) ap] pos'] [] [] pos) (fun D σ H => tb (wKeep X.K [c1, c2, c3, c4] i j Wout D) D σ H) := by
  refine ⟨fun pins s σ H D I h => ?_⟩
  have ok := I.ok
  have fr : X.A.frames = some (X.env :: X.outer) := by rw [ok.frames, hs]
  refine wpAny_Try_except ?_
  refine wpAny_mono ((hb (wKeep X.K [c1, c2, c3, c4] i j Wout D) (X.pn ++ pins) (fun e s1 => wpAny (model X.prog X.w) X.A (noteFrame e X.env) (fun _ s2 => wpAny (model X.prog X.w) X.A (setFlight e none) (fun _ s3 =>
    wpAny (model X.prog X.w) X.A (handleBy e X.env [.ExceptHandler (some (.Tuple [.Name x1 q1, .Name x2 q2, .Name x3 q3, .Name x4 q4] kk tp)) (some n) [.Assign [.Name m mp] (.Name n np) ap] pos']) (SP X pins D) X.xe s3) X.xe s2) X.xe s1) (fun u s' xx => ?_) PassesOwn.looking).run [] s σ H D (I.toTry _) h) (fun fl s1 hsp => ?_) (fun _ _ he => he)
  · obtain ⟨a, B, sI, pins', σ', H', cls, d, rfl, J', nb, up, sky, na, os, ag, b, hb1, yes, no⟩ := xx
    have J : Inv X pins σ' H' sI := J'.ofTry ok
    have sky1 : Sky B (X.env :: X.outer) a (Zc cls d) X.env.locals s'.heap := hs ▸ sky
    show wpAny (model X.prog X.w) X.A (noteFrame (.ref a) X.env) _ _ _
    refine Sky.land Zc.steady fr hf sky1 fun h3 fl3 up3 => ?_
    obtain ⟨oe3, vs3, he3, hz3, hd3⟩ := fl3.there
    have Ba : B.get? a = none := fl3.2.1
    have nfr : a ∉ frs (X.env :: X.outer) := fun hm => by
      obtain ⟨_, o1, e1, hnf⟩ := fl3.2.2.1.mem hm
      rw [he3] at e1
      cases e1
      exact hnf _ hd3
    have nL : a ≠ X.env.locals := fun z => nfr (List.mem_filterMap.mpr ⟨X.env, List.mem_cons_self, by rw [hf, z]⟩)
    have nF : a ∉ X.fs := fun hm => by
      obtain ⟨e, he, q⟩ := List.mem_filterMap.mp hm
      exact nfr (List.mem_filterMap.mpr ⟨e, List.mem_cons_of_mem _ he, q⟩)
    have notI : ∀ o, sI.heap.get? a ≠ some o := fun o e => by
      rw [nb a o e (by rw [hs]; exact nfr)] at Ba
      cases Ba
    have n0 : X.s_0.heap.get? a = none := by
      cases z : X.s_0.heap.get? a with
      | none => rfl
      | some o =>
        obtain ⟨o1, e1⟩ := J.base.there a o z (by rw [hex]; exact fun z => nomatch z)
        exact absurd e1 (notI o1)
    have nP : ∀ p ∈ X.pn ++ pins, p.1 ≠ a := fun p hp z => by
      have := (J.pin p hp).1
      rw [z] at this
      exact notI _ this
    have J3 : Inv X pins σ' H' { s' with heap := h3 } := J.landed nb fl3.1 (up.trans up3) os ag
    have S3 := J3.suite he3 hd3 na nL nF
    have look : ∀ {x : Str} {c : Value} {q : Pos} {Q : Value → Shared → Prop} {E : Value → Shared → Prop}, Names X x c → Q c { s' with heap := h3 } → wpAny (model X.prog X.w) (X.A.mark (some (.ref a))) (eval (.Name x q) X.env) Q E { s' with heap := h3 } := fun {x c q Q E} hc w => by
      obtain ⟨hg, hdb, hm | ⟨hm, hv, hnn⟩⟩ := hc
      · exact ld_glob (X := X.suite a ((a, oe3) :: (X.pn ++ pins))) S3 hg hm w hdb
      · exact ld_blt (X := X.suite a ((a, oe3) :: (X.pn ++ pins))) S3 hg hm hv w hnn hdb
    refine wpAny_handleBy_cons (codeAny_handlers_test ?_) (by intro z; cases z)
    have LT : PySem.W.Looks (model X.prog X.w) h3 (typeOf (.ref a)) cls := fun A Q E s k w => wpAny_typeOf_ref (k _ _ he3) (by rw [hz3.1]; exact w)
    have kp : ∀ b o, h3.get? b = some o → (h3.push { cls := .type "tuple", data := .seq [c1, c2, c3, c4].toArray }).get? b = some o := fun _ _ z => Heap.get?_push_of_some _ z
    refine wpAny_Tuple (wpAny_items_cons (look n1 (wpAny_items_cons (look n2 (wpAny_items_cons (look n3 (wpAny_items_cons (look n4 (wpAny_items_nil ⟨by size_fits, ?_⟩)))))))))
    refine (PySem.W.exm_tup4 (M := model X.prog X.w) (J3.kIn.keeps kp) (LT.keeps kp) (Heap.get?_push_size h3 rfl) hb1).here ?_
    have fl5 := fly_keep fl3 kp
    have up5 : sI.heap.UpToSlots (h3.push { cls := .type "tuple", data := .seq [c1, c2, c3, c4].toArray }) := (up.trans up3).trans (Heap.UpToSlots.of_keeps kp)
    cases b with
    | true =>
      refine codeAny_handlers_suite_as ?_
      refine HandSPX.lands_againZ fl5 fun h4 fl4 up4 => ?_
      have J4 : Inv X pins σ' H' { s' with heap := h4 } := J.landed nb fl4.1 (up5.trans up4) os ag
      obtain ⟨oe4, vs4, he4, hz4, hd4⟩ := fl4.there
      have S4 := J4.suite he4 hd4 na nL nF
      refine store_ok (X := X.suite a ((a, oe4) :: (X.pn ++ pins))) (v := .ref a) S4 hN hi (.inl hln) rfl (fun s5 S5 => ?_) (.inr hln)
      have iσ : i < σ'.length := by rw [J.len]; exact (List.getElem?_eq_some_iff.mp hi).1
      refine wpAny_mono ((hsu a oe4 (X.pn ++ pins)).run [] s5 _ H' ⟨fun σ6 H6 => σ6 = (σ'.set i (some (.ref a))).set j (some (.ref a)) ∧ H6 = H', fun _ _ => False, fun _ _ => False, fun _ _ => False⟩ S5 ⟨_, List.getElem?_set_self iσ, rfl, rfl⟩) (fun fl s6 hsp => ?_) (fun _ _ z => False.elim z)
      cases fl with
      | next =>
        obtain ⟨σ6, H6, S6, rfl, rfl⟩ := hsp
        obtain ⟨z1, _⟩ := S6.pin (a, oe4) (List.mem_append_left _ List.mem_cons_self)
        exact gone_ok (track (S6.unsuite ok) z1 hz4 hd4 na n0 nL nP) hN hi hln fun s7 J7 => ⟨_, _, J7, yes rfl a na⟩
      | brk =>
        obtain ⟨_, _, _, z⟩ := hsp
        exact z.elim
      | cont =>
        obtain ⟨_, _, _, z⟩ := hsp
        exact z.elim
      | ret u =>
        obtain ⟨_, _, _, _, _, z⟩ := hsp
        exact z.elim
    | false =>
      show wpAny _ X.A (handleBy (.ref a) X.env []) _ _ _
      refine wpAny_handleBy_nil ?_
      obtain ⟨k1, k2, k3, oe, ws, T, oT, ts, he, hz, hd, h1, hr⟩ := id fl5
      unfold PySem.passOn
      refine wpAny_bind (wpAny_field he hd h1 ?_)
      rw [if_neg (show ¬ ((Value.ref T == Value.none) = true) from by simp)]
      have fin : wpAny (model X.prog X.w) X.A (setFlight (.ref a) X.env.frame) (fun _ s4 => wpAny (model X.prog X.w) X.A (throw (.ref a) : Sem Flow) (SP X pins D) X.xe s4) X.xe { s' with heap := h3.push { cls := .type "tuple", data := .seq [c1, c2, c3, c4].toArray } } := by
        rw [hf]
        refine HandSPX.setFlight_upZ fl5 fun h4 hh4 up4 => wpAny_throw (tk _ _ ?_)
        exact ⟨a, B, sI, pins, σ', H', cls, d, rfl, J, nb, up5.trans up4, .inr (.inr (by rw [hs]; exact hh4)), na, os, ag, no rfl⟩
      first
        | exact wpAny_bind (wpAny_pure (wpAny_bind fin))
        | exact wpAny_bind fin
  · cases fl with
    | next =>
      obtain ⟨σ2, H2, J2, w⟩ := hsp
      exact wpAny_execs_nil ⟨σ2, H2, J2.ofTry ok, w⟩
    | brk =>
      obtain ⟨σ2, H2, J2, w⟩ := hsp
      exact ⟨σ2, H2, J2.ofTry ok, w⟩
    | cont =>
      obtain ⟨σ2, H2, J2, w⟩ := hsp
      exact ⟨σ2, H2, J2.ofTry ok, w⟩
    | ret u =>
      obtain ⟨v, σ2, H2, J2, r, w⟩ := hsp
      exact ⟨v, σ2, H2, J2.ofTry ok, r, w⟩
end
/-! ### raise C(e), C an own class with an __init__, over any built-in one -/
section
variable {X : Cx} {e : Expr} {es : List Expr} {ta : TA} {p pos : Pos} {x : Str} {C fI : Addr} {k : Nat} {fd : FuncData} {ps : List Str} {sp : Sp} {B newId initId : String} {bmB : List Value}
@[irreducible] def tMkX (C : Addr) (sp : Sp) (ta : TA) : L2.St → Hp → XK → Prop := fun σ H Q => ta σ H fun vs H1 => vs.length ≤ 1000 ∧ ∀ a, H1 a = none → sp (.ref a :: vs) (upd H1 a (exo a C none))
  (fun v H2 => v = .non ∧ ∃ (d : Addr) (fs : List (Str × V)), H2 a = some (exo a C (some d)) ∧ H2 d = some (exd d fs) ∧ H1 d = none ∧ Q (.ref C) (some d) (upd (del H2 a) d (.xd fs))) E0
theorem pmkG {CX : CXT} (T : XC X.K C B newId initId bmB) (tyC : PySem.W.typeIn X.K (.ref C) = some (.type "type")) (iC : PySem.W.findIn X.K (.ref C) "__init__" = some (some (.ref fI))) (tI : PySem.W.typeIn X.K (.ref fI) = some (.type "function")) (F1 : FnOk X.prog X.w X.K X.mg X.base CX0 k fI fd ps sp) (hr : Room (k + 1) X.A) (hb : Binds X.K fd ps [])
    (hg : Gl X x) (hm : X.mg x = some (.ref C)) (ha : PA X (e :: es) ta) (hdb : (x == ("__debug__" : Str)) = false := by decide) (he : starEach (e :: es) X.env = (false, eval e X.env) :: starEach es X.env := by rfl) (hpl : (backTo pos (starEach es X.env)).any (·.1) = false := by rfl) :
    PMk X (.Call (.Name x p) (e :: es) [] pos) (tMkX C sp ta) := by
  intro pins s σ H Q I h
  unfold tMkX at h
  refine wpAny_Call_Name_kw (ld_glob I hg hm ?_ hdb)
  refine PySem.W.callWith_K (h₀ := X.base) I.ok.mod.kin T.kp (thn (ha.run pos pins s σ H _ I h) fun us s1 g => ?_) he hpl
  obtain ⟨vs, H1, I1, r1, hz, q1⟩ := g
  refine ⟨I1.kIn, ?_⟩
  show wpAny _ _ (call (.ref C) us) _ _ _
  obtain ⟨nm, N, qn, bs, bm, hdct, sn, sub, ab, col, dd, k0, k1, k2, k3, k5, hC, hT⟩ := PySem.W.excInit_of I1.kIn T.ini
  obtain ⟨hp, g, dr, tk, os⟩ := s1
  have sz : hp.objs.size ≤ hp.objs.size + 1 := Nat.le_succ _
  have fr : H1 (hp.objs.size + 1) = none := I1.hok.fresh sz
  have q2 := q1 (hp.objs.size + 1) fr
  have up : ∀ b o, hp.get? b = some o → ((hp.push (PySem.W.kdv_tup us)).push (HandSPX.excO C hp.objs.size)).get? b = some o := fun b o z => Heap.get?_push_of_some _ (Heap.get?_push_of_some _ z)
  have new : ((hp.push (PySem.W.kdv_tup us)).push (HandSPX.excO C hp.objs.size)).get? (hp.objs.size + 1) = some (HandSPX.excO C hp.objs.size) := by heap_get
  have I2 : Inv X pins σ (upd H1 (hp.objs.size + 1) (exo (hp.objs.size + 1) C none)) ⟨(hp.push (PySem.W.kdv_tup us)).push (HandSPX.excO C hp.objs.size), g, dr, tk, os⟩ :=
    I1.laid (t' := tk) (a := hp.objs.size + 1) (o := exo (hp.objs.size + 1) C none) (h' := (hp.push (PySem.W.kdv_tup us)).push (HandSPX.excO C hp.objs.size)) up sz (exo_ok new)
  have r2 : Vals (V.ref (hp.objs.size + 1) :: vs) (Value.ref (hp.objs.size + 1) :: us) := .cons rfl r1
  have hl : (Value.ref (hp.objs.size + 1) :: us).length = ps.length := by rw [← r2.length, F1.len _ _ _ _ q2]
  have hus : us.length ≤ sizeLine := by
    rw [← r1.length, sizeLine_eq]
    omega
  have hbb := hb ⟨(hp.push (PySem.W.kdv_tup us)).push (HandSPX.excO C hp.objs.size), g, dr, tk, os⟩ (Value.ref (hp.objs.size + 1) :: us) I2.kIn (by rw [List.append_nil]; exact hl)
  rw [List.append_nil] at hbb
  refine wpAny_call (HandSPX.call_own T.fb hT hC (PySem.W.looks_findIn I1.kIn iC) (fun self => PySem.W.bind_fn I1.kIn self tI) hus
    (codeAny_mono (F1.run _ X.stack _ _ _ _ _ _ E0 (hr.make C us []) (I2.env0.make C us []) hbb r2 q2) fun r s' w => ?_))
  rcases r with er | (_ | _ | _ | u)
  case ok.ret =>
    obtain ⟨v, H2, os2, bare2, un2, hok2, rv, ev, d, fs, ea, ed, hd1, q3⟩ := w
    subst ev
    obtain ⟨h2, g2, d2, t2, os'⟩ := s'
    exact ⟨rv, mk_end (raises_own T.sub tyC) I1 sz up un2 hok2 os2 bare2 ea ed hd1 q3⟩
  all_goals exact False.elim w
/-- with an __init__ of one field -/
theorem mkX_st {f : Str} {Pr : V → Hp → Prop} {σ : L2.St} {H : Hp} {Q : XK} {v : V} {te : TE} (spI : Addr → Str → (V → Hp → Prop) → Sp) : True := trivial
/-- what is read of a caught one -/
def XAg (H : Hp) (a C : Addr) (fs : List (Str × V)) : Prop := ∃ d, H a = some (exg a (.ref C) (some d)) ∧ H d = some (.xd fs)
end
end Gx

namespace Dw
open PySem PySem.Spec PyProof.Rows L2 OgR Evl Gx
/-! ### slices of a list or a tuple; starred displays -/
section
variable {X : Cx} {C : Ct} {a b e : Expr} {es : List Expr} {pos p p2 : Pos} {t ta tb te : TE} {w wa wb we : WE} {tA : TA} {wA : WA} {lo hi : Option Expr} {tl th : TO} {wl wh : WO}
def rSlB (K : PySem.W.Frag) : V → Option Int → Option Int → Hp → VK → Prop := fun x lo hi H Q => rSlA K x lo hi H Q ∨ rSlL K x lo hi H Q
theorem sl_B : SlR X (rSlB X.K) := sl_tupA.or sl_list
def cutSq (d : PyData) (lo hi : Option Int) : PyData := match d with
  | .tuple ds => .tuple (cutD ds lo hi)
  | .list ds => .list (cutD ds lo hi)
  | d => d
def wSlB (wa : WE) (wl wh : WO) : WE := fun s Q => wa s fun d s1 => wl s1 fun l s2 => wh s2 fun h s3 => seqd d = true ∧ Q (cutSq d l h) s3
theorem de_slB (hK : X.K = C.K) (ha : DP X C a ta wa) (hl : DOp X C lo tl wl) (hh : DOp X C hi th wh) : DE X C (.Subscript a (.Slice lo hi none p2) pos) (tSl (rSlB C.K) ta tl th) (wSlB wa wl wh) := ⟨pe_slice (hK ▸ sl_B) ha.pe hl.po hh.po, fun G σ H s Q Q' r q k =>
  ha.ip G σ H s _ _ r q fun v d s1 G1 H1 q1 r1 eg1 eh1 pk => hl.io G1 σ H1 s1 _ _ r1 q1 fun l s2 G2 H2 q2 r2 eg2 eh2 => hh.io G2 σ H2 s2 _ _ r2 q2 fun h s3 G3 H3 q3 r3 eg3 eh3 => by
    obtain ⟨hs, q3⟩ := q3
    have pk3 := (pk.mono eg2 eh2.gr).mono eg3 eh3.gr
    cases d with
    | tuple ds =>
      obtain ⟨p, xs, rfl, h1, h2⟩ := pk_tup pk3
      have h1' := Evl.ex_t r3.fin.gh h1
      refine .inl ⟨p, xs, rfl, h1', fun hw => ?_, fun _ l hl => ?_⟩
      · have e : cutD ds l h = ds := by
          unfold cutD
          rw [dpa_len h2] at hw
          rw [hw.1, hw.2, List.drop_zero, Nat.sub_zero, List.take_length]
        have q3 : Q (.tuple (cutD ds l h)) s3 := q3
        rw [e] at q3
        exact k _ _ s3 G3 H3 q3 r3 ((eg1.trans eg2).trans eg3) ((eh1.trans eh2).trans eh3) (.tup h1 h2)
      · obtain ⟨r4, eg, eh⟩ := r3.new (o := .tup (cutV xs _ _)) hl
        exact k _ _ s3 _ _ q3 r4 (((eg1.trans eg2).trans eg3).trans eg) (((eh1.trans eh2).trans eh3).trans eh) (.tup (.inl (.inl upd_same)) (dpa_ex eg (dpa_cut h2 _ _)))
    | list ds =>
      obtain ⟨p, xs, rfl, h1, h2⟩ := pk_lst pk3 r3.fin.gh
      refine .inr ⟨p, xs, rfl, h1, fun l hl => ?_⟩
      obtain ⟨r4, eg, eh⟩ := r3.new (o := .lst (cutV xs _ _)) hl
      exact k _ _ s3 _ _ q3 r4 (((eg1.trans eg2).trans eg3).trans eg) (((eh1.trans eh2).trans eh3).trans eh) (.lst (.inl (.inl upd_same)) (dpa_ex eg (dpa_cut h2 _ _)))
    | _ => cases hs⟩
def wStar (w : WE) (wr : WA) : WA := fun s Q => w s fun d s1 => seqd d = true ∧ wr s1 fun ds s2 => Q (its d ++ ds) s2
theorem da_star (hK : X.K = C.K) (h : DP X C e te we) (hr : DA X C es tA wA) (hs : starEach (.Starred e p :: es) X.env = (true, eval e X.env) :: starEach es X.env := by rfl) : DA X C (.Starred e p :: es) (StX.tStar C.K te tA) (wStar we wA) := ⟨hK ▸ StX.pa_star h.pe hr.pa hs, fun G σ H s Q Q' r q k =>
  h.ip G σ H s _ _ r q fun v d s1 G1 H1 q1 r1 eg1 eh1 pk => by
    obtain ⟨hs, q1⟩ := q1
    obtain ⟨p, xs, rfl, h1, h2⟩ := pk.seq r1.fin.gh hs
    refine ⟨p, xs, rfl, ?_, hr.ia G1 σ H1 s1 _ _ r1 q1 fun vs ds s2 G2 H2 q2 r2 eg2 eh2 p2 => k _ _ s2 G2 H2 q2 r2 (eg1.trans eg2) (eh1.trans eh2) (dpa_app (dpa_ex eg2 h2) p2)⟩
    cases d with
    | tuple _ => exact .inl h1
    | list _ => exact .inr h1
    | _ => cases hs⟩
end
/-! ### defs that may raise -/
inductive Oc where
  | ok (d : PyData)
  | ex (nm fld : Str) (d : PyData)
abbrev FX := List PyData → (Oc → Prop) → Prop
/-- what is to be had of an exception: its class by name, its one field -/
def Exk (K : PySem.W.Frag) (mg : Str → Option Value) (G H : Hp) (R : Oc → Prop) (E : XK) : Prop := ∀ (nm fld : Str) (d : PyData) (C dx : Addr) (u : V) (G' H' : Hp), R (.ex nm fld d) → mg nm = some (.ref C) → Ex G G' → Ex H H' → Ex G' H' → Nw G G' H → H dx = none → H' dx = some (.xd [(fld, u)]) → Dp K G' u d → E (.ref C) (some dx) H'
def spX (K : PySem.W.Frag) (mg : Str → Option Value) (F : FX) : Sp := fun vs H Q E => ∃ G ds R, Ex G H ∧ DpAll K G vs ds ∧ F ds R ∧ (∀ v d G' H', R (.ok d) → Ex G G' → Ex H H' → Ex G' H' → Nw G G' H → Dp K G' v d → Q v H') ∧ Exk K mg G H R E
section
variable {P : Program} {wd : World} {K : PySem.W.Frag} {mg : Str → Option Value} {base : Heap}
def FnGX (P : Program) (w : World) (K : PySem.W.Frag) (mg : Str → Option Value) (base : Heap) (k : Nat) (f : Addr) (fd : FuncData) (ps : List Str) (sp : Sp) : Prop :=
  (∀ vs H Q E, sp vs H Q E → vs.length = ps.length) ∧
  ∀ (A : Around) (outer : List Env) (s : Shared) (H : Hp) (args : Args) (us : List Value) (vs : List V) (Q : VK) (E : XK), A.guards = some [] → Room k A → Env0 P w K mg base A outer s H → BindsTo s fd args (ps.zip us) → Vals vs us →
    sp vs H Q E → codeAny (model P w) A (.call (.ref f) args) (CR (L2.CX P w) outer P w H s Q E) s
theorem fnGX_of {x qual : Str} {st : Stmt} {f : Addr} {fd : FuncData} {N ps : List Str} {k : Nat} {sp : Sp} (F : Fun K x qual st f fd) (S : FnScope N ps (defScope st)) (hl : ∀ vs H Q E, sp vs H Q E → vs.length = ps.length)
    (body : ∀ (cdv : Value) (A : Around) (outer : List Env) (s : Shared) (H : Hp) (vs : List V) (Q : VK) (E : XK), A.guards = some [] → Room k (A.deeper (envOfC qual (defScope st) s.heap.objs.size f cdv)) → sp vs H Q E →
      ∃ t, PSs (cxOf (L2.CX P wd) P wd K mg base N qual (defScope st) f cdv A outer s H E) (defBody st) t ∧ t { nx := fun _ H' => Q .non H', rt := Q } (start N vs) H) : FnGX P wd K mg base (k + 1) f fd ps sp := by
  obtain ⟨oc, od, kV, doc, pm, an, cdv, ct, osl, rfl, lk, hcd⟩ := F.ex
  refine ⟨hl, fun A outer s H args us vs Q E hG hr e0 hb r hsp => ?_⟩
  have here : ∀ b o, base.get? b = some o → s.heap.get? b = some o := fun b o e => (e0.bs b o e).1
  have KX : K.In s.heap := e0.mod.kin.keeps here
  refine codeAny_call_function hr.depth (KX _ _ lk) rfl S.co S.gen rfl (PySem.W.codeRec_of KX hcd) (hb _ _ _ _ (wpAny_newFunctionEnv_cells S.kind ?_ fun env he s1 y => ?_))
  · rintro ⟨n, v⟩ hy
    exact (S.par n (List.of_mem_zip hy).1).imp id fun q => ⟨q, PySem.W.cellsFrom_some _ _ _ (.inl q)⟩
  · subst he
    obtain ⟨t, ht, hq⟩ := body cdv A outer s H vs Q E hG (hr.deeper _) hsp
    have I := inv_start (CX := L2.CX P wd) (E := E) S hr.hd e0 (hl _ _ _ _ hsp) r y
    refine ⟨(e0.mod.nolimit.keeps here).keeps y.toInCall.keep, codeAny_func (wpAny_mono (ht.run [] s1 (start N vs) H _ I hq) ?_ fun e s' hs => hs)⟩
    rintro (_ | _ | _ | u) s' hs
    all_goals first
      | (obtain ⟨v, σ', H', J, rv, q⟩ := hs; exact ⟨v, H', J.os, J.bare, J.base, J.hok, rv, q⟩)
      | (obtain ⟨σ', H', J, q⟩ := hs; exact ⟨V.non, H', J.os, J.bare, J.base, J.hok, rfl, q⟩)
      | (obtain ⟨_, _, _, q⟩ := hs; exact q.elim)
structure DefX (P : Program) (wd : World) (K : PySem.W.Frag) (mg : Str → Option Value) (base : Heap) (k : Nat) (x : Str) (st : Stmt) (ps : List Str) (sp : Sp) : Prop where
  ex : ∃ f fd, FnGX P wd K mg base k f fd ps sp ∧ Fun K x x st f fd ∧ Binds K fd ps [] ∧ mg x = some (.ref f)
theorem DefX.make {k : Nat} {x : Str} {st : Stmt} {N ps : List Str} {F : FX} (c : Fct K mg x st ps) (S : FnScope N ps (defScope st)) (hl : ∀ ds R, F ds R → ds.length = ps.length)
    (body : ∀ (f : Addr) (cdv : Value) (A : Around) (outer : List Env) (s : Shared) (H G : Hp) (E : XK) (ds : List PyData) (R : Oc → Prop), A.guards = some [] → Room k (A.deeper (envOfC x (defScope st) s.heap.objs.size f cdv)) → F ds R → Exk K mg G H R E →
      ∃ t w, DSs (cxOf (L2.CX P wd) P wd K mg base N x (defScope st) f cdv A outer s H E) ⟨K, none, H, G⟩ (defBody st) t w ∧ w { nx := fun _ => R (.ok .none), rt := fun d _ => R (.ok d) } ⟨env0 N (ds.map .d), 0⟩) : DefX P wd K mg base (k + 1) x st ps (spX K mg F) := by
  obtain ⟨f, fd, Fn, b, m⟩ := c.ex
  refine ⟨f, fd, fnGX_of Fn S (fun vs H Q E h => ?_) (fun cdv A outer s H vs Q E hG hr h => ?_), Fn, b, m⟩
  · obtain ⟨G, ds, R, _, p, hF, _⟩ := h
    rw [dpa_len p]
    exact hl ds R hF
  · obtain ⟨G, ds, R, gh, p, hF, kk, kx⟩ := h
    obtain ⟨t, w, D, hw⟩ := body f cdv A outer s H G E ds R hG hr hF kx
    have rel : Rel ⟨K, none, H, G⟩ G (L2.start N vs) H ⟨env0 N (ds.map .d), 0⟩ := by
      refine ⟨⟨gh, Ex.refl G, Nw.refl G H, Gr.refl _ H, fun l hl => nomatch hl⟩, env0_len (by rw [List.length_map, dpa_len p]), fun i x e => ?_, fun i j x y q _ e1 _ m1 => ?_⟩
      · have e' := env0_get e
        rw [List.getElem?_map] at e'
        cases q : ds[i]? with
        | none => rw [q] at e'; cases e'
        | some d =>
          rw [q] at e'
          cases e'
          obtain ⟨v, hv, pv⟩ := dpa_back p q
          exact ⟨v, start_get hv, pv⟩
      · have e' := env0_get e1
        rw [List.getElem?_map] at e'
        cases q : ds[i]? with
        | none => rw [q] at e'; cases e'
        | some d => rw [q] at e'; cases e'; cases m1
    refine ⟨t, D.ps, D.is G (L2.start N vs) H _ _ _ rel hw ⟨fun σ' H' s' G' hn r' e => ?_, fun _ _ _ _ h => h.elim, fun _ _ _ _ h => h.elim, fun v d c' G' H' hR f' e pv => ?_⟩⟩
    · exact kk .non .none G' H' hn e (fun b o hb => r'.fin.hh b o (fun z => nomatch z) hb) r'.fin.gh r'.fin.nw .non
    · exact kk v d G' H' hR e (fun b o hb => f'.hh b o (fun z => nomatch z) hb) f'.gh f'.nw pv
end
/-! ### the classes of exceptions, their __init__ of one field -/
def spIni (C : Addr) (f : Str) (P : V → Hp → Prop) : Sp := fun vs H Q _ => ∃ (a : Addr) (y : V), vs = [.ref a, y] ∧ H a = some (exo a C none) ∧ P y H ∧ ∀ dx, H dx = none → dx ≠ a → Q .non (upd (upd H dx (exd dx [(f, y)])) a (exo a C (some dx)))
def IsTp (K : PySem.W.Frag) : V → Hp → Prop := fun y H => ∃ p xs, y = .ref p ∧ SqT K H p xs
/-- which data a field takes -/
def okF (tup : Bool) (d : PyData) : Bool := !tup || isT d
structure MkD (P : Program) (wd : World) (K : PySem.W.Frag) (mg : Str → Option Value) (base : Heap) (x f : Str) (tup : Bool) (C : Addr) : Prop where
  here : mg x = some (.ref C)
  ex : ∃ B n i bm fI fd, XC K C B n i bm ∧ PySem.W.typeIn K (.ref C) = some (.type "type") ∧ PySem.W.findIn K (.ref C) "__init__" = some (some (.ref fI)) ∧ PySem.W.typeIn K (.ref fI) = some (.type "function") ∧ FnOk P wd K mg base CX0 2 fI fd ["self", f] (spIni C f fun y H => tup = true → IsTp K y H) ∧ Binds K fd ["self", f] []
section
variable {X : Cx} {C : Ct} {e : Expr} {p pos pos' : Pos} {te : TE} {we : WE} {x fld : Str} {tup : Bool} {Cc : Addr} {R : Oc → Prop} {E : XK}
/-- raise C(e) -/
def wRaise (R : Oc → Prop) (x fld : Str) (tup : Bool) (we : WE) : WS := fun _ s => we s fun d _ => okF tup d = true ∧ R (.ex x fld d)
theorem ds_raise (M : MkD X.prog X.w X.K X.mg X.base x fld tup Cc) (hK : X.K = C.K) (hx : Exk C.K X.mg C.G0 C.H0 R E) (hc : X.calm = true) (tk : Takes X (fun cls d _ H => E cls d H)) (hb : C.bx = none) (hr : Room 3 X.A) (hg : Gl X x) (he : DE X C e te we)
    (hdb : (x == ("__debug__" : Str)) = false := by decide) (hs : starEach [e] X.env = (false, eval e X.env) :: starEach [] X.env := by rfl) :
    DS X C (.Raise (some (.Call (.Name x p) [e] [] pos)) none pos') (fun _ σ H => tMkX Cc (spIni Cc fld fun y H => tup = true → IsTp X.K y H) (tCons te tNil) σ H fun cls d H' => E cls d H') (wRaise R x fld tup we) := by
  obtain ⟨B, n, i, bm, fI, fd, T, tyC, iC, tI, F1, bnd⟩ := M.ex
  refine ⟨ps_raise hc tk (pmkG (CX := CX0) T tyC iC tI F1 hr bnd hg M.here (pa_cons he.pe pa_nil hs) hdb hs), fun G σ H s D DD r q o => ?_⟩
  show tMkX _ _ _ _ _ _
  unfold tMkX
  refine he.ie G σ H s _ _ r q fun v d s1 G1 H1 q1 r1 eg g pd => ⟨(by show 1 ≤ 1000; decide), fun a ha => ?_⟩
  obtain ⟨ht, q1⟩ := q1
  refine ⟨a, v, rfl, upd_same, fun tp => ?_, fun dx hdx hne => ⟨rfl, dx, [(fld, v)], upd_same, by rw [upd_ne hne, upd_same], ?_, ?_⟩⟩
  · subst tp
    cases d with
    | tuple ds =>
      cases pd with
      | tup h1 h2 => exact ⟨_, _, rfl, by rw [hK]; exact Evl.ex_t (r1.fin.gh.trans (Ex.new ha)) h1⟩
    | _ => cases ht
  · rw [upd_ne hne] at hdx
    exact hdx
  · rw [upd_ne hne] at hdx
    have e1 : Ex H1 (upd (del (upd (upd (upd H1 a (exo a Cc none)) dx (exd dx [(fld, v)])) a (exo a Cc (some dx))) a) dx (.xd [(fld, v)])) := fun b o hb' => by
      have n1 : b ≠ dx := fun z => by rw [z, hdx] at hb'; cases hb'
      have n2 : b ≠ a := fun z => by rw [z, ha] at hb'; cases hb'
      rw [upd_ne n1, del_ne n2, upd_ne n2, upd_ne n1, upd_ne n2]
      exact hb'
    have e0 : Ex C.H0 H1 := fun b o hb' => r1.fin.hh b o (by rw [hb]; exact fun z => nomatch z) hb'
    exact hx x fld d Cc dx v G1 _ q1 M.here r1.fin.g0 (e0.trans e1) (r1.fin.gh.trans e1) r1.fin.nw (r1.fin.h0 hdx) upd_same pd
end
/-! ### an expression that may raise, in the body of a try -/
abbrev WY := Dt → (PyData → Dt → Prop) → (Str → Str → PyData → Dt → Prop) → Prop
structure DEX (X : Cx) (C : Ct) (e : Expr) (t : L2.WX → TE) (w : WY) : Prop where
  pe : ∀ (W : L2.WX) (pn : List (Addr × Obj)) (xe : Value → Shared → Prop), Takes (X.tr pn xe) W → PE (X.tr pn xe) e (t W)
  ie : ∀ (W : L2.WX) G σ H s Q QX Q', Rel C G σ H s → w s Q QX →
    (∀ v d s' G' H', Q d s' → Rel C G' σ H' s' → Ex G G' → Gs C σ G H s G' H' s' → Dp C.K G' v d → Q' v H') →
    (∀ (nm fld : Str) d s' G' H' (Cc dx : Addr) u, QX nm fld d s' → X.mg nm = some (.ref Cc) → Rel C G' σ H' s' → Ex G G' → Gs C σ G H s G' H' s' → C.bx ≠ some dx → H' dx = some (.xd [(fld, u)]) → Dp C.K G' u d → W (.ref Cc) (some dx) σ H') → t W σ H Q'
section
variable {X : Cx} {C : Ct} {a b c e : Expr} {pos p : Pos} {ta tb : L2.WX → TE} {wa wb : WY} {tc : TT} {wc : WT} {x : Str} {st : Stmt} {ps : List Str} {k : Nat}
theorem dex_if (hc : ∀ pn xe, DT (X.tr pn xe) C c tc wc) (h1 : DEX X C a ta wa) (h2 : DEX X C b tb wb) : DEX X C (.IfExp c a b pos) (fun W => tIf tc (ta W) (tb W)) (fun s Q QX => wc s fun b s1 => if b = true then wa s1 Q QX else wb s1 Q QX) :=
  ⟨fun W pn xe tk => pe_ifExp (hc pn xe).pt (h1.pe W pn xe tk) (h2.pe W pn xe tk), fun W G σ H s Q QX Q' r q k kx => (hc [] fun _ _ => False).it G σ H s _ _ r q fun bb s1 G1 H1 q1 r1 eg g => by
    cases bb with
    | true =>
      rw [if_pos rfl] at q1
      exact iteT (h1.ie W G1 σ H1 s1 Q QX Q' r1 q1 (fun v d s' G' H' a1 a2 a3 a4 a5 => k v d s' G' H' a1 a2 (eg.trans a3) (g.trans a4) a5) fun nm fld d s' G' H' Cc dx u b1 b2 b3 b4 b5 b6 b7 b8 => kx nm fld d s' G' H' Cc dx u b1 b2 b3 (eg.trans b4) (g.trans b5) b6 b7 b8)
    | false =>
      rw [if_neg (by decide)] at q1
      exact iteF (h2.ie W G1 σ H1 s1 Q QX Q' r1 q1 (fun v d s' G' H' a1 a2 a3 a4 a5 => k v d s' G' H' a1 a2 (eg.trans a3) (g.trans a4) a5) fun nm fld d s' G' H' Cc dx u b1 b2 b3 b4 b5 b6 b7 b8 => kx nm fld d s' G' H' Cc dx u b1 b2 b3 (eg.trans b4) (g.trans b5) b6 b7 b8)⟩
def tNmX (sp : Sp) (n : Nat) (π : List Nat) (tk : TA) (W : L2.WX) : TE := fun σ H Q => tk σ H fun zs H1 => zs.length = n ∧ sp (perm π zs) H1 Q (L2.WE W σ)
theorem pe_nmX {n : Nat} {f : Addr} {fd : FuncData} {ks : List Str} {sp : Sp} {kws : List Keyword} {tk : TA} {π : List Nat} {W : L2.WX} (F : FnGX X.prog X.w X.K X.mg X.base k f fd ps sp) (hG : X.A.guards = some []) (tks : Takes X W) (hr : Room k X.A) (hg : Gl X x) (hm : X.mg x = some (.ref f)) (hk : PySem.W.keepIn X.K (.ref f) = true) (hb : ByP fd ps ks π) (hn : ks.length = n) (hkw : PK X kws tk)
    (hall : (backToKw pos (keywordEach kws X.env)).all (·.1.isSome) = true := by rfl) (hks : (backToKw pos (keywordEach kws X.env)).filterMap (·.1) = ks := by rfl) (hdb : (x == ("__debug__" : Str)) = false := by decide)
    (hpl : ((backTo pos (starEach [] X.env)).any (·.1) || (backToKw pos (keywordEach kws X.env)).any (·.1.isNone)) = false := by rfl) :
    PE X (.Call (.Name x p) [] kws pos) (tNmX sp n π tk W) := by
  refine ⟨fun pins s σ H Q I h => wpAny_Call_Name_kw (ld_glob I hg hm ?_ hdb)⟩
  refine PySem.W.callWith_KW0 (h₀ := X.base) I.ok.mod.kin hk hall (thn (hkw.run pos pins s σ H _ I h) fun ws s1 ⟨zs, H1, I1, rz, hl, q⟩ => ⟨I1.kIn, ?_⟩) hpl
  rw [hks]
  have hwl : ws.length = ks.length := by rw [← rz.length, hl, hn]
  refine wpAny_call (codeAny_mono (F.2 X.A X.stack s1 H1 ⟨[], ks.zip ws⟩ (perm π ws) (perm π zs) Q (L2.WE W σ) hG hr I1.env0 (hb s1 ws hwl) (vals_perm rz) q) fun r s' hq => ?_)
  cases r with
  | error e => exact passAt tks σ pins H1 s1 e s' I1 hq
  | ok fl =>
    cases fl with
    | ret u => exact I1.after hq
    | next => exact False.elim hq
    | brk => exact False.elim hq
    | cont => exact False.elim hq
def wNmX (F : FX) (n : Nat) (π : List Nat) (wA : WA) : WY := fun s Q QX => wA s fun ds s1 => ds.length = n ∧ F (perm π ds) fun o => match o with
  | .ok d => Q d s1
  | .ex nm fld d => QX nm fld d s1
theorem dex_nm {F : FX} {ks : List Str} {kws : List Keyword} {tk : TA} {wk : WA} (π : List Nat) (D : DefX X.prog X.w X.K X.mg X.base k x st ps (spX C.K X.mg F)) (hG : X.A.guards = some []) (hr : Room k X.A) (hg : Gl X x)
    (hby : ∀ (kV doc pm : Value) (an : Option Addr) (cdv ct : Value) (ws : List Value), ws.length = ks.length → bindArgs (PySem.W.fnOf x x (defArgs st) (defBody st) (defScope st) .none kV doc pm an cdv ct) ⟨[], ks.zip ws⟩ = Pure.pure (ps.zip (perm π ws))) (hkw : ∀ pn xe, DKw (X.tr pn xe) C kws tk wk)
    (hall : (backToKw pos (keywordEach kws X.env)).all (·.1.isSome) = true := by rfl) (hks : (backToKw pos (keywordEach kws X.env)).filterMap (·.1) = ks := by rfl) (hdb : (x == ("__debug__" : Str)) = false := by decide)
    (hpl : ((backTo pos (starEach [] X.env)).any (·.1) || (backToKw pos (keywordEach kws X.env)).any (·.1.isNone)) = false := by rfl) :
    DEX X C (.Call (.Name x p) [] kws pos) (tNmX (spX C.K X.mg F) ks.length π tk) (wNmX F ks.length π wk) := by
  obtain ⟨f, fd, G, Fn, b, m⟩ := D.ex
  refine ⟨fun W pn xe tks => ?_, fun W G σ H s Q QX Q' r q k kx => ?_⟩
  · obtain ⟨oc, od, kV, doc, pm, an, cdv, ct, osl, rfl, lk, hcd⟩ := Fn.ex
    exact pe_nmX (X := X.tr pn xe) G hG tks hr hg m Fn.kp (fun s ws hl => .of_eq (hby kV doc pm an cdv ct ws hl)) rfl (hkw pn xe).pk hall hks hdb hpl
  · refine (hkw [] fun _ _ => False).ia G σ H s _ _ r q fun vs ds s1 G1 H1 q1 r1 eg eh p => ⟨by rw [dpa_len p]; exact q1.1, G1, perm π ds, _, r1.fin.gh, dpa_perm p, q1.2, fun v d G2 H2 q2 eg2 eh2 gh nw pd => ?_, fun nm fld d Cc dx u G2 H2 q2 hm eg2 eh2 gh nw hdx hd2 pd => ?_⟩
    · exact k v d s1 G2 H2 q2 (r1.grow eg2 eh2 gh nw) (eg.trans eg2) (eh.trans (.grow eh2 nw)) pd
    · refine kx nm fld d s1 G2 H2 Cc dx u q2 hm (r1.grow eg2 eh2 gh nw) (eg.trans eg2) (eh.trans (.grow eh2 nw)) (fun z => (r1.fin.bx dx z).1.ne hdx) hd2 pd
end
/-! ### try: x = e  except (A, B, C, D) as n: m = n -/
/-- a caught exception in a slot -/
def xcV (K : PySem.W.Frag) (mg : Str → Option Value) (bx : Option Addr) (nm fld : Str) (d : PyData) : Hp → Hp → V → Prop := fun G H v => ∃ (a Cc dx : Addr) (u : V), v = .ref a ∧ mg nm = some (.ref Cc) ∧ bx ≠ some a ∧ bx ≠ some dx ∧ H a = some (exg a (.ref Cc) (some dx)) ∧ H dx = some (.xd [(fld, u)]) ∧ Dp K G u d
theorem xcV_oth {C : Ct} {mg : Str → Option Value} {nm fld : Str} {d : PyData} {G H : Hp} {v : V} (h : xcV C.K mg C.bx nm fld d G H v) : Oth C (xcV C.K mg C.bx nm fld d) G H v := ⟨h, fun G' H' eg eh => by
  obtain ⟨a, Cc, dx, u, h1, h2, h3, h4, h5, h6, h7⟩ := h
  exact ⟨a, Cc, dx, u, h1, h2, h3, h4, eh a _ h3 h5 rfl, eh dx _ h4 h6 rfl, dp_ex eg h7⟩⟩
theorem Rel.hole {C : Ct} {G H : Hp} {σ : L2.St} {s : Dt} (r : Rel C G σ H s) (i : Nat) (y : Option V) : Rel C G (σ.set i y) H ⟨s.env.set i none, s.c⟩ := by
  have go : ∀ (j : Nat) x, (s.env.set i none)[j]? = some (some x) → j ≠ i ∧ s.env[j]? = some (some x) := fun j x e => by
    by_cases z : j = i
    · subst z
      by_cases hl : j < s.env.length
      · rw [List.getElem?_set_self hl] at e
        cases e
      · rw [List.getElem?_eq_none (by rw [List.length_set]; omega)] at e
        cases e
    · rw [List.getElem?_set_ne (Ne.symm z)] at e
      exact ⟨z, e⟩
  refine ⟨r.fin, by show (s.env.set i none).length = _; rw [List.length_set, List.length_set]; exact r.len, fun j x e => ?_, fun j k x z q hne e1 e2 m1 m2 => ?_⟩
  · obtain ⟨z, e⟩ := go j x e
    obtain ⟨v, hv, rv⟩ := r.sl j x e
    exact ⟨v, by rw [List.getElem?_set_ne (Ne.symm z)]; exact hv, rv⟩
  · obtain ⟨z1, e1⟩ := go j x e1
    obtain ⟨z2, e2⟩ := go k z e2
    rw [List.getElem?_set_ne (Ne.symm z1), List.getElem?_set_ne (Ne.symm z2)]
    exact r.dis j k x z q hne e1 e2 m1 m2
def wTryK (K : PySem.W.Frag) (mg : Str → Option Value) (bx : Option Addr) (cs : List Value) (jf i j : Nat) (w : WY) : WS := fun DD s => w s (fun d s1 => DD.nx (s1.set jf (.d d))) fun nm fld d s1 => (∀ Cc, mg nm = some (.ref Cc) → PySem.W.exmAny K (.ref Cc) cs = some true) ∧ DD.nx ⟨(s1.env.set j (some (.oth (xcV K mg bx nm fld d)))).set i none, s1.c⟩
section
variable {X : Cx} {C : Ct} {e : Expr} {x1 x2 x3 x4 n m y : Str} {c1 c2 c3 c4 : Value} {q1 q2 q3 q4 tp mp np ap yp bp pos pos' : Pos} {kk : Nat} {t : L2.WX → TE} {w : WY}
theorem ds_tryK (jf i j : Nat) (hK : X.K = C.K) (hex : X.ex = []) (hs : X.stack = X.env :: X.outer) (hf : X.env.frame = some X.env.locals) (hN : X.N.Nodup) (n1 : Names X x1 c1) (n2 : Names X x2 c2) (n3 : Names X x3 c3) (n4 : Names X x4 c4) (h : DEX X C e t w)
    (hi : X.N[i]? = some n := by rfl) (hln : X.env.kindOf n = some .local := by rfl) (hj : X.N[j]? = some m := by rfl) (hlm : X.env.kindOf m = some .local := by rfl) (hy : X.N[jf]? = some y := by rfl)
    (hyl : Loc X.env.scope y := by first | exact .inl rfl | exact .inr rfl) (hsw : swapsWith e (some (.Name y yp)) bp.line X.env = pure false := by rfl) (hyf : X.fn y = true ∨ X.env.scope.names.lookup y = some .local := by first | exact .inl rfl | exact .inr rfl | assumption)
    (hsu : ∀ (a : Addr) (oe : Obj) (pn : List (Addr × Obj)), PSs (X.suite a ((a, oe) :: pn)) [.Assign [.Name m mp] (.Name n np) ap] (tAsg (tVar i) (gName j))) :
    DS X C (.Try [.Assign [.Name y yp] e bp] [.ExceptHandler (some (.Tuple [.Name x1 q1, .Name x2 q2, .Name x3 q3, .Name x4 q4] kk tp)) (some n) [.Assign [.Name m mp] (.Name n np) ap] pos'] [] [] pos)
      (fun D σ H => tAsg (t (wKeep X.K [c1, c2, c3, c4] i j (fun _ _ _ _ => False) D)) (gName jf) D σ H) (wTryK C.K X.mg C.bx [c1, c2, c3, c4] jf i j w) :=
  ⟨ps_try_keep (tb := fun W => tAsg (t W) (gName jf)) (Wout := fun _ _ _ _ => False) hex hs hf hN hi hln hj hlm n1 n2 n3 n4 takes0 (fun W pn xe tk po => pss_one (ps_set (X := X.tr pn xe) hN hy hyl (h.pe W pn xe tk) hsw hyf)) hsu, fun G σ H s D DD r q o => by
    refine h.ie _ G σ H s _ _ _ r q (fun v d s1 G1 H1 q1 r1 eg g pd => o.nx _ H1 _ G1 q1 (r1.putd pd) eg) fun nm fld d s1 G1 H1 Cc dx u q1 hm r1 eg g hbx hdx pd => ?_
    obtain ⟨hex, q1⟩ := q1
    refine ⟨true, by rw [hK]; exact hex Cc hm, fun _ a ha => ?_, fun z => nomatch z⟩
    have e1 : Ex H1 (upd H1 a (exg a (.ref Cc) (some dx))) := Ex.new ha
    have na : C.bx ≠ some a := fun z => (r1.fin.bx a z).1.ne ha
    have nd : dx ≠ a := fun z => by rw [z, ha] at hdx; cases hdx
    have r2 : Rel C G1 ((σ.set i (some (.ref a))).set j (some (.ref a))) (upd H1 a (exg a (.ref Cc) (some dx))) ((⟨s1.env.set i none, s1.c⟩ : Dt).set j (.oth (xcV C.K X.mg C.bx nm fld d))) := ((r1.aside e1).hole i (some (.ref a))).put (x := .oth (xcV C.K X.mg C.bx nm fld d)) (xcV_oth ⟨a, Cc, dx, u, rfl, hm, na, hbx, upd_same, by rw [upd_ne nd]; exact hdx, pd⟩) fun mm => nomatch mm
    have r3 := r2.hole i none
    refine o.nx _ _ _ G1 q1 ?_ eg
    have e2 : ((s1.env.set i none).set j (some (.oth (xcV C.K X.mg C.bx nm fld d)))).set i none = (s1.env.set j (some (.oth (xcV C.K X.mg C.bx nm fld d)))).set i none := by
      by_cases z : i = j
      · subst z
        rw [List.set_set, List.set_set, List.set_set]
      · rw [List.set_comm _ _ z, List.set_set]
    have r3 : Rel C G1 _ _ ⟨((s1.env.set i none).set j (some (.oth (xcV C.K X.mg C.bx nm fld d)))).set i none, s1.c⟩ := r3
    rw [e2] at r3
    exact r3⟩
end
end Dw

namespace Gx
open PySem PySem.Spec PyProof.Rows L2
section
variable {X : Cx} {pins : List (Addr × Obj)} {σ : L2.St} {H : Hp} {s : Shared} {a C : Addr} {fs : List (Str × V)}
theorem xag_inst (I : Inv X pins σ H s) (h : XAg H a C fs) : ∃ ox od, PySem.W.InstAt s.heap a ox C (some od) ∧ ∀ f, RelO (fs.lookup f) ((PySem.W.lookIn f od).getD none) ∧ (PySem.W.lookIn f od).isSome = true := by
  obtain ⟨d, h1, h2⟩ := h
  obtain ⟨⟨oe, vs, ho, hz, hd⟩, _⟩ := (show ObjOk X.prog X.w H s.heap a (.ext fun h => ∃ (oe : Obj) (vs : Array Value), h.get? a = some oe ∧ Zc (.ref C) (some d) oe ∧ oe.data = .fields vs) from I.hok _ _ h1)
  obtain ⟨mA, hns, rel⟩ := I.hok _ _ h2
  obtain ⟨od, hod, hl⟩ := lookIn_ns hns
  refine ⟨oe, od, ⟨ho, hz.1, by unfold PySem.W.notCls; rw [hd], by rw [hz.2]; exact hod⟩, fun f => ⟨by rw [hl]; exact rel f, by rw [hl]; rfl⟩⟩
end
section
variable {X : Cx} {o e : Expr} {es : List Expr} {to te : TE} {ta : TA} {f n : Str} {p p' pos : Pos}
@[irreducible] def tGetG (K : PySem.W.Frag) (n : Str) (te : TE) : TE := fun σ H Q => te σ H fun x H1 => ∃ a C fs v, x = .ref a ∧ XAg H1 a C fs ∧ XCx K C ∧ PySem.W.findIn K (.ref C) n = some none ∧ fs.lookup n = some v ∧ Q v H1
theorem pe_getG (he : PE X e te) (hb : attributeBase e n X.env (eval e X.env) = eval e X.env := by rfl) : PE X (.Attribute e n pos) (tGetG X.K n te) := by
  refine ⟨fun pins s σ H Q I h => ?_⟩
  unfold tGetG at h
  refine attr_of hb (thn (he.run pins s σ H _ I h) fun u s1 g => ?_)
  obtain ⟨x, H1, I1, rx, a, C, fs, v, ex, ha, ⟨B, nn, ii, bm, T⟩, hno, l, q⟩ := g
  subst ex
  cases (show u = Value.ref a from rx)
  obtain ⟨ox, od, J, hl⟩ := xag_inst I1 ha
  obtain ⟨r1, r2⟩ := hl n
  rw [l] at r1
  obtain ⟨z, hz⟩ := Option.isSome_iff_exists.mp r2
  rw [hz] at r1
  obtain ⟨u2, hu, ru⟩ := RelO.some_of r1
  have hz2 : z = some u2 := hu
  subst hz2
  exact HandSPX.exc_get I1.kIn J T.ga T.gg T.sub (PySem.W.findObj_own T.dct hno rfl hz) (handed_of ru) ⟨v, H1, I1.tok _, ru, q⟩
def rIsG (K : PySem.W.Frag) : List V → Hp → VK → Prop := fun xs H Q => ∃ (a C : Addr) (fs : List (Str × V)) (c : V) (cv : Value) (b : Bool), xs = [.ref a, c] ∧ XAg H a C fs ∧ XCx K C ∧ (∀ u, RelV c u → u = cv) ∧ PySem.W.kitOne K (.ref C) cv = some b ∧ Q (.bl b) H
theorem call_isG : CallR X (.builtin "isinstance") (rIsG X.K) := by
  intro pins s σ H xs us Q I r h
  obtain ⟨a, C, fs, c, cv, b, rfl, ha, ⟨B, n, i, bm, T⟩, hcv, e, q⟩ := h
  cases r with
  | cons rx rr =>
    cases rr with
    | cons rt rr =>
      cases rr
      cases rx
      have ec := hcv _ rt
      subst ec
      obtain ⟨ox, od, J, _⟩ := xag_inst I ha
      exact PySem.W.kia_one (PySem.W.kitx_exc T.cin T.ga T.gg T.sub T.cls T.spc T.tks T.mro) I.kIn J e (fun z => nomatch z) fun tk => ⟨.bl b, H, I.kept (t' := tk) fun _ _ z => z, rfl, q⟩
def rIsGT (K : PySem.W.Frag) : List V → Hp → VK → Prop := fun xs H Q => ∃ (a C tp : Addr) (fs : List (Str × V)) (cs : List V) (cvs : List Value) (b : Bool), xs = [.ref a, .ref tp] ∧ XAg H a C fs ∧ XCx K C ∧ H tp = some (.tup cs) ∧ (∀ us, Vals cs us → us = cvs) ∧ PySem.W.kitAny K (.ref C) cvs = some b ∧ Q (.bl b) H
theorem call_isGT : CallR X (.builtin "isinstance") (rIsGT X.K) := by
  intro pins s σ H xs us Q I r h
  obtain ⟨a, C, tp, fs, cs, cvs, b, rfl, ha, ⟨B, n, i, bm, T⟩, ht, hcv, e, q⟩ := h
  cases r with
  | cons rx rr =>
    cases rr with
    | cons rt rr =>
      cases rr
      cases rx
      cases rt
      obtain ⟨ox, od, J, _⟩ := xag_inst I ha
      obtain ⟨_, its2, r2, ob, ho, hc, nn, hd⟩ := I.hok _ _ ht
      have e2 := hcv _ r2
      subst e2
      obtain ⟨c1, c2, c3, c4⟩ := ob
      dsimp only at hc hd
      subst hc hd
      exact PySem.W.kia_tup (PySem.W.kitx_exc T.cin T.ga T.gg T.sub T.cls T.spc T.tks T.mro) I.kIn J ho e (fun z => nomatch z) fun tk => ⟨.bl b, H, I.kept (t' := tk) fun _ _ z => z, rfl, q⟩
end
end Gx
namespace Dw
open PySem PySem.Spec PyProof.Rows L2 OgR Evl Gx
/-! ### a caught exception looked at -/
section
variable {X : Cx} {C : Ct} {c c' : Expr} {pos p p2 : Pos} {x n : Str} {cV cV' : V} {cv cv' : Value}
/-- what is known of a class by its name -/
def KitN (K : PySem.W.Frag) (mg : Str → Option Value) (nm : Str) (cvs : List Value) (b : Bool) : Prop := ∀ Cc, mg nm = some (.ref Cc) → XCx K Cc ∧ PySem.W.kitAny K (.ref Cc) cvs = some b
def FldN (K : PySem.W.Frag) (mg : Str → Option Value) (nm fld : Str) : Prop := ∀ Cc, mg nm = some (.ref Cc) → XCx K Cc ∧ PySem.W.findIn K (.ref Cc) fld = some none
def wXat (K : PySem.W.Frag) (mg : Str → Option Value) (bx : Option Addr) (i : Nat) (n : Str) : WE := fun s Q => ∃ nm d, s.env[i]? = some (some (.oth (xcV K mg bx nm n d))) ∧ FldN K mg nm n ∧ Q d s
theorem de_xat (i : Nat) (hK : X.K = C.K) (hv : PE X (.Name x p) (tVar i) := by exact pv _) (hb : attributeBase (.Name x p) n X.env (eval (.Name x p) X.env) = eval (.Name x p) X.env := by rfl) : DE X C (.Attribute (.Name x p) n pos) (tGetG C.K n (tVar i)) (wXat C.K X.mg C.bx i n) := ⟨hK ▸ pe_getG hv hb, fun G σ H s Q Q' r q k => by
  obtain ⟨nm, d, e, hf, q⟩ := q
  obtain ⟨v, hv, ⟨a, Cc, dx, u, rfl, hm, b1, b2, h1, h2, h3⟩, _⟩ := r.sl i _ e
  unfold tGetG
  exact ⟨_, hv, a, Cc, _, u, rfl, ⟨dx, h1, h2⟩, (hf Cc hm).1, (hf Cc hm).2, by simp [List.lookup], k u d s G H q r (Ex.refl G) Gs.refl h3⟩⟩
def wXis (K : PySem.W.Frag) (mg : Str → Option Value) (bx : Option Addr) (i : Nat) (cvs : List Value) : WE := fun s Q => ∃ nm fld d b, s.env[i]? = some (some (.oth (xcV K mg bx nm fld d))) ∧ KitN K mg nm cvs b ∧ Q (.bool b) s
theorem kit_one {K : PySem.W.Frag} {t c : Value} {b : Bool} (h : PySem.W.kitAny K t [c] = some b) : PySem.W.kitOne K t c = some b := by
  unfold PySem.W.kitAny at h
  split at h
  · rename_i e
    rw [e, h]
  · rename_i e
    rw [e]
    exact h
  · cases h
theorem de_xis (i : Nat) (hK : X.K = C.K) (hg : Gl X "isinstance") (hm : X.mg "isinstance" = none) (hp : PE X c (tC cV)) (hcv : ∀ u, RelV cV u → u = cv) (hv : PE X (.Name x p2) (tVar i) := by exact pv _)
    (hs : starEach [.Name x p2, c] X.env = (false, eval (.Name x p2) X.env) :: starEach [c] X.env := by rfl) (hpl : (backTo pos (starEach [c] X.env)).any (·.1) = false := by rfl) (hs2 : starEach [c] X.env = (false, eval c X.env) :: starEach [] X.env := by rfl) :
    DE X C (.Call (.Name "isinstance" p) [.Name x p2, c] [] pos) (tCB (rIsG C.K) (tCons (tVar i) (tCons (tC cV) tNil))) (wXis C.K X.mg C.bx i [cv]) :=
  ⟨pe_callB (hK ▸ call_isG) hg hm (by decide +kernel) (pa_cons hv (pa_cons hp pa_nil hs2) hs) (by decide) (by decide) hs hpl, fun G σ H s Q Q' r q k => by
    obtain ⟨nm, fld, d, b, e, hk, q⟩ := q
    obtain ⟨v, hv, ⟨a, Cc, dx, u, rfl, hm, b1, b2, h1, h2, h3⟩, _⟩ := r.sl i _ e
    exact ⟨_, hv, a, Cc, _, cV, cv, b, rfl, ⟨dx, h1, h2⟩, (hk Cc hm).1, hcv, kit_one (hk Cc hm).2, k _ _ s G H q r (Ex.refl G) Gs.refl (.bl b)⟩⟩
theorem de_xisT (i : Nat) {kk : Nat} {p4 : Pos} (hK : X.K = C.K) (hg : Gl X "isinstance") (hm : X.mg "isinstance" = none) (hp : PE X c (tC cV)) (hcv : ∀ u, RelV cV u → u = cv) (hp' : PE X c' (tC cV')) (hcv' : ∀ u, RelV cV' u → u = cv') (hv : PE X (.Name x p2) (tVar i) := by exact pv _)
    (hs : starEach [.Name x p2, .Tuple [c, c'] kk p4] X.env = (false, eval (.Name x p2) X.env) :: starEach [.Tuple [c, c'] kk p4] X.env := by rfl) (hpl : (backTo pos (starEach [.Tuple [c, c'] kk p4] X.env)).any (·.1) = false := by rfl)
    (hs2 : starEach [.Tuple [c, c'] kk p4] X.env = (false, eval (.Tuple [c, c'] kk p4) X.env) :: starEach [] X.env := by rfl) (hs3 : starEach [c, c'] X.env = (false, eval c X.env) :: starEach [c'] X.env := by rfl) (hs4 : starEach [c'] X.env = (false, eval c' X.env) :: starEach [] X.env := by rfl) :
    DE X C (.Call (.Name "isinstance" p) [.Name x p2, .Tuple [c, c'] kk p4] [] pos) (tCB (rIsGT C.K) (tCons (tVar i) (tCons (tTup (tCons (tC cV) (tCons (tC cV') tNil))) tNil))) (wXis C.K X.mg C.bx i [cv, cv']) :=
  ⟨pe_callB (hK ▸ call_isGT) hg hm (by decide +kernel) (pa_cons hv (pa_cons (pe_tup (pa_cons hp (pa_cons hp' pa_nil hs4) hs3)) pa_nil hs2) hs) (by decide) (by decide) hs hpl, fun G σ H s Q Q' r q k => by
    obtain ⟨nm, fld, d, b, e, hk, q⟩ := q
    obtain ⟨v, hv, ⟨a, Cc, dx, u, rfl, hm, b1, b2, h1, h2, h3⟩, _⟩ := r.sl i _ e
    refine ⟨_, hv, (show 2 ≤ sizeLine by decide), fun tp htp => ?_⟩
    have e1 : Ex H (upd H tp (.tup [cV, cV'])) := Ex.new htp
    refine ⟨a, Cc, tp, [(fld, u)], [cV, cV'], [cv, cv'], b, rfl, ⟨dx, e1 a _ h1, e1 dx _ h2⟩, (hk Cc hm).1, upd_same, fun us hv => ?_, (hk Cc hm).2, k _ _ s G _ q (r.aside e1) (Ex.refl G) (.side e1) (.bl b)⟩
    cases hv with
    | cons r1 rr =>
      cases rr with
      | cons r2 rr =>
        cases rr
        rw [hcv _ r1, hcv' _ r2]⟩
/-- is None, of a slot with data or a caught exception -/
def wXnon (K : PySem.W.Frag) (mg : Str → Option Value) (bx : Option Addr) (i : Nat) : WT := fun s Q => (∃ d, s.env[i]? = some (some (.d d)) ∧ Q (isNone d) s) ∨ ∃ nm fld d, s.env[i]? = some (some (.oth (xcV K mg bx nm fld d))) ∧ Q false s
theorem dt_xnon (i : Nat) {j : Nat} (hv : PE X (.Name x p) (tVar i) := by exact pv _) : DT X C (.Compare (.Name x p) [.Is] [.Constant .none j p2] pos) (tTest (tOp (fun x y H Q => y = .non ∧ Q (.bl (decide (x = .non))) H) (tVar i) (tC .non))) (wXnon C.K X.mg C.bx i) :=
  ⟨pt_cmpR op_isN hv pe_non (nomark _), fun G σ H s Q Q' r q k => by
    rcases q with ⟨d, e, q⟩ | ⟨nm, fld, d, e, q⟩
    · obtain ⟨v, hv, rv⟩ := r.sl i _ e
      refine ⟨v, hv, rfl, _, rfl, ?_⟩
      rw [pk_none (C := C) (H := H) (.inl rv)]
      exact k _ s G H q r (Ex.refl G) Gs.refl
    · obtain ⟨v, hv, ⟨a, Cc, dx, u, rfl, hm, b1, b2, h1, h2, h3⟩, _⟩ := r.sl i _ e
      refine ⟨_, hv, rfl, _, rfl, ?_⟩
      exact k _ s G H q r (Ex.refl G) Gs.refl⟩
end
end Dw

namespace Dw
open PySem PySem.Spec PyProof.Rows L2 OgR Evl Gx
section
variable {X : Cx} {C : Ct} {a b e tg : Expr} {es : List Expr} {pos p : Pos} {te : TE} {we : WE} {x : Str}
theorem do_lcKT (i0 : Nat) {elt : Expr} {ifs : List Expr} {scope : Scope} {own : List (Str × Nat)} {p2 tpos : Pos} {kk n : Nat} {g : TGs} {ks : List Nat} {wg : WGs} {tt : TT} {wt : WT} (hK : X.K = C.K) (hc : X.calm = true) (hN : X.N.Nodup) (ok : BlkOk X.N X.env.scope scope own)
    (hg : ∀ (s : Shared) (H : Hp) (A : Addr) (cl : List (Str × Addr)) (fp : List Addr), DGs (X.blk s H scope (compEnvC scope cl A X.env) fp) C es g ks wg)
    (ht : (∀ (s : Shared) (H : Hp) (A : Addr) (cl : List (Str × Addr)) (fp : List Addr), PTs (X.blk s H scope (compEnvC scope cl A X.env) fp) ifs tt) ∧ IT C tt wt)
    (he : ∀ (s : Shared) (H : Hp) (A : Addr) (cl : List (Str × Addr)) (fp : List Addr), DE (X.blk s H scope (compEnvC scope cl A X.env) fp) C elt te we) (hv : PE X (.Name x p2) (tVar i0) := by exact pv _) (hk : ∀ k ∈ ks, k ∈ own.map (·.2) := by decide) (hs : ∀ z, foldedSetIterable (.Name x p2) X.env z = pure z := by intro _; rfl)
    (hn : ∀ (s : Shared) (H : Hp) (A : Addr) (cl : List (Str × Addr)) (fp : List Addr), (assignEach es (X.blk s H scope (compEnvC scope cl A X.env) fp).env).length = n := by intros; rfl) (hst : ∀ (s : Shared) (H : Hp) (A : Addr) (cl : List (Str × Addr)) (fp : List Addr), (assignEach es (X.blk s H scope (compEnvC scope cl A X.env) fp).env).findIdx? (·.1) = none := by intros; rfl) :
    DO X C (.ListComp elt [⟨.Tuple es kk tpos, .Name x p2, ifs, 0⟩] scope pos) (tLockE (tLc (iKeys (tVar i0)) (gSeqB C.K n g) tt te (own.map (·.2)))) (wLcK i0 (wGTup n wg) wt we (own.map (·.2))) :=
  do_lcK i0 hc hN ok ⟨fun s H A cl fp => (dg_tup (X := X.blk s H scope (compEnvC scope cl A X.env) fp) hK hc (hg s H A cl fp) (hn s H A cl fp) (hst s H A cl fp)).pg, igh_tup (hg {} (fun _ => none) 0 [] []).ig⟩ ht he hv hk hs
end
section
variable {X : Cx} {C : Ct}
/-- == of texts -/
def gEqS : G2 := fun d e s Q => ∃ x y, d = .str x ∧ e = .str y ∧ Q (.bool (decide (x = y))) s
theorem o_eqS : OpD X C (compareOp .Eq) rEq gEqS := ⟨op_eq, ⟨fun G σ H s x y d e Q Q' r p1 p2 q k => by
  obtain ⟨a, b, rfl, rfl, q⟩ := q
  have h1 := pk_str p1
  have h2 := pk_str p2
  subst h1 h2
  refine ⟨rfl, ?_⟩
  have e : decide (V.str a = V.str b) = decide (a = b) := by simp
  rw [e]
  exact k _ _ s G H q r (Ex.refl G) Gs.refl (.bl _)⟩⟩
end
/-- what is bounded equals itself -/
theorem eqvAll_rf : ∀ {l : List PyData}, (∀ x ∈ l, PyData.eqv x x = true) → PyData.eqvAll l l = true
  | [], _ => by simp only [PyData.eqvAll]
  | x :: l, h => by simp only [PyData.eqvAll, h x List.mem_cons_self, eqvAll_rf fun y hy => h y (List.mem_cons_of_mem _ hy), Bool.and_self]
theorem FlB.rf {d : PyData} (h : FlB d) : PyData.eqv d d = true := by
  cases d with
  | none => simp only [PyData.eqv]
  | bool b => rw [eqv_bool]; simp
  | int i => rw [eqv_int]; simp
  | str z => rw [eqv_str]; simp
  | list _ => exact h.elim
  | tuple _ => exact h.elim
  | dict _ => exact h.elim
theorem Bd.rf {w : Nat} : ∀ {k : Nat} {d : PyData}, Bd w k d → PyData.eqv d d = true
  | 0, d, h => FlB.rf h
  | k + 1, d, h => by
    rcases h with h | ⟨ds, rfl | rfl, hl, hd⟩
    · exact h.rf
    · simp only [PyData.eqv]
      exact eqvAll_rf fun x hx => Bd.rf (hd x hx)
    · simp only [PyData.eqv]
      exact eqvAll_rf fun x hx => Bd.rf (hd x hx)
/-! ### the classes of the program's errors -/
structure Cls (K : PySem.W.Frag) (mg : Str → Option Value) (x f q : Str) (B n i : String) (bm : List Value) (st : Stmt) (C : Addr) : Prop where
  xc : XC K C B n i bm
  here : mg x = some (.ref C)
  fld : PySem.W.findIn K (.ref C) f = some none
  ty : PySem.W.typeIn K (.ref C) = some (.type "type")
  ini : ∃ fI fd, PySem.W.findIn K (.ref C) "__init__" = some (some (.ref fI)) ∧ PySem.W.typeIn K (.ref fI) = some (.type "function") ∧ Fun K "__init__" q st fI fd ∧ Binds K fd ["self", f] []
theorem taker {K : PySem.W.Frag} {C : Addr} {f : Str} (h : PySem.W.findIn K (.ref C) f = some none) : PySem.W.takerIn K C f = some none := by
  unfold PySem.W.takerIn
  rw [h]
  rfl
abbrev bVE : List Value := [.type "ValueError", .type "Exception", .type "BaseException", .type "object"]
abbrev bLE : List Value := [.type "LookupError", .type "Exception", .type "BaseException", .type "object"]
abbrev bRE : List Value := [.type "RuntimeError", .type "Exception", .type "BaseException", .type "object"]
abbrev bOE : List Value := [.type "OverflowError", .type "ArithmeticError", .type "Exception", .type "BaseException", .type "object"]
theorem kitN {K : PySem.W.Frag} {mg : Str → Option Value} {nm : Str} {cvs : List Value} {b : Bool} {C : Addr} (hm : mg nm = some (.ref C)) (x : XCx K C) (h : PySem.W.kitAny K (.ref C) cvs = some b) : KitN K mg nm cvs b := fun C' hm' => by
  rw [hm] at hm'
  cases hm'
  exact ⟨x, h⟩
theorem fldN {K : PySem.W.Frag} {mg : Str → Option Value} {nm fld : Str} {C : Addr} (hm : mg nm = some (.ref C)) (x : XCx K C) (h : PySem.W.findIn K (.ref C) fld = some none) : FldN K mg nm fld := fun C' hm' => by
  rw [hm] at hm'
  cases hm'
  exact ⟨x, h⟩
theorem kit_1 {K : PySem.W.Frag} {t c : Value} {b : Bool} (h : PySem.W.kitOne K t c = some b) : PySem.W.kitAny K t [c] = some b := by
  unfold PySem.W.kitAny
  rw [h]
  cases b <;> rfl
theorem kit_2 {K : PySem.W.Frag} {t c c' : Value} {b b' : Bool} (h : PySem.W.kitOne K t c = some b) (h' : PySem.W.kitOne K t c' = some b') : PySem.W.kitAny K t [c, c'] = some (b || b') := by
  unfold PySem.W.kitAny
  rw [h]
  cases b with
  | true => rfl
  | false => exact kit_1 h'
end Dw

namespace Og6
open PySem PySem.Spec PyProof.Rows L2 OgR Evl Dw
def topS (i : Nat) : Stmt := PySem.Challenge.pw_onlygroups_k06_notes_added_and_removed.main.body.getD i (.Pass ⟨0, 0, 0, 0⟩)
abbrev s_tuple_for_list : Stmt := topS 1
theorem sc_tuple_for_list : FnScope ["value"] ["value"] (defScope s_tuple_for_list) := ⟨rfl, rfl, rfl, by decide +kernel, rfl, by decide +kernel, by decide +kernel⟩
abbrev s_notes_of : Stmt := topS 8
theorem sc_notes_of : FnScope ["journal", "note"] ["journal"] (defScope s_notes_of) := ⟨rfl, rfl, rfl, by decide +kernel, rfl, by decide +kernel, by decide +kernel⟩
abbrev s_with_note : Stmt := topS 9
theorem sc_with_note : FnScope ["journal", "note", "notes", "there"] ["journal", "note"] (defScope s_with_note) := ⟨rfl, rfl, rfl, by decide +kernel, rfl, by decide +kernel, by decide +kernel⟩
abbrev s_without_note : Stmt := topS 10
theorem sc_without_note : FnScope ["journal", "note", "notes", "gone", "there"] ["journal", "note"] (defScope s_without_note) := ⟨rfl, rfl, rfl, by decide +kernel, rfl, by decide +kernel, by decide +kernel⟩
abbrev s_l_cell_at : Stmt := topS 12
theorem sc_l_cell_at : FnScope ["_law_script", "_law_k"] ["_law_script", "_law_k"] (defScope s_l_cell_at) := ⟨rfl, rfl, rfl, by decide +kernel, rfl, by decide +kernel, by decide +kernel⟩
abbrev s_l_box : Stmt := topS 13
theorem sc_l_box : FnScope ["_law_script", "_law_k", "_law_core"] ["_law_script", "_law_k"] (defScope s_l_box) := ⟨rfl, rfl, rfl, by decide +kernel, rfl, by decide +kernel, by decide +kernel⟩
abbrev s_l_take : Stmt := topS 14
theorem sc_l_take : FnScope ["_law_box_here", "_law_below", "_law_found", "_law_once", "_law_twice"] ["_law_box_here", "_law_below"] (defScope s_l_take) := ⟨rfl, rfl, rfl, by decide +kernel, rfl, by decide +kernel, by decide +kernel⟩
abbrev s_l_of : Stmt := topS 15
theorem sc_l_of : FnScope ["_law_box_here", "_law_some"] ["_law_box_here", "_law_some"] (defScope s_l_of) := ⟨rfl, rfl, rfl, by decide +kernel, rfl, by decide +kernel, by decide +kernel⟩
abbrev s_l_same : Stmt := topS 16
theorem sc_l_same : FnScope ["_law_found", "_law_due", "_law_a", "_law_b"] ["_law_found", "_law_due"] (defScope s_l_same) := ⟨rfl, rfl, rfl, by decide +kernel, rfl, by decide +kernel, by decide +kernel⟩
abbrev s_l_lists : Stmt := topS 17
theorem sc_l_lists : FnScope ["_law_part", "_law_piece"] ["_law_part"] (defScope s_l_lists) := ⟨rfl, rfl, rfl, by decide +kernel, rfl, by decide +kernel, by decide +kernel⟩
abbrev s_l_runs : Stmt := topS 18
theorem sc_l_runs : FnScope ["_law_there", "_law_found", "_law_plot", "_law_some"] ["_law_there"] (defScope s_l_runs) := ⟨rfl, rfl, rfl, by decide +kernel, rfl, by decide +kernel, by decide +kernel⟩
abbrev s_l_seen : Stmt := topS 19
theorem sc_l_seen : FnScope ["_law_queue_here", "_law_counts", "_law_words", "_law_before", "_law_spot"] ["_law_queue_here"] (defScope s_l_seen) := ⟨rfl, rfl, rfl, by decide +kernel, rfl, by decide +kernel, by decide +kernel⟩
abbrev s_l_queue : Stmt := topS 20
theorem sc_l_queue : FnScope ["_law_box_here", "_law_count", "_law_size", "_law_left", "_law_found", "_law_near", "_law_spot", "_law_some", "_law_plot"] ["_law_box_here", "_law_count", "_law_size"] (defScope s_l_queue) := ⟨rfl, rfl, rfl, by decide +kernel, rfl, by decide +kernel, by decide +kernel⟩
abbrev s_l_notes : Stmt := topS 21
theorem sc_l_notes : FnScope ["_law_box_here", "_law_queue_here", "_law_found", "_law_dense", "_law_counts", "_law_words", "_law_spot"] ["_law_box_here", "_law_queue_here"] (defScope s_l_notes) := ⟨rfl, rfl, rfl, by decide +kernel, rfl, by decide +kernel, by decide +kernel⟩
abbrev s_l_story : Stmt := topS 22
theorem sc_l_story : FnScope ["_law_box_here", "_law_most", "_law_count", "_law_size", "_law_queue_here"] ["_law_box_here", "_law_most"] (defScope s_l_story) := ⟨rfl, rfl, rfl, by decide +kernel, rfl, by decide +kernel, by decide +kernel⟩
abbrev s_l_spoilt : Stmt := topS 23
theorem sc_l_spoilt : FnScope ["_law_box_here", "_law_book_here", "_law_count", "_law_size", "_law_notes_here", "_law_found", "_law_spot", "_law_kind", "_law_value", "_law_turn"] ["_law_box_here", "_law_book_here"] (defScope s_l_spoilt) := ⟨rfl, rfl, rfl, by decide +kernel, rfl, by decide +kernel, by decide +kernel⟩
abbrev s_l_book : Stmt := topS 24
theorem sc_l_book : FnScope ["_law_box_here", "_law_most", "_law_book_here"] ["_law_box_here", "_law_most"] (defScope s_l_book) := ⟨rfl, rfl, rfl, by decide +kernel, rfl, by decide +kernel, by decide +kernel⟩
abbrev s_l_told : Stmt := topS 25
theorem sc_l_told : FnScope ["_law_which", "_law_book_here", "_law_item", "_law_found", "_law_caught", "error", "_law_fine"] ["_law_which", "_law_book_here", "_law_item"] (defScope s_l_told) := ⟨rfl, rfl, rfl, by decide +kernel, rfl, by decide +kernel, by decide +kernel⟩
abbrev s_l_right : Stmt := topS 26
theorem sc_l_right : FnScope ["_law_box_here", "_law_book_here", "_law_count", "_law_size", "_law_notes_here", "_law_listed", "_law_kept", "_law_some", "_law_turn", "_law_spot", "_law_item", "_law_there", "_law_due", "_law_its"] ["_law_box_here"] (defScope s_l_right) := ⟨rfl, rfl, rfl, by decide +kernel, rfl, by decide +kernel, by decide +kernel⟩
abbrev s_law : Stmt := topS 27
theorem sc_law : FnScope ["_law_script", "_law_k", "_law_box_here", "_law_turn"] ["_law_script"] (defScope s_law) := ⟨rfl, rfl, rfl, by decide +kernel, rfl, by decide +kernel, by decide +kernel⟩
structure Top (wd : World) (K : PySem.W.Frag) (mg : Str → Option Value) : Prop where
  d_tuple_for_list : Fct K mg "tuple_for_list" s_tuple_for_list ["value"]
  d_notes_of : Fct K mg "notes_of" s_notes_of ["journal"]
  d_with_note : Fct K mg "with_note" s_with_note ["journal", "note"]
  d_without_note : Fct K mg "without_note" s_without_note ["journal", "note"]
  d_l_cell_at : Fct K mg "_law_cell_at" s_l_cell_at ["_law_script", "_law_k"]
  d_l_box : Fct K mg "_law_box" s_l_box ["_law_script", "_law_k"]
  d_l_take : Fct K mg "_law_take" s_l_take ["_law_box_here", "_law_below"]
  d_l_of : Fct K mg "_law_of" s_l_of ["_law_box_here", "_law_some"]
  d_l_same : Fct K mg "_law_same" s_l_same ["_law_found", "_law_due"]
  d_l_lists : Fct K mg "_law_lists" s_l_lists ["_law_part"]
  d_l_runs : Fct K mg "_law_runs" s_l_runs ["_law_there"]
  d_l_seen : Fct K mg "_law_seen" s_l_seen ["_law_queue_here"]
  d_l_queue : Fct K mg "_law_queue" s_l_queue ["_law_box_here", "_law_count", "_law_size"]
  d_l_notes : Fct K mg "_law_notes" s_l_notes ["_law_box_here", "_law_queue_here"]
  d_l_story : Fct K mg "_law_story" s_l_story ["_law_box_here", "_law_most"]
  d_l_spoilt : Fct K mg "_law_spoilt" s_l_spoilt ["_law_box_here", "_law_book_here"]
  d_l_book : Fct K mg "_law_book" s_l_book ["_law_box_here", "_law_most"]
  d_l_told : Fct K mg "_law_told" s_l_told ["_law_which", "_law_book_here", "_law_item"]
  d_l_right : Fct K mg "_law_right" s_l_right ["_law_box_here"]
  b_abs : mg "abs" = none
  b_all : mg "all" = none
  b_bool : mg "bool" = none
  b_int : mg "int" = none
  b_isinstance : mg "isinstance" = none
  b_len : mg "len" = none
  b_list : mg "list" = none
  b_min : mg "min" = none
  b_range : mg "range" = none
  b_repr : mg "repr" = none
  b_sorted : mg "sorted" = none
  b_str : mg "str" = none
  b_tuple : mg "tuple" = none
  b_zip : mg "zip" = none
end Og6

namespace Og6
open PySem PySem.Spec PyProof.Rows L2 OgR Evl Dw Gx
def iniS (i : Nat) : Stmt := match topS i with
  | .ClassDef _ _ _ b _ _ _ _ _ _ _ => b.getD 0 (.Pass ⟨0, 0, 0, 0⟩)
  | _ => .Pass ⟨0, 0, 0, 0⟩
section
variable {P : Program} {wd : World} {K : PySem.W.Frag} {mg : Str → Option Value} {base : Heap}
structure TopX (K : PySem.W.Frag) (mg : Str → Option Value) (c : Nat → Addr) : Prop where
  x0 : Cls K mg "Misfit" "time" "Misfit.__init__" "ValueError" "ValueError.__new__" "ValueError.__init__" bVE (iniS 3) (c 0)
  x1 : Cls K mg "Noted" "note" "Noted.__init__" "ValueError" "ValueError.__new__" "ValueError.__init__" bVE (iniS 4) (c 1)
  x2 : Cls K mg "NoTime" "time" "NoTime.__init__" "LookupError" "LookupError.__new__" "LookupError.__init__" bLE (iniS 5) (c 2)
  x3 : Cls K mg "NoNote" "note" "NoNote.__init__" "LookupError" "LookupError.__new__" "LookupError.__init__" bLE (iniS 6) (c 3)
  kit : ((List.range 4).all fun i => (List.range 4).all fun j => PySem.W.kitOne K (.ref (c i)) (.ref (c j)) == some (decide (i = j))) = true
  k_ValueError : ((List.range 4).all fun i => PySem.W.kitOne K (.ref (c i)) (.type "ValueError") == some (decide (i ∈ [0, 1]))) = true
  b_ValueError : mg "ValueError" = none
  k_LookupError : ((List.range 4).all fun i => PySem.W.kitOne K (.ref (c i)) (.type "LookupError") == some (decide (i ∈ [2, 3]))) = true
  b_LookupError : mg "LookupError" = none
  exm : ((List.range 4).all fun i => PySem.W.exmAny K (.ref (c i)) [.ref (c 0), .ref (c 3), .ref (c 2), .ref (c 1)] == some (decide (i ∈ [0, 3, 2, 1]))) = true
variable {c : Nat → Addr}
theorem TopX.h_Misfit (Y : TopX K mg c) : mg "Misfit" = some (.ref (c 0)) := Y.x0.here
theorem TopX.h_Noted (Y : TopX K mg c) : mg "Noted" = some (.ref (c 1)) := Y.x1.here
theorem TopX.h_NoTime (Y : TopX K mg c) : mg "NoTime" = some (.ref (c 2)) := Y.x2.here
theorem TopX.h_NoNote (Y : TopX K mg c) : mg "NoNote" = some (.ref (c 3)) := Y.x3.here
theorem all_lt {n : Nat} {f : Nat → Bool} (h : (List.range n).all f = true) {i : Nat} (hi : i < n) : f i = true := List.all_eq_true.mp h i (List.mem_range.mpr hi)
theorem TopX.kt (Y : TopX K mg c) {i j : Nat} (hi : i < 4) (hj : j < 4) : PySem.W.kitOne K (.ref (c i)) (.ref (c j)) = some (decide (i = j)) := eq_of_beq (all_lt (all_lt Y.kit hi) hj)
theorem TopX.kt_ValueError (Y : TopX K mg c) {i : Nat} (hi : i < 4) : PySem.W.kitOne K (.ref (c i)) (.type "ValueError") = some (decide (i ∈ [0, 1])) := eq_of_beq (all_lt Y.k_ValueError hi)
theorem TopX.kt_LookupError (Y : TopX K mg c) {i : Nat} (hi : i < 4) : PySem.W.kitOne K (.ref (c i)) (.type "LookupError") = some (decide (i ∈ [2, 3])) := eq_of_beq (all_lt Y.k_LookupError hi)
theorem TopX.ex (Y : TopX K mg c) {i : Nat} (hi : i < 4) : PySem.W.exmAny K (.ref (c i)) [.ref (c 0), .ref (c 3), .ref (c 2), .ref (c 1)] = some (decide (i ∈ [0, 3, 2, 1])) := eq_of_beq (all_lt Y.exm hi)
def spTfl (K : PySem.W.Frag) : Sp := fun vs H Q _ => ∃ p xs, vs = [.ref p] ∧ SqT K H p xs ∧ Q (.ref p) H
theorem ok_tfl (T : Top wd K mg) : ∃ f fd, FnOk P wd K mg base CX0 1 f fd ["value"] (spTfl K) ∧ Fun K "tuple_for_list" "tuple_for_list" s_tuple_for_list f fd ∧ Binds K fd ["value"] [] ∧ mg "tuple_for_list" = some (.ref f) := by
  obtain ⟨f, fd, F, b, m⟩ := T.d_tuple_for_list.ex
  refine ⟨f, fd, F.ok sc_tuple_for_list (fun vs H Q E h => ?_) (fun cdv A outer s H vs Q E hr h => ?_), F, b, m⟩
  · obtain ⟨p, xs, rfl, _⟩ := h
    rfl
  · obtain ⟨p, xs, rfl, hS, q⟩ := h
    refine ⟨_, pss_cons (ps_if (pt_val (pe_callB call_isi (by rfl) T.b_isinstance (by decide +kernel) (pa_cons (pv 0) (pa_cons (pe_bltn (v := .ty "list") (by rfl) T.b_list (by decide +kernel) rfl) pa_nil)))) (pss_one ps_never) pss_nil) (pss_one (ps_ret (pv 0))), ?_⟩
    refine ⟨_, rfl, .ref p, .ty "list", _, _, false, rfl, .ty _, tyx_T hS, kit_ty (show kitB "tuple" "list" = some false by decide +kernel), ?_⟩
    exact ⟨false, rfl, iteF ⟨_, rfl, q⟩⟩
theorem si_0 : FnScope ["self", "time"] ["self", "time"] (defScope (iniS 3)) := ⟨rfl, rfl, rfl, by decide +kernel, rfl, by decide +kernel, by decide +kernel⟩
theorem mk_Misfit (Y : TopX K mg c) : MkD P wd K mg base "Misfit" "time" false (c 0) := by
  obtain ⟨fI, fd, h1, h2, F, b⟩ := Y.x0.ini
  refine ⟨Y.x0.here, _, _, _, _, fI, fd, Y.x0.xc, Y.x0.ty, h1, h2, (F.ok (k := 1) si_0 (fun vs H Q E h => ?_) (fun cdv A outer s H vs Q E hr h => ?_)), b⟩
  · obtain ⟨a, y, rfl, _⟩ := h
    rfl
  · obtain ⟨a, y, rfl, ha, _, q⟩ := h
    exact ⟨_, pss_one (ps_fld Y.x0.xc (taker Y.x0.fld) (pv 0) (pv 1)), _, rfl, _, rfl, a, rfl, ha, fun dx hd ne => q dx hd ne⟩
theorem names_Misfit {X : Cx} (hm : X.mg "Misfit" = some (.ref (c 0))) (hg : Gl X "Misfit" := by rfl) : Names X "Misfit" (.ref (c 0)) := ⟨hg, by decide, .inl hm⟩
theorem si_1 : FnScope ["self", "note"] ["self", "note"] (defScope (iniS 4)) := ⟨rfl, rfl, rfl, by decide +kernel, rfl, by decide +kernel, by decide +kernel⟩
theorem mk_Noted (T : Top wd K mg) (Y : TopX K mg c) : MkD P wd K mg base "Noted" "note" true (c 1) := by
  obtain ⟨fI, fd, h1, h2, F, b⟩ := Y.x1.ini
  obtain ⟨fT, fdT, GT, FT, bT, gT⟩ := ok_tfl (P := P) (base := base) T
  refine ⟨Y.x1.here, _, _, _, _, fI, fd, Y.x1.xc, Y.x1.ty, h1, h2, (F.ok (k := 1) si_1 (fun vs H Q E h => ?_) (fun cdv A outer s H vs Q E hr h => ?_)), b⟩
  · obtain ⟨a, y, rfl, _⟩ := h
    rfl
  · obtain ⟨a, y, rfl, ha, hp, q⟩ := h
    obtain ⟨p, xs, rfl, hS⟩ := hp rfl
    exact ⟨_, pss_one (ps_fld Y.x1.xc (taker Y.x1.fld) (pv 0) (pe_call GT hr (by rfl) gT FT.kp bT .nil pass0 (pa_cons (pv 1) pa_nil))), _, rfl, p, xs, rfl, hS, _, rfl, a, rfl, ha, fun dx hd ne => q dx hd ne⟩
theorem names_Noted {X : Cx} (hm : X.mg "Noted" = some (.ref (c 1))) (hg : Gl X "Noted" := by rfl) : Names X "Noted" (.ref (c 1)) := ⟨hg, by decide, .inl hm⟩
theorem si_2 : FnScope ["self", "time"] ["self", "time"] (defScope (iniS 5)) := ⟨rfl, rfl, rfl, by decide +kernel, rfl, by decide +kernel, by decide +kernel⟩
theorem mk_NoTime (Y : TopX K mg c) : MkD P wd K mg base "NoTime" "time" false (c 2) := by
  obtain ⟨fI, fd, h1, h2, F, b⟩ := Y.x2.ini
  refine ⟨Y.x2.here, _, _, _, _, fI, fd, Y.x2.xc, Y.x2.ty, h1, h2, (F.ok (k := 1) si_2 (fun vs H Q E h => ?_) (fun cdv A outer s H vs Q E hr h => ?_)), b⟩
  · obtain ⟨a, y, rfl, _⟩ := h
    rfl
  · obtain ⟨a, y, rfl, ha, _, q⟩ := h
    exact ⟨_, pss_one (ps_fld Y.x2.xc (taker Y.x2.fld) (pv 0) (pv 1)), _, rfl, _, rfl, a, rfl, ha, fun dx hd ne => q dx hd ne⟩
theorem names_NoTime {X : Cx} (hm : X.mg "NoTime" = some (.ref (c 2))) (hg : Gl X "NoTime" := by rfl) : Names X "NoTime" (.ref (c 2)) := ⟨hg, by decide, .inl hm⟩
theorem si_3 : FnScope ["self", "note"] ["self", "note"] (defScope (iniS 6)) := ⟨rfl, rfl, rfl, by decide +kernel, rfl, by decide +kernel, by decide +kernel⟩
theorem mk_NoNote (T : Top wd K mg) (Y : TopX K mg c) : MkD P wd K mg base "NoNote" "note" true (c 3) := by
  obtain ⟨fI, fd, h1, h2, F, b⟩ := Y.x3.ini
  obtain ⟨fT, fdT, GT, FT, bT, gT⟩ := ok_tfl (P := P) (base := base) T
  refine ⟨Y.x3.here, _, _, _, _, fI, fd, Y.x3.xc, Y.x3.ty, h1, h2, (F.ok (k := 1) si_3 (fun vs H Q E h => ?_) (fun cdv A outer s H vs Q E hr h => ?_)), b⟩
  · obtain ⟨a, y, rfl, _⟩ := h
    rfl
  · obtain ⟨a, y, rfl, ha, hp, q⟩ := h
    obtain ⟨p, xs, rfl, hS⟩ := hp rfl
    exact ⟨_, pss_one (ps_fld Y.x3.xc (taker Y.x3.fld) (pv 0) (pe_call GT hr (by rfl) gT FT.kp bT .nil pass0 (pa_cons (pv 1) pa_nil))), _, rfl, p, xs, rfl, hS, _, rfl, a, rfl, ha, fun dx hd ne => q dx hd ne⟩
theorem names_NoNote {X : Cx} (hm : X.mg "NoNote" = some (.ref (c 3))) (hg : Gl X "NoNote" := by rfl) : Names X "NoNote" (.ref (c 3)) := ⟨hg, by decide, .inl hm⟩
end
end Og6

namespace Og6
open PySem PySem.Spec PyProof.Rows L2 OgR Evl Dw
local macro_rules | `(tactic| walk_at "d") => `(tactic| first
  | refine ⟨_, rfl, ?_⟩ | refine ⟨_, _, rfl, rfl, ?_⟩ | refine iteT ?_ | refine iteF ?_ | refine ⟨_, _, rfl, rfl, rfl, ?_⟩)
section
variable {P : Program} {wd : World} {K : PySem.W.Frag} {mg : Str → Option Value} {base : Heap}
/-! ### _law_take -/
def spTake : Sp := fun vs H Q _ => ∃ (l : Addr) (c n : Int), vs = [.ref l, .int n] ∧ Dw.BoxAt H l c ∧ 1 ≤ n ∧ n ≤ 10000000 ∧ c < 1000000 ∧
  ∀ r xs c', 0 ≤ r → r < n → Dw.BoxAt (upd H l (.lst xs)) l c' → c' ≤ c + 1 → Q (.int r) (upd H l (.lst xs))
theorem raw_take {f : Addr} {fd : FuncData} {k : Nat} (F : Fun K "_law_take" "_law_take" s_l_take f fd) : FnG P wd K mg base (k + 1) f fd ["_law_box_here", "_law_below"] spTake := by
  refine fnG_of F sc_l_take (fun vs H Q E h => ?_) (fun cdv A outer s H vs Q E hG hr h => ?_)
  · obtain ⟨l, c, n, rfl, _⟩ := h
    rfl
  · obtain ⟨l, c, n, rfl, ⟨a, b, hl, ha, hb, hb2, hc, hc2⟩, hn, hn2, hc3, q⟩ := h
    have hL : SqL K H l [.int a, .int b, .int c] := .inl (.inl hl)
    have X0 : ∀ {X : Cx} {j : Int} {p p1 p2 : Pos} {k : Nat} (hv : PE X (.Name "_law_box_here" p1) (tVar 0)), PE X (.Subscript (.Name "_law_box_here" p1) (.Constant (.int j) k p2) p) (tOp (rIxL X.K) (tVar 0) (fun _ H Q => Q (.int j) H)) := fun hv => pe_ix ix_list hv pe_int (fun _ _ => rfl)
    refine ⟨_, pss_cons (ps_if (pt_cmpR op_gt (X0 (pv 0)) pe_int (nomark _))
        (pss_cons (ps_set (i := 2) sc_l_take.nd rfl (.inl rfl) (pe_op op_mod (X0 (pv 0)) (pv 1)))
          (pss_cons (ps_asg (pe_op op_fdiv (X0 (pv 0)) (pv 1)) (pg_sub (pv 0) pe_int set_list))
          (pss_one (ps_ret (pv 2))))) pss_nil)
      (pss_cons (ps_if (pt_cmpR op_gt (pv 1) (pe_op op_pow pe_int pe_int) (nomark _)) (pss_one ps_never) pss_nil)
      (pss_cons (ps_asg (pe_op op_add (X0 (pv 0)) pe_int) (pg_sub (pv 0) pe_int set_list))
      (pss_cons (ps_set (i := 3) sc_l_take.nd rfl (.inl rfl) (pe_op op_mod (pe_op op_mul (pe_op op_add (X0 (pv 0)) (pe_op op_mul pe_int (X0 (pv 0)))) (pe_op op_add pe_int (X0 (pv 0)))) pe_int))
      (pss_cons (ps_set (i := 4) sc_l_take.nd rfl (.inl rfl) (pe_op op_mod (pe_op op_mul (pe_op op_add (pe_op op_add (pv 3) (X0 (pv 0))) (pe_op op_fdiv (X0 (pv 0)) pe_int)) (pe_op op_add (pe_op op_mod (pv 3) pe_int) pe_int)) pe_int))
      (pss_one (ps_ret (pe_op op_mod (pe_op op_fdiv (pe_op op_mod (pe_op op_add (pe_op op_mul (pv 4) pe_int) (pv 3)) pe_int) pe_int) (pv 1)))))))), ?_⟩
    refine ⟨_, rfl, l, _, 0, _, rfl, rfl, hL, rfl, _, _, rfl, rfl, _, rfl, ite2 (fun e => ?_) (fun e => ?_)⟩
    · have h1 := of_decide_eq_true e
      refine ⟨_, rfl, l, _, 0, _, rfl, rfl, hL, rfl, _, rfl, _, _, rfl, rfl, by omega, ?_⟩
      refine ⟨_, rfl, l, _, 0, _, rfl, rfl, hL, rfl, _, rfl, _, _, rfl, rfl, ⟨by omega, by omega⟩, _, rfl, l, _, 0, 0, rfl, rfl, hl, rfl, ?_⟩
      refine ⟨_, rfl, ?_⟩
      refine q _ _ c (Int.emod_nonneg _ (by omega)) (Int.emod_lt_of_pos _ (by omega)) ⟨_, _, upd_same, Int.ediv_nonneg ha (by omega), hb, hb2, hc, hc2⟩ (by omega)
    · refine ⟨_, rfl, _, _, rfl, rfl, ⟨by decide, by decide, by decide⟩, _, _, rfl, rfl, _, rfl, ite2 (fun e2 => ?_) (fun e2 => ?_)⟩
      · have h2 := of_decide_eq_true e2
        exact absurd h2 (by show ¬ ((10 : Int) ^ 7 < n); omega)
      · refine ⟨_, rfl, l, _, 2, _, rfl, rfl, hL, rfl, _, _, rfl, rfl, _, rfl, l, _, 2, 2, rfl, rfl, hl, rfl, ?_⟩
        have hl2 : upd H l (.lst [.int a, .int b, .int (c + 1)]) l = some (.lst [.int a, .int b, .int (c + 1)]) := upd_same
        have hL2 : SqL K (upd H l (.lst [.int a, .int b, .int (c + 1)])) l [.int a, .int b, .int (c + 1)] := .inl (.inl hl2)
        show tSeq _ _ _ _ (upd H l (.lst [.int a, .int b, .int (c + 1)]))
        refine ⟨_, rfl, l, _, 1, _, rfl, rfl, hL2, rfl, _, rfl, l, _, 2, _, rfl, rfl, hL2, rfl, _, _, rfl, rfl, .inl ⟨by decide, by decide⟩, _, _, rfl, rfl, _, rfl, l, _, 2, _, rfl, rfl, hL2, rfl, _, _, rfl, rfl, _, _, rfl, rfl, .inl ⟨by omega, by omega⟩, _, _, rfl, rfl, by omega, ?_⟩
        refine ⟨_, rfl, _, rfl, l, _, 2, _, rfl, rfl, hL2, rfl, _, _, rfl, rfl, _, rfl, l, _, 1, _, rfl, rfl, hL2, rfl, _, _, rfl, rfl, ⟨by decide, by decide⟩, _, _, rfl, rfl, _, rfl, _, _, rfl, rfl, by omega, _, _, rfl, rfl, _, _, rfl, rfl, .inr ⟨?_, ?_⟩, _, _, rfl, rfl, by omega, ?_⟩
        · have := Int.emod_nonneg ((b + 48271 * (c + 1)) * (39373 + (c + 1)) % 2147483647) (show (40009 : Int) ≠ 0 by decide); omega
        · have := Int.emod_lt_of_pos ((b + 48271 * (c + 1)) * (39373 + (c + 1)) % 2147483647) (show (0 : Int) < 40009 by decide); omega
        · refine ⟨_, rfl, _, _, rfl, rfl, .inr ⟨by decide, by decide⟩, _, rfl, _, _, rfl, rfl, _, _, rfl, rfl, by omega, _, _, rfl, rfl, ⟨by decide, by decide⟩, _, rfl, _, _, rfl, rfl, by omega, ?_⟩
          exact q _ _ (c + 1) (Int.emod_nonneg _ (by omega)) (Int.emod_lt_of_pos _ (by omega)) ⟨_, _, upd_same, ha, hb, hb2, by omega, by omega⟩ (by omega)
def f_take : FB := fun ds c R => ∃ n : Int, ds = [.int n] ∧ 1 ≤ n ∧ n ≤ 10000000 ∧ c < 1000000 ∧ ∀ r c', 0 ≤ r → r < n → c' ≤ c + 1 → R (.int r) c'
theorem ok_l_take (T : Top wd K mg) : Def P wd K mg base 1 "_law_take" s_l_take ["_law_box_here", "_law_below"] (spB K f_take) := by
  obtain ⟨f, fd, F, b, m⟩ := T.d_l_take.ex
  refine Def.imp (sp := spTake) ⟨f, fd, raw_take F, F, b, m⟩ fun vs H Q E h => ?_
  obtain ⟨l, vs', G, ds, c, R, rfl, hB, hGl, gh, p, ⟨n, rfl, h1, h2, h3, hR⟩, kk⟩ := h
  cases p with
  | cons p1 p2 =>
    cases p2
    refine ⟨l, c, n, by rw [dp_int p1], hB, h1, h2, h3, fun r xs c' r0 r1 hB' hc' => kk (.int r) (.int r) c' G _ (hR r c' r0 r1 hc') (Ex.refl G) (fun b o hb h => by rw [upd_ne hb]; exact h) hB' (fun b o h => ?_) (Nw.refl G H) (.int r)⟩
    rw [upd_ne (fun z => by rw [z, hGl] at h; cases h)]
    exact gh b o h
/-! ### _law_of -/
def f_of : FB := fun ds c R => ∃ x, ds = [x] ∧ seqd x = true ∧ 1 ≤ (its x).length ∧ (its x).length ≤ 1000 ∧ c < 1000000 ∧ ∀ d c', d ∈ its x → c' ≤ c + 1 → R d c'
theorem ok_l_of (T : Top wd K mg) : Def P wd K mg base 2 "_law_of" s_l_of ["_law_box_here", "_law_some"] (spB K f_of) := by
  have g_l_take := ok_l_take (P := P) (base := base) T
  refine Def.draws T.d_l_of sc_l_of (fun ds c R h => by obtain ⟨x, rfl, _⟩ := h; rfl) (fun f cdv A outer s H G l E ds c R hG hr h => ?_)
  obtain ⟨x, rfl, hs, h1, h2, hc, q⟩ := h
  refine ⟨_, _, (dss_one (ds_ret (de_ix rfl (dp_v 1) (DE.p (de_cB 0 g_l_take hG (hr.mono (by omega)) (by rfl) (da_cons (de_len rfl (by rfl) T.b_len (dp_v 1)) da_nil)))))), ?_⟩
  have hl : lenD x = some (its x).length := by cases x <;> first | rfl | cases hs
  refine ⟨_, x, rfl, rfl, rfl, _, x, rfl, rfl, (its x).length, hl, _, rfl, by omega, by omega, hc, fun r c' r0 r1 hc' => ?_⟩
  have hr2 : r.toNat < (its x).length := by omega
  refine ⟨r, _, hs, rfl, ?_, q _ c' (List.getElem_mem hr2) hc'⟩
  unfold atI ixN
  rw [if_pos r0, if_pos r1]
  exact List.getElem?_eq_getElem hr2
end
end Og6

namespace Og6
open PySem PySem.Spec PyProof.Rows L2 OgR Evl Dw
local macro_rules | `(tactic| walk_at "d") => `(tactic| first
  | refine ⟨_, rfl, ?_⟩ | refine ⟨_, _, rfl, rfl, ?_⟩ | refine iteT ?_ | refine iteF ?_ | refine ⟨_, _, rfl, rfl, rfl, ?_⟩ | refine ⟨rfl, ?_⟩)
def OnB (w : Nat) (C : PyData → Prop) (d : PyData) : Prop := FlB d ∨ ∃ es, (d = .list es ∨ d = .tuple es) ∧ es.length ≤ w ∧ ∀ x ∈ es, C x
theorem eqvAll_refl : ∀ {l : List PyData}, (∀ x ∈ l, PyData.eqv x x = true) → PyData.eqvAll l l = true
  | [], _ => by simp only [PyData.eqvAll]
  | x :: l, h => by simp only [PyData.eqvAll, h x List.mem_cons_self, eqvAll_refl fun y hy => h y (List.mem_cons_of_mem _ hy), Bool.and_self]
theorem flat_refl {d : PyData} (h : FlB d) : PyData.eqv d d = true := by
  cases d with
  | none => simp only [PyData.eqv]
  | bool b => rw [eqv_bool]; simp
  | int i => rw [eqv_int]; simp
  | str z => rw [eqv_str]; simp
  | list _ => exact h.elim
  | tuple _ => exact h.elim
  | dict _ => exact h.elim
theorem FlB.shp {d : PyData} (h : FlB d) : Shp d := Bd.shp (w := 0) (k := 0) h (by decide)
theorem zip_self {es : List PyData} {x : PyData} (h : x ∈ zipD es es) : ∃ d ∈ es, x = .tuple [d, d] := by
  unfold zipD at h
  induction es with
  | nil => simp at h
  | cons e es ih =>
    rw [List.zipWith_cons_cons] at h
    rcases List.mem_cons.mp h with rfl | h
    · exact ⟨e, List.mem_cons_self, rfl⟩
    · obtain ⟨d, hd, r⟩ := ih h
      exact ⟨d, List.mem_cons_of_mem _ hd, r⟩
theorem zip_len (es : List PyData) : (zipD es es).length = es.length := by unfold zipD; rw [List.length_zipWith]; omega
theorem all_true {l : List PyData} : ((l.map fun _ => true).all id) = true := by rw [List.all_map]; simp
section
variable {P : Program} {wd : World} {K : PySem.W.Frag} {mg : Str → Option Value} {base : Heap}
def f_same (C : PyData → Prop) : FP := fun ds R => ∃ d, ds = [d, d] ∧ C d ∧ R (.bool true)
theorem same_step (T : Top wd K mg) {m w : Nat} {C : PyData → Prop} (hw : w ≤ 1000) (g_l_same : Def P wd K mg base m "_law_same" s_l_same ["_law_found", "_law_due"] (spP K (f_same C))) :
    Def P wd K mg base (m + 1) "_law_same" s_l_same ["_law_found", "_law_due"] (spP K (f_same (OnB w C))) := by
  refine Def.pure T.d_l_same sc_l_same (fun ds R h => by obtain ⟨d, rfl, _⟩ := h; rfl) (fun f cdv A outer s H G E ds R hG hr h => ?_)
  obtain ⟨d, rfl, hd, q⟩ := h
  refine ⟨_, _, (dss_cons (ds_if (dt_val (de_isi2 .list .tuple rfl (by rfl) T.b_isinstance (by rfl) T.b_list (by decide +kernel) (by rfl) T.b_tuple (by decide +kernel) (dp_v 1))) (dss_cons (ds_if (DW.q (dw_or (dt_cmp (o_ne rfl hr.units) (DE.p (de_isi .list rfl (by rfl) T.b_isinstance (by rfl) T.b_list (by decide +kernel) (dp_v 0))) (DE.p (de_isi .list rfl (by rfl) T.b_isinstance (by rfl) T.b_list (by decide +kernel) (dp_v 1)))) (dw_or1 (dt_cmp (o_ne rfl hr.units) (DE.p (de_isi .tuple rfl (by rfl) T.b_isinstance (by rfl) T.b_tuple (by decide +kernel) (dp_v 0))) (DE.p (de_isi .tuple rfl (by rfl) T.b_isinstance (by rfl) T.b_tuple (by decide +kernel) (dp_v 1))))))) (dss_one (ds_ret de_bl)) dss_nil)
        (dss_one (ds_ret (de_and (de_cmp (o_eq rfl hr.units) (DE.p (de_len rfl (by rfl) T.b_len (dp_v 0))) (DE.p (de_len rfl (by rfl) T.b_len (dp_v 1)))) (de_one (de_all rfl (by rfl) (by rfl) T.b_all (DE.p (DO.d (do_lc (own := [("_law_a", 2), ("_law_b", 3)]) (by rfl) sc_l_same.nd (di_zip2 rfl (by rfl) T.b_zip (de_v 0) (de_v 1)) (blkOk_by (own := [("_law_a", 2), ("_law_b", 3)]) (N := ["_law_found", "_law_due", "_law_a", "_law_b"]) (sc := defScope s_l_same) (by decide +kernel)) (fun _ _ _ _ _ => (dg_tup (n := 2) rfl (by rfl) (dgs_c (dg_name 2 sc_l_same.nd (hf := Or.inr rfl)) (dgs_c (dg_name 3 sc_l_same.nd (hf := Or.inr rfl)) dgs_nil)))) ts_no (fun _ _ _ _ _ => (de_c g_l_same hG (hr.mono (by omega)) (by rfl) (da_cons (de_v 2) (da_cons (de_v 3) da_nil))))))))))))) dss_nil)
      (dss_cons (ds_if (DW.q (dw_or (dt_cmp o_isN (dp_v 1) (DE.p de_non)) (dw_or1 (dt_val (de_isi2 .bool .str rfl (by rfl) T.b_isinstance (by rfl) T.b_bool (by decide +kernel) (by rfl) T.b_str (by decide +kernel) (dp_v 1)))))) (dss_one (ds_ret (de_and (de_cmp (o_eq rfl hr.units) (dp_v 0) (dp_v 1)) (de_and (de_cmp (o_eq rfl hr.units) (DE.p (de_isi .bool rfl (by rfl) T.b_isinstance (by rfl) T.b_bool (by decide +kernel) (dp_v 0))) (DE.p (de_isi .bool rfl (by rfl) T.b_isinstance (by rfl) T.b_bool (by decide +kernel) (dp_v 1)))) (de_one (de_cmp (o_eq rfl hr.units) (DE.p (de_cmp o_isN (dp_v 0) (DE.p de_non))) (DE.p (de_cmp o_isN (dp_v 1) (DE.p de_non))))))))) dss_nil)
      (dss_one (ds_ret (de_and (de_isi .int rfl (by rfl) T.b_isinstance (by rfl) T.b_int (by decide +kernel) (dp_v 0)) (de_and (de_not (de_isi .bool rfl (by rfl) T.b_isinstance (by rfl) T.b_bool (by decide +kernel) (dp_v 0))) (de_one (de_cmp (o_eq rfl hr.units) (dp_v 0) (dp_v 1))))))))), ?_⟩
  have flat : ∀ d : PyData, FlB d → Shp d := fun d h => FlB.shp h
  rcases hd with hf | ⟨es, he, hl, hC⟩
  · cases d with
    | none =>
      repeat walk_at "d"
      exact q
    | bool b =>
      repeat walk_at "d"
      rw [eqv_bool, decide_eq_true rfl]
      repeat walk_at "d"
      exact q
    | int i =>
      repeat walk_at "d"
      rw [eqv_int, decide_eq_true rfl]
      exact q
    | str z =>
      repeat walk_at "d"
      refine ⟨flat _ hf, flat _ hf, ?_⟩
      rw [eqv_str, decide_eq_true rfl]
      repeat walk_at "d"
      exact q
    | list _ => exact hf.elim
    | tuple _ => exact hf.elim
    | dict _ => exact hf.elim
  · rcases he with rfl | rfl
    all_goals
      repeat walk_at "d"
      rw [eqv_int, decide_eq_true rfl]
      repeat walk_at "d"
      refine lc_map (fun _ => .bool true) (by show (zipD es es).length ≤ _; rw [zip_len]; omega) (fun x hx acc J hacc hJ => ?_) ⟨(zipD es es).map fun _ => true, by rw [List.map_map]; rfl, ?_⟩
      · obtain ⟨y, hy, rfl⟩ := zip_self hx
        exact ⟨rfl, rfl, y, [y], rfl, y, [], rfl, rfl, y, rfl, y, rfl, y, rfl, hC y hy, rfl, hacc, hJ⟩
      · rw [all_true]
        exact q
theorem ok_l_same (T : Top wd K mg) {w : Nat} (hw : w ≤ 1000) : ∀ k : Nat, Def P wd K mg base (k + 1) "_law_same" s_l_same ["_law_found", "_law_due"] (spP K (f_same (Bd w k)))
  | 0 => by
    have h0 : Def P wd K mg base 0 "_law_same" s_l_same ["_law_found", "_law_due"] (spP K (f_same fun _ => False)) := Def.no T.d_l_same fun vs H Q E h => by
      obtain ⟨_, _, _, _, _, ⟨_, _, h, _⟩, _⟩ := h
      exact h
    refine (same_step T hw h0).imp fun vs H Q E h => ?_
    obtain ⟨G, ds, R, h1, h2, ⟨d, h3, h4, h5⟩, h6⟩ := h
    exact ⟨G, ds, R, h1, h2, ⟨d, h3, .inl h4, h5⟩, h6⟩
  | k + 1 => same_step T hw (ok_l_same T hw k)
/-! ### _law_lists -/
def softK : Nat → PyData → PyData
  | 0, d => d
  | k + 1, d => if seqd d = true then .list ((its d).map (softK k)) else d
def f_lists (C : PyData → Prop) (g : PyData → PyData) : FP := fun ds R => ∃ d, ds = [d] ∧ C d ∧ R (g d)
theorem lists_step (T : Top wd K mg) {m w : Nat} {C : PyData → Prop} {g : PyData → PyData} (hw : w ≤ 1000) (g_l_lists : Def P wd K mg base m "_law_lists" s_l_lists ["_law_part"] (spP K (f_lists C g))) :
    Def P wd K mg base (m + 1) "_law_lists" s_l_lists ["_law_part"] (spP K (f_lists (OnB w C) fun d => if seqd d = true then .list ((its d).map g) else d)) := by
  refine Def.pure T.d_l_lists sc_l_lists (fun ds R h => by obtain ⟨d, rfl, _⟩ := h; rfl) (fun f cdv A outer s H G E ds R hG hr h => ?_)
  obtain ⟨d, rfl, hd, q⟩ := h
  refine ⟨_, _, (dss_one (ds_ret (de_if (dt_val (de_isi2 .list .tuple rfl (by rfl) T.b_isinstance (by rfl) T.b_list (by decide +kernel) (by rfl) T.b_tuple (by decide +kernel) (dp_v 0))) (DO.d (do_lc (own := [("_law_piece", 1)]) (by rfl) sc_l_lists.nd (di_seq rfl (de_v 0)) (blkOk_by (own := [("_law_piece", 1)]) (N := ["_law_part", "_law_piece"]) (sc := defScope s_l_lists) (by decide +kernel)) (fun _ _ _ _ _ => (dg_name 1 sc_l_lists.nd (hf := Or.inr rfl))) ts_no (fun _ _ _ _ _ => (de_c g_l_lists hG (hr.mono (by omega)) (by rfl) (da_cons (de_v 1) da_nil))))) (de_v 0)))), ?_⟩
  rcases hd with hf | ⟨es, he, hl, hC⟩
  · cases d with
    | list _ => exact hf.elim
    | tuple _ => exact hf.elim
    | dict _ => exact hf.elim
    | _ =>
      repeat walk_at "d"
      exact q
  · rcases he with rfl | rfl
    all_goals
      repeat walk_at "d"
      refine lc_map g (show es.length ≤ 99999 by omega) (fun x hx acc J hacc hJ => ⟨x, rfl, x, rfl, hC x hx, rfl, hacc, hJ⟩) q
theorem ok_l_lists (T : Top wd K mg) {w : Nat} (hw : w ≤ 1000) : ∀ k : Nat, Def P wd K mg base (k + 1) "_law_lists" s_l_lists ["_law_part"] (spP K (f_lists (Bd w k) (softK k)))
  | 0 => by
    have h0 : Def P wd K mg base 0 "_law_lists" s_l_lists ["_law_part"] (spP K (f_lists (fun _ => False) id)) := Def.no T.d_l_lists fun vs H Q E h => by
      obtain ⟨_, _, _, _, _, ⟨_, _, h, _⟩, _⟩ := h
      exact h
    refine (lists_step T hw h0).imp fun vs H Q E h => ?_
    obtain ⟨G, ds, R, h1, h2, ⟨d, h3, h4, h5⟩, h6⟩ := h
    refine ⟨G, ds, R, h1, h2, ⟨d, h3, .inl h4, ?_⟩, h6⟩
    have e : seqd d = false := by cases d <;> first | rfl | exact (h4 : False).elim
    simp only [e]
    exact h5
  | k + 1 => lists_step T hw (ok_l_lists T hw k)
end
end Og6

namespace Og6
open PySem PySem.Spec PyProof.Rows L2 OgR Evl Dw OgM
local macro_rules | `(tactic| walk_at "d") => `(tactic| first
  | refine ⟨_, rfl, ?_⟩ | refine ⟨_, _, rfl, rfl, ?_⟩ | refine iteT ?_ | refine iteF ?_ | refine ⟨_, _, rfl, rfl, rfl, ?_⟩ | refine ⟨rfl, ?_⟩)
theorem sortI_perm (ns : List Int) : (sortI ns).Perm ns := List.mergeSort_perm ns _
theorem sortI_le (ns : List Int) : (sortI ns).Pairwise (· ≤ ·) := by
  have := List.pairwise_mergeSort (le := fun a b : Int => decide (a ≤ b)) (fun a b c h1 h2 => by simp at *; omega) (fun a b => by simp; omega) ns
  exact this.imp fun h => by simpa using h
def runD (x : Seg) : PyData := .list ((sgi x).map .int)
def runsD (g : List Seg) : List PyData := g.map runD
theorem at_last {α : Type} (l : List α) (x : α) : atI (l ++ [x]) (-1) = some x := by
  unfold atI ixN
  rw [if_neg (by decide), if_pos (by rw [List.length_append]; simp; omega), List.length_append]
  show (l ++ [x])[((-1 : Int) + ((l.length + 1 : Nat) : Int)).toNat]? = some x
  rw [show ((-1 : Int) + ((l.length + 1 : Nat) : Int)).toNat = l.length by omega, List.getElem?_concat_length]
theorem run_last (x : Seg) : atI ((sgi x).map PyData.int) (-1) = some (.int (x.1 + x.2)) := by
  obtain ⟨l0, hl0⟩ := List.getLast?_eq_some_iff.mp (sgi_last x)
  rw [hl0, List.map_append]
  exact at_last _ _
theorem run_head (x : Seg) : atI ((sgi x).map PyData.int) 0 = some (.int x.1) := by
  obtain ⟨l0, hl0⟩ := List.head?_eq_some_iff.mp (sgi_head x)
  rw [hl0]
  unfold atI ixN
  rw [if_pos (by decide), if_pos (by simp)]
  rfl
theorem eqv_nilR (g : List Seg) : PyData.eqv (.list (runsD g)) (.list []) = g.isEmpty := by
  cases g <;> simp [runsD, PyData.eqv, PyData.eqvAll]
theorem can_ints (l : List Int) : PyData.canLayAll0 (l.map PyData.int) = true := canAll fun d h => by
  obtain ⟨i, _, rfl⟩ := List.mem_map.mp h
  simp only [PyData.canLay0]
theorem dep_ints (l : List Int) : PyData.depthAll (l.map PyData.int) ≤ 0 := depAll fun d h => by
  obtain ⟨i, _, rfl⟩ := List.mem_map.mp h
  simp only [PyData.depth]
  exact Nat.le_refl _
theorem shp_intsT (l : List Int) : Shp (.tuple (l.map .int)) := Bool.and_eq_true_iff.mpr ⟨by simp only [PyData.canLay0]; exact can_ints l, decide_eq_true (by simp only [PyData.depth]; have := dep_ints l; omega)⟩
theorem shp_ints (l : List Int) : Shp (.list (l.map .int)) := Bool.and_eq_true_iff.mpr ⟨by simp only [PyData.canLay0]; exact can_ints l, decide_eq_true (by simp only [PyData.depth]; have := dep_ints l; omega)⟩
theorem shp_runs (g : List Seg) : Shp (.list (runsD g)) := by
  refine Bool.and_eq_true_iff.mpr ⟨?_, decide_eq_true ?_⟩
  · simp only [PyData.canLay0]
    refine canAll fun d h => ?_
    obtain ⟨x, _, rfl⟩ := List.mem_map.mp h
    simp only [runD, PyData.canLay0]
    exact can_ints _
  · simp only [PyData.depth]
    have : PyData.depthAll (runsD g) ≤ 1 := depAll fun d h => by
      obtain ⟨x, _, rfl⟩ := List.mem_map.mp h
      simp only [runD, PyData.depth]
      have := dep_ints (sgi x)
      omega
    omega
section
variable {P : Program} {wd : World} {K : PySem.W.Frag} {mg : Str → Option Value} {base : Heap}
def f_runs : FP := fun ds R => ∃ b ns, ds = [b] ∧ seqd b = true ∧ its b = ns.map .int ∧ ns.Nodup ∧ ns.length ≤ 1000 ∧ R (.list (runsD (segs ns)))
theorem ok_l_runs (T : Top wd K mg) : Def P wd K mg base 1 "_law_runs" s_l_runs ["_law_there"] (spP K f_runs) := by
  refine Def.pure T.d_l_runs sc_l_runs (fun ds R h => by obtain ⟨_, _, rfl, _⟩ := h; rfl) (fun f cdv A outer s H G E ds R hG hr h => ?_)
  obtain ⟨b, ns, rfl, hs, he, hnd, hl, q⟩ := h
  refine ⟨_, _, (dss_cons (ds_own 1 sc_l_runs.nd (do_lst da_nil))
      (dss_cons (ds_for PassesOwn.never (by rfl) (di_seq rfl (DO.d (do_sorted rfl (by rfl) T.b_sorted (dp_v 0)))) (dg_name 2 sc_l_runs.nd)
        (dss_one (ds_if (DW.q (dw_and (dt_cmp (o_ne rfl hr.units) (dp_v 1) (DE.p (DO.d (do_lst da_nil)))) (dw_and1 (dt_cmp (o_eq rfl hr.units) (DE.p (de_ix rfl (DE.p (de_ix rfl (dp_v 1) (DE.p (de_neg de_int)))) (DE.p (de_neg de_int)))) (DE.p (de_bin o_sub (dp_v 2) (DE.p de_int))))))) (dss_cons (ds_popTo 3 1 rfl sc_l_runs.nd (pe_bm0 PySem.F.plainAttrs_list PySem.F.slot_list_pop PySem.F.type_list_pop mt_pop (pv 1)))
          (dss_one (ds_app 1 rfl (DO.d (do_catP rfl (dp_v 3) (DE.p (DO.d (do_lst (da_cons (de_v 2) da_nil))))))))) (dss_one (ds_app 1 rfl (DO.d (do_lst (da_cons (de_v 2) da_nil))))))))
      (dss_one (ds_ret (de_pub 1))))), ?_⟩
  have hperm := sortI_perm ns
  have rise := rise_of hnd hperm (sortI_le ns)
  have hseg : segs (sortI ns) = segs ns := segs_eq (hperm.nodup_iff.mpr hnd) hnd fun q => hperm.mem_iff
  have hlk : (sortI ns).length ≤ 1000 := by rw [hperm.length_eq]; exact hl
  generalize hk : sortI ns = ks at *
  refine ⟨Nat.zero_le _, _, b, rfl, rfl, ns, hs, he, rfl, for_by (fun i s2 => ∃ y2 y3, s2 = ⟨[some (.d b), some (.own (runsD (segs (ks.take i)))), y2, y3], 0⟩) ⟨none, none, rfl⟩ (fun i d s2 J hi inv hJ => ?_) (fun s2 inv => ?_)⟩
  · obtain ⟨y2, y3, rfl⟩ := inv
    have hi : ((sortI ns).map PyData.int)[i]? = some d := hi
    rw [hk, List.getElem?_map] at hi
    obtain ⟨z, hz, rfl⟩ := Option.map_eq_some_iff.mp hi
    have hstep : segs (ks.take (i + 1)) = runStep (segs (ks.take i)) z := by
      rw [take_snoc hz]
      refine segs_rise (rise.sublist (List.take_sublist _ _)) fun q hq => ?_
      have hh := rise.sublist (List.take_sublist (i + 1) ks)
      rw [take_snoc hz, List.pairwise_append] at hh
      exact hh.2.2 q hq z (by simp)
    rw [hstep] at hJ
    have hlq : (segs (ks.take i)).length ≤ 1000 := by
      have q1 := segs_len (ks.take i)
      rw [List.length_take] at q1
      omega
    have hsz : ∀ x ∈ segs (ks.take i), x.2 + 1 ≤ 1000 := fun x hx => by
      have h7 := size_mem hx
      rw [segs_size, List.length_take] at h7
      omega
    generalize segs (ks.take i) = g at hlq hsz hJ
    repeat walk_at "d"
    refine ⟨Nat.zero_le _, shp_runs _, rfl, _, rfl, ?_⟩
    rw [eqv_nilR]
    rcases List.eq_nil_or_concat g with rfl | ⟨g', x, hg⟩
    · refine iteF (iteF ?_)
      refine ⟨⟨_, rfl⟩, .int z, rfl, (show 1 ≤ 100000 by decide), _, rfl, .list [.int z], rfl, (show 0 < 100000 by decide), ?_⟩
      refine hJ _ ⟨some (.d (.int z)), y3, ?_⟩
      have e2 : runsD (runStep [] z) = [.list [.int z]] := by
        unfold runsD runD runStep
        simp [sgi]
      rw [e2]
      rfl
    · rw [List.concat_eq_append] at hg
      subst hg
      obtain ⟨s0, n0⟩ := x
      have hne : (g' ++ [(s0, n0)]).isEmpty = false := by simp
      rw [hne]
      refine iteT ?_
      have e1 : runsD (g' ++ [(s0, n0)]) = runsD g' ++ [runD (s0, n0)] := by unfold runsD; rw [List.map_append]; rfl
      rw [e1]
      have hlg : (runsD g').length < 1000 := by
        unfold runsD
        rw [List.length_map]
        rw [List.length_append] at hlq
        simp at hlq
        omega
      refine ⟨_, _, rfl, rfl, 1, rfl, -1, _, rfl, rfl, at_last _ _, 1, rfl, -1, _, rfl, rfl, run_last _, _, _, rfl, rfl, _, _, rfl, rfl, shp_int _, shp_int _, _, rfl, ?_⟩
      rw [eqv_int]
      refine ite2 (fun hc => ?_) (fun hc => ?_)
      · have hc' : s0 + (n0 : Int) = z - 1 := of_decide_eq_true hc
        refine ⟨⟨_, rfl⟩, _, rfl, runsD g', runD (s0, n0), rfl, rfl, ?_⟩
        have hn := hsz (s0, n0) (by simp)
        refine ⟨⟨_, rfl⟩, _, _, rfl, rfl, .int z, rfl, (show 1 ≤ 100000 by decide), (sgi (s0, n0)).map .int, [.int z], rfl, rfl, ?_, _, rfl, _, rfl, by omega, ?_⟩
        · rw [List.length_map, sgi_len]
          show n0 + 1 + 1 ≤ 100000
          have : n0 + 1 ≤ 1000 := hn
          omega
        · refine hJ _ ⟨some (.d (.int z)), some (.d (runD (s0, n0))), ?_⟩
          have e3 : runStep (g' ++ [(s0, n0)]) z = g' ++ [(s0, n0 + 1)] := by
            unfold runStep
            rw [getLast_snoc]
            show (if s0 + (n0 : Int) = z - 1 then _ else _) = _
            rw [if_pos hc', List.dropLast_concat]
          have e9 := sgi_snoc s0 n0
          rw [show s0 + (n0 : Int) + 1 = z by omega] at e9
          have e2 : runsD (g' ++ [(s0, n0 + 1)]) = runsD g' ++ [.list ((sgi (s0, n0)).map .int ++ [.int z])] := by
            have e4 : runD (s0, n0 + 1) = .list ((sgi (s0, n0)).map .int ++ [.int z]) := by
              unfold runD
              rw [← e9, List.map_append]
              rfl
            unfold runsD
            rw [List.map_append, ← e4]
            rfl
          rw [e3, e2]
          rfl
      · have hc' : ¬ s0 + (n0 : Int) = z - 1 := fun h => hc (decide_eq_true h)
        refine ⟨⟨_, rfl⟩, .int z, rfl, (show 1 ≤ 100000 by decide), _, rfl, .list [.int z], rfl, ?_, ?_⟩
        · rw [List.length_append]
          simp
          omega
        · refine hJ _ ⟨some (.d (.int z)), y3, ?_⟩
          have e3 : runStep (g' ++ [(s0, n0)]) z = g' ++ [(s0, n0)] ++ [(z, 0)] := by
            unfold runStep
            rw [getLast_snoc]
            show (if s0 + (n0 : Int) = z - 1 then _ else _) = _
            rw [if_neg hc']
          have e2 : runsD (g' ++ [(s0, n0)] ++ [(z, 0)]) = runsD g' ++ [runD (s0, n0)] ++ [.list [.int z]] := by
            unfold runsD runD
            rw [List.map_append, List.map_append]
            simp [sgi]
          rw [e3, e2]
          rfl
  · obtain ⟨y2, y3, rfl⟩ := inv
    have hlen : (its (PyData.list ((sortI ns).map .int))).length = ks.length := by
      show ((sortI ns).map PyData.int).length = _
      rw [hk, List.length_map]
    refine ⟨_, rfl, ?_⟩
    have e3 : ks.take (its (PyData.list ((sortI ns).map .int))).length = ks := by rw [hlen, List.take_length]
    show R (.list (runsD (segs (ks.take _))))
    rw [e3, hseg]
    exact q
end
end Og6

namespace Og6
open PySem PySem.Spec PyProof.Rows L2 OgR Evl Dw OgM
local macro_rules | `(tactic| walk_at "d") => `(tactic| first
  | refine ⟨_, rfl, ?_⟩ | refine ⟨_, _, rfl, rfl, ?_⟩ | refine iteT ?_ | refine iteF ?_ | refine ⟨_, _, rfl, rfl, rfl, ?_⟩ | refine ⟨rfl, ?_⟩)
theorem eqv_nilL (ds : List PyData) : PyData.eqv (.list ds) (.list []) = ds.isEmpty := by
  cases ds <;> simp [PyData.eqv, PyData.eqvAll]
theorem len_erase : ∀ {l : List Int} {x : Int}, l.Nodup → x ∈ l → (l.filter fun y => decide (y ≠ x)).length + 1 = l.length
  | [], x, _, h => by simp at h
  | y :: l, x, hn, h => by
    rw [List.nodup_cons] at hn
    by_cases e : y = x
    · subst e
      rw [List.filter_cons_of_neg (by simp)]
      have : l.filter (fun z => decide (z ≠ y)) = l := List.filter_eq_self.mpr fun z hz => decide_eq_true fun e => hn.1 (e ▸ hz)
      rw [this]
      rfl
    · rw [List.filter_cons_of_pos (by simp [e])]
      rcases List.mem_cons.mp h with h | h
      · exact absurd h.symm e
      · have := len_erase hn.2 h
        simp only [List.length_cons]
        omega
structure QInv (n i : Nat) (left row : List Int) : Prop where
  nl : left.Nodup
  nr : row.Nodup
  len : left.length + row.length = n
  rl : row.length = i
  dis : ∀ x ∈ left, x ∉ row
  bl : ∀ x ∈ left, 0 ≤ x ∧ x < n
  br : ∀ x ∈ row, 0 ≤ x ∧ x < n
theorem QInv.step {n i : Nat} {left row : List Int} (h : QInv n i left row) {x : Int} (hx : x ∈ left) : QInv n (i + 1) (left.filter fun y => decide (y ≠ x)) (row ++ [x]) := by
  have hl := len_erase h.nl hx
  refine ⟨h.nl.filter _, ?_, ?_, by rw [List.length_append, h.rl]; rfl, fun y hy => ?_, fun y hy => h.bl y ((List.mem_filter.mp hy).1), fun y hy => ?_⟩
  · rw [List.nodup_append]
    refine ⟨h.nr, by simp, fun a ha b hb e => ?_⟩
    rw [List.mem_singleton] at hb
    subst hb
    subst e
    exact h.dis a hx ha
  · have := h.len
    rw [List.length_append, List.length_singleton]
    omega
  · obtain ⟨h1, h2⟩ := List.mem_filter.mp hy
    have : y ≠ x := of_decide_eq_true h2
    rw [List.mem_append, List.mem_singleton, not_or]
    exact ⟨h.dis y h1, this⟩
  · rcases List.mem_append.mp hy with h1 | h1
    · exact h.br y h1
    · rw [List.mem_singleton.mp h1]
      exact h.bl x hx
theorem iota_ints (n : Nat) : iotaD 0 (n : Int) = ((List.range n).map fun (i : Nat) => (i : Int)).map PyData.int := by
  unfold iotaD
  rw [List.map_map, Int.sub_zero, Int.toNat_natCast]
  refine List.map_congr_left fun i _ => ?_
  show PyData.int (0 + (i : Int)) = PyData.int (i : Int)
  rw [Int.zero_add]
theorem QInv.start (n : Nat) : QInv n 0 ((List.range n).map fun (i : Nat) => (i : Int)) [] := by
  refine ⟨?_, List.nodup_nil, by simp, rfl, fun x _ => by simp, fun x hx => ?_, fun x hx => by simp at hx⟩
  · refine List.pairwise_map.mpr (List.nodup_range.imp fun {a b} h e => h ?_)
    exact Int.ofNat.inj e
  · obtain ⟨i, hi, rfl⟩ := List.mem_map.mp hx
    rw [List.mem_range] at hi
    omega
def inR (row : List Int) (y : Int) : Bool := (row.map PyData.int).any fun z => PyData.eqv z (.int y)
def nearF (row : List Int) : PyData → Option PyData
  | .int x => if (inR row (x - 1) || inR row (x + 1)) = true then some (.int x) else none
  | _ => none
def notF (x : Int) : PyData → Option PyData
  | .int y => if y ≠ x then some (.int y) else none
  | _ => none
theorem notF_map (x : Int) : ∀ left : List Int, (left.map PyData.int).filterMap (notF x) = (left.filter fun y => decide (y ≠ x)).map .int
  | [] => rfl
  | y :: l => by
    rw [List.map_cons, List.filterMap_cons, List.filter_cons, notF_map x l]
    by_cases e : y = x
    · simp [e, notF]
    · simp [e, notF]
def rowT (row : List Int) : PyData := .tuple (row.map .int)
section
variable {P : Program} {wd : World} {K : PySem.W.Frag} {mg : Str → Option Value} {base : Heap}
def f_queue : FB := fun ds c R => ∃ n m : Nat, ds = [.int n, .int m] ∧ n ≤ 100 ∧ m ≤ n ∧ c ≤ 900000 ∧ ∀ (row : List Int) c', row.Nodup → row.length = m → (∀ x ∈ row, 0 ≤ x ∧ x < n) → c' ≤ c + 1 + 2 * m → R (rowT row) c'
theorem ok_l_queue (T : Top wd K mg) : Def P wd K mg base 3 "_law_queue" s_l_queue ["_law_box_here", "_law_count", "_law_size"] (spB K f_queue) := by
  have g_l_take := ok_l_take (P := P) (base := base) T
  have g_l_of := ok_l_of (P := P) (base := base) T
  refine Def.draws T.d_l_queue sc_l_queue (fun ds c R h => by obtain ⟨_, _, rfl, _⟩ := h; rfl) (fun f cdv A outer s H G l E ds c R hG hr h => ?_)
  obtain ⟨n, m, rfl, hn, hm, hc, q⟩ := h
  refine ⟨_, _, (dss_cons (ds_parT [3, 4, 5] rfl (pg_tup rfl (pgs_cons (pg_name (i := 3) sc_l_queue.nd rfl (.inl rfl)) (pgs_cons (pg_name (i := 4) sc_l_queue.nd rfl (.inr rfl)) (pgs_cons (pg_name (i := 5) sc_l_queue.nd rfl (.inl rfl)) pgs_nil)))) rfl (dx_cons (DE.dx (DO.d (do_listRg (by rfl) (by rfl) T.b_list (by rfl) T.b_range (de_v 1)))) (dx_cons (DO.dx (do_lst da_nil)) (dx_cons (DE.dx (de_cB 0 g_l_take hG (hr.mono (by omega)) (by rfl) (da_cons de_int da_nil))) dx_nil))))
      (dss_cons (ds_for PassesOwn.never (by rfl) (di_rng1 (by rfl) T.b_range (de_v 2)) (dg_name 6 sc_l_queue.nd)
        (dss_cons (ds_setLc 7 (own := [("_law_plot", 8)]) (by rfl) sc_l_queue.nd rfl rfl (sw_true rfl rfl rfl (by decide +kernel)) (di_seq rfl (de_v 3)) (blkOk_by (own := [("_law_plot", 8)]) (N := ["_law_box_here", "_law_count", "_law_size", "_law_left", "_law_found", "_law_near", "_law_spot", "_law_some", "_law_plot"]) (sc := defScope s_l_queue) (by decide +kernel)) (fun _ _ _ _ _ => (dg_name 8 sc_l_queue.nd (hf := Or.inr rfl))) (ts_one fun _ _ _ _ _ => (DW.q (dw_or (dt_cmp (o_in rfl (u65 hr)) (DE.p (de_bin o_sub (dp_v 8) (DE.p de_int))) (dp_v 4)) (dw_or1 (dt_cmp (o_in rfl (u65 hr)) (DE.p (de_bin o_add (dp_v 8) (DE.p de_int))) (dp_v 4)))))) (fun _ _ _ _ _ => (de_v 8)))
        (dss_cut (ds_set 7 sc_l_queue.nd (de_if (DW.q (dw_and (dt_cmp (o_eq rfl hr.units) (dp_v 5) (DE.p de_int)) (dw_and (dt_cmp (o_ne rfl hr.units) (dp_v 7) (DE.p (DO.d (do_lst da_nil)))) (dw_and1 (dt_cmp o_gt (DE.p (de_cB 0 g_l_take hG (hr.mono (by omega)) (by rfl) (da_cons de_int da_nil))) (DE.p de_int)))))) (de_v 7) (de_v 3)))
        (dss_cons (ds_app 4 rfl (de_cB 0 g_l_of hG (hr.mono (by omega)) (by rfl) (da_cons (de_v 7) da_nil)))
        (dss_one (ds_setLc 3 (own := [("_law_plot", 8)]) (by rfl) sc_l_queue.nd rfl rfl (sw_true rfl rfl rfl (by decide +kernel)) (di_seq rfl (de_v 3)) (blkOk_by (own := [("_law_plot", 8)]) (N := ["_law_box_here", "_law_count", "_law_size", "_law_left", "_law_found", "_law_near", "_law_spot", "_law_some", "_law_plot"]) (sc := defScope s_l_queue) (by decide +kernel)) (fun _ _ _ _ _ => (dg_name 8 sc_l_queue.nd (hf := Or.inr rfl))) (ts_one fun _ _ _ _ _ => (dt_cmp (o_ne rfl hr.units) (dp_v 8) (DE.p (de_ix rfl (dp_v 4) (DE.p (de_neg de_int)))))) (fun _ _ _ _ _ => (de_v 8))))))))
      (dss_one (ds_ret (de_tupleOf rfl (by rfl) T.b_tuple (dp_v 4)))))), ?_⟩
  refine ⟨_, rfl, n, rfl, by omega, by omega, Nat.zero_le _, rfl, 3, rfl, by decide, by decide, (show c < 1000000 by omega), fun near c1 _ _ hc1 => ⟨rfl, ?_⟩⟩
  refine ⟨.int m, rfl, m, rfl, by omega, by omega, for_by (fun i s2 => ∃ left row y6 y7 y8 c2, s2 = ⟨[some .box, some (.d (.int n)), some (.d (.int m)), some (.d (.list (left.map .int))), some (.own (row.map .int)), some (.d (.int near)), y6, y7, y8], c2⟩ ∧ QInv n i left row ∧ c2 ≤ c + 1 + 2 * i) ?_ (fun i d s2 J hi inv hJ => ?_) (fun s2 inv => ?_)⟩
  · have hc1' : c1 ≤ c + 1 := hc1
    refine ⟨_, [], none, none, none, c1, ?_, QInv.start n, by omega⟩
    rw [← iota_ints]
    rfl
  · obtain ⟨left, row, y6, y7, y8, c2, rfl, Qi, hc2⟩ := inv
    obtain ⟨him, rfl⟩ := iota_get hi
    rw [Int.sub_zero, Int.toNat_natCast] at him
    have hll : 1 ≤ left.length := by have := Qi.len; have := Qi.rl; omega
    have hll2 : left.length ≤ 100 := by have := Qi.len; omega
    refine ⟨_, rfl, rfl, lc_by (ds := left.map PyData.int) (nearF row) (show (left.map PyData.int).length ≤ 99999 by rw [List.length_map]; omega) (fun d hd acc J' hacc h1 h0 => ?_) ?_⟩
    · obtain ⟨x, hx, rfl⟩ := List.mem_map.mp hd
      refine ⟨_, _, rfl, rfl, x, 1, rfl, rfl, _, _, rfl, rfl, rfl, shp_int _, shp_ints _, _, rfl, ?_⟩
      show if (false ^^ inR row (x - 1)) = true then _ else _
      rw [Bool.false_xor]
      cases hb : inR row (x - 1) with
      | true =>
        refine iteT ⟨rfl, iteT ⟨_, rfl, rfl, hacc, h1 (.int x) ?_⟩⟩
        show (if (inR row (x - 1) || inR row (x + 1)) = true then some (PyData.int x) else none) = _
        rw [hb]
        rfl
      | false =>
        refine iteF ⟨_, _, rfl, rfl, x, 1, rfl, rfl, _, _, rfl, rfl, rfl, shp_int _, shp_ints _, _, rfl, ?_⟩
        show _ ∧ if (false ^^ inR row (x + 1)) = true then _ else _
        rw [Bool.false_xor]
        cases hb2 : inR row (x + 1) with
        | true =>
          refine ⟨rfl, iteT ⟨_, rfl, rfl, hacc, h1 (.int x) ?_⟩⟩
          show (if (inR row (x - 1) || inR row (x + 1)) = true then some (PyData.int x) else none) = _
          rw [hb, hb2]
          rfl
        | false =>
          refine ⟨rfl, iteF (h0 ?_)⟩
          show (if (inR row (x - 1) || inR row (x + 1)) = true then some (PyData.int x) else none) = _
          rw [hb, hb2]
          rfl
    · -- the houses that may come next
      have hsome : ∀ d ∈ (left.map PyData.int).filterMap (nearF row), ∃ x ∈ left, d = .int x := fun d hd => by
        obtain ⟨e, he, h⟩ := List.mem_filterMap.mp hd
        obtain ⟨x, hx, rfl⟩ := List.mem_map.mp he
        refine ⟨x, hx, ?_⟩
        have h : (if (inR row (x - 1) || inR row (x + 1)) = true then some (PyData.int x) else none) = some d := h
        split at h
        · cases h; rfl
        · cases h
      have hlen := List.length_filterMap_le (nearF row) (left.map PyData.int)
      have hshp : Shp (.list ((left.map PyData.int).filterMap (nearF row))) := by
        refine Bool.and_eq_true_iff.mpr ⟨?_, decide_eq_true ?_⟩
        · simp only [PyData.canLay0]
          refine canAll fun d hd => ?_
          obtain ⟨x, _, rfl⟩ := hsome d hd
          simp only [PyData.canLay0]
        · simp only [PyData.depth]
          have := depAll (n := 0) fun d hd => by
            obtain ⟨x, _, rfl⟩ := hsome d hd
            simp only [PyData.depth]
            exact Nat.le_refl _
          omega
      generalize (left.map PyData.int).filterMap (nearF row) = some1 at hsome hlen hshp ⊢
      rw [List.length_map] at hlen
      have hleft : ∀ d ∈ left.map PyData.int, ∃ x ∈ left, d = .int x := fun d hd => by
        obtain ⟨x, hx, rfl⟩ := List.mem_map.mp hd
        exact ⟨x, hx, rfl⟩
      have hleft1 : 1 ≤ (left.map PyData.int).length := by rw [List.length_map]; exact hll
      have hleft2 : (left.map PyData.int).length ≤ 1000 := by rw [List.length_map]; omega
      have hc3 : c2 < 999990 := by omega
      refine ⟨fun s2 => ∃ ds c3 y8', s2 = ⟨[some .box, some (.d (.int n)), some (.d (.int m)), some (.d (.list (left.map .int))), some (.own (row.map .int)), some (.d (.int near)), some (.d (.int (0 + i))), some (.d (.list ds)), y8'], c3⟩ ∧ (∀ d ∈ ds, ∃ x ∈ left, d = .int x) ∧ 1 ≤ ds.length ∧ ds.length ≤ 1000 ∧ c3 ≤ c2 + 1, ?_, fun s2 hP => ?_⟩
      · refine ⟨_, _, rfl, rfl, shp_int _, shp_int _, _, rfl, ite2 (fun e1 => ?_) (fun e1 => iteF ?_)⟩
        · refine ⟨_, _, rfl, rfl, Nat.zero_le _, hshp, rfl, _, rfl, ?_⟩
          rw [eqv_nilL]
          cases hemp : some1.isEmpty with
          | true =>
            refine iteF (iteF ?_)
            exact ⟨_, rfl, left.map .int, c2, _, rfl, hleft, hleft1, hleft2, by omega⟩
          | false =>
            have hs1 : 1 ≤ some1.length := by
              cases some1 with
              | nil => cases hemp
              | cons _ _ => simp
            refine iteT ⟨rfl, 4, rfl, by decide, by decide, (show c2 < 1000000 by omega), fun r c3 r0 r1 hc3' => ⟨r, 0, rfl, rfl, _, rfl, ite2 (fun e2 => ?_) (fun e2 => ?_)⟩⟩
            · exact ⟨_, rfl, some1, c3, _, rfl, hsome, hs1, by omega, hc3'⟩
            · exact ⟨_, rfl, left.map .int, c3, _, rfl, hleft, hleft1, hleft2, hc3'⟩
        · exact ⟨_, rfl, left.map .int, c2, _, rfl, hleft, hleft1, hleft2, by omega⟩
      · obtain ⟨ds, c3, y8', rfl, h1, h2, h3, h4⟩ := hP
        refine ⟨⟨_, rfl⟩, rfl, _, rfl, _, rfl, rfl, h2, h3, (show c3 < 1000000 by omega), fun d c4 hd hc4 => ?_⟩
        obtain ⟨x, hx, rfl⟩ := h1 d hd
        refine ⟨_, rfl, .int x, rfl, ?_, ?_⟩
        · have := Qi.len
          rw [List.length_map]
          omega
        refine ⟨_, rfl, rfl, lc_by (ds := left.map PyData.int) (notF x) (show (left.map PyData.int).length ≤ 99999 by omega) (fun d hd acc J' hacc h1 h0 => ?_) ?_⟩
        · obtain ⟨y, hy, rfl⟩ := List.mem_map.mp hd
          refine ⟨_, _, rfl, rfl, _, _, rfl, rfl, 1, rfl, -1, .int x, rfl, rfl, at_last _ _, shp_int _, shp_int _, _, rfl, ?_⟩
          rw [eqv_int]
          by_cases e : y = x
          · rw [decide_eq_true e]
            exact ⟨rfl, iteF (h0 (if_neg (fun z => z e)))⟩
          · rw [decide_eq_false e]
            exact ⟨rfl, iteT ⟨_, rfl, rfl, hacc, h1 (.int y) (if_pos e)⟩⟩
        · refine hJ _ ⟨left.filter (fun y => decide (y ≠ x)), row ++ [x], some (.d (.int (0 + i))), some (.d (.list ds)), y8', c4, ?_, Qi.step hx, ?_⟩
          · rw [notF_map]
            have e2 : (row ++ [x]).map PyData.int = row.map .int ++ [.int x] := by rw [List.map_append]; rfl
            rw [e2]
            rfl
          · have : c4 ≤ c3 + 1 := hc4
            have : ((i + 1 : Nat) : Int) = (i : Int) + 1 := by omega
            omega
  · obtain ⟨left, row, y6, y7, y8, c2, rfl, Qi, hc2⟩ := inv
    have hlen : (iotaD 0 (m : Int)).length = m := by rw [iota_len, Int.sub_zero, Int.toNat_natCast]
    rw [hlen] at Qi hc2
    exact ⟨_, _, rfl, rfl, rfl, q row c2 Qi.nr Qi.rl Qi.br hc2⟩
end
end Og6

namespace Og6
open PySem PySem.Spec PyProof.Rows L2 OgR Evl Dw OgM
local macro_rules | `(tactic| walk_at "d") => `(tactic| first
  | refine ⟨_, rfl, ?_⟩ | refine ⟨_, _, rfl, rfl, ?_⟩ | refine iteT ?_ | refine iteF ?_ | refine ⟨_, _, rfl, rfl, rfl, ?_⟩ | refine ⟨rfl, ?_⟩)
def wstr : Wd → Str
  | .new => "new"
  | .beside => "beside"
  | .between => "between"
def cntsD (row : List Int) (i : Nat) : List PyData := (List.range i).map fun j => .int ((segs (row.take (j + 1))).length : Nat)
def wrdsD (row : List Int) (i : Nat) : List PyData := (List.range i).map fun j => .str (wstr (pick (row.getD j 0) (segs (row.take j))).1)
section
variable {P : Program} {wd : World} {K : PySem.W.Frag} {mg : Str → Option Value} {base : Heap}
def f_seen : FP := fun ds R => ∃ row, ds = [rowT row] ∧ row.Nodup ∧ row.length ≤ 900 ∧ R (.tuple [.list (cntsD row row.length), .list (wrdsD row row.length)])
theorem ok_l_seen (T : Top wd K mg) : Def P wd K mg base 2 "_law_seen" s_l_seen ["_law_queue_here"] (spP K f_seen) := by
  have g_l_runs := ok_l_runs (P := P) (base := base) T
  refine Def.pure T.d_l_seen sc_l_seen (fun ds R h => by obtain ⟨_, rfl, _⟩ := h; rfl) (fun f cdv A outer s H G E ds R hG hr h => ?_)
  obtain ⟨row, rfl, hnd, hl, q⟩ := h
  refine ⟨_, _, (dss_cons (ds_par3 1 2 3 (by rfl) sc_l_seen.nd (dx_cons (DO.dx (do_lst da_nil)) (dx_cons (DO.dx (do_lst da_nil)) (dx_cons (DE.dx de_int) dx_nil))))
      (dss_cons (ds_for PassesOwn.never (by rfl) (di_rng1 (by rfl) T.b_range (de_len rfl (by rfl) T.b_len (dp_v 0))) (dg_name 4 sc_l_seen.nd)
        (dss_cons (ds_app 1 rfl (de_len rfl (by rfl) T.b_len (DE.p (de_c g_l_runs hG (hr.mono (by omega)) (by rfl) (da_cons (de_slT rfl (dp_v 0) do_none (do_some (de_bin o_add (dp_v 4) (DE.p de_int)))) da_nil)))))
        (dss_cons (ds_app 2 rfl (de_dix [(.inl (1), .str "new"), (.inl (0), .str "beside"), (.inl (-1), .str "between")] (hu_of hr) (pe_disp (pps_cons pe_int pe_str (pps_cons pe_int pe_str (pps_cons (pe_un un_neg pe_int) pe_str pps_nil))) (by rfl) (by rfl) (fun z => by cases z) (by decide)) (fun _ _ _ q => ⟨_, rfl, q⟩) (de_bin o_sub (DE.p (de_ix rfl (dp_v 1) (DE.p (de_neg de_int)))) (dp_v 3))))
        (dss_one (ds_set 3 sc_l_seen.nd (de_ix rfl (dp_v 1) (DE.p (de_neg de_int))))))))
      (dss_one (ds_ret (de_tup (da_cons (de_pub 1) (da_cons (de_pub 2) da_nil))))))), ?_⟩
  refine ⟨Nat.zero_le _, Nat.zero_le _, rfl, ?_⟩
  have hlen : (its (rowT row)).length = row.length := by show (row.map PyData.int).length = _; rw [List.length_map]
  refine ⟨_, _, rfl, rfl, row.length, by show some (row.map PyData.int).length = _; rw [List.length_map], _, rfl, by omega, by omega, for_by (fun i s2 => ∃ y4, s2 = ⟨[some (.d (rowT row)), some (.own (cntsD row i)), some (.own (wrdsD row i)), some (.d (.int ((segs (row.take i)).length : Nat))), y4], 0⟩) ⟨none, rfl⟩ (fun i d s2 J hi inv hJ => ?_) (fun s2 inv => ?_)⟩
  · obtain ⟨y4, rfl⟩ := inv
    obtain ⟨hi2, rfl⟩ := iota_get hi
    have hi2 : i < row.length := by
      have : i < ((row.length : Int) - 0).toNat := hi2
      omega
    have e3 : row[i]? = some row[i] := List.getElem?_eq_getElem hi2
    have e2 : Dw.cutD (row.map PyData.int) none (some ((0 : Int) + (i : Int) + 1)) = (row.take (i + 1)).map .int := by
      unfold Dw.cutD
      rw [show (0 : Int) + (i : Int) + 1 = ((i + 1 : Nat) : Int) by omega, HT.sIx_none, HT.sIx_nat, List.drop_zero, Nat.sub_zero, List.length_map, Nat.min_eq_left (by omega), List.map_take]
    have ec : cntsD row (i + 1) = cntsD row i ++ [.int ((segs (row.take (i + 1))).length : Nat)] := by
      unfold cntsD
      rw [List.range_succ, List.map_append]
      rfl
    have ew : wrdsD row (i + 1) = wrdsD row i ++ [.str (wstr (pick row[i] (segs (row.take i))).1)] := by
      unfold wrdsD
      rw [List.range_succ, List.map_append]
      have e5 : row.getD i 0 = row[i] := by rw [List.getD_eq_getElem?_getD, e3]; rfl
      simp only [List.map_cons, List.map_nil, e5]
    have hni := hnd.sublist (List.take_sublist (i + 1) row)
    rw [take_snoc e3, List.nodup_append] at hni
    have hp : row[i] ∉ row.take i := fun h => hni.2.2 _ h _ (by simp) rfl
    obtain ⟨lo, hlo⟩ := lower (row.take i)
    obtain ⟨hok, hmem⟩ := segs_ok hni.1 hlo
    have sy := (says hok (fun m => hp ((hmem _).mp m))).len
    have es : segs (row.take (i + 1)) = add row[i] (segs (row.take i)) := by rw [take_snoc e3, segs_snoc]
    rw [← es] at sy
    rw [ec, ew] at hJ
    have hrl : (cntsD row i).length = i := by unfold cntsD; rw [List.length_map, List.length_range]
    have hwl : (wrdsD row i).length = i := by unfold wrdsD; rw [List.length_map, List.length_range]
    refine ⟨⟨_, rfl⟩, _, _, rfl, rfl, _, _, rfl, rfl, _, 1, rfl, rfl, _, rfl, row.map .int, rfl, ?_⟩
    rw [e2]
    refine ⟨_, row.take (i + 1), rfl, rfl, rfl, hnd.sublist (List.take_sublist _ _), by rw [List.length_take]; omega, (segs (row.take (i + 1))).length, by show some (runsD (segs (row.take (i + 1)))).length = _; unfold runsD; rw [List.length_map], _, rfl, _, rfl, (show (cntsD row i).length < 100000 by omega), ?_⟩
    generalize pick row[i] (segs (row.take i)) = ch at sy hJ
    have hlook : lookD [(.inl 1, .str "new"), (.inl 0, .str "beside"), (.inl (-1), .str "between")] (.inl ((((segs (row.take (i + 1))).length : Nat) : Int) - ((segs (row.take i)).length : Nat))) = some (.str (wstr ch.1)) := by
      have : (((segs (row.take (i + 1))).length : Nat) : Int) - ((segs (row.take i)).length : Nat) = ch.1.step := by omega
      rw [this]
      cases ch.1 <;> rfl
    refine ⟨⟨_, rfl⟩, _, _, rfl, rfl, 1, rfl, -1, _, rfl, rfl, at_last _ _, _, _, rfl, rfl, _, _, rfl, rfl, _, _, rfl, hlook, _, rfl, _, rfl, (show (wrdsD row i).length < 100000 by omega), ?_⟩
    exact ⟨_, _, rfl, rfl, 1, rfl, -1, _, rfl, rfl, at_last _ _, hJ _ ⟨_, rfl⟩⟩
  · obtain ⟨y4, rfl⟩ := inv
    have e1 : (iotaD 0 ((row.length : Nat) : Int)).length = row.length := by
      unfold iotaD
      rw [List.length_map, List.length_range]
      omega
    rw [e1]
    exact ⟨_, rfl, _, rfl, (show 2 ≤ 100000 by decide), q⟩
end
end Og6

namespace Og6
open PySem PySem.Spec PyProof.Rows L2 OgR Evl Dw OgM Gx
local macro_rules | `(tactic| walk_at "d") => `(tactic| first
  | refine ⟨_, rfl, ?_⟩ | refine ⟨_, _, rfl, rfl, ?_⟩ | refine iteT ?_ | refine iteF ?_ | refine ⟨_, _, rfl, rfl, rfl, ?_⟩ | refine ⟨rfl, ?_⟩)
/-! ### notes by data -/
abbrev NT := Int × Str × PyData
def nD (n : NT) : PyData := .tuple [.int n.1, .str n.2.1, n.2.2]
def nL (n : NT) : PyData := .list [.int n.1, .str n.2.1, n.2.2]
def hD (n : NT) : PyData := .tuple [.int n.1, .str n.2.1]
structure NOk (n : NT) : Prop where
  t : n.1.natAbs ≤ 1000
  s : FlB (.str n.2.1)
  v : FlB n.2.2
  al : PySem.W.alikeAll [n.2.2] [n.2.2] = true
structure NsOk (ns : List NT) : Prop where
  ok : ∀ n ∈ ns, NOk n
  uni : ∀ n ∈ ns, ∀ m ∈ ns, n.1 = m.1 → n.2.1 = m.2.1 → n = m
  len : ns.length ≤ 100
def BkD (c z : PyData) (ns : List NT) : PyData := .tuple [c, z, .tuple (ns.map nD)]
def BkL (c z : PyData) (ns : List NT) : PyData := .list [c, z, .list (ns.map nL)]
def IsBk (b c z : PyData) (ns : List NT) : Prop := b = BkD c z ns ∨ b = BkL c z ns
def IsN (i : PyData) (n : NT) : Prop := i = nD n ∨ i = nL n
def sameHd (it n : NT) : Bool := PyData.eqv (hD n) (hD it)
theorem sameHd_refl {it n : NT} (h1 : n.1 = it.1) (h2 : n.2.1 = it.2.1) : sameHd it n = true := by
  unfold sameHd hD
  rw [h1, h2]
  simp [PyData.eqv, PyData.eqvAll]
theorem rowD_n {n : NT} (h : NOk n) : RowD (nD n) := ⟨n.1, n.2.1, [n.2.2], rfl, h.al, by simp only [PyData.depthAll]; rw [(FlB.can h.v).2]; rfl⟩
theorem rows_ok {ns : List NT} (h1 : ∀ n ∈ ns, NOk n) (h2 : ∀ n ∈ ns, ∀ m ∈ ns, n.1 = m.1 → n.2.1 = m.2.1 → n = m) : RowsOk (ns.map nD) := by
  refine ⟨fun d hd => ?_, fun d hd e he q => ?_⟩
  · obtain ⟨n, hn, rfl⟩ := List.mem_map.mp hd
    exact rowD_n (h1 n hn)
  · obtain ⟨n, hn, rfl⟩ := List.mem_map.mp hd
    obtain ⟨m, hm, rfl⟩ := List.mem_map.mp he
    have q : PyData.tuple [.int n.1, .str n.2.1] = .tuple [.int m.1, .str m.2.1] := q
    simp only [PyData.tuple.injEq, List.cons.injEq, PyData.int.injEq, PyData.str.injEq, and_true] at q
    rw [h2 n hn m hm q.1 q.2]
theorem rows_add {ns : List NT} {it : NT} (h : NsOk ns) (hi : NOk it) (hf : ns.find? (sameHd it) = none) : RowsOk (ns.map nD ++ [nD it]) := by
  have e : ns.map nD ++ [nD it] = (ns ++ [it]).map nD := by rw [List.map_append]; rfl
  rw [e]
  have no : ∀ n ∈ ns, n.1 = it.1 → n.2.1 = it.2.1 → False := fun n hn a b => by
    have := List.find?_eq_none.mp hf n hn
    exact this (sameHd_refl a b)
  refine rows_ok (fun n hn => ?_) (fun n hn m hm a b => ?_)
  · rcases List.mem_append.mp hn with hn | hn
    · exact h.ok n hn
    · rw [List.mem_singleton.mp hn]
      exact hi
  · rcases List.mem_append.mp hn with hn | hn
    · rcases List.mem_append.mp hm with hm | hm
      · exact h.uni n hn m hm a b
      · rw [List.mem_singleton.mp hm] at a b
        exact (no n hn a b).elim
    · rcases List.mem_append.mp hm with hm | hm
      · rw [List.mem_singleton.mp hn] at a b
        exact (no m hm a.symm b.symm).elim
      · rw [List.mem_singleton.mp hn, List.mem_singleton.mp hm]
theorem shp_h {n : NT} (h : NOk n) : Shp (hD n) := (bd_tup (w := 10) (k := 0) (by show 2 ≤ 10; decide) fun x hx => by
  simp only [List.mem_cons, List.not_mem_nil, or_false] at hx
  rcases hx with rfl | rfl
  · exact Nat.le_trans h.t (by omega)
  · exact h.s).shp (by decide)
theorem bd_n {w : Nat} (hw : 3 ≤ w) {n : NT} (h : NOk n) : Bd w 1 (nD n) := bd_tup (w := w) (k := 0) (by show 3 ≤ w; exact hw) fun x hx => by
  simp only [List.mem_cons, List.not_mem_nil, or_false] at hx
  rcases hx with rfl | rfl | rfl
  · exact Nat.le_trans h.t (by omega)
  · exact h.s
  · exact h.v
theorem bd_ns {ns : List NT} (h : ∀ n ∈ ns, NOk n) (hl : ns.length ≤ 100) : Bd 100 2 (.tuple (ns.map nD)) := bd_tup (by rw [List.length_map]; exact hl) fun x hx => by
  obtain ⟨n, hn, rfl⟩ := List.mem_map.mp hx
  exact bd_n (by decide) (h n hn)
theorem bd_nsL {ns : List NT} (h : ∀ n ∈ ns, NOk n) (hl : ns.length ≤ 100) : Bd 100 2 (.list (ns.map nD)) := bd_lst (by rw [List.length_map]; exact hl) fun x hx => by
  obtain ⟨n, hn, rfl⟩ := List.mem_map.mp hx
  exact bd_n (by decide) (h n hn)
theorem takeS {α : Type} {l : List α} {j : Nat} {n : α} (h : l[j]? = some n) : l.take (j + 1) = l.take j ++ [n] := by rw [List.take_add_one, h]; rfl
theorem cut2 (a b v : PyData) : cutD [a, b, v] none (some 2) = [a, b] := rfl
section
variable {P : Program} {wd : World} {K : PySem.W.Frag} {mg : Str → Option Value} {base : Heap} {c : Nat → Addr}
/-! ### notes_of -/
def f_notes_of : FP := fun ds R => ∃ b c z ns, ds = [b] ∧ IsBk b c z ns ∧ ns.length ≤ 1000 ∧ R (.list (ns.map nD))
theorem ok_notes_of (T : Top wd K mg) : Def P wd K mg base 1 "notes_of" s_notes_of ["journal"] (spP K f_notes_of) := by
  refine Def.pure T.d_notes_of sc_notes_of (fun ds R h => by obtain ⟨_, _, _, _, rfl, _⟩ := h; rfl) (fun f cdv A outer s H G E ds R hG hr h => ?_)
  obtain ⟨b, c, z, ns, rfl, hb, hl, q⟩ := h
  refine ⟨_, _, (dss_one (ds_ret (DO.d (do_lc (own := [("note", 1)]) (by rfl) sc_notes_of.nd (di_seq rfl (de_ix rfl (dp_v 0) (DE.p de_int))) (blkOk_by (own := [("note", 1)]) (N := ["journal", "note"]) (sc := defScope s_notes_of) (by decide +kernel)) (fun _ _ _ _ _ => (dg_name 1 sc_notes_of.nd (hf := Or.inr rfl))) ts_no (fun _ _ _ _ _ => (de_tupleOf rfl (by rfl) T.b_tuple (dp_v 1))))))), ?_⟩
  rcases hb with rfl | rfl
  · refine ⟨_, _, rfl, rfl, 2, .tuple (ns.map nD), rfl, rfl, rfl, rfl, lc_map id (show (ns.map nD).length ≤ 99999 by rw [List.length_map]; omega) (fun d hd acc J hacc hJ => ?_) ?_⟩
    · obtain ⟨n, hn, rfl⟩ := List.mem_map.mp hd
      exact ⟨_, _, rfl, rfl, rfl, rfl, hacc, hJ⟩
    · show R (.list (List.map id (ns.map nD)))
      rw [List.map_id]
      exact q
  · refine ⟨_, _, rfl, rfl, 2, .list (ns.map nL), rfl, rfl, rfl, rfl, lc_map (fun d => .tuple (its d)) (show (ns.map nL).length ≤ 99999 by rw [List.length_map]; omega) (fun d hd acc J hacc hJ => ?_) ?_⟩
    · obtain ⟨n, hn, rfl⟩ := List.mem_map.mp hd
      exact ⟨_, _, rfl, rfl, rfl, rfl, hacc, hJ⟩
    · show R (.list (List.map (fun d => .tuple (its d)) (ns.map nL)))
      rw [List.map_map]
      exact q
/-! ### with_note -/
def withD (c z : PyData) (ns : List NT) (it : NT) : Oc := match ns.find? (sameHd it) with
  | some n => .ex "Noted" "note" (nD n)
  | none => .ok (.tuple [c, z, .tuple (srtR (ns.map nD ++ [nD it]))])
def f_with : FX := fun ds R => ∃ b i c z ns it, ds = [b, i] ∧ IsBk b c z ns ∧ IsN i it ∧ NsOk ns ∧ NOk it ∧ R (withD c z ns it)
theorem ok_with_note (T : Top wd K mg) (Y : TopX K mg c) : DefX P wd K mg base 4 "with_note" s_with_note ["journal", "note"] (spX K mg f_with) := by
  have g_notes_of := ok_notes_of (P := P) (base := base) T
  have M_Noted := mk_Noted (P := P) (base := base) T Y
  refine DefX.make T.d_with_note sc_with_note (fun ds R h => by obtain ⟨_, _, _, _, _, _, rfl, _⟩ := h; rfl) (fun f cdv A outer s H G E ds R hG hr h hx => ?_)
  obtain ⟨b, i, c0, z0, ns, it, rfl, hb, hi, hns, hit, q⟩ := h
  refine ⟨_, _, (dss_cons (ds_set 2 sc_with_note.nd (de_c g_notes_of hG (hr.mono (by omega)) (by rfl) (da_cons (de_v 0) da_nil)))
      (dss_cons (ds_for PassesOwn.leaving (by rfl) (di_seq rfl (de_v 2)) (dg_name 3 sc_with_note.nd)
        (dss_one (ds_if (dt_cmp (o_eq rfl hr.units) (DE.p (de_slT rfl (dp_v 3) do_none (do_some de_int))) (DE.p (de_tupleOf rfl (by rfl) T.b_tuple (DE.p (de_slB rfl (dp_v 1) do_none (do_some de_int)))))) (dss_one (ds_raise M_Noted rfl hx (by rfl) (takes_of rfl rfl rfl rfl) rfl (hr.mono (by omega)) (by rfl) (de_v 3))) dss_nil)))
      (dss_one (ds_ret (de_tup (da_cons (de_ix rfl (dp_v 0) (DE.p de_int)) (da_cons (de_ix rfl (dp_v 0) (DE.p de_int)) (da_cons (de_tupleOf rfl (by rfl) T.b_tuple (DE.p (DO.d (do_srtR rfl hr.units (by rfl) T.b_sorted (DE.p (DO.d (do_lst (da_star rfl (dp_v 2) (da_cons (de_tupleOf rfl (by rfl) T.b_tuple (dp_v 1)) da_nil))))))))) da_nil)))))))), ?_⟩
  have hcut : ∀ l, cutSq i none (some 2) = l → (its l = its (hD it)) := fun l hl => by
    rcases hi with rfl | rfl <;> (subst hl; rfl)
  refine ⟨_, rfl, b, c0, z0, ns, rfl, hb, by have := hns.len; omega, ?_⟩
  refine ⟨_, rfl, rfl, for_by (fun j s2 => ∃ y3, s2 = ⟨[some (.d b), some (.d i), some (.d (.list (ns.map nD))), y3], 0⟩ ∧ (ns.take j).find? (sameHd it) = none) ⟨none, rfl, rfl⟩ (fun j d s2 J hj inv hJ => ?_) (fun s2 inv => ?_)⟩
  · obtain ⟨y3, rfl, hno⟩ := inv
    rw [show its (.list (ns.map nD)) = ns.map nD from rfl, List.getElem?_map] at hj
    obtain ⟨n, hn, rfl⟩ := Option.map_eq_some_iff.mp hj
    have hnm := List.mem_of_getElem? hn
    have go : ∀ e : PyData, e = hD it → PyData.eqv (hD n) e = sameHd it n := fun e h => by rw [h]; rfl
    have rest : ∀ (DD : DEnds), DD.nx = J → (if sameHd it n = true then wRaise R "Noted" "note" true (wV 3) DD ⟨[some (.d b), some (.d i), some (.d (.list (ns.map nD))), some (.d (nD n))], 0⟩ else wNext DD ⟨[some (.d b), some (.d i), some (.d (.list (ns.map nD))), some (.d (nD n))], 0⟩) := fun DD hD' => by
      cases hh : sameHd it n with
      | true =>
        refine iteT ⟨_, rfl, rfl, ?_⟩
        have e : ns.find? (sameHd it) = some n := by
          have h1 := List.getElem?_eq_some_iff.mp hn
          rw [← List.take_append_drop j ns, List.find?_append, hno, Option.none_or, List.drop_eq_getElem_cons h1.1, h1.2, List.find?_cons_of_pos hh]
        unfold withD at q
        rw [e] at q
        exact q
      | false =>
        refine iteF ?_
        show DD.nx _
        rw [hD']
        refine hJ _ ⟨_, rfl, ?_⟩
        rw [takeS hn, List.find?_append, hno, Option.none_or, List.find?_cons_of_neg (by rw [hh]; decide)]
        rfl
    rcases hi with rfl | rfl
    · exact ⟨_, _, rfl, rfl, 2, rfl, _, rfl, _, _, rfl, rfl, 2, rfl, rfl, rfl, shp_h (hns.ok n hnm), shp_h hit, _, rfl, rest _ rfl⟩
    · exact ⟨_, _, rfl, rfl, 2, rfl, _, rfl, _, _, rfl, rfl, 2, rfl, rfl, rfl, shp_h (hns.ok n hnm), shp_h hit, _, rfl, rest _ rfl⟩
  · obtain ⟨y3, rfl, hno⟩ := inv
    rw [show (its (.list (ns.map nD))).length = ns.length from List.length_map .., List.take_length] at hno
    have e : withD c0 z0 ns it = .ok (.tuple [c0, z0, .tuple (srtR (ns.map nD ++ [nD it]))]) := by
      unfold withD
      rw [hno]
    rw [e] at q
    have hl : (ns.map nD ++ [nD it]).length ≤ 100000 := by
      rw [List.length_append, List.length_map]
      have := hns.len
      show ns.length + 1 ≤ 100000
      omega
    have ti : ∃ ds, seqd i = true ∧ its i = ds ∧ PyData.tuple ds = nD it := by rcases hi with rfl | rfl <;> exact ⟨_, rfl, rfl, rfl⟩
    obtain ⟨ds, t1, t2, t3⟩ := ti
    have r := rows_add hns hit hno
    subst t2
    rcases hb with rfl | rfl
    · refine ⟨_, _, rfl, rfl, 0, c0, rfl, rfl, rfl, _, _, rfl, rfl, 1, z0, rfl, rfl, rfl, _, _, rfl, rfl, rfl, _, i, rfl, rfl, t1, ?_⟩
      rw [t3]
      exact ⟨hl, rfl, r, rfl, (show 3 ≤ 100000 by decide), q⟩
    · refine ⟨_, _, rfl, rfl, 0, c0, rfl, rfl, rfl, _, _, rfl, rfl, 1, z0, rfl, rfl, rfl, _, _, rfl, rfl, rfl, _, i, rfl, rfl, t1, ?_⟩
      rw [t3]
      exact ⟨hl, rfl, r, rfl, (show 3 ≤ 100000 by decide), q⟩
/-! ### without_note -/
def woD (c z : PyData) (ns : List NT) (it : NT) : Oc := if ((ns.map nD).any fun y => PyData.eqv y (nD it)) = true then .ok (.tuple [c, z, .tuple ((ns.map nD).filter fun y => !PyData.eqv y (nD it))]) else .ex "NoNote" "note" (nD it)
def f_wo : FX := fun ds R => ∃ b i c z ns it, ds = [b, i] ∧ IsBk b c z ns ∧ IsN i it ∧ NsOk ns ∧ NOk it ∧ R (woD c z ns it)
def neF (g : PyData) (d : PyData) : Option PyData := if (!PyData.eqv d g) = true then some d else none
theorem neF_filter (g : PyData) : ∀ ds : List PyData, ds.filterMap (neF g) = ds.filter fun y => !PyData.eqv y g
  | [] => rfl
  | d :: ds => by
    rw [List.filterMap_cons, List.filter_cons, neF_filter g ds]
    unfold neF
    cases h : PyData.eqv d g <;> simp [h]
theorem ok_without_note (T : Top wd K mg) (Y : TopX K mg c) : DefX P wd K mg base 4 "without_note" s_without_note ["journal", "note"] (spX K mg f_wo) := by
  have g_notes_of := ok_notes_of (P := P) (base := base) T
  have M_NoNote := mk_NoNote (P := P) (base := base) T Y
  refine DefX.make T.d_without_note sc_without_note (fun ds R h => by obtain ⟨_, _, _, _, _, _, rfl, _⟩ := h; rfl) (fun f cdv A outer s H G E ds R hG hr h hx => ?_)
  obtain ⟨b, i, c0, z0, ns, it, rfl, hb, hi, hns, hit, q⟩ := h
  refine ⟨_, _, (dss_cons (ds_set 2 sc_without_note.nd (de_c g_notes_of hG (hr.mono (by omega)) (by rfl) (da_cons (de_v 0) da_nil)))
      (dss_cons (ds_set 3 sc_without_note.nd (de_tupleOf rfl (by rfl) T.b_tuple (dp_v 1)))
      (dss_cons (ds_if (dt_cmp (o_notin rfl (u65 hr)) (dp_v 3) (dp_v 2)) (dss_one (ds_raise M_NoNote rfl hx (by rfl) (takes_of rfl rfl rfl rfl) rfl (hr.mono (by omega)) (by rfl) (de_v 3))) dss_nil)
      (dss_one (ds_ret (de_tup (da_cons (de_ix rfl (dp_v 0) (DE.p de_int)) (da_cons (de_ix rfl (dp_v 0) (DE.p de_int)) (da_cons (de_tupleOf rfl (by rfl) T.b_tuple (DE.p (DO.d (do_lc (own := [("there", 4)]) (by rfl) sc_without_note.nd (di_seq rfl (de_v 2)) (blkOk_by (own := [("there", 4)]) (N := ["journal", "note", "notes", "gone", "there"]) (sc := defScope s_without_note) (by decide +kernel)) (fun _ _ _ _ _ => (dg_name 4 sc_without_note.nd (hf := Or.inr rfl))) (ts_one fun _ _ _ _ _ => (dt_cmp (o_ne rfl hr.units) (dp_v 4) (dp_v 3))) (fun _ _ _ _ _ => (de_v 4)))))) da_nil))))))))), ?_⟩
  have ti : seqd i = true ∧ PyData.tuple (its i) = nD it := by rcases hi with rfl | rfl <;> exact ⟨rfl, rfl⟩
  have hsn : Shp (nD it) := (bd_n (w := 10) (by decide) hit).shp (by decide)
  have hsl : Shp (.list (ns.map nD)) := (bd_nsL hns.ok hns.len).shp (by decide)
  refine ⟨_, rfl, b, c0, z0, ns, rfl, hb, by have := hns.len; omega, _, _, rfl, rfl, ti.1, ?_⟩
  rw [ti.2]
  refine ⟨_, _, rfl, rfl, _, _, rfl, rfl, rfl, hsn, hsl, _, rfl, ?_⟩
  unfold woD at q
  show if (true ^^ (ns.map nD).any fun z => PyData.eqv z (nD it)) = true then _ else _
  cases hh : (ns.map nD).any fun y => PyData.eqv y (nD it) with
  | false =>
    rw [hh, if_neg (by decide)] at q
    exact iteT ⟨_, rfl, rfl, q⟩
  | true =>
    rw [hh, if_pos rfl, ← neF_filter] at q
    have lc : ∀ (env : List (Option DV)), env[3]? = some (some (.d (nD it))) → True := fun _ _ => trivial
    rcases hb with rfl | rfl
    all_goals
      refine iteF ⟨_, _, rfl, rfl, 0, c0, rfl, rfl, rfl, _, _, rfl, rfl, 1, z0, rfl, rfl, rfl, _, rfl, rfl, lc_by (ds := ns.map nD) (neF (nD it)) (show (ns.map nD).length ≤ 99999 by rw [List.length_map]; have := hns.len; omega) (fun d hd acc J hacc h1 h0 => ?_) ⟨rfl, (show 3 ≤ 100000 by decide), q⟩⟩
      obtain ⟨n, hn, rfl⟩ := List.mem_map.mp hd
      refine ⟨_, _, rfl, rfl, _, _, rfl, rfl, (bd_n (w := 10) (by decide) (hns.ok n hn)).shp (by decide), hsn, _, rfl, rfl, ?_⟩
      unfold neF at h1 h0
      cases hq : PyData.eqv (nD n) (nD it) with
      | true =>
        exact iteF (h0 (by rw [hq]; rfl))
      | false =>
        exact iteT ⟨_, rfl, rfl, hacc, h1 _ (by rw [hq]; rfl)⟩
/-! ### _law_told -/
def toldO : Oc → PyData
  | .ok d => d
  | .ex nm _ d => .tuple [.str nm, d]
def f_told : FP := fun ds R => ∃ w b i c z ns it, ds = [.int w, b, i] ∧ IsBk b c z ns ∧ IsN i it ∧ NsOk ns ∧ NOk it ∧ R (toldO (if w = 0 then withD c z ns it else woD c z ns it))
theorem ok_l_told (T : Top wd K mg) (Y : TopX K mg c) : Def P wd K mg base 5 "_law_told" s_l_told ["_law_which", "_law_book_here", "_law_item"] (spP K f_told) := by
  have g_with_note := ok_with_note (P := P) (base := base) T Y
  have g_without_note := ok_without_note (P := P) (base := base) T Y
  refine Def.pure T.d_l_told sc_l_told (fun ds R h => by obtain ⟨_, _, _, _, _, _, _, rfl, _⟩ := h; rfl) (fun f cdv A outer s H G E ds R hG hr h => ?_)
  obtain ⟨w, b, i, c0, z0, ns, it, rfl, hb, hi, hns, hit, q⟩ := h
  have n_Misfit := names_Misfit (X := (cxOf CX0 P wd K mg base ["_law_which", "_law_book_here", "_law_item", "_law_found", "_law_caught", "error", "_law_fine"] "_law_told" (defScope s_l_told) f cdv A outer s H E).nox) Y.h_Misfit
  have n_NoNote := names_NoNote (X := (cxOf CX0 P wd K mg base ["_law_which", "_law_book_here", "_law_item", "_law_found", "_law_caught", "error", "_law_fine"] "_law_told" (defScope s_l_told) f cdv A outer s H E).nox) Y.h_NoNote
  have n_NoTime := names_NoTime (X := (cxOf CX0 P wd K mg base ["_law_which", "_law_book_here", "_law_item", "_law_found", "_law_caught", "error", "_law_fine"] "_law_told" (defScope s_l_told) f cdv A outer s H E).nox) Y.h_NoTime
  have n_Noted := names_Noted (X := (cxOf CX0 P wd K mg base ["_law_which", "_law_book_here", "_law_item", "_law_found", "_law_caught", "error", "_law_fine"] "_law_told" (defScope s_l_told) f cdv A outer s H E).nox) Y.h_Noted
  refine ⟨_, _, (dss_cons (ds_parT [3, 4] rfl (pg_tup rfl (pgs_cons (pg_name (i := 3) sc_l_told.nd rfl (.inl rfl)) (pgs_cons (pg_name (i := 4) sc_l_told.nd rfl (.inl rfl)) pgs_nil))) rfl (dx_cons (DE.dx de_non) (dx_cons (DE.dx de_non) dx_nil)))
      (dss_cons (ds_tryK 3 5 4 rfl rfl rfl rfl sc_l_told.nd n_Misfit n_NoNote n_NoTime n_Noted (dex_if (fun _ _ => (dt_cmp (o_eq rfl hr.units) (dp_v 0) (DE.p de_int))) (dex_nm (ks := ["note", "journal"]) [1, 0] g_with_note hG (hr.mono (by omega)) (by rfl) (fun _ _ _ _ _ _ ws hl => match ws, hl with | [_, _], _ => rfl) (fun _ _ => (dk_cons (de_v 2) (dk_cons (de_v 1) dk_nil)))) (dex_nm (ks := ["note", "journal"]) [1, 0] g_without_note hG (hr.mono (by omega)) (by rfl) (fun _ _ _ _ _ _ ws hl => match ws, hl with | [_, _], _ => rfl) (fun _ _ => (dk_cons (de_v 2) (dk_cons (de_v 1) dk_nil))))) (hsu := fun _ _ _ => pss_one (ps_set (i := 4) sc_l_told.nd rfl (.inl rfl) (pv 5))))
      (dss_cons (ds_if (dt_xnon 4) (dss_one (ds_ret (de_v 3))) dss_nil)
      (dss_cons (ds_if (DW.q (dw_and (dt_val (de_xis 4 rfl (by rfl) T.b_isinstance (pe_glob (v := .ref _) (by rfl) Y.h_Noted rfl) (fun _ h => h))) (dw_and (dt_val (de_xis 4 rfl (by rfl) T.b_isinstance (pe_bltn (v := .ty "ValueError") (by rfl) Y.b_ValueError (by decide +kernel) rfl) (fun _ h => h))) (dw_and1 (dt_not (dt_val (de_xisT 4 rfl (by rfl) T.b_isinstance (pe_glob (v := .ref _) (by rfl) Y.h_Misfit rfl) (fun _ h => h) (pe_glob (v := .ref _) (by rfl) Y.h_NoNote rfl) (fun _ h => h)))))))) (dss_one (ds_ret (de_tup (da_cons de_str (da_cons (de_xat 4 rfl) da_nil))))) dss_nil)
      (dss_cons (ds_set 6 sc_l_told.nd (de_and (de_xis 4 rfl (by rfl) T.b_isinstance (pe_glob (v := .ref _) (by rfl) Y.h_NoNote rfl) (fun _ h => h)) (de_and (de_xis 4 rfl (by rfl) T.b_isinstance (pe_bltn (v := .ty "LookupError") (by rfl) Y.b_LookupError (by decide +kernel) rfl) (fun _ h => h)) (de_one (de_not (de_xisT 4 rfl (by rfl) T.b_isinstance (pe_glob (v := .ref _) (by rfl) Y.h_Noted rfl) (fun _ h => h) (pe_glob (v := .ref _) (by rfl) Y.h_NoTime rfl) (fun _ h => h)))))))
      (dss_one (ds_ret (de_if (dt_tru rfl (dp_v 6)) (de_tup (da_cons de_str (da_cons (de_xat 4 rfl) da_nil))) de_str)))))))), ?_⟩
  refine ⟨rfl, ?_⟩
  have x1 : XCx K (c 1) := ⟨_, _, _, _, Y.x1.xc⟩
  have x3 : XCx K (c 3) := ⟨_, _, _, _, Y.x3.xc⟩
  have a1 : KitN K mg "Noted" [.ref (c 1)] true := kitN Y.h_Noted x1 (kit_1 (Y.kt (i := 1) (j := 1) (by decide) (by decide)))
  have a2 : KitN K mg "Noted" [.type "ValueError"] true := kitN Y.h_Noted x1 (kit_1 (Y.kt_ValueError (i := 1) (by decide)))
  have a3 : KitN K mg "Noted" [.ref (c 0), .ref (c 3)] false := kitN Y.h_Noted x1 (kit_2 (Y.kt (i := 1) (j := 0) (by decide) (by decide)) (Y.kt (i := 1) (j := 3) (by decide) (by decide)))
  have b0 : KitN K mg "NoNote" [.ref (c 1)] false := kitN Y.h_NoNote x3 (kit_1 (Y.kt (i := 3) (j := 1) (by decide) (by decide)))
  have b1 : KitN K mg "NoNote" [.ref (c 3)] true := kitN Y.h_NoNote x3 (kit_1 (Y.kt (i := 3) (j := 3) (by decide) (by decide)))
  have b2 : KitN K mg "NoNote" [.type "LookupError"] true := kitN Y.h_NoNote x3 (kit_1 (Y.kt_LookupError (i := 3) (by decide)))
  have b3 : KitN K mg "NoNote" [.ref (c 1), .ref (c 2)] false := kitN Y.h_NoNote x3 (kit_2 (Y.kt (i := 3) (j := 1) (by decide) (by decide)) (Y.kt (i := 3) (j := 2) (by decide) (by decide)))
  refine ⟨_, _, rfl, rfl, shp_int _, shp_int _, _, rfl, ?_⟩
  rw [eqv_int]
  by_cases hw : w = 0
  · rw [if_pos hw] at q
    rw [decide_eq_true hw]
    refine iteT ⟨_, rfl, _, rfl, rfl, b, i, c0, z0, ns, it, rfl, hb, hi, hns, hit, ?_⟩
    unfold withD at q ⊢
    cases hf : ns.find? (sameHd it) with
    | none =>
      rw [hf] at q
      exact .inl ⟨.none, rfl, iteT ⟨_, rfl, q⟩⟩
    | some n =>
      rw [hf] at q
      refine ⟨fun Cc hm => ?_, .inr ⟨_, _, _, rfl, iteF ?_⟩⟩
      · have hm : mg "Noted" = some (.ref Cc) := hm
        rw [Y.h_Noted] at hm
        cases hm
        exact Y.ex (i := 1) (by decide)
      · refine ⟨_, _, _, true, rfl, a1, true, rfl, iteT ⟨_, _, _, true, rfl, a2, true, rfl, iteT ⟨_, _, _, false, rfl, a3, false, rfl, iteT ?_⟩⟩⟩
        exact ⟨_, _, rfl, fldN Y.h_Noted x1 Y.x1.fld, (show 2 ≤ 100000 by decide), q⟩
  · rw [if_neg hw] at q
    rw [decide_eq_false hw]
    refine iteF ⟨_, rfl, _, rfl, rfl, b, i, c0, z0, ns, it, rfl, hb, hi, hns, hit, ?_⟩
    unfold woD at q ⊢
    cases hf : (ns.map nD).any fun y => PyData.eqv y (nD it) with
    | true =>
      rw [hf, if_pos rfl] at q
      rw [if_pos rfl]
      exact .inl ⟨.none, rfl, iteT ⟨_, rfl, q⟩⟩
    | false =>
      rw [hf, if_neg (by decide)] at q
      rw [if_neg (by decide)]
      refine ⟨fun Cc hm => ?_, .inr ⟨_, _, _, rfl, iteF ?_⟩⟩
      · have hm : mg "NoNote" = some (.ref Cc) := hm
        rw [Y.h_NoNote] at hm
        cases hm
        exact Y.ex (i := 3) (by decide)
      · refine ⟨_, _, _, false, rfl, b0, false, rfl, iteF (iteF ?_)⟩
        refine ⟨_, _, _, true, rfl, b1, true, rfl, iteT ⟨_, _, _, true, rfl, b2, true, rfl, iteT ⟨_, _, _, false, rfl, b3, false, rfl, ?_⟩⟩⟩
        exact ⟨_, _, rfl, rfl, true, rfl, iteT ⟨_, _, rfl, fldN Y.h_NoNote x3 Y.x3.fld, (show 2 ≤ 100000 by decide), q⟩⟩
end
end Og6

namespace Og6
open PySem PySem.Spec PyProof.Rows L2 OgR Evl Dw OgM Gx
local macro_rules | `(tactic| walk_at "d") => `(tactic| first
  | refine ⟨_, rfl, ?_⟩ | refine ⟨_, _, rfl, rfl, ?_⟩ | refine iteT ?_ | refine iteF ?_ | refine ⟨_, _, rfl, rfl, rfl, ?_⟩ | refine ⟨rfl, ?_⟩)
/-- notes with ok parts, told apart by their heads -/
structure NU (ns : List NT) : Prop where
  ok : ∀ n ∈ ns, NOk n
  uni : ∀ n ∈ ns, ∀ m ∈ ns, n.1 = m.1 → n.2.1 = m.2.1 → n = m
theorem NU.nil : NU [] := ⟨fun n h => by simp at h, fun n h => by simp at h⟩
theorem NU.add {ns : List NT} {it : NT} (h : NU ns) (hi : NOk it) (no : ∀ n ∈ ns, n.1 = it.1 → n.2.1 = it.2.1 → False) : NU (ns ++ [it]) := by
  refine ⟨fun n hn => ?_, fun n hn m hm a b => ?_⟩
  · rcases List.mem_append.mp hn with hn | hn
    · exact h.ok n hn
    · rw [List.mem_singleton.mp hn]
      exact hi
  · rcases List.mem_append.mp hn with hn | hn
    · rcases List.mem_append.mp hm with hm | hm
      · exact h.uni n hn m hm a b
      · rw [List.mem_singleton.mp hm] at a b
        exact (no n hn a b).elim
    · rcases List.mem_append.mp hm with hm | hm
      · rw [List.mem_singleton.mp hn] at a b
        exact (no m hm a.symm b.symm).elim
      · rw [List.mem_singleton.mp hn, List.mem_singleton.mp hm]
theorem nok_g {t i : Int} (h1 : t.natAbs ≤ 1000) (h2 : i.natAbs ≤ 1000) : NOk (t, "groups", .int i) := ⟨h1, ⟨sok "groups", (show (reprText "groups").length ≤ 400 by decide +kernel)⟩, Nat.le_trans h2 (by omega), rfl⟩
theorem flb_w (w : Wd) : FlB (.str (wstr w)) := by cases w <;> exact ⟨sok _, by decide +kernel⟩
theorem nok_h {t : Int} {z : Str} (h1 : t.natAbs ≤ 1000) (h2 : FlB (.str z)) : NOk (t, "house", .str z) := ⟨h1, ⟨sok "house", (show (reprText "house").length ≤ 400 by decide +kernel)⟩, h2, rfl⟩
theorem atN {l : List PyData} {i : Nat} {d : PyData} (h : l[i]? = some d) : atI l (0 + (i : Int)) = some d := by
  have hl := (List.getElem?_eq_some_iff.mp h).1
  unfold atI ixN
  rw [if_pos (by omega), if_pos (by omega), Int.zero_add, Int.toNat_natCast]
  exact h
section
variable {P : Program} {wd : World} {K : PySem.W.Frag} {mg : Str → Option Value} {base : Heap}
/-! ### _law_notes -/
def f_notes : FB := fun ds c R => ∃ row, ds = [rowT row] ∧ row.Nodup ∧ row.length ≤ 20 ∧ c ≤ 900000 ∧ ∀ (ns : List NT) c', NU ns → (∀ n ∈ ns, 0 ≤ n.1 ∧ n.1 < row.length) → ns.length ≤ 2 * row.length → c' ≤ c + 1 + 2 * row.length → R (.tuple (ns.map nD)) c'
theorem ok_l_notes (T : Top wd K mg) : Def P wd K mg base 3 "_law_notes" s_l_notes ["_law_box_here", "_law_queue_here"] (spB K f_notes) := by
  have g_l_take := ok_l_take (P := P) (base := base) T
  have g_l_seen := ok_l_seen (P := P) (base := base) T
  refine Def.draws T.d_l_notes sc_l_notes (fun ds c R h => by obtain ⟨_, rfl, _⟩ := h; rfl) (fun f cdv A outer s H G l E ds c R hG hr h => ?_)
  obtain ⟨row, rfl, hnd, hl, hc, q⟩ := h
  refine ⟨_, _, (dss_cons (ds_par2 2 3 (by rfl) sc_l_notes.nd (dx_cons (DO.dx (do_lst da_nil)) (dx_cons (DE.dx (de_bin o_add (DE.p de_int) (DE.p (de_cB 0 g_l_take hG (hr.mono (by omega)) (by rfl) (da_cons de_int da_nil))))) dx_nil)))
      (dss_cons (ds_asg (de_c g_l_seen hG (hr.mono (by omega)) (by rfl) (da_cons (de_v 1) da_nil)) (dg_tup (n := 2) rfl (by rfl) (dgs_c (dg_name 4 sc_l_notes.nd) (dgs_c (dg_name 5 sc_l_notes.nd) dgs_nil))))
      (dss_cons (ds_for PassesOwn.never (by rfl) (di_rng1 (by rfl) T.b_range (de_len rfl (by rfl) T.b_len (dp_v 1))) (dg_name 6 sc_l_notes.nd)
        (dss_cut (ds_if (dt_cmp o_lt (DE.p (de_cB 0 g_l_take hG (hr.mono (by omega)) (by rfl) (da_cons de_int da_nil))) (dp_v 3)) (dss_one (ds_app 2 rfl (de_tup (da_cons (de_v 6) (da_cons de_str (da_cons (de_ix rfl (dp_v 4) (dp_v 6)) da_nil)))))) dss_nil)
        (dss_one (ds_if (dt_cmp (o_eq rfl hr.units) (DE.p (de_cB 0 g_l_take hG (hr.mono (by omega)) (by rfl) (da_cons de_int da_nil))) (DE.p de_int)) (dss_one (ds_app 2 rfl (de_tup (da_cons (de_v 6) (da_cons de_str (da_cons (de_ix rfl (dp_v 5) (dp_v 6)) da_nil)))))) dss_nil))))
      (dss_one (ds_ret (de_tupleOf rfl (by rfl) T.b_tuple (dp_v 2))))))), ?_⟩
  refine ⟨Nat.zero_le _, rfl, 4, rfl, by decide, by decide, (show c < 1000000 by omega), fun r c1 _ _ hc1 => ⟨1, r, rfl, rfl, rfl, ?_⟩⟩
  have hc1 : c1 ≤ c + 1 := hc1
  refine ⟨_, rfl, row, rfl, hnd, by omega, rfl, rfl, _, _, rfl, _, _, rfl, rfl, ?_⟩
  have hlen : (cntsD row row.length).length = row.length := by unfold cntsD; rw [List.length_map, List.length_range]
  refine ⟨_, _, rfl, rfl, row.length, by show some (row.map PyData.int).length = _; rw [List.length_map], _, rfl, by omega, by omega, for_by (fun i s2 => ∃ ns y6 c2, s2 = ⟨[some .box, some (.d (rowT row)), some (.own (ns.map nD)), some (.d (.int (1 + r))), some (.d (.list (cntsD row row.length))), some (.d (.list (wrdsD row row.length))), y6], c2⟩ ∧ NU ns ∧ (∀ n ∈ ns, 0 ≤ n.1 ∧ n.1 < (i : Int)) ∧ ns.length ≤ 2 * i ∧ c2 ≤ c + 1 + 2 * (i : Nat)) ⟨[], none, c1, rfl, .nil, fun n h => by simp at h, by simp, by omega⟩ (fun i d s2 J hi inv hJ => ?_) (fun s2 inv => ?_)⟩
  · obtain ⟨ns, y6, c2, rfl, hU, hb, hnl, hc2⟩ := inv
    obtain ⟨hi2, rfl⟩ := iota_get hi
    have hi2 : i < row.length := by
      have : i < ((row.length : Int) - 0).toNat := hi2
      omega
    have ec : (cntsD row row.length)[i]? = some (.int ((segs (row.take (i + 1))).length : Nat)) := by
      unfold cntsD
      rw [List.getElem?_map, List.getElem?_range hi2]
      rfl
    have ew : (wrdsD row row.length)[i]? = some (.str (wstr (pick (row.getD i 0) (segs (row.take i))).1)) := by
      unfold wrdsD
      rw [List.getElem?_map, List.getElem?_range hi2]
      rfl
    have hsg : (segs (row.take (i + 1))).length ≤ 1000 := by
      have q1 := segs_len (row.take (i + 1))
      rw [List.length_take] at q1
      omega
    refine ⟨fun s3 => ∃ ns c3, s3 = ⟨[some .box, some (.d (rowT row)), some (.own (ns.map nD)), some (.d (.int (1 + r))), some (.d (.list (cntsD row row.length))), some (.d (.list (wrdsD row row.length))), some (.d (.int (0 + (i : Int))))], c3⟩ ∧ NU ns ∧ (∀ n ∈ ns, 0 ≤ n.1 ∧ (n.1 < (i : Int) ∨ n.1 = (i : Int) ∧ n.2.1 = "groups")) ∧ ns.length ≤ 2 * i + 1 ∧ c3 ≤ c + 1 + 2 * (i : Nat) + 1, ?_, ?_⟩
    · refine ⟨rfl, 5, rfl, by decide, by decide, (show c2 < 1000000 by omega), fun r2 c3 _ _ hc3 => ?_⟩
      have hc3 : c3 ≤ c2 + 1 := hc3
      refine ⟨_, _, rfl, rfl, _, _, rfl, rfl, _, rfl, ?_⟩
      cases hd : decide (r2 < 1 + r) with
      | false => exact iteF ⟨ns, c3, rfl, hU, fun n hn => ⟨(hb n hn).1, .inl (hb n hn).2⟩, by omega, by omega⟩
      | true =>
        refine iteT ⟨⟨_, rfl⟩, _, rfl, _, _, rfl, rfl, _, _, rfl, rfl, _, _, rfl, rfl, atN ec, (show 3 ≤ 100000 by decide), _, rfl, _, rfl, (show (ns.map nD).length < 100000 by rw [List.length_map]; omega), ?_⟩
        refine ⟨ns ++ ([(0 + (i : Int), "groups", .int ((segs (row.take (i + 1))).length : Nat))] : List NT), c3, by rw [List.map_append]; rfl, hU.add (nok_g (by omega) (by omega)) (fun n hn a b => ?_), fun n hn => ?_, by rw [List.length_append]; show ns.length + 1 ≤ _; omega, by omega⟩
        · have := (hb n hn).2
          have a : n.1 = 0 + (i : Int) := a
          omega
        · rcases List.mem_append.mp hn with hn | hn
          · exact ⟨(hb n hn).1, .inl (hb n hn).2⟩
          · rw [List.mem_singleton.mp hn]
            exact ⟨by show (0 : Int) ≤ 0 + (i : Int); omega, .inr ⟨Int.zero_add _, rfl⟩⟩
    · rintro s3 ⟨ns, c3, rfl, hU, hb, hnl, hc3⟩
      refine ⟨rfl, 6, rfl, by decide, by decide, (show c3 < 1000000 by omega), fun r2 c4 _ _ hc4 => ?_⟩
      have hc4 : c4 ≤ c3 + 1 := hc4
      refine ⟨shp_int _, shp_int _, _, rfl, ?_⟩
      cases hd : PyData.eqv (.int r2) (.int 0) with
      | false => exact iteF (hJ _ ⟨ns, _, c4, rfl, hU, fun n hn => ⟨(hb n hn).1, by rcases (hb n hn).2 with h | h <;> omega⟩, by omega, by omega⟩)
      | true =>
        refine iteT ⟨⟨_, rfl⟩, _, rfl, _, _, rfl, rfl, _, _, rfl, rfl, _, _, rfl, rfl, atN ew, (show 3 ≤ 100000 by decide), _, rfl, _, rfl, (show (ns.map nD).length < 100000 by rw [List.length_map]; omega), ?_⟩
        refine hJ _ ⟨ns ++ ([(0 + (i : Int), "house", .str (wstr (pick (row.getD i 0) (segs (row.take i))).1))] : List NT), _, c4, by rw [List.map_append]; rfl, hU.add (nok_h (by omega) (flb_w _)) (fun n hn a b => ?_), fun n hn => ?_, by rw [List.length_append]; show ns.length + 1 ≤ _; omega, by omega⟩
        · rcases (hb n hn).2 with h | h
          · have a : n.1 = 0 + (i : Int) := a
            omega
          · rw [h.2] at b
            exact absurd (show ("groups" : Str) = "house" from b) (by decide)
        · rcases List.mem_append.mp hn with hn | hn
          · exact ⟨(hb n hn).1, by rcases (hb n hn).2 with h | h <;> omega⟩
          · rw [List.mem_singleton.mp hn]
            exact ⟨by show (0 : Int) ≤ 0 + (i : Int); omega, by show 0 + (i : Int) < _; omega⟩
  · obtain ⟨ns, y6, c2, rfl, hU, hb, hnl, hc2⟩ := inv
    have e1 : (iotaD 0 ((row.length : Nat) : Int)).length = row.length := by
      unfold iotaD
      rw [List.length_map, List.length_range]
      omega
    rw [e1] at hb hnl hc2
    exact ⟨_, _, rfl, rfl, rfl, q ns c2 hU hb hnl hc2⟩
/-! ### _law_story -/
def f_story : FB := fun ds c R => ∃ m : Nat, ds = [.int m] ∧ m ≤ 20 ∧ c ≤ 800000 ∧ ∀ (q : PyData) (n k : Nat) (ns : List NT) c', k ≤ n → n ≤ m → NU ns → (∀ n ∈ ns, 0 ≤ n.1 ∧ n.1 < (k : Int)) → ns.length ≤ 2 * k → c' ≤ c + 100 → R (.tuple [q, BkD (.int n) (.int k) ns]) c'
theorem ok_l_story (T : Top wd K mg) : Def P wd K mg base 4 "_law_story" s_l_story ["_law_box_here", "_law_most"] (spB K f_story) := by
  have g_l_take := ok_l_take (P := P) (base := base) T
  have g_l_queue := ok_l_queue (P := P) (base := base) T
  have g_l_notes := ok_l_notes (P := P) (base := base) T
  refine Def.draws T.d_l_story sc_l_story (fun ds c R h => by obtain ⟨_, rfl, _⟩ := h; rfl) (fun f cdv A outer s H G l E ds c R hG hr h => ?_)
  obtain ⟨m, rfl, hm, hc, q⟩ := h
  refine ⟨_, _, (dss_cons (ds_set 2 sc_l_story.nd (de_cB 0 g_l_take hG (hr.mono (by omega)) (by rfl) (da_cons (de_bin o_add (dp_v 1) (DE.p de_int)) da_nil)))
      (dss_cut (ds_set 3 sc_l_story.nd (de_if (dt_cmp (o_eq rfl hr.units) (DE.p (de_cB 0 g_l_take hG (hr.mono (by omega)) (by rfl) (da_cons de_int da_nil))) (DE.p de_int)) (de_v 2) (de_cB 0 g_l_take hG (hr.mono (by omega)) (by rfl) (da_cons (de_bin o_add (dp_v 2) (DE.p de_int)) da_nil))))
      (dss_cons (ds_set 4 sc_l_story.nd (de_cB 0 g_l_queue hG (hr.mono (by omega)) (by rfl) (da_cons (de_v 2) (da_cons (de_v 3) da_nil))))
      (dss_one (ds_ret (de_tup (da_cons (de_v 4) (da_cons (de_tup (da_cons (de_v 2) (da_cons (de_v 3) (da_cons (de_cB 0 g_l_notes hG (hr.mono (by omega)) (by rfl) (da_cons (de_v 4) da_nil)) da_nil)))) da_nil)))))))), ?_⟩
  refine ⟨rfl, _, _, rfl, rfl, m, 1, rfl, rfl, _, rfl, by omega, by omega, (show c < 1000000 by omega), fun n0 c1 h0 h1 hc1 => ?_⟩
  have hc1 : c1 ≤ c + 1 := hc1
  have h1 : n0 < (m : Int) + 1 := h1
  obtain ⟨n, rfl⟩ := Int.eq_ofNat_of_zero_le h0
  refine ⟨fun s3 => ∃ (k : Nat) (c3 : Int), k ≤ n ∧ s3 = ⟨[some .box, some (.d (.int m)), some (.d (.int n)), some (.d (.int k)), none], c3⟩ ∧ c3 ≤ c + 3, ?_, ?_⟩
  · refine ⟨rfl, 3, rfl, by decide, by decide, (show c1 < 1000000 by omega), fun r2 c2 _ _ hc2 => ⟨shp_int _, shp_int _, _, rfl, ?_⟩⟩
    have hc2 : c2 ≤ c1 + 1 := hc2
    cases hd : PyData.eqv (.int r2) (.int 0) with
    | true => exact iteT ⟨_, rfl, n, c2, Nat.le_refl _, rfl, by omega⟩
    | false =>
      refine iteF ⟨rfl, _, _, rfl, rfl, n, 1, rfl, rfl, _, rfl, by omega, by omega, (show c2 < 1000000 by omega), fun k0 c3 h2 h3 hc3 => ?_⟩
      have hc3 : c3 ≤ c2 + 1 := hc3
      have h3 : k0 < (n : Int) + 1 := h3
      obtain ⟨k, rfl⟩ := Int.eq_ofNat_of_zero_le h2
      exact ⟨k, c3, Int.lt_add_one_iff.mp h3 |> Int.ofNat_le.mp, rfl, by omega⟩
  · rintro s3 ⟨k, c3, hk, rfl, hc3⟩
    refine ⟨rfl, _, rfl, _, rfl, n, k, rfl, by omega, hk, (show c3 ≤ 900000 by omega), fun row c4 hnd hrl hb hc4 => ?_⟩
    have hc4 : c4 ≤ c3 + 1 + 2 * (k : Int) := hc4
    refine ⟨_, rfl, _, rfl, _, rfl, rfl, _, rfl, row, rfl, hnd, by omega, (show c4 ≤ 900000 by omega), fun ns c5 hU hbn hnl hc5 => ?_⟩
    have hc5 : c5 ≤ c4 + 1 + 2 * ((row.length : Nat) : Int) := hc5
    rw [hrl] at hbn hnl hc5
    exact ⟨(show 3 ≤ 100000 by decide), (show 2 ≤ 100000 by decide), q _ n k ns c5 hk (by omega) hU hbn hnl (by omega)⟩
end
end Og6

namespace Og6
open PySem PySem.Spec PyProof.Rows L2 OgR Evl Dw OgM Gx
local macro_rules | `(tactic| walk_at "d") => `(tactic| first
  | refine ⟨_, rfl, ?_⟩ | refine ⟨_, _, rfl, rfl, ?_⟩ | refine iteT ?_ | refine iteF ?_ | refine ⟨_, _, rfl, rfl, rfl, ?_⟩ | refine ⟨rfl, ?_⟩)
/-! ### a dict by its notes -/
def kvN (n : NT) : List Key × PyData := ([.inl n.1, .inr n.2.1], n.2.2)
theorem key_iff (m n : NT) : (kvN m).1 = (kvN n).1 ↔ m.1 = n.1 ∧ m.2.1 = n.2.1 := by
  unfold kvN
  constructor
  · intro h
    have h1 := (List.cons.inj h).1
    have h2 := (List.cons.inj (List.cons.inj h).2).1
    exact ⟨Sum.inl.inj h1, Sum.inr.inj h2⟩
  · rintro ⟨h1, h2⟩
    rw [h1, h2]
def putN (ns : List NT) (n : NT) : List NT := if (ns.any fun m => decide ((kvN m).1 = (kvN n).1)) = true then ns.map (fun m => if (kvN m).1 = (kvN n).1 then n else m) else ns ++ [n]
theorem put_kv (ns : List NT) (n : NT) : putG (ns.map kvN) (kvN n).1 n.2.2 = (putN ns n).map kvN := by
  unfold putG putN
  have e : ((ns.map kvN).any fun kd => decide (kd.1 = (kvN n).1)) = (ns.any fun m => decide ((kvN m).1 = (kvN n).1)) := by rw [List.any_map]; rfl
  rw [e]
  split
  · rw [List.map_map, List.map_map]
    refine List.map_congr_left fun m _ => ?_
    show (if (kvN m).1 = (kvN n).1 then ((kvN m).1, n.2.2) else kvN m) = kvN (if (kvN m).1 = (kvN n).1 then n else m)
    by_cases h : (kvN m).1 = (kvN n).1
    · rw [if_pos h, if_pos h, h]
      rfl
    · rw [if_neg h, if_neg h]
  · rw [List.map_append]
    rfl
theorem putN_mem {ns : List NT} {n x : NT} (h : x ∈ putN ns n) : x = n ∨ x ∈ ns ∧ (kvN x).1 ≠ (kvN n).1 := by
  unfold putN at h
  split at h
  · obtain ⟨m, hm, e⟩ := List.mem_map.mp h
    by_cases hq : (kvN m).1 = (kvN n).1
    · rw [if_pos hq] at e
      exact .inl e.symm
    · rw [if_neg hq] at e
      subst e
      exact .inr ⟨hm, hq⟩
  · rename_i hn
    rcases List.mem_append.mp h with h | h
    · refine .inr ⟨h, fun e => hn ?_⟩
      exact List.any_eq_true.mpr ⟨x, h, decide_eq_true e⟩
    · exact .inl (List.mem_singleton.mp h)
theorem NU.put {ns : List NT} {n : NT} (h : NU ns) (hn : NOk n) : NU (putN ns n) := by
  refine ⟨fun x hx => ?_, fun x hx y hy a b => ?_⟩
  · rcases putN_mem hx with rfl | ⟨hx, _⟩
    · exact hn
    · exact h.ok x hx
  · rcases putN_mem hx with hx | ⟨hx, n1⟩
    · rcases putN_mem hy with hy | ⟨hy, n2⟩
      · rw [hx, hy]
      · exact absurd ((key_iff y n).mpr (by rw [← hx]; exact ⟨a.symm, b.symm⟩)) n2
    · rcases putN_mem hy with hy | ⟨hy, n2⟩
      · exact absurd ((key_iff x n).mpr (by rw [← hy]; exact ⟨a, b⟩)) n1
      · exact h.uni x hx y hy a b
theorem putN_len (ns : List NT) (n : NT) : (putN ns n).length ≤ ns.length + 1 := by
  unfold putN
  split
  · rw [List.length_map]
    omega
  · rw [List.length_append]
    exact Nat.le_refl _
theorem look_kv {ns : List NT} {n : NT} (h : NU ns) (hn : n ∈ ns) : lookG (ns.map kvN) (kvN n).1 = some n.2.2 := by
  unfold lookG
  rw [List.find?_map]
  have : (ns.find? ((fun kd : List Key × PyData => decide (kd.1 = (kvN n).1)) ∘ kvN)).isSome = true := List.find?_isSome.mpr ⟨n, hn, decide_eq_true rfl⟩
  obtain ⟨m, hm⟩ := Option.isSome_iff_exists.mp this
  have hp := List.find?_some hm
  have hp : decide ((kvN m).1 = (kvN n).1) = true := hp
  have h1 := of_decide_eq_true hp
  have h2 := List.mem_of_find?_eq_some hm
  obtain ⟨a, b⟩ := (key_iff m n).mp h1
  rw [hm, h.uni m h2 n hn a b]
  rfl
def gN : PyData → NT
  | .tuple [.int t, .str s, v] => (t, s, v)
  | _ => (0, "", .none)
theorem perm_n {l : List PyData} {ns : List NT} (h : l.Perm (ns.map nD)) : ∃ ns' : List NT, l = ns'.map nD ∧ ns'.Perm ns := by
  refine ⟨l.map gN, ?_, ?_⟩
  · rw [List.map_map]
    have : ∀ d ∈ l, (nD ∘ gN) d = d := fun d hd => by
      obtain ⟨n, _, rfl⟩ := List.mem_map.mp (h.mem_iff.mp hd)
      rfl
    exact (List.map_congr_left this |>.trans (List.map_id l)).symm
  · have := h.map gN
    rw [List.map_map] at this
    have e : ns.map (gN ∘ nD) = ns := by
      have : (gN ∘ nD) = id := funext fun n => rfl
      rw [this, List.map_id]
    rw [e] at this
    exact this
theorem NU.perm {ns ns' : List NT} (h : NU ns) (p : ns'.Perm ns) : NU ns' := ⟨fun n hn => h.ok n (p.mem_iff.mp hn), fun n hn m hm => h.uni n (p.mem_iff.mp hn) m (p.mem_iff.mp hm)⟩
theorem lcK_map {i0 : Nat} {g : WG} {te : WE} {vs : List Nat} {s : Dt} {Q : List PyData → Dt → Prop} {kvs : List (List Key × PyData)} (f : PyData → PyData) (e0 : s.env[i0]? = some (some (.dit kvs))) (nd : noDD s.env = true) (hl : kvs.length ≤ 99999)
    (h : ∀ d ∈ kvs.map keyT, ∀ (acc : List PyData) (J : List PyData → Int → Prop), acc.length < 100000 → J (acc ++ [f d]) s.c → g d ⟨wipeD (s.env.set i0 (some (.dd kvs))) vs, s.c⟩ fun s2 => te s2 fun y s4 => s4.env = s2.env ∧ acc.length < 100000 ∧ J (acc ++ [y]) s4.c) (q : Q ((kvs.map keyT).map f) s) :
    wLcK i0 g (fun s Q => Q true s) te vs s Q :=
  ⟨kvs, e0, nd, lc_map (Q := fun acc s' => Q acc ⟨s.env, s'.c⟩) (env := s.env.set i0 (some (.dd kvs))) (c := s.c) f (by rw [List.length_map]; exact hl) h q⟩
def fK (ms : List NT) : PyData → PyData
  | .tuple [.int t, .str s] => .tuple [.int t, .str s, (lookG (ms.map kvN) [.inl t, .inr s]).getD .none]
  | _ => .none
theorem fK_map {ms : List NT} (h : NU ms) : (((ms.map kvN).map keyT).map (fK ms)) = ms.map nD := by
  rw [List.map_map, List.map_map]
  refine List.map_congr_left fun m hm => ?_
  show PyData.tuple [.int m.1, .str m.2.1, (lookG (ms.map kvN) (kvN m).1).getD .none] = nD m
  rw [look_kv h hm]
  rfl
section
variable {P : Program} {wd : World} {K : PySem.W.Frag} {mg : Str → Option Value} {base : Heap}
def f_spoilt : FB := fun ds c R => ∃ (n k : Nat) (ns : List NT), ds = [BkD (.int n) (.int k) ns] ∧ n ≤ 20 ∧ k ≤ n ∧ NU ns ∧ (∀ n ∈ ns, 0 ≤ n.1 ∧ n.1 < (k : Int)) ∧ ns.length ≤ 2 * k ∧ c ≤ 850000 ∧
  ∀ (ns' : List NT) c', NU ns' → (∀ n ∈ ns', 0 ≤ n.1 ∧ n.1 < (k : Int)) → ns'.length ≤ 2 * k + 3 → c' ≤ c + 20 → R (BkD (.int n) (.int k) ns') c'
theorem ok_l_spoilt (T : Top wd K mg) : Def P wd K mg base 3 "_law_spoilt" s_l_spoilt ["_law_box_here", "_law_book_here"] (spB K f_spoilt) := by
  have g_l_take := ok_l_take (P := P) (base := base) T
  have g_l_of := ok_l_of (P := P) (base := base) T
  refine Def.draws T.d_l_spoilt sc_l_spoilt (fun ds c R h => by obtain ⟨_, _, _, rfl, _⟩ := h; rfl) (fun f cdv A outer s H G l E ds c R hG hr h => ?_)
  obtain ⟨n, k, ns, rfl, hn, hk, hU, hb, hnl, hc, q⟩ := h
  refine ⟨_, _, (dss_cons (ds_asg (de_v 1) (dg_tup (n := 3) rfl (by rfl) (dgs_c (dg_name 2 sc_l_spoilt.nd) (dgs_c (dg_name 3 sc_l_spoilt.nd) (dgs_c (dg_name 4 sc_l_spoilt.nd) dgs_nil)))))
      (dss_cons (ds_newT 5 sc_l_spoilt.nd)
      (dss_cons (ds_for PassesOwn.never (by rfl) (di_seq rfl (de_v 4)) (dg_tup (n := 3) rfl (by rfl) (dgs_c (dg_name 6 sc_l_spoilt.nd) (dgs_c (dg_name 7 sc_l_spoilt.nd) (dgs_c (dg_name 8 sc_l_spoilt.nd) dgs_nil))))
        (dss_one (ds_tput 5 (hu_of hr) (de_v 8) (da_cons (de_v 6) (da_cons (de_v 7) da_nil)))))
      (dss_cons (ds_for PassesOwn.never (by rfl) (di_rng1 (by rfl) T.b_range (de_bin o_mul (DE.p (de_bin o_add (DE.p de_int) (DE.p (de_cB 0 g_l_take hG (hr.mono (by omega)) (by rfl) (da_cons de_int da_nil))))) (DE.p (de_toInt (by rfl) T.b_int (DE.p (de_cmp o_gt (dp_v 3) (DE.p de_int))))))) (dg_name 9 sc_l_spoilt.nd)
        (dss_cons (ds_par2 7 6 (by rfl) sc_l_spoilt.nd (dx_cons (DE.dx (de_cB 0 g_l_of hG (hr.mono (by omega)) (by rfl) (da_cons (DO.d (do_lst (da_cons de_str (da_cons de_str (da_cons de_str da_nil))))) da_nil))) (dx_cons (DE.dx (de_cB 0 g_l_take hG (hr.mono (by omega)) (by rfl) (da_cons (de_v 3) da_nil))) dx_nil)))
        (dss_cut (ds_set 8 sc_l_spoilt.nd (de_if (dt_cmp (o_eq rfl hr.units) (dp_v 7) (DE.p de_str)) (de_bin o_add (DE.p de_int) (DE.p (de_cB 0 g_l_take hG (hr.mono (by omega)) (by rfl) (da_cons (de_bin o_add (DE.p de_int) (dp_v 3)) da_nil)))) (de_cB 0 g_l_of hG (hr.mono (by omega)) (by rfl) (da_cons (DO.d (do_lst (da_cons de_str (da_cons de_str (da_cons de_str da_nil))))) da_nil))))
        (dss_one (ds_tput 5 (hu_of hr) (de_v 8) (da_cons (de_v 6) (da_cons (de_v 7) da_nil)))))))
      (dss_one (ds_ret (de_tup (da_cons (de_v 2) (da_cons (de_v 3) (da_cons (de_tupleOf rfl (by rfl) T.b_tuple (DE.p (DO.d (do_srtR rfl hr.units (by rfl) T.b_sorted (DE.p (DO.d (do_lcKT 5 (n := 2) (own := [("_law_spot", 6), ("_law_kind", 7)]) rfl (by rfl) sc_l_spoilt.nd (blkOk_by (own := [("_law_spot", 6), ("_law_kind", 7)]) (N := ["_law_box_here", "_law_book_here", "_law_count", "_law_size", "_law_notes_here", "_law_found", "_law_spot", "_law_kind", "_law_value", "_law_turn"]) (sc := defScope s_l_spoilt) (by decide +kernel)) (fun _ _ _ _ _ => (dgs_c (dg_name 6 sc_l_spoilt.nd (hf := Or.inr rfl)) (dgs_c (dg_name 7 sc_l_spoilt.nd (hf := Or.inr rfl)) dgs_nil))) ts_no (fun _ _ _ _ _ => (de_tup (da_cons (de_v 6) (da_cons (de_v 7) (da_cons (de_tget 5 (p2 := ⟨0, 0, 0, 0⟩) (hu_of hr) (da_cons (de_v 6) (da_cons (de_v 7) da_nil))) da_nil)))))))))))) da_nil)))))))))), ?_⟩
  refine ⟨_, rfl, rfl, rfl, _, _, rfl, _, _, rfl, _, _, rfl, rfl, ?_⟩
  refine ⟨_, rfl, rfl, for_by (fun i s2 => ∃ ms y6 y7 y8, s2 = ⟨[some .box, some (.d (BkD (.int n) (.int k) ns)), some (.d (.int n)), some (.d (.int k)), some (.d (.tuple (ns.map nD))), some (.dit (ms.map kvN)), y6, y7, y8, none], c⟩ ∧ noDD [y6, y7, y8] = true ∧ NU ms ∧ (∀ n ∈ ms, 0 ≤ n.1 ∧ n.1 < (k : Int)) ∧ ms.length ≤ i) ⟨[], none, none, none, rfl, rfl, .nil, fun n h => by simp at h, Nat.le_refl _⟩ (fun i d s2 J hi inv hJ => ?_) (fun s2 inv => ?_)⟩
  · obtain ⟨ms, y6, y7, y8, rfl, hdd, hM, hmb, hml⟩ := inv
    have hi : (ns.map nD)[i]? = some d := hi
    rw [List.getElem?_map] at hi
    obtain ⟨m, hm, rfl⟩ := Option.map_eq_some_iff.mp hi
    have hmm := List.mem_of_getElem? hm
    have hil := (List.getElem?_eq_some_iff.mp hm).1
    refine ⟨rfl, rfl, _, _, rfl, _, _, rfl, _, _, rfl, rfl, _, rfl, ⟨_, rfl⟩, _, rfl, _, rfl, ms.map kvN, (kvN m).1, rfl, rfl, (show 2 ≤ 100000 by decide), (show (ms.map kvN).length < 100000 by rw [List.length_map]; omega), hJ _ ⟨putN ms m, some (.d (.int m.1)), some (.d (.str m.2.1)), some (.d m.2.2), ?_, rfl, hM.put (hU.ok m hmm), fun x hx => ?_, by have := putN_len ms m; omega⟩⟩
    · show (⟨[some .box, _, _, _, _, some (.dit (putG (ms.map kvN) (kvN m).1 m.2.2)), _, _, _, none], c⟩ : Dt) = _
      rw [put_kv]
    · rcases putN_mem hx with rfl | ⟨hx, _⟩
      · exact hb _ hmm
      · exact hmb x hx
  · obtain ⟨ms, y6, y7, y8, rfl, hdd, hM, hmb, hml⟩ := inv
    have hml : ms.length ≤ ns.length := by
      rw [show (its (.tuple (ns.map nD))).length = ns.length from List.length_map ..] at hml
      exact hml
    refine ⟨rfl, 3, rfl, by decide, by decide, (show c < 1000000 by omega), fun r c1 hr0 hr1 hc1 => ?_⟩
    have hc1 : c1 ≤ c + 1 := hc1
    refine ⟨1, r, rfl, rfl, _, _, rfl, rfl, k, 0, rfl, rfl, .inr ⟨_, rfl, _, _, rfl, rfl, .inl ⟨by omega, by omega⟩, ?_⟩⟩
    have hz : ((1 + r) * (if decide ((0 : Int) < (k : Int)) then 1 else 0)) ≤ 3 ∧ 0 ≤ ((1 + r) * (if decide ((0 : Int) < (k : Int)) then 1 else 0)) ∧ (k = 0 → ((1 + r) * (if decide ((0 : Int) < (k : Int)) then 1 else 0)) = 0) := by
      by_cases h0 : (0 : Int) < (k : Int)
      · rw [decide_eq_true h0, if_pos rfl]
        omega
      · rw [decide_eq_false h0, if_neg (by decide)]
        omega
    obtain ⟨tt, htt⟩ : ∃ t : Int, t = (1 + r) * (if decide ((0 : Int) < (k : Int)) then 1 else 0) := ⟨_, rfl⟩
    rw [← htt] at hz
    refine ⟨tt, by rw [htt], by omega, by omega, for_by (fun i s2 => ∃ ms y6 y7 y8 y9 c2, s2 = ⟨[some .box, some (.d (BkD (.int n) (.int k) ns)), some (.d (.int n)), some (.d (.int k)), some (.d (.tuple (ns.map nD))), some (.dit (ms.map kvN)), y6, y7, y8, y9], c2⟩ ∧ noDD [y6, y7, y8, y9] = true ∧ NU ms ∧ (∀ n ∈ ms, 0 ≤ n.1 ∧ n.1 < (k : Int)) ∧ ms.length ≤ ns.length + i ∧ c2 ≤ c1 + 3 * (i : Nat)) ⟨ms, y6, y7, y8, none, c1, rfl, ?_, hM, hmb, by omega, by omega⟩ (fun i d s2 J hi inv hJ => ?_) (fun s2 inv => ?_)⟩
    · show (_ && (_ && (_ && true))) = true
      simpa [noDD] using hdd
    · obtain ⟨ms, y6, y7, y8, y9, c2, rfl, hdd, hM, hmb, hml, hc2⟩ := inv
      obtain ⟨hi2, rfl⟩ := iota_get hi
      have hi2 : (i : Int) < tt := by omega
      have hk1 : 1 ≤ k := by
        rcases Nat.eq_zero_or_pos k with h | h
        · have := hz.2.2 h
          omega
        · exact h
      refine ⟨rfl, (show 3 ≤ 100000 by decide), _, rfl, rfl, (show 1 ≤ 3 by decide), (show 3 ≤ 1000 by decide), (show c2 < 1000000 by omega), fun kd c3 hkd hc3 => ?_⟩
      have hc3 : c3 ≤ c2 + 1 := hc3
      refine ⟨rfl, _, rfl, k, rfl, by omega, by omega, (show c3 < 1000000 by omega), fun sp c4 hs0 hs1 hc4 => ?_⟩
      have hc4 : c4 ≤ c3 + 1 := hc4
      have hkd : kd = .str "groups" ∨ kd = .str "house" := by
        have hkd : kd ∈ [PyData.str "groups", .str "groups", .str "house"] := hkd
        simp only [List.mem_cons, List.not_mem_nil, or_false] at hkd
        rcases hkd with h | h | h
        · exact .inl h
        · exact .inl h
        · exact .inr h
      refine ⟨rfl, fun s3 => ∃ (m : NT) (c5 : Int), NOk m ∧ 0 ≤ m.1 ∧ m.1 < (k : Int) ∧ c5 ≤ c4 + 1 ∧ s3 = ⟨[some .box, some (.d (BkD (.int n) (.int k) ns)), some (.d (.int n)), some (.d (.int k)), some (.d (.tuple (ns.map nD))), some (.dit (ms.map kvN)), some (.d (.int m.1)), some (.d (.str m.2.1)), some (.d m.2.2), some (.d (.int (0 + (i : Int))))], c5⟩, ?_, ?_⟩
      · rcases hkd with rfl | rfl
        · refine ⟨_, _, rfl, rfl, shp_str "groups", shp_str "groups", _, rfl, ?_⟩
          rw [eqv_str, decide_eq_true rfl]
          refine iteT ⟨rfl, _, _, rfl, rfl, 1, k, rfl, rfl, _, rfl, by omega, by omega, (show c4 < 1000000 by omega), fun v c5 hv0 hv1 hc5 => ⟨1, v, rfl, rfl, ?_⟩⟩
          have hc5 : c5 ≤ c4 + 1 := hc5
          exact ⟨(sp, "groups", .int (1 + v)), c5, nok_g (by omega) (by omega), hs0, hs1, hc5, rfl⟩
        · refine ⟨_, _, rfl, rfl, shp_str "house", shp_str "groups", _, rfl, ?_⟩
          rw [eqv_str, decide_eq_false (by decide)]
          refine iteF ⟨rfl, (show 3 ≤ 100000 by decide), _, rfl, rfl, (show 1 ≤ 3 by decide), (show 3 ≤ 1000 by decide), (show c4 < 1000000 by omega), fun vd c5 hvd hc5 => ?_⟩
          have hc5 : c5 ≤ c4 + 1 := hc5
          have hvd : vd ∈ [PyData.str "new", .str "beside", .str "between"] := hvd
          have hz : ∃ z : Str, vd = .str z ∧ FlB (.str z) := by
            simp only [List.mem_cons, List.not_mem_nil, or_false] at hvd
            rcases hvd with h | h | h
            · exact ⟨_, h, flb_w .new⟩
            · exact ⟨_, h, flb_w .beside⟩
            · exact ⟨_, h, flb_w .between⟩
          obtain ⟨z, rfl, hfz⟩ := hz
          exact ⟨(sp, "house", .str z), c5, nok_h (by omega) hfz, hs0, hs1, hc5, rfl⟩
      · rintro s3 ⟨m, c5, hmo, hm0, hm1, hc5, rfl⟩
        refine ⟨_, rfl, ⟨_, rfl⟩, _, rfl, _, rfl, ms.map kvN, (kvN m).1, rfl, rfl, (show 2 ≤ 100000 by decide), (show (ms.map kvN).length < 100000 by rw [List.length_map]; omega), hJ _ ⟨putN ms m, some (.d (.int m.1)), some (.d (.str m.2.1)), some (.d m.2.2), some (.d (.int (0 + (i : Int)))), c5, ?_, rfl, hM.put hmo, fun x hx => ?_, by have := putN_len ms m; omega, by omega⟩⟩
        · show (⟨[some .box, _, _, _, _, some (.dit (putG (ms.map kvN) (kvN m).1 m.2.2)), _, _, _, _], c5⟩ : Dt) = _
          rw [put_kv]
        · rcases putN_mem hx with rfl | ⟨hx, _⟩
          · exact ⟨hm0, hm1⟩
          · exact hmb x hx
    · obtain ⟨ms, y6, y7, y8, y9, c2, rfl, hdd, hM, hmb, hml, hc2⟩ := inv
      have e1 : (iotaD 0 tt).length ≤ 3 := by
        unfold iotaD
        rw [List.length_map, List.length_range]
        omega
      refine ⟨_, rfl, _, rfl, lcK_map (fK ms) rfl hdd (by rw [List.length_map]; omega) (fun d hd acc J' hacc hJ' => ?_) ?_⟩
      · obtain ⟨kv, hkv, rfl⟩ := List.mem_map.mp hd
        obtain ⟨m, hm, rfl⟩ := List.mem_map.mp hkv
        refine ⟨rfl, rfl, _, _, rfl, _, _, rfl, rfl, _, rfl, _, rfl, ⟨_, rfl⟩, _, rfl, _, rfl, ms.map kvN, (kvN m).1, _, rfl, rfl, (show 2 ≤ 100000 by decide), look_kv hM hm, (show 3 ≤ 100000 by decide), rfl, hacc, ?_⟩
        have hJ' : J' (acc ++ [.tuple [.int m.1, .str m.2.1, (lookG (ms.map kvN) (kvN m).1).getD .none]]) c2 := hJ'
        rw [look_kv hM hm] at hJ'
        exact hJ'
      · rw [fK_map hM]
        obtain ⟨ns', e2, hp⟩ := perm_n (srtR_perm (ms.map nD))
        refine ⟨rfl, rows_ok hM.ok hM.uni, rfl, (show 3 ≤ 100000 by decide), ?_⟩
        show R (.tuple [.int n, .int k, .tuple (srtR (ms.map nD))]) c2
        rw [e2]
        exact q ns' c2 (hM.perm hp) (fun x hx => hmb x (hp.mem_iff.mp hx)) (by rw [hp.length_eq]; omega) (by omega)
/-! ### _law_book -/
def f_book : FB := fun ds c R => ∃ m : Nat, ds = [.int m] ∧ m ≤ 20 ∧ c ≤ 800000 ∧ ∀ (n k : Nat) (ns : List NT) c', k ≤ n → n ≤ m → NU ns → (∀ n ∈ ns, 0 ≤ n.1 ∧ n.1 < (k : Int)) → ns.length ≤ 2 * k + 3 → c' ≤ c + 121 → R (BkD (.int n) (.int k) ns) c'
theorem ok_l_book (T : Top wd K mg) : Def P wd K mg base 5 "_law_book" s_l_book ["_law_box_here", "_law_most"] (spB K f_book) := by
  have g_l_take := ok_l_take (P := P) (base := base) T
  have g_l_story := ok_l_story (P := P) (base := base) T
  have g_l_spoilt := ok_l_spoilt (P := P) (base := base) T
  refine Def.draws T.d_l_book sc_l_book (fun ds c R h => by obtain ⟨_, rfl, _⟩ := h; rfl) (fun f cdv A outer s H G l E ds c R hG hr h => ?_)
  obtain ⟨m, rfl, hm, hc, q⟩ := h
  refine ⟨_, _, (dss_cons (ds_set 2 sc_l_book.nd (de_ix rfl (DE.p (de_cB 0 g_l_story hG (hr.mono (by omega)) (by rfl) (da_cons (de_v 1) da_nil))) (DE.p de_int)))
      (dss_one (ds_ret (de_if (dt_cmp (o_eq rfl hr.units) (DE.p (de_cB 0 g_l_take hG (hr.mono (by omega)) (by rfl) (da_cons de_int da_nil))) (DE.p de_int)) (de_cB 0 g_l_spoilt hG (hr.mono (by omega)) (by rfl) (da_cons (de_v 2) da_nil)) (de_v 2))))), ?_⟩
  refine ⟨rfl, _, rfl, m, rfl, hm, hc, fun qu n k ns c1 hk hn hU hb hnl hc1 => ?_⟩
  have hc1 : c1 ≤ c + 100 := hc1
  refine ⟨1, _, rfl, rfl, rfl, ?_⟩
  refine ⟨rfl, 2, rfl, by decide, by decide, (show c1 < 1000000 by omega), fun r2 c2 _ _ hc2 => ⟨shp_int _, shp_int _, _, rfl, ?_⟩⟩
  have hc2 : c2 ≤ c1 + 1 := hc2
  cases hd : PyData.eqv (.int r2) (.int 0) with
  | true =>
    refine iteT ⟨rfl, _, rfl, n, k, ns, rfl, by omega, hk, hU, hb, hnl, (show c2 ≤ 850000 by omega), fun ns' c3 hU' hb' hnl' hc3 => ?_⟩
    have hc3 : c3 ≤ c2 + 20 := hc3
    exact q n k ns' c3 hk hn hU' hb' hnl' (by omega)
  | false => exact iteF ⟨_, rfl, q n k ns c2 hk hn hU hb (by omega) (by omega)⟩
end
end Og6

namespace Og6
open PySem PySem.Spec PyProof.Rows L2 OgR Evl Dw OgM Gx
local macro_rules | `(tactic| walk_at "d") => `(tactic| first
  | refine ⟨_, rfl, ?_⟩ | refine ⟨_, _, rfl, rfl, ?_⟩ | refine iteT ?_ | refine iteF ?_ | refine ⟨_, _, rfl, rfl, rfl, ?_⟩ | refine ⟨rfl, ?_⟩)
theorem lf_of {d : PyData} (h : FlB d) : Lf 1000 d := by cases d <;> exact h
theorem soft_bk (n k : Nat) (ns : List NT) (h : ∀ m ∈ ns, NOk m) : softK 3 (BkD (.int n) (.int k) ns) = BkL (.int n) (.int k) ns := by
  show PyData.list [.int n, .int k, .list ((ns.map nD).map (softK 1))] = PyData.list [.int n, .int k, .list (ns.map nL)]
  rw [List.map_map]
  have : ns.map (softK 1 ∘ nD) = ns.map nL := List.map_congr_left fun m _ => rfl
  rw [this]
theorem flb_nat {n : Nat} (h : n ≤ 1000) : FlB (.int n) := by show (n : Int).natAbs ≤ _; omega
theorem bd_bk {n k : Nat} {ns : List NT} (hn : n ≤ 1000) (hk : k ≤ 1000) (h : ∀ m ∈ ns, NOk m) (hl : ns.length ≤ 100) : Bd 100 3 (BkD (.int n) (.int k) ns) := bd_tup (show 3 ≤ 100 by decide) fun x hx => by
  simp only [List.mem_cons, List.not_mem_nil, or_false] at hx
  rcases hx with rfl | rfl | rfl
  · exact .flat (flb_nat hn)
  · exact .flat (flb_nat hk)
  · exact bd_ns h hl
theorem bd_bkL {n k : Nat} {ns : List NT} (hn : n ≤ 1000) (hk : k ≤ 1000) (h : ∀ m ∈ ns, NOk m) (hl : ns.length ≤ 100) : Bd 100 3 (BkL (.int n) (.int k) ns) := bd_lst (show 3 ≤ 100 by decide) fun x hx => by
  simp only [List.mem_cons, List.not_mem_nil, or_false] at hx
  rcases hx with rfl | rfl | rfl
  · exact .flat (flb_nat hn)
  · exact .flat (flb_nat hk)
  · exact bd_lst (by rw [List.length_map]; exact hl) fun x hx => by
      obtain ⟨m, hm, rfl⟩ := List.mem_map.mp hx
      refine bd_lst (show 3 ≤ 100 by decide) fun x hx => ?_
      simp only [List.mem_cons, List.not_mem_nil, or_false] at hx
      have h := h m hm
      rcases hx with rfl | rfl | rfl
      · exact Nat.le_trans h.t (by omega)
      · exact h.s
      · exact h.v
theorem tw_n {m : NT} (h : NOk m) : Tw (nD m) = 1210 := by
  have := (lf_of h.v).tw
  simp only [nD, Tw, TwA, this]
theorem twA_n : ∀ {ns : List NT}, (∀ m ∈ ns, NOk m) → TwA (ns.map nD) = 1212 * ns.length
  | [], _ => rfl
  | m :: ns, h => by
    rw [List.map_cons, List.length_cons]
    simp only [TwA]
    rw [tw_n (h m List.mem_cons_self), twA_n fun x hx => h x (List.mem_cons_of_mem _ hx)]
    omega
theorem rep_bk {n k : Nat} {ns : List NT} (hn : n ≤ 1000) (hk : k ≤ 1000) (h : ∀ m ∈ ns, NOk m) (hl : ns.length ≤ 60) : RepOk (BkD (.int n) (.int k) ns) := by
  refine Sm.rep (b := 1000) (w := 100) (k := 3) (L := 90000) (Sm.tup (fun x hx => ?_) (show 3 ≤ 100 by decide) ?_) (by decide) (by decide) (by decide)
  · simp only [List.mem_cons, List.not_mem_nil, or_false] at hx
    rcases hx with rfl | rfl | rfl
    · exact .flat (lf_of (flb_nat hn))
    · exact .flat (lf_of (flb_nat hk))
    · refine .inr ⟨_, .inr rfl, by rw [List.length_map]; omega, fun x hx => ?_⟩
      obtain ⟨m, hm, rfl⟩ := List.mem_map.mp hx
      refine .inr ⟨_, .inr rfl, (show 3 ≤ 100 by decide), fun x hx => ?_⟩
      simp only [List.mem_cons, List.not_mem_nil, or_false] at hx
      have h := h m hm
      rcases hx with rfl | rfl | rfl
      · exact lf_of (show FlB (.int m.1) from Nat.le_trans h.t (by omega))
      · exact lf_of h.s
      · exact lf_of h.v
  · simp only [TwA, Tw]
    rw [twA_n h]
    omega
def thF (it : NT) (d : PyData) : Option PyData := if sameHd it (gN d) = true then some d else none
theorem thF_map (it : NT) : ∀ ns : List NT, (ns.map nD).filterMap (thF it) = (ns.filter (sameHd it)).map nD
  | [] => rfl
  | n :: ns => by
    rw [List.map_cons, List.filterMap_cons, List.filter_cons, thF_map it ns]
    have e : thF it (nD n) = if sameHd it n = true then some (nD n) else none := rfl
    rw [e]
    cases sameHd it n <;> rfl
theorem withD_bd {n k : Nat} {ns : List NT} {it : NT} (hn : n ≤ 1000) (hk : k ≤ 1000) (h : NsOk ns) (hl : ns.length ≤ 60) (hi : NOk it) : Bd 100 3 (toldO (withD (.int n) (.int k) ns it)) := by
  unfold withD
  cases hf : ns.find? (sameHd it) with
  | some m =>
    refine bd_tup (show 2 ≤ 100 by decide) fun x hx => ?_
    simp only [List.mem_cons, List.not_mem_nil, or_false] at hx
    rcases hx with rfl | rfl
    · exact .flat (show FlB (.str "Noted") from ⟨sok _, by decide +kernel⟩)
    · exact (bd_n (w := 100) (by decide) (h.ok m (List.mem_of_find?_eq_some hf))).up (Nat.le_refl _) (by decide)
  | none =>
    refine bd_tup (show 3 ≤ 100 by decide) fun x hx => ?_
    simp only [List.mem_cons, List.not_mem_nil, or_false] at hx
    rcases hx with rfl | rfl | rfl
    · exact .flat (flb_nat hn)
    · exact .flat (flb_nat hk)
    · have hp := srtR_perm (ns.map nD ++ [nD it])
      refine bd_tup (by rw [hp.length_eq, List.length_append, List.length_map]; show ns.length + 1 ≤ 100; omega) fun x hx => ?_
      rcases List.mem_append.mp (hp.mem_iff.mp hx) with hx | hx
      · obtain ⟨m, hm, rfl⟩ := List.mem_map.mp hx
        exact bd_n (by decide) (h.ok m hm)
      · rw [List.mem_singleton.mp hx]
        exact bd_n (by decide) hi
theorem woD_bd {n k : Nat} {ns : List NT} {it : NT} (hn : n ≤ 1000) (hk : k ≤ 1000) (h : NsOk ns) (hi : NOk it) : Bd 100 3 (toldO (woD (.int n) (.int k) ns it)) := by
  unfold woD
  split
  · refine bd_tup (show 3 ≤ 100 by decide) fun x hx => ?_
    simp only [List.mem_cons, List.not_mem_nil, or_false] at hx
    rcases hx with rfl | rfl | rfl
    · exact .flat (flb_nat hn)
    · exact .flat (flb_nat hk)
    · refine bd_tup (Nat.le_trans (List.length_filter_le _ _) (by rw [List.length_map]; exact h.len)) fun x hx => ?_
      obtain ⟨m, hm, rfl⟩ := List.mem_map.mp (List.mem_filter.mp hx).1
      exact bd_n (by decide) (h.ok m hm)
  · refine bd_tup (show 2 ≤ 100 by decide) fun x hx => ?_
    simp only [List.mem_cons, List.not_mem_nil, or_false] at hx
    rcases hx with rfl | rfl
    · exact .flat (show FlB (.str "NoNote") from ⟨sok _, by decide +kernel⟩)
    · exact (bd_n (w := 100) (by decide) hi).up (Nat.le_refl _) (by decide)
theorem at0 (a : PyData) (l : List PyData) : atI (a :: l) 0 = some a := by
  unfold atI ixN
  rw [if_pos (by decide), if_pos (by simp)]
  rfl
theorem bd_two {d : PyData} (h : Bd 100 3 d) : Bd 100 4 (.list [d, d]) := bd_lst (show 2 ≤ 100 by decide) fun x hx => by
  simp only [List.mem_cons, List.not_mem_nil, or_false] at hx
  rcases hx with rfl | rfl <;> exact h
@[reducible] def stR (n k : Nat) (ns : List NT) (x7 x8 x9 x10 x11 x12 : Option DV) (c : Int) : Dt := ⟨[some .box, some (.d (BkD (.int n) (.int k) ns)), some (.d (.int n)), some (.d (.int k)), some (.d (.tuple (ns.map nD))), some (.d (BkL (.int n) (.int k) ns)), some (.d (.str (BkD (.int n) (.int k) ns).shown)), x7, x8, x9, x10, x11, x12, none], c⟩
section
variable {P : Program} {wd : World} {K : PySem.W.Frag} {mg : Str → Option Value} {base : Heap} {c : Nat → Addr}
theorem ok_l_right (T : Top wd K mg) (Y : TopX K mg c) : Def P wd K mg base 6 "_law_right" s_l_right ["_law_box_here"] (spB K fRight) := by
  have g_l_take := ok_l_take (P := P) (base := base) T
  have g_l_of := ok_l_of (P := P) (base := base) T
  have g_l_book := ok_l_book (P := P) (base := base) T
  have g_l_lists := ok_l_lists (P := P) (base := base) T (w := 100) (by decide) 3
  have g_l_same := ok_l_same (P := P) (base := base) T (w := 100) (by decide) 4
  have g_l_told := ok_l_told (P := P) (base := base) T Y
  refine Def.draws T.d_l_right sc_l_right (fun ds c R h => by obtain ⟨rfl, _⟩ := h; rfl) (fun f cdv A outer s H G l E ds c0 R hG hr h => ?_)
  obtain ⟨rfl, hc, q⟩ := h
  refine ⟨_, _, (dss_cons (ds_set 1 sc_l_right.nd (de_cB 0 g_l_book hG (hr.mono (by omega)) (by rfl) (da_cons de_int da_nil)))
      (dss_cons (ds_asg (de_v 1) (dg_tup (n := 3) rfl (by rfl) (dgs_c (dg_name 2 sc_l_right.nd) (dgs_c (dg_name 3 sc_l_right.nd) (dgs_c (dg_name 4 sc_l_right.nd) dgs_nil)))))
      (dss_cons (ds_par2 5 6 (by rfl) sc_l_right.nd (dx_cons (DE.dx (de_c g_l_lists hG (hr.mono (by omega)) (by rfl) (da_cons (de_v 1) da_nil))) (dx_cons (DE.dx (de_repr rfl hG hr.units (by rfl) T.b_repr (dp_v 1))) dx_nil)))
      (dss_cons (ds_own 7 sc_l_right.nd (do_listOf rfl (by rfl) T.b_list (dp_v 4)))
      (dss_cons (ds_for PassesOwn.never (by rfl) (di_rng1 (by rfl) T.b_range (de_bin o_mul (DE.p de_int) (DE.p (de_toInt (by rfl) T.b_int (DE.p (de_cmp o_gt (dp_v 3) (DE.p de_int))))))) (dg_name 8 sc_l_right.nd)
        (dss_cons (ds_set 9 sc_l_right.nd (de_cB 0 g_l_take hG (hr.mono (by omega)) (by rfl) (da_cons (de_v 3) da_nil)))
        (dss_one (ds_if (dt_cmp (o_eq rfl hr.units) (DE.p (de_cB 0 g_l_take hG (hr.mono (by omega)) (by rfl) (da_cons de_int da_nil))) (DE.p de_int)) (dss_one (ds_app 7 rfl (de_tup (da_cons (de_v 9) (da_cons de_str (da_cons (de_bin o_add (DE.p de_int) (DE.p (de_cB 0 g_l_take hG (hr.mono (by omega)) (by rfl) (da_cons (de_bin o_add (dp_v 3) (DE.p de_int)) da_nil)))) da_nil)))))) (dss_one (ds_app 7 rfl (de_tup (da_cons (de_v 9) (da_cons de_str (da_cons (de_cB 0 g_l_of hG (hr.mono (by omega)) (by rfl) (da_cons (DO.d (do_lst (da_cons de_str (da_cons de_str (da_cons de_str da_nil))))) da_nil)) da_nil))))))))))
      (dss_cons (ds_for PassesOwn.never (by rfl) (di_seq rfl (de_pub 7)) (dg_name 10 sc_l_right.nd)
        (dss_cons (ds_setLc 11 (own := [("_law_its", 13)]) (by rfl) sc_l_right.nd rfl rfl (sw_true rfl rfl rfl (by decide +kernel)) (di_seq rfl (de_v 4)) (blkOk_by (own := [("_law_its", 13)]) (N := ["_law_box_here", "_law_book_here", "_law_count", "_law_size", "_law_notes_here", "_law_listed", "_law_kept", "_law_some", "_law_turn", "_law_spot", "_law_item", "_law_there", "_law_due", "_law_its"]) (sc := defScope s_l_right) (by decide +kernel)) (fun _ _ _ _ _ => (dg_name 13 sc_l_right.nd (hf := Or.inr rfl))) (ts_one fun _ _ _ _ _ => (dt_cmp (o_eq rfl hr.units) (DE.p (de_slT rfl (dp_v 13) do_none (do_some de_int))) (DE.p (de_slT rfl (dp_v 10) do_none (do_some de_int))))) (fun _ _ _ _ _ => (de_v 13)))
        (dss_cut (ds_set 12 sc_l_right.nd (de_if (dt_cmp (o_ne rfl hr.units) (dp_v 11) (DE.p (DO.d (do_lst da_nil)))) (de_tup (da_cons de_str (da_cons (de_ix rfl (dp_v 11) (DE.p de_int)) da_nil))) (de_tup (da_cons (de_v 2) (da_cons (de_v 3) (da_cons (de_tupleOf rfl (by rfl) T.b_tuple (DE.p (DO.d (do_srtR rfl hr.units (by rfl) T.b_sorted (DE.p (de_bin (o_catT rfl) (dp_v 4) (DE.p (de_tup (da_cons (de_v 10) da_nil))))))))) da_nil))))))
        (dss_cons (ds_if (dt_not (dt_val (de_c g_l_same hG (hr.mono (by omega)) (by rfl) (da_cons (DO.d (do_lst (da_cons (de_c g_l_told hG (hr.mono (by omega)) (by rfl) (da_cons de_int (da_cons (de_v 1) (da_cons (de_v 10) da_nil)))) (da_cons (de_c g_l_told hG (hr.mono (by omega)) (by rfl) (da_cons de_int (da_cons (de_v 5) (da_cons (DO.d (do_listOf rfl (by rfl) T.b_list (dp_v 10))) da_nil)))) da_nil)))) (da_cons (DO.d (do_lst (da_cons (de_v 12) (da_cons (de_v 12) da_nil)))) da_nil))))) (dss_one (ds_ret de_bl)) dss_nil)
        (dss_cons (ds_set 12 sc_l_right.nd (de_tup (da_cons de_str (da_cons (de_v 10) da_nil))))
        (dss_cut (ds_if (dt_cmp (o_in rfl (u65 hr)) (dp_v 10) (dp_v 4)) (dss_one (ds_set 12 sc_l_right.nd (de_tup (da_cons (de_v 2) (da_cons (de_v 3) (da_cons (de_tupleOf rfl (by rfl) T.b_tuple (DE.p (DO.d (do_lc (own := [("_law_its", 13)]) (by rfl) sc_l_right.nd (di_seq rfl (de_v 4)) (blkOk_by (own := [("_law_its", 13)]) (N := ["_law_box_here", "_law_book_here", "_law_count", "_law_size", "_law_notes_here", "_law_listed", "_law_kept", "_law_some", "_law_turn", "_law_spot", "_law_item", "_law_there", "_law_due", "_law_its"]) (sc := defScope s_l_right) (by decide +kernel)) (fun _ _ _ _ _ => (dg_name 13 sc_l_right.nd (hf := Or.inr rfl))) (ts_one fun _ _ _ _ _ => (dt_cmp (o_ne rfl hr.units) (dp_v 13) (dp_v 10))) (fun _ _ _ _ _ => (de_v 13)))))) da_nil)))))) dss_nil)
        (dss_one (ds_if (dt_not (dt_val (de_c g_l_same hG (hr.mono (by omega)) (by rfl) (da_cons (DO.d (do_lst (da_cons (de_c g_l_told hG (hr.mono (by omega)) (by rfl) (da_cons de_int (da_cons (de_v 1) (da_cons (de_v 10) da_nil)))) (da_cons (de_c g_l_told hG (hr.mono (by omega)) (by rfl) (da_cons de_int (da_cons (de_v 5) (da_cons (DO.d (do_listOf rfl (by rfl) T.b_list (dp_v 10))) da_nil)))) da_nil)))) (da_cons (DO.d (do_lst (da_cons (de_v 12) (da_cons (de_v 12) da_nil)))) da_nil))))) (dss_one (ds_ret de_bl)) dss_nil))))))))
      (dss_one (ds_ret (de_and (de_cmp o_eqS (DE.p (de_repr rfl hG hr.units (by rfl) T.b_repr (dp_v 1))) (dp_v 6)) (de_one (de_cmp (o_eq rfl hr.units) (dp_v 5) (DE.p (de_c g_l_lists hG (hr.mono (by omega)) (by rfl) (da_cons (de_v 1) da_nil)))))))))))))), ?_⟩
  refine ⟨rfl, 10, rfl, by decide, hc, fun n k ns c1 hk hn hU hb hnl hc1 => ?_⟩
  have hc1 : c1 ≤ c0 + 121 := hc1
  have hNs : NsOk ns := ⟨hU.ok, hU.uni, by omega⟩
  refine ⟨_, rfl, rfl, rfl, _, _, rfl, _, _, rfl, _, _, rfl, rfl, ?_⟩
  have hB := bd_bk (n := n) (k := k) (by omega) (by omega) hU.ok hNs.len
  have hBL := bd_bkL (n := n) (k := k) (by omega) (by omega) hU.ok hNs.len
  have hRep := rep_bk (n := n) (k := k) (by omega) (by omega) hU.ok (by omega)
  have hSoft := soft_bk n k ns hU.ok
  refine ⟨_, rfl, _, rfl, hB, _, _, rfl, rfl, hRep, rfl, ?_⟩
  rw [hSoft]
  refine ⟨_, _, rfl, rfl, rfl, ?_⟩
  refine ⟨_, _, rfl, rfl, k, 0, rfl, rfl, .inr ⟨_, rfl, _, _, rfl, rfl, .inl ⟨by omega, by omega⟩, ?_⟩⟩
  have hz : (8 * (if decide ((0 : Int) < (k : Int)) then 1 else 0) : Int) ≤ 8 ∧ 0 ≤ (8 * (if decide ((0 : Int) < (k : Int)) then 1 else 0) : Int) ∧ (k = 0 → (8 * (if decide ((0 : Int) < (k : Int)) then 1 else 0) : Int) = 0) := by
    by_cases h0 : (0 : Int) < (k : Int)
    · rw [decide_eq_true h0, if_pos rfl]
      omega
    · rw [decide_eq_false h0, if_neg (by decide)]
      omega
  obtain ⟨tt, htt⟩ : ∃ t : Int, t = 8 * (if decide ((0 : Int) < (k : Int)) then 1 else 0) := ⟨_, rfl⟩
  rw [← htt] at hz
  refine ⟨tt, by rw [htt], by omega, by omega, for_by (fun i s2 => ∃ ms y8 y9 c2, s2 = stR n k ns (some (.own (ms.map nD))) y8 y9 none none none c2 ∧ (∀ m ∈ ms, NOk m) ∧ ms.length ≤ 23 + i ∧ c2 ≤ c1 + 3 * (i : Nat)) ⟨ns, none, none, c1, rfl, hU.ok, by omega, by omega⟩ (fun i d s2 J hi inv hJ => ?_) (fun s2 inv => ?_)⟩
  · obtain ⟨ms, y8, y9, c2, rfl, hM, hml, hc2⟩ := inv
    obtain ⟨hi2, rfl⟩ := iota_get hi
    have hi2 : (i : Int) < tt := by omega
    have hk1 : 1 ≤ k := by
      rcases Nat.eq_zero_or_pos k with h | h
      · have := hz.2.2 h
        omega
      · exact h
    refine ⟨rfl, _, rfl, k, rfl, by omega, by omega, (show c2 < 1000000 by omega), fun sp c3 hs0 hs1 hc3 => ?_⟩
    have hc3 : c3 ≤ c2 + 1 := hc3
    refine ⟨rfl, 2, rfl, by decide, by decide, (show c3 < 1000000 by omega), fun r2 c4 _ _ hc4 => ⟨shp_int _, shp_int _, _, rfl, ?_⟩⟩
    have hc4 : c4 ≤ c3 + 1 := hc4
    cases hd : PyData.eqv (.int r2) (.int 0) with
    | true =>
      refine iteT ⟨⟨_, rfl⟩, _, rfl, rfl, _, _, rfl, rfl, k, 1, rfl, rfl, _, rfl, by omega, by omega, (show c4 < 1000000 by omega), fun v c5 hv0 hv1 hc5 => ⟨1, v, rfl, rfl, (show 3 ≤ 100000 by decide), _, rfl, _, rfl, (show (ms.map nD).length < 100000 by rw [List.length_map]; omega), ?_⟩⟩
      have hc5 : c5 ≤ c4 + 1 := hc5
      have hv1 : v < (k : Int) + 1 := hv1
      refine hJ _ ⟨ms ++ ([(sp, "groups", .int (1 + v))] : List NT), _, _, c5, by rw [List.map_append]; rfl, fun m hm => ?_, by rw [List.length_append]; show ms.length + 1 ≤ _; omega, by omega⟩
      rcases List.mem_append.mp hm with hm | hm
      · exact hM m hm
      · rw [List.mem_singleton.mp hm]
        exact nok_g (by omega) (by omega)
    | false =>
      refine iteF ⟨⟨_, rfl⟩, _, rfl, rfl, (show 3 ≤ 100000 by decide), _, rfl, rfl, (show 1 ≤ 3 by decide), (show 3 ≤ 1000 by decide), (show c4 < 1000000 by omega), fun vd c5 hvd hc5 => ⟨(show 3 ≤ 100000 by decide), _, rfl, _, rfl, (show (ms.map nD).length < 100000 by rw [List.length_map]; omega), ?_⟩⟩
      have hc5 : c5 ≤ c4 + 1 := hc5
      have hvd : vd ∈ [PyData.str "new", .str "beside", .str "between"] := hvd
      have hz : ∃ z : Str, vd = .str z ∧ FlB (.str z) := by
        simp only [List.mem_cons, List.not_mem_nil, or_false] at hvd
        rcases hvd with h | h | h
        · exact ⟨_, h, flb_w .new⟩
        · exact ⟨_, h, flb_w .beside⟩
        · exact ⟨_, h, flb_w .between⟩
      obtain ⟨z, rfl, hfz⟩ := hz
      refine hJ _ ⟨ms ++ ([(sp, "house", .str z)] : List NT), _, _, c5, by rw [List.map_append]; rfl, fun m hm => ?_, by rw [List.length_append]; show ms.length + 1 ≤ _; omega, by omega⟩
      rcases List.mem_append.mp hm with hm | hm
      · exact hM m hm
      · rw [List.mem_singleton.mp hm]
        exact nok_h (by omega) hfz
  · obtain ⟨ms, y8, y9, c2, rfl, hM, hml, hc2⟩ := inv
    have e1 : (iotaD 0 tt).length ≤ 8 := by
      unfold iotaD
      rw [List.length_map, List.length_range]
      omega
    refine ⟨_, rfl, rfl, for_by (fun i s2 => ∃ y10 y11 y12, s2 = stR n k ns (some (.d (.list (ms.map nD)))) y8 y9 y10 y11 y12 c2) ⟨none, none, none, rfl⟩ (fun i d s2 J hi inv hJ => ?_) (fun s2 inv => ?_)⟩
    · obtain ⟨y10, y11, y12, rfl⟩ := inv
      have hi : (ms.map nD)[i]? = some d := hi
      rw [List.getElem?_map] at hi
      obtain ⟨it, hit, rfl⟩ := Option.map_eq_some_iff.mp hi
      have hit := hM it (List.mem_of_getElem? hit)
      have hD1 := bd_two (withD_bd (n := n) (k := k) (by omega) (by omega) hNs (by omega) hit)
      have hD2 := bd_two (woD_bd (n := n) (k := k) (by omega) (by omega) hNs hit)
      refine ⟨_, rfl, rfl, lc_by (ds := ns.map nD) (thF it) (show (ns.map nD).length ≤ 99999 by rw [List.length_map]; omega) (fun d hd acc J' hacc h1 h0 => ?_) ?_⟩
      · obtain ⟨m, hm, rfl⟩ := List.mem_map.mp hd
        refine ⟨_, _, rfl, rfl, 2, rfl, _, rfl, _, _, rfl, rfl, 2, rfl, _, rfl, shp_h (hU.ok m hm), shp_h hit, _, rfl, rfl, ?_⟩
        show if sameHd it m = true then _ else _
        have e : thF it (nD m) = if sameHd it m = true then some (nD m) else none := rfl
        rw [e] at h1 h0
        cases hh : sameHd it m with
        | true => exact iteT ⟨_, rfl, rfl, hacc, h1 _ (by rw [hh]; rfl)⟩
        | false => exact iteF (h0 (by rw [hh]; rfl))
      · rw [thF_map]
        refine ⟨fun s3 => ∃ y11, s3 = stR n k ns (some (.d (.list (ms.map nD)))) y8 y9 (some (.d (nD it))) y11 (some (.d (toldO (withD (.int n) (.int k) ns it)))) c2, ?_, ?_⟩
        · have hsh : Shp (.list ((ns.filter (sameHd it)).map nD)) := (bd_nsL (ns := ns.filter (sameHd it)) (fun m hm => hU.ok m (List.mem_filter.mp hm).1) (Nat.le_trans (List.length_filter_le _ _) hNs.len)).shp (by decide)
          refine ⟨_, _, rfl, rfl, Nat.zero_le _, hsh, rfl, _, rfl, ?_⟩
          rw [eqv_nilL]
          have hfind : (ns.filter (sameHd it)).head? = ns.find? (sameHd it) := List.head?_filter ..
          unfold withD
          cases hfl : ns.filter (sameHd it) with
          | nil =>
            rw [hfl] at hfind
            have hf : ns.find? (sameHd it) = none := hfind.symm
            rw [hf]
            refine iteF ⟨_, rfl, _, rfl, _, _, rfl, rfl, _, rfl, (show 1 ≤ 100000 by decide), _, _, rfl, rfl, (show (ns.map nD).length + 1 ≤ 100000 by rw [List.length_map]; omega), rfl, rows_add hNs hit hf, rfl, (show 3 ≤ 100000 by decide), _, rfl⟩
          | cons m rest =>
            rw [hfl] at hfind
            have hf : ns.find? (sameHd it) = some m := hfind.symm
            rw [hf]
            exact iteT ⟨_, _, rfl, rfl, 0, nD m, rfl, rfl, at0 _ _, (show 2 ≤ 100000 by decide), _, rfl⟩
        · rintro s3 ⟨y11, rfl⟩
          refine ⟨_, rfl, _, rfl, 0, _, _, .int n, .int k, ns, it, rfl, .inl rfl, .inl rfl, hNs, hit, ?_⟩
          rw [if_pos rfl]
          refine ⟨_, rfl, _, _, rfl, rfl, rfl, 0, _, _, .int n, .int k, ns, it, rfl, .inr rfl, .inr rfl, hNs, hit, ?_⟩
          rw [if_pos rfl]
          refine ⟨(show 2 ≤ 100000 by decide), _, rfl, _, rfl, (show 2 ≤ 100000 by decide), _, rfl, hD1, _, rfl, iteF ?_⟩
          refine ⟨_, rfl, (show 2 ≤ 100000 by decide), fun s3 => ∃ y11, s3 = stR n k ns (some (.d (.list (ms.map nD)))) y8 y9 (some (.d (nD it))) y11 (some (.d (toldO (woD (.int n) (.int k) ns it)))) c2, ?_, ?_⟩
          · refine ⟨_, _, rfl, rfl, _, _, rfl, rfl, rfl, (bd_n (w := 10) (by decide) hit).shp (by decide), (bd_ns hU.ok hNs.len).shp (by decide), _, rfl, ?_⟩
            show if (false ^^ (ns.map nD).any fun z => PyData.eqv z (nD it)) = true then _ else _
            cases hh : (ns.map nD).any fun y => PyData.eqv y (nD it) with
            | false =>
              have ew : woD (.int n) (.int k) ns it = .ex "NoNote" "note" (nD it) := by
                unfold woD
                rw [hh]
                exact if_neg (by decide)
              rw [ew]
              exact iteF ⟨_, rfl⟩
            | true =>
              have ew : woD (.int n) (.int k) ns it = .ok (.tuple [.int n, .int k, .tuple ((ns.map nD).filterMap (neF (nD it)))]) := by
                unfold woD
                rw [hh, neF_filter]
                exact if_pos rfl
              rw [ew]
              refine iteT ⟨_, rfl, _, rfl, _, rfl, rfl, lc_by (ds := ns.map nD) (neF (nD it)) (show (ns.map nD).length ≤ 99999 by rw [List.length_map]; omega) (fun d hd acc J' hacc h1 h0 => ?_) ⟨rfl, (show 3 ≤ 100000 by decide), _, rfl⟩⟩
              obtain ⟨m, hm, rfl⟩ := List.mem_map.mp hd
              refine ⟨_, _, rfl, rfl, _, _, rfl, rfl, (bd_n (w := 10) (by decide) (hU.ok m hm)).shp (by decide), (bd_n (w := 10) (by decide) hit).shp (by decide), _, rfl, rfl, ?_⟩
              unfold neF at h1 h0
              cases hq : PyData.eqv (nD m) (nD it) with
              | true => exact iteF (h0 (by rw [hq]; rfl))
              | false => exact iteT ⟨_, rfl, rfl, hacc, h1 _ (by rw [hq]; rfl)⟩
          · rintro s3 ⟨y11, rfl⟩
            refine ⟨_, rfl, _, rfl, 1, _, _, .int n, .int k, ns, it, rfl, .inl rfl, .inl rfl, hNs, hit, ?_⟩
            rw [if_neg (by decide)]
            refine ⟨_, rfl, _, _, rfl, rfl, rfl, 1, _, _, .int n, .int k, ns, it, rfl, .inr rfl, .inr rfl, hNs, hit, ?_⟩
            rw [if_neg (by decide)]
            refine ⟨(show 2 ≤ 100000 by decide), _, rfl, _, rfl, (show 2 ≤ 100000 by decide), _, rfl, hD2, _, rfl, iteF (hJ _ ⟨_, _, _, rfl⟩)⟩
    · obtain ⟨y10, y11, y12, rfl⟩ := inv
      refine ⟨_, _, rfl, rfl, hRep, _, _, rfl, rfl, _, _, rfl, rfl, _, rfl, ?_⟩
      rw [decide_eq_true rfl]
      refine iteT ⟨_, _, rfl, rfl, _, rfl, _, rfl, hB, ?_⟩
      rw [hSoft]
      refine ⟨hBL.shp (by decide), hBL.shp (by decide), ?_⟩
      rw [hBL.rf]
      exact q c2 (by show c2 ≤ c0 + 1000; omega)
end
end Og6

namespace Og6
open PySem PySem.Spec PyProof.Rows L2 OgR Evl Dw
section
variable {P : Program} {wd : World} {K : PySem.W.Frag} {mg : Str → Option Value} {base : Heap}
theorem ok_l_cell_at (T : Top wd K mg) : Def P wd K mg base 1 "_law_cell_at" s_l_cell_at ["_law_script", "_law_k"] (spCel K) := by
  obtain ⟨f, fd, F, b, m⟩ := T.d_l_cell_at.ex
  refine ⟨f, fd, fnG_of F sc_l_cell_at (fun vs H Q E h => ?_) (fun cdv A outer s H vs Q E hG hr h => ?_), F, b, m⟩
  · obtain ⟨a, ns, k, rfl, _⟩ := h
    rfl
  · obtain ⟨a, ns, j, rfl, hS, q⟩ := h
    refine ⟨_, pss_cons (ps_if (pt_cmpR op_lt (pv 1) (pe_callB call_len_seq (by rfl) T.b_len PySem.boot_len (pa_cons (pv 0) pa_nil)) (nomark _))
        (pss_one (ps_ret (pe_ix ix_list (pv 0) (pv 1) (fun _ _ => rfl)))) pss_nil)
      (pss_one (ps_ret pe_int)), ?_⟩
    refine ⟨_, rfl, _, rfl, a, _, rfl, .inl hS, _, _, rfl, rfl, _, rfl, ite2 (fun e => ?_) (fun e => ?_)⟩
    · have h1 := of_decide_eq_true e
      rw [List.length_map] at h1
      have hj : j < ns.length := by omega
      refine ⟨_, rfl, _, rfl, a, _, _, _, rfl, rfl, hS, atI_nat (j := j) (v := .int ns[j]) ?_, ?_⟩
      · rw [List.getElem?_map, List.getElem?_eq_getElem hj]; rfl
      · rw [List.getD_eq_getElem?_getD, List.getElem?_eq_getElem hj] at q
        exact q
    · have hj : ¬ j < ns.length := fun z => e (decide_eq_true (by rw [List.length_map]; omega))
      rw [List.getD_eq_getElem?_getD, List.getElem?_eq_none (by omega)] at q
      exact q
theorem ok_l_box (T : Top wd K mg) : Def P wd K mg base 2 "_law_box" s_l_box ["_law_script", "_law_k"] (spBox K) := by
  obtain ⟨fC, fdC, GC, FC, bC, gC⟩ := (ok_l_cell_at (P := P) (base := base) T).ex
  obtain ⟨f, fd, F, b, m⟩ := T.d_l_box.ex
  refine ⟨f, fd, fnG_of F sc_l_box (fun vs H Q E h => ?_) (fun cdv A outer s H vs Q E hG hr h => ?_), F, b, m⟩
  · obtain ⟨a, ns, k, rfl, _⟩ := h
    rfl
  · obtain ⟨a, ns, j, rfl, hS, hj, q⟩ := h
    refine ⟨_, pss_cons (ps_set (i := 2) sc_l_box.nd rfl (.inl rfl) (pe_callG (E := E0) GC hG hr (by rfl) gC FC.kp bC (pa_cons (pv 0) (pa_cons (pv 1) pa_nil))))
      (pss_one (ps_ret (pe_lst (pa_cons (pe_op op_mul (pe_callB call_abs (by rfl) T.b_abs (by decide +kernel) (pa_cons (pv 2) pa_nil))
            (pe_callTy call_int1 (by rfl) T.b_int (by decide +kernel) (pa_cons (pe_cmpR op_ge (pe_callB call_abs (by rfl) T.b_abs (by decide +kernel) (pa_cons (pv 2) pa_nil)) (pe_op op_pow pe_int pe_int) (nomark _)) pa_nil)))
          (pa_cons (pe_op op_add (pe_op op_add (pe_op op_mod (pv 2) pe_int) (pe_op op_mul pe_int (pv 1))) pe_int) (pa_cons pe_int pa_nil)))))), ?_⟩
    refine ⟨_, rfl, _, rfl, a, ns, j, rfl, hS, ?_⟩
    generalize ns.getD j 0 = c
    refine ⟨_, rfl, _, rfl, _, rfl, _, rfl, _, _, rfl, rfl, ⟨by decide, by decide, by decide⟩, _, _, rfl, rfl, .inr ⟨_, rfl, _, _, rfl, rfl, .inr ?_, ?_⟩⟩
    · exact box01 _
    · refine ⟨_, rfl, _, _, rfl, rfl, (show (0 : Int) < 2305843009213693951 by decide), _, rfl, _, _, rfl, rfl, .inl ⟨by decide, by decide⟩, _, _, rfl, rfl, _, _, rfl, rfl, (show 3 ≤ sizeLine by decide), fun l hl => ?_⟩
      refine q l _ _ hl ?_ ?_ ?_
      · split <;> split <;> simp <;> omega
      · have := Int.emod_nonneg c (show (2305843009213693951 : Int) ≠ 0 by decide); omega
      · have := Int.emod_lt_of_pos c (show (0 : Int) < 2305843009213693951 by decide); omega
theorem ok_law {f : Addr} {fd : FuncData} {c : Nat → Addr} (F : Fun K "law" "law" s_law f fd) (T : Top wd K mg) (Y : TopX K mg c) : FnG P wd K mg base 7 f fd ["_law_script"] (spLaw K) := by
  obtain ⟨fB, fdB, GB, FB, bB, gB⟩ := ((ok_l_box (P := P) (base := base) T).mono (show 2 ≤ 6 by decide)).ex
  obtain ⟨fR, fdR, GR, FR, bR, gR⟩ := (right_of (ok_l_right (P := P) (base := base) T Y)).ex
  refine fnG_of F sc_law (fun vs H Q E h => ?_) (fun cdv A outer s H vs Q E hG hr h => ?_)
  · obtain ⟨_, _, rfl, _⟩ := h
    rfl
  · obtain ⟨sc, ns, rfl, hS, hlen, q⟩ := h
    refine ⟨_, pss_cons (ps_for PassesOwn.never rfl (pi_range1 rfl T.b_range (pa_cons (pe_op op_add pe_int (pe_callB (call_min2 (by rfl)) (by rfl) T.b_min (by decide +kernel) (pa_cons pe_int (pa_cons (pe_callB call_len_seq (by rfl) T.b_len PySem.boot_len (pa_cons (pv 0) pa_nil)) pa_nil)))) pa_nil)) (pg_name (i := 1) sc_law.nd rfl (.inl rfl))
        (pss_cons (ps_set (i := 2) sc_law.nd rfl (.inr rfl) (pe_callG (E := E0) GB hG hr (by rfl) gB FB.kp bB (pa_cons (pv 0) (pa_cons (pv 1) pa_nil))))
        (pss_one (ps_if (pt_not (pt_val (pe_callB (cr_all (by rfl)) (by rfl) T.b_all (by decide +kernel) (pa_cons
          (pe_lc (own := [("_law_turn", 3)]) (g := gName 3) (by rfl) sc_law.nd (pi_range1 rfl T.b_range (pa_cons pe_int pa_nil))
            (blkOk_by (own := [("_law_turn", 3)]) (N := ["_law_script", "_law_k", "_law_box_here", "_law_turn"]) (sc := defScope s_law) (by decide +kernel))
            (fun _ _ _ _ _ => pg_name (i := 3) sc_law.nd rfl (Or.inl rfl) (hf := Or.inr rfl))
            (fun _ _ _ _ _ => pts_nil)
            (fun _ _ _ _ _ => pe_callG (E := E0) GR hG hr (by rfl) gR FR.kp bR (pa_cons (pv 2) pa_nil))) pa_nil)))) (pss_one (ps_ret pe_bl)) pss_nil))))
      (pss_one (ps_ret pe_bl)), ?_⟩
    have hmin : ∀ j : Int, 0 ≤ j → (0 : Int) ≤ (if j < 3 then j else 3) ∧ (if j < 3 then j else 3) ≤ 3 := fun j h => by split <;> omega
    have hm := hmin ((ns.map V.int).length : Int) (by omega)
    refine ⟨_, rfl, sc, _, rfl, .inl hS, _, _, rfl, _, _, rfl, rfl, _, rfl, by omega, by omega, for_range (lo := 0) (fun i σ H3 => ∃ y1 y2, σ = [some (.ref sc), y1, y2, none] ∧ SqL K H3 sc (ns.map V.int)) ?_ ?_ ?_⟩
    · exact ⟨none, none, rfl, hS⟩
    · rintro i σ H3 hi ⟨y1, y2, rfl, hS3⟩
      have hi4 : i ≤ 1000 := by omega
      rw [Int.zero_add]
      refine ⟨_, rfl, _, rfl, sc, ns, i, rfl, hS3, hi4, fun l x y hl hx hy hy2 => ?_⟩
      have hB0 : Dw.BoxAt (upd H3 l (.lst [.int x, .int y, .int 0])) l 0 := ⟨x, y, upd_same, hx, hy, hy2, by omega, by omega⟩
      have e0 : Ex H3 (upd H3 l (.lst [.int x, .int y, .int 0])) := Ex.new hl
      generalize (upd H3 l (.lst [.int x, .int y, .int 0])) = H4 at hB0 e0
      have hbx := hB0.ne
      refine ⟨3, rfl, by decide, by decide, fun D hD => lc_range (lo := 0) (n := 3) (fun j H' => ExB l H4 H' ∧ H' D = some (.lst ((List.replicate j true).map V.bl)) ∧ ∃ c', Dw.BoxAt H' l c' ∧ c' ≤ 1000 * (j : Int)) ⟨.of (Ex.new hD), upd_same, 0, hB0.ex (Ex.new hD), by omega⟩ (fun j H' hj c => ?_) (fun H5 c => ?_)⟩
      · obtain ⟨c1, c2, c', c3, c4⟩ := c
        have nlD : D ≠ l := fun z => hbx (z ▸ hD)
        refine ⟨rfl, _, rfl, l, c', rfl, c3, by omega, fun H6 c6 e6 hB6 hc6 => ?_⟩
        refine ⟨_, e6 _ _ nlD c2, ?_, (c1.trans e6).mut hD, ?_, c6, hB6.upd (Ne.symm nlD), by omega⟩
        · rw [List.length_map, List.length_replicate]
          have : j < 3 := hj
          rw [sizeLine_eq]
          omega
        · rw [upd_same, repT_snoc, List.map_append]
          rfl
      · obtain ⟨c1, c2, _⟩ := c
        refine ⟨D, _, rfl, .inl (.inl c2), _, rfl, ?_⟩
        rw [repT_all]
        refine iteF ⟨_, _, rfl, ?_⟩
        have e5 : Ex H3 H5 := fun b o hb => c1 b o (fun z => by rw [z, hl] at hb; cases hb) (e0 b o hb)
        exact ex_l e5 hS3
    · rintro σ H3 _
      exact q _
end
end Og6

namespace Og6
open PySem PySem.Spec PyProof.Rows L2 OgR Evl Dw Gx
theorem all_mk {l : PySem.W.OpenLaw} {w : World} {K : PySem.W.Frag} {h : Heap} {mg : Str → Option Value} {fa : Addr} (X : K.In h) (G : h.Ns mainGlobals mg) (hfa : mg "law" = some (.ref fa))
    {f0 f1 f2 f3 f4 f5 f6 f7 f8 f9 f10 f11 f12 f13 f14 f15 f16 f17 f18 f19 : Addr} {od0 an0 od1 an1 od2 an2 od3 an3 od4 an4 od5 an5 od6 an6 od7 an7 od8 an8 od9 an9 od10 an10 od11 an11 od12 an12 od13 an13 od14 an14 od15 an15 od16 an16 od17 an17 od18 an18 od19 an19 : Option Addr} {sl0 sl1 sl2 sl3 sl4 sl5 sl6 sl7 sl8 sl9 sl10 sl11 sl12 sl13 sl14 sl15 sl16 sl17 sl18 sl19 : Array (Option Value)} {oc0 kV0 dc0 pm0 cd0 ct0 oc1 kV1 dc1 pm1 cd1 ct1 oc2 kV2 dc2 pm2 cd2 ct2 oc3 kV3 dc3 pm3 cd3 ct3 oc4 kV4 dc4 pm4 cd4 ct4 oc5 kV5 dc5 pm5 cd5 ct5 oc6 kV6 dc6 pm6 cd6 ct6 oc7 kV7 dc7 pm7 cd7 ct7 oc8 kV8 dc8 pm8 cd8 ct8 oc9 kV9 dc9 pm9 cd9 ct9 oc10 kV10 dc10 pm10 cd10 ct10 oc11 kV11 dc11 pm11 cd11 ct11 oc12 kV12 dc12 pm12 cd12 ct12 oc13 kV13 dc13 pm13 cd13 ct13 oc14 kV14 dc14 pm14 cd14 ct14 oc15 kV15 dc15 pm15 cd15 ct15 oc16 kV16 dc16 pm16 cd16 ct16 oc17 kV17 dc17 pm17 cd17 ct17 oc18 kV18 dc18 pm18 cd18 ct18 oc19 kV19 dc19 pm19 cd19 ct19 : Value}
    (a0 : PySem.W.nsIn K mainGlobals "tuple_for_list" = some (some (.ref f0)))
    (l0 : K.lookup f0 = some ⟨oc0, od0, .func (PySem.W.fnOf "tuple_for_list" "tuple_for_list" (defArgs s_tuple_for_list) (defBody s_tuple_for_list) (defScope s_tuple_for_list) .none kV0 dc0 pm0 an0 cd0 ct0), sl0⟩)
    (c0 : PySem.W.codeIn K cd0 "tuple_for_list" = true) (k0 : PySem.W.keepIn K (.ref f0) = true)
    (a1 : PySem.W.nsIn K mainGlobals "notes_of" = some (some (.ref f1)))
    (l1 : K.lookup f1 = some ⟨oc1, od1, .func (PySem.W.fnOf "notes_of" "notes_of" (defArgs s_notes_of) (defBody s_notes_of) (defScope s_notes_of) .none kV1 dc1 pm1 an1 cd1 ct1), sl1⟩)
    (c1 : PySem.W.codeIn K cd1 "notes_of" = true) (k1 : PySem.W.keepIn K (.ref f1) = true)
    (a2 : PySem.W.nsIn K mainGlobals "with_note" = some (some (.ref f2)))
    (l2 : K.lookup f2 = some ⟨oc2, od2, .func (PySem.W.fnOf "with_note" "with_note" (defArgs s_with_note) (defBody s_with_note) (defScope s_with_note) .none kV2 dc2 pm2 an2 cd2 ct2), sl2⟩)
    (c2 : PySem.W.codeIn K cd2 "with_note" = true) (k2 : PySem.W.keepIn K (.ref f2) = true)
    (a3 : PySem.W.nsIn K mainGlobals "without_note" = some (some (.ref f3)))
    (l3 : K.lookup f3 = some ⟨oc3, od3, .func (PySem.W.fnOf "without_note" "without_note" (defArgs s_without_note) (defBody s_without_note) (defScope s_without_note) .none kV3 dc3 pm3 an3 cd3 ct3), sl3⟩)
    (c3 : PySem.W.codeIn K cd3 "without_note" = true) (k3 : PySem.W.keepIn K (.ref f3) = true)
    (a4 : PySem.W.nsIn K mainGlobals "_law_cell_at" = some (some (.ref f4)))
    (l4 : K.lookup f4 = some ⟨oc4, od4, .func (PySem.W.fnOf "_law_cell_at" "_law_cell_at" (defArgs s_l_cell_at) (defBody s_l_cell_at) (defScope s_l_cell_at) .none kV4 dc4 pm4 an4 cd4 ct4), sl4⟩)
    (c4 : PySem.W.codeIn K cd4 "_law_cell_at" = true) (k4 : PySem.W.keepIn K (.ref f4) = true)
    (a5 : PySem.W.nsIn K mainGlobals "_law_box" = some (some (.ref f5)))
    (l5 : K.lookup f5 = some ⟨oc5, od5, .func (PySem.W.fnOf "_law_box" "_law_box" (defArgs s_l_box) (defBody s_l_box) (defScope s_l_box) .none kV5 dc5 pm5 an5 cd5 ct5), sl5⟩)
    (c5 : PySem.W.codeIn K cd5 "_law_box" = true) (k5 : PySem.W.keepIn K (.ref f5) = true)
    (a6 : PySem.W.nsIn K mainGlobals "_law_take" = some (some (.ref f6)))
    (l6 : K.lookup f6 = some ⟨oc6, od6, .func (PySem.W.fnOf "_law_take" "_law_take" (defArgs s_l_take) (defBody s_l_take) (defScope s_l_take) .none kV6 dc6 pm6 an6 cd6 ct6), sl6⟩)
    (c6 : PySem.W.codeIn K cd6 "_law_take" = true) (k6 : PySem.W.keepIn K (.ref f6) = true)
    (a7 : PySem.W.nsIn K mainGlobals "_law_of" = some (some (.ref f7)))
    (l7 : K.lookup f7 = some ⟨oc7, od7, .func (PySem.W.fnOf "_law_of" "_law_of" (defArgs s_l_of) (defBody s_l_of) (defScope s_l_of) .none kV7 dc7 pm7 an7 cd7 ct7), sl7⟩)
    (c7 : PySem.W.codeIn K cd7 "_law_of" = true) (k7 : PySem.W.keepIn K (.ref f7) = true)
    (a8 : PySem.W.nsIn K mainGlobals "_law_same" = some (some (.ref f8)))
    (l8 : K.lookup f8 = some ⟨oc8, od8, .func (PySem.W.fnOf "_law_same" "_law_same" (defArgs s_l_same) (defBody s_l_same) (defScope s_l_same) .none kV8 dc8 pm8 an8 cd8 ct8), sl8⟩)
    (c8 : PySem.W.codeIn K cd8 "_law_same" = true) (k8 : PySem.W.keepIn K (.ref f8) = true)
    (a9 : PySem.W.nsIn K mainGlobals "_law_lists" = some (some (.ref f9)))
    (l9 : K.lookup f9 = some ⟨oc9, od9, .func (PySem.W.fnOf "_law_lists" "_law_lists" (defArgs s_l_lists) (defBody s_l_lists) (defScope s_l_lists) .none kV9 dc9 pm9 an9 cd9 ct9), sl9⟩)
    (c9 : PySem.W.codeIn K cd9 "_law_lists" = true) (k9 : PySem.W.keepIn K (.ref f9) = true)
    (a10 : PySem.W.nsIn K mainGlobals "_law_runs" = some (some (.ref f10)))
    (l10 : K.lookup f10 = some ⟨oc10, od10, .func (PySem.W.fnOf "_law_runs" "_law_runs" (defArgs s_l_runs) (defBody s_l_runs) (defScope s_l_runs) .none kV10 dc10 pm10 an10 cd10 ct10), sl10⟩)
    (c10 : PySem.W.codeIn K cd10 "_law_runs" = true) (k10 : PySem.W.keepIn K (.ref f10) = true)
    (a11 : PySem.W.nsIn K mainGlobals "_law_seen" = some (some (.ref f11)))
    (l11 : K.lookup f11 = some ⟨oc11, od11, .func (PySem.W.fnOf "_law_seen" "_law_seen" (defArgs s_l_seen) (defBody s_l_seen) (defScope s_l_seen) .none kV11 dc11 pm11 an11 cd11 ct11), sl11⟩)
    (c11 : PySem.W.codeIn K cd11 "_law_seen" = true) (k11 : PySem.W.keepIn K (.ref f11) = true)
    (a12 : PySem.W.nsIn K mainGlobals "_law_queue" = some (some (.ref f12)))
    (l12 : K.lookup f12 = some ⟨oc12, od12, .func (PySem.W.fnOf "_law_queue" "_law_queue" (defArgs s_l_queue) (defBody s_l_queue) (defScope s_l_queue) .none kV12 dc12 pm12 an12 cd12 ct12), sl12⟩)
    (c12 : PySem.W.codeIn K cd12 "_law_queue" = true) (k12 : PySem.W.keepIn K (.ref f12) = true)
    (a13 : PySem.W.nsIn K mainGlobals "_law_notes" = some (some (.ref f13)))
    (l13 : K.lookup f13 = some ⟨oc13, od13, .func (PySem.W.fnOf "_law_notes" "_law_notes" (defArgs s_l_notes) (defBody s_l_notes) (defScope s_l_notes) .none kV13 dc13 pm13 an13 cd13 ct13), sl13⟩)
    (c13 : PySem.W.codeIn K cd13 "_law_notes" = true) (k13 : PySem.W.keepIn K (.ref f13) = true)
    (a14 : PySem.W.nsIn K mainGlobals "_law_story" = some (some (.ref f14)))
    (l14 : K.lookup f14 = some ⟨oc14, od14, .func (PySem.W.fnOf "_law_story" "_law_story" (defArgs s_l_story) (defBody s_l_story) (defScope s_l_story) .none kV14 dc14 pm14 an14 cd14 ct14), sl14⟩)
    (c14 : PySem.W.codeIn K cd14 "_law_story" = true) (k14 : PySem.W.keepIn K (.ref f14) = true)
    (a15 : PySem.W.nsIn K mainGlobals "_law_spoilt" = some (some (.ref f15)))
    (l15 : K.lookup f15 = some ⟨oc15, od15, .func (PySem.W.fnOf "_law_spoilt" "_law_spoilt" (defArgs s_l_spoilt) (defBody s_l_spoilt) (defScope s_l_spoilt) .none kV15 dc15 pm15 an15 cd15 ct15), sl15⟩)
    (c15 : PySem.W.codeIn K cd15 "_law_spoilt" = true) (k15 : PySem.W.keepIn K (.ref f15) = true)
    (a16 : PySem.W.nsIn K mainGlobals "_law_book" = some (some (.ref f16)))
    (l16 : K.lookup f16 = some ⟨oc16, od16, .func (PySem.W.fnOf "_law_book" "_law_book" (defArgs s_l_book) (defBody s_l_book) (defScope s_l_book) .none kV16 dc16 pm16 an16 cd16 ct16), sl16⟩)
    (c16 : PySem.W.codeIn K cd16 "_law_book" = true) (k16 : PySem.W.keepIn K (.ref f16) = true)
    (a17 : PySem.W.nsIn K mainGlobals "_law_told" = some (some (.ref f17)))
    (l17 : K.lookup f17 = some ⟨oc17, od17, .func (PySem.W.fnOf "_law_told" "_law_told" (defArgs s_l_told) (defBody s_l_told) (defScope s_l_told) .none kV17 dc17 pm17 an17 cd17 ct17), sl17⟩)
    (c17 : PySem.W.codeIn K cd17 "_law_told" = true) (k17 : PySem.W.keepIn K (.ref f17) = true)
    (a18 : PySem.W.nsIn K mainGlobals "_law_right" = some (some (.ref f18)))
    (l18 : K.lookup f18 = some ⟨oc18, od18, .func (PySem.W.fnOf "_law_right" "_law_right" (defArgs s_l_right) (defBody s_l_right) (defScope s_l_right) .none kV18 dc18 pm18 an18 cd18 ct18), sl18⟩)
    (c18 : PySem.W.codeIn K cd18 "_law_right" = true) (k18 : PySem.W.keepIn K (.ref f18) = true)
    (a19 : PySem.W.nsIn K mainGlobals "law" = some (some (.ref f19)))
    (l19 : K.lookup f19 = some ⟨oc19, od19, .func (PySem.W.fnOf "law" "law" (defArgs s_law) (defBody s_law) (defScope s_law) .none kV19 dc19 pm19 an19 cd19 ct19), sl19⟩)
    (c19 : PySem.W.codeIn K cd19 "law" = true) (k19 : PySem.W.keepIn K (.ref f19) = true)
    (z_abs : PySem.W.nsIn K mainGlobals "abs" = some none)
    (z_all : PySem.W.nsIn K mainGlobals "all" = some none)
    (z_bool : PySem.W.nsIn K mainGlobals "bool" = some none)
    (z_int : PySem.W.nsIn K mainGlobals "int" = some none)
    (z_isinstance : PySem.W.nsIn K mainGlobals "isinstance" = some none)
    (z_len : PySem.W.nsIn K mainGlobals "len" = some none)
    (z_list : PySem.W.nsIn K mainGlobals "list" = some none)
    (z_min : PySem.W.nsIn K mainGlobals "min" = some none)
    (z_range : PySem.W.nsIn K mainGlobals "range" = some none)
    (z_repr : PySem.W.nsIn K mainGlobals "repr" = some none)
    (z_sorted : PySem.W.nsIn K mainGlobals "sorted" = some none)
    (z_str : PySem.W.nsIn K mainGlobals "str" = some none)
    (z_tuple : PySem.W.nsIn K mainGlobals "tuple" = some none)
    (z_zip : PySem.W.nsIn K mainGlobals "zip" = some none)
    (spc : PySem.W.specialIn K (.builtin "object.__class__") "__get__" = some (some (.builtin "getset_descriptor.__get__"))) (tks : PySem.W.takesIn K (.builtin "object.__class__") = some true)
    {C0 fI0 : Addr} {odI0 anI0 : Option Addr} {slI0 : Array (Option Value)} {ocI0 kVI0 dcI0 pmI0 cdI0 ctI0 : Value}
    (vcn0 : PySem.W.nsIn K mainGlobals "Misfit" = some (some (.ref C0)))
    (vxi0 : PySem.W.excInitIn K C0 bVE "ValueError.__new__" = true)
    (vxo0 : PySem.W.excOver K C0 bVE = true)
    (vxd0 : PySem.W.hasDictIn K C0 = true)
    (vxs0 : PySem.W.findIn K (.ref C0) "__setattr__" = some (some (.builtin "object.__setattr__")))
    (vxg0 : PySem.W.findIn K (.ref C0) "__getattribute__" = some (some (.builtin "BaseException.__getattribute__")))
    (vxh0 : PySem.W.findIn K (.ref C0) "__getattr__" = some none)
    (vxb0 : PySem.W.subIn K (.ref C0) (.type "BaseException") = some true)
    (vxc0 : PySem.W.findIn K (.ref C0) "__class__" = some (some (.builtin "object.__class__")))
    (vxk0 : PySem.W.keepIn K (.ref C0) = true)
    (vxn0 : (PySem.W.clsIn K C0).isSome = true)
    (vxm0 : PySem.W.mroIn K C0 (.type "object") = some true)
    (vxf0 : PySem.W.findIn K (.ref C0) "time" = some none)
    (vxt0 : PySem.W.typeIn K (.ref C0) = some (.type "type"))
    (vin0 : PySem.W.findIn K (.ref C0) "__init__" = some (some (.ref fI0)))
    (vty0 : PySem.W.typeIn K (.ref fI0) = some (.type "function"))
    (vlI0 : K.lookup fI0 = some ⟨ocI0, odI0, .func (PySem.W.fnOf "__init__" "Misfit.__init__" (defArgs (iniS 3)) (defBody (iniS 3)) (defScope (iniS 3)) .none kVI0 dcI0 pmI0 anI0 cdI0 ctI0), slI0⟩)
    (vcI0 : PySem.W.codeIn K cdI0 "Misfit.__init__" = true)
    (vkI0 : PySem.W.keepIn K (.ref fI0) = true)
    {C1 fI1 : Addr} {odI1 anI1 : Option Addr} {slI1 : Array (Option Value)} {ocI1 kVI1 dcI1 pmI1 cdI1 ctI1 : Value}
    (vcn1 : PySem.W.nsIn K mainGlobals "Noted" = some (some (.ref C1)))
    (vxi1 : PySem.W.excInitIn K C1 bVE "ValueError.__new__" = true)
    (vxo1 : PySem.W.excOver K C1 bVE = true)
    (vxd1 : PySem.W.hasDictIn K C1 = true)
    (vxs1 : PySem.W.findIn K (.ref C1) "__setattr__" = some (some (.builtin "object.__setattr__")))
    (vxg1 : PySem.W.findIn K (.ref C1) "__getattribute__" = some (some (.builtin "BaseException.__getattribute__")))
    (vxh1 : PySem.W.findIn K (.ref C1) "__getattr__" = some none)
    (vxb1 : PySem.W.subIn K (.ref C1) (.type "BaseException") = some true)
    (vxc1 : PySem.W.findIn K (.ref C1) "__class__" = some (some (.builtin "object.__class__")))
    (vxk1 : PySem.W.keepIn K (.ref C1) = true)
    (vxn1 : (PySem.W.clsIn K C1).isSome = true)
    (vxm1 : PySem.W.mroIn K C1 (.type "object") = some true)
    (vxf1 : PySem.W.findIn K (.ref C1) "note" = some none)
    (vxt1 : PySem.W.typeIn K (.ref C1) = some (.type "type"))
    (vin1 : PySem.W.findIn K (.ref C1) "__init__" = some (some (.ref fI1)))
    (vty1 : PySem.W.typeIn K (.ref fI1) = some (.type "function"))
    (vlI1 : K.lookup fI1 = some ⟨ocI1, odI1, .func (PySem.W.fnOf "__init__" "Noted.__init__" (defArgs (iniS 4)) (defBody (iniS 4)) (defScope (iniS 4)) .none kVI1 dcI1 pmI1 anI1 cdI1 ctI1), slI1⟩)
    (vcI1 : PySem.W.codeIn K cdI1 "Noted.__init__" = true)
    (vkI1 : PySem.W.keepIn K (.ref fI1) = true)
    {C2 fI2 : Addr} {odI2 anI2 : Option Addr} {slI2 : Array (Option Value)} {ocI2 kVI2 dcI2 pmI2 cdI2 ctI2 : Value}
    (vcn2 : PySem.W.nsIn K mainGlobals "NoTime" = some (some (.ref C2)))
    (vxi2 : PySem.W.excInitIn K C2 bLE "LookupError.__new__" = true)
    (vxo2 : PySem.W.excOver K C2 bLE = true)
    (vxd2 : PySem.W.hasDictIn K C2 = true)
    (vxs2 : PySem.W.findIn K (.ref C2) "__setattr__" = some (some (.builtin "object.__setattr__")))
    (vxg2 : PySem.W.findIn K (.ref C2) "__getattribute__" = some (some (.builtin "BaseException.__getattribute__")))
    (vxh2 : PySem.W.findIn K (.ref C2) "__getattr__" = some none)
    (vxb2 : PySem.W.subIn K (.ref C2) (.type "BaseException") = some true)
    (vxc2 : PySem.W.findIn K (.ref C2) "__class__" = some (some (.builtin "object.__class__")))
    (vxk2 : PySem.W.keepIn K (.ref C2) = true)
    (vxn2 : (PySem.W.clsIn K C2).isSome = true)
    (vxm2 : PySem.W.mroIn K C2 (.type "object") = some true)
    (vxf2 : PySem.W.findIn K (.ref C2) "time" = some none)
    (vxt2 : PySem.W.typeIn K (.ref C2) = some (.type "type"))
    (vin2 : PySem.W.findIn K (.ref C2) "__init__" = some (some (.ref fI2)))
    (vty2 : PySem.W.typeIn K (.ref fI2) = some (.type "function"))
    (vlI2 : K.lookup fI2 = some ⟨ocI2, odI2, .func (PySem.W.fnOf "__init__" "NoTime.__init__" (defArgs (iniS 5)) (defBody (iniS 5)) (defScope (iniS 5)) .none kVI2 dcI2 pmI2 anI2 cdI2 ctI2), slI2⟩)
    (vcI2 : PySem.W.codeIn K cdI2 "NoTime.__init__" = true)
    (vkI2 : PySem.W.keepIn K (.ref fI2) = true)
    {C3 fI3 : Addr} {odI3 anI3 : Option Addr} {slI3 : Array (Option Value)} {ocI3 kVI3 dcI3 pmI3 cdI3 ctI3 : Value}
    (vcn3 : PySem.W.nsIn K mainGlobals "NoNote" = some (some (.ref C3)))
    (vxi3 : PySem.W.excInitIn K C3 bLE "LookupError.__new__" = true)
    (vxo3 : PySem.W.excOver K C3 bLE = true)
    (vxd3 : PySem.W.hasDictIn K C3 = true)
    (vxs3 : PySem.W.findIn K (.ref C3) "__setattr__" = some (some (.builtin "object.__setattr__")))
    (vxg3 : PySem.W.findIn K (.ref C3) "__getattribute__" = some (some (.builtin "BaseException.__getattribute__")))
    (vxh3 : PySem.W.findIn K (.ref C3) "__getattr__" = some none)
    (vxb3 : PySem.W.subIn K (.ref C3) (.type "BaseException") = some true)
    (vxc3 : PySem.W.findIn K (.ref C3) "__class__" = some (some (.builtin "object.__class__")))
    (vxk3 : PySem.W.keepIn K (.ref C3) = true)
    (vxn3 : (PySem.W.clsIn K C3).isSome = true)
    (vxm3 : PySem.W.mroIn K C3 (.type "object") = some true)
    (vxf3 : PySem.W.findIn K (.ref C3) "note" = some none)
    (vxt3 : PySem.W.typeIn K (.ref C3) = some (.type "type"))
    (vin3 : PySem.W.findIn K (.ref C3) "__init__" = some (some (.ref fI3)))
    (vty3 : PySem.W.typeIn K (.ref fI3) = some (.type "function"))
    (vlI3 : K.lookup fI3 = some ⟨ocI3, odI3, .func (PySem.W.fnOf "__init__" "NoNote.__init__" (defArgs (iniS 6)) (defBody (iniS 6)) (defScope (iniS 6)) .none kVI3 dcI3 pmI3 anI3 cdI3 ctI3), slI3⟩)
    (vcI3 : PySem.W.codeIn K cdI3 "NoNote.__init__" = true)
    (vkI3 : PySem.W.keepIn K (.ref fI3) = true)
    (vkit : ((List.range 4).all fun i => (List.range 4).all fun j => PySem.W.kitOne K (.ref ((fun j => [C0, C1, C2, C3].getD j 0 : Nat → Addr) i)) (.ref ((fun j => [C0, C1, C2, C3].getD j 0 : Nat → Addr) j)) == some (decide (i = j))) = true)
    (vk_ValueError : ((List.range 4).all fun i => PySem.W.kitOne K (.ref ((fun j => [C0, C1, C2, C3].getD j 0 : Nat → Addr) i)) (.type "ValueError") == some (decide (i ∈ [0, 1]))) = true)
    (y_ValueError : PySem.W.nsIn K mainGlobals "ValueError" = some none)
    (vk_LookupError : ((List.range 4).all fun i => PySem.W.kitOne K (.ref ((fun j => [C0, C1, C2, C3].getD j 0 : Nat → Addr) i)) (.type "LookupError") == some (decide (i ∈ [2, 3]))) = true)
    (y_LookupError : PySem.W.nsIn K mainGlobals "LookupError" = some none)
    (vexm : ((List.range 4).all fun i => PySem.W.exmAny K (.ref ((fun j => [C0, C1, C2, C3].getD j 0 : Nat → Addr) i)) [.ref ((fun j => [C0, C1, C2, C3].getD j 0 : Nat → Addr) 0), .ref ((fun j => [C0, C1, C2, C3].getD j 0 : Nat → Addr) 3), .ref ((fun j => [C0, C1, C2, C3].getD j 0 : Nat → Addr) 2), .ref ((fun j => [C0, C1, C2, C3].getD j 0 : Nat → Addr) 1)] == some (decide (i ∈ [0, 3, 2, 1]))) = true) :
    ∃ fd : FuncData, (∀ (s : Shared) (v : Value), BindsTo s fd ⟨[v], []⟩ [("_law_script", v)]) ∧ ∀ base : Heap, K.In base → base.Ns mainGlobals mg → FnG l.prog w K mg base 7 fa fd ["_law_script"] (Dw.spLaw K) := by
  have e := hfa.symm.trans (PySem.W.mg_of X G a19)
  cases e
  have F0 := fun_mk (st := s_tuple_for_list) l0 c0 k0
  have b0 := F0.binds (ps := ["value"]) fun _ _ _ _ _ _ us hl => match us, hl with | [_], _ => rfl
  have F1 := fun_mk (st := s_notes_of) l1 c1 k1
  have b1 := F1.binds (ps := ["journal"]) fun _ _ _ _ _ _ us hl => match us, hl with | [_], _ => rfl
  have F2 := fun_mk (st := s_with_note) l2 c2 k2
  have b2 := F2.binds (ps := ["journal", "note"]) fun _ _ _ _ _ _ us hl => match us, hl with | [_, _], _ => rfl
  have F3 := fun_mk (st := s_without_note) l3 c3 k3
  have b3 := F3.binds (ps := ["journal", "note"]) fun _ _ _ _ _ _ us hl => match us, hl with | [_, _], _ => rfl
  have F4 := fun_mk (st := s_l_cell_at) l4 c4 k4
  have b4 := F4.binds (ps := ["_law_script", "_law_k"]) fun _ _ _ _ _ _ us hl => match us, hl with | [_, _], _ => rfl
  have F5 := fun_mk (st := s_l_box) l5 c5 k5
  have b5 := F5.binds (ps := ["_law_script", "_law_k"]) fun _ _ _ _ _ _ us hl => match us, hl with | [_, _], _ => rfl
  have F6 := fun_mk (st := s_l_take) l6 c6 k6
  have b6 := F6.binds (ps := ["_law_box_here", "_law_below"]) fun _ _ _ _ _ _ us hl => match us, hl with | [_, _], _ => rfl
  have F7 := fun_mk (st := s_l_of) l7 c7 k7
  have b7 := F7.binds (ps := ["_law_box_here", "_law_some"]) fun _ _ _ _ _ _ us hl => match us, hl with | [_, _], _ => rfl
  have F8 := fun_mk (st := s_l_same) l8 c8 k8
  have b8 := F8.binds (ps := ["_law_found", "_law_due"]) fun _ _ _ _ _ _ us hl => match us, hl with | [_, _], _ => rfl
  have F9 := fun_mk (st := s_l_lists) l9 c9 k9
  have b9 := F9.binds (ps := ["_law_part"]) fun _ _ _ _ _ _ us hl => match us, hl with | [_], _ => rfl
  have F10 := fun_mk (st := s_l_runs) l10 c10 k10
  have b10 := F10.binds (ps := ["_law_there"]) fun _ _ _ _ _ _ us hl => match us, hl with | [_], _ => rfl
  have F11 := fun_mk (st := s_l_seen) l11 c11 k11
  have b11 := F11.binds (ps := ["_law_queue_here"]) fun _ _ _ _ _ _ us hl => match us, hl with | [_], _ => rfl
  have F12 := fun_mk (st := s_l_queue) l12 c12 k12
  have b12 := F12.binds (ps := ["_law_box_here", "_law_count", "_law_size"]) fun _ _ _ _ _ _ us hl => match us, hl with | [_, _, _], _ => rfl
  have F13 := fun_mk (st := s_l_notes) l13 c13 k13
  have b13 := F13.binds (ps := ["_law_box_here", "_law_queue_here"]) fun _ _ _ _ _ _ us hl => match us, hl with | [_, _], _ => rfl
  have F14 := fun_mk (st := s_l_story) l14 c14 k14
  have b14 := F14.binds (ps := ["_law_box_here", "_law_most"]) fun _ _ _ _ _ _ us hl => match us, hl with | [_, _], _ => rfl
  have F15 := fun_mk (st := s_l_spoilt) l15 c15 k15
  have b15 := F15.binds (ps := ["_law_box_here", "_law_book_here"]) fun _ _ _ _ _ _ us hl => match us, hl with | [_, _], _ => rfl
  have F16 := fun_mk (st := s_l_book) l16 c16 k16
  have b16 := F16.binds (ps := ["_law_box_here", "_law_most"]) fun _ _ _ _ _ _ us hl => match us, hl with | [_, _], _ => rfl
  have F17 := fun_mk (st := s_l_told) l17 c17 k17
  have b17 := F17.binds (ps := ["_law_which", "_law_book_here", "_law_item"]) fun _ _ _ _ _ _ us hl => match us, hl with | [_, _, _], _ => rfl
  have F18 := fun_mk (st := s_l_right) l18 c18 k18
  have b18 := F18.binds (ps := ["_law_box_here"]) fun _ _ _ _ _ _ us hl => match us, hl with | [_], _ => rfl
  have F19 := fun_mk (st := s_law) l19 c19 k19
  have T : Top w K mg := ⟨⟨⟨f0, _, F0, b0, PySem.W.mg_of X G a0⟩⟩, ⟨⟨f1, _, F1, b1, PySem.W.mg_of X G a1⟩⟩, ⟨⟨f2, _, F2, b2, PySem.W.mg_of X G a2⟩⟩, ⟨⟨f3, _, F3, b3, PySem.W.mg_of X G a3⟩⟩, ⟨⟨f4, _, F4, b4, PySem.W.mg_of X G a4⟩⟩, ⟨⟨f5, _, F5, b5, PySem.W.mg_of X G a5⟩⟩, ⟨⟨f6, _, F6, b6, PySem.W.mg_of X G a6⟩⟩, ⟨⟨f7, _, F7, b7, PySem.W.mg_of X G a7⟩⟩, ⟨⟨f8, _, F8, b8, PySem.W.mg_of X G a8⟩⟩, ⟨⟨f9, _, F9, b9, PySem.W.mg_of X G a9⟩⟩, ⟨⟨f10, _, F10, b10, PySem.W.mg_of X G a10⟩⟩, ⟨⟨f11, _, F11, b11, PySem.W.mg_of X G a11⟩⟩, ⟨⟨f12, _, F12, b12, PySem.W.mg_of X G a12⟩⟩, ⟨⟨f13, _, F13, b13, PySem.W.mg_of X G a13⟩⟩, ⟨⟨f14, _, F14, b14, PySem.W.mg_of X G a14⟩⟩, ⟨⟨f15, _, F15, b15, PySem.W.mg_of X G a15⟩⟩, ⟨⟨f16, _, F16, b16, PySem.W.mg_of X G a16⟩⟩, ⟨⟨f17, _, F17, b17, PySem.W.mg_of X G a17⟩⟩, ⟨⟨f18, _, F18, b18, PySem.W.mg_of X G a18⟩⟩, PySem.W.mg_none_of X G z_abs, PySem.W.mg_none_of X G z_all, PySem.W.mg_none_of X G z_bool, PySem.W.mg_none_of X G z_int, PySem.W.mg_none_of X G z_isinstance, PySem.W.mg_none_of X G z_len, PySem.W.mg_none_of X G z_list, PySem.W.mg_none_of X G z_min, PySem.W.mg_none_of X G z_range, PySem.W.mg_none_of X G z_repr, PySem.W.mg_none_of X G z_sorted, PySem.W.mg_none_of X G z_str, PySem.W.mg_none_of X G z_tuple, PySem.W.mg_none_of X G z_zip⟩
  have X0 : XC K C0 "ValueError" "ValueError.__new__" "ValueError.__init__" bVE := ⟨PySem.F.excBase_ValueError, PySem.F.store_ValueError, vxi0, vxo0, vxd0, vxs0, vxg0, vxh0, vxb0, vxc0, vxk0, vxn0, vxm0, spc, tks⟩
  have FI0 := fun_mk (st := iniS 3) vlI0 vcI0 vkI0
  have Y0 : Cls K mg "Misfit" "time" "Misfit.__init__" "ValueError" "ValueError.__new__" "ValueError.__init__" bVE (iniS 3) C0 := ⟨X0, PySem.W.mg_of X G vcn0, vxf0, vxt0, ⟨fI0, _, vin0, vty0, FI0, FI0.binds (ps := ["self", "time"]) (fun _ _ _ _ _ _ us hl => match us, hl with | [_, _], _ => rfl)⟩⟩
  have X1 : XC K C1 "ValueError" "ValueError.__new__" "ValueError.__init__" bVE := ⟨PySem.F.excBase_ValueError, PySem.F.store_ValueError, vxi1, vxo1, vxd1, vxs1, vxg1, vxh1, vxb1, vxc1, vxk1, vxn1, vxm1, spc, tks⟩
  have FI1 := fun_mk (st := iniS 4) vlI1 vcI1 vkI1
  have Y1 : Cls K mg "Noted" "note" "Noted.__init__" "ValueError" "ValueError.__new__" "ValueError.__init__" bVE (iniS 4) C1 := ⟨X1, PySem.W.mg_of X G vcn1, vxf1, vxt1, ⟨fI1, _, vin1, vty1, FI1, FI1.binds (ps := ["self", "note"]) (fun _ _ _ _ _ _ us hl => match us, hl with | [_, _], _ => rfl)⟩⟩
  have X2 : XC K C2 "LookupError" "LookupError.__new__" "LookupError.__init__" bLE := ⟨PySem.F.excBase_LookupError, PySem.F.store_LookupError, vxi2, vxo2, vxd2, vxs2, vxg2, vxh2, vxb2, vxc2, vxk2, vxn2, vxm2, spc, tks⟩
  have FI2 := fun_mk (st := iniS 5) vlI2 vcI2 vkI2
  have Y2 : Cls K mg "NoTime" "time" "NoTime.__init__" "LookupError" "LookupError.__new__" "LookupError.__init__" bLE (iniS 5) C2 := ⟨X2, PySem.W.mg_of X G vcn2, vxf2, vxt2, ⟨fI2, _, vin2, vty2, FI2, FI2.binds (ps := ["self", "time"]) (fun _ _ _ _ _ _ us hl => match us, hl with | [_, _], _ => rfl)⟩⟩
  have X3 : XC K C3 "LookupError" "LookupError.__new__" "LookupError.__init__" bLE := ⟨PySem.F.excBase_LookupError, PySem.F.store_LookupError, vxi3, vxo3, vxd3, vxs3, vxg3, vxh3, vxb3, vxc3, vxk3, vxn3, vxm3, spc, tks⟩
  have FI3 := fun_mk (st := iniS 6) vlI3 vcI3 vkI3
  have Y3 : Cls K mg "NoNote" "note" "NoNote.__init__" "LookupError" "LookupError.__new__" "LookupError.__init__" bLE (iniS 6) C3 := ⟨X3, PySem.W.mg_of X G vcn3, vxf3, vxt3, ⟨fI3, _, vin3, vty3, FI3, FI3.binds (ps := ["self", "note"]) (fun _ _ _ _ _ _ us hl => match us, hl with | [_, _], _ => rfl)⟩⟩
  have TY : TopX K mg (fun j => [C0, C1, C2, C3].getD j 0 : Nat → Addr) := ⟨Y0, Y1, Y2, Y3, vkit, vk_ValueError, PySem.W.mg_none_of X G y_ValueError, vk_LookupError, PySem.W.mg_none_of X G y_LookupError, vexm⟩
  exact ⟨_, fun s v => .of_eq rfl, fun base _ _ => ok_law F19 T TY⟩
end Og6

open PySem PySem.W PyProof.Rows
set_option maxHeartbeats 0 in
theorem PySem.Challenge.cw_onlygroups_k06_notes_added_and_removed_holds : PySem.Challenge.rw_onlygroups_k06_notes_added_and_removed.Holds := by
  w_on; o_law; k_head; (case hw => w_witness2)
  k_fill
  refine OgR.walk_G (l := PySem.Challenge.rw_onlygroups_k06_notes_added_and_removed) (n := 63) (k := 7) (x := "_law_script") (sp := fun w => Dw.spLaw _) rfl (by decide) rfl ⟨rfl, by decide, by decide⟩ (fun w h Y => PySem.W.kIn_of Y) ?F (fun _ _ a ns hl hS => ⟨a, ns, rfl, hS, hl, fun _ => rfl⟩)
  case F =>
    intro w mg fa h KX G hmg
    refine' Og6.all_mk KX G hmg ?a0 ?l0 ?c0 ?k0 ?a1 ?l1 ?c1 ?k1 ?a2 ?l2 ?c2 ?k2 ?a3 ?l3 ?c3 ?k3 ?a4 ?l4 ?c4 ?k4 ?a5 ?l5 ?c5 ?k5 ?a6 ?l6 ?c6 ?k6 ?a7 ?l7 ?c7 ?k7 ?a8 ?l8 ?c8 ?k8 ?a9 ?l9 ?c9 ?k9 ?a10 ?l10 ?c10 ?k10 ?a11 ?l11 ?c11 ?k11 ?a12 ?l12 ?c12 ?k12 ?a13 ?l13 ?c13 ?k13 ?a14 ?l14 ?c14 ?k14 ?a15 ?l15 ?c15 ?k15 ?a16 ?l16 ?c16 ?k16 ?a17 ?l17 ?c17 ?k17 ?a18 ?l18 ?c18 ?k18 ?a19 ?l19 ?c19 ?k19 ?z_abs ?z_all ?z_bool ?z_int ?z_isinstance ?z_len ?z_list ?z_min ?z_range ?z_repr ?z_sorted ?z_str ?z_tuple ?z_zip ?spc ?tks ?vcn0 ?vxi0 ?vxo0 ?vxd0 ?vxs0 ?vxg0 ?vxh0 ?vxb0 ?vxc0 ?vxk0 ?vxn0 ?vxm0 ?vxf0 ?vxt0 ?vin0 ?vty0 ?vlI0 ?vcI0 ?vkI0 ?vcn1 ?vxi1 ?vxo1 ?vxd1 ?vxs1 ?vxg1 ?vxh1 ?vxb1 ?vxc1 ?vxk1 ?vxn1 ?vxm1 ?vxf1 ?vxt1 ?vin1 ?vty1 ?vlI1 ?vcI1 ?vkI1 ?vcn2 ?vxi2 ?vxo2 ?vxd2 ?vxs2 ?vxg2 ?vxh2 ?vxb2 ?vxc2 ?vxk2 ?vxn2 ?vxm2 ?vxf2 ?vxt2 ?vin2 ?vty2 ?vlI2 ?vcI2 ?vkI2 ?vcn3 ?vxi3 ?vxo3 ?vxd3 ?vxs3 ?vxg3 ?vxh3 ?vxb3 ?vxc3 ?vxk3 ?vxn3 ?vxm3 ?vxf3 ?vxt3 ?vin3 ?vty3 ?vlI3 ?vcI3 ?vkI3 ?vkit ?vk_ValueError ?y_ValueError ?vk_LookupError ?y_LookupError ?vexm
    (case a0 => k_is)
    (case l0 => k_is)
    (case c0 => k_is)
    (case k0 => k_is)
    (case a1 => k_is)
    (case l1 => k_is)
    (case c1 => k_is)
    (case k1 => k_is)
    (case a2 => k_is)
    (case l2 => k_is)
    (case c2 => k_is)
    (case k2 => k_is)
    (case a3 => k_is)
    (case l3 => k_is)
    (case c3 => k_is)
    (case k3 => k_is)
    (case a4 => k_is)
    (case l4 => k_is)
    (case c4 => k_is)
    (case k4 => k_is)
    (case a5 => k_is)
    (case l5 => k_is)
    (case c5 => k_is)
    (case k5 => k_is)
    (case a6 => k_is)
    (case l6 => k_is)
    (case c6 => k_is)
    (case k6 => k_is)
    (case a7 => k_is)
    (case l7 => k_is)
    (case c7 => k_is)
    (case k7 => k_is)
    (case a8 => k_is)
    (case l8 => k_is)
    (case c8 => k_is)
    (case k8 => k_is)
    (case a9 => k_is)
    (case l9 => k_is)
    (case c9 => k_is)
    (case k9 => k_is)
    (case a10 => k_is)
    (case l10 => k_is)
    (case c10 => k_is)
    (case k10 => k_is)
    (case a11 => k_is)
    (case l11 => k_is)
    (case c11 => k_is)
    (case k11 => k_is)
    (case a12 => k_is)
    (case l12 => k_is)
    (case c12 => k_is)
    (case k12 => k_is)
    (case a13 => k_is)
    (case l13 => k_is)
    (case c13 => k_is)
    (case k13 => k_is)
    (case a14 => k_is)
    (case l14 => k_is)
    (case c14 => k_is)
    (case k14 => k_is)
    (case a15 => k_is)
    (case l15 => k_is)
    (case c15 => k_is)
    (case k15 => k_is)
    (case a16 => k_is)
    (case l16 => k_is)
    (case c16 => k_is)
    (case k16 => k_is)
    (case a17 => k_is)
    (case l17 => k_is)
    (case c17 => k_is)
    (case k17 => k_is)
    (case a18 => k_is)
    (case l18 => k_is)
    (case c18 => k_is)
    (case k18 => k_is)
    (case a19 => k_is)
    (case l19 => k_is)
    (case c19 => k_is)
    (case k19 => k_is)
    (case z_abs => k_is)
    (case z_all => k_is)
    (case z_bool => k_is)
    (case z_int => k_is)
    (case z_isinstance => k_is)
    (case z_len => k_is)
    (case z_list => k_is)
    (case z_min => k_is)
    (case z_range => k_is)
    (case z_repr => k_is)
    (case z_sorted => k_is)
    (case z_str => k_is)
    (case z_tuple => k_is)
    (case z_zip => k_is)
    (case spc => k_is)
    (case tks => k_is)
    (case vcn0 => k_is)
    (case vxi0 => first | exact rfl | decide +kernel | k_is)
    (case vxo0 => first | exact rfl | decide +kernel | k_is)
    (case vxd0 => k_is)
    (case vxs0 => k_is)
    (case vxg0 => k_is)
    (case vxh0 => k_is)
    (case vxb0 => k_is)
    (case vxc0 => k_is)
    (case vxk0 => k_is)
    (case vxn0 => first | exact rfl | decide +kernel | k_is)
    (case vxm0 => k_is)
    (case vxf0 => k_is)
    (case vxt0 => k_is)
    (case vin0 => k_is)
    (case vty0 => k_is)
    (case vlI0 => k_is)
    (case vcI0 => k_is)
    (case vkI0 => k_is)
    (case vcn1 => k_is)
    (case vxi1 => first | exact rfl | decide +kernel | k_is)
    (case vxo1 => first | exact rfl | decide +kernel | k_is)
    (case vxd1 => k_is)
    (case vxs1 => k_is)
    (case vxg1 => k_is)
    (case vxh1 => k_is)
    (case vxb1 => k_is)
    (case vxc1 => k_is)
    (case vxk1 => k_is)
    (case vxn1 => first | exact rfl | decide +kernel | k_is)
    (case vxm1 => k_is)
    (case vxf1 => k_is)
    (case vxt1 => k_is)
    (case vin1 => k_is)
    (case vty1 => k_is)
    (case vlI1 => k_is)
    (case vcI1 => k_is)
    (case vkI1 => k_is)
    (case vcn2 => k_is)
    (case vxi2 => first | exact rfl | decide +kernel | k_is)
    (case vxo2 => first | exact rfl | decide +kernel | k_is)
    (case vxd2 => k_is)
    (case vxs2 => k_is)
    (case vxg2 => k_is)
    (case vxh2 => k_is)
    (case vxb2 => k_is)
    (case vxc2 => k_is)
    (case vxk2 => k_is)
    (case vxn2 => first | exact rfl | decide +kernel | k_is)
    (case vxm2 => k_is)
    (case vxf2 => k_is)
    (case vxt2 => k_is)
    (case vin2 => k_is)
    (case vty2 => k_is)
    (case vlI2 => k_is)
    (case vcI2 => k_is)
    (case vkI2 => k_is)
    (case vcn3 => k_is)
    (case vxi3 => first | exact rfl | decide +kernel | k_is)
    (case vxo3 => first | exact rfl | decide +kernel | k_is)
    (case vxd3 => k_is)
    (case vxs3 => k_is)
    (case vxg3 => k_is)
    (case vxh3 => k_is)
    (case vxb3 => k_is)
    (case vxc3 => k_is)
    (case vxk3 => k_is)
    (case vxn3 => first | exact rfl | decide +kernel | k_is)
    (case vxm3 => k_is)
    (case vxf3 => k_is)
    (case vxt3 => k_is)
    (case vin3 => k_is)
    (case vty3 => k_is)
    (case vlI3 => k_is)
    (case vcI3 => k_is)
    (case vkI3 => k_is)
    (case vkit => first | exact rfl | decide +kernel | k_is)
    (case vk_ValueError => first | exact rfl | decide +kernel | k_is)
    (case y_ValueError => k_is)
    (case vk_LookupError => first | exact rfl | decide +kernel | k_is)
    (case y_LookupError => k_is)
    (case vexm => first | exact rfl | decide +kernel | k_is)

