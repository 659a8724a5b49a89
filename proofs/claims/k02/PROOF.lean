import PyProof.Rows.All
import Wide.All
import OpenK.AllK
import Wide.FinOn
import HandS.ForMost
import HandS.Evl
import HandS.IsInst
import HandS.Style
import HandS.Zip
import HandS.SortInts
import HandS.Conv
import HandS.More
import KE.GoesEnum
import HandS.Walk
import HandS.NoneIn
import HandS.DeepEq
import HandS.WrittenGet
import HandS.Star
import HandS.TupLe
import HandS.TupAny
import PySem.Challenge.RW_onlygroups_k02_choices_and_gaps_of_rows
set_option Elab.async false
set_option linter.all false
set_option maxRecDepth 100000
set_option maxHeartbeats 4000000
namespace OgR
open PySem PySem.Spec PyProof.Rows L2
/-! sorted(t), t a tuple of ints -/
section
variable {prog : Program} {w : World} {A : Around} {E : Value → Shared → Prop} {s : Shared}
/-- the items of a tuple, collected in a new list at the heap's end -/
theorem gather_tup {Q : List Value → Shared → Prop} {t : Addr} {o : Obj} {xs : Array Value} {m : Nat} (got : s.heap.get? t = some o) (cl : o.cls = .type "tuple")
    (dt : o.data = .seq xs m) (fits : xs.size ≤ sizeLine)
    (fin : Q xs.toList { s with heap := (s.heap.push (seqObj "list" #[] 0)).update s.heap.objs.size (Obj.mapSeq (· ++ xs)) }) :
    wpAny (model prog w) A (collect (.ref t)) Q E s := by
  have new1 : (s.heap.push (seqObj "list" #[] 0)).get? s.heap.objs.size = some (seqObj "list" #[] 0) := Heap.get?_push_size _ rfl
  have new2 := Heap.get?_update_self (Obj.mapSeq (· ++ xs)) new1 rfl
  unfold collect
  refine wpAny_bind (wpAny_runValue (codeAny_builtin F.entry_proto_collect ?_))
  rw [Around.under_plainId F.plain_proto_collect _]
  refine wpAny_bind (wpAny_newObj_type (wpAny_pure ⟨plainId_quiet F.plain_list_iadd _, codeAny_builtin F.entry_list_iadd ?_⟩))
  rw [Around.under_plainId F.plain_list_iadd _]
  refine wpAny_mono (wpAny_extend_seq (hsz := fits) (A := A) (R := fun r s' => r = .ok (.ret (.ref s.heap.objs.size)) ∧
      s' = { s with heap := (s.heap.push (seqObj "list" #[] 0)).update s.heap.objs.size (Obj.mapSeq (· ++ xs)) })
    (s := { s with heap := s.heap.push (seqObj "list" #[] 0) }) _ t _ 0 (.inr rfl) new1 (Heap.get?_push_of_some _ got) cl dt ⟨rfl, rfl⟩) (fun f s' g => ?_) (fun e s' g => absurd g.1 (by simp))
  have last : wpAny (model prog w) A (do
      match (← load s.heap.objs.size).data with
        | Data.seq ys _ => pure ys.toList
        | _ => unsupported "internal:collect") Q E { s with heap := (s.heap.push (seqObj "list" #[] 0)).update s.heap.objs.size (Obj.mapSeq (· ++ xs)) } := by
    refine wpAny_bind (wpAny_load new2 (wpAny_pure ?_))
    have e0 : ((#[] : Array Value) ++ xs).toList = xs.toList := by simp
    show Q ((#[] : Array Value) ++ xs).toList _
    rw [e0]
    exact fin
  cases f with
  | done r =>
    obtain ⟨e1, rfl⟩ := g
    cases e1
    exact last
  | again c => exact ⟨g.1, codeAny_mono g.2 fun r s2 gr => by
      obtain ⟨rfl, rfl⟩ := gr
      exact last⟩
theorem sorted_of_tup {t : Addr} {us : List Value} {ms : List Int} {Q : Value → Shared → Prop} (ht : IsTup s.heap t us.toArray) (hz : us.length ≤ sizeLine) (hI : IntsAre us ms)
    (fin : ∀ (out : List Value) (h' : Heap) (p : Addr) (e : Nat), (∀ b o, s.heap.get? b = some o → h'.get? b = some o) → s.heap.objs.size ≤ p → IntsAre out (out.map SrtO.iv) → (out.map SrtO.iv).Perm ms → (out.map SrtO.iv).Pairwise (· ≤ ·) →
      h'.get? p = some (seqObj "list" out.toArray e) → Q (.ref p) { s with heap := h' }) :
    wpAny (model prog w) A (call (.builtin "sorted") [.ref t]) Q E s := by
  obtain ⟨o, ho, hc, n, hd⟩ := ht
  refine Calls.call_function_entry kind_sorted plain_sorted entry_sorted (args_sorted1 _) ?_
  unfold Builtin.«sorted»
  refine wpAny_bind (m := checkCount "sorted" 1 1 _) (wpAny_pure ?_)
  refine wpAny_bind (gather_tup ho hc hd (by simpa using hz) ?_)
  rw [List.toList_toArray]
  have hsz : ((s.heap.push (seqObj "list" #[] 0)).update s.heap.objs.size (Obj.mapSeq (· ++ us.toArray))).objs.size = s.heap.objs.size + 1 := by
    rw [Heap.size_update, size_push']
  have keep1 : ∀ b u, s.heap.get? b = some u → ((s.heap.push (seqObj "list" #[] 0)).update s.heap.objs.size (Obj.mapSeq (· ++ us.toArray))).get? b = some u := fun b u q =>
    (Heap.get?_update_other _ _ (Nat.ne_of_gt (Heap.lt_size q))).trans (Heap.get?_push_of_some _ q)
  generalize ((s.heap.push (seqObj "list" #[] 0)).update s.heap.objs.size (Obj.mapSeq (· ++ us.toArray))) = h1 at hsz keep1
  refine wpAny_bind (wpAny_newList ?_ hz)
  have old2 : ∀ b u, s.heap.get? b = some u → b < h1.objs.size := fun b u q => Heap.lt_size (keep1 b u q)
  have hnew : (h1.push (seqObj "list" us.toArray 0)).get? h1.objs.size = some (seqObj "list" us.toArray 0) := Heap.get?_push_size _ rfl
  have hle : s.heap.objs.size ≤ h1.objs.size := by omega
  show wpAny _ _ _ _ _ { s with heap := h1.push (seqObj "list" us.toArray 0) }
  refine wpAny_bind (wpAny_holding (wpAny_call_entry slot_list_sort ⟨_, hnew, rfl⟩ entry_list_sort (SrtO.list_sort_ord SrtO.swo_int hnew hz (fun h2 => SrtO.ints_sortable hI h2) fun out a1 a2 => ⟨_, rfl, ?_⟩) (args_list_sort _)))
  obtain ⟨b1, b2, b3⟩ := SrtO.ints_out hI a1 a2
  obtain ⟨e, he⟩ := sortedHeap_at (out := out.toArray) hnew
  refine wpAny_pure ⟨_, rfl, fin out _ h1.objs.size e (fun b u q => ?_) hle b1 b2 b3 he⟩
  have hb := old2 b u q
  rw [sortedHeap_old (Nat.ne_of_lt hb) (by rw [size_push']; exact Nat.lt_succ_of_lt hb)]
  exact Heap.get?_push_of_some _ (keep1 b u q)
end
def rSrtT (K : PySem.W.Frag) : List V → Hp → VK → Prop := fun vs H Q => ∃ (a : Addr) (ms : List Int), vs = [V.ref a] ∧ SqT K H a (ms.map V.int) ∧
  ∀ (ks : List Int) (p : Addr), ks.Perm ms → ks.Pairwise (· ≤ ·) → H p = none → Q (.ref p) (upd H p (.lst (ks.map V.int)))
theorem cr_srtT {X : Cx} : CallR X (.builtin "sorted") (rSrtT X.K) := by
  intro pins s σ H vs us Q I r h
  obtain ⟨a, ms, rfl, hs, q⟩ := h
  obtain ⟨its, rv, ht, hz⟩ := I.tuple hs
  rw [Vals.ref1 r]
  refine sorted_of_tup ht (by rw [← rv.length]; exact hz) rv.ints fun out h' p e keep hp k1 k2 k3 he => ?_
  have hlen : ((out.map SrtO.iv).map V.int).length ≤ sizeLine := by
    have q1 := k2.length_eq
    rw [List.length_map] at hz
    rw [List.length_map]
    omega
  exact ⟨.ref p, upd H p (.lst ((out.map SrtO.iv).map V.int)), I.laid (t' := s.toks) keep hp ⟨hlen, out, e, vals_of_ints k1, he⟩, rfl, q _ _ k2 k3 (I.hok.fresh hp)⟩

/-! ### a sequence, a list or a tuple -/
def SqB (K : PySem.W.Frag) : Bool → Hp → Addr → List V → Prop
  | true, H, a, xs => SqT K H a xs
  | false, H, a, xs => SqL K H a xs
def SeqIs : Bool → Heap → Addr → Array Value → Prop
  | true, h, a, xs => h.IsTuple a xs
  | false, h, a, xs => h.IsList a xs
def ItIs : Bool → Heap → Addr → Addr → Nat → Prop
  | true, h, i, a, n => h.IsTupleIter i a n
  | false, h, i, a, n => h.IsListIter i a n
def itObj (b : Bool) (a : Addr) : Obj := { cls := .type (if b then "tuple_iterator" else "list_iterator"), data := .fields #[.ref a, .int 0 0] }
theorem seqB {X : Cx} {pins : List (Addr × Obj)} {σ : L2.St} {H : Hp} {s : Shared} {a : Addr} {xs : List V} {b : Bool} (I : Inv X pins σ H s) (h : SqB X.K b H a xs) :
    ∃ its : List Value, Vals xs its ∧ SeqIs b s.heap a its.toArray ∧ a < s.heap.objs.size := by
  cases b with
  | true =>
    obtain ⟨its, r, p, _⟩ := I.tuple h
    exact ⟨its, r, p, p.lt⟩
  | false =>
    obtain ⟨its, r, p, _⟩ := I.list h
    exact ⟨its, r, p.isList, p.lt⟩
theorem seqB_inj {X : Cx} {pins : List (Addr × Obj)} {σ : L2.St} {H : Hp} {s : Shared} {a : Addr} {xs ys : List V} {b : Bool} (I : Inv X pins σ H s) (h : SqB X.K b H a xs) (h' : SqB X.K b H a ys) : xs = ys := by
  cases b with
  | true => exact I.tuple_inj h h'
  | false => exact I.list_inj h h'
theorem drawsB {prog : Program} {w : World} {A : Around} (hh : A.handled = none) (b : Bool) (it a : Addr) (hne : a ≠ it) (items : Array Value) :
    Draws prog w A it [it, a] items.size (fun i v => items[i]? = some v) (fun i h => ItIs b h it a i ∧ SeqIs b h a items) := by
  cases b with
  | true => exact Draws.tuple hh it a hne items
  | false => exact Draws.list hh it a hne items
theorem beginsB (b : Bool) (a : Addr) (items : Array Value) : Begins (.ref a) (itObj b a) fun h => SeqIs b h a items := by
  cases b with
  | true => exact begins_tuple a items
  | false => exact begins_list a items
theorem itIs0 {b : Bool} {h : Heap} {i a : Addr} (e : h.get? i = some (itObj b a)) : ItIs b h i a 0 := by
  cases b with
  | true => exact ⟨_, e, rfl, rfl⟩
  | false => exact ⟨_, e, rfl, rfl⟩
theorem ItIs.obj {b : Bool} {h : Heap} {i a : Addr} {n : Nat} (x : ItIs b h i a n) : ∃ o, h.get? i = some o ∧ ∀ v, o.data ≠ .cell v := by
  cases b with
  | true =>
    obtain ⟨o, e, _, d⟩ := x
    exact ⟨o, e, fun v q => by rw [d] at q; cases q⟩
  | false =>
    obtain ⟨o, e, _, d⟩ := x
    exact ⟨o, e, fun v q => by rw [d] at q; cases q⟩
theorem ItIs.keep {b : Bool} {h h' : Heap} {i a : Addr} {n : Nat} (x : ItIs b h i a n) (k : ∀ o, h.get? i = some o → h'.get? i = some o) : ItIs b h' i a n := by
  cases b with
  | true => exact Heap.IsTupleIter.at x k
  | false => exact Heap.IsListIter.at x k

/-! ### enumerate of a list or a tuple -/
set_option maxHeartbeats 1000000 in
theorem enum_new1 {v : Value} {o : Obj} {H : Heap → Prop} (B : Begins v o H) : Meets (Builtin.«enumerate.__new__» ⟨[.type "enumerate", v], []⟩) (fun _ R s => H s.heap ∧
    R (.ok (.ret (.ref (s.heap.push o).objs.size)))
      { s with heap := (s.heap.push o).push { cls := .type "enumerate", data := .fields #[.none, .bool false, .ref s.heap.objs.size, rawInt 0, .none, .none] } }) := by
  refine .of_wp fun prog w A R s h => ?_
  obtain ⟨hp, gn, dr, tk, os⟩ := s
  obtain ⟨hH, fin⟩ := h
  have hsub := sub_enumerate
  have it1 : ∀ {A' : Around} {E : Value → Shared → Prop} {Q : Value → Shared → Prop}, Q (.ref hp.objs.size) ⟨hp.push o, gn, dr, tk, os⟩ → wpAny (model prog w) A' (pyIter v) Q E ⟨hp, gn, dr, tk, os⟩ := fun q =>
    B.iter prog w _ _ ⟨hp, gn, dr, tk, os⟩ _ hH q
  wp_walk using it1
  refine wpAny_stack_any fun st => wpAny_pure ?_
  split
  · rename_i cc _ _ _ _ _
    cases (cc == Value.type "enumerate") <;> (wp_walk using it1; exact ⟨_, rfl, fin⟩)
  · wp_walk using it1
    exact ⟨_, rfl, fin⟩
theorem enum_begins1 {prog : Program} {w : World} {A : Around} {E : Value → Shared → Prop} {s : Shared} {v : Value} {o : Obj} {H : Heap → Prop} {Q : Value → Shared → Prop} (B : Begins v o H) (h1 : H s.heap)
    (fin : ∀ h', IsEnum h' (s.heap.objs.size + 1) s.heap.objs.size 0 .none → h'.get? s.heap.objs.size = some o → h'.objs.size = s.heap.objs.size + 2 → (∀ b u, s.heap.get? b = some u → h'.get? b = some u) →
      Q (.ref (s.heap.objs.size + 1)) { s with heap := h' }) : wpAny (model prog w) A (call (.type "enumerate") [v]) Q E s := by
  refine callType_new F.called_enumerate (by decide) (F.typeCall_enumerate_1 _) (F.newCall_enumerate_1 _) (fun obj => F.args_object_init_2 obj _) F.entry_enumerate_new (enum_new1 B) ⟨h1, ?_⟩
  have sz : (s.heap.push o).objs.size = s.heap.objs.size + 1 := Heap.size_push ..
  have it := Heap.get?_push_size (s.heap.push o) (o := { cls := .type "enumerate", data := .fields #[.none, .bool false, .ref s.heap.objs.size, rawInt 0, .none, .none] }) rfl
  rw [sz] at it
  show _ ∧ _
  rw [sz]
  exact ⟨⟨_, it, rfl⟩, fin _ it (Heap.get?_push_of_some _ (Heap.get?_push_size _ B.free)) (by rw [Heap.size_push, sz]) fun b u x => Heap.get?_push_of_some _ (Heap.get?_push_of_some _ x)⟩
/-- the turns of enumerate over the sequence at a -/
def IteB (K : PySem.W.Frag) (b : Bool) (a : Addr) : It where
  go := fun i H => ∃ (xs : List V) (x : V), SqB K b H a xs ∧ xs[i]? = some x
  yld := fun i H v H' => ∃ T x, v = .ref T ∧ H T = none ∧ H' = upd H T (.tup [.int (i : Nat), x]) ∧ ∀ xs, SqB K b H a xs → xs[i]? = some x
  stop := fun i H => ∃ xs : List V, SqB K b H a xs ∧ xs.length = i
theorem turn_enumB {P : Program} {w : World} {K : PySem.W.Frag} {elts : List Expr} {kk : Nat} {tpos : Pos} {b : Bool} (a e it : Addr) :
    Turn P w K (.Tuple elts kk tpos) (IteB K b a) [e, it] e (fun i h => (∃ old, IsEnum h e it ((i : Nat) : Int) old) ∧ ItIs b h it a i ∧ e ≠ it ∧ a ≠ it ∧ e ≠ a) where
  mem := List.mem_cons_self ..
  obj := fun i h st c hc => by
    obtain ⟨⟨old, he⟩, hi, _⟩ := st
    rcases List.mem_cons.mp hc with rfl | hc
    · exact ⟨_, he, fun v q => nomatch q⟩
    · rw [List.mem_singleton.mp hc]
      exact hi.obj
  keep := fun i h h' st k => by
    obtain ⟨⟨old, he⟩, hi, r⟩ := st
    exact ⟨⟨old, k e (by simp) _ he⟩, hi.keep (k it (by simp)), r⟩
  item := by
    intro X hP hw hK hc i pins s σ H E I hf st hg
    subst hP hw hK
    obtain ⟨⟨old, he⟩, hit, hne, hai, hea⟩ := st
    obtain ⟨xs, x, hq, hx⟩ := hg
    obtain ⟨its, rv, hsq, _⟩ := seqB I hq
    obtain ⟨u, hu, ru⟩ := rv.get hx
    have lte : e < s.heap.objs.size := Heap.lt_size he
    have lti : it < s.heap.objs.size := by
      obtain ⟨o, q, _⟩ := hit.obj
      exact Heap.lt_size q
    have hlt : i < its.toArray.size := by
      have q := (List.getElem?_eq_some_iff.mp hu).1
      simpa using q
    refine wpAny_pyNext_enum_itemC (drawsB (by exact I.ok.hd hc) b it a hai its.toArray) he ⟨hit, hsq⟩ hlt hne (by simp [hne, hea]) fun y h' tk hy ho hst' hT hsz hk => ?_
    have hyu : y = u := by
      have q : its[i]? = some y := by simpa using hy
      rw [hu] at q
      exact (Option.some.inj q).symm
    subst hyu
    refine ⟨_, rfl, wpAny_letOwnedTupleGo_enum (s := { s with heap := h', toks := tk + 1 }) ho fun h2 he2 sb => ?_⟩
    have atT : h2.get? s.heap.objs.size = some { cls := .type "tuple", data := .seq #[.int i tk, y] } := (sb.2 _ (Nat.ne_of_gt lte)).trans hT
    have I1 : Inv X pins σ (upd H s.heap.objs.size (.tup [.int (i : Nat), x])) { s with heap := h2, toks := tk + 1 } := by
      refine I.turnedNew (ch := [e, it]) (fun c oc hcn q => ?_) hf (Nat.le_refl _) ⟨by show 2 ≤ sizeLine; decide, [.int i tk, y], .cons ⟨_, rfl⟩ (.cons ru .nil), ⟨_, atT, rfl, _, rfl⟩⟩
      exact (sb.2 c (fun z => hcn (by simp [z]))).trans (hk c oc (fun z => hcn (by simp [z])) (fun z => hcn (by simp [z])) q)
    refine ⟨.ref s.heap.objs.size, _, I1, rfl, ⟨_, x, rfl, I.hok.fresh (Nat.le_refl _), rfl, fun ys hy' => by rw [seqB_inj I hy' hq]; exact hx⟩, ⟨⟨y, ?_⟩, hst'.1.keep fun o q => (sb.2 it (Ne.symm hne)).trans q, hne, hai, hea⟩, fun c hcm => ?_⟩
    · have e1 : ((i + 1 : Nat) : Int) = (i : Int) + 1 := by omega
      rw [e1]
      exact he2
    · have ltc : c < s.heap.objs.size := by
        rcases List.mem_cons.mp hcm with rfl | hcm
        · exact lte
        · rw [List.mem_singleton.mp hcm]
          exact lti
      rw [upd_ne (Nat.ne_of_lt ltc)]
      exact (hf c hcm).1
  done := by
    intro X hP hw hK hc i pins s σ H E I hf st hg
    subst hP hw hK
    obtain ⟨⟨old, he⟩, hit, hne, hai, hea⟩ := st
    obtain ⟨xs, hq, hx⟩ := hg
    obtain ⟨its, rv, hsq, _⟩ := seqB I hq
    obtain ⟨f0, f1, f2, f3, f4, f5⟩ := hf it (by simp)
    have hl : its.toArray.size = i := by
      have q := rv.length
      simp
      omega
    refine wpAny_pyNext_enum_endD (drawsB (by exact I.ok.hd hc) b it a hai its.toArray) he (by rw [hl]; exact ⟨hit, hsq⟩) fun h' hk => ⟨rfl, ?_⟩
    exact I.turned (t' := s.toks) (fun c oc hcn q => hk c oc hcn q) f0 f1 f3 f4 f5
  self := fun A i s Q E st h => by
    obtain ⟨⟨_, he⟩, _⟩ := st
    exact wpAny_pyIter_enum he h
def iEnumB (K : PySem.W.Frag) (ta : TA) : TI := fun σ H R => ta σ H fun vs H1 => ∃ b a xs, vs = [.ref a] ∧ SqB K b H1 a xs ∧ R (IteB K b a) H1
theorem pi_enumB {X : Cx} {e : Expr} {ta : TA} {p pos tpos : Pos} {elts : List Expr} {kk : Nat} (hg : Gl X "enumerate") (hm : X.mg "enumerate" = none) (ha : PA X [e] ta) (hs : starEach [e] X.env = [(false, eval e X.env)] := by rfl) :
    PI X (.Tuple elts kk tpos) (.Call (.Name "enumerate" p) [e] [] pos) (iEnumB X.K ta) := by
  refine ⟨fun pins s σ H R I h => ?_⟩
  refine Call_ (ld_blt I hg hm boot_enumerate (callWith_type1 (thn (ha.run pos pins s σ H _ I h) fun us s1 ⟨vs, H1, I1, r1, g⟩ => ?_) hs rfl))
  obtain ⟨b, a, xs, ex, hq, q⟩ := g
  subst ex
  rw [Vals.ref1 r1]
  obtain ⟨its, rv, hsq, lta⟩ := seqB I1 hq
  refine enum_begins1 (beginsB b a its.toArray) hsq fun h' he hit hsz hk => wpAny_pyIter_enum he ?_
  refine ⟨s1.heap.objs.size + 1, [s1.heap.objs.size + 1, s1.heap.objs.size], _, _, H1, rfl, I1.kept (t' := s1.toks) hk, turn_enumB a (s1.heap.objs.size + 1) s1.heap.objs.size, ⟨⟨.none, he⟩, itIs0 hit, Nat.succ_ne_self _, Nat.ne_of_lt lta, Nat.ne_of_gt (Nat.lt_succ_of_lt lta)⟩, fun c hc => ?_, q⟩
  have hle : s1.heap.objs.size ≤ c := by
    rcases List.mem_cons.mp hc with rfl | hc
    · exact Nat.le_succ _
    · rw [List.mem_singleton.mp hc]
      exact Nat.le_refl _
  exact I1.fpOk hle (I1.hok.fresh hle)
end OgR

namespace OgR
open PySem PySem.Spec PyProof.Rows L2
/-! ### zip of two sequences, each a list or a tuple -/
def ItzB (K : PySem.W.Frag) (b1 b2 : Bool) (a1 a2 : Addr) : It where
  go := fun i H => ∃ (xs ys : List V) (x y : V), SqB K b1 H a1 xs ∧ SqB K b2 H a2 ys ∧ xs[i]? = some x ∧ ys[i]? = some y
  yld := fun i H v H' => ∃ T x y, v = .ref T ∧ H T = none ∧ H' = upd H T (.tup [x, y]) ∧ (∀ xs, SqB K b1 H a1 xs → xs[i]? = some x) ∧ ∀ ys, SqB K b2 H a2 ys → ys[i]? = some y
  stop := fun i H => ∃ xs ys : List V, SqB K b1 H a1 xs ∧ SqB K b2 H a2 ys ∧ i ≤ xs.length ∧ i ≤ ys.length ∧ (i = xs.length ∨ i = ys.length)
theorem turn_zipB {P : Program} {w : World} {K : PySem.W.Frag} {elts : List Expr} {kk : Nat} {tpos : Pos} {b1 b2 : Bool} {a1 a2 z TI TO i1 i2 : Addr} (S : ZipSep2 z TI TO i1 i2 [i1, a1] [i2, a2]) (n1 : a1 ≠ i1) (n2 : a2 ≠ i2) :
    Turn P w K (.Tuple elts kk tpos) (ItzB K b1 b2 a1 a2) [z, TI, TO, i1, i2] z
      (fun i h => IsZip h z TI TO .none ∧ IsTupOf2 h TI (.ref i1) (.ref i2) ∧ (∃ x y, IsTupOf2 h TO x y) ∧ ItIs b1 h i1 a1 i ∧ ItIs b2 h i2 a2 i) where
  mem := List.mem_cons_self ..
  obj := fun i h st c hc => by
    obtain ⟨hz, hTI, ⟨x, y, hTO⟩, h1, h2⟩ := st
    have q : c = z ∨ c = TI ∨ c = TO ∨ c = i1 ∨ c = i2 := by simpa using hc
    rcases q with rfl | rfl | rfl | rfl | rfl
    · exact ⟨_, hz, fun v q => nomatch q⟩
    · exact ⟨_, hTI, fun v q => nomatch q⟩
    · exact ⟨_, hTO, fun v q => nomatch q⟩
    · exact h1.obj
    · exact h2.obj
  keep := fun i h h' st k => by
    obtain ⟨hz, hTI, ⟨x, y, hTO⟩, h1, h2⟩ := st
    exact ⟨k z (by simp) _ hz, k TI (by simp) _ hTI, ⟨x, y, k TO (by simp) _ hTO⟩, h1.keep (k i1 (by simp)), h2.keep (k i2 (by simp))⟩
  item := by
    intro X hP hw hK hc i pins s σ H E I hf st hg
    subst hP hw hK
    obtain ⟨hz, hTI, ⟨x0, y0, hTO⟩, h1, h2⟩ := st
    obtain ⟨xs, ys, x, y, qx, qy, hx, hy⟩ := hg
    obtain ⟨us1, rv1, sq1, _⟩ := seqB I qx
    obtain ⟨us2, rv2, sq2, _⟩ := seqB I qy
    obtain ⟨u1, e1, r1⟩ := rv1.get hx
    obtain ⟨u2, e2, r2⟩ := rv2.get hy
    have ltz : z < s.heap.objs.size := Heap.lt_size hz
    have lt1 : i < us1.toArray.size := by
      have q := (List.getElem?_eq_some_iff.mp e1).1
      simpa using q
    have lt2 : i < us2.toArray.size := by
      have q := (List.getElem?_eq_some_iff.mp e2).1
      simpa using q
    refine wpAny_pyNext_zipD2_item S (drawsB (by exact I.ok.hd hc) b1 i1 a1 n1 us1.toArray) (drawsB (by exact I.ok.hd hc) b2 i2 a2 n2 us2.toArray) hz hTI hTO ⟨h1, sq1⟩ ⟨h2, sq2⟩ lt1 lt2
      fun v1 v2 h' tk p1 p2 z' TO' st1 st2 hT hsz hk => ?_
    have ev1 : v1 = u1 := by
      have q : us1[i]? = some v1 := by simpa using p1
      rw [e1] at q
      exact (Option.some.inj q).symm
    have ev2 : v2 = u2 := by
      have q : us2[i]? = some v2 := by simpa using p2
      rw [e2] at q
      exact (Option.some.inj q).symm
    subst ev1 ev2
    refine ⟨_, rfl, wpAny_letOwnedTupleGo_zip (s := { s with heap := h', toks := tk }) z' fun h2' z2 sb => ?_⟩
    have atT : h2'.get? s.heap.objs.size = some { cls := .type "tuple", data := .seq #[v1, v2] } := (sb.2 _ (Nat.ne_of_gt ltz)).trans hT
    have I1 : Inv X pins σ (upd H s.heap.objs.size (.tup [x, y])) { s with heap := h2', toks := tk } := by
      refine I.turnedNew (ch := [z, TI, TO, i1, i2]) (fun c oc hcn q => ?_) hf (Nat.le_refl _) ⟨by show 2 ≤ sizeLine; decide, [v1, v2], .cons r1 (.cons r2 .nil), ⟨_, atT, rfl, _, rfl⟩⟩
      have g : ∀ d, d ∈ [z, TI, TO, i1, i2] → c ≠ d := fun d hd e => hcn (e ▸ hd)
      exact (sb.2 c (g z (by simp))).trans (hk c oc (g z (by simp)) (g TO (by simp)) (g i1 (by simp)) (g i2 (by simp)) q)
    refine ⟨.ref s.heap.objs.size, _, I1, rfl, ⟨_, x, y, rfl, I.hok.fresh (Nat.le_refl _), rfl, fun l hl => by rw [seqB_inj I hl qx]; exact hx, fun l hl => by rw [seqB_inj I hl qy]; exact hy⟩, ⟨z2, ?_, ⟨v1, v2, ?_⟩, ?_, ?_⟩, fun c hcm => ?_⟩
    · exact (sb.2 _ S.TIz).trans (hk _ _ S.TIz S.TITO S.TIi1 S.TIi2 hTI)
    · exact (sb.2 _ S.TOz).trans TO'
    · exact st1.1.keep fun o q => (sb.2 _ (Ne.symm S.zi1)).trans q
    · exact st2.1.keep fun o q => (sb.2 _ (Ne.symm S.zi2)).trans q
    · have ltc : c < s.heap.objs.size := by
        have q : c = z ∨ c = TI ∨ c = TO ∨ c = i1 ∨ c = i2 := by simpa using hcm
        rcases q with rfl | rfl | rfl | rfl | rfl
        · exact ltz
        · exact Heap.lt_size hTI
        · exact Heap.lt_size hTO
        · obtain ⟨_, q, _⟩ := h1.obj
          exact Heap.lt_size q
        · obtain ⟨_, q, _⟩ := h2.obj
          exact Heap.lt_size q
      rw [upd_ne (Nat.ne_of_lt ltc)]
      exact (hf c hcm).1
  done := by
    intro X hP hw hK hc i pins s σ H E I hf st hg
    subst hP hw hK
    obtain ⟨hz, hTI, ⟨x0, y0, hTO⟩, h1, h2⟩ := st
    obtain ⟨xs, ys, qx, qy, l1, l2, hend⟩ := hg
    obtain ⟨us1, rv1, sq1, _⟩ := seqB I qx
    obtain ⟨us2, rv2, sq2, _⟩ := seqB I qy
    have m1 : xs.length = us1.toArray.size := by
      have q := rv1.length
      simpa using q
    have m2 : ys.length = us2.toArray.size := by
      have q := rv2.length
      simpa using q
    refine wpAny_pyNext_zipD2_end S (drawsB (by exact I.ok.hd hc) b1 i1 a1 n1 us1.toArray) (drawsB (by exact I.ok.hd hc) b2 i2 a2 n2 us2.toArray) hz hTI hTO ⟨h1, sq1⟩ ⟨h2, sq2⟩ (by omega) (by omega) (by omega) fun h' tk hk => ⟨rfl, ?_⟩
    refine I.turnedL (t' := tk) (ch := [z, TI, TO, i1, i2]) (fun c oc hcn q => ?_) hf
    have g : ∀ d, d ∈ [z, TI, TO, i1, i2] → c ≠ d := fun d hd e => hcn (e ▸ hd)
    exact hk c oc (g z (by simp)) (g TO (by simp)) (g i1 (by simp)) (g i2 (by simp)) q
  self := fun A i s Q E st h => wpAny_pyIter_zip st.1 h
def iZipB (K : PySem.W.Frag) (ta : TA) : TI := fun σ H R => ta σ H fun vs H1 => ∃ b1 b2 a1 a2 xs ys, vs = [.ref a1, .ref a2] ∧ SqB K b1 H1 a1 xs ∧ SqB K b2 H1 a2 ys ∧ R (ItzB K b1 b2 a1 a2) H1
theorem pi_zipB {X : Cx} {e e2 : Expr} {ta : TA} {p pos tpos : Pos} {elts : List Expr} {kk : Nat} (hg : Gl X "zip") (hm : X.mg "zip" = none) (ha : PA X [e, e2] ta)
    (hs : starEach [e, e2] X.env = (false, eval e X.env) :: starEach [e2] X.env := by rfl) (hpl : (backTo pos (starEach [e2] X.env)).any (·.1) = false := by rfl) :
    PI X (.Tuple elts kk tpos) (.Call (.Name "zip" p) [e, e2] [] pos) (iZipB X.K ta) := by
  refine ⟨fun pins s σ H R I h => ?_⟩
  refine Call_ (ld_blt I hg hm boot_zip (callWith_type1 (thn (ha.run pos pins s σ H _ I h) fun us s1 ⟨vs, H1, I1, r1, g⟩ => ?_) hs hpl))
  obtain ⟨b1, b2, a1, a2, xs, ys, ex, qx, qy, q⟩ := g
  subst ex
  obtain ⟨u, w', eus, ru, rw'⟩ := vals2 r1
  subst eus
  cases ru
  cases rw'
  obtain ⟨us1, rv1, sq1, lt1⟩ := seqB I1 qx
  obtain ⟨us2, rv2, sq2, lt2⟩ := seqB I1 qy
  refine zip_begins2 (beginsB b1 a1 us1.toArray) (beginsB b2 a2 us2.toArray) sq1 sq2 fun h' hz hTI hTO g1 g2 hsz hk => wpAny_pyIter_zip hz ?_
  have S := zip_sep2 (N := s1.heap.objs.size) (fp1 := [a1]) (fp2 := [a2]) (fun b hb => by rw [List.mem_singleton.mp hb]; exact lt1) (fun b hb => by rw [List.mem_singleton.mp hb]; exact lt2)
  refine ⟨s1.heap.objs.size + 4, [s1.heap.objs.size + 4, s1.heap.objs.size + 2, s1.heap.objs.size + 3, s1.heap.objs.size, s1.heap.objs.size + 1], _, _, H1, rfl, I1.kept (t' := s1.toks) hk,
    turn_zipB S (Nat.ne_of_lt lt1) (Nat.ne_of_lt (Nat.lt_succ_of_lt lt2)), ⟨hz, hTI, ⟨_, _, hTO⟩, itIs0 g1, itIs0 g2⟩, fun c hcm => ?_, q⟩
  have hle : s1.heap.objs.size ≤ c := by
    have e' : c = s1.heap.objs.size + 4 ∨ c = s1.heap.objs.size + 2 ∨ c = s1.heap.objs.size + 3 ∨ c = s1.heap.objs.size ∨ c = s1.heap.objs.size + 1 := by simpa using hcm
    rcases e' with q | q | q | q | q <;> rw [q] <;> first | exact Nat.le_add_right _ _ | exact Nat.le_refl _
  exact I1.fpOk hle (I1.hok.fresh hle)
/-! ### their walks -/
theorem SqB.ex {K : PySem.W.Frag} {b : Bool} {H H' : Hp} {a : Addr} {xs : List V} (e : Evl.Ex H H') (h : SqB K b H a xs) : SqB K b H' a xs := by
  cases b with
  | true => exact Evl.ex_t e h
  | false => exact Evl.ex_l e h
theorem walk_enumB {K : PySem.W.Frag} {b : Bool} {a : Addr} {xs : List V} : Walk (IteB K b a) xs.length (fun H => SqB K b H a xs) (fun i H v H' => ∃ T x, v = .ref T ∧ H T = none ∧ H' = upd H T (.tup [.int (i : Nat), x]) ∧ xs[i]? = some x) where
  goes := fun i H hi h => ⟨xs, xs[i], h, List.getElem?_eq_getElem hi⟩
  stops := fun H h => ⟨xs, h, rfl⟩
  yields := fun i H v H' hi h y => by
    obtain ⟨T, x, e1, e2, e3, e4⟩ := y
    exact ⟨T, x, e1, e2, e3, e4 xs h⟩
theorem walk_zipB {K : PySem.W.Frag} {b1 b2 : Bool} {a1 a2 : Addr} {xs ys : List V} (hl : xs.length = ys.length) : Walk (ItzB K b1 b2 a1 a2) xs.length (fun H => SqB K b1 H a1 xs ∧ SqB K b2 H a2 ys)
    (fun i H v H' => ∃ T x y, v = .ref T ∧ H T = none ∧ H' = upd H T (.tup [x, y]) ∧ xs[i]? = some x ∧ ys[i]? = some y) where
  goes := fun i H hi h => ⟨xs, ys, xs[i], ys[i]'(by omega), h.1, h.2, List.getElem?_eq_getElem hi, List.getElem?_eq_getElem (by omega)⟩
  stops := fun H h => ⟨xs, ys, h.1, h.2, Nat.le_refl _, by omega, .inl rfl⟩
  yields := fun i H v H' hi h y => by
    obtain ⟨T, x, z, e1, e2, e3, e4, e5⟩ := y
    exact ⟨T, x, z, e1, e2, e3, e4 xs h.1, e5 ys h.2⟩
/-! ### for x in s, s a list or a tuple -/
def ItsB (K : PySem.W.Frag) (b : Bool) (a : Addr) : It where
  go := fun i H => ∃ xs x, SqB K b H a xs ∧ xs[i]? = some x
  yld := fun i H x H' => H' = H ∧ ∀ xs, SqB K b H a xs → xs[i]? = some x
  stop := fun i H => ∃ xs, SqB K b H a xs ∧ xs.length ≤ i
theorem turn_seqB {P : Program} {w : World} {K : PySem.W.Frag} {tg : Expr} (b : Bool) (a it : Addr) : Turn P w K tg (ItsB K b a) [it] it (fun i h => ItIs b h it a i) := by
  cases b with
  | true => exact turn_tuple a it
  | false => exact turn_list a it
def iSeqB (K : PySem.W.Frag) (tl : TE) : TI := fun σ H R => tl σ H fun x H1 => ∃ b a xs, x = .ref a ∧ SqB K b H1 a xs ∧ R (ItsB K b a) H1
theorem pi_seqB {X : Cx} {tg l : Expr} {tl : TE} (hl : PE X l tl) : PI X tg l (iSeqB X.K tl) := by
  refine ⟨fun pins s σ H R I h => thn (hl.run pins s σ H _ I h) fun v s1 ⟨x, H1, I1, r1, g⟩ => ?_⟩
  obtain ⟨b, a, xs, e, hq, q⟩ := g
  subst e
  cases r1
  obtain ⟨its, rv, hsq, lt⟩ := seqB I1 hq
  refine (beginsB b a its.toArray).iter _ _ _ _ _ _ hsq ?_
  refine ⟨s1.heap.objs.size, [s1.heap.objs.size], _, _, H1, rfl, I1.kept (t' := s1.toks) fun c o e => Heap.get?_push_of_some _ e, turn_seqB b a _, itIs0 (Heap.get?_push_size _ (beginsB b a its.toArray).free), fun c hc => ?_, q⟩
  rw [List.mem_singleton.mp hc]
  exact I1.fpOk (Nat.le_refl _) (I1.hok.fresh (Nat.le_refl _))
theorem walk_seqB {K : PySem.W.Frag} {b : Bool} {a : Addr} {xs : List V} : Walk (ItsB K b a) xs.length (fun H => SqB K b H a xs) (fun i H v H' => H' = H ∧ xs[i]? = some v) where
  goes := fun i H hi h => ⟨xs, xs[i], h, List.getElem?_eq_getElem hi⟩
  stops := fun H h => ⟨xs, h, Nat.le_refl _⟩
  yields := fun i H v H' hi h y => ⟨y.1, y.2 xs h⟩
/-! ### one of two readings -/
theorem PG.or {X : Cx} {e : Expr} {g1 g2 : TG} (h1 : PG X e g1) (h2 : PG X e g2) : PG X e (fun v σ H Q => g1 v σ H Q ∨ g2 v σ H Q) :=
  ⟨fun pins s σ H v u Q I r h => by
    rcases h with h | h
    · exact h1.run pins s σ H v u Q I r h
    · exact h2.run pins s σ H v u Q I r h⟩
theorem CallR.or {X : Cx} {f : Value} {r1 r2 : List V → Hp → VK → Prop} (h1 : CallR X f r1) (h2 : CallR X f r2) : CallR X f (fun vs H Q => r1 vs H Q ∨ r2 vs H Q) := by
  intro pins s σ H vs us Q I r h
  rcases h with h | h
  · exact h1 pins s σ H vs us Q I r h
  · exact h2 pins s σ H vs us Q I r h
/-- unpacking a pair: a tuple or a list of n items -/
def gSeqB (K : PySem.W.Frag) (n : Nat) (t : TGs) : TG := fun v σ H Q => ∃ b a xs, v = .ref a ∧ SqB K b H a xs ∧ xs.length = n ∧ t xs σ H Q
theorem pg_seqB {X : Cx} {es : List Expr} {k : Nat} {pos : Pos} {t : TGs} {n : Nat} (hc : X.calm = true) (h : PGs X es t)
    (hn : (assignEach es X.env).length = n := by rfl) (hst : (assignEach es X.env).findIdx? (·.1) = none := by rfl) : PG X (.Tuple es k pos) (gSeqB X.K n t) :=
  ⟨fun pins s σ H v u Q I r hw => by
    obtain ⟨b, a, xs, e1, hq, hl, hw⟩ := hw
    cases b with
    | true => exact (pg_tup hc h hn hst).run pins s σ H v u Q I r ⟨a, xs, e1, hq, hl, hw⟩
    | false => exact (pg_unl hc h hn hst).run pins s σ H v u Q I r ⟨a, xs, e1, hq, hl, hw⟩⟩
/-- sorted(s), s a list or a tuple of ints -/
def rSrtB (K : PySem.W.Frag) : List V → Hp → VK → Prop := fun vs H Q => ∃ (b : Bool) (a : Addr) (ms : List Int), vs = [V.ref a] ∧ SqB K b H a (ms.map V.int) ∧
  ∀ (ks : List Int) (p : Addr), ks.Perm ms → ks.Pairwise (· ≤ ·) → H p = none → Q (.ref p) (upd H p (.lst (ks.map V.int)))
theorem cr_srtB {X : Cx} : CallR X (.builtin "sorted") (rSrtB X.K) := by
  intro pins s σ H vs us Q I r h
  obtain ⟨b, a, ms, e, hq, q⟩ := h
  cases b with
  | true => exact cr_srtT pins s σ H vs us Q I r ⟨a, ms, e, hq, q⟩
  | false => exact cr_sortedI pins s σ H vs us Q I r ⟨a, ms, e, hq, q⟩
/-- len(s), s a list or a tuple -/
def rLenB (K : PySem.W.Frag) : List V → Hp → VK → Prop := fun vs H Q => ∃ (b : Bool) (a : Addr) (xs : List V), vs = [V.ref a] ∧ SqB K b H a xs ∧ Q (.int (xs.length : Int)) H
theorem cr_lenB {X : Cx} : CallR X (.builtin "len") (rLenB X.K) := by
  intro pins s σ H vs us Q I r h
  obtain ⟨b, a, xs, e, hq, q⟩ := h
  cases b with
  | true => exact call_len_seq pins s σ H vs us Q I r ⟨a, xs, e, .inr hq, q⟩
  | false => exact call_len_seq pins s σ H vs us Q I r ⟨a, xs, e, .inl hq, q⟩
/-- s[i], s a list or a tuple -/
def rIxB (K : PySem.W.Frag) : R2 := fun x y H Q => ∃ (b : Bool) (p : Addr) (xs : List V) (i : Int) (v : V), x = .ref p ∧ y = .int i ∧ SqB K b H p xs ∧ atI xs i = some v ∧ Q v H
theorem ix_B {X : Cx} : IxR X (rIxB X.K) := by
  have h : IxR X (rIx X.K) := ix_seq
  refine fun va sl pins s σ H x y u w Q I rx ry g hp => h va sl pins s σ H x y u w Q I rx ry ?_ hp
  obtain ⟨b, p, xs, i, v, e1, e2, hq, ha, q⟩ := g
  cases b with
  | true => exact .inr (.inl ⟨p, xs, i, v, e1, e2, hq, ha, q⟩)
  | false => exact .inl ⟨p, xs, i, v, e1, e2, hq, ha, q⟩
end OgR

namespace OgR
open PySem PySem.Spec PyProof.Rows L2
/-! ### l[a:c] = a list -/
def gSl (to : TE) (tl th : TO) : TG := fun v σ H Q => to σ H fun o H1 => tl σ H1 fun lo H2 => th σ H2 fun hi H3 => ∃ (l b : Addr) (xs ys : List V) (a c : Int), o = .ref l ∧ v = .ref b ∧ lo = some a ∧ hi = some c ∧ H3 l = some (.lst xs) ∧ H3 b = some (.lst ys) ∧ l ≠ b ∧
  0 ≤ a ∧ a ≤ c ∧ c ≤ xs.length ∧ xs.length + ys.length ≤ sizeLine ∧ Q σ (upd H3 l (.lst (xs.take a.toNat ++ ys ++ xs.drop c.toNat)))
theorem pg_sl {X : Cx} {o : Expr} {lo hi : Option Expr} {pos p2 : Pos} {to : TE} {tl th : TO} (ho : PE X o to) (hl : PO X lo tl) (hu : PO X hi th)
    (ha : ∀ v, assign (.Subscript o (.Slice lo hi none p2) pos) X.env v = (do
      let ov ← holding [v] (eval o X.env)
      let iv ← holding [v, ov] (eval (.Slice lo hi none p2) X.env)
      standAt pos
      holding [v, ov, iv] (setItem ov iv v)
      release [iv, v, ov] []) := by intro _; rfl) : PG X (.Subscript o (.Slice lo hi none p2) pos) (gSl to tl th) := by
  refine ⟨fun pins s σ H v u Q I r h => ?_⟩
  rw [ha]
  refine wpAny_bind (wpAny_holding (thn (ho.run pins s σ H _ I h) fun ov s1 ⟨x, H1, I1, r1, q1⟩ => ?_))
  refine wpAny_bind (wpAny_holding (wpAny_Slice (thn (hl.run pins s1 σ H1 _ I1 q1) fun vl s2 ⟨l, H2, I2, pl, q2⟩ => thn (hu.run pins s2 σ H2 _ I2 q2) fun vu s3 ⟨w', H3, I3, pu, q3⟩ => ?_)))
  rw [evalPart_none]
  refine wpAny_pure ?_
  obtain ⟨la, lb, xs, ys, a, c, rfl, rfl, rfl, rfl, e1, e2, hne, h0, hac, hc, hz, q⟩ := q3
  cases r1
  cases r
  have I4 : Inv X pins σ H3 { s3 with heap := s3.heap.push { cls := .type "slice", data := .fields #[vl, vu, .none] } } := I3.kept (t' := s3.toks) fun b ob q => Heap.get?_push_of_some _ q
  refine wpAny_bind (wpAny_standAt (wpAny_bind (wpAny_holding ?_)))
  cases pl with
  | int a ta =>
    cases pu with
    | int c tc => exact set_slice I4 e1 e2 hne (Heap.IsSliceOf.new ..) ⟨_, rfl⟩ ⟨_, rfl⟩ h0 hac hc hz fun s' I' => wpAny_release ⟨_, _, I', q⟩
end OgR

namespace OgM
/-! ### runs of plots as segments: (s, n) is s, s + 1, .., s + n -/
abbrev Seg := Int × Nat
def Ok : Int → List Seg → Prop
  | _, [] => True
  | lo, x :: r => lo < x.1 ∧ Ok (x.1 + x.2 + 1) r
def Mem (p : Int) (g : List Seg) : Prop := ∃ x ∈ g, x.1 ≤ p ∧ p ≤ x.1 + x.2
theorem mem_cons {p : Int} {x : Seg} {g : List Seg} : Mem p (x :: g) ↔ (x.1 ≤ p ∧ p ≤ x.1 + x.2) ∨ Mem p g := by
  simp [Mem]
theorem mem_nil {p : Int} : ¬ Mem p [] := by simp [Mem]
theorem ok_lt : ∀ {g : List Seg} {lo p : Int}, Ok lo g → Mem p g → lo < p
  | [], _, _, _, h => absurd h mem_nil
  | x :: r, lo, p, h, m => by
    rcases mem_cons.mp m with m | m
    · have := h.1; omega
    · have := ok_lt h.2 m; have := h.1; omega
theorem ok_mono : ∀ {g : List Seg} {lo lo' : Int}, lo' ≤ lo → Ok lo g → Ok lo' g
  | [], _, _, _, _ => trivial
  | x :: r, lo, lo', h, k => ⟨by have := k.1; omega, k.2⟩
/-- one more plot -/
def add (p : Int) : List Seg → List Seg
  | [] => [(p, 0)]
  | (s, n) :: r =>
    if p < s - 1 then (p, 0) :: (s, n) :: r
    else if p = s - 1 then (p, n + 1) :: r
    else if p = s + n + 1 then
      match r with
      | [] => [(s, n + 1)]
      | (s', n') :: r' => if s' = p + 1 then (s, n + n' + 2) :: r' else (s, n + 1) :: (s', n') :: r'
    else (s, n) :: add p r
theorem ok_add : ∀ {g : List Seg} {lo p : Int}, Ok lo g → ¬ Mem p g → lo < p → Ok lo (add p g)
  | [], lo, p, _, _, h => ⟨h, trivial⟩
  | (s, n) :: r, lo, p, k, nm, h => by
    have k1 : lo < s := k.1
    have k2 : Ok (s + n + 1) r := k.2
    have nm1 : ¬ (s ≤ p ∧ p ≤ s + n) := fun e => nm (mem_cons.mpr (.inl e))
    have nm2 : ¬ Mem p r := fun e => nm (mem_cons.mpr (.inr e))
    unfold add
    split
    · exact ⟨h, by show p + ((0 : Nat) : Int) + 1 < s; omega, k2⟩
    · split
      · refine ⟨h, ?_⟩
        refine ok_mono ?_ k2
        show p + ((n + 1 : Nat) : Int) + 1 ≤ _
        omega
      · split
        · cases r with
          | nil => exact ⟨k1, trivial⟩
          | cons y r' =>
            obtain ⟨s', n'⟩ := y
            have k3 : s + n + 1 < s' := k2.1
            have k4 : Ok (s' + n' + 1) r' := k2.2
            show Ok lo (if s' = p + 1 then (s, n + n' + 2) :: r' else (s, n + 1) :: (s', n') :: r')
            split
            · refine ⟨k1, ok_mono ?_ k4⟩
              show s + ((n + n' + 2 : Nat) : Int) + 1 ≤ _
              omega
            · refine ⟨k1, ?_, k4⟩
              show s + ((n + 1 : Nat) : Int) + 1 < s'
              omega
        · exact ⟨k1, ok_add k2 nm2 (by show s + (n : Int) + 1 < p; omega)⟩
theorem mem_add : ∀ {g : List Seg} {lo p q : Int}, Ok lo g → (Mem q (add p g) ↔ q = p ∨ Mem q g)
  | [], lo, p, q, _ => by
    show Mem q [(p, 0)] ↔ _
    rw [mem_cons]
    simp only [mem_nil, or_false]
    constructor
    · intro h; have : p ≤ q ∧ q ≤ p + ((0 : Nat) : Int) := h; omega
    · intro h; exact ⟨by show p ≤ q; omega, by show q ≤ p + ((0 : Nat) : Int); omega⟩
  | (s, n) :: r, lo, p, q, k => by
    have k2 : Ok (s + n + 1) r := k.2
    unfold add
    split
    · rw [mem_cons]
      constructor
      · rintro (h | h)
        · have : p ≤ q ∧ q ≤ p + ((0 : Nat) : Int) := h
          exact .inl (by omega)
        · exact .inr h
      · rintro (h | h)
        · exact .inl ⟨by show p ≤ q; omega, by show q ≤ p + ((0 : Nat) : Int); omega⟩
        · exact .inr h
    · split
      · rename_i h1 h2
        rw [mem_cons, mem_cons]
        constructor
        · rintro (h | h)
          · have : p ≤ q ∧ q ≤ p + ((n + 1 : Nat) : Int) := h
            by_cases e : q = p
            · exact .inl e
            · exact .inr (.inl ⟨by show s ≤ q; omega, by show q ≤ s + (n : Int); omega⟩)
          · exact .inr (.inr h)
        · rintro (h | h | h)
          · exact .inl ⟨by show p ≤ q; omega, by show q ≤ p + ((n + 1 : Nat) : Int); omega⟩
          · have : s ≤ q ∧ q ≤ s + (n : Int) := h
            exact .inl ⟨by show p ≤ q; omega, by show q ≤ p + ((n + 1 : Nat) : Int); omega⟩
          · exact .inr h
      · split
        · rename_i h1 h2 h3
          cases r with
          | nil =>
            show Mem q [(s, n + 1)] ↔ _
            rw [mem_cons, mem_cons]
            constructor
            · rintro (h | h)
              · have : s ≤ q ∧ q ≤ s + ((n + 1 : Nat) : Int) := h
                by_cases e : q = p
                · exact .inl e
                · exact .inr (.inl ⟨by show s ≤ q; omega, by show q ≤ s + (n : Int); omega⟩)
              · exact .inr (.inr h)
            · rintro (h | h | h)
              · exact .inl ⟨by show s ≤ q; omega, by show q ≤ s + ((n + 1 : Nat) : Int); omega⟩
              · have : s ≤ q ∧ q ≤ s + (n : Int) := h
                exact .inl ⟨by show s ≤ q; omega, by show q ≤ s + ((n + 1 : Nat) : Int); omega⟩
              · exact .inr h
          | cons y r' =>
            obtain ⟨s', n'⟩ := y
            show Mem q (if s' = p + 1 then (s, n + n' + 2) :: r' else (s, n + 1) :: (s', n') :: r') ↔ _
            split
            · rename_i h4
              rw [mem_cons, mem_cons, mem_cons]
              constructor
              · rintro (h | h)
                · have : s ≤ q ∧ q ≤ s + ((n + n' + 2 : Nat) : Int) := h
                  by_cases e : q = p
                  · exact .inl e
                  · by_cases e2 : q < p
                    · exact .inr (.inl ⟨by show s ≤ q; omega, by show q ≤ s + (n : Int); omega⟩)
                    · exact .inr (.inr (.inl ⟨by show s' ≤ q; omega, by show q ≤ s' + (n' : Int); omega⟩))
                · exact .inr (.inr (.inr h))
              · rintro (h | h | h | h)
                · exact .inl ⟨by show s ≤ q; omega, by show q ≤ s + ((n + n' + 2 : Nat) : Int); omega⟩
                · have : s ≤ q ∧ q ≤ s + (n : Int) := h
                  exact .inl ⟨by show s ≤ q; omega, by show q ≤ s + ((n + n' + 2 : Nat) : Int); omega⟩
                · have : s' ≤ q ∧ q ≤ s' + (n' : Int) := h
                  exact .inl ⟨by show s ≤ q; omega, by show q ≤ s + ((n + n' + 2 : Nat) : Int); omega⟩
                · exact .inr h
            · rw [mem_cons (x := (s, n + 1)), mem_cons (x := (s, n))]
              constructor
              · rintro (h | h)
                · have : s ≤ q ∧ q ≤ s + ((n + 1 : Nat) : Int) := h
                  by_cases e : q = p
                  · exact .inl e
                  · exact .inr (.inl ⟨by show s ≤ q; omega, by show q ≤ s + (n : Int); omega⟩)
                · exact .inr (.inr h)
              · rintro (h | h | h)
                · exact .inl ⟨by show s ≤ q; omega, by show q ≤ s + ((n + 1 : Nat) : Int); omega⟩
                · have : s ≤ q ∧ q ≤ s + (n : Int) := h
                  exact .inl ⟨by show s ≤ q; omega, by show q ≤ s + ((n + 1 : Nat) : Int); omega⟩
                · exact .inr h
        · rw [mem_cons, mem_cons, mem_add k2]
          constructor
          · rintro (h | h | h)
            · exact .inr (.inl h)
            · exact .inl h
            · exact .inr (.inr h)
          · rintro (h | h | h)
            · exact .inr (.inl h)
            · exact .inl h
            · exact .inr (.inr h)
/-- segments are told by their members -/
theorem ok_ext : ∀ {g g' : List Seg} {lo lo' : Int}, Ok lo g → Ok lo' g' → (∀ q, Mem q g ↔ Mem q g') → g = g'
  | [], [], _, _, _, _, _ => rfl
  | [], (s, n) :: r, _, _, _, _, h => absurd ((h s).mpr (mem_cons.mpr (.inl ⟨Int.le_refl _, by show s ≤ s + (n : Int); omega⟩))) mem_nil
  | (s, n) :: r, [], _, _, _, _, h => absurd ((h s).mp (mem_cons.mpr (.inl ⟨Int.le_refl _, by show s ≤ s + (n : Int); omega⟩))) mem_nil
  | (s, n) :: r, (s', n') :: r', lo, lo', k, k', h => by
    have k2 : Ok (s + n + 1) r := k.2
    have k2' : Ok (s' + n' + 1) r' := k'.2
    have in1 : ∀ q, s ≤ q → q ≤ s + n → Mem q ((s', n') :: r') := fun q a b => (h q).mp (mem_cons.mpr (.inl ⟨a, b⟩))
    have in2 : ∀ q, s' ≤ q → q ≤ s' + n' → Mem q ((s, n) :: r) := fun q a b => (h q).mpr (mem_cons.mpr (.inl ⟨a, b⟩))
    have lo1 : ∀ {q}, Mem q ((s', n') :: r') → s' ≤ q := fun {q} m => by
      rcases mem_cons.mp m with m | m
      · exact m.1
      · have := ok_lt k2' m; omega
    have lo2 : ∀ {q}, Mem q ((s, n) :: r) → s ≤ q := fun {q} m => by
      rcases mem_cons.mp m with m | m
      · exact m.1
      · have := ok_lt k2 m; omega
    have es : s = s' := by
      have a := lo1 (in1 s (Int.le_refl _) (by omega))
      have b := lo2 (in2 s' (Int.le_refl _) (by omega))
      omega
    subst es
    have en : n = n' := by
      by_cases e1 : n < n'
      · have m := in2 (s + n + 1) (by omega) (by omega)
        rcases mem_cons.mp m with m | m
        · have := m.2; simp only at this; omega
        · have := ok_lt k2 m; omega
      · by_cases e2 : n' < n
        · have m := in1 (s + n' + 1) (by omega) (by omega)
          rcases mem_cons.mp m with m | m
          · have := m.2; simp only at this; omega
          · have := ok_lt k2' m; omega
        · omega
    subst en
    have er : r = r' := ok_ext k2 k2' fun q => by
      constructor
      · intro m
        have lt := ok_lt k2 m
        rcases mem_cons.mp ((h q).mp (mem_cons.mpr (.inr m))) with a | a
        · have := a.2; simp only at this; omega
        · exact a
      · intro m
        have lt := ok_lt k2' m
        rcases mem_cons.mp ((h q).mpr (mem_cons.mpr (.inr m))) with a | a
        · have := a.2; simp only at this; omega
        · exact a
    rw [er]
/-- the segments of a list of plots -/
def segs : List Int → List Seg := List.foldl (fun g p => add p g) []
theorem segs_snoc (l : List Int) (p : Int) : segs (l ++ [p]) = add p (segs l) := by
  unfold segs
  rw [List.foldl_append]
  rfl
theorem lower : ∀ l : List Int, ∃ lo : Int, ∀ p ∈ l, lo < p
  | [] => ⟨0, fun p h => absurd h (by simp)⟩
  | x :: r => by
    obtain ⟨lo, h⟩ := lower r
    refine ⟨min lo (x - 1), fun p hp => ?_⟩
    rcases List.mem_cons.mp hp with e | hp
    · subst e; omega
    · have := h p hp; omega
theorem snoc_ind {α : Type} {P : List α → Prop} (h0 : P []) (h1 : ∀ l x, P l → P (l ++ [x])) (l : List α) : P l := by
  have h : ∀ l : List α, P l.reverse := fun l => by
    induction l with
    | nil => exact h0
    | cons x r ih =>
      rw [List.reverse_cons]
      exact h1 _ _ ih
  have := h l.reverse
  rwa [List.reverse_reverse] at this
theorem segs_ok : ∀ {l : List Int} {lo : Int}, l.Nodup → (∀ p ∈ l, lo < p) → Ok lo (segs l) ∧ ∀ q, Mem q (segs l) ↔ q ∈ l := by
  intro l
  induction l using snoc_ind with
  | h0 => exact fun _ _ => ⟨trivial, fun q => by simp [segs, Mem]⟩
  | h1 l p ih => 
    intro lo hn hl
    have hn' : l.Nodup ∧ p ∉ l := by
      rw [List.nodup_append] at hn
      exact ⟨hn.1, fun h => hn.2.2 p h p (by simp) rfl⟩
    obtain ⟨a, b⟩ := ih hn'.1 fun q hq => hl q (by simp [hq])
    rw [segs_snoc]
    refine ⟨ok_add a (fun m => hn'.2 ((b p).mp m)) (hl p (by simp)), fun q => ?_⟩
    rw [mem_add a, b q]
    simp [or_comm]
theorem segs_eq {l l' : List Int} (h : l.Nodup) (h' : l'.Nodup) (e : ∀ q, q ∈ l ↔ q ∈ l') : segs l = segs l' := by
  obtain ⟨lo, hl⟩ := lower l
  obtain ⟨lo', hl'⟩ := lower l'
  obtain ⟨a, b⟩ := segs_ok h hl
  obtain ⟨a', b'⟩ := segs_ok h' hl'
  exact ok_ext a a' fun q => by rw [b q, b' q, e q]
end OgM

namespace OgM
inductive Wd where
  | new | beside | between
  deriving DecidableEq
def Wd.step : Wd → Int
  | .new => 1
  | .beside => 0
  | .between => -1
abbrev Ch := Wd × Nat
def shift : Ch → Ch
  | (.new, k) => (.new, k + 1)
  | (.beside, k) => (.beside, k + 2)
  | (.between, k) => (.between, k + 1)
def pick (p : Int) : List Seg → Ch
  | [] => (.new, 0)
  | (s, n) :: r =>
    if p < s - 1 then (.new, 0)
    else if p = s - 1 then (.beside, 0)
    else if p = s + n + 1 then
      match r with
      | [] => (.beside, 1)
      | (s', _) :: _ => if s' = p + 1 then (.between, 0) else (.beside, 1)
    else shift (pick p r)
theorem shift_word (c : Ch) : (shift c).1 = c.1 := by
  obtain ⟨w, k⟩ := c
  cases w <;> rfl
/-- the four places of a new plot beside the first segment -/
theorem places {P : Prop} {s : Int} {n : Nat} {p : Int} {r : List Seg} (nm : ¬ (s ≤ p ∧ p ≤ s + n)) (h1 : p < s - 1 → P) (h2 : p = s - 1 → P) (h3 : p = s + n + 1 → P) (h4 : s + n + 1 < p → P) : P := by
  by_cases e1 : p < s - 1
  · exact h1 e1
  · by_cases e2 : p = s - 1
    · exact h2 e2
    · by_cases e3 : p = s + n + 1
      · exact h3 e3
      · exact h4 (by omega)
theorem pick_1 {p s : Int} {n : Nat} {r : List Seg} (h : p < s - 1) : pick p ((s, n) :: r) = (.new, 0) ∧ add p ((s, n) :: r) = (p, 0) :: (s, n) :: r := by
  unfold pick add
  rw [if_pos h, if_pos h]
  exact ⟨rfl, rfl⟩
theorem pick_2 {p s : Int} {n : Nat} {r : List Seg} (h : p = s - 1) : pick p ((s, n) :: r) = (.beside, 0) ∧ add p ((s, n) :: r) = (p, n + 1) :: r := by
  unfold pick add
  rw [if_neg (by omega), if_pos h, if_neg (by omega), if_pos h]
  exact ⟨rfl, rfl⟩
theorem pick_30 {p s : Int} {n : Nat} (h : p = s + n + 1) : pick p [(s, n)] = (.beside, 1) ∧ add p [(s, n)] = [(s, n + 1)] := by
  unfold pick add
  rw [if_neg (by omega), if_neg (by omega), if_pos h, if_neg (by omega), if_neg (by omega), if_pos h]
  exact ⟨rfl, rfl⟩
theorem pick_31 {p s s' : Int} {n n' : Nat} {r : List Seg} (h : p = s + n + 1) (h' : s' = p + 1) : pick p ((s, n) :: (s', n') :: r) = (.between, 0) ∧ add p ((s, n) :: (s', n') :: r) = (s, n + n' + 2) :: r := by
  unfold pick add
  rw [if_neg (by omega), if_neg (by omega), if_pos h, if_neg (by omega), if_neg (by omega), if_pos h]
  show (if s' = p + 1 then (Wd.between, 0) else (Wd.beside, 1)) = _ ∧ (if s' = p + 1 then (s, n + n' + 2) :: r else (s, n + 1) :: (s', n') :: r) = _
  rw [if_pos h', if_pos h']
  exact ⟨rfl, rfl⟩
theorem pick_32 {p s s' : Int} {n n' : Nat} {r : List Seg} (h : p = s + n + 1) (h' : s' ≠ p + 1) : pick p ((s, n) :: (s', n') :: r) = (.beside, 1) ∧ add p ((s, n) :: (s', n') :: r) = (s, n + 1) :: (s', n') :: r := by
  unfold pick add
  rw [if_neg (by omega), if_neg (by omega), if_pos h, if_neg (by omega), if_neg (by omega), if_pos h]
  show (if s' = p + 1 then (Wd.between, 0) else (Wd.beside, 1)) = _ ∧ (if s' = p + 1 then (s, n + n' + 2) :: r else (s, n + 1) :: (s', n') :: r) = _
  rw [if_neg h', if_neg h']
  exact ⟨rfl, rfl⟩
theorem pick_4 {p s : Int} {n : Nat} {r : List Seg} (h : s + n + 1 < p) : pick p ((s, n) :: r) = shift (pick p r) ∧ add p ((s, n) :: r) = (s, n) :: add p r := by
  constructor
  · conv => lhs; unfold pick
    rw [if_neg (by omega), if_neg (by omega), if_neg (by omega)]
  · conv => lhs; unfold add
    rw [if_neg (by omega), if_neg (by omega), if_neg (by omega)]
/-- a way through: the six cases at the first segment -/
theorem way {C : List Seg → Prop} {p : Int} (h0 : C []) (h1 : ∀ (s : Int) (n : Nat) (r : List Seg), p < s - 1 → Ok (s + n + 1) r → C ((s, n) :: r)) (h2 : ∀ (s : Int) (n : Nat) (r : List Seg), p = s - 1 → Ok (s + n + 1) r → C ((s, n) :: r))
    (h30 : ∀ (s : Int) (n : Nat), p = s + n + 1 → C [(s, n)]) (h31 : ∀ (s : Int) (n : Nat) (s' : Int) (n' : Nat) (r : List Seg), p = s + n + 1 → s' = p + 1 → Ok (s' + n' + 1) r → C ((s, n) :: (s', n') :: r))
    (h32 : ∀ (s : Int) (n : Nat) (s' : Int) (n' : Nat) (r : List Seg), p = s + n + 1 → p + 1 < s' → Ok (s' + n' + 1) r → C ((s, n) :: (s', n') :: r))
    (h4 : ∀ (s : Int) (n : Nat) (r : List Seg), s + n + 1 < p → Ok (s + n + 1) r → ¬ Mem p r → C r → C ((s, n) :: r)) : ∀ {g : List Seg} {lo : Int}, Ok lo g → ¬ Mem p g → C g
  | [], _, _, _ => h0
  | (s, n) :: r, lo, k, nm => by
    have k2 : Ok (s + n + 1) r := k.2
    have nm1 : ¬ (s ≤ p ∧ p ≤ s + n) := fun e => nm (mem_cons.mpr (.inl e))
    have nm2 : ¬ Mem p r := fun e => nm (mem_cons.mpr (.inr e))
    refine places (r := r) nm1 (fun e => h1 s n r e k2) (fun e => h2 s n r e k2) (fun e => ?_) (fun e => h4 s n r e k2 nm2 (way h0 h1 h2 h30 h31 h32 h4 k2 nm2))
    cases r with
    | nil => exact h30 s n e
    | cons y r' =>
      obtain ⟨s', n'⟩ := y
      have k3 : s + n + 1 < s' := k2.1
      by_cases e' : s' = p + 1
      · exact h31 s n s' n' r' e e' k2.2
      · exact h32 s n s' n' r' e (by omega) k2.2
def left (p : Int) (g : List Seg) : Nat := (g.filter fun x => decide (x.1 + x.2 < p)).length
theorem left_0 : ∀ {g : List Seg} {lo p : Int}, Ok lo g → p ≤ lo + 1 → left p g = 0
  | [], _, _, _, _ => rfl
  | (s, n) :: r, lo, p, k, h => by
    have k1 : lo < s := k.1
    have k2 : Ok (s + n + 1) r := k.2
    unfold left
    rw [List.filter_cons, if_neg (by simp; omega)]
    exact left_0 k2 (by omega)
theorem left_yes {p s : Int} {n : Nat} {r : List Seg} (h : s + n < p) : left p ((s, n) :: r) = left p r + 1 := by
  unfold left
  rw [List.filter_cons, if_pos (by simp; omega)]
  rfl
theorem left_no {p s : Int} {n : Nat} {r : List Seg} (h : ¬ s + n < p) : left p ((s, n) :: r) = left p r := by
  unfold left
  rw [List.filter_cons, if_neg (by simp; omega)]
theorem nmem {g : List Seg} {lo p : Int} (k : Ok lo g) (h : p ≤ lo) : ¬ Mem p g := fun m => by
  have := ok_lt k m
  omega
/-- what a choice says -/
structure Says (p : Int) (g : List Seg) (c : Ch) : Prop where
  new : c.1 = .new ↔ ¬ Mem (p - 1) g ∧ ¬ Mem (p + 1) g
  btw : c.1 = .between ↔ Mem (p - 1) g ∧ Mem (p + 1) g
  n1 : c.1 = .new → c.2 = left p g ∧ c.2 ≤ g.length
  n2 : c.1 = .between → c.2 + 1 = left p g ∧ c.2 + 1 < g.length
  n3 : c.1 = .beside → Mem (p - 1) g → c.2 + 1 = 2 * left p g ∧ c.2 < 2 * g.length
  n4 : c.1 = .beside → ¬ Mem (p - 1) g → c.2 = 2 * left p g ∧ c.2 < 2 * g.length
  len : ((add p g).length : Int) = g.length + c.1.step
theorem says {g : List Seg} {lo p : Int} (k : Ok lo g) (nm : ¬ Mem p g) : Says p g (pick p g) := by
  refine way (C := fun g => Says p g (pick p g)) ?_ ?_ ?_ ?_ ?_ ?_ ?_ k nm
  · refine ⟨?_, ?_, ?_, ?_, ?_, ?_, rfl⟩
    · simp [pick, mem_nil]
    · simp [pick, mem_nil]
    · simp [pick, left]
    · simp [pick]
    · simp [pick]
    · simp [pick]
  · intro s n r h kr
    rw [(pick_1 h).1]
    have a1 : ¬ Mem (p - 1) ((s, n) :: r) := fun m => by
      rcases mem_cons.mp m with m | m
      · have := m.1; simp only at this; omega
      · have := ok_lt kr m; omega
    have a2 : ¬ Mem (p + 1) ((s, n) :: r) := fun m => by
      rcases mem_cons.mp m with m | m
      · have := m.1; simp only at this; omega
      · have := ok_lt kr m; omega
    refine ⟨by simp [a1, a2], by simp [a1], fun _ => ⟨?_, Nat.zero_le _⟩, by simp, by simp, by simp, ?_⟩
    · rw [left_no (by omega), left_0 kr (by omega)]
    · rw [(pick_1 h).2]
      simp [Wd.step]
  · intro s n r h kr
    rw [(pick_2 h).1]
    have a1 : ¬ Mem (p - 1) ((s, n) :: r) := fun m => by
      rcases mem_cons.mp m with m | m
      · have := m.1; simp only at this; omega
      · have := ok_lt kr m; omega
    have a2 : Mem (p + 1) ((s, n) :: r) := mem_cons.mpr (.inl ⟨by show s ≤ p + 1; omega, by show p + 1 ≤ s + (n : Int); omega⟩)
    refine ⟨by simp [a2], by simp [a1], by simp, by simp, fun _ m => absurd m a1, fun _ _ => ⟨?_, by simp⟩, ?_⟩
    · rw [left_no (by omega), left_0 kr (by omega)]
    · rw [(pick_2 h).2]
      simp [Wd.step]
  · intro s n h
    rw [(pick_30 h).1]
    have a1 : Mem (p - 1) [(s, n)] := mem_cons.mpr (.inl ⟨by show s ≤ p - 1; omega, by show p - 1 ≤ s + (n : Int); omega⟩)
    have a2 : ¬ Mem (p + 1) [(s, n)] := fun m => by
      rcases mem_cons.mp m with m | m
      · have := m.2; simp only at this; omega
      · exact mem_nil m
    refine ⟨by simp [a1], by simp [a2], by simp, by simp, fun _ _ => ⟨?_, by simp⟩, fun _ m => absurd a1 m, ?_⟩
    · rw [left_yes (by omega)]
      rfl
    · rw [(pick_30 h).2]
      simp [Wd.step]
  · intro s n s' n' r h h' kr
    rw [(pick_31 h h').1]
    have a1 : Mem (p - 1) ((s, n) :: (s', n') :: r) := mem_cons.mpr (.inl ⟨by show s ≤ p - 1; omega, by show p - 1 ≤ s + (n : Int); omega⟩)
    have a2 : Mem (p + 1) ((s, n) :: (s', n') :: r) := mem_cons.mpr (.inr (mem_cons.mpr (.inl ⟨by show s' ≤ p + 1; omega, by show p + 1 ≤ s' + (n' : Int); omega⟩)))
    refine ⟨by simp [a1], by simp [a1, a2], by simp, fun _ => ⟨?_, by simp⟩, by simp, by simp, ?_⟩
    · rw [left_yes (by omega), left_no (by omega), left_0 kr (by omega)]
    · rw [(pick_31 h h').2]
      simp [Wd.step]
      omega
  · intro s n s' n' r h h' kr
    rw [(pick_32 h (by omega)).1]
    have a1 : Mem (p - 1) ((s, n) :: (s', n') :: r) := mem_cons.mpr (.inl ⟨by show s ≤ p - 1; omega, by show p - 1 ≤ s + (n : Int); omega⟩)
    have a2 : ¬ Mem (p + 1) ((s, n) :: (s', n') :: r) := fun m => by
      rcases mem_cons.mp m with m | m
      · have := m.2; simp only at this; omega
      · rcases mem_cons.mp m with m | m
        · have := m.1; simp only at this; omega
        · have := ok_lt kr m; omega
    refine ⟨by simp [a1], by simp [a2], by simp, by simp, fun _ _ => ⟨?_, by simp; omega⟩, fun _ m => absurd a1 m, ?_⟩
    · rw [left_yes (by omega), left_no (by omega), left_0 kr (by omega)]
    · rw [(pick_32 h (by omega)).2]
      simp [Wd.step]
  · intro s n r h kr nmr ih
    rw [(pick_4 h).1]
    have b1 : Mem (p - 1) ((s, n) :: r) ↔ Mem (p - 1) r := by
      rw [mem_cons]
      exact ⟨fun m => m.elim (fun m => by have := m.2; simp only at this; omega) id, .inr⟩
    have b2 : Mem (p + 1) ((s, n) :: r) ↔ Mem (p + 1) r := by
      rw [mem_cons]
      exact ⟨fun m => m.elim (fun m => by have := m.2; simp only at this; omega) id, .inr⟩
    have bl : left p ((s, n) :: r) = left p r + 1 := left_yes (by omega)
    have ad := (pick_4 (r := r) h).2
    have hl := ih.len
    generalize hc : pick p r = c at ih
    obtain ⟨w, m⟩ := c
    have e1 := ih.new
    have e2 := ih.btw
    have e3 := ih.n1
    have e4 := ih.n2
    have e5 := ih.n3
    have e6 := ih.n4
    have e7 := ih.len
    have hlen : ((add p ((s, n) :: r)).length : Int) = ((s, n) :: r).length + w.step := by
      rw [ad, List.length_cons, List.length_cons]
      have : ((add p r).length : Int) = r.length + w.step := e7
      omega
    have hw : (shift (w, m)).1 = w := shift_word _
    refine ⟨?_, ?_, ?_, ?_, ?_, ?_, ?_⟩
    · rw [hw, b1, b2]; exact e1
    · rw [hw, b1, b2]; exact e2
    · intro e
      rw [hw] at e
      subst e
      obtain ⟨f1, f2⟩ := e3 rfl
      rw [bl, List.length_cons]
      exact ⟨by show m + 1 = _; simp only at f1; omega, by show m + 1 ≤ _; simp only at f2; omega⟩
    · intro e
      rw [hw] at e
      subst e
      obtain ⟨f1, f2⟩ := e4 rfl
      rw [bl, List.length_cons]
      exact ⟨by show m + 1 + 1 = _; simp only at f1; omega, by show m + 1 + 1 < _; simp only at f2; omega⟩
    · intro e z
      rw [hw] at e
      subst e
      obtain ⟨f1, f2⟩ := e5 rfl (b1.mp z)
      rw [bl, List.length_cons]
      exact ⟨by show m + 2 + 1 = _; simp only at f1; omega, by show m + 2 < _; simp only at f2; omega⟩
    · intro e z
      rw [hw] at e
      subst e
      obtain ⟨f1, f2⟩ := e6 rfl (fun q => z (b1.mpr q))
      rw [bl, List.length_cons]
      exact ⟨by show m + 2 = _; simp only at f1; omega, by show m + 2 < _; simp only at f2; omega⟩
    · rw [hw]; exact hlen
end OgM

namespace OgM
/-! ### runs, from a rising list -/
def runStep (g : List Seg) (p : Int) : List Seg :=
  match g.getLast? with
  | none => [(p, 0)]
  | some (s, n) => if s + n = p - 1 then g.dropLast ++ [(s, n + 1)] else g ++ [(p, 0)]
theorem add_last : ∀ {g : List Seg} {lo p : Int}, Ok lo g → (∀ q, Mem q g → q < p) → add p g = runStep g p
  | [], _, _, _, _ => rfl
  | [(s, n)], lo, p, k, h => by
    have e : s + n < p := h _ (mem_cons.mpr (.inl ⟨by show s ≤ s + (n : Int); omega, Int.le_refl _⟩))
    show add p [(s, n)] = if s + n = p - 1 then [] ++ [(s, n + 1)] else [(s, n)] ++ [(p, 0)]
    by_cases e2 : s + n = p - 1
    · rw [if_pos e2, (pick_30 (by omega)).2]
      rfl
    · rw [if_neg e2, (pick_4 (by omega)).2]
      rfl
  | (s, n) :: y :: r, lo, p, k, h => by
    have k2 : Ok (s + n + 1) (y :: r) := k.2
    have e : y.1 + y.2 < p := h _ (mem_cons.mpr (.inr (mem_cons.mpr (.inl ⟨by show y.1 ≤ y.1 + (y.2 : Int); omega, Int.le_refl _⟩))))
    have k3 : s + n + 1 < y.1 := k2.1
    rw [(pick_4 (by omega)).2, add_last k2 fun q m => h q (mem_cons.mpr (.inr m))]
    unfold runStep
    rw [List.getLast?_cons_cons]
    have ed : ((s, n) :: y :: r).dropLast = (s, n) :: (y :: r).dropLast := rfl
    rw [ed]
    split
    · rename_i e0
      exact absurd (List.getLast?_eq_none_iff.mp e0) (by simp)
    · split <;> rfl
theorem segs_rise {l : List Int} {p : Int} (h : l.Pairwise (· < ·)) (hp : ∀ q ∈ l, q < p) : segs (l ++ [p]) = runStep (segs l) p := by
  have nd : l.Nodup := h.imp fun {a b} (x : a < b) => Int.ne_of_lt x
  obtain ⟨lo, hl⟩ := lower l
  obtain ⟨a, b⟩ := segs_ok nd hl
  rw [segs_snoc]
  exact add_last a fun q m => hp q ((b q).mp m)
/-! ### the plots of a segment -/
def sgi (x : Seg) : List Int := (List.range (x.2 + 1)).map fun (i : Nat) => x.1 + (i : Int)
theorem sgi_snoc (s : Int) (n : Nat) : sgi (s, n) ++ [s + n + 1] = sgi (s, n + 1) := by
  unfold sgi
  show _ = (List.range (n + 1 + 1)).map _
  rw [List.range_succ (n := n + 1), List.map_append]
  simp
  omega
theorem sgi_cons (s : Int) (n : Nat) : s :: sgi (s + 1, n) = sgi (s, n + 1) := by
  unfold sgi
  show _ = (List.range (n + 1 + 1)).map _
  rw [List.range_succ_eq_map (n := n + 1), List.map_cons, List.map_map]
  congr 1
  · simp
  · refine List.map_congr_left fun a _ => ?_
    show s + 1 + (a : Int) = s + ((a + 1 : Nat) : Int)
    omega
theorem sgi_join (s : Int) (n n' : Nat) : sgi (s, n) ++ [s + n + 1] ++ sgi (s + n + 2, n') = sgi (s, n + n' + 2) := by
  induction n' with
  | zero =>
    rw [sgi_snoc]
    have : sgi (s + n + 2, 0) = [s + ((n + 1 : Nat) : Int) + 1] := by
      unfold sgi
      simp
      omega
    rw [this, sgi_snoc]
  | succ k ih =>
    rw [← sgi_snoc, ← List.append_assoc, ih]
    have : s + n + 2 + k + 1 = s + ((n + k + 2 : Nat) : Int) + 1 := by omega
    rw [this, sgi_snoc]
    rfl
theorem sgi_len (x : Seg) : (sgi x).length = x.2 + 1 := by simp [sgi]
theorem sgi_last (x : Seg) : (sgi x).getLast? = some (x.1 + x.2) := by
  unfold sgi
  rw [List.range_succ, List.map_append]
  simp
theorem sgi_head (x : Seg) : (sgi x).head? = some x.1 := by
  unfold sgi
  rw [List.range_succ_eq_map, List.map_cons]
  simp
theorem sgi_get {x : Seg} {i : Nat} (h : i ≤ x.2) : (sgi x)[i]? = some (x.1 + i) := by
  unfold sgi
  rw [List.getElem?_map, List.getElem?_range (by omega)]
  rfl
/-! ### the houses' times in their groups -/
def applyC (t : Nat) (c : Ch) (st : List (List Nat)) : List (List Nat) :=
  match c.1 with
  | .new => st.take c.2 ++ [[t]] ++ st.drop c.2
  | .between => st.take c.2 ++ [(st.getD c.2 []) ++ [t] ++ (st.getD (c.2 + 1) [])] ++ st.drop (c.2 + 2)
  | .beside => if c.2 % 2 = 0 then st.set (c.2 / 2) (t :: st.getD (c.2 / 2) []) else st.set (c.2 / 2) (st.getD (c.2 / 2) [] ++ [t])
theorem applyC_shift (t : Nat) (c : Ch) (a : List Nat) (st : List (List Nat)) : applyC t (shift c) (a :: st) = a :: applyC t c st := by
  obtain ⟨w, k⟩ := c
  cases w with
  | new => simp [applyC, shift]
  | between =>
    show (a :: st).take (k + 1) ++ [((a :: st).getD (k + 1) []) ++ [t] ++ ((a :: st).getD (k + 1 + 1) [])] ++ (a :: st).drop (k + 1 + 2) = _
    simp [applyC]
  | beside =>
    show (if (k + 2) % 2 = 0 then (a :: st).set ((k + 2) / 2) (t :: (a :: st).getD ((k + 2) / 2) []) else (a :: st).set ((k + 2) / 2) ((a :: st).getD ((k + 2) / 2) [] ++ [t])) = a :: (if k % 2 = 0 then st.set (k / 2) (t :: st.getD (k / 2) []) else st.set (k / 2) (st.getD (k / 2) [] ++ [t]))
    have e1 : (k + 2) / 2 = k / 2 + 1 := by omega
    have e2 : (k + 2) % 2 = k % 2 := by omega
    rw [e1, e2]
    split <;> simp
/-- st are the times of the segments g, told by f -/
def Told (f : Nat → Int) (st : List (List Nat)) (g : List Seg) : Prop := st.map (·.map f) = g.map sgi
theorem told_cons {f : Nat → Int} {st : List (List Nat)} {x : Seg} {g : List Seg} (h : Told f st (x :: g)) : ∃ a st', st = a :: st' ∧ a.map f = sgi x ∧ Told f st' g := by
  cases st with
  | nil => exact absurd h (by simp [Told])
  | cons a st' =>
    have q : a.map f :: st'.map (·.map f) = sgi x :: g.map sgi := h
    injection q with q1 q2
    exact ⟨a, st', rfl, q1, q2⟩
theorem told_add {f : Nat → Int} {t : Nat} {p : Int} (ft : f t = p) {g : List Seg} {lo : Int} (k : Ok lo g) (nm : ¬ Mem p g) :
    ∀ st, Told f st g → Told f (applyC t (pick p g) st) (add p g) ∧ ∀ x, x ∈ (applyC t (pick p g) st).flatten ↔ x = t ∨ x ∈ st.flatten := by
  refine way (C := fun g => ∀ st, Told f st g → Told f (applyC t (pick p g) st) (add p g) ∧ ∀ x, x ∈ (applyC t (pick p g) st).flatten ↔ x = t ∨ x ∈ st.flatten) ?_ ?_ ?_ ?_ ?_ ?_ ?_ k nm
  · intro st h
    have e : st = [] := by simpa [Told] using h
    subst e
    refine ⟨?_, fun x => by simp [applyC, pick]⟩
    simp [Told, applyC, pick, add, sgi, ft]
  · intro s n r h kr st ht
    rw [(pick_1 h).1, (pick_1 h).2]
    refine ⟨?_, fun x => by simp [applyC]⟩
    show ([[t]] ++ st).map (·.map f) = _
    rw [List.map_append, ht]
    simp [sgi, ft]
  · intro s n r h kr st ht
    rw [(pick_2 h).1, (pick_2 h).2]
    obtain ⟨a, st', rfl, ha, ht'⟩ := told_cons ht
    refine ⟨?_, fun x => by simp [applyC, or_assoc]⟩
    show (t :: a).map f :: st'.map (·.map f) = sgi (p, n + 1) :: r.map sgi
    rw [ht', List.map_cons, ha, ft, ← sgi_cons]
    have : p + 1 = s := by omega
    rw [this]
  · intro s n h st ht
    rw [(pick_30 h).1, (pick_30 h).2]
    obtain ⟨a, st', rfl, ha, ht'⟩ := told_cons ht
    refine ⟨?_, fun x => by simp [applyC, or_assoc, or_left_comm]⟩
    show (a ++ [t]).map f :: st'.map (·.map f) = sgi (s, n + 1) :: [].map sgi
    rw [ht', List.map_append, ha, ← sgi_snoc]
    simp [ft, h]
  · intro s n s' n' r h h' kr st ht
    rw [(pick_31 h h').1, (pick_31 h h').2]
    obtain ⟨a, st', rfl, ha, ht'⟩ := told_cons ht
    obtain ⟨b, st'', rfl, hb, ht''⟩ := told_cons ht'
    refine ⟨?_, fun x => by simp [applyC, or_assoc, or_left_comm]⟩
    show (a ++ [t] ++ b).map f :: st''.map (·.map f) = sgi (s, n + n' + 2) :: r.map sgi
    rw [ht'', List.map_append, List.map_append, ha, hb, ← sgi_join]
    have : s' = s + n + 2 := by omega
    simp [ft, h, this]
  · intro s n s' n' r h h' kr st ht
    rw [(pick_32 h (by omega)).1, (pick_32 h (by omega)).2]
    obtain ⟨a, st', rfl, ha, ht'⟩ := told_cons ht
    refine ⟨?_, fun x => by simp [applyC, or_assoc, or_left_comm]⟩
    show (a ++ [t]).map f :: st'.map (·.map f) = sgi (s, n + 1) :: ((s', n') :: r).map sgi
    rw [ht', List.map_append, ha, ← sgi_snoc]
    simp [ft, h]
  · intro s n r h kr nmr ih st ht
    rw [(pick_4 h).1, (pick_4 h).2]
    obtain ⟨a, st', rfl, ha, ht'⟩ := told_cons ht
    obtain ⟨i1, i2⟩ := ih st' ht'
    rw [applyC_shift]
    refine ⟨?_, fun x => ?_⟩
    · show a.map f :: (applyC t (pick p r) st').map (·.map f) = sgi (s, n) :: (add p r).map sgi
      rw [ha, i1]
    · rw [List.flatten_cons, List.flatten_cons, List.mem_append, List.mem_append, i2 x, or_left_comm]
end OgM

namespace OgM
/-! ### the empty plots between the segments -/
def holesI : Int → List Seg → List Int
  | _, [] => []
  | b, x :: r => (x.1 - b) :: holesI (x.1 + x.2 + 1) r
def endB : Int → List Seg → Int
  | b, [] => b
  | _, x :: r => endB (x.1 + x.2 + 1) r
def holes (count : Int) (g : List Seg) : List Int := holesI 0 g ++ [count - endB 0 g]
theorem holesI_snoc : ∀ (b : Int) (g : List Seg) (x : Seg), holesI b (g ++ [x]) = holesI b g ++ [x.1 - endB b g]
  | b, [], x => rfl
  | b, y :: r, x => by
    show (y.1 - b) :: holesI _ (r ++ [x]) = (y.1 - b) :: (holesI _ r ++ [x.1 - endB _ r])
    rw [holesI_snoc]
theorem endB_snoc : ∀ (b : Int) (g : List Seg) (x : Seg), endB b (g ++ [x]) = x.1 + x.2 + 1
  | b, [], x => rfl
  | b, y :: r, x => by
    show endB _ (r ++ [x]) = _
    rw [endB_snoc]
theorem holesI_len : ∀ (b : Int) (g : List Seg), (holesI b g).length = g.length
  | _, [] => rfl
  | _, x :: r => by
    show (holesI _ r).length + 1 = r.length + 1
    rw [holesI_len]
theorem holesI_pos : ∀ {g : List Seg} {b : Int}, Ok b g → ∀ x ∈ holesI b g, 1 ≤ x
  | [], _, _, x, h => absurd h (by simp [holesI])
  | y :: r, b, k, x, h => by
    have k1 := k.1
    rcases List.mem_cons.mp h with e | h
    · omega
    · exact holesI_pos k.2 x h
theorem holesI_top {g : List Seg} (k : Ok (-1) g) : ∀ (i : Nat) x, (holesI 0 g)[i]? = some x → 0 ≤ x ∧ (1 ≤ i → 1 ≤ x) := by
  intro i x h
  cases g with
  | nil => simp [holesI] at h
  | cons y r =>
    have k1 := k.1
    cases i with
    | zero =>
      have e : y.1 - 0 = x := Option.some.inj h
      exact ⟨by omega, fun q => absurd q (by omega)⟩
    | succ j =>
      have h' : (holesI (y.1 + y.2 + 1) r)[j]? = some x := h
      have q := holesI_pos k.2 x (List.mem_of_getElem? h')
      exact ⟨by omega, fun _ => q⟩
theorem endB_le : ∀ {g : List Seg} {b c : Int}, b ≤ c → (∀ q, Mem q g → q < c) → endB b g ≤ c
  | [], b, c, h, _ => h
  | x :: r, b, c, h, k => by
    have q : x.1 + x.2 < c := k _ (mem_cons.mpr (.inl ⟨by omega, Int.le_refl _⟩))
    exact endB_le (b := x.1 + x.2 + 1) (by omega) fun q m => k q (mem_cons.mpr (.inr m))
/-! ### the same, off a rising list -/
def diffs : List Int → List Int
  | x :: y :: r => (y - x) :: diffs (y :: r)
  | _ => []
theorem diffs_len : ∀ l : List Int, (diffs l).length = l.length - 1
  | [] => rfl
  | [_] => rfl
  | x :: y :: r => by
    show (diffs (y :: r)).length + 1 = _
    rw [diffs_len (y :: r)]
    simp
theorem diffs_get : ∀ (l : List Int) (i : Nat) (x y : Int), l[i]? = some x → l[i + 1]? = some y → (diffs l)[i]? = some (y - x)
  | [], i, x, y, h, _ => by simp at h
  | [a], i, x, y, h, h2 => by simp at h2
  | a :: b :: r, 0, x, y, h, h2 => by
    have e1 : a = x := Option.some.inj h
    have e2 : b = y := Option.some.inj h2
    subst e1 e2
    rfl
  | a :: b :: r, i + 1, x, y, h, h2 => diffs_get (b :: r) i x y h h2
theorem diffs_snoc : ∀ (l : List Int) (z p : Int), l.getLast? = some z → diffs (l ++ [p]) = diffs l ++ [p - z]
  | [], z, p, h => by simp at h
  | [a], z, p, h => by
    have e : a = z := Option.some.inj h
    subst e
    rfl
  | a :: b :: r, z, p, h => by
    rw [List.getLast?_cons_cons] at h
    show (b - a) :: diffs (b :: r ++ [p]) = _
    rw [diffs_snoc (b :: r) z p h]
    rfl
def inner (l : List Int) : List Int := ((diffs l).filter fun d => decide (1 < d)).map fun d => d - 1
theorem getLast_snoc {α : Type} (l : List α) (x : α) : (l ++ [x]).getLast? = some x := by simp
theorem rise_holes : ∀ {l : List Int}, l.Pairwise (· < ·) → ∀ a z, l.head? = some a → l.getLast? = some z →
    holesI 0 (segs l) = a :: inner l ∧ endB 0 (segs l) = z + 1 ∧ ∃ (g : List Seg) (s : Int) (n : Nat), segs l = g ++ [(s, n)] ∧ s + (n : Int) = z := by
  intro l
  induction l using snoc_ind with
  | h0 => exact fun _ a z h => absurd h (by simp)
  | h1 l p ih =>
    intro hp a z ha hz
    rw [getLast_snoc] at hz
    have ez : p = z := Option.some.inj hz
    subst ez
    rw [List.pairwise_append] at hp
    obtain ⟨h1, _, h3⟩ := hp
    have h3' : ∀ q ∈ l, q < p := fun q hq => h3 q hq p (by simp)
    rw [segs_rise h1 h3']
    cases l with
    | nil =>
      have e : p = a := Option.some.inj ha
      subst e
      exact ⟨by simp [segs, runStep, holesI, inner, diffs], by simp [segs, runStep, endB], [], p, 0, by simp [segs, runStep], by simp⟩
    | cons y r =>
      have ea : y = a := Option.some.inj ha
      subst ea
      obtain ⟨z0, hz0⟩ : ∃ z0, (y :: r).getLast? = some z0 := ⟨_, List.getLast?_eq_getLast (List.cons_ne_nil y r)⟩
      obtain ⟨i1, i2, g, s, n, i3, i4⟩ := ih h1 y z0 rfl hz0
      have lt : z0 < p := h3' z0 (List.mem_of_getLast? hz0)
      have ed : diffs (y :: r ++ [p]) = diffs (y :: r) ++ [p - z0] := diffs_snoc _ _ _ hz0
      have hin : ∀ t, t = p - z0 → inner (y :: r ++ [p]) = inner (y :: r) ++ (if 1 < t then [t - 1] else []) := fun t et => by
        unfold inner
        rw [ed, List.filter_append, List.map_append, ← et]
        split <;> simp_all
      unfold runStep
      rw [i3, getLast_snoc]
      show holesI 0 (if s + n = p - 1 then (g ++ [(s, n)]).dropLast ++ [(s, n + 1)] else g ++ [(s, n)] ++ [(p, 0)]) = _ ∧ endB 0 (if s + n = p - 1 then (g ++ [(s, n)]).dropLast ++ [(s, n + 1)] else g ++ [(s, n)] ++ [(p, 0)]) = _ ∧
        ∃ (g' : List Seg) (s' : Int) (n' : Nat), (if s + n = p - 1 then (g ++ [(s, n)]).dropLast ++ [(s, n + 1)] else g ++ [(s, n)] ++ [(p, 0)]) = g' ++ [(s', n')] ∧ s' + (n' : Int) = p
      rw [List.dropLast_concat]
      rw [i3] at i1 i2
      by_cases e : s + n = p - 1
      · rw [if_pos e, hin 1 (by omega), holesI_snoc, endB_snoc]
        rw [holesI_snoc] at i1
        refine ⟨?_, by show s + ((n + 1 : Nat) : Int) + 1 = _; omega, g, s, n + 1, rfl, by omega⟩
        rw [if_neg (by omega), List.append_nil]
        exact i1
      · rw [if_neg e, hin (p - z0) rfl, holesI_snoc, i1, i2, endB_snoc]
        refine ⟨?_, by show p + ((0 : Nat) : Int) + 1 = _; omega, _, p, 0, rfl, by simp⟩
        rw [if_pos (by omega)]
        show y :: inner (y :: r) ++ [p - (z0 + 1)] = y :: (inner (y :: r) ++ [p - z0 - 1])
        rw [show p - (z0 + 1) = p - z0 - 1 by omega]
        rfl
theorem rise_of {l k : List Int} (hn : l.Nodup) (hp : k.Perm l) (hs : k.Pairwise (· ≤ ·)) : k.Pairwise (· < ·) := by
  have nk : k.Nodup := hp.nodup_iff.mpr hn
  exact (hs.and nk).imp fun {a b} h => by have := h.1; have := h.2; omega
theorem add_len : ∀ (p : Int) (g : List Seg), (add p g).length ≤ g.length + 1
  | p, [] => by simp [add]
  | p, (s, n) :: r => by
    unfold add
    split
    · simp
    · split
      · simp
      · split
        · cases r with
          | nil => simp
          | cons y r' =>
            obtain ⟨s', n'⟩ := y
            show (if s' = p + 1 then (s, n + n' + 2) :: r' else (s, n + 1) :: (s', n') :: r').length ≤ _
            split <;> simp <;> omega
        · have := add_len p r
          simp
          omega
theorem segs_len (l : List Int) : (segs l).length ≤ l.length := by
  induction l using snoc_ind with
  | h0 => simp [segs]
  | h1 l p ih =>
    rw [segs_snoc, List.length_append]
    have := add_len p (segs l)
    simp
    omega
def size : List Seg → Nat
  | [] => 0
  | x :: r => x.2 + 1 + size r
theorem size_add : ∀ (p : Int) (g : List Seg), size (add p g) = size g + 1
  | p, [] => rfl
  | p, (s, n) :: r => by
    unfold add
    split
    · show 0 + 1 + (n + 1 + size r) = n + 1 + size r + 1
      omega
    · split
      · show n + 1 + 1 + size r = n + 1 + size r + 1
        omega
      · split
        · cases r with
          | nil => rfl
          | cons y r' =>
            obtain ⟨s', n'⟩ := y
            show size (if s' = p + 1 then (s, n + n' + 2) :: r' else (s, n + 1) :: (s', n') :: r') = n + 1 + (n' + 1 + size r') + 1
            split
            · show n + n' + 2 + 1 + size r' = _
              omega
            · show n + 1 + 1 + (n' + 1 + size r') = _
              omega
        · show n + 1 + size (add p r) = n + 1 + size r + 1
          rw [size_add p r]
          omega
theorem segs_size (l : List Int) : size (segs l) = l.length := by
  induction l using snoc_ind with
  | h0 => rfl
  | h1 l p ih =>
    rw [segs_snoc, size_add, ih]
    simp
theorem size_mem : ∀ {g : List Seg} {x : Seg}, x ∈ g → x.2 + 1 ≤ size g
  | y :: r, x, h => by
    rcases List.mem_cons.mp h with e | h
    · subst e
      show x.2 + 1 ≤ x.2 + 1 + size r
      omega
    · have := size_mem h
      show x.2 + 1 ≤ y.2 + 1 + size r
      omega
/-! ### a row's choices -/
def picks (row : List Int) : List Ch := (List.range row.length).map fun i => pick (row.getD i 0) (segs (row.take i))
theorem picks_len (row : List Int) : (picks row).length = row.length := by simp [picks]
structure Row (n : Int) (row : List Int) : Prop where
  nd : row.Nodup
  lo : ∀ p ∈ row, 0 ≤ p
  hi : ∀ p ∈ row, p < n
theorem Row.take {n : Int} {row : List Int} (h : Row n row) (i : Nat) : Row n (row.take i) :=
  ⟨h.nd.sublist (List.take_sublist _ _), fun p q => h.lo p (List.mem_of_mem_take q), fun p q => h.hi p (List.mem_of_mem_take q)⟩
theorem Row.ok {n : Int} {row : List Int} (h : Row n row) : Ok (-1) (segs row) ∧ ∀ q, Mem q (segs row) ↔ q ∈ row :=
  segs_ok h.nd fun p hp => by have := h.lo p hp; omega
theorem Row.fresh {n : Int} {row : List Int} (h : Row n row) {i : Nat} {p : Int} (e : row[i]? = some p) : p ∉ row.take i := by
  intro m
  obtain ⟨j, hj⟩ := List.getElem?_of_mem m
  rw [List.getElem?_take] at hj
  split at hj
  · rename_i lt
    obtain ⟨a, ea⟩ := List.getElem?_eq_some_iff.mp e
    obtain ⟨b, eb⟩ := List.getElem?_eq_some_iff.mp hj
    have := (List.getElem_inj h.nd).mp (eb.trans ea.symm)
    omega
  · cases hj
theorem take_snoc {row : List Int} {i : Nat} {p : Int} (e : row[i]? = some p) : row.take (i + 1) = row.take i ++ [p] := by
  rw [List.take_add_one, e]
  rfl
theorem Row.says {n : Int} {row : List Int} (h : Row n row) {i : Nat} {p : Int} (e : row[i]? = some p) : Says p (segs (row.take i)) (pick p (segs (row.take i))) :=
  OgM.says (h.take i).ok.1 fun m => h.fresh e (((h.take i).ok.2 p).mp m)
theorem Row.segs {n : Int} {row : List Int} (h : Row n row) {i : Nat} {p : Int} (e : row[i]? = some p) : segs (row.take (i + 1)) = add p (segs (row.take i)) := by
  rw [take_snoc e, segs_snoc]
theorem picks_get {row : List Int} {i : Nat} {p : Int} (e : row[i]? = some p) : (picks row)[i]? = some (pick p (segs (row.take i))) := by
  have hi := (List.getElem?_eq_some_iff.mp e).1
  unfold picks
  rw [List.getElem?_map, List.getElem?_range hi]
  show some (pick (row.getD i 0) _) = some _
  rw [List.getD_eq_getElem?_getD, e]
  rfl
/-- the ends of the segments, counted on the list -/
theorem ends_up : ∀ {g : List Seg} {lo : Int}, Ok lo g → (g.map fun x => x.1 + (x.2 : Int)).Nodup ∧ (∀ q, q ∈ (g.map fun x => x.1 + (x.2 : Int)) ↔ Mem q g ∧ ¬ Mem (q + 1) g) ∧ ∀ q ∈ (g.map fun x => x.1 + (x.2 : Int)), lo < q
  | [], _, _ => ⟨List.nodup_nil, fun q => by simp [mem_nil], by simp⟩
  | (s, n) :: r, lo, k => by
    have k1 : lo < s := k.1
    have k2 : Ok (s + n + 1) r := k.2
    obtain ⟨i1, i2, i3⟩ := ends_up k2
    refine ⟨?_, fun q => ?_, fun q hq => ?_⟩
    · rw [List.map_cons, List.nodup_cons]
      refine ⟨fun m => ?_, i1⟩
      have := i3 _ m
      simp only at this
      omega
    · rw [List.map_cons, List.mem_cons, i2 q, mem_cons, mem_cons]
      simp only
      constructor
      · rintro (e | ⟨e1, e2⟩)
        · refine ⟨.inl (by omega), ?_⟩
          rintro (f | f)
          · omega
          · have := ok_lt k2 f
            omega
        · refine ⟨.inr e1, ?_⟩
          rintro (f | f)
          · have := ok_lt k2 e1
            omega
          · exact e2 f
      · rintro ⟨e1 | e1, e2⟩
        · refine .inl ?_
          by_cases z : q = s + n
          · exact z
          · exact absurd (.inl (by omega)) e2
        · exact .inr ⟨e1, fun f => e2 (.inr f)⟩
    · rw [List.map_cons, List.mem_cons] at hq
      rcases hq with e | hq
      · simp only at e; omega
      · have := i3 q hq; omega
theorem left_count {l : List Int} (hn : l.Nodup) (p : Int) : (l.filter fun q => decide (q < p) && !decide (q + 1 ∈ l)).length = left p (segs l) := by
  obtain ⟨lo, hl⟩ := lower l
  obtain ⟨k, km⟩ := segs_ok hn hl
  obtain ⟨i1, i2, _⟩ := ends_up k
  have e1 : left p (segs l) = (((segs l).map fun x => x.1 + (x.2 : Int)).filter fun q => decide (q < p)).length := by
    unfold left
    rw [List.filter_map, List.length_map]
    rfl
  rw [e1]
  refine ((List.perm_ext_iff_of_nodup (hn.filter _) (i1.filter _)).mpr fun q => ?_).length_eq
  rw [List.mem_filter, List.mem_filter, i2 q, km q, km (q + 1)]
  simp
  exact ⟨fun ⟨a, b, c⟩ => ⟨⟨a, c⟩, b⟩, fun ⟨⟨a, c⟩, b⟩ => ⟨a, b, c⟩⟩
end OgM

namespace OgM
def nearB (p : Int) (x : Seg) : Bool := decide (p - 1 = x.1 + x.2) || decide (p + 1 = x.1)
def near (p : Int) (g : List Seg) : List Nat := (List.range g.length).filter fun i => nearB p (g.getD i (0, 0))
theorem near_cons (p : Int) (x : Seg) (g : List Seg) : near p (x :: g) = (if nearB p x then [0] else []) ++ (near p g).map (· + 1) := by
  unfold near
  rw [List.length_cons, List.range_succ_eq_map, List.filter_cons]
  have e : (List.map Nat.succ (List.range g.length)).filter (fun i => nearB p ((x :: g).getD i (0, 0))) = ((List.range g.length).filter fun i => nearB p (g.getD i (0, 0))).map (· + 1) := by
    rw [List.filter_map]
    rfl
  rw [e]
  show (if nearB p x = true then _ else _) = _
  split <;> simp_all
theorem near_nil : ∀ {g : List Seg} {lo p : Int}, Ok lo g → p + 1 ≤ lo → near p g = []
  | [], _, _, _, _ => rfl
  | (s, n) :: r, lo, p, k, h => by
    have k1 : lo < s := k.1
    have k2 : Ok (s + n + 1) r := k.2
    rw [near_cons, near_nil k2 (by omega)]
    have : nearB p (s, n) = false := by
      simp only [nearB, Bool.or_eq_false_iff, decide_eq_false_iff_not]
      omega
    rw [this]
    rfl
/-- near the new plot -/
structure Near (p : Int) (g : List Seg) (c : Ch) : Prop where
  n1 : c.1 = .new → near p g = [] 
  n2 : c.1 = .between → near p g = [c.2, c.2 + 1]
  n3 : c.1 = .beside → ∃ x : Seg, near p g = [c.2 / 2] ∧ g[c.2 / 2]? = some x ∧ c.2 = 2 * (c.2 / 2) + (if x.1 + x.2 < p then 1 else 0)
theorem nears {g : List Seg} {lo p : Int} (k : Ok lo g) (nm : ¬ Mem p g) : Near p g (pick p g) := by
  refine way (C := fun g => Near p g (pick p g)) ?_ ?_ ?_ ?_ ?_ ?_ ?_ k nm
  · exact ⟨fun _ => rfl, fun h => by simp [pick] at h, fun h => by simp [pick] at h⟩
  · intro s n r h kr
    rw [(pick_1 h).1]
    refine ⟨fun _ => ?_, fun h => by simp at h, fun h => by simp at h⟩
    rw [near_cons, near_nil kr (by omega)]
    have : nearB p (s, n) = false := by
      simp only [nearB, Bool.or_eq_false_iff, decide_eq_false_iff_not]
      omega
    rw [this]
    rfl
  · intro s n r h kr
    rw [(pick_2 h).1]
    refine ⟨fun h => by simp at h, fun h => by simp at h, fun _ => ⟨(s, n), ?_, rfl, ?_⟩⟩
    · rw [near_cons, near_nil kr (by omega)]
      have : nearB p (s, n) = true := by
        simp only [nearB, Bool.or_eq_true, decide_eq_true_eq]
        omega
      rw [this]
      rfl
    · show 0 = 2 * (0 / 2) + if s + (n : Int) < p then 1 else 0
      rw [if_neg (by omega)]
  · intro s n h
    rw [(pick_30 h).1]
    refine ⟨fun h => by simp at h, fun h => by simp at h, fun _ => ⟨(s, n), ?_, rfl, ?_⟩⟩
    · rw [near_cons]
      have : nearB p (s, n) = true := by
        simp only [nearB, Bool.or_eq_true, decide_eq_true_eq]
        omega
      rw [this]
      rfl
    · show 1 = 2 * (1 / 2) + if s + (n : Int) < p then 1 else 0
      rw [if_pos (by omega)]
  · intro s n s' n' r h h' kr
    rw [(pick_31 h h').1]
    refine ⟨fun h => by simp at h, fun _ => ?_, fun h => by simp at h⟩
    rw [near_cons, near_cons, near_nil kr (by omega)]
    have t1 : nearB p (s, n) = true := by
      simp only [nearB, Bool.or_eq_true, decide_eq_true_eq]
      omega
    have t2 : nearB p (s', n') = true := by
      simp only [nearB, Bool.or_eq_true, decide_eq_true_eq]
      omega
    rw [t1, t2]
    rfl
  · intro s n s' n' r h h' kr
    rw [(pick_32 h (by omega)).1]
    refine ⟨fun h => by simp at h, fun h => by simp at h, fun _ => ⟨(s, n), ?_, rfl, ?_⟩⟩
    · rw [near_cons, near_cons, near_nil kr (by omega)]
      have t1 : nearB p (s, n) = true := by
        simp only [nearB, Bool.or_eq_true, decide_eq_true_eq]
        omega
      have t2 : nearB p (s', n') = false := by
        simp only [nearB, Bool.or_eq_false_iff, decide_eq_false_iff_not]
        omega
      rw [t1, t2]
      rfl
    · show 1 = 2 * (1 / 2) + if s + (n : Int) < p then 1 else 0
      rw [if_pos (by omega)]
  · intro s n r h kr nmr ih
    rw [(pick_4 h).1]
    have t1 : nearB p (s, n) = false := by
      simp only [nearB, Bool.or_eq_false_iff, decide_eq_false_iff_not]
      omega
    have nc : near p ((s, n) :: r) = (near p r).map (· + 1) := by
      rw [near_cons, t1]
      rfl
    generalize pick p r = c at ih
    obtain ⟨w, m⟩ := c
    cases w with
    | new =>
      refine ⟨fun _ => ?_, fun h => by simp [shift] at h, fun h => by simp [shift] at h⟩
      rw [nc, ih.n1 rfl]
      rfl
    | between =>
      refine ⟨fun h => by simp [shift] at h, fun _ => ?_, fun h => by simp [shift] at h⟩
      rw [nc, ih.n2 rfl]
      rfl
    | beside =>
      refine ⟨fun h => by simp [shift] at h, fun h => by simp [shift] at h, fun _ => ?_⟩
      obtain ⟨x, e1, e2, e3⟩ := ih.n3 rfl
      simp only at e1 e2 e3
      have e4 : (m + 2) / 2 = m / 2 + 1 := by omega
      refine ⟨x, ?_, ?_, ?_⟩
      · rw [nc, e1]
        show [m / 2 + 1] = [(m + 2) / 2]
        rw [e4]
      · show ((s, n) :: r)[(m + 2) / 2]? = some x
        rw [e4]
        exact e2
      · show m + 2 = 2 * ((m + 2) / 2) + _
        rw [e4]
        omega
theorem range_filter_len {α : Type} (P : α → Bool) (d : α) : ∀ g : List α, ((List.range g.length).filter fun i => P (g.getD i d)).length = (g.filter P).length
  | [] => rfl
  | x :: r => by
    rw [List.length_cons, List.range_succ_eq_map, List.filter_cons, List.filter_cons, List.filter_map]
    have ih := range_filter_len P d r
    have e : ((List.range r.length).filter ((fun i => P ((x :: r).getD i d)) ∘ Nat.succ)).length = (r.filter P).length := ih
    show (if P x = true then _ else _ : List Nat).length = (if P x = true then _ else _ : List α).length
    split
    · rw [List.length_cons, List.length_cons, List.length_map, e]
    · rw [List.length_map, e]
theorem range_filter_map {α : Type} (P : α → Bool) (d : α) : ∀ g : List α, ((List.range g.length).filter fun i => P (g.getD i d)).map (fun i => g.getD i d) = g.filter P
  | [] => rfl
  | x :: r => by
    rw [List.length_cons, List.range_succ_eq_map, List.filter_cons, List.filter_cons, List.filter_map]
    have ih := range_filter_map P d r
    have e : (((List.range r.length).filter ((fun i => P ((x :: r).getD i d)) ∘ Nat.succ)).map Nat.succ).map (fun i => (x :: r).getD i d) = r.filter P := by
      rw [List.map_map]
      exact ih
    show (if P x = true then _ else _ : List Nat).map _ = (if P x = true then _ else _ : List α)
    split
    · rw [List.map_cons, e]
      rfl
    · exact e
theorem filter_ne_len {l : List Int} (h : l.Nodup) {z : Int} (m : z ∈ l) : (l.filter (· != z)).length + 1 = l.length := by
  rw [← h.erase_eq_filter, List.length_erase_of_mem m]
  have := List.length_pos_of_mem m
  omega
def Wd.ix : Wd → Nat
  | .new => 0
  | .beside => 1
  | .between => 2
def b1 (c : Bool) : Nat := if c then 1 else 0
theorem nb_pick {l : List Int} (hn : l.Nodup) {p : Int} (hp : p ∉ l) : b1 (decide (p - 1 ∈ l)) + b1 (decide (p + 1 ∈ l)) = (pick p (segs l)).1.ix := by
  obtain ⟨lo, hl⟩ := lower l
  obtain ⟨k, km⟩ := segs_ok hn hl
  have S := says k (p := p) fun m => hp ((km p).mp m)
  have e1 := S.new
  have e2 := S.btw
  rw [km, km] at e1 e2
  by_cases a : p - 1 ∈ l <;> by_cases b : p + 1 ∈ l
  · rw [e2.mpr ⟨a, b⟩, decide_eq_true a, decide_eq_true b]
    rfl
  · have : (pick p (segs l)).1 = .beside := by
      cases h : (pick p (segs l)).1 with
      | new => exact absurd a (e1.mp h).1
      | beside => rfl
      | between => exact absurd (e2.mp h).2 b
    rw [this, decide_eq_true a, decide_eq_false b]
    rfl
  · have : (pick p (segs l)).1 = .beside := by
      cases h : (pick p (segs l)).1 with
      | new => exact absurd b (e1.mp h).2
      | beside => rfl
      | between => exact absurd (e2.mp h).1 a
    rw [this, decide_eq_false a, decide_eq_true b]
    rfl
  · rw [e1.mpr ⟨a, b⟩, decide_eq_false a, decide_eq_false b]
    rfl
end OgM

namespace OgM
def Valid (c : Ch) (n : Nat) : Prop :=
  match c.1 with
  | .new => c.2 ≤ n
  | .beside => c.2 < 2 * n
  | .between => c.2 + 1 < n
def stAt (cs : List Ch) : Nat → List (List Nat)
  | 0 => []
  | i + 1 => applyC i (cs.getD i (.new, 0)) (stAt cs i)
def VCh (cs : List Ch) : Prop := ∀ i c, cs[i]? = some c → Valid c (stAt cs i).length
theorem flat_cut (st : List (List Nat)) (k : Nat) : (st.take k).flatten.length + (st.drop k).flatten.length = st.flatten.length := by
  rw [← List.length_append, ← List.flatten_append, List.take_append_drop]
theorem getD_at {α : Type} {l : List α} {j : Nat} {x d : α} (h : l[j]? = some x) : l.getD j d = x := by
  rw [List.getD_eq_getElem?_getD, h]
  rfl
theorem drop_at {α : Type} {l : List α} {j : Nat} {x : α} (h : l[j]? = some x) : l.drop j = x :: l.drop (j + 1) := by
  obtain ⟨a, e⟩ := List.getElem?_eq_some_iff.mp h
  rw [← e]
  exact List.drop_eq_getElem_cons a
theorem apply_size {c : Ch} {st : List (List Nat)} (t : Nat) (h : Valid c st.length) : (applyC t c st).flatten.length = st.flatten.length + 1 ∧ ((applyC t c st).length : Int) = st.length + c.1.step := by
  obtain ⟨w, k⟩ := c
  cases w with
  | new =>
    have h' : k ≤ st.length := h
    have e := flat_cut st k
    constructor
    · show (st.take k ++ [[t]] ++ st.drop k).flatten.length = _
      simp only [List.flatten_append, List.length_append, List.flatten_cons, List.flatten_nil, List.length_cons, List.length_nil]
      omega
    · show ((st.take k ++ [[t]] ++ st.drop k).length : Int) = st.length + 1
      simp only [List.length_append, List.length_take, List.length_drop, List.length_cons, List.length_nil]
      omega
  | between =>
    have h' : k + 1 < st.length := h
    have e := flat_cut st k
    have a1 : st[k]? = some (st[k]'(by omega)) := List.getElem?_eq_getElem _
    have a2 : st[k + 1]? = some (st[k + 1]'h') := List.getElem?_eq_getElem _
    rw [drop_at a1, drop_at a2, show k + 1 + 1 = k + 2 from rfl] at e
    simp only [List.flatten_cons, List.length_append] at e
    constructor
    · show (st.take k ++ [(st.getD k []) ++ [t] ++ (st.getD (k + 1) [])] ++ st.drop (k + 2)).flatten.length = _
      rw [getD_at a1, getD_at a2]
      simp only [List.flatten_append, List.length_append, List.flatten_cons, List.flatten_nil, List.length_cons, List.length_nil]
      omega
    · show ((st.take k ++ [(st.getD k []) ++ [t] ++ (st.getD (k + 1) [])] ++ st.drop (k + 2)).length : Int) = st.length + -1
      simp only [List.length_append, List.length_take, List.length_drop, List.length_cons, List.length_nil]
      omega
  | beside =>
    have h' : k < 2 * st.length := h
    have hj : k / 2 < st.length := by omega
    have e := flat_cut st (k / 2)
    have a1 : st[k / 2]? = some (st[k / 2]'hj) := List.getElem?_eq_getElem _
    rw [drop_at a1] at e
    simp only [List.flatten_cons, List.length_append] at e
    show (if k % 2 = 0 then st.set (k / 2) (t :: st.getD (k / 2) []) else st.set (k / 2) (st.getD (k / 2) [] ++ [t])).flatten.length = _ ∧ ((if k % 2 = 0 then st.set (k / 2) (t :: st.getD (k / 2) []) else st.set (k / 2) (st.getD (k / 2) [] ++ [t])).length : Int) = st.length + 0
    rw [getD_at a1]
    split
    · rw [List.length_set, List.set_eq_take_append_cons_drop, if_pos hj]
      simp only [List.flatten_append, List.length_append, List.flatten_cons, List.length_cons]
      omega
    · rw [List.length_set, List.set_eq_take_append_cons_drop, if_pos hj]
      simp only [List.flatten_append, List.length_append, List.flatten_cons, List.length_cons, List.length_nil]
      omega
theorem st_size {cs : List Ch} (v : VCh cs) : ∀ i, i ≤ cs.length → (stAt cs i).flatten.length = i ∧ (stAt cs i).length ≤ i
  | 0, _ => ⟨rfl, Nat.le_refl _⟩
  | i + 1, h => by
    obtain ⟨h1, h2⟩ := st_size v i (by omega)
    have e : cs[i]? = some (cs[i]'h) := List.getElem?_eq_getElem _
    have q := apply_size i (v i _ e)
    show (applyC i (cs.getD i (.new, 0)) (stAt cs i)).flatten.length = i + 1 ∧ (applyC i (cs.getD i (.new, 0)) (stAt cs i)).length ≤ i + 1
    rw [getD_at e]
    refine ⟨by omega, ?_⟩
    have : (cs[i]'h).1.step ≤ 1 := by cases (cs[i]'h).1 <;> decide
    omega
theorem inner_len {st : List (List Nat)} {j : Nat} {ts : List Nat} (h : st[j]? = some ts) : ts.length ≤ st.flatten.length := by
  have e := flat_cut st j
  rw [drop_at h] at e
  simp only [List.flatten_cons, List.length_append] at e
  omega
/-- a row's choices are valid, and their groups are its segments -/
theorem picks_told {n : Int} {row : List Int} (h : Row n row) : ∀ i, i ≤ row.length → Told (fun t => row.getD t 0) (stAt (picks row) i) (OgM.segs (row.take i)) ∧ ∀ x, x ∈ (stAt (picks row) i).flatten ↔ x < i
  | 0, _ => ⟨by simp [Told, stAt, OgM.segs], fun x => by simp [stAt]⟩
  | i + 1, hi => by
    obtain ⟨h1, h2⟩ := picks_told h i (by omega)
    have e : row[i]? = some (row[i]'hi) := List.getElem?_eq_getElem _
    have q := told_add (f := fun t => row.getD t 0) (t := i) (p := row[i]'hi) (getD_at e) (h.take i).ok.1 (fun m => h.fresh e (((h.take i).ok.2 _).mp m)) _ h1
    show Told _ (applyC i ((picks row).getD i (.new, 0)) (stAt (picks row) i)) _ ∧ ∀ x, x ∈ (applyC i ((picks row).getD i (.new, 0)) (stAt (picks row) i)).flatten ↔ x < i + 1
    rw [getD_at (picks_get e), h.segs e]
    refine ⟨q.1, fun x => ?_⟩
    rw [q.2 x, h2 x]
    omega
theorem picks_valid {n : Int} {row : List Int} (h : Row n row) : VCh (picks row) := by
  intro i c e
  have hi := (List.getElem?_eq_some_iff.mp e).1
  rw [picks_len] at hi
  have er : row[i]? = some (row[i]'hi) := List.getElem?_eq_getElem _
  rw [picks_get er] at e
  have ec := Option.some.inj e
  obtain ⟨h1, _⟩ := picks_told h i (by omega)
  have hl : (stAt (picks row) i).length = (OgM.segs (row.take i)).length := by
    have := congrArg List.length h1
    simpa using this
  rw [hl]
  have S := h.says er
  rw [ec] at S
  obtain ⟨w, k⟩ := c
  cases w with
  | new => exact (S.n1 rfl).2
  | between => exact (S.n2 rfl).2
  | beside =>
    by_cases m : Mem (row[i]'hi - 1) (OgM.segs (row.take i))
    · exact (S.n3 rfl m).2
    · exact (S.n4 rfl m).2
theorem apply_mem {c : Ch} {st : List (List Nat)} (t : Nat) (h : Valid c st.length) (x : Nat) : x ∈ (applyC t c st).flatten ↔ x = t ∨ x ∈ st.flatten := by
  have cut : ∀ k, x ∈ st.flatten ↔ x ∈ (st.take k).flatten ∨ x ∈ (st.drop k).flatten := fun k => by
    rw [← List.mem_append, ← List.flatten_append, List.take_append_drop]
  obtain ⟨w, k⟩ := c
  cases w with
  | new =>
    show x ∈ (st.take k ++ [[t]] ++ st.drop k).flatten ↔ _
    rw [cut k]
    simp only [List.flatten_append, List.mem_append, List.flatten_cons, List.flatten_nil, List.mem_singleton, List.append_nil]
    constructor
    · rintro ((a | a) | a)
      · exact .inr (.inl a)
      · exact .inl a
      · exact .inr (.inr a)
    · rintro (a | a | a)
      · exact .inl (.inr a)
      · exact .inl (.inl a)
      · exact .inr a
  | between =>
    have h' : k + 1 < st.length := h
    have a1 : st[k]? = some (st[k]'(by omega)) := List.getElem?_eq_getElem _
    have a2 : st[k + 1]? = some (st[k + 1]'h') := List.getElem?_eq_getElem _
    show x ∈ (st.take k ++ [(st.getD k []) ++ [t] ++ (st.getD (k + 1) [])] ++ st.drop (k + 2)).flatten ↔ _
    rw [cut k, drop_at a1, drop_at a2, show k + 1 + 1 = k + 2 from rfl, getD_at a1, getD_at a2]
    simp only [List.flatten_append, List.mem_append, List.flatten_cons, List.flatten_nil, List.mem_singleton, List.append_nil]
    constructor
    · rintro ((a | ((a | a) | a)) | a)
      · exact .inr (.inl a)
      · exact .inr (.inr (.inl a))
      · exact .inl a
      · exact .inr (.inr (.inr (.inl a)))
      · exact .inr (.inr (.inr (.inr a)))
    · rintro (a | a | a | a | a)
      · exact .inl (.inr (.inl (.inr a)))
      · exact .inl (.inl a)
      · exact .inl (.inr (.inl (.inl a)))
      · exact .inl (.inr (.inr a))
      · exact .inr a
  | beside =>
    have h' : k < 2 * st.length := h
    have hj : k / 2 < st.length := by omega
    have a1 : st[k / 2]? = some (st[k / 2]'hj) := List.getElem?_eq_getElem _
    show x ∈ (if k % 2 = 0 then st.set (k / 2) (t :: st.getD (k / 2) []) else st.set (k / 2) (st.getD (k / 2) [] ++ [t])).flatten ↔ _
    rw [cut (k / 2), drop_at a1, getD_at a1]
    split
    · rw [List.set_eq_take_append_cons_drop, if_pos hj]
      simp only [List.flatten_append, List.mem_append, List.flatten_cons, List.mem_cons]
      constructor
      · rintro (a | (a | a) | a)
        · exact .inr (.inl a)
        · exact .inl a
        · exact .inr (.inr (.inl a))
        · exact .inr (.inr (.inr a))
      · rintro (a | a | a | a)
        · exact .inr (.inl (.inl a))
        · exact .inl a
        · exact .inr (.inl (.inr a))
        · exact .inr (.inr a)
    · rw [List.set_eq_take_append_cons_drop, if_pos hj]
      simp only [List.flatten_append, List.mem_append, List.flatten_cons, List.mem_singleton]
      constructor
      · rintro (a | (a | a) | a)
        · exact .inr (.inl a)
        · exact .inr (.inr (.inl a))
        · exact .inl a
        · exact .inr (.inr (.inr a))
      · rintro (a | a | a | a)
        · exact .inr (.inl (.inr a))
        · exact .inl a
        · exact .inr (.inl (.inl a))
        · exact .inr (.inr a)
theorem st_mem {cs : List Ch} (v : VCh cs) : ∀ i, i ≤ cs.length → ∀ x, x ∈ (stAt cs i).flatten ↔ x < i
  | 0, _, x => by simp [stAt]
  | i + 1, h, x => by
    have e : cs[i]? = some (cs[i]'h) := List.getElem?_eq_getElem _
    show x ∈ (applyC i (cs.getD i (.new, 0)) (stAt cs i)).flatten ↔ _
    rw [getD_at e, apply_mem i (v i _ e), st_mem v i (by omega) x]
    omega
theorem told_get {f : Nat → Int} {st : List (List Nat)} {g : List Seg} (h : Told f st g) {j : Nat} {ts : List Nat} (e : st[j]? = some ts) : ∃ x, g[j]? = some x ∧ ts.map f = sgi x := by
  have q : (st.map (·.map f))[j]? = (g.map sgi)[j]? := by rw [h]
  rw [List.getElem?_map, List.getElem?_map, e] at q
  cases hx : g[j]? with
  | none =>
    rw [hx] at q
    cases q
  | some x =>
    rw [hx] at q
    exact ⟨x, rfl, Option.some.inj q⟩
theorem holesI_get : ∀ (b : Int) (g : List Seg) (j : Nat) (x y : Seg), g[j]? = some x → g[j + 1]? = some y → (holesI b g)[j + 1]? = some (y.1 - (x.1 + x.2 + 1))
  | b, [], j, x, y, h, _ => by simp at h
  | b, [a], j, x, y, h, h2 => by simp at h2
  | b, a :: c :: r, 0, x, y, h, h2 => by
    have e1 : a = x := Option.some.inj h
    have e2 : c = y := Option.some.inj h2
    subst e1 e2
    rfl
  | b, a :: c :: r, j + 1, x, y, h, h2 => holesI_get (a.1 + a.2 + 1) (c :: r) j x y h h2
theorem holes_len (c : Int) (g : List Seg) : (holes c g).length = g.length + 1 := by
  unfold holes
  rw [List.length_append, holesI_len]
  rfl
theorem holes_get {c : Int} {g : List Seg} {j : Nat} {x y : Seg} (h : g[j]? = some x) (h2 : g[j + 1]? = some y) : (holes c g)[j + 1]? = some (y.1 - (x.1 + x.2 + 1)) := by
  unfold holes
  have hj := (List.getElem?_eq_some_iff.mp h2).1
  rw [List.getElem?_append_left (by rw [holesI_len]; exact hj)]
  exact holesI_get 0 g j x y h h2
theorem steps_sum {cs : List Ch} (v : VCh cs) : ∀ i, i ≤ cs.length → (((cs.take i).map fun c => c.1.step).sum : Int) = (stAt cs i).length
  | 0, _ => rfl
  | i + 1, h => by
    have e : cs[i]? = some (cs[i]'h) := List.getElem?_eq_getElem _
    have q := (apply_size i (v i _ e)).2
    have ih := steps_sum v i (by omega)
    show _ = ((applyC i (cs.getD i (.new, 0)) (stAt cs i)).length : Int)
    rw [getD_at e, List.take_add_one, e, List.map_append, List.sum_append]
    show _ + ((cs[i]'h).1.step + 0) = _
    omega
end OgM

namespace Og
open PySem PySem.Spec PyProof.Rows L2 OgR Evl
def topS (i : Nat) : Stmt := PySem.Challenge.pw_onlygroups_k02_choices_and_gaps_of_rows.main.body.getD i (.Pass ⟨0, 0, 0, 0⟩)
abbrev sCell : Stmt := topS 21
abbrev sBox : Stmt := topS 22
abbrev sTake : Stmt := topS 23
abbrev sOf : Stmt := topS 24
theorem scCell : FnScope ["_law_script", "_law_k"] ["_law_script", "_law_k"] (defScope sCell) := ⟨rfl, rfl, rfl, by decide +kernel, rfl, by decide +kernel, by decide +kernel⟩
theorem scBox : FnScope ["_law_script", "_law_k", "_law_core"] ["_law_script", "_law_k"] (defScope sBox) := ⟨rfl, rfl, rfl, by decide +kernel, rfl, by decide +kernel, by decide +kernel⟩
theorem scTake : FnScope ["_law_box_here", "_law_below", "_law_found", "_law_once", "_law_twice"] ["_law_box_here", "_law_below"] (defScope sTake) := ⟨rfl, rfl, rfl, by decide +kernel, rfl, by decide +kernel, by decide +kernel⟩
theorem scOf : FnScope ["_law_box_here", "_law_some"] ["_law_box_here", "_law_some"] (defScope sOf) := ⟨rfl, rfl, rfl, by decide +kernel, rfl, by decide +kernel, by decide +kernel⟩
section
variable {P : Program} {w : World} {K : PySem.W.Frag} {mg : Str → Option Value} {base : Heap}
/-! ### _law_cell_at -/
def spCellA (K : PySem.W.Frag) : Sp := fun vs H Q _ => ∃ (a : Addr) (ns : List Int) (k : Nat), vs = [.ref a, .int k] ∧ SqL K H a (ns.map V.int) ∧ Q (.int (ns.getD k 0)) H
theorem ok_cell {f : Addr} {fd : FuncData} {k : Nat} (F : Fun K "_law_cell_at" "_law_cell_at" sCell f fd) (ml : mg "len" = none) : FnOk P w K mg base CX0 (k + 1) f fd ["_law_script", "_law_k"] (spCellA K) := by
  refine F.ok scCell (fun vs H Q E h => ?_) (fun cdv A outer s H vs Q E hr h => ?_)
  · obtain ⟨a, ns, k, rfl, _⟩ := h
    rfl
  · obtain ⟨a, ns, j, rfl, hS, q⟩ := h
    refine ⟨_, pss_cons (ps_if (pt_cmpR op_lt (pv 1) (pe_callB call_len_seq (by rfl) ml PySem.boot_len (pa_cons (pv 0) pa_nil)) (nomark _))
        (pss_one (ps_ret (pe_ix ix_list (pv 0) (pv 1) (fun _ _ => rfl)))) pss_nil)
      (pss_one (ps_ret pe_int)), ?_⟩
    refine ⟨_, rfl, _, rfl, a, _, rfl, .inl hS, _, _, rfl, rfl, _, rfl, ite2 (fun e => ?_) (fun e => ?_)⟩
    · have h1 := of_decide_eq_true e
      rw [List.length_map] at h1
      have hj : j < ns.length := by omega
      refine ⟨_, rfl, _, rfl, a, _, _, _, rfl, rfl, hS, atI_nat (j := j) (v := .int ns[j]) ?_, ?_⟩
      · rw [List.getElem?_map, List.getElem?_eq_getElem hj]; rfl
      · rw [List.getD_eq_getElem?_getD, List.getElem?_eq_getElem hj] at q
        exact q
    · have hj : ¬ j < ns.length := fun z => e (decide_eq_true (by rw [List.length_map]; omega))
      rw [List.getD_eq_getElem?_getD, List.getElem?_eq_none (by omega)] at q
      exact q
/-! ### _law_box -/
theorem b01 (b : Bool) : -(2 ^ 64) < (if b = true then (1 : Int) else 0) ∧ (if b = true then (1 : Int) else 0) < 2 ^ 64 := by
  cases b <;> decide
def boxA (c : Int) : Int := if 10 ^ 18 ≤ (if c < 0 then -c else c) then (if c < 0 then -c else c) else 0
theorem boxA_nn (c : Int) : 0 ≤ boxA c := by
  unfold boxA
  split <;> split <;> omega
def spBox (K : PySem.W.Frag) : Sp := fun vs H Q _ => ∃ (a : Addr) (ns : List Int) (k : Nat), vs = [.ref a, .int k] ∧ SqL K H a (ns.map V.int) ∧ k ≤ 1000 ∧
  ∀ l x y, H l = none → 0 ≤ x → 0 ≤ y → y < 2 ^ 62 → Q (.ref l) (upd H l (.lst [.int x, .int y, .int 0]))
theorem ok_box {f fC : Addr} {fd fdC : FuncData} (F : Fun K "_law_box" "_law_box" sBox f fd) (FC : Fun K "_law_cell_at" "_law_cell_at" sCell fC fdC) (bC : Binds K fdC ["_law_script", "_law_k"] []) (gC : mg "_law_cell_at" = some (.ref fC))
    (ml : mg "len" = none) (ma : mg "abs" = none) (mi : mg "int" = none) : FnOk P w K mg base CX0 2 f fd ["_law_script", "_law_k"] (spBox K) := by
  have GC : FnOk P w K mg base CX0 1 fC fdC ["_law_script", "_law_k"] (spCellA K) := ok_cell FC ml
  refine F.ok scBox (fun vs H Q E h => ?_) (fun cdv A outer s H vs Q E hr h => ?_)
  · obtain ⟨a, ns, k, rfl, _⟩ := h
    rfl
  · obtain ⟨a, ns, j, rfl, hS, hj, q⟩ := h
    refine ⟨_, pss_cons (ps_set (i := 2) scBox.nd rfl (.inl rfl) (pe_call GC hr (by rfl) gC FC.kp bC .nil pass0 (pa_cons (pv 0) (pa_cons (pv 1) pa_nil))))
      (pss_one (ps_ret (pe_lst (pa_cons (pe_op op_mul (pe_callB call_abs (by rfl) ma (by decide +kernel) (pa_cons (pv 2) pa_nil))
            (pe_callTy call_int1 (by rfl) mi (by decide +kernel) (pa_cons (pe_cmpR op_ge (pe_callB call_abs (by rfl) ma (by decide +kernel) (pa_cons (pv 2) pa_nil)) (pe_op op_pow pe_int pe_int) (nomark _)) pa_nil)))
          (pa_cons (pe_op op_add (pe_op op_add (pe_op op_mod (pv 2) pe_int) (pe_op op_mul pe_int (pv 1))) pe_int) (pa_cons pe_int pa_nil)))))), ?_⟩
    refine ⟨_, rfl, _, rfl, a, ns, j, rfl, hS, ?_⟩
    generalize ns.getD j 0 = c
    refine ⟨_, rfl, _, rfl, _, rfl, _, rfl, _, _, rfl, rfl, ⟨by decide, by decide, by decide⟩, _, _, rfl, rfl, .inr ⟨_, rfl, _, _, rfl, rfl, .inr ?_, ?_⟩⟩
    · exact b01 _
    · refine ⟨_, rfl, _, _, rfl, rfl, (show (0 : Int) < 2305843009213693951 by decide), _, rfl, _, _, rfl, rfl, .inl ⟨by decide, by decide⟩, _, _, rfl, rfl, _, _, rfl, rfl, (show 3 ≤ sizeLine by decide), fun l hl => ?_⟩
      refine q l _ _ hl ?_ ?_ ?_
      · split <;> split <;> simp <;> omega
      · have := Int.emod_nonneg c (show (2305843009213693951 : Int) ≠ 0 by decide); omega
      · have := Int.emod_lt_of_pos c (show (0 : Int) < 2305843009213693951 by decide); omega
/-! ### _law_take -/
def BoxAt (H : Hp) (l : Addr) (c : Int) : Prop := ∃ a b : Int, H l = some (.lst [.int a, .int b, .int c]) ∧ 0 ≤ a ∧ 0 ≤ b ∧ b < 2 ^ 62 ∧ 0 ≤ c ∧ c ≤ 1000000
def spTake : Sp := fun vs H Q _ => ∃ (l : Addr) (c n : Int), vs = [.ref l, .int n] ∧ BoxAt H l c ∧ 1 ≤ n ∧ n ≤ 10000000 ∧ c < 1000000 ∧
  ∀ r xs c', 0 ≤ r → r < n → BoxAt (upd H l (.lst xs)) l c' → c' ≤ c + 1 → Q (.int r) (upd H l (.lst xs))
theorem ok_take {f : Addr} {fd : FuncData} {k : Nat} (F : Fun K "_law_take" "_law_take" sTake f fd) : FnOk P w K mg base CX0 (k + 1) f fd ["_law_box_here", "_law_below"] spTake := by
  refine F.ok scTake (fun vs H Q E h => ?_) (fun cdv A outer s H vs Q E hr h => ?_)
  · obtain ⟨l, c, n, rfl, _⟩ := h
    rfl
  · obtain ⟨l, c, n, rfl, ⟨a, b, hl, ha, hb, hb2, hc, hc2⟩, hn, hn2, hc3, q⟩ := h
    have hL : SqL K H l [.int a, .int b, .int c] := .inl (.inl hl)
    have X0 : ∀ {X : Cx} {j : Int} {p p1 p2 : Pos} {k : Nat} (hv : PE X (.Name "_law_box_here" p1) (tVar 0)), PE X (.Subscript (.Name "_law_box_here" p1) (.Constant (.int j) k p2) p) (tOp (rIxL X.K) (tVar 0) (fun _ H Q => Q (.int j) H)) := fun hv => pe_ix ix_list hv pe_int (fun _ _ => rfl)
    refine ⟨_, pss_cons (ps_if (pt_cmpR op_gt (X0 (pv 0)) pe_int (nomark _))
        (pss_cons (ps_set (i := 2) scTake.nd rfl (.inl rfl) (pe_op op_mod (X0 (pv 0)) (pv 1)))
          (pss_cons (ps_asg (pe_op op_fdiv (X0 (pv 0)) (pv 1)) (pg_sub (pv 0) pe_int set_list))
          (pss_one (ps_ret (pv 2))))) pss_nil)
      (pss_cons (ps_if (pt_cmpR op_gt (pv 1) (pe_op op_pow pe_int pe_int) (nomark _)) (pss_one ps_never) pss_nil)
      (pss_cons (ps_asg (pe_op op_add (X0 (pv 0)) pe_int) (pg_sub (pv 0) pe_int set_list))
      (pss_cons (ps_set (i := 3) scTake.nd rfl (.inl rfl) (pe_op op_mod (pe_op op_mul (pe_op op_add (X0 (pv 0)) (pe_op op_mul pe_int (X0 (pv 0)))) (pe_op op_add pe_int (X0 (pv 0)))) pe_int))
      (pss_cons (ps_set (i := 4) scTake.nd rfl (.inl rfl) (pe_op op_mod (pe_op op_mul (pe_op op_add (pe_op op_add (pv 3) (X0 (pv 0))) (pe_op op_fdiv (X0 (pv 0)) pe_int)) (pe_op op_add (pe_op op_mod (pv 3) pe_int) pe_int)) pe_int))
      (pss_one (ps_ret (pe_op op_mod (pe_op op_fdiv (pe_op op_mod (pe_op op_add (pe_op op_mul (pv 4) pe_int) (pv 3)) pe_int) pe_int) (pv 1)))))))), ?_⟩
    refine ⟨_, rfl, l, _, 0, _, rfl, rfl, hL, rfl, _, _, rfl, rfl, _, rfl, ite2 (fun e => ?_) (fun e => ?_)⟩
    · have h1 := of_decide_eq_true e
      refine ⟨_, rfl, l, _, 0, _, rfl, rfl, hL, rfl, _, rfl, _, _, rfl, rfl, by omega, ?_⟩
      refine ⟨_, rfl, l, _, 0, _, rfl, rfl, hL, rfl, _, rfl, _, _, rfl, rfl, ⟨by omega, by omega⟩, _, rfl, l, _, 0, 0, rfl, rfl, hl, rfl, ?_⟩
      refine ⟨_, rfl, ?_⟩
      refine q _ _ c (Int.emod_nonneg _ (by omega)) (Int.emod_lt_of_pos _ (by omega)) ⟨_, _, upd_same, Int.ediv_nonneg ha (by omega), hb, hb2, hc, hc2⟩ (by omega)
    · refine ⟨_, rfl, _, _, rfl, rfl, ⟨by decide, by decide, by decide⟩, _, _, rfl, rfl, _, rfl, ite2 (fun e2 => ?_) (fun e2 => ?_)⟩
      · have h2 := of_decide_eq_true e2
        exact absurd h2 (by show ¬ ((10 : Int) ^ 7 < n); omega)
      · refine ⟨_, rfl, l, _, 2, _, rfl, rfl, hL, rfl, _, _, rfl, rfl, _, rfl, l, _, 2, 2, rfl, rfl, hl, rfl, ?_⟩
        have hl2 : upd H l (.lst [.int a, .int b, .int (c + 1)]) l = some (.lst [.int a, .int b, .int (c + 1)]) := upd_same
        have hL2 : SqL K (upd H l (.lst [.int a, .int b, .int (c + 1)])) l [.int a, .int b, .int (c + 1)] := .inl (.inl hl2)
        show tSeq _ _ _ _ (upd H l (.lst [.int a, .int b, .int (c + 1)]))
        refine ⟨_, rfl, l, _, 1, _, rfl, rfl, hL2, rfl, _, rfl, l, _, 2, _, rfl, rfl, hL2, rfl, _, _, rfl, rfl, .inl ⟨by decide, by decide⟩, _, _, rfl, rfl, _, rfl, l, _, 2, _, rfl, rfl, hL2, rfl, _, _, rfl, rfl, _, _, rfl, rfl, .inl ⟨by omega, by omega⟩, _, _, rfl, rfl, by omega, ?_⟩
        refine ⟨_, rfl, _, rfl, l, _, 2, _, rfl, rfl, hL2, rfl, _, _, rfl, rfl, _, rfl, l, _, 1, _, rfl, rfl, hL2, rfl, _, _, rfl, rfl, ⟨by decide, by decide⟩, _, _, rfl, rfl, _, rfl, _, _, rfl, rfl, by omega, _, _, rfl, rfl, _, _, rfl, rfl, .inr ⟨?_, ?_⟩, _, _, rfl, rfl, by omega, ?_⟩
        · have := Int.emod_nonneg ((b + 48271 * (c + 1)) * (39373 + (c + 1)) % 2147483647) (show (40009 : Int) ≠ 0 by decide); omega
        · have := Int.emod_lt_of_pos ((b + 48271 * (c + 1)) * (39373 + (c + 1)) % 2147483647) (show (0 : Int) < 40009 by decide); omega
        · refine ⟨_, rfl, _, _, rfl, rfl, .inr ⟨by decide, by decide⟩, _, rfl, _, _, rfl, rfl, _, _, rfl, rfl, by omega, _, _, rfl, rfl, ⟨by decide, by decide⟩, _, rfl, _, _, rfl, rfl, by omega, ?_⟩
          exact q _ _ (c + 1) (Int.emod_nonneg _ (by omega)) (Int.emod_lt_of_pos _ (by omega)) ⟨_, _, upd_same, ha, hb, hb2, by omega, by omega⟩ (by omega)
/-! ### _law_of -/
def spOf (K : PySem.W.Frag) : Sp := fun vs H Q _ => ∃ (l p : Addr) (c : Int) (b : Bool) (xs : List V), vs = [.ref l, .ref p] ∧ BoxAt H l c ∧ l ≠ p ∧ SqB K b H p xs ∧ 1 ≤ xs.length ∧ xs.length ≤ 1000 ∧ c < 1000000 ∧
  ∀ (r : Nat) x ys c', xs[r]? = some x → BoxAt (upd H l (.lst ys)) l c' → c' ≤ c + 1 → Q x (upd H l (.lst ys))
theorem ok_of {f fT : Addr} {fd fdT : FuncData} (F : Fun K "_law_of" "_law_of" sOf f fd) (FT : Fun K "_law_take" "_law_take" sTake fT fdT) (bT : Binds K fdT ["_law_box_here", "_law_below"] []) (gT : mg "_law_take" = some (.ref fT))
    (ml : mg "len" = none) : FnOk P w K mg base CX0 2 f fd ["_law_box_here", "_law_some"] (spOf K) := by
  have GT : FnOk P w K mg base CX0 1 fT fdT ["_law_box_here", "_law_below"] spTake := ok_take FT
  refine F.ok scOf (fun vs H Q E h => ?_) (fun cdv A outer s H vs Q E hr h => ?_)
  · obtain ⟨_, _, _, _, _, rfl, _⟩ := h
    rfl
  · obtain ⟨l, p, c, b, xs, rfl, hB, hne, hS, h1, h2, hc, q⟩ := h
    refine ⟨_, pss_one (ps_ret (pe_ix ix_B (pv 1) (pe_call GT hr (by rfl) gT FT.kp bT .nil pass0 (pa_cons (pv 0) (pa_cons (pe_callB cr_lenB (by rfl) ml PySem.boot_len (pa_cons (pv 1) pa_nil)) pa_nil))) (fun _ _ => rfl))), ?_⟩
    refine ⟨_, rfl, _, rfl, _, rfl, b, p, xs, rfl, hS, l, c, _, rfl, hB, by omega, by omega, hc, fun r ys c' r0 r1 hB' hc' => ?_⟩
    have hr2 : r.toNat < xs.length := by omega
    refine ⟨b, p, xs, r, _, rfl, rfl, ?_, at_of (j := r.toNat) (by omega) (List.getElem?_eq_getElem hr2), q r.toNat _ ys c' (List.getElem?_eq_getElem hr2) hB' hc'⟩
    cases b with
    | true =>
      rcases hS with (e | ⟨o, e⟩) | e
      · exact .inl (.inl (by rw [upd_ne (Ne.symm hne)]; exact e))
      · exact .inl (.inr ⟨o, by rw [upd_ne (Ne.symm hne)]; exact e⟩)
      · exact .inr e
    | false =>
      rcases hS with (e | ⟨o, e⟩) | e
      · exact .inl (.inl (by rw [upd_ne (Ne.symm hne)]; exact e))
      · exact .inl (.inr ⟨o, by rw [upd_ne (Ne.symm hne)]; exact e⟩)
      · exact .inr e
end
end Og

namespace Og
open PySem PySem.Spec PyProof.Rows L2 OgR Evl OgM
/-! ### data -/
theorem canAll : ∀ {ds : List PyData}, (∀ d ∈ ds, PyData.canLay0 d = true) → PyData.canLayAll0 ds = true
  | [], _ => by simp [PyData.canLayAll0]
  | d :: ds, h => by
    simp only [PyData.canLayAll0, Bool.and_eq_true]
    exact ⟨h d (by simp), canAll fun x hx => h x (by simp [hx])⟩
theorem depAll {n : Nat} : ∀ {ds : List PyData}, (∀ d ∈ ds, PyData.depth d ≤ n) → PyData.depthAll ds ≤ n
  | [], _ => by simp [PyData.depthAll]
  | d :: ds, h => by
    simp only [PyData.depthAll]
    exact Nat.max_le.mpr ⟨h d (by simp), depAll fun x hx => h x (by simp [hx])⟩
def dInts (l : List Int) : List PyData := l.map PyData.int
theorem ci (l : List Int) : PyData.canLayAll0 (dInts l) = true := canAll fun d h => by
  obtain ⟨i, _, rfl⟩ := List.mem_map.mp h
  simp [PyData.canLay0]
theorem di (l : List Int) : PyData.depthAll (dInts l) ≤ 0 := depAll fun d h => by
  obtain ⟨i, _, rfl⟩ := List.mem_map.mp h
  simp [PyData.depth]
theorem sh_of {d : PyData} (h1 : d.canLay0 = true) (h2 : d.depth ≤ 64) : SeqAt.shaped d = true := Bool.and_eq_true_iff.mpr ⟨h1, decide_eq_true h2⟩
theorem sh_list {ds : List PyData} {n : Nat} (h1 : PyData.canLayAll0 ds = true) (h2 : PyData.depthAll ds ≤ n) (h3 : n ≤ 63) : SeqAt.shaped (.list ds) = true := by
  refine sh_of (by simp only [PyData.canLay0]; exact h1) ?_
  have e : PyData.depth (.list ds) = PyData.depthAll ds + 1 := by simp only [PyData.depth]
  rw [e]
  omega
theorem sh_tup {ds : List PyData} {n : Nat} (h1 : PyData.canLayAll0 ds = true) (h2 : PyData.depthAll ds ≤ n) (h3 : n ≤ 63) : SeqAt.shaped (.tuple ds) = true := by
  refine sh_of (by simp only [PyData.canLay0]; exact h1) ?_
  have e : PyData.depth (.tuple ds) = PyData.depthAll ds + 1 := by simp only [PyData.depth]
  rw [e]
  omega
theorem sh_ints (l : List Int) : SeqAt.shaped (.list (dInts l)) = true ∧ SeqAt.shaped (.tuple (dInts l)) = true := ⟨sh_list (ci l) (di l) (by decide), sh_tup (ci l) (di l) (by decide)⟩
theorem dp_ints {K : PySem.W.Frag} {H : Hp} : ∀ l : List Int, DpAll K H (l.map V.int) (dInts l)
  | [] => .nil
  | i :: l => .cons (.int i) (dp_ints l)
def dLL (g : List Seg) : List PyData := g.map fun x => PyData.list (dInts (sgi x))
theorem sh_LL (g : List Seg) : SeqAt.shaped (.list (dLL g)) = true := by
  have h1 : PyData.canLayAll0 (dLL g) = true := canAll fun d h => by
    obtain ⟨x, _, rfl⟩ := List.mem_map.mp h
    simp [PyData.canLay0, ci]
  have h2 : PyData.depthAll (dLL g) ≤ 1 := depAll fun d h => by
    obtain ⟨x, _, rfl⟩ := List.mem_map.mp h
    have e : PyData.depth (.list (dInts (sgi x))) = PyData.depthAll (dInts (sgi x)) + 1 := by simp only [PyData.depth]
    rw [e]
    have := di (sgi x)
    omega
  exact sh_list h1 h2 (by decide)
theorem sh_nil : SeqAt.shaped (.list []) = true := sh_ints [] |>.1
/-! ### a list of runs -/
def PR (H0 H : Hp) (q : Addr) (x : Seg) : Prop := H0 q = none ∧ H q = some (.lst ((sgi x).map V.int))
structure LL (H0 H : Hp) (p : Addr) (g : List Seg) : Prop where
  new : H0 p = none
  ex : ∃ qs : List Addr, H p = some (.lst (qs.map V.ref)) ∧ Paired (PR H0 H) qs g ∧ p ∉ qs
theorem paired_snoc_inv {α β : Type} {F : α → β → Prop} {x : β} : ∀ {l : List α} {g : List β}, Paired F l (g ++ [x]) → ∃ l' q, l = l' ++ [q] ∧ Paired F l' g ∧ F q x
  | l, [], h => by
    cases h with
    | cons a b =>
      cases b
      exact ⟨[], _, rfl, .nil, a⟩
  | l, y :: g, h => by
    cases h with
    | cons a b =>
      obtain ⟨l', q, rfl, h1, h2⟩ := paired_snoc_inv b
      exact ⟨_ :: l', q, rfl, .cons a h1, h2⟩
theorem paired_get {α β : Type} {F : α → β → Prop} : ∀ {l : List α} {g : List β} {i : Nat} {a : α}, Paired F l g → l[i]? = some a → ∃ b, g[i]? = some b ∧ F a b
  | _, _, _, _, .nil, e => by simp at e
  | _, _, 0, _, .cons r _, e => by
    simp at e
    subst e
    exact ⟨_, rfl, r⟩
  | _, _, i + 1, _, .cons _ t, e => paired_get (i := i) t (by simpa using e)
theorem paired_mem {α β : Type} {F : α → β → Prop} : ∀ {l : List α} {g : List β}, Paired F l g → ∀ a ∈ l, ∃ b ∈ g, F a b
  | _, _, .nil, a, h => absurd h (by simp)
  | _, _, .cons r t, a, h => by
    rcases List.mem_cons.mp h with e | h
    · subst e
      exact ⟨_, by simp, r⟩
    · obtain ⟨b, hb, q⟩ := paired_mem t a h
      exact ⟨b, by simp [hb], q⟩
/-- the runs are kept where their lists are -/
theorem PR.keep {H0 H H' : Hp} {qs : List Addr} {g : List Seg} (h : Paired (PR H0 H) qs g) (k : ∀ q ∈ qs, ∀ o, H q = some o → H' q = some o) : Paired (PR H0 H') qs g := by
  induction h with
  | nil => exact .nil
  | cons r t ih =>
    exact .cons ⟨r.1, k _ (by simp) _ r.2⟩ (ih fun q hq o e => k q (by simp [hq]) o e)
theorem LL.len {H0 H : Hp} {p : Addr} {g : List Seg} (h : LL H0 H p g) : ∃ qs : List Addr, H p = some (.lst (qs.map V.ref)) ∧ qs.length = g.length := by
  obtain ⟨qs, e, r, _⟩ := h.ex
  exact ⟨qs, e, r.length⟩
theorem LL.keep {H0 H H' : Hp} {p : Addr} {g : List Seg} (h : LL H0 H p g) (e : Ex H H') : LL H0 H' p g := by
  obtain ⟨qs, e1, r, np⟩ := h.ex
  exact ⟨h.new, qs, e _ _ e1, PR.keep r (fun q _ o x => e q o x), np⟩
theorem pr_dp {K : PySem.W.Frag} {H0 H : Hp} : ∀ {qs : List Addr} {g : List Seg}, Paired (PR H0 H) qs g → DpAll K H (qs.map V.ref) (dLL g)
  | _, _, .nil => .nil
  | _, _, .cons a t => .cons (.lst (.inl (.inl a.2)) (dp_ints _)) (pr_dp t)
theorem LL.dp {K : PySem.W.Frag} {H0 H : Hp} {p : Addr} {g : List Seg} (h : LL H0 H p g) : Dp K H (.ref p) (.list (dLL g)) := by
  obtain ⟨qs, e1, r, _⟩ := h.ex
  exact .lst (.inl (.inl e1)) (pr_dp r)
/-! ### _law_runs -/
abbrev sRuns : Stmt := topS 27
theorem scRuns : FnScope ["_law_there", "_law_found", "_law_plot", "_law_some"] ["_law_there"] (defScope sRuns) := ⟨rfl, rfl, rfl, by decide +kernel, rfl, by decide +kernel, by decide +kernel⟩
section
variable {P : Program} {w : World} {K : PySem.W.Frag} {mg : Str → Option Value} {base : Heap}
def spRuns (K : PySem.W.Frag) : Sp := fun vs H Q _ => ∃ (b : Bool) (a : Addr) (ns : List Int), vs = [.ref a] ∧ SqB K b H a (ns.map V.int) ∧ ns.Nodup ∧ ns.length ≤ 1000 ∧
  ∀ H' p, Ex H H' → LL H H' p (segs ns) → Q (.ref p) H'
theorem eqv_nil (g : List Seg) : PyData.eqv (.list (dLL g)) (.list []) = g.isEmpty := by
  cases g <;> simp [dLL, PyData.eqv, PyData.eqvAll]
theorem ok_runs {f : Addr} {fd : FuncData} {k : Nat} (F : Fun K "_law_runs" "_law_runs" sRuns f fd) (ms : mg "sorted" = none) : FnOk P w K mg base CX0 (k + 1) f fd ["_law_there"] (spRuns K) := by
  refine F.ok scRuns (fun vs H Q E h => ?_) (fun cdv A outer s H vs Q E hr h => ?_)
  · obtain ⟨_, _, _, rfl, _⟩ := h
    rfl
  · obtain ⟨b, a, ns, rfl, hS, hnd, hlen, q⟩ := h
    refine ⟨_, pss_cons (ps_set (i := 1) scRuns.nd rfl (.inl rfl) (pe_lst pa_nil))
      (pss_cons (ps_for PassesOwn.never rfl (pi_list (pe_callB cr_srtB (by rfl) ms (by decide +kernel) (pa_cons (pv 0) pa_nil))) (pg_name (i := 2) scRuns.nd rfl (.inl rfl))
        (pss_one (ps_if (PW.pt (pw_and (pt_cmpR (op_neD hr.units) (pv 1) (pe_lst pa_nil) (nomark _)) (pw_and1 (pt_cmpR op_eq (pe_ix ix_list (pe_ix ix_list (pv 1) (pe_un un_neg pe_int) (fun _ _ => rfl)) (pe_un un_neg pe_int) (fun _ _ => rfl)) (pe_op op_sub (pv 2) pe_int) (nomark _)))))
          (pss_cons (ps_set (i := 3) scRuns.nd rfl (.inl rfl) (pe_bm0 PySem.F.plainAttrs_list PySem.F.slot_list_pop PySem.F.type_list_pop mt_pop (pv 1)))
            (pss_one (ps_expr (pe_bm PySem.F.plainAttrs_list PySem.F.slot_list_append PySem.F.type_list_append mt_append (pv 1) (pa_cons (pe_op op_cat (pv 3) (pe_lst (pa_cons (pv 2) pa_nil))) pa_nil)))))
          (pss_one (ps_expr (pe_bm PySem.F.plainAttrs_list PySem.F.slot_list_append PySem.F.type_list_append mt_append (pv 1) (pa_cons (pe_lst (pa_cons (pv 2) pa_nil)) pa_nil)))))))
      (pss_one (ps_ret (pv 1)))), ?_⟩
    refine ⟨Nat.zero_le _, fun p hp => ?_⟩
    have x1 : Ex H (upd H p (.lst [])) := Ex.new hp
    refine ⟨_, rfl, b, a, ns, rfl, hS.ex x1, fun ks u hperm hsort hu => ?_⟩
    have x2 : Ex (upd H p (.lst [])) (upd (upd H p (.lst [])) u (.lst (ks.map V.int))) := Ex.new hu
    have npu : p ≠ u := fun e => by
      rw [← e, upd_same] at hu
      cases hu
    have rise := rise_of hnd hperm hsort
    have hseg : segs ks = segs ns := segs_eq (hperm.nodup_iff.mpr hnd) hnd fun q => hperm.mem_iff
    have hlk : ks.length ≤ 1000 := by rw [hperm.length_eq]; exact hlen
    refine ⟨u, rfl, ⟨_, .inl (.inl upd_same)⟩, for_list (xs := ks.map V.int) (fun i σ H3 => ∃ y2 y3, σ = [some (.ref a), some (.ref p), y2, y3] ∧ Ex H H3 ∧ H3 u = some (.lst (ks.map V.int)) ∧ LL H H3 p (segs (ks.take i))) ?_ ?_ ?_ ?_⟩
    · refine ⟨none, none, rfl, x1.trans x2, upd_same, hp, [], ?_, .nil, by simp⟩
      rw [upd_ne npu, upd_same]
      rfl
    · rintro i σ H3 _ ⟨_, _, _, _, h, _⟩
      exact .inl (.inl h)
    · rintro i x σ H3 hx ⟨y2, y3, rfl, e3, hu3, hL⟩
      rw [List.getElem?_map] at hx
      obtain ⟨z, hz, rfl⟩ := Option.map_eq_some_iff.mp hx
      have hi := (List.getElem?_eq_some_iff.mp hz).1
      have hstep : segs (ks.take (i + 1)) = runStep (segs (ks.take i)) z := by
        rw [take_snoc hz]
        refine segs_rise (rise.sublist (List.take_sublist _ _)) fun q hq => ?_
        have hh := rise.sublist (List.take_sublist (i + 1) ks)
        rw [take_snoc hz, List.pairwise_append] at hh
        exact hh.2.2 q hq z (by simp)
      obtain ⟨qs, eq, hpr, hpn⟩ := hL.ex
      have hlq : qs.length ≤ 1000 := by
        rw [hpr.length]
        have q1 := segs_len (ks.take i)
        rw [List.length_take] at q1
        omega
      have hpu : p ≠ u := npu
      -- found != []
      refine ⟨_, rfl, Nat.zero_le _, fun e he => ⟨_, _, (hL.keep (Ex.new he)).dp, .lst (.inl (.inl upd_same)) .nil, sh_LL _, sh_nil, _, rfl, ?_⟩⟩
      rw [eqv_nil]
      have hpe : p ≠ e := ne_of_none eq he
      have hue : u ≠ e := ne_of_none hu3 he
      have x4 : Ex H3 (upd H3 e (.lst [])) := Ex.new he
      have eq4 := x4 _ _ eq
      have hu4 := x4 _ _ hu3
      have hpr4 : Paired (PR H (upd H3 e (.lst []))) qs (segs (ks.take i)) := PR.keep hpr fun q _ o h => x4 q o h
      have e4 : Ex H (upd H3 e (.lst [])) := e3.trans x4
      generalize (upd H3 e (.lst [])) = H4 at eq4 hu4 hpr4 e4
      clear eq hpr hL x4 he hu3 e3
      -- one more run
      have fresh : ∀ (v : Addr) (H5 : Hp), H4 v = none → runStep (segs (ks.take i)) z = segs (ks.take i) ++ [(z, 0)] → H5 = upd (upd H4 v (.lst [.int z])) p (.lst (qs.map V.ref ++ [.ref v])) →
          ∃ w2 w3, [some (.ref a), some (.ref p), some (.int z), y3] = [some (V.ref a), some (.ref p), w2, w3] ∧ Ex H H5 ∧ H5 u = some (.lst (ks.map V.int)) ∧ LL H H5 p (segs (ks.take (i + 1))) := fun v H5 hv hs e5 => by
        subst e5
        have hvp : p ≠ v := ne_of_none eq4 hv
        have hvu : u ≠ v := ne_of_none hu4 hv
        refine ⟨_, y3, rfl, Ex.mut (e4.trans (Ex.new hv)) hp, ?_, hp, qs ++ [v], ?_, ?_, ?_⟩
        · rw [upd_ne (Ne.symm hpu), upd_ne hvu]
          exact hu4
        · rw [upd_same, List.map_append]
          rfl
        · rw [hstep, hs]
          refine Paired.snoc (PR.keep hpr4 fun q hq o h => ?_) ⟨fresh_back e4 hv, ?_⟩
          · rw [upd_ne (fun (zz : q = p) => hpn (zz ▸ hq)), upd_ne (ne_of_none h hv)]
            exact h
          · rw [upd_ne (Ne.symm hvp), upd_same]
            simp [sgi]
        · rw [List.mem_append]
          rintro (h | h)
          · exact hpn h
          · exact hvp (List.mem_singleton.mp h)
      rcases List.eq_nil_or_concat (segs (ks.take i)) with g0 | ⟨g', x, g1⟩
      · rw [g0]
        have hs : runStep (segs (ks.take i)) z = segs (ks.take i) ++ [(z, 0)] := by
          rw [g0]
          rfl
        refine iteF (iteF ⟨_, rfl, .inl ⟨rfl, _, .inl (.inl eq4)⟩, _, rfl, (show 1 ≤ sizeLine by decide), fun v hv => ⟨p, qs.map V.ref, .ref v, rfl, rfl, ?_, ?_, ?_⟩⟩)
        · rw [upd_ne (ne_of_none eq4 hv)]
          exact eq4
        · rw [List.length_map]
          exact small1000 hlq
        · exact fresh v _ hv hs rfl
      · rw [List.concat_eq_append] at g1
        obtain ⟨s, n⟩ := x
        rw [g1] at hpr4
        obtain ⟨qs', q', rfl, hp1, hp2⟩ := paired_snoc_inv hpr4
        have hne : (segs (ks.take i)).isEmpty = false := by
          rw [g1]
          simp
        rw [hne]
        have at1 : atI ((qs' ++ [q']).map V.ref) (-1) = some (.ref q') := by
          rw [List.map_append]
          exact atI_last _ _
        have at2 : atI ((sgi (s, n)).map V.int) (-1) = some (.int (s + n)) := by
          have h0 := sgi_last (s, n)
          obtain ⟨l0, hl0⟩ := List.getLast?_eq_some_iff.mp h0
          rw [hl0, List.map_append]
          exact atI_last _ _
        refine iteT ⟨_, rfl, 1, rfl, p, _, -1, _, rfl, rfl, .inl (.inl eq4), at1, 1, rfl, q', _, -1, _, rfl, rfl, .inl (.inl hp2.2), at2, _, rfl, _, _, rfl, rfl, rfl, _, rfl, ite2 (fun hc => ?_) (fun hc => ?_)⟩
        · have hc' : s + (n : Int) = z - 1 := V.int.inj (of_decide_eq_true hc)
          have hs : runStep (segs (ks.take i)) z = g' ++ [(s, n + 1)] := by
            rw [g1]
            unfold runStep
            rw [getLast_snoc]
            show (if s + n = z - 1 then (g' ++ [(s, n)]).dropLast ++ [(s, n + 1)] else _) = _
            rw [if_pos hc', List.dropLast_concat]
          have hq'p : q' ≠ p := fun z => hpn (by simp [z])
          refine ⟨_, rfl, .inl ⟨rfl, _, .inl (.inl eq4)⟩, p, _, .ref q', rfl, rfl, eq4, by simp, ?_⟩
          have dl : ((qs' ++ [q']).map V.ref).dropLast = qs'.map V.ref := by
            rw [List.map_append]
            exact List.dropLast_concat
          rw [dl]
          refine ⟨_, rfl, .inl ⟨rfl, _, .inl (.inl upd_same)⟩, _, rfl, _, rfl, (show 1 ≤ sizeLine by decide), fun v hv => ?_⟩
          have hvp : p ≠ v := fun e => by
            rw [← e, upd_same] at hv
            cases hv
          have hv4 : H4 v = none := by
            rw [upd_ne (Ne.symm hvp)] at hv
            exact hv
          have hq'v : q' ≠ v := ne_of_none hp2.2 hv4
          refine ⟨q', v, (sgi (s, n)).map V.int, _, rfl, rfl, ?_, upd_same, ?_, fun t ht => ?_⟩
          · rw [upd_ne hq'v, upd_ne hq'p]
            exact hp2.2
          · rw [List.length_map, sgi_len]
            show n + 1 + 1 ≤ sizeLine
            have h7 : n + 1 ≤ size (segs (ks.take i)) := size_mem (x := (s, n)) (by rw [g1]; simp)
            rw [segs_size, List.length_take] at h7
            exact Nat.le_of_lt (small1000 (by omega))
          · have htv : v ≠ t := ne_of_none upd_same ht
            have htp : p ≠ t := by
              refine ne_of_none (o := .lst (qs'.map V.ref)) ?_ ht
              rw [upd_ne hvp, upd_same]
            have ht4 : H4 t = none := by
              rw [upd_ne (Ne.symm htv), upd_ne (Ne.symm htp)] at ht
              exact ht
            refine ⟨p, qs'.map V.ref, .ref t, rfl, rfl, ?_, ?_, ?_⟩
            · rw [upd_ne htp, upd_ne hvp, upd_same]
            · rw [List.length_map]
              simp at hlq
              exact small1000 (by omega)
            · have hut : u ≠ t := ne_of_none hu4 ht4
              have huv : u ≠ v := ne_of_none hu4 hv4
              refine ⟨_, _, rfl, ?_, ?_, hp, qs' ++ [t], ?_, ?_, ?_⟩
              · refine Ex.mut ?_ hp
                intro c o hco
                have hc4 := e4 c o hco
                rw [upd_ne (ne_of_none hc4 ht4), upd_ne (ne_of_none hc4 hv4), upd_ne (ne_of_none hco hp)]
                exact hc4
              · rw [upd_ne (Ne.symm hpu), upd_ne hut, upd_ne huv, upd_ne (Ne.symm hpu)]
                exact hu4
              · rw [upd_same, List.map_append]
                rfl
              · rw [hstep, hs]
                refine Paired.snoc (PR.keep hp1 fun q hq o h => ?_) ⟨fresh_back e4 ht4, ?_⟩
                · have hqp : q ≠ p := fun (zz : q = p) => hpn (by rw [← zz]; simp [hq])
                  rw [upd_ne hqp, upd_ne (ne_of_none h ht4), upd_ne (ne_of_none h hv4), upd_ne hqp]
                  exact h
                · rw [upd_ne (Ne.symm htp), upd_same]
                  have e9 := sgi_snoc s n
                  rw [show s + (n : Int) + 1 = z by omega] at e9
                  rw [← e9, List.map_append]
                  rfl
              · rw [List.mem_append]
                rintro (h | h)
                · exact hpn (by simp [h])
                · exact htp (List.mem_singleton.mp h)
        · have hc' : ¬ s + (n : Int) = z - 1 := fun h => hc (decide_eq_true (by rw [h]))
          have hs : runStep (segs (ks.take i)) z = segs (ks.take i) ++ [(z, 0)] := by
            rw [g1]
            unfold runStep
            rw [getLast_snoc]
            show (if s + n = z - 1 then _ else _) = _
            rw [if_neg hc']
          refine ⟨_, rfl, .inl ⟨rfl, _, .inl (.inl eq4)⟩, _, rfl, (show 1 ≤ sizeLine by decide), fun v hv => ⟨p, (qs' ++ [q']).map V.ref, .ref v, rfl, rfl, ?_, ?_, ?_⟩⟩
          · rw [upd_ne (ne_of_none eq4 hv)]
            exact eq4
          · rw [List.length_map]
            exact small1000 hlq
          · rw [← g1] at hpr4
            exact fresh v _ hv hs rfl
    · rintro σ H3 ⟨y2, y3, rfl, e3, hu3, hL⟩
      rw [List.take_of_length_le (by simp), hseg] at hL
      exact ⟨_, rfl, q H3 p e3 hL⟩
end
end Og

namespace Og
open PySem PySem.Spec PyProof.Rows L2 OgR Evl OgM
abbrev sHoles : Stmt := topS 31
theorem scHoles : FnScope ["_law_count", "_law_queue_here", "_law_runs_so", "_law_found", "_law_begin", "_law_some"] ["_law_count", "_law_queue_here"] (defScope sHoles) := ⟨rfl, rfl, rfl, by decide +kernel, rfl, by decide +kernel, by decide +kernel⟩
theorem at_head {x : Seg} : atI ((sgi x).map V.int) 0 = some (.int x.1) := by
  refine atI_nat (j := 0) ?_
  rw [List.getElem?_map, sgi_get (Nat.zero_le _)]
  simp
theorem at_end {x : Seg} : atI ((sgi x).map V.int) (-1) = some (.int (x.1 + x.2)) := by
  obtain ⟨l0, hl0⟩ := List.getLast?_eq_some_iff.mp (sgi_last x)
  rw [hl0, List.map_append]
  exact atI_last _ _
theorem take_next {α : Type} {g : List α} {i : Nat} {x : α} (e : g[i]? = some x) : g.take (i + 1) = g.take i ++ [x] := by
  rw [List.take_add_one, e]
  rfl
section
variable {P : Program} {w : World} {K : PySem.W.Frag} {mg : Str → Option Value} {base : Heap}
def spHoles (K : PySem.W.Frag) : Sp := fun vs H Q _ => ∃ (b : Bool) (a : Addr) (c : Int) (ns : List Int), vs = [.int c, .ref a] ∧ SqB K b H a (ns.map V.int) ∧ ns.Nodup ∧ ns.length ≤ 900 ∧
  ∀ H' p, Ex H H' → H p = none → H' p = some (.tup ((holes c (segs ns)).map V.int)) → Q (.ref p) H'
theorem ok_holes {f fR : Addr} {fd fdR : FuncData} {k : Nat} (F : Fun K "_law_holes" "_law_holes" sHoles f fd) (FR : Fun K "_law_runs" "_law_runs" sRuns fR fdR) (bR : Binds K fdR ["_law_there"] []) (gR : mg "_law_runs" = some (.ref fR))
    (ms : mg "sorted" = none) (mt : mg "tuple" = none) : FnOk P w K mg base CX0 (k + 2) f fd ["_law_count", "_law_queue_here"] (spHoles K) := by
  have GR : FnOk P w K mg base CX0 (k + 1) fR fdR ["_law_there"] (spRuns K) := ok_runs FR ms
  refine F.ok scHoles (fun vs H Q E h => ?_) (fun cdv A outer s H vs Q E hr h => ?_)
  · obtain ⟨_, _, _, _, rfl, _⟩ := h
    rfl
  · obtain ⟨b, a, c, ns, rfl, hS, hnd, hlen, q⟩ := h
    refine ⟨_, pss_cons (ps_par3 (i := 2) (j := 3) (l := 4) (by rfl) scHoles.nd rfl rfl rfl (by decide) (by decide) (by decide) rfl rfl rfl (pa_cons (pe_call GR hr (by rfl) gR FR.kp bR .nil pass0 (pa_cons (pv 1) pa_nil)) (pa_cons (pe_lst pa_nil) (pa_cons pe_int pa_nil))) (by rfl))
      (pss_cons (ps_for PassesOwn.never rfl (pi_list (pv 2)) (pg_name (i := 5) scHoles.nd rfl (.inl rfl))
        (pss_cons (ps_expr (pe_bm PySem.F.plainAttrs_list PySem.F.slot_list_append PySem.F.type_list_append mt_append (pv 3) (pa_cons (pe_op op_sub (pe_ix ix_list (pv 5) pe_int (fun _ _ => rfl)) (pv 4)) pa_nil)))
        (pss_one (ps_set (i := 4) scHoles.nd rfl (.inl rfl) (pe_op op_add (pe_ix ix_list (pv 5) (pe_un un_neg pe_int) (fun _ _ => rfl)) pe_int)))))
      (pss_one (ps_ret (pe_callTy call_tuple_of (by rfl) mt (by decide +kernel) (pa_cons (pe_op op_cat (pv 3) (pe_lst (pa_cons (pe_op op_sub (pv 0) (pv 4)) pa_nil))) pa_nil))))), ?_⟩
    refine ⟨_, rfl, b, a, ns, rfl, hS, hnd, by omega, fun H1 r e1 hL => ⟨Nat.zero_le _, fun fl hfl => ⟨_, _, _, rfl, ?_⟩⟩⟩
    obtain ⟨qs, eq, hpr, hpn⟩ := hL.ex
    have hsz := segs_len ns
    have hlq : qs.length = (segs ns).length := hpr.length
    have hrf : r ≠ fl := ne_of_none eq hfl
    refine ⟨_, rfl, r, rfl, ⟨_, .inl (.inl (Ex.new hfl _ _ eq))⟩, for_list (xs := qs.map V.ref) (fun i σ H3 => ∃ y5, σ = [some (.int c), some (.ref a), some (.ref r), some (.ref fl), some (.int (endB 0 ((segs ns).take i))), y5] ∧ Ex H1 H3 ∧ H3 fl = some (.lst ((holesI 0 ((segs ns).take i)).map V.int))) ?_ ?_ ?_ ?_⟩
    · exact ⟨none, rfl, Ex.new hfl, upd_same⟩
    · rintro i σ H3 _ ⟨_, _, e3, _⟩
      exact .inl (.inl (e3 _ _ eq))
    · rintro i x σ H3 hx ⟨y5, rfl, e3, hf3⟩
      rw [List.getElem?_map] at hx
      obtain ⟨q', hq', rfl⟩ := Option.map_eq_some_iff.mp hx
      obtain ⟨x, hx', hq1, hq2⟩ := paired_get hpr hq'
      have hq3 := e3 _ _ hq2
      have hi := (List.getElem?_eq_some_iff.mp hx').1
      refine ⟨_, rfl, .inl ⟨rfl, _, .inl (.inl hf3)⟩, _, rfl, q', _, 0, _, rfl, rfl, .inl (.inl hq3), at_head, _, rfl, _, _, rfl, rfl, fl, _, _, rfl, rfl, hf3, ?_, ?_⟩
      · rw [List.length_map, holesI_len, List.length_take]
        exact small1000 (by omega)
      · have hqf : q' ≠ fl := ne_of_none hq2 hfl
        refine ⟨_, rfl, 1, rfl, q', (sgi x).map V.int, -1, _, rfl, rfl, .inl (.inl ?_), at_end, _, _, rfl, rfl, some (.ref q'), ?_, Ex.mut e3 hfl, ?_⟩
        · rw [upd_ne hqf]
          exact hq3
        · rw [take_next hx', endB_snoc]
          rfl
        · rw [upd_same, take_next hx', holesI_snoc, List.map_append]
          rfl
    · rintro σ H3 ⟨y5, rfl, e3, hf3⟩
      rw [List.take_of_length_le (by rw [List.length_map, hlq]; exact Nat.le_refl _)] at hf3 ⊢
      refine ⟨_, rfl, _, rfl, _, rfl, _, _, rfl, rfl, (show 1 ≤ sizeLine by decide), fun u hu => ⟨fl, u, (holesI 0 (segs ns)).map V.int, _, rfl, rfl, ?_, upd_same, ?_, fun t ht => ⟨t, _, rfl, .inl ⟨.inl (.inl upd_same), fun p hp => ?_⟩⟩⟩⟩
      · rw [upd_ne (ne_of_none hf3 hu)]
        exact hf3
      · rw [List.length_map, holesI_len]
        exact Nat.le_of_lt (small1000 (show (segs ns).length + 1 ≤ 1000 by omega))
      · have x1 : Ex H H3 := e1.trans e3
        refine q _ p (((x1.trans (Ex.new hu)).trans (Ex.new ht)).trans (Ex.new hp)) (fresh_back ((x1.trans (Ex.new hu)).trans (Ex.new ht)) hp) ?_
        rw [upd_same]
        unfold holes
        rw [List.map_append]
        rfl
end
end Og

namespace Og
open PySem PySem.Spec PyProof.Rows L2 OgR Evl OgM
def wstr : Wd → Str
  | .new => "new"
  | .beside => "beside"
  | .between => "between"
theorem Cw.new {H H' : Hp} {f : Nat → Bool} {v : Nat → V} {D T : Addr} {i : Nat} {o : HO} (h : Cw H f v D i H') (hT : H' T = none) : Cw H f v D i (upd H' T o) := by
  obtain ⟨h1, h2, h3⟩ := h
  exact ⟨h1, h2.trans (Ex.new hT), by rw [upd_ne (ne_of_none h3 hT)]; exact h3⟩
theorem ixL (K : PySem.W.Frag) {X : Cx} (h : X.K = K := by rfl) : IxR X (rIxL K) := by
  subst h
  exact ix_list
abbrev sPick : Stmt := topS 29
theorem scPick : FnScope ["_law_plot", "_law_there", "_law_runs_so", "_law_left", "_law_near", "_law_some", "_law_at"] ["_law_plot", "_law_there"] (defScope sPick) := ⟨rfl, rfl, rfl, by decide +kernel, rfl, by decide +kernel, by decide +kernel⟩
section
variable {P : Program} {w : World} {K : PySem.W.Frag} {mg : Str → Option Value} {base : Heap}
def spPick (K : PySem.W.Frag) : Sp := fun vs H Q _ => ∃ (b : Bool) (a : Addr) (p : Int) (ns : List Int), vs = [.int p, .ref a] ∧ SqB K b H a (ns.map V.int) ∧ ns.Nodup ∧ p ∉ ns ∧ ns.length ≤ 900 ∧
  ∀ H' t, Ex H H' → H t = none → H' t = some (.tup [.str (wstr (pick p (segs ns)).1), .int ((pick p (segs ns)).2 : Nat)]) → Q (.ref t) H'
theorem ok_pick {f fR : Addr} {fd fdR : FuncData} {k : Nat} (F : Fun K "_law_pick_of" "_law_pick_of" sPick f fd) (FR : Fun K "_law_runs" "_law_runs" sRuns fR fdR) (bR : Binds K fdR ["_law_there"] []) (gR : mg "_law_runs" = some (.ref fR))
    (ms : mg "sorted" = none) (ml : mg "len" = none) (me : mg "enumerate" = none) (mi : mg "int" = none) : FnOk P w K mg base CX0 (k + 2) f fd ["_law_plot", "_law_there"] (spPick K) := by
  have GR : FnOk P w K mg base CX0 (k + 1) fR fdR ["_law_there"] (spRuns K) := ok_runs FR ms
  refine F.ok scPick (fun vs H Q E h => ?_) (fun cdv A outer s H vs Q E hr h => ?_)
  · obtain ⟨_, _, _, _, rfl, _⟩ := h
    rfl
  · obtain ⟨b, a, p, ns, rfl, hS, hnd, hpn, hlen, q⟩ := h
    refine ⟨_, pss_cons (ps_set (i := 2) scPick.nd rfl (.inl rfl) (pe_call GR hr (by rfl) gR FR.kp bR .nil pass0 (pa_cons (pv 1) pa_nil)))
      (pss_cons (ps_set (i := 3) scPick.nd rfl (.inl rfl) (pe_callB call_len_seq (by rfl) ml PySem.boot_len (pa_cons
          (pe_lc (own := [("_law_some", 5)]) (g := gName 5) (by rfl) scPick.nd (pi_list (pv 2)) (blkOk_by (own := [("_law_some", 5)]) (N := ["_law_plot", "_law_there", "_law_runs_so", "_law_left", "_law_near", "_law_some", "_law_at"]) (sc := defScope sPick) (by decide +kernel))
            (fun _ _ _ _ _ => pg_name (i := 5) scPick.nd rfl (Or.inl rfl)) (fun _ _ _ _ _ => pts_one (pt_cmpR op_lt (pe_ix (ixL K) (pv 5) (pe_un un_neg pe_int) (fun _ _ => rfl)) (pv 0) (nomark _))) (fun _ _ _ _ _ => pv 5)) pa_nil)))
      (pss_cons (ps_setLc (i := 4) (own := [("_law_at", 6), ("_law_some", 5)]) (g := gTup K 2 (gCons (gName 6) (gCons (gName 5) gNil))) (by rfl) scPick.nd rfl rfl (sw_true rfl rfl rfl (by decide +kernel)) (pi_enumB (by rfl) me (pa_cons (pv 2) pa_nil))
          (blkOk_by (own := [("_law_at", 6), ("_law_some", 5)]) (N := ["_law_plot", "_law_there", "_law_runs_so", "_law_left", "_law_near", "_law_some", "_law_at"]) (sc := defScope sPick) (by decide +kernel))
          (fun _ _ _ _ _ => pg_tup rfl (pgs_cons (pg_name (i := 6) scPick.nd rfl (Or.inl rfl) (hf := Or.inr rfl)) (pgs_cons (pg_name (i := 5) scPick.nd rfl (Or.inl rfl) (hf := Or.inr rfl)) pgs_nil)))
          (fun _ _ _ _ _ => pts_one (PW.pt (pw_or (pt_cmpR op_eq (pe_op op_sub (pv 0) pe_int) (pe_ix (ixL K) (pv 5) (pe_un un_neg pe_int) (fun _ _ => rfl)) (nomark _)) (pw_or1 (pt_cmpR op_eq (pe_op op_add (pv 0) pe_int) (pe_ix (ixL K) (pv 5) pe_int (fun _ _ => rfl)) (nomark _))))))
          (fun _ _ _ _ _ => pv 6))
      (pss_cons (ps_if (pt_cmpR (op_eqD hr.units) (pv 4) (pe_lst pa_nil) (nomark _)) (pss_one (ps_ret (pe_tup (pa_cons pe_str (pa_cons (pv 3) pa_nil))))) pss_nil)
      (pss_cons (ps_if (pt_cmpR op_eq (pe_callB call_len_seq (by rfl) ml PySem.boot_len (pa_cons (pv 4) pa_nil)) pe_int (nomark _)) (pss_one (ps_ret (pe_tup (pa_cons pe_str (pa_cons (pe_ix ix_list (pv 4) pe_int (fun _ _ => rfl)) pa_nil))))) pss_nil)
      (pss_one (ps_ret (pe_tup (pa_cons pe_str (pa_cons (pe_op op_add (pe_op op_mul pe_int (pe_ix ix_list (pv 4) pe_int (fun _ _ => rfl)))
        (pe_callTy call_int1 (by rfl) mi (by decide +kernel) (pa_cons (pe_cmpR op_lt (pe_ix ix_list (pe_ix ix_list (pv 2) (pe_ix ix_list (pv 4) pe_int (fun _ _ => rfl)) (fun _ _ => rfl)) (pe_un un_neg pe_int) (fun _ _ => rfl)) (pv 0) (nomark _)) pa_nil))) pa_nil))))))))), ?_⟩
    obtain ⟨lo, hlo⟩ := lower ns
    obtain ⟨hok, hmem⟩ := segs_ok hnd hlo
    have hnm : ¬ Mem p (segs ns) := fun m => hpn ((hmem p).mp m)
    have SY := says hok hnm
    have NR := nears hok hnm
    have hsz := segs_len ns
    refine ⟨_, rfl, b, a, ns, rfl, hS, hnd, by omega, fun H1 r e1 hL => ?_⟩
    obtain ⟨qs, eq, hpr, hpq⟩ := hL.ex
    have hlq : qs.length = (segs ns).length := hpr.length
    generalize hg : segs ns = g at *
    have qat : ∀ {i : Nat} {x : V}, (qs.map V.ref)[i]? = some x → ∃ q' y, x = .ref q' ∧ g[i]? = some y ∧ H1 q' = some (.lst ((sgi y).map V.int)) ∧ qs.getD i 0 = q' ∧ g.getD i (0, 0) = y := fun {i x} h => by
      rw [List.getElem?_map] at h
      obtain ⟨q', h1, rfl⟩ := Option.map_eq_some_iff.mp h
      obtain ⟨y, h2, h3⟩ := paired_get hpr h1
      exact ⟨q', y, rfl, h2, h3.2, by rw [List.getD_eq_getElem?_getD, h1]; rfl, by rw [List.getD_eq_getElem?_getD, h2]; rfl⟩
    have hi1 : ∀ {i : Nat} {x : V}, (qs.map V.ref)[i]? = some x → i < 50000 := fun {i x} h => by
      have h2 := (List.getElem?_eq_some_iff.mp h).1
      rw [List.length_map] at h2
      omega
    -- left
    refine ⟨_, rfl, r, rfl, ⟨_, .inl (.inl eq)⟩, fun D hD => lc_list (xs := qs.map V.ref) (Cw H1 (fun i => decide ((g.getD i (0, 0)).1 + ((g.getD i (0, 0)).2 : Int) < p)) (fun i => .ref (qs.getD i 0)) D) ⟨hD, Ex.new hD, upd_same⟩ (fun i H' _ c => .inl (.inl (c.2.1 _ _ eq))) (fun i x H' hx c => ?_) (fun H2 c => ?_)⟩
    · obtain ⟨q', y, rfl, hy, hq', hqd, hyd⟩ := qat hx
      refine ⟨rfl, cw_turn c (hi1 hx) (fun H3 e3 Q' k' => ?_) (fun _ H3 e3 Q' k' => ⟨.ref q', rfl, ?_⟩)⟩
      · have k2 := k' H3 (Ex.refl H3)
        simp only [hyd] at k2
        exact ⟨_, rfl, 1, rfl, q', (sgi y).map V.int, -1, _, rfl, rfl, .inl (.inl (e3 _ _ hq')), at_end, _, rfl, _, _, rfl, rfl, _, rfl, k2⟩
      · have k2 := k' H3 (Ex.refl H3)
        simp only [hqd] at k2
        exact k2
    · obtain ⟨c1, c2, c3⟩ := c
      have hll : (given (qs.map V.ref).length (fun i => decide ((g.getD i (0, 0)).1 + ((g.getD i (0, 0)).2 : Int) < p)) (fun i => V.ref (qs.getD i 0))).length = left p g := by
        unfold given left
        rw [List.length_map, List.length_map, hlq]
        exact range_filter_len (fun x : Seg => decide (x.1 + (x.2 : Int) < p)) (0, 0) g
      refine ⟨D, _, rfl, .inl (.inl (.inl c3)), ?_⟩
      rw [hll]
      have eq2 := c2 _ _ eq
      -- near
      refine ⟨_, rfl, false, r, _, rfl, .inl (.inl eq2), fun N hN => lc_it (walk_enumB (K := K) (b := false) (a := r) (xs := qs.map V.ref)) (Cw H2 (fun i => nearB p (g.getD i (0, 0))) (fun i => .int (i : Nat)) N) ⟨hN, Ex.new hN, upd_same⟩ (fun i H' _ c => .inl (.inl (c.2.1 _ _ eq2))) (fun i x H' H'' hi c y => ?_) (fun H3 c => ?_)⟩
      · obtain ⟨T, x', rfl, hT, rfl, hx⟩ := y
        obtain ⟨q', y, rfl, hy, hq', hqd, hyd⟩ := qat hx
        refine ⟨T, _, rfl, .inl (.inl upd_same), rfl, _, _, rfl, _, _, rfl, rfl, rfl, cw_turn (Og.Cw.new c hT) (hi1 hx) (fun H4 e4 Q' k' => ?_) (fun _ H4 e4 Q' k' => ⟨_, rfl, k' H4 (Ex.refl _)⟩)⟩
        have k2 := k' H4 (Ex.refl H4)
        simp only [hyd, nearB] at k2
        have hq4 := e4 _ _ (c2 _ _ hq')
        refine ⟨_, rfl, _, _, rfl, rfl, _, rfl, 1, rfl, q', (sgi y).map V.int, -1, _, rfl, rfl, .inl (.inl hq4), at_end, rfl, _, rfl, ite2 (fun hc => ?_) (fun hc => ?_)⟩
        · have hc' := V.int.inj (of_decide_eq_true hc)
          rw [decide_eq_true hc'] at k2
          exact k2
        · have hc' : ¬ p - 1 = y.1 + y.2 := fun z => hc (decide_eq_true (congrArg V.int z))
          rw [decide_eq_false hc'] at k2
          refine ⟨_, rfl, _, _, rfl, rfl, _, rfl, q', (sgi y).map V.int, 0, _, rfl, rfl, .inl (.inl hq4), at_head, rfl, _, rfl, ?_⟩
          have hd : decide (V.int (p + 1) = V.int y.1) = decide (p + 1 = y.1) := by
            by_cases z : p + 1 = y.1
            · rw [decide_eq_true z, decide_eq_true (by rw [z])]
            · rw [decide_eq_false z, decide_eq_false (fun u => z (V.int.inj u))]
          show Q' (decide (V.int (p + 1) = V.int y.1)) H4
          rw [hd]
          exact k2
      · obtain ⟨d1, d2, d3⟩ := c
        have hnr : given (qs.map V.ref).length (fun i => nearB p (g.getD i (0, 0))) (fun i => V.int (i : Nat)) = (near p g).map fun (i : Nat) => V.int i := by
          unfold given near
          rw [List.length_map, hlq]
        rw [hnr] at d3
        have eq3 := d2 _ _ eq2
        have x3 : Ex H H3 := e1.trans (c2.trans d2)
        have hni : ((near p g).map fun (i : Nat) => V.int i) = ((near p g).map fun (i : Nat) => (i : Int)).map V.int := by
          rw [List.map_map]
          rfl
        rw [hni] at d3
        have hnl : ((near p g).map fun (i : Nat) => (i : Int)).length = (near p g).length := List.length_map _
        have hne : ∀ {l : List Int}, PyData.eqv (.list (dInts l)) (.list []) = l.isEmpty := fun {l} => by
          cases l <;> simp [dInts, PyData.eqv, PyData.eqvAll]
        have hq3 : ∀ {i : Nat} {y : Seg}, g[i]? = some y → ∃ q', (qs.map V.ref)[i]? = some (.ref q') ∧ H3 q' = some (.lst ((sgi y).map V.int)) := fun {i y} hy => by
          have hlt : i < (qs.map V.ref).length := by
            rw [List.length_map, hlq]
            exact (List.getElem?_eq_some_iff.mp hy).1
          obtain ⟨q', y', e1', hy', hq', _⟩ := qat (List.getElem?_eq_getElem hlt)
          rw [hy] at hy'
          cases hy'
          exact ⟨q', by rw [List.getElem?_eq_getElem hlt, e1'], d2 _ _ (c2 _ _ hq')⟩
        -- near == []
        refine ⟨_, rfl, Nat.zero_le _, fun z hz => ⟨_, _, .lst (.inl (.inl (Ex.new hz _ _ d3))) (dp_ints _), .lst (.inl (.inl upd_same)) .nil, (sh_ints _).1, sh_nil, _, rfl, ?_⟩⟩
        rw [hne]
        have d4 := Ex.new (o := .lst []) hz _ _ d3
        have eq4 := Ex.new (o := .lst []) hz _ _ eq3
        have x4 : Ex H (upd H3 z (.lst [])) := x3.trans (Ex.new hz)
        have hq4 : ∀ {i : Nat} {y : Seg}, g[i]? = some y → ∃ q', (qs.map V.ref)[i]? = some (.ref q') ∧ (upd H3 z (.lst [])) q' = some (.lst ((sgi y).map V.int)) := fun {i y} hy => by
          obtain ⟨q', u1, u2⟩ := hq3 hy
          exact ⟨q', u1, Ex.new hz _ _ u2⟩
        generalize (upd H3 z (.lst [])) = H4 at d4 eq4 x4 hq4
        generalize pick p g = c at SY NR q
        obtain ⟨wd, m⟩ := c
        cases wd with
        | new =>
          rw [NR.n1 rfl]
          refine iteT ⟨_, rfl, (show 2 ≤ sizeLine by decide), fun t ht => q _ t (x4.trans (Ex.new ht)) (fresh_back x4 ht) ?_⟩
          rw [upd_same, (SY.n1 rfl).1]
          rfl
        | between =>
          rw [NR.n2 rfl] at d4 ⊢
          refine iteF ⟨_, rfl, N, _, rfl, .inl (.inl (.inl d4)), rfl, _, rfl, ?_⟩
          refine iteT ⟨_, rfl, N, _, 0, _, rfl, rfl, .inl (.inl d4), rfl, (show 2 ≤ sizeLine by decide), fun t ht => q _ t (x4.trans (Ex.new ht)) (fresh_back x4 ht) ?_⟩
          rw [upd_same]
          rfl
        | beside =>
          obtain ⟨y, f1, f2, f3⟩ := NR.n3 rfl
          simp only at f1 f2 f3
          rw [f1] at d4 ⊢
          obtain ⟨q', u1, u2⟩ := hq4 f2
          refine iteF ⟨_, rfl, N, _, rfl, .inl (.inl (.inl d4)), rfl, _, rfl, ?_⟩
          refine iteF ⟨_, rfl, N, _, 0, _, rfl, rfl, .inl (.inl d4), rfl, _, _, rfl, rfl, .inl ⟨by decide, by decide⟩, _, rfl, _, rfl, N, _, 0, _, rfl, rfl, .inl (.inl d4), rfl, r, _, _, _, rfl, rfl, .inl (.inl eq4), atI_nat u1, 1, rfl, q', _, -1, _, rfl, rfl, .inl (.inl u2), at_end, _, rfl, _, _, rfl, rfl, .inr ⟨_, rfl, _, _, rfl, rfl, (show 2 ≤ sizeLine by decide), fun t ht => q _ t (x4.trans (Ex.new ht)) (fresh_back x4 ht) ?_⟩⟩
          rw [upd_same]
          have hm : ((2 : Int) * ((m / 2 : Nat) : Int) + if decide (y.1 + (y.2 : Int) < p) = true then (1 : Int) else 0) = (m : Int) := by
            by_cases hlt : y.1 + (y.2 : Int) < p
            · rw [if_pos hlt] at f3
              rw [if_pos (decide_eq_true hlt)]
              omega
            · rw [if_neg hlt] at f3
              rw [if_neg (by simp [hlt])]
              omega
          show some (HO.tup [V.str _, V.int (2 * ((m / 2 : Nat) : Int) + if decide (y.1 + (y.2 : Int) < p) = true then (1 : Int) else 0)]) = _
          rw [hm]
          rfl
end
end Og

namespace Og
open PySem PySem.Spec PyProof.Rows L2 OgR Evl OgM
theorem slT (K : PySem.W.Frag) {X : Cx} (h : X.K = K := by rfl) : SlR X (rSlT K) := by
  subst h
  exact sl_tup
theorem cut_to (xs : List V) (j : Nat) : cutV xs none (some (j : Int)) = xs.take j := by
  unfold cutV
  rw [HT.sIx_none, HT.sIx_nat, List.drop_zero, Nat.sub_zero]
  by_cases h : j ≤ xs.length
  · rw [Nat.min_eq_left h]
  · rw [Nat.min_eq_right (by omega), List.take_of_length_le (Nat.le_refl _), List.take_of_length_le (by omega)]
theorem cut_from (xs : List V) (j : Nat) : cutV xs (some (j : Int)) none = xs.drop j := by
  unfold cutV
  rw [HT.sIx_none, HT.sIx_nat]
  by_cases h : j ≤ xs.length
  · rw [Nat.min_eq_left h, List.take_of_length_le (by rw [List.length_drop]; exact Nat.le_refl _)]
  · rw [Nat.min_eq_right (by omega), Nat.sub_self, List.take_zero, List.drop_of_length_le (by omega)]
/-- choices, as a list or tuple (b) of lists or tuples (b') -/
def chV (c : Ch) : List V := [.str (wstr c.1), .int (c.2 : Nat)]
def ChIs (K : PySem.W.Frag) (b b' : Bool) (H : Hp) (a : Addr) (cs : List Ch) : Prop := ∃ ts : List Addr, SqB K b H a (ts.map V.ref) ∧ Paired (fun t c => SqB K b' H t (chV c)) ts cs
theorem ChIs.ex {K : PySem.W.Frag} {b b' : Bool} {H H' : Hp} {a : Addr} {cs : List Ch} (e : Ex H H') (h : ChIs K b b' H a cs) : ChIs K b b' H' a cs := by
  obtain ⟨ts, h1, h2⟩ := h
  exact ⟨ts, h1.ex e, h2.mono fun _ _ x => x.ex e⟩
abbrev sPicks : Stmt := topS 30
theorem scPicks : FnScope ["_law_queue_here", "_law_spot", "_law_plot"] ["_law_queue_here"] (defScope sPicks) := ⟨rfl, rfl, rfl, by decide +kernel, rfl, by decide +kernel, by decide +kernel⟩
section
variable {P : Program} {w : World} {K : PySem.W.Frag} {mg : Str → Option Value} {base : Heap}
def spPicks (K : PySem.W.Frag) : Sp := fun vs H Q _ => ∃ (a : Addr) (ns : List Int), vs = [.ref a] ∧ SqT K H a (ns.map V.int) ∧ ns.Nodup ∧ ns.length ≤ 900 ∧
  ∀ H' t, Ex H H' → ChIs K true true H' t (picks ns) → Q (.ref t) H'
theorem nodup_fresh {row : List Int} (h : row.Nodup) {i : Nat} {p : Int} (e : row[i]? = some p) : p ∉ row.take i := by
  intro m
  obtain ⟨j, hj⟩ := List.getElem?_of_mem m
  rw [List.getElem?_take] at hj
  split at hj
  · rename_i lt
    obtain ⟨a, ea⟩ := List.getElem?_eq_some_iff.mp e
    obtain ⟨b, eb⟩ := List.getElem?_eq_some_iff.mp hj
    have := (List.getElem_inj h).mp (eb.trans ea.symm)
    omega
  · cases hj
theorem ok_picks {f fP fR : Addr} {fd fdP fdR : FuncData} {k : Nat} (F : Fun K "_law_picks" "_law_picks" sPicks f fd) (FP : Fun K "_law_pick_of" "_law_pick_of" sPick fP fdP) (bP : Binds K fdP ["_law_plot", "_law_there"] []) (gP : mg "_law_pick_of" = some (.ref fP))
    (FR : Fun K "_law_runs" "_law_runs" sRuns fR fdR) (bR : Binds K fdR ["_law_there"] []) (gR : mg "_law_runs" = some (.ref fR))
    (ms : mg "sorted" = none) (ml : mg "len" = none) (me : mg "enumerate" = none) (mi : mg "int" = none) (mt : mg "tuple" = none) : FnOk P w K mg base CX0 (k + 3) f fd ["_law_queue_here"] (spPicks K) := by
  have GP : FnOk P w K mg base CX0 (k + 2) fP fdP ["_law_plot", "_law_there"] (spPick K) := ok_pick FP FR bR gR ms ml me mi
  refine F.ok scPicks (fun vs H Q E h => ?_) (fun cdv A outer s H vs Q E hr h => ?_)
  · obtain ⟨_, _, rfl, _⟩ := h
    rfl
  · obtain ⟨a, ns, rfl, hS, hnd, hlen, q⟩ := h
    refine ⟨_, pss_one (ps_ret (pe_callTy call_tuple_of (by rfl) mt (by decide +kernel) (pa_cons
        (pe_lc (own := [("_law_spot", 1), ("_law_plot", 2)]) (g := gTup K 2 (gCons (gName 1) (gCons (gName 2) gNil))) (by rfl) scPicks.nd (pi_enumB (by rfl) me (pa_cons (pv 0) pa_nil))
          (blkOk_by (own := [("_law_spot", 1), ("_law_plot", 2)]) (N := ["_law_queue_here", "_law_spot", "_law_plot"]) (sc := defScope sPicks) (by decide +kernel))
          (fun _ _ _ _ _ => pg_tup rfl (pgs_cons (pg_name (i := 1) scPicks.nd rfl (Or.inl rfl) (hf := Or.inr rfl)) (pgs_cons (pg_name (i := 2) scPicks.nd rfl (Or.inl rfl) (hf := Or.inr rfl)) pgs_nil)))
          (fun _ _ _ _ _ => pts_nil)
          (fun _ _ _ _ _ => pe_call GP hr (by rfl) gP FP.kp bP .nil pass0 (pa_cons (pv 2) (pa_cons (pe_slice (slT K) (pv 0) po_none (po_some (pv 1))) pa_nil)))) pa_nil))), ?_⟩
    refine ⟨_, rfl, true, a, _, rfl, hS, fun D hD => lc_it (walk_enumB (K := K) (b := true) (a := a) (xs := ns.map V.int))
      (fun i H' => Ex H H' ∧ ∃ ts : List Addr, H' D = some (.lst (ts.map V.ref)) ∧ Paired (fun t c => H' t = some (.tup (chV c))) ts ((picks ns).take i)) ⟨Ex.new hD, [], upd_same, by rw [List.take_zero]; exact .nil⟩ (fun i H' _ c => SqB.ex c.1 hS) (fun i x H' H'' hi c y => ?_) (fun H2 c => ?_)⟩
    · obtain ⟨T, x', rfl, hT, rfl, hx⟩ := y
      obtain ⟨c1, ts, c2, c3⟩ := c
      rw [List.getElem?_map] at hx
      obtain ⟨p, hp, rfl⟩ := Option.map_eq_some_iff.mp hx
      have hil := (List.getElem?_eq_some_iff.mp hp).1
      have x1 : Ex H' (upd H' T (.tup [.int (i : Nat), .int p])) := Ex.new hT
      refine ⟨T, _, rfl, .inl (.inl upd_same), rfl, _, _, rfl, _, _, rfl, rfl, rfl, _, rfl, _, rfl, _, rfl, _, rfl, a, ns.map V.int, rfl, ex_t (c1.trans x1) hS, ?_, fun S hS' => ?_⟩
      · rw [HT.sIx_none, HT.sIx_nat, List.length_map]
        omega
      · rw [cut_to, ← List.map_take]
        have x2 := x1.trans (Ex.new (o := .tup ((ns.take i).map V.int)) hS')
        refine ⟨true, S, p, ns.take i, rfl, .inl (.inl upd_same), hnd.sublist (List.take_sublist _ _), nodup_fresh hnd hp, by rw [List.length_take]; omega, fun H4 t e4 ht htv => ?_⟩
        have x4 : Ex H' H4 := x2.trans e4
        have hD4 := x4 _ _ c2
        refine ⟨_, hD4, ?_, Ex.mut (c1.trans x4) hD, ts ++ [t], ?_, ?_⟩
        · rw [List.length_map, c3.length, List.length_take]
          exact small1000 (by omega)
        · rw [upd_same, List.map_append]
          rfl
        · rw [take_next (picks_get hp)]
          refine Paired.snoc (c3.mono fun t' c' h' => ?_) ?_
          · have h5 := x4 _ _ h'
            rw [upd_ne (ne_of h5 hD4 (by intro z; cases z))]
            exact h5
          · rw [upd_ne (ne_of htv hD4 (by intro z; cases z))]
            exact htv
    · obtain ⟨c1, ts, c2, c3⟩ := c
      rw [List.take_of_length_le (by rw [picks_len, List.length_map]; exact Nat.le_refl _)] at c3
      refine ⟨D, _, rfl, .inl ⟨.inl (.inl c2), fun t ht => q _ t (c1.trans (Ex.new ht)) ⟨ts, .inl (.inl upd_same), ?_⟩⟩⟩
      refine c3.mono fun t' c' h' => .inl (.inl ?_)
      rw [upd_ne (ne_of_none h' ht)]
      exact h'
end
end Og

namespace Og
open PySem PySem.Spec PyProof.Rows L2 OgR Evl OgM
theorem opIn (K : PySem.W.Frag) {X : Cx} (h : X.K = K := by rfl) : OpR X (compareOp .In) (rIn K false) := by
  subst h
  exact op_in_seq
/-- all but l as it was -/
def ExB (l : Addr) (H H' : Hp) : Prop := ∀ a o, a ≠ l → H a = some o → H' a = some o
theorem ExB.of {l : Addr} {H H' : Hp} (e : Ex H H') : ExB l H H' := fun a o _ h => e a o h
theorem ExB.trans {l : Addr} {H H1 H2 : Hp} (a : ExB l H H1) (b : ExB l H1 H2) : ExB l H H2 := fun x o n h => b x o n (a x o n h)
theorem ExB.box {l : Addr} {H : Hp} {o : HO} : ExB l H (upd H l o) := fun x u n h => by
  rw [upd_ne n]
  exact h
theorem ExB.mut {l p : Addr} {H H' : Hp} {o : HO} (e : ExB l H H') (h : H p = none) : ExB l H (upd H' p o) := fun x u n hx => by
  rw [upd_ne (ne_of_none hx h)]
  exact e x u n hx
theorem BoxAt.ex {H H' : Hp} {l : Addr} {c : Int} (h : BoxAt H l c) (e : Ex H H') : BoxAt H' l c := by
  obtain ⟨a, b, h1, h2⟩ := h
  exact ⟨a, b, e _ _ h1, h2⟩
theorem BoxAt.at {H : Hp} {l : Addr} {c : Int} (h : BoxAt H l c) : ∃ xs, H l = some (.lst xs) := by
  obtain ⟨a, b, h1, _⟩ := h
  exact ⟨_, h1⟩
theorem BoxAt.upd {H : Hp} {l p : Addr} {c : Int} {o : HO} (h : BoxAt H l c) (n : l ≠ p) : BoxAt (upd H p o) l c := by
  obtain ⟨a, b, h1, h2⟩ := h
  exact ⟨a, b, by rw [upd_ne n]; exact h1, h2⟩
abbrev sQueue : Stmt := topS 28
theorem scQueue : FnScope ["_law_box_here", "_law_count", "_law_size", "_law_left", "_law_found", "_law_near", "_law_spot", "_law_some", "_law_plot"] ["_law_box_here", "_law_count", "_law_size"] (defScope sQueue) := ⟨rfl, rfl, rfl, by decide +kernel, rfl, by decide +kernel, by decide +kernel⟩
section
variable {P : Program} {w : World} {K : PySem.W.Frag} {mg : Str → Option Value} {base : Heap}
def spQueue : Sp := fun vs H Q _ => ∃ (l : Addr) (c : Int) (n m : Nat), vs = [.ref l, .int n, .int m] ∧ BoxAt H l c ∧ n ≤ 100 ∧ m ≤ n ∧ c ≤ 900000 ∧
  ∀ H' t row c', ExB l H H' → BoxAt H' l c' → c' ≤ c + 1 + 2 * m → OgM.Row n row → row.length = m → H t = none → H' t = some (.tup (row.map V.int)) → Q (.ref t) H'
structure QInv (H : Hp) (l lf fo : Addr) (B : Int) (n i : Nat) (H3 : Hp) (c3 : Int) (lft row : List Int) : Prop where
  ex : ExB l H H3
  box : BoxAt H3 l c3
  hc : c3 ≤ B
  atL : H3 lf = some (.lst (lft.map V.int))
  atF : H3 fo = some (.lst (row.map V.int))
  nlf : lf ≠ l
  nfo : fo ≠ l
  nlo : lf ≠ fo
  fof : H fo = none
  rok : OgM.Row n row
  len : row.length = i
  nd : lft.Nodup
  mem : ∀ p, p ∈ lft ↔ (0 ≤ p ∧ p < n) ∧ p ∉ row
  cnt : lft.length + i = n
section
variable {H : Hp} {l lf fo : Addr} {B : Int} {n i : Nat} {H3 : Hp} {c3 : Int} {lft row : List Int}
theorem QInv.exx {H4 : Hp} (h : QInv H l lf fo B n i H3 c3 lft row) (e : Ex H3 H4) : QInv H l lf fo B n i H4 c3 lft row :=
  { h with ex := h.ex.trans (.of e), box := h.box.ex e, atL := e _ _ h.atL, atF := e _ _ h.atF }
theorem QInv.boxed {c4 B' : Int} {o : HO} (h : QInv H l lf fo B n i H3 c3 lft row) (b : BoxAt (L2.upd H3 l o) l c4) (hb : c4 ≤ B') : QInv H l lf fo B' n i (L2.upd H3 l o) c4 lft row :=
  { h with ex := h.ex.trans .box, box := b, hc := hb, atL := by rw [upd_ne h.nlf]; exact h.atL, atF := by rw [upd_ne h.nfo]; exact h.atF }
theorem QInv.step {D : Addr} {z B' : Int} (h : QInv H l lf fo B n i H3 c3 lft row) (hb : c3 ≤ B') (hz : z ∈ lft) (hD : (upd H3 fo (.lst ((row ++ [z]).map V.int))) D = none) {H4 : Hp}
    (e : Ex (upd H3 fo (.lst ((row ++ [z]).map V.int))) H4) (at4 : H4 D = some (.lst ((lft.filter (· != z)).map V.int))) : QInv H l D fo B' n (i + 1) H4 c3 (lft.filter (· != z)) (row ++ [z]) := by
  have hz' := (h.mem z).mp hz
  obtain ⟨xs, hxl⟩ := h.box.at
  have b5 : BoxAt (upd H3 fo (.lst ((row ++ [z]).map V.int))) l c3 := h.box.upd (Ne.symm h.nfo)
  obtain ⟨xs5, hx5⟩ := b5.at
  refine ⟨(h.ex.mut h.fof).trans (.of e), b5.ex e, hb, at4, e _ _ upd_same, Ne.symm (ne_of_none hx5 hD), h.nfo, Ne.symm (ne_of_none upd_same hD), h.fof, ⟨?_, ?_, ?_⟩, ?_, h.nd.filter _, fun p => ?_, ?_⟩
  · rw [List.nodup_append]
    refine ⟨h.rok.nd, by simp, fun a ha b hb' e' => ?_⟩
    rw [List.mem_singleton.mp hb'] at e'
    subst e'
    exact hz'.2 ha
  · intro p hp
    rcases List.mem_append.mp hp with hp | hp
    · exact h.rok.lo p hp
    · rw [List.mem_singleton.mp hp]
      exact hz'.1.1
  · intro p hp
    rcases List.mem_append.mp hp with hp | hp
    · exact h.rok.hi p hp
    · rw [List.mem_singleton.mp hp]
      exact hz'.1.2
  · rw [List.length_append, h.len]
    rfl
  · rw [List.mem_filter, h.mem p]
    simp
    exact ⟨fun ⟨⟨a, b⟩, c⟩ => ⟨a, b, c⟩, fun ⟨a, b, c⟩ => ⟨⟨a, b⟩, c⟩⟩
  · have := filter_ne_len h.nd hz
    have := h.cnt
    omega
end
theorem eq_bool (a b : Int) : decide (V.int a = V.int b) = decide (a = b) := by
  by_cases h : a = b
  · rw [decide_eq_true h, decide_eq_true (congrArg V.int h)]
  · rw [decide_eq_false h, decide_eq_false fun u => h (V.int.inj u)]
theorem ne_bool (a b : Int) : (!decide (V.int a = V.int b)) = (a != b) := by
  rw [eq_bool]
  by_cases h : a = b
  · rw [decide_eq_true h]
    simp [h]
  · rw [decide_eq_false h]
    simp [h]
theorem flat_ints (l : List Int) : (l.map V.int).all flatV = true := by
  rw [List.all_map, List.all_eq_true]
  exact fun x _ => rfl
theorem given_ints (P : Int → Bool) (l : List Int) : given (l.map V.int).length (fun i => P (l.getD i 0)) (fun i => V.int (l.getD i 0)) = (l.filter P).map V.int := by
  unfold given
  rw [List.length_map, ← range_filter_map P 0 l, List.map_map]
  rfl
theorem ok_queue {f fT fO : Addr} {fd fdT fdO : FuncData} (F : Fun K "_law_queue" "_law_queue" sQueue f fd) (FT : Fun K "_law_take" "_law_take" sTake fT fdT) (bT : Binds K fdT ["_law_box_here", "_law_below"] []) (gT : mg "_law_take" = some (.ref fT))
    (FO : Fun K "_law_of" "_law_of" sOf fO fdO) (bO : Binds K fdO ["_law_box_here", "_law_some"] []) (gO : mg "_law_of" = some (.ref fO))
    (ml : mg "len" = none) (mli : mg "list" = none) (mr : mg "range" = none) (mt : mg "tuple" = none) : FnOk P w K mg base CX0 3 f fd ["_law_box_here", "_law_count", "_law_size"] spQueue := by
  have GT : FnOk P w K mg base CX0 1 fT fdT ["_law_box_here", "_law_below"] spTake := ok_take FT
  have GO : FnOk P w K mg base CX0 2 fO fdO ["_law_box_here", "_law_some"] (spOf K) := ok_of FO FT bT gT ml
  refine F.ok scQueue (fun vs H Q E h => ?_) (fun cdv A outer s H vs Q E hr h => ?_)
  · obtain ⟨_, _, _, _, rfl, _⟩ := h
    rfl
  · obtain ⟨l, c, n, m, rfl, hB, hn, hm, hc, q⟩ := h
    have hr1 := hr.mono (show 1 ≤ 2 by decide)
    refine ⟨_, pss_cons (ps_asg (pe_tup (pa_cons (pe_listRg (by rfl) (by rfl) mli (prg_1 (by rfl) mr (pv 1))) (pa_cons (pe_lst pa_nil) (pa_cons (pe_call GT hr1 (by rfl) gT FT.kp bT .nil pass0 (pa_cons (pv 0) (pa_cons pe_int pa_nil))) pa_nil))))
        (pg_tup rfl (pgs_cons (pg_name (i := 3) scQueue.nd rfl (.inl rfl)) (pgs_cons (pg_name (i := 4) scQueue.nd rfl (.inr rfl)) (pgs_cons (pg_name (i := 5) scQueue.nd rfl (.inl rfl)) pgs_nil)))))
      (pss_cons (ps_for PassesOwn.never rfl (pi_range1 rfl mr (pa_cons (pv 2) pa_nil)) (pg_name (i := 6) scQueue.nd rfl (.inl rfl))
        (pss_cons (ps_setLc (i := 7) (own := [("_law_plot", 8)]) (g := gName 8) (by rfl) scQueue.nd rfl rfl (sw_true rfl rfl rfl (by decide +kernel)) (pi_list (pv 3))
            (blkOk_by (own := [("_law_plot", 8)]) (N := ["_law_box_here", "_law_count", "_law_size", "_law_left", "_law_found", "_law_near", "_law_spot", "_law_some", "_law_plot"]) (sc := defScope sQueue) (by decide +kernel))
            (fun _ _ _ _ _ => pg_name (i := 8) scQueue.nd rfl (Or.inl rfl) (hf := Or.inr rfl))
            (fun _ _ _ _ _ => pts_one (PW.pt (pw_or (pt_cmpR (opIn K) (pe_op op_sub (pv 8) pe_int) (pv 4) (by rfl)) (pw_or1 (pt_cmpR (opIn K) (pe_op op_add (pv 8) pe_int) (pv 4) (by rfl))))))
            (fun _ _ _ _ _ => pv 8))
        (pss_cut (ps_set (i := 7) scQueue.nd rfl (.inl rfl) (pe_ifExp (PW.pt (pw_and (pt_cmpR op_eq (pv 5) pe_int (nomark _)) (pw_and (pt_cmpR (op_neD hr.units) (pv 7) (pe_lst pa_nil) (nomark _)) (pw_and1 (pt_cmpR op_gt (pe_call GT hr1 (by rfl) gT FT.kp bT .nil pass0 (pa_cons (pv 0) (pa_cons pe_int pa_nil))) pe_int (nomark _)))))) (pv 7) (pv 3)))
        (pss_cons (ps_expr (pe_bm PySem.F.plainAttrs_list PySem.F.slot_list_append PySem.F.type_list_append mt_append (pv 4) (pa_cons (pe_call GO hr (by rfl) gO FO.kp bO .nil pass0 (pa_cons (pv 0) (pa_cons (pv 7) pa_nil))) pa_nil)))
        (pss_one (ps_setLc (i := 3) (own := [("_law_plot", 8)]) (g := gName 8) (by rfl) scQueue.nd rfl rfl (sw_true rfl rfl rfl (by decide +kernel)) (pi_list (pv 3))
            (blkOk_by (own := [("_law_plot", 8)]) (N := ["_law_box_here", "_law_count", "_law_size", "_law_left", "_law_found", "_law_near", "_law_spot", "_law_some", "_law_plot"]) (sc := defScope sQueue) (by decide +kernel))
            (fun _ _ _ _ _ => pg_name (i := 8) scQueue.nd rfl (Or.inl rfl) (hf := Or.inr rfl))
            (fun _ _ _ _ _ => pts_one (pt_cmpR op_ne (pv 8) (pe_ix (ixL K) (pv 4) (pe_un un_neg pe_int) (fun _ _ => rfl)) (nomark _)))
            (fun _ _ _ _ _ => pv 8)))))))
      (pss_one (ps_ret (pe_callTy call_tuple_of (by rfl) mt (by decide +kernel) (pa_cons (pv 4) pa_nil))))), ?_⟩
    refine ⟨_, rfl, n, rfl, RgOk.of_le (by omega) (by omega) (by omega) (by omega), fun lf hlf => ⟨Nat.zero_le _, fun fo hfo => ?_⟩⟩
    obtain ⟨bx, hbx⟩ := hB.at
    have nl1 : l ≠ lf := ne_of_none hbx hlf
    have x1 : Ex H (upd H lf (.lst (rgV 0 n))) := Ex.new hlf
    have nl2 : l ≠ fo := ne_of_none (x1 _ _ hbx) hfo
    have x2 : Ex H (upd (upd H lf (.lst (rgV 0 n))) fo (.lst [])) := x1.trans (Ex.new hfo)
    have nlo : lf ≠ fo := ne_of_none upd_same hfo
    have hrg : rgV 0 n = ((List.range n).map fun (i : Nat) => (i : Int)).map V.int := by
      unfold rgV
      rw [List.map_map, Int.sub_zero, Int.toNat_natCast]
      refine List.map_congr_left fun a _ => ?_
      show V.int (0 + (a : Int)) = V.int a
      rw [Int.zero_add]
    refine ⟨_, rfl, l, c, 3, rfl, hB.ex x2, by decide, by decide, by omega, fun near xs c1 r0 r1 hB1 hc1 => ⟨(show 3 ≤ sizeLine by decide), fun T hT => ⟨T, _, rfl, .inl (.inl upd_same), rfl, _, _, rfl, _, _, rfl, _, _, rfl, rfl, ?_⟩⟩⟩
    have Q0 : QInv H l lf fo (c + 1) n 0 (upd (upd (upd H lf (.lst (rgV 0 n))) fo (.lst [])) l (.lst xs)) c1 ((List.range n).map fun (i : Nat) => (i : Int)) [] := by
      refine ⟨(ExB.of x2).trans .box, hB1, hc1, ?_, ?_, Ne.symm nl1, Ne.symm nl2, nlo, fresh_back x1 hfo, ⟨List.nodup_nil, by simp, by simp⟩, rfl, ?_, fun p => ?_, by simp⟩
      · rw [upd_ne (Ne.symm nl1), upd_ne nlo, upd_same, hrg]
      · rw [upd_ne (Ne.symm nl2), upd_same]
        rfl
      · rw [List.nodup_iff_pairwise_ne, List.pairwise_map]
        exact List.nodup_range.imp fun {a b} h z => h (by omega)
      · simp only [List.mem_map, List.mem_range]
        constructor
        · rintro ⟨a, ha, rfl⟩
          exact ⟨⟨by omega, by omega⟩, by simp⟩
        · rintro ⟨⟨h1, h2⟩, _⟩
          exact ⟨p.toNat, by omega, by omega⟩
    replace Q0 := Q0.exx (Ex.new (o := .tup [.ref lf, .ref fo, .int near]) hT)
    refine ⟨_, rfl, m, rfl, by omega, by omega, for_range (lo := 0) (n := (m : Int).toNat) (fun i σ H3 => ∃ lf' y6 y7 c3 lft row, σ = [some (.ref l), some (.int n), some (.int m), some (.ref lf'), some (.ref fo), some (.int near), y6, y7, none] ∧ QInv H l lf' fo (c + 1 + 2 * i) n i H3 c3 lft row) ?_ ?_ ?_⟩
    · exact ⟨lf, none, none, c1, _, _, rfl, { Q0 with hc := by have := Q0.hc; omega }⟩
    · rintro i σ H3 hi ⟨lf', y6, y7, c3, lft, row, rfl, QI⟩
      have him : i < m := by omega
      have hlen : lft.length ≤ 100 := by have := QI.cnt; omega
      have hll : 0 < lft.length := by have := QI.cnt; omega
      have hi1 : ∀ {j : Nat} {x : V}, (lft.map V.int)[j]? = some x → j < 50000 ∧ x = .int (lft.getD j 0) := fun {j x} h => by
        have h2 := (List.getElem?_eq_some_iff.mp h).1
        rw [List.length_map] at h2
        refine ⟨by omega, ?_⟩
        rw [List.getElem?_map, List.getElem?_eq_getElem h2] at h
        rw [List.getD_eq_getElem?_getD, List.getElem?_eq_getElem h2]
        exact (Option.some.inj h).symm
      refine ⟨_, rfl, lf', rfl, ⟨_, .inl (.inl QI.atL)⟩, fun D hD => lc_list (xs := lft.map V.int) (Cw H3 (fun j => (fun p : Int => inV (.int (p - 1)) (row.map V.int) || inV (.int (p + 1)) (row.map V.int)) (lft.getD j 0)) (fun j => .int (lft.getD j 0)) D) ⟨hD, Ex.new hD, upd_same⟩ (fun j H' _ c => .inl (.inl (c.2.1 _ _ QI.atL))) (fun j x H' hx c => ?_) (fun H4 c => ?_)⟩
      · obtain ⟨hj, rfl⟩ := hi1 hx
        refine ⟨rfl, cw_turn c hj (fun H5 e5 Q' k' => ?_) (fun _ H5 e5 Q' k' => ⟨_, rfl, k' H5 (Ex.refl _)⟩)⟩
        have k2 := k' H5 (Ex.refl H5)
        have hf5 := e5 _ _ QI.atF
        refine ⟨_, rfl, _, _, rfl, rfl, _, rfl, fo, row.map V.int, rfl, .inl (.inl (.inl hf5)), rfl, flat_ints row, _, rfl, ?_⟩
        simp only at k2
        show if inV (V.int (lft.getD j 0 - 1)) (row.map V.int) = true then _ else _
        cases hb : inV (V.int (lft.getD j 0 - 1)) (row.map V.int) with
        | true =>
          rw [hb] at k2
          exact iteT k2
        | false =>
          rw [hb] at k2
          exact iteF ⟨_, rfl, _, _, rfl, rfl, _, rfl, fo, row.map V.int, rfl, .inl (.inl (.inl hf5)), rfl, flat_ints row, _, rfl, k2⟩
      · obtain ⟨d1, d2, d3⟩ := c
        rw [given_ints (fun p : Int => inV (.int (p - 1)) (row.map V.int) || inV (.int (p + 1)) (row.map V.int))] at d3
        have Q4 := QI.exx d2
        have hsub : ∀ z ∈ lft.filter (fun p : Int => inV (.int (p - 1)) (row.map V.int) || inV (.int (p + 1)) (row.map V.int)), z ∈ lft := fun z hz => (List.mem_filter.mp hz).1
        have hsl : (lft.filter (fun p : Int => inV (.int (p - 1)) (row.map V.int) || inV (.int (p + 1)) (row.map V.int))).length ≤ lft.length := List.length_filter_le _ _
        generalize lft.filter (fun p : Int => inV (.int (p - 1)) (row.map V.int) || inV (.int (p + 1)) (row.map V.int)) = zs at d3 hsub hsl
        obtain ⟨b4, hb4⟩ := Q4.box.at
        obtain ⟨b3, hb3⟩ := QI.box.at
        have nDl : D ≠ l := Ne.symm (ne_of_none hb3 d1)
        -- the mid point: some
        refine ⟨fun σ' H5 => ∃ (sm : Addr) (y6 : Option V) (ys : List Int) (c5 : Int), σ' = [some (.ref l), some (.int n), some (.int m), some (.ref lf'), some (.ref fo), some (.int near), y6, some (.ref sm), none] ∧ QInv H l lf' fo (c + 2 + 2 * i) n i H5 c5 lft row ∧ H5 sm = some (.lst (ys.map V.int)) ∧ sm ≠ l ∧ (∀ z ∈ ys, z ∈ lft) ∧ 1 ≤ ys.length ∧ ys.length ≤ 1000, ?_, ?_⟩
        · refine ⟨_, rfl, rfl, _, rfl, ite2 (fun e => ?_) (fun e => ?_)⟩
          · refine ⟨_, rfl, Nat.zero_le _, fun u hu => ⟨_, _, .lst (.inl (.inl (Ex.new hu _ _ d3))) (dp_ints zs), .lst (.inl (.inl upd_same)) .nil, (sh_ints zs).1, sh_nil, _, rfl, ?_⟩⟩
            have x5 : Ex H4 (upd H4 u (.lst [])) := Ex.new hu
            have Q5 := Q4.exx x5
            have d5 := x5 _ _ d3
            generalize upd H4 u (.lst []) = H5 at Q5 d5
            cases zs with
            | nil => exact iteF (iteF ⟨_, rfl, lf', _, lft, c3, rfl, { Q5 with hc := by have := Q5.hc; omega }, Q5.atL, Q5.nlf, fun z hz => hz, hll, by omega⟩)
            | cons z0 zr =>
              have hne : (!PyData.eqv (.list (dInts (z0 :: zr))) (.list [])) = true := by simp [dInts, PyData.eqv, PyData.eqvAll]
              rw [hne]
              refine iteT ⟨_, rfl, l, c3, 4, rfl, Q5.box, by decide, by decide, by have := Q5.hc; omega, fun r ys c' r0 r1 hB' hc' => ⟨_, _, rfl, rfl, _, rfl, ?_⟩⟩
              have Q6 : QInv H l lf' fo (c + 2 + 2 * i) n i (upd H5 l (.lst ys)) c' lft row := Q5.boxed hB' (by have := Q5.hc; omega)
              refine ite2 (fun e => ⟨_, rfl, D, _, z0 :: zr, c', rfl, Q6, ?_, nDl, hsub, by simp, by omega⟩) (fun e => ⟨_, rfl, lf', _, lft, c', rfl, Q6, Q6.atL, Q6.nlf, fun z hz => hz, hll, by omega⟩)
              rw [upd_ne nDl]
              exact d5
          · exact iteF ⟨_, rfl, lf', _, lft, c3, rfl, { Q4 with hc := by have := Q4.hc; omega }, Q4.atL, Q4.nlf, fun z hz => hz, hll, by omega⟩
        · rintro σ' H5 ⟨sm, y6', ys, c5, rfl, Q5, hsm, nsm, hys, hy1, hy2⟩
          refine ⟨_, rfl, .inl ⟨rfl, _, .inl (.inl Q5.atF)⟩, _, rfl, _, rfl, l, sm, c5, false, ys.map V.int, rfl, Q5.box, Ne.symm nsm, .inl (.inl hsm), by rw [List.length_map]; exact hy1, by rw [List.length_map]; exact hy2, by have := Q5.hc; omega, fun r x us c' hx hB' hc' => ?_⟩
          rw [List.getElem?_map] at hx
          obtain ⟨z, hz, rfl⟩ := Option.map_eq_some_iff.mp hx
          have hzl : z ∈ lft := hys z (List.mem_of_getElem? hz)
          have Q6 : QInv H l lf' fo (c + 3 + 2 * i) n i (upd H5 l (.lst us)) c' lft row := Q5.boxed hB' (by have := Q5.hc; omega)
          refine ⟨fo, row.map V.int, _, rfl, rfl, Q6.atF, ?_, ?_⟩
          · rw [List.length_map, Q6.len]
            exact small1000 (by omega)
          · have hmap : row.map V.int ++ [V.int z] = (row ++ [z]).map V.int := by
              rw [List.map_append]
              rfl
            rw [hmap]
            generalize upd H5 l (.lst us) = H6 at Q6
            have atL7 : (upd H6 fo (.lst ((row ++ [z]).map V.int))) lf' = some (.lst (lft.map V.int)) := by
              rw [upd_ne Q6.nlo]
              exact Q6.atL
            refine ⟨_, rfl, lf', rfl, ⟨_, .inl (.inl atL7)⟩, fun D2 hD2 => lc_list (xs := lft.map V.int) (Cw (upd H6 fo (.lst ((row ++ [z]).map V.int))) (fun j => (fun p : Int => p != z) (lft.getD j 0)) (fun j => .int (lft.getD j 0)) D2) ⟨hD2, Ex.new hD2, upd_same⟩ (fun j H' _ c => .inl (.inl (c.2.1 _ _ atL7))) (fun j x H' hx c => ?_) (fun H7 c => ?_)⟩
            · obtain ⟨hj, rfl⟩ := hi1 hx
              refine ⟨rfl, cw_turn c hj (fun H8 e8 Q' k' => ?_) (fun _ H8 e8 Q' k' => ⟨_, rfl, k' H8 (Ex.refl _)⟩)⟩
              have k2 := k' H8 (Ex.refl H8)
              have hl8 : atI ((row ++ [z]).map V.int) (-1) = some (.int z) := by
                rw [List.map_append]
                exact atI_last _ _
              refine ⟨_, rfl, _, rfl, 1, rfl, fo, _, -1, _, rfl, rfl, .inl (.inl (e8 _ _ upd_same)), hl8, rfl, _, rfl, ?_⟩
              have hbb := ne_bool (lft.getD j 0) z
              rw [hbb]
              exact k2
            · obtain ⟨g1, g2, g3⟩ := c
              rw [given_ints (fun p : Int => p != z)] at g3
              exact ⟨D2, _, _, c', _, _, rfl, Q6.step (by have := Q6.hc; omega) hzl hD2 g2 g3⟩
    · rintro σ H3 ⟨lf', y6, y7, c3, lft, row, rfl, QI⟩
      rw [Int.toNat_natCast] at QI
      refine ⟨_, rfl, fo, _, rfl, .inl ⟨.inl (.inl QI.atF), fun t ht => ?_⟩⟩
      have x4 : Ex H3 (upd H3 t (.tup (row.map V.int))) := Ex.new ht
      refine q _ t row c3 (QI.ex.trans (.of x4)) (QI.box.ex x4) QI.hc QI.rok QI.len ?_ upd_same
      cases hh : H t with
      | none => rfl
      | some o =>
        by_cases ntl : t = l
        · subst ntl
          obtain ⟨bb, hbb⟩ := QI.box.at
          rw [hbb] at ht
          cases ht
        · rw [QI.ex t o ntl hh] at ht
          cases ht
end
end Og

namespace Og
open PySem PySem.Spec PyProof.Rows L2 OgR Evl OgM
theorem ixT (K : PySem.W.Frag) {X : Cx} (h : X.K = K := by rfl) : IxR X (rIxT K) := by
  subst h
  exact ix_tup
/-! ### a dict that marks plots -/
def dk (v : V) (l : List Int) : List (Key × V) := l.map fun p => ((Sum.inl p : Key), v)
theorem dk_val (v : V) (k : Int) : ∀ l : List Int, valV (dk v l) (Sum.inl k) = if k ∈ l then some v else none
  | [] => by simp [dk, valV]
  | x :: r => by
    show valV ((Sum.inl x, v) :: dk v r) (Sum.inl k) = _
    by_cases e : x = k
    · rw [valV_pos (by rw [e])]
      simp [e]
    · rw [valV_neg (fun z => e (Sum.inl.inj z)), dk_val v k r]
      have : ¬ k = x := fun z => e z.symm
      simp [this]
theorem dk_some (v : V) (k : Int) (l : List Int) : (valV (dk v l) (Sum.inl k)).isSome = decide (k ∈ l) := by
  rw [dk_val]
  by_cases h : k ∈ l <;> simp [h]
theorem dk_put {v : V} {k : Int} {l : List Int} (h : k ∉ l) : putK (dk v l) (Sum.inl k) v = dk v (l ++ [k]) := by
  unfold putK
  have : ((dk v l).any fun kv => decide (kv.1 = Sum.inl k)) = false := by
    rw [valV_any, dk_some]
    simp [h]
  rw [this]
  simp [dk]
theorem dk_len (v : V) (l : List Int) : (dk v l).length = l.length := by simp [dk]
abbrev sNb : Stmt := topS 5
theorem scNb : FnScope ["row", "found", "built", "plot"] ["row"] (defScope sNb) := ⟨rfl, rfl, rfl, by decide +kernel, rfl, by decide +kernel, by decide +kernel⟩
abbrev sHouses : Stmt := topS 6
theorem scHouses : FnScope ["row", "beside"] ["row"] (defScope sHouses) := ⟨rfl, rfl, rfl, by decide +kernel, rfl, by decide +kernel, by decide +kernel⟩
def wordsV : List V := [.str (wstr .new), .str (wstr .beside), .str (wstr .between)]
section
variable {P : Program} {w : World} {K : PySem.W.Frag} {mg : Str → Option Value} {base : Heap}
def spNb (K : PySem.W.Frag) : Sp := fun vs H Q _ => ∃ (b : Bool) (a : Addr) (ns : List Int), vs = [.ref a] ∧ SqB K b H a (ns.map V.int) ∧ ns.Nodup ∧ ns.length ≤ 900 ∧
  ∀ H' p, Ex H H' → H p = none → H' p = some (.lst ((picks ns).map fun c => V.int (c.1.ix : Nat))) → Q (.ref p) H'
theorem b1_val (v : V) (k : Int) (l : List Int) : (valV (dk (.int 1) l) (Sum.inl k)).getD (.int 0) = .int (b1 (decide (k ∈ l)) : Nat) := by
  rw [dk_val]
  by_cases h : k ∈ l <;> simp [h, b1]
theorem ok_nb {f : Addr} {fd : FuncData} {k : Nat} (F : Fun K "neighbours" "neighbours" sNb f fd) : FnOk P w K mg base CX0 (k + 1) f fd ["row"] (spNb K) := by
  refine F.ok scNb (fun vs H Q E h => ?_) (fun cdv A outer s H vs Q E hr h => ?_)
  · obtain ⟨_, _, _, rfl, _⟩ := h
    rfl
  · obtain ⟨b, a, ns, rfl, hS, hnd, hlen, q⟩ := h
    have hu := hu_of hr
    refine ⟨_, pss_cons (ps_set (i := 1) scNb.nd rfl (.inl rfl) (pe_lst pa_nil)) (pss_cons (ps_set (i := 2) scNb.nd rfl (.inl rfl) pe_dnewK)
      (pss_cons (ps_for PassesOwn.never rfl (pi_seqB (pv 0)) (pg_name (i := 3) scNb.nd rfl (.inl rfl))
        (pss_cons (ps_expr (pe_bm PySem.F.plainAttrs_list PySem.F.slot_list_append PySem.F.type_list_append mt_append (pv 1) (pa_cons (pe_op op_add (pe_dget2 hu (pv 2) (pe_op op_sub (pv 3) pe_int) pe_int ⟨rfl, rfl, rfl, rfl⟩) (pe_dget2 hu (pv 2) (pe_op op_add (pv 3) pe_int) pe_int ⟨rfl, rfl, rfl, rfl⟩)) pa_nil)))
        (pss_one (ps_dput hu (pv 2) (pv 3) pe_int rfl))))
      (pss_one (ps_ret (pv 1))))), ?_⟩
    refine ⟨Nat.zero_le _, fun fo hfo d hd => ?_⟩
    have x1 : Ex H (upd H fo (.lst [])) := Ex.new hfo
    have x2 := x1.trans (Ex.new (o := .dK []) hd)
    have hd0 : H d = none := fresh_back x1 hd
    have nfd : fo ≠ d := ne_of_none upd_same hd
    refine ⟨_, rfl, b, a, _, rfl, hS.ex x2, for_it (walk_seqB (K := K) (b := b) (a := a) (xs := ns.map V.int)) (fun i σ H3 => ∃ y3, σ = [some (.ref a), some (.ref fo), some (.ref d), y3] ∧ Ex H H3 ∧ H3 fo = some (.lst (((picks ns).take i).map fun c => V.int (c.1.ix : Nat))) ∧ H3 d = some (.dK (dk (.int 1) (ns.take i)))) ?_ ?_ ?_ ?_⟩
    · refine ⟨none, rfl, x2, ?_, upd_same⟩
      rw [upd_ne nfd, upd_same]
      rfl
    · rintro i σ H3 _ ⟨_, _, e3, _⟩
      exact hS.ex e3
    · rintro i x σ H3 H3' hi ⟨y3, rfl, e3, hf3, hd3⟩ ⟨rfl, hx⟩
      rw [List.getElem?_map] at hx
      obtain ⟨p, hp, rfl⟩ := Option.map_eq_some_iff.mp hx
      have hfr := nodup_fresh hnd hp
      have hnb := nb_pick (hnd.sublist (List.take_sublist i ns)) hfr
      have hil := (List.getElem?_eq_some_iff.mp hp).1
      refine ⟨_, rfl, .inl ⟨rfl, _, .inl (.inl hf3)⟩, _, rfl, d, rfl, .inl ⟨_, .inl hd3⟩, _, rfl, _, _, rfl, rfl, _, DGet.k (k := Sum.inl (p - 1)) hd3, _, rfl, d, rfl, .inl ⟨_, .inl hd3⟩, _, rfl, _, _, rfl, rfl, _, DGet.k (k := Sum.inl (p + 1)) hd3, ?_⟩
      rw [b1_val (.int 1), b1_val (.int 1)]
      refine ⟨_, _, rfl, rfl, fo, _, _, rfl, rfl, hf3, ?_, ?_⟩
      · rw [List.length_map, List.length_take, picks_len]
        exact small1000 (by omega)
      · refine ⟨_, rfl, _, rfl, d, _, rfl, DPut.k (k := Sum.inl p) (kvs := dk (.int 1) (ns.take i)) ?_ ?_, _, rfl, Ex.mut (Ex.mut e3 hfo) hd0, ?_, ?_⟩
        · rw [upd_ne (Ne.symm nfd)]
          exact hd3
        · rw [dk_len, List.length_take]
          exact small1000 (by omega)
        · rw [upd_ne nfd, upd_same, take_next (picks_get hp), List.map_append]
          have e7 : (b1 (decide (p - 1 ∈ ns.take i)) : Int) + (b1 (decide (p + 1 ∈ ns.take i)) : Int) = ((pick p (segs (ns.take i))).1.ix : Int) := by
            rw [← hnb]
            omega
          show some (HO.lst (_ ++ [V.int ((b1 (decide (p - 1 ∈ ns.take i)) : Int) + (b1 (decide (p + 1 ∈ ns.take i)) : Int))])) = _
          rw [e7]
          rfl
        · rw [upd_same, dk_put hfr, take_next hp]
    · rintro σ H3 ⟨y3, rfl, e3, hf3, hd3⟩
      rw [List.take_of_length_le (by rw [picks_len, List.length_map]; exact Nat.le_refl _)] at hf3
      exact ⟨_, rfl, q H3 fo e3 hfo hf3⟩
/-! ### houses -/
def spHouses (K : PySem.W.Frag) : Sp := fun vs H Q _ => ∃ (b : Bool) (a : Addr) (ns : List Int), vs = [.ref a] ∧ SqB K b H a (ns.map V.int) ∧ ns.Nodup ∧ ns.length ≤ 900 ∧
  ∀ H' p, Ex H H' → H p = none → H' p = some (.tup ((picks ns).map fun c => V.str (wstr c.1))) → Q (.ref p) H'
theorem ok_houses {f fN aW : Addr} {fd fdN : FuncData} {k : Nat} (F : Fun K "houses" "houses" sHouses f fd) (FN : Fun K "neighbours" "neighbours" sNb fN fdN) (bN : Binds K fdN ["row"] []) (gN : mg "neighbours" = some (.ref fN))
    (gW : mg "WORDS" = some (.ref aW)) (sW : ∀ H, SqT K H aW wordsV) (mt : mg "tuple" = none) : FnOk P w K mg base CX0 (k + 2) f fd ["row"] (spHouses K) := by
  have GN : FnOk P w K mg base CX0 (k + 1) fN fdN ["row"] (spNb K) := ok_nb FN
  refine F.ok scHouses (fun vs H Q E h => ?_) (fun cdv A outer s H vs Q E hr h => ?_)
  · obtain ⟨_, _, _, rfl, _⟩ := h
    rfl
  · obtain ⟨b, a, ns, rfl, hS, hnd, hlen, q⟩ := h
    refine ⟨_, pss_one (ps_ret (pe_callTy call_tuple_of (by rfl) mt (by decide +kernel) (pa_cons
        (pe_lc (own := [("beside", 1)]) (g := gName 1) (by rfl) scHouses.nd (pi_list (pe_call GN hr (by rfl) gN FN.kp bN .nil pass0 (pa_cons (pv 0) pa_nil)))
          (blkOk_by (own := [("beside", 1)]) (N := ["row", "beside"]) (sc := defScope sHouses) (by decide +kernel))
          (fun _ _ _ _ _ => pg_name (i := 1) scHouses.nd rfl (Or.inl rfl) (hf := Or.inr rfl))
          (fun _ _ _ _ _ => pts_nil)
          (fun _ _ _ _ _ => pe_ix (ixT K) (pe_glob (v := .ref aW) rfl gW rfl) (pv 1) (fun _ _ => rfl))) pa_nil))), ?_⟩
    refine ⟨_, rfl, b, a, ns, rfl, hS, hnd, hlen, fun H1 fo e1 hfo hf1 => ⟨fo, rfl, ⟨_, .inl (.inl hf1)⟩, fun D hD => lc_list (xs := (picks ns).map fun c => V.int (c.1.ix : Nat)) (fun i H' => Ex H1 H' ∧ H' D = some (.lst (((picks ns).take i).map fun c => V.str (wstr c.1)))) ⟨Ex.new hD, upd_same⟩ (fun i H' _ c => .inl (.inl (c.1 _ _ hf1))) (fun i x H' hx c => ?_) (fun H2 c => ?_)⟩⟩
    · rw [List.getElem?_map] at hx
      obtain ⟨ch, hch, rfl⟩ := Option.map_eq_some_iff.mp hx
      have hil := (List.getElem?_eq_some_iff.mp hch).1
      rw [picks_len] at hil
      have hw : atI wordsV ((ch.1.ix : Nat) : Int) = some (.str (wstr ch.1)) := by
        refine atI_nat ?_
        cases ch.1 <;> rfl
      refine ⟨rfl, _, rfl, aW, wordsV, _, _, rfl, rfl, sW _, hw, _, c.2, ?_, Ex.mut c.1 hD, ?_⟩
      · rw [List.length_map, List.length_take, picks_len]
        exact small1000 (by omega)
      · rw [upd_same, take_next hch, List.map_append]
        rfl
    · rw [List.take_of_length_le (by rw [List.length_map]; exact Nat.le_refl _)] at c
      exact ⟨D, _, rfl, .inl ⟨.inl (.inl c.2), fun t ht => q _ t ((e1.trans c.1).trans (Ex.new ht)) (fresh_back (e1.trans c.1) ht) upd_same⟩⟩
end
end Og

namespace Og
open PySem PySem.Spec PyProof.Rows L2 OgR Evl OgM
abbrev sGlo : Stmt := topS 14
theorem scGlo : FnScope ["built", "plot", "last"] ["built", "plot"] (defScope sGlo) := ⟨rfl, rfl, rfl, by decide +kernel, rfl, by decide +kernel, by decide +kernel⟩
abbrev sNum : Stmt := topS 15
theorem scNum : FnScope ["built", "plot", "word", "left"] ["built", "plot", "word"] (defScope sNum) := ⟨rfl, rfl, rfl, by decide +kernel, rfl, by decide +kernel, by decide +kernel⟩
abbrev sCof : Stmt := topS 16
theorem scCof : FnScope ["row", "found", "built", "plot", "word"] ["row"] (defScope sCof) := ⟨rfl, rfl, rfl, by decide +kernel, rfl, by decide +kernel, by decide +kernel⟩
section
variable {P : Program} {w : World} {K : PySem.W.Frag} {mg : Str → Option Value} {base : Heap}
def spGlo : Sp := fun vs H Q _ => ∃ (d : Addr) (v : V) (ns : List Int) (p : Int), vs = [.ref d, .int p] ∧ H d = some (.dK (dk v ns)) ∧ ns.Nodup ∧ ns.length ≤ 900 ∧ ∀ H', Ex H H' → Q (.int (left p (segs ns) : Nat)) H'
theorem ok_glo {f : Addr} {fd : FuncData} {k : Nat} (F : Fun K "groups_left_of" "groups_left_of" sGlo f fd) (ml : mg "len" = none) : FnOk P w K mg base CX0 (k + 1) f fd ["built", "plot"] spGlo := by
  refine F.ok scGlo (fun vs H Q E h => ?_) (fun cdv A outer s H vs Q E hr h => ?_)
  · obtain ⟨_, _, _, _, rfl, _⟩ := h
    rfl
  · obtain ⟨d, v, ns, p, rfl, hd, hnd, hlen, q⟩ := h
    have hu := hu_of hr
    refine ⟨_, pss_one (ps_ret (pe_callB call_len_seq (by rfl) ml PySem.boot_len (pa_cons
        (pe_lock (pe_lc (own := [("last", 2)]) (g := gName 2) (by rfl) scGlo.nd (pi_keys (pv 0))
          (blkOk_by (own := [("last", 2)]) (N := ["built", "plot", "last"]) (sc := defScope sGlo) (by decide +kernel))
          (fun _ _ _ _ _ => pg_name (i := 2) scGlo.nd rfl (Or.inl rfl) (hf := Or.inr rfl))
          (fun _ _ _ _ _ => pts_one (PW.pt (pw_and (pt_cmpR op_lt (pv 2) (pv 1) (nomark _)) (pw_and1 (pt_cmp (pc_dnotin hu (pe_op op_add (pv 2) pe_int) (pv 0)))))))
          (fun _ _ _ _ _ => pv 2))) pa_nil))), ?_⟩
    refine ⟨d, _, hd, trivial, fun od => ⟨_, rfl, d, od, rfl, .inl ⟨_, upd_same, fun D hD => lc_it (walk_keys (d := d) (o := od) (kvs := dk v ns)) (Cw (upd H d (.frz od (.dK (dk v ns)))) (fun i => (fun x : Int => decide (x < p) && !decide (x + 1 ∈ ns)) (ns.getD i 0)) (fun i => .int (ns.getD i 0)) D) ⟨hD, Ex.new hD, upd_same⟩ (fun i H' _ c => c.2.1 _ _ upd_same) (fun i x H' H'' hi c y => ?_) (fun H2 c => ?_)⟩⟩⟩
    · obtain ⟨rfl, kk, vv, hk, rfl⟩ := y
      rw [dk_len] at hi
      have hk' : (kk, vv) = (Sum.inl (ns.getD i 0), v) := by
        unfold dk at hk
        rw [List.getElem?_map, List.getElem?_eq_getElem hi] at hk
        rw [List.getD_eq_getElem?_getD, List.getElem?_eq_getElem hi]
        exact (Option.some.inj hk).symm
      obtain ⟨rfl, rfl⟩ := Prod.mk.inj hk'
      refine ⟨rfl, cw_turn c (by omega) (fun H3 e3 Q' k' => ?_) (fun _ H3 e3 Q' k' => ⟨_, rfl, k' H3 (Ex.refl _)⟩)⟩
      have k2 := k' H3 (Ex.refl H3)
      simp only at k2
      refine ⟨_, rfl, _, rfl, _, _, rfl, rfl, _, rfl, ?_⟩
      show if decide (ns.getD i 0 < p) = true then _ else _
      cases hb : decide (ns.getD i 0 < p) with
      | false =>
        rw [hb] at k2
        exact iteF k2
      | true =>
        rw [hb] at k2
        refine iteT ⟨_, rfl, _, _, rfl, rfl, _, rfl, d, _, rfl, .inl ⟨dk vv ns, Sum.inl (ns.getD i 0 + 1), .inr ⟨od, e3 _ _ upd_same⟩, rfl, rfl⟩, _, rfl, ?_⟩
        rw [dk_some]
        exact k2
    · obtain ⟨c1, c2, c3⟩ := c
      have hDd : D ≠ d := fun z => by
        rw [z, upd_same] at c1
        cases c1
      have e5 : (given (dk v ns).length (fun i => (fun x : Int => decide (x < p) && !decide (x + 1 ∈ ns)) (ns.getD i 0)) (fun i => V.int (ns.getD i 0))) = (ns.filter (fun x : Int => decide (x < p) && !decide (x + 1 ∈ ns))).map V.int := by
        rw [dk_len, ← given_ints, List.length_map]
      rw [e5] at c3
      refine ⟨c2 _ _ upd_same, D, (ns.filter (fun x : Int => decide (x < p) && !decide (x + 1 ∈ ns))).map V.int, rfl, .inl (.inl (.inl ?_)), ?_⟩
      · rw [upd_ne hDd]
        exact c3
      · rw [List.length_map, left_count hnd p]
        refine q _ fun a o ha => ?_
        by_cases had : a = d
        · subst had
          rw [upd_same, ← ha, hd]
        · rw [upd_ne had]
          exact c2 _ _ (by rw [upd_ne had]; exact ha)
/-! ### number_of_choice -/
def spNum : Sp := fun vs H Q _ => ∃ (d : Addr) (v : V) (ns : List Int) (p : Int), vs = [.ref d, .int p, .str (wstr (pick p (segs ns)).1)] ∧ H d = some (.dK (dk v ns)) ∧ ns.Nodup ∧ p ∉ ns ∧ ns.length ≤ 900 ∧ ∀ H', Ex H H' → Q (.int ((pick p (segs ns)).2 : Nat)) H'
theorem ok_num {f fG : Addr} {fd fdG : FuncData} {k : Nat} (F : Fun K "number_of_choice" "number_of_choice" sNum f fd) (FG : Fun K "groups_left_of" "groups_left_of" sGlo fG fdG) (bG : Binds K fdG ["built", "plot"] []) (gG : mg "groups_left_of" = some (.ref fG))
    (ml : mg "len" = none) : FnOk P w K mg base CX0 (k + 2) f fd ["built", "plot", "word"] spNum := by
  have GG : FnOk P w K mg base CX0 (k + 1) fG fdG ["built", "plot"] spGlo := ok_glo FG ml
  refine F.ok scNum (fun vs H Q E h => ?_) (fun cdv A outer s H vs Q E hr h => ?_)
  · obtain ⟨_, _, _, _, rfl, _⟩ := h
    rfl
  · obtain ⟨d, v, ns, p, rfl, hd, hnd, hpn, hlen, q⟩ := h
    have hu := hu_of hr
    refine ⟨_, pss_cons (ps_set (i := 3) scNum.nd rfl (.inl rfl) (pe_call GG hr (by rfl) gG FG.kp bG .nil pass0 (pa_cons (pv 0) (pa_cons (pv 1) pa_nil))))
      (pss_cons (ps_if (pt_cmpR op_eq (pv 2) pe_str (nomark _)) (pss_one (ps_ret (pv 3))) pss_nil)
      (pss_cons (ps_if (pt_cmpR op_eq (pv 2) pe_str (nomark _)) (pss_one (ps_ret (pe_op op_sub (pv 3) pe_int))) pss_nil)
      (pss_cons (ps_if (pt_cmp (pc_din hu (pe_op op_sub (pv 1) pe_int) (pv 0))) (pss_one (ps_ret (pe_op op_add (pe_op op_mul pe_int (pe_op op_sub (pv 3) pe_int)) pe_int))) pss_nil)
      (pss_one (ps_ret (pe_op op_mul pe_int (pv 3))))))), ?_⟩
    obtain ⟨lo, hl⟩ := lower ns
    obtain ⟨hk, km⟩ := segs_ok hnd hl
    have S := says hk (p := p) fun m => hpn ((km p).mp m)
    refine ⟨_, rfl, _, rfl, d, v, ns, p, rfl, hd, hnd, hlen, fun H1 e1 => ?_⟩
    have hd1 := e1 _ _ hd
    replace q := q H1 e1
    generalize hc : pick p (segs ns) = c at S q
    obtain ⟨wd, m⟩ := c
    cases wd with
    | new =>
      refine ⟨_, rfl, rfl, _, rfl, ite2 (fun _ => ⟨_, rfl, ?_⟩) (fun z => absurd (decide_eq_true (by rfl)) z)⟩
      rw [← (S.n1 rfl).1]
      exact q
    | between =>
      refine ⟨_, rfl, rfl, _, rfl, ite2 (fun z => absurd (of_decide_eq_true z) (show ¬ V.str (wstr .between) = V.str "new" by decide)) (fun _ => ?_)⟩
      refine ⟨_, rfl, rfl, _, rfl, ite2 (fun _ => ⟨_, rfl, _, _, rfl, rfl, ?_⟩) (fun z => absurd (decide_eq_true (by rfl)) z)⟩
      have h2 := (S.n2 rfl).1
      simp only at h2
      have e : ((left p (segs ns) : Nat) : Int) - 1 = (m : Int) := by omega
      show Q (.int (((left p (segs ns) : Nat) : Int) - 1)) H1
      rw [e]
      exact q
    | beside =>
      refine ⟨_, rfl, rfl, _, rfl, ite2 (fun z => absurd (of_decide_eq_true z) (show ¬ V.str (wstr .beside) = V.str "new" by decide)) (fun _ => ?_)⟩
      refine ⟨_, rfl, rfl, _, rfl, ite2 (fun z => absurd (of_decide_eq_true z) (show ¬ V.str (wstr .beside) = V.str "between" by decide)) (fun _ => ?_)⟩
      refine ⟨_, rfl, _, _, rfl, rfl, _, rfl, d, _, rfl, DGet.k (k := Sum.inl (p - 1)) hd1, _, rfl, ?_⟩
      rw [dk_some]
      refine ite2 (fun z => ?_) (fun z => ?_)
      · have hm : Mem (p - 1) (segs ns) := (km _).mpr (of_decide_eq_true z)
        have h3 := (S.n3 rfl hm).1
        simp only at h3
        refine ⟨_, rfl, _, _, rfl, rfl, _, _, rfl, rfl, .inl ⟨by decide, by decide⟩, _, _, rfl, rfl, ?_⟩
        have e : 2 * (((left p (segs ns) : Nat) : Int) - 1) + 1 = (m : Int) := by omega
        show Q (.int (2 * (((left p (segs ns) : Nat) : Int) - 1) + 1)) H1
        rw [e]
        exact q
      · have hm : ¬ Mem (p - 1) (segs ns) := fun u => z (decide_eq_true ((km _).mp u))
        have h4 := (S.n4 rfl hm).1
        simp only at h4
        refine ⟨_, rfl, _, _, rfl, rfl, .inl ⟨by decide, by decide⟩, ?_⟩
        have e : 2 * ((left p (segs ns) : Nat) : Int) = (m : Int) := by omega
        show Q (.int (2 * ((left p (segs ns) : Nat) : Int))) H1
        rw [e]
        exact q
/-! ### choices_of -/
def spCof (K : PySem.W.Frag) : Sp := fun vs H Q _ => ∃ (b : Bool) (a : Addr) (ns : List Int), vs = [.ref a] ∧ SqB K b H a (ns.map V.int) ∧ ns.Nodup ∧ ns.length ≤ 900 ∧
  ∀ H' t, Ex H H' → ChIs K true true H' t (picks ns) → Q (.ref t) H'
theorem ok_cof {f fH fN fM fG aW : Addr} {fd fdH fdN fdM fdG : FuncData} {k : Nat} (F : Fun K "choices_of" "choices_of" sCof f fd)
    (FH : Fun K "houses" "houses" sHouses fH fdH) (bH : Binds K fdH ["row"] []) (gH : mg "houses" = some (.ref fH))
    (FN : Fun K "neighbours" "neighbours" sNb fN fdN) (bN : Binds K fdN ["row"] []) (gN : mg "neighbours" = some (.ref fN))
    (FM : Fun K "number_of_choice" "number_of_choice" sNum fM fdM) (bM : Binds K fdM ["built", "plot", "word"] []) (gM : mg "number_of_choice" = some (.ref fM))
    (FG : Fun K "groups_left_of" "groups_left_of" sGlo fG fdG) (bG : Binds K fdG ["built", "plot"] []) (gG : mg "groups_left_of" = some (.ref fG))
    (gW : mg "WORDS" = some (.ref aW)) (sW : ∀ H, SqT K H aW wordsV) (mt : mg "tuple" = none) (ml : mg "len" = none) (mz : mg "zip" = none) : FnOk P w K mg base CX0 (k + 3) f fd ["row"] (spCof K) := by
  have GH : FnOk P w K mg base CX0 (k + 2) fH fdH ["row"] (spHouses K) := ok_houses FH FN bN gN gW sW mt
  have GM : FnOk P w K mg base CX0 (k + 2) fM fdM ["built", "plot", "word"] spNum := ok_num FM FG bG gG ml
  refine F.ok scCof (fun vs H Q E h => ?_) (fun cdv A outer s H vs Q E hr h => ?_)
  · obtain ⟨_, _, _, rfl, _⟩ := h
    rfl
  · obtain ⟨b, a, ns, rfl, hS, hnd, hlen, q⟩ := h
    have hu := hu_of hr
    refine ⟨_, pss_cons (ps_set (i := 1) scCof.nd rfl (.inl rfl) (pe_lst pa_nil)) (pss_cons (ps_set (i := 2) scCof.nd rfl (.inl rfl) pe_dnewK)
      (pss_cons (ps_for PassesOwn.never rfl (pi_zipB (by rfl) mz (pa_cons (pv 0) (pa_cons (pe_call GH hr (by rfl) gH FH.kp bH .nil pass0 (pa_cons (pv 0) pa_nil)) pa_nil)))
          (pg_tup rfl (pgs_cons (pg_name (i := 3) scCof.nd rfl (.inl rfl)) (pgs_cons (pg_name (i := 4) scCof.nd rfl (.inl rfl)) pgs_nil)))
        (pss_cons (ps_expr (pe_bm PySem.F.plainAttrs_list PySem.F.slot_list_append PySem.F.type_list_append mt_append (pv 1) (pa_cons (pe_tup (pa_cons (pv 4) (pa_cons (pe_call GM hr (by rfl) gM FM.kp bM .nil pass0 (pa_cons (pv 2) (pa_cons (pv 3) (pa_cons (pv 4) pa_nil)))) pa_nil))) pa_nil)))
        (pss_one (ps_dput hu (pv 2) (pv 3) pe_bl rfl))))
      (pss_one (ps_ret (pe_callTy call_tuple_of (by rfl) mt (by decide +kernel) (pa_cons (pv 1) pa_nil)))))), ?_⟩
    refine ⟨Nat.zero_le _, fun fo hfo d hd => ?_⟩
    have x1 : Ex H (upd H fo (.lst [])) := Ex.new hfo
    have x2 : Ex H (upd (upd H fo (.lst [])) d (.dK [])) := x1.trans (Ex.new hd)
    have hd0 : H d = none := fresh_back x1 hd
    have nfd : fo ≠ d := ne_of_none upd_same hd
    refine ⟨_, rfl, _, rfl, b, a, ns, rfl, hS.ex x2, hnd, hlen, fun H1 hh e1 hhn hh1 => ⟨b, true, a, hh, ns.map V.int, (picks ns).map (fun c => V.str (wstr c.1)), rfl, hS.ex (x2.trans e1), .inl (.inl hh1), for_it (walk_zipB (K := K) (b1 := b) (b2 := true) (a1 := a) (a2 := hh) (xs := ns.map V.int) (ys := (picks ns).map (fun c => V.str (wstr c.1))) (by simp [picks_len]))
      (fun i σ H3 => ∃ y3 y4 ts, σ = [some (.ref a), some (.ref fo), some (.ref d), y3, y4] ∧ Ex H H3 ∧ H3 hh = some (.tup ((picks ns).map (fun c => V.str (wstr c.1)))) ∧ H3 fo = some (.lst (ts.map V.ref)) ∧ Paired (fun t c => H3 t = some (.tup (chV c))) ts ((picks ns).take i) ∧ H3 d = some (.dK (dk (.bl true) (ns.take i)))) ?_ ?_ ?_ ?_⟩⟩
    · refine ⟨none, none, [], rfl, x2.trans e1, hh1, ?_, .nil, e1 _ _ upd_same⟩
      refine e1 _ _ ?_
      rw [upd_ne nfd, upd_same]
      rfl
    · rintro i σ H3 _ ⟨_, _, _, _, e3, h3, _⟩
      exact ⟨hS.ex e3, .inl (.inl h3)⟩
    · rintro i x σ H3 H3' hi ⟨y3, y4, ts, rfl, e3, h3, hf3, hp3, hd3⟩ ⟨T, x', y', rfl, hT, rfl, hx, hy⟩
      rw [List.getElem?_map] at hx hy
      obtain ⟨p, hp, rfl⟩ := Option.map_eq_some_iff.mp hx
      rw [picks_get hp] at hy
      have ey : V.str (wstr (pick p (segs (ns.take i))).1) = y' := Option.some.inj hy
      subst ey
      have hfr := nodup_fresh hnd hp
      have hil := (List.getElem?_eq_some_iff.mp hp).1
      have x4 : Ex H3 (upd H3 T (.tup [.int p, .str (wstr (pick p (segs (ns.take i))).1)])) := Ex.new hT
      refine ⟨T, _, rfl, .inl (.inl upd_same), rfl, _, _, rfl, _, _, rfl, rfl, ?_⟩
      refine ⟨_, rfl, .inl ⟨rfl, _, .inl (.inl (x4 _ _ hf3))⟩, _, rfl, _, rfl, _, rfl, _, rfl, d, .bl true, ns.take i, p, rfl, x4 _ _ hd3, hnd.sublist (List.take_sublist _ _), hfr, by rw [List.length_take]; omega, fun H5 e5 => ⟨(show 2 ≤ sizeLine by decide), fun t ht => ?_⟩⟩
      have x5 : Ex H3 H5 := x4.trans e5
      have x6 : Ex H3 (upd H5 t (.tup (chV (pick p (segs (ns.take i)))))) := x5.trans (Ex.new ht)
      refine ⟨fo, _, _, rfl, rfl, x6 _ _ hf3, ?_, ?_⟩
      · rw [List.length_map, hp3.length, List.length_take]
        exact small1000 (by omega)
      · have ntf : t ≠ fo := Ne.symm (ne_of_none (x5 _ _ hf3) ht)
        have ntd : t ≠ d := Ne.symm (ne_of_none (x5 _ _ hd3) ht)
        refine ⟨_, rfl, _, rfl, d, _, rfl, DPut.k (k := Sum.inl p) (kvs := dk (.bl true) (ns.take i)) ?_ ?_, _, _, ts ++ [t], rfl, Ex.mut (Ex.mut (e3.trans x6) hfo) hd0, ?_, ?_, ?_, ?_⟩
        · rw [upd_ne (Ne.symm nfd)]
          exact x6 _ _ hd3
        · rw [dk_len, List.length_take]
          exact small1000 (by omega)
        · have h6 := x6 _ _ h3
          rw [upd_ne (ne_of h6 (x6 _ _ hd3) (by intro z; cases z)), upd_ne (ne_of h6 (x6 _ _ hf3) (by intro z; cases z))]
          exact h6
        · rw [upd_ne nfd, upd_same, List.map_append]
          rfl
        · rw [take_next (picks_get hp)]
          refine Paired.snoc (hp3.mono fun t' c' h' => ?_) ?_
          · have h6 := x6 _ _ h'
            rw [upd_ne (ne_of h6 (x6 _ _ hd3) (by intro z; cases z)), upd_ne (ne_of h6 (x6 _ _ hf3) (by intro z; cases z))]
            exact h6
          · rw [upd_ne ntd, upd_ne ntf, upd_same]
            rfl
        · rw [upd_same, dk_put hfr, take_next hp]
    · rintro σ H3 ⟨y3, y4, ts, rfl, e3, h3, hf3, hp3, hd3⟩
      rw [List.take_of_length_le (by rw [picks_len, List.length_map]; exact Nat.le_refl _)] at hp3
      refine ⟨_, rfl, fo, _, rfl, .inl ⟨.inl (.inl hf3), fun t ht => q _ t (e3.trans (Ex.new ht)) ⟨ts, .inl (.inl upd_same), hp3.mono fun t' c' h' => .inl (.inl ?_)⟩⟩⟩
      rw [upd_ne (ne_of_none h' ht)]
      exact h'
end
end Og

namespace Og
open PySem PySem.Spec PyProof.Rows L2 OgR Evl OgM
abbrev sGaps : Stmt := topS 17
theorem scGaps : FnScope ["plots", "row", "built", "steps", "inner", "left", "right", "step"] ["plots", "row"] (defScope sGaps) := ⟨rfl, rfl, rfl, by decide +kernel, rfl, by decide +kernel, by decide +kernel⟩
theorem at_last_int {l : List Int} {z : Int} (h : l.getLast? = some z) : atI (l.map V.int) (-1) = some (.int z) := by
  obtain ⟨l0, hl0⟩ := List.getLast?_eq_some_iff.mp h
  rw [hl0, List.map_append]
  exact atI_last _ _
section
variable {P : Program} {w : World} {K : PySem.W.Frag} {mg : Str → Option Value} {base : Heap}
theorem ok_gaps {f : Addr} {fd : FuncData} {k : Nat} (F : Fun K "gaps_of" "gaps_of" sGaps f fd) (ms : mg "sorted" = none) (mz : mg "zip" = none) : FnOk P w K mg base CX0 (k + 1) f fd ["plots", "row"] (spHoles K) := by
  refine F.ok scGaps (fun vs H Q E h => ?_) (fun cdv A outer s H vs Q E hr h => ?_)
  · obtain ⟨_, _, _, _, rfl, _⟩ := h
    rfl
  · obtain ⟨b, a, c, ns, rfl, hS, hnd, hlen, q⟩ := h
    refine ⟨_, pss_cons (ps_set (i := 2) scGaps.nd rfl (.inl rfl) (pe_callB cr_srtB (by rfl) ms (by decide +kernel) (pa_cons (pv 1) pa_nil)))
      (pss_cons (ps_if (pt_not (pt_truth (pv 2) (by intro _; rfl))) (pss_one (ps_ret (pe_tup (pa_cons (pv 0) pa_nil)))) pss_nil)
      (pss_cons (ps_setLc (i := 3) (own := [("left", 5), ("right", 6)]) (g := gTup K 2 (gCons (gName 5) (gCons (gName 6) gNil))) (by rfl) scGaps.nd rfl rfl (sw_true rfl rfl rfl (by decide +kernel))
          (pi_zip (by rfl) mz (pa_cons (pv 2) (pa_cons (pe_slice sl_list (pv 2) (po_some pe_int) po_none) pa_nil)))
          (blkOk_by (own := [("left", 5), ("right", 6)]) (N := ["plots", "row", "built", "steps", "inner", "left", "right", "step"]) (sc := defScope sGaps) (by decide +kernel))
          (fun _ _ _ _ _ => pg_tup rfl (pgs_cons (pg_name (i := 5) scGaps.nd rfl (Or.inl rfl) (hf := Or.inr rfl)) (pgs_cons (pg_name (i := 6) scGaps.nd rfl (Or.inl rfl) (hf := Or.inr rfl)) pgs_nil)))
          (fun _ _ _ _ _ => pts_nil)
          (fun _ _ _ _ _ => pe_op op_sub (pv 6) (pv 5)))
      (pss_cons (ps_setLc (i := 4) (own := [("step", 7)]) (g := gName 7) (by rfl) scGaps.nd rfl rfl (sw_true rfl rfl rfl (by decide +kernel)) (pi_list (pv 3))
          (blkOk_by (own := [("step", 7)]) (N := ["plots", "row", "built", "steps", "inner", "left", "right", "step"]) (sc := defScope sGaps) (by decide +kernel))
          (fun _ _ _ _ _ => pg_name (i := 7) scGaps.nd rfl (Or.inl rfl) (hf := Or.inr rfl))
          (fun _ _ _ _ _ => pts_one (pt_cmpR op_gt (pv 7) pe_int (nomark _)))
          (fun _ _ _ _ _ => pe_op op_sub (pv 7) pe_int))
      (pss_one (ps_ret (pe_tup (pa_cons (pe_ix ix_list (pv 2) pe_int (fun _ _ => rfl)) (StX.pa_star (pv 4) (pa_cons (pe_op op_sub (pe_op op_sub (pv 0) pe_int) (pe_ix ix_list (pv 2) (pe_un un_neg pe_int) (fun _ _ => rfl))) pa_nil))))))))), ?_⟩
    refine ⟨_, rfl, b, a, ns, rfl, hS, fun ks u hperm hsort hu => ?_⟩
    have rise := rise_of hnd hperm hsort
    have hseg : segs ks = segs ns := segs_eq (hperm.nodup_iff.mpr hnd) hnd fun q => hperm.mem_iff
    have hlk : ks.length ≤ 900 := by rw [hperm.length_eq]; exact hlen
    have x1 : Ex H (upd H u (.lst (ks.map V.int))) := Ex.new hu
    have hu1 : (upd H u (.lst (ks.map V.int))) u = some (.lst (ks.map V.int)) := upd_same
    rw [← hseg] at q
    generalize (upd H u (.lst (ks.map V.int))) = H1 at x1 hu1
    refine ⟨_, rfl, _, .inl ⟨_, .inl (.inl hu1), rfl⟩, ?_⟩
    cases ks with
    | nil =>
      refine iteT ⟨_, rfl, (show 1 ≤ sizeLine by decide), fun t ht => q _ t (x1.trans (Ex.new ht)) (fresh_back x1 ht) ?_⟩
      rw [upd_same]
      simp [segs, holes, holesI, endB]
    | cons k0 kr =>
      obtain ⟨z, hz⟩ : ∃ z, (k0 :: kr).getLast? = some z := ⟨_, List.getLast?_eq_getLast (List.cons_ne_nil k0 kr)⟩
      obtain ⟨g1, g2, _⟩ := rise_holes rise k0 z rfl hz
      refine iteF ?_
      -- steps
      refine ⟨_, rfl, _, rfl, 1, rfl, u, _, rfl, .inl (.inl hu1), fun v hv => ?_⟩
      rw [show cutV ((k0 :: kr).map V.int) (some 1) none = kr.map V.int from cut_from _ 1]
      have x2 : Ex H1 (upd H1 v (.lst (kr.map V.int))) := Ex.new hv
      have hu2 := x2 _ _ hu1
      have hv2 : (upd H1 v (.lst (kr.map V.int))) v = some (.lst (kr.map V.int)) := upd_same
      replace x2 := x1.trans x2
      generalize (upd H1 v (.lst (kr.map V.int))) = H2 at x2 hu2 hv2
      have hlen2 : kr.length ≤ 900 := by simp at hlk; omega
      refine ⟨u, v, _, _, rfl, .inl (.inl hu2), .inl (.inl hv2), fun D hD => lc_it (walk_zip (K := K) (a := u) (b := v) (xs := (k0 :: kr).map V.int) (ys := kr.map V.int) (n := kr.length) (by simp)) (fun i H' => Ex H2 H' ∧ H' D = some (.lst (((diffs (k0 :: kr)).take i).map V.int))) ⟨Ex.new hD, upd_same⟩ (fun i H' _ c => ⟨.inl (.inl (c.1 _ _ hu2)), .inl (.inl (c.1 _ _ hv2))⟩) (fun i x H' H'' hi c y => ?_) (fun H3 c => ?_)⟩
      · obtain ⟨T, x', y', rfl, hT, rfl, hx, hy⟩ := y
        obtain ⟨c1, c2⟩ := c
        have e1 : (k0 :: kr)[i]? = some ((k0 :: kr)[i]'(by simp; omega)) := List.getElem?_eq_getElem _
        have e2 : (k0 :: kr)[i + 1]? = some (kr[i]'hi) := by rw [List.getElem?_cons_succ, List.getElem?_eq_getElem hi]
        have hx' : x' = .int ((k0 :: kr)[i]'(by simp; omega)) := by
          simp only [List.getElem?_map, e1] at hx
          exact (Option.some.inj hx).symm
        have hy' : y' = .int (kr[i]'hi) := by
          simp only [List.getElem?_map, List.getElem?_eq_getElem hi] at hy
          exact (Option.some.inj hy).symm
        subst hx' hy'
        have hDT : D ≠ T := ne_of_none c2 hT
        have hc2 : (upd H' T (.tup [.int ((k0 :: kr)[i]'(by simp; omega)), .int (kr[i]'hi)])) D = some (.lst (((diffs (k0 :: kr)).take i).map V.int)) := by
          rw [upd_ne hDT]
          exact c2
        refine ⟨T, _, rfl, .inl (.inl upd_same), rfl, _, _, rfl, _, _, rfl, rfl, rfl, _, rfl, _, rfl, _, _, rfl, rfl, _, hc2, ?_, Ex.mut (c1.trans (Ex.new hT)) hD, ?_⟩
        · rw [List.length_map, List.length_take]
          exact small1000 (by omega)
        · rw [upd_same, take_next (diffs_get _ _ _ _ e1 e2), List.map_append]
          rfl
      · obtain ⟨c1, c2⟩ := c
        have dlen := diffs_len (k0 :: kr)
        simp only [List.length_cons, Nat.add_sub_cancel] at dlen
        rw [List.take_of_length_le (by omega)] at c2
        have hu3 := c1 _ _ hu2
        -- inner
        refine ⟨_, rfl, D, rfl, ⟨_, .inl (.inl c2)⟩, fun N hN => lc_list (xs := (diffs (k0 :: kr)).map V.int) (Cw H3 (fun i => (fun d : Int => decide (1 < d)) ((diffs (k0 :: kr)).getD i 0)) (fun i => .int ((diffs (k0 :: kr)).getD i 0 - 1)) N) ⟨hN, Ex.new hN, upd_same⟩ (fun i H' _ c => .inl (.inl (c.2.1 _ _ c2))) (fun i x H' hx c => ?_) (fun H4 c => ?_)⟩
        · have h2 := (List.getElem?_eq_some_iff.mp hx).1
          rw [List.length_map] at h2
          have hx' : x = .int ((diffs (k0 :: kr)).getD i 0) := by
            rw [List.getElem?_map, List.getElem?_eq_getElem h2] at hx
            rw [List.getD_eq_getElem?_getD, List.getElem?_eq_getElem h2]
            exact (Option.some.inj hx).symm
          subst hx'
          exact ⟨rfl, cw_turn c (by omega) (fun H5 e5 Q' k' => ⟨_, rfl, _, _, rfl, rfl, _, rfl, k' H5 (Ex.refl _)⟩) (fun _ H5 e5 Q' k' => ⟨_, rfl, _, _, rfl, rfl, k' H5 (Ex.refl _)⟩)⟩
        · obtain ⟨d1, d2, d3⟩ := c
          have eg : given ((diffs (k0 :: kr)).map V.int).length (fun i => (fun d : Int => decide (1 < d)) ((diffs (k0 :: kr)).getD i 0)) (fun i => V.int ((diffs (k0 :: kr)).getD i 0 - 1)) = (inner (k0 :: kr)).map V.int := by
            unfold given inner
            rw [List.length_map, ← range_filter_map (fun d : Int => decide (1 < d)) 0 (diffs (k0 :: kr)), List.map_map, List.map_map]
            rfl
          rw [eg] at d3
          have hu4 := d2 _ _ hu3
          have x4 : Ex H H4 := x2.trans (c1.trans d2)
          refine ⟨_, rfl, u, _, 0, _, rfl, rfl, .inl (.inl hu4), atI_nat (j := 0) rfl, _, rfl, N, _, rfl, .inr (.inl (.inl d3)), _, rfl, _, _, rfl, rfl, _, rfl, 1, rfl, u, _, -1, _, rfl, rfl, .inl (.inl hu4), at_last_int hz, _, _, rfl, rfl, ?_, fun t ht => q _ t (x4.trans (Ex.new ht)) (fresh_back x4 ht) ?_⟩
          · have hil : (inner (k0 :: kr)).length ≤ kr.length := by
              unfold inner
              rw [List.length_map]
              have := List.length_filter_le (fun d : Int => decide (1 < d)) (diffs (k0 :: kr))
              omega
            simp only [List.length_cons, List.length_append, List.length_map, List.length_nil]
            exact Nat.le_of_lt (small1000 (by omega))
          · rw [upd_same]
            unfold holes
            rw [g1, g2, List.map_append, List.map_cons]
            have e9 : c - (z + 1) = c - 1 - z := by omega
            rw [e9]
            rfl
end
end Og

namespace Og
open PySem PySem.Spec PyProof.Rows L2 OgR Evl OgM
theorem paired_take {α β : Type} {F : α → β → Prop} : ∀ {l : List α} {g : List β} (k : Nat), Paired F l g → Paired F (l.take k) (g.take k)
  | _, _, 0, _ => .nil
  | _, _, _ + 1, .nil => .nil
  | _, _, k + 1, .cons r t => .cons r (paired_take k t)
theorem paired_drop {α β : Type} {F : α → β → Prop} : ∀ {l : List α} {g : List β} (k : Nat), Paired F l g → Paired F (l.drop k) (g.drop k)
  | _, _, 0, h => h
  | _, _, _ + 1, .nil => .nil
  | _, _, k + 1, .cons r t => paired_drop k t
theorem paired_app {α β : Type} {F : α → β → Prop} : ∀ {l l' : List α} {g g' : List β}, Paired F l g → Paired F l' g' → Paired F (l ++ l') (g ++ g')
  | _, _, _, _, .nil, h => h
  | _, _, _, _, .cons r t, h => .cons r (paired_app t h)
theorem paired_keep {α β : Type} {F G : α → β → Prop} : ∀ {l : List α} {g : List β}, Paired F l g → (∀ a ∈ l, ∀ b, F a b → G a b) → Paired G l g
  | _, _, .nil, _ => .nil
  | _, _, .cons r t, h => .cons (h _ (by simp) _ r) (paired_keep t fun a ha b => h a (by simp [ha]) b)
theorem paired_back {α β : Type} {F : α → β → Prop} : ∀ {l : List α} {g : List β} {i : Nat} {b : β}, Paired F l g → g[i]? = some b → ∃ a, l[i]? = some a ∧ F a b
  | _, _, _, _, .nil, e => by simp at e
  | _, _, 0, _, .cons r _, e => by
    simp at e
    subst e
    exact ⟨_, rfl, r⟩
  | _, _, i + 1, _, .cons _ t, e => paired_back (i := i) t (by simpa using e)
def tv (n : Nat) : V := .int (n : Int)
def PTm (H0 H : Hp) (q : Addr) (ts : List Nat) : Prop := H0 q = none ∧ H q = some (.lst (ts.map tv))
structure TL (H0 H : Hp) (p : Addr) (qs : List Addr) (st : List (List Nat)) : Prop where
  new : H0 p = none
  ex : Ex H0 H
  atP : H p = some (.lst (qs.map V.ref))
  pr : Paired (PTm H0 H) qs st
  np : p ∉ qs
  nd : qs.Nodup
section
variable {H0 H : Hp} {p : Addr} {qs : List Addr} {st : List (List Nat)}
theorem TL.exx {H' : Hp} (h : TL H0 H p qs st) (e : Ex H H') : TL H0 H' p qs st :=
  ⟨h.new, h.ex.trans e, e _ _ h.atP, h.pr.mono fun _ _ x => ⟨x.1, e _ _ x.2⟩, h.np, h.nd⟩
theorem TL.mem {q : Addr} (h : TL H0 H p qs st) (m : q ∈ qs) : ∃ ts, H q = some (.lst ts) ∧ H0 q = none := by
  obtain ⟨b, _, x⟩ := paired_mem h.pr q m
  exact ⟨_, x.2, x.1⟩
/-- the list of groups itself is changed: some of its lists kept, one new in between -/
theorem TL.cut {v : Addr} {ts : List Nat} {i j : Nat} (h : TL H0 H p qs st) (hv : H v = some (.lst (ts.map tv))) (h0 : H0 v = none) (nv : v ∉ qs) (nvp : v ≠ p) (hij : i ≤ j) :
    TL H0 (upd H p (.lst ((qs.take i ++ [v] ++ qs.drop j).map V.ref))) p (qs.take i ++ [v] ++ qs.drop j) (st.take i ++ [ts] ++ st.drop j) := by
  have sub : ∀ q ∈ qs, q ≠ p := fun q hq z => h.np (z ▸ hq)
  have mt : ∀ q ∈ qs.take i, q ∈ qs := fun q hq => List.mem_of_mem_take hq
  have md : ∀ q ∈ qs.drop j, q ∈ qs := fun q hq => List.mem_of_mem_drop hq
  refine ⟨h.new, h.ex.mut h.new, upd_same, paired_app (paired_app (paired_keep (paired_take i h.pr) fun q hq b x => ⟨x.1, ?_⟩) (.cons ⟨h0, ?_⟩ .nil)) (paired_keep (paired_drop j h.pr) fun q hq b x => ⟨x.1, ?_⟩), ?_, ?_⟩
  · rw [upd_ne (sub q (mt q hq))]
    exact x.2
  · rw [upd_ne nvp]
    exact hv
  · rw [upd_ne (sub q (md q hq))]
    exact x.2
  · simp only [List.mem_append, List.mem_singleton]
    rintro ((m | m) | m)
    · exact h.np (mt p m)
    · exact nvp m.symm
    · exact h.np (md p m)
  · have hs : (qs.take i ++ qs.drop j).Nodup := by
      refine h.nd.sublist ?_
      conv => rhs; rw [← List.take_append_drop i qs]
      refine List.Sublist.append (List.Sublist.refl _) ?_
      have : qs.drop j = (qs.drop i).drop (j - i) := by
        rw [List.drop_drop]
        congr 1
        omega
      rw [this]
      exact List.drop_sublist _ _
    rw [List.nodup_append] at hs ⊢
    obtain ⟨s1, s2, s3⟩ := hs
    refine ⟨?_, s2, fun a ha b hb e => ?_⟩
    · rw [List.nodup_append]
      refine ⟨s1, by simp, fun a ha b hb e => ?_⟩
      rw [List.mem_singleton.mp hb] at e
      exact nv (e ▸ mt a ha)
    · rcases List.mem_append.mp ha with ha | ha
      · exact s3 a ha b hb e
      · rw [List.mem_singleton.mp ha] at e
        exact nv (e ▸ md b hb)
/-- one of its lists is changed -/
theorem TL.one {q : Addr} {ts ts' : List Nat} {j : Nat} (h : TL H0 H p qs st) (hq : qs[j]? = some q) (hs : st[j]? = some ts) :
    TL H0 (upd H q (.lst (ts'.map tv))) p qs (st.set j ts') := by
  have hm : q ∈ qs := List.mem_of_getElem? hq
  have nqp : q ≠ p := fun z => h.np (z ▸ hm)
  obtain ⟨_, _, h0⟩ := h.mem hm
  have hj := (List.getElem?_eq_some_iff.mp hs).1
  have hjq := (List.getElem?_eq_some_iff.mp hq).1
  have eq : qs = qs.take j ++ q :: qs.drop (j + 1) := by
    rw [← drop_at hq, List.take_append_drop]
  have nd := h.nd
  rw [eq, List.nodup_append] at nd
  obtain ⟨n1, n2, n3⟩ := nd
  rw [List.nodup_cons] at n2
  refine ⟨h.new, h.ex.mut h0, by rw [upd_ne (Ne.symm nqp)]; exact h.atP, ?_, h.np, h.nd⟩
  rw [List.set_eq_take_append_cons_drop, if_pos hj]
  conv => arg 2; rw [eq]
  refine paired_app (paired_keep (paired_take j h.pr) fun q' hq' b x => ⟨x.1, ?_⟩) (.cons ⟨h0, upd_same⟩ (paired_keep (paired_drop (j + 1) h.pr) fun q' hq' b x => ⟨x.1, ?_⟩))
  · rw [upd_ne (fun z => n3 q' hq' q (by simp) z)]
    exact x.2
  · rw [upd_ne (fun (z : q' = q) => n2.1 (z ▸ hq'))]
    exact x.2
end
abbrev sTig : Stmt := topS 18
theorem scTig : FnScope ["choices", "standing", "time", "word", "number"] ["choices"] (defScope sTig) := ⟨rfl, rfl, rfl, by decide +kernel, rfl, by decide +kernel, by decide +kernel⟩
section
variable {P : Program} {w : World} {K : PySem.W.Frag} {mg : Str → Option Value} {base : Heap}
def spTig (K : PySem.W.Frag) : Sp := fun vs H Q _ => ∃ (b b' : Bool) (a : Addr) (cs : List Ch), vs = [.ref a] ∧ ChIs K b b' H a cs ∧ VCh cs ∧ cs.length ≤ 900 ∧
  ∀ H' p qs, TL H H' p qs (stAt cs cs.length) → Q (.ref p) H'
theorem ok_tig {f : Addr} {fd : FuncData} {k : Nat} (F : Fun K "times_in_groups" "times_in_groups" sTig f fd) (me : mg "enumerate" = none) : FnOk P w K mg base CX0 (k + 1) f fd ["choices"] (spTig K) := by
  refine F.ok scTig (fun vs H Q E h => ?_) (fun cdv A outer s H vs Q E hr h => ?_)
  · obtain ⟨_, _, _, _, rfl, _⟩ := h
    rfl
  · obtain ⟨b, b', a, cs, rfl, hC, hV, hlen, q⟩ := h
    refine ⟨_, pss_cons (ps_set (i := 1) scTig.nd rfl (.inl rfl) (pe_lst pa_nil))
      (pss_cons (ps_for PassesOwn.never rfl (pi_enumB (by rfl) me (pa_cons (pv 0) pa_nil))
          (pg_tup rfl (pgs_cons (pg_name (i := 2) scTig.nd rfl (.inl rfl)) (pgs_cons (pg_seqB rfl (pgs_cons (pg_name (i := 3) scTig.nd rfl (.inl rfl)) (pgs_cons (pg_name (i := 4) scTig.nd rfl (.inl rfl)) pgs_nil))) pgs_nil)))
        (pss_one (ps_if (pt_cmpR op_eq (pv 3) pe_str (nomark _))
          (pss_one (ps_expr (pe_bm PySem.F.plainAttrs_list PySem.F.slot_list_insert PySem.F.type_list_insert mt_insert (pv 1) (pa_cons (pv 4) (pa_cons (pe_lst (pa_cons (pv 2) pa_nil)) pa_nil)))))
          (pss_one (ps_if (pt_cmpR op_eq (pv 3) pe_str (nomark _))
            (pss_one (ps_asg (pe_lst (pa_cons (pe_op op_cat (pe_op op_cat (pe_ix ix_list (pv 1) (pv 4) (fun _ _ => rfl)) (pe_lst (pa_cons (pv 2) pa_nil))) (pe_ix ix_list (pv 1) (pe_op op_add (pv 4) pe_int) (fun _ _ => rfl))) pa_nil)) (pg_sl (pv 1) (po_some (pv 4)) (po_some (pe_op op_add (pv 4) pe_int)))))
            (pss_one (ps_if (pt_cmpR op_eq (pe_op op_mod (pv 4) pe_int) pe_int (nomark _))
              (pss_one (ps_expr (pe_bm PySem.F.plainAttrs_list PySem.F.slot_list_insert PySem.F.type_list_insert mt_insert (pe_ix ix_list (pv 1) (pe_op op_fdiv (pv 4) pe_int) (fun _ _ => rfl)) (pa_cons pe_int (pa_cons (pv 2) pa_nil)))))
              (pss_one (ps_expr (pe_bm PySem.F.plainAttrs_list PySem.F.slot_list_append PySem.F.type_list_append mt_append (pe_ix ix_list (pv 1) (pe_op op_fdiv (pv 4) pe_int) (fun _ _ => rfl)) (pa_cons (pv 2) pa_nil)))))))))))
      (pss_one (ps_ret (pv 1)))), ?_⟩
    obtain ⟨ts, hS, hP⟩ := hC
    refine ⟨Nat.zero_le _, fun p hp => ⟨_, rfl, b, a, _, rfl, hS.ex (Ex.new hp), for_it (walk_enumB (K := K) (b := b) (a := a) (xs := ts.map V.ref)) (fun i σ H3 => ∃ y2 y3 y4 qs, σ = [some (.ref a), some (.ref p), y2, y3, y4] ∧ TL H H3 p qs (stAt cs i)) ?_ ?_ ?_ ?_⟩⟩
    · exact ⟨none, none, none, [], rfl, hp, Ex.new hp, upd_same, .nil, by simp, List.nodup_nil⟩
    · rintro i σ H3 _ ⟨_, _, _, _, _, h⟩
      exact hS.ex h.ex
    · rintro i x σ H3 H3' hi ⟨y2, y3, y4, qs, rfl, hT⟩ ⟨T, x', rfl, hTn, rfl, hx⟩
      rw [List.getElem?_map] at hx
      obtain ⟨t, ht, rfl⟩ := Option.map_eq_some_iff.mp hx
      obtain ⟨c, hc, hct⟩ := paired_get hP ht
      have hil := (List.getElem?_eq_some_iff.mp hc).1
      have hv := hV i c hc
      obtain ⟨z1, z2⟩ := st_size hV i (by omega)
      have est : stAt cs (i + 1) = applyC i c (stAt cs i) := by
        show applyC i (cs.getD i (.new, 0)) (stAt cs i) = _
        rw [getD_at hc]
      rw [est]
      have x4 : Ex H3 (upd H3 T (.tup [.int (i : Nat), .ref t])) := Ex.new hTn
      have hT4 := hT.exx x4
      have hct4 : SqB K b' (upd H3 T (.tup [.int (i : Nat), .ref t])) t (chV c) := hct.ex (hT.ex.trans x4)
      refine ⟨T, _, rfl, .inl (.inl upd_same), rfl, _, _, rfl, _, _, rfl, b', t, chV c, rfl, hct4, rfl, _, _, rfl, _, _, rfl, rfl, rfl, ?_⟩
      clear hTn hct4
      generalize (upd H3 T (.tup [.int (i : Nat), .ref t])) = H4 at hT4
      have hlq : qs.length = (stAt cs i).length := hT4.pr.length
      obtain ⟨wd, k⟩ := c
      cases wd with
      | new =>
        have hk : k ≤ (stAt cs i).length := hv
        refine ⟨_, rfl, rfl, _, rfl, ite2 (fun _ => ?_) (fun z => absurd (decide_eq_true (by rfl)) z)⟩
        refine ⟨_, rfl, .inl ⟨rfl, _, .inl (.inl hT4.atP)⟩, _, rfl, _, rfl, (show 1 ≤ sizeLine by decide), fun v hvn => ⟨p, qs.map V.ref, k, .ref v, rfl, rfl, ?_, ?_, by omega, by omega, ?_⟩⟩
        · exact Ex.new hvn _ _ hT4.atP
        · rw [List.length_map]
          exact small1000 (by omega)
        · have hT5 := hT4.exx (Ex.new (o := .lst [.int (i : Nat)]) hvn)
          have e : (qs.map V.ref).take (k : Int).toNat ++ [V.ref v] ++ (qs.map V.ref).drop (k : Int).toNat = (qs.take k ++ [v] ++ qs.drop k).map V.ref := by
            rw [Int.toNat_natCast, ← List.map_take, ← List.map_drop, List.map_append, List.map_append]
            rfl
          rw [e]
          refine ⟨_, _, _, qs.take k ++ [v] ++ qs.drop k, rfl, hT5.cut (ts := [i]) upd_same (fresh_back hT4.ex hvn) (fun m => ?_) (Ne.symm (ne_of_none hT4.atP hvn)) (Nat.le_refl _)⟩
          obtain ⟨_, h1, _⟩ := hT4.mem m
          rw [hvn] at h1
          cases h1
      | between =>
        have hk : k + 1 < (stAt cs i).length := hv
        have s1 : (stAt cs i)[k]? = some ((stAt cs i)[k]'(by omega)) := List.getElem?_eq_getElem _
        have s2 : (stAt cs i)[k + 1]? = some ((stAt cs i)[k + 1]'hk) := List.getElem?_eq_getElem _
        have l1 := inner_len s1
        have l2 := inner_len s2
        generalize ((stAt cs i)[k]'(by omega)) = t1 at s1 l1
        generalize ((stAt cs i)[k + 1]'hk) = t2 at s2 l2
        obtain ⟨q1, hq1, hp1⟩ := paired_back hT4.pr s1
        obtain ⟨q2, hq2, hp2⟩ := paired_back hT4.pr s2
        have at1 : atI (qs.map V.ref) (k : Int) = some (.ref q1) := atI_nat (by rw [List.getElem?_map, hq1]; rfl)
        have at2 : atI (qs.map V.ref) ((k : Int) + 1) = some (.ref q2) := at_of (j := k + 1) (by omega) (by rw [List.getElem?_map, hq2]; rfl)
        refine ⟨_, rfl, rfl, _, rfl, ite2 (fun z => absurd (of_decide_eq_true z) (show ¬ V.str (wstr .between) = V.str "new" by decide)) (fun _ => ?_)⟩
        refine ⟨_, rfl, rfl, _, rfl, ite2 (fun _ => ?_) (fun z => absurd (decide_eq_true (by rfl)) z)⟩
        refine ⟨_, rfl, _, rfl, p, _, _, _, rfl, rfl, .inl (.inl hT4.atP), at1, _, rfl, (show 1 ≤ sizeLine by decide), fun v1 hv1 => ?_⟩
        have hT5 := hT4.exx (Ex.new (o := .lst [.int (i : Nat)]) hv1)
        have hp15 := Ex.new (o := .lst [.int (i : Nat)]) hv1 _ _ hp1.2
        have hp25 := Ex.new (o := .lst [.int (i : Nat)]) hv1 _ _ hp2.2
        have hv15 : (upd H4 v1 (.lst [.int (i : Nat)])) v1 = some (.lst [.int (i : Nat)]) := upd_same
        generalize (upd H4 v1 (.lst [.int (i : Nat)])) = H5 at hT5 hp15 hp25 hv15
        refine ⟨q1, v1, t1.map tv, _, rfl, rfl, hp15, hv15, ?_, fun v2 hv2 => ?_⟩
        · rw [List.length_map]
          exact Nat.le_of_lt (small1000 (show t1.length + 1 ≤ 1000 by omega))
        have hT6 := hT5.exx (Ex.new (o := .lst (t1.map tv ++ [.int (i : Nat)])) hv2)
        have hp26 := Ex.new (o := .lst (t1.map tv ++ [.int (i : Nat)])) hv2 _ _ hp25
        have hv26 : (upd H5 v2 (.lst (t1.map tv ++ [.int (i : Nat)]))) v2 = some (.lst (t1.map tv ++ [.int (i : Nat)])) := upd_same
        generalize (upd H5 v2 (.lst (t1.map tv ++ [.int (i : Nat)]))) = H6 at hT6 hp26 hv26
        refine ⟨_, rfl, _, rfl, _, _, rfl, rfl, p, _, _, _, rfl, rfl, .inl (.inl hT6.atP), at2, v2, q2, _, t2.map tv, rfl, rfl, hv26, hp26, ?_, fun v3 hv3 => ?_⟩
        · rw [List.length_append, List.length_map, List.length_map]
          exact sz_of (show t1.length + 1 + t2.length ≤ 100000 by omega)
        have hT7 := hT6.exx (Ex.new (o := .lst (t1.map tv ++ [.int (i : Nat)] ++ t2.map tv)) hv3)
        have hv37 : (upd H6 v3 (.lst (t1.map tv ++ [.int (i : Nat)] ++ t2.map tv))) v3 = some (.lst ((t1 ++ [i] ++ t2).map tv)) := by
          rw [upd_same, List.map_append, List.map_append]
          rfl
        have nv3 : v3 ∉ qs := fun m => by
          obtain ⟨_, h1, _⟩ := hT6.mem m
          rw [hv3] at h1
          cases h1
        have nv3p : v3 ≠ p := Ne.symm (ne_of_none hT6.atP hv3)
        have h0v3 := fresh_back hT6.ex hv3
        generalize (upd H6 v3 (.lst (t1.map tv ++ [.int (i : Nat)] ++ t2.map tv))) = H7 at hT7 hv37
        refine ⟨(show 1 ≤ sizeLine by decide), fun wn hwn => ?_⟩
        have hT8 := hT7.exx (Ex.new (o := .lst [.ref v3]) hwn)
        have hv38 := Ex.new (o := .lst [.ref v3]) hwn _ _ hv37
        refine ⟨_, rfl, _, rfl, _, rfl, _, rfl, _, _, rfl, rfl, _, rfl, p, wn, qs.map V.ref, [.ref v3], k, (k : Int) + 2, rfl, rfl, rfl, rfl, hT8.atP, upd_same, ne_of_none hT7.atP hwn, by omega, by omega, by rw [List.length_map]; omega, ?_, ?_⟩
        · rw [List.length_map]
          exact Nat.le_of_lt (small1000 (show qs.length + 1 ≤ 1000 by omega))
        · have e : (qs.map V.ref).take (k : Int).toNat ++ [V.ref v3] ++ (qs.map V.ref).drop ((k : Int) + 2).toNat = (qs.take k ++ [v3] ++ qs.drop (k + 2)).map V.ref := by
            rw [Int.toNat_natCast, show ((k : Int) + 2).toNat = k + 2 by omega, ← List.map_take, ← List.map_drop, List.map_append, List.map_append]
            rfl
          rw [e]
          refine ⟨_, _, _, qs.take k ++ [v3] ++ qs.drop (k + 2), rfl, ?_⟩
          have hA : applyC i (.between, k) (stAt cs i) = (stAt cs i).take k ++ [t1 ++ [i] ++ t2] ++ (stAt cs i).drop (k + 2) := by
            show (stAt cs i).take k ++ [((stAt cs i).getD k []) ++ [i] ++ ((stAt cs i).getD (k + 1) [])] ++ (stAt cs i).drop (k + 2) = _
            rw [getD_at s1, getD_at s2]
          rw [hA]
          exact hT8.cut hv38 h0v3 nv3 nv3p (by omega)
      | beside =>
        have hk : k < 2 * (stAt cs i).length := hv
        have hj : k / 2 < (stAt cs i).length := by omega
        have s1 : (stAt cs i)[k / 2]? = some ((stAt cs i)[k / 2]'hj) := List.getElem?_eq_getElem _
        have l1 := inner_len s1
        generalize ((stAt cs i)[k / 2]'hj) = t1 at s1 l1
        obtain ⟨q1, hq1, hp1⟩ := paired_back hT4.pr s1
        have at1 : atI (qs.map V.ref) ((k : Int) / 2) = some (.ref q1) := at_of (j := k / 2) (by omega) (by rw [List.getElem?_map, hq1]; rfl)
        have hA : applyC i (.beside, k) (stAt cs i) = if k % 2 = 0 then (stAt cs i).set (k / 2) (i :: t1) else (stAt cs i).set (k / 2) (t1 ++ [i]) := by
          show (if k % 2 = 0 then (stAt cs i).set (k / 2) (i :: (stAt cs i).getD (k / 2) []) else (stAt cs i).set (k / 2) ((stAt cs i).getD (k / 2) [] ++ [i])) = _
          rw [getD_at s1]
        rw [hA]
        refine ⟨_, rfl, rfl, _, rfl, ite2 (fun z => absurd (of_decide_eq_true z) (show ¬ V.str (wstr .beside) = V.str "new" by decide)) (fun _ => ?_)⟩
        refine ⟨_, rfl, rfl, _, rfl, ite2 (fun z => absurd (of_decide_eq_true z) (show ¬ V.str (wstr .beside) = V.str "between" by decide)) (fun _ => ?_)⟩
        refine ⟨_, rfl, _, _, rfl, rfl, (show (0 : Int) < 2 by decide), rfl, _, rfl, ite2 (fun z => ?_) (fun z => ?_)⟩
        · have hz : (k : Int) % 2 = 0 := V.int.inj (of_decide_eq_true z)
          rw [if_pos (by omega)]
          refine ⟨_, rfl, _, rfl, _, _, rfl, rfl, ⟨by decide, by decide⟩, p, _, _, _, rfl, rfl, .inl (.inl hT4.atP), at1, .inl ⟨rfl, _, .inl (.inl hp1.2)⟩, _, rfl, q1, t1.map tv, 0, _, rfl, rfl, hp1.2, ?_, by decide, by decide, _, _, _, qs, rfl, ?_⟩
          · rw [List.length_map]
            exact small1000 (by omega)
          · exact hT4.one (ts' := i :: t1) hq1 s1
        · have hz : ¬ (k : Int) % 2 = 0 := fun u => z (decide_eq_true (congrArg V.int u))
          rw [if_neg (by omega)]
          refine ⟨_, rfl, _, rfl, _, _, rfl, rfl, ⟨by decide, by decide⟩, p, _, _, _, rfl, rfl, .inl (.inl hT4.atP), at1, .inl ⟨rfl, _, .inl (.inl hp1.2)⟩, _, rfl, q1, t1.map tv, _, rfl, rfl, hp1.2, ?_, _, _, _, qs, rfl, ?_⟩
          · rw [List.length_map]
            exact small1000 (by omega)
          · have e : t1.map tv ++ [V.int (i : Nat)] = (t1 ++ [i]).map tv := by
              rw [List.map_append]
              rfl
            rw [e]
            exact hT4.one (ts' := t1 ++ [i]) hq1 s1
    · rintro σ H3 ⟨y2, y3, y4, qs, rfl, hT⟩
      have hl : (ts.map V.ref).length = cs.length := by rw [List.length_map, hP.length]
      rw [hl] at hT
      exact ⟨_, rfl, q H3 p qs hT⟩
end
end Og

namespace Og
open PySem PySem.Spec PyProof.Rows L2 OgR Evl OgM
abbrev sRow : Stmt := topS 19
theorem scRow : FnScope ["choices", "gaps", "row", "plot", "times", "gap", "time"] ["choices", "gaps"] (defScope sRow) := ⟨rfl, rfl, rfl, by decide +kernel, rfl, by decide +kernel, by decide +kernel⟩
/-- gaps[1:], a list or a tuple that is not empty -/
def rSlB (K : PySem.W.Frag) : V → Option Int → Option Int → Hp → VK → Prop := fun x lo hi H Q => ∃ (b : Bool) (a : Addr) (y : V) (ys : List V), x = .ref a ∧ lo = some 1 ∧ hi = none ∧ SqB K b H a (y :: ys) ∧
  ∀ p H', H p = none → Ex H H' → SqB K b H' p ys → Q (.ref p) H'
theorem sl_B {X : Cx} : SlR X (rSlB X.K) := by
  intro pins s σ H x v vl vu lo hi sl Q I rx hs pl pu h
  obtain ⟨b, a, y, ys, rfl, rfl, rfl, hS, q⟩ := h
  have e : cutV (y :: ys) (some 1) none = ys := cut_from (y :: ys) 1
  cases b with
  | true =>
    refine sl_tup pins s σ H _ v vl vu _ _ sl Q I rx hs pl pu ⟨a, y :: ys, rfl, hS, fun z => ?_, fun p hp => ?_⟩
    · have z1 : HT.sIx (y :: ys).length 0 (some ((1 : Nat) : Int)) = 0 := z.1
      rw [HT.sIx_nat, List.length_cons] at z1
      omega
    · rw [e]
      exact q p _ hp (Ex.new hp) (.inl (.inl upd_same))
  | false =>
    refine sl_list pins s σ H _ v vl vu _ _ sl Q I rx hs pl pu ⟨a, y :: ys, rfl, hS, fun p hp => ?_⟩
    rw [e]
    exact q p _ hp (Ex.new hp) (.inl (.inl upd_same))
theorem rep_flat : ∀ n : Nat, (List.replicate n [V.int 0]).flatten = (List.replicate n (0 : Int)).map V.int
  | 0 => rfl
  | n + 1 => by
    rw [List.replicate_succ, List.replicate_succ, List.flatten_cons, rep_flat n]
    rfl
theorem SqB.exB {K : PySem.W.Frag} {b : Bool} {l a : Addr} {H H' : Hp} {xs : List V} (h : SqB K b H a xs) (n : a ≠ l) (e : ExB l H H') : SqB K b H' a xs := by
  cases b with
  | true =>
    rcases h with (h | ⟨o, h⟩) | h
    · exact .inl (.inl (e _ _ n h))
    · exact .inl (.inr ⟨o, e _ _ n h⟩)
    · exact .inr h
  | false =>
    rcases h with (h | ⟨o, h⟩) | h
    · exact .inl (.inl (e _ _ n h))
    · exact .inl (.inr ⟨o, e _ _ n h⟩)
    · exact .inr h
theorem all_at {R : List Int} {n : Nat} {fn : Nat → Int} (hl : R.length = n) (h : ∀ t, t < n → R[t]? = some (fn t)) : R = (List.range n).map fn := by
  refine List.ext_getElem? fun i => ?_
  by_cases hi : i < n
  · rw [h i hi, List.getElem?_map, List.getElem?_range hi]
    rfl
  · rw [List.getElem?_eq_none (by omega), List.getElem?_eq_none (by simp; omega)]
section
variable {P : Program} {w : World} {K : PySem.W.Frag} {mg : Str → Option Value} {base : Heap}
def spRow (K : PySem.W.Frag) : Sp := fun vs H Q _ => ∃ (b b' bg : Bool) (a ga : Addr) (cs : List Ch) (c : Int) (g : List Seg) (fn : Nat → Int), vs = [.ref a, .ref ga] ∧ ChIs K b b' H a cs ∧ VCh cs ∧ cs.length ≤ 900 ∧
  SqB K bg H ga ((holes c g).map V.int) ∧ Told fn (stAt cs cs.length) g ∧ ∀ H' t, Ex H H' → H t = none → H' t = some (.tup (((List.range cs.length).map fn).map V.int)) → Q (.ref t) H'
theorem ok_row {f fT : Addr} {fd fdT : FuncData} {k : Nat} (F : Fun K "row_of" "row_of" sRow f fd) (FT : Fun K "times_in_groups" "times_in_groups" sTig fT fdT) (bT : Binds K fdT ["choices"] []) (gT : mg "times_in_groups" = some (.ref fT))
    (me : mg "enumerate" = none) (ml : mg "len" = none) (mz : mg "zip" = none) (mt : mg "tuple" = none) : FnOk P w K mg base CX0 (k + 2) f fd ["choices", "gaps"] (spRow K) := by
  have GT : FnOk P w K mg base CX0 (k + 1) fT fdT ["choices"] (spTig K) := ok_tig FT me
  refine F.ok scRow (fun vs H Q E h => ?_) (fun cdv A outer s H vs Q E hr h => ?_)
  · obtain ⟨_, _, _, _, _, _, _, _, _, rfl, _⟩ := h
    rfl
  · obtain ⟨b, b', bg, a, ga, cs, c, g, fn, rfl, hC, hV, hlen, hG, hTo, q⟩ := h
    refine ⟨_, pss_cons (ps_set (i := 2) scRow.nd rfl (.inl rfl) (pe_op op_rep (pe_lst (pa_cons pe_int pa_nil)) (pe_callB cr_lenB (by rfl) ml PySem.boot_len (pa_cons (pv 0) pa_nil))))
      (pss_cons (ps_set (i := 3) scRow.nd rfl (.inl rfl) (pe_ix ix_B (pv 1) pe_int (fun _ _ => rfl)))
      (pss_cons (ps_for PassesOwn.never rfl (pi_zipB (by rfl) mz (pa_cons (pe_call GT hr (by rfl) gT FT.kp bT .nil pass0 (pa_cons (pv 0) pa_nil)) (pa_cons (pe_slice sl_B (pv 1) (po_some pe_int) po_none) pa_nil)))
          (pg_tup rfl (pgs_cons (pg_name (i := 4) scRow.nd rfl (.inl rfl)) (pgs_cons (pg_name (i := 5) scRow.nd rfl (.inl rfl)) pgs_nil)))
        (pss_cons (ps_for PassesOwn.never rfl (pi_list (pv 4)) (pg_name (i := 6) scRow.nd rfl (.inl rfl))
            (pss_cons (ps_asg (pv 3) (pg_sub (pv 2) (pv 6) set_list)) (pss_one (ps_aug (i := 3) scRow.nd rfl (.inl rfl) pe_int ip_add))))
        (pss_one (ps_aug (i := 3) scRow.nd rfl (.inl rfl) (pv 5) ip_add))))
      (pss_one (ps_ret (pe_callTy call_tuple_of (by rfl) mt (by decide +kernel) (pa_cons (pv 2) pa_nil)))))), ?_⟩
    have hST : ∀ x, x ∈ (stAt cs cs.length).flatten ↔ x < cs.length := st_mem hV cs.length (Nat.le_refl _)
    obtain ⟨ts, hS, hP⟩ := hC
    have hlt : (ts.map V.ref).length = cs.length := by rw [List.length_map, hP.length]
    refine ⟨(show 1 ≤ sizeLine by decide), fun z hz => ⟨_, rfl, b, a, ts.map V.ref, rfl, hS.ex (Ex.new hz), z, _, _, rfl, rfl, upd_same, by omega, by omega, ?_, fun r hrn => ?_⟩⟩
    · show 1 * _ ≤ sizeLine
      exact Nat.le_of_lt (small1000 (by omega))
    have hr0 : H r = none := fresh_back (Ex.new hz) hrn
    rw [hlt, Int.toNat_natCast, rep_flat]
    have x1 : Ex H (upd (upd H z (.lst [.int 0])) r (.lst ((List.replicate cs.length (0 : Int)).map V.int))) := (Ex.new hz).trans (Ex.new hrn)
    have hr1 : (upd (upd H z (.lst [.int 0])) r (.lst ((List.replicate cs.length (0 : Int)).map V.int))) r = some (.lst ((List.replicate cs.length (0 : Int)).map V.int)) := upd_same
    generalize (upd (upd H z (.lst [.int 0])) r (.lst ((List.replicate cs.length (0 : Int)).map V.int))) = H1 at x1 hr1
    have hgl := holes_len c g
    obtain ⟨h0, hrest, eh⟩ : ∃ h0 hrest, holes c g = h0 :: hrest := by
      cases hh : holes c g with
      | nil =>
        rw [hh] at hgl
        simp at hgl
      | cons h0 hrest => exact ⟨h0, hrest, rfl⟩
    rw [eh] at hG
    have hrl : hrest.length = g.length := by
      rw [eh] at hgl
      simpa using hgl
    refine ⟨_, rfl, bg, ga, _, 0, _, rfl, rfl, hG.ex x1, atI_nat (j := 0) rfl, ?_⟩
    refine ⟨_, rfl, b, b', a, cs, rfl, ⟨ts, hS.ex x1, hP.mono fun _ _ x => x.ex x1⟩, hV, hlen, fun H2 p qs hT => ?_⟩
    refine ⟨_, rfl, 1, rfl, bg, ga, .int h0, hrest.map V.int, rfl, rfl, rfl, hG.ex (x1.trans hT.ex), fun sl H3 hsl e3 hSl => ?_⟩
    have hsg : (stAt cs cs.length).length = g.length := by
      have := congrArg List.length hTo
      simpa using this
    have hqg : qs.length = g.length := by rw [hT.pr.length, hsg]
    have hpr : p ≠ r := Ne.symm (ne_of_none hr1 hT.new)
    have hslr : sl ≠ r := Ne.symm (ne_of_none (hT.ex _ _ hr1) hsl)
    have hT3 := hT.exx e3
    refine ⟨false, bg, p, sl, qs.map V.ref, hrest.map V.int, rfl, .inl (.inl hT3.atP), hSl, for_it (walk_zipB (K := K) (b1 := false) (b2 := bg) (a1 := p) (a2 := sl) (xs := qs.map V.ref) (ys := hrest.map V.int) (by rw [List.length_map, List.length_map, hqg, hrl]))
      (fun j σ H4 => ∃ (y4 y5 y6 : Option V) (pl : Int) (R : List Int), σ = [some (.ref a), some (.ref ga), some (.ref r), some (.int pl), y4, y5, y6] ∧ ExB r H3 H4 ∧ H4 r = some (.lst (R.map V.int)) ∧ R.length = cs.length ∧ (∀ t ∈ ((stAt cs cs.length).take j).flatten, R[t]? = some (fn t)) ∧ (∀ x, g[j]? = some x → pl = x.1)) ?_ ?_ ?_ ?_⟩
    · refine ⟨none, none, none, h0, List.replicate cs.length 0, rfl, .of (Ex.refl _), hT3.ex _ _ hr1, by simp, by simp, fun x hx => ?_⟩
      cases g with
      | nil => simp at hx
      | cons y gr =>
        have e1 : y = x := Option.some.inj hx
        subst e1
        have e2 : y.1 - 0 = h0 := by
          have : holes c (y :: gr) = (y.1 - 0) :: _ := rfl
          rw [this] at eh
          injection eh
        omega
    · rintro j σ H4 _ ⟨_, _, _, _, _, _, e4, _⟩
      exact ⟨SqB.exB (b := false) (.inl (.inl hT3.atP)) hpr e4, SqB.exB hSl hslr e4⟩
    · rintro j x σ H4 H4' hj ⟨y4, y5, y6, pl, R, rfl, e4, hr4, hRl, hRt, hpl⟩ ⟨T, x', y', rfl, hTn, rfl, hx, hy⟩
      rw [List.getElem?_map] at hx hy
      obtain ⟨q', hq', rfl⟩ := Option.map_eq_some_iff.mp hx
      obtain ⟨gp, hgp, rfl⟩ := Option.map_eq_some_iff.mp hy
      obtain ⟨tj, htj, hqv⟩ := paired_get hT3.pr hq'
      obtain ⟨xg, hxg, hmap⟩ := told_get hTo htj
      have hpl' := hpl xg hxg
      subst hpl'
      have hq0 : H1 q' = none := hqv.1
      have hqr : q' ≠ r := Ne.symm (ne_of_none hr1 hq0)
      have hq4 := e4 _ _ hqr hqv.2
      have x5 : Ex H4 (upd H4 T (.tup [.ref q', .int gp])) := Ex.new hTn
      have hq5 := x5 _ _ hq4
      have hr5 := x5 _ _ hr4
      have e5 : ExB r H3 (upd H4 T (.tup [.ref q', .int gp])) := e4.trans (.of x5)
      have htl : tj.length = xg.2 + 1 := by
        have := congrArg List.length hmap
        rw [List.length_map, sgi_len] at this
        exact this
      refine ⟨T, _, rfl, .inl (.inl upd_same), rfl, _, _, rfl, _, _, rfl, rfl, ?_⟩
      generalize (upd H4 T (.tup [.ref q', .int gp])) = H5 at hq5 hr5 e5
      refine ⟨_, rfl, q', rfl, ⟨_, .inl (.inl hq5)⟩, for_list (xs := tj.map tv) (fun i σ H6 => ∃ (y6 : Option V) (R : List Int), σ = [some (.ref a), some (.ref ga), some (.ref r), some (.int (xg.1 + (i : Nat))), some (.ref q'), some (.int gp), y6] ∧ ExB r H3 H6 ∧ H6 r = some (.lst (R.map V.int)) ∧ R.length = cs.length ∧ (∀ t, t ∈ ((stAt cs cs.length).take j).flatten ∨ t ∈ tj.take i → R[t]? = some (fn t))) ?_ ?_ ?_ ?_⟩
      · refine ⟨y6, R, ?_, e5, hr5, hRl, fun t ht => ?_⟩
        · show _ = [some (V.ref a), some (.ref ga), some (.ref r), some (.int (xg.1 + ((0 : Nat) : Int))), some (.ref q'), some (.int gp), y6]
          rw [show xg.1 + ((0 : Nat) : Int) = xg.1 by omega]
          rfl
        · rcases ht with ht | ht
          · exact hRt t ht
          · simp at ht
      · rintro i σ H6 _ ⟨_, _, _, e6, _⟩
        exact .inl (.inl (e6 _ _ hqr hqv.2))
      · rintro i x σ H6 hx6 ⟨y6', R6, rfl, e6, hr6, hR6, hRt6⟩
        rw [List.getElem?_map] at hx6
        obtain ⟨t, ht, rfl⟩ := Option.map_eq_some_iff.mp hx6
        have hti := (List.getElem?_eq_some_iff.mp ht).1
        have htf : t ∈ (stAt cs cs.length).flatten := List.mem_flatten.mpr ⟨tj, List.mem_of_getElem? htj, List.mem_of_getElem? ht⟩
        have htn : t < cs.length := (hST t).mp htf
        have hft : fn t = xg.1 + (i : Nat) := by
          have q1 : (tj.map fn)[i]? = some (fn t) := by rw [List.getElem?_map, ht]; rfl
          rw [hmap, sgi_get (by omega)] at q1
          exact (Option.some.inj q1).symm
        refine ⟨_, rfl, _, rfl, _, rfl, r, _, _, t, rfl, rfl, hr6, ixN_nat (by rw [List.length_map]; omega), ?_⟩
        refine ⟨_, rfl, _, _, rfl, rfl, some (tv t), R6.set t (xg.1 + (i : Nat)), ?_, e6.trans .box, ?_, by rw [List.length_set]; exact hR6, fun t' ht' => ?_⟩
        · show [some (V.ref a), some (.ref ga), some (.ref r), some (.int (xg.1 + (i : Nat) + 1)), some (.ref q'), some (.int gp), some (tv t)] = _
          rw [show xg.1 + ((i : Nat) : Int) + 1 = xg.1 + ((i + 1 : Nat) : Int) by omega]
        · rw [upd_same, List.map_set]
        · by_cases hh : t = t'
          · subst hh
            rw [List.getElem?_set_self (by omega), hft]
          · rw [List.getElem?_set_ne hh]
            refine hRt6 t' ?_
            rcases ht' with h1 | h1
            · exact .inl h1
            · rw [take_next ht] at h1
              rcases List.mem_append.mp h1 with h1 | h1
              · exact .inr h1
              · exact absurd (List.mem_singleton.mp h1).symm hh
      · rintro σ H6 ⟨y6', R6, rfl, e6, hr6, hR6, hRt6⟩
        refine ⟨_, rfl, _, rfl, _, _, rfl, rfl, some (.ref q'), some (.int gp), y6', _, R6, rfl, e6, hr6, hR6, fun t ht => ?_, fun y hy' => ?_⟩
        · refine hRt6 t ?_
          rw [take_next htj, List.flatten_append, List.mem_append] at ht
          rcases ht with ht | ht
          · exact .inl ht
          · rw [show tj.take (tj.map tv).length = tj from List.take_of_length_le (by rw [List.length_map]; exact Nat.le_refl _)]
            simp at ht
            exact .inr ht
        · have h5 := holes_get (c := c) hxg hy'
          rw [eh, List.getElem?_cons_succ, hgp] at h5
          have h6 := Option.some.inj h5
          rw [List.length_map, htl]
          show xg.1 + ((xg.2 + 1 : Nat) : Int) + gp = y.1
          omega
    · rintro σ H4 ⟨y4, y5, y6, pl, R, rfl, e4, hr4, hRl, hRt, _⟩
      rw [List.take_of_length_le (by rw [List.length_map, hqg, hsg]; exact Nat.le_refl _)] at hRt
      have hR := all_at hRl fun t ht => hRt t ((hST t).mpr ht)
      subst hR
      have hex : Ex H H4 := fun a' o h => e4 a' o (ne_of_none h hr0) (hT3.ex _ _ (x1 _ _ h))
      refine ⟨_, rfl, r, _, rfl, .inl ⟨.inl (.inl hr4), fun t ht => q _ t (hex.trans (Ex.new ht)) (fresh_back hex ht) upd_same⟩⟩
end
end Og

namespace Og
open PySem PySem.Spec PyProof.Rows L2 OgR Evl OgM
/-! ### kinds -/
theorem tyx_L {K : PySem.W.Frag} {H : Hp} {a : Addr} {xs : List V} (h : SqL K H a xs) : TyX K H (.ref a) (.type "list") := by
  rcases h with (h | ⟨o, h⟩) | ⟨o, _, _, hk, hc, _⟩
  · exact .base (.lst h)
  · exact .base (.frz h)
  · exact .kList hk hc
theorem tyx_T {K : PySem.W.Frag} {H : Hp} {a : Addr} {xs : List V} (h : SqT K H a xs) : TyX K H (.ref a) (.type "tuple") := by
  rcases h with (h | ⟨o, h⟩) | ⟨o, _, _, hk, hc, _⟩
  · exact .base (.tup h)
  · exact .fTuple h
  · exact .kTuple hk hc
def tyN : PyData → String
  | .none => "NoneType"
  | .bool _ => "bool"
  | .int _ => "int"
  | .str _ => "str"
  | .list _ => "list"
  | .tuple _ => "tuple"
  | .dict _ => "dict"
theorem tyx_D {K : PySem.W.Frag} {H : Hp} {v : V} {d : PyData} (h : Dp K H v d) : TyX K H v (.type (tyN d)) := by
  cases h with
  | non => exact .base .non
  | bl b => exact .base (.bl b)
  | int i => exact .base (.int i)
  | str x => exact .base (.str x)
  | lst h _ => exact tyx_L h
  | tup h _ => exact tyx_T h
def isNum : PyData → Bool
  | .int _ => true
  | _ => false
def isBelow (d : PyData) (n : Int) : Bool :=
  match d with
  | .int i => decide (0 ≤ i) && decide (i < n)
  | _ => false
def manyC : Wd → Nat → Nat
  | .new, n => n + 1
  | .beside, n => 2 * n
  | .between, n => n - 1
theorem valid_iff {c : Ch} {n : Nat} (h : Valid c n) : c.2 < manyC c.1 n := by
  obtain ⟨w, k⟩ := c
  cases w with
  | new => exact Nat.lt_succ_of_le h
  | beside => exact h
  | between =>
    have h' : k + 1 < n := h
    show k < n - 1
    omega
abbrev sIsN : Stmt := topS 1
theorem scIsN : FnScope ["thing"] ["thing"] (defScope sIsN) := ⟨rfl, rfl, rfl, by decide +kernel, rfl, by decide +kernel, by decide +kernel⟩
abbrev sIsB : Stmt := topS 2
theorem scIsB : FnScope ["thing", "limit"] ["thing", "limit"] (defScope sIsB) := ⟨rfl, rfl, rfl, by decide +kernel, rfl, by decide +kernel, by decide +kernel⟩
abbrev sMany : Stmt := topS 9
theorem scMany : FnScope ["word", "many"] ["word", "many"] (defScope sMany) := ⟨rfl, rfl, rfl, by decide +kernel, rfl, by decide +kernel, by decide +kernel⟩
abbrev sIsC : Stmt := topS 10
theorem scIsC : FnScope ["many", "thing", "word", "number"] ["many", "thing"] (defScope sIsC) := ⟨rfl, rfl, rfl, by decide +kernel, rfl, by decide +kernel, by decide +kernel⟩
abbrev sIsCs : Stmt := topS 11
theorem scIsCs : FnScope ["thing", "many", "part"] ["thing"] (defScope sIsCs) := ⟨rfl, rfl, rfl, by decide +kernel, rfl, by decide +kernel, by decide +kernel⟩
abbrev sGa : Stmt := topS 12
theorem scGa : FnScope ["words", "word"] ["words"] (defScope sGa) := ⟨rfl, rfl, rfl, by decide +kernel, rfl, by decide +kernel, by decide +kernel⟩
abbrev sIsG : Stmt := topS 13
theorem scIsG : FnScope ["choices", "thing", "many", "word", "number", "gap"] ["choices", "thing"] (defScope sIsG) := ⟨rfl, rfl, rfl, by decide +kernel, rfl, by decide +kernel, by decide +kernel⟩
section
variable {P : Program} {w : World} {K : PySem.W.Frag} {mg : Str → Option Value} {base : Heap}
def spIsN (K : PySem.W.Frag) : Sp := fun vs H Q _ => ∃ (v : V) (d : PyData), vs = [v] ∧ Dp K H v d ∧ Q (.bl (isNum d)) H
theorem kb_int (d : PyData) : ∃ b, kitB (tyN d) "int" = some b ∧ ∃ c, kitB (tyN d) "bool" = some c ∧ (b && !c) = isNum d := by
  cases d with
  | none => exact ⟨false, (show kitB "NoneType" "int" = some false by decide +kernel), false, (show kitB "NoneType" "bool" = some false by decide +kernel), rfl⟩
  | bool _ => exact ⟨true, (show kitB "bool" "int" = some true by decide +kernel), true, (show kitB "bool" "bool" = some true by decide +kernel), rfl⟩
  | int _ => exact ⟨true, (show kitB "int" "int" = some true by decide +kernel), false, (show kitB "int" "bool" = some false by decide +kernel), rfl⟩
  | str _ => exact ⟨false, (show kitB "str" "int" = some false by decide +kernel), false, (show kitB "str" "bool" = some false by decide +kernel), rfl⟩
  | list _ => exact ⟨false, (show kitB "list" "int" = some false by decide +kernel), false, (show kitB "list" "bool" = some false by decide +kernel), rfl⟩
  | tuple _ => exact ⟨false, (show kitB "tuple" "int" = some false by decide +kernel), false, (show kitB "tuple" "bool" = some false by decide +kernel), rfl⟩
  | dict _ => exact ⟨false, (show kitB "dict" "int" = some false by decide +kernel), false, (show kitB "dict" "bool" = some false by decide +kernel), rfl⟩
theorem ok_isN {f : Addr} {fd : FuncData} {k : Nat} (F : Fun K "is_number" "is_number" sIsN f fd) (mI : mg "isinstance" = none) (mi : mg "int" = none) (mb : mg "bool" = none) : FnOk P w K mg base CX0 (k + 1) f fd ["thing"] (spIsN K) := by
  refine F.ok scIsN (fun vs H Q E h => ?_) (fun cdv A outer s H vs Q E hr h => ?_)
  · obtain ⟨_, _, rfl, _⟩ := h
    rfl
  · obtain ⟨v, d, rfl, hd, q⟩ := h
    refine ⟨_, pss_one (ps_ret (pe_and (pe_callB call_isi (by rfl) mI (by decide +kernel) (pa_cons (pv 0) (pa_cons (pe_bltn (v := .ty "int") (by rfl) mi (by decide +kernel) rfl) pa_nil)))
      (pe_one (pe_not (pe_callB call_isi (by rfl) mI (by decide +kernel) (pa_cons (pv 0) (pa_cons (pe_bltn (v := .ty "bool") (by rfl) mb (by decide +kernel) rfl) pa_nil))))))), ?_⟩
    obtain ⟨b, hb, c, hc, e⟩ := kb_int d
    refine ⟨_, rfl, v, _, _, _, b, rfl, .ty _, tyx_D hd, kit_ty hb, b, rfl, ?_⟩
    cases b with
    | false =>
      rw [← e] at q
      exact q
    | true =>
      refine ⟨_, rfl, v, _, _, _, c, rfl, .ty _, tyx_D hd, kit_ty hc, c, rfl, ?_⟩
      rw [← e] at q
      exact q
def spIsB (K : PySem.W.Frag) : Sp := fun vs H Q _ => ∃ (v : V) (d : PyData) (n : Int), vs = [v, .int n] ∧ Dp K H v d ∧ Q (.bl (isBelow d n)) H
theorem ok_isB {f fN : Addr} {fd fdN : FuncData} {k : Nat} (F : Fun K "is_number_below" "is_number_below" sIsB f fd) (FN : Fun K "is_number" "is_number" sIsN fN fdN) (bN : Binds K fdN ["thing"] []) (gN : mg "is_number" = some (.ref fN))
    (mI : mg "isinstance" = none) (mi : mg "int" = none) (mb : mg "bool" = none) : FnOk P w K mg base CX0 (k + 2) f fd ["thing", "limit"] (spIsB K) := by
  have GN : FnOk P w K mg base CX0 (k + 1) fN fdN ["thing"] (spIsN K) := ok_isN FN mI mi mb
  refine F.ok scIsB (fun vs H Q E h => ?_) (fun cdv A outer s H vs Q E hr h => ?_)
  · obtain ⟨_, _, _, rfl, _⟩ := h
    rfl
  · obtain ⟨v, d, n, rfl, hd, q⟩ := h
    refine ⟨_, pss_one (ps_ret (pe_and (pe_call GN hr (by rfl) gN FN.kp bN .nil pass0 (pa_cons (pv 0) pa_nil)) (pe_one (pe_chain op_le op_lt pe_int (pv 0) (pv 1))))), ?_⟩
    refine ⟨_, rfl, v, d, rfl, hd, _, rfl, ?_⟩
    cases hd with
    | int i =>
      refine ⟨_, rfl, _, _, rfl, rfl, _, rfl, ?_⟩
      have q2 : Q (.bl (decide (0 ≤ i) && decide (i < n))) H := q
      by_cases h0 : 0 ≤ i
      · rw [decide_eq_true h0] at q2 ⊢
        exact ⟨_, rfl, _, _, rfl, rfl, q2⟩
      · rw [decide_eq_false h0] at q2 ⊢
        exact q2
    | non => exact q
    | bl _ => exact q
    | str _ => exact q
    | lst _ _ => exact q
    | tup _ _ => exact q
def spMany : Sp := fun vs H Q _ => ∃ (wd : Wd) (n : Nat), vs = [.str (wstr wd), .int n] ∧ n ≤ 1000000 ∧ Q (.int (manyC wd n : Nat)) H
theorem ok_many {f : Addr} {fd : FuncData} {k : Nat} (F : Fun K "many_choices" "many_choices" sMany f fd) (mx : mg "max" = none) : FnOk P w K mg base CX0 (k + 1) f fd ["word", "many"] spMany := by
  refine F.ok scMany (fun vs H Q E h => ?_) (fun cdv A outer s H vs Q E hr h => ?_)
  · obtain ⟨_, _, rfl, _⟩ := h
    rfl
  · obtain ⟨wd, n, rfl, hn, q⟩ := h
    refine ⟨_, pss_cons (ps_if (pt_cmpR op_eq (pv 0) pe_str (nomark _)) (pss_one (ps_ret (pe_op op_add (pv 1) pe_int))) pss_nil)
      (pss_cons (ps_if (pt_cmpR op_eq (pv 0) pe_str (nomark _)) (pss_one (ps_ret (pe_op op_mul pe_int (pv 1)))) pss_nil)
      (pss_one (ps_ret (pe_callB (call_max2 (by rfl)) (by rfl) mx (by decide +kernel) (pa_cons (pe_op op_sub (pv 1) pe_int) (pa_cons pe_int pa_nil)))))), ?_⟩
    cases wd with
    | new =>
      refine ⟨_, rfl, rfl, _, rfl, ite2 (fun _ => ⟨_, rfl, _, _, rfl, rfl, ?_⟩) (fun z => absurd (decide_eq_true (by rfl)) z)⟩
      have e : ((manyC .new n : Nat) : Int) = (n : Int) + 1 := by
        show ((n + 1 : Nat) : Int) = _
        omega
      rw [e] at q
      exact q
    | beside =>
      refine ⟨_, rfl, rfl, _, rfl, ite2 (fun z => absurd (of_decide_eq_true z) (show ¬ V.str (wstr .beside) = V.str "new" by decide)) (fun _ => ?_)⟩
      refine ⟨_, rfl, rfl, _, rfl, ite2 (fun _ => ⟨_, rfl, _, _, rfl, rfl, .inl ⟨by decide, by decide⟩, ?_⟩) (fun z => absurd (decide_eq_true (by rfl)) z)⟩
      have e : ((manyC .beside n : Nat) : Int) = 2 * (n : Int) := by
        show ((2 * n : Nat) : Int) = _
        omega
      rw [e] at q
      exact q
    | between =>
      refine ⟨_, rfl, rfl, _, rfl, ite2 (fun z => absurd (of_decide_eq_true z) (show ¬ V.str (wstr .between) = V.str "new" by decide)) (fun _ => ?_)⟩
      refine ⟨_, rfl, rfl, _, rfl, ite2 (fun z => absurd (of_decide_eq_true z) (show ¬ V.str (wstr .between) = V.str "beside" by decide)) (fun _ => ?_)⟩
      refine ⟨_, rfl, _, _, rfl, rfl, _, _, rfl, ?_⟩
      have e : ((manyC .between n : Nat) : Int) = if (0 : Int) > (n : Int) - 1 then 0 else (n : Int) - 1 := by
        show ((n - 1 : Nat) : Int) = _
        split <;> omega
      rw [e] at q
      exact q
/-! ### is_choice, of a choice that is one -/
def spIsC (K : PySem.W.Frag) : Sp := fun vs H Q _ => ∃ (t : Addr) (n : Nat) (c : Ch), vs = [.int n, .ref t] ∧ SqT K H t (chV c) ∧ Valid c n ∧ n ≤ 1000000 ∧ Q (.bl true) H
theorem ok_isC {f fB fN fM aW : Addr} {fd fdB fdN fdM : FuncData} {k : Nat} (F : Fun K "is_choice" "is_choice" sIsC f fd)
    (FB : Fun K "is_number_below" "is_number_below" sIsB fB fdB) (bB : Binds K fdB ["thing", "limit"] []) (gB : mg "is_number_below" = some (.ref fB))
    (FN : Fun K "is_number" "is_number" sIsN fN fdN) (bN : Binds K fdN ["thing"] []) (gN : mg "is_number" = some (.ref fN))
    (FM : Fun K "many_choices" "many_choices" sMany fM fdM) (bM : Binds K fdM ["word", "many"] []) (gM : mg "many_choices" = some (.ref fM))
    (gW : mg "WORDS" = some (.ref aW)) (sW : ∀ H, SqT K H aW wordsV)
    (mI : mg "isinstance" = none) (mi : mg "int" = none) (mb : mg "bool" = none) (mx : mg "max" = none) (mt : mg "tuple" = none) (ml : mg "len" = none) : FnOk P w K mg base CX0 (k + 3) f fd ["many", "thing"] (spIsC K) := by
  have GB : FnOk P w K mg base CX0 (k + 2) fB fdB ["thing", "limit"] (spIsB K) := ok_isB FB FN bN gN mI mi mb
  have GM : FnOk P w K mg base CX0 (k + 2) fM fdM ["word", "many"] spMany := ok_many FM mx
  refine F.ok scIsC (fun vs H Q E h => ?_) (fun cdv A outer s H vs Q E hr h => ?_)
  · obtain ⟨_, _, _, rfl, _⟩ := h
    rfl
  · obtain ⟨t, n, c, rfl, hT, hv, hn, q⟩ := h
    refine ⟨_, pss_cons (ps_if (PW.pt (pw_or (pt_not (pt_val (pe_callB call_isi (by rfl) mI (by decide +kernel) (pa_cons (pv 1) (pa_cons (pe_bltn (v := .ty "tuple") (by rfl) mt (by decide +kernel) rfl) pa_nil))))) (pw_or1 (pt_cmpR op_ne (pe_callB cr_lenB (by rfl) ml PySem.boot_len (pa_cons (pv 1) pa_nil)) pe_int (nomark _))))) (pss_one (ps_ret pe_bl)) pss_nil)
      (pss_cons (ps_asg (pv 1) (pg_tup rfl (pgs_cons (pg_name (i := 2) scIsC.nd rfl (.inl rfl)) (pgs_cons (pg_name (i := 3) scIsC.nd rfl (.inl rfl)) pgs_nil))))
      (pss_one (ps_ret (pe_and (pe_cmpR op_in_seq (pv 2) (pe_glob (v := .ref aW) rfl gW rfl) (by rfl)) (pe_one (pe_call GB hr (by rfl) gB FB.kp bB .nil pass0 (pa_cons (pv 3) (pa_cons (pe_call GM hr (by rfl) gM FM.kp bM .nil pass0 (pa_cons (pv 2) (pa_cons (pv 0) pa_nil))) pa_nil)))))))), ?_⟩
    refine ⟨_, rfl, _, _, _, _, true, rfl, .ty _, tyx_T hT, kit_ty (by decide +kernel), _, rfl, ?_⟩
    refine iteF ⟨_, rfl, true, t, _, rfl, hT, rfl, _, rfl, iteF ?_⟩
    refine ⟨_, rfl, t, chV c, rfl, hT, rfl, _, _, rfl, _, _, rfl, rfl, ?_⟩
    have hin : inV (.str (wstr c.1)) wordsV = true := by
      cases c.1 <;> decide
    refine ⟨_, rfl, aW, wordsV, rfl, .inr (sW _), rfl, by decide, true, congrArg V.bl hin, ?_⟩
    refine ⟨_, rfl, _, rfl, _, rfl, c.1, n, rfl, hn, .int (c.2 : Nat), .int (c.2 : Nat), _, rfl, .int _, ?_⟩
    have hlt := valid_iff hv
    have e : isBelow (.int (c.2 : Nat)) (manyC c.1 n : Nat) = true := by
      show (decide (0 ≤ ((c.2 : Nat) : Int)) && decide (((c.2 : Nat) : Int) < ((manyC c.1 n : Nat) : Int))) = true
      rw [decide_eq_true (by omega), decide_eq_true (by omega)]
      rfl
    rw [e]
    exact q
end
end Og

namespace Og
open PySem PySem.Spec PyProof.Rows L2 OgR Evl OgM
theorem ixD (K : PySem.W.Frag) (w : World) {X : Cx} (h : X.K = K := by rfl) (h' : X.w = w := by rfl) : IxR X (rIxD K w) := by
  subst h h'
  exact ix_kdict
theorem opGeI {X : Cx} : OpR X (compareOp .GtE) (rI0 fun i j => .bl (decide (j ≤ i))) := op_ge
theorem sIx_m1 (n : Nat) (h : 1 ≤ n) : HT.sIx n n (some (-1)) = n - 1 := by
  show (if (-1 : Int) < 0 then ((-1 : Int) + (n : Int)).toNat else min (-1 : Int).toNat n) = n - 1
  rw [if_pos (by decide)]
  omega
theorem cut_in {xs : List V} (h : 1 ≤ xs.length) : cutV xs (some 1) (some (-1)) = (xs.drop 1).take (xs.length - 2) := by
  unfold cutV
  rw [sIx_m1 _ h, show HT.sIx xs.length 0 (some 1) = min 1 xs.length from HT.sIx_nat xs.length 0 1, Nat.min_eq_left h]
  congr 1
theorem rep_snoc (n : Nat) : List.replicate (n + 1) true = List.replicate n true ++ [true] := by
  rw [List.replicate_succ']
theorem rep_all (n : Nat) : (List.replicate n true).all id = true := by
  induction n with
  | zero => rfl
  | succ n ih =>
    rw [List.replicate_succ, List.all_cons, ih]
    rfl
section
variable {P : Program} {w : World} {K : PySem.W.Frag} {mg : Str → Option Value} {base : Heap}
def spIsCs (K : PySem.W.Frag) : Sp := fun vs H Q _ => ∃ (a : Addr) (cs : List Ch), vs = [.ref a] ∧ ChIs K true true H a cs ∧ VCh cs ∧ cs.length ≤ 900 ∧ Q (.bl true) H
theorem ok_isCs {f fC fB fN fM aW aS : Addr} {fd fdC fdB fdN fdM : FuncData} {k : Nat} (F : Fun K "is_choices" "is_choices" sIsCs f fd)
    (FC : Fun K "is_choice" "is_choice" sIsC fC fdC) (bC : Binds K fdC ["many", "thing"] []) (gC : mg "is_choice" = some (.ref fC))
    (FB : Fun K "is_number_below" "is_number_below" sIsB fB fdB) (bB : Binds K fdB ["thing", "limit"] []) (gB : mg "is_number_below" = some (.ref fB))
    (FN : Fun K "is_number" "is_number" sIsN fN fdN) (bN : Binds K fdN ["thing"] []) (gN : mg "is_number" = some (.ref fN))
    (FM : Fun K "many_choices" "many_choices" sMany fM fdM) (bM : Binds K fdM ["word", "many"] []) (gM : mg "many_choices" = some (.ref fM))
    (gW : mg "WORDS" = some (.ref aW)) (sW : ∀ H, SqT K H aW wordsV) (gS : mg "STEPS" = some (.ref aS)) (sS : ∀ wd, KDct K w aS (wstr wd) (.int wd.step))
    (mI : mg "isinstance" = none) (mi : mg "int" = none) (mb : mg "bool" = none) (mx : mg "max" = none) (mt : mg "tuple" = none) (ml : mg "len" = none) : FnOk P w K mg base CX0 (k + 4) f fd ["thing"] (spIsCs K) := by
  have GC : FnOk P w K mg base CX0 (k + 3) fC fdC ["many", "thing"] (spIsC K) := ok_isC FC FB bB gB FN bN gN FM bM gM gW sW mI mi mb mx mt ml
  refine F.ok scIsCs (fun vs H Q E h => ?_) (fun cdv A outer s H vs Q E hr h => ?_)
  · obtain ⟨_, _, rfl, _⟩ := h
    rfl
  · obtain ⟨a, cs, rfl, ⟨ts, hS, hP⟩, hV, hlen, q⟩ := h
    refine ⟨_, pss_cons (ps_if (pt_not (pt_val (pe_callB call_isi (by rfl) mI (by decide +kernel) (pa_cons (pv 0) (pa_cons (pe_bltn (v := .ty "tuple") (by rfl) mt (by decide +kernel) rfl) pa_nil))))) (pss_one (ps_ret pe_bl)) pss_nil)
      (pss_cons (ps_set (i := 1) scIsCs.nd rfl (.inl rfl) pe_int)
      (pss_cons (ps_for PassesOwn.never rfl (pi_tup (pv 0)) (pg_name (i := 2) scIsCs.nd rfl (.inl rfl))
        (pss_cons (ps_if (pt_not (pt_val (pe_call GC hr (by rfl) gC FC.kp bC .nil pass0 (pa_cons (pv 1) (pa_cons (pv 2) pa_nil))))) (pss_one (ps_ret pe_bl)) pss_nil)
        (pss_one (ps_aug (i := 1) scIsCs.nd rfl (.inl rfl) (pe_ix (ixD K w) (pe_glob (v := .ref aS) rfl gS rfl) (pe_ix ix_tup (pv 2) pe_int (fun _ _ => rfl)) (fun _ _ => rfl)) ip_add))))
      (pss_one (ps_ret pe_bl)))), ?_⟩
    refine ⟨_, rfl, _, _, _, _, true, rfl, .ty _, tyx_T hS, kit_ty (by decide +kernel), _, rfl, iteF ?_⟩
    refine ⟨_, rfl, a, rfl, ⟨_, hS⟩, for_tup (xs := ts.map V.ref) (fun i σ H3 => ∃ y2, σ = [some (.ref a), some (.int ((stAt cs i).length : Nat)), y2] ∧ H3 = H) ?_ ?_ ?_ ?_⟩
    · exact ⟨none, rfl, rfl⟩
    · rintro i σ H3 _ ⟨_, _, rfl⟩
      exact hS
    · rintro i x σ H3 hx ⟨y2, rfl, rfl⟩
      rw [List.getElem?_map] at hx
      obtain ⟨t, ht, rfl⟩ := Option.map_eq_some_iff.mp hx
      obtain ⟨c, hc, hct⟩ := paired_get hP ht
      have hil := (List.getElem?_eq_some_iff.mp hc).1
      obtain ⟨_, z2⟩ := st_size hV i (by omega)
      have hv := hV i c hc
      refine ⟨_, rfl, _, rfl, t, _, c, rfl, hct, hv, by omega, _, rfl, iteF ?_⟩
      refine ⟨_, rfl, _, rfl, t, chV c, 0, _, rfl, rfl, hct, atI_nat (j := 0) rfl, aS, _, _, rfl, rfl, sS c.1, _, _, rfl, rfl, some (.ref t), ?_, rfl⟩
      have est : stAt cs (i + 1) = applyC i c (stAt cs i) := by
        show applyC i (cs.getD i (.new, 0)) (stAt cs i) = _
        rw [getD_at hc]
      have e := (apply_size i hv).2
      rw [est]
      show [some (V.ref a), some (.int (((stAt cs i).length : Int) + c.1.step)), some (.ref t)] = _
      rw [← e]
    · rintro σ H3 ⟨y2, rfl, rfl⟩
      exact q
/-! ### groups_after -/
def spGa (K : PySem.W.Frag) : Sp := fun vs H Q _ => ∃ (a : Addr) (ws : List Wd), vs = [.ref a] ∧ SqL K H a (ws.map fun wd => V.str (wstr wd)) ∧ ws.length ≤ 900 ∧ ∀ H', Ex H H' → Q (.int (ws.map Wd.step).sum) H'
theorem ok_ga {f aS : Addr} {fd : FuncData} {k : Nat} (F : Fun K "groups_after" "groups_after" sGa f fd) (gS : mg "STEPS" = some (.ref aS)) (sS : ∀ wd, KDct K w aS (wstr wd) (.int wd.step)) (msm : mg "sum" = none) :
    FnOk P w K mg base CX0 (k + 1) f fd ["words"] (spGa K) := by
  refine F.ok scGa (fun vs H Q E h => ?_) (fun cdv A outer s H vs Q E hr h => ?_)
  · obtain ⟨_, _, rfl, _⟩ := h
    rfl
  · obtain ⟨a, ws, rfl, hS, hlen, q⟩ := h
    refine ⟨_, pss_one (ps_ret (pe_callB (cr_sum (by rfl)) (by rfl) msm (by decide +kernel) (pa_cons
        (pe_lc (own := [("word", 1)]) (g := gName 1) (by rfl) scGa.nd (pi_list (pv 0))
          (blkOk_by (own := [("word", 1)]) (N := ["words", "word"]) (sc := defScope sGa) (by decide +kernel))
          (fun _ _ _ _ _ => pg_name (i := 1) scGa.nd rfl (Or.inl rfl) (hf := Or.inr rfl))
          (fun _ _ _ _ _ => pts_nil)
          (fun _ _ _ _ _ => pe_ix (ixD K w) (pe_glob (v := .ref aS) rfl gS rfl) (pv 1) (fun _ _ => rfl))) pa_nil))), ?_⟩
    refine ⟨_, rfl, a, rfl, ⟨_, hS⟩, fun D hD => lc_list (xs := ws.map fun wd => V.str (wstr wd)) (fun i H' => Ex H H' ∧ H' D = some (.lst (((ws.take i).map Wd.step).map V.int))) ⟨Ex.new hD, upd_same⟩ (fun i H' _ c => ex_l c.1 hS) (fun i x H' hx c => ?_) (fun H2 c => ?_)⟩
    · rw [List.getElem?_map] at hx
      obtain ⟨wd, hwd, rfl⟩ := Option.map_eq_some_iff.mp hx
      have hil := (List.getElem?_eq_some_iff.mp hwd).1
      refine ⟨rfl, _, rfl, aS, _, _, rfl, rfl, sS wd, _, c.2, ?_, Ex.mut c.1 hD, ?_⟩
      · rw [List.length_map, List.length_map, List.length_take]
        exact small1000 (by omega)
      · rw [upd_same, take_next hwd, List.map_append, List.map_append]
        rfl
    · rw [List.take_of_length_le (by rw [List.length_map]; exact Nat.le_refl _)] at c
      exact ⟨D, _, rfl, .inl (.inl c.2), q _ c.1⟩
/-! ### is_gaps, of gaps that are some -/
def spIsG (K : PySem.W.Frag) : Sp := fun vs H Q _ => ∃ (b b' : Bool) (a ga : Addr) (cs : List Ch) (hs : List Int), vs = [.ref a, .ref ga] ∧ ChIs K b b' H a cs ∧ VCh cs ∧ cs.length ≤ 900 ∧ SqT K H ga (hs.map V.int) ∧ hs.length = (stAt cs cs.length).length + 1 ∧
  (∀ i x, hs[i]? = some x → 0 ≤ x ∧ (1 ≤ i → i + 1 < hs.length → 1 ≤ x)) ∧ ∀ H', Ex H H' → Q (.bl true) H'
theorem ok_isG {f fA fN aS : Addr} {fd fdA fdN : FuncData} {k : Nat} (F : Fun K "is_gaps" "is_gaps" sIsG f fd)
    (FA : Fun K "groups_after" "groups_after" sGa fA fdA) (bA : Binds K fdA ["words"] []) (gA : mg "groups_after" = some (.ref fA))
    (FN : Fun K "is_number" "is_number" sIsN fN fdN) (bN : Binds K fdN ["thing"] []) (gN : mg "is_number" = some (.ref fN))
    (gS : mg "STEPS" = some (.ref aS)) (sS : ∀ wd, KDct K w aS (wstr wd) (.int wd.step)) (msm : mg "sum" = none)
    (mI : mg "isinstance" = none) (mi : mg "int" = none) (mb : mg "bool" = none) (mt : mg "tuple" = none) (ml : mg "len" = none) (mal : mg "all" = none) : FnOk P w K mg base CX0 (k + 2) f fd ["choices", "thing"] (spIsG K) := by
  have GA : FnOk P w K mg base CX0 (k + 1) fA fdA ["words"] (spGa K) := ok_ga FA gS sS msm
  have GN : FnOk P w K mg base CX0 (k + 1) fN fdN ["thing"] (spIsN K) := ok_isN FN mI mi mb
  refine F.ok scIsG (fun vs H Q E h => ?_) (fun cdv A outer s H vs Q E hr h => ?_)
  · obtain ⟨_, _, _, _, _, _, rfl, _⟩ := h
    rfl
  · obtain ⟨b, b', a, ga, cs, hs, rfl, ⟨ts, hS, hP⟩, hV, hlen, hG, hgl, hgap, q⟩ := h
    refine ⟨_, pss_cons (ps_set (i := 2) scIsG.nd rfl (.inl rfl) (pe_call GA hr (by rfl) gA FA.kp bA .nil pass0 (pa_cons
        (pe_lc (own := [("word", 3), ("number", 4)]) (g := gSeqB K 2 (gCons (gName 3) (gCons (gName 4) gNil))) (by rfl) scIsG.nd (pi_seqB (pv 0))
          (blkOk_by (own := [("word", 3), ("number", 4)]) (N := ["choices", "thing", "many", "word", "number", "gap"]) (sc := defScope sIsG) (by decide +kernel))
          (fun _ _ _ _ _ => pg_seqB rfl (pgs_cons (pg_name (i := 3) scIsG.nd rfl (Or.inl rfl) (hf := Or.inr rfl)) (pgs_cons (pg_name (i := 4) scIsG.nd rfl (Or.inl rfl) (hf := Or.inr rfl)) pgs_nil)))
          (fun _ _ _ _ _ => pts_nil)
          (fun _ _ _ _ _ => pv 3)) pa_nil)))
      (pss_cons (ps_if (PW.pt (pw_or (pt_not (pt_val (pe_callB call_isi (by rfl) mI (by decide +kernel) (pa_cons (pv 1) (pa_cons (pe_bltn (v := .ty "tuple") (by rfl) mt (by decide +kernel) rfl) pa_nil))))) (pw_or1 (pt_cmpR op_ne (pe_callB cr_lenB (by rfl) ml PySem.boot_len (pa_cons (pv 1) pa_nil)) (pe_op op_add (pv 2) pe_int) (nomark _))))) (pss_one (ps_ret pe_bl)) pss_nil)
      (pss_cons (ps_if (pt_not (pt_val (pe_callB (cr_all (by rfl)) (by rfl) mal (by decide +kernel) (pa_cons
          (pe_lc (own := [("gap", 5)]) (g := gName 5) (by rfl) scIsG.nd (pi_tup (pv 1))
            (blkOk_by (own := [("gap", 5)]) (N := ["choices", "thing", "many", "word", "number", "gap"]) (sc := defScope sIsG) (by decide +kernel))
            (fun _ _ _ _ _ => pg_name (i := 5) scIsG.nd rfl (Or.inl rfl) (hf := Or.inr rfl))
            (fun _ _ _ _ _ => pts_nil)
            (fun _ _ _ _ _ => pe_and (pe_call GN hr (by rfl) gN FN.kp bN .nil pass0 (pa_cons (pv 5) pa_nil)) (pe_one (pe_cmpR op_ge (pv 5) pe_int (nomark _))))) pa_nil)))) (pss_one (ps_ret pe_bl)) pss_nil)
      (pss_one (ps_ret (pe_callB (cr_all (by rfl)) (by rfl) mal (by decide +kernel) (pa_cons
          (pe_lc (own := [("gap", 5)]) (g := gName 5) (by rfl) scIsG.nd (pi_tup (pe_slice sl_tup (pv 1) (po_some pe_int) (po_some (pe_un un_neg pe_int))))
            (blkOk_by (own := [("gap", 5)]) (N := ["choices", "thing", "many", "word", "number", "gap"]) (sc := defScope sIsG) (by decide +kernel))
            (fun _ _ _ _ _ => pg_name (i := 5) scIsG.nd rfl (Or.inl rfl) (hf := Or.inr rfl))
            (fun _ _ _ _ _ => pts_nil)
            (fun _ _ _ _ _ => pe_cmpR op_ge (pv 5) pe_int (nomark _))) pa_nil)))))), ?_⟩
    have hlt : (ts.map V.ref).length = cs.length := by rw [List.length_map, hP.length]
    refine ⟨_, rfl, b, a, _, rfl, hS, fun D hD => lc_it (walk_seqB (K := K) (b := b) (a := a) (xs := ts.map V.ref)) (fun i H' => Ex H H' ∧ H' D = some (.lst (((cs.take i).map fun c => c.1).map fun wd => V.str (wstr wd)))) ⟨Ex.new hD, upd_same⟩ (fun i H' _ c => hS.ex c.1) (fun i x H' H'' hi c y => ?_) (fun H2 c => ?_)⟩
    · obtain ⟨rfl, hx⟩ := y
      rw [List.getElem?_map] at hx
      obtain ⟨t, ht, rfl⟩ := Option.map_eq_some_iff.mp hx
      obtain ⟨c', hc', hct⟩ := paired_get hP ht
      have hil := (List.getElem?_eq_some_iff.mp hc').1
      refine ⟨b', t, chV c', rfl, hct.ex c.1, rfl, _, _, rfl, _, _, rfl, rfl, rfl, _, rfl, _, c.2, ?_, Ex.mut c.1 hD, ?_⟩
      · rw [List.length_map, List.length_map, List.length_take]
        exact small1000 (by omega)
      · rw [upd_same, take_next hc', List.map_append, List.map_append]
        rfl
    · rw [List.take_of_length_le (by rw [hlt]; exact Nat.le_refl _)] at c
      refine ⟨D, _, rfl, .inl (.inl c.2), by rw [List.length_map]; exact hlen, fun H3 e3 => ?_⟩
      have hm : ((cs.map fun c => c.1).map Wd.step).sum = ((stAt cs cs.length).length : Int) := by
        rw [List.map_map]
        have := steps_sum hV cs.length (Nat.le_refl _)
        rw [List.take_of_length_le (Nat.le_refl _)] at this
        exact this
      rw [hm]
      have x3 : Ex H H3 := c.1.trans e3
      have hG3 := ex_t x3 hG
      refine ⟨_, rfl, _, _, _, _, true, rfl, .ty _, tyx_T hG3, kit_ty (by decide +kernel), _, rfl, iteF ?_⟩
      refine ⟨_, rfl, true, ga, _, rfl, hG3, _, rfl, _, _, rfl, rfl, rfl, _, rfl, ?_⟩
      rw [List.length_map, hgl]
      have hdec : (!decide (V.int (((stAt cs cs.length).length + 1 : Nat) : Int) = V.int (((stAt cs cs.length).length : Int) + 1))) = false := by
        rw [eq_bool, decide_eq_true (by omega)]
        rfl
      have hsl : hs.length ≤ 1000 := by
        obtain ⟨_, z2⟩ := st_size hV cs.length (Nat.le_refl _)
        omega
      show if (!decide (V.int (((stAt cs cs.length).length + 1 : Nat) : Int) = V.int (((stAt cs cs.length).length : Int) + 1))) = true then _ else _
      rw [hdec]
      refine iteF ?_
      -- all at least 0
      refine ⟨_, rfl, ga, rfl, ⟨_, hG3⟩, fun D2 hD2 => lc_tup (xs := hs.map V.int) (fun i H' => Ex H3 H' ∧ H' D2 = some (.lst ((List.replicate i true).map V.bl))) ⟨Ex.new hD2, upd_same⟩ (fun i H' _ c => ex_t c.1 hG3) (fun i x H' hx c => ?_) (fun H4 c4 => ?_)⟩
      · rw [List.getElem?_map] at hx
        obtain ⟨gp, hgp, rfl⟩ := Option.map_eq_some_iff.mp hx
        have hil := (List.getElem?_eq_some_iff.mp hgp).1
        refine ⟨rfl, _, rfl, .int gp, .int gp, rfl, .int _, true, rfl, _, rfl, _, _, rfl, rfl, _, c.2, ?_, Ex.mut c.1 hD2, ?_⟩
        · rw [List.length_map, List.length_replicate]
          exact small1000 (by omega)
        · rw [upd_same, rep_snoc, List.map_append]
          show some (HO.lst (_ ++ [V.bl (decide (0 ≤ gp))])) = _
          rw [decide_eq_true (hgap i gp hgp).1]
          rfl
      · refine ⟨D2, _, rfl, .inl (.inl c4.2), _, rfl, ?_⟩
        rw [rep_all]
        refine iteF ?_
        have x4 := x3.trans c4.1
        have hG4 := ex_t x4 hG
        have h1 : 1 ≤ (hs.map V.int).length := by rw [List.length_map, hgl]; omega
        -- the inner ones at least 1
        refine ⟨_, rfl, 1, rfl, 1, rfl, _, rfl, ga, _, rfl, hG4, fun z => ?_, fun p hp => ?_⟩
        · have z1 : HT.sIx (hs.map V.int).length 0 (some ((1 : Nat) : Int)) = 0 := z.1
          rw [HT.sIx_nat] at z1
          omega
        · rw [show cutV (hs.map V.int) (some 1) (some (-1)) = ((hs.map V.int).drop 1).take ((hs.map V.int).length - 2) from cut_in h1, ← List.map_drop, ← List.map_take, List.length_map]
          refine ⟨p, rfl, ⟨_, .inl (.inl upd_same)⟩, fun D3 hD3 => lc_tup (xs := ((hs.drop 1).take (hs.length - 2)).map V.int) (fun i H' => Ex (upd H4 p (.tup (((hs.drop 1).take (hs.length - 2)).map V.int))) H' ∧ H' D3 = some (.lst ((List.replicate i true).map V.bl))) ⟨Ex.new hD3, upd_same⟩ (fun i H' _ c => ex_t c.1 (.inl (.inl upd_same))) (fun i x H' hx c => ?_) (fun H5 c5 => ?_)⟩
          · rw [List.getElem?_map] at hx
            obtain ⟨gp, hgp, rfl⟩ := Option.map_eq_some_iff.mp hx
            have hil := (List.getElem?_eq_some_iff.mp hgp).1
            rw [List.length_take] at hil
            rw [List.getElem?_take_of_lt (by omega), List.getElem?_drop] at hgp
            have h9 := (hgap (1 + i) gp hgp).2 (by omega) (by omega)
            refine ⟨rfl, _, rfl, _, _, rfl, rfl, _, c.2, ?_, Ex.mut c.1 hD3, ?_⟩
            · rw [List.length_map, List.length_replicate]
              exact small1000 (by omega)
            · rw [upd_same, rep_snoc, List.map_append]
              show some (HO.lst (_ ++ [V.bl (decide (1 ≤ gp))])) = _
              rw [decide_eq_true h9]
              rfl
          · refine ⟨D3, _, rfl, .inl (.inl c5.2), ?_⟩
            rw [rep_all]
            exact q _ ((x4.trans (Ex.new hp)).trans c5.1)
end
end Og

namespace Og
open PySem PySem.Spec PyProof.Rows L2 OgR Evl OgM
def flatD : PyData → Bool
  | .none | .bool _ | .int _ | .str _ => true
  | _ => false
/-- flat, or a short list or tuple of such -/
def OnD (C : PyData → Prop) (d : PyData) : Prop := flatD d = true ∨ ∃ ds, (d = .list ds ∨ d = .tuple ds) ∧ ds.length ≤ 1000 ∧ ∀ x ∈ ds, C x
def NoD : PyData → Prop := fun _ => False
mutual
theorem dp_ex {K : PySem.W.Frag} {H H' : Hp} (e : Ex H H') : ∀ {d : PyData} {v : V}, Dp K H v d → Dp K H' v d
  | _, _, .non => .non
  | _, _, .bl b => .bl b
  | _, _, .int i => .int i
  | _, _, .str x => .str x
  | _, _, .lst h t => .lst (ex_l e h) (dpa_ex e t)
  | _, _, .tup h t => .tup (ex_t e h) (dpa_ex e t)
theorem dpa_ex {K : PySem.W.Frag} {H H' : Hp} (e : Ex H H') : ∀ {ds : List PyData} {vs : List V}, DpAll K H vs ds → DpAll K H' vs ds
  | _, _, .nil => .nil
  | _, _, .cons h t => .cons (dp_ex e h) (dpa_ex e t)
end
theorem dpa_get {K : PySem.W.Frag} {H : Hp} : ∀ {ds : List PyData} {vs : List V} {i : Nat} {v : V}, DpAll K H vs ds → vs[i]? = some v → ∃ d, ds[i]? = some d ∧ Dp K H v d
  | _, _, _, _, .nil, e => by simp at e
  | _, _, 0, _, .cons h _, e => by
    simp at e
    subst e
    exact ⟨_, rfl, h⟩
  | _, _, i + 1, _, .cons _ t, e => dpa_get (i := i) t (by simpa using e)
theorem dpa_len {K : PySem.W.Frag} {H : Hp} : ∀ {ds : List PyData} {vs : List V}, DpAll K H vs ds → vs.length = ds.length
  | _, _, .nil => rfl
  | _, _, .cons _ t => by rw [List.length_cons, List.length_cons, dpa_len t]
abbrev sSame : Stmt := topS 25
theorem scSame : FnScope ["_law_found", "_law_due", "_law_a", "_law_b"] ["_law_found", "_law_due"] (defScope sSame) := ⟨rfl, rfl, rfl, by decide +kernel, rfl, by decide +kernel, by decide +kernel⟩
theorem kb_seq (d : PyData) : ∃ l t, kitB (tyN d) "list" = some l ∧ kitB (tyN d) "tuple" = some t ∧ (flatD d = true → l = false ∧ t = false) ∧ (∀ ds, d = .list ds → l = true ∧ t = false) ∧ (∀ ds, d = .tuple ds → l = false ∧ t = true) := by
  cases d with
  | none => exact ⟨false, false, (show kitB "NoneType" "list" = some false by decide +kernel), (show kitB "NoneType" "tuple" = some false by decide +kernel), fun _ => ⟨rfl, rfl⟩, fun _ e => (by cases e), fun _ e => (by cases e)⟩
  | bool _ => exact ⟨false, false, (show kitB "bool" "list" = some false by decide +kernel), (show kitB "bool" "tuple" = some false by decide +kernel), fun _ => ⟨rfl, rfl⟩, fun _ e => (by cases e), fun _ e => (by cases e)⟩
  | int _ => exact ⟨false, false, (show kitB "int" "list" = some false by decide +kernel), (show kitB "int" "tuple" = some false by decide +kernel), fun _ => ⟨rfl, rfl⟩, fun _ e => (by cases e), fun _ e => (by cases e)⟩
  | str _ => exact ⟨false, false, (show kitB "str" "list" = some false by decide +kernel), (show kitB "str" "tuple" = some false by decide +kernel), fun _ => ⟨rfl, rfl⟩, fun _ e => (by cases e), fun _ e => (by cases e)⟩
  | list _ => exact ⟨true, false, (show kitB "list" "list" = some true by decide +kernel), (show kitB "list" "tuple" = some false by decide +kernel), fun e => (by cases e), fun _ _ => ⟨rfl, rfl⟩, fun _ e => (by cases e)⟩
  | tuple _ => exact ⟨false, true, (show kitB "tuple" "list" = some false by decide +kernel), (show kitB "tuple" "tuple" = some true by decide +kernel), fun e => (by cases e), fun _ e => (by cases e), fun _ _ => ⟨rfl, rfl⟩⟩
  | dict _ => exact ⟨false, false, (show kitB "dict" "list" = some false by decide +kernel), (show kitB "dict" "tuple" = some false by decide +kernel), fun e => (by cases e), fun _ e => (by cases e), fun _ e => (by cases e)⟩
theorem kit2 {K : PySem.W.Frag} {x a b : String} {b1 b2 : Bool} (h1 : kitB x a = some b1) (h2 : kitB x b = some b2) : PySem.W.kitAny K (.type x) [.type a, .type b] = some (b1 || b2) := by
  cases b1 with
  | true => exact kitAny_cons (kit_ty h1) (fun e => nomatch e) (fun _ => rfl)
  | false =>
    cases b2 with
    | true => exact kitAny_cons (kit_ty h1) (fun _ => kitAny_cons (kit_ty h2) (fun e => nomatch e) (fun _ => rfl)) (fun e => nomatch e)
    | false => exact kitAny_cons (kit_ty h1) (fun _ => kitAny_cons (kit_ty h2) (fun _ => kitAny_nil) (fun e => nomatch e)) (fun e => nomatch e)
theorem kit_bs {K : PySem.W.Frag} (d : PyData) : ∃ b, PySem.W.kitAny K (.type (tyN d)) [.type "bool", .type "str"] = some b ∧ (∀ i, d = .int i → b = false) ∧ (d = .none → b = false) ∧ (∀ i, d = .bool i → b = true) ∧ (∀ i, d = .str i → b = true) := by
  have A : ∀ {x : String} {b1 b2 : Bool}, kitB x "bool" = some b1 → kitB x "str" = some b2 → PySem.W.kitAny K (.type x) [.type "bool", .type "str"] = some (b1 || b2) := fun h1 h2 => kit2 h1 h2
  cases d with
  | none => exact ⟨false, A (show kitB "NoneType" "bool" = some false by decide +kernel) (show kitB "NoneType" "str" = some false by decide +kernel), fun _ e => (by cases e), fun _ => rfl, fun _ e => (by cases e), fun _ e => (by cases e)⟩
  | bool _ => exact ⟨true, A (show kitB "bool" "bool" = some true by decide +kernel) (show kitB "bool" "str" = some false by decide +kernel), fun _ e => (by cases e), fun e => (by cases e), fun _ _ => rfl, fun _ e => (by cases e)⟩
  | int _ => exact ⟨false, A (show kitB "int" "bool" = some false by decide +kernel) (show kitB "int" "str" = some false by decide +kernel), fun _ _ => rfl, fun e => (by cases e), fun _ e => (by cases e), fun _ e => (by cases e)⟩
  | str _ => exact ⟨true, A (show kitB "str" "bool" = some false by decide +kernel) (show kitB "str" "str" = some true by decide +kernel), fun _ e => (by cases e), fun e => (by cases e), fun _ e => (by cases e), fun _ _ => rfl⟩
  | list _ => exact ⟨false, A (show kitB "list" "bool" = some false by decide +kernel) (show kitB "list" "str" = some false by decide +kernel), fun _ e => (by cases e), fun e => (by cases e), fun _ e => (by cases e), fun _ e => (by cases e)⟩
  | tuple _ => exact ⟨false, A (show kitB "tuple" "bool" = some false by decide +kernel) (show kitB "tuple" "str" = some false by decide +kernel), fun _ e => (by cases e), fun e => (by cases e), fun _ e => (by cases e), fun _ e => (by cases e)⟩
  | dict _ => exact ⟨false, A (show kitB "dict" "bool" = some false by decide +kernel) (show kitB "dict" "str" = some false by decide +kernel), fun _ e => (by cases e), fun e => (by cases e), fun _ e => (by cases e), fun _ e => (by cases e)⟩
section
variable {P : Program} {w : World} {K : PySem.W.Frag} {mg : Str → Option Value} {base : Heap}
def spSame (K : PySem.W.Frag) (C : PyData → Prop) : Sp := fun vs H Q _ => ∃ (x y : V) (d : PyData), vs = [x, y] ∧ Dp K H x d ∧ Dp K H y d ∧ C d ∧ ∀ H', Ex H H' → Q (.bl true) H'
theorem same_none {f : Addr} {fd : FuncData} : FnOk P w K mg base CX0 0 f fd ["_law_found", "_law_due"] (spSame K NoD) :=
  ⟨fun vs H Q E h => by obtain ⟨_, _, _, _, _, _, z, _⟩ := h; exact z.elim, fun A outer s H args us vs Q E hr he hb hv h => by obtain ⟨_, _, _, _, _, _, z, _⟩ := h; exact z.elim⟩
theorem same_step {f : Addr} {fd : FuncData} {m : Nat} {C : PyData → Prop} (F : Fun K "_law_same" "_law_same" sSame f fd) (bS : Binds K fd ["_law_found", "_law_due"] []) (gS : mg "_law_same" = some (.ref f)) (GS : FnOk P w K mg base CX0 m f fd ["_law_found", "_law_due"] (spSame K C))
    (mI : mg "isinstance" = none) (mi : mg "int" = none) (mb : mg "bool" = none) (mst : mg "str" = none) (mli : mg "list" = none) (mt : mg "tuple" = none) (ml : mg "len" = none) (mal : mg "all" = none) (mz : mg "zip" = none) :
    FnOk P w K mg base CX0 (m + 1) f fd ["_law_found", "_law_due"] (spSame K (OnD C)) := by
  refine F.ok scSame (fun vs H Q E h => ?_) (fun cdv A outer s H vs Q E hr h => ?_)
  · obtain ⟨_, _, _, rfl, _⟩ := h
    rfl
  · obtain ⟨x, y, d, rfl, hx, hy, hC, q⟩ := h
    refine ⟨_, pss_cons (ps_if (pt_val (pe_callB call_isiT (by rfl) mI (by decide +kernel) (pa_cons (pv 1) (pa_cons (pe_tup (pa_cons (pe_bltn (v := .ty "list") (by rfl) mli (by decide +kernel) rfl) (pa_cons (pe_bltn (v := .ty "tuple") (by rfl) mt (by decide +kernel) rfl) pa_nil))) pa_nil))))
        (pss_cons (ps_if (PW.pt (pw_or (pt_cmpR op_ne (pe_callB call_isi (by rfl) mI (by decide +kernel) (pa_cons (pv 0) (pa_cons (pe_bltn (v := .ty "list") (by rfl) mli (by decide +kernel) rfl) pa_nil))) (pe_callB call_isi (by rfl) mI (by decide +kernel) (pa_cons (pv 1) (pa_cons (pe_bltn (v := .ty "list") (by rfl) mli (by decide +kernel) rfl) pa_nil))) (nomark _))
            (pw_or1 (pt_cmpR op_ne (pe_callB call_isi (by rfl) mI (by decide +kernel) (pa_cons (pv 0) (pa_cons (pe_bltn (v := .ty "tuple") (by rfl) mt (by decide +kernel) rfl) pa_nil))) (pe_callB call_isi (by rfl) mI (by decide +kernel) (pa_cons (pv 1) (pa_cons (pe_bltn (v := .ty "tuple") (by rfl) mt (by decide +kernel) rfl) pa_nil))) (nomark _))))) (pss_one (ps_ret pe_bl)) pss_nil)
          (pss_one (ps_ret (pe_and (pe_cmpR op_eq (pe_callB cr_lenB (by rfl) ml PySem.boot_len (pa_cons (pv 0) pa_nil)) (pe_callB cr_lenB (by rfl) ml PySem.boot_len (pa_cons (pv 1) pa_nil)) (nomark _))
            (pe_one (pe_callB (cr_all (by rfl)) (by rfl) mal (by decide +kernel) (pa_cons
              (pe_lc (own := [("_law_a", 2), ("_law_b", 3)]) (g := gTup K 2 (gCons (gName 2) (gCons (gName 3) gNil))) (by rfl) scSame.nd (pi_zipB (by rfl) mz (pa_cons (pv 0) (pa_cons (pv 1) pa_nil)))
                (blkOk_by (own := [("_law_a", 2), ("_law_b", 3)]) (N := ["_law_found", "_law_due", "_law_a", "_law_b"]) (sc := defScope sSame) (by decide +kernel))
                (fun _ _ _ _ _ => pg_tup rfl (pgs_cons (pg_name (i := 2) scSame.nd rfl (Or.inl rfl) (hf := Or.inr rfl)) (pgs_cons (pg_name (i := 3) scSame.nd rfl (Or.inl rfl) (hf := Or.inr rfl)) pgs_nil)))
                (fun _ _ _ _ _ => pts_nil)
                (fun _ _ _ _ _ => pe_call GS hr (by rfl) gS F.kp bS .nil pass0 (pa_cons (pv 2) (pa_cons (pv 3) pa_nil)))) pa_nil))))))) pss_nil)
      (pss_cons (ps_if (PW.pt (pw_or (pt_cmpR op_isN (pv 1) pe_non (nomark _)) (pw_or1 (pt_val (pe_callB call_isiT (by rfl) mI (by decide +kernel) (pa_cons (pv 1) (pa_cons (pe_tup (pa_cons (pe_bltn (v := .ty "bool") (by rfl) mb (by decide +kernel) rfl) (pa_cons (pe_bltn (v := .ty "str") (by rfl) mst (by decide +kernel) rfl) pa_nil))) pa_nil)))))))
          (pss_one (ps_ret (pe_and (pe_cmpR op_eq (pv 0) (pv 1) (nomark _)) (pe_and (pe_cmpR op_eq (pe_callB call_isi (by rfl) mI (by decide +kernel) (pa_cons (pv 0) (pa_cons (pe_bltn (v := .ty "bool") (by rfl) mb (by decide +kernel) rfl) pa_nil))) (pe_callB call_isi (by rfl) mI (by decide +kernel) (pa_cons (pv 1) (pa_cons (pe_bltn (v := .ty "bool") (by rfl) mb (by decide +kernel) rfl) pa_nil))) (nomark _))
            (pe_one (pe_cmpR op_eq (pe_cmpR op_isN (pv 0) pe_non (nomark _)) (pe_cmpR op_isN (pv 1) pe_non (nomark _)) (nomark _))))))) pss_nil)
      (pss_one (ps_ret (pe_and (pe_callB call_isi (by rfl) mI (by decide +kernel) (pa_cons (pv 0) (pa_cons (pe_bltn (v := .ty "int") (by rfl) mi (by decide +kernel) rfl) pa_nil)))
        (pe_and (pe_not (pe_callB call_isi (by rfl) mI (by decide +kernel) (pa_cons (pv 0) (pa_cons (pe_bltn (v := .ty "bool") (by rfl) mb (by decide +kernel) rfl) pa_nil)))) (pe_one (pe_cmpR op_eq (pv 0) (pv 1) (nomark _)))))))), ?_⟩
    obtain ⟨kl, kt, hkl, hkt, hflat, hlist, htup⟩ := kb_seq d
    refine ⟨_, rfl, (show 2 ≤ sizeLine by decide), fun T hT => ?_⟩
    have x1 : Ex H (upd H T (.tup [.ty "list", .ty "tuple"])) := Ex.new hT
    have hx1 := dp_ex x1 hx
    have hy1 := dp_ex x1 hy
    refine ⟨y, T, _, _, [.type "list", .type "tuple"], kl || kt, rfl, upd_same, .cons (.ty _) (.cons (.ty _) .nil), tyx_D hy1, kit2 hkl hkt, _, rfl, ?_⟩
    generalize (upd H T (.tup [.ty "list", .ty "tuple"])) = H1 at x1 hx1 hy1
    rcases hC with hf | ⟨ds, hds, hdl, hdC⟩
    · -- flat
      obtain ⟨rfl, rfl⟩ := hflat hf
      refine iteF ?_
      obtain ⟨bs, hbs, c1, c2, c3, c4⟩ := kit_bs (K := K) d
      have ib : ∃ c, kitB (tyN d) "bool" = some c := ⟨_, (kb_int d).choose_spec.2.choose_spec.1⟩
      obtain ⟨cb, hcb⟩ := ib
      have exy : x = y ∧ scal x y = true := by
        cases hx1 with
        | non => cases hy1; exact ⟨rfl, rfl⟩
        | bl b => cases hy1; exact ⟨rfl, rfl⟩
        | int i => cases hy1; exact ⟨rfl, rfl⟩
        | str z => cases hy1; exact ⟨rfl, rfl⟩
        | lst _ _ => cases hf
        | tup _ _ => cases hf
      obtain ⟨rfl, hsc⟩ := exy
      have fin : ∀ H2, Ex H1 H2 → (tAndV (tOp rEq (tVar 0) (tVar 1)) (tAndV (tOp rEq (tCB (rIsi K) (tCons (tVar 0) (tCons (tC (.ty "bool")) tNil))) (tCB (rIsi K) (tCons (tVar 1) (tCons (tC (.ty "bool")) tNil)))) (tOp rEq (tOp (fun x y H Q => y = V.non ∧ Q (V.bl (decide (x = V.non))) H) (tVar 0) (tC .non)) (tOp (fun x y H Q => y = V.non ∧ Q (V.bl (decide (x = V.non))) H) (tVar 1) (tC .non))))) [some x, some x, none, none] H2 Q := fun H2 e2 => by
        have hx2 := dp_ex e2 hx1
        refine ⟨_, rfl, _, rfl, hsc, true, by rw [decide_eq_true rfl], ?_⟩
        refine ⟨_, rfl, x, _, _, _, cb, rfl, .ty _, tyx_D hx2, kit_ty hcb, _, rfl, x, _, _, _, cb, rfl, .ty _, tyx_D hx2, kit_ty hcb, rfl, true, by rw [decide_eq_true rfl], ?_⟩
        refine ⟨_, rfl, rfl, _, rfl, rfl, rfl, ?_⟩
        rw [decide_eq_true rfl]
        exact q _ (x1.trans e2)
      refine ⟨_, rfl, rfl, _, rfl, ite2 (fun _ => ?_) (fun hn => ?_)⟩
      · exact fin H1 (Ex.refl _)
      · refine ⟨_, rfl, (show 2 ≤ sizeLine by decide), fun T2 hT2 => ?_⟩
        have x2 : Ex H1 (upd H1 T2 (.tup [.ty "bool", .ty "str"])) := Ex.new hT2
        refine ⟨x, T2, _, _, [.type "bool", .type "str"], bs, rfl, upd_same, .cons (.ty _) (.cons (.ty _) .nil), tyx_D (dp_ex x2 hx1), hbs, _, rfl, ?_⟩
        cases bs with
        | true => exact iteT (fin _ x2)
        | false =>
          refine iteF ?_
          cases hx1 with
          | non => exact absurd (decide_eq_true rfl) hn
          | bl b => exact absurd (c3 _ rfl) (by decide)
          | str z => exact absurd (c4 _ rfl) (by decide)
          | lst _ _ => cases hf
          | tup _ _ => cases hf
          | int i =>
            refine ⟨_, rfl, .int i, _, _, _, true, rfl, .ty _, .base (.int i), kit_ty (by decide +kernel), true, rfl, ?_⟩
            refine ⟨_, rfl, .int i, _, _, _, false, rfl, .ty _, .base (.int i), kit_ty (by decide +kernel), false, rfl, true, rfl, ?_⟩
            refine ⟨_, rfl, _, rfl, rfl, ?_⟩
            rw [decide_eq_true rfl]
            exact q _ (x1.trans x2)
    · -- a list or a tuple
      have hkk : (kl || kt) = true := by
        rcases hds with e | e
        · obtain ⟨rfl, rfl⟩ := hlist _ e
          rfl
        · obtain ⟨rfl, rfl⟩ := htup _ e
          rfl
      rw [hkk]
      refine iteT ?_
      obtain ⟨b, ax, ay, xs, ys, rfl, rfl, sx, sy, dx, dy⟩ : ∃ b ax ay xs ys, x = .ref ax ∧ y = .ref ay ∧ SqB K b H1 ax xs ∧ SqB K b H1 ay ys ∧ DpAll K H1 xs ds ∧ DpAll K H1 ys ds := by
        rcases hds with e | e
        · subst e
          cases hx1 with
          | lst h1 t1 =>
            cases hy1 with
            | lst h2 t2 => exact ⟨false, _, _, _, _, rfl, rfl, h1, h2, t1, t2⟩
        · subst e
          cases hx1 with
          | tup h1 t1 =>
            cases hy1 with
            | tup h2 t2 => exact ⟨true, _, _, _, _, rfl, rfl, h1, h2, t1, t2⟩
      have lx := dpa_len dx
      have ly := dpa_len dy
      refine ⟨_, rfl, _, _, _, _, kl, rfl, .ty _, tyx_D hx1, kit_ty hkl, _, rfl, _, _, _, _, kl, rfl, .ty _, tyx_D hy1, kit_ty hkl, rfl, _, rfl, ?_⟩
      rw [decide_eq_true rfl]
      refine iteF ⟨_, rfl, _, _, _, _, kt, rfl, .ty _, tyx_D hx1, kit_ty hkt, _, rfl, _, _, _, _, kt, rfl, .ty _, tyx_D hy1, kit_ty hkt, rfl, _, rfl, ?_⟩
      rw [decide_eq_true rfl]
      refine iteF ?_
      refine ⟨_, rfl, b, ax, xs, rfl, sx, _, rfl, b, ay, ys, rfl, sy, rfl, true, ?_, ?_⟩
      · rw [lx, ly, decide_eq_true rfl]
      refine ⟨_, rfl, _, rfl, b, b, ax, ay, xs, ys, rfl, sx, sy, fun D hD => lc_it (walk_zipB (K := K) (b1 := b) (b2 := b) (a1 := ax) (a2 := ay) (xs := xs) (ys := ys) (by rw [lx, ly])) (fun i H' => Ex H1 H' ∧ H' D = some (.lst ((List.replicate i true).map V.bl))) ⟨Ex.new hD, upd_same⟩ (fun i H' _ c => ⟨sx.ex c.1, sy.ex c.1⟩) (fun i x H' H'' hi c y => ?_) (fun H2 c => ?_)⟩
      · obtain ⟨T2, x', y', rfl, hT2, rfl, hx', hy'⟩ := y
        obtain ⟨d1, hd1, px⟩ := dpa_get dx hx'
        obtain ⟨d2, hd2, py⟩ := dpa_get dy hy'
        rw [hd1] at hd2
        cases hd2
        have x2 : Ex H' (upd H' T2 (.tup [x', y'])) := Ex.new hT2
        refine ⟨T2, _, rfl, .inl (.inl upd_same), rfl, _, _, rfl, _, _, rfl, rfl, rfl, _, rfl, _, rfl, x', y', d1, rfl, dp_ex (c.1.trans x2) px, dp_ex (c.1.trans x2) py, hdC d1 (List.mem_of_getElem? hd1), fun H3 e3 => ?_⟩
        refine ⟨_, (x2.trans e3) _ _ c.2, ?_, Ex.mut ((c.1.trans x2).trans e3) hD, ?_⟩
        · rw [List.length_map, List.length_replicate]
          exact small1000 (by omega)
        · rw [upd_same, rep_snoc, List.map_append]
          rfl
      · refine ⟨D, _, rfl, .inl (.inl c.2), ?_⟩
        rw [rep_all]
        exact q _ (x1.trans c.1)
end
end Og

namespace Og
open PySem PySem.Spec PyProof.Rows L2 OgR Evl OgM
abbrev sLists : Stmt := topS 26
theorem scLists : FnScope ["_law_part", "_law_piece"] ["_law_part"] (defScope sLists) := ⟨rfl, rfl, rfl, by decide +kernel, rfl, by decide +kernel, by decide +kernel⟩
/-- tuples as lists -/
def soft (C : PyData → PyData) (d : PyData) : PyData :=
  match d with
  | .list ds => .list (ds.map C)
  | .tuple ds => .list (ds.map C)
  | d => d
/-- a value whose lists are all new -/
inductive NewD (H H' : Hp) : V → PyData → Prop
  | flat {v : V} {d : PyData} (f : flatD d = true) (h : ∀ K H2, Dp K H2 v d) : NewD H H' v d
  | lst {a : Addr} {xs : List V} {ds : List PyData} (n : H a = none) (h : H' a = some (.lst xs)) (l : xs.length = ds.length) (t : ∀ (i : Nat) (x : V) (d : PyData), xs[i]? = some x → ds[i]? = some d → NewD H H' x d) : NewD H H' (.ref a) (.list ds)
theorem NewD.keep {H0 H H' H2 : Hp} {v : V} {d : PyData} (h : NewD H H' v d) (e : ∀ a o, H a = none → H' a = some o → H2 a = some o) (b : ∀ a, H a = none → H0 a = none) : NewD H0 H2 v d := by
  induction h with
  | flat f h => exact .flat f h
  | lst n h l t ih => exact .lst (b _ n) (e _ _ n h) l ih
theorem dpa_of {K : PySem.W.Frag} {H : Hp} : ∀ {xs : List V} {ds : List PyData}, xs.length = ds.length → (∀ (i : Nat) (x : V) (d : PyData), xs[i]? = some x → ds[i]? = some d → Dp K H x d) → DpAll K H xs ds
  | [], [], _, _ => .nil
  | x :: xs, d :: ds, l, h => .cons (h 0 x d rfl rfl) (dpa_of (by simpa using l) fun i y e a b => h (i + 1) y e a b)
theorem NewD.dp {K : PySem.W.Frag} {H H' : Hp} {v : V} {d : PyData} (h : NewD H H' v d) : Dp K H' v d := by
  induction h with
  | flat f h => exact h K H'
  | lst n h l t ih => exact .lst (.inl (.inl h)) (dpa_of l ih)
theorem flat_dp {K : PySem.W.Frag} {H : Hp} {v : V} {d : PyData} (h : Dp K H v d) (f : flatD d = true) : ∀ K2 H2, Dp K2 H2 v d := by
  intro K2 H2
  cases h with
  | non => exact .non
  | bl b => exact .bl b
  | int i => exact .int i
  | str x => exact .str x
  | lst _ _ => cases f
  | tup _ _ => cases f
section
variable {P : Program} {w : World} {K : PySem.W.Frag} {mg : Str → Option Value} {base : Heap}
def spLists (K : PySem.W.Frag) (C : PyData → Prop) (g : PyData → PyData) : Sp := fun vs H Q _ => ∃ (x : V) (d : PyData), vs = [x] ∧ Dp K H x d ∧ C d ∧ ∀ v H', Ex H H' → NewD H H' v (g d) → Q v H'
theorem lists_none {f : Addr} {fd : FuncData} {g : PyData → PyData} : FnOk P w K mg base CX0 0 f fd ["_law_part"] (spLists K NoD g) :=
  ⟨fun vs H Q E h => by obtain ⟨_, _, _, _, z, _⟩ := h; exact z.elim, fun A outer s H args us vs Q E hr he hb hv h => by obtain ⟨_, _, _, _, z, _⟩ := h; exact z.elim⟩
theorem lists_step {f : Addr} {fd : FuncData} {m : Nat} {C : PyData → Prop} {g : PyData → PyData} (F : Fun K "_law_lists" "_law_lists" sLists f fd) (bS : Binds K fd ["_law_part"] []) (gS : mg "_law_lists" = some (.ref f)) (GS : FnOk P w K mg base CX0 m f fd ["_law_part"] (spLists K C g))
    (mI : mg "isinstance" = none) (mli : mg "list" = none) (mt : mg "tuple" = none) :
    FnOk P w K mg base CX0 (m + 1) f fd ["_law_part"] (spLists K (OnD C) (soft g)) := by
  refine F.ok scLists (fun vs H Q E h => ?_) (fun cdv A outer s H vs Q E hr h => ?_)
  · obtain ⟨_, _, rfl, _⟩ := h
    rfl
  · obtain ⟨x, d, rfl, hx, hC, q⟩ := h
    refine ⟨_, pss_one (ps_ret (pe_ifExp (pt_val (pe_callB call_isiT (by rfl) mI (by decide +kernel) (pa_cons (pv 0) (pa_cons (pe_tup (pa_cons (pe_bltn (v := .ty "list") (by rfl) mli (by decide +kernel) rfl) (pa_cons (pe_bltn (v := .ty "tuple") (by rfl) mt (by decide +kernel) rfl) pa_nil))) pa_nil))))
        (pe_lc (own := [("_law_piece", 1)]) (g := gName 1) (by rfl) scLists.nd (pi_seqB (pv 0))
          (blkOk_by (own := [("_law_piece", 1)]) (N := ["_law_part", "_law_piece"]) (sc := defScope sLists) (by decide +kernel))
          (fun _ _ _ _ _ => pg_name (i := 1) scLists.nd rfl (Or.inl rfl) (hf := Or.inr rfl))
          (fun _ _ _ _ _ => pts_nil)
          (fun _ _ _ _ _ => pe_call GS hr (by rfl) gS F.kp bS .nil pass0 (pa_cons (pv 1) pa_nil)))
        (pv 0))), ?_⟩
    obtain ⟨kl, kt, hkl, hkt, hflat, hlist, htup⟩ := kb_seq d
    refine ⟨_, rfl, (show 2 ≤ sizeLine by decide), fun T hT => ?_⟩
    have x1 : Ex H (upd H T (.tup [.ty "list", .ty "tuple"])) := Ex.new hT
    have hx1 := dp_ex x1 hx
    refine ⟨x, T, _, _, [.type "list", .type "tuple"], kl || kt, rfl, upd_same, .cons (.ty _) (.cons (.ty _) .nil), tyx_D hx1, kit2 hkl hkt, _, rfl, ?_⟩
    generalize (upd H T (.tup [.ty "list", .ty "tuple"])) = H1 at x1 hx1
    rcases hC with hf | ⟨ds, hds, hdl, hdC⟩
    · obtain ⟨rfl, rfl⟩ := hflat hf
      refine iteF ⟨_, rfl, q _ _ x1 ?_⟩
      have : soft g d = d := by cases d <;> simp_all [soft, flatD]
      rw [this]
      exact .flat hf (flat_dp hx hf)
    · have hkk : (kl || kt) = true := by
        rcases hds with e | e
        · obtain ⟨rfl, rfl⟩ := hlist _ e
          rfl
        · obtain ⟨rfl, rfl⟩ := htup _ e
          rfl
      rw [hkk]
      refine iteT ?_
      have hsf : soft g d = .list (ds.map g) := by
        rcases hds with e | e <;> (subst e; rfl)
      rw [hsf] at q
      obtain ⟨b, ax, xs, rfl, sx, dx⟩ : ∃ b ax xs, x = .ref ax ∧ SqB K b H1 ax xs ∧ DpAll K H1 xs ds := by
        rcases hds with e | e
        · subst e
          cases hx1 with
          | lst h1 t1 => exact ⟨false, _, _, rfl, h1, t1⟩
        · subst e
          cases hx1 with
          | tup h1 t1 => exact ⟨true, _, _, rfl, h1, t1⟩
      have lx := dpa_len dx
      refine ⟨_, rfl, b, ax, xs, rfl, sx, fun D hD => lc_it (walk_seqB (K := K) (b := b) (a := ax) (xs := xs)) (fun i H' => Ex H1 H' ∧ ∃ ys : List V, H' D = some (.lst ys) ∧ ys.length = i ∧ ∀ (j : Nat) (y : V) (e : PyData), ys[j]? = some y → (ds.map g)[j]? = some e → NewD (upd H1 D (.lst [])) H' y e) ⟨Ex.new hD, [], upd_same, rfl, by simp⟩ (fun i H' _ c => sx.ex c.1) (fun i x H' H'' hi c y => ?_) (fun H2 c => ?_)⟩
      · obtain ⟨rfl, hx'⟩ := y
        obtain ⟨c1, ys, c2, c3, c4⟩ := c
        obtain ⟨d1, hd1, px⟩ := dpa_get dx hx'
        refine ⟨rfl, _, rfl, x, d1, rfl, dp_ex c1 px, hdC d1 (List.mem_of_getElem? hd1), fun v H3 e3 hN => ?_⟩
        have hD3 := e3 _ _ c2
        have nd : ∀ a, H'' a = none → a ≠ D := fun a ha z => by
          rw [z, c2] at ha
          cases ha
        have nb : ∀ a, (upd H1 D (.lst [])) a = none → a ≠ D := fun a ha z => by
          rw [z, upd_same] at ha
          cases ha
        have hil := (List.getElem?_eq_some_iff.mp hx').1
        refine ⟨ys, hD3, ?_, Ex.mut (c1.trans e3) hD, ys ++ [v], upd_same, by rw [List.length_append, c3]; rfl, fun j y e hy he => ?_⟩
        · rw [c3]
          exact small1000 (by omega)
        · by_cases hj : j < ys.length
          · rw [List.getElem?_append_left hj] at hy
            refine (c4 j y e hy he).keep (fun a o n h => ?_) (fun a n => n)
            rw [upd_ne (nb a n)]
            exact e3 _ _ h
          · rw [List.getElem?_append_right (by omega)] at hy
            have hj0 : j - ys.length = 0 := by
              have := (List.getElem?_eq_some_iff.mp hy).1
              simp at this
              omega
            rw [hj0] at hy
            have ev : v = y := Option.some.inj hy
            subst ev
            have hji : j = i := by omega
            subst hji
            rw [List.getElem?_map, hd1] at he
            have ee : g d1 = e := Option.some.inj he
            subst ee
            refine hN.keep (fun a o n h => ?_) (fun a n => ?_)
            · rw [upd_ne (nd a n)]
              exact h
            · rw [upd_ne (nd a n)]
              exact fresh_back c1 n
      · obtain ⟨c1, ys, c2, c3, c4⟩ := c
        refine q _ H2 (x1.trans c1) (.lst (fresh_back x1 hD) c2 (by rw [List.length_map, c3, lx]) fun j y e hy he => (c4 j y e hy he).keep (fun a o n h => h) (fun a n => ?_))
        by_cases had : a = D
        · rw [had, upd_same] at n
          cases n
        · rw [upd_ne had] at n
          exact fresh_back x1 n
end
end Og

namespace Og
open PySem PySem.Spec PyProof.Rows L2 OgR Evl OgM
/-! ### a call by names alone -/
structure ByName (fd : FuncData) (ps ks : List Str) (n : Nat) (g : List Value → List Value) (gV : List V → List V) : Prop where
  to : ∀ (s : Shared) (ws : List Value), ws.length = n → BindsTo s fd ⟨[], ks.zip ws⟩ (ps.zip (g ws))
  rel : ∀ (zs : List V) (ws : List Value), zs.length = n → Vals zs ws → Vals (gV zs) (g ws)
def tNamed (sp : Sp) (n : Nat) (gV : List V → List V) (E : XK) (tk : TA) : TE := fun σ H Q => tk σ H fun zs H1 => zs.length = n ∧ sp (gV zs) H1 Q E
theorem pe_named {X : Cx} {CX : CXT} {k n : Nat} {f : Addr} {fd : FuncData} {ps ks : List Str} {sp : Sp} {E : XK} {x : Str} {p pos : Pos} {kws : List Keyword} {tk : TA} {g : List Value → List Value} {gV : List V → List V}
    (F : FnOk X.prog X.w X.K X.mg X.base CX k f fd ps sp) (hr : Room k X.A) (hg : Gl X x) (hm : X.mg x = some (.ref f)) (hk : PySem.W.keepIn X.K (.ref f) = true) (hb : ByName fd ps ks n g gV) (hx : Passes CX X E) (hkw : PK X kws tk)
    (hall : (backToKw pos (keywordEach kws X.env)).all (·.1.isSome) = true := by rfl) (hks : (backToKw pos (keywordEach kws X.env)).filterMap (·.1) = ks := by rfl) (hdb : (x == ("__debug__" : Str)) = false := by decide)
    (hpl : ((backTo pos (starEach [] X.env)).any (·.1) || (backToKw pos (keywordEach kws X.env)).any (·.1.isNone)) = false := by rfl) :
    PE X (.Call (.Name x p) [] kws pos) (tNamed sp n gV E tk) := by
  refine ⟨fun pins s σ H Q I h => wpAny_Call_Name_kw (ld_glob I hg hm ?_ hdb)⟩
  refine PySem.W.callWith_KW0 (h₀ := X.base) I.ok.mod.kin hk hall (thn (hkw.run pos pins s σ H _ I h) fun ws s1 ⟨zs, H1, I1, rz, hl, q⟩ => ⟨I1.kIn, ?_⟩) hpl
  rw [hks]
  have hwl : ws.length = n := by rw [← rz.length]; exact hl
  refine wpAny_call (codeAny_mono (F.run X.A X.stack s1 H1 ⟨[], ks.zip ws⟩ (g ws) (gV zs) Q E hr I1.env0 (hb.to s1 ws hwl) (hb.rel zs ws hl rz) q) fun r s2 hq => ?_)
  cases r with
  | error e => exact hx pins σ H1 s1 e s2 I1 hq
  | ok fl =>
    cases fl with
    | ret u => exact I1.after hq
    | next => exact hq.elim
    | brk => exact hq.elim
    | cont => exact hq.elim
theorem by1 {K : PySem.W.Frag} {x a : Str} {st : Stmt} {f : Addr} {fd : FuncData} (F : Fun K x x st f fd)
    (h : ∀ (kV doc pm : Value) (an : Option Addr) (cdv ct : Value) (u : Value), bindArgs (PySem.W.fnOf x x (defArgs st) (defBody st) (defScope st) .none kV doc pm an cdv ct) ⟨[], [(a, u)]⟩ = pure [(a, u)]) : ByName fd [a] [a] 1 id id := by
  obtain ⟨oc, od, kV, doc, pm, an, cdv, ct, osl, rfl, lk, hcd⟩ := F.ex
  refine ⟨fun s ws hl => ?_, fun zs ws _ r => r⟩
  match ws, hl with
  | [u], _ => exact .of_eq (h kV doc pm an cdv ct u)
def swapL {α : Type} : List α → List α
  | [a, b] => [b, a]
  | l => l
theorem by2 {K : PySem.W.Frag} {x a b : Str} {st : Stmt} {f : Addr} {fd : FuncData} (F : Fun K x x st f fd)
    (h : ∀ (kV doc pm : Value) (an : Option Addr) (cdv ct : Value) (u v : Value), bindArgs (PySem.W.fnOf x x (defArgs st) (defBody st) (defScope st) .none kV doc pm an cdv ct) ⟨[], [(b, u), (a, v)]⟩ = pure [(a, v), (b, u)]) : ByName fd [a, b] [b, a] 2 swapL swapL := by
  obtain ⟨oc, od, kV, doc, pm, an, cdv, ct, osl, rfl, lk, hcd⟩ := F.ex
  refine ⟨fun s ws hl => ?_, fun zs ws hl r => ?_⟩
  · match ws, hl with
    | [u, v], _ => exact .of_eq (h kV doc pm an cdv ct u v)
  · match zs, hl, ws, r with
    | [z1, z2], _, [w1, w2], .cons r1 (.cons r2 .nil) => exact .cons r2 (.cons r1 .nil)
abbrev sRight : Stmt := topS 32
theorem scRight : FnScope ["_law_box_here", "_law_count", "_law_queue_here", "_law_listed", "_law_picks_here", "_law_holes_here", "_law_told", "_law_soft"] ["_law_box_here"] (defScope sRight) := ⟨rfl, rfl, rfl, by decide +kernel, rfl, by decide +kernel, by decide +kernel⟩
end Og

namespace Og
open PySem PySem.Spec PyProof.Rows L2 OgR Evl OgM
structure Adr where
  isnA : Addr
  isbA : Addr
  nbA : Addr
  housesA : Addr
  manyA : Addr
  iscA : Addr
  iscsA : Addr
  gaA : Addr
  isgA : Addr
  gloA : Addr
  numA : Addr
  cofA : Addr
  gapsA : Addr
  tigA : Addr
  rowA : Addr
  cellA : Addr
  boxA : Addr
  takeA : Addr
  ofA : Addr
  sameA : Addr
  listsA : Addr
  runsA : Addr
  queueA : Addr
  pickA : Addr
  picksA : Addr
  holesA : Addr
  rightA : Addr
  wordsA : Addr
  stepsA : Addr
structure Fds where
  isnD : FuncData
  isbD : FuncData
  nbD : FuncData
  housesD : FuncData
  manyD : FuncData
  iscD : FuncData
  iscsD : FuncData
  gaD : FuncData
  isgD : FuncData
  gloD : FuncData
  numD : FuncData
  cofD : FuncData
  gapsD : FuncData
  tigD : FuncData
  rowD : FuncData
  cellD : FuncData
  boxD : FuncData
  takeD : FuncData
  ofD : FuncData
  sameD : FuncData
  listsD : FuncData
  runsD : FuncData
  queueD : FuncData
  pickD : FuncData
  picksD : FuncData
  holesD : FuncData
  rightD : FuncData
structure Top (w : World) (K : PySem.W.Frag) (mg : Str → Option Value) (a : Adr) (d : Fds) : Prop where
  isnF : Fun K "is_number" "is_number" sIsN a.isnA d.isnD
  isnB : Binds K d.isnD ["thing"] []
  isnG : mg "is_number" = some (.ref a.isnA)
  isbF : Fun K "is_number_below" "is_number_below" sIsB a.isbA d.isbD
  isbB : Binds K d.isbD ["thing", "limit"] []
  isbG : mg "is_number_below" = some (.ref a.isbA)
  nbF : Fun K "neighbours" "neighbours" sNb a.nbA d.nbD
  nbB : Binds K d.nbD ["row"] []
  nbG : mg "neighbours" = some (.ref a.nbA)
  housesF : Fun K "houses" "houses" sHouses a.housesA d.housesD
  housesB : Binds K d.housesD ["row"] []
  housesG : mg "houses" = some (.ref a.housesA)
  manyF : Fun K "many_choices" "many_choices" sMany a.manyA d.manyD
  manyB : Binds K d.manyD ["word", "many"] []
  manyG : mg "many_choices" = some (.ref a.manyA)
  iscF : Fun K "is_choice" "is_choice" sIsC a.iscA d.iscD
  iscB : Binds K d.iscD ["many", "thing"] []
  iscG : mg "is_choice" = some (.ref a.iscA)
  iscsF : Fun K "is_choices" "is_choices" sIsCs a.iscsA d.iscsD
  iscsB : Binds K d.iscsD ["thing"] []
  iscsG : mg "is_choices" = some (.ref a.iscsA)
  gaF : Fun K "groups_after" "groups_after" sGa a.gaA d.gaD
  gaB : Binds K d.gaD ["words"] []
  gaG : mg "groups_after" = some (.ref a.gaA)
  isgF : Fun K "is_gaps" "is_gaps" sIsG a.isgA d.isgD
  isgB : Binds K d.isgD ["choices", "thing"] []
  isgG : mg "is_gaps" = some (.ref a.isgA)
  gloF : Fun K "groups_left_of" "groups_left_of" sGlo a.gloA d.gloD
  gloB : Binds K d.gloD ["built", "plot"] []
  gloG : mg "groups_left_of" = some (.ref a.gloA)
  numF : Fun K "number_of_choice" "number_of_choice" sNum a.numA d.numD
  numB : Binds K d.numD ["built", "plot", "word"] []
  numG : mg "number_of_choice" = some (.ref a.numA)
  cofF : Fun K "choices_of" "choices_of" sCof a.cofA d.cofD
  cofB : Binds K d.cofD ["row"] []
  cofG : mg "choices_of" = some (.ref a.cofA)
  gapsF : Fun K "gaps_of" "gaps_of" sGaps a.gapsA d.gapsD
  gapsB : Binds K d.gapsD ["plots", "row"] []
  gapsG : mg "gaps_of" = some (.ref a.gapsA)
  tigF : Fun K "times_in_groups" "times_in_groups" sTig a.tigA d.tigD
  tigB : Binds K d.tigD ["choices"] []
  tigG : mg "times_in_groups" = some (.ref a.tigA)
  rowF : Fun K "row_of" "row_of" sRow a.rowA d.rowD
  rowB : Binds K d.rowD ["choices", "gaps"] []
  rowG : mg "row_of" = some (.ref a.rowA)
  cellF : Fun K "_law_cell_at" "_law_cell_at" sCell a.cellA d.cellD
  cellB : Binds K d.cellD ["_law_script", "_law_k"] []
  cellG : mg "_law_cell_at" = some (.ref a.cellA)
  boxF : Fun K "_law_box" "_law_box" sBox a.boxA d.boxD
  boxB : Binds K d.boxD ["_law_script", "_law_k"] []
  boxG : mg "_law_box" = some (.ref a.boxA)
  takeF : Fun K "_law_take" "_law_take" sTake a.takeA d.takeD
  takeB : Binds K d.takeD ["_law_box_here", "_law_below"] []
  takeG : mg "_law_take" = some (.ref a.takeA)
  ofF : Fun K "_law_of" "_law_of" sOf a.ofA d.ofD
  ofB : Binds K d.ofD ["_law_box_here", "_law_some"] []
  ofG : mg "_law_of" = some (.ref a.ofA)
  sameF : Fun K "_law_same" "_law_same" sSame a.sameA d.sameD
  sameB : Binds K d.sameD ["_law_found", "_law_due"] []
  sameG : mg "_law_same" = some (.ref a.sameA)
  listsF : Fun K "_law_lists" "_law_lists" sLists a.listsA d.listsD
  listsB : Binds K d.listsD ["_law_part"] []
  listsG : mg "_law_lists" = some (.ref a.listsA)
  runsF : Fun K "_law_runs" "_law_runs" sRuns a.runsA d.runsD
  runsB : Binds K d.runsD ["_law_there"] []
  runsG : mg "_law_runs" = some (.ref a.runsA)
  queueF : Fun K "_law_queue" "_law_queue" sQueue a.queueA d.queueD
  queueB : Binds K d.queueD ["_law_box_here", "_law_count", "_law_size"] []
  queueG : mg "_law_queue" = some (.ref a.queueA)
  pickF : Fun K "_law_pick_of" "_law_pick_of" sPick a.pickA d.pickD
  pickB : Binds K d.pickD ["_law_plot", "_law_there"] []
  pickG : mg "_law_pick_of" = some (.ref a.pickA)
  picksF : Fun K "_law_picks" "_law_picks" sPicks a.picksA d.picksD
  picksB : Binds K d.picksD ["_law_queue_here"] []
  picksG : mg "_law_picks" = some (.ref a.picksA)
  holesF : Fun K "_law_holes" "_law_holes" sHoles a.holesA d.holesD
  holesB : Binds K d.holesD ["_law_count", "_law_queue_here"] []
  holesG : mg "_law_holes" = some (.ref a.holesA)
  rightF : Fun K "_law_right" "_law_right" sRight a.rightA d.rightD
  rightB : Binds K d.rightD ["_law_box_here"] []
  rightG : mg "_law_right" = some (.ref a.rightA)
  wordsG : mg "WORDS" = some (.ref a.wordsA)
  wordsS : ∀ H, SqT K H a.wordsA wordsV
  stepsG : mg "STEPS" = some (.ref a.stepsA)
  stepsS : ∀ wd, KDct K w a.stepsA (wstr wd) (.int wd.step)
  lenM : mg "len" = none
  absM : mg "abs" = none
  intM : mg "int" = none
  sortedM : mg "sorted" = none
  tupleM : mg "tuple" = none
  listM : mg "list" = none
  rangeM : mg "range" = none
  enumerateM : mg "enumerate" = none
  zipM : mg "zip" = none
  isinstanceM : mg "isinstance" = none
  boolM : mg "bool" = none
  strM : mg "str" = none
  maxM : mg "max" = none
  minM : mg "min" = none
  sumM : mg "sum" = none
  allM : mg "all" = none

section
variable {P : Program} {w : World} {K : PySem.W.Frag} {mg : Str → Option Value} {base : Heap} {a : Adr} {d : Fds}
theorem Top.gTake (T : Top w K mg a d) : FnOk P w K mg base CX0 4 a.takeA d.takeD ["_law_box_here", "_law_below"] spTake := ok_take T.takeF
theorem Top.gQueue (T : Top w K mg a d) : FnOk P w K mg base CX0 4 a.queueA d.queueD ["_law_box_here", "_law_count", "_law_size"] spQueue :=
  (ok_queue T.queueF T.takeF T.takeB T.takeG T.ofF T.ofB T.ofG T.lenM T.listM T.rangeM T.tupleM).mono (by decide)
theorem Top.gPicks (T : Top w K mg a d) : FnOk P w K mg base CX0 4 a.picksA d.picksD ["_law_queue_here"] (spPicks K) :=
  ok_picks T.picksF T.pickF T.pickB T.pickG T.runsF T.runsB T.runsG T.sortedM T.lenM T.enumerateM T.intM T.tupleM
theorem Top.gHoles (T : Top w K mg a d) : FnOk P w K mg base CX0 4 a.holesA d.holesD ["_law_count", "_law_queue_here"] (spHoles K) :=
  ok_holes T.holesF T.runsF T.runsB T.runsG T.sortedM T.tupleM
theorem Top.gCof (T : Top w K mg a d) : FnOk P w K mg base CX0 4 a.cofA d.cofD ["row"] (spCof K) :=
  ok_cof T.cofF T.housesF T.housesB T.housesG T.nbF T.nbB T.nbG T.numF T.numB T.numG T.gloF T.gloB T.gloG T.wordsG T.wordsS T.tupleM T.lenM T.zipM
theorem Top.gGaps (T : Top w K mg a d) : FnOk P w K mg base CX0 4 a.gapsA d.gapsD ["plots", "row"] (spHoles K) := ok_gaps T.gapsF T.sortedM T.zipM
theorem Top.gRow (T : Top w K mg a d) : FnOk P w K mg base CX0 4 a.rowA d.rowD ["choices", "gaps"] (spRow K) :=
  ok_row T.rowF T.tigF T.tigB T.tigG T.enumerateM T.lenM T.zipM T.tupleM
theorem Top.gIscs (T : Top w K mg a d) : FnOk P w K mg base CX0 4 a.iscsA d.iscsD ["thing"] (spIsCs K) :=
  ok_isCs T.iscsF T.iscF T.iscB T.iscG T.isbF T.isbB T.isbG T.isnF T.isnB T.isnG T.manyF T.manyB T.manyG T.wordsG T.wordsS T.stepsG T.stepsS T.isinstanceM T.intM T.boolM T.maxM T.tupleM T.lenM
theorem Top.gIsg (T : Top w K mg a d) : FnOk P w K mg base CX0 4 a.isgA d.isgD ["choices", "thing"] (spIsG K) :=
  ok_isG T.isgF T.gaF T.gaB T.gaG T.isnF T.isnB T.isnG T.stepsG T.stepsS T.sumM T.isinstanceM T.intM T.boolM T.tupleM T.lenM T.allM
abbrev Nest4 : PyData → Prop := OnD (OnD (OnD (OnD NoD)))
abbrev Nest3 : PyData → Prop := OnD (OnD (OnD NoD))
theorem Top.gSame (T : Top w K mg a d) : FnOk P w K mg base CX0 4 a.sameA d.sameD ["_law_found", "_law_due"] (spSame K Nest4) := by
  have st : ∀ {m : Nat} {C : PyData → Prop}, FnOk P w K mg base CX0 m a.sameA d.sameD ["_law_found", "_law_due"] (spSame K C) → FnOk P w K mg base CX0 (m + 1) a.sameA d.sameD ["_law_found", "_law_due"] (spSame K (OnD C)) := fun G =>
    same_step T.sameF T.sameB T.sameG G T.isinstanceM T.intM T.boolM T.strM T.listM T.tupleM T.lenM T.allM T.zipM
  exact st (st (st (st same_none)))
theorem Top.gLists (T : Top w K mg a d) : FnOk P w K mg base CX0 4 a.listsA d.listsD ["_law_part"] (spLists K Nest3 (soft (soft (soft id)))) := by
  have st : ∀ {m : Nat} {C : PyData → Prop} {g : PyData → PyData}, FnOk P w K mg base CX0 m a.listsA d.listsD ["_law_part"] (spLists K C g) → FnOk P w K mg base CX0 (m + 1) a.listsA d.listsD ["_law_part"] (spLists K (OnD C) (soft g)) := fun G =>
    lists_step T.listsF T.listsB T.listsG G T.isinstanceM T.listM T.tupleM
  exact (st (st (st lists_none))).mono (by decide)
end
/-! ### the data of choices and of rows -/
def chD (b : Bool) (c : Ch) : PyData := if b then .tuple [.str (wstr c.1), .int (c.2 : Nat)] else .list [.str (wstr c.1), .int (c.2 : Nat)]
def seqD (b : Bool) (ds : List PyData) : PyData := if b then .tuple ds else .list ds
theorem dp_seq {K : PySem.W.Frag} {H : Hp} {b : Bool} {p : Addr} {xs : List V} {ds : List PyData} (h : SqB K b H p xs) (t : DpAll K H xs ds) : Dp K H (.ref p) (seqD b ds) := by
  cases b with
  | true => exact .tup h t
  | false => exact .lst h t
theorem dp_ch {K : PySem.W.Frag} {H : Hp} {b : Bool} {p : Addr} {c : Ch} (h : SqB K b H p (chV c)) : Dp K H (.ref p) (chD b c) := by
  cases b with
  | true => exact .tup h (.cons (.str _) (.cons (.int _) .nil))
  | false => exact .lst h (.cons (.str _) (.cons (.int _) .nil))
theorem dpa_ch {K : PySem.W.Frag} {H : Hp} {b' : Bool} : ∀ {ts : List Addr} {cs : List Ch}, Paired (fun t c => SqB K b' H t (chV c)) ts cs → DpAll K H (ts.map V.ref) (cs.map (chD b'))
  | _, _, .nil => .nil
  | _, _, .cons h t => .cons (dp_ch h) (dpa_ch t)
theorem ChIs.dp {K : PySem.W.Frag} {H : Hp} {b b' : Bool} {p : Addr} {cs : List Ch} (h : ChIs K b b' H p cs) : Dp K H (.ref p) (seqD b (cs.map (chD b'))) := by
  obtain ⟨ts, h1, h2⟩ := h
  exact dp_seq h1 (dpa_ch h2)
theorem chis_of {K : PySem.W.Frag} {H : Hp} : ∀ {xs : List V} {cs : List Ch}, DpAll K H xs (cs.map (chD false)) → ∃ ts : List Addr, xs = ts.map V.ref ∧ Paired (fun t c => SqB K false H t (chV c)) ts cs
  | _, [], .nil => ⟨[], rfl, .nil⟩
  | _, c :: cs, .cons h t => by
    obtain ⟨ts, rfl, p⟩ := chis_of t
    cases h with
    | lst h1 t1 =>
      cases t1 with
      | cons a1 t2 =>
        cases a1
        cases t2 with
        | cons a2 t3 =>
          cases a2
          cases t3
          exact ⟨_ :: ts, rfl, .cons h1 p⟩
theorem chis_soft {K : PySem.W.Frag} {H : Hp} {v : V} {cs : List Ch} (h : Dp K H v (.list (cs.map (chD false)))) : ∃ p, v = .ref p ∧ ChIs K false false H p cs := by
  cases h with
  | lst h1 t =>
    obtain ⟨ts, rfl, p⟩ := chis_of t
    exact ⟨_, rfl, ts, h1, p⟩
theorem on_flat {C : PyData → Prop} {d : PyData} (h : flatD d = true) : OnD C d := .inl h
theorem on_ch {C : PyData → Prop} (hC : ∀ d, flatD d = true → C d) (b : Bool) (c : Ch) : OnD C (chD b c) := by
  refine .inr ⟨[.str (wstr c.1), .int (c.2 : Nat)], ?_, by simp, fun x hx => ?_⟩
  · cases b
    · exact .inl rfl
    · exact .inr rfl
  · simp at hx
    rcases hx with rfl | rfl <;> exact hC _ rfl
theorem on_seq {C : PyData → Prop} {b : Bool} {ds : List PyData} (hl : ds.length ≤ 1000) (h : ∀ x ∈ ds, C x) : OnD C (seqD b ds) := by
  refine .inr ⟨ds, ?_, hl, h⟩
  cases b
  · exact .inl rfl
  · exact .inr rfl
theorem on_chs {C : PyData → Prop} {b b' : Bool} {cs : List Ch} (hl : cs.length ≤ 1000) : OnD (OnD (OnD C)) (seqD b (cs.map (chD b'))) :=
  on_seq (by rw [List.length_map]; exact hl) fun x hx => by
    obtain ⟨c, _, rfl⟩ := List.mem_map.mp hx
    exact on_ch (fun d h => on_flat h) b' c
theorem on_ints {C : PyData → Prop} {b : Bool} {l : List Int} (hl : l.length ≤ 1000) : OnD (OnD (OnD C)) (seqD b (dInts l)) :=
  on_seq (by unfold dInts; rw [List.length_map]; exact hl) fun x hx => by
    obtain ⟨i, _, rfl⟩ := List.mem_map.mp hx
    exact on_flat rfl
theorem soft_chs (cs : List Ch) : soft (soft (soft id)) (seqD true (cs.map (chD true))) = .list (cs.map (chD false)) := by
  show PyData.list ((cs.map (chD true)).map (soft (soft id))) = _
  rw [List.map_map]
  rfl
theorem sh_chs (cs : List Ch) (b' : Bool) : SeqAt.shaped (.list (cs.map (chD b'))) = true := by
  refine sh_list (n := 1) (canAll fun d h => ?_) (depAll fun d h => ?_) (by decide)
  · obtain ⟨c, _, rfl⟩ := List.mem_map.mp h
    have hs : PyData.canLay0 (.str (wstr c.1)) = true := by
      cases c.1 <;> decide +kernel
    cases b' <;> simp [chD, PyData.canLay0, PyData.canLayAll0] <;> simpa [PyData.canLay0] using hs
  · obtain ⟨c, _, rfl⟩ := List.mem_map.mp h
    cases b' <;> simp [chD, PyData.depth, PyData.depthAll]
end Og

namespace Og
open PySem PySem.Spec PyProof.Rows L2 OgR Evl OgM
theorem range_getD (l : List Int) : (List.range l.length).map (fun t => l.getD t 0) = l := by
  refine List.ext_getElem? fun i => ?_
  by_cases h : i < l.length
  · rw [List.getElem?_map, List.getElem?_range h, List.getElem?_eq_getElem h]
    show some (l.getD i 0) = _
    rw [List.getD_eq_getElem?_getD, List.getElem?_eq_getElem h]
    rfl
  · rw [List.getElem?_eq_none (by simp; omega), List.getElem?_eq_none (by omega)]
theorem told_row {n : Int} {row : List Int} (h : OgM.Row n row) : Told (fun t => row.getD t 0) (stAt (picks row) (picks row).length) (segs row) := by
  have q := (picks_told h row.length (Nat.le_refl _)).1
  rw [List.take_of_length_le (Nat.le_refl _)] at q
  rw [picks_len]
  exact q
theorem row_back (row : List Int) : (List.range (picks row).length).map (fun t => row.getD t 0) = row := by
  rw [picks_len]
  exact range_getD row
theorem holes_ok {n : Nat} {row : List Int} (h : OgM.Row n row) : (holes n (segs row)).length = (stAt (picks row) (picks row).length).length + 1 ∧
    ∀ (i : Nat) (x : Int), (holes n (segs row))[i]? = some x → 0 ≤ x ∧ (1 ≤ i → i + 1 < (holes n (segs row)).length → 1 ≤ x) := by
  have hl : (stAt (picks row) (picks row).length).length = (segs row).length := by
    have := congrArg List.length (told_row h)
    simpa using this
  refine ⟨by rw [holes_len, hl], fun i x hx => ?_⟩
  unfold holes at hx
  by_cases hi : i < (holesI 0 (segs row)).length
  · rw [List.getElem?_append_left hi] at hx
    have q := holesI_top h.ok.1 i x hx
    exact ⟨q.1, fun a _ => q.2 a⟩
  · rw [List.getElem?_append_right (by omega)] at hx
    have hj := (List.getElem?_eq_some_iff.mp hx).1
    have hj0 : i - (holesI 0 (segs row)).length = 0 := by
      simp at hj
      omega
    rw [hj0] at hx
    have ex : (n : Int) - endB 0 (segs row) = x := Option.some.inj hx
    have hb : endB 0 (segs row) ≤ (n : Int) := endB_le (by omega) fun q m => h.hi q ((h.ok.2 q).mp m)
    refine ⟨by omega, fun a b => ?_⟩
    rw [holes_len, ← holesI_len 0 (segs row)] at b
    omega
section
variable {P : Program} {w : World} {K : PySem.W.Frag} {mg : Str → Option Value} {base : Heap} {a : Adr} {d : Fds}
def spRight : Sp := fun vs H Q _ => ∃ (l : Addr) (c : Int), vs = [.ref l] ∧ BoxAt H l c ∧ c ≤ 800000 ∧ ∀ H' c', ExB l H H' → BoxAt H' l c' → c' ≤ c + 100 → Q (.bl true) H'
theorem ok_right (T : Top w K mg a d) : FnOk P w K mg base CX0 5 a.rightA d.rightD ["_law_box_here"] spRight := by
  refine T.rightF.ok scRight (fun vs H Q E h => ?_) (fun cdv A outer s H vs Q E hr h => ?_)
  · obtain ⟨_, _, rfl, _⟩ := h
    rfl
  · obtain ⟨l, c, rfl, hB, hc, q⟩ := h
    refine ⟨_, pss_cons (ps_set (i := 1) scRight.nd rfl (.inl rfl) (pe_call T.gTake hr (by rfl) T.takeG T.takeF.kp T.takeB .nil pass0 (pa_cons (pv 0) (pa_cons pe_int pa_nil))))
      (pss_cons (ps_set (i := 2) scRight.nd rfl (.inl rfl) (pe_call T.gQueue hr (by rfl) T.queueG T.queueF.kp T.queueB .nil pass0 (pa_cons (pv 0) (pa_cons (pv 1) (pa_cons (pe_call T.gTake hr (by rfl) T.takeG T.takeF.kp T.takeB .nil pass0 (pa_cons (pv 0) (pa_cons (pe_op op_add (pv 1) pe_int) pa_nil))) pa_nil)))))
      (pss_cons (ps_par (i := 3) (j := 4) (by rfl) scRight.nd rfl rfl (by decide) rfl rfl (pa_cons (pe_callTy call_list_of (by rfl) T.listM (by decide +kernel) (pa_cons (pv 2) pa_nil)) (pa_cons (pe_call T.gPicks hr (by rfl) T.picksG T.picksF.kp T.picksB .nil pass0 (pa_cons (pv 2) pa_nil)) pa_nil)) (by rfl))
      (pss_cons (ps_set (i := 5) scRight.nd rfl (.inl rfl) (pe_call T.gHoles hr (by rfl) T.holesG T.holesF.kp T.holesB .nil pass0 (pa_cons (pv 1) (pa_cons (pv 2) pa_nil))))
      (pss_cons (ps_set (i := 6) scRight.nd rfl (.inl rfl) (pe_lst (pa_cons (pe_call T.gCof hr (by rfl) T.cofG T.cofF.kp T.cofB .nil pass0 (pa_cons (pv 2) pa_nil)) (pa_cons (pe_named T.gCof hr (by rfl) T.cofG T.cofF.kp (by1 T.cofF fun _ _ _ _ _ _ _ => rfl) pass0 (pk_cons (pv 3) pk_nil)) pa_nil))))
      (pss_cons (ps_if (pt_not (pt_val (pe_call T.gSame hr (by rfl) T.sameG T.sameF.kp T.sameB .nil pass0 (pa_cons (pv 6) (pa_cons (pe_lst (pa_cons (pv 4) (pa_cons (pv 4) pa_nil))) pa_nil))))) (pss_one (ps_ret pe_bl)) pss_nil)
      (pss_cons (ps_set (i := 6) scRight.nd rfl (.inl rfl) (pe_lst (pa_cons (pe_call T.gGaps hr (by rfl) T.gapsG T.gapsF.kp T.gapsB .nil pass0 (pa_cons (pv 1) (pa_cons (pv 2) pa_nil))) (pa_cons (pe_named T.gGaps hr (by rfl) T.gapsG T.gapsF.kp (by2 (a := "plots") (b := "row") T.gapsF fun _ _ _ _ _ _ _ _ => rfl) pass0 (pk_cons (pv 3) (pk_cons (pv 1) pk_nil))) pa_nil))))
      (pss_cons (ps_if (pt_not (pt_val (pe_call T.gSame hr (by rfl) T.sameG T.sameF.kp T.sameB .nil pass0 (pa_cons (pv 6) (pa_cons (pe_lst (pa_cons (pv 5) (pa_cons (pv 5) pa_nil))) pa_nil))))) (pss_one (ps_ret pe_bl)) pss_nil)
      (pss_cons (ps_set (i := 7) scRight.nd rfl (.inl rfl) (pe_call T.gLists hr (by rfl) T.listsG T.listsF.kp T.listsB .nil pass0 (pa_cons (pv 4) pa_nil)))
      (pss_cons (ps_set (i := 6) scRight.nd rfl (.inl rfl) (pe_lst (pa_cons (pe_call T.gRow hr (by rfl) T.rowG T.rowF.kp T.rowB .nil pass0 (pa_cons (pv 4) (pa_cons (pv 5) pa_nil))) (pa_cons (pe_named T.gRow hr (by rfl) T.rowG T.rowF.kp (by2 (a := "choices") (b := "gaps") T.rowF fun _ _ _ _ _ _ _ _ => rfl) pass0 (pk_cons (pe_callTy call_list_of (by rfl) T.listM (by decide +kernel) (pa_cons (pv 5) pa_nil)) (pk_cons (pv 7) pk_nil))) pa_nil))))
      (pss_cons (ps_if (pt_not (pt_val (pe_call T.gSame hr (by rfl) T.sameG T.sameF.kp T.sameB .nil pass0 (pa_cons (pv 6) (pa_cons (pe_lst (pa_cons (pv 2) (pa_cons (pv 2) pa_nil))) pa_nil))))) (pss_one (ps_ret pe_bl)) pss_nil)
      (pss_cons (ps_if (PW.pt (pw_or (pt_cmpR op_notBl (pe_call T.gIscs hr (by rfl) T.iscsG T.iscsF.kp T.iscsB .nil pass0 (pa_cons (pv 4) pa_nil)) pe_bl (nomark _)) (pw_or (pt_cmpR op_notBl (pe_call T.gIsg hr (by rfl) T.isgG T.isgF.kp T.isgB .nil pass0 (pa_cons (pv 4) (pa_cons (pv 5) pa_nil))) pe_bl (nomark _)) (pw_or1 (pt_cmpR op_notBl (pe_call T.gIsg hr (by rfl) T.isgG T.isgF.kp T.isgB .nil pass0 (pa_cons (pv 7) (pa_cons (pv 5) pa_nil))) pe_bl (nomark _)))))) (pss_one (ps_ret pe_bl)) pss_nil)
      (pss_one (ps_ret (pe_and (pe_cmpR (op_eqD hr.units) (pv 3) (pe_callTy call_list_of (by rfl) T.listM (by decide +kernel) (pa_cons (pv 2) pa_nil)) (nomark _)) (pe_one (pe_cmpR (op_eqD hr.units) (pv 7) (pe_call T.gLists hr (by rfl) T.listsG T.listsF.kp T.listsB .nil pass0 (pa_cons (pv 4) pa_nil)) (nomark _))))))))))))))))), ?_⟩
    -- count
    refine ⟨_, rfl, l, c, 17, rfl, hB, by decide, by decide, by omega, fun r us1 c1 r0 r1 hB1 hc1 => ?_⟩
    obtain ⟨n, rfl⟩ := Int.eq_ofNat_of_zero_le r0
    have e1 : ExB l H (upd H l (.lst us1)) := .box
    generalize (upd H l (.lst us1)) = H1 at e1 hB1
    -- queue
    refine ⟨_, rfl, _, rfl, _, rfl, _, rfl, _, _, rfl, rfl, l, c1, _, rfl, hB1, by omega, by omega, by omega, fun r2 us2 c2 r20 r21 hB2 hc2 => ?_⟩
    obtain ⟨m, rfl⟩ := Int.eq_ofNat_of_zero_le r20
    have e2 : ExB l H (upd H1 l (.lst us2)) := e1.trans .box
    generalize (upd H1 l (.lst us2)) = H2 at e2 hB2
    refine ⟨l, c2, n, m, rfl, hB2, by omega, by omega, by omega, fun H3 tq row c3 e3 hB3 hc3 hrow hrl htq0 htq => ?_⟩
    have e3' : ExB l H H3 := e2.trans e3
    have hn17 : n ≤ 16 := by omega
    have hrl9 : row.length ≤ 900 := by omega
    have hpl : (picks row).length ≤ 900 := by rw [picks_len]; exact hrl9
    have hVC := picks_valid hrow
    obtain ⟨hhl, hhg⟩ := holes_ok hrow
    have hsl := segs_len row
    have hh9 : (holes n (segs row)).length ≤ 1000 := by rw [holes_len]; omega
    have htold := told_row hrow
    -- listed, picks
    refine ⟨_, rfl, tq, _, rfl, .inr (.inl (.inl htq)), fun ll hll => ?_⟩
    have x4 : Ex H3 (upd H3 ll (.lst (row.map V.int))) := Ex.new hll
    have sq4 : SqB K true (upd H3 ll (.lst (row.map V.int))) tq (row.map V.int) := .inl (.inl (x4 _ _ htq))
    have sl4 : SqB K false (upd H3 ll (.lst (row.map V.int))) ll (row.map V.int) := .inl (.inl upd_same)
    generalize (upd H3 ll (.lst (row.map V.int))) = H4 at x4 sq4 sl4
    refine ⟨_, rfl, tq, row, rfl, sq4, hrow.nd, hrl9, fun H5 tp e5 hP5 => ⟨_, _, rfl, ?_⟩⟩
    have x5 := x4.trans e5
    -- holes
    refine ⟨_, rfl, _, rfl, true, tq, n, row, rfl, sq4.ex e5, hrow.nd, hrl9, fun H6 th e6 hth0 hth => ?_⟩
    have x6 := x5.trans e6
    have sq6 := (sq4.ex e5).ex e6
    have sl6 := (sl4.ex e5).ex e6
    have hP6 := hP5.ex e6
    have sh6 : SqB K true H6 th ((holes n (segs row)).map V.int) := .inl (.inl hth)
    clear sq4 sl4 hP5 hth hth0 x5 x4 e5 e6
    -- choices_of
    refine ⟨_, rfl, true, tq, row, rfl, sq6, hrow.nd, hrl9, fun H7 t1 e7 hc1 => ⟨_, rfl, rfl, false, ll, row, rfl, sl6.ex e7, hrow.nd, hrl9, fun H8 t2 e8 hc2 => ⟨(show 2 ≤ sizeLine by decide), fun to hto => ?_⟩⟩⟩
    have x8 := (x6.trans e7).trans e8
    refine ⟨_, rfl, _, rfl, _, rfl, (show 2 ≤ sizeLine by decide), fun pp hpp => ?_⟩
    have y8 : Ex H8 (upd (upd H8 to (.lst [.ref t1, .ref t2])) pp (.lst [.ref tp, .ref tp])) := (Ex.new hto).trans (Ex.new hpp)
    refine ⟨.ref to, .ref pp, seqD false [seqD true ((picks row).map (chD true)), seqD true ((picks row).map (chD true))], rfl, .lst (.inl (.inl (Ex.new hpp _ _ upd_same))) (.cons (((hc1.ex e8).ex y8).dp) (.cons ((hc2.ex y8).dp) .nil)), .lst (.inl (.inl upd_same)) (.cons ((((hP6.ex e7).ex e8).ex y8).dp) (.cons ((((hP6.ex e7).ex e8).ex y8).dp) .nil)), ?_, fun H9 e9 => ⟨_, rfl, iteF ?_⟩⟩
    · refine on_seq (by simp) fun x hx => ?_
      simp at hx
      subst hx
      exact on_chs (by omega)
    have x9 : Ex H6 H9 := (e7.trans e8).trans (y8.trans e9)
    have sq9 := sq6.ex x9
    have sl9 := sl6.ex x9
    have hP9 := hP6.ex x9
    have sh9 := sh6.ex x9
    replace x9 := x6.trans x9
    clear sq6 sl6 hP6 sh6 x6 x8 y8 hc1 hc2 e7 e8 e9 hto hpp
    -- gaps_of
    refine ⟨_, rfl, _, rfl, true, tq, n, row, rfl, sq9, hrow.nd, hrl9, fun H10 g1 e10 hg10 hg1 => ⟨_, rfl, _, rfl, rfl, false, ll, n, row, rfl, sl9.ex e10, hrow.nd, hrl9, fun H11 g2 e11 hg20 hg2 => ⟨(show 2 ≤ sizeLine by decide), fun to hto => ?_⟩⟩⟩
    refine ⟨_, rfl, _, rfl, _, rfl, (show 2 ≤ sizeLine by decide), fun pp hpp => ?_⟩
    have y11 : Ex H11 (upd (upd H11 to (.lst [.ref g1, .ref g2])) pp (.lst [.ref th, .ref th])) := (Ex.new hto).trans (Ex.new hpp)
    have sg1 : SqB K true (upd (upd H11 to (.lst [.ref g1, .ref g2])) pp (.lst [.ref th, .ref th])) g1 ((holes n (segs row)).map V.int) := .inl (.inl (y11 _ _ (e11 _ _ hg1)))
    have sg2 : SqB K true (upd (upd H11 to (.lst [.ref g1, .ref g2])) pp (.lst [.ref th, .ref th])) g2 ((holes n (segs row)).map V.int) := .inl (.inl (y11 _ _ hg2))
    have sh11 := ((sh9.ex e10).ex e11).ex y11
    refine ⟨.ref to, .ref pp, seqD false [seqD true (dInts (holes n (segs row))), seqD true (dInts (holes n (segs row)))], rfl, .lst (.inl (.inl (Ex.new hpp _ _ upd_same))) (.cons (dp_seq sg1 (dp_ints _)) (.cons (dp_seq sg2 (dp_ints _)) .nil)), .lst (.inl (.inl upd_same)) (.cons (dp_seq sh11 (dp_ints _)) (.cons (dp_seq sh11 (dp_ints _)) .nil)), ?_, fun H12 e12 => ⟨_, rfl, iteF ?_⟩⟩
    · refine on_seq (by simp) fun x hx => ?_
      simp at hx
      subst hx
      exact on_ints hh9
    have x12 : Ex H9 H12 := (e10.trans e11).trans (y11.trans e12)
    have sq12 := sq9.ex x12
    have sl12 := sl9.ex x12
    have hP12 := hP9.ex x12
    have sh12 := sh9.ex x12
    replace x12 := x9.trans x12
    clear sq9 sl9 hP9 sh9 x9 y11 sg1 sg2 sh11 hg1 hg2 hg10 hg20 e10 e11 e12 hto hpp
    -- soft
    refine ⟨_, rfl, _, _, rfl, hP12.dp, on_chs (by omega), fun sv H13 e13 hN => ?_⟩
    rw [soft_chs] at hN
    have hNd : Dp K H13 sv (.list ((picks row).map (chD false))) := hN.dp
    obtain ⟨sp, rfl, hS13⟩ := chis_soft hNd
    -- row_of
    refine ⟨_, rfl, _, rfl, true, true, true, tp, th, picks row, n, segs row, fun t => row.getD t 0, rfl, hP12.ex e13, hVC, hpl, sh12.ex e13, htold, fun H14 r1' e14 hr10 hr1 => ?_⟩
    refine ⟨_, rfl, th, _, rfl, .inr ((sh12.ex e13).ex e14), fun lh hlh => ⟨_, rfl, rfl, ?_⟩⟩
    have x15 : Ex H14 (upd H14 lh (.lst ((holes n (segs row)).map V.int))) := Ex.new hlh
    refine ⟨false, false, false, sp, lh, picks row, n, segs row, fun t => row.getD t 0, rfl, (hS13.ex e14).ex x15, hVC, hpl, .inl (.inl upd_same), htold, fun H16 r2' e16 hr20 hr2 => ⟨(show 2 ≤ sizeLine by decide), fun to hto => ?_⟩⟩
    rw [row_back] at hr1 hr2
    refine ⟨_, rfl, _, rfl, _, rfl, (show 2 ≤ sizeLine by decide), fun pp hpp => ?_⟩
    have y16 : Ex H16 (upd (upd H16 to (.lst [.ref r1', .ref r2'])) pp (.lst [.ref tq, .ref tq])) := (Ex.new hto).trans (Ex.new hpp)
    have sr1 : SqB K true (upd (upd H16 to (.lst [.ref r1', .ref r2'])) pp (.lst [.ref tq, .ref tq])) r1' (row.map V.int) := .inl (.inl (y16 _ _ (e16 _ _ (x15 _ _ hr1))))
    have sr2 : SqB K true (upd (upd H16 to (.lst [.ref r1', .ref r2'])) pp (.lst [.ref tq, .ref tq])) r2' (row.map V.int) := .inl (.inl (y16 _ _ hr2))
    have x16 : Ex H12 H16 := ((e13.trans e14).trans x15).trans e16
    have sq16 := (sq12.ex x16).ex y16
    refine ⟨.ref to, .ref pp, seqD false [seqD true (dInts row), seqD true (dInts row)], rfl, .lst (.inl (.inl (Ex.new hpp _ _ upd_same))) (.cons (dp_seq sr1 (dp_ints _)) (.cons (dp_seq sr2 (dp_ints _)) .nil)), .lst (.inl (.inl upd_same)) (.cons (dp_seq sq16 (dp_ints _)) (.cons (dp_seq sq16 (dp_ints _)) .nil)), ?_, fun H17 e17 => ⟨_, rfl, iteF ?_⟩⟩
    · refine on_seq (by simp) fun x hx => ?_
      simp at hx
      subst hx
      exact on_ints (by omega)
    have x17 : Ex H12 H17 := x16.trans (y16.trans e17)
    have y17 : Ex H13 H17 := ((e14.trans x15).trans e16).trans (y16.trans e17)
    have sq17 := sq12.ex x17
    have sl17 := sl12.ex x17
    have hP17 := hP12.ex x17
    have sh17 := sh12.ex x17
    have hS17 := hS13.ex y17
    have hN17 := dp_ex y17 hNd
    replace x17 := x12.trans x17
    clear sq12 sl12 hP12 sh12 hS13 hN hNd x12 x15 x16 y16 y17 sr1 sr2 sq16 hr1 hr2 hr10 hr20 e13 e14 e16 e17 hto hpp hlh
    -- is_choices, is_gaps
    refine ⟨_, rfl, tp, picks row, rfl, hP17, hVC, hpl, true, true, rfl, rfl, _, rfl, iteF ?_⟩
    refine ⟨_, rfl, _, rfl, true, true, tp, th, picks row, holes n (segs row), rfl, hP17, hVC, hpl, sh17, hhl, hhg, fun H18 e18 => ⟨true, true, rfl, rfl, _, rfl, iteF ?_⟩⟩
    refine ⟨_, rfl, _, rfl, false, false, sp, th, picks row, holes n (segs row), rfl, hS17.ex e18, hVC, hpl, sh17.ex e18, hhl, hhg, fun H19 e19 => ⟨true, true, rfl, rfl, _, rfl, iteF ?_⟩⟩
    have x19 := e18.trans e19
    -- the end
    refine ⟨_, rfl, _, rfl, tq, _, rfl, .inr (sq17.ex x19), fun lq hlq => ?_⟩
    have x20 : Ex H19 (upd H19 lq (.lst (row.map V.int))) := Ex.new hlq
    have refl1 : PyData.eqv (.list (dInts row)) (.list (dInts row)) = true := SeqAt.eqv_refl _ (SeqAt.canLay_of_shaped (sh_ints row).1)
    have refl2 : PyData.eqv (.list ((picks row).map (chD false))) (.list ((picks row).map (chD false))) = true := SeqAt.eqv_refl _ (SeqAt.canLay_of_shaped (sh_chs (picks row) false))
    refine ⟨_, _, .lst ((sl17.ex x19).ex x20) (dp_ints row), .lst (.inl (.inl upd_same)) (dp_ints row), (sh_ints row).1, (sh_ints row).1, true, by rw [refl1], ?_⟩
    refine ⟨_, rfl, _, rfl, _, _, rfl, ((hP17.ex x19).ex x20).dp, on_chs (by omega), fun sv H21 e21 hN2 => ?_⟩
    rw [soft_chs] at hN2
    refine ⟨_, _, dp_ex (x19.trans (x20.trans e21)) hN17, hN2.dp, sh_chs _ _, sh_chs _ _, ?_⟩
    rw [refl2]
    have x21 : Ex H3 H21 := x17.trans (x19.trans (x20.trans e21))
    exact q _ c3 (e3'.trans (.of x21)) (hB3.ex x21) (by omega)
end
end Og

namespace Og
open PySem PySem.Spec PyProof.Rows L2 OgR Evl OgM
abbrev sLaw : Stmt := topS 33
theorem scLaw : FnScope ["_law_script", "_law_k", "_law_box_here", "_law_turn"] ["_law_script"] (defScope sLaw) := ⟨rfl, rfl, rfl, by decide +kernel, rfl, by decide +kernel, by decide +kernel⟩
section
variable {P : Program} {w : World} {K : PySem.W.Frag} {mg : Str → Option Value} {base : Heap} {a : Adr} {d : Fds}
def spLaw (K : PySem.W.Frag) : Sp := fun vs H Q _ => ∃ (s : Addr) (ns : List Int), vs = [.ref s] ∧ SqL K H s (ns.map V.int) ∧ ns.length ≤ 63 ∧ ∀ H', Q (.bl true) H'
theorem ok_law {f : Addr} {fd : FuncData} (F : Fun K "law" "law" sLaw f fd) (T : Top w K mg a d) : FnOk P w K mg base CX0 6 f fd ["_law_script"] (spLaw K) := by
  have GB : FnOk P w K mg base CX0 5 a.boxA d.boxD ["_law_script", "_law_k"] (spBox K) := (ok_box T.boxF T.cellF T.cellB T.cellG T.lenM T.absM T.intM).mono (by decide)
  have GR : FnOk P w K mg base CX0 5 a.rightA d.rightD ["_law_box_here"] spRight := ok_right T
  refine F.ok scLaw (fun vs H Q E h => ?_) (fun cdv A outer s H vs Q E hr h => ?_)
  · obtain ⟨_, _, rfl, _⟩ := h
    rfl
  · obtain ⟨sc, ns, rfl, hS, hlen, q⟩ := h
    refine ⟨_, pss_cons (ps_for PassesOwn.never rfl (pi_range1 rfl T.rangeM (pa_cons (pe_op op_add pe_int (pe_callB (call_min2 (by rfl)) (by rfl) T.minM (by decide +kernel) (pa_cons pe_int (pa_cons (pe_callB call_len_seq (by rfl) T.lenM PySem.boot_len (pa_cons (pv 0) pa_nil)) pa_nil)))) pa_nil)) (pg_name (i := 1) scLaw.nd rfl (.inl rfl))
        (pss_cons (ps_set (i := 2) scLaw.nd rfl (.inr rfl) (pe_call GB hr (by rfl) T.boxG T.boxF.kp T.boxB .nil pass0 (pa_cons (pv 0) (pa_cons (pv 1) pa_nil))))
        (pss_one (ps_if (pt_not (pt_val (pe_callB (cr_all (by rfl)) (by rfl) T.allM (by decide +kernel) (pa_cons
          (pe_lc (own := [("_law_turn", 3)]) (g := gName 3) (by rfl) scLaw.nd (pi_range1 rfl T.rangeM (pa_cons pe_int pa_nil))
            (blkOk_by (own := [("_law_turn", 3)]) (N := ["_law_script", "_law_k", "_law_box_here", "_law_turn"]) (sc := defScope sLaw) (by decide +kernel))
            (fun _ _ _ _ _ => pg_name (i := 3) scLaw.nd rfl (Or.inl rfl) (hf := Or.inr rfl))
            (fun _ _ _ _ _ => pts_nil)
            (fun _ _ _ _ _ => pe_call GR hr (by rfl) T.rightG T.rightF.kp T.rightB .nil pass0 (pa_cons (pv 2) pa_nil))) pa_nil)))) (pss_one (ps_ret pe_bl)) pss_nil))))
      (pss_one (ps_ret pe_bl)), ?_⟩
    have hmin : ∀ j : Int, 0 ≤ j → (0 : Int) ≤ (if j < 3 then j else 3) ∧ (if j < 3 then j else 3) ≤ 3 := fun j h => by split <;> omega
    have hm := hmin ((ns.map V.int).length : Int) (by omega)
    refine ⟨_, rfl, sc, _, rfl, .inl hS, _, _, rfl, _, _, rfl, rfl, _, rfl, by omega, by omega, for_range (lo := 0) (fun i σ H3 => ∃ y1 y2, σ = [some (.ref sc), y1, y2, none] ∧ SqL K H3 sc (ns.map V.int)) ?_ ?_ ?_⟩
    · exact ⟨none, none, rfl, hS⟩
    · rintro i σ H3 hi ⟨y1, y2, rfl, hS3⟩
      have hi4 : i ≤ 1000 := by omega
      rw [Int.zero_add]
      refine ⟨_, rfl, _, rfl, sc, ns, i, rfl, hS3, hi4, fun l x y hl hx hy hy2 => ?_⟩
      have hB0 : BoxAt (upd H3 l (.lst [.int x, .int y, .int 0])) l 0 := ⟨x, y, upd_same, hx, hy, hy2, by omega, by omega⟩
      have e0 : Ex H3 (upd H3 l (.lst [.int x, .int y, .int 0])) := Ex.new hl
      generalize (upd H3 l (.lst [.int x, .int y, .int 0])) = H4 at hB0 e0
      obtain ⟨bx, hbx⟩ := hB0.at
      refine ⟨3, rfl, by decide, by decide, fun D hD => lc_range (lo := 0) (n := 3) (fun j H' => ExB l H4 H' ∧ H' D = some (.lst ((List.replicate j true).map V.bl)) ∧ ∃ c', BoxAt H' l c' ∧ c' ≤ 100 * (j : Int)) ⟨.of (Ex.new hD), upd_same, 0, hB0.ex (Ex.new hD), by omega⟩ (fun j H' hj c => ?_) (fun H5 c => ?_)⟩
      · obtain ⟨c1, c2, c', c3, c4⟩ := c
        have nlD : D ≠ l := Ne.symm (ne_of_none hbx hD)
        refine ⟨rfl, _, rfl, l, c', rfl, c3, by omega, fun H6 c6 e6 hB6 hc6 => ?_⟩
        refine ⟨_, e6 _ _ nlD c2, ?_, (c1.trans e6).mut hD, ?_, c6, hB6.upd (Ne.symm nlD), by omega⟩
        · rw [List.length_map, List.length_replicate]
          exact small1000 (by omega)
        · rw [upd_same, rep_snoc, List.map_append]
          rfl
      · obtain ⟨c1, c2, _⟩ := c
        refine ⟨D, _, rfl, .inl (.inl c2), _, rfl, ?_⟩
        rw [rep_all]
        refine iteF ⟨_, _, rfl, ?_⟩
        have e5 : Ex H3 H5 := fun b o hb => c1 b o (ne_of_none hb hl) (e0 b o hb)
        exact ex_l e5 hS3
    · rintro σ H3 _
      exact q _
end
theorem all_mk {l : PySem.W.OpenLaw} {w : World} {K : PySem.W.Frag} {h : Heap} {mg : Str → Option Value} {fa : Addr} (X : K.In h) (G : h.Ns mainGlobals mg) (hfa : mg "law" = some (.ref fa))
    {f0 f1 f2 f3 f4 f5 f6 f7 f8 f9 f10 f11 f12 f13 f14 f15 f16 f17 f18 f19 f20 f21 f22 f23 f24 f25 f26 f27 aW aS : Addr} {od0 an0 od1 an1 od2 an2 od3 an3 od4 an4 od5 an5 od6 an6 od7 an7 od8 an8 od9 an9 od10 an10 od11 an11 od12 an12 od13 an13 od14 an14 od15 an15 od16 an16 od17 an17 od18 an18 od19 an19 od20 an20 od21 an21 od22 an22 od23 an23 od24 an24 od25 an25 od26 an26 od27 an27 : Option Addr} {sl0 sl1 sl2 sl3 sl4 sl5 sl6 sl7 sl8 sl9 sl10 sl11 sl12 sl13 sl14 sl15 sl16 sl17 sl18 sl19 sl20 sl21 sl22 sl23 sl24 sl25 sl26 sl27 : Array (Option Value)} {oc0 kV0 dc0 pm0 cd0 ct0 oc1 kV1 dc1 pm1 cd1 ct1 oc2 kV2 dc2 pm2 cd2 ct2 oc3 kV3 dc3 pm3 cd3 ct3 oc4 kV4 dc4 pm4 cd4 ct4 oc5 kV5 dc5 pm5 cd5 ct5 oc6 kV6 dc6 pm6 cd6 ct6 oc7 kV7 dc7 pm7 cd7 ct7 oc8 kV8 dc8 pm8 cd8 ct8 oc9 kV9 dc9 pm9 cd9 ct9 oc10 kV10 dc10 pm10 cd10 ct10 oc11 kV11 dc11 pm11 cd11 ct11 oc12 kV12 dc12 pm12 cd12 ct12 oc13 kV13 dc13 pm13 cd13 ct13 oc14 kV14 dc14 pm14 cd14 ct14 oc15 kV15 dc15 pm15 cd15 ct15 oc16 kV16 dc16 pm16 cd16 ct16 oc17 kV17 dc17 pm17 cd17 ct17 oc18 kV18 dc18 pm18 cd18 ct18 oc19 kV19 dc19 pm19 cd19 ct19 oc20 kV20 dc20 pm20 cd20 ct20 oc21 kV21 dc21 pm21 cd21 ct21 oc22 kV22 dc22 pm22 cd22 ct22 oc23 kV23 dc23 pm23 cd23 ct23 oc24 kV24 dc24 pm24 cd24 ct24 oc25 kV25 dc25 pm25 cd25 ct25 oc26 kV26 dc26 pm26 cd26 ct26 oc27 kV27 dc27 pm27 cd27 ct27 : Value}
    {ddW : Option Addr} {nW : Nat} {slW : Array (Option Value)} {tW1 tW2 tW3 : Tok}
    (a0 : PySem.W.nsIn K mainGlobals "is_number" = some (some (.ref f0)))
    (l0 : K.lookup f0 = some ⟨oc0, od0, .func (PySem.W.fnOf "is_number" "is_number" (defArgs sIsN) (defBody sIsN) (defScope sIsN) .none kV0 dc0 pm0 an0 cd0 ct0), sl0⟩)
    (c0 : PySem.W.codeIn K cd0 "is_number" = true) (k0 : PySem.W.keepIn K (.ref f0) = true)
    (a1 : PySem.W.nsIn K mainGlobals "is_number_below" = some (some (.ref f1)))
    (l1 : K.lookup f1 = some ⟨oc1, od1, .func (PySem.W.fnOf "is_number_below" "is_number_below" (defArgs sIsB) (defBody sIsB) (defScope sIsB) .none kV1 dc1 pm1 an1 cd1 ct1), sl1⟩)
    (c1 : PySem.W.codeIn K cd1 "is_number_below" = true) (k1 : PySem.W.keepIn K (.ref f1) = true)
    (a2 : PySem.W.nsIn K mainGlobals "neighbours" = some (some (.ref f2)))
    (l2 : K.lookup f2 = some ⟨oc2, od2, .func (PySem.W.fnOf "neighbours" "neighbours" (defArgs sNb) (defBody sNb) (defScope sNb) .none kV2 dc2 pm2 an2 cd2 ct2), sl2⟩)
    (c2 : PySem.W.codeIn K cd2 "neighbours" = true) (k2 : PySem.W.keepIn K (.ref f2) = true)
    (a3 : PySem.W.nsIn K mainGlobals "houses" = some (some (.ref f3)))
    (l3 : K.lookup f3 = some ⟨oc3, od3, .func (PySem.W.fnOf "houses" "houses" (defArgs sHouses) (defBody sHouses) (defScope sHouses) .none kV3 dc3 pm3 an3 cd3 ct3), sl3⟩)
    (c3 : PySem.W.codeIn K cd3 "houses" = true) (k3 : PySem.W.keepIn K (.ref f3) = true)
    (a4 : PySem.W.nsIn K mainGlobals "many_choices" = some (some (.ref f4)))
    (l4 : K.lookup f4 = some ⟨oc4, od4, .func (PySem.W.fnOf "many_choices" "many_choices" (defArgs sMany) (defBody sMany) (defScope sMany) .none kV4 dc4 pm4 an4 cd4 ct4), sl4⟩)
    (c4 : PySem.W.codeIn K cd4 "many_choices" = true) (k4 : PySem.W.keepIn K (.ref f4) = true)
    (a5 : PySem.W.nsIn K mainGlobals "is_choice" = some (some (.ref f5)))
    (l5 : K.lookup f5 = some ⟨oc5, od5, .func (PySem.W.fnOf "is_choice" "is_choice" (defArgs sIsC) (defBody sIsC) (defScope sIsC) .none kV5 dc5 pm5 an5 cd5 ct5), sl5⟩)
    (c5 : PySem.W.codeIn K cd5 "is_choice" = true) (k5 : PySem.W.keepIn K (.ref f5) = true)
    (a6 : PySem.W.nsIn K mainGlobals "is_choices" = some (some (.ref f6)))
    (l6 : K.lookup f6 = some ⟨oc6, od6, .func (PySem.W.fnOf "is_choices" "is_choices" (defArgs sIsCs) (defBody sIsCs) (defScope sIsCs) .none kV6 dc6 pm6 an6 cd6 ct6), sl6⟩)
    (c6 : PySem.W.codeIn K cd6 "is_choices" = true) (k6 : PySem.W.keepIn K (.ref f6) = true)
    (a7 : PySem.W.nsIn K mainGlobals "groups_after" = some (some (.ref f7)))
    (l7 : K.lookup f7 = some ⟨oc7, od7, .func (PySem.W.fnOf "groups_after" "groups_after" (defArgs sGa) (defBody sGa) (defScope sGa) .none kV7 dc7 pm7 an7 cd7 ct7), sl7⟩)
    (c7 : PySem.W.codeIn K cd7 "groups_after" = true) (k7 : PySem.W.keepIn K (.ref f7) = true)
    (a8 : PySem.W.nsIn K mainGlobals "is_gaps" = some (some (.ref f8)))
    (l8 : K.lookup f8 = some ⟨oc8, od8, .func (PySem.W.fnOf "is_gaps" "is_gaps" (defArgs sIsG) (defBody sIsG) (defScope sIsG) .none kV8 dc8 pm8 an8 cd8 ct8), sl8⟩)
    (c8 : PySem.W.codeIn K cd8 "is_gaps" = true) (k8 : PySem.W.keepIn K (.ref f8) = true)
    (a9 : PySem.W.nsIn K mainGlobals "groups_left_of" = some (some (.ref f9)))
    (l9 : K.lookup f9 = some ⟨oc9, od9, .func (PySem.W.fnOf "groups_left_of" "groups_left_of" (defArgs sGlo) (defBody sGlo) (defScope sGlo) .none kV9 dc9 pm9 an9 cd9 ct9), sl9⟩)
    (c9 : PySem.W.codeIn K cd9 "groups_left_of" = true) (k9 : PySem.W.keepIn K (.ref f9) = true)
    (a10 : PySem.W.nsIn K mainGlobals "number_of_choice" = some (some (.ref f10)))
    (l10 : K.lookup f10 = some ⟨oc10, od10, .func (PySem.W.fnOf "number_of_choice" "number_of_choice" (defArgs sNum) (defBody sNum) (defScope sNum) .none kV10 dc10 pm10 an10 cd10 ct10), sl10⟩)
    (c10 : PySem.W.codeIn K cd10 "number_of_choice" = true) (k10 : PySem.W.keepIn K (.ref f10) = true)
    (a11 : PySem.W.nsIn K mainGlobals "choices_of" = some (some (.ref f11)))
    (l11 : K.lookup f11 = some ⟨oc11, od11, .func (PySem.W.fnOf "choices_of" "choices_of" (defArgs sCof) (defBody sCof) (defScope sCof) .none kV11 dc11 pm11 an11 cd11 ct11), sl11⟩)
    (c11 : PySem.W.codeIn K cd11 "choices_of" = true) (k11 : PySem.W.keepIn K (.ref f11) = true)
    (a12 : PySem.W.nsIn K mainGlobals "gaps_of" = some (some (.ref f12)))
    (l12 : K.lookup f12 = some ⟨oc12, od12, .func (PySem.W.fnOf "gaps_of" "gaps_of" (defArgs sGaps) (defBody sGaps) (defScope sGaps) .none kV12 dc12 pm12 an12 cd12 ct12), sl12⟩)
    (c12 : PySem.W.codeIn K cd12 "gaps_of" = true) (k12 : PySem.W.keepIn K (.ref f12) = true)
    (a13 : PySem.W.nsIn K mainGlobals "times_in_groups" = some (some (.ref f13)))
    (l13 : K.lookup f13 = some ⟨oc13, od13, .func (PySem.W.fnOf "times_in_groups" "times_in_groups" (defArgs sTig) (defBody sTig) (defScope sTig) .none kV13 dc13 pm13 an13 cd13 ct13), sl13⟩)
    (c13 : PySem.W.codeIn K cd13 "times_in_groups" = true) (k13 : PySem.W.keepIn K (.ref f13) = true)
    (a14 : PySem.W.nsIn K mainGlobals "row_of" = some (some (.ref f14)))
    (l14 : K.lookup f14 = some ⟨oc14, od14, .func (PySem.W.fnOf "row_of" "row_of" (defArgs sRow) (defBody sRow) (defScope sRow) .none kV14 dc14 pm14 an14 cd14 ct14), sl14⟩)
    (c14 : PySem.W.codeIn K cd14 "row_of" = true) (k14 : PySem.W.keepIn K (.ref f14) = true)
    (a15 : PySem.W.nsIn K mainGlobals "_law_cell_at" = some (some (.ref f15)))
    (l15 : K.lookup f15 = some ⟨oc15, od15, .func (PySem.W.fnOf "_law_cell_at" "_law_cell_at" (defArgs sCell) (defBody sCell) (defScope sCell) .none kV15 dc15 pm15 an15 cd15 ct15), sl15⟩)
    (c15 : PySem.W.codeIn K cd15 "_law_cell_at" = true) (k15 : PySem.W.keepIn K (.ref f15) = true)
    (a16 : PySem.W.nsIn K mainGlobals "_law_box" = some (some (.ref f16)))
    (l16 : K.lookup f16 = some ⟨oc16, od16, .func (PySem.W.fnOf "_law_box" "_law_box" (defArgs sBox) (defBody sBox) (defScope sBox) .none kV16 dc16 pm16 an16 cd16 ct16), sl16⟩)
    (c16 : PySem.W.codeIn K cd16 "_law_box" = true) (k16 : PySem.W.keepIn K (.ref f16) = true)
    (a17 : PySem.W.nsIn K mainGlobals "_law_take" = some (some (.ref f17)))
    (l17 : K.lookup f17 = some ⟨oc17, od17, .func (PySem.W.fnOf "_law_take" "_law_take" (defArgs sTake) (defBody sTake) (defScope sTake) .none kV17 dc17 pm17 an17 cd17 ct17), sl17⟩)
    (c17 : PySem.W.codeIn K cd17 "_law_take" = true) (k17 : PySem.W.keepIn K (.ref f17) = true)
    (a18 : PySem.W.nsIn K mainGlobals "_law_of" = some (some (.ref f18)))
    (l18 : K.lookup f18 = some ⟨oc18, od18, .func (PySem.W.fnOf "_law_of" "_law_of" (defArgs sOf) (defBody sOf) (defScope sOf) .none kV18 dc18 pm18 an18 cd18 ct18), sl18⟩)
    (c18 : PySem.W.codeIn K cd18 "_law_of" = true) (k18 : PySem.W.keepIn K (.ref f18) = true)
    (a19 : PySem.W.nsIn K mainGlobals "_law_same" = some (some (.ref f19)))
    (l19 : K.lookup f19 = some ⟨oc19, od19, .func (PySem.W.fnOf "_law_same" "_law_same" (defArgs sSame) (defBody sSame) (defScope sSame) .none kV19 dc19 pm19 an19 cd19 ct19), sl19⟩)
    (c19 : PySem.W.codeIn K cd19 "_law_same" = true) (k19 : PySem.W.keepIn K (.ref f19) = true)
    (a20 : PySem.W.nsIn K mainGlobals "_law_lists" = some (some (.ref f20)))
    (l20 : K.lookup f20 = some ⟨oc20, od20, .func (PySem.W.fnOf "_law_lists" "_law_lists" (defArgs sLists) (defBody sLists) (defScope sLists) .none kV20 dc20 pm20 an20 cd20 ct20), sl20⟩)
    (c20 : PySem.W.codeIn K cd20 "_law_lists" = true) (k20 : PySem.W.keepIn K (.ref f20) = true)
    (a21 : PySem.W.nsIn K mainGlobals "_law_runs" = some (some (.ref f21)))
    (l21 : K.lookup f21 = some ⟨oc21, od21, .func (PySem.W.fnOf "_law_runs" "_law_runs" (defArgs sRuns) (defBody sRuns) (defScope sRuns) .none kV21 dc21 pm21 an21 cd21 ct21), sl21⟩)
    (c21 : PySem.W.codeIn K cd21 "_law_runs" = true) (k21 : PySem.W.keepIn K (.ref f21) = true)
    (a22 : PySem.W.nsIn K mainGlobals "_law_queue" = some (some (.ref f22)))
    (l22 : K.lookup f22 = some ⟨oc22, od22, .func (PySem.W.fnOf "_law_queue" "_law_queue" (defArgs sQueue) (defBody sQueue) (defScope sQueue) .none kV22 dc22 pm22 an22 cd22 ct22), sl22⟩)
    (c22 : PySem.W.codeIn K cd22 "_law_queue" = true) (k22 : PySem.W.keepIn K (.ref f22) = true)
    (a23 : PySem.W.nsIn K mainGlobals "_law_pick_of" = some (some (.ref f23)))
    (l23 : K.lookup f23 = some ⟨oc23, od23, .func (PySem.W.fnOf "_law_pick_of" "_law_pick_of" (defArgs sPick) (defBody sPick) (defScope sPick) .none kV23 dc23 pm23 an23 cd23 ct23), sl23⟩)
    (c23 : PySem.W.codeIn K cd23 "_law_pick_of" = true) (k23 : PySem.W.keepIn K (.ref f23) = true)
    (a24 : PySem.W.nsIn K mainGlobals "_law_picks" = some (some (.ref f24)))
    (l24 : K.lookup f24 = some ⟨oc24, od24, .func (PySem.W.fnOf "_law_picks" "_law_picks" (defArgs sPicks) (defBody sPicks) (defScope sPicks) .none kV24 dc24 pm24 an24 cd24 ct24), sl24⟩)
    (c24 : PySem.W.codeIn K cd24 "_law_picks" = true) (k24 : PySem.W.keepIn K (.ref f24) = true)
    (a25 : PySem.W.nsIn K mainGlobals "_law_holes" = some (some (.ref f25)))
    (l25 : K.lookup f25 = some ⟨oc25, od25, .func (PySem.W.fnOf "_law_holes" "_law_holes" (defArgs sHoles) (defBody sHoles) (defScope sHoles) .none kV25 dc25 pm25 an25 cd25 ct25), sl25⟩)
    (c25 : PySem.W.codeIn K cd25 "_law_holes" = true) (k25 : PySem.W.keepIn K (.ref f25) = true)
    (a26 : PySem.W.nsIn K mainGlobals "_law_right" = some (some (.ref f26)))
    (l26 : K.lookup f26 = some ⟨oc26, od26, .func (PySem.W.fnOf "_law_right" "_law_right" (defArgs sRight) (defBody sRight) (defScope sRight) .none kV26 dc26 pm26 an26 cd26 ct26), sl26⟩)
    (c26 : PySem.W.codeIn K cd26 "_law_right" = true) (k26 : PySem.W.keepIn K (.ref f26) = true)
    (a27 : PySem.W.nsIn K mainGlobals "law" = some (some (.ref f27)))
    (l27 : K.lookup f27 = some ⟨oc27, od27, .func (PySem.W.fnOf "law" "law" (defArgs sLaw) (defBody sLaw) (defScope sLaw) .none kV27 dc27 pm27 an27 cd27 ct27), sl27⟩)
    (c27 : PySem.W.codeIn K cd27 "law" = true) (k27 : PySem.W.keepIn K (.ref f27) = true)
    (z_len : PySem.W.nsIn K mainGlobals "len" = some none)
    (z_abs : PySem.W.nsIn K mainGlobals "abs" = some none)
    (z_int : PySem.W.nsIn K mainGlobals "int" = some none)
    (z_sorted : PySem.W.nsIn K mainGlobals "sorted" = some none)
    (z_tuple : PySem.W.nsIn K mainGlobals "tuple" = some none)
    (z_list : PySem.W.nsIn K mainGlobals "list" = some none)
    (z_range : PySem.W.nsIn K mainGlobals "range" = some none)
    (z_enumerate : PySem.W.nsIn K mainGlobals "enumerate" = some none)
    (z_zip : PySem.W.nsIn K mainGlobals "zip" = some none)
    (z_isinstance : PySem.W.nsIn K mainGlobals "isinstance" = some none)
    (z_bool : PySem.W.nsIn K mainGlobals "bool" = some none)
    (z_str : PySem.W.nsIn K mainGlobals "str" = some none)
    (z_max : PySem.W.nsIn K mainGlobals "max" = some none)
    (z_min : PySem.W.nsIn K mainGlobals "min" = some none)
    (z_sum : PySem.W.nsIn K mainGlobals "sum" = some none)
    (z_all : PySem.W.nsIn K mainGlobals "all" = some none)
    (aWo : PySem.W.nsIn K mainGlobals "WORDS" = some (some (.ref aW))) (lWo : K.lookup aW = some ⟨.type "tuple", ddW, .seq #[.str "new" tW1, .str "beside" tW2, .str "between" tW3] nW, slW⟩)
    (aSt : PySem.W.nsIn K mainGlobals "STEPS" = some (some (.ref aS))) (lSt : ∀ wd, KDct K w aS (wstr wd) (.int wd.step)) :
    ∃ fd : FuncData, (∀ (s : Shared) (v : Value), BindsTo s fd ⟨[v], []⟩ [("_law_script", v)]) ∧ ∀ base : Heap, K.In base → base.Ns mainGlobals mg → FnOk l.prog w K mg base CX0 6 fa fd ["_law_script"] (spLaw K) := by
  have e := hfa.symm.trans (PySem.W.mg_of X G a27)
  cases e
  have F0 := fun_mk (st := sIsN) l0 c0 k0
  have b0 := F0.binds (ps := ["thing"]) fun _ _ _ _ _ _ us hl => match us, hl with | [_], _ => rfl
  have F1 := fun_mk (st := sIsB) l1 c1 k1
  have b1 := F1.binds (ps := ["thing", "limit"]) fun _ _ _ _ _ _ us hl => match us, hl with | [_, _], _ => rfl
  have F2 := fun_mk (st := sNb) l2 c2 k2
  have b2 := F2.binds (ps := ["row"]) fun _ _ _ _ _ _ us hl => match us, hl with | [_], _ => rfl
  have F3 := fun_mk (st := sHouses) l3 c3 k3
  have b3 := F3.binds (ps := ["row"]) fun _ _ _ _ _ _ us hl => match us, hl with | [_], _ => rfl
  have F4 := fun_mk (st := sMany) l4 c4 k4
  have b4 := F4.binds (ps := ["word", "many"]) fun _ _ _ _ _ _ us hl => match us, hl with | [_, _], _ => rfl
  have F5 := fun_mk (st := sIsC) l5 c5 k5
  have b5 := F5.binds (ps := ["many", "thing"]) fun _ _ _ _ _ _ us hl => match us, hl with | [_, _], _ => rfl
  have F6 := fun_mk (st := sIsCs) l6 c6 k6
  have b6 := F6.binds (ps := ["thing"]) fun _ _ _ _ _ _ us hl => match us, hl with | [_], _ => rfl
  have F7 := fun_mk (st := sGa) l7 c7 k7
  have b7 := F7.binds (ps := ["words"]) fun _ _ _ _ _ _ us hl => match us, hl with | [_], _ => rfl
  have F8 := fun_mk (st := sIsG) l8 c8 k8
  have b8 := F8.binds (ps := ["choices", "thing"]) fun _ _ _ _ _ _ us hl => match us, hl with | [_, _], _ => rfl
  have F9 := fun_mk (st := sGlo) l9 c9 k9
  have b9 := F9.binds (ps := ["built", "plot"]) fun _ _ _ _ _ _ us hl => match us, hl with | [_, _], _ => rfl
  have F10 := fun_mk (st := sNum) l10 c10 k10
  have b10 := F10.binds (ps := ["built", "plot", "word"]) fun _ _ _ _ _ _ us hl => match us, hl with | [_, _, _], _ => rfl
  have F11 := fun_mk (st := sCof) l11 c11 k11
  have b11 := F11.binds (ps := ["row"]) fun _ _ _ _ _ _ us hl => match us, hl with | [_], _ => rfl
  have F12 := fun_mk (st := sGaps) l12 c12 k12
  have b12 := F12.binds (ps := ["plots", "row"]) fun _ _ _ _ _ _ us hl => match us, hl with | [_, _], _ => rfl
  have F13 := fun_mk (st := sTig) l13 c13 k13
  have b13 := F13.binds (ps := ["choices"]) fun _ _ _ _ _ _ us hl => match us, hl with | [_], _ => rfl
  have F14 := fun_mk (st := sRow) l14 c14 k14
  have b14 := F14.binds (ps := ["choices", "gaps"]) fun _ _ _ _ _ _ us hl => match us, hl with | [_, _], _ => rfl
  have F15 := fun_mk (st := sCell) l15 c15 k15
  have b15 := F15.binds (ps := ["_law_script", "_law_k"]) fun _ _ _ _ _ _ us hl => match us, hl with | [_, _], _ => rfl
  have F16 := fun_mk (st := sBox) l16 c16 k16
  have b16 := F16.binds (ps := ["_law_script", "_law_k"]) fun _ _ _ _ _ _ us hl => match us, hl with | [_, _], _ => rfl
  have F17 := fun_mk (st := sTake) l17 c17 k17
  have b17 := F17.binds (ps := ["_law_box_here", "_law_below"]) fun _ _ _ _ _ _ us hl => match us, hl with | [_, _], _ => rfl
  have F18 := fun_mk (st := sOf) l18 c18 k18
  have b18 := F18.binds (ps := ["_law_box_here", "_law_some"]) fun _ _ _ _ _ _ us hl => match us, hl with | [_, _], _ => rfl
  have F19 := fun_mk (st := sSame) l19 c19 k19
  have b19 := F19.binds (ps := ["_law_found", "_law_due"]) fun _ _ _ _ _ _ us hl => match us, hl with | [_, _], _ => rfl
  have F20 := fun_mk (st := sLists) l20 c20 k20
  have b20 := F20.binds (ps := ["_law_part"]) fun _ _ _ _ _ _ us hl => match us, hl with | [_], _ => rfl
  have F21 := fun_mk (st := sRuns) l21 c21 k21
  have b21 := F21.binds (ps := ["_law_there"]) fun _ _ _ _ _ _ us hl => match us, hl with | [_], _ => rfl
  have F22 := fun_mk (st := sQueue) l22 c22 k22
  have b22 := F22.binds (ps := ["_law_box_here", "_law_count", "_law_size"]) fun _ _ _ _ _ _ us hl => match us, hl with | [_, _, _], _ => rfl
  have F23 := fun_mk (st := sPick) l23 c23 k23
  have b23 := F23.binds (ps := ["_law_plot", "_law_there"]) fun _ _ _ _ _ _ us hl => match us, hl with | [_, _], _ => rfl
  have F24 := fun_mk (st := sPicks) l24 c24 k24
  have b24 := F24.binds (ps := ["_law_queue_here"]) fun _ _ _ _ _ _ us hl => match us, hl with | [_], _ => rfl
  have F25 := fun_mk (st := sHoles) l25 c25 k25
  have b25 := F25.binds (ps := ["_law_count", "_law_queue_here"]) fun _ _ _ _ _ _ us hl => match us, hl with | [_, _], _ => rfl
  have F26 := fun_mk (st := sRight) l26 c26 k26
  have b26 := F26.binds (ps := ["_law_box_here"]) fun _ _ _ _ _ _ us hl => match us, hl with | [_], _ => rfl
  have F27 := fun_mk (st := sLaw) l27 c27 k27
  have T : Top w K mg ⟨f0, f1, f2, f3, f4, f5, f6, f7, f8, f9, f10, f11, f12, f13, f14, f15, f16, f17, f18, f19, f20, f21, f22, f23, f24, f25, f26, aW, aS⟩ ⟨_, _, _, _, _, _, _, _, _, _, _, _, _, _, _, _, _, _, _, _, _, _, _, _, _, _, _⟩ := ⟨F0, b0, PySem.W.mg_of X G a0, F1, b1, PySem.W.mg_of X G a1, F2, b2, PySem.W.mg_of X G a2, F3, b3, PySem.W.mg_of X G a3, F4, b4, PySem.W.mg_of X G a4, F5, b5, PySem.W.mg_of X G a5, F6, b6, PySem.W.mg_of X G a6, F7, b7, PySem.W.mg_of X G a7, F8, b8, PySem.W.mg_of X G a8, F9, b9, PySem.W.mg_of X G a9, F10, b10, PySem.W.mg_of X G a10, F11, b11, PySem.W.mg_of X G a11, F12, b12, PySem.W.mg_of X G a12, F13, b13, PySem.W.mg_of X G a13, F14, b14, PySem.W.mg_of X G a14, F15, b15, PySem.W.mg_of X G a15, F16, b16, PySem.W.mg_of X G a16, F17, b17, PySem.W.mg_of X G a17, F18, b18, PySem.W.mg_of X G a18, F19, b19, PySem.W.mg_of X G a19, F20, b20, PySem.W.mg_of X G a20, F21, b21, PySem.W.mg_of X G a21, F22, b22, PySem.W.mg_of X G a22, F23, b23, PySem.W.mg_of X G a23, F24, b24, PySem.W.mg_of X G a24, F25, b25, PySem.W.mg_of X G a25, F26, b26, PySem.W.mg_of X G a26, PySem.W.mg_of X G aWo, fun H => .inr ⟨_, _, _, lWo, rfl, rfl, by show 3 ≤ sizeLine; decide, .cons ⟨_, rfl⟩ (.cons ⟨_, rfl⟩ (.cons ⟨_, rfl⟩ .nil))⟩, PySem.W.mg_of X G aSt, lSt, PySem.W.mg_none_of X G z_len, PySem.W.mg_none_of X G z_abs, PySem.W.mg_none_of X G z_int, PySem.W.mg_none_of X G z_sorted, PySem.W.mg_none_of X G z_tuple, PySem.W.mg_none_of X G z_list, PySem.W.mg_none_of X G z_range, PySem.W.mg_none_of X G z_enumerate, PySem.W.mg_none_of X G z_zip, PySem.W.mg_none_of X G z_isinstance, PySem.W.mg_none_of X G z_bool, PySem.W.mg_none_of X G z_str, PySem.W.mg_none_of X G z_max, PySem.W.mg_none_of X G z_min, PySem.W.mg_none_of X G z_sum, PySem.W.mg_none_of X G z_all⟩
  exact ⟨_, fun s v => .of_eq rfl, fun base _ _ => ok_law F27 T⟩
end Og

open PySem PySem.W PyProof.Rows
set_option maxHeartbeats 0 in
theorem PySem.Challenge.cw_onlygroups_k02_choices_and_gaps_of_rows_holds : PySem.Challenge.rw_onlygroups_k02_choices_and_gaps_of_rows.Holds := by
  w_on; o_law; k_head; (case hw => w_witness2)
  k_fill
  refine L2.walk_of (l := PySem.Challenge.rw_onlygroups_k02_choices_and_gaps_of_rows) (n := 63) (k := 6) (x := "_law_script") (CX := fun _ => L2.CX0) (sp := fun w => Og.spLaw _) rfl (by decide) rfl ⟨rfl, by decide, by decide⟩ (fun w h Y => PySem.W.kIn_of Y) ?F (fun _ _ a ns hl _ hS => ⟨a, ns, rfl, hS, hl, fun _ => rfl⟩) (fun _ _ _ _ _ h => h)
  case F =>
    intro w mg fa h KX G hmg
    refine' Og.all_mk KX G hmg ?a0 ?l0 ?c0 ?k0 ?a1 ?l1 ?c1 ?k1 ?a2 ?l2 ?c2 ?k2 ?a3 ?l3 ?c3 ?k3 ?a4 ?l4 ?c4 ?k4 ?a5 ?l5 ?c5 ?k5 ?a6 ?l6 ?c6 ?k6 ?a7 ?l7 ?c7 ?k7 ?a8 ?l8 ?c8 ?k8 ?a9 ?l9 ?c9 ?k9 ?a10 ?l10 ?c10 ?k10 ?a11 ?l11 ?c11 ?k11 ?a12 ?l12 ?c12 ?k12 ?a13 ?l13 ?c13 ?k13 ?a14 ?l14 ?c14 ?k14 ?a15 ?l15 ?c15 ?k15 ?a16 ?l16 ?c16 ?k16 ?a17 ?l17 ?c17 ?k17 ?a18 ?l18 ?c18 ?k18 ?a19 ?l19 ?c19 ?k19 ?a20 ?l20 ?c20 ?k20 ?a21 ?l21 ?c21 ?k21 ?a22 ?l22 ?c22 ?k22 ?a23 ?l23 ?c23 ?k23 ?a24 ?l24 ?c24 ?k24 ?a25 ?l25 ?c25 ?k25 ?a26 ?l26 ?c26 ?k26 ?a27 ?l27 ?c27 ?k27 ?z_len ?z_abs ?z_int ?z_sorted ?z_tuple ?z_list ?z_range ?z_enumerate ?z_zip ?z_isinstance ?z_bool ?z_str ?z_max ?z_min ?z_sum ?z_all ?aWo ?lWo ?aSt ?lSt
    (case a0 => k_is)
    (case l0 => k_is)
    (case c0 => k_is)
    (case k0 => k_is)
    (case a1 => k_is)
    (case l1 => k_is)
    (case c1 => k_is)
    (case k1 => k_is)
    (case a2 => k_is)
    (case l2 => k_is)
    (case c2 => k_is)
    (case k2 => k_is)
    (case a3 => k_is)
    (case l3 => k_is)
    (case c3 => k_is)
    (case k3 => k_is)
    (case a4 => k_is)
    (case l4 => k_is)
    (case c4 => k_is)
    (case k4 => k_is)
    (case a5 => k_is)
    (case l5 => k_is)
    (case c5 => k_is)
    (case k5 => k_is)
    (case a6 => k_is)
    (case l6 => k_is)
    (case c6 => k_is)
    (case k6 => k_is)
    (case a7 => k_is)
    (case l7 => k_is)
    (case c7 => k_is)
    (case k7 => k_is)
    (case a8 => k_is)
    (case l8 => k_is)
    (case c8 => k_is)
    (case k8 => k_is)
    (case a9 => k_is)
    (case l9 => k_is)
    (case c9 => k_is)
    (case k9 => k_is)
    (case a10 => k_is)
    (case l10 => k_is)
    (case c10 => k_is)
    (case k10 => k_is)
    (case a11 => k_is)
    (case l11 => k_is)
    (case c11 => k_is)
    (case k11 => k_is)
    (case a12 => k_is)
    (case l12 => k_is)
    (case c12 => k_is)
    (case k12 => k_is)
    (case a13 => k_is)
    (case l13 => k_is)
    (case c13 => k_is)
    (case k13 => k_is)
    (case a14 => k_is)
    (case l14 => k_is)
    (case c14 => k_is)
    (case k14 => k_is)
    (case a15 => k_is)
    (case l15 => k_is)
    (case c15 => k_is)
    (case k15 => k_is)
    (case a16 => k_is)
    (case l16 => k_is)
    (case c16 => k_is)
    (case k16 => k_is)
    (case a17 => k_is)
    (case l17 => k_is)
    (case c17 => k_is)
    (case k17 => k_is)
    (case a18 => k_is)
    (case l18 => k_is)
    (case c18 => k_is)
    (case k18 => k_is)
    (case a19 => k_is)
    (case l19 => k_is)
    (case c19 => k_is)
    (case k19 => k_is)
    (case a20 => k_is)
    (case l20 => k_is)
    (case c20 => k_is)
    (case k20 => k_is)
    (case a21 => k_is)
    (case l21 => k_is)
    (case c21 => k_is)
    (case k21 => k_is)
    (case a22 => k_is)
    (case l22 => k_is)
    (case c22 => k_is)
    (case k22 => k_is)
    (case a23 => k_is)
    (case l23 => k_is)
    (case c23 => k_is)
    (case k23 => k_is)
    (case a24 => k_is)
    (case l24 => k_is)
    (case c24 => k_is)
    (case k24 => k_is)
    (case a25 => k_is)
    (case l25 => k_is)
    (case c25 => k_is)
    (case k25 => k_is)
    (case a26 => k_is)
    (case l26 => k_is)
    (case c26 => k_is)
    (case k26 => k_is)
    (case a27 => k_is)
    (case l27 => k_is)
    (case c27 => k_is)
    (case k27 => k_is)
    (case z_len => k_is)
    (case z_abs => k_is)
    (case z_int => k_is)
    (case z_sorted => k_is)
    (case z_tuple => k_is)
    (case z_list => k_is)
    (case z_range => k_is)
    (case z_enumerate => k_is)
    (case z_zip => k_is)
    (case z_isinstance => k_is)
    (case z_bool => k_is)
    (case z_str => k_is)
    (case z_max => k_is)
    (case z_min => k_is)
    (case z_sum => k_is)
    (case z_all => k_is)
    (case aWo => k_is)
    (case lWo => k_is)
    (case aSt => k_is)
    (case lSt =>
      intro wd
      cases wd
      · refine' ⟨?es900, ?nn900, ?uu900, ?l900, ?k900, ?n900, ?r900⟩
        (case l900 => exact rfl)
        (case k900 => exact ⟨⟨_, _, rfl, rfl⟩, ⟨_, _, rfl, rfl⟩, ⟨_, _, rfl, rfl⟩, trivial⟩)
        (case n900 => exact rfl)
        (case r900 => exact ⟨_, rfl⟩)
      · refine' ⟨?es901, ?nn901, ?uu901, ?l901, ?k901, ?n901, ?r901⟩
        (case l901 => exact rfl)
        (case k901 => exact ⟨⟨_, _, rfl, rfl⟩, ⟨_, _, rfl, rfl⟩, ⟨_, _, rfl, rfl⟩, trivial⟩)
        (case n901 => exact rfl)
        (case r901 => exact ⟨_, rfl⟩)
      · refine' ⟨?es902, ?nn902, ?uu902, ?l902, ?k902, ?n902, ?r902⟩
        (case l902 => exact rfl)
        (case k902 => exact ⟨⟨_, _, rfl, rfl⟩, ⟨_, _, rfl, rfl⟩, ⟨_, _, rfl, rfl⟩, trivial⟩)
        (case n902 => exact rfl)
        (case r902 => exact ⟨_, rfl⟩))

