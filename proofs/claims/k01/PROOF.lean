import PyProof.Rows.All
import Wide.All
import OpenK.AllK
import Wide.FinOn
import HandS.ForMost
import HandS.Evl
import HandS.IsInst
import HandS.Style
import HandS.Zip
import HandS.SortInts
import HandS.Conv
import HandS.More
import KE.GoesEnum
import HandS.Walk
import HandS.NoneIn
import HandS.DeepEq
import HandS.WrittenGet
import HandS.Star
import HandS.TupLe
import HandS.TupAny
import HandS.SetFor
import HandS.Deep
import HandS.RaiseMore
import PyProof.ReprReads
import HandS.Ends
import HandS.Codes
import HandS.Words
import PySem.Challenge.RW_onlygroups_k01_rows_groups_and_houses
set_option Elab.async false
set_option linter.all false
set_option maxRecDepth 100000
set_option maxHeartbeats 4000000
namespace OgR
open PySem PySem.Spec PyProof.Rows L2
/-! sorted(t), t a tuple of ints -/
section
variable {prog : Program} {w : World} {A : Around} {E : Value → Shared → Prop} {s : Shared}
/-- the items of a tuple, collected in a new list at the heap's end -/
theorem gather_tup {Q : List Value → Shared → Prop} {t : Addr} {o : Obj} {xs : Array Value} {m : Nat} (got : s.heap.get? t = some o) (cl : o.cls = .type "tuple")
    (dt : o.data = .seq xs m) (fits : xs.size ≤ sizeLine)
    (fin : Q xs.toList { s with heap := (s.heap.push (seqObj "list" #[] 0)).update s.heap.objs.size (Obj.mapSeq (· ++ xs)) }) :
    wpAny (model prog w) A (collect (.ref t)) Q E s := by
  have new1 : (s.heap.push (seqObj "list" #[] 0)).get? s.heap.objs.size = some (seqObj "list" #[] 0) := Heap.get?_push_size _ rfl
  have new2 := Heap.get?_update_self (Obj.mapSeq (· ++ xs)) new1 rfl
  unfold collect
  refine wpAny_bind (wpAny_runValue (codeAny_builtin F.entry_proto_collect ?_))
  rw [Around.under_plainId F.plain_proto_collect _]
  refine wpAny_bind (wpAny_newObj_type (wpAny_pure ⟨plainId_quiet F.plain_list_iadd _, codeAny_builtin F.entry_list_iadd ?_⟩))
  rw [Around.under_plainId F.plain_list_iadd _]
  refine wpAny_mono (wpAny_extend_seq (hsz := fits) (A := A) (R := fun r s' => r = .ok (.ret (.ref s.heap.objs.size)) ∧
      s' = { s with heap := (s.heap.push (seqObj "list" #[] 0)).update s.heap.objs.size (Obj.mapSeq (· ++ xs)) })
    (s := { s with heap := s.heap.push (seqObj "list" #[] 0) }) _ t _ 0 (.inr rfl) new1 (Heap.get?_push_of_some _ got) cl dt ⟨rfl, rfl⟩) (fun f s' g => ?_) (fun e s' g => absurd g.1 (by simp))
  have last : wpAny (model prog w) A (do
      match (← load s.heap.objs.size).data with
        | Data.seq ys _ => pure ys.toList
        | _ => unsupported "internal:collect") Q E { s with heap := (s.heap.push (seqObj "list" #[] 0)).update s.heap.objs.size (Obj.mapSeq (· ++ xs)) } := by
    refine wpAny_bind (wpAny_load new2 (wpAny_pure ?_))
    have e0 : ((#[] : Array Value) ++ xs).toList = xs.toList := by simp
    show Q ((#[] : Array Value) ++ xs).toList _
    rw [e0]
    exact fin
  cases f with
  | done r =>
    obtain ⟨e1, rfl⟩ := g
    cases e1
    exact last
  | again c => exact ⟨g.1, codeAny_mono g.2 fun r s2 gr => by
      obtain ⟨rfl, rfl⟩ := gr
      exact last⟩
theorem sorted_of_tup {t : Addr} {us : List Value} {ms : List Int} {Q : Value → Shared → Prop} (ht : IsTup s.heap t us.toArray) (hz : us.length ≤ sizeLine) (hI : IntsAre us ms)
    (fin : ∀ (out : List Value) (h' : Heap) (p : Addr) (e : Nat), (∀ b o, s.heap.get? b = some o → h'.get? b = some o) → s.heap.objs.size ≤ p → IntsAre out (out.map SrtO.iv) → (out.map SrtO.iv).Perm ms → (out.map SrtO.iv).Pairwise (· ≤ ·) →
      h'.get? p = some (seqObj "list" out.toArray e) → Q (.ref p) { s with heap := h' }) :
    wpAny (model prog w) A (call (.builtin "sorted") [.ref t]) Q E s := by
  obtain ⟨o, ho, hc, n, hd⟩ := ht
  refine Calls.call_function_entry kind_sorted plain_sorted entry_sorted (args_sorted1 _) ?_
  unfold Builtin.«sorted»
  refine wpAny_bind (m := checkCount "sorted" 1 1 _) (wpAny_pure ?_)
  refine wpAny_bind (gather_tup ho hc hd (by simpa using hz) ?_)
  rw [List.toList_toArray]
  have hsz : ((s.heap.push (seqObj "list" #[] 0)).update s.heap.objs.size (Obj.mapSeq (· ++ us.toArray))).objs.size = s.heap.objs.size + 1 := by
    rw [Heap.size_update, size_push']
  have keep1 : ∀ b u, s.heap.get? b = some u → ((s.heap.push (seqObj "list" #[] 0)).update s.heap.objs.size (Obj.mapSeq (· ++ us.toArray))).get? b = some u := fun b u q =>
    (Heap.get?_update_other _ _ (Nat.ne_of_gt (Heap.lt_size q))).trans (Heap.get?_push_of_some _ q)
  generalize ((s.heap.push (seqObj "list" #[] 0)).update s.heap.objs.size (Obj.mapSeq (· ++ us.toArray))) = h1 at hsz keep1
  refine wpAny_bind (wpAny_newList ?_ hz)
  have old2 : ∀ b u, s.heap.get? b = some u → b < h1.objs.size := fun b u q => Heap.lt_size (keep1 b u q)
  have hnew : (h1.push (seqObj "list" us.toArray 0)).get? h1.objs.size = some (seqObj "list" us.toArray 0) := Heap.get?_push_size _ rfl
  have hle : s.heap.objs.size ≤ h1.objs.size := by omega
  show wpAny _ _ _ _ _ { s with heap := h1.push (seqObj "list" us.toArray 0) }
  refine wpAny_bind (wpAny_holding (wpAny_call_entry slot_list_sort ⟨_, hnew, rfl⟩ entry_list_sort (SrtO.list_sort_ord SrtO.swo_int hnew hz (fun h2 => SrtO.ints_sortable hI h2) fun out a1 a2 => ⟨_, rfl, ?_⟩) (args_list_sort _)))
  obtain ⟨b1, b2, b3⟩ := SrtO.ints_out hI a1 a2
  obtain ⟨e, he⟩ := sortedHeap_at (out := out.toArray) hnew
  refine wpAny_pure ⟨_, rfl, fin out _ h1.objs.size e (fun b u q => ?_) hle b1 b2 b3 he⟩
  have hb := old2 b u q
  rw [sortedHeap_old (Nat.ne_of_lt hb) (by rw [size_push']; exact Nat.lt_succ_of_lt hb)]
  exact Heap.get?_push_of_some _ (keep1 b u q)
end
def rSrtT (K : PySem.W.Frag) : List V → Hp → VK → Prop := fun vs H Q => ∃ (a : Addr) (ms : List Int), vs = [V.ref a] ∧ SqT K H a (ms.map V.int) ∧
  ∀ (ks : List Int) (p : Addr), ks.Perm ms → ks.Pairwise (· ≤ ·) → H p = none → Q (.ref p) (upd H p (.lst (ks.map V.int)))
theorem cr_srtT {X : Cx} : CallR X (.builtin "sorted") (rSrtT X.K) := by
  intro pins s σ H vs us Q I r h
  obtain ⟨a, ms, rfl, hs, q⟩ := h
  obtain ⟨its, rv, ht, hz⟩ := I.tuple hs
  rw [Vals.ref1 r]
  refine sorted_of_tup ht (by rw [← rv.length]; exact hz) rv.ints fun out h' p e keep hp k1 k2 k3 he => ?_
  have hlen : ((out.map SrtO.iv).map V.int).length ≤ sizeLine := by
    have q1 := k2.length_eq
    rw [List.length_map] at hz
    rw [List.length_map]
    omega
  exact ⟨.ref p, upd H p (.lst ((out.map SrtO.iv).map V.int)), I.laid (t' := s.toks) keep hp ⟨hlen, out, e, vals_of_ints k1, he⟩, rfl, q _ _ k2 k3 (I.hok.fresh hp)⟩

/-! ### a sequence, a list or a tuple -/
def SqB (K : PySem.W.Frag) : Bool → Hp → Addr → List V → Prop
  | true, H, a, xs => SqT K H a xs
  | false, H, a, xs => SqL K H a xs
def SeqIs : Bool → Heap → Addr → Array Value → Prop
  | true, h, a, xs => h.IsTuple a xs
  | false, h, a, xs => h.IsList a xs
def ItIs : Bool → Heap → Addr → Addr → Nat → Prop
  | true, h, i, a, n => h.IsTupleIter i a n
  | false, h, i, a, n => h.IsListIter i a n
def itObj (b : Bool) (a : Addr) : Obj := { cls := .type (if b then "tuple_iterator" else "list_iterator"), data := .fields #[.ref a, .int 0 0] }
theorem seqB {X : Cx} {pins : List (Addr × Obj)} {σ : L2.St} {H : Hp} {s : Shared} {a : Addr} {xs : List V} {b : Bool} (I : Inv X pins σ H s) (h : SqB X.K b H a xs) :
    ∃ its : List Value, Vals xs its ∧ SeqIs b s.heap a its.toArray ∧ a < s.heap.objs.size := by
  cases b with
  | true =>
    obtain ⟨its, r, p, _⟩ := I.tuple h
    exact ⟨its, r, p, p.lt⟩
  | false =>
    obtain ⟨its, r, p, _⟩ := I.list h
    exact ⟨its, r, p.isList, p.lt⟩
theorem seqB_inj {X : Cx} {pins : List (Addr × Obj)} {σ : L2.St} {H : Hp} {s : Shared} {a : Addr} {xs ys : List V} {b : Bool} (I : Inv X pins σ H s) (h : SqB X.K b H a xs) (h' : SqB X.K b H a ys) : xs = ys := by
  cases b with
  | true => exact I.tuple_inj h h'
  | false => exact I.list_inj h h'
theorem drawsB {prog : Program} {w : World} {A : Around} (hh : A.handled = none) (b : Bool) (it a : Addr) (hne : a ≠ it) (items : Array Value) :
    Draws prog w A it [it, a] items.size (fun i v => items[i]? = some v) (fun i h => ItIs b h it a i ∧ SeqIs b h a items) := by
  cases b with
  | true => exact Draws.tuple hh it a hne items
  | false => exact Draws.list hh it a hne items
theorem beginsB (b : Bool) (a : Addr) (items : Array Value) : Begins (.ref a) (itObj b a) fun h => SeqIs b h a items := by
  cases b with
  | true => exact begins_tuple a items
  | false => exact begins_list a items
theorem itIs0 {b : Bool} {h : Heap} {i a : Addr} (e : h.get? i = some (itObj b a)) : ItIs b h i a 0 := by
  cases b with
  | true => exact ⟨_, e, rfl, rfl⟩
  | false => exact ⟨_, e, rfl, rfl⟩
theorem ItIs.obj {b : Bool} {h : Heap} {i a : Addr} {n : Nat} (x : ItIs b h i a n) : ∃ o, h.get? i = some o ∧ ∀ v, o.data ≠ .cell v := by
  cases b with
  | true =>
    obtain ⟨o, e, _, d⟩ := x
    exact ⟨o, e, fun v q => by rw [d] at q; cases q⟩
  | false =>
    obtain ⟨o, e, _, d⟩ := x
    exact ⟨o, e, fun v q => by rw [d] at q; cases q⟩
theorem ItIs.keep {b : Bool} {h h' : Heap} {i a : Addr} {n : Nat} (x : ItIs b h i a n) (k : ∀ o, h.get? i = some o → h'.get? i = some o) : ItIs b h' i a n := by
  cases b with
  | true => exact Heap.IsTupleIter.at x k
  | false => exact Heap.IsListIter.at x k

/-! ### enumerate of a list or a tuple -/
set_option maxHeartbeats 1000000 in
theorem enum_new1 {v : Value} {o : Obj} {H : Heap → Prop} (B : Begins v o H) : Meets (Builtin.«enumerate.__new__» ⟨[.type "enumerate", v], []⟩) (fun _ R s => H s.heap ∧
    R (.ok (.ret (.ref (s.heap.push o).objs.size)))
      { s with heap := (s.heap.push o).push { cls := .type "enumerate", data := .fields #[.none, .bool false, .ref s.heap.objs.size, rawInt 0, .none, .none] } }) := by
  refine .of_wp fun prog w A R s h => ?_
  obtain ⟨hp, gn, dr, tk, os⟩ := s
  obtain ⟨hH, fin⟩ := h
  have hsub := sub_enumerate
  have it1 : ∀ {A' : Around} {E : Value → Shared → Prop} {Q : Value → Shared → Prop}, Q (.ref hp.objs.size) ⟨hp.push o, gn, dr, tk, os⟩ → wpAny (model prog w) A' (pyIter v) Q E ⟨hp, gn, dr, tk, os⟩ := fun q =>
    B.iter prog w _ _ ⟨hp, gn, dr, tk, os⟩ _ hH q
  wp_walk using it1
  refine wpAny_stack_any fun st => wpAny_pure ?_
  split
  · rename_i cc _ _ _ _ _
    cases (cc == Value.type "enumerate") <;> (wp_walk using it1; exact ⟨_, rfl, fin⟩)
  · wp_walk using it1
    exact ⟨_, rfl, fin⟩
theorem enum_begins1 {prog : Program} {w : World} {A : Around} {E : Value → Shared → Prop} {s : Shared} {v : Value} {o : Obj} {H : Heap → Prop} {Q : Value → Shared → Prop} (B : Begins v o H) (h1 : H s.heap)
    (fin : ∀ h', IsEnum h' (s.heap.objs.size + 1) s.heap.objs.size 0 .none → h'.get? s.heap.objs.size = some o → h'.objs.size = s.heap.objs.size + 2 → (∀ b u, s.heap.get? b = some u → h'.get? b = some u) →
      Q (.ref (s.heap.objs.size + 1)) { s with heap := h' }) : wpAny (model prog w) A (call (.type "enumerate") [v]) Q E s := by
  refine callType_new F.called_enumerate (by decide) (F.typeCall_enumerate_1 _) (F.newCall_enumerate_1 _) (fun obj => F.args_object_init_2 obj _) F.entry_enumerate_new (enum_new1 B) ⟨h1, ?_⟩
  have sz : (s.heap.push o).objs.size = s.heap.objs.size + 1 := Heap.size_push ..
  have it := Heap.get?_push_size (s.heap.push o) (o := { cls := .type "enumerate", data := .fields #[.none, .bool false, .ref s.heap.objs.size, rawInt 0, .none, .none] }) rfl
  rw [sz] at it
  show _ ∧ _
  rw [sz]
  exact ⟨⟨_, it, rfl⟩, fin _ it (Heap.get?_push_of_some _ (Heap.get?_push_size _ B.free)) (by rw [Heap.size_push, sz]) fun b u x => Heap.get?_push_of_some _ (Heap.get?_push_of_some _ x)⟩
/-- the turns of enumerate over the sequence at a -/
def IteB (K : PySem.W.Frag) (b : Bool) (a : Addr) : It where
  go := fun i H => ∃ (xs : List V) (x : V), SqB K b H a xs ∧ xs[i]? = some x
  yld := fun i H v H' => ∃ T x, v = .ref T ∧ H T = none ∧ H' = upd H T (.tup [.int (i : Nat), x]) ∧ ∀ xs, SqB K b H a xs → xs[i]? = some x
  stop := fun i H => ∃ xs : List V, SqB K b H a xs ∧ xs.length = i
theorem turn_enumB {P : Program} {w : World} {K : PySem.W.Frag} {elts : List Expr} {kk : Nat} {tpos : Pos} {b : Bool} (a e it : Addr) :
    Turn P w K (.Tuple elts kk tpos) (IteB K b a) [e, it] e (fun i h => (∃ old, IsEnum h e it ((i : Nat) : Int) old) ∧ ItIs b h it a i ∧ e ≠ it ∧ a ≠ it ∧ e ≠ a) where
  mem := List.mem_cons_self ..
  obj := fun i h st c hc => by
    obtain ⟨⟨old, he⟩, hi, _⟩ := st
    rcases List.mem_cons.mp hc with rfl | hc
    · exact ⟨_, he, fun v q => nomatch q⟩
    · rw [List.mem_singleton.mp hc]
      exact hi.obj
  keep := fun i h h' st k => by
    obtain ⟨⟨old, he⟩, hi, r⟩ := st
    exact ⟨⟨old, k e (by simp) _ he⟩, hi.keep (k it (by simp)), r⟩
  item := by
    intro X hP hw hK hc i pins s σ H E I hf st hg
    subst hP hw hK
    obtain ⟨⟨old, he⟩, hit, hne, hai, hea⟩ := st
    obtain ⟨xs, x, hq, hx⟩ := hg
    obtain ⟨its, rv, hsq, _⟩ := seqB I hq
    obtain ⟨u, hu, ru⟩ := rv.get hx
    have lte : e < s.heap.objs.size := Heap.lt_size he
    have lti : it < s.heap.objs.size := by
      obtain ⟨o, q, _⟩ := hit.obj
      exact Heap.lt_size q
    have hlt : i < its.toArray.size := by
      have q := (List.getElem?_eq_some_iff.mp hu).1
      simpa using q
    refine wpAny_pyNext_enum_itemC (drawsB (by exact I.ok.hd hc) b it a hai its.toArray) he ⟨hit, hsq⟩ hlt hne (by simp [hne, hea]) fun y h' tk hy ho hst' hT hsz hk => ?_
    have hyu : y = u := by
      have q : its[i]? = some y := by simpa using hy
      rw [hu] at q
      exact (Option.some.inj q).symm
    subst hyu
    refine ⟨_, rfl, wpAny_letOwnedTupleGo_enum (s := { s with heap := h', toks := tk + 1 }) ho fun h2 he2 sb => ?_⟩
    have atT : h2.get? s.heap.objs.size = some { cls := .type "tuple", data := .seq #[.int i tk, y] } := (sb.2 _ (Nat.ne_of_gt lte)).trans hT
    have I1 : Inv X pins σ (upd H s.heap.objs.size (.tup [.int (i : Nat), x])) { s with heap := h2, toks := tk + 1 } := by
      refine I.turnedNew (ch := [e, it]) (fun c oc hcn q => ?_) hf (Nat.le_refl _) ⟨by show 2 ≤ sizeLine; decide, [.int i tk, y], .cons ⟨_, rfl⟩ (.cons ru .nil), ⟨_, atT, rfl, _, rfl⟩⟩
      exact (sb.2 c (fun z => hcn (by simp [z]))).trans (hk c oc (fun z => hcn (by simp [z])) (fun z => hcn (by simp [z])) q)
    refine ⟨.ref s.heap.objs.size, _, I1, rfl, ⟨_, x, rfl, I.hok.fresh (Nat.le_refl _), rfl, fun ys hy' => by rw [seqB_inj I hy' hq]; exact hx⟩, ⟨⟨y, ?_⟩, hst'.1.keep fun o q => (sb.2 it (Ne.symm hne)).trans q, hne, hai, hea⟩, fun c hcm => ?_⟩
    · have e1 : ((i + 1 : Nat) : Int) = (i : Int) + 1 := by omega
      rw [e1]
      exact he2
    · have ltc : c < s.heap.objs.size := by
        rcases List.mem_cons.mp hcm with rfl | hcm
        · exact lte
        · rw [List.mem_singleton.mp hcm]
          exact lti
      rw [upd_ne (Nat.ne_of_lt ltc)]
      exact (hf c hcm).1
  done := by
    intro X hP hw hK hc i pins s σ H E I hf st hg
    subst hP hw hK
    obtain ⟨⟨old, he⟩, hit, hne, hai, hea⟩ := st
    obtain ⟨xs, hq, hx⟩ := hg
    obtain ⟨its, rv, hsq, _⟩ := seqB I hq
    obtain ⟨f0, f1, f2, f3, f4, f5⟩ := hf it (by simp)
    have hl : its.toArray.size = i := by
      have q := rv.length
      simp
      omega
    refine wpAny_pyNext_enum_endD (drawsB (by exact I.ok.hd hc) b it a hai its.toArray) he (by rw [hl]; exact ⟨hit, hsq⟩) fun h' hk => ⟨rfl, ?_⟩
    exact I.turned (t' := s.toks) (fun c oc hcn q => hk c oc hcn q) f0 f1 f3 f4 f5
  self := fun A i s Q E st h => by
    obtain ⟨⟨_, he⟩, _⟩ := st
    exact wpAny_pyIter_enum he h
def iEnumB (K : PySem.W.Frag) (ta : TA) : TI := fun σ H R => ta σ H fun vs H1 => ∃ b a xs, vs = [.ref a] ∧ SqB K b H1 a xs ∧ R (IteB K b a) H1
theorem pi_enumB {X : Cx} {e : Expr} {ta : TA} {p pos tpos : Pos} {elts : List Expr} {kk : Nat} (hg : Gl X "enumerate") (hm : X.mg "enumerate" = none) (ha : PA X [e] ta) (hs : starEach [e] X.env = [(false, eval e X.env)] := by rfl) :
    PI X (.Tuple elts kk tpos) (.Call (.Name "enumerate" p) [e] [] pos) (iEnumB X.K ta) := by
  refine ⟨fun pins s σ H R I h => ?_⟩
  refine Call_ (ld_blt I hg hm boot_enumerate (callWith_type1 (thn (ha.run pos pins s σ H _ I h) fun us s1 ⟨vs, H1, I1, r1, g⟩ => ?_) hs rfl))
  obtain ⟨b, a, xs, ex, hq, q⟩ := g
  subst ex
  rw [Vals.ref1 r1]
  obtain ⟨its, rv, hsq, lta⟩ := seqB I1 hq
  refine enum_begins1 (beginsB b a its.toArray) hsq fun h' he hit hsz hk => wpAny_pyIter_enum he ?_
  refine ⟨s1.heap.objs.size + 1, [s1.heap.objs.size + 1, s1.heap.objs.size], _, _, H1, rfl, I1.kept (t' := s1.toks) hk, turn_enumB a (s1.heap.objs.size + 1) s1.heap.objs.size, ⟨⟨.none, he⟩, itIs0 hit, Nat.succ_ne_self _, Nat.ne_of_lt lta, Nat.ne_of_gt (Nat.lt_succ_of_lt lta)⟩, fun c hc => ?_, q⟩
  have hle : s1.heap.objs.size ≤ c := by
    rcases List.mem_cons.mp hc with rfl | hc
    · exact Nat.le_succ _
    · rw [List.mem_singleton.mp hc]
      exact Nat.le_refl _
  exact I1.fpOk hle (I1.hok.fresh hle)
end OgR

namespace OgR
open PySem PySem.Spec PyProof.Rows L2
/-! ### zip of two sequences, each a list or a tuple -/
def ItzB (K : PySem.W.Frag) (b1 b2 : Bool) (a1 a2 : Addr) : It where
  go := fun i H => ∃ (xs ys : List V) (x y : V), SqB K b1 H a1 xs ∧ SqB K b2 H a2 ys ∧ xs[i]? = some x ∧ ys[i]? = some y
  yld := fun i H v H' => ∃ T x y, v = .ref T ∧ H T = none ∧ H' = upd H T (.tup [x, y]) ∧ (∀ xs, SqB K b1 H a1 xs → xs[i]? = some x) ∧ ∀ ys, SqB K b2 H a2 ys → ys[i]? = some y
  stop := fun i H => ∃ xs ys : List V, SqB K b1 H a1 xs ∧ SqB K b2 H a2 ys ∧ i ≤ xs.length ∧ i ≤ ys.length ∧ (i = xs.length ∨ i = ys.length)
theorem turn_zipB {P : Program} {w : World} {K : PySem.W.Frag} {elts : List Expr} {kk : Nat} {tpos : Pos} {b1 b2 : Bool} {a1 a2 z TI TO i1 i2 : Addr} (S : ZipSep2 z TI TO i1 i2 [i1, a1] [i2, a2]) (n1 : a1 ≠ i1) (n2 : a2 ≠ i2) :
    Turn P w K (.Tuple elts kk tpos) (ItzB K b1 b2 a1 a2) [z, TI, TO, i1, i2] z
      (fun i h => IsZip h z TI TO .none ∧ IsTupOf2 h TI (.ref i1) (.ref i2) ∧ (∃ x y, IsTupOf2 h TO x y) ∧ ItIs b1 h i1 a1 i ∧ ItIs b2 h i2 a2 i) where
  mem := List.mem_cons_self ..
  obj := fun i h st c hc => by
    obtain ⟨hz, hTI, ⟨x, y, hTO⟩, h1, h2⟩ := st
    have q : c = z ∨ c = TI ∨ c = TO ∨ c = i1 ∨ c = i2 := by simpa using hc
    rcases q with rfl | rfl | rfl | rfl | rfl
    · exact ⟨_, hz, fun v q => nomatch q⟩
    · exact ⟨_, hTI, fun v q => nomatch q⟩
    · exact ⟨_, hTO, fun v q => nomatch q⟩
    · exact h1.obj
    · exact h2.obj
  keep := fun i h h' st k => by
    obtain ⟨hz, hTI, ⟨x, y, hTO⟩, h1, h2⟩ := st
    exact ⟨k z (by simp) _ hz, k TI (by simp) _ hTI, ⟨x, y, k TO (by simp) _ hTO⟩, h1.keep (k i1 (by simp)), h2.keep (k i2 (by simp))⟩
  item := by
    intro X hP hw hK hc i pins s σ H E I hf st hg
    subst hP hw hK
    obtain ⟨hz, hTI, ⟨x0, y0, hTO⟩, h1, h2⟩ := st
    obtain ⟨xs, ys, x, y, qx, qy, hx, hy⟩ := hg
    obtain ⟨us1, rv1, sq1, _⟩ := seqB I qx
    obtain ⟨us2, rv2, sq2, _⟩ := seqB I qy
    obtain ⟨u1, e1, r1⟩ := rv1.get hx
    obtain ⟨u2, e2, r2⟩ := rv2.get hy
    have ltz : z < s.heap.objs.size := Heap.lt_size hz
    have lt1 : i < us1.toArray.size := by
      have q := (List.getElem?_eq_some_iff.mp e1).1
      simpa using q
    have lt2 : i < us2.toArray.size := by
      have q := (List.getElem?_eq_some_iff.mp e2).1
      simpa using q
    refine wpAny_pyNext_zipD2_item S (drawsB (by exact I.ok.hd hc) b1 i1 a1 n1 us1.toArray) (drawsB (by exact I.ok.hd hc) b2 i2 a2 n2 us2.toArray) hz hTI hTO ⟨h1, sq1⟩ ⟨h2, sq2⟩ lt1 lt2
      fun v1 v2 h' tk p1 p2 z' TO' st1 st2 hT hsz hk => ?_
    have ev1 : v1 = u1 := by
      have q : us1[i]? = some v1 := by simpa using p1
      rw [e1] at q
      exact (Option.some.inj q).symm
    have ev2 : v2 = u2 := by
      have q : us2[i]? = some v2 := by simpa using p2
      rw [e2] at q
      exact (Option.some.inj q).symm
    subst ev1 ev2
    refine ⟨_, rfl, wpAny_letOwnedTupleGo_zip (s := { s with heap := h', toks := tk }) z' fun h2' z2 sb => ?_⟩
    have atT : h2'.get? s.heap.objs.size = some { cls := .type "tuple", data := .seq #[v1, v2] } := (sb.2 _ (Nat.ne_of_gt ltz)).trans hT
    have I1 : Inv X pins σ (upd H s.heap.objs.size (.tup [x, y])) { s with heap := h2', toks := tk } := by
      refine I.turnedNew (ch := [z, TI, TO, i1, i2]) (fun c oc hcn q => ?_) hf (Nat.le_refl _) ⟨by show 2 ≤ sizeLine; decide, [v1, v2], .cons r1 (.cons r2 .nil), ⟨_, atT, rfl, _, rfl⟩⟩
      have g : ∀ d, d ∈ [z, TI, TO, i1, i2] → c ≠ d := fun d hd e => hcn (e ▸ hd)
      exact (sb.2 c (g z (by simp))).trans (hk c oc (g z (by simp)) (g TO (by simp)) (g i1 (by simp)) (g i2 (by simp)) q)
    refine ⟨.ref s.heap.objs.size, _, I1, rfl, ⟨_, x, y, rfl, I.hok.fresh (Nat.le_refl _), rfl, fun l hl => by rw [seqB_inj I hl qx]; exact hx, fun l hl => by rw [seqB_inj I hl qy]; exact hy⟩, ⟨z2, ?_, ⟨v1, v2, ?_⟩, ?_, ?_⟩, fun c hcm => ?_⟩
    · exact (sb.2 _ S.TIz).trans (hk _ _ S.TIz S.TITO S.TIi1 S.TIi2 hTI)
    · exact (sb.2 _ S.TOz).trans TO'
    · exact st1.1.keep fun o q => (sb.2 _ (Ne.symm S.zi1)).trans q
    · exact st2.1.keep fun o q => (sb.2 _ (Ne.symm S.zi2)).trans q
    · have ltc : c < s.heap.objs.size := by
        have q : c = z ∨ c = TI ∨ c = TO ∨ c = i1 ∨ c = i2 := by simpa using hcm
        rcases q with rfl | rfl | rfl | rfl | rfl
        · exact ltz
        · exact Heap.lt_size hTI
        · exact Heap.lt_size hTO
        · obtain ⟨_, q, _⟩ := h1.obj
          exact Heap.lt_size q
        · obtain ⟨_, q, _⟩ := h2.obj
          exact Heap.lt_size q
      rw [upd_ne (Nat.ne_of_lt ltc)]
      exact (hf c hcm).1
  done := by
    intro X hP hw hK hc i pins s σ H E I hf st hg
    subst hP hw hK
    obtain ⟨hz, hTI, ⟨x0, y0, hTO⟩, h1, h2⟩ := st
    obtain ⟨xs, ys, qx, qy, l1, l2, hend⟩ := hg
    obtain ⟨us1, rv1, sq1, _⟩ := seqB I qx
    obtain ⟨us2, rv2, sq2, _⟩ := seqB I qy
    have m1 : xs.length = us1.toArray.size := by
      have q := rv1.length
      simpa using q
    have m2 : ys.length = us2.toArray.size := by
      have q := rv2.length
      simpa using q
    refine wpAny_pyNext_zipD2_end S (drawsB (by exact I.ok.hd hc) b1 i1 a1 n1 us1.toArray) (drawsB (by exact I.ok.hd hc) b2 i2 a2 n2 us2.toArray) hz hTI hTO ⟨h1, sq1⟩ ⟨h2, sq2⟩ (by omega) (by omega) (by omega) fun h' tk hk => ⟨rfl, ?_⟩
    refine I.turnedL (t' := tk) (ch := [z, TI, TO, i1, i2]) (fun c oc hcn q => ?_) hf
    have g : ∀ d, d ∈ [z, TI, TO, i1, i2] → c ≠ d := fun d hd e => hcn (e ▸ hd)
    exact hk c oc (g z (by simp)) (g TO (by simp)) (g i1 (by simp)) (g i2 (by simp)) q
  self := fun A i s Q E st h => wpAny_pyIter_zip st.1 h
def iZipB (K : PySem.W.Frag) (ta : TA) : TI := fun σ H R => ta σ H fun vs H1 => ∃ b1 b2 a1 a2 xs ys, vs = [.ref a1, .ref a2] ∧ SqB K b1 H1 a1 xs ∧ SqB K b2 H1 a2 ys ∧ R (ItzB K b1 b2 a1 a2) H1
theorem pi_zipB {X : Cx} {e e2 : Expr} {ta : TA} {p pos tpos : Pos} {elts : List Expr} {kk : Nat} (hg : Gl X "zip") (hm : X.mg "zip" = none) (ha : PA X [e, e2] ta)
    (hs : starEach [e, e2] X.env = (false, eval e X.env) :: starEach [e2] X.env := by rfl) (hpl : (backTo pos (starEach [e2] X.env)).any (·.1) = false := by rfl) :
    PI X (.Tuple elts kk tpos) (.Call (.Name "zip" p) [e, e2] [] pos) (iZipB X.K ta) := by
  refine ⟨fun pins s σ H R I h => ?_⟩
  refine Call_ (ld_blt I hg hm boot_zip (callWith_type1 (thn (ha.run pos pins s σ H _ I h) fun us s1 ⟨vs, H1, I1, r1, g⟩ => ?_) hs hpl))
  obtain ⟨b1, b2, a1, a2, xs, ys, ex, qx, qy, q⟩ := g
  subst ex
  obtain ⟨u, w', eus, ru, rw'⟩ := vals2 r1
  subst eus
  cases ru
  cases rw'
  obtain ⟨us1, rv1, sq1, lt1⟩ := seqB I1 qx
  obtain ⟨us2, rv2, sq2, lt2⟩ := seqB I1 qy
  refine zip_begins2 (beginsB b1 a1 us1.toArray) (beginsB b2 a2 us2.toArray) sq1 sq2 fun h' hz hTI hTO g1 g2 hsz hk => wpAny_pyIter_zip hz ?_
  have S := zip_sep2 (N := s1.heap.objs.size) (fp1 := [a1]) (fp2 := [a2]) (fun b hb => by rw [List.mem_singleton.mp hb]; exact lt1) (fun b hb => by rw [List.mem_singleton.mp hb]; exact lt2)
  refine ⟨s1.heap.objs.size + 4, [s1.heap.objs.size + 4, s1.heap.objs.size + 2, s1.heap.objs.size + 3, s1.heap.objs.size, s1.heap.objs.size + 1], _, _, H1, rfl, I1.kept (t' := s1.toks) hk,
    turn_zipB S (Nat.ne_of_lt lt1) (Nat.ne_of_lt (Nat.lt_succ_of_lt lt2)), ⟨hz, hTI, ⟨_, _, hTO⟩, itIs0 g1, itIs0 g2⟩, fun c hcm => ?_, q⟩
  have hle : s1.heap.objs.size ≤ c := by
    have e' : c = s1.heap.objs.size + 4 ∨ c = s1.heap.objs.size + 2 ∨ c = s1.heap.objs.size + 3 ∨ c = s1.heap.objs.size ∨ c = s1.heap.objs.size + 1 := by simpa using hcm
    rcases e' with q | q | q | q | q <;> rw [q] <;> first | exact Nat.le_add_right _ _ | exact Nat.le_refl _
  exact I1.fpOk hle (I1.hok.fresh hle)
/-! ### their walks -/
theorem SqB.ex {K : PySem.W.Frag} {b : Bool} {H H' : Hp} {a : Addr} {xs : List V} (e : Evl.Ex H H') (h : SqB K b H a xs) : SqB K b H' a xs := by
  cases b with
  | true => exact Evl.ex_t e h
  | false => exact Evl.ex_l e h
theorem walk_enumB {K : PySem.W.Frag} {b : Bool} {a : Addr} {xs : List V} : Walk (IteB K b a) xs.length (fun H => SqB K b H a xs) (fun i H v H' => ∃ T x, v = .ref T ∧ H T = none ∧ H' = upd H T (.tup [.int (i : Nat), x]) ∧ xs[i]? = some x) where
  goes := fun i H hi h => ⟨xs, xs[i], h, List.getElem?_eq_getElem hi⟩
  stops := fun H h => ⟨xs, h, rfl⟩
  yields := fun i H v H' hi h y => by
    obtain ⟨T, x, e1, e2, e3, e4⟩ := y
    exact ⟨T, x, e1, e2, e3, e4 xs h⟩
theorem walk_zipB {K : PySem.W.Frag} {b1 b2 : Bool} {a1 a2 : Addr} {xs ys : List V} (hl : xs.length = ys.length) : Walk (ItzB K b1 b2 a1 a2) xs.length (fun H => SqB K b1 H a1 xs ∧ SqB K b2 H a2 ys)
    (fun i H v H' => ∃ T x y, v = .ref T ∧ H T = none ∧ H' = upd H T (.tup [x, y]) ∧ xs[i]? = some x ∧ ys[i]? = some y) where
  goes := fun i H hi h => ⟨xs, ys, xs[i], ys[i]'(by omega), h.1, h.2, List.getElem?_eq_getElem hi, List.getElem?_eq_getElem (by omega)⟩
  stops := fun H h => ⟨xs, ys, h.1, h.2, Nat.le_refl _, by omega, .inl rfl⟩
  yields := fun i H v H' hi h y => by
    obtain ⟨T, x, z, e1, e2, e3, e4, e5⟩ := y
    exact ⟨T, x, z, e1, e2, e3, e4 xs h.1, e5 ys h.2⟩
/-! ### for x in s, s a list or a tuple -/
def ItsB (K : PySem.W.Frag) (b : Bool) (a : Addr) : It where
  go := fun i H => ∃ xs x, SqB K b H a xs ∧ xs[i]? = some x
  yld := fun i H x H' => H' = H ∧ ∀ xs, SqB K b H a xs → xs[i]? = some x
  stop := fun i H => ∃ xs, SqB K b H a xs ∧ xs.length ≤ i
theorem turn_seqB {P : Program} {w : World} {K : PySem.W.Frag} {tg : Expr} (b : Bool) (a it : Addr) : Turn P w K tg (ItsB K b a) [it] it (fun i h => ItIs b h it a i) := by
  cases b with
  | true => exact turn_tuple a it
  | false => exact turn_list a it
def iSeqB (K : PySem.W.Frag) (tl : TE) : TI := fun σ H R => tl σ H fun x H1 => ∃ b a xs, x = .ref a ∧ SqB K b H1 a xs ∧ R (ItsB K b a) H1
theorem pi_seqB {X : Cx} {tg l : Expr} {tl : TE} (hl : PE X l tl) : PI X tg l (iSeqB X.K tl) := by
  refine ⟨fun pins s σ H R I h => thn (hl.run pins s σ H _ I h) fun v s1 ⟨x, H1, I1, r1, g⟩ => ?_⟩
  obtain ⟨b, a, xs, e, hq, q⟩ := g
  subst e
  cases r1
  obtain ⟨its, rv, hsq, lt⟩ := seqB I1 hq
  refine (beginsB b a its.toArray).iter _ _ _ _ _ _ hsq ?_
  refine ⟨s1.heap.objs.size, [s1.heap.objs.size], _, _, H1, rfl, I1.kept (t' := s1.toks) fun c o e => Heap.get?_push_of_some _ e, turn_seqB b a _, itIs0 (Heap.get?_push_size _ (beginsB b a its.toArray).free), fun c hc => ?_, q⟩
  rw [List.mem_singleton.mp hc]
  exact I1.fpOk (Nat.le_refl _) (I1.hok.fresh (Nat.le_refl _))
theorem walk_seqB {K : PySem.W.Frag} {b : Bool} {a : Addr} {xs : List V} : Walk (ItsB K b a) xs.length (fun H => SqB K b H a xs) (fun i H v H' => H' = H ∧ xs[i]? = some v) where
  goes := fun i H hi h => ⟨xs, xs[i], h, List.getElem?_eq_getElem hi⟩
  stops := fun H h => ⟨xs, h, Nat.le_refl _⟩
  yields := fun i H v H' hi h y => ⟨y.1, y.2 xs h⟩
/-! ### one of two readings -/
theorem PG.or {X : Cx} {e : Expr} {g1 g2 : TG} (h1 : PG X e g1) (h2 : PG X e g2) : PG X e (fun v σ H Q => g1 v σ H Q ∨ g2 v σ H Q) :=
  ⟨fun pins s σ H v u Q I r h => by
    rcases h with h | h
    · exact h1.run pins s σ H v u Q I r h
    · exact h2.run pins s σ H v u Q I r h⟩
theorem CallR.or {X : Cx} {f : Value} {r1 r2 : List V → Hp → VK → Prop} (h1 : CallR X f r1) (h2 : CallR X f r2) : CallR X f (fun vs H Q => r1 vs H Q ∨ r2 vs H Q) := by
  intro pins s σ H vs us Q I r h
  rcases h with h | h
  · exact h1 pins s σ H vs us Q I r h
  · exact h2 pins s σ H vs us Q I r h
/-- unpacking a pair: a tuple or a list of n items -/
def gSeqB (K : PySem.W.Frag) (n : Nat) (t : TGs) : TG := fun v σ H Q => ∃ b a xs, v = .ref a ∧ SqB K b H a xs ∧ xs.length = n ∧ t xs σ H Q
theorem pg_seqB {X : Cx} {es : List Expr} {k : Nat} {pos : Pos} {t : TGs} {n : Nat} (hc : X.calm = true) (h : PGs X es t)
    (hn : (assignEach es X.env).length = n := by rfl) (hst : (assignEach es X.env).findIdx? (·.1) = none := by rfl) : PG X (.Tuple es k pos) (gSeqB X.K n t) :=
  ⟨fun pins s σ H v u Q I r hw => by
    obtain ⟨b, a, xs, e1, hq, hl, hw⟩ := hw
    cases b with
    | true => exact (pg_tup hc h hn hst).run pins s σ H v u Q I r ⟨a, xs, e1, hq, hl, hw⟩
    | false => exact (pg_unl hc h hn hst).run pins s σ H v u Q I r ⟨a, xs, e1, hq, hl, hw⟩⟩
/-- sorted(s), s a list or a tuple of ints -/
def rSrtB (K : PySem.W.Frag) : List V → Hp → VK → Prop := fun vs H Q => ∃ (b : Bool) (a : Addr) (ms : List Int), vs = [V.ref a] ∧ SqB K b H a (ms.map V.int) ∧
  ∀ (ks : List Int) (p : Addr), ks.Perm ms → ks.Pairwise (· ≤ ·) → H p = none → Q (.ref p) (upd H p (.lst (ks.map V.int)))
theorem cr_srtB {X : Cx} : CallR X (.builtin "sorted") (rSrtB X.K) := by
  intro pins s σ H vs us Q I r h
  obtain ⟨b, a, ms, e, hq, q⟩ := h
  cases b with
  | true => exact cr_srtT pins s σ H vs us Q I r ⟨a, ms, e, hq, q⟩
  | false => exact cr_sortedI pins s σ H vs us Q I r ⟨a, ms, e, hq, q⟩
/-- len(s), s a list or a tuple -/
def rLenB (K : PySem.W.Frag) : List V → Hp → VK → Prop := fun vs H Q => ∃ (b : Bool) (a : Addr) (xs : List V), vs = [V.ref a] ∧ SqB K b H a xs ∧ Q (.int (xs.length : Int)) H
theorem cr_lenB {X : Cx} : CallR X (.builtin "len") (rLenB X.K) := by
  intro pins s σ H vs us Q I r h
  obtain ⟨b, a, xs, e, hq, q⟩ := h
  cases b with
  | true => exact call_len_seq pins s σ H vs us Q I r ⟨a, xs, e, .inr hq, q⟩
  | false => exact call_len_seq pins s σ H vs us Q I r ⟨a, xs, e, .inl hq, q⟩
/-- s[i], s a list or a tuple -/
def rIxB (K : PySem.W.Frag) : R2 := fun x y H Q => ∃ (b : Bool) (p : Addr) (xs : List V) (i : Int) (v : V), x = .ref p ∧ y = .int i ∧ SqB K b H p xs ∧ atI xs i = some v ∧ Q v H
theorem ix_B {X : Cx} : IxR X (rIxB X.K) := by
  have h : IxR X (rIx X.K) := ix_seq
  refine fun va sl pins s σ H x y u w Q I rx ry g hp => h va sl pins s σ H x y u w Q I rx ry ?_ hp
  obtain ⟨b, p, xs, i, v, e1, e2, hq, ha, q⟩ := g
  cases b with
  | true => exact .inr (.inl ⟨p, xs, i, v, e1, e2, hq, ha, q⟩)
  | false => exact .inl ⟨p, xs, i, v, e1, e2, hq, ha, q⟩
end OgR

namespace OgR
open PySem PySem.Spec PyProof.Rows L2
/-! ### l[a:c] = a list -/
def gSl (to : TE) (tl th : TO) : TG := fun v σ H Q => to σ H fun o H1 => tl σ H1 fun lo H2 => th σ H2 fun hi H3 => ∃ (l b : Addr) (xs ys : List V) (a c : Int), o = .ref l ∧ v = .ref b ∧ lo = some a ∧ hi = some c ∧ H3 l = some (.lst xs) ∧ H3 b = some (.lst ys) ∧ l ≠ b ∧
  0 ≤ a ∧ a ≤ c ∧ c ≤ xs.length ∧ xs.length + ys.length ≤ sizeLine ∧ Q σ (upd H3 l (.lst (xs.take a.toNat ++ ys ++ xs.drop c.toNat)))
theorem pg_sl {X : Cx} {o : Expr} {lo hi : Option Expr} {pos p2 : Pos} {to : TE} {tl th : TO} (ho : PE X o to) (hl : PO X lo tl) (hu : PO X hi th)
    (ha : ∀ v, assign (.Subscript o (.Slice lo hi none p2) pos) X.env v = (do
      let ov ← holding [v] (eval o X.env)
      let iv ← holding [v, ov] (eval (.Slice lo hi none p2) X.env)
      standAt pos
      holding [v, ov, iv] (setItem ov iv v)
      release [iv, v, ov] []) := by intro _; rfl) : PG X (.Subscript o (.Slice lo hi none p2) pos) (gSl to tl th) := by
  refine ⟨fun pins s σ H v u Q I r h => ?_⟩
  rw [ha]
  refine wpAny_bind (wpAny_holding (thn (ho.run pins s σ H _ I h) fun ov s1 ⟨x, H1, I1, r1, q1⟩ => ?_))
  refine wpAny_bind (wpAny_holding (wpAny_Slice (thn (hl.run pins s1 σ H1 _ I1 q1) fun vl s2 ⟨l, H2, I2, pl, q2⟩ => thn (hu.run pins s2 σ H2 _ I2 q2) fun vu s3 ⟨w', H3, I3, pu, q3⟩ => ?_)))
  rw [evalPart_none]
  refine wpAny_pure ?_
  obtain ⟨la, lb, xs, ys, a, c, rfl, rfl, rfl, rfl, e1, e2, hne, h0, hac, hc, hz, q⟩ := q3
  cases r1
  cases r
  have I4 : Inv X pins σ H3 { s3 with heap := s3.heap.push { cls := .type "slice", data := .fields #[vl, vu, .none] } } := I3.kept (t' := s3.toks) fun b ob q => Heap.get?_push_of_some _ q
  refine wpAny_bind (wpAny_standAt (wpAny_bind (wpAny_holding ?_)))
  cases pl with
  | int a ta =>
    cases pu with
    | int c tc => exact set_slice I4 e1 e2 hne (Heap.IsSliceOf.new ..) ⟨_, rfl⟩ ⟨_, rfl⟩ h0 hac hc hz fun s' I' => wpAny_release ⟨_, _, I', q⟩
end OgR

namespace OgM
/-! ### runs of plots as segments: (s, n) is s, s + 1, .., s + n -/
abbrev Seg := Int × Nat
def Ok : Int → List Seg → Prop
  | _, [] => True
  | lo, x :: r => lo < x.1 ∧ Ok (x.1 + x.2 + 1) r
def Mem (p : Int) (g : List Seg) : Prop := ∃ x ∈ g, x.1 ≤ p ∧ p ≤ x.1 + x.2
theorem mem_cons {p : Int} {x : Seg} {g : List Seg} : Mem p (x :: g) ↔ (x.1 ≤ p ∧ p ≤ x.1 + x.2) ∨ Mem p g := by
  simp [Mem]
theorem mem_nil {p : Int} : ¬ Mem p [] := by simp [Mem]
theorem ok_lt : ∀ {g : List Seg} {lo p : Int}, Ok lo g → Mem p g → lo < p
  | [], _, _, _, h => absurd h mem_nil
  | x :: r, lo, p, h, m => by
    rcases mem_cons.mp m with m | m
    · have := h.1; omega
    · have := ok_lt h.2 m; have := h.1; omega
theorem ok_mono : ∀ {g : List Seg} {lo lo' : Int}, lo' ≤ lo → Ok lo g → Ok lo' g
  | [], _, _, _, _ => trivial
  | x :: r, lo, lo', h, k => ⟨by have := k.1; omega, k.2⟩
/-- one more plot -/
def add (p : Int) : List Seg → List Seg
  | [] => [(p, 0)]
  | (s, n) :: r =>
    if p < s - 1 then (p, 0) :: (s, n) :: r
    else if p = s - 1 then (p, n + 1) :: r
    else if p = s + n + 1 then
      match r with
      | [] => [(s, n + 1)]
      | (s', n') :: r' => if s' = p + 1 then (s, n + n' + 2) :: r' else (s, n + 1) :: (s', n') :: r'
    else (s, n) :: add p r
theorem ok_add : ∀ {g : List Seg} {lo p : Int}, Ok lo g → ¬ Mem p g → lo < p → Ok lo (add p g)
  | [], lo, p, _, _, h => ⟨h, trivial⟩
  | (s, n) :: r, lo, p, k, nm, h => by
    have k1 : lo < s := k.1
    have k2 : Ok (s + n + 1) r := k.2
    have nm1 : ¬ (s ≤ p ∧ p ≤ s + n) := fun e => nm (mem_cons.mpr (.inl e))
    have nm2 : ¬ Mem p r := fun e => nm (mem_cons.mpr (.inr e))
    unfold add
    split
    · exact ⟨h, by show p + ((0 : Nat) : Int) + 1 < s; omega, k2⟩
    · split
      · refine ⟨h, ?_⟩
        refine ok_mono ?_ k2
        show p + ((n + 1 : Nat) : Int) + 1 ≤ _
        omega
      · split
        · cases r with
          | nil => exact ⟨k1, trivial⟩
          | cons y r' =>
            obtain ⟨s', n'⟩ := y
            have k3 : s + n + 1 < s' := k2.1
            have k4 : Ok (s' + n' + 1) r' := k2.2
            show Ok lo (if s' = p + 1 then (s, n + n' + 2) :: r' else (s, n + 1) :: (s', n') :: r')
            split
            · refine ⟨k1, ok_mono ?_ k4⟩
              show s + ((n + n' + 2 : Nat) : Int) + 1 ≤ _
              omega
            · refine ⟨k1, ?_, k4⟩
              show s + ((n + 1 : Nat) : Int) + 1 < s'
              omega
        · exact ⟨k1, ok_add k2 nm2 (by show s + (n : Int) + 1 < p; omega)⟩
theorem mem_add : ∀ {g : List Seg} {lo p q : Int}, Ok lo g → (Mem q (add p g) ↔ q = p ∨ Mem q g)
  | [], lo, p, q, _ => by
    show Mem q [(p, 0)] ↔ _
    rw [mem_cons]
    simp only [mem_nil, or_false]
    constructor
    · intro h; have : p ≤ q ∧ q ≤ p + ((0 : Nat) : Int) := h; omega
    · intro h; exact ⟨by show p ≤ q; omega, by show q ≤ p + ((0 : Nat) : Int); omega⟩
  | (s, n) :: r, lo, p, q, k => by
    have k2 : Ok (s + n + 1) r := k.2
    unfold add
    split
    · rw [mem_cons]
      constructor
      · rintro (h | h)
        · have : p ≤ q ∧ q ≤ p + ((0 : Nat) : Int) := h
          exact .inl (by omega)
        · exact .inr h
      · rintro (h | h)
        · exact .inl ⟨by show p ≤ q; omega, by show q ≤ p + ((0 : Nat) : Int); omega⟩
        · exact .inr h
    · split
      · rename_i h1 h2
        rw [mem_cons, mem_cons]
        constructor
        · rintro (h | h)
          · have : p ≤ q ∧ q ≤ p + ((n + 1 : Nat) : Int) := h
            by_cases e : q = p
            · exact .inl e
            · exact .inr (.inl ⟨by show s ≤ q; omega, by show q ≤ s + (n : Int); omega⟩)
          · exact .inr (.inr h)
        · rintro (h | h | h)
          · exact .inl ⟨by show p ≤ q; omega, by show q ≤ p + ((n + 1 : Nat) : Int); omega⟩
          · have : s ≤ q ∧ q ≤ s + (n : Int) := h
            exact .inl ⟨by show p ≤ q; omega, by show q ≤ p + ((n + 1 : Nat) : Int); omega⟩
          · exact .inr h
      · split
        · rename_i h1 h2 h3
          cases r with
          | nil =>
            show Mem q [(s, n + 1)] ↔ _
            rw [mem_cons, mem_cons]
            constructor
            · rintro (h | h)
              · have : s ≤ q ∧ q ≤ s + ((n + 1 : Nat) : Int) := h
                by_cases e : q = p
                · exact .inl e
                · exact .inr (.inl ⟨by show s ≤ q; omega, by show q ≤ s + (n : Int); omega⟩)
              · exact .inr (.inr h)
            · rintro (h | h | h)
              · exact .inl ⟨by show s ≤ q; omega, by show q ≤ s + ((n + 1 : Nat) : Int); omega⟩
              · have : s ≤ q ∧ q ≤ s + (n : Int) := h
                exact .inl ⟨by show s ≤ q; omega, by show q ≤ s + ((n + 1 : Nat) : Int); omega⟩
              · exact .inr h
          | cons y r' =>
            obtain ⟨s', n'⟩ := y
            show Mem q (if s' = p + 1 then (s, n + n' + 2) :: r' else (s, n + 1) :: (s', n') :: r') ↔ _
            split
            · rename_i h4
              rw [mem_cons, mem_cons, mem_cons]
              constructor
              · rintro (h | h)
                · have : s ≤ q ∧ q ≤ s + ((n + n' + 2 : Nat) : Int) := h
                  by_cases e : q = p
                  · exact .inl e
                  · by_cases e2 : q < p
                    · exact .inr (.inl ⟨by show s ≤ q; omega, by show q ≤ s + (n : Int); omega⟩)
                    · exact .inr (.inr (.inl ⟨by show s' ≤ q; omega, by show q ≤ s' + (n' : Int); omega⟩))
                · exact .inr (.inr (.inr h))
              · rintro (h | h | h | h)
                · exact .inl ⟨by show s ≤ q; omega, by show q ≤ s + ((n + n' + 2 : Nat) : Int); omega⟩
                · have : s ≤ q ∧ q ≤ s + (n : Int) := h
                  exact .inl ⟨by show s ≤ q; omega, by show q ≤ s + ((n + n' + 2 : Nat) : Int); omega⟩
                · have : s' ≤ q ∧ q ≤ s' + (n' : Int) := h
                  exact .inl ⟨by show s ≤ q; omega, by show q ≤ s + ((n + n' + 2 : Nat) : Int); omega⟩
                · exact .inr h
            · rw [mem_cons (x := (s, n + 1)), mem_cons (x := (s, n))]
              constructor
              · rintro (h | h)
                · have : s ≤ q ∧ q ≤ s + ((n + 1 : Nat) : Int) := h
                  by_cases e : q = p
                  · exact .inl e
                  · exact .inr (.inl ⟨by show s ≤ q; omega, by show q ≤ s + (n : Int); omega⟩)
                · exact .inr (.inr h)
              · rintro (h | h | h)
                · exact .inl ⟨by show s ≤ q; omega, by show q ≤ s + ((n + 1 : Nat) : Int); omega⟩
                · have : s ≤ q ∧ q ≤ s + (n : Int) := h
                  exact .inl ⟨by show s ≤ q; omega, by show q ≤ s + ((n + 1 : Nat) : Int); omega⟩
                · exact .inr h
        · rw [mem_cons, mem_cons, mem_add k2]
          constructor
          · rintro (h | h | h)
            · exact .inr (.inl h)
            · exact .inl h
            · exact .inr (.inr h)
          · rintro (h | h | h)
            · exact .inr (.inl h)
            · exact .inl h
            · exact .inr (.inr h)
/-- segments are told by their members -/
theorem ok_ext : ∀ {g g' : List Seg} {lo lo' : Int}, Ok lo g → Ok lo' g' → (∀ q, Mem q g ↔ Mem q g') → g = g'
  | [], [], _, _, _, _, _ => rfl
  | [], (s, n) :: r, _, _, _, _, h => absurd ((h s).mpr (mem_cons.mpr (.inl ⟨Int.le_refl _, by show s ≤ s + (n : Int); omega⟩))) mem_nil
  | (s, n) :: r, [], _, _, _, _, h => absurd ((h s).mp (mem_cons.mpr (.inl ⟨Int.le_refl _, by show s ≤ s + (n : Int); omega⟩))) mem_nil
  | (s, n) :: r, (s', n') :: r', lo, lo', k, k', h => by
    have k2 : Ok (s + n + 1) r := k.2
    have k2' : Ok (s' + n' + 1) r' := k'.2
    have in1 : ∀ q, s ≤ q → q ≤ s + n → Mem q ((s', n') :: r') := fun q a b => (h q).mp (mem_cons.mpr (.inl ⟨a, b⟩))
    have in2 : ∀ q, s' ≤ q → q ≤ s' + n' → Mem q ((s, n) :: r) := fun q a b => (h q).mpr (mem_cons.mpr (.inl ⟨a, b⟩))
    have lo1 : ∀ {q}, Mem q ((s', n') :: r') → s' ≤ q := fun {q} m => by
      rcases mem_cons.mp m with m | m
      · exact m.1
      · have := ok_lt k2' m; omega
    have lo2 : ∀ {q}, Mem q ((s, n) :: r) → s ≤ q := fun {q} m => by
      rcases mem_cons.mp m with m | m
      · exact m.1
      · have := ok_lt k2 m; omega
    have es : s = s' := by
      have a := lo1 (in1 s (Int.le_refl _) (by omega))
      have b := lo2 (in2 s' (Int.le_refl _) (by omega))
      omega
    subst es
    have en : n = n' := by
      by_cases e1 : n < n'
      · have m := in2 (s + n + 1) (by omega) (by omega)
        rcases mem_cons.mp m with m | m
        · have := m.2; simp only at this; omega
        · have := ok_lt k2 m; omega
      · by_cases e2 : n' < n
        · have m := in1 (s + n' + 1) (by omega) (by omega)
          rcases mem_cons.mp m with m | m
          · have := m.2; simp only at this; omega
          · have := ok_lt k2' m; omega
        · omega
    subst en
    have er : r = r' := ok_ext k2 k2' fun q => by
      constructor
      · intro m
        have lt := ok_lt k2 m
        rcases mem_cons.mp ((h q).mp (mem_cons.mpr (.inr m))) with a | a
        · have := a.2; simp only at this; omega
        · exact a
      · intro m
        have lt := ok_lt k2' m
        rcases mem_cons.mp ((h q).mpr (mem_cons.mpr (.inr m))) with a | a
        · have := a.2; simp only at this; omega
        · exact a
    rw [er]
/-- the segments of a list of plots -/
def segs : List Int → List Seg := List.foldl (fun g p => add p g) []
theorem segs_snoc (l : List Int) (p : Int) : segs (l ++ [p]) = add p (segs l) := by
  unfold segs
  rw [List.foldl_append]
  rfl
theorem lower : ∀ l : List Int, ∃ lo : Int, ∀ p ∈ l, lo < p
  | [] => ⟨0, fun p h => absurd h (by simp)⟩
  | x :: r => by
    obtain ⟨lo, h⟩ := lower r
    refine ⟨min lo (x - 1), fun p hp => ?_⟩
    rcases List.mem_cons.mp hp with e | hp
    · subst e; omega
    · have := h p hp; omega
theorem snoc_ind {α : Type} {P : List α → Prop} (h0 : P []) (h1 : ∀ l x, P l → P (l ++ [x])) (l : List α) : P l := by
  have h : ∀ l : List α, P l.reverse := fun l => by
    induction l with
    | nil => exact h0
    | cons x r ih =>
      rw [List.reverse_cons]
      exact h1 _ _ ih
  have := h l.reverse
  rwa [List.reverse_reverse] at this
theorem segs_ok : ∀ {l : List Int} {lo : Int}, l.Nodup → (∀ p ∈ l, lo < p) → Ok lo (segs l) ∧ ∀ q, Mem q (segs l) ↔ q ∈ l := by
  intro l
  induction l using snoc_ind with
  | h0 => exact fun _ _ => ⟨trivial, fun q => by simp [segs, Mem]⟩
  | h1 l p ih => 
    intro lo hn hl
    have hn' : l.Nodup ∧ p ∉ l := by
      rw [List.nodup_append] at hn
      exact ⟨hn.1, fun h => hn.2.2 p h p (by simp) rfl⟩
    obtain ⟨a, b⟩ := ih hn'.1 fun q hq => hl q (by simp [hq])
    rw [segs_snoc]
    refine ⟨ok_add a (fun m => hn'.2 ((b p).mp m)) (hl p (by simp)), fun q => ?_⟩
    rw [mem_add a, b q]
    simp [or_comm]
theorem segs_eq {l l' : List Int} (h : l.Nodup) (h' : l'.Nodup) (e : ∀ q, q ∈ l ↔ q ∈ l') : segs l = segs l' := by
  obtain ⟨lo, hl⟩ := lower l
  obtain ⟨lo', hl'⟩ := lower l'
  obtain ⟨a, b⟩ := segs_ok h hl
  obtain ⟨a', b'⟩ := segs_ok h' hl'
  exact ok_ext a a' fun q => by rw [b q, b' q, e q]
end OgM

namespace OgM
inductive Wd where
  | new | beside | between
  deriving DecidableEq
def Wd.step : Wd → Int
  | .new => 1
  | .beside => 0
  | .between => -1
abbrev Ch := Wd × Nat
def shift : Ch → Ch
  | (.new, k) => (.new, k + 1)
  | (.beside, k) => (.beside, k + 2)
  | (.between, k) => (.between, k + 1)
def pick (p : Int) : List Seg → Ch
  | [] => (.new, 0)
  | (s, n) :: r =>
    if p < s - 1 then (.new, 0)
    else if p = s - 1 then (.beside, 0)
    else if p = s + n + 1 then
      match r with
      | [] => (.beside, 1)
      | (s', _) :: _ => if s' = p + 1 then (.between, 0) else (.beside, 1)
    else shift (pick p r)
theorem shift_word (c : Ch) : (shift c).1 = c.1 := by
  obtain ⟨w, k⟩ := c
  cases w <;> rfl
/-- the four places of a new plot beside the first segment -/
theorem places {P : Prop} {s : Int} {n : Nat} {p : Int} {r : List Seg} (nm : ¬ (s ≤ p ∧ p ≤ s + n)) (h1 : p < s - 1 → P) (h2 : p = s - 1 → P) (h3 : p = s + n + 1 → P) (h4 : s + n + 1 < p → P) : P := by
  by_cases e1 : p < s - 1
  · exact h1 e1
  · by_cases e2 : p = s - 1
    · exact h2 e2
    · by_cases e3 : p = s + n + 1
      · exact h3 e3
      · exact h4 (by omega)
theorem pick_1 {p s : Int} {n : Nat} {r : List Seg} (h : p < s - 1) : pick p ((s, n) :: r) = (.new, 0) ∧ add p ((s, n) :: r) = (p, 0) :: (s, n) :: r := by
  unfold pick add
  rw [if_pos h, if_pos h]
  exact ⟨rfl, rfl⟩
theorem pick_2 {p s : Int} {n : Nat} {r : List Seg} (h : p = s - 1) : pick p ((s, n) :: r) = (.beside, 0) ∧ add p ((s, n) :: r) = (p, n + 1) :: r := by
  unfold pick add
  rw [if_neg (by omega), if_pos h, if_neg (by omega), if_pos h]
  exact ⟨rfl, rfl⟩
theorem pick_30 {p s : Int} {n : Nat} (h : p = s + n + 1) : pick p [(s, n)] = (.beside, 1) ∧ add p [(s, n)] = [(s, n + 1)] := by
  unfold pick add
  rw [if_neg (by omega), if_neg (by omega), if_pos h, if_neg (by omega), if_neg (by omega), if_pos h]
  exact ⟨rfl, rfl⟩
theorem pick_31 {p s s' : Int} {n n' : Nat} {r : List Seg} (h : p = s + n + 1) (h' : s' = p + 1) : pick p ((s, n) :: (s', n') :: r) = (.between, 0) ∧ add p ((s, n) :: (s', n') :: r) = (s, n + n' + 2) :: r := by
  unfold pick add
  rw [if_neg (by omega), if_neg (by omega), if_pos h, if_neg (by omega), if_neg (by omega), if_pos h]
  show (if s' = p + 1 then (Wd.between, 0) else (Wd.beside, 1)) = _ ∧ (if s' = p + 1 then (s, n + n' + 2) :: r else (s, n + 1) :: (s', n') :: r) = _
  rw [if_pos h', if_pos h']
  exact ⟨rfl, rfl⟩
theorem pick_32 {p s s' : Int} {n n' : Nat} {r : List Seg} (h : p = s + n + 1) (h' : s' ≠ p + 1) : pick p ((s, n) :: (s', n') :: r) = (.beside, 1) ∧ add p ((s, n) :: (s', n') :: r) = (s, n + 1) :: (s', n') :: r := by
  unfold pick add
  rw [if_neg (by omega), if_neg (by omega), if_pos h, if_neg (by omega), if_neg (by omega), if_pos h]
  show (if s' = p + 1 then (Wd.between, 0) else (Wd.beside, 1)) = _ ∧ (if s' = p + 1 then (s, n + n' + 2) :: r else (s, n + 1) :: (s', n') :: r) = _
  rw [if_neg h', if_neg h']
  exact ⟨rfl, rfl⟩
theorem pick_4 {p s : Int} {n : Nat} {r : List Seg} (h : s + n + 1 < p) : pick p ((s, n) :: r) = shift (pick p r) ∧ add p ((s, n) :: r) = (s, n) :: add p r := by
  constructor
  · conv => lhs; unfold pick
    rw [if_neg (by omega), if_neg (by omega), if_neg (by omega)]
  · conv => lhs; unfold add
    rw [if_neg (by omega), if_neg (by omega), if_neg (by omega)]
/-- a way through: the six cases at the first segment -/
theorem way {C : List Seg → Prop} {p : Int} (h0 : C []) (h1 : ∀ (s : Int) (n : Nat) (r : List Seg), p < s - 1 → Ok (s + n + 1) r → C ((s, n) :: r)) (h2 : ∀ (s : Int) (n : Nat) (r : List Seg), p = s - 1 → Ok (s + n + 1) r → C ((s, n) :: r))
    (h30 : ∀ (s : Int) (n : Nat), p = s + n + 1 → C [(s, n)]) (h31 : ∀ (s : Int) (n : Nat) (s' : Int) (n' : Nat) (r : List Seg), p = s + n + 1 → s' = p + 1 → Ok (s' + n' + 1) r → C ((s, n) :: (s', n') :: r))
    (h32 : ∀ (s : Int) (n : Nat) (s' : Int) (n' : Nat) (r : List Seg), p = s + n + 1 → p + 1 < s' → Ok (s' + n' + 1) r → C ((s, n) :: (s', n') :: r))
    (h4 : ∀ (s : Int) (n : Nat) (r : List Seg), s + n + 1 < p → Ok (s + n + 1) r → ¬ Mem p r → C r → C ((s, n) :: r)) : ∀ {g : List Seg} {lo : Int}, Ok lo g → ¬ Mem p g → C g
  | [], _, _, _ => h0
  | (s, n) :: r, lo, k, nm => by
    have k2 : Ok (s + n + 1) r := k.2
    have nm1 : ¬ (s ≤ p ∧ p ≤ s + n) := fun e => nm (mem_cons.mpr (.inl e))
    have nm2 : ¬ Mem p r := fun e => nm (mem_cons.mpr (.inr e))
    refine places (r := r) nm1 (fun e => h1 s n r e k2) (fun e => h2 s n r e k2) (fun e => ?_) (fun e => h4 s n r e k2 nm2 (way h0 h1 h2 h30 h31 h32 h4 k2 nm2))
    cases r with
    | nil => exact h30 s n e
    | cons y r' =>
      obtain ⟨s', n'⟩ := y
      have k3 : s + n + 1 < s' := k2.1
      by_cases e' : s' = p + 1
      · exact h31 s n s' n' r' e e' k2.2
      · exact h32 s n s' n' r' e (by omega) k2.2
def left (p : Int) (g : List Seg) : Nat := (g.filter fun x => decide (x.1 + x.2 < p)).length
theorem left_0 : ∀ {g : List Seg} {lo p : Int}, Ok lo g → p ≤ lo + 1 → left p g = 0
  | [], _, _, _, _ => rfl
  | (s, n) :: r, lo, p, k, h => by
    have k1 : lo < s := k.1
    have k2 : Ok (s + n + 1) r := k.2
    unfold left
    rw [List.filter_cons, if_neg (by simp; omega)]
    exact left_0 k2 (by omega)
theorem left_yes {p s : Int} {n : Nat} {r : List Seg} (h : s + n < p) : left p ((s, n) :: r) = left p r + 1 := by
  unfold left
  rw [List.filter_cons, if_pos (by simp; omega)]
  rfl
theorem left_no {p s : Int} {n : Nat} {r : List Seg} (h : ¬ s + n < p) : left p ((s, n) :: r) = left p r := by
  unfold left
  rw [List.filter_cons, if_neg (by simp; omega)]
theorem nmem {g : List Seg} {lo p : Int} (k : Ok lo g) (h : p ≤ lo) : ¬ Mem p g := fun m => by
  have := ok_lt k m
  omega
/-- what a choice says -/
structure Says (p : Int) (g : List Seg) (c : Ch) : Prop where
  new : c.1 = .new ↔ ¬ Mem (p - 1) g ∧ ¬ Mem (p + 1) g
  btw : c.1 = .between ↔ Mem (p - 1) g ∧ Mem (p + 1) g
  n1 : c.1 = .new → c.2 = left p g ∧ c.2 ≤ g.length
  n2 : c.1 = .between → c.2 + 1 = left p g ∧ c.2 + 1 < g.length
  n3 : c.1 = .beside → Mem (p - 1) g → c.2 + 1 = 2 * left p g ∧ c.2 < 2 * g.length
  n4 : c.1 = .beside → ¬ Mem (p - 1) g → c.2 = 2 * left p g ∧ c.2 < 2 * g.length
  len : ((add p g).length : Int) = g.length + c.1.step
theorem says {g : List Seg} {lo p : Int} (k : Ok lo g) (nm : ¬ Mem p g) : Says p g (pick p g) := by
  refine way (C := fun g => Says p g (pick p g)) ?_ ?_ ?_ ?_ ?_ ?_ ?_ k nm
  · refine ⟨?_, ?_, ?_, ?_, ?_, ?_, rfl⟩
    · simp [pick, mem_nil]
    · simp [pick, mem_nil]
    · simp [pick, left]
    · simp [pick]
    · simp [pick]
    · simp [pick]
  · intro s n r h kr
    rw [(pick_1 h).1]
    have a1 : ¬ Mem (p - 1) ((s, n) :: r) := fun m => by
      rcases mem_cons.mp m with m | m
      · have := m.1; simp only at this; omega
      · have := ok_lt kr m; omega
    have a2 : ¬ Mem (p + 1) ((s, n) :: r) := fun m => by
      rcases mem_cons.mp m with m | m
      · have := m.1; simp only at this; omega
      · have := ok_lt kr m; omega
    refine ⟨by simp [a1, a2], by simp [a1], fun _ => ⟨?_, Nat.zero_le _⟩, by simp, by simp, by simp, ?_⟩
    · rw [left_no (by omega), left_0 kr (by omega)]
    · rw [(pick_1 h).2]
      simp [Wd.step]
  · intro s n r h kr
    rw [(pick_2 h).1]
    have a1 : ¬ Mem (p - 1) ((s, n) :: r) := fun m => by
      rcases mem_cons.mp m with m | m
      · have := m.1; simp only at this; omega
      · have := ok_lt kr m; omega
    have a2 : Mem (p + 1) ((s, n) :: r) := mem_cons.mpr (.inl ⟨by show s ≤ p + 1; omega, by show p + 1 ≤ s + (n : Int); omega⟩)
    refine ⟨by simp [a2], by simp [a1], by simp, by simp, fun _ m => absurd m a1, fun _ _ => ⟨?_, by simp⟩, ?_⟩
    · rw [left_no (by omega), left_0 kr (by omega)]
    · rw [(pick_2 h).2]
      simp [Wd.step]
  · intro s n h
    rw [(pick_30 h).1]
    have a1 : Mem (p - 1) [(s, n)] := mem_cons.mpr (.inl ⟨by show s ≤ p - 1; omega, by show p - 1 ≤ s + (n : Int); omega⟩)
    have a2 : ¬ Mem (p + 1) [(s, n)] := fun m => by
      rcases mem_cons.mp m with m | m
      · have := m.2; simp only at this; omega
      · exact mem_nil m
    refine ⟨by simp [a1], by simp [a2], by simp, by simp, fun _ _ => ⟨?_, by simp⟩, fun _ m => absurd a1 m, ?_⟩
    · rw [left_yes (by omega)]
      rfl
    · rw [(pick_30 h).2]
      simp [Wd.step]
  · intro s n s' n' r h h' kr
    rw [(pick_31 h h').1]
    have a1 : Mem (p - 1) ((s, n) :: (s', n') :: r) := mem_cons.mpr (.inl ⟨by show s ≤ p - 1; omega, by show p - 1 ≤ s + (n : Int); omega⟩)
    have a2 : Mem (p + 1) ((s, n) :: (s', n') :: r) := mem_cons.mpr (.inr (mem_cons.mpr (.inl ⟨by show s' ≤ p + 1; omega, by show p + 1 ≤ s' + (n' : Int); omega⟩)))
    refine ⟨by simp [a1], by simp [a1, a2], by simp, fun _ => ⟨?_, by simp⟩, by simp, by simp, ?_⟩
    · rw [left_yes (by omega), left_no (by omega), left_0 kr (by omega)]
    · rw [(pick_31 h h').2]
      simp [Wd.step]
      omega
  · intro s n s' n' r h h' kr
    rw [(pick_32 h (by omega)).1]
    have a1 : Mem (p - 1) ((s, n) :: (s', n') :: r) := mem_cons.mpr (.inl ⟨by show s ≤ p - 1; omega, by show p - 1 ≤ s + (n : Int); omega⟩)
    have a2 : ¬ Mem (p + 1) ((s, n) :: (s', n') :: r) := fun m => by
      rcases mem_cons.mp m with m | m
      · have := m.2; simp only at this; omega
      · rcases mem_cons.mp m with m | m
        · have := m.1; simp only at this; omega
        · have := ok_lt kr m; omega
    refine ⟨by simp [a1], by simp [a2], by simp, by simp, fun _ _ => ⟨?_, by simp; omega⟩, fun _ m => absurd a1 m, ?_⟩
    · rw [left_yes (by omega), left_no (by omega), left_0 kr (by omega)]
    · rw [(pick_32 h (by omega)).2]
      simp [Wd.step]
  · intro s n r h kr nmr ih
    rw [(pick_4 h).1]
    have b1 : Mem (p - 1) ((s, n) :: r) ↔ Mem (p - 1) r := by
      rw [mem_cons]
      exact ⟨fun m => m.elim (fun m => by have := m.2; simp only at this; omega) id, .inr⟩
    have b2 : Mem (p + 1) ((s, n) :: r) ↔ Mem (p + 1) r := by
      rw [mem_cons]
      exact ⟨fun m => m.elim (fun m => by have := m.2; simp only at this; omega) id, .inr⟩
    have bl : left p ((s, n) :: r) = left p r + 1 := left_yes (by omega)
    have ad := (pick_4 (r := r) h).2
    have hl := ih.len
    generalize hc : pick p r = c at ih
    obtain ⟨w, m⟩ := c
    have e1 := ih.new
    have e2 := ih.btw
    have e3 := ih.n1
    have e4 := ih.n2
    have e5 := ih.n3
    have e6 := ih.n4
    have e7 := ih.len
    have hlen : ((add p ((s, n) :: r)).length : Int) = ((s, n) :: r).length + w.step := by
      rw [ad, List.length_cons, List.length_cons]
      have : ((add p r).length : Int) = r.length + w.step := e7
      omega
    have hw : (shift (w, m)).1 = w := shift_word _
    refine ⟨?_, ?_, ?_, ?_, ?_, ?_, ?_⟩
    · rw [hw, b1, b2]; exact e1
    · rw [hw, b1, b2]; exact e2
    · intro e
      rw [hw] at e
      subst e
      obtain ⟨f1, f2⟩ := e3 rfl
      rw [bl, List.length_cons]
      exact ⟨by show m + 1 = _; simp only at f1; omega, by show m + 1 ≤ _; simp only at f2; omega⟩
    · intro e
      rw [hw] at e
      subst e
      obtain ⟨f1, f2⟩ := e4 rfl
      rw [bl, List.length_cons]
      exact ⟨by show m + 1 + 1 = _; simp only at f1; omega, by show m + 1 + 1 < _; simp only at f2; omega⟩
    · intro e z
      rw [hw] at e
      subst e
      obtain ⟨f1, f2⟩ := e5 rfl (b1.mp z)
      rw [bl, List.length_cons]
      exact ⟨by show m + 2 + 1 = _; simp only at f1; omega, by show m + 2 < _; simp only at f2; omega⟩
    · intro e z
      rw [hw] at e
      subst e
      obtain ⟨f1, f2⟩ := e6 rfl (fun q => z (b1.mpr q))
      rw [bl, List.length_cons]
      exact ⟨by show m + 2 = _; simp only at f1; omega, by show m + 2 < _; simp only at f2; omega⟩
    · rw [hw]; exact hlen
end OgM

namespace OgM
/-! ### runs, from a rising list -/
def runStep (g : List Seg) (p : Int) : List Seg :=
  match g.getLast? with
  | none => [(p, 0)]
  | some (s, n) => if s + n = p - 1 then g.dropLast ++ [(s, n + 1)] else g ++ [(p, 0)]
theorem add_last : ∀ {g : List Seg} {lo p : Int}, Ok lo g → (∀ q, Mem q g → q < p) → add p g = runStep g p
  | [], _, _, _, _ => rfl
  | [(s, n)], lo, p, k, h => by
    have e : s + n < p := h _ (mem_cons.mpr (.inl ⟨by show s ≤ s + (n : Int); omega, Int.le_refl _⟩))
    show add p [(s, n)] = if s + n = p - 1 then [] ++ [(s, n + 1)] else [(s, n)] ++ [(p, 0)]
    by_cases e2 : s + n = p - 1
    · rw [if_pos e2, (pick_30 (by omega)).2]
      rfl
    · rw [if_neg e2, (pick_4 (by omega)).2]
      rfl
  | (s, n) :: y :: r, lo, p, k, h => by
    have k2 : Ok (s + n + 1) (y :: r) := k.2
    have e : y.1 + y.2 < p := h _ (mem_cons.mpr (.inr (mem_cons.mpr (.inl ⟨by show y.1 ≤ y.1 + (y.2 : Int); omega, Int.le_refl _⟩))))
    have k3 : s + n + 1 < y.1 := k2.1
    rw [(pick_4 (by omega)).2, add_last k2 fun q m => h q (mem_cons.mpr (.inr m))]
    unfold runStep
    rw [List.getLast?_cons_cons]
    have ed : ((s, n) :: y :: r).dropLast = (s, n) :: (y :: r).dropLast := rfl
    rw [ed]
    split
    · rename_i e0
      exact absurd (List.getLast?_eq_none_iff.mp e0) (by simp)
    · split <;> rfl
theorem segs_rise {l : List Int} {p : Int} (h : l.Pairwise (· < ·)) (hp : ∀ q ∈ l, q < p) : segs (l ++ [p]) = runStep (segs l) p := by
  have nd : l.Nodup := h.imp fun {a b} (x : a < b) => Int.ne_of_lt x
  obtain ⟨lo, hl⟩ := lower l
  obtain ⟨a, b⟩ := segs_ok nd hl
  rw [segs_snoc]
  exact add_last a fun q m => hp q ((b q).mp m)
/-! ### the plots of a segment -/
def sgi (x : Seg) : List Int := (List.range (x.2 + 1)).map fun (i : Nat) => x.1 + (i : Int)
theorem sgi_snoc (s : Int) (n : Nat) : sgi (s, n) ++ [s + n + 1] = sgi (s, n + 1) := by
  unfold sgi
  show _ = (List.range (n + 1 + 1)).map _
  rw [List.range_succ (n := n + 1), List.map_append]
  simp
  omega
theorem sgi_cons (s : Int) (n : Nat) : s :: sgi (s + 1, n) = sgi (s, n + 1) := by
  unfold sgi
  show _ = (List.range (n + 1 + 1)).map _
  rw [List.range_succ_eq_map (n := n + 1), List.map_cons, List.map_map]
  congr 1
  · simp
  · refine List.map_congr_left fun a _ => ?_
    show s + 1 + (a : Int) = s + ((a + 1 : Nat) : Int)
    omega
theorem sgi_join (s : Int) (n n' : Nat) : sgi (s, n) ++ [s + n + 1] ++ sgi (s + n + 2, n') = sgi (s, n + n' + 2) := by
  induction n' with
  | zero =>
    rw [sgi_snoc]
    have : sgi (s + n + 2, 0) = [s + ((n + 1 : Nat) : Int) + 1] := by
      unfold sgi
      simp
      omega
    rw [this, sgi_snoc]
  | succ k ih =>
    rw [← sgi_snoc, ← List.append_assoc, ih]
    have : s + n + 2 + k + 1 = s + ((n + k + 2 : Nat) : Int) + 1 := by omega
    rw [this, sgi_snoc]
    rfl
theorem sgi_len (x : Seg) : (sgi x).length = x.2 + 1 := by simp [sgi]
theorem sgi_last (x : Seg) : (sgi x).getLast? = some (x.1 + x.2) := by
  unfold sgi
  rw [List.range_succ, List.map_append]
  simp
theorem sgi_head (x : Seg) : (sgi x).head? = some x.1 := by
  unfold sgi
  rw [List.range_succ_eq_map, List.map_cons]
  simp
theorem sgi_get {x : Seg} {i : Nat} (h : i ≤ x.2) : (sgi x)[i]? = some (x.1 + i) := by
  unfold sgi
  rw [List.getElem?_map, List.getElem?_range (by omega)]
  rfl
/-! ### the houses' times in their groups -/
def applyC (t : Nat) (c : Ch) (st : List (List Nat)) : List (List Nat) :=
  match c.1 with
  | .new => st.take c.2 ++ [[t]] ++ st.drop c.2
  | .between => st.take c.2 ++ [(st.getD c.2 []) ++ [t] ++ (st.getD (c.2 + 1) [])] ++ st.drop (c.2 + 2)
  | .beside => if c.2 % 2 = 0 then st.set (c.2 / 2) (t :: st.getD (c.2 / 2) []) else st.set (c.2 / 2) (st.getD (c.2 / 2) [] ++ [t])
theorem applyC_shift (t : Nat) (c : Ch) (a : List Nat) (st : List (List Nat)) : applyC t (shift c) (a :: st) = a :: applyC t c st := by
  obtain ⟨w, k⟩ := c
  cases w with
  | new => simp [applyC, shift]
  | between =>
    show (a :: st).take (k + 1) ++ [((a :: st).getD (k + 1) []) ++ [t] ++ ((a :: st).getD (k + 1 + 1) [])] ++ (a :: st).drop (k + 1 + 2) = _
    simp [applyC]
  | beside =>
    show (if (k + 2) % 2 = 0 then (a :: st).set ((k + 2) / 2) (t :: (a :: st).getD ((k + 2) / 2) []) else (a :: st).set ((k + 2) / 2) ((a :: st).getD ((k + 2) / 2) [] ++ [t])) = a :: (if k % 2 = 0 then st.set (k / 2) (t :: st.getD (k / 2) []) else st.set (k / 2) (st.getD (k / 2) [] ++ [t]))
    have e1 : (k + 2) / 2 = k / 2 + 1 := by omega
    have e2 : (k + 2) % 2 = k % 2 := by omega
    rw [e1, e2]
    split <;> simp
/-- st are the times of the segments g, told by f -/
def Told (f : Nat → Int) (st : List (List Nat)) (g : List Seg) : Prop := st.map (·.map f) = g.map sgi
theorem told_cons {f : Nat → Int} {st : List (List Nat)} {x : Seg} {g : List Seg} (h : Told f st (x :: g)) : ∃ a st', st = a :: st' ∧ a.map f = sgi x ∧ Told f st' g := by
  cases st with
  | nil => exact absurd h (by simp [Told])
  | cons a st' =>
    have q : a.map f :: st'.map (·.map f) = sgi x :: g.map sgi := h
    injection q with q1 q2
    exact ⟨a, st', rfl, q1, q2⟩
theorem told_add {f : Nat → Int} {t : Nat} {p : Int} (ft : f t = p) {g : List Seg} {lo : Int} (k : Ok lo g) (nm : ¬ Mem p g) :
    ∀ st, Told f st g → Told f (applyC t (pick p g) st) (add p g) ∧ ∀ x, x ∈ (applyC t (pick p g) st).flatten ↔ x = t ∨ x ∈ st.flatten := by
  refine way (C := fun g => ∀ st, Told f st g → Told f (applyC t (pick p g) st) (add p g) ∧ ∀ x, x ∈ (applyC t (pick p g) st).flatten ↔ x = t ∨ x ∈ st.flatten) ?_ ?_ ?_ ?_ ?_ ?_ ?_ k nm
  · intro st h
    have e : st = [] := by simpa [Told] using h
    subst e
    refine ⟨?_, fun x => by simp [applyC, pick]⟩
    simp [Told, applyC, pick, add, sgi, ft]
  · intro s n r h kr st ht
    rw [(pick_1 h).1, (pick_1 h).2]
    refine ⟨?_, fun x => by simp [applyC]⟩
    show ([[t]] ++ st).map (·.map f) = _
    rw [List.map_append, ht]
    simp [sgi, ft]
  · intro s n r h kr st ht
    rw [(pick_2 h).1, (pick_2 h).2]
    obtain ⟨a, st', rfl, ha, ht'⟩ := told_cons ht
    refine ⟨?_, fun x => by simp [applyC, or_assoc]⟩
    show (t :: a).map f :: st'.map (·.map f) = sgi (p, n + 1) :: r.map sgi
    rw [ht', List.map_cons, ha, ft, ← sgi_cons]
    have : p + 1 = s := by omega
    rw [this]
  · intro s n h st ht
    rw [(pick_30 h).1, (pick_30 h).2]
    obtain ⟨a, st', rfl, ha, ht'⟩ := told_cons ht
    refine ⟨?_, fun x => by simp [applyC, or_assoc, or_left_comm]⟩
    show (a ++ [t]).map f :: st'.map (·.map f) = sgi (s, n + 1) :: [].map sgi
    rw [ht', List.map_append, ha, ← sgi_snoc]
    simp [ft, h]
  · intro s n s' n' r h h' kr st ht
    rw [(pick_31 h h').1, (pick_31 h h').2]
    obtain ⟨a, st', rfl, ha, ht'⟩ := told_cons ht
    obtain ⟨b, st'', rfl, hb, ht''⟩ := told_cons ht'
    refine ⟨?_, fun x => by simp [applyC, or_assoc, or_left_comm]⟩
    show (a ++ [t] ++ b).map f :: st''.map (·.map f) = sgi (s, n + n' + 2) :: r.map sgi
    rw [ht'', List.map_append, List.map_append, ha, hb, ← sgi_join]
    have : s' = s + n + 2 := by omega
    simp [ft, h, this]
  · intro s n s' n' r h h' kr st ht
    rw [(pick_32 h (by omega)).1, (pick_32 h (by omega)).2]
    obtain ⟨a, st', rfl, ha, ht'⟩ := told_cons ht
    refine ⟨?_, fun x => by simp [applyC, or_assoc, or_left_comm]⟩
    show (a ++ [t]).map f :: st'.map (·.map f) = sgi (s, n + 1) :: ((s', n') :: r).map sgi
    rw [ht', List.map_append, ha, ← sgi_snoc]
    simp [ft, h]
  · intro s n r h kr nmr ih st ht
    rw [(pick_4 h).1, (pick_4 h).2]
    obtain ⟨a, st', rfl, ha, ht'⟩ := told_cons ht
    obtain ⟨i1, i2⟩ := ih st' ht'
    rw [applyC_shift]
    refine ⟨?_, fun x => ?_⟩
    · show a.map f :: (applyC t (pick p r) st').map (·.map f) = sgi (s, n) :: (add p r).map sgi
      rw [ha, i1]
    · rw [List.flatten_cons, List.flatten_cons, List.mem_append, List.mem_append, i2 x, or_left_comm]
end OgM

namespace OgM
/-! ### the empty plots between the segments -/
def holesI : Int → List Seg → List Int
  | _, [] => []
  | b, x :: r => (x.1 - b) :: holesI (x.1 + x.2 + 1) r
def endB : Int → List Seg → Int
  | b, [] => b
  | _, x :: r => endB (x.1 + x.2 + 1) r
def holes (count : Int) (g : List Seg) : List Int := holesI 0 g ++ [count - endB 0 g]
theorem holesI_snoc : ∀ (b : Int) (g : List Seg) (x : Seg), holesI b (g ++ [x]) = holesI b g ++ [x.1 - endB b g]
  | b, [], x => rfl
  | b, y :: r, x => by
    show (y.1 - b) :: holesI _ (r ++ [x]) = (y.1 - b) :: (holesI _ r ++ [x.1 - endB _ r])
    rw [holesI_snoc]
theorem endB_snoc : ∀ (b : Int) (g : List Seg) (x : Seg), endB b (g ++ [x]) = x.1 + x.2 + 1
  | b, [], x => rfl
  | b, y :: r, x => by
    show endB _ (r ++ [x]) = _
    rw [endB_snoc]
theorem holesI_len : ∀ (b : Int) (g : List Seg), (holesI b g).length = g.length
  | _, [] => rfl
  | _, x :: r => by
    show (holesI _ r).length + 1 = r.length + 1
    rw [holesI_len]
theorem holesI_pos : ∀ {g : List Seg} {b : Int}, Ok b g → ∀ x ∈ holesI b g, 1 ≤ x
  | [], _, _, x, h => absurd h (by simp [holesI])
  | y :: r, b, k, x, h => by
    have k1 := k.1
    rcases List.mem_cons.mp h with e | h
    · omega
    · exact holesI_pos k.2 x h
theorem holesI_top {g : List Seg} (k : Ok (-1) g) : ∀ (i : Nat) x, (holesI 0 g)[i]? = some x → 0 ≤ x ∧ (1 ≤ i → 1 ≤ x) := by
  intro i x h
  cases g with
  | nil => simp [holesI] at h
  | cons y r =>
    have k1 := k.1
    cases i with
    | zero =>
      have e : y.1 - 0 = x := Option.some.inj h
      exact ⟨by omega, fun q => absurd q (by omega)⟩
    | succ j =>
      have h' : (holesI (y.1 + y.2 + 1) r)[j]? = some x := h
      have q := holesI_pos k.2 x (List.mem_of_getElem? h')
      exact ⟨by omega, fun _ => q⟩
theorem endB_le : ∀ {g : List Seg} {b c : Int}, b ≤ c → (∀ q, Mem q g → q < c) → endB b g ≤ c
  | [], b, c, h, _ => h
  | x :: r, b, c, h, k => by
    have q : x.1 + x.2 < c := k _ (mem_cons.mpr (.inl ⟨by omega, Int.le_refl _⟩))
    exact endB_le (b := x.1 + x.2 + 1) (by omega) fun q m => k q (mem_cons.mpr (.inr m))
/-! ### the same, off a rising list -/
def diffs : List Int → List Int
  | x :: y :: r => (y - x) :: diffs (y :: r)
  | _ => []
theorem diffs_len : ∀ l : List Int, (diffs l).length = l.length - 1
  | [] => rfl
  | [_] => rfl
  | x :: y :: r => by
    show (diffs (y :: r)).length + 1 = _
    rw [diffs_len (y :: r)]
    simp
theorem diffs_get : ∀ (l : List Int) (i : Nat) (x y : Int), l[i]? = some x → l[i + 1]? = some y → (diffs l)[i]? = some (y - x)
  | [], i, x, y, h, _ => by simp at h
  | [a], i, x, y, h, h2 => by simp at h2
  | a :: b :: r, 0, x, y, h, h2 => by
    have e1 : a = x := Option.some.inj h
    have e2 : b = y := Option.some.inj h2
    subst e1 e2
    rfl
  | a :: b :: r, i + 1, x, y, h, h2 => diffs_get (b :: r) i x y h h2
theorem diffs_snoc : ∀ (l : List Int) (z p : Int), l.getLast? = some z → diffs (l ++ [p]) = diffs l ++ [p - z]
  | [], z, p, h => by simp at h
  | [a], z, p, h => by
    have e : a = z := Option.some.inj h
    subst e
    rfl
  | a :: b :: r, z, p, h => by
    rw [List.getLast?_cons_cons] at h
    show (b - a) :: diffs (b :: r ++ [p]) = _
    rw [diffs_snoc (b :: r) z p h]
    rfl
def inner (l : List Int) : List Int := ((diffs l).filter fun d => decide (1 < d)).map fun d => d - 1
theorem getLast_snoc {α : Type} (l : List α) (x : α) : (l ++ [x]).getLast? = some x := by simp
theorem rise_holes : ∀ {l : List Int}, l.Pairwise (· < ·) → ∀ a z, l.head? = some a → l.getLast? = some z →
    holesI 0 (segs l) = a :: inner l ∧ endB 0 (segs l) = z + 1 ∧ ∃ (g : List Seg) (s : Int) (n : Nat), segs l = g ++ [(s, n)] ∧ s + (n : Int) = z := by
  intro l
  induction l using snoc_ind with
  | h0 => exact fun _ a z h => absurd h (by simp)
  | h1 l p ih =>
    intro hp a z ha hz
    rw [getLast_snoc] at hz
    have ez : p = z := Option.some.inj hz
    subst ez
    rw [List.pairwise_append] at hp
    obtain ⟨h1, _, h3⟩ := hp
    have h3' : ∀ q ∈ l, q < p := fun q hq => h3 q hq p (by simp)
    rw [segs_rise h1 h3']
    cases l with
    | nil =>
      have e : p = a := Option.some.inj ha
      subst e
      exact ⟨by simp [segs, runStep, holesI, inner, diffs], by simp [segs, runStep, endB], [], p, 0, by simp [segs, runStep], by simp⟩
    | cons y r =>
      have ea : y = a := Option.some.inj ha
      subst ea
      obtain ⟨z0, hz0⟩ : ∃ z0, (y :: r).getLast? = some z0 := ⟨_, List.getLast?_eq_getLast (List.cons_ne_nil y r)⟩
      obtain ⟨i1, i2, g, s, n, i3, i4⟩ := ih h1 y z0 rfl hz0
      have lt : z0 < p := h3' z0 (List.mem_of_getLast? hz0)
      have ed : diffs (y :: r ++ [p]) = diffs (y :: r) ++ [p - z0] := diffs_snoc _ _ _ hz0
      have hin : ∀ t, t = p - z0 → inner (y :: r ++ [p]) = inner (y :: r) ++ (if 1 < t then [t - 1] else []) := fun t et => by
        unfold inner
        rw [ed, List.filter_append, List.map_append, ← et]
        split <;> simp_all
      unfold runStep
      rw [i3, getLast_snoc]
      show holesI 0 (if s + n = p - 1 then (g ++ [(s, n)]).dropLast ++ [(s, n + 1)] else g ++ [(s, n)] ++ [(p, 0)]) = _ ∧ endB 0 (if s + n = p - 1 then (g ++ [(s, n)]).dropLast ++ [(s, n + 1)] else g ++ [(s, n)] ++ [(p, 0)]) = _ ∧
        ∃ (g' : List Seg) (s' : Int) (n' : Nat), (if s + n = p - 1 then (g ++ [(s, n)]).dropLast ++ [(s, n + 1)] else g ++ [(s, n)] ++ [(p, 0)]) = g' ++ [(s', n')] ∧ s' + (n' : Int) = p
      rw [List.dropLast_concat]
      rw [i3] at i1 i2
      by_cases e : s + n = p - 1
      · rw [if_pos e, hin 1 (by omega), holesI_snoc, endB_snoc]
        rw [holesI_snoc] at i1
        refine ⟨?_, by show s + ((n + 1 : Nat) : Int) + 1 = _; omega, g, s, n + 1, rfl, by omega⟩
        rw [if_neg (by omega), List.append_nil]
        exact i1
      · rw [if_neg e, hin (p - z0) rfl, holesI_snoc, i1, i2, endB_snoc]
        refine ⟨?_, by show p + ((0 : Nat) : Int) + 1 = _; omega, _, p, 0, rfl, by simp⟩
        rw [if_pos (by omega)]
        show y :: inner (y :: r) ++ [p - (z0 + 1)] = y :: (inner (y :: r) ++ [p - z0 - 1])
        rw [show p - (z0 + 1) = p - z0 - 1 by omega]
        rfl
theorem rise_of {l k : List Int} (hn : l.Nodup) (hp : k.Perm l) (hs : k.Pairwise (· ≤ ·)) : k.Pairwise (· < ·) := by
  have nk : k.Nodup := hp.nodup_iff.mpr hn
  exact (hs.and nk).imp fun {a b} h => by have := h.1; have := h.2; omega
theorem add_len : ∀ (p : Int) (g : List Seg), (add p g).length ≤ g.length + 1
  | p, [] => by simp [add]
  | p, (s, n) :: r => by
    unfold add
    split
    · simp
    · split
      · simp
      · split
        · cases r with
          | nil => simp
          | cons y r' =>
            obtain ⟨s', n'⟩ := y
            show (if s' = p + 1 then (s, n + n' + 2) :: r' else (s, n + 1) :: (s', n') :: r').length ≤ _
            split <;> simp <;> omega
        · have := add_len p r
          simp
          omega
theorem segs_len (l : List Int) : (segs l).length ≤ l.length := by
  induction l using snoc_ind with
  | h0 => simp [segs]
  | h1 l p ih =>
    rw [segs_snoc, List.length_append]
    have := add_len p (segs l)
    simp
    omega
def size : List Seg → Nat
  | [] => 0
  | x :: r => x.2 + 1 + size r
theorem size_add : ∀ (p : Int) (g : List Seg), size (add p g) = size g + 1
  | p, [] => rfl
  | p, (s, n) :: r => by
    unfold add
    split
    · show 0 + 1 + (n + 1 + size r) = n + 1 + size r + 1
      omega
    · split
      · show n + 1 + 1 + size r = n + 1 + size r + 1
        omega
      · split
        · cases r with
          | nil => rfl
          | cons y r' =>
            obtain ⟨s', n'⟩ := y
            show size (if s' = p + 1 then (s, n + n' + 2) :: r' else (s, n + 1) :: (s', n') :: r') = n + 1 + (n' + 1 + size r') + 1
            split
            · show n + n' + 2 + 1 + size r' = _
              omega
            · show n + 1 + 1 + (n' + 1 + size r') = _
              omega
        · show n + 1 + size (add p r) = n + 1 + size r + 1
          rw [size_add p r]
          omega
theorem segs_size (l : List Int) : size (segs l) = l.length := by
  induction l using snoc_ind with
  | h0 => rfl
  | h1 l p ih =>
    rw [segs_snoc, size_add, ih]
    simp
theorem size_mem : ∀ {g : List Seg} {x : Seg}, x ∈ g → x.2 + 1 ≤ size g
  | y :: r, x, h => by
    rcases List.mem_cons.mp h with e | h
    · subst e
      show x.2 + 1 ≤ x.2 + 1 + size r
      omega
    · have := size_mem h
      show x.2 + 1 ≤ y.2 + 1 + size r
      omega
/-! ### a row's choices -/
def picks (row : List Int) : List Ch := (List.range row.length).map fun i => pick (row.getD i 0) (segs (row.take i))
theorem picks_len (row : List Int) : (picks row).length = row.length := by simp [picks]
structure Row (n : Int) (row : List Int) : Prop where
  nd : row.Nodup
  lo : ∀ p ∈ row, 0 ≤ p
  hi : ∀ p ∈ row, p < n
theorem Row.take {n : Int} {row : List Int} (h : Row n row) (i : Nat) : Row n (row.take i) :=
  ⟨h.nd.sublist (List.take_sublist _ _), fun p q => h.lo p (List.mem_of_mem_take q), fun p q => h.hi p (List.mem_of_mem_take q)⟩
theorem Row.ok {n : Int} {row : List Int} (h : Row n row) : Ok (-1) (segs row) ∧ ∀ q, Mem q (segs row) ↔ q ∈ row :=
  segs_ok h.nd fun p hp => by have := h.lo p hp; omega
theorem Row.fresh {n : Int} {row : List Int} (h : Row n row) {i : Nat} {p : Int} (e : row[i]? = some p) : p ∉ row.take i := by
  intro m
  obtain ⟨j, hj⟩ := List.getElem?_of_mem m
  rw [List.getElem?_take] at hj
  split at hj
  · rename_i lt
    obtain ⟨a, ea⟩ := List.getElem?_eq_some_iff.mp e
    obtain ⟨b, eb⟩ := List.getElem?_eq_some_iff.mp hj
    have := (List.getElem_inj h.nd).mp (eb.trans ea.symm)
    omega
  · cases hj
theorem take_snoc {row : List Int} {i : Nat} {p : Int} (e : row[i]? = some p) : row.take (i + 1) = row.take i ++ [p] := by
  rw [List.take_add_one, e]
  rfl
theorem Row.says {n : Int} {row : List Int} (h : Row n row) {i : Nat} {p : Int} (e : row[i]? = some p) : Says p (segs (row.take i)) (pick p (segs (row.take i))) :=
  OgM.says (h.take i).ok.1 fun m => h.fresh e (((h.take i).ok.2 p).mp m)
theorem Row.segs {n : Int} {row : List Int} (h : Row n row) {i : Nat} {p : Int} (e : row[i]? = some p) : segs (row.take (i + 1)) = add p (segs (row.take i)) := by
  rw [take_snoc e, segs_snoc]
theorem picks_get {row : List Int} {i : Nat} {p : Int} (e : row[i]? = some p) : (picks row)[i]? = some (pick p (segs (row.take i))) := by
  have hi := (List.getElem?_eq_some_iff.mp e).1
  unfold picks
  rw [List.getElem?_map, List.getElem?_range hi]
  show some (pick (row.getD i 0) _) = some _
  rw [List.getD_eq_getElem?_getD, e]
  rfl
/-- the ends of the segments, counted on the list -/
theorem ends_up : ∀ {g : List Seg} {lo : Int}, Ok lo g → (g.map fun x => x.1 + (x.2 : Int)).Nodup ∧ (∀ q, q ∈ (g.map fun x => x.1 + (x.2 : Int)) ↔ Mem q g ∧ ¬ Mem (q + 1) g) ∧ ∀ q ∈ (g.map fun x => x.1 + (x.2 : Int)), lo < q
  | [], _, _ => ⟨List.nodup_nil, fun q => by simp [mem_nil], by simp⟩
  | (s, n) :: r, lo, k => by
    have k1 : lo < s := k.1
    have k2 : Ok (s + n + 1) r := k.2
    obtain ⟨i1, i2, i3⟩ := ends_up k2
    refine ⟨?_, fun q => ?_, fun q hq => ?_⟩
    · rw [List.map_cons, List.nodup_cons]
      refine ⟨fun m => ?_, i1⟩
      have := i3 _ m
      simp only at this
      omega
    · rw [List.map_cons, List.mem_cons, i2 q, mem_cons, mem_cons]
      simp only
      constructor
      · rintro (e | ⟨e1, e2⟩)
        · refine ⟨.inl (by omega), ?_⟩
          rintro (f | f)
          · omega
          · have := ok_lt k2 f
            omega
        · refine ⟨.inr e1, ?_⟩
          rintro (f | f)
          · have := ok_lt k2 e1
            omega
          · exact e2 f
      · rintro ⟨e1 | e1, e2⟩
        · refine .inl ?_
          by_cases z : q = s + n
          · exact z
          · exact absurd (.inl (by omega)) e2
        · exact .inr ⟨e1, fun f => e2 (.inr f)⟩
    · rw [List.map_cons, List.mem_cons] at hq
      rcases hq with e | hq
      · simp only at e; omega
      · have := i3 q hq; omega
theorem left_count {l : List Int} (hn : l.Nodup) (p : Int) : (l.filter fun q => decide (q < p) && !decide (q + 1 ∈ l)).length = left p (segs l) := by
  obtain ⟨lo, hl⟩ := lower l
  obtain ⟨k, km⟩ := segs_ok hn hl
  obtain ⟨i1, i2, _⟩ := ends_up k
  have e1 : left p (segs l) = (((segs l).map fun x => x.1 + (x.2 : Int)).filter fun q => decide (q < p)).length := by
    unfold left
    rw [List.filter_map, List.length_map]
    rfl
  rw [e1]
  refine ((List.perm_ext_iff_of_nodup (hn.filter _) (i1.filter _)).mpr fun q => ?_).length_eq
  rw [List.mem_filter, List.mem_filter, i2 q, km q, km (q + 1)]
  simp
  exact ⟨fun ⟨a, b, c⟩ => ⟨⟨a, c⟩, b⟩, fun ⟨⟨a, c⟩, b⟩ => ⟨a, b, c⟩⟩
end OgM

namespace OgM
def nearB (p : Int) (x : Seg) : Bool := decide (p - 1 = x.1 + x.2) || decide (p + 1 = x.1)
def near (p : Int) (g : List Seg) : List Nat := (List.range g.length).filter fun i => nearB p (g.getD i (0, 0))
theorem near_cons (p : Int) (x : Seg) (g : List Seg) : near p (x :: g) = (if nearB p x then [0] else []) ++ (near p g).map (· + 1) := by
  unfold near
  rw [List.length_cons, List.range_succ_eq_map, List.filter_cons]
  have e : (List.map Nat.succ (List.range g.length)).filter (fun i => nearB p ((x :: g).getD i (0, 0))) = ((List.range g.length).filter fun i => nearB p (g.getD i (0, 0))).map (· + 1) := by
    rw [List.filter_map]
    rfl
  rw [e]
  show (if nearB p x = true then _ else _) = _
  split <;> simp_all
theorem near_nil : ∀ {g : List Seg} {lo p : Int}, Ok lo g → p + 1 ≤ lo → near p g = []
  | [], _, _, _, _ => rfl
  | (s, n) :: r, lo, p, k, h => by
    have k1 : lo < s := k.1
    have k2 : Ok (s + n + 1) r := k.2
    rw [near_cons, near_nil k2 (by omega)]
    have : nearB p (s, n) = false := by
      simp only [nearB, Bool.or_eq_false_iff, decide_eq_false_iff_not]
      omega
    rw [this]
    rfl
/-- near the new plot -/
structure Near (p : Int) (g : List Seg) (c : Ch) : Prop where
  n1 : c.1 = .new → near p g = [] 
  n2 : c.1 = .between → near p g = [c.2, c.2 + 1]
  n3 : c.1 = .beside → ∃ x : Seg, near p g = [c.2 / 2] ∧ g[c.2 / 2]? = some x ∧ c.2 = 2 * (c.2 / 2) + (if x.1 + x.2 < p then 1 else 0)
theorem nears {g : List Seg} {lo p : Int} (k : Ok lo g) (nm : ¬ Mem p g) : Near p g (pick p g) := by
  refine way (C := fun g => Near p g (pick p g)) ?_ ?_ ?_ ?_ ?_ ?_ ?_ k nm
  · exact ⟨fun _ => rfl, fun h => by simp [pick] at h, fun h => by simp [pick] at h⟩
  · intro s n r h kr
    rw [(pick_1 h).1]
    refine ⟨fun _ => ?_, fun h => by simp at h, fun h => by simp at h⟩
    rw [near_cons, near_nil kr (by omega)]
    have : nearB p (s, n) = false := by
      simp only [nearB, Bool.or_eq_false_iff, decide_eq_false_iff_not]
      omega
    rw [this]
    rfl
  · intro s n r h kr
    rw [(pick_2 h).1]
    refine ⟨fun h => by simp at h, fun h => by simp at h, fun _ => ⟨(s, n), ?_, rfl, ?_⟩⟩
    · rw [near_cons, near_nil kr (by omega)]
      have : nearB p (s, n) = true := by
        simp only [nearB, Bool.or_eq_true, decide_eq_true_eq]
        omega
      rw [this]
      rfl
    · show 0 = 2 * (0 / 2) + if s + (n : Int) < p then 1 else 0
      rw [if_neg (by omega)]
  · intro s n h
    rw [(pick_30 h).1]
    refine ⟨fun h => by simp at h, fun h => by simp at h, fun _ => ⟨(s, n), ?_, rfl, ?_⟩⟩
    · rw [near_cons]
      have : nearB p (s, n) = true := by
        simp only [nearB, Bool.or_eq_true, decide_eq_true_eq]
        omega
      rw [this]
      rfl
    · show 1 = 2 * (1 / 2) + if s + (n : Int) < p then 1 else 0
      rw [if_pos (by omega)]
  · intro s n s' n' r h h' kr
    rw [(pick_31 h h').1]
    refine ⟨fun h => by simp at h, fun _ => ?_, fun h => by simp at h⟩
    rw [near_cons, near_cons, near_nil kr (by omega)]
    have t1 : nearB p (s, n) = true := by
      simp only [nearB, Bool.or_eq_true, decide_eq_true_eq]
      omega
    have t2 : nearB p (s', n') = true := by
      simp only [nearB, Bool.or_eq_true, decide_eq_true_eq]
      omega
    rw [t1, t2]
    rfl
  · intro s n s' n' r h h' kr
    rw [(pick_32 h (by omega)).1]
    refine ⟨fun h => by simp at h, fun h => by simp at h, fun _ => ⟨(s, n), ?_, rfl, ?_⟩⟩
    · rw [near_cons, near_cons, near_nil kr (by omega)]
      have t1 : nearB p (s, n) = true := by
        simp only [nearB, Bool.or_eq_true, decide_eq_true_eq]
        omega
      have t2 : nearB p (s', n') = false := by
        simp only [nearB, Bool.or_eq_false_iff, decide_eq_false_iff_not]
        omega
      rw [t1, t2]
      rfl
    · show 1 = 2 * (1 / 2) + if s + (n : Int) < p then 1 else 0
      rw [if_pos (by omega)]
  · intro s n r h kr nmr ih
    rw [(pick_4 h).1]
    have t1 : nearB p (s, n) = false := by
      simp only [nearB, Bool.or_eq_false_iff, decide_eq_false_iff_not]
      omega
    have nc : near p ((s, n) :: r) = (near p r).map (· + 1) := by
      rw [near_cons, t1]
      rfl
    generalize pick p r = c at ih
    obtain ⟨w, m⟩ := c
    cases w with
    | new =>
      refine ⟨fun _ => ?_, fun h => by simp [shift] at h, fun h => by simp [shift] at h⟩
      rw [nc, ih.n1 rfl]
      rfl
    | between =>
      refine ⟨fun h => by simp [shift] at h, fun _ => ?_, fun h => by simp [shift] at h⟩
      rw [nc, ih.n2 rfl]
      rfl
    | beside =>
      refine ⟨fun h => by simp [shift] at h, fun h => by simp [shift] at h, fun _ => ?_⟩
      obtain ⟨x, e1, e2, e3⟩ := ih.n3 rfl
      simp only at e1 e2 e3
      have e4 : (m + 2) / 2 = m / 2 + 1 := by omega
      refine ⟨x, ?_, ?_, ?_⟩
      · rw [nc, e1]
        show [m / 2 + 1] = [(m + 2) / 2]
        rw [e4]
      · show ((s, n) :: r)[(m + 2) / 2]? = some x
        rw [e4]
        exact e2
      · show m + 2 = 2 * ((m + 2) / 2) + _
        rw [e4]
        omega
theorem range_filter_len {α : Type} (P : α → Bool) (d : α) : ∀ g : List α, ((List.range g.length).filter fun i => P (g.getD i d)).length = (g.filter P).length
  | [] => rfl
  | x :: r => by
    rw [List.length_cons, List.range_succ_eq_map, List.filter_cons, List.filter_cons, List.filter_map]
    have ih := range_filter_len P d r
    have e : ((List.range r.length).filter ((fun i => P ((x :: r).getD i d)) ∘ Nat.succ)).length = (r.filter P).length := ih
    show (if P x = true then _ else _ : List Nat).length = (if P x = true then _ else _ : List α).length
    split
    · rw [List.length_cons, List.length_cons, List.length_map, e]
    · rw [List.length_map, e]
theorem range_filter_map {α : Type} (P : α → Bool) (d : α) : ∀ g : List α, ((List.range g.length).filter fun i => P (g.getD i d)).map (fun i => g.getD i d) = g.filter P
  | [] => rfl
  | x :: r => by
    rw [List.length_cons, List.range_succ_eq_map, List.filter_cons, List.filter_cons, List.filter_map]
    have ih := range_filter_map P d r
    have e : (((List.range r.length).filter ((fun i => P ((x :: r).getD i d)) ∘ Nat.succ)).map Nat.succ).map (fun i => (x :: r).getD i d) = r.filter P := by
      rw [List.map_map]
      exact ih
    show (if P x = true then _ else _ : List Nat).map _ = (if P x = true then _ else _ : List α)
    split
    · rw [List.map_cons, e]
      rfl
    · exact e
theorem filter_ne_len {l : List Int} (h : l.Nodup) {z : Int} (m : z ∈ l) : (l.filter (· != z)).length + 1 = l.length := by
  rw [← h.erase_eq_filter, List.length_erase_of_mem m]
  have := List.length_pos_of_mem m
  omega
def Wd.ix : Wd → Nat
  | .new => 0
  | .beside => 1
  | .between => 2
def b1 (c : Bool) : Nat := if c then 1 else 0
theorem nb_pick {l : List Int} (hn : l.Nodup) {p : Int} (hp : p ∉ l) : b1 (decide (p - 1 ∈ l)) + b1 (decide (p + 1 ∈ l)) = (pick p (segs l)).1.ix := by
  obtain ⟨lo, hl⟩ := lower l
  obtain ⟨k, km⟩ := segs_ok hn hl
  have S := says k (p := p) fun m => hp ((km p).mp m)
  have e1 := S.new
  have e2 := S.btw
  rw [km, km] at e1 e2
  by_cases a : p - 1 ∈ l <;> by_cases b : p + 1 ∈ l
  · rw [e2.mpr ⟨a, b⟩, decide_eq_true a, decide_eq_true b]
    rfl
  · have : (pick p (segs l)).1 = .beside := by
      cases h : (pick p (segs l)).1 with
      | new => exact absurd a (e1.mp h).1
      | beside => rfl
      | between => exact absurd (e2.mp h).2 b
    rw [this, decide_eq_true a, decide_eq_false b]
    rfl
  · have : (pick p (segs l)).1 = .beside := by
      cases h : (pick p (segs l)).1 with
      | new => exact absurd b (e1.mp h).2
      | beside => rfl
      | between => exact absurd (e2.mp h).1 a
    rw [this, decide_eq_false a, decide_eq_true b]
    rfl
  · rw [e1.mpr ⟨a, b⟩, decide_eq_false a, decide_eq_false b]
    rfl
end OgM

namespace OgM
def Valid (c : Ch) (n : Nat) : Prop :=
  match c.1 with
  | .new => c.2 ≤ n
  | .beside => c.2 < 2 * n
  | .between => c.2 + 1 < n
def stAt (cs : List Ch) : Nat → List (List Nat)
  | 0 => []
  | i + 1 => applyC i (cs.getD i (.new, 0)) (stAt cs i)
def VCh (cs : List Ch) : Prop := ∀ i c, cs[i]? = some c → Valid c (stAt cs i).length
theorem flat_cut (st : List (List Nat)) (k : Nat) : (st.take k).flatten.length + (st.drop k).flatten.length = st.flatten.length := by
  rw [← List.length_append, ← List.flatten_append, List.take_append_drop]
theorem getD_at {α : Type} {l : List α} {j : Nat} {x d : α} (h : l[j]? = some x) : l.getD j d = x := by
  rw [List.getD_eq_getElem?_getD, h]
  rfl
theorem drop_at {α : Type} {l : List α} {j : Nat} {x : α} (h : l[j]? = some x) : l.drop j = x :: l.drop (j + 1) := by
  obtain ⟨a, e⟩ := List.getElem?_eq_some_iff.mp h
  rw [← e]
  exact List.drop_eq_getElem_cons a
theorem apply_size {c : Ch} {st : List (List Nat)} (t : Nat) (h : Valid c st.length) : (applyC t c st).flatten.length = st.flatten.length + 1 ∧ ((applyC t c st).length : Int) = st.length + c.1.step := by
  obtain ⟨w, k⟩ := c
  cases w with
  | new =>
    have h' : k ≤ st.length := h
    have e := flat_cut st k
    constructor
    · show (st.take k ++ [[t]] ++ st.drop k).flatten.length = _
      simp only [List.flatten_append, List.length_append, List.flatten_cons, List.flatten_nil, List.length_cons, List.length_nil]
      omega
    · show ((st.take k ++ [[t]] ++ st.drop k).length : Int) = st.length + 1
      simp only [List.length_append, List.length_take, List.length_drop, List.length_cons, List.length_nil]
      omega
  | between =>
    have h' : k + 1 < st.length := h
    have e := flat_cut st k
    have a1 : st[k]? = some (st[k]'(by omega)) := List.getElem?_eq_getElem _
    have a2 : st[k + 1]? = some (st[k + 1]'h') := List.getElem?_eq_getElem _
    rw [drop_at a1, drop_at a2, show k + 1 + 1 = k + 2 from rfl] at e
    simp only [List.flatten_cons, List.length_append] at e
    constructor
    · show (st.take k ++ [(st.getD k []) ++ [t] ++ (st.getD (k + 1) [])] ++ st.drop (k + 2)).flatten.length = _
      rw [getD_at a1, getD_at a2]
      simp only [List.flatten_append, List.length_append, List.flatten_cons, List.flatten_nil, List.length_cons, List.length_nil]
      omega
    · show ((st.take k ++ [(st.getD k []) ++ [t] ++ (st.getD (k + 1) [])] ++ st.drop (k + 2)).length : Int) = st.length + -1
      simp only [List.length_append, List.length_take, List.length_drop, List.length_cons, List.length_nil]
      omega
  | beside =>
    have h' : k < 2 * st.length := h
    have hj : k / 2 < st.length := by omega
    have e := flat_cut st (k / 2)
    have a1 : st[k / 2]? = some (st[k / 2]'hj) := List.getElem?_eq_getElem _
    rw [drop_at a1] at e
    simp only [List.flatten_cons, List.length_append] at e
    show (if k % 2 = 0 then st.set (k / 2) (t :: st.getD (k / 2) []) else st.set (k / 2) (st.getD (k / 2) [] ++ [t])).flatten.length = _ ∧ ((if k % 2 = 0 then st.set (k / 2) (t :: st.getD (k / 2) []) else st.set (k / 2) (st.getD (k / 2) [] ++ [t])).length : Int) = st.length + 0
    rw [getD_at a1]
    split
    · rw [List.length_set, List.set_eq_take_append_cons_drop, if_pos hj]
      simp only [List.flatten_append, List.length_append, List.flatten_cons, List.length_cons]
      omega
    · rw [List.length_set, List.set_eq_take_append_cons_drop, if_pos hj]
      simp only [List.flatten_append, List.length_append, List.flatten_cons, List.length_cons, List.length_nil]
      omega
theorem st_size {cs : List Ch} (v : VCh cs) : ∀ i, i ≤ cs.length → (stAt cs i).flatten.length = i ∧ (stAt cs i).length ≤ i
  | 0, _ => ⟨rfl, Nat.le_refl _⟩
  | i + 1, h => by
    obtain ⟨h1, h2⟩ := st_size v i (by omega)
    have e : cs[i]? = some (cs[i]'h) := List.getElem?_eq_getElem _
    have q := apply_size i (v i _ e)
    show (applyC i (cs.getD i (.new, 0)) (stAt cs i)).flatten.length = i + 1 ∧ (applyC i (cs.getD i (.new, 0)) (stAt cs i)).length ≤ i + 1
    rw [getD_at e]
    refine ⟨by omega, ?_⟩
    have : (cs[i]'h).1.step ≤ 1 := by cases (cs[i]'h).1 <;> decide
    omega
theorem inner_len {st : List (List Nat)} {j : Nat} {ts : List Nat} (h : st[j]? = some ts) : ts.length ≤ st.flatten.length := by
  have e := flat_cut st j
  rw [drop_at h] at e
  simp only [List.flatten_cons, List.length_append] at e
  omega
/-- a row's choices are valid, and their groups are its segments -/
theorem picks_told {n : Int} {row : List Int} (h : Row n row) : ∀ i, i ≤ row.length → Told (fun t => row.getD t 0) (stAt (picks row) i) (OgM.segs (row.take i)) ∧ ∀ x, x ∈ (stAt (picks row) i).flatten ↔ x < i
  | 0, _ => ⟨by simp [Told, stAt, OgM.segs], fun x => by simp [stAt]⟩
  | i + 1, hi => by
    obtain ⟨h1, h2⟩ := picks_told h i (by omega)
    have e : row[i]? = some (row[i]'hi) := List.getElem?_eq_getElem _
    have q := told_add (f := fun t => row.getD t 0) (t := i) (p := row[i]'hi) (getD_at e) (h.take i).ok.1 (fun m => h.fresh e (((h.take i).ok.2 _).mp m)) _ h1
    show Told _ (applyC i ((picks row).getD i (.new, 0)) (stAt (picks row) i)) _ ∧ ∀ x, x ∈ (applyC i ((picks row).getD i (.new, 0)) (stAt (picks row) i)).flatten ↔ x < i + 1
    rw [getD_at (picks_get e), h.segs e]
    refine ⟨q.1, fun x => ?_⟩
    rw [q.2 x, h2 x]
    omega
theorem picks_valid {n : Int} {row : List Int} (h : Row n row) : VCh (picks row) := by
  intro i c e
  have hi := (List.getElem?_eq_some_iff.mp e).1
  rw [picks_len] at hi
  have er : row[i]? = some (row[i]'hi) := List.getElem?_eq_getElem _
  rw [picks_get er] at e
  have ec := Option.some.inj e
  obtain ⟨h1, _⟩ := picks_told h i (by omega)
  have hl : (stAt (picks row) i).length = (OgM.segs (row.take i)).length := by
    have := congrArg List.length h1
    simpa using this
  rw [hl]
  have S := h.says er
  rw [ec] at S
  obtain ⟨w, k⟩ := c
  cases w with
  | new => exact (S.n1 rfl).2
  | between => exact (S.n2 rfl).2
  | beside =>
    by_cases m : Mem (row[i]'hi - 1) (OgM.segs (row.take i))
    · exact (S.n3 rfl m).2
    · exact (S.n4 rfl m).2
theorem apply_mem {c : Ch} {st : List (List Nat)} (t : Nat) (h : Valid c st.length) (x : Nat) : x ∈ (applyC t c st).flatten ↔ x = t ∨ x ∈ st.flatten := by
  have cut : ∀ k, x ∈ st.flatten ↔ x ∈ (st.take k).flatten ∨ x ∈ (st.drop k).flatten := fun k => by
    rw [← List.mem_append, ← List.flatten_append, List.take_append_drop]
  obtain ⟨w, k⟩ := c
  cases w with
  | new =>
    show x ∈ (st.take k ++ [[t]] ++ st.drop k).flatten ↔ _
    rw [cut k]
    simp only [List.flatten_append, List.mem_append, List.flatten_cons, List.flatten_nil, List.mem_singleton, List.append_nil]
    constructor
    · rintro ((a | a) | a)
      · exact .inr (.inl a)
      · exact .inl a
      · exact .inr (.inr a)
    · rintro (a | a | a)
      · exact .inl (.inr a)
      · exact .inl (.inl a)
      · exact .inr a
  | between =>
    have h' : k + 1 < st.length := h
    have a1 : st[k]? = some (st[k]'(by omega)) := List.getElem?_eq_getElem _
    have a2 : st[k + 1]? = some (st[k + 1]'h') := List.getElem?_eq_getElem _
    show x ∈ (st.take k ++ [(st.getD k []) ++ [t] ++ (st.getD (k + 1) [])] ++ st.drop (k + 2)).flatten ↔ _
    rw [cut k, drop_at a1, drop_at a2, show k + 1 + 1 = k + 2 from rfl, getD_at a1, getD_at a2]
    simp only [List.flatten_append, List.mem_append, List.flatten_cons, List.flatten_nil, List.mem_singleton, List.append_nil]
    constructor
    · rintro ((a | ((a | a) | a)) | a)
      · exact .inr (.inl a)
      · exact .inr (.inr (.inl a))
      · exact .inl a
      · exact .inr (.inr (.inr (.inl a)))
      · exact .inr (.inr (.inr (.inr a)))
    · rintro (a | a | a | a | a)
      · exact .inl (.inr (.inl (.inr a)))
      · exact .inl (.inl a)
      · exact .inl (.inr (.inl (.inl a)))
      · exact .inl (.inr (.inr a))
      · exact .inr a
  | beside =>
    have h' : k < 2 * st.length := h
    have hj : k / 2 < st.length := by omega
    have a1 : st[k / 2]? = some (st[k / 2]'hj) := List.getElem?_eq_getElem _
    show x ∈ (if k % 2 = 0 then st.set (k / 2) (t :: st.getD (k / 2) []) else st.set (k / 2) (st.getD (k / 2) [] ++ [t])).flatten ↔ _
    rw [cut (k / 2), drop_at a1, getD_at a1]
    split
    · rw [List.set_eq_take_append_cons_drop, if_pos hj]
      simp only [List.flatten_append, List.mem_append, List.flatten_cons, List.mem_cons]
      constructor
      · rintro (a | (a | a) | a)
        · exact .inr (.inl a)
        · exact .inl a
        · exact .inr (.inr (.inl a))
        · exact .inr (.inr (.inr a))
      · rintro (a | a | a | a)
        · exact .inr (.inl (.inl a))
        · exact .inl a
        · exact .inr (.inl (.inr a))
        · exact .inr (.inr a)
    · rw [List.set_eq_take_append_cons_drop, if_pos hj]
      simp only [List.flatten_append, List.mem_append, List.flatten_cons, List.mem_singleton]
      constructor
      · rintro (a | (a | a) | a)
        · exact .inr (.inl a)
        · exact .inr (.inr (.inl a))
        · exact .inl a
        · exact .inr (.inr (.inr a))
      · rintro (a | a | a | a)
        · exact .inr (.inl (.inr a))
        · exact .inl a
        · exact .inr (.inl (.inl a))
        · exact .inr (.inr a)
theorem st_mem {cs : List Ch} (v : VCh cs) : ∀ i, i ≤ cs.length → ∀ x, x ∈ (stAt cs i).flatten ↔ x < i
  | 0, _, x => by simp [stAt]
  | i + 1, h, x => by
    have e : cs[i]? = some (cs[i]'h) := List.getElem?_eq_getElem _
    show x ∈ (applyC i (cs.getD i (.new, 0)) (stAt cs i)).flatten ↔ _
    rw [getD_at e, apply_mem i (v i _ e), st_mem v i (by omega) x]
    omega
theorem told_get {f : Nat → Int} {st : List (List Nat)} {g : List Seg} (h : Told f st g) {j : Nat} {ts : List Nat} (e : st[j]? = some ts) : ∃ x, g[j]? = some x ∧ ts.map f = sgi x := by
  have q : (st.map (·.map f))[j]? = (g.map sgi)[j]? := by rw [h]
  rw [List.getElem?_map, List.getElem?_map, e] at q
  cases hx : g[j]? with
  | none =>
    rw [hx] at q
    cases q
  | some x =>
    rw [hx] at q
    exact ⟨x, rfl, Option.some.inj q⟩
theorem holesI_get : ∀ (b : Int) (g : List Seg) (j : Nat) (x y : Seg), g[j]? = some x → g[j + 1]? = some y → (holesI b g)[j + 1]? = some (y.1 - (x.1 + x.2 + 1))
  | b, [], j, x, y, h, _ => by simp at h
  | b, [a], j, x, y, h, h2 => by simp at h2
  | b, a :: c :: r, 0, x, y, h, h2 => by
    have e1 : a = x := Option.some.inj h
    have e2 : c = y := Option.some.inj h2
    subst e1 e2
    rfl
  | b, a :: c :: r, j + 1, x, y, h, h2 => holesI_get (a.1 + a.2 + 1) (c :: r) j x y h h2
theorem holes_len (c : Int) (g : List Seg) : (holes c g).length = g.length + 1 := by
  unfold holes
  rw [List.length_append, holesI_len]
  rfl
theorem holes_get {c : Int} {g : List Seg} {j : Nat} {x y : Seg} (h : g[j]? = some x) (h2 : g[j + 1]? = some y) : (holes c g)[j + 1]? = some (y.1 - (x.1 + x.2 + 1)) := by
  unfold holes
  have hj := (List.getElem?_eq_some_iff.mp h2).1
  rw [List.getElem?_append_left (by rw [holesI_len]; exact hj)]
  exact holesI_get 0 g j x y h h2
theorem steps_sum {cs : List Ch} (v : VCh cs) : ∀ i, i ≤ cs.length → (((cs.take i).map fun c => c.1.step).sum : Int) = (stAt cs i).length
  | 0, _ => rfl
  | i + 1, h => by
    have e : cs[i]? = some (cs[i]'h) := List.getElem?_eq_getElem _
    have q := (apply_size i (v i _ e)).2
    have ih := steps_sum v i (by omega)
    show _ = ((applyC i (cs.getD i (.new, 0)) (stAt cs i)).length : Int)
    rw [getD_at e, List.take_add_one, e, List.map_append, List.sum_append]
    show _ + ((cs[i]'h).1.step + 0) = _
    omega
end OgM

namespace Og
open PySem PySem.Spec PyProof.Rows L2 OgR Evl
def topS (i : Nat) : Stmt := PySem.Challenge.pw_onlygroups_k01_rows_groups_and_houses.main.body.getD i (.Pass ⟨0, 0, 0, 0⟩)
abbrev sCell : Stmt := topS 11
abbrev sBox : Stmt := topS 12
abbrev sTake : Stmt := topS 13
abbrev sOf : Stmt := topS 14
theorem scCell : FnScope ["_law_script", "_law_k"] ["_law_script", "_law_k"] (defScope sCell) := ⟨rfl, rfl, rfl, by decide +kernel, rfl, by decide +kernel, by decide +kernel⟩
theorem scBox : FnScope ["_law_script", "_law_k", "_law_core"] ["_law_script", "_law_k"] (defScope sBox) := ⟨rfl, rfl, rfl, by decide +kernel, rfl, by decide +kernel, by decide +kernel⟩
theorem scTake : FnScope ["_law_box_here", "_law_below", "_law_found", "_law_once", "_law_twice"] ["_law_box_here", "_law_below"] (defScope sTake) := ⟨rfl, rfl, rfl, by decide +kernel, rfl, by decide +kernel, by decide +kernel⟩
theorem scOf : FnScope ["_law_box_here", "_law_some"] ["_law_box_here", "_law_some"] (defScope sOf) := ⟨rfl, rfl, rfl, by decide +kernel, rfl, by decide +kernel, by decide +kernel⟩
section
variable {P : Program} {w : World} {K : PySem.W.Frag} {mg : Str → Option Value} {base : Heap}
/-! ### _law_cell_at -/
def spCellA (K : PySem.W.Frag) : Sp := fun vs H Q _ => ∃ (a : Addr) (ns : List Int) (k : Nat), vs = [.ref a, .int k] ∧ SqL K H a (ns.map V.int) ∧ Q (.int (ns.getD k 0)) H
theorem ok_cell {f : Addr} {fd : FuncData} {k : Nat} (F : Fun K "_law_cell_at" "_law_cell_at" sCell f fd) (ml : mg "len" = none) : FnOk P w K mg base CX0 (k + 1) f fd ["_law_script", "_law_k"] (spCellA K) := by
  refine F.ok scCell (fun vs H Q E h => ?_) (fun cdv A outer s H vs Q E hr h => ?_)
  · obtain ⟨a, ns, k, rfl, _⟩ := h
    rfl
  · obtain ⟨a, ns, j, rfl, hS, q⟩ := h
    refine ⟨_, pss_cons (ps_if (pt_cmpR op_lt (pv 1) (pe_callB call_len_seq (by rfl) ml PySem.boot_len (pa_cons (pv 0) pa_nil)) (nomark _))
        (pss_one (ps_ret (pe_ix ix_list (pv 0) (pv 1) (fun _ _ => rfl)))) pss_nil)
      (pss_one (ps_ret pe_int)), ?_⟩
    refine ⟨_, rfl, _, rfl, a, _, rfl, .inl hS, _, _, rfl, rfl, _, rfl, ite2 (fun e => ?_) (fun e => ?_)⟩
    · have h1 := of_decide_eq_true e
      rw [List.length_map] at h1
      have hj : j < ns.length := by omega
      refine ⟨_, rfl, _, rfl, a, _, _, _, rfl, rfl, hS, atI_nat (j := j) (v := .int ns[j]) ?_, ?_⟩
      · rw [List.getElem?_map, List.getElem?_eq_getElem hj]; rfl
      · rw [List.getD_eq_getElem?_getD, List.getElem?_eq_getElem hj] at q
        exact q
    · have hj : ¬ j < ns.length := fun z => e (decide_eq_true (by rw [List.length_map]; omega))
      rw [List.getD_eq_getElem?_getD, List.getElem?_eq_none (by omega)] at q
      exact q
/-! ### _law_box -/
theorem b01 (b : Bool) : -(2 ^ 64) < (if b = true then (1 : Int) else 0) ∧ (if b = true then (1 : Int) else 0) < 2 ^ 64 := by
  cases b <;> decide
def boxA (c : Int) : Int := if 10 ^ 18 ≤ (if c < 0 then -c else c) then (if c < 0 then -c else c) else 0
theorem boxA_nn (c : Int) : 0 ≤ boxA c := by
  unfold boxA
  split <;> split <;> omega
def spBox (K : PySem.W.Frag) : Sp := fun vs H Q _ => ∃ (a : Addr) (ns : List Int) (k : Nat), vs = [.ref a, .int k] ∧ SqL K H a (ns.map V.int) ∧ k ≤ 1000 ∧
  ∀ l x y, H l = none → 0 ≤ x → 0 ≤ y → y < 2 ^ 62 → Q (.ref l) (upd H l (.lst [.int x, .int y, .int 0]))
theorem ok_box {f fC : Addr} {fd fdC : FuncData} (F : Fun K "_law_box" "_law_box" sBox f fd) (FC : Fun K "_law_cell_at" "_law_cell_at" sCell fC fdC) (bC : Binds K fdC ["_law_script", "_law_k"] []) (gC : mg "_law_cell_at" = some (.ref fC))
    (ml : mg "len" = none) (ma : mg "abs" = none) (mi : mg "int" = none) : FnOk P w K mg base CX0 2 f fd ["_law_script", "_law_k"] (spBox K) := by
  have GC : FnOk P w K mg base CX0 1 fC fdC ["_law_script", "_law_k"] (spCellA K) := ok_cell FC ml
  refine F.ok scBox (fun vs H Q E h => ?_) (fun cdv A outer s H vs Q E hr h => ?_)
  · obtain ⟨a, ns, k, rfl, _⟩ := h
    rfl
  · obtain ⟨a, ns, j, rfl, hS, hj, q⟩ := h
    refine ⟨_, pss_cons (ps_set (i := 2) scBox.nd rfl (.inl rfl) (pe_call GC hr (by rfl) gC FC.kp bC .nil pass0 (pa_cons (pv 0) (pa_cons (pv 1) pa_nil))))
      (pss_one (ps_ret (pe_lst (pa_cons (pe_op op_mul (pe_callB call_abs (by rfl) ma (by decide +kernel) (pa_cons (pv 2) pa_nil))
            (pe_callTy call_int1 (by rfl) mi (by decide +kernel) (pa_cons (pe_cmpR op_ge (pe_callB call_abs (by rfl) ma (by decide +kernel) (pa_cons (pv 2) pa_nil)) (pe_op op_pow pe_int pe_int) (nomark _)) pa_nil)))
          (pa_cons (pe_op op_add (pe_op op_add (pe_op op_mod (pv 2) pe_int) (pe_op op_mul pe_int (pv 1))) pe_int) (pa_cons pe_int pa_nil)))))), ?_⟩
    refine ⟨_, rfl, _, rfl, a, ns, j, rfl, hS, ?_⟩
    generalize ns.getD j 0 = c
    refine ⟨_, rfl, _, rfl, _, rfl, _, rfl, _, _, rfl, rfl, ⟨by decide, by decide, by decide⟩, _, _, rfl, rfl, .inr ⟨_, rfl, _, _, rfl, rfl, .inr ?_, ?_⟩⟩
    · exact b01 _
    · refine ⟨_, rfl, _, _, rfl, rfl, (show (0 : Int) < 2305843009213693951 by decide), _, rfl, _, _, rfl, rfl, .inl ⟨by decide, by decide⟩, _, _, rfl, rfl, _, _, rfl, rfl, (show 3 ≤ sizeLine by decide), fun l hl => ?_⟩
      refine q l _ _ hl ?_ ?_ ?_
      · split <;> split <;> simp <;> omega
      · have := Int.emod_nonneg c (show (2305843009213693951 : Int) ≠ 0 by decide); omega
      · have := Int.emod_lt_of_pos c (show (0 : Int) < 2305843009213693951 by decide); omega
/-! ### _law_take -/
def BoxAt (H : Hp) (l : Addr) (c : Int) : Prop := ∃ a b : Int, H l = some (.lst [.int a, .int b, .int c]) ∧ 0 ≤ a ∧ 0 ≤ b ∧ b < 2 ^ 62 ∧ 0 ≤ c ∧ c ≤ 1000000
def spTake : Sp := fun vs H Q _ => ∃ (l : Addr) (c n : Int), vs = [.ref l, .int n] ∧ BoxAt H l c ∧ 1 ≤ n ∧ n ≤ 10000000 ∧ c < 1000000 ∧
  ∀ r xs c', 0 ≤ r → r < n → BoxAt (upd H l (.lst xs)) l c' → c' ≤ c + 1 → Q (.int r) (upd H l (.lst xs))
theorem ok_take {f : Addr} {fd : FuncData} {k : Nat} (F : Fun K "_law_take" "_law_take" sTake f fd) : FnOk P w K mg base CX0 (k + 1) f fd ["_law_box_here", "_law_below"] spTake := by
  refine F.ok scTake (fun vs H Q E h => ?_) (fun cdv A outer s H vs Q E hr h => ?_)
  · obtain ⟨l, c, n, rfl, _⟩ := h
    rfl
  · obtain ⟨l, c, n, rfl, ⟨a, b, hl, ha, hb, hb2, hc, hc2⟩, hn, hn2, hc3, q⟩ := h
    have hL : SqL K H l [.int a, .int b, .int c] := .inl (.inl hl)
    have X0 : ∀ {X : Cx} {j : Int} {p p1 p2 : Pos} {k : Nat} (hv : PE X (.Name "_law_box_here" p1) (tVar 0)), PE X (.Subscript (.Name "_law_box_here" p1) (.Constant (.int j) k p2) p) (tOp (rIxL X.K) (tVar 0) (fun _ H Q => Q (.int j) H)) := fun hv => pe_ix ix_list hv pe_int (fun _ _ => rfl)
    refine ⟨_, pss_cons (ps_if (pt_cmpR op_gt (X0 (pv 0)) pe_int (nomark _))
        (pss_cons (ps_set (i := 2) scTake.nd rfl (.inl rfl) (pe_op op_mod (X0 (pv 0)) (pv 1)))
          (pss_cons (ps_asg (pe_op op_fdiv (X0 (pv 0)) (pv 1)) (pg_sub (pv 0) pe_int set_list))
          (pss_one (ps_ret (pv 2))))) pss_nil)
      (pss_cons (ps_if (pt_cmpR op_gt (pv 1) (pe_op op_pow pe_int pe_int) (nomark _)) (pss_one ps_never) pss_nil)
      (pss_cons (ps_asg (pe_op op_add (X0 (pv 0)) pe_int) (pg_sub (pv 0) pe_int set_list))
      (pss_cons (ps_set (i := 3) scTake.nd rfl (.inl rfl) (pe_op op_mod (pe_op op_mul (pe_op op_add (X0 (pv 0)) (pe_op op_mul pe_int (X0 (pv 0)))) (pe_op op_add pe_int (X0 (pv 0)))) pe_int))
      (pss_cons (ps_set (i := 4) scTake.nd rfl (.inl rfl) (pe_op op_mod (pe_op op_mul (pe_op op_add (pe_op op_add (pv 3) (X0 (pv 0))) (pe_op op_fdiv (X0 (pv 0)) pe_int)) (pe_op op_add (pe_op op_mod (pv 3) pe_int) pe_int)) pe_int))
      (pss_one (ps_ret (pe_op op_mod (pe_op op_fdiv (pe_op op_mod (pe_op op_add (pe_op op_mul (pv 4) pe_int) (pv 3)) pe_int) pe_int) (pv 1)))))))), ?_⟩
    refine ⟨_, rfl, l, _, 0, _, rfl, rfl, hL, rfl, _, _, rfl, rfl, _, rfl, ite2 (fun e => ?_) (fun e => ?_)⟩
    · have h1 := of_decide_eq_true e
      refine ⟨_, rfl, l, _, 0, _, rfl, rfl, hL, rfl, _, rfl, _, _, rfl, rfl, by omega, ?_⟩
      refine ⟨_, rfl, l, _, 0, _, rfl, rfl, hL, rfl, _, rfl, _, _, rfl, rfl, ⟨by omega, by omega⟩, _, rfl, l, _, 0, 0, rfl, rfl, hl, rfl, ?_⟩
      refine ⟨_, rfl, ?_⟩
      refine q _ _ c (Int.emod_nonneg _ (by omega)) (Int.emod_lt_of_pos _ (by omega)) ⟨_, _, upd_same, Int.ediv_nonneg ha (by omega), hb, hb2, hc, hc2⟩ (by omega)
    · refine ⟨_, rfl, _, _, rfl, rfl, ⟨by decide, by decide, by decide⟩, _, _, rfl, rfl, _, rfl, ite2 (fun e2 => ?_) (fun e2 => ?_)⟩
      · have h2 := of_decide_eq_true e2
        exact absurd h2 (by show ¬ ((10 : Int) ^ 7 < n); omega)
      · refine ⟨_, rfl, l, _, 2, _, rfl, rfl, hL, rfl, _, _, rfl, rfl, _, rfl, l, _, 2, 2, rfl, rfl, hl, rfl, ?_⟩
        have hl2 : upd H l (.lst [.int a, .int b, .int (c + 1)]) l = some (.lst [.int a, .int b, .int (c + 1)]) := upd_same
        have hL2 : SqL K (upd H l (.lst [.int a, .int b, .int (c + 1)])) l [.int a, .int b, .int (c + 1)] := .inl (.inl hl2)
        show tSeq _ _ _ _ (upd H l (.lst [.int a, .int b, .int (c + 1)]))
        refine ⟨_, rfl, l, _, 1, _, rfl, rfl, hL2, rfl, _, rfl, l, _, 2, _, rfl, rfl, hL2, rfl, _, _, rfl, rfl, .inl ⟨by decide, by decide⟩, _, _, rfl, rfl, _, rfl, l, _, 2, _, rfl, rfl, hL2, rfl, _, _, rfl, rfl, _, _, rfl, rfl, .inl ⟨by omega, by omega⟩, _, _, rfl, rfl, by omega, ?_⟩
        refine ⟨_, rfl, _, rfl, l, _, 2, _, rfl, rfl, hL2, rfl, _, _, rfl, rfl, _, rfl, l, _, 1, _, rfl, rfl, hL2, rfl, _, _, rfl, rfl, ⟨by decide, by decide⟩, _, _, rfl, rfl, _, rfl, _, _, rfl, rfl, by omega, _, _, rfl, rfl, _, _, rfl, rfl, .inr ⟨?_, ?_⟩, _, _, rfl, rfl, by omega, ?_⟩
        · have := Int.emod_nonneg ((b + 48271 * (c + 1)) * (39373 + (c + 1)) % 2147483647) (show (40009 : Int) ≠ 0 by decide); omega
        · have := Int.emod_lt_of_pos ((b + 48271 * (c + 1)) * (39373 + (c + 1)) % 2147483647) (show (0 : Int) < 40009 by decide); omega
        · refine ⟨_, rfl, _, _, rfl, rfl, .inr ⟨by decide, by decide⟩, _, rfl, _, _, rfl, rfl, _, _, rfl, rfl, by omega, _, _, rfl, rfl, ⟨by decide, by decide⟩, _, rfl, _, _, rfl, rfl, by omega, ?_⟩
          exact q _ _ (c + 1) (Int.emod_nonneg _ (by omega)) (Int.emod_lt_of_pos _ (by omega)) ⟨_, _, upd_same, ha, hb, hb2, by omega, by omega⟩ (by omega)
/-! ### _law_of -/
def spOf (K : PySem.W.Frag) : Sp := fun vs H Q _ => ∃ (l p : Addr) (c : Int) (b : Bool) (xs : List V), vs = [.ref l, .ref p] ∧ BoxAt H l c ∧ l ≠ p ∧ SqB K b H p xs ∧ 1 ≤ xs.length ∧ xs.length ≤ 1000 ∧ c < 1000000 ∧
  ∀ (r : Nat) x ys c', xs[r]? = some x → BoxAt (upd H l (.lst ys)) l c' → c' ≤ c + 1 → Q x (upd H l (.lst ys))
theorem ok_of {f fT : Addr} {fd fdT : FuncData} (F : Fun K "_law_of" "_law_of" sOf f fd) (FT : Fun K "_law_take" "_law_take" sTake fT fdT) (bT : Binds K fdT ["_law_box_here", "_law_below"] []) (gT : mg "_law_take" = some (.ref fT))
    (ml : mg "len" = none) : FnOk P w K mg base CX0 2 f fd ["_law_box_here", "_law_some"] (spOf K) := by
  have GT : FnOk P w K mg base CX0 1 fT fdT ["_law_box_here", "_law_below"] spTake := ok_take FT
  refine F.ok scOf (fun vs H Q E h => ?_) (fun cdv A outer s H vs Q E hr h => ?_)
  · obtain ⟨_, _, _, _, _, rfl, _⟩ := h
    rfl
  · obtain ⟨l, p, c, b, xs, rfl, hB, hne, hS, h1, h2, hc, q⟩ := h
    refine ⟨_, pss_one (ps_ret (pe_ix ix_B (pv 1) (pe_call GT hr (by rfl) gT FT.kp bT .nil pass0 (pa_cons (pv 0) (pa_cons (pe_callB cr_lenB (by rfl) ml PySem.boot_len (pa_cons (pv 1) pa_nil)) pa_nil))) (fun _ _ => rfl))), ?_⟩
    refine ⟨_, rfl, _, rfl, _, rfl, b, p, xs, rfl, hS, l, c, _, rfl, hB, by omega, by omega, hc, fun r ys c' r0 r1 hB' hc' => ?_⟩
    have hr2 : r.toNat < xs.length := by omega
    refine ⟨b, p, xs, r, _, rfl, rfl, ?_, at_of (j := r.toNat) (by omega) (List.getElem?_eq_getElem hr2), q r.toNat _ ys c' (List.getElem?_eq_getElem hr2) hB' hc'⟩
    cases b with
    | true =>
      rcases hS with (e | ⟨o, e⟩) | e
      · exact .inl (.inl (by rw [upd_ne (Ne.symm hne)]; exact e))
      · exact .inl (.inr ⟨o, by rw [upd_ne (Ne.symm hne)]; exact e⟩)
      · exact .inr e
    | false =>
      rcases hS with (e | ⟨o, e⟩) | e
      · exact .inl (.inl (by rw [upd_ne (Ne.symm hne)]; exact e))
      · exact .inl (.inr ⟨o, by rw [upd_ne (Ne.symm hne)]; exact e⟩)
      · exact .inr e
end
end Og

namespace Og
open PySem PySem.Spec PyProof.Rows L2 OgR Evl OgM
/-! ### data -/
theorem canAll : ∀ {ds : List PyData}, (∀ d ∈ ds, PyData.canLay0 d = true) → PyData.canLayAll0 ds = true
  | [], _ => by simp [PyData.canLayAll0]
  | d :: ds, h => by
    simp only [PyData.canLayAll0, Bool.and_eq_true]
    exact ⟨h d (by simp), canAll fun x hx => h x (by simp [hx])⟩
theorem depAll {n : Nat} : ∀ {ds : List PyData}, (∀ d ∈ ds, PyData.depth d ≤ n) → PyData.depthAll ds ≤ n
  | [], _ => by simp [PyData.depthAll]
  | d :: ds, h => by
    simp only [PyData.depthAll]
    exact Nat.max_le.mpr ⟨h d (by simp), depAll fun x hx => h x (by simp [hx])⟩
def dInts (l : List Int) : List PyData := l.map PyData.int
theorem ci (l : List Int) : PyData.canLayAll0 (dInts l) = true := canAll fun d h => by
  obtain ⟨i, _, rfl⟩ := List.mem_map.mp h
  simp [PyData.canLay0]
theorem di (l : List Int) : PyData.depthAll (dInts l) ≤ 0 := depAll fun d h => by
  obtain ⟨i, _, rfl⟩ := List.mem_map.mp h
  simp [PyData.depth]
theorem sh_of {d : PyData} (h1 : d.canLay0 = true) (h2 : d.depth ≤ 64) : SeqAt.shaped d = true := Bool.and_eq_true_iff.mpr ⟨h1, decide_eq_true h2⟩
theorem sh_list {ds : List PyData} {n : Nat} (h1 : PyData.canLayAll0 ds = true) (h2 : PyData.depthAll ds ≤ n) (h3 : n ≤ 63) : SeqAt.shaped (.list ds) = true := by
  refine sh_of (by simp only [PyData.canLay0]; exact h1) ?_
  have e : PyData.depth (.list ds) = PyData.depthAll ds + 1 := by simp only [PyData.depth]
  rw [e]
  omega
theorem sh_tup {ds : List PyData} {n : Nat} (h1 : PyData.canLayAll0 ds = true) (h2 : PyData.depthAll ds ≤ n) (h3 : n ≤ 63) : SeqAt.shaped (.tuple ds) = true := by
  refine sh_of (by simp only [PyData.canLay0]; exact h1) ?_
  have e : PyData.depth (.tuple ds) = PyData.depthAll ds + 1 := by simp only [PyData.depth]
  rw [e]
  omega
theorem sh_ints (l : List Int) : SeqAt.shaped (.list (dInts l)) = true ∧ SeqAt.shaped (.tuple (dInts l)) = true := ⟨sh_list (ci l) (di l) (by decide), sh_tup (ci l) (di l) (by decide)⟩
theorem dp_ints {K : PySem.W.Frag} {H : Hp} : ∀ l : List Int, DpAll K H (l.map V.int) (dInts l)
  | [] => .nil
  | i :: l => .cons (.int i) (dp_ints l)
def dLL (g : List Seg) : List PyData := g.map fun x => PyData.list (dInts (sgi x))
theorem sh_LL (g : List Seg) : SeqAt.shaped (.list (dLL g)) = true := by
  have h1 : PyData.canLayAll0 (dLL g) = true := canAll fun d h => by
    obtain ⟨x, _, rfl⟩ := List.mem_map.mp h
    simp [PyData.canLay0, ci]
  have h2 : PyData.depthAll (dLL g) ≤ 1 := depAll fun d h => by
    obtain ⟨x, _, rfl⟩ := List.mem_map.mp h
    have e : PyData.depth (.list (dInts (sgi x))) = PyData.depthAll (dInts (sgi x)) + 1 := by simp only [PyData.depth]
    rw [e]
    have := di (sgi x)
    omega
  exact sh_list h1 h2 (by decide)
theorem sh_nil : SeqAt.shaped (.list []) = true := sh_ints [] |>.1
/-! ### a list of runs -/
def PR (H0 H : Hp) (q : Addr) (x : Seg) : Prop := H0 q = none ∧ H q = some (.lst ((sgi x).map V.int))
structure LL (H0 H : Hp) (p : Addr) (g : List Seg) : Prop where
  new : H0 p = none
  ex : ∃ qs : List Addr, H p = some (.lst (qs.map V.ref)) ∧ Paired (PR H0 H) qs g ∧ p ∉ qs
theorem paired_snoc_inv {α β : Type} {F : α → β → Prop} {x : β} : ∀ {l : List α} {g : List β}, Paired F l (g ++ [x]) → ∃ l' q, l = l' ++ [q] ∧ Paired F l' g ∧ F q x
  | l, [], h => by
    cases h with
    | cons a b =>
      cases b
      exact ⟨[], _, rfl, .nil, a⟩
  | l, y :: g, h => by
    cases h with
    | cons a b =>
      obtain ⟨l', q, rfl, h1, h2⟩ := paired_snoc_inv b
      exact ⟨_ :: l', q, rfl, .cons a h1, h2⟩
theorem paired_get {α β : Type} {F : α → β → Prop} : ∀ {l : List α} {g : List β} {i : Nat} {a : α}, Paired F l g → l[i]? = some a → ∃ b, g[i]? = some b ∧ F a b
  | _, _, _, _, .nil, e => by simp at e
  | _, _, 0, _, .cons r _, e => by
    simp at e
    subst e
    exact ⟨_, rfl, r⟩
  | _, _, i + 1, _, .cons _ t, e => paired_get (i := i) t (by simpa using e)
theorem paired_mem {α β : Type} {F : α → β → Prop} : ∀ {l : List α} {g : List β}, Paired F l g → ∀ a ∈ l, ∃ b ∈ g, F a b
  | _, _, .nil, a, h => absurd h (by simp)
  | _, _, .cons r t, a, h => by
    rcases List.mem_cons.mp h with e | h
    · subst e
      exact ⟨_, by simp, r⟩
    · obtain ⟨b, hb, q⟩ := paired_mem t a h
      exact ⟨b, by simp [hb], q⟩
/-- the runs are kept where their lists are -/
theorem PR.keep {H0 H H' : Hp} {qs : List Addr} {g : List Seg} (h : Paired (PR H0 H) qs g) (k : ∀ q ∈ qs, ∀ o, H q = some o → H' q = some o) : Paired (PR H0 H') qs g := by
  induction h with
  | nil => exact .nil
  | cons r t ih =>
    exact .cons ⟨r.1, k _ (by simp) _ r.2⟩ (ih fun q hq o e => k q (by simp [hq]) o e)
theorem LL.len {H0 H : Hp} {p : Addr} {g : List Seg} (h : LL H0 H p g) : ∃ qs : List Addr, H p = some (.lst (qs.map V.ref)) ∧ qs.length = g.length := by
  obtain ⟨qs, e, r, _⟩ := h.ex
  exact ⟨qs, e, r.length⟩
theorem LL.keep {H0 H H' : Hp} {p : Addr} {g : List Seg} (h : LL H0 H p g) (e : Ex H H') : LL H0 H' p g := by
  obtain ⟨qs, e1, r, np⟩ := h.ex
  exact ⟨h.new, qs, e _ _ e1, PR.keep r (fun q _ o x => e q o x), np⟩
theorem pr_dp {K : PySem.W.Frag} {H0 H : Hp} : ∀ {qs : List Addr} {g : List Seg}, Paired (PR H0 H) qs g → DpAll K H (qs.map V.ref) (dLL g)
  | _, _, .nil => .nil
  | _, _, .cons a t => .cons (.lst (.inl (.inl a.2)) (dp_ints _)) (pr_dp t)
theorem LL.dp {K : PySem.W.Frag} {H0 H : Hp} {p : Addr} {g : List Seg} (h : LL H0 H p g) : Dp K H (.ref p) (.list (dLL g)) := by
  obtain ⟨qs, e1, r, _⟩ := h.ex
  exact .lst (.inl (.inl e1)) (pr_dp r)
/-! ### _law_runs -/
abbrev sRuns : Stmt := topS 17
theorem scRuns : FnScope ["_law_there", "_law_found", "_law_plot", "_law_some"] ["_law_there"] (defScope sRuns) := ⟨rfl, rfl, rfl, by decide +kernel, rfl, by decide +kernel, by decide +kernel⟩
section
variable {P : Program} {w : World} {K : PySem.W.Frag} {mg : Str → Option Value} {base : Heap}
def spRuns (K : PySem.W.Frag) : Sp := fun vs H Q _ => ∃ (b : Bool) (a : Addr) (ns : List Int), vs = [.ref a] ∧ SqB K b H a (ns.map V.int) ∧ ns.Nodup ∧ ns.length ≤ 1000 ∧
  ∀ H' p, Ex H H' → LL H H' p (segs ns) → Q (.ref p) H'
theorem eqv_nil (g : List Seg) : PyData.eqv (.list (dLL g)) (.list []) = g.isEmpty := by
  cases g <;> simp [dLL, PyData.eqv, PyData.eqvAll]
theorem ok_runs {f : Addr} {fd : FuncData} {k : Nat} (F : Fun K "_law_runs" "_law_runs" sRuns f fd) (ms : mg "sorted" = none) : FnOk P w K mg base CX0 (k + 1) f fd ["_law_there"] (spRuns K) := by
  refine F.ok scRuns (fun vs H Q E h => ?_) (fun cdv A outer s H vs Q E hr h => ?_)
  · obtain ⟨_, _, _, rfl, _⟩ := h
    rfl
  · obtain ⟨b, a, ns, rfl, hS, hnd, hlen, q⟩ := h
    refine ⟨_, pss_cons (ps_set (i := 1) scRuns.nd rfl (.inl rfl) (pe_lst pa_nil))
      (pss_cons (ps_for PassesOwn.never rfl (pi_list (pe_callB cr_srtB (by rfl) ms (by decide +kernel) (pa_cons (pv 0) pa_nil))) (pg_name (i := 2) scRuns.nd rfl (.inl rfl))
        (pss_one (ps_if (PW.pt (pw_and (pt_cmpR (op_neD hr.units) (pv 1) (pe_lst pa_nil) (nomark _)) (pw_and1 (pt_cmpR op_eq (pe_ix ix_list (pe_ix ix_list (pv 1) (pe_un un_neg pe_int) (fun _ _ => rfl)) (pe_un un_neg pe_int) (fun _ _ => rfl)) (pe_op op_sub (pv 2) pe_int) (nomark _)))))
          (pss_cons (ps_set (i := 3) scRuns.nd rfl (.inl rfl) (pe_bm0 PySem.F.plainAttrs_list PySem.F.slot_list_pop PySem.F.type_list_pop mt_pop (pv 1)))
            (pss_one (ps_expr (pe_bm PySem.F.plainAttrs_list PySem.F.slot_list_append PySem.F.type_list_append mt_append (pv 1) (pa_cons (pe_op op_cat (pv 3) (pe_lst (pa_cons (pv 2) pa_nil))) pa_nil)))))
          (pss_one (ps_expr (pe_bm PySem.F.plainAttrs_list PySem.F.slot_list_append PySem.F.type_list_append mt_append (pv 1) (pa_cons (pe_lst (pa_cons (pv 2) pa_nil)) pa_nil)))))))
      (pss_one (ps_ret (pv 1)))), ?_⟩
    refine ⟨Nat.zero_le _, fun p hp => ?_⟩
    have x1 : Ex H (upd H p (.lst [])) := Ex.new hp
    refine ⟨_, rfl, b, a, ns, rfl, hS.ex x1, fun ks u hperm hsort hu => ?_⟩
    have x2 : Ex (upd H p (.lst [])) (upd (upd H p (.lst [])) u (.lst (ks.map V.int))) := Ex.new hu
    have npu : p ≠ u := fun e => by
      rw [← e, upd_same] at hu
      cases hu
    have rise := rise_of hnd hperm hsort
    have hseg : segs ks = segs ns := segs_eq (hperm.nodup_iff.mpr hnd) hnd fun q => hperm.mem_iff
    have hlk : ks.length ≤ 1000 := by rw [hperm.length_eq]; exact hlen
    refine ⟨u, rfl, ⟨_, .inl (.inl upd_same)⟩, for_list (xs := ks.map V.int) (fun i σ H3 => ∃ y2 y3, σ = [some (.ref a), some (.ref p), y2, y3] ∧ Ex H H3 ∧ H3 u = some (.lst (ks.map V.int)) ∧ LL H H3 p (segs (ks.take i))) ?_ ?_ ?_ ?_⟩
    · refine ⟨none, none, rfl, x1.trans x2, upd_same, hp, [], ?_, .nil, by simp⟩
      rw [upd_ne npu, upd_same]
      rfl
    · rintro i σ H3 _ ⟨_, _, _, _, h, _⟩
      exact .inl (.inl h)
    · rintro i x σ H3 hx ⟨y2, y3, rfl, e3, hu3, hL⟩
      rw [List.getElem?_map] at hx
      obtain ⟨z, hz, rfl⟩ := Option.map_eq_some_iff.mp hx
      have hi := (List.getElem?_eq_some_iff.mp hz).1
      have hstep : segs (ks.take (i + 1)) = runStep (segs (ks.take i)) z := by
        rw [take_snoc hz]
        refine segs_rise (rise.sublist (List.take_sublist _ _)) fun q hq => ?_
        have hh := rise.sublist (List.take_sublist (i + 1) ks)
        rw [take_snoc hz, List.pairwise_append] at hh
        exact hh.2.2 q hq z (by simp)
      obtain ⟨qs, eq, hpr, hpn⟩ := hL.ex
      have hlq : qs.length ≤ 1000 := by
        rw [hpr.length]
        have q1 := segs_len (ks.take i)
        rw [List.length_take] at q1
        omega
      have hpu : p ≠ u := npu
      -- found != []
      refine ⟨_, rfl, Nat.zero_le _, fun e he => ⟨_, _, (hL.keep (Ex.new he)).dp, .lst (.inl (.inl upd_same)) .nil, sh_LL _, sh_nil, _, rfl, ?_⟩⟩
      rw [eqv_nil]
      have hpe : p ≠ e := ne_of_none eq he
      have hue : u ≠ e := ne_of_none hu3 he
      have x4 : Ex H3 (upd H3 e (.lst [])) := Ex.new he
      have eq4 := x4 _ _ eq
      have hu4 := x4 _ _ hu3
      have hpr4 : Paired (PR H (upd H3 e (.lst []))) qs (segs (ks.take i)) := PR.keep hpr fun q _ o h => x4 q o h
      have e4 : Ex H (upd H3 e (.lst [])) := e3.trans x4
      generalize (upd H3 e (.lst [])) = H4 at eq4 hu4 hpr4 e4
      clear eq hpr hL x4 he hu3 e3
      -- one more run
      have fresh : ∀ (v : Addr) (H5 : Hp), H4 v = none → runStep (segs (ks.take i)) z = segs (ks.take i) ++ [(z, 0)] → H5 = upd (upd H4 v (.lst [.int z])) p (.lst (qs.map V.ref ++ [.ref v])) →
          ∃ w2 w3, [some (.ref a), some (.ref p), some (.int z), y3] = [some (V.ref a), some (.ref p), w2, w3] ∧ Ex H H5 ∧ H5 u = some (.lst (ks.map V.int)) ∧ LL H H5 p (segs (ks.take (i + 1))) := fun v H5 hv hs e5 => by
        subst e5
        have hvp : p ≠ v := ne_of_none eq4 hv
        have hvu : u ≠ v := ne_of_none hu4 hv
        refine ⟨_, y3, rfl, Ex.mut (e4.trans (Ex.new hv)) hp, ?_, hp, qs ++ [v], ?_, ?_, ?_⟩
        · rw [upd_ne (Ne.symm hpu), upd_ne hvu]
          exact hu4
        · rw [upd_same, List.map_append]
          rfl
        · rw [hstep, hs]
          refine Paired.snoc (PR.keep hpr4 fun q hq o h => ?_) ⟨fresh_back e4 hv, ?_⟩
          · rw [upd_ne (fun (zz : q = p) => hpn (zz ▸ hq)), upd_ne (ne_of_none h hv)]
            exact h
          · rw [upd_ne (Ne.symm hvp), upd_same]
            simp [sgi]
        · rw [List.mem_append]
          rintro (h | h)
          · exact hpn h
          · exact hvp (List.mem_singleton.mp h)
      rcases List.eq_nil_or_concat (segs (ks.take i)) with g0 | ⟨g', x, g1⟩
      · rw [g0]
        have hs : runStep (segs (ks.take i)) z = segs (ks.take i) ++ [(z, 0)] := by
          rw [g0]
          rfl
        refine iteF (iteF ⟨_, rfl, .inl ⟨rfl, _, .inl (.inl eq4)⟩, _, rfl, (show 1 ≤ sizeLine by decide), fun v hv => ⟨p, qs.map V.ref, .ref v, rfl, rfl, ?_, ?_, ?_⟩⟩)
        · rw [upd_ne (ne_of_none eq4 hv)]
          exact eq4
        · rw [List.length_map]
          exact small1000 hlq
        · exact fresh v _ hv hs rfl
      · rw [List.concat_eq_append] at g1
        obtain ⟨s, n⟩ := x
        rw [g1] at hpr4
        obtain ⟨qs', q', rfl, hp1, hp2⟩ := paired_snoc_inv hpr4
        have hne : (segs (ks.take i)).isEmpty = false := by
          rw [g1]
          simp
        rw [hne]
        have at1 : atI ((qs' ++ [q']).map V.ref) (-1) = some (.ref q') := by
          rw [List.map_append]
          exact atI_last _ _
        have at2 : atI ((sgi (s, n)).map V.int) (-1) = some (.int (s + n)) := by
          have h0 := sgi_last (s, n)
          obtain ⟨l0, hl0⟩ := List.getLast?_eq_some_iff.mp h0
          rw [hl0, List.map_append]
          exact atI_last _ _
        refine iteT ⟨_, rfl, 1, rfl, p, _, -1, _, rfl, rfl, .inl (.inl eq4), at1, 1, rfl, q', _, -1, _, rfl, rfl, .inl (.inl hp2.2), at2, _, rfl, _, _, rfl, rfl, rfl, _, rfl, ite2 (fun hc => ?_) (fun hc => ?_)⟩
        · have hc' : s + (n : Int) = z - 1 := V.int.inj (of_decide_eq_true hc)
          have hs : runStep (segs (ks.take i)) z = g' ++ [(s, n + 1)] := by
            rw [g1]
            unfold runStep
            rw [getLast_snoc]
            show (if s + n = z - 1 then (g' ++ [(s, n)]).dropLast ++ [(s, n + 1)] else _) = _
            rw [if_pos hc', List.dropLast_concat]
          have hq'p : q' ≠ p := fun z => hpn (by simp [z])
          refine ⟨_, rfl, .inl ⟨rfl, _, .inl (.inl eq4)⟩, p, _, .ref q', rfl, rfl, eq4, by simp, ?_⟩
          have dl : ((qs' ++ [q']).map V.ref).dropLast = qs'.map V.ref := by
            rw [List.map_append]
            exact List.dropLast_concat
          rw [dl]
          refine ⟨_, rfl, .inl ⟨rfl, _, .inl (.inl upd_same)⟩, _, rfl, _, rfl, (show 1 ≤ sizeLine by decide), fun v hv => ?_⟩
          have hvp : p ≠ v := fun e => by
            rw [← e, upd_same] at hv
            cases hv
          have hv4 : H4 v = none := by
            rw [upd_ne (Ne.symm hvp)] at hv
            exact hv
          have hq'v : q' ≠ v := ne_of_none hp2.2 hv4
          refine ⟨q', v, (sgi (s, n)).map V.int, _, rfl, rfl, ?_, upd_same, ?_, fun t ht => ?_⟩
          · rw [upd_ne hq'v, upd_ne hq'p]
            exact hp2.2
          · rw [List.length_map, sgi_len]
            show n + 1 + 1 ≤ sizeLine
            have h7 : n + 1 ≤ size (segs (ks.take i)) := size_mem (x := (s, n)) (by rw [g1]; simp)
            rw [segs_size, List.length_take] at h7
            exact Nat.le_of_lt (small1000 (by omega))
          · have htv : v ≠ t := ne_of_none upd_same ht
            have htp : p ≠ t := by
              refine ne_of_none (o := .lst (qs'.map V.ref)) ?_ ht
              rw [upd_ne hvp, upd_same]
            have ht4 : H4 t = none := by
              rw [upd_ne (Ne.symm htv), upd_ne (Ne.symm htp)] at ht
              exact ht
            refine ⟨p, qs'.map V.ref, .ref t, rfl, rfl, ?_, ?_, ?_⟩
            · rw [upd_ne htp, upd_ne hvp, upd_same]
            · rw [List.length_map]
              simp at hlq
              exact small1000 (by omega)
            · have hut : u ≠ t := ne_of_none hu4 ht4
              have huv : u ≠ v := ne_of_none hu4 hv4
              refine ⟨_, _, rfl, ?_, ?_, hp, qs' ++ [t], ?_, ?_, ?_⟩
              · refine Ex.mut ?_ hp
                intro c o hco
                have hc4 := e4 c o hco
                rw [upd_ne (ne_of_none hc4 ht4), upd_ne (ne_of_none hc4 hv4), upd_ne (ne_of_none hco hp)]
                exact hc4
              · rw [upd_ne (Ne.symm hpu), upd_ne hut, upd_ne huv, upd_ne (Ne.symm hpu)]
                exact hu4
              · rw [upd_same, List.map_append]
                rfl
              · rw [hstep, hs]
                refine Paired.snoc (PR.keep hp1 fun q hq o h => ?_) ⟨fresh_back e4 ht4, ?_⟩
                · have hqp : q ≠ p := fun (zz : q = p) => hpn (by rw [← zz]; simp [hq])
                  rw [upd_ne hqp, upd_ne (ne_of_none h ht4), upd_ne (ne_of_none h hv4), upd_ne hqp]
                  exact h
                · rw [upd_ne (Ne.symm htp), upd_same]
                  have e9 := sgi_snoc s n
                  rw [show s + (n : Int) + 1 = z by omega] at e9
                  rw [← e9, List.map_append]
                  rfl
              · rw [List.mem_append]
                rintro (h | h)
                · exact hpn (by simp [h])
                · exact htp (List.mem_singleton.mp h)
        · have hc' : ¬ s + (n : Int) = z - 1 := fun h => hc (decide_eq_true (by rw [h]))
          have hs : runStep (segs (ks.take i)) z = segs (ks.take i) ++ [(z, 0)] := by
            rw [g1]
            unfold runStep
            rw [getLast_snoc]
            show (if s + n = z - 1 then _ else _) = _
            rw [if_neg hc']
          refine ⟨_, rfl, .inl ⟨rfl, _, .inl (.inl eq4)⟩, _, rfl, (show 1 ≤ sizeLine by decide), fun v hv => ⟨p, (qs' ++ [q']).map V.ref, .ref v, rfl, rfl, ?_, ?_, ?_⟩⟩
          · rw [upd_ne (ne_of_none eq4 hv)]
            exact eq4
          · rw [List.length_map]
            exact small1000 hlq
          · rw [← g1] at hpr4
            exact fresh v _ hv hs rfl
    · rintro σ H3 ⟨y2, y3, rfl, e3, hu3, hL⟩
      rw [List.take_of_length_le (by simp), hseg] at hL
      exact ⟨_, rfl, q H3 p e3 hL⟩
end
end Og

namespace Og
open PySem PySem.Spec PyProof.Rows L2 OgR Evl OgM
theorem at_head {x : Seg} : atI ((sgi x).map V.int) 0 = some (.int x.1) := by
  refine atI_nat (j := 0) ?_
  rw [List.getElem?_map, sgi_get (Nat.zero_le _)]
  simp
theorem at_end {x : Seg} : atI ((sgi x).map V.int) (-1) = some (.int (x.1 + x.2)) := by
  obtain ⟨l0, hl0⟩ := List.getLast?_eq_some_iff.mp (sgi_last x)
  rw [hl0, List.map_append]
  exact atI_last _ _
theorem take_next {α : Type} {g : List α} {i : Nat} {x : α} (e : g[i]? = some x) : g.take (i + 1) = g.take i ++ [x] := by
  rw [List.take_add_one, e]
  rfl
section
variable {P : Program} {w : World} {K : PySem.W.Frag} {mg : Str → Option Value} {base : Heap}
def spHoles (K : PySem.W.Frag) : Sp := fun vs H Q _ => ∃ (b : Bool) (a : Addr) (c : Int) (ns : List Int), vs = [.int c, .ref a] ∧ SqB K b H a (ns.map V.int) ∧ ns.Nodup ∧ ns.length ≤ 900 ∧
  ∀ H' p, Ex H H' → H p = none → H' p = some (.tup ((holes c (segs ns)).map V.int)) → Q (.ref p) H'
end
end Og

namespace Og
open PySem PySem.Spec PyProof.Rows L2 OgR Evl OgM
def wstr : Wd → Str
  | .new => "new"
  | .beside => "beside"
  | .between => "between"
theorem Cw.new {H H' : Hp} {f : Nat → Bool} {v : Nat → V} {D T : Addr} {i : Nat} {o : HO} (h : Cw H f v D i H') (hT : H' T = none) : Cw H f v D i (upd H' T o) := by
  obtain ⟨h1, h2, h3⟩ := h
  exact ⟨h1, h2.trans (Ex.new hT), by rw [upd_ne (ne_of_none h3 hT)]; exact h3⟩
theorem ixL (K : PySem.W.Frag) {X : Cx} (h : X.K = K := by rfl) : IxR X (rIxL K) := by
  subst h
  exact ix_list
section
variable {P : Program} {w : World} {K : PySem.W.Frag} {mg : Str → Option Value} {base : Heap}
def spPick (K : PySem.W.Frag) : Sp := fun vs H Q _ => ∃ (b : Bool) (a : Addr) (p : Int) (ns : List Int), vs = [.int p, .ref a] ∧ SqB K b H a (ns.map V.int) ∧ ns.Nodup ∧ p ∉ ns ∧ ns.length ≤ 900 ∧
  ∀ H' t, Ex H H' → H t = none → H' t = some (.tup [.str (wstr (pick p (segs ns)).1), .int ((pick p (segs ns)).2 : Nat)]) → Q (.ref t) H'
end
end Og

namespace Og
open PySem PySem.Spec PyProof.Rows L2 OgR Evl OgM
theorem slT (K : PySem.W.Frag) {X : Cx} (h : X.K = K := by rfl) : SlR X (rSlT K) := by
  subst h
  exact sl_tup
theorem cut_to (xs : List V) (j : Nat) : cutV xs none (some (j : Int)) = xs.take j := by
  unfold cutV
  rw [HT.sIx_none, HT.sIx_nat, List.drop_zero, Nat.sub_zero]
  by_cases h : j ≤ xs.length
  · rw [Nat.min_eq_left h]
  · rw [Nat.min_eq_right (by omega), List.take_of_length_le (Nat.le_refl _), List.take_of_length_le (by omega)]
theorem cut_from (xs : List V) (j : Nat) : cutV xs (some (j : Int)) none = xs.drop j := by
  unfold cutV
  rw [HT.sIx_none, HT.sIx_nat]
  by_cases h : j ≤ xs.length
  · rw [Nat.min_eq_left h, List.take_of_length_le (by rw [List.length_drop]; exact Nat.le_refl _)]
  · rw [Nat.min_eq_right (by omega), Nat.sub_self, List.take_zero, List.drop_of_length_le (by omega)]
/-- choices, as a list or tuple (b) of lists or tuples (b') -/
def chV (c : Ch) : List V := [.str (wstr c.1), .int (c.2 : Nat)]
def ChIs (K : PySem.W.Frag) (b b' : Bool) (H : Hp) (a : Addr) (cs : List Ch) : Prop := ∃ ts : List Addr, SqB K b H a (ts.map V.ref) ∧ Paired (fun t c => SqB K b' H t (chV c)) ts cs
theorem ChIs.ex {K : PySem.W.Frag} {b b' : Bool} {H H' : Hp} {a : Addr} {cs : List Ch} (e : Ex H H') (h : ChIs K b b' H a cs) : ChIs K b b' H' a cs := by
  obtain ⟨ts, h1, h2⟩ := h
  exact ⟨ts, h1.ex e, h2.mono fun _ _ x => x.ex e⟩
section
variable {P : Program} {w : World} {K : PySem.W.Frag} {mg : Str → Option Value} {base : Heap}
def spPicks (K : PySem.W.Frag) : Sp := fun vs H Q _ => ∃ (a : Addr) (ns : List Int), vs = [.ref a] ∧ SqT K H a (ns.map V.int) ∧ ns.Nodup ∧ ns.length ≤ 900 ∧
  ∀ H' t, Ex H H' → ChIs K true true H' t (picks ns) → Q (.ref t) H'
theorem nodup_fresh {row : List Int} (h : row.Nodup) {i : Nat} {p : Int} (e : row[i]? = some p) : p ∉ row.take i := by
  intro m
  obtain ⟨j, hj⟩ := List.getElem?_of_mem m
  rw [List.getElem?_take] at hj
  split at hj
  · rename_i lt
    obtain ⟨a, ea⟩ := List.getElem?_eq_some_iff.mp e
    obtain ⟨b, eb⟩ := List.getElem?_eq_some_iff.mp hj
    have := (List.getElem_inj h).mp (eb.trans ea.symm)
    omega
  · cases hj
end
end Og

namespace Og
open PySem PySem.Spec PyProof.Rows L2 OgR Evl OgM
theorem opIn (K : PySem.W.Frag) {X : Cx} (h : X.K = K := by rfl) : OpR X (compareOp .In) (rIn K false) := by
  subst h
  exact op_in_seq
/-- all but l as it was -/
def ExB (l : Addr) (H H' : Hp) : Prop := ∀ a o, a ≠ l → H a = some o → H' a = some o
theorem ExB.of {l : Addr} {H H' : Hp} (e : Ex H H') : ExB l H H' := fun a o _ h => e a o h
theorem ExB.trans {l : Addr} {H H1 H2 : Hp} (a : ExB l H H1) (b : ExB l H1 H2) : ExB l H H2 := fun x o n h => b x o n (a x o n h)
theorem ExB.box {l : Addr} {H : Hp} {o : HO} : ExB l H (upd H l o) := fun x u n h => by
  rw [upd_ne n]
  exact h
theorem ExB.mut {l p : Addr} {H H' : Hp} {o : HO} (e : ExB l H H') (h : H p = none) : ExB l H (upd H' p o) := fun x u n hx => by
  rw [upd_ne (ne_of_none hx h)]
  exact e x u n hx
theorem BoxAt.ex {H H' : Hp} {l : Addr} {c : Int} (h : BoxAt H l c) (e : Ex H H') : BoxAt H' l c := by
  obtain ⟨a, b, h1, h2⟩ := h
  exact ⟨a, b, e _ _ h1, h2⟩
theorem BoxAt.at {H : Hp} {l : Addr} {c : Int} (h : BoxAt H l c) : ∃ xs, H l = some (.lst xs) := by
  obtain ⟨a, b, h1, _⟩ := h
  exact ⟨_, h1⟩
theorem BoxAt.upd {H : Hp} {l p : Addr} {c : Int} {o : HO} (h : BoxAt H l c) (n : l ≠ p) : BoxAt (upd H p o) l c := by
  obtain ⟨a, b, h1, h2⟩ := h
  exact ⟨a, b, by rw [upd_ne n]; exact h1, h2⟩
abbrev sQueue : Stmt := topS 19
theorem scQueue : FnScope ["_law_box_here", "_law_count", "_law_size", "_law_left", "_law_found", "_law_near", "_law_spot", "_law_some", "_law_plot"] ["_law_box_here", "_law_count", "_law_size"] (defScope sQueue) := ⟨rfl, rfl, rfl, by decide +kernel, rfl, by decide +kernel, by decide +kernel⟩
section
variable {P : Program} {w : World} {K : PySem.W.Frag} {mg : Str → Option Value} {base : Heap}
def spQueue : Sp := fun vs H Q _ => ∃ (l : Addr) (c : Int) (n m : Nat), vs = [.ref l, .int n, .int m] ∧ BoxAt H l c ∧ n ≤ 100 ∧ m ≤ n ∧ c ≤ 900000 ∧
  ∀ H' t row c', ExB l H H' → BoxAt H' l c' → c' ≤ c + 1 + 2 * m → OgM.Row n row → row.length = m → H t = none → H' t = some (.tup (row.map V.int)) → Q (.ref t) H'
structure QInv (H : Hp) (l lf fo : Addr) (B : Int) (n i : Nat) (H3 : Hp) (c3 : Int) (lft row : List Int) : Prop where
  ex : ExB l H H3
  box : BoxAt H3 l c3
  hc : c3 ≤ B
  atL : H3 lf = some (.lst (lft.map V.int))
  atF : H3 fo = some (.lst (row.map V.int))
  nlf : lf ≠ l
  nfo : fo ≠ l
  nlo : lf ≠ fo
  fof : H fo = none
  rok : OgM.Row n row
  len : row.length = i
  nd : lft.Nodup
  mem : ∀ p, p ∈ lft ↔ (0 ≤ p ∧ p < n) ∧ p ∉ row
  cnt : lft.length + i = n
section
variable {H : Hp} {l lf fo : Addr} {B : Int} {n i : Nat} {H3 : Hp} {c3 : Int} {lft row : List Int}
theorem QInv.exx {H4 : Hp} (h : QInv H l lf fo B n i H3 c3 lft row) (e : Ex H3 H4) : QInv H l lf fo B n i H4 c3 lft row :=
  { h with ex := h.ex.trans (.of e), box := h.box.ex e, atL := e _ _ h.atL, atF := e _ _ h.atF }
theorem QInv.boxed {c4 B' : Int} {o : HO} (h : QInv H l lf fo B n i H3 c3 lft row) (b : BoxAt (L2.upd H3 l o) l c4) (hb : c4 ≤ B') : QInv H l lf fo B' n i (L2.upd H3 l o) c4 lft row :=
  { h with ex := h.ex.trans .box, box := b, hc := hb, atL := by rw [upd_ne h.nlf]; exact h.atL, atF := by rw [upd_ne h.nfo]; exact h.atF }
theorem QInv.step {D : Addr} {z B' : Int} (h : QInv H l lf fo B n i H3 c3 lft row) (hb : c3 ≤ B') (hz : z ∈ lft) (hD : (upd H3 fo (.lst ((row ++ [z]).map V.int))) D = none) {H4 : Hp}
    (e : Ex (upd H3 fo (.lst ((row ++ [z]).map V.int))) H4) (at4 : H4 D = some (.lst ((lft.filter (· != z)).map V.int))) : QInv H l D fo B' n (i + 1) H4 c3 (lft.filter (· != z)) (row ++ [z]) := by
  have hz' := (h.mem z).mp hz
  obtain ⟨xs, hxl⟩ := h.box.at
  have b5 : BoxAt (upd H3 fo (.lst ((row ++ [z]).map V.int))) l c3 := h.box.upd (Ne.symm h.nfo)
  obtain ⟨xs5, hx5⟩ := b5.at
  refine ⟨(h.ex.mut h.fof).trans (.of e), b5.ex e, hb, at4, e _ _ upd_same, Ne.symm (ne_of_none hx5 hD), h.nfo, Ne.symm (ne_of_none upd_same hD), h.fof, ⟨?_, ?_, ?_⟩, ?_, h.nd.filter _, fun p => ?_, ?_⟩
  · rw [List.nodup_append]
    refine ⟨h.rok.nd, by simp, fun a ha b hb' e' => ?_⟩
    rw [List.mem_singleton.mp hb'] at e'
    subst e'
    exact hz'.2 ha
  · intro p hp
    rcases List.mem_append.mp hp with hp | hp
    · exact h.rok.lo p hp
    · rw [List.mem_singleton.mp hp]
      exact hz'.1.1
  · intro p hp
    rcases List.mem_append.mp hp with hp | hp
    · exact h.rok.hi p hp
    · rw [List.mem_singleton.mp hp]
      exact hz'.1.2
  · rw [List.length_append, h.len]
    rfl
  · rw [List.mem_filter, h.mem p]
    simp
    exact ⟨fun ⟨⟨a, b⟩, c⟩ => ⟨a, b, c⟩, fun ⟨a, b, c⟩ => ⟨⟨a, b⟩, c⟩⟩
  · have := filter_ne_len h.nd hz
    have := h.cnt
    omega
end
theorem eq_bool (a b : Int) : decide (V.int a = V.int b) = decide (a = b) := by
  by_cases h : a = b
  · rw [decide_eq_true h, decide_eq_true (congrArg V.int h)]
  · rw [decide_eq_false h, decide_eq_false fun u => h (V.int.inj u)]
theorem ne_bool (a b : Int) : (!decide (V.int a = V.int b)) = (a != b) := by
  rw [eq_bool]
  by_cases h : a = b
  · rw [decide_eq_true h]
    simp [h]
  · rw [decide_eq_false h]
    simp [h]
theorem flat_ints (l : List Int) : (l.map V.int).all flatV = true := by
  rw [List.all_map, List.all_eq_true]
  exact fun x _ => rfl
theorem given_ints (P : Int → Bool) (l : List Int) : given (l.map V.int).length (fun i => P (l.getD i 0)) (fun i => V.int (l.getD i 0)) = (l.filter P).map V.int := by
  unfold given
  rw [List.length_map, ← range_filter_map P 0 l, List.map_map]
  rfl
theorem ok_queue {f fT fO : Addr} {fd fdT fdO : FuncData} (F : Fun K "_law_queue" "_law_queue" sQueue f fd) (FT : Fun K "_law_take" "_law_take" sTake fT fdT) (bT : Binds K fdT ["_law_box_here", "_law_below"] []) (gT : mg "_law_take" = some (.ref fT))
    (FO : Fun K "_law_of" "_law_of" sOf fO fdO) (bO : Binds K fdO ["_law_box_here", "_law_some"] []) (gO : mg "_law_of" = some (.ref fO))
    (ml : mg "len" = none) (mli : mg "list" = none) (mr : mg "range" = none) (mt : mg "tuple" = none) : FnOk P w K mg base CX0 3 f fd ["_law_box_here", "_law_count", "_law_size"] spQueue := by
  have GT : FnOk P w K mg base CX0 1 fT fdT ["_law_box_here", "_law_below"] spTake := ok_take FT
  have GO : FnOk P w K mg base CX0 2 fO fdO ["_law_box_here", "_law_some"] (spOf K) := ok_of FO FT bT gT ml
  refine F.ok scQueue (fun vs H Q E h => ?_) (fun cdv A outer s H vs Q E hr h => ?_)
  · obtain ⟨_, _, _, _, rfl, _⟩ := h
    rfl
  · obtain ⟨l, c, n, m, rfl, hB, hn, hm, hc, q⟩ := h
    have hr1 := hr.mono (show 1 ≤ 2 by decide)
    refine ⟨_, pss_cons (ps_asg (pe_tup (pa_cons (pe_listRg (by rfl) (by rfl) mli (prg_1 (by rfl) mr (pv 1))) (pa_cons (pe_lst pa_nil) (pa_cons (pe_call GT hr1 (by rfl) gT FT.kp bT .nil pass0 (pa_cons (pv 0) (pa_cons pe_int pa_nil))) pa_nil))))
        (pg_tup rfl (pgs_cons (pg_name (i := 3) scQueue.nd rfl (.inl rfl)) (pgs_cons (pg_name (i := 4) scQueue.nd rfl (.inr rfl)) (pgs_cons (pg_name (i := 5) scQueue.nd rfl (.inl rfl)) pgs_nil)))))
      (pss_cons (ps_for PassesOwn.never rfl (pi_range1 rfl mr (pa_cons (pv 2) pa_nil)) (pg_name (i := 6) scQueue.nd rfl (.inl rfl))
        (pss_cons (ps_setLc (i := 7) (own := [("_law_plot", 8)]) (g := gName 8) (by rfl) scQueue.nd rfl rfl (sw_true rfl rfl rfl (by decide +kernel)) (pi_list (pv 3))
            (blkOk_by (own := [("_law_plot", 8)]) (N := ["_law_box_here", "_law_count", "_law_size", "_law_left", "_law_found", "_law_near", "_law_spot", "_law_some", "_law_plot"]) (sc := defScope sQueue) (by decide +kernel))
            (fun _ _ _ _ _ => pg_name (i := 8) scQueue.nd rfl (Or.inl rfl) (hf := Or.inr rfl))
            (fun _ _ _ _ _ => pts_one (PW.pt (pw_or (pt_cmpR (opIn K) (pe_op op_sub (pv 8) pe_int) (pv 4) (by rfl)) (pw_or1 (pt_cmpR (opIn K) (pe_op op_add (pv 8) pe_int) (pv 4) (by rfl))))))
            (fun _ _ _ _ _ => pv 8))
        (pss_cut (ps_set (i := 7) scQueue.nd rfl (.inl rfl) (pe_ifExp (PW.pt (pw_and (pt_cmpR op_eq (pv 5) pe_int (nomark _)) (pw_and (pt_cmpR (op_neD hr.units) (pv 7) (pe_lst pa_nil) (nomark _)) (pw_and1 (pt_cmpR op_gt (pe_call GT hr1 (by rfl) gT FT.kp bT .nil pass0 (pa_cons (pv 0) (pa_cons pe_int pa_nil))) pe_int (nomark _)))))) (pv 7) (pv 3)))
        (pss_cons (ps_expr (pe_bm PySem.F.plainAttrs_list PySem.F.slot_list_append PySem.F.type_list_append mt_append (pv 4) (pa_cons (pe_call GO hr (by rfl) gO FO.kp bO .nil pass0 (pa_cons (pv 0) (pa_cons (pv 7) pa_nil))) pa_nil)))
        (pss_one (ps_setLc (i := 3) (own := [("_law_plot", 8)]) (g := gName 8) (by rfl) scQueue.nd rfl rfl (sw_true rfl rfl rfl (by decide +kernel)) (pi_list (pv 3))
            (blkOk_by (own := [("_law_plot", 8)]) (N := ["_law_box_here", "_law_count", "_law_size", "_law_left", "_law_found", "_law_near", "_law_spot", "_law_some", "_law_plot"]) (sc := defScope sQueue) (by decide +kernel))
            (fun _ _ _ _ _ => pg_name (i := 8) scQueue.nd rfl (Or.inl rfl) (hf := Or.inr rfl))
            (fun _ _ _ _ _ => pts_one (pt_cmpR op_ne (pv 8) (pe_ix (ixL K) (pv 4) (pe_un un_neg pe_int) (fun _ _ => rfl)) (nomark _)))
            (fun _ _ _ _ _ => pv 8)))))))
      (pss_one (ps_ret (pe_callTy call_tuple_of (by rfl) mt (by decide +kernel) (pa_cons (pv 4) pa_nil))))), ?_⟩
    refine ⟨_, rfl, n, rfl, RgOk.of_le (by omega) (by omega) (by omega) (by omega), fun lf hlf => ⟨Nat.zero_le _, fun fo hfo => ?_⟩⟩
    obtain ⟨bx, hbx⟩ := hB.at
    have nl1 : l ≠ lf := ne_of_none hbx hlf
    have x1 : Ex H (upd H lf (.lst (rgV 0 n))) := Ex.new hlf
    have nl2 : l ≠ fo := ne_of_none (x1 _ _ hbx) hfo
    have x2 : Ex H (upd (upd H lf (.lst (rgV 0 n))) fo (.lst [])) := x1.trans (Ex.new hfo)
    have nlo : lf ≠ fo := ne_of_none upd_same hfo
    have hrg : rgV 0 n = ((List.range n).map fun (i : Nat) => (i : Int)).map V.int := by
      unfold rgV
      rw [List.map_map, Int.sub_zero, Int.toNat_natCast]
      refine List.map_congr_left fun a _ => ?_
      show V.int (0 + (a : Int)) = V.int a
      rw [Int.zero_add]
    refine ⟨_, rfl, l, c, 3, rfl, hB.ex x2, by decide, by decide, by omega, fun near xs c1 r0 r1 hB1 hc1 => ⟨(show 3 ≤ sizeLine by decide), fun T hT => ⟨T, _, rfl, .inl (.inl upd_same), rfl, _, _, rfl, _, _, rfl, _, _, rfl, rfl, ?_⟩⟩⟩
    have Q0 : QInv H l lf fo (c + 1) n 0 (upd (upd (upd H lf (.lst (rgV 0 n))) fo (.lst [])) l (.lst xs)) c1 ((List.range n).map fun (i : Nat) => (i : Int)) [] := by
      refine ⟨(ExB.of x2).trans .box, hB1, hc1, ?_, ?_, Ne.symm nl1, Ne.symm nl2, nlo, fresh_back x1 hfo, ⟨List.nodup_nil, by simp, by simp⟩, rfl, ?_, fun p => ?_, by simp⟩
      · rw [upd_ne (Ne.symm nl1), upd_ne nlo, upd_same, hrg]
      · rw [upd_ne (Ne.symm nl2), upd_same]
        rfl
      · rw [List.nodup_iff_pairwise_ne, List.pairwise_map]
        exact List.nodup_range.imp fun {a b} h z => h (by omega)
      · simp only [List.mem_map, List.mem_range]
        constructor
        · rintro ⟨a, ha, rfl⟩
          exact ⟨⟨by omega, by omega⟩, by simp⟩
        · rintro ⟨⟨h1, h2⟩, _⟩
          exact ⟨p.toNat, by omega, by omega⟩
    replace Q0 := Q0.exx (Ex.new (o := .tup [.ref lf, .ref fo, .int near]) hT)
    refine ⟨_, rfl, m, rfl, by omega, by omega, for_range (lo := 0) (n := (m : Int).toNat) (fun i σ H3 => ∃ lf' y6 y7 c3 lft row, σ = [some (.ref l), some (.int n), some (.int m), some (.ref lf'), some (.ref fo), some (.int near), y6, y7, none] ∧ QInv H l lf' fo (c + 1 + 2 * i) n i H3 c3 lft row) ?_ ?_ ?_⟩
    · exact ⟨lf, none, none, c1, _, _, rfl, { Q0 with hc := by have := Q0.hc; omega }⟩
    · rintro i σ H3 hi ⟨lf', y6, y7, c3, lft, row, rfl, QI⟩
      have him : i < m := by omega
      have hlen : lft.length ≤ 100 := by have := QI.cnt; omega
      have hll : 0 < lft.length := by have := QI.cnt; omega
      have hi1 : ∀ {j : Nat} {x : V}, (lft.map V.int)[j]? = some x → j < 50000 ∧ x = .int (lft.getD j 0) := fun {j x} h => by
        have h2 := (List.getElem?_eq_some_iff.mp h).1
        rw [List.length_map] at h2
        refine ⟨by omega, ?_⟩
        rw [List.getElem?_map, List.getElem?_eq_getElem h2] at h
        rw [List.getD_eq_getElem?_getD, List.getElem?_eq_getElem h2]
        exact (Option.some.inj h).symm
      refine ⟨_, rfl, lf', rfl, ⟨_, .inl (.inl QI.atL)⟩, fun D hD => lc_list (xs := lft.map V.int) (Cw H3 (fun j => (fun p : Int => inV (.int (p - 1)) (row.map V.int) || inV (.int (p + 1)) (row.map V.int)) (lft.getD j 0)) (fun j => .int (lft.getD j 0)) D) ⟨hD, Ex.new hD, upd_same⟩ (fun j H' _ c => .inl (.inl (c.2.1 _ _ QI.atL))) (fun j x H' hx c => ?_) (fun H4 c => ?_)⟩
      · obtain ⟨hj, rfl⟩ := hi1 hx
        refine ⟨rfl, cw_turn c hj (fun H5 e5 Q' k' => ?_) (fun _ H5 e5 Q' k' => ⟨_, rfl, k' H5 (Ex.refl _)⟩)⟩
        have k2 := k' H5 (Ex.refl H5)
        have hf5 := e5 _ _ QI.atF
        refine ⟨_, rfl, _, _, rfl, rfl, _, rfl, fo, row.map V.int, rfl, .inl (.inl (.inl hf5)), rfl, flat_ints row, _, rfl, ?_⟩
        simp only at k2
        show if inV (V.int (lft.getD j 0 - 1)) (row.map V.int) = true then _ else _
        cases hb : inV (V.int (lft.getD j 0 - 1)) (row.map V.int) with
        | true =>
          rw [hb] at k2
          exact iteT k2
        | false =>
          rw [hb] at k2
          exact iteF ⟨_, rfl, _, _, rfl, rfl, _, rfl, fo, row.map V.int, rfl, .inl (.inl (.inl hf5)), rfl, flat_ints row, _, rfl, k2⟩
      · obtain ⟨d1, d2, d3⟩ := c
        rw [given_ints (fun p : Int => inV (.int (p - 1)) (row.map V.int) || inV (.int (p + 1)) (row.map V.int))] at d3
        have Q4 := QI.exx d2
        have hsub : ∀ z ∈ lft.filter (fun p : Int => inV (.int (p - 1)) (row.map V.int) || inV (.int (p + 1)) (row.map V.int)), z ∈ lft := fun z hz => (List.mem_filter.mp hz).1
        have hsl : (lft.filter (fun p : Int => inV (.int (p - 1)) (row.map V.int) || inV (.int (p + 1)) (row.map V.int))).length ≤ lft.length := List.length_filter_le _ _
        generalize lft.filter (fun p : Int => inV (.int (p - 1)) (row.map V.int) || inV (.int (p + 1)) (row.map V.int)) = zs at d3 hsub hsl
        obtain ⟨b4, hb4⟩ := Q4.box.at
        obtain ⟨b3, hb3⟩ := QI.box.at
        have nDl : D ≠ l := Ne.symm (ne_of_none hb3 d1)
        -- the mid point: some
        refine ⟨fun σ' H5 => ∃ (sm : Addr) (y6 : Option V) (ys : List Int) (c5 : Int), σ' = [some (.ref l), some (.int n), some (.int m), some (.ref lf'), some (.ref fo), some (.int near), y6, some (.ref sm), none] ∧ QInv H l lf' fo (c + 2 + 2 * i) n i H5 c5 lft row ∧ H5 sm = some (.lst (ys.map V.int)) ∧ sm ≠ l ∧ (∀ z ∈ ys, z ∈ lft) ∧ 1 ≤ ys.length ∧ ys.length ≤ 1000, ?_, ?_⟩
        · refine ⟨_, rfl, rfl, _, rfl, ite2 (fun e => ?_) (fun e => ?_)⟩
          · refine ⟨_, rfl, Nat.zero_le _, fun u hu => ⟨_, _, .lst (.inl (.inl (Ex.new hu _ _ d3))) (dp_ints zs), .lst (.inl (.inl upd_same)) .nil, (sh_ints zs).1, sh_nil, _, rfl, ?_⟩⟩
            have x5 : Ex H4 (upd H4 u (.lst [])) := Ex.new hu
            have Q5 := Q4.exx x5
            have d5 := x5 _ _ d3
            generalize upd H4 u (.lst []) = H5 at Q5 d5
            cases zs with
            | nil => exact iteF (iteF ⟨_, rfl, lf', _, lft, c3, rfl, { Q5 with hc := by have := Q5.hc; omega }, Q5.atL, Q5.nlf, fun z hz => hz, hll, by omega⟩)
            | cons z0 zr =>
              have hne : (!PyData.eqv (.list (dInts (z0 :: zr))) (.list [])) = true := by simp [dInts, PyData.eqv, PyData.eqvAll]
              rw [hne]
              refine iteT ⟨_, rfl, l, c3, 4, rfl, Q5.box, by decide, by decide, by have := Q5.hc; omega, fun r ys c' r0 r1 hB' hc' => ⟨_, _, rfl, rfl, _, rfl, ?_⟩⟩
              have Q6 : QInv H l lf' fo (c + 2 + 2 * i) n i (upd H5 l (.lst ys)) c' lft row := Q5.boxed hB' (by have := Q5.hc; omega)
              refine ite2 (fun e => ⟨_, rfl, D, _, z0 :: zr, c', rfl, Q6, ?_, nDl, hsub, by simp, by omega⟩) (fun e => ⟨_, rfl, lf', _, lft, c', rfl, Q6, Q6.atL, Q6.nlf, fun z hz => hz, hll, by omega⟩)
              rw [upd_ne nDl]
              exact d5
          · exact iteF ⟨_, rfl, lf', _, lft, c3, rfl, { Q4 with hc := by have := Q4.hc; omega }, Q4.atL, Q4.nlf, fun z hz => hz, hll, by omega⟩
        · rintro σ' H5 ⟨sm, y6', ys, c5, rfl, Q5, hsm, nsm, hys, hy1, hy2⟩
          refine ⟨_, rfl, .inl ⟨rfl, _, .inl (.inl Q5.atF)⟩, _, rfl, _, rfl, l, sm, c5, false, ys.map V.int, rfl, Q5.box, Ne.symm nsm, .inl (.inl hsm), by rw [List.length_map]; exact hy1, by rw [List.length_map]; exact hy2, by have := Q5.hc; omega, fun r x us c' hx hB' hc' => ?_⟩
          rw [List.getElem?_map] at hx
          obtain ⟨z, hz, rfl⟩ := Option.map_eq_some_iff.mp hx
          have hzl : z ∈ lft := hys z (List.mem_of_getElem? hz)
          have Q6 : QInv H l lf' fo (c + 3 + 2 * i) n i (upd H5 l (.lst us)) c' lft row := Q5.boxed hB' (by have := Q5.hc; omega)
          refine ⟨fo, row.map V.int, _, rfl, rfl, Q6.atF, ?_, ?_⟩
          · rw [List.length_map, Q6.len]
            exact small1000 (by omega)
          · have hmap : row.map V.int ++ [V.int z] = (row ++ [z]).map V.int := by
              rw [List.map_append]
              rfl
            rw [hmap]
            generalize upd H5 l (.lst us) = H6 at Q6
            have atL7 : (upd H6 fo (.lst ((row ++ [z]).map V.int))) lf' = some (.lst (lft.map V.int)) := by
              rw [upd_ne Q6.nlo]
              exact Q6.atL
            refine ⟨_, rfl, lf', rfl, ⟨_, .inl (.inl atL7)⟩, fun D2 hD2 => lc_list (xs := lft.map V.int) (Cw (upd H6 fo (.lst ((row ++ [z]).map V.int))) (fun j => (fun p : Int => p != z) (lft.getD j 0)) (fun j => .int (lft.getD j 0)) D2) ⟨hD2, Ex.new hD2, upd_same⟩ (fun j H' _ c => .inl (.inl (c.2.1 _ _ atL7))) (fun j x H' hx c => ?_) (fun H7 c => ?_)⟩
            · obtain ⟨hj, rfl⟩ := hi1 hx
              refine ⟨rfl, cw_turn c hj (fun H8 e8 Q' k' => ?_) (fun _ H8 e8 Q' k' => ⟨_, rfl, k' H8 (Ex.refl _)⟩)⟩
              have k2 := k' H8 (Ex.refl H8)
              have hl8 : atI ((row ++ [z]).map V.int) (-1) = some (.int z) := by
                rw [List.map_append]
                exact atI_last _ _
              refine ⟨_, rfl, _, rfl, 1, rfl, fo, _, -1, _, rfl, rfl, .inl (.inl (e8 _ _ upd_same)), hl8, rfl, _, rfl, ?_⟩
              have hbb := ne_bool (lft.getD j 0) z
              rw [hbb]
              exact k2
            · obtain ⟨g1, g2, g3⟩ := c
              rw [given_ints (fun p : Int => p != z)] at g3
              exact ⟨D2, _, _, c', _, _, rfl, Q6.step (by have := Q6.hc; omega) hzl hD2 g2 g3⟩
    · rintro σ H3 ⟨lf', y6, y7, c3, lft, row, rfl, QI⟩
      rw [Int.toNat_natCast] at QI
      refine ⟨_, rfl, fo, _, rfl, .inl ⟨.inl (.inl QI.atF), fun t ht => ?_⟩⟩
      have x4 : Ex H3 (upd H3 t (.tup (row.map V.int))) := Ex.new ht
      refine q _ t row c3 (QI.ex.trans (.of x4)) (QI.box.ex x4) QI.hc QI.rok QI.len ?_ upd_same
      cases hh : H t with
      | none => rfl
      | some o =>
        by_cases ntl : t = l
        · subst ntl
          obtain ⟨bb, hbb⟩ := QI.box.at
          rw [hbb] at ht
          cases ht
        · rw [QI.ex t o ntl hh] at ht
          cases ht
end
end Og

namespace Og
open PySem PySem.Spec PyProof.Rows L2 OgR Evl OgM
theorem ixT (K : PySem.W.Frag) {X : Cx} (h : X.K = K := by rfl) : IxR X (rIxT K) := by
  subst h
  exact ix_tup
/-! ### a dict that marks plots -/
def dk (v : V) (l : List Int) : List (Key × V) := l.map fun p => ((Sum.inl p : Key), v)
theorem dk_val (v : V) (k : Int) : ∀ l : List Int, valV (dk v l) (Sum.inl k) = if k ∈ l then some v else none
  | [] => by simp [dk, valV]
  | x :: r => by
    show valV ((Sum.inl x, v) :: dk v r) (Sum.inl k) = _
    by_cases e : x = k
    · rw [valV_pos (by rw [e])]
      simp [e]
    · rw [valV_neg (fun z => e (Sum.inl.inj z)), dk_val v k r]
      have : ¬ k = x := fun z => e z.symm
      simp [this]
theorem dk_some (v : V) (k : Int) (l : List Int) : (valV (dk v l) (Sum.inl k)).isSome = decide (k ∈ l) := by
  rw [dk_val]
  by_cases h : k ∈ l <;> simp [h]
theorem dk_put {v : V} {k : Int} {l : List Int} (h : k ∉ l) : putK (dk v l) (Sum.inl k) v = dk v (l ++ [k]) := by
  unfold putK
  have : ((dk v l).any fun kv => decide (kv.1 = Sum.inl k)) = false := by
    rw [valV_any, dk_some]
    simp [h]
  rw [this]
  simp [dk]
theorem dk_len (v : V) (l : List Int) : (dk v l).length = l.length := by simp [dk]
abbrev sNb : Stmt := topS 6
theorem scNb : FnScope ["row", "found", "built", "plot"] ["row"] (defScope sNb) := ⟨rfl, rfl, rfl, by decide +kernel, rfl, by decide +kernel, by decide +kernel⟩
abbrev sHouses : Stmt := topS 8
theorem scHouses : FnScope ["row", "beside"] ["row"] (defScope sHouses) := ⟨rfl, rfl, rfl, by decide +kernel, rfl, by decide +kernel, by decide +kernel⟩
def wordsV : List V := [.str (wstr .new), .str (wstr .beside), .str (wstr .between)]
section
variable {P : Program} {w : World} {K : PySem.W.Frag} {mg : Str → Option Value} {base : Heap}
def spNb (K : PySem.W.Frag) : Sp := fun vs H Q _ => ∃ (b : Bool) (a : Addr) (ns : List Int), vs = [.ref a] ∧ SqB K b H a (ns.map V.int) ∧ ns.Nodup ∧ ns.length ≤ 900 ∧
  ∀ H' p, Ex H H' → H p = none → H' p = some (.lst ((picks ns).map fun c => V.int (c.1.ix : Nat))) → Q (.ref p) H'
theorem b1_val (v : V) (k : Int) (l : List Int) : (valV (dk (.int 1) l) (Sum.inl k)).getD (.int 0) = .int (b1 (decide (k ∈ l)) : Nat) := by
  rw [dk_val]
  by_cases h : k ∈ l <;> simp [h, b1]
theorem ok_nb {f : Addr} {fd : FuncData} {k : Nat} (F : Fun K "neighbours" "neighbours" sNb f fd) : FnOk P w K mg base CX0 (k + 1) f fd ["row"] (spNb K) := by
  refine F.ok scNb (fun vs H Q E h => ?_) (fun cdv A outer s H vs Q E hr h => ?_)
  · obtain ⟨_, _, _, rfl, _⟩ := h
    rfl
  · obtain ⟨b, a, ns, rfl, hS, hnd, hlen, q⟩ := h
    have hu := hu_of hr
    refine ⟨_, pss_cons (ps_set (i := 1) scNb.nd rfl (.inl rfl) (pe_lst pa_nil)) (pss_cons (ps_set (i := 2) scNb.nd rfl (.inl rfl) pe_dnewK)
      (pss_cons (ps_for PassesOwn.never rfl (pi_seqB (pv 0)) (pg_name (i := 3) scNb.nd rfl (.inl rfl))
        (pss_cons (ps_expr (pe_bm PySem.F.plainAttrs_list PySem.F.slot_list_append PySem.F.type_list_append mt_append (pv 1) (pa_cons (pe_op op_add (pe_dget2 hu (pv 2) (pe_op op_sub (pv 3) pe_int) pe_int ⟨rfl, rfl, rfl, rfl⟩) (pe_dget2 hu (pv 2) (pe_op op_add (pv 3) pe_int) pe_int ⟨rfl, rfl, rfl, rfl⟩)) pa_nil)))
        (pss_one (ps_dput hu (pv 2) (pv 3) pe_int rfl))))
      (pss_one (ps_ret (pv 1))))), ?_⟩
    refine ⟨Nat.zero_le _, fun fo hfo d hd => ?_⟩
    have x1 : Ex H (upd H fo (.lst [])) := Ex.new hfo
    have x2 := x1.trans (Ex.new (o := .dK []) hd)
    have hd0 : H d = none := fresh_back x1 hd
    have nfd : fo ≠ d := ne_of_none upd_same hd
    refine ⟨_, rfl, b, a, _, rfl, hS.ex x2, for_it (walk_seqB (K := K) (b := b) (a := a) (xs := ns.map V.int)) (fun i σ H3 => ∃ y3, σ = [some (.ref a), some (.ref fo), some (.ref d), y3] ∧ Ex H H3 ∧ H3 fo = some (.lst (((picks ns).take i).map fun c => V.int (c.1.ix : Nat))) ∧ H3 d = some (.dK (dk (.int 1) (ns.take i)))) ?_ ?_ ?_ ?_⟩
    · refine ⟨none, rfl, x2, ?_, upd_same⟩
      rw [upd_ne nfd, upd_same]
      rfl
    · rintro i σ H3 _ ⟨_, _, e3, _⟩
      exact hS.ex e3
    · rintro i x σ H3 H3' hi ⟨y3, rfl, e3, hf3, hd3⟩ ⟨rfl, hx⟩
      rw [List.getElem?_map] at hx
      obtain ⟨p, hp, rfl⟩ := Option.map_eq_some_iff.mp hx
      have hfr := nodup_fresh hnd hp
      have hnb := nb_pick (hnd.sublist (List.take_sublist i ns)) hfr
      have hil := (List.getElem?_eq_some_iff.mp hp).1
      refine ⟨_, rfl, .inl ⟨rfl, _, .inl (.inl hf3)⟩, _, rfl, d, rfl, .inl ⟨_, .inl hd3⟩, _, rfl, _, _, rfl, rfl, _, DGet.k (k := Sum.inl (p - 1)) hd3, _, rfl, d, rfl, .inl ⟨_, .inl hd3⟩, _, rfl, _, _, rfl, rfl, _, DGet.k (k := Sum.inl (p + 1)) hd3, ?_⟩
      rw [b1_val (.int 1), b1_val (.int 1)]
      refine ⟨_, _, rfl, rfl, fo, _, _, rfl, rfl, hf3, ?_, ?_⟩
      · rw [List.length_map, List.length_take, picks_len]
        exact small1000 (by omega)
      · refine ⟨_, rfl, _, rfl, d, _, rfl, DPut.k (k := Sum.inl p) (kvs := dk (.int 1) (ns.take i)) ?_ ?_, _, rfl, Ex.mut (Ex.mut e3 hfo) hd0, ?_, ?_⟩
        · rw [upd_ne (Ne.symm nfd)]
          exact hd3
        · rw [dk_len, List.length_take]
          exact small1000 (by omega)
        · rw [upd_ne nfd, upd_same, take_next (picks_get hp), List.map_append]
          have e7 : (b1 (decide (p - 1 ∈ ns.take i)) : Int) + (b1 (decide (p + 1 ∈ ns.take i)) : Int) = ((pick p (segs (ns.take i))).1.ix : Int) := by
            rw [← hnb]
            omega
          show some (HO.lst (_ ++ [V.int ((b1 (decide (p - 1 ∈ ns.take i)) : Int) + (b1 (decide (p + 1 ∈ ns.take i)) : Int))])) = _
          rw [e7]
          rfl
        · rw [upd_same, dk_put hfr, take_next hp]
    · rintro σ H3 ⟨y3, rfl, e3, hf3, hd3⟩
      rw [List.take_of_length_le (by rw [picks_len, List.length_map]; exact Nat.le_refl _)] at hf3
      exact ⟨_, rfl, q H3 fo e3 hfo hf3⟩
/-! ### houses -/
def spHouses (K : PySem.W.Frag) : Sp := fun vs H Q _ => ∃ (b : Bool) (a : Addr) (ns : List Int), vs = [.ref a] ∧ SqB K b H a (ns.map V.int) ∧ ns.Nodup ∧ ns.length ≤ 900 ∧
  ∀ H' p, Ex H H' → H p = none → H' p = some (.tup ((picks ns).map fun c => V.str (wstr c.1))) → Q (.ref p) H'
theorem ok_houses {f fN aW : Addr} {fd fdN : FuncData} {k : Nat} (F : Fun K "houses" "houses" sHouses f fd) (FN : Fun K "neighbours" "neighbours" sNb fN fdN) (bN : Binds K fdN ["row"] []) (gN : mg "neighbours" = some (.ref fN))
    (gW : mg "WORDS" = some (.ref aW)) (sW : ∀ H, SqT K H aW wordsV) (mt : mg "tuple" = none) : FnOk P w K mg base CX0 (k + 2) f fd ["row"] (spHouses K) := by
  have GN : FnOk P w K mg base CX0 (k + 1) fN fdN ["row"] (spNb K) := ok_nb FN
  refine F.ok scHouses (fun vs H Q E h => ?_) (fun cdv A outer s H vs Q E hr h => ?_)
  · obtain ⟨_, _, _, rfl, _⟩ := h
    rfl
  · obtain ⟨b, a, ns, rfl, hS, hnd, hlen, q⟩ := h
    refine ⟨_, pss_one (ps_ret (pe_callTy call_tuple_of (by rfl) mt (by decide +kernel) (pa_cons
        (pe_lc (own := [("beside", 1)]) (g := gName 1) (by rfl) scHouses.nd (pi_list (pe_call GN hr (by rfl) gN FN.kp bN .nil pass0 (pa_cons (pv 0) pa_nil)))
          (blkOk_by (own := [("beside", 1)]) (N := ["row", "beside"]) (sc := defScope sHouses) (by decide +kernel))
          (fun _ _ _ _ _ => pg_name (i := 1) scHouses.nd rfl (Or.inl rfl) (hf := Or.inr rfl))
          (fun _ _ _ _ _ => pts_nil)
          (fun _ _ _ _ _ => pe_ix (ixT K) (pe_glob (v := .ref aW) rfl gW rfl) (pv 1) (fun _ _ => rfl))) pa_nil))), ?_⟩
    refine ⟨_, rfl, b, a, ns, rfl, hS, hnd, hlen, fun H1 fo e1 hfo hf1 => ⟨fo, rfl, ⟨_, .inl (.inl hf1)⟩, fun D hD => lc_list (xs := (picks ns).map fun c => V.int (c.1.ix : Nat)) (fun i H' => Ex H1 H' ∧ H' D = some (.lst (((picks ns).take i).map fun c => V.str (wstr c.1)))) ⟨Ex.new hD, upd_same⟩ (fun i H' _ c => .inl (.inl (c.1 _ _ hf1))) (fun i x H' hx c => ?_) (fun H2 c => ?_)⟩⟩
    · rw [List.getElem?_map] at hx
      obtain ⟨ch, hch, rfl⟩ := Option.map_eq_some_iff.mp hx
      have hil := (List.getElem?_eq_some_iff.mp hch).1
      rw [picks_len] at hil
      have hw : atI wordsV ((ch.1.ix : Nat) : Int) = some (.str (wstr ch.1)) := by
        refine atI_nat ?_
        cases ch.1 <;> rfl
      refine ⟨rfl, _, rfl, aW, wordsV, _, _, rfl, rfl, sW _, hw, _, c.2, ?_, Ex.mut c.1 hD, ?_⟩
      · rw [List.length_map, List.length_take, picks_len]
        exact small1000 (by omega)
      · rw [upd_same, take_next hch, List.map_append]
        rfl
    · rw [List.take_of_length_le (by rw [List.length_map]; exact Nat.le_refl _)] at c
      exact ⟨D, _, rfl, .inl ⟨.inl (.inl c.2), fun t ht => q _ t ((e1.trans c.1).trans (Ex.new ht)) (fresh_back (e1.trans c.1) ht) upd_same⟩⟩
end
end Og

namespace Og
open PySem PySem.Spec PyProof.Rows L2 OgR Evl OgM
section
variable {P : Program} {w : World} {K : PySem.W.Frag} {mg : Str → Option Value} {base : Heap}
def spGlo : Sp := fun vs H Q _ => ∃ (d : Addr) (v : V) (ns : List Int) (p : Int), vs = [.ref d, .int p] ∧ H d = some (.dK (dk v ns)) ∧ ns.Nodup ∧ ns.length ≤ 900 ∧ ∀ H', Ex H H' → Q (.int (left p (segs ns) : Nat)) H'
/-! ### number_of_choice -/
def spNum : Sp := fun vs H Q _ => ∃ (d : Addr) (v : V) (ns : List Int) (p : Int), vs = [.ref d, .int p, .str (wstr (pick p (segs ns)).1)] ∧ H d = some (.dK (dk v ns)) ∧ ns.Nodup ∧ p ∉ ns ∧ ns.length ≤ 900 ∧ ∀ H', Ex H H' → Q (.int ((pick p (segs ns)).2 : Nat)) H'
/-! ### choices_of -/
def spCof (K : PySem.W.Frag) : Sp := fun vs H Q _ => ∃ (b : Bool) (a : Addr) (ns : List Int), vs = [.ref a] ∧ SqB K b H a (ns.map V.int) ∧ ns.Nodup ∧ ns.length ≤ 900 ∧
  ∀ H' t, Ex H H' → ChIs K true true H' t (picks ns) → Q (.ref t) H'
end
end Og

namespace Og
open PySem PySem.Spec PyProof.Rows L2 OgR Evl OgM
theorem at_last_int {l : List Int} {z : Int} (h : l.getLast? = some z) : atI (l.map V.int) (-1) = some (.int z) := by
  obtain ⟨l0, hl0⟩ := List.getLast?_eq_some_iff.mp h
  rw [hl0, List.map_append]
  exact atI_last _ _
section
variable {P : Program} {w : World} {K : PySem.W.Frag} {mg : Str → Option Value} {base : Heap}
end
end Og

namespace Og
open PySem PySem.Spec PyProof.Rows L2 OgR Evl OgM
theorem paired_take {α β : Type} {F : α → β → Prop} : ∀ {l : List α} {g : List β} (k : Nat), Paired F l g → Paired F (l.take k) (g.take k)
  | _, _, 0, _ => .nil
  | _, _, _ + 1, .nil => .nil
  | _, _, k + 1, .cons r t => .cons r (paired_take k t)
theorem paired_drop {α β : Type} {F : α → β → Prop} : ∀ {l : List α} {g : List β} (k : Nat), Paired F l g → Paired F (l.drop k) (g.drop k)
  | _, _, 0, h => h
  | _, _, _ + 1, .nil => .nil
  | _, _, k + 1, .cons r t => paired_drop k t
theorem paired_app {α β : Type} {F : α → β → Prop} : ∀ {l l' : List α} {g g' : List β}, Paired F l g → Paired F l' g' → Paired F (l ++ l') (g ++ g')
  | _, _, _, _, .nil, h => h
  | _, _, _, _, .cons r t, h => .cons r (paired_app t h)
theorem paired_keep {α β : Type} {F G : α → β → Prop} : ∀ {l : List α} {g : List β}, Paired F l g → (∀ a ∈ l, ∀ b, F a b → G a b) → Paired G l g
  | _, _, .nil, _ => .nil
  | _, _, .cons r t, h => .cons (h _ (by simp) _ r) (paired_keep t fun a ha b => h a (by simp [ha]) b)
theorem paired_back {α β : Type} {F : α → β → Prop} : ∀ {l : List α} {g : List β} {i : Nat} {b : β}, Paired F l g → g[i]? = some b → ∃ a, l[i]? = some a ∧ F a b
  | _, _, _, _, .nil, e => by simp at e
  | _, _, 0, _, .cons r _, e => by
    simp at e
    subst e
    exact ⟨_, rfl, r⟩
  | _, _, i + 1, _, .cons _ t, e => paired_back (i := i) t (by simpa using e)
def tv (n : Nat) : V := .int (n : Int)
def PTm (H0 H : Hp) (q : Addr) (ts : List Nat) : Prop := H0 q = none ∧ H q = some (.lst (ts.map tv))
structure TL (H0 H : Hp) (p : Addr) (qs : List Addr) (st : List (List Nat)) : Prop where
  new : H0 p = none
  ex : Ex H0 H
  atP : H p = some (.lst (qs.map V.ref))
  pr : Paired (PTm H0 H) qs st
  np : p ∉ qs
  nd : qs.Nodup
section
variable {H0 H : Hp} {p : Addr} {qs : List Addr} {st : List (List Nat)}
theorem TL.exx {H' : Hp} (h : TL H0 H p qs st) (e : Ex H H') : TL H0 H' p qs st :=
  ⟨h.new, h.ex.trans e, e _ _ h.atP, h.pr.mono fun _ _ x => ⟨x.1, e _ _ x.2⟩, h.np, h.nd⟩
theorem TL.mem {q : Addr} (h : TL H0 H p qs st) (m : q ∈ qs) : ∃ ts, H q = some (.lst ts) ∧ H0 q = none := by
  obtain ⟨b, _, x⟩ := paired_mem h.pr q m
  exact ⟨_, x.2, x.1⟩
/-- the list of groups itself is changed: some of its lists kept, one new in between -/
theorem TL.cut {v : Addr} {ts : List Nat} {i j : Nat} (h : TL H0 H p qs st) (hv : H v = some (.lst (ts.map tv))) (h0 : H0 v = none) (nv : v ∉ qs) (nvp : v ≠ p) (hij : i ≤ j) :
    TL H0 (upd H p (.lst ((qs.take i ++ [v] ++ qs.drop j).map V.ref))) p (qs.take i ++ [v] ++ qs.drop j) (st.take i ++ [ts] ++ st.drop j) := by
  have sub : ∀ q ∈ qs, q ≠ p := fun q hq z => h.np (z ▸ hq)
  have mt : ∀ q ∈ qs.take i, q ∈ qs := fun q hq => List.mem_of_mem_take hq
  have md : ∀ q ∈ qs.drop j, q ∈ qs := fun q hq => List.mem_of_mem_drop hq
  refine ⟨h.new, h.ex.mut h.new, upd_same, paired_app (paired_app (paired_keep (paired_take i h.pr) fun q hq b x => ⟨x.1, ?_⟩) (.cons ⟨h0, ?_⟩ .nil)) (paired_keep (paired_drop j h.pr) fun q hq b x => ⟨x.1, ?_⟩), ?_, ?_⟩
  · rw [upd_ne (sub q (mt q hq))]
    exact x.2
  · rw [upd_ne nvp]
    exact hv
  · rw [upd_ne (sub q (md q hq))]
    exact x.2
  · simp only [List.mem_append, List.mem_singleton]
    rintro ((m | m) | m)
    · exact h.np (mt p m)
    · exact nvp m.symm
    · exact h.np (md p m)
  · have hs : (qs.take i ++ qs.drop j).Nodup := by
      refine h.nd.sublist ?_
      conv => rhs; rw [← List.take_append_drop i qs]
      refine List.Sublist.append (List.Sublist.refl _) ?_
      have : qs.drop j = (qs.drop i).drop (j - i) := by
        rw [List.drop_drop]
        congr 1
        omega
      rw [this]
      exact List.drop_sublist _ _
    rw [List.nodup_append] at hs ⊢
    obtain ⟨s1, s2, s3⟩ := hs
    refine ⟨?_, s2, fun a ha b hb e => ?_⟩
    · rw [List.nodup_append]
      refine ⟨s1, by simp, fun a ha b hb e => ?_⟩
      rw [List.mem_singleton.mp hb] at e
      exact nv (e ▸ mt a ha)
    · rcases List.mem_append.mp ha with ha | ha
      · exact s3 a ha b hb e
      · rw [List.mem_singleton.mp ha] at e
        exact nv (e ▸ md b hb)
/-- one of its lists is changed -/
theorem TL.one {q : Addr} {ts ts' : List Nat} {j : Nat} (h : TL H0 H p qs st) (hq : qs[j]? = some q) (hs : st[j]? = some ts) :
    TL H0 (upd H q (.lst (ts'.map tv))) p qs (st.set j ts') := by
  have hm : q ∈ qs := List.mem_of_getElem? hq
  have nqp : q ≠ p := fun z => h.np (z ▸ hm)
  obtain ⟨_, _, h0⟩ := h.mem hm
  have hj := (List.getElem?_eq_some_iff.mp hs).1
  have hjq := (List.getElem?_eq_some_iff.mp hq).1
  have eq : qs = qs.take j ++ q :: qs.drop (j + 1) := by
    rw [← drop_at hq, List.take_append_drop]
  have nd := h.nd
  rw [eq, List.nodup_append] at nd
  obtain ⟨n1, n2, n3⟩ := nd
  rw [List.nodup_cons] at n2
  refine ⟨h.new, h.ex.mut h0, by rw [upd_ne (Ne.symm nqp)]; exact h.atP, ?_, h.np, h.nd⟩
  rw [List.set_eq_take_append_cons_drop, if_pos hj]
  conv => arg 2; rw [eq]
  refine paired_app (paired_keep (paired_take j h.pr) fun q' hq' b x => ⟨x.1, ?_⟩) (.cons ⟨h0, upd_same⟩ (paired_keep (paired_drop (j + 1) h.pr) fun q' hq' b x => ⟨x.1, ?_⟩))
  · rw [upd_ne (fun z => n3 q' hq' q (by simp) z)]
    exact x.2
  · rw [upd_ne (fun (z : q' = q) => n2.1 (z ▸ hq'))]
    exact x.2
end
section
variable {P : Program} {w : World} {K : PySem.W.Frag} {mg : Str → Option Value} {base : Heap}
def spTig (K : PySem.W.Frag) : Sp := fun vs H Q _ => ∃ (b b' : Bool) (a : Addr) (cs : List Ch), vs = [.ref a] ∧ ChIs K b b' H a cs ∧ VCh cs ∧ cs.length ≤ 900 ∧
  ∀ H' p qs, TL H H' p qs (stAt cs cs.length) → Q (.ref p) H'
end
end Og

namespace Og
open PySem PySem.Spec PyProof.Rows L2 OgR Evl OgM
/-- gaps[1:], a list or a tuple that is not empty -/
def rSlB (K : PySem.W.Frag) : V → Option Int → Option Int → Hp → VK → Prop := fun x lo hi H Q => ∃ (b : Bool) (a : Addr) (y : V) (ys : List V), x = .ref a ∧ lo = some 1 ∧ hi = none ∧ SqB K b H a (y :: ys) ∧
  ∀ p H', H p = none → Ex H H' → SqB K b H' p ys → Q (.ref p) H'
theorem sl_B {X : Cx} : SlR X (rSlB X.K) := by
  intro pins s σ H x v vl vu lo hi sl Q I rx hs pl pu h
  obtain ⟨b, a, y, ys, rfl, rfl, rfl, hS, q⟩ := h
  have e : cutV (y :: ys) (some 1) none = ys := cut_from (y :: ys) 1
  cases b with
  | true =>
    refine sl_tup pins s σ H _ v vl vu _ _ sl Q I rx hs pl pu ⟨a, y :: ys, rfl, hS, fun z => ?_, fun p hp => ?_⟩
    · have z1 : HT.sIx (y :: ys).length 0 (some ((1 : Nat) : Int)) = 0 := z.1
      rw [HT.sIx_nat, List.length_cons] at z1
      omega
    · rw [e]
      exact q p _ hp (Ex.new hp) (.inl (.inl upd_same))
  | false =>
    refine sl_list pins s σ H _ v vl vu _ _ sl Q I rx hs pl pu ⟨a, y :: ys, rfl, hS, fun p hp => ?_⟩
    rw [e]
    exact q p _ hp (Ex.new hp) (.inl (.inl upd_same))
theorem rep_flat : ∀ n : Nat, (List.replicate n [V.int 0]).flatten = (List.replicate n (0 : Int)).map V.int
  | 0 => rfl
  | n + 1 => by
    rw [List.replicate_succ, List.replicate_succ, List.flatten_cons, rep_flat n]
    rfl
theorem SqB.exB {K : PySem.W.Frag} {b : Bool} {l a : Addr} {H H' : Hp} {xs : List V} (h : SqB K b H a xs) (n : a ≠ l) (e : ExB l H H') : SqB K b H' a xs := by
  cases b with
  | true =>
    rcases h with (h | ⟨o, h⟩) | h
    · exact .inl (.inl (e _ _ n h))
    · exact .inl (.inr ⟨o, e _ _ n h⟩)
    · exact .inr h
  | false =>
    rcases h with (h | ⟨o, h⟩) | h
    · exact .inl (.inl (e _ _ n h))
    · exact .inl (.inr ⟨o, e _ _ n h⟩)
    · exact .inr h
theorem all_at {R : List Int} {n : Nat} {fn : Nat → Int} (hl : R.length = n) (h : ∀ t, t < n → R[t]? = some (fn t)) : R = (List.range n).map fn := by
  refine List.ext_getElem? fun i => ?_
  by_cases hi : i < n
  · rw [h i hi, List.getElem?_map, List.getElem?_range hi]
    rfl
  · rw [List.getElem?_eq_none (by omega), List.getElem?_eq_none (by simp; omega)]
section
variable {P : Program} {w : World} {K : PySem.W.Frag} {mg : Str → Option Value} {base : Heap}
def spRow (K : PySem.W.Frag) : Sp := fun vs H Q _ => ∃ (b b' bg : Bool) (a ga : Addr) (cs : List Ch) (c : Int) (g : List Seg) (fn : Nat → Int), vs = [.ref a, .ref ga] ∧ ChIs K b b' H a cs ∧ VCh cs ∧ cs.length ≤ 900 ∧
  SqB K bg H ga ((holes c g).map V.int) ∧ Told fn (stAt cs cs.length) g ∧ ∀ H' t, Ex H H' → H t = none → H' t = some (.tup (((List.range cs.length).map fn).map V.int)) → Q (.ref t) H'
end
end Og

namespace Og
open PySem PySem.Spec PyProof.Rows L2 OgR Evl OgM
/-! ### kinds -/
theorem tyx_L {K : PySem.W.Frag} {H : Hp} {a : Addr} {xs : List V} (h : SqL K H a xs) : TyX K H (.ref a) (.type "list") := by
  rcases h with (h | ⟨o, h⟩) | ⟨o, _, _, hk, hc, _⟩
  · exact .base (.lst h)
  · exact .base (.frz h)
  · exact .kList hk hc
theorem tyx_T {K : PySem.W.Frag} {H : Hp} {a : Addr} {xs : List V} (h : SqT K H a xs) : TyX K H (.ref a) (.type "tuple") := by
  rcases h with (h | ⟨o, h⟩) | ⟨o, _, _, hk, hc, _⟩
  · exact .base (.tup h)
  · exact .fTuple h
  · exact .kTuple hk hc
def tyN : PyData → String
  | .none => "NoneType"
  | .bool _ => "bool"
  | .int _ => "int"
  | .str _ => "str"
  | .list _ => "list"
  | .tuple _ => "tuple"
  | .dict _ => "dict"
theorem tyx_D {K : PySem.W.Frag} {H : Hp} {v : V} {d : PyData} (h : Dp K H v d) : TyX K H v (.type (tyN d)) := by
  cases h with
  | non => exact .base .non
  | bl b => exact .base (.bl b)
  | int i => exact .base (.int i)
  | str x => exact .base (.str x)
  | lst h _ => exact tyx_L h
  | tup h _ => exact tyx_T h
def isNum : PyData → Bool
  | .int _ => true
  | _ => false
def isBelow (d : PyData) (n : Int) : Bool :=
  match d with
  | .int i => decide (0 ≤ i) && decide (i < n)
  | _ => false
def manyC : Wd → Nat → Nat
  | .new, n => n + 1
  | .beside, n => 2 * n
  | .between, n => n - 1
theorem valid_iff {c : Ch} {n : Nat} (h : Valid c n) : c.2 < manyC c.1 n := by
  obtain ⟨w, k⟩ := c
  cases w with
  | new => exact Nat.lt_succ_of_le h
  | beside => exact h
  | between =>
    have h' : k + 1 < n := h
    show k < n - 1
    omega
abbrev sIsN : Stmt := topS 1
theorem scIsN : FnScope ["thing"] ["thing"] (defScope sIsN) := ⟨rfl, rfl, rfl, by decide +kernel, rfl, by decide +kernel, by decide +kernel⟩
abbrev sIsB : Stmt := topS 2
theorem scIsB : FnScope ["thing", "limit"] ["thing", "limit"] (defScope sIsB) := ⟨rfl, rfl, rfl, by decide +kernel, rfl, by decide +kernel, by decide +kernel⟩
section
variable {P : Program} {w : World} {K : PySem.W.Frag} {mg : Str → Option Value} {base : Heap}
def spIsN (K : PySem.W.Frag) : Sp := fun vs H Q _ => ∃ (v : V) (d : PyData), vs = [v] ∧ Dp K H v d ∧ Q (.bl (isNum d)) H
theorem kb_int (d : PyData) : ∃ b, kitB (tyN d) "int" = some b ∧ ∃ c, kitB (tyN d) "bool" = some c ∧ (b && !c) = isNum d := by
  cases d with
  | none => exact ⟨false, (show kitB "NoneType" "int" = some false by decide +kernel), false, (show kitB "NoneType" "bool" = some false by decide +kernel), rfl⟩
  | bool _ => exact ⟨true, (show kitB "bool" "int" = some true by decide +kernel), true, (show kitB "bool" "bool" = some true by decide +kernel), rfl⟩
  | int _ => exact ⟨true, (show kitB "int" "int" = some true by decide +kernel), false, (show kitB "int" "bool" = some false by decide +kernel), rfl⟩
  | str _ => exact ⟨false, (show kitB "str" "int" = some false by decide +kernel), false, (show kitB "str" "bool" = some false by decide +kernel), rfl⟩
  | list _ => exact ⟨false, (show kitB "list" "int" = some false by decide +kernel), false, (show kitB "list" "bool" = some false by decide +kernel), rfl⟩
  | tuple _ => exact ⟨false, (show kitB "tuple" "int" = some false by decide +kernel), false, (show kitB "tuple" "bool" = some false by decide +kernel), rfl⟩
  | dict _ => exact ⟨false, (show kitB "dict" "int" = some false by decide +kernel), false, (show kitB "dict" "bool" = some false by decide +kernel), rfl⟩
theorem ok_isN {f : Addr} {fd : FuncData} {k : Nat} (F : Fun K "is_number" "is_number" sIsN f fd) (mI : mg "isinstance" = none) (mi : mg "int" = none) (mb : mg "bool" = none) : FnOk P w K mg base CX0 (k + 1) f fd ["thing"] (spIsN K) := by
  refine F.ok scIsN (fun vs H Q E h => ?_) (fun cdv A outer s H vs Q E hr h => ?_)
  · obtain ⟨_, _, rfl, _⟩ := h
    rfl
  · obtain ⟨v, d, rfl, hd, q⟩ := h
    refine ⟨_, pss_one (ps_ret (pe_and (pe_callB call_isi (by rfl) mI (by decide +kernel) (pa_cons (pv 0) (pa_cons (pe_bltn (v := .ty "int") (by rfl) mi (by decide +kernel) rfl) pa_nil)))
      (pe_one (pe_not (pe_callB call_isi (by rfl) mI (by decide +kernel) (pa_cons (pv 0) (pa_cons (pe_bltn (v := .ty "bool") (by rfl) mb (by decide +kernel) rfl) pa_nil))))))), ?_⟩
    obtain ⟨b, hb, c, hc, e⟩ := kb_int d
    refine ⟨_, rfl, v, _, _, _, b, rfl, .ty _, tyx_D hd, kit_ty hb, b, rfl, ?_⟩
    cases b with
    | false =>
      rw [← e] at q
      exact q
    | true =>
      refine ⟨_, rfl, v, _, _, _, c, rfl, .ty _, tyx_D hd, kit_ty hc, c, rfl, ?_⟩
      rw [← e] at q
      exact q
def spIsB (K : PySem.W.Frag) : Sp := fun vs H Q _ => ∃ (v : V) (d : PyData) (n : Int), vs = [v, .int n] ∧ Dp K H v d ∧ Q (.bl (isBelow d n)) H
theorem ok_isB {f fN : Addr} {fd fdN : FuncData} {k : Nat} (F : Fun K "is_number_below" "is_number_below" sIsB f fd) (FN : Fun K "is_number" "is_number" sIsN fN fdN) (bN : Binds K fdN ["thing"] []) (gN : mg "is_number" = some (.ref fN))
    (mI : mg "isinstance" = none) (mi : mg "int" = none) (mb : mg "bool" = none) : FnOk P w K mg base CX0 (k + 2) f fd ["thing", "limit"] (spIsB K) := by
  have GN : FnOk P w K mg base CX0 (k + 1) fN fdN ["thing"] (spIsN K) := ok_isN FN mI mi mb
  refine F.ok scIsB (fun vs H Q E h => ?_) (fun cdv A outer s H vs Q E hr h => ?_)
  · obtain ⟨_, _, _, rfl, _⟩ := h
    rfl
  · obtain ⟨v, d, n, rfl, hd, q⟩ := h
    refine ⟨_, pss_one (ps_ret (pe_and (pe_call GN hr (by rfl) gN FN.kp bN .nil pass0 (pa_cons (pv 0) pa_nil)) (pe_one (pe_chain op_le op_lt pe_int (pv 0) (pv 1))))), ?_⟩
    refine ⟨_, rfl, v, d, rfl, hd, _, rfl, ?_⟩
    cases hd with
    | int i =>
      refine ⟨_, rfl, _, _, rfl, rfl, _, rfl, ?_⟩
      have q2 : Q (.bl (decide (0 ≤ i) && decide (i < n))) H := q
      by_cases h0 : 0 ≤ i
      · rw [decide_eq_true h0] at q2 ⊢
        exact ⟨_, rfl, _, _, rfl, rfl, q2⟩
      · rw [decide_eq_false h0] at q2 ⊢
        exact q2
    | non => exact q
    | bl _ => exact q
    | str _ => exact q
    | lst _ _ => exact q
    | tup _ _ => exact q
def spMany : Sp := fun vs H Q _ => ∃ (wd : Wd) (n : Nat), vs = [.str (wstr wd), .int n] ∧ n ≤ 1000000 ∧ Q (.int (manyC wd n : Nat)) H
/-! ### is_choice, of a choice that is one -/
def spIsC (K : PySem.W.Frag) : Sp := fun vs H Q _ => ∃ (t : Addr) (n : Nat) (c : Ch), vs = [.int n, .ref t] ∧ SqT K H t (chV c) ∧ Valid c n ∧ n ≤ 1000000 ∧ Q (.bl true) H
end
end Og

namespace Og
open PySem PySem.Spec PyProof.Rows L2 OgR Evl OgM
theorem ixD (K : PySem.W.Frag) (w : World) {X : Cx} (h : X.K = K := by rfl) (h' : X.w = w := by rfl) : IxR X (rIxD K w) := by
  subst h h'
  exact ix_kdict
theorem opGeI {X : Cx} : OpR X (compareOp .GtE) (rI0 fun i j => .bl (decide (j ≤ i))) := op_ge
theorem sIx_m1 (n : Nat) (h : 1 ≤ n) : HT.sIx n n (some (-1)) = n - 1 := by
  show (if (-1 : Int) < 0 then ((-1 : Int) + (n : Int)).toNat else min (-1 : Int).toNat n) = n - 1
  rw [if_pos (by decide)]
  omega
theorem cut_in {xs : List V} (h : 1 ≤ xs.length) : cutV xs (some 1) (some (-1)) = (xs.drop 1).take (xs.length - 2) := by
  unfold cutV
  rw [sIx_m1 _ h, show HT.sIx xs.length 0 (some 1) = min 1 xs.length from HT.sIx_nat xs.length 0 1, Nat.min_eq_left h]
  congr 1
theorem rep_snoc (n : Nat) : List.replicate (n + 1) true = List.replicate n true ++ [true] := by
  rw [List.replicate_succ']
theorem rep_all (n : Nat) : (List.replicate n true).all id = true := by
  induction n with
  | zero => rfl
  | succ n ih =>
    rw [List.replicate_succ, List.all_cons, ih]
    rfl
section
variable {P : Program} {w : World} {K : PySem.W.Frag} {mg : Str → Option Value} {base : Heap}
def spIsCs (K : PySem.W.Frag) : Sp := fun vs H Q _ => ∃ (a : Addr) (cs : List Ch), vs = [.ref a] ∧ ChIs K true true H a cs ∧ VCh cs ∧ cs.length ≤ 900 ∧ Q (.bl true) H
/-! ### groups_after -/
def spGa (K : PySem.W.Frag) : Sp := fun vs H Q _ => ∃ (a : Addr) (ws : List Wd), vs = [.ref a] ∧ SqL K H a (ws.map fun wd => V.str (wstr wd)) ∧ ws.length ≤ 900 ∧ ∀ H', Ex H H' → Q (.int (ws.map Wd.step).sum) H'
/-! ### is_gaps, of gaps that are some -/
def spIsG (K : PySem.W.Frag) : Sp := fun vs H Q _ => ∃ (b b' : Bool) (a ga : Addr) (cs : List Ch) (hs : List Int), vs = [.ref a, .ref ga] ∧ ChIs K b b' H a cs ∧ VCh cs ∧ cs.length ≤ 900 ∧ SqT K H ga (hs.map V.int) ∧ hs.length = (stAt cs cs.length).length + 1 ∧
  (∀ i x, hs[i]? = some x → 0 ≤ x ∧ (1 ≤ i → i + 1 < hs.length → 1 ≤ x)) ∧ ∀ H', Ex H H' → Q (.bl true) H'
end
end Og

namespace Og
open PySem PySem.Spec PyProof.Rows L2 OgR Evl OgM
def flatD : PyData → Bool
  | .none | .bool _ | .int _ | .str _ => true
  | _ => false
/-- flat, or a short list or tuple of such -/
def OnD (C : PyData → Prop) (d : PyData) : Prop := flatD d = true ∨ ∃ ds, (d = .list ds ∨ d = .tuple ds) ∧ ds.length ≤ 1000 ∧ ∀ x ∈ ds, C x
def NoD : PyData → Prop := fun _ => False
mutual
theorem dp_ex {K : PySem.W.Frag} {H H' : Hp} (e : Ex H H') : ∀ {d : PyData} {v : V}, Dp K H v d → Dp K H' v d
  | _, _, .non => .non
  | _, _, .bl b => .bl b
  | _, _, .int i => .int i
  | _, _, .str x => .str x
  | _, _, .lst h t => .lst (ex_l e h) (dpa_ex e t)
  | _, _, .tup h t => .tup (ex_t e h) (dpa_ex e t)
theorem dpa_ex {K : PySem.W.Frag} {H H' : Hp} (e : Ex H H') : ∀ {ds : List PyData} {vs : List V}, DpAll K H vs ds → DpAll K H' vs ds
  | _, _, .nil => .nil
  | _, _, .cons h t => .cons (dp_ex e h) (dpa_ex e t)
end
theorem dpa_get {K : PySem.W.Frag} {H : Hp} : ∀ {ds : List PyData} {vs : List V} {i : Nat} {v : V}, DpAll K H vs ds → vs[i]? = some v → ∃ d, ds[i]? = some d ∧ Dp K H v d
  | _, _, _, _, .nil, e => by simp at e
  | _, _, 0, _, .cons h _, e => by
    simp at e
    subst e
    exact ⟨_, rfl, h⟩
  | _, _, i + 1, _, .cons _ t, e => dpa_get (i := i) t (by simpa using e)
theorem dpa_len {K : PySem.W.Frag} {H : Hp} : ∀ {ds : List PyData} {vs : List V}, DpAll K H vs ds → vs.length = ds.length
  | _, _, .nil => rfl
  | _, _, .cons _ t => by rw [List.length_cons, List.length_cons, dpa_len t]
abbrev sSame : Stmt := topS 15
theorem scSame : FnScope ["_law_found", "_law_due", "_law_a", "_law_b"] ["_law_found", "_law_due"] (defScope sSame) := ⟨rfl, rfl, rfl, by decide +kernel, rfl, by decide +kernel, by decide +kernel⟩
theorem kb_seq (d : PyData) : ∃ l t, kitB (tyN d) "list" = some l ∧ kitB (tyN d) "tuple" = some t ∧ (flatD d = true → l = false ∧ t = false) ∧ (∀ ds, d = .list ds → l = true ∧ t = false) ∧ (∀ ds, d = .tuple ds → l = false ∧ t = true) := by
  cases d with
  | none => exact ⟨false, false, (show kitB "NoneType" "list" = some false by decide +kernel), (show kitB "NoneType" "tuple" = some false by decide +kernel), fun _ => ⟨rfl, rfl⟩, fun _ e => (by cases e), fun _ e => (by cases e)⟩
  | bool _ => exact ⟨false, false, (show kitB "bool" "list" = some false by decide +kernel), (show kitB "bool" "tuple" = some false by decide +kernel), fun _ => ⟨rfl, rfl⟩, fun _ e => (by cases e), fun _ e => (by cases e)⟩
  | int _ => exact ⟨false, false, (show kitB "int" "list" = some false by decide +kernel), (show kitB "int" "tuple" = some false by decide +kernel), fun _ => ⟨rfl, rfl⟩, fun _ e => (by cases e), fun _ e => (by cases e)⟩
  | str _ => exact ⟨false, false, (show kitB "str" "list" = some false by decide +kernel), (show kitB "str" "tuple" = some false by decide +kernel), fun _ => ⟨rfl, rfl⟩, fun _ e => (by cases e), fun _ e => (by cases e)⟩
  | list _ => exact ⟨true, false, (show kitB "list" "list" = some true by decide +kernel), (show kitB "list" "tuple" = some false by decide +kernel), fun e => (by cases e), fun _ _ => ⟨rfl, rfl⟩, fun _ e => (by cases e)⟩
  | tuple _ => exact ⟨false, true, (show kitB "tuple" "list" = some false by decide +kernel), (show kitB "tuple" "tuple" = some true by decide +kernel), fun e => (by cases e), fun _ e => (by cases e), fun _ _ => ⟨rfl, rfl⟩⟩
  | dict _ => exact ⟨false, false, (show kitB "dict" "list" = some false by decide +kernel), (show kitB "dict" "tuple" = some false by decide +kernel), fun e => (by cases e), fun _ e => (by cases e), fun _ e => (by cases e)⟩
theorem kit2 {K : PySem.W.Frag} {x a b : String} {b1 b2 : Bool} (h1 : kitB x a = some b1) (h2 : kitB x b = some b2) : PySem.W.kitAny K (.type x) [.type a, .type b] = some (b1 || b2) := by
  cases b1 with
  | true => exact kitAny_cons (kit_ty h1) (fun e => nomatch e) (fun _ => rfl)
  | false =>
    cases b2 with
    | true => exact kitAny_cons (kit_ty h1) (fun _ => kitAny_cons (kit_ty h2) (fun e => nomatch e) (fun _ => rfl)) (fun e => nomatch e)
    | false => exact kitAny_cons (kit_ty h1) (fun _ => kitAny_cons (kit_ty h2) (fun _ => kitAny_nil) (fun e => nomatch e)) (fun e => nomatch e)
theorem kit_bs {K : PySem.W.Frag} (d : PyData) : ∃ b, PySem.W.kitAny K (.type (tyN d)) [.type "bool", .type "str"] = some b ∧ (∀ i, d = .int i → b = false) ∧ (d = .none → b = false) ∧ (∀ i, d = .bool i → b = true) ∧ (∀ i, d = .str i → b = true) := by
  have A : ∀ {x : String} {b1 b2 : Bool}, kitB x "bool" = some b1 → kitB x "str" = some b2 → PySem.W.kitAny K (.type x) [.type "bool", .type "str"] = some (b1 || b2) := fun h1 h2 => kit2 h1 h2
  cases d with
  | none => exact ⟨false, A (show kitB "NoneType" "bool" = some false by decide +kernel) (show kitB "NoneType" "str" = some false by decide +kernel), fun _ e => (by cases e), fun _ => rfl, fun _ e => (by cases e), fun _ e => (by cases e)⟩
  | bool _ => exact ⟨true, A (show kitB "bool" "bool" = some true by decide +kernel) (show kitB "bool" "str" = some false by decide +kernel), fun _ e => (by cases e), fun e => (by cases e), fun _ _ => rfl, fun _ e => (by cases e)⟩
  | int _ => exact ⟨false, A (show kitB "int" "bool" = some false by decide +kernel) (show kitB "int" "str" = some false by decide +kernel), fun _ _ => rfl, fun e => (by cases e), fun _ e => (by cases e), fun _ e => (by cases e)⟩
  | str _ => exact ⟨true, A (show kitB "str" "bool" = some false by decide +kernel) (show kitB "str" "str" = some true by decide +kernel), fun _ e => (by cases e), fun e => (by cases e), fun _ e => (by cases e), fun _ _ => rfl⟩
  | list _ => exact ⟨false, A (show kitB "list" "bool" = some false by decide +kernel) (show kitB "list" "str" = some false by decide +kernel), fun _ e => (by cases e), fun e => (by cases e), fun _ e => (by cases e), fun _ e => (by cases e)⟩
  | tuple _ => exact ⟨false, A (show kitB "tuple" "bool" = some false by decide +kernel) (show kitB "tuple" "str" = some false by decide +kernel), fun _ e => (by cases e), fun e => (by cases e), fun _ e => (by cases e), fun _ e => (by cases e)⟩
  | dict _ => exact ⟨false, A (show kitB "dict" "bool" = some false by decide +kernel) (show kitB "dict" "str" = some false by decide +kernel), fun _ e => (by cases e), fun e => (by cases e), fun _ e => (by cases e), fun _ e => (by cases e)⟩
section
variable {P : Program} {w : World} {K : PySem.W.Frag} {mg : Str → Option Value} {base : Heap}
def spSame (K : PySem.W.Frag) (C : PyData → Prop) : Sp := fun vs H Q _ => ∃ (x y : V) (d : PyData), vs = [x, y] ∧ Dp K H x d ∧ Dp K H y d ∧ C d ∧ ∀ H', Ex H H' → Q (.bl true) H'
theorem same_none {f : Addr} {fd : FuncData} : FnOk P w K mg base CX0 0 f fd ["_law_found", "_law_due"] (spSame K NoD) :=
  ⟨fun vs H Q E h => by obtain ⟨_, _, _, _, _, _, z, _⟩ := h; exact z.elim, fun A outer s H args us vs Q E hr he hb hv h => by obtain ⟨_, _, _, _, _, _, z, _⟩ := h; exact z.elim⟩
theorem same_step {f : Addr} {fd : FuncData} {m : Nat} {C : PyData → Prop} (F : Fun K "_law_same" "_law_same" sSame f fd) (bS : Binds K fd ["_law_found", "_law_due"] []) (gS : mg "_law_same" = some (.ref f)) (GS : FnOk P w K mg base CX0 m f fd ["_law_found", "_law_due"] (spSame K C))
    (mI : mg "isinstance" = none) (mi : mg "int" = none) (mb : mg "bool" = none) (mst : mg "str" = none) (mli : mg "list" = none) (mt : mg "tuple" = none) (ml : mg "len" = none) (mal : mg "all" = none) (mz : mg "zip" = none) :
    FnOk P w K mg base CX0 (m + 1) f fd ["_law_found", "_law_due"] (spSame K (OnD C)) := by
  refine F.ok scSame (fun vs H Q E h => ?_) (fun cdv A outer s H vs Q E hr h => ?_)
  · obtain ⟨_, _, _, rfl, _⟩ := h
    rfl
  · obtain ⟨x, y, d, rfl, hx, hy, hC, q⟩ := h
    refine ⟨_, pss_cons (ps_if (pt_val (pe_callB call_isiT (by rfl) mI (by decide +kernel) (pa_cons (pv 1) (pa_cons (pe_tup (pa_cons (pe_bltn (v := .ty "list") (by rfl) mli (by decide +kernel) rfl) (pa_cons (pe_bltn (v := .ty "tuple") (by rfl) mt (by decide +kernel) rfl) pa_nil))) pa_nil))))
        (pss_cons (ps_if (PW.pt (pw_or (pt_cmpR op_ne (pe_callB call_isi (by rfl) mI (by decide +kernel) (pa_cons (pv 0) (pa_cons (pe_bltn (v := .ty "list") (by rfl) mli (by decide +kernel) rfl) pa_nil))) (pe_callB call_isi (by rfl) mI (by decide +kernel) (pa_cons (pv 1) (pa_cons (pe_bltn (v := .ty "list") (by rfl) mli (by decide +kernel) rfl) pa_nil))) (nomark _))
            (pw_or1 (pt_cmpR op_ne (pe_callB call_isi (by rfl) mI (by decide +kernel) (pa_cons (pv 0) (pa_cons (pe_bltn (v := .ty "tuple") (by rfl) mt (by decide +kernel) rfl) pa_nil))) (pe_callB call_isi (by rfl) mI (by decide +kernel) (pa_cons (pv 1) (pa_cons (pe_bltn (v := .ty "tuple") (by rfl) mt (by decide +kernel) rfl) pa_nil))) (nomark _))))) (pss_one (ps_ret pe_bl)) pss_nil)
          (pss_one (ps_ret (pe_and (pe_cmpR op_eq (pe_callB cr_lenB (by rfl) ml PySem.boot_len (pa_cons (pv 0) pa_nil)) (pe_callB cr_lenB (by rfl) ml PySem.boot_len (pa_cons (pv 1) pa_nil)) (nomark _))
            (pe_one (pe_callB (cr_all (by rfl)) (by rfl) mal (by decide +kernel) (pa_cons
              (pe_lc (own := [("_law_a", 2), ("_law_b", 3)]) (g := gTup K 2 (gCons (gName 2) (gCons (gName 3) gNil))) (by rfl) scSame.nd (pi_zipB (by rfl) mz (pa_cons (pv 0) (pa_cons (pv 1) pa_nil)))
                (blkOk_by (own := [("_law_a", 2), ("_law_b", 3)]) (N := ["_law_found", "_law_due", "_law_a", "_law_b"]) (sc := defScope sSame) (by decide +kernel))
                (fun _ _ _ _ _ => pg_tup rfl (pgs_cons (pg_name (i := 2) scSame.nd rfl (Or.inl rfl) (hf := Or.inr rfl)) (pgs_cons (pg_name (i := 3) scSame.nd rfl (Or.inl rfl) (hf := Or.inr rfl)) pgs_nil)))
                (fun _ _ _ _ _ => pts_nil)
                (fun _ _ _ _ _ => pe_call GS hr (by rfl) gS F.kp bS .nil pass0 (pa_cons (pv 2) (pa_cons (pv 3) pa_nil)))) pa_nil))))))) pss_nil)
      (pss_cons (ps_if (PW.pt (pw_or (pt_cmpR op_isN (pv 1) pe_non (nomark _)) (pw_or1 (pt_val (pe_callB call_isiT (by rfl) mI (by decide +kernel) (pa_cons (pv 1) (pa_cons (pe_tup (pa_cons (pe_bltn (v := .ty "bool") (by rfl) mb (by decide +kernel) rfl) (pa_cons (pe_bltn (v := .ty "str") (by rfl) mst (by decide +kernel) rfl) pa_nil))) pa_nil)))))))
          (pss_one (ps_ret (pe_and (pe_cmpR op_eq (pv 0) (pv 1) (nomark _)) (pe_and (pe_cmpR op_eq (pe_callB call_isi (by rfl) mI (by decide +kernel) (pa_cons (pv 0) (pa_cons (pe_bltn (v := .ty "bool") (by rfl) mb (by decide +kernel) rfl) pa_nil))) (pe_callB call_isi (by rfl) mI (by decide +kernel) (pa_cons (pv 1) (pa_cons (pe_bltn (v := .ty "bool") (by rfl) mb (by decide +kernel) rfl) pa_nil))) (nomark _))
            (pe_one (pe_cmpR op_eq (pe_cmpR op_isN (pv 0) pe_non (nomark _)) (pe_cmpR op_isN (pv 1) pe_non (nomark _)) (nomark _))))))) pss_nil)
      (pss_one (ps_ret (pe_and (pe_callB call_isi (by rfl) mI (by decide +kernel) (pa_cons (pv 0) (pa_cons (pe_bltn (v := .ty "int") (by rfl) mi (by decide +kernel) rfl) pa_nil)))
        (pe_and (pe_not (pe_callB call_isi (by rfl) mI (by decide +kernel) (pa_cons (pv 0) (pa_cons (pe_bltn (v := .ty "bool") (by rfl) mb (by decide +kernel) rfl) pa_nil)))) (pe_one (pe_cmpR op_eq (pv 0) (pv 1) (nomark _)))))))), ?_⟩
    obtain ⟨kl, kt, hkl, hkt, hflat, hlist, htup⟩ := kb_seq d
    refine ⟨_, rfl, (show 2 ≤ sizeLine by decide), fun T hT => ?_⟩
    have x1 : Ex H (upd H T (.tup [.ty "list", .ty "tuple"])) := Ex.new hT
    have hx1 := dp_ex x1 hx
    have hy1 := dp_ex x1 hy
    refine ⟨y, T, _, _, [.type "list", .type "tuple"], kl || kt, rfl, upd_same, .cons (.ty _) (.cons (.ty _) .nil), tyx_D hy1, kit2 hkl hkt, _, rfl, ?_⟩
    generalize (upd H T (.tup [.ty "list", .ty "tuple"])) = H1 at x1 hx1 hy1
    rcases hC with hf | ⟨ds, hds, hdl, hdC⟩
    · -- flat
      obtain ⟨rfl, rfl⟩ := hflat hf
      refine iteF ?_
      obtain ⟨bs, hbs, c1, c2, c3, c4⟩ := kit_bs (K := K) d
      have ib : ∃ c, kitB (tyN d) "bool" = some c := ⟨_, (kb_int d).choose_spec.2.choose_spec.1⟩
      obtain ⟨cb, hcb⟩ := ib
      have exy : x = y ∧ scal x y = true := by
        cases hx1 with
        | non => cases hy1; exact ⟨rfl, rfl⟩
        | bl b => cases hy1; exact ⟨rfl, rfl⟩
        | int i => cases hy1; exact ⟨rfl, rfl⟩
        | str z => cases hy1; exact ⟨rfl, rfl⟩
        | lst _ _ => cases hf
        | tup _ _ => cases hf
      obtain ⟨rfl, hsc⟩ := exy
      have fin : ∀ H2, Ex H1 H2 → (tAndV (tOp rEq (tVar 0) (tVar 1)) (tAndV (tOp rEq (tCB (rIsi K) (tCons (tVar 0) (tCons (tC (.ty "bool")) tNil))) (tCB (rIsi K) (tCons (tVar 1) (tCons (tC (.ty "bool")) tNil)))) (tOp rEq (tOp (fun x y H Q => y = V.non ∧ Q (V.bl (decide (x = V.non))) H) (tVar 0) (tC .non)) (tOp (fun x y H Q => y = V.non ∧ Q (V.bl (decide (x = V.non))) H) (tVar 1) (tC .non))))) [some x, some x, none, none] H2 Q := fun H2 e2 => by
        have hx2 := dp_ex e2 hx1
        refine ⟨_, rfl, _, rfl, hsc, true, by rw [decide_eq_true rfl], ?_⟩
        refine ⟨_, rfl, x, _, _, _, cb, rfl, .ty _, tyx_D hx2, kit_ty hcb, _, rfl, x, _, _, _, cb, rfl, .ty _, tyx_D hx2, kit_ty hcb, rfl, true, by rw [decide_eq_true rfl], ?_⟩
        refine ⟨_, rfl, rfl, _, rfl, rfl, rfl, ?_⟩
        rw [decide_eq_true rfl]
        exact q _ (x1.trans e2)
      refine ⟨_, rfl, rfl, _, rfl, ite2 (fun _ => ?_) (fun hn => ?_)⟩
      · exact fin H1 (Ex.refl _)
      · refine ⟨_, rfl, (show 2 ≤ sizeLine by decide), fun T2 hT2 => ?_⟩
        have x2 : Ex H1 (upd H1 T2 (.tup [.ty "bool", .ty "str"])) := Ex.new hT2
        refine ⟨x, T2, _, _, [.type "bool", .type "str"], bs, rfl, upd_same, .cons (.ty _) (.cons (.ty _) .nil), tyx_D (dp_ex x2 hx1), hbs, _, rfl, ?_⟩
        cases bs with
        | true => exact iteT (fin _ x2)
        | false =>
          refine iteF ?_
          cases hx1 with
          | non => exact absurd (decide_eq_true rfl) hn
          | bl b => exact absurd (c3 _ rfl) (by decide)
          | str z => exact absurd (c4 _ rfl) (by decide)
          | lst _ _ => cases hf
          | tup _ _ => cases hf
          | int i =>
            refine ⟨_, rfl, .int i, _, _, _, true, rfl, .ty _, .base (.int i), kit_ty (by decide +kernel), true, rfl, ?_⟩
            refine ⟨_, rfl, .int i, _, _, _, false, rfl, .ty _, .base (.int i), kit_ty (by decide +kernel), false, rfl, true, rfl, ?_⟩
            refine ⟨_, rfl, _, rfl, rfl, ?_⟩
            rw [decide_eq_true rfl]
            exact q _ (x1.trans x2)
    · -- a list or a tuple
      have hkk : (kl || kt) = true := by
        rcases hds with e | e
        · obtain ⟨rfl, rfl⟩ := hlist _ e
          rfl
        · obtain ⟨rfl, rfl⟩ := htup _ e
          rfl
      rw [hkk]
      refine iteT ?_
      obtain ⟨b, ax, ay, xs, ys, rfl, rfl, sx, sy, dx, dy⟩ : ∃ b ax ay xs ys, x = .ref ax ∧ y = .ref ay ∧ SqB K b H1 ax xs ∧ SqB K b H1 ay ys ∧ DpAll K H1 xs ds ∧ DpAll K H1 ys ds := by
        rcases hds with e | e
        · subst e
          cases hx1 with
          | lst h1 t1 =>
            cases hy1 with
            | lst h2 t2 => exact ⟨false, _, _, _, _, rfl, rfl, h1, h2, t1, t2⟩
        · subst e
          cases hx1 with
          | tup h1 t1 =>
            cases hy1 with
            | tup h2 t2 => exact ⟨true, _, _, _, _, rfl, rfl, h1, h2, t1, t2⟩
      have lx := dpa_len dx
      have ly := dpa_len dy
      refine ⟨_, rfl, _, _, _, _, kl, rfl, .ty _, tyx_D hx1, kit_ty hkl, _, rfl, _, _, _, _, kl, rfl, .ty _, tyx_D hy1, kit_ty hkl, rfl, _, rfl, ?_⟩
      rw [decide_eq_true rfl]
      refine iteF ⟨_, rfl, _, _, _, _, kt, rfl, .ty _, tyx_D hx1, kit_ty hkt, _, rfl, _, _, _, _, kt, rfl, .ty _, tyx_D hy1, kit_ty hkt, rfl, _, rfl, ?_⟩
      rw [decide_eq_true rfl]
      refine iteF ?_
      refine ⟨_, rfl, b, ax, xs, rfl, sx, _, rfl, b, ay, ys, rfl, sy, rfl, true, ?_, ?_⟩
      · rw [lx, ly, decide_eq_true rfl]
      refine ⟨_, rfl, _, rfl, b, b, ax, ay, xs, ys, rfl, sx, sy, fun D hD => lc_it (walk_zipB (K := K) (b1 := b) (b2 := b) (a1 := ax) (a2 := ay) (xs := xs) (ys := ys) (by rw [lx, ly])) (fun i H' => Ex H1 H' ∧ H' D = some (.lst ((List.replicate i true).map V.bl))) ⟨Ex.new hD, upd_same⟩ (fun i H' _ c => ⟨sx.ex c.1, sy.ex c.1⟩) (fun i x H' H'' hi c y => ?_) (fun H2 c => ?_)⟩
      · obtain ⟨T2, x', y', rfl, hT2, rfl, hx', hy'⟩ := y
        obtain ⟨d1, hd1, px⟩ := dpa_get dx hx'
        obtain ⟨d2, hd2, py⟩ := dpa_get dy hy'
        rw [hd1] at hd2
        cases hd2
        have x2 : Ex H' (upd H' T2 (.tup [x', y'])) := Ex.new hT2
        refine ⟨T2, _, rfl, .inl (.inl upd_same), rfl, _, _, rfl, _, _, rfl, rfl, rfl, _, rfl, _, rfl, x', y', d1, rfl, dp_ex (c.1.trans x2) px, dp_ex (c.1.trans x2) py, hdC d1 (List.mem_of_getElem? hd1), fun H3 e3 => ?_⟩
        refine ⟨_, (x2.trans e3) _ _ c.2, ?_, Ex.mut ((c.1.trans x2).trans e3) hD, ?_⟩
        · rw [List.length_map, List.length_replicate]
          exact small1000 (by omega)
        · rw [upd_same, rep_snoc, List.map_append]
          rfl
      · refine ⟨D, _, rfl, .inl (.inl c.2), ?_⟩
        rw [rep_all]
        exact q _ (x1.trans c.1)
end
end Og

namespace Og
open PySem PySem.Spec PyProof.Rows L2 OgR Evl OgM
/-- tuples as lists -/
def soft (C : PyData → PyData) (d : PyData) : PyData :=
  match d with
  | .list ds => .list (ds.map C)
  | .tuple ds => .list (ds.map C)
  | d => d
/-- a value whose lists are all new -/
inductive NewD (H H' : Hp) : V → PyData → Prop
  | flat {v : V} {d : PyData} (f : flatD d = true) (h : ∀ K H2, Dp K H2 v d) : NewD H H' v d
  | lst {a : Addr} {xs : List V} {ds : List PyData} (n : H a = none) (h : H' a = some (.lst xs)) (l : xs.length = ds.length) (t : ∀ (i : Nat) (x : V) (d : PyData), xs[i]? = some x → ds[i]? = some d → NewD H H' x d) : NewD H H' (.ref a) (.list ds)
theorem NewD.keep {H0 H H' H2 : Hp} {v : V} {d : PyData} (h : NewD H H' v d) (e : ∀ a o, H a = none → H' a = some o → H2 a = some o) (b : ∀ a, H a = none → H0 a = none) : NewD H0 H2 v d := by
  induction h with
  | flat f h => exact .flat f h
  | lst n h l t ih => exact .lst (b _ n) (e _ _ n h) l ih
theorem dpa_of {K : PySem.W.Frag} {H : Hp} : ∀ {xs : List V} {ds : List PyData}, xs.length = ds.length → (∀ (i : Nat) (x : V) (d : PyData), xs[i]? = some x → ds[i]? = some d → Dp K H x d) → DpAll K H xs ds
  | [], [], _, _ => .nil
  | x :: xs, d :: ds, l, h => .cons (h 0 x d rfl rfl) (dpa_of (by simpa using l) fun i y e a b => h (i + 1) y e a b)
theorem NewD.dp {K : PySem.W.Frag} {H H' : Hp} {v : V} {d : PyData} (h : NewD H H' v d) : Dp K H' v d := by
  induction h with
  | flat f h => exact h K H'
  | lst n h l t ih => exact .lst (.inl (.inl h)) (dpa_of l ih)
theorem flat_dp {K : PySem.W.Frag} {H : Hp} {v : V} {d : PyData} (h : Dp K H v d) (f : flatD d = true) : ∀ K2 H2, Dp K2 H2 v d := by
  intro K2 H2
  cases h with
  | non => exact .non
  | bl b => exact .bl b
  | int i => exact .int i
  | str x => exact .str x
  | lst _ _ => cases f
  | tup _ _ => cases f
section
variable {P : Program} {w : World} {K : PySem.W.Frag} {mg : Str → Option Value} {base : Heap}
def spLists (K : PySem.W.Frag) (C : PyData → Prop) (g : PyData → PyData) : Sp := fun vs H Q _ => ∃ (x : V) (d : PyData), vs = [x] ∧ Dp K H x d ∧ C d ∧ ∀ v H', Ex H H' → NewD H H' v (g d) → Q v H'
theorem lists_none {f : Addr} {fd : FuncData} {g : PyData → PyData} : FnOk P w K mg base CX0 0 f fd ["_law_part"] (spLists K NoD g) :=
  ⟨fun vs H Q E h => by obtain ⟨_, _, _, _, z, _⟩ := h; exact z.elim, fun A outer s H args us vs Q E hr he hb hv h => by obtain ⟨_, _, _, _, z, _⟩ := h; exact z.elim⟩
end
end Og

namespace Og
open PySem PySem.Spec PyProof.Rows L2 OgR Evl OgM
/-! ### a call by names alone -/
structure ByName (fd : FuncData) (ps ks : List Str) (n : Nat) (g : List Value → List Value) (gV : List V → List V) : Prop where
  to : ∀ (s : Shared) (ws : List Value), ws.length = n → BindsTo s fd ⟨[], ks.zip ws⟩ (ps.zip (g ws))
  rel : ∀ (zs : List V) (ws : List Value), zs.length = n → Vals zs ws → Vals (gV zs) (g ws)
def tNamed (sp : Sp) (n : Nat) (gV : List V → List V) (E : XK) (tk : TA) : TE := fun σ H Q => tk σ H fun zs H1 => zs.length = n ∧ sp (gV zs) H1 Q E
theorem pe_named {X : Cx} {CX : CXT} {k n : Nat} {f : Addr} {fd : FuncData} {ps ks : List Str} {sp : Sp} {E : XK} {x : Str} {p pos : Pos} {kws : List Keyword} {tk : TA} {g : List Value → List Value} {gV : List V → List V}
    (F : FnOk X.prog X.w X.K X.mg X.base CX k f fd ps sp) (hr : Room k X.A) (hg : Gl X x) (hm : X.mg x = some (.ref f)) (hk : PySem.W.keepIn X.K (.ref f) = true) (hb : ByName fd ps ks n g gV) (hx : Passes CX X E) (hkw : PK X kws tk)
    (hall : (backToKw pos (keywordEach kws X.env)).all (·.1.isSome) = true := by rfl) (hks : (backToKw pos (keywordEach kws X.env)).filterMap (·.1) = ks := by rfl) (hdb : (x == ("__debug__" : Str)) = false := by decide)
    (hpl : ((backTo pos (starEach [] X.env)).any (·.1) || (backToKw pos (keywordEach kws X.env)).any (·.1.isNone)) = false := by rfl) :
    PE X (.Call (.Name x p) [] kws pos) (tNamed sp n gV E tk) := by
  refine ⟨fun pins s σ H Q I h => wpAny_Call_Name_kw (ld_glob I hg hm ?_ hdb)⟩
  refine PySem.W.callWith_KW0 (h₀ := X.base) I.ok.mod.kin hk hall (thn (hkw.run pos pins s σ H _ I h) fun ws s1 ⟨zs, H1, I1, rz, hl, q⟩ => ⟨I1.kIn, ?_⟩) hpl
  rw [hks]
  have hwl : ws.length = n := by rw [← rz.length]; exact hl
  refine wpAny_call (codeAny_mono (F.run X.A X.stack s1 H1 ⟨[], ks.zip ws⟩ (g ws) (gV zs) Q E hr I1.env0 (hb.to s1 ws hwl) (hb.rel zs ws hl rz) q) fun r s2 hq => ?_)
  cases r with
  | error e => exact hx pins σ H1 s1 e s2 I1 hq
  | ok fl =>
    cases fl with
    | ret u => exact I1.after hq
    | next => exact hq.elim
    | brk => exact hq.elim
    | cont => exact hq.elim
theorem by1 {K : PySem.W.Frag} {x a : Str} {st : Stmt} {f : Addr} {fd : FuncData} (F : Fun K x x st f fd)
    (h : ∀ (kV doc pm : Value) (an : Option Addr) (cdv ct : Value) (u : Value), bindArgs (PySem.W.fnOf x x (defArgs st) (defBody st) (defScope st) .none kV doc pm an cdv ct) ⟨[], [(a, u)]⟩ = pure [(a, u)]) : ByName fd [a] [a] 1 id id := by
  obtain ⟨oc, od, kV, doc, pm, an, cdv, ct, osl, rfl, lk, hcd⟩ := F.ex
  refine ⟨fun s ws hl => ?_, fun zs ws _ r => r⟩
  match ws, hl with
  | [u], _ => exact .of_eq (h kV doc pm an cdv ct u)
def swapL {α : Type} : List α → List α
  | [a, b] => [b, a]
  | l => l
theorem by2 {K : PySem.W.Frag} {x a b : Str} {st : Stmt} {f : Addr} {fd : FuncData} (F : Fun K x x st f fd)
    (h : ∀ (kV doc pm : Value) (an : Option Addr) (cdv ct : Value) (u v : Value), bindArgs (PySem.W.fnOf x x (defArgs st) (defBody st) (defScope st) .none kV doc pm an cdv ct) ⟨[], [(b, u), (a, v)]⟩ = pure [(a, v), (b, u)]) : ByName fd [a, b] [b, a] 2 swapL swapL := by
  obtain ⟨oc, od, kV, doc, pm, an, cdv, ct, osl, rfl, lk, hcd⟩ := F.ex
  refine ⟨fun s ws hl => ?_, fun zs ws hl r => ?_⟩
  · match ws, hl with
    | [u, v], _ => exact .of_eq (h kV doc pm an cdv ct u v)
  · match zs, hl, ws, r with
    | [z1, z2], _, [w1, w2], .cons r1 (.cons r2 .nil) => exact .cons r2 (.cons r1 .nil)
end Og

namespace Og
open PySem PySem.Spec PyProof.Rows L2 OgR Evl OgM
structure Adr where
  isnA : Addr
  isbA : Addr
  nbA : Addr
  housesA : Addr
  manyA : Addr
  iscA : Addr
  iscsA : Addr
  gaA : Addr
  isgA : Addr
  gloA : Addr
  numA : Addr
  cofA : Addr
  gapsA : Addr
  tigA : Addr
  rowA : Addr
  cellA : Addr
  boxA : Addr
  takeA : Addr
  ofA : Addr
  sameA : Addr
  listsA : Addr
  runsA : Addr
  queueA : Addr
  pickA : Addr
  picksA : Addr
  holesA : Addr
  rightA : Addr
  wordsA : Addr
  stepsA : Addr
structure Fds where
  isnD : FuncData
  isbD : FuncData
  nbD : FuncData
  housesD : FuncData
  manyD : FuncData
  iscD : FuncData
  iscsD : FuncData
  gaD : FuncData
  isgD : FuncData
  gloD : FuncData
  numD : FuncData
  cofD : FuncData
  gapsD : FuncData
  tigD : FuncData
  rowD : FuncData
  cellD : FuncData
  boxD : FuncData
  takeD : FuncData
  ofD : FuncData
  sameD : FuncData
  listsD : FuncData
  runsD : FuncData
  queueD : FuncData
  pickD : FuncData
  picksD : FuncData
  holesD : FuncData
  rightD : FuncData
section
variable {P : Program} {w : World} {K : PySem.W.Frag} {mg : Str → Option Value} {base : Heap} {a : Adr} {d : Fds}
abbrev Nest4 : PyData → Prop := OnD (OnD (OnD (OnD NoD)))
abbrev Nest3 : PyData → Prop := OnD (OnD (OnD NoD))
end
/-! ### the data of choices and of rows -/
def chD (b : Bool) (c : Ch) : PyData := if b then .tuple [.str (wstr c.1), .int (c.2 : Nat)] else .list [.str (wstr c.1), .int (c.2 : Nat)]
def seqD (b : Bool) (ds : List PyData) : PyData := if b then .tuple ds else .list ds
theorem dp_seq {K : PySem.W.Frag} {H : Hp} {b : Bool} {p : Addr} {xs : List V} {ds : List PyData} (h : SqB K b H p xs) (t : DpAll K H xs ds) : Dp K H (.ref p) (seqD b ds) := by
  cases b with
  | true => exact .tup h t
  | false => exact .lst h t
theorem dp_ch {K : PySem.W.Frag} {H : Hp} {b : Bool} {p : Addr} {c : Ch} (h : SqB K b H p (chV c)) : Dp K H (.ref p) (chD b c) := by
  cases b with
  | true => exact .tup h (.cons (.str _) (.cons (.int _) .nil))
  | false => exact .lst h (.cons (.str _) (.cons (.int _) .nil))
theorem dpa_ch {K : PySem.W.Frag} {H : Hp} {b' : Bool} : ∀ {ts : List Addr} {cs : List Ch}, Paired (fun t c => SqB K b' H t (chV c)) ts cs → DpAll K H (ts.map V.ref) (cs.map (chD b'))
  | _, _, .nil => .nil
  | _, _, .cons h t => .cons (dp_ch h) (dpa_ch t)
theorem ChIs.dp {K : PySem.W.Frag} {H : Hp} {b b' : Bool} {p : Addr} {cs : List Ch} (h : ChIs K b b' H p cs) : Dp K H (.ref p) (seqD b (cs.map (chD b'))) := by
  obtain ⟨ts, h1, h2⟩ := h
  exact dp_seq h1 (dpa_ch h2)
theorem chis_of {K : PySem.W.Frag} {H : Hp} : ∀ {xs : List V} {cs : List Ch}, DpAll K H xs (cs.map (chD false)) → ∃ ts : List Addr, xs = ts.map V.ref ∧ Paired (fun t c => SqB K false H t (chV c)) ts cs
  | _, [], .nil => ⟨[], rfl, .nil⟩
  | _, c :: cs, .cons h t => by
    obtain ⟨ts, rfl, p⟩ := chis_of t
    cases h with
    | lst h1 t1 =>
      cases t1 with
      | cons a1 t2 =>
        cases a1
        cases t2 with
        | cons a2 t3 =>
          cases a2
          cases t3
          exact ⟨_ :: ts, rfl, .cons h1 p⟩
theorem chis_soft {K : PySem.W.Frag} {H : Hp} {v : V} {cs : List Ch} (h : Dp K H v (.list (cs.map (chD false)))) : ∃ p, v = .ref p ∧ ChIs K false false H p cs := by
  cases h with
  | lst h1 t =>
    obtain ⟨ts, rfl, p⟩ := chis_of t
    exact ⟨_, rfl, ts, h1, p⟩
theorem on_flat {C : PyData → Prop} {d : PyData} (h : flatD d = true) : OnD C d := .inl h
theorem on_ch {C : PyData → Prop} (hC : ∀ d, flatD d = true → C d) (b : Bool) (c : Ch) : OnD C (chD b c) := by
  refine .inr ⟨[.str (wstr c.1), .int (c.2 : Nat)], ?_, by simp, fun x hx => ?_⟩
  · cases b
    · exact .inl rfl
    · exact .inr rfl
  · simp at hx
    rcases hx with rfl | rfl <;> exact hC _ rfl
theorem on_seq {C : PyData → Prop} {b : Bool} {ds : List PyData} (hl : ds.length ≤ 1000) (h : ∀ x ∈ ds, C x) : OnD C (seqD b ds) := by
  refine .inr ⟨ds, ?_, hl, h⟩
  cases b
  · exact .inl rfl
  · exact .inr rfl
theorem on_chs {C : PyData → Prop} {b b' : Bool} {cs : List Ch} (hl : cs.length ≤ 1000) : OnD (OnD (OnD C)) (seqD b (cs.map (chD b'))) :=
  on_seq (by rw [List.length_map]; exact hl) fun x hx => by
    obtain ⟨c, _, rfl⟩ := List.mem_map.mp hx
    exact on_ch (fun d h => on_flat h) b' c
theorem on_ints {C : PyData → Prop} {b : Bool} {l : List Int} (hl : l.length ≤ 1000) : OnD (OnD (OnD C)) (seqD b (dInts l)) :=
  on_seq (by unfold dInts; rw [List.length_map]; exact hl) fun x hx => by
    obtain ⟨i, _, rfl⟩ := List.mem_map.mp hx
    exact on_flat rfl
theorem soft_chs (cs : List Ch) : soft (soft (soft id)) (seqD true (cs.map (chD true))) = .list (cs.map (chD false)) := by
  show PyData.list ((cs.map (chD true)).map (soft (soft id))) = _
  rw [List.map_map]
  rfl
theorem sh_chs (cs : List Ch) (b' : Bool) : SeqAt.shaped (.list (cs.map (chD b'))) = true := by
  refine sh_list (n := 1) (canAll fun d h => ?_) (depAll fun d h => ?_) (by decide)
  · obtain ⟨c, _, rfl⟩ := List.mem_map.mp h
    have hs : PyData.canLay0 (.str (wstr c.1)) = true := by
      cases c.1 <;> decide +kernel
    cases b' <;> simp [chD, PyData.canLay0, PyData.canLayAll0] <;> simpa [PyData.canLay0] using hs
  · obtain ⟨c, _, rfl⟩ := List.mem_map.mp h
    cases b' <;> simp [chD, PyData.depth, PyData.depthAll]
end Og


namespace OgR
open PySem PySem.Spec PyProof.Rows L2
/-! ### len(set(t)), t a tuple of ints, some of them perhaps twice -/
theorem card_eq : ∀ {ks ns : List Int}, ks.Nodup → (∀ k, k ∈ ns ↔ k ∈ ks) → ks.length ≤ ns.length ∧ (ks.length = ns.length ↔ ns.Nodup)
  | ks, [], hk, hm => by
    have e : ks = [] := List.eq_nil_iff_forall_not_mem.mpr fun k h => by
      have := (hm k).mpr h
      simp at this
    subst e
    simp
  | ks, n :: r, hk, hm => by
    by_cases hn : n ∈ r
    · have hm' : ∀ k, k ∈ r ↔ k ∈ ks := fun k => by
        rw [← hm k]
        constructor
        · exact fun h => List.mem_cons_of_mem _ h
        · intro h
          rcases List.mem_cons.mp h with e | e
          · rw [e]; exact hn
          · exact e
      have ih := card_eq hk hm'
      refine ⟨Nat.le_trans ih.1 (Nat.le_succ _), ?_⟩
      constructor
      · intro e
        have := ih.1
        rw [e, List.length_cons] at this
        omega
      · intro h
        exact absurd hn (List.nodup_cons.mp h).1
    · have hnk : n ∈ ks := (hm n).mp List.mem_cons_self
      have hm' : ∀ k, k ∈ r ↔ k ∈ ks.erase n := fun k => by
        rw [hk.mem_erase_iff, ← hm k]
        constructor
        · intro h
          refine ⟨fun e => hn (e ▸ h), List.mem_cons_of_mem _ h⟩
        · rintro ⟨h1, h2⟩
          rcases List.mem_cons.mp h2 with e | e
          · exact absurd e h1
          · exact e
      have ih := card_eq (hk.erase n) hm'
      have hl := List.length_erase_of_mem hnk
      have hpos : 0 < ks.length := List.length_pos_of_mem hnk
      rw [List.nodup_cons, List.length_cons]
      constructor
      · have := ih.1; omega
      · constructor
        · intro e
          exact ⟨hn, ih.2.mp (by omega)⟩
        · intro h
          have := ih.2.mpr h.2
          omega
section
variable {X : Cx}
def tLenSetN (K : PySem.W.Frag) (ta : TE) : TE := fun σ H Q => ta σ H fun x H1 => ∃ (l : Addr) (ns : List Int), x = V.ref l ∧ SqT K H1 l (ns.map V.int) ∧ ns.length ≤ 1000 ∧ ∀ c : Nat, c ≤ ns.length → (c = ns.length ↔ ns.Nodup) → Q (.int (c : Nat)) H1
theorem pe_lenSetN {a : Expr} {ta : TE} {p p2 q pos : Pos} (hc : X.calm = true) (hg : Gl X "len") (hm : X.mg "len" = none) (hg2 : Gl X "set") (hm2 : X.mg "set" = none) (ha : PE X a ta)
    (na : starEach [a] X.env = (false, eval a X.env) :: starEach [] X.env := by rfl) : PE X (.Call (.Name "len" p) [.Call (.Name "set" p2) [a] [] q] [] pos) (tLenSetN X.K ta) := by
  refine ⟨fun pins s σ H Q I h => ?_⟩
  refine Call_ (ld_blt I hg hm PySem.boot_len (PyProof.Rows.callWith_builtin1 (PyProof.Rows.args_cons ?_ rfl) rfl rfl))
  refine Call_ (ld_blt I hg2 hm2 PyProof.Rows.boot_set (PyProof.Rows.callWith_type1 (PyProof.Rows.args_cons (thn (ha.run pins s σ H _ I h) fun v s1 ⟨x, H1, I1, r1, q1⟩ => PyProof.Rows.args_nil ?_) na) na rfl))
  obtain ⟨l, ns, rfl, hq, h1, q1⟩ := q1
  cases r1
  obtain ⟨its, rv, pt, hz⟩ := I1.tuple hq
  have hi : IntsAre its.toArray.toList ns := ints_of_vals rv
  refine call_set_tupI ns (I1.ok.hd hc) (show s1.heap.IsTuple l its.toArray from pt) hi (by unfold scanBound; omega) fun h' tk c R1 hcn k => ?_
  obtain ⟨o, es, ep, t, ho, hex, hdt, g, nd, hm3, hb, hf, hn, hr, hl2⟩ := R1
  refine PyProof.Rows.args_nil ?_
  have I2 : Inv X pins σ H1 { s1 with heap := h', toks := tk } := I1.kept fun b o e => k b o e
  have hcard := card_eq (ks := es.toList.map keyOf) (ns := ns) nd fun k => by
    rw [← hm3 k]
    simp
  rw [List.length_map, Array.length_toList] at hcard
  refine call_len_set (s := { s1 with heap := h', toks := tk }) ho hex hdt hf ?_ ⟨.int (es.size : Nat), H1, I2.tok _, ⟨_, rfl⟩, q1 es.size hcard.1 hcard.2⟩
  have h5 := hcard.1
  have h6 : (es.size : Int) < 4096 := by omega
  exact Int.lt_of_lt_of_le h6 (by decide)
/-! ### repr(x), x data -/
def rRepr (K : PySem.W.Frag) : List V → Hp → VK → Prop := fun vs H Q => ∃ (v : V) (d : PyData), vs = [v] ∧ Dp K H v d ∧ d.showable = true ∧ d.hasDict = false ∧ d.depth ≤ 40 ∧ d.shown.length ≤ sizeLine ∧ Q (.str d.shown) H
theorem cr_repr (hG : X.A.guards = some []) (hu : X.A.units + 64 < cLine) : CallR X (.builtin "repr") (rRepr X.K) := by
  intro pins s σ H xs us Q I r h
  obtain ⟨v, d, rfl, hd, hs, hnd, hdep, hz, q⟩ := h
  obtain ⟨u, rfl, ru⟩ := r.one
  obtain ⟨as, rd⟩ := Dp.reads I d v u hd ru
  have fin : ∀ (h' : Heap) (tu : Tok) (tk : Nat), (∀ b o, s.heap.get? b = some o → h'.get? b = some o) → EP X pins σ Q (.str d.shown tu) { s with heap := h', toks := tk } :=
    fun h' tu tk hk => ⟨.str d.shown, H, I.kept (t' := tk) hk, ⟨tu, rfl⟩, q⟩
  cases rd with
  | none => exact P.repr_of_none (fin _ _ _ fun _ _ e => e)
  | bool b => exact P.repr_of_bool (by have f := fin s.heap s.toks (s.toks + 1) fun _ _ e => e; cases b <;> exact f)
  | int i t =>
    have hs' : i.natAbs.log2 < 1920 := by simpa [PyData.showable] using hs
    exact P.repr_of_int hs' (fin s.heap s.toks (s.toks + 1) fun _ _ e => e)
  | str x t => exact P.repr_of_str (hsz := by simpa [PyData.shown] using hz) (fin s.heap s.toks (s.toks + 1) fun _ _ e => e)
  | dict => simp [PyData.hasDict] at hnd
  | @list a o vs n ds as h1 h2 h3 h4 =>
    have hz' : (listText (PyData.shownAll ds)).length ≤ sizeLine := by simpa only [PyData.shown] using hz
    have hT : s.TypeIs (.ref a) "list" := ⟨o, h1, h2⟩
    have hdep' : PyData.depthAll ds + 1 ≤ 40 := by simpa only [PyData.depth] using hdep
    have fin' : ∀ (h' : Heap) (tu : Tok) (tk : Nat), (∀ b o, s.heap.get? b = some o → h'.get? b = some o) → EP X pins σ Q (.str (listText (PyData.shownAll ds)) tu) { s with heap := h', toks := tk } := by
      simpa only [PyData.shown] using fin
    obtain ⟨bs, hb, hk⟩ := ReprAllK.of_readsAll (prog := X.prog) (w := X.w) h4 (by simpa [PyData.showable] using hs)
      (fun hx => by simp only [PyData.hasDict] at hnd; rw [hnd] at hx; cases hx) fun t ht => Nat.le_trans (listText_mem_le ht) hz'
    have hna : a ∉ bs := not_mem_of_deeper (.list h1 h2 h3 h4) (by simp only [PyData.depth]; omega) hb
    refine call_repr_slot (by omega) hT PySem.F.slot_list_repr.toG ?_
    obtain ⟨l⟩ := vs
    cases l with
    | nil =>
      have h5 : ReadsAll s.heap [] ds _ := h4
      cases h5
      refine call_list_repr_empty hT h1 h3 ⟨_, _, rfl, ?_⟩
      exact fin' s.heap _ _ fun _ _ e => e
    | cons x l =>
      exact call_list_reprK h1 h2 h3 hna (by simpa using hk.length_eq) (fun i y e => hk.item i y (by simpa using e)) hG (fun b _ => Clear.nil b) (by show X.A.units + 1 + _ < _; omega) (fun _ _ e => e) (fun h' tu tk hk' => ⟨_, _, rfl, fin' h' tu tk hk'⟩) hz'
  | @tuple a o vs n ds as h1 h2 h3 h4 =>
    have hz' : (tupleText (PyData.shownAll ds)).length ≤ sizeLine := by simpa only [PyData.shown] using hz
    have hdep' : PyData.depthAll ds + 1 ≤ 40 := by simpa only [PyData.depth] using hdep
    obtain ⟨bs, hb, hk⟩ := ReprAllK.of_readsAll (prog := X.prog) (w := X.w) h4 (by simpa [PyData.showable] using hs)
      (fun hx => by simp only [PyData.hasDict] at hnd; rw [hnd] at hx; cases hx) fun t ht => Nat.le_trans (tupleText_mem_le ht) hz'
    have hna : a ∉ bs := not_mem_of_deeper (.tuple h1 h2 h3 h4) (by simp only [PyData.depth]; omega) hb
    refine call_repr_slot (by omega) ⟨o, h1, h2⟩ PySem.F.slot_tuple_repr ?_
    exact call_tuple_reprK h1 h2 h3 hna hk hG (fun b _ => Clear.nil b) (by show X.A.units + 1 + _ < _; omega) (fun _ _ e => e) (fun h' tu tk hk' => ⟨_, _, rfl, by simpa only [PyData.shown] using fin h' tu tk hk'⟩) hz'
end
end OgR

namespace OgR
open PySem PySem.Spec PyProof.Rows L2
/-! ### t[::-1], t a tuple -/
theorem rev_adjust (n : Nat) : Builtin.Slice.sliceAdjust none none (-1) (n : Int) = ((n : Int) - 1, -1) := by
  unfold Builtin.Slice.sliceAdjust
  simp
theorem rev_places (n : Nat) : Builtin.Slice.slicePlaces ((n : Int) - 1) (-1) (-1) = n := by
  unfold Builtin.Slice.slicePlaces
  simp
  split <;> omega
theorem rev_pick (xs : Array Value) : ((List.range xs.size).filterMap fun (m : Nat) => xs[(((xs.size : Int) - 1) + (m : Int) * (-1)).toNat]?) = xs.toList.reverse := by
  have e : ∀ m ∈ List.range xs.size, xs[(((xs.size : Int) - 1) + (m : Int) * (-1)).toNat]? = some (xs.toList.reverse.getD m .none) := by
    intro m hm
    have hm' : m < xs.size := List.mem_range.mp hm
    have e1 : (((xs.size : Int) - 1) + (m : Int) * (-1)).toNat = xs.size - 1 - m := by omega
    rw [e1, List.getD_eq_getElem?_getD, List.getElem?_reverse (by rw [Array.length_toList]; exact hm'), Array.length_toList, Array.getElem?_toList]
    rw [Array.getElem?_eq_getElem (by omega)]
    rfl
  have e2 : ((List.range xs.size).filterMap fun (m : Nat) => xs[(((xs.size : Int) - 1) + (m : Int) * (-1)).toNat]?) = (List.range xs.size).map fun m => xs.toList.reverse.getD m .none := by
    rw [← List.filterMap_eq_map]
    generalize List.range xs.size = R at e
    induction R with
    | nil => rfl
    | cons m R ih =>
      have e0 := e m List.mem_cons_self
      rw [List.filterMap_cons, List.filterMap_cons, e0, ih fun k hk => e k (List.mem_cons_of_mem _ hk)]
      rfl
  rw [e2]
  refine List.ext_getElem? fun i => ?_
  rw [List.getElem?_map]
  by_cases hi : i < xs.size
  · rw [List.getElem?_range hi]
    have hl : i < xs.toList.reverse.length := by rw [List.length_reverse, Array.length_toList]; exact hi
    simp only [Option.map_some, List.getD_eq_getElem?_getD]
    rw [List.getElem?_eq_getElem hl]
    rfl
  · rw [List.getElem?_eq_none (by rw [List.length_range]; omega), List.getElem?_eq_none (by rw [List.length_reverse, Array.length_toList]; omega)]
    rfl
section
variable {prog : Program} {w : World} {A : Around} {E : Value → Shared → Prop} {s : Shared}
theorem rev_applied {sl : Addr} {n : Nat} {t : Tok} {Q : Int × Int × Nat → Shared → Prop} (hs : s.heap.IsSliceOf sl .none .none (.int (-1) t)) (h : Q ((n : Int) - 1, -1, n) s) :
    wpAny (model prog w) A (Builtin.Slice.sliceApplied (.ref sl) (pure (n : Int))) Q E s := by
  obtain ⟨os, hos, -, hds⟩ := hs
  unfold Builtin.Slice.sliceApplied Builtin.Slice.sliceFields
  refine wpAny_bind (wpAny_bind (wpAny_field hos hds (x := .none) rfl (wpAny_bind (wpAny_field hos hds (x := .none) rfl (wpAny_bind (wpAny_field hos hds (x := .int (-1) t) rfl (wpAny_pure ?_)))))))
  refine wpAny_bind (slicePart_int ?_)
  show wpAny _ _ (if ((-1 : Int) == 0) = true then _ else _) _ _ s
  rw [if_neg (by decide)]
  refine wpAny_bind (slicePart_none (wpAny_bind (slicePart_none (wpAny_bind (wpAny_pure ?_)))))
  show wpAny _ _ (match Builtin.Slice.sliceAdjust none none (-1) (n : Int) with | (lo, hi) => pure (lo, (-1 : Int), Builtin.Slice.slicePlaces lo hi (-1))) _ _ s
  rw [rev_adjust]
  show wpAny _ _ (pure (((n : Int) - 1), (-1 : Int), Builtin.Slice.slicePlaces ((n : Int) - 1) (-1) (-1))) _ _ s
  rw [rev_places]
  exact wpAny_pure h
theorem getItem_rev {t sl : Addr} {items : Array Value} {tk : Tok} {Q : Value → Shared → Prop} (ht : IsTup s.heap t items) (hs : s.heap.IsSliceOf sl .none .none (.int (-1) tk))
    (h : Q (.ref s.heap.objs.size) { s with heap := s.heap.push { cls := .type "tuple", data := .seq items.toList.reverse.toArray } }) (hsz : items.size ≤ sizeLine) : wpAny (model prog w) A (getItem (.ref t) (.ref sl)) Q E s := by
  have hfit : sizeOk (.seq items.toList.reverse.toArray) := by
    show items.toList.reverse.toArray.size ≤ sizeLine
    rw [List.size_toArray, List.length_reverse, Array.length_toList]
    exact hsz
  have hTs : s.TypeIs (.ref sl) "slice" := by
    obtain ⟨os, hos, hcs, -⟩ := id hs
    exact ⟨os, hos, hcs⟩
  unfold getItem
  try with_reducible refine wpAny_holding ?_
  first | refine wpAny_bind (wpAny_pure ?_) | skip
  refine wpAny_bind (wpAny_sequenceKey ht.typeIs (by decide) (wpAny_bind (wpAny_callSpecial?_slot (name := Str.ofString "__getitem__") ht.typeIs PyProof.Rows.slot_tuple_getitem
    (wpAny_call_entry PyProof.Rows.slot_tuple_getitem ht.typeIs entry_tuple_getitem ?_ (args_tuple_getitem _ _)))))
  show wpAny _ _ (Builtin.Tuple.tupleItemsOf (.ref t) >>= _) _ _ s
  refine wpAny_bind (tupleItemsOf_ ht (wpAny_bind (wpAny_typeOf hTs ?_)))
  rw [if_pos (by decide)]
  refine wpAny_bind (rev_applied hs ?_)
  have hno : ¬ ((((items.size : Int) - 1) == 0 && (-1 : Int) == 1 && items.size == items.size) = true) := by simp
  show wpAny _ _ (if ((((items.size : Int) - 1) == 0 && (-1 : Int) == 1 && items.size == items.size) = true) then _ else _) _ _ s
  rw [if_neg hno, rev_pick]
  first
    | exact wpAny_bind (m := Builtin.Tuple.tupleExact _) (wpAny_newObj_type (wpAny_pure ⟨_, rfl, wpAny_pure h⟩) hfit)
    | exact wpAny_bind (wpAny_bind (m := Builtin.Tuple.tupleExact _) (wpAny_newObj_type (wpAny_pure (wpAny_pure ⟨_, rfl, wpAny_pure h⟩)) hfit))
    | exact wpAny_bind (wpAny_bind (m := Builtin.Tuple.tupleExact _) (wpAny_newObj_type (wpAny_pure ⟨_, rfl, wpAny_pure h⟩) hfit))
end
section
variable {X : Cx}
def tRevT (K : PySem.W.Frag) (te : TE) : TE := fun σ H Q => te σ H fun x H1 => ∃ a xs, x = .ref a ∧ SqT K H1 a xs ∧ ∀ p, H1 p = none → Q (.ref p) (upd H1 p (.tup xs.reverse))
theorem pe_revT {e : Expr} {te : TE} {k : Nat} {p1 p2 p3 pos : Pos} (he : PE X e te) : PE X (.Subscript e (.Slice none none (some (.UnaryOp .USub (.Constant (.int 1) k p1) p2)) p3) pos) (tRevT X.K te) := by
  refine ⟨fun pins s σ H Q I h => Subscript_ (thn (he.run pins s σ H _ I h) fun v s1 ⟨x, H1, I1, r1, q1⟩ => ?_)⟩
  obtain ⟨a, xs, rfl, hx, q⟩ := q1
  cases r1
  have hst : PO X (some (.UnaryOp .USub (.Constant (.int 1) k p1) p2)) (tPart (tUn (rU fun i => .int (-i)) (tC (.int 1)))) := po_some (pe_un un_neg pe_int)
  refine wpAny_Slice (thn (po_none.run pins s1 σ H1 (fun o H2 => o = none ∧ H2 = H1) I1 ⟨rfl, rfl⟩) fun vl s2 ⟨l, H2, I2, pl, el, e2⟩ => ?_)
  subst el e2
  refine thn (po_none.run pins s2 σ H2 (fun o H3 => o = none ∧ H3 = H2) I2 ⟨rfl, rfl⟩) fun vu s3 ⟨u, H3, I3, pu, eu, e3⟩ => ?_
  subst eu e3
  refine thn (hst.run pins s3 σ H3 (fun o H4 => o = some (-1) ∧ H4 = H3) I3 ⟨1, rfl, -1, rfl, rfl, rfl⟩) fun vs s4 ⟨o, H4, I4, ps, eo, e4⟩ => ?_
  subst eo e4
  cases pl
  cases pu
  cases ps with
  | int _ tk =>
    have I5 : Inv X pins σ H4 { s4 with heap := s4.heap.push { cls := .type "slice", data := .fields #[.none, .none, .int (-1) tk] } } := I4.kept (t' := s4.toks) fun b ob q => Heap.get?_push_of_some _ q
    obtain ⟨its, r, ht, hz⟩ := I5.tuple hx
    have hlen := r.length
    show wpAny (model X.prog X.w) X.A (subscriptTail e (.Slice none none (some (.UnaryOp .USub (.Constant (.int 1) k p1) p2)) p3) (.ref a) (.ref s4.heap.objs.size)) (EP X pins σ Q) X.xe { s4 with heap := s4.heap.push { cls := .type "slice", data := .fields #[.none, .none, .int (-1) tk] } }
    refine tail_any (ops := [.ref a, .ref s4.heap.objs.size]) ht.typeIs (PyProof.Rows.slot_tuple_getitem.lookup) ?_ (by with_unfolding_all rfl)
    refine getItem_rev ht (Heap.IsSliceOf.new _ .none .none (.int (-1) tk)) ⟨.ref _, _, I5.laid (t' := s4.toks) (o := .tup xs.reverse) (fun b ob q => Heap.get?_push_of_some _ q) (Nat.le_refl _) ?_, rfl, q _ (I5.hok.fresh (Nat.le_refl _))⟩ (by rw [List.size_toArray]; omega)
    exact ⟨by rw [List.length_reverse]; exact hz, _, r.reverse, ⟨_, Heap.get?_push_size _ rfl, rfl, 0, rfl⟩⟩
end
end OgR

namespace OgR
open PySem PySem.Spec PyProof.Rows L2
/-! ### defs that run where no repr is under way -/
section
variable {P : Program} {w : World} {K : PySem.W.Frag} {mg : Str → Option Value} {base : Heap}
/-- the promise of a def for callers of whom no repr is under way -/
def FnG (P : Program) (w : World) (K : PySem.W.Frag) (mg : Str → Option Value) (base : Heap) (k : Nat) (f : Addr) (fd : FuncData) (ps : List Str) (sp : Sp) : Prop :=
  (∀ vs H Q E, sp vs H Q E → vs.length = ps.length) ∧
  ∀ (A : Around) (outer : List Env) (s : Shared) (H : Hp) (args : Args) (us : List Value) (vs : List V) (Q : VK) (E : XK), A.guards = some [] → Room k A → Env0 P w K mg base A outer s H → BindsTo s fd args (ps.zip us) → Vals vs us →
    sp vs H Q E → codeAny (model P w) A (.call (.ref f) args) (CR CX0 outer P w H s Q E) s
theorem fnG_of {x qual : Str} {st : Stmt} {f : Addr} {fd : FuncData} {N ps : List Str} {k : Nat} {sp : Sp} (F : Fun K x qual st f fd) (S : FnScope N ps (defScope st)) (hl : ∀ vs H Q E, sp vs H Q E → vs.length = ps.length)
    (body : ∀ (cdv : Value) (A : Around) (outer : List Env) (s : Shared) (H : Hp) (vs : List V) (Q : VK) (E : XK), A.guards = some [] → Room k (A.deeper (envOfC qual (defScope st) s.heap.objs.size f cdv)) → sp vs H Q E →
      ∃ t, PSs (cxOf CX0 P w K mg base N qual (defScope st) f cdv A outer s H E).nox (defBody st) t ∧ t { nx := fun _ H' => Q .non H', rt := Q } (start N vs) H) : FnG P w K mg base (k + 1) f fd ps sp := by
  obtain ⟨oc, od, kV, doc, pm, an, cdv, ct, osl, rfl, lk, hcd⟩ := F.ex
  refine ⟨hl, fun A outer s H args us vs Q E hG hr e0 hb r hsp => ?_⟩
  have here : ∀ b o, base.get? b = some o → s.heap.get? b = some o := fun b o e => (e0.bs b o e).1
  have KX : K.In s.heap := e0.mod.kin.keeps here
  refine codeAny_call_function hr.depth (KX _ _ lk) rfl S.co S.gen rfl (PySem.W.codeRec_of KX hcd) (hb _ _ _ _ (wpAny_newFunctionEnv_cells S.kind ?_ fun env he s1 y => ?_))
  · rintro ⟨n, v⟩ hy
    exact (S.par n (List.of_mem_zip hy).1).imp id fun q => ⟨q, PySem.W.cellsFrom_some _ _ _ (.inl q)⟩
  · subst he
    obtain ⟨t, ht, hq⟩ := body cdv A outer s H vs Q E hG (hr.deeper _) hsp
    have I := inv_start (CX := CX0) (E := E) S hr.hd e0 (hl _ _ _ _ hsp) r y
    refine ⟨(e0.mod.nolimit.keeps here).keeps y.toInCall.keep, codeAny_func (wpAny_mono (ht.nox.run [] s1 (start N vs) H _ I hq) ?_ fun e s' hs => hs)⟩
    rintro (_ | _ | _ | u) s' hs
    all_goals first
      | (obtain ⟨v, σ', H', J, rv, q⟩ := hs; exact ⟨v, H', J.os, J.bare, J.base, J.hok, rv, q⟩)
      | (obtain ⟨σ', H', J, q⟩ := hs; exact ⟨V.non, H', J.os, J.bare, J.base, J.hok, rfl, q⟩)
      | (obtain ⟨_, _, _, q⟩ := hs; exact q.elim)
end
section
variable {X : Cx} {k : Nat} {f : Addr} {fd : FuncData} {ps : List Str} {sp : Sp} {E : XK} {x : Str} {p pos : Pos} {e : Expr} {es : List Expr} {t : TA}
theorem pe_callG (F : FnG X.prog X.w X.K X.mg X.base k f fd ps sp) (hG : X.A.guards = some []) (hr : Room k X.A) (hg : Gl X x) (hm : X.mg x = some (.ref f)) (hk : PySem.W.keepIn X.K (.ref f) = true) (hb : Binds X.K fd ps [])
    (ha : PA X (e :: es) t) (hdb : (x == ("__debug__" : Str)) = false := by decide) (he : starEach (e :: es) X.env = (false, eval e X.env) :: starEach es X.env := by rfl) (hpl : (backTo pos (starEach es X.env)).any (·.1) = false := by rfl) :
    PE X (.Call (.Name x p) (e :: es) [] pos) (tCall sp [] E t) := by
  refine ⟨fun pins s σ H Q I h => wpAny_Call_Name_kw (ld_glob I hg hm ?_ hdb)⟩
  refine PySem.W.callWith_K (h₀ := X.base) I.ok.mod.kin hk (thn (ha.run pos pins s σ H _ I h) fun us s1 ⟨vs, H1, I1, r, q⟩ => ⟨I1.kIn, ?_⟩) he hpl
  have q' : sp (vs ++ []) H1 Q E := q
  rw [List.append_nil] at q'
  have hl : us.length = ps.length := by rw [← r.length]; exact F.1 _ _ _ _ q'
  have hb' := hb s1 us I1.kIn (by rw [List.append_nil]; exact hl)
  rw [List.append_nil] at hb'
  refine wpAny_call (codeAny_mono (F.2 X.A X.stack s1 H1 ⟨us, []⟩ us vs Q E hG hr I1.env0 hb' r q') ?_)
  rintro (e | _ | _ | _ | u) s' hq
  all_goals first
    | exact I1.after hq
    | exact False.elim hq
end
end OgR

namespace OgR
open PySem PySem.Spec PyProof.Rows L2
/-! ### the head of a law whose def is a FnG -/
def scriptH (K : PySem.W.Frag) (a : Addr) (ob : Obj) (ns : List Int) : Hp := fun b => if b = a ∧ K.lookup a = none then some (.frz ob (.lst (ns.map V.int))) else none
theorem scriptH_some {K : PySem.W.Frag} {a b : Addr} {ob : Obj} {ns : List Int} {u : HO} (h : scriptH K a ob ns b = some u) : b = a ∧ K.lookup a = none ∧ u = .frz ob (.lst (ns.map V.int)) := by
  unfold scriptH at h
  split at h
  · rename_i c
    exact ⟨c.1, c.2, (Option.some.inj h).symm⟩
  · cases h
theorem scriptH_none {K : PySem.W.Frag} {a b : Addr} {ob : Obj} {ns : List Int} (h : ¬ (b = a ∧ K.lookup a = none)) : scriptH K a ob ns b = none := if_neg h
theorem law_runG {P : Program} {w : World} {K : PySem.W.Frag} {mg mb : Str → Option Value} {k : Nat} {fa a : Addr} {fd : FuncData} {x : Str} {sp : Sp} {s : Shared} {vs : List Value} {ns : List Int}
    (KX : K.In s.heap) (gl : s.heap.Ns mainGlobals mg) (bl : s.heap.Ns builtinsNs mb) (blt : ∀ x : Str, x ≠ "__name__" → mb x = bootBuiltins x) (lim : s.heap.NoLimit) (gn : s.gens = #[])
    (ha : s.heap.get? a = some { cls := .type "list", data := .seq vs.toArray }) (hi : IntsAre vs ns) (hl : ns.length ≤ sizeLine) (hr : Room k callerA)
    (F : ∀ base : Heap, K.In base → base.Ns mainGlobals mg → FnG P w K mg base k fa fd [x] sp) (bind : ∀ (s : Shared) (u : Value), BindsTo s fd ⟨[u], []⟩ [(x, u)])
    (hsp : ∀ H : Hp, SqL K H a (ns.map V.int) → sp [.ref a] H (fun v _ => v = .bl true) fun _ _ _ => False) :
    codeAny (model P w) callerA (.call (.ref fa) ⟨[.ref a], []⟩) (fun r s' => r = .ok (.ret (.bool true)) ∧ OldK s.heap s'.heap ∧ s'.os = s.os ∧ AllBare s'.gens) s := by
  have rv := vals_ints hi
  have hz : (ns.map V.int).length ≤ sizeLine := by rw [List.length_map]; exact hl
  generalize hH : scriptH K a { cls := .type "list", data := .seq vs.toArray } ns = H
  have tr : ∀ {b : Addr} {u : HO}, H b = some u → b = a ∧ K.lookup a = none ∧ u = .frz { cls := .type "list", data := .seq vs.toArray } (.lst (ns.map V.int)) := fun {b u} e => by
    rw [← hH] at e
    exact scriptH_some e
  have seq : SqL K H a (ns.map V.int) := by
    cases hk : K.lookup a with
    | none => exact .inl (.inr ⟨_, by rw [← hH]; exact if_pos ⟨rfl, hk⟩⟩)
    | some o =>
      have e := KX a o hk
      rw [ha] at e
      cases e
      exact .inr ⟨_, vs.toArray, _, hk, rfl, rfl, rfl, by rw [List.size_toArray, hi.length]; exact hl, by simpa using rv⟩
  have hok : HOk P w H s.heap := fun b u e => by
    obtain ⟨rfl, -, rfl⟩ := tr e
    exact ⟨ha, hz, vs, _, rv, ha⟩
  have kept : ∀ {b : Addr} {m : Str → Option Value}, s.heap.Ns b m → (hidT s.heap H).Ns b m := fun {b m} ⟨o, es, ep, e, d, r⟩ => ⟨o, es, ep, hidT_get e (by
    cases q : H b with
    | none => rfl
    | some u =>
      obtain ⟨rfl, -, -⟩ := tr q
      rw [ha] at e
      cases e
      cases d), d, r⟩
  have KB : K.In (hidT s.heap H) := fun b o e => hidT_get (KX b o e) (by
    cases q : H b with
    | none => rfl
    | some u =>
      obtain ⟨rfl, n, -⟩ := tr q
      rw [n] at e
      cases e)
  have M : Mod K mg (hidT s.heap H) := ⟨KB, kept gl, ⟨mb, kept bl, blt⟩, let ⟨mc, h1, h2⟩ := lim; ⟨mc, kept h1, h2⟩⟩
  have nofr : ∀ b : Addr, b ∉ frs [] := fun b hb => absurd (show b ∈ ([] : List Addr) from hb) (by simp)
  have e0 : Env0 P w K mg (hidT s.heap H) callerA [] s H := ⟨rfl, M, fun b o e => of_hidT e, Nat.le_of_eq (hidT_size _ _), trivial, fun b hb => absurd hb (nofr b), hok, .of_eq gn⟩
  refine codeAny_mono ((F _ KB (kept gl)).2 callerA [] s H ⟨[.ref a], []⟩ [.ref a] [.ref a] _ _ rfl hr e0 (bind s (.ref a)) (.cons rfl .nil) (hsp H seq)) ?_
  rintro (e | _ | _ | _ | u) s' h
  all_goals first
    | exact False.elim h
    | skip
  obtain ⟨v, H', os, bare, un, hok', r', q⟩ := h
  have q' : v = .bl true := q
  subst q'
  obtain rfl : u = Value.bool true := r'
  refine ⟨rfl, OldK.of_keep fun b o e => ?_, os, bare⟩
  cases q2 : H b with
  | none => exact un.keep b o e q2 (nofr b) (by simp)
  | some u =>
    obtain ⟨rfl, -, rfl⟩ := tr q2
    rw [ha] at e
    cases e
    exact (hok' _ _ (un.frzs _ _ _ q2)).1
theorem walk_G {l : PySem.W.OpenLaw} {n k : Nat} {q : Program} {loose : List Str} {XP : (Str → Option Value) → Heap → Prop} {YP : World → Heap → Prop} {d : DefRec} {K : Params → PySem.W.Frag} {sp : World → Sp} {x : Str}
    (hn : l.most = some n) (hn2 : n ≤ sizeLine) (hdf : d.params.defaults = []) (hr : Room k callerA) (hY : ∀ (w : World) (h : Heap), YP w h → (K w.params).In h)
    (F : ∀ (w : World) (mg : Str → Option Value) (fa : Addr) (h : Heap), (K w.params).In h → h.Ns mainGlobals mg → mg d.name = some (.ref fa) →
      ∃ fd : FuncData, (∀ (s : Shared) (u : Value), BindsTo s fd ⟨[u], []⟩ [(x, u)]) ∧ ∀ base : Heap, (K w.params).In base → base.Ns mainGlobals mg → FnG l.prog w (K w.params) mg base k fa fd [x] (sp w))
    (hsp : ∀ (w : World) (H : Hp) (a : Addr) (ns : List Int), ns.length ≤ n → SqL (K w.params) H a (ns.map V.int) → sp w [.ref a] H (fun v _ => v = .bl true) fun _ _ _ => False) :
    PySem.W.WalkO q loose XP YP l.row.toRowW d [] (fun f vs => PySem.call f vs) := by
  refine Att.attach_call hn hdf fun w s₀ s₁ mg mb fa o pm cd doc a vs ns G Y ho hd hcd hmg hobj hints hlen hg => ?_
  obtain ⟨fd, hb, hF⟩ := F w mg fa _ (hY w _ Y) G.T.g hmg
  exact law_runG (hY w _ Y) G.T.g G.T.b G.T.builtins G.T.nolimit hg hobj hints (Nat.le_trans hlen hn2) hr hF hb fun H hS => hsp w H a ns hlen hS
end OgR

namespace Og
open PySem PySem.Spec PyProof.Rows L2 OgR Evl OgM
def numD : PyData → Int
  | .int i => i
  | _ => 0
def rowD (n : Int) : PyData → Bool
  | .tuple ds => ds.all (fun d => isBelow d n) && decide ((ds.map numD).Nodup)
  | _ => false
def wideD : PyData → Nat
  | .tuple ds => ds.length
  | .list ds => ds.length
  | _ => 0
theorem nums_of {K : PySem.W.Frag} {H : Hp} : ∀ {ds : List PyData} {xs : List V}, DpAll K H xs ds → (∀ d ∈ ds, isNum d = true) → xs = (ds.map numD).map V.int
  | _, _, .nil, _ => rfl
  | d :: ds, _, .cons h t, hn => by
    have e := nums_of t fun x hx => hn x (List.mem_cons_of_mem _ hx)
    have h1 := hn d List.mem_cons_self
    cases h with
    | int i =>
      rw [e]
      rfl
    | non => cases h1
    | bl _ => cases h1
    | str _ => cases h1
    | lst _ _ => cases h1
    | tup _ _ => cases h1
theorem below_num {d : PyData} {n : Int} (h : isBelow d n = true) : isNum d = true := by
  cases d <;> first | rfl | (exact h)
theorem kb_tup (d : PyData) : ∃ b, kitB (tyN d) "tuple" = some b ∧ (b = true ↔ ∃ ds, d = .tuple ds) := by
  obtain ⟨l, t, _, h2, h3, h4, h5⟩ := kb_seq d
  refine ⟨t, h2, ?_⟩
  cases d with
  | tuple ds => exact ⟨fun _ => ⟨ds, rfl⟩, fun _ => (h5 ds rfl).2⟩
  | list ds => exact ⟨fun e => by rw [(h4 ds rfl).2] at e; exact absurd e (by decide), fun ⟨_, e⟩ => nomatch e⟩
  | none => exact ⟨fun e => by rw [(h3 rfl).2] at e; exact absurd e (by decide), fun ⟨_, e⟩ => nomatch e⟩
  | bool _ => exact ⟨fun e => by rw [(h3 rfl).2] at e; exact absurd e (by decide), fun ⟨_, e⟩ => nomatch e⟩
  | int _ => exact ⟨fun e => by rw [(h3 rfl).2] at e; exact absurd e (by decide), fun ⟨_, e⟩ => nomatch e⟩
  | str _ => exact ⟨fun e => by rw [(h3 rfl).2] at e; exact absurd e (by decide), fun ⟨_, e⟩ => nomatch e⟩
  | dict _ =>
    have e : kitB "dict" "tuple" = some false := by decide +kernel
    have e2 : some false = some t := e.symm.trans h2
    cases e2
    exact ⟨fun e => absurd e (by decide), fun ⟨_, e⟩ => nomatch e⟩
abbrev sIsRow : Stmt := topS 5
theorem scIsRow : FnScope ["plots", "thing", "plot"] ["plots", "thing"] (defScope sIsRow) := ⟨rfl, rfl, rfl, by decide +kernel, rfl, by decide +kernel, by decide +kernel⟩
section
variable {P : Program} {w : World} {K : PySem.W.Frag} {mg : Str → Option Value} {base : Heap}
def spIsRow (K : PySem.W.Frag) : Sp := fun vs H Q _ => ∃ (v : V) (d : PyData) (n : Int), vs = [.int n, v] ∧ Dp K H v d ∧ wideD d ≤ 900 ∧ ∀ H', Ex H H' → Q (.bl (rowD n d)) H'
theorem ok_isRow {f fB fN : Addr} {fd fdB fdN : FuncData} {k : Nat} (F : Fun K "is_row" "is_row" sIsRow f fd) (FB : Fun K "is_number_below" "is_number_below" sIsB fB fdB) (bB : Binds K fdB ["thing", "limit"] []) (gB : mg "is_number_below" = some (.ref fB))
    (FN : Fun K "is_number" "is_number" sIsN fN fdN) (bN : Binds K fdN ["thing"] []) (gN : mg "is_number" = some (.ref fN))
    (mI : mg "isinstance" = none) (mi : mg "int" = none) (mb : mg "bool" = none) (mt : mg "tuple" = none) (mal : mg "all" = none) (ml : mg "len" = none) (mse : mg "set" = none) : FnOk P w K mg base CX0 (k + 3) f fd ["plots", "thing"] (spIsRow K) := by
  have GB : FnOk P w K mg base CX0 (k + 2) fB fdB ["thing", "limit"] (spIsB K) := ok_isB FB FN bN gN mI mi mb
  refine F.ok scIsRow (fun vs H Q E h => ?_) (fun cdv A outer s H vs Q E hr h => ?_)
  · obtain ⟨_, _, _, rfl, _⟩ := h
    rfl
  · obtain ⟨v, d, n, rfl, hd, hw, q⟩ := h
    refine ⟨_, pss_cons (ps_if ((pt_not (pt_val (pe_callB call_isi (by rfl) mI (by decide +kernel) (pa_cons (pv 1) (pa_cons (pe_bltn (v := .ty "tuple") (by rfl) mt (by decide +kernel) rfl) pa_nil)))))) (pss_one (ps_ret pe_bl)) pss_nil)
      (pss_cons (ps_if ((pt_not (pt_val (pe_callB (cr_all (by rfl)) (by rfl) mal (by decide +kernel) (pa_cons
              (pe_lc (own := [("plot", 2)]) (g := gName 2) (by rfl) scIsRow.nd (pi_seqB (pv 1))
                (blkOk_by (own := [("plot", 2)]) (N := ["plots", "thing", "plot"]) (sc := defScope sIsRow) (by decide +kernel))
                (fun _ _ _ _ _ => pg_name (i := 2) scIsRow.nd rfl (Or.inl rfl) (hf := Or.inr rfl))
                (fun _ _ _ _ _ => pts_nil)
                (fun _ _ _ _ _ => pe_call GB hr (by rfl) gB FB.kp bB .nil pass0 (pa_cons (pv 2) (pa_cons (pv 0) pa_nil)))) pa_nil))))) (pss_one (ps_ret pe_bl)) pss_nil)
      (pss_one (ps_ret (pe_cmpR op_eq (pe_lenSetN rfl (by rfl) ml (by rfl) mse (pv 1)) (pe_callB cr_lenB (by rfl) ml PySem.boot_len (pa_cons (pv 1) pa_nil)) (nomark _))))), ?_⟩
    obtain ⟨b, hb, hbt⟩ := kb_tup d
    refine ⟨_, rfl, v, _, _, _, b, rfl, .ty _, tyx_D hd, kit_ty hb, b, rfl, ?_⟩
    cases b with
    | false =>
      refine iteT ?_
      have e : rowD n d = false := by
        cases d with
        | tuple ds => exact absurd (hbt.mpr ⟨ds, rfl⟩) (by decide)
        | _ => rfl
      rw [← e]
      exact q _ (Ex.refl _)
    | true =>
      obtain ⟨ds, rfl⟩ := hbt.mp rfl
      refine iteF ?_
      cases hd with
      | @tup a xs _ hs ha =>
        have hlen := dpa_len ha
        have hw' : ds.length ≤ 900 := hw
        refine ⟨_, rfl, true, a, xs, rfl, hs, fun D hD => lc_it (walk_seqB (K := K) (b := true) (a := a) (xs := xs)) (fun i H' => Ex H H' ∧ H' D = some (.lst (((ds.take i).map fun d => isBelow d n).map V.bl))) ⟨Ex.new hD, upd_same⟩ (fun i H' _ c => Evl.ex_t c.1 hs) (fun i x H' H'' hi c y => ?_) (fun H2 c => ?_)⟩
        · obtain ⟨rfl, hx⟩ := y
          obtain ⟨d1, hd1, px⟩ := dpa_get ha hx
          refine ⟨rfl, _, rfl, _, rfl, x, d1, n, rfl, dp_ex c.1 px, _, c.2, ?_, Ex.mut c.1 hD, ?_⟩
          · rw [List.length_map, List.length_map, List.length_take]
            exact small1000 (by omega)
          · rw [upd_same, take_next hd1, List.map_append, List.map_append]
            rfl
        · rw [List.take_of_length_le (by omega)] at c
          refine ⟨D, _, rfl, .inl (.inl c.2), _, rfl, ?_⟩
          rw [List.all_map]
          cases hall : ds.all (fun d => isBelow d n) with
          | false =>
            have e1 : ds.all (id ∘ fun d => isBelow d n) = false := hall
            rw [e1]
            refine iteT ?_
            have e : rowD n (.tuple ds) = false := by
              show (ds.all (fun d => isBelow d n) && _) = false
              rw [hall]
              rfl
            rw [← e]
            exact q _ c.1
          | true =>
            have e1 : ds.all (id ∘ fun d => isBelow d n) = true := hall
            rw [e1]
            refine iteF ?_
            have en := nums_of ha fun d hd => below_num (List.all_eq_true.mp hall d hd)
            subst en
            refine ⟨_, rfl, a, ds.map numD, rfl, Evl.ex_t c.1 hs, by rw [List.length_map]; omega, fun m hm hmn => ?_⟩
            refine ⟨_, rfl, true, a, _, rfl, Evl.ex_t c.1 hs, rfl, ?_⟩
            have e : rowD n (.tuple ds) = decide (V.int (m : Nat) = V.int ((((ds.map numD).map V.int).length : Nat) : Int)) := by
              show (ds.all (fun d => isBelow d n) && decide ((ds.map numD).Nodup)) = _
              rw [hall, eq_bool, Bool.true_and, List.length_map]
              refine decide_eq_decide.mpr ?_
              rw [← hmn]
              omega
            rw [← e]
            exact q _ c.1
end
end Og

namespace Og
open PySem PySem.Spec PyProof.Rows L2 OgR Evl OgM
def grp (ns : List Int) : List Int := (List.range ns.length).map fun i => ((segs (ns.take (i + 1))).length : Int)
theorem grp_len (ns : List Int) : (grp ns).length = ns.length := by simp [grp]
theorem grp_get {ns : List Int} {i : Nat} (h : i < ns.length) : (grp ns)[i]? = some ((segs (ns.take (i + 1))).length : Int) := by
  unfold grp
  rw [List.getElem?_map, List.getElem?_range h]
  rfl
theorem step_ix (wd : Wd) : wd.step = 1 - (wd.ix : Int) := by cases wd <;> rfl
theorem segs_step {ns : List Int} (hn : ns.Nodup) {i : Nat} {p : Int} (e : ns[i]? = some p) : ((segs (ns.take (i + 1))).length : Int) = (segs (ns.take i)).length + (1 - ((pick p (segs (ns.take i))).1.ix : Int)) := by
  obtain ⟨lo, hl⟩ := lower (ns.take i)
  obtain ⟨k, km⟩ := segs_ok (hn.sublist (List.take_sublist i ns)) hl
  have S := says k (p := p) fun m => nodup_fresh hn e ((km p).mp m)
  rw [take_next e, segs_snoc, S.len, step_ix]
abbrev sGroups : Stmt := topS 7
theorem scGroups : FnScope ["row", "after", "many", "beside"] ["row"] (defScope sGroups) := ⟨rfl, rfl, rfl, by decide +kernel, rfl, by decide +kernel, by decide +kernel⟩
abbrev sMirr : Stmt := topS 9
theorem scMirr : FnScope ["plots", "row", "plot"] ["plots", "row"] (defScope sMirr) := ⟨rfl, rfl, rfl, by decide +kernel, rfl, by decide +kernel, by decide +kernel⟩
abbrev sIsI : Stmt := topS 16
theorem scIsI : FnScope ["_law_matter"] ["_law_matter"] (defScope sIsI) := ⟨rfl, rfl, rfl, by decide +kernel, rfl, by decide +kernel, by decide +kernel⟩
abbrev sIsQ : Stmt := topS 21
theorem scIsQ : FnScope ["_law_count", "_law_matter", "_law_plot"] ["_law_count", "_law_matter"] (defScope sIsQ) := ⟨rfl, rfl, rfl, by decide +kernel, rfl, by decide +kernel, by decide +kernel⟩
section
variable {P : Program} {w : World} {K : PySem.W.Frag} {mg : Str → Option Value} {base : Heap}
def spGroups (K : PySem.W.Frag) : Sp := fun vs H Q _ => ∃ (b : Bool) (a : Addr) (ns : List Int), vs = [.ref a] ∧ SqB K b H a (ns.map V.int) ∧ ns.Nodup ∧ ns.length ≤ 900 ∧
  ∀ H' p, Ex H H' → H p = none → H' p = some (.tup ((grp ns).map V.int)) → Q (.ref p) H'
theorem ok_groups {f fN : Addr} {fd fdN : FuncData} {k : Nat} (F : Fun K "groups" "groups" sGroups f fd) (FN : Fun K "neighbours" "neighbours" sNb fN fdN) (bN : Binds K fdN ["row"] []) (gN : mg "neighbours" = some (.ref fN))
    (mt : mg "tuple" = none) : FnOk P w K mg base CX0 (k + 2) f fd ["row"] (spGroups K) := by
  have GN : FnOk P w K mg base CX0 (k + 1) fN fdN ["row"] (spNb K) := ok_nb FN
  refine F.ok scGroups (fun vs H Q E h => ?_) (fun cdv A outer s H vs Q E hr h => ?_)
  · obtain ⟨_, _, _, rfl, _⟩ := h
    rfl
  · obtain ⟨b, a, ns, rfl, hS, hnd, hlen, q⟩ := h
    refine ⟨_, pss_cons (ps_set (i := 1) scGroups.nd rfl (.inl rfl) (pe_lst pa_nil)) (pss_cons (ps_set (i := 2) scGroups.nd rfl (.inl rfl) pe_int)
      (pss_cons (ps_for PassesOwn.never rfl (pi_seqB (pe_call GN hr (by rfl) gN FN.kp bN .nil pass0 (pa_cons (pv 0) pa_nil))) (pg_name (i := 3) scGroups.nd rfl (.inl rfl))
        (pss_cons (ps_aug (i := 2) scGroups.nd rfl (.inl rfl) (pe_op op_sub pe_int (pv 3)) ip_add)
        (pss_one (ps_expr (pe_bm PySem.F.plainAttrs_list PySem.F.slot_list_append PySem.F.type_list_append mt_append (pv 1) (pa_cons (pv 2) pa_nil))))))
      (pss_one (ps_ret (pe_callTy call_tuple_of (by rfl) mt (by decide +kernel) (pa_cons (pv 1) pa_nil)))))), ?_⟩
    refine ⟨Nat.zero_le _, fun fo hfo => ?_⟩
    have x1 : Ex H (upd H fo (.lst [])) := Ex.new hfo
    refine ⟨_, rfl, b, a, ns, rfl, hS.ex x1, hnd, hlen, fun H1 nb e1 hnb hn1 => ?_⟩
    have nfn : fo ≠ nb := ne_of_none upd_same hnb
    have x2 := x1.trans e1
    have hf1 : H1 fo = some (.lst []) := e1 _ _ upd_same
    refine ⟨false, nb, _, rfl, .inl (.inl hn1), for_it (walk_seqB (K := K) (b := false) (a := nb) (xs := (picks ns).map fun c => V.int (c.1.ix : Nat)))
      (fun i σ H3 => ∃ y3, σ = [some (.ref a), some (.ref fo), some (.int ((segs (ns.take i)).length : Nat)), y3] ∧ Ex H H3 ∧ H3 nb = H1 nb ∧ H3 fo = some (.lst (((grp ns).take i).map V.int))) ?_ ?_ ?_ ?_⟩
    · exact ⟨none, rfl, x2, rfl, hf1⟩
    · rintro i σ H3 _ ⟨_, _, e3, hn3, _⟩
      refine .inl (.inl ?_)
      rw [hn3]
      exact hn1
    · rintro i x σ H3 H3' hi ⟨y3, rfl, e3, hn3, hf3⟩ ⟨rfl, hx⟩
      rw [List.getElem?_map] at hx
      obtain ⟨ch, hch, rfl⟩ := Option.map_eq_some_iff.mp hx
      have hil := (List.getElem?_eq_some_iff.mp hch).1
      rw [picks_len] at hil
      have hp := List.getElem?_eq_getElem hil
      rw [picks_get hp] at hch
      cases hch
      refine ⟨_, rfl, _, rfl, _, _, rfl, rfl, _, _, rfl, rfl, ?_⟩
      refine ⟨_, rfl, .inl ⟨rfl, _, .inl (.inl hf3)⟩, _, rfl, fo, _, _, rfl, rfl, hf3, ?_, some (V.int ((pick ns[i] (segs (ns.take i))).1.ix : Nat)), ?_, Ex.mut e3 hfo, ?_, ?_⟩
      · rw [List.length_map, List.length_take, grp_len]
        exact small1000 (by omega)
      · rw [segs_step hnd hp]
        rfl
      · rw [upd_ne (Ne.symm nfn)]
        exact hn3
      · rw [upd_same, take_next (grp_get hil), List.map_append, segs_step hnd hp]
        rfl
    · rintro σ H3 ⟨y3, rfl, e3, hn3, hf3⟩
      rw [List.take_of_length_le (by rw [grp_len, List.length_map, picks_len]; exact Nat.le_refl _)] at hf3
      exact ⟨_, rfl, fo, _, rfl, .inl ⟨.inl (.inl hf3), fun t ht => q _ t (e3.trans (Ex.new ht)) (fresh_back e3 ht) upd_same⟩⟩
def spMirr (K : PySem.W.Frag) : Sp := fun vs H Q _ => ∃ (b : Bool) (a : Addr) (n : Int) (ns : List Int), vs = [.int n, .ref a] ∧ SqB K b H a (ns.map V.int) ∧ ns.length ≤ 900 ∧
  ∀ H' p, Ex H H' → H p = none → H' p = some (.tup ((ns.map fun p => n - 1 - p).map V.int)) → Q (.ref p) H'
theorem ok_mirr {f : Addr} {fd : FuncData} {k : Nat} (F : Fun K "mirrored" "mirrored" sMirr f fd) (mt : mg "tuple" = none) : FnOk P w K mg base CX0 (k + 1) f fd ["plots", "row"] (spMirr K) := by
  refine F.ok scMirr (fun vs H Q E h => ?_) (fun cdv A outer s H vs Q E hr h => ?_)
  · obtain ⟨_, _, _, _, rfl, _⟩ := h
    rfl
  · obtain ⟨b, a, n, ns, rfl, hS, hlen, q⟩ := h
    refine ⟨_, pss_one (ps_ret (pe_callTy call_tuple_of (by rfl) mt (by decide +kernel) (pa_cons
        (pe_lc (own := [("plot", 2)]) (g := gName 2) (by rfl) scMirr.nd (pi_seqB (pv 1))
          (blkOk_by (own := [("plot", 2)]) (N := ["plots", "row", "plot"]) (sc := defScope sMirr) (by decide +kernel))
          (fun _ _ _ _ _ => pg_name (i := 2) scMirr.nd rfl (Or.inl rfl) (hf := Or.inr rfl))
          (fun _ _ _ _ _ => pts_nil)
          (fun _ _ _ _ _ => pe_op op_sub (pe_op op_sub (pv 0) pe_int) (pv 2))) pa_nil))), ?_⟩
    refine ⟨_, rfl, b, a, _, rfl, hS, fun D hD => lc_it (walk_seqB (K := K) (b := b) (a := a) (xs := ns.map V.int)) (fun i H' => Ex H H' ∧ H' D = some (.lst (((ns.map fun p => n - 1 - p).take i).map V.int))) ⟨Ex.new hD, upd_same⟩ (fun i H' _ c => hS.ex c.1) (fun i x H' H'' hi c y => ?_) (fun H2 c => ?_)⟩
    · obtain ⟨rfl, hx⟩ := y
      rw [List.getElem?_map] at hx
      obtain ⟨p, hp, rfl⟩ := Option.map_eq_some_iff.mp hx
      have hil := (List.getElem?_eq_some_iff.mp hp).1
      refine ⟨rfl, _, rfl, _, _, rfl, rfl, _, rfl, _, _, rfl, rfl, _, c.2, ?_, Ex.mut c.1 hD, ?_⟩
      · rw [List.length_map, List.length_take, List.length_map]
        exact small1000 (by omega)
      · rw [upd_same, take_next (x := n - 1 - p) (by rw [List.getElem?_map, hp]; rfl), List.map_append]
        rfl
    · rw [List.take_of_length_le (by rw [List.length_map, List.length_map]; exact Nat.le_refl _)] at c
      exact ⟨D, _, rfl, .inl ⟨.inl (.inl c.2), fun t ht => q _ t (c.1.trans (Ex.new ht)) (fresh_back c.1 ht) upd_same⟩⟩
theorem ok_isI {f : Addr} {fd : FuncData} {k : Nat} (F : Fun K "_law_is_int" "_law_is_int" sIsI f fd) (mI : mg "isinstance" = none) (mi : mg "int" = none) (mb : mg "bool" = none) : FnOk P w K mg base CX0 (k + 1) f fd ["_law_matter"] (spIsN K) := by
  refine F.ok scIsI (fun vs H Q E h => ?_) (fun cdv A outer s H vs Q E hr h => ?_)
  · obtain ⟨_, _, rfl, _⟩ := h
    rfl
  · obtain ⟨v, d, rfl, hd, q⟩ := h
    refine ⟨_, pss_one (ps_ret (pe_and (pe_callB call_isi (by rfl) mI (by decide +kernel) (pa_cons (pv 0) (pa_cons (pe_bltn (v := .ty "int") (by rfl) mi (by decide +kernel) rfl) pa_nil)))
      (pe_one (pe_not (pe_callB call_isi (by rfl) mI (by decide +kernel) (pa_cons (pv 0) (pa_cons (pe_bltn (v := .ty "bool") (by rfl) mb (by decide +kernel) rfl) pa_nil))))))), ?_⟩
    obtain ⟨b, hb, c, hc, e⟩ := kb_int d
    refine ⟨_, rfl, v, _, _, _, b, rfl, .ty _, tyx_D hd, kit_ty hb, b, rfl, ?_⟩
    cases b with
    | false =>
      rw [← e] at q
      exact q
    | true =>
      refine ⟨_, rfl, v, _, _, _, c, rfl, .ty _, tyx_D hd, kit_ty hc, c, rfl, ?_⟩
      rw [← e] at q
      exact q
def spIsQ (K : PySem.W.Frag) : Sp := fun vs H Q _ => ∃ (v : V) (d : PyData) (n : Int), vs = [.int n, v] ∧ Dp K H v d ∧ wideD d ≤ 900 ∧ ∀ H', Ex H H' → Q (.bl (rowD n d)) H'
theorem row_split {n : Int} {ds : List PyData} (hn : ds.all isNum = true) : rowD n (.tuple ds) = (decide ((ds.map numD).Nodup) && (ds.map numD).all fun i => decide (0 ≤ i) && decide (i < n)) := by
  show (ds.all (fun d => isBelow d n) && decide ((ds.map numD).Nodup)) = _
  rw [Bool.and_comm, List.all_map]
  congr 1
  have hn' := List.all_eq_true.mp hn
  clear hn
  induction ds with
  | nil => rfl
  | cons d ds ih =>
    have h0 := hn' d List.mem_cons_self
    rw [List.all_cons, List.all_cons, ih fun x hx => hn' x (List.mem_cons_of_mem _ hx)]
    congr 1
    cases d <;> first | rfl | (cases h0)
theorem ok_isQ {f fI : Addr} {fd fdI : FuncData} {k : Nat} (F : Fun K "_law_is_queue" "_law_is_queue" sIsQ f fd) (FI : Fun K "_law_is_int" "_law_is_int" sIsI fI fdI) (bI : Binds K fdI ["_law_matter"] []) (gI : mg "_law_is_int" = some (.ref fI))
    (mI : mg "isinstance" = none) (mi : mg "int" = none) (mb : mg "bool" = none) (mt : mg "tuple" = none) (mal : mg "all" = none) (ml : mg "len" = none) (mse : mg "set" = none) : FnOk P w K mg base CX0 (k + 2) f fd ["_law_count", "_law_matter"] (spIsQ K) := by
  have GI : FnOk P w K mg base CX0 (k + 1) fI fdI ["_law_matter"] (spIsN K) := ok_isI FI mI mi mb
  refine F.ok scIsQ (fun vs H Q E h => ?_) (fun cdv A outer s H vs Q E hr h => ?_)
  · obtain ⟨_, _, _, rfl, _⟩ := h
    rfl
  · obtain ⟨v, d, n, rfl, hd, hw, q⟩ := h
    refine ⟨_, pss_cons (ps_if (PW.pt (pw_or (pt_not (pt_val (pe_callB call_isi (by rfl) mI (by decide +kernel) (pa_cons (pv 1) (pa_cons (pe_bltn (v := .ty "tuple") (by rfl) mt (by decide +kernel) rfl) pa_nil))))) (pw_or1 (pt_not (pt_val (pe_callB (cr_all (by rfl)) (by rfl) mal (by decide +kernel) (pa_cons
              (pe_lc (own := [("_law_plot", 2)]) (g := gName 2) (by rfl) scIsQ.nd (pi_seqB (pv 1))
                (blkOk_by (own := [("_law_plot", 2)]) (N := ["_law_count", "_law_matter", "_law_plot"]) (sc := defScope sIsQ) (by decide +kernel))
                (fun _ _ _ _ _ => pg_name (i := 2) scIsQ.nd rfl (Or.inl rfl) (hf := Or.inr rfl))
                (fun _ _ _ _ _ => pts_nil)
                (fun _ _ _ _ _ => pe_call GI hr (by rfl) gI FI.kp bI .nil pass0 (pa_cons (pv 2) pa_nil))) pa_nil))))))) (pss_one (ps_ret pe_bl)) pss_nil)
      (pss_one (ps_ret (pe_and (pe_cmpR op_eq (pe_lenSetN rfl (by rfl) ml (by rfl) mse (pv 1)) (pe_callB cr_lenB (by rfl) ml PySem.boot_len (pa_cons (pv 1) pa_nil)) (nomark _))
        (pe_one (pe_callB (cr_all (by rfl)) (by rfl) mal (by decide +kernel) (pa_cons
              (pe_lc (own := [("_law_plot", 2)]) (g := gName 2) (by rfl) scIsQ.nd (pi_seqB (pv 1))
                (blkOk_by (own := [("_law_plot", 2)]) (N := ["_law_count", "_law_matter", "_law_plot"]) (sc := defScope sIsQ) (by decide +kernel))
                (fun _ _ _ _ _ => pg_name (i := 2) scIsQ.nd rfl (Or.inl rfl) (hf := Or.inr rfl))
                (fun _ _ _ _ _ => pts_nil)
                (fun _ _ _ _ _ => pe_chain op_le op_lt pe_int (pv 2) (pv 0))) pa_nil)))))), ?_⟩
    obtain ⟨b, hb, hbt⟩ := kb_tup d
    refine ⟨_, rfl, v, _, _, _, b, rfl, .ty _, tyx_D hd, kit_ty hb, b, rfl, ?_⟩
    cases b with
    | false =>
      refine iteT ?_
      have e : rowD n d = false := by
        cases d with
        | tuple ds => exact absurd (hbt.mpr ⟨ds, rfl⟩) (by decide)
        | _ => rfl
      rw [← e]
      exact q _ (Ex.refl _)
    | true =>
      obtain ⟨ds, rfl⟩ := hbt.mp rfl
      refine iteF ?_
      cases hd with
      | @tup a xs _ hs ha =>
        have hlen := dpa_len ha
        have hw' : ds.length ≤ 900 := hw
        refine ⟨_, rfl, true, a, xs, rfl, hs, fun D hD => lc_it (walk_seqB (K := K) (b := true) (a := a) (xs := xs)) (fun i H' => Ex H H' ∧ H' D = some (.lst (((ds.take i).map isNum).map V.bl))) ⟨Ex.new hD, upd_same⟩ (fun i H' _ c => Evl.ex_t c.1 hs) (fun i x H' H'' hi c y => ?_) (fun H2 c => ?_)⟩
        · obtain ⟨rfl, hx⟩ := y
          obtain ⟨d1, hd1, px⟩ := dpa_get ha hx
          refine ⟨rfl, _, rfl, x, d1, rfl, dp_ex c.1 px, _, c.2, ?_, Ex.mut c.1 hD, ?_⟩
          · rw [List.length_map, List.length_map, List.length_take]
            exact small1000 (by omega)
          · rw [upd_same, take_next hd1, List.map_append, List.map_append]
            rfl
        · rw [List.take_of_length_le (by omega)] at c
          refine ⟨D, _, rfl, .inl (.inl c.2), _, rfl, ?_⟩
          rw [List.all_map]
          cases hall : ds.all isNum with
          | false =>
            have e1 : ds.all (id ∘ isNum) = false := hall
            rw [e1]
            refine iteT ?_
            have e : rowD n (.tuple ds) = false := by
              have e2 : ds.all (fun d => isBelow d n) = false := by
                obtain ⟨d, hd, hx⟩ := List.all_eq_false.mp hall
                refine List.all_eq_false.mpr ⟨d, hd, fun z => hx (below_num z)⟩
              show (ds.all (fun d => isBelow d n) && _) = false
              rw [e2]
              rfl
            rw [← e]
            exact q _ c.1
          | true =>
            have e1 : ds.all (id ∘ isNum) = true := hall
            rw [e1]
            refine iteF ?_
            have en := nums_of ha fun d hd => List.all_eq_true.mp hall d hd
            have esp := row_split (n := n) hall
            generalize hms : ds.map numD = ms at en esp
            subst en
            have hml : ms.length = ds.length := by rw [← hms, List.length_map]
            refine ⟨_, rfl, a, ms, rfl, Evl.ex_t c.1 hs, by omega, fun m hm hmn => ?_⟩
            refine ⟨_, rfl, true, a, _, rfl, Evl.ex_t c.1 hs, rfl, decide (ms.Nodup), ?_, ?_⟩
            · rw [eq_bool, List.length_map]
              refine congrArg V.bl (decide_eq_decide.mpr ?_)
              rw [← hmn]
              omega
            · by_cases hnd : ms.Nodup
              · rw [decide_eq_true hnd] at esp ⊢
                refine ⟨_, rfl, true, a, _, rfl, Evl.ex_t c.1 hs, fun D2 hD2 => lc_it (walk_seqB (K := K) (b := true) (a := a) (xs := ms.map V.int)) (fun i H' => Ex H2 H' ∧ H' D2 = some (.lst (((ms.take i).map fun i => decide (0 ≤ i) && decide (i < n)).map V.bl))) ⟨Ex.new hD2, upd_same⟩ (fun i H' _ c' => Evl.ex_t (c.1.trans c'.1) hs) (fun i x H' H'' hi c' y => ?_) (fun H3 c' => ?_)⟩
                · obtain ⟨rfl, hx⟩ := y
                  rw [List.getElem?_map] at hx
                  obtain ⟨p, hp, rfl⟩ := Option.map_eq_some_iff.mp hx
                  have fin : ∃ acc, H'' D2 = some (.lst acc) ∧ acc.length < sizeLine ∧ Ex H2 (upd H'' D2 (.lst (acc ++ [V.bl (decide (0 ≤ p) && decide (p < n))]))) ∧ (upd H'' D2 (.lst (acc ++ [V.bl (decide (0 ≤ p) && decide (p < n))]))) D2 = some (.lst (((ms.take (i + 1)).map fun i => decide (0 ≤ i) && decide (i < n)).map V.bl)) := by
                    refine ⟨_, c'.2, ?_, Ex.mut c'.1 hD2, ?_⟩
                    · rw [List.length_map, List.length_map, List.length_take]
                      exact small1000 (by omega)
                    · rw [upd_same, take_next hp, List.map_append, List.map_append]
                      rfl
                  refine ⟨rfl, _, rfl, _, _, rfl, rfl, _, rfl, ?_⟩
                  by_cases h0 : 0 ≤ p
                  · rw [decide_eq_true h0] at fin ⊢
                    exact ⟨_, rfl, _, _, rfl, rfl, fin⟩
                  · rw [decide_eq_false h0] at fin ⊢
                    exact fin
                · rw [List.take_of_length_le (by rw [List.length_map]; exact Nat.le_refl _)] at c'
                  refine ⟨D2, _, rfl, .inl (.inl c'.2), ?_⟩
                  rw [List.all_map]
                  have e3 : rowD n (.tuple ds) = ms.all (id ∘ fun i => decide (0 ≤ i) && decide (i < n)) := by
                    rw [esp, Bool.true_and]
                    rfl
                  rw [← e3]
                  exact q _ (c.1.trans c'.1)
              · rw [decide_eq_false hnd] at esp ⊢
                rw [Bool.false_and] at esp
                have q2 := q _ c.1
                rw [esp] at q2
                exact iteF q2
end
end Og

namespace Og
open PySem PySem.Spec PyProof.Rows L2 OgR Evl OgM
/-- t[:m], a tuple's first items -/
def rPreT (K : PySem.W.Frag) : V → Option Int → Option Int → Hp → VK → Prop := fun x lo hi H Q => ∃ (a : Addr) (xs : List V) (m : Nat), x = .ref a ∧ lo = none ∧ hi = some (m : Int) ∧ SqT K H a xs ∧
  ∀ p H', Ex H H' → SqT K H' p (xs.take m) → Q (.ref p) H'
theorem cut_pre (xs : List V) (m : Nat) : cutV xs none (some (m : Int)) = xs.take m := by
  unfold cutV
  rw [HT.sIx_none, HT.sIx_nat]
  simp only [List.drop_zero, Nat.sub_zero]
  by_cases h : m ≤ xs.length
  · rw [Nat.min_eq_left h]
  · rw [Nat.min_eq_right (by omega), List.take_of_length_le (Nat.le_refl _), List.take_of_length_le (by omega)]
theorem sl_preT {X : Cx} : SlR X (rPreT X.K) := by
  intro pins s σ H x v vl vu lo hi sl Q I rx hs pl pu h
  obtain ⟨a, xs, m, rfl, rfl, rfl, hS, q⟩ := h
  refine sl_tupA pins s σ H _ v vl vu _ _ sl Q I rx hs pl pu ⟨a, xs, rfl, hS, fun z => ?_, fun _ p hp => ?_⟩
  · have z2 := z.2
    rw [HT.sIx_nat] at z2
    have := q a H (Ex.refl _)
    rw [List.take_of_length_le (by omega)] at this
    exact this hS
  · rw [cut_pre]
    exact q p _ (Ex.new hp) (.inl (.inl upd_same))
theorem ex_put {H : Hp} {d : Addr} {o o' : HO} (h : H d = none) : Ex H (upd (upd H d o) d o') := Ex.mut (Ex.new h) h
def wordV (c : Ch) : V := .str (wstr c.1)
def stepsK : List (Key × V) := [(.inl 1, .str (wstr .new)), (.inl 0, .str (wstr .beside)), (.inl (-1), .str (wstr .between))]
theorem steps_val (wd : Wd) : valV (mergeK [] stepsK) (Sum.inl wd.step) = some (.str (wstr wd)) := by cases wd <;> rfl
theorem steps_get {H : Hp} {d : Addr} {x : Int} {wd : Wd} (h : H d = some (.dK (mergeK [] stepsK))) (e : x = wd.step) : DGet H d (.int x) (some (.str (wstr wd))) := by
  subst e
  rw [← steps_val]
  exact DGet.k (k := Sum.inl wd.step) h
abbrev sSeen : Stmt := topS 18
theorem scSeen : FnScope ["_law_queue_here", "_law_counts", "_law_words", "_law_before", "_law_spot"] ["_law_queue_here"] (defScope sSeen) := ⟨rfl, rfl, rfl, by decide +kernel, rfl, by decide +kernel, by decide +kernel⟩
section
variable {P : Program} {w : World} {K : PySem.W.Frag} {mg : Str → Option Value} {base : Heap}
def spSeen (K : PySem.W.Frag) : Sp := fun vs H Q _ => ∃ (a : Addr) (ns : List Int), vs = [.ref a] ∧ SqT K H a (ns.map V.int) ∧ ns.Nodup ∧ ns.length ≤ 900 ∧
  ∀ H' t ca wa, Ex H H' → H' t = some (.tup [.ref ca, .ref wa]) → H' ca = some (.lst ((grp ns).map V.int)) → H' wa = some (.lst ((picks ns).map wordV)) → H ca = none → H wa = none → Q (.ref t) H'
theorem ok_seen {f fR : Addr} {fd fdR : FuncData} {k : Nat} (F : Fun K "_law_seen" "_law_seen" sSeen f fd) (FR : Fun K "_law_runs" "_law_runs" sRuns fR fdR) (bR : Binds K fdR ["_law_there"] []) (gR : mg "_law_runs" = some (.ref fR))
    (ms : mg "sorted" = none) (mr : mg "range" = none) (ml : mg "len" = none) : FnOk P w K mg base CX0 (k + 2) f fd ["_law_queue_here"] (spSeen K) := by
  have GR : FnOk P w K mg base CX0 (k + 1) fR fdR ["_law_there"] (spRuns K) := ok_runs FR ms
  refine F.ok scSeen (fun vs H Q E h => ?_) (fun cdv A outer s H vs Q E hr h => ?_)
  · obtain ⟨_, _, rfl, _⟩ := h
    rfl
  · obtain ⟨a, ns, rfl, hS, hnd, hlen, q⟩ := h
    have hu := hu_of hr
    refine ⟨_, pss_cons (ps_par3 (i := 1) (j := 2) (l := 3) (by rfl) scSeen.nd rfl rfl rfl (by decide) (by decide) (by decide) rfl rfl rfl (pa_cons (pe_lst pa_nil) (pa_cons (pe_lst pa_nil) (pa_cons pe_int pa_nil))) (by rfl))
      (pss_cons (ps_for PassesOwn.never rfl (pi_range1 rfl mr (pa_cons (pe_callB cr_lenB (by rfl) ml PySem.boot_len (pa_cons (pv 0) pa_nil)) pa_nil)) (pg_name (i := 4) scSeen.nd rfl (.inl rfl))
        (pss_cons (ps_expr (pe_bm PySem.F.plainAttrs_list PySem.F.slot_list_append PySem.F.type_list_append mt_append (pv 1) (pa_cons (pe_callB cr_lenB (by rfl) ml PySem.boot_len (pa_cons (pe_call GR hr (by rfl) gR FR.kp bR .nil pass0 (pa_cons (pe_slice sl_preT (pv 0) po_none (po_some (pe_op op_add (pv 4) pe_int))) pa_nil)) pa_nil)) pa_nil)))
        (pss_cons (ps_expr (pe_bm PySem.F.plainAttrs_list PySem.F.slot_list_append PySem.F.type_list_append mt_append (pv 2) (pa_cons
            (pe_dget hu (pe_disp (pps_cons pe_int pe_str (pps_cons pe_int pe_str (pps_cons (pe_un un_neg pe_int) pe_str pps_nil))) (by rfl) (by rfl) (fun z => by cases z) (by decide))
              (pe_op op_sub (pe_ix (ixL K) (pv 1) (pe_un un_neg pe_int) (fun _ _ => rfl)) (pv 3)) (fun _ _ => rfl)) pa_nil)))
        (pss_one (ps_set (i := 3) scSeen.nd rfl (.inl rfl) (pe_ix (ixL K) (pv 1) (pe_un un_neg pe_int) (fun _ _ => rfl)))))))
      (pss_one (ps_ret (pe_tup (pa_cons (pv 1) (pa_cons (pv 2) pa_nil)))))), ?_⟩
    refine ⟨Nat.zero_le _, fun ca hca => ⟨Nat.zero_le _, fun wa hwa => ⟨_, _, _, rfl, ?_⟩⟩⟩
    have x1 : Ex H (upd H ca (.lst [])) := Ex.new hca
    have x2 := x1.trans (Ex.new (o := .lst []) hwa)
    have hwa0 : H wa = none := fresh_back x1 hwa
    have ncw : ca ≠ wa := ne_of_none upd_same hwa
    refine ⟨_, rfl, true, a, _, rfl, Evl.ex_t x2 hS, (ns.length : Int), by rw [List.length_map], by omega, by omega, for_range (lo := 0) (n := ((ns.length : Nat) : Int).toNat)
      (fun i σ H3 => ∃ y4, σ = [some (.ref a), some (.ref ca), some (.ref wa), some (.int ((segs (ns.take i)).length : Nat)), y4] ∧ Ex H H3 ∧ H3 ca = some (.lst (((grp ns).take i).map V.int)) ∧ H3 wa = some (.lst (((picks ns).take i).map wordV))) ?_ ?_ ?_⟩
    · refine ⟨none, rfl, x2, ?_, upd_same⟩
      rw [upd_ne ncw, upd_same]
      rfl
    · rintro i σ H3 hi ⟨y4, rfl, e3, hc3, hw3⟩
      have hi' : i < ns.length := by omega
      have hp := List.getElem?_eq_getElem hi'
      have hst := segs_step hnd hp
      refine ⟨_, rfl, .inl ⟨rfl, _, .inl (.inl hc3)⟩, _, rfl, _, rfl, _, _, rfl, rfl, _, rfl, a, _, i + 1, rfl, rfl, ?_, Evl.ex_t e3 hS, fun b4 H4 e4 hb4 => ?_⟩
      · refine congrArg some ?_
        omega
      · rw [← List.map_take] at hb4
        have hnd' : (ns.take (i + 1)).Nodup := hnd.sublist (List.take_sublist _ _)
        refine ⟨true, b4, ns.take (i + 1), rfl, hb4, hnd', by rw [List.length_take]; omega, fun H5 rp e5 hLL => ?_⟩
        obtain ⟨qs, hq5, hpr, _⟩ := hLL.ex
        have hql : qs.length = (segs (ns.take (i + 1))).length := Paired.length hpr
        have e345 := e4.trans e5
        have hc5 := e345 _ _ hc3
        have hw5 := e345 _ _ hw3
        refine ⟨false, rp, _, rfl, .inl (.inl hq5), ca, _, _, rfl, rfl, hc5, ?_, ?_⟩
        · rw [List.length_map, List.length_take, grp_len]
          exact small1000 (by omega)
        have eL : (((grp ns).take i).map V.int) ++ [V.int (((qs.map V.ref).length : Nat) : Int)] = ((grp ns).take (i + 1)).map V.int := by
          rw [take_next (grp_get hi'), List.map_append, List.length_map, hql]
          rfl
        rw [eL]
        have hc6 : (upd H5 ca (.lst (((grp ns).take (i + 1)).map V.int))) ca = some (.lst (((grp ns).take (i + 1)).map V.int)) := upd_same
        have hw6 : (upd H5 ca (.lst (((grp ns).take (i + 1)).map V.int))) wa = some (.lst (((picks ns).take i).map wordV)) := by
          rw [upd_ne (Ne.symm ncw)]
          exact hw5
        have e6 : Ex H (upd H5 ca (.lst (((grp ns).take (i + 1)).map V.int))) := Ex.mut (e3.trans e345) hca
        generalize (upd H5 ca (.lst (((grp ns).take (i + 1)).map V.int))) = H6 at hc6 hw6 e6
        have hlast : atI (((grp ns).take (i + 1)).map V.int) (-1) = some (.int ((segs (ns.take (i + 1))).length : Nat)) := at_last_int (by
          rw [take_next (grp_get hi')]
          simp)
        refine ⟨_, rfl, .inl ⟨rfl, _, .inl (.inl hw6)⟩, fun d hd => ⟨_, rfl, ?_⟩⟩
        have x7 : Ex H6 (upd (upd H6 d (.dK [])) d (.dK (mergeK [] stepsK))) := ex_put hd
        refine ⟨upd_same, stepsK, rfl, by decide, ?_⟩
        have hd7 : (upd (upd H6 d (.dK [])) d (.dK (mergeK [] stepsK))) d = some (.dK (mergeK [] stepsK)) := upd_same
        generalize (upd (upd H6 d (.dK [])) d (.dK (mergeK [] stepsK))) = H7 at x7 hd7
        refine ⟨_, rfl, 1, rfl, ca, _, _, _, rfl, rfl, .inl (.inl (x7 _ _ hc6)), hlast, _, rfl, _, _, rfl, rfl, d, .str (wstr (pick ns[i] (segs (ns.take i))).1), rfl, ?_, wa, _, _, rfl, rfl, x7 _ _ hw6, ?_, ?_⟩
        · exact steps_get hd7 (by rw [hst, step_ix]; omega)
        · rw [List.length_map, List.length_take, picks_len]
          exact small1000 (by omega)
        · have hc8 : (upd H7 wa (.lst (((picks ns).take i).map wordV ++ [V.str (wstr (pick ns[i] (segs (ns.take i))).1)]))) ca = some (.lst (((grp ns).take (i + 1)).map V.int)) := by
            rw [upd_ne ncw]
            exact x7 _ _ hc6
          refine ⟨_, rfl, 1, rfl, ca, _, _, _, rfl, rfl, .inl (.inl hc8), hlast, some (.int (0 + i)), rfl, Ex.mut (e6.trans x7) hwa0, hc8, ?_⟩
          rw [upd_same, take_next (picks_get hp), List.map_append]
          rfl
    · rintro σ H3 ⟨y4, rfl, e3, hc3, hw3⟩
      rw [List.take_of_length_le (by rw [grp_len]; omega)] at hc3
      rw [List.take_of_length_le (by rw [picks_len]; omega)] at hw3
      refine ⟨_, rfl, _, rfl, (show 2 ≤ sizeLine by decide), fun t ht => ?_⟩
      have x5 : Ex H3 (upd H3 t (.tup [.ref ca, .ref wa])) := Ex.new ht
      exact q _ t ca wa (e3.trans x5) upd_same (x5 _ _ hc3) (x5 _ _ hw3) hca hwa0
end
end Og

namespace Og
open PySem PySem.Spec PyProof.Rows L2 OgR Evl OgM
/-- the heap without what stands at l -/
def off (l : Addr) (H : Hp) : Hp := fun b => if b = l then none else H b
theorem off_ne {l b : Addr} {H : Hp} (h : b ≠ l) : off l H b = H b := if_neg h
theorem off_same {l : Addr} {H : Hp} : off l H l = none := if_pos rfl
theorem off_ex {l : Addr} {H : Hp} : Ex (off l H) H := fun b o h => by
  unfold off at h
  split at h
  · cases h
  · exact h
theorem ExB.off {l : Addr} {H H' : Hp} (e : ExB l H H') : Ex (off l H) (off l H') := fun b o h => by
  by_cases hb : b = l
  · rw [hb, off_same] at h
    cases h
  · rw [off_ne hb] at h ⊢
    exact e b o hb h
/-- what of H' is new over H -/
def nw (H H' : Hp) : Hp := fun b => if (H b).isNone then H' b else none
theorem nw_new {H H' : Hp} {b : Addr} (h : H b = none) : nw H H' b = H' b := by
  unfold nw
  rw [h]
  rfl
theorem nw_sub {H H' : Hp} : Ex (nw H H') H' := fun b o h => by
  unfold nw at h
  split at h
  · exact h
  · cases h
theorem nw_mono {l : Addr} {H H' H'' : Hp} (hl : H l ≠ none) (e : ExB l H' H'') : Ex (nw H H') (nw H H'') := fun b o h => by
  unfold nw at h ⊢
  split at h
  · rename_i hb
    rw [if_pos hb]
    refine e b o (fun z => hl ?_) h
    rw [← z]
    exact Option.isNone_iff_eq_none.mp hb
  · cases h
theorem freshB {l b : Addr} {H H' : Hp} (e : ExB l H H') (hl : H' l ≠ none) (h : H' b = none) : H b = none := by
  cases q : H b with
  | none => rfl
  | some o =>
    by_cases z : b = l
    · rw [z] at h
      exact absurd h hl
    · rw [e b o z q] at h
      cases h
theorem nw_from {l : Addr} {H H1 H' : Hp} (e : ExB l H H1) (hl : H1 l ≠ none) : Ex (nw H1 H') (nw H H') := fun b o h => by
  unfold nw at h ⊢
  split at h
  · rename_i hb
    rw [if_pos (Option.isNone_iff_eq_none.mpr (freshB e hl (Option.isNone_iff_eq_none.mp hb)))]
    exact h
  · cases h
abbrev sBent : Stmt := topS 20
theorem scBent : FnScope ["_law_box_here", "_law_part", "_law_way", "_law_at", "_law_some", "_law_odd"] ["_law_box_here", "_law_part"] (defScope sBent) := ⟨rfl, rfl, rfl, by decide +kernel, rfl, by decide +kernel, by decide +kernel⟩
/-- what bent may answer to an int -/
def OddI (p : Int) (d : PyData) : Prop := d ∈ ([.none, .bool true, .bool false, .int (-1), .int 0, .int 1, .str "", .str "new", .tuple [], .list [], .tuple [.int 0], .list [.int 0], .tuple [.str "new", .int 0], .tuple [.int 0, .str "groups", .int 1], .int (10 ^ 30),
  .int (p + 1), .int (p - 1), .str (toString p)] : List PyData)
/-- what bent may answer to a tuple of ints -/
def OddT (ns : List Int) (d : PyData) : Prop := OddI 0 d ∨ d = .list (dInts ns) ∨ ∃ (ds : List PyData), d = .tuple ds ∧ ds.length ≤ ns.length + 1 ∧ ∀ x ∈ ds, (∃ p ∈ ns, x = .int p ∨ OddI p x)
def spBent (K : PySem.W.Frag) (C : V → (PyData → Prop) → Hp → Prop) (B D : Int) : Sp := fun vs H Q _ => ∃ (l : Addr) (c : Int) (v : V) (O : PyData → Prop), vs = [.ref l, v] ∧ BoxAt H l c ∧ c < B ∧ C v O H ∧
  ∀ x d H' c', O d → Dp K (nw H H') x d → BoxAt H' l c' → c' ≤ c + D → ExB l H H' → Q x H'
def bNo : V → (PyData → Prop) → Hp → Prop := fun _ _ _ => False
def bInt : V → (PyData → Prop) → Hp → Prop := fun v O _ => ∃ p : Int, v = .int p ∧ 0 ≤ p ∧ p ≤ 1000 ∧ O = OddI p
def bTup (K : PySem.W.Frag) : V → (PyData → Prop) → Hp → Prop := fun v O H => ∃ (a : Addr) (ns : List Int), v = .ref a ∧ SqT K H a (ns.map V.int) ∧ ns.length ≤ 100 ∧ (∀ p ∈ ns, 0 ≤ p ∧ p ≤ 1000) ∧ O = OddT ns
def ods : List PyData := [.none, .bool true, .bool false, .int (-1), .int 0, .int 1, .str "", .str "new", .tuple [], .list [], .tuple [.int 0], .list [.int 0], .tuple [.str "new", .int 0], .tuple [.int 0, .str "groups", .int 1], .int (10 ^ 30)]
def odv (t1 t2 t3 t4 t5 t6 : Addr) : List V := [.non, .bl true, .bl false, .int (-1), .int 0, .int 1, .str "", .str "new", .ref t1, .ref t2, .ref t3, .ref t4, .ref t5, .ref t6, .int (10 ^ 30)]
def odx (t1 t2 t3 t4 t5 t6 : Addr) (p : Int) : List V := odv t1 t2 t3 t4 t5 t6 ++ [.int (p + 1), .int (p - 1), .int (p + 1), .str (toString p)]
theorem odx_len {t1 t2 t3 t4 t5 t6 : Addr} {p : Int} : (odx t1 t2 t3 t4 t5 t6 p).length = 19 := rfl
theorem odv_len {t1 t2 t3 t4 t5 t6 : Addr} : (odv t1 t2 t3 t4 t5 t6).length = 15 := rfl
def OdAt (H : Hp) (t1 t2 t3 t4 t5 t6 : Addr) : Prop := H t1 = some (.tup []) ∧ H t2 = some (.lst []) ∧ H t3 = some (.tup [.int 0]) ∧ H t4 = some (.lst [.int 0]) ∧ H t5 = some (.tup [.str "new", .int 0]) ∧ H t6 = some (.tup [.int 0, .str "groups", .int 1])
theorem od_dp {K : PySem.W.Frag} {H : Hp} {t1 t2 t3 t4 t5 t6 : Addr} (h : OdAt H t1 t2 t3 t4 t5 t6) : DpAll K H (odv t1 t2 t3 t4 t5 t6) ods := by
  obtain ⟨h1, h2, h3, h4, h5, h6⟩ := h
  exact .cons .non (.cons (.bl _) (.cons (.bl _) (.cons (.int _) (.cons (.int _) (.cons (.int _) (.cons (.str _) (.cons (.str _) (.cons (.tup (.inl (.inl h1)) .nil) (.cons (.lst (.inl (.inl h2)) .nil)
    (.cons (.tup (.inl (.inl h3)) (.cons (.int _) .nil)) (.cons (.lst (.inl (.inl h4)) (.cons (.int _) .nil)) (.cons (.tup (.inl (.inl h5)) (.cons (.str _) (.cons (.int _) .nil))) (.cons (.tup (.inl (.inl h6)) (.cons (.int _) (.cons (.str _) (.cons (.int _) .nil)))) (.cons (.int _) .nil))))))))))))))
def OdNew (H : Hp) (t1 t2 t3 t4 t5 t6 : Addr) : Prop := H t1 = none ∧ H t2 = none ∧ H t3 = none ∧ H t4 = none ∧ H t5 = none ∧ H t6 = none
theorem od_nw {H0 H H' : Hp} {l t1 t2 t3 t4 t5 t6 : Addr} (h : OdAt H t1 t2 t3 t4 t5 t6) (n : OdNew H0 t1 t2 t3 t4 t5 t6) (hl : H0 l ≠ none) (e : ExB l H H') : OdAt (nw H0 H') t1 t2 t3 t4 t5 t6 := by
  have go : ∀ {t : Addr} {o : HO}, H0 t = none → H t = some o → nw H0 H' t = some o := fun {t o} nt ht => by
    rw [nw_new nt]
    exact e t o (fun z => hl (z ▸ nt)) ht
  obtain ⟨h1, h2, h3, h4, h5, h6⟩ := h
  obtain ⟨n1, n2, n3, n4, n5, n6⟩ := n
  exact ⟨go n1 h1, go n2 h2, go n3 h3, go n4 h4, go n5 h5, go n6 h6⟩
theorem odnew_back {l : Addr} {H H' : Hp} {t1 t2 t3 t4 t5 t6 : Addr} (n : OdNew H' t1 t2 t3 t4 t5 t6) (e : ExB l H H') (hl : H' l ≠ none) : OdNew H t1 t2 t3 t4 t5 t6 := by
  obtain ⟨n1, n2, n3, n4, n5, n6⟩ := n
  exact ⟨freshB e hl n1, freshB e hl n2, freshB e hl n3, freshB e hl n4, freshB e hl n5, freshB e hl n6⟩
theorem od_ex {H H' : Hp} {t1 t2 t3 t4 t5 t6 : Addr} (h : OdAt H t1 t2 t3 t4 t5 t6) (e : Ex H H') : OdAt H' t1 t2 t3 t4 t5 t6 := by
  obtain ⟨h1, h2, h3, h4, h5, h6⟩ := h
  exact ⟨e _ _ h1, e _ _ h2, e _ _ h3, e _ _ h4, e _ _ h5, e _ _ h6⟩
theorem lg_small {p : Int} (h0 : 0 ≤ p) (h1 : p ≤ 1000) : p.natAbs.log2 < 1920 := by
  have := Nat.log2_le_self p.natAbs
  omega
theorem some_ne {α : Type} {x : Option α} {y : α} (h : x = some y) : x ≠ none := by
  rw [h]
  exact Option.some_ne_none _
theorem odd_of {d : PyData} {p : Int} (h : d ∈ ods) : OddI p d := by
  show d ∈ ods ++ [.int (p + 1), .int (p - 1), .str (toString p)]
  exact List.mem_append_left _ h
theorem odd_more {d : PyData} {p : Int} (h : d ∈ ods ++ [.int (p + 1), .int (p - 1), .int (p + 1), .str (toString p)]) : OddI p d := by
  rcases List.mem_append.mp h with h | h
  · exact odd_of h
  · show d ∈ ods ++ [.int (p + 1), .int (p - 1), .str (toString p)]
    refine List.mem_append_right _ ?_
    simp only [List.mem_cons, List.not_mem_nil, or_false] at h ⊢
    rcases h with h | h | h | h
    · exact .inl h
    · exact .inr (.inl h)
    · exact .inl h
    · exact .inr (.inr h)
theorem dpa_app {K : PySem.W.Frag} {H : Hp} : ∀ {xs ys : List V} {ds es : List PyData}, DpAll K H xs ds → DpAll K H ys es → DpAll K H (xs ++ ys) (ds ++ es)
  | _, _, _, _, .nil, h => h
  | _, _, _, _, .cons a b, h => .cons a (dpa_app b h)
theorem od_new {H H1 H2 H3 H4 H5 H6 : Hp} {t1 t2 t3 t4 t5 t6 : Addr} (n1 : H t1 = none) (e1 : H1 = upd H t1 (.tup [])) (n2 : H1 t2 = none) (e2 : H2 = upd H1 t2 (.lst [])) (n3 : H2 t3 = none) (e3 : H3 = upd H2 t3 (.tup [.int 0]))
    (n4 : H3 t4 = none) (e4 : H4 = upd H3 t4 (.lst [.int 0])) (n5 : H4 t5 = none) (e5 : H5 = upd H4 t5 (.tup [.str "new", .int 0])) (n6 : H5 t6 = none) (e6 : H6 = upd H5 t6 (.tup [.int 0, .str "groups", .int 1])) :
    Ex H H6 ∧ OdAt H6 t1 t2 t3 t4 t5 t6 ∧ OdNew H t1 t2 t3 t4 t5 t6 := by
  have a6 : Ex H5 H6 := by rw [e6]; exact Ex.new n6
  have a5 : Ex H4 H5 := by rw [e5]; exact Ex.new n5
  have a4 : Ex H3 H4 := by rw [e4]; exact Ex.new n4
  have a3 : Ex H2 H3 := by rw [e3]; exact Ex.new n3
  have a2 : Ex H1 H2 := by rw [e2]; exact Ex.new n2
  have a1 : Ex H H1 := by rw [e1]; exact Ex.new n1
  have b5 := a5.trans a6
  have b4 := a4.trans b5
  have b3 := a3.trans b4
  have b2 := a2.trans b3
  have c2 := a1.trans a2
  have c3 := c2.trans a3
  have c4 := c3.trans a4
  have c5 := c4.trans a5
  refine ⟨a1.trans b2, ?_, n1, fresh_back a1 n2, fresh_back c2 n3, fresh_back c3 n4, fresh_back c4 n5, fresh_back c5 n6⟩
  exact ⟨b2 _ _ (by rw [e1]; exact upd_same), b3 _ _ (by rw [e2]; exact upd_same), b4 _ _ (by rw [e3]; exact upd_same), b5 _ _ (by rw [e4]; exact upd_same), a6 _ _ (by rw [e5]; exact upd_same), by rw [e6]; exact upd_same⟩
theorem keepT {K : PySem.W.Frag} {l a : Addr} {H H' : Hp} {xs : List V} (h : SqT K H a xs) (hl : ∃ ys, H l = some (.lst ys)) (e : ExB l H H') : SqT K H' a xs := by
  obtain ⟨ys, hl⟩ := hl
  rcases h with (h | ⟨o, h⟩) | h
  · exact .inl (.inl (e _ _ (fun z => by rw [z, hl] at h; cases h) h))
  · exact .inl (.inr ⟨o, e _ _ (fun z => by rw [z, hl] at h; cases h) h⟩)
  · exact .inr h
theorem dpa_ints {K : PySem.W.Frag} {H : Hp} : ∀ ns : List Int, DpAll K H (ns.map V.int) (dInts ns)
  | [] => .nil
  | n :: r => .cons (.int n) (dpa_ints r)
theorem BoxAt.three {H : Hp} {l : Addr} {c : Int} (h : BoxAt H l c) : ∃ xs, H l = some (.lst xs) ∧ xs.length = 3 := by
  obtain ⟨a, b, h1, _⟩ := h
  exact ⟨_, h1, rfl⟩
theorem oddT_ints {ns ms : List Int} (hl : ms.length ≤ ns.length + 1) (h : ∀ m ∈ ms, m ∈ ns) : OddT ns (.tuple (dInts ms)) :=
  .inr (.inr ⟨dInts ms, rfl, by unfold dInts; rw [List.length_map]; exact hl, fun x hx => by
    obtain ⟨p, hp, rfl⟩ := List.mem_map.mp hx
    exact ⟨p, h p hp, .inl rfl⟩⟩)
theorem dpa_set {K : PySem.W.Frag} {H : Hp} {x : V} {d : PyData} (hx : Dp K H x d) : ∀ {xs : List V} {ds : List PyData} (j : Nat), DpAll K H xs ds → DpAll K H (xs.set j x) (ds.set j d)
  | _, _, _, .nil => .nil
  | _, _, 0, .cons _ t => .cons hx t
  | _, _, j + 1, .cons h t => .cons h (dpa_set hx j t)
theorem oddT_set {ns : List Int} {j : Nat} {p : Int} {d : PyData} (hp : p ∈ ns) (h : OddI p d) : OddT ns (.tuple ((dInts ns).set j d)) :=
  .inr (.inr ⟨_, rfl, by unfold dInts; rw [List.length_set, List.length_map]; omega, fun x hx => by
    rcases List.mem_or_eq_of_mem_set hx with hx | rfl
    · obtain ⟨q, hq, rfl⟩ := List.mem_map.mp hx
      exact ⟨q, hq, .inl rfl⟩
    · exact ⟨p, hp, .inr h⟩⟩)
theorem ix_at {n : Nat} {i : Int} (h0 : 0 ≤ i) (h1 : i < n) : ixN n i = some i.toNat := by
  unfold ixN
  rw [if_pos h0, if_pos h1]
theorem seq_at {n : Nat} {i : Int} (h0 : 0 ≤ i) (h1 : i < n) : seqIndex? i n = some i.toNat := (ixN_seq (ix_at h0 h1)).1
section
variable {P : Program} {w : World} {K : PySem.W.Frag} {mg : Str → Option Value} {base : Heap}
theorem bent_no {f : Addr} {fd : FuncData} {k : Nat} {B D : Int} : FnOk P w K mg base CX0 k f fd ["_law_box_here", "_law_part"] (spBent K bNo B D) :=
  ⟨fun vs H Q E h => by obtain ⟨_, _, _, _, _, _, _, z, _⟩ := h; exact z.elim, fun A outer s H args us vs Q E hr he hb hv h => by obtain ⟨_, _, _, _, _, _, _, z, _⟩ := h; exact z.elim⟩
theorem bent_step {f fT fO : Addr} {fd fdT fdO : FuncData} {m : Nat} {C C' : V → (PyData → Prop) → Hp → Prop} {B D D' : Int} (hBn : B ≤ 999900) (hD2 : 2 ≤ D') (F : Fun K "_law_bent" "_law_bent" sBent f fd) (bF : Binds K fd ["_law_box_here", "_law_part"] []) (gF : mg "_law_bent" = some (.ref f))
    (FT : Fun K "_law_take" "_law_take" sTake fT fdT) (bT : Binds K fdT ["_law_box_here", "_law_below"] []) (gT : mg "_law_take" = some (.ref fT))
    (FO : Fun K "_law_of" "_law_of" sOf fO fdO) (bO : Binds K fdO ["_law_box_here", "_law_some"] []) (gO : mg "_law_of" = some (.ref fO))
    (ml : mg "len" = none) (mli : mg "list" = none) (mt : mg "tuple" = none) (mI : mg "isinstance" = none) (mi : mg "int" = none) (mb : mg "bool" = none) (mst : mg "str" = none)
    (GB : FnOk P w K mg base CX0 (m + 2) f fd ["_law_box_here", "_law_part"] (spBent K C (B + 10) D)) (hC : (C' = bInt ∧ C = bNo) ∨ (C' = bTup K ∧ C = bInt ∧ D + 2 ≤ D')) : FnOk P w K mg base CX0 (m + 3) f fd ["_law_box_here", "_law_part"] (spBent K C' B D') := by
  have GT : FnOk P w K mg base CX0 1 fT fdT ["_law_box_here", "_law_below"] spTake := ok_take FT
  have GO : FnOk P w K mg base CX0 2 fO fdO ["_law_box_here", "_law_some"] (spOf K) := ok_of FO FT bT gT ml
  refine F.ok scBent (fun vs H Q E h => ?_) (fun cdv A outer s H vs Q E hr h => ?_)
  · obtain ⟨_, _, _, _, rfl, _⟩ := h
    rfl
  · obtain ⟨l, c, v, O, rfl, hB, hc, hv, q⟩ := h
    have hr1 := hr.mono (show 1 ≤ m + 2 by omega)
    have hr2 := hr.mono (show 2 ≤ m + 2 by omega)
    refine ⟨_, pss_cons (ps_set (i := 2) scBent.nd rfl (.inl rfl) (pe_call GT hr1 (by rfl) gT FT.kp bT .nil pass0 (pa_cons (pv 0) (pa_cons pe_int pa_nil))))
      (pss_cons (ps_if (PW.pt (pw_and (pt_val (pe_callB call_isiT (by rfl) mI (by decide +kernel) (pa_cons (pv 1) (pa_cons (pe_tup (pa_cons (pe_bltn (v := .ty "tuple") (by rfl) mt (by decide +kernel) rfl) (pa_cons (pe_bltn (v := .ty "list") (by rfl) mli (by decide +kernel) rfl) pa_nil))) pa_nil))))
            (pw_and (pt_cmpR op_gt (pe_callB cr_lenB (by rfl) ml PySem.boot_len (pa_cons (pv 1) pa_nil)) pe_int (nomark _)) (pw_and1 (pt_cmpR op_gt (pv 2) pe_int (nomark _))))))
          (pss_cons (ps_par (i := 3) (j := 4) (by rfl) scBent.nd rfl rfl (by decide) rfl rfl (pa_cons (pe_call GT hr1 (by rfl) gT FT.kp bT .nil pass0 (pa_cons (pv 0) (pa_cons (pe_callB cr_lenB (by rfl) ml PySem.boot_len (pa_cons (pv 1) pa_nil)) pa_nil))) (pa_cons (pe_callTy call_list_of (by rfl) mli (by decide +kernel) (pa_cons (pv 1) pa_nil)) pa_nil)) (by rfl))
          (pss_cons (ps_if (pt_cmpR op_eq (pv 2) pe_int (nomark _)) (pss_one (ps_expr (pe_bm PySem.F.plainAttrs_list PySem.F.slot_list_pop PySem.F.type_list_pop mt_popAt (pv 4) (pa_cons (pv 3) pa_nil))))
            (pss_one (ps_if (pt_cmpR op_eq (pv 2) pe_int (nomark _)) (pss_one (ps_expr (pe_bm PySem.F.plainAttrs_list PySem.F.slot_list_insert PySem.F.type_list_insert mt_insert (pv 4) (pa_cons (pv 3) (pa_cons (pe_ix (ixL K) (pv 4) (pv 3) (fun _ _ => rfl)) pa_nil)))))
              (pss_one (ps_asg (pe_call GB hr (by rfl) gF F.kp bF .nil pass0 (pa_cons (pv 0) (pa_cons (pe_ix (ixL K) (pv 4) (pv 3) (fun _ _ => rfl)) pa_nil))) (pg_sub (pv 4) (pv 3) set_list))))))
          (pss_one (ps_ret (pe_ifExp (pt_val (pe_callB call_isi (by rfl) mI (by decide +kernel) (pa_cons (pv 1) (pa_cons (pe_bltn (v := .ty "tuple") (by rfl) mt (by decide +kernel) rfl) pa_nil)))) (pe_callTy call_tuple_of (by rfl) mt (by decide +kernel) (pa_cons (pv 4) pa_nil)) (pv 4)))))) pss_nil)
      (pss_cons (ps_if (PW.pt (pw_and (pt_cmpR op_eq (pv 2) pe_int (nomark _)) (pw_and1 (pt_val (pe_callB call_isiT (by rfl) mI (by decide +kernel) (pa_cons (pv 1) (pa_cons (pe_tup (pa_cons (pe_bltn (v := .ty "tuple") (by rfl) mt (by decide +kernel) rfl) (pa_cons (pe_bltn (v := .ty "list") (by rfl) mli (by decide +kernel) rfl) pa_nil))) pa_nil)))))))
          (pss_one (ps_ret (pe_ifExp (pt_val (pe_callB call_isi (by rfl) mI (by decide +kernel) (pa_cons (pv 1) (pa_cons (pe_bltn (v := .ty "tuple") (by rfl) mt (by decide +kernel) rfl) pa_nil)))) (pe_callTy call_list_of (by rfl) mli (by decide +kernel) (pa_cons (pv 1) pa_nil)) (pe_callTy call_tuple_of (by rfl) mt (by decide +kernel) (pa_cons (pv 1) pa_nil))))) pss_nil)
      (pss_cons (ps_set (i := 5) scBent.nd rfl (.inl rfl) (pe_lst (pa_cons pe_non (pa_cons pe_bl (pa_cons pe_bl (pa_cons (pe_un un_neg pe_int) (pa_cons pe_int (pa_cons pe_int (pa_cons pe_str (pa_cons pe_str (pa_cons (pe_tup pa_nil) (pa_cons (pe_lst pa_nil) (pa_cons (pe_tup (pa_cons pe_int pa_nil)) (pa_cons (pe_lst (pa_cons pe_int pa_nil))
            (pa_cons (pe_tup (pa_cons pe_str (pa_cons pe_int pa_nil))) (pa_cons (pe_tup (pa_cons pe_int (pa_cons pe_str (pa_cons pe_int pa_nil)))) (pa_cons (pe_op op_pow pe_int pe_int) pa_nil)))))))))))))))))
      (pss_cons (ps_if (PW.pt (pw_and (pt_val (pe_callB call_isi (by rfl) mI (by decide +kernel) (pa_cons (pv 1) (pa_cons (pe_bltn (v := .ty "int") (by rfl) mi (by decide +kernel) rfl) pa_nil)))) (pw_and1 (pt_not (pt_val (pe_callB call_isi (by rfl) mI (by decide +kernel) (pa_cons (pv 1) (pa_cons (pe_bltn (v := .ty "bool") (by rfl) mb (by decide +kernel) rfl) pa_nil))))))))
          (pss_one (ps_set (i := 5) scBent.nd rfl (.inl rfl) (pe_op op_cat (pv 5) (pe_lst (pa_cons (pe_op op_add (pv 1) pe_int) (pa_cons (pe_op op_sub (pv 1) pe_int) (pa_cons (pe_op op_add (pv 1) pe_int) (pa_cons (pe_callTy call_str_int (by rfl) mst (by decide +kernel) (pa_cons (pv 1) pa_nil)) pa_nil)))))))) pss_nil)
      (pss_one (ps_ret (pe_call GO hr2 (by rfl) gO FO.kp bO .nil pass0 (pa_cons (pv 0) (pa_cons (pv 5) pa_nil))))))))), ?_⟩
    refine ⟨_, rfl, l, c, 6, rfl, hB, by decide, by decide, by omega, fun way xs c1 h0 h6 hB1 hc1 => ?_⟩
    have eb1 : ExB l H (upd H l (.lst xs)) := .box
    have hI1 : C' = bInt → ∃ p : Int, v = .int p ∧ 0 ≤ p ∧ p ≤ 1000 ∧ O = OddI p := fun e => by rw [e] at hv; exact hv
    have hT1 : C' = bTup K → ∃ (a : Addr) (ns : List Int), v = .ref a ∧ SqT K (upd H l (.lst xs)) a (ns.map V.int) ∧ ns.length ≤ 100 ∧ (∀ p ∈ ns, 0 ≤ p ∧ p ≤ 1000) ∧ O = OddT ns := fun e => by
      rw [e] at hv
      obtain ⟨a, ns, h1, h2, h3, h4, h5⟩ := hv
      exact ⟨a, ns, h1, keepT h2 hB.at .box, h3, h4, h5⟩
    generalize upd H l (.lst xs) = H1 at hB1 eb1 hT1
    rcases hC with ⟨e1, e2⟩ | ⟨e1, e2, hDD⟩
    · obtain ⟨p, rfl, hp0, hp1, rfl⟩ := hI1 e1
      refine ⟨_, rfl, (show 2 ≤ sizeLine by decide), fun T hT => ?_⟩
      have kT : kitB "int" "tuple" = some false := by decide +kernel
      have kL : kitB "int" "list" = some false := by decide +kernel
      have kI : kitB "int" "int" = some true := by decide +kernel
      have kB : kitB "int" "bool" = some false := by decide +kernel
      refine ⟨_, T, _, _, [.type "tuple", .type "list"], false || false, rfl, upd_same, .cons (.ty _) (.cons (.ty _) .nil), .base (.int p), kit2 kT kL, _, rfl, iteF ?_⟩
      have x1 : Ex H1 (upd H1 T (.tup [.ty "tuple", .ty "list"])) := Ex.new hT
      generalize upd H1 T (.tup [.ty "tuple", .ty "list"]) = H2 at x1
      refine iteF ?_
      refine ⟨_, rfl, rfl, _, rfl, ite2 (fun _ => ⟨_, rfl, (show 2 ≤ sizeLine by decide), fun T2 hT2 => ⟨_, T2, _, _, [.type "tuple", .type "list"], false || false, rfl, upd_same, .cons (.ty _) (.cons (.ty _) .nil), .base (.int p), kit2 kT kL, _, rfl, ?_⟩⟩) (fun _ => ?_)⟩
      have x2 := x1.trans (Ex.new (o := .tup [.ty "tuple", .ty "list"]) hT2)
      all_goals refine iteF ?_
      all_goals refine ⟨1, rfl, Nat.zero_le _, fun t1 n1 => ⟨Nat.zero_le _, fun t2 n2 => ⟨(show 1 ≤ sizeLine by decide), fun t3 n3 => ⟨(show 1 ≤ sizeLine by decide), fun t4 n4 => ⟨(show 2 ≤ sizeLine by decide), fun t5 n5 => ⟨(show 3 ≤ sizeLine by decide), fun t6 n6 => ⟨10, 30, rfl, rfl, ?_, (show 15 ≤ sizeLine by decide), fun od hod => ?_⟩⟩⟩⟩⟩⟩⟩
      all_goals first | (refine ⟨by decide, by decide, by decide⟩; done) | skip
      all_goals have hOd := od_new n1 rfl n2 rfl n3 rfl n4 rfl n5 rfl n6 rfl
      all_goals first | (have x3 := x2.trans hOd.1) | (have x3 := x1.trans hOd.1)
      all_goals have hO6 := hOd.2.1
      all_goals first | (have hN0 := odnew_back hOd.2.2 (eb1.trans (ExB.of x2)) (some_ne (x2 _ _ hB1.at.choose_spec))) | (have hN0 := odnew_back hOd.2.2 (eb1.trans (ExB.of x1)) (some_ne (x1 _ _ hB1.at.choose_spec)))
      all_goals clear hOd
      all_goals generalize (upd (upd (upd (upd (upd (upd _ t1 _) t2 _) t3 _) t4 _) t5 _) t6 _) = H6 at x3 hO6 hod ⊢
      all_goals have x4 := x3.trans (Ex.new (o := .lst (odv t1 t2 t3 t4 t5 t6)) hod)
      all_goals refine ⟨_, rfl, .int p, _, _, _, true, rfl, .ty _, .base (.int p), kit_ty kI, _, rfl, iteT ⟨_, rfl, .int p, _, _, _, false, rfl, .ty _, .base (.int p), kit_ty kB, _, rfl, iteT ?_⟩⟩
      all_goals refine ⟨_, rfl, _, rfl, _, _, rfl, rfl, _, rfl, _, _, rfl, rfl, _, rfl, _, _, rfl, rfl, _, rfl, p, rfl, ?_, (show 4 ≤ sizeLine by decide), fun t7 n7 => ?_⟩
      all_goals first | exact lg_small hp0 hp1 | skip
      all_goals have x5 := x4.trans (Ex.new (o := .lst [.int (p + 1), .int (p - 1), .int (p + 1), .str (toString p)]) n7)
      all_goals refine ⟨od, t7, odv t1 t2 t3 t4 t5 t6, [.int (p + 1), .int (p - 1), .int (p + 1), .str (toString p)], rfl, rfl, Ex.new (o := .lst [.int (p + 1), .int (p - 1), .int (p + 1), .str (toString p)]) n7 _ _ upd_same, upd_same, (show 19 ≤ sizeLine by decide), fun r nr => ?_⟩
      all_goals have x6 := x5.trans (Ex.new (o := .lst (odx t1 t2 t3 t4 t5 t6 p)) nr)
      all_goals have hO9 := od_ex hO6 (((Ex.new (o := .lst (odv t1 t2 t3 t4 t5 t6)) hod).trans (Ex.new (o := .lst [.int (p + 1), .int (p - 1), .int (p + 1), .str (toString p)]) n7)).trans (Ex.new (o := .lst (odx t1 t2 t3 t4 t5 t6 p)) nr))
      all_goals have hlr : l ≠ r := ne_of_none (x5 _ _ hB1.at.choose_spec) nr
      all_goals refine ⟨_, rfl, _, rfl, l, r, c1, false, odx t1 t2 t3 t4 t5 t6 p, rfl, hB1.ex x6, hlr, .inl (.inl upd_same), by rw [odx_len]; decide, by rw [odx_len]; decide, by omega, fun i x ys c' hx hB' hc' => ?_⟩
      all_goals have hD := dpa_app (od_dp (K := K) (od_nw (l := l) hO9 hN0 (some_ne hB.at.choose_spec) (ExB.box (o := .lst ys)))) (.cons (.int (p + 1)) (.cons (.int (p - 1)) (.cons (.int (p + 1)) (.cons (.str (toString p)) .nil))))
      all_goals obtain ⟨d, hd1, hd2⟩ := dpa_get hD hx
      all_goals exact q x d _ c' (odd_more (List.mem_of_getElem? hd1)) hd2 hB' (by omega) ((eb1.trans (ExB.of x6)).trans .box)
    · obtain ⟨a, ns, rfl, hS, hnl, hnp, rfl⟩ := hT1 e1
      have kT : kitB "tuple" "tuple" = some true := by decide +kernel
      have kL : kitB "tuple" "list" = some false := by decide +kernel
      have kI : kitB "tuple" "int" = some false := by decide +kernel
      refine ⟨_, rfl, (show 2 ≤ sizeLine by decide), fun T hT => ?_⟩
      have x1 : Ex H1 (upd H1 T (.tup [.ty "tuple", .ty "list"])) := Ex.new hT
      refine ⟨_, T, _, _, [.type "tuple", .type "list"], true || false, rfl, upd_same, .cons (.ty _) (.cons (.ty _) .nil), tyx_T (Evl.ex_t x1 hS), kit2 kT kL, _, rfl, iteT ?_⟩
      generalize upd H1 T (.tup [.ty "tuple", .ty "list"]) = H2 at x1
      have hS2 := Evl.ex_t x1 hS
      have hB2 := hB1.ex x1
      refine ⟨_, rfl, true, a, _, rfl, hS2, _, _, rfl, rfl, _, rfl, ite2 (fun hpos => ⟨_, rfl, _, _, rfl, rfl, _, rfl, ite2 (fun hway => ?main) (fun hway => ?r1)⟩) (fun hneg => iteF ?r2)⟩
      case main =>
        have hlen : (((ns.map V.int).length : Nat) : Int) = (ns.length : Int) := by rw [List.length_map]
        have hpos' : 0 < (ns.length : Int) := by
          have := of_decide_eq_true hpos
          omega
        refine ⟨_, rfl, _, rfl, true, a, _, rfl, hS2, l, c1, _, rfl, hB2, by omega, by omega, by omega, fun at_ ys c2 a0 a1 hB3 hc2 => ?_⟩
        have hS3 := keepT hS2 hB2.at (ExB.box (o := .lst ys))
        have eb3 : ExB l H (upd H2 l (.lst ys)) := (eb1.trans (ExB.of x1)).trans .box
        generalize upd H2 l (.lst ys) = H3 at hB3 hS3 eb3
        refine ⟨_, rfl, a, _, rfl, .inr hS3, fun so nso => ⟨_, _, rfl, ?_⟩⟩
        have x4 : Ex H3 (upd H3 so (.lst (ns.map V.int))) := Ex.new nso
        have hso : (upd H3 so (.lst (ns.map V.int))) so = some (.lst (ns.map V.int)) := upd_same
        have hsl : so ≠ l := Ne.symm (ne_of_none hB3.at.choose_spec nso)
        have nso0 : H so = none := freshB eb3 (some_ne hB3.at.choose_spec) nso
        generalize upd H3 so (.lst (ns.map V.int)) = H4 at x4 hso
        have hB4 := hB3.ex x4
        have hS4 := Evl.ex_t x4 hS3
        have eb4 := eb3.trans (ExB.of x4)
        have hlt : at_.toNat < ns.length := by omega
        have hget : (ns.map V.int)[at_.toNat]? = some (.int ns[at_.toNat]) := by
          rw [List.getElem?_map, List.getElem?_eq_getElem hlt]
          rfl
        have hatI : atI (ns.map V.int) at_ = some (.int ns[at_.toNat]) := by
          unfold atI
          rw [ix_at a0 (by rw [hlen]; omega)]
          exact hget
        have fin : ∀ (H5 : Hp) (xs' : List V) (ds : List PyData) (c5 : Int), ExB l H H5 → BoxAt H5 l c5 → c5 ≤ c + D' → SqT K H5 a (ns.map V.int) → H5 so = some (.lst xs') → DpAll K (nw H H5) xs' ds → OddT ns (.tuple ds) →
            (tIf (tB (tCB (rIsi K) (tCons (tVar 1) (tCons (tC (V.ty "tuple")) tNil)))) (tCB (fun xs H_1 Q => ∃ p ys, xs = [V.ref p] ∧ (SqL K H_1 p ys ∧ (∀ (l : Addr), H_1 l = none → Q (V.ref l) (upd H_1 l (HO.tup ys))) ∨ SqT K H_1 p ys ∧ Q (V.ref p) H_1)) (tCons (tVar 4) tNil)) (tVar 4))
              [some (.ref l), some (.ref a), some (.int way), some (.int at_), some (.ref so), none] H5 Q := fun H5 xs' ds c5 eb5 hB5 hc5 hS5 hso5 hd5 ho5 => by
          refine ⟨_, rfl, .ref a, _, _, _, true, rfl, .ty _, tyx_T hS5, kit_ty kT, _, rfl, iteT ⟨_, rfl, so, _, rfl, .inl ⟨.inl (.inl hso5), fun r nr => ?_⟩⟩⟩
          have x6 : Ex H5 (upd H5 r (.tup xs')) := Ex.new nr
          have nr0 : H r = none := freshB eb5 (some_ne hB5.at.choose_spec) nr
          have y6 := nw_mono (H := H) (some_ne hB.at.choose_spec) (ExB.of (l := l) x6)
          refine q (.ref r) (.tuple ds) _ c5 ho5 (.tup (.inl (.inl ?_)) (dpa_ex y6 hd5)) (hB5.ex x6) hc5 (eb5.trans (ExB.of x6))
          rw [nw_new nr0]
          exact upd_same
        refine ⟨_, rfl, rfl, _, rfl, ite2 (fun w2 => ?_) (fun _ => ⟨_, rfl, rfl, _, rfl, ite2 (fun w3 => ?_) (fun _ => ?_)⟩)⟩
        · -- pop
          refine ⟨_, rfl, .inl ⟨rfl, _, .inl (.inl hso)⟩, _, rfl, so, _, at_, at_.toNat, _, rfl, rfl, hso, by omega, by omega, seq_at a0 (by rw [hlen]; omega), hget, ?_⟩
          rw [erase_mapI]
          refine fin _ _ (dInts (ns.eraseIdx at_.toNat)) c2 (eb4.mut nso0) (hB4.upd (Ne.symm hsl)) (by omega) (keepT hS4 ⟨_, hso⟩ .box) upd_same (dpa_ints _) (oddT_ints ?_ fun m hm => List.mem_of_mem_eraseIdx hm)
          have := List.length_eraseIdx_le ns at_.toNat
          omega
        · -- insert
          refine ⟨_, rfl, .inl ⟨rfl, _, .inl (.inl hso)⟩, _, rfl, _, rfl, _, rfl, so, _, _, _, rfl, rfl, .inl (.inl hso), hatI, so, _, at_, _, rfl, rfl, hso, ?_, a0, by omega, ?_⟩
          · rw [List.length_map]
            exact small1000 (by omega)
          have eI : (ns.map V.int).take at_.toNat ++ [V.int ns[at_.toNat]] ++ (ns.map V.int).drop at_.toNat = (ns.take at_.toNat ++ [ns[at_.toNat]] ++ ns.drop at_.toNat).map V.int := by
            rw [List.map_append, List.map_append, List.map_take, List.map_drop]
            rfl
          rw [eI]
          refine fin _ _ (dInts (ns.take at_.toNat ++ [ns[at_.toNat]] ++ ns.drop at_.toNat)) c2 (eb4.mut nso0) (hB4.upd (Ne.symm hsl)) (by omega) (keepT hS4 ⟨_, hso⟩ .box) upd_same (dpa_ints _) (oddT_ints ?_ fun m hm => ?_)
          · rw [List.length_append, List.length_append, List.length_take, List.length_drop, List.length_singleton]
            omega
          · rcases List.mem_append.mp hm with hm | hm
            · rcases List.mem_append.mp hm with hm | hm
              · exact List.mem_of_mem_take hm
              · rw [List.mem_singleton.mp hm]
                exact List.getElem_mem hlt
            · exact List.mem_of_mem_drop hm
        · -- one of the items
          have hpm : ns[at_.toNat] ∈ ns := List.getElem_mem hlt
          refine ⟨_, rfl, _, rfl, _, rfl, so, _, _, _, rfl, rfl, .inl (.inl hso), hatI, l, c2, .int ns[at_.toNat], OddI ns[at_.toNat], rfl, hB4, by omega, ?_, fun x d H5 c5 hO hDp hB5 hc5 eb5 => ?_⟩
          · rw [e2]
            exact ⟨_, rfl, (hnp _ hpm).1, (hnp _ hpm).2, rfl⟩
          have hso5 : H5 so = some (.lst (ns.map V.int)) := eb5 _ _ hsl hso
          have hS5 := keepT hS4 hB4.at eb5
          have eb6 : ExB l H (upd H5 so (.lst ((ns.map V.int).set at_.toNat x))) := (eb4.trans eb5).mut nso0
          refine ⟨_, rfl, _, rfl, so, _, at_, at_.toNat, rfl, rfl, hso5, ix_at a0 (by rw [hlen]; omega), ?_⟩
          refine fin _ _ ((dInts ns).set at_.toNat d) c5 eb6 (hB5.upd (Ne.symm hsl)) (by omega) (keepT hS5 ⟨_, hso5⟩ .box) upd_same (dpa_set (dp_ex ?_ hDp) _ (dpa_ints _)) (oddT_set hpm hO)
          intro b o hb
          have hb4 : H4 b = none := by
            unfold nw at hb
            split at hb
            · rename_i z
              exact Option.isNone_iff_eq_none.mp z
            · cases hb
          rw [nw_new hb4] at hb
          have hbs : b ≠ so := fun z => by rw [z, hso] at hb4; cases hb4
          rw [nw_new (freshB eb4 (some_ne hB4.at.choose_spec) hb4), upd_ne hbs]
          exact hb
      all_goals refine ⟨_, rfl, rfl, _, rfl, ite2 (fun hw0 => ?_) (fun hw0 => iteF ?_)⟩
      all_goals first
        | (refine ⟨_, rfl, (show 2 ≤ sizeLine by decide), fun T2 hT2 => ?_⟩
           have x2 := x1.trans (Ex.new (o := .tup [.ty "tuple", .ty "list"]) hT2)
           have hS3 := Evl.ex_t x2 hS
           refine ⟨_, T2, _, _, [.type "tuple", .type "list"], true || false, rfl, upd_same, .cons (.ty _) (.cons (.ty _) .nil), tyx_T hS3, kit2 kT kL, _, rfl, iteT ⟨_, rfl, .ref a, _, _, _, true, rfl, .ty _, tyx_T hS3, kit_ty kT, _, rfl, iteT ⟨_, rfl, a, _, rfl, .inr hS3, fun r nr => ?_⟩⟩⟩
           have hlr : r ≠ l := Ne.symm (ne_of_none (x2 _ _ hB1.at.choose_spec) nr)
           have x3 := x2.trans (Ex.new (o := .lst (ns.map V.int)) nr)
           refine q (.ref r) (.list (dInts ns)) _ c1 (.inr (.inl rfl)) (.lst (.inl (.inl ?_)) (dpa_ints ns)) (hB1.ex x3) (by omega) (eb1.trans (ExB.of x3))
           rw [nw_new (freshB (eb1.trans (ExB.of x2)) (some_ne (x2 _ _ hB1.at.choose_spec)) nr)]
           exact upd_same)
        | skip
      all_goals refine ⟨1, rfl, Nat.zero_le _, fun t1 n1 => ⟨Nat.zero_le _, fun t2 n2 => ⟨(show 1 ≤ sizeLine by decide), fun t3 n3 => ⟨(show 1 ≤ sizeLine by decide), fun t4 n4 => ⟨(show 2 ≤ sizeLine by decide), fun t5 n5 => ⟨(show 3 ≤ sizeLine by decide), fun t6 n6 => ⟨10, 30, rfl, rfl, ?_, (show 15 ≤ sizeLine by decide), fun od hod => ?_⟩⟩⟩⟩⟩⟩⟩
      all_goals first | (refine ⟨by decide, by decide, by decide⟩; done) | skip
      all_goals have hOd := od_new n1 rfl n2 rfl n3 rfl n4 rfl n5 rfl n6 rfl
      all_goals have x3 := x1.trans hOd.1
      all_goals have hO6 := hOd.2.1
      all_goals first | (have hN0 := odnew_back hOd.2.2 (eb1.trans (ExB.of x2)) (some_ne (x2 _ _ hB1.at.choose_spec))) | (have hN0 := odnew_back hOd.2.2 (eb1.trans (ExB.of x1)) (some_ne (x1 _ _ hB1.at.choose_spec)))
      all_goals clear hOd
      all_goals generalize (upd (upd (upd (upd (upd (upd _ t1 _) t2 _) t3 _) t4 _) t5 _) t6 _) = H6 at x3 hO6 hod ⊢
      all_goals have x4 := x3.trans (Ex.new (o := .lst (odv t1 t2 t3 t4 t5 t6)) hod)
      all_goals have hO9 := od_ex hO6 (Ex.new (o := .lst (odv t1 t2 t3 t4 t5 t6)) hod)
      all_goals have hlr : l ≠ od := ne_of_none (x3 _ _ hB1.at.choose_spec) hod
      all_goals refine ⟨_, rfl, .ref a, _, _, _, false, rfl, .ty _, tyx_T (Evl.ex_t x4 hS), kit_ty kI, _, rfl, iteF (iteF ?_)⟩
      all_goals refine ⟨_, rfl, _, rfl, l, od, c1, false, odv t1 t2 t3 t4 t5 t6, rfl, hB1.ex x4, hlr, .inl (.inl upd_same), by rw [odv_len]; decide, by rw [odv_len]; decide, by omega, fun i x ys c' hx hB' hc' => ?_⟩
      all_goals obtain ⟨d, hd1, hd2⟩ := dpa_get (od_dp (K := K) (od_nw (l := l) hO9 hN0 (some_ne hB.at.choose_spec) (ExB.box (o := .lst ys)))) hx
      all_goals exact q x d _ c' (.inl (odd_of (List.mem_of_getElem? hd1))) hd2 hB' (by omega) ((eb1.trans (ExB.of x4)).trans .box)
end
end Og

namespace Og
open PySem PySem.Spec PyProof.Rows L2 OgR Evl OgM
/-- data whose text is short -/
structure Shw (k m : Nat) (d : PyData) : Prop where
  sh : d.showable = true
  nd : d.hasDict = false
  dp : d.depth ≤ k
  ln : d.shown.length ≤ m
theorem Shw.up {k m k' m' : Nat} {d : PyData} (h : Shw k m d) (hk : k ≤ k') (hm : m ≤ m') : Shw k' m' d := ⟨h.sh, h.nd, Nat.le_trans h.dp hk, Nat.le_trans h.ln hm⟩
theorem tf_le {m : Nat} : ∀ (ts : List Str) (k : Nat) (acc : Str), (∀ t ∈ ts, t.length ≤ m) → (textFrom k acc ts).length ≤ acc.length + (m + 2) * ts.length
  | [], k, acc, _ => by show acc.length ≤ _; omega
  | t :: ts, k, acc, h => by
    have ih := tf_le ts (k + 1) (acc ++ (if k > 0 then ", " else "" : String) ++ t) fun x hx => h x (List.mem_cons_of_mem _ hx)
    have h1 := h t List.mem_cons_self
    rw [strLen_append, strLen_append] at ih
    have h2 : (Str.ofString (if k > 0 then ", " else "")).length ≤ 2 := by
      split <;> decide
    show (textFrom (k + 1) (acc ++ (if k > 0 then ", " else "" : String) ++ t) ts).length ≤ _
    rw [List.length_cons, Nat.mul_add]
    have e3 : (Str.ofString (if k > 0 then ", " else "")).length ≤ 2 := h2
    omega
theorem piled_le {m : Nat} : ∀ ts : List Str, (∀ t ∈ ts, t.length ≤ m) → piled ts ≤ (m + 2) * ts.length
  | [], _ => by rw [piled_nil]; omega
  | t :: ts, h => by
    rw [piled_cons, List.length_cons, Nat.mul_add]
    have := piled_le ts fun x hx => h x (List.mem_cons_of_mem _ hx)
    have := h t List.mem_cons_self
    omega
theorem lt_le {m : Nat} {ts : List Str} (h : ∀ t ∈ ts, t.length ≤ m) : (listText ts).length ≤ (m + 2) * ts.length + 4 := by
  have h1 := tf_le ts 0 "[" h
  show (textFrom 0 "[" ts ++ "]").length ≤ _
  rw [strLen_append]
  have e1 : (Str.ofString "[").length = 1 := by decide
  have e2 : (Str.ofString "]").length = 1 := by decide
  omega
theorem tt_le {m : Nat} {ts : List Str} (h : ∀ t ∈ ts, t.length ≤ m) : (tupleText ts).length ≤ (m + 2) * ts.length + 4 := by
  unfold tupleText
  rw [strLen_append, strLen_append]
  have e1 : (Str.ofString "(").length = 1 := by decide
  have e2 : (Str.ofString (if ts.length == 1 then ",)" else ")")).length ≤ 2 := by
    split <;> decide
  have h1 := piled_le ts h
  by_cases hn : ts = []
  · subst hn
    have e3 : ((Str.ofString ", ").join []).length = 0 := by decide
    rw [e3]
    omega
  · have h2 := join_length_add ts hn
    omega
theorem shownAll_map : ∀ ds : List PyData, PyData.shownAll ds = ds.map PyData.shown
  | [] => by simp only [PyData.shownAll, List.map_nil]
  | d :: ds => by simp only [PyData.shownAll, List.map_cons, shownAll_map ds]
theorem seq_facts {k m : Nat} : ∀ {ds : List PyData}, (∀ d ∈ ds, Shw k m d) → PyData.showableAll ds = true ∧ PyData.hasDictAll ds = false ∧ PyData.depthAll ds ≤ k
  | [], _ => ⟨by simp only [PyData.showableAll], by simp only [PyData.hasDictAll], by simp only [PyData.depthAll]; omega⟩
  | d :: ds, h => by
    obtain ⟨h1, h2, h3⟩ := seq_facts fun x hx => h x (List.mem_cons_of_mem _ hx)
    have h0 := h d List.mem_cons_self
    refine ⟨?_, ?_, ?_⟩
    · simp only [PyData.showableAll, h0.sh, h1, Bool.and_self]
    · simp only [PyData.hasDictAll, h0.nd, h2, Bool.or_self]
    · simp only [PyData.depthAll]
      exact Nat.max_le.mpr ⟨h0.dp, h3⟩
theorem shw_tup {k m n : Nat} {ds : List PyData} (h : ∀ d ∈ ds, Shw k m d) (hn : ds.length ≤ n) : Shw (k + 1) ((m + 2) * n + 4) (.tuple ds) := by
  obtain ⟨h1, h2, h3⟩ := seq_facts h
  refine ⟨by simpa only [PyData.showable] using h1, by simpa only [PyData.hasDict] using h2, by simp only [PyData.depth]; omega, ?_⟩
  simp only [PyData.shown]
  refine Nat.le_trans (tt_le (m := m) fun t ht => ?_) ?_
  · rw [shownAll_map] at ht
    obtain ⟨d, hd, rfl⟩ := List.mem_map.mp ht
    exact (h d hd).ln
  · rw [shownAll_map, List.length_map]
    exact Nat.add_le_add_right (Nat.mul_le_mul_left _ hn) 4
theorem shw_lst {k m n : Nat} {ds : List PyData} (h : ∀ d ∈ ds, Shw k m d) (hn : ds.length ≤ n) : Shw (k + 1) ((m + 2) * n + 4) (.list ds) := by
  obtain ⟨h1, h2, h3⟩ := seq_facts h
  refine ⟨by simpa only [PyData.showable] using h1, by simpa only [PyData.hasDict] using h2, by simp only [PyData.depth]; omega, ?_⟩
  simp only [PyData.shown]
  refine Nat.le_trans (lt_le (m := m) fun t ht => ?_) ?_
  · rw [shownAll_map] at ht
    obtain ⟨d, hd, rfl⟩ := List.mem_map.mp ht
    exact (h d hd).ln
  · rw [shownAll_map, List.length_map]
    exact Nat.add_le_add_right (Nat.mul_le_mul_left _ hn) 4
theorem shw_int {i : Int} (h : i.natAbs ≤ 10 ^ 30) : Shw 0 60 (.int i) := by
  have h1 : i.natAbs < 10 ^ 31 := Nat.lt_of_le_of_lt h (by decide)
  have h2 := int_text_length_le10 (k := 31) (by decide) h1
  refine ⟨?_, rfl, Nat.le_refl _, ?_⟩
  · simp only [PyData.showable, decide_eq_true_eq]
    by_cases hz : i.natAbs = 0
    · rw [hz]
      decide
    · exact (Nat.log2_lt hz).mpr (Nat.lt_of_lt_of_le h1 (Nat.le_trans (show 10 ^ 31 ≤ 2 ^ 128 by decide) (Nat.pow_le_pow_right (by decide) (by decide))))
  · simp only [PyData.shown]
    rw [PySem.ofString_length]
    omega
theorem shw_none : Shw 0 60 .none := ⟨rfl, rfl, Nat.le_refl _, by decide⟩
theorem shw_bool (b : Bool) : Shw 0 60 (.bool b) := by cases b <;> exact ⟨rfl, rfl, Nat.le_refl _, by decide⟩
theorem shw_str {x : Str} (h : (reprText x).length ≤ 60) : Shw 0 60 (.str x) := ⟨rfl, rfl, Nat.le_refl _, h⟩
theorem digits_all : ∀ n : Fin 1001, (reprText (Str.ofString (toString ((n.val : Nat) : Int)))).length ≤ 60 := by decide +kernel
theorem odd_shw {p : Int} (h0 : 0 ≤ p) (h1 : p ≤ 1000) {d : PyData} (h : OddI p d) : Shw 1 200 d := by
  unfold OddI at h
  simp only [List.mem_cons, List.not_mem_nil, or_false] at h
  rcases h with rfl | rfl | rfl | rfl | rfl | rfl | rfl | rfl | rfl | rfl | rfl | rfl | rfl | rfl | rfl | rfl | rfl | rfl
  · exact shw_none.up (by decide) (by decide)
  · exact (shw_bool _).up (by decide) (by decide)
  · exact (shw_bool _).up (by decide) (by decide)
  · exact (shw_int (by decide)).up (by decide) (by decide)
  · exact (shw_int (by decide)).up (by decide) (by decide)
  · exact (shw_int (by decide)).up (by decide) (by decide)
  · exact (shw_str (by decide +kernel)).up (by decide) (by decide)
  · exact (shw_str (by decide +kernel)).up (by decide) (by decide)
  · exact (shw_tup (k := 0) (m := 60) (n := 0) (by simp) (by decide)).up (by decide) (by decide)
  · exact (shw_lst (k := 0) (m := 60) (n := 0) (by simp) (by decide)).up (by decide) (by decide)
  · exact (shw_tup (k := 0) (m := 60) (n := 1) (by simp only [List.mem_singleton]; rintro _ rfl; exact shw_int (by decide)) (by decide)).up (by decide) (by decide)
  · exact (shw_lst (k := 0) (m := 60) (n := 1) (by simp only [List.mem_singleton]; rintro _ rfl; exact shw_int (by decide)) (by decide)).up (by decide) (by decide)
  · exact (shw_tup (k := 0) (m := 60) (n := 2) (by simp only [List.mem_cons, List.not_mem_nil, or_false]; rintro _ (rfl | rfl) <;> first | exact shw_int (by decide) | exact shw_str (by decide +kernel)) (by decide)).up (by decide) (by decide)
  · exact (shw_tup (k := 0) (m := 60) (n := 3) (by simp only [List.mem_cons, List.not_mem_nil, or_false]; rintro _ (rfl | rfl | rfl) <;> first | exact shw_int (by decide) | exact shw_str (by decide +kernel)) (by decide)).up (by decide) (by decide)
  · exact (shw_int (by decide)).up (by decide) (by decide)
  · exact (shw_int (by omega)).up (by decide) (by decide)
  · exact (shw_int (by omega)).up (by decide) (by decide)
  · have e := digits_all ⟨p.toNat, by omega⟩
    have e2 : ((p.toNat : Nat) : Int) = p := by omega
    rw [show ((Fin.val ⟨p.toNat, (by omega : p.toNat < 1001)⟩ : Nat) : Int) = p from e2] at e
    exact (shw_str e).up (by decide) (by decide)
/-- data that the law looks at -/
def Okd (d : PyData) : Prop := Shw 3 30000 d ∧ wideD d ≤ 900
theorem odd_wide {p : Int} {d : PyData} (h : OddI p d) : wideD d ≤ 900 := by
  unfold OddI at h
  simp only [List.mem_cons, List.not_mem_nil, or_false] at h
  rcases h with rfl | rfl | rfl | rfl | rfl | rfl | rfl | rfl | rfl | rfl | rfl | rfl | rfl | rfl | rfl | rfl | rfl | rfl <;> (simp [wideD])
theorem okd_ints {ns : List Int} (hl : ns.length ≤ 100) (h : ∀ p ∈ ns, p.natAbs ≤ 10 ^ 30) (b : Bool) : Okd (seqD b (dInts ns)) := by
  have h1 : ∀ d ∈ dInts ns, Shw 0 60 d := fun d hd => by
    obtain ⟨p, hp, rfl⟩ := List.mem_map.mp hd
    exact shw_int (h p hp)
  have h2 : (dInts ns).length ≤ 100 := by unfold dInts; rw [List.length_map]; exact hl
  cases b with
  | true => exact ⟨(shw_tup (n := 100) h1 h2).up (by decide) (by decide), Nat.le_trans h2 (by decide)⟩
  | false => exact ⟨(shw_lst (n := 100) h1 h2).up (by decide) (by decide), Nat.le_trans h2 (by decide)⟩
theorem okd_bent {ns : List Int} (hl : ns.length ≤ 99) (h : ∀ p ∈ ns, 0 ≤ p ∧ p ≤ 1000) {d : PyData} (hd : OddT ns d) : Okd d := by
  have hb : ∀ p ∈ ns, p.natAbs ≤ 10 ^ 30 := fun p hp => by
    have := h p hp
    omega
  rcases hd with hd | rfl | ⟨ds, rfl, hdl, hds⟩
  · exact ⟨(odd_shw (p := 0) (by decide) (by decide) hd).up (by decide) (by decide), odd_wide hd⟩
  · exact okd_ints (b := false) (by omega) hb
  · refine ⟨(shw_tup (k := 1) (m := 200) (n := 100) (fun x hx => ?_) (by omega)).up (by decide) (by decide), ?_⟩
    · obtain ⟨p, hp, rfl | ho⟩ := hds x hx
      · exact (shw_int (hb p hp)).up (by decide) (by decide)
      · exact odd_shw (h p hp).1 (h p hp).2 ho
    · show ds.length ≤ 900
      omega
end Og

namespace Og
open PySem PySem.Spec PyProof.Rows L2 OgR Evl OgM
abbrev sRight : Stmt := topS 22
theorem scRight : FnScope ["_law_box_here", "_law_count", "_law_queue_here", "_law_listed", "_law_counts", "_law_words", "_law_told", "_law_image", "_law_matters", "_law_turn", "_law_matter", "_law_kept", "_law_due", "_law_plot"] ["_law_box_here"] (defScope sRight) := ⟨rfl, rfl, rfl, by decide +kernel, rfl, by decide +kernel, by decide +kernel⟩
abbrev sLaw : Stmt := topS 23
theorem scLaw : FnScope ["_law_script", "_law_k", "_law_box_here", "_law_turn"] ["_law_script"] (defScope sLaw) := ⟨rfl, rfl, rfl, by decide +kernel, rfl, by decide +kernel, by decide +kernel⟩
structure Adr1 where
  isnA : Addr
  isbA : Addr
  isrA : Addr
  nbA : Addr
  groupsA : Addr
  housesA : Addr
  mirrA : Addr
  cellA : Addr
  boxA : Addr
  takeA : Addr
  ofA : Addr
  sameA : Addr
  isiA : Addr
  runsA : Addr
  seenA : Addr
  queueA : Addr
  bentA : Addr
  isqA : Addr
  rightA : Addr
  wordsA : Addr
structure Fds1 where
  isnD : FuncData
  isbD : FuncData
  isrD : FuncData
  nbD : FuncData
  groupsD : FuncData
  housesD : FuncData
  mirrD : FuncData
  cellD : FuncData
  boxD : FuncData
  takeD : FuncData
  ofD : FuncData
  sameD : FuncData
  isiD : FuncData
  runsD : FuncData
  seenD : FuncData
  queueD : FuncData
  bentD : FuncData
  isqD : FuncData
  rightD : FuncData
structure Top1 (w : World) (K : PySem.W.Frag) (mg : Str → Option Value) (a : Adr1) (d : Fds1) : Prop where
  isnF : Fun K "is_number" "is_number" sIsN a.isnA d.isnD
  isnB : Binds K d.isnD ["thing"] []
  isnG : mg "is_number" = some (.ref a.isnA)
  isbF : Fun K "is_number_below" "is_number_below" sIsB a.isbA d.isbD
  isbB : Binds K d.isbD ["thing", "limit"] []
  isbG : mg "is_number_below" = some (.ref a.isbA)
  isrF : Fun K "is_row" "is_row" sIsRow a.isrA d.isrD
  isrB : Binds K d.isrD ["plots", "thing"] []
  isrG : mg "is_row" = some (.ref a.isrA)
  nbF : Fun K "neighbours" "neighbours" sNb a.nbA d.nbD
  nbB : Binds K d.nbD ["row"] []
  nbG : mg "neighbours" = some (.ref a.nbA)
  groupsF : Fun K "groups" "groups" sGroups a.groupsA d.groupsD
  groupsB : Binds K d.groupsD ["row"] []
  groupsG : mg "groups" = some (.ref a.groupsA)
  housesF : Fun K "houses" "houses" sHouses a.housesA d.housesD
  housesB : Binds K d.housesD ["row"] []
  housesG : mg "houses" = some (.ref a.housesA)
  mirrF : Fun K "mirrored" "mirrored" sMirr a.mirrA d.mirrD
  mirrB : Binds K d.mirrD ["plots", "row"] []
  mirrG : mg "mirrored" = some (.ref a.mirrA)
  cellF : Fun K "_law_cell_at" "_law_cell_at" sCell a.cellA d.cellD
  cellB : Binds K d.cellD ["_law_script", "_law_k"] []
  cellG : mg "_law_cell_at" = some (.ref a.cellA)
  boxF : Fun K "_law_box" "_law_box" sBox a.boxA d.boxD
  boxB : Binds K d.boxD ["_law_script", "_law_k"] []
  boxG : mg "_law_box" = some (.ref a.boxA)
  takeF : Fun K "_law_take" "_law_take" sTake a.takeA d.takeD
  takeB : Binds K d.takeD ["_law_box_here", "_law_below"] []
  takeG : mg "_law_take" = some (.ref a.takeA)
  ofF : Fun K "_law_of" "_law_of" sOf a.ofA d.ofD
  ofB : Binds K d.ofD ["_law_box_here", "_law_some"] []
  ofG : mg "_law_of" = some (.ref a.ofA)
  sameF : Fun K "_law_same" "_law_same" sSame a.sameA d.sameD
  sameB : Binds K d.sameD ["_law_found", "_law_due"] []
  sameG : mg "_law_same" = some (.ref a.sameA)
  isiF : Fun K "_law_is_int" "_law_is_int" sIsI a.isiA d.isiD
  isiB : Binds K d.isiD ["_law_matter"] []
  isiG : mg "_law_is_int" = some (.ref a.isiA)
  runsF : Fun K "_law_runs" "_law_runs" sRuns a.runsA d.runsD
  runsB : Binds K d.runsD ["_law_there"] []
  runsG : mg "_law_runs" = some (.ref a.runsA)
  seenF : Fun K "_law_seen" "_law_seen" sSeen a.seenA d.seenD
  seenB : Binds K d.seenD ["_law_queue_here"] []
  seenG : mg "_law_seen" = some (.ref a.seenA)
  queueF : Fun K "_law_queue" "_law_queue" sQueue a.queueA d.queueD
  queueB : Binds K d.queueD ["_law_box_here", "_law_count", "_law_size"] []
  queueG : mg "_law_queue" = some (.ref a.queueA)
  bentF : Fun K "_law_bent" "_law_bent" sBent a.bentA d.bentD
  bentB : Binds K d.bentD ["_law_box_here", "_law_part"] []
  bentG : mg "_law_bent" = some (.ref a.bentA)
  isqF : Fun K "_law_is_queue" "_law_is_queue" sIsQ a.isqA d.isqD
  isqB : Binds K d.isqD ["_law_count", "_law_matter"] []
  isqG : mg "_law_is_queue" = some (.ref a.isqA)
  rightF : Fun K "_law_right" "_law_right" sRight a.rightA d.rightD
  rightB : Binds K d.rightD ["_law_box_here"] []
  rightG : mg "_law_right" = some (.ref a.rightA)
  wordsG : mg "WORDS" = some (.ref a.wordsA)
  wordsS : ∀ H, SqT K H a.wordsA wordsV
  lenM : mg "len" = none
  absM : mg "abs" = none
  intM : mg "int" = none
  sortedM : mg "sorted" = none
  tupleM : mg "tuple" = none
  listM : mg "list" = none
  rangeM : mg "range" = none
  zipM : mg "zip" = none
  isinstanceM : mg "isinstance" = none
  boolM : mg "bool" = none
  strM : mg "str" = none
  minM : mg "min" = none
  allM : mg "all" = none
  setM : mg "set" = none
  reprM : mg "repr" = none
section
variable {P : Program} {w : World} {K : PySem.W.Frag} {mg : Str → Option Value} {base : Heap} {a : Adr1} {d : Fds1}
theorem Top1.gTake (T : Top1 w K mg a d) : FnOk P w K mg base CX0 4 a.takeA d.takeD ["_law_box_here", "_law_below"] spTake := ok_take T.takeF
theorem Top1.gOf (T : Top1 w K mg a d) : FnOk P w K mg base CX0 4 a.ofA d.ofD ["_law_box_here", "_law_some"] (spOf K) := (ok_of T.ofF T.takeF T.takeB T.takeG T.lenM).mono (by decide)
theorem Top1.gQueue (T : Top1 w K mg a d) : FnOk P w K mg base CX0 4 a.queueA d.queueD ["_law_box_here", "_law_count", "_law_size"] spQueue := (ok_queue T.queueF T.takeF T.takeB T.takeG T.ofF T.ofB T.ofG T.lenM T.listM T.rangeM T.tupleM).mono (by decide)
theorem Top1.gSeen (T : Top1 w K mg a d) : FnOk P w K mg base CX0 4 a.seenA d.seenD ["_law_queue_here"] (spSeen K) := ok_seen T.seenF T.runsF T.runsB T.runsG T.sortedM T.rangeM T.lenM
theorem Top1.gGroups (T : Top1 w K mg a d) : FnOk P w K mg base CX0 4 a.groupsA d.groupsD ["row"] (spGroups K) := ok_groups T.groupsF T.nbF T.nbB T.nbG T.tupleM
theorem Top1.gHouses (T : Top1 w K mg a d) : FnOk P w K mg base CX0 4 a.housesA d.housesD ["row"] (spHouses K) := ok_houses T.housesF T.nbF T.nbB T.nbG T.wordsG T.wordsS T.tupleM
theorem Top1.gMirr (T : Top1 w K mg a d) : FnOk P w K mg base CX0 4 a.mirrA d.mirrD ["plots", "row"] (spMirr K) := ok_mirr T.mirrF T.tupleM
theorem Top1.gIsr (T : Top1 w K mg a d) : FnOk P w K mg base CX0 4 a.isrA d.isrD ["plots", "thing"] (spIsRow K) := ok_isRow T.isrF T.isbF T.isbB T.isbG T.isnF T.isnB T.isnG T.isinstanceM T.intM T.boolM T.tupleM T.allM T.lenM T.setM
theorem Top1.gIsq (T : Top1 w K mg a d) : FnOk P w K mg base CX0 4 a.isqA d.isqD ["_law_count", "_law_matter"] (spIsQ K) := ok_isQ T.isqF T.isiF T.isiB T.isiG T.isinstanceM T.intM T.boolM T.tupleM T.allM T.lenM T.setM
theorem Top1.gSame (T : Top1 w K mg a d) : FnOk P w K mg base CX0 4 a.sameA d.sameD ["_law_found", "_law_due"] (spSame K Nest4) := by
  have s1 := same_step (P := P) (w := w) (base := base) (m := 0) T.sameF T.sameB T.sameG same_none T.isinstanceM T.intM T.boolM T.strM T.listM T.tupleM T.lenM T.allM T.zipM
  have s2 := same_step (m := 1) T.sameF T.sameB T.sameG s1 T.isinstanceM T.intM T.boolM T.strM T.listM T.tupleM T.lenM T.allM T.zipM
  have s3 := same_step (m := 2) T.sameF T.sameB T.sameG s2 T.isinstanceM T.intM T.boolM T.strM T.listM T.tupleM T.lenM T.allM T.zipM
  exact same_step (m := 3) T.sameF T.sameB T.sameG s3 T.isinstanceM T.intM T.boolM T.strM T.listM T.tupleM T.lenM T.allM T.zipM
theorem Top1.gBent (T : Top1 w K mg a d) : FnOk P w K mg base CX0 4 a.bentA d.bentD ["_law_box_here", "_law_part"] (spBent K (bTup K) 990000 4) := by
  have s1 := bent_step (P := P) (w := w) (base := base) (m := 0) (B := 990010) (D := 2) (D' := 2) (C := bNo) (C' := bInt) (by decide) (by decide) T.bentF T.bentB T.bentG T.takeF T.takeB T.takeG T.ofF T.ofB T.ofG T.lenM T.listM T.tupleM T.isinstanceM T.intM T.boolM T.strM bent_no (.inl ⟨rfl, rfl⟩)
  exact bent_step (m := 1) (B := 990000) (D := 2) (D' := 4) (C := bInt) (C' := bTup K) (by decide) (by decide) T.bentF T.bentB T.bentG T.takeF T.takeB T.takeG T.ofF T.ofB T.ofG T.lenM T.listM T.tupleM T.isinstanceM T.intM T.boolM T.strM s1 (.inr ⟨rfl, rfl, by decide⟩)
end
end Og

namespace Og
open PySem PySem.Spec PyProof.Rows L2 OgR Evl OgM
theorem new_at {H : Hp} {p : Addr} {o : HO} (h : H p = none) : Ex H (upd H p o) ∧ upd H p o p = some o := ⟨Ex.new h, upd_same⟩
def mats (n : Nat) (row : List Int) : List PyData := [PyData.tuple (dInts row), .list (dInts row), .tuple (dInts row.reverse), .tuple (dInts (row ++ row.take 1)), .tuple (dInts (row ++ [(n : Int)])), .tuple (dInts (-1 :: row)), .tuple [], .list [], .none, .int 0] ++ [PyData.str "0", .tuple [.bool true]] ++
          [PyData.tuple [.int 0], .tuple [.int 0, .int 0], .tuple [.int 1, .int 0], .tuple [.int (10 ^ (30 : Int).toNat)], .tuple [.str "0"], .tuple [.tuple [.int 0]], .tuple [.int ((n : Int) - 1)], .tuple [.bool false, .int 1], .tuple [.none]]
theorem okd_up {k m : Nat} {d : PyData} (h : Shw k m d) (hk : k ≤ 3) (hm : m ≤ 30000) (hw : wideD d ≤ 900) : Okd d := ⟨h.up hk hm, hw⟩
theorem okd_few {ds : List PyData} (hl : ds.length ≤ 3) (h : ∀ d ∈ ds, Shw 1 200 d) : Okd (.tuple ds) := okd_up (shw_tup (n := 3) h hl) (by decide) (by decide) (Nat.le_trans hl (by decide))
theorem okd_mats {n : Nat} {row : List Int} (hn : n ≤ 16) (hl : row.length ≤ 16) (h : ∀ p ∈ row, 0 ≤ p ∧ p ≤ 1000) : ∀ d ∈ mats n row, Okd d := by
  have hb : ∀ p ∈ row, p.natAbs ≤ 10 ^ 30 := fun p hp => by
    have := h p hp
    omega
  have i1 : ∀ {i : Int}, i.natAbs ≤ 10 ^ 30 → Shw 1 200 (.int i) := fun hi => (shw_int hi).up (by decide) (by decide)
  have one : ∀ {x : PyData}, Shw 1 200 x → Okd (.tuple [x]) := fun hx => okd_few (show 1 ≤ 3 by decide) fun d hd => by rw [List.mem_singleton.mp hd]; exact hx
  have two : ∀ {x y : PyData}, Shw 1 200 x → Shw 1 200 y → Okd (.tuple [x, y]) := fun hx hy => okd_few (show 2 ≤ 3 by decide) fun d hd => by
    rcases List.mem_cons.mp hd with e | hd
    · rw [e]; exact hx
    · rw [List.mem_singleton.mp hd]; exact hy
  have fl : ∀ {x : PyData}, Shw 0 60 x → wideD x ≤ 900 → Okd x := fun hx hw => okd_up hx (by decide) (by decide) hw
  have s0 : Shw 0 60 (.str "0") := shw_str (by decide +kernel)
  intro d hd
  rcases List.mem_append.mp hd with hd | hd
  · rcases List.mem_append.mp hd with hd | hd
    · simp only [List.mem_cons, List.not_mem_nil, or_false] at hd
      rcases hd with rfl | rfl | rfl | rfl | rfl | rfl | rfl | rfl | rfl | rfl
      · exact okd_ints (b := true) (by omega) hb
      · exact okd_ints (b := false) (by omega) hb
      · exact okd_ints (b := true) (by rw [List.length_reverse]; omega) fun p hp => hb p (List.mem_reverse.mp hp)
      · refine okd_ints (b := true) (by rw [List.length_append, List.length_take]; omega) fun p hp => ?_
        rcases List.mem_append.mp hp with hp | hp
        · exact hb p hp
        · exact hb p (List.mem_of_mem_take hp)
      · refine okd_ints (b := true) (by rw [List.length_append]; simp; omega) fun p hp => ?_
        rcases List.mem_append.mp hp with hp | hp
        · exact hb p hp
        · rw [List.mem_singleton.mp hp]
          omega
      · refine okd_ints (b := true) (by rw [List.length_cons]; omega) fun p hp => ?_
        rcases List.mem_cons.mp hp with hp | hp
        · rw [hp]
          decide
        · exact hb p hp
      · exact okd_ints (ns := []) (b := true) (by decide) (by simp)
      · exact okd_ints (ns := []) (b := false) (by decide) (by simp)
      · exact fl shw_none (by decide)
      · exact fl (shw_int (by decide)) (by decide)
    · simp only [List.mem_cons, List.not_mem_nil, or_false] at hd
      rcases hd with rfl | rfl
      · exact fl s0 (Nat.zero_le _)
      · exact one ((shw_bool _).up (by decide) (by decide))
  · simp only [List.mem_cons, List.not_mem_nil, or_false] at hd
    rcases hd with rfl | rfl | rfl | rfl | rfl | rfl | rfl | rfl | rfl
    · exact one (i1 (by decide))
    · exact two (i1 (by decide)) (i1 (by decide))
    · exact two (i1 (by decide)) (i1 (by decide))
    · exact one (i1 (by decide))
    · exact one (s0.up (by decide) (by decide))
    · exact one ((shw_tup (k := 0) (m := 60) (n := 1) (fun d hd => by rw [List.mem_singleton.mp hd]; exact shw_int (by decide)) (by decide)).up (by decide) (by decide))
    · exact one (i1 (by omega))
    · exact two ((shw_bool _).up (by decide) (by decide)) (i1 (by decide))
    · exact one (shw_none.up (by decide) (by decide))
theorem off_mono {l M : Addr} {H H' : Hp} (e : ∀ b o, b ≠ l → b ≠ M → H b = some o → H' b = some o) : Ex (off M (off l H)) (off M (off l H')) := fun b o h => by
  by_cases h1 : b = M
  · rw [h1, off_same] at h
    cases h
  · rw [off_ne h1] at h ⊢
    by_cases h2 : b = l
    · rw [h2, off_same] at h
      cases h
    · rw [off_ne h2] at h ⊢
      exact e b o h2 h1 h
theorem off_add {l M : Addr} {H : Hp} {o : HO} (h : H M = none) : Ex (off l H) (off M (off l (upd H M o))) := fun b u hb => by
  by_cases h2 : b = l
  · rw [h2, off_same] at hb
    cases hb
  · rw [off_ne h2] at hb
    have h1 : b ≠ M := fun z => by rw [z, h] at hb; cases hb
    rw [off_ne h1, off_ne h2, upd_ne h1]
    exact hb
theorem off_nw {l M : Addr} {H H' : Hp} (hl : H l ≠ none) (hM : H M ≠ none) : Ex (nw H H') (off M (off l H')) := fun b o h => by
  have hb : H b = none := by
    unfold nw at h
    split at h
    · rename_i z
      exact Option.isNone_iff_eq_none.mp z
    · cases h
  rw [nw_new hb] at h
  have h1 : b ≠ M := fun z => hM (by rw [← z]; exact hb)
  have h2 : b ≠ l := fun z => hl (by rw [← z]; exact hb)
  rw [off_ne h1, off_ne h2]
  exact h
/-- t + u: a tuple of all their items -/
def rCatB (K : PySem.W.Frag) : R2 := fun x y H Q => ∃ a b xs ys, x = .ref a ∧ y = .ref b ∧ SqT K H a xs ∧ SqT K H b ys ∧ xs.length + ys.length ≤ sizeLine ∧ ∀ p H', Ex H H' → SqT K H' p (xs ++ ys) → Q (.ref p) H'
theorem op_catB {X : Cx} : OpR X (binaryOp .Add) (rCatB X.K) := by
  intro pins s σ H x y v u Q I rx ry h
  obtain ⟨a, b, xs, ys, rfl, rfl, ha, hb, hz, q⟩ := h
  refine op_catA pins s σ H _ _ v u Q I rx ry ⟨a, b, xs, ys, rfl, rfl, ha, hb, hz, fun e => ?_, fun _ e => ?_, fun _ _ p hp => ?_⟩
  · subst e
    exact q b H (Ex.refl _) hb
  · subst e
    have := q a H (Ex.refl _)
    rw [List.append_nil] at this
    exact this ha
  · exact q p _ (Ex.new hp) (.inl (.inl upd_same))
theorem offT {K : PySem.W.Frag} {l a : Addr} {H : Hp} {xs : List V} (h : SqT K H a xs) (hl : ∃ ys, H l = some (.lst ys)) : SqT K (off l H) a xs := by
  obtain ⟨ys, hl⟩ := hl
  rcases h with (h | ⟨o, h⟩) | h
  · exact .inl (.inl (by rw [off_ne (fun z => by rw [z, hl] at h; cases h)]; exact h))
  · exact .inl (.inr ⟨o, by rw [off_ne (fun z => by rw [z, hl] at h; cases h)]; exact h⟩)
  · exact .inr h
def dWords (cs : List Ch) : List PyData := cs.map fun c => .str (wstr c.1)
theorem dpa_words {K : PySem.W.Frag} {H : Hp} : ∀ cs : List Ch, DpAll K H (cs.map wordV) (dWords cs)
  | [] => .nil
  | c :: r => .cons (.str _) (dpa_words r)
theorem nest_flat {C : PyData → Prop} {b : Bool} {ds : List PyData} (hl : ds.length ≤ 1000) (h : ∀ x ∈ ds, flatD x = true) : OnD (OnD C) (seqD b ds) := on_seq hl fun x hx => on_flat (h x hx)
theorem flat_dints (ns : List Int) : ∀ x ∈ dInts ns, flatD x = true := fun x hx => by
  obtain ⟨p, _, rfl⟩ := List.mem_map.mp hx
  rfl
theorem flat_dwords (cs : List Ch) : ∀ x ∈ dWords cs, flatD x = true := fun x hx => by
  obtain ⟨p, _, rfl⟩ := List.mem_map.mp hx
  rfl
section
variable {P : Program} {w : World} {K : PySem.W.Frag} {mg : Str → Option Value} {base : Heap} {a : Adr1} {d : Fds1}
def spRight : Sp := fun vs H Q _ => ∃ (l : Addr) (c : Int), vs = [.ref l] ∧ BoxAt H l c ∧ c ≤ 800000 ∧ ∀ H' c', ExB l H H' → BoxAt H' l c' → c' ≤ c + 1000 → Q (.bl true) H'
theorem ok_right (T : Top1 w K mg a d) : FnG P w K mg base 5 a.rightA d.rightD ["_law_box_here"] spRight := by
  refine fnG_of T.rightF scRight (fun vs H Q E h => ?_) (fun cdv A outer s H vs Q E hG hr h => ?_)
  · obtain ⟨_, _, rfl, _⟩ := h
    rfl
  · obtain ⟨l, c, rfl, hB, hc, q⟩ := h
    refine ⟨_, pss_cons (ps_set (i := 1) scRight.nd rfl (.inr rfl) (pe_call T.gTake hr (by rfl) T.takeG T.takeF.kp T.takeB .nil pass0 (pa_cons (pv 0) (pa_cons pe_int pa_nil))))
      (pss_cons (ps_set (i := 2) scRight.nd rfl (.inl rfl) (pe_call T.gQueue hr (by rfl) T.queueG T.queueF.kp T.queueB .nil pass0 (pa_cons (pv 0) (pa_cons (pv 1) (pa_cons (pe_call T.gTake hr (by rfl) T.takeG T.takeF.kp T.takeB .nil pass0 (pa_cons (pv 0) (pa_cons (pe_op op_add (pv 1) pe_int) pa_nil))) pa_nil)))))
      (pss_cons (ps_asg (pe_tup (pa_cons (pe_callTy call_list_of (by rfl) T.listM (by decide +kernel) (pa_cons (pv 2) pa_nil)) (pa_cons (pe_call T.gSeen hr (by rfl) T.seenG T.seenF.kp T.seenB .nil pass0 (pa_cons (pv 2) pa_nil)) pa_nil)))
        (pg_tup rfl (pgs_cons (pg_name (i := 3) scRight.nd rfl (.inl rfl)) (pgs_cons (pg_tup rfl (pgs_cons (pg_name (i := 4) scRight.nd rfl (.inl rfl)) (pgs_cons (pg_name (i := 5) scRight.nd rfl (.inl rfl)) pgs_nil))) pgs_nil))))
      (pss_cons (ps_set (i := 6) scRight.nd rfl (.inl rfl) (pe_lst (pa_cons (pe_call T.gGroups hr (by rfl) T.groupsG T.groupsF.kp T.groupsB .nil pass0 (pa_cons (pv 2) pa_nil)) (pa_cons (pe_named T.gGroups hr (by rfl) T.groupsG T.groupsF.kp (by1 T.groupsF fun _ _ _ _ _ _ _ => rfl) pass0 (pk_cons (pv 3) pk_nil))
          (pa_cons (pe_call T.gHouses hr (by rfl) T.housesG T.housesF.kp T.housesB .nil pass0 (pa_cons (pv 2) pa_nil)) (pa_cons (pe_named T.gHouses hr (by rfl) T.housesG T.housesF.kp (by1 T.housesF fun _ _ _ _ _ _ _ => rfl) pass0 (pk_cons (pv 3) pk_nil)) pa_nil))))))
      (pss_cons (ps_if (pt_not (pt_val (pe_call T.gSame hr (by rfl) T.sameG T.sameF.kp T.sameB .nil pass0 (pa_cons (pv 6) (pa_cons (pe_op op_cat (pe_op op_rep (pe_lst (pa_cons (pe_callTy call_tuple_of (by rfl) T.tupleM (by decide +kernel) (pa_cons (pv 4) pa_nil)) pa_nil)) pe_int) (pe_op op_rep (pe_lst (pa_cons (pe_callTy call_tuple_of (by rfl) T.tupleM (by decide +kernel) (pa_cons (pv 5) pa_nil)) pa_nil)) pe_int)) pa_nil))))) (pss_one (ps_ret pe_bl)) pss_nil)
      (pss_cons (ps_set (i := 7) scRight.nd rfl (.inl rfl) (pe_callTy call_tuple_of (by rfl) T.tupleM (by decide +kernel) (pa_cons
        (pe_lc (own := [("_law_plot", 13)]) (g := gName 13) (by rfl) scRight.nd (pi_seqB (pv 2))
          (blkOk_by (own := [("_law_plot", 13)]) (N := ["_law_box_here", "_law_count", "_law_queue_here", "_law_listed", "_law_counts", "_law_words", "_law_told", "_law_image", "_law_matters", "_law_turn", "_law_matter", "_law_kept", "_law_due", "_law_plot"]) (sc := defScope sRight) (by decide +kernel))
          (fun _ _ _ _ _ => pg_name (i := 13) scRight.nd rfl (Or.inl rfl) (hf := Or.inr rfl))
          (fun _ _ _ _ _ => pts_nil)
          (fun _ _ _ _ _ => pe_op op_sub (pe_op op_sub (pv 1) pe_int) (pv 13))) pa_nil)))
      (pss_cons (ps_if (pt_not (pt_val (pe_call T.gSame hr (by rfl) T.sameG T.sameF.kp T.sameB .nil pass0 (pa_cons (pe_lst (pa_cons (pe_call T.gMirr hr (by rfl) T.mirrG T.mirrF.kp T.mirrB .nil pass0 (pa_cons (pv 1) (pa_cons (pv 2) pa_nil))) (pa_cons (pe_named T.gMirr hr (by rfl) T.mirrG T.mirrF.kp (by2 (a := "plots") (b := "row") T.mirrF fun _ _ _ _ _ _ _ _ => rfl) pass0 (pk_cons (pv 3) (pk_cons (pv 1) pk_nil))) pa_nil)))
          (pa_cons (pe_lst (pa_cons (pv 7) (pa_cons (pv 7) pa_nil))) pa_nil))))) (pss_one (ps_ret pe_bl)) pss_nil)
      (pss_cons (ps_set (i := 8) scRight.nd rfl (.inl rfl) (pe_lst (pa_cons (pv 2) (pa_cons (pv 3) (pa_cons (pe_revT (pv 2)) (pa_cons (pe_op op_catB (pv 2) (pe_slice sl_preT (pv 2) po_none (po_some pe_int))) (pa_cons (pe_op op_catB (pv 2) (pe_tup (pa_cons (pv 1) pa_nil))) (pa_cons (pe_op op_catB (pe_tup (pa_cons (pe_un un_neg pe_int) pa_nil)) (pv 2))
          (pa_cons (pe_tup pa_nil) (pa_cons (pe_lst pa_nil) (pa_cons pe_non (pa_cons pe_int pa_nil))))))))))))
      (pss_cons (ps_set (i := 8) scRight.nd rfl (.inl rfl) (pe_op op_cat (pv 8) (pe_lst (pa_cons pe_str (pa_cons (pe_tup (pa_cons pe_bl pa_nil)) pa_nil)))))
      (pss_cons (ps_set (i := 8) scRight.nd rfl (.inl rfl) (pe_op op_cat (pv 8) (pe_lst (pa_cons (pe_tup (pa_cons pe_int pa_nil)) (pa_cons (pe_tup (pa_cons pe_int (pa_cons pe_int pa_nil))) (pa_cons (pe_tup (pa_cons pe_int (pa_cons pe_int pa_nil))) (pa_cons (pe_tup (pa_cons (pe_op op_pow pe_int pe_int) pa_nil)) (pa_cons (pe_tup (pa_cons pe_str pa_nil))
          (pa_cons (pe_tup (pa_cons (pe_tup (pa_cons pe_int pa_nil)) pa_nil)) (pa_cons (pe_tup (pa_cons (pe_op op_sub (pv 1) pe_int) pa_nil)) (pa_cons (pe_tup (pa_cons pe_bl (pa_cons pe_int pa_nil))) (pa_cons (pe_tup (pa_cons pe_non pa_nil)) pa_nil))))))))))))
      (pss_cons (ps_for PassesOwn.never rfl (pi_range1 rfl T.rangeM (pa_cons pe_int pa_nil)) (pg_name (i := 9) scRight.nd rfl (.inl rfl))
        (pss_one (ps_expr (pe_bm PySem.F.plainAttrs_list PySem.F.slot_list_append PySem.F.type_list_append mt_append (pv 8) (pa_cons (pe_call T.gBent hr (by rfl) T.bentG T.bentF.kp T.bentB .nil pass0 (pa_cons (pv 0) (pa_cons (pe_call T.gOf hr (by rfl) T.ofG T.ofF.kp T.ofB .nil pass0 (pa_cons (pv 0) (pa_cons (pe_lst (pa_cons (pv 2) (pa_cons (pv 7) pa_nil))) pa_nil))) pa_nil))) pa_nil)))))
      (pss_cons (ps_for PassesOwn.never rfl (pi_seqB (pv 8)) (pg_name (i := 10) scRight.nd rfl (.inl rfl))
        (pss_cons (ps_par (i := 11) (j := 12) (by rfl) scRight.nd rfl rfl (by decide) rfl rfl (pa_cons (pe_callB (cr_repr hG hr.units) (by rfl) T.reprM (by decide +kernel) (pa_cons (pv 10) pa_nil)) (pa_cons (pe_call T.gIsq hr (by rfl) T.isqG T.isqF.kp T.isqB .nil pass0 (pa_cons (pv 1) (pa_cons (pv 10) pa_nil))) pa_nil)) (by rfl))
        (pss_cons (ps_if (pt_not (pt_val (pe_call T.gSame hr (by rfl) T.sameG T.sameF.kp T.sameB .nil pass0 (pa_cons (pe_lst (pa_cons (pe_call T.gIsr hr (by rfl) T.isrG T.isrF.kp T.isrB .nil pass0 (pa_cons (pv 1) (pa_cons (pv 10) pa_nil))) (pa_cons (pe_named T.gIsr hr (by rfl) T.isrG T.isrF.kp (by2 (a := "plots") (b := "thing") T.isrF fun _ _ _ _ _ _ _ _ => rfl) pass0 (pk_cons (pv 10) (pk_cons (pv 1) pk_nil))) pa_nil)))
            (pa_cons (pe_lst (pa_cons (pv 12) (pa_cons (pv 12) pa_nil))) pa_nil))))) (pss_one (ps_ret pe_bl)) pss_nil)
        (pss_one (ps_if (pt_cmpR op_ne (pe_callB (cr_repr hG hr.units) (by rfl) T.reprM (by decide +kernel) (pa_cons (pv 10) pa_nil)) (pv 11) (nomark _)) (pss_one (ps_ret pe_bl)) pss_nil)))))
      (pss_one (ps_ret (pe_and (pe_cmpR (op_eqD hr.units) (pv 3) (pe_callTy call_list_of (by rfl) T.listM (by decide +kernel) (pa_cons (pv 2) pa_nil)) (nomark _))
        (pe_one (pe_cmpR op_isBl (pe_call T.gIsr hr (by rfl) T.isrG T.isrF.kp T.isrB .nil pass0 (pa_cons pe_int (pa_cons (pe_tup (pa_cons pe_int (pa_cons pe_int pa_nil))) pa_nil))) pe_bl (nomark _))))))))))))))))), ?_⟩
    -- the number of plots
    refine ⟨_, rfl, l, c, 17, rfl, hB, by decide, by decide, by omega, fun r1 us1 c1 r10 r11 hB1 hc1 => ?_⟩
    obtain ⟨n, rfl⟩ := Int.eq_ofNat_of_zero_le r10
    have e1 : ExB l H (upd H l (.lst us1)) := .box
    generalize (upd H l (.lst us1)) = H1 at e1 hB1
    -- the row
    refine ⟨_, rfl, _, rfl, _, rfl, _, rfl, _, _, rfl, rfl, l, c1, _, rfl, hB1, by omega, by omega, by omega, fun r2 us2 c2 r20 r21 hB2 hc2 => ?_⟩
    obtain ⟨m, rfl⟩ := Int.eq_ofNat_of_zero_le r20
    have e2 : ExB l H (upd H1 l (.lst us2)) := e1.trans .box
    generalize (upd H1 l (.lst us2)) = H2 at e2 hB2
    refine ⟨l, c2, n, m, rfl, hB2, by omega, by omega, by omega, fun H3 tq row c3 e3 hB3 hc3 hrow hrl htq0 htq => ?_⟩
    have e3' : ExB l H H3 := e2.trans e3
    have hn17 : n ≤ 16 := by omega
    have hrl9 : row.length ≤ 16 := by omega
    -- listed, counts, words
    refine ⟨_, rfl, tq, _, rfl, .inr (.inl (.inl htq)), fun ll hll => ?_⟩
    have x4 : Ex H3 (upd H3 ll (.lst (row.map V.int))) := Ex.new hll
    have htl4 : (upd H3 ll (.lst (row.map V.int))) ll = some (.lst (row.map V.int)) := upd_same
    generalize (upd H3 ll (.lst (row.map V.int))) = H4 at x4 htl4
    refine ⟨_, rfl, tq, row, rfl, .inl (.inl (x4 _ _ htq)), hrow.nd, by omega, fun H5 t5 ca wa e5 ht5 hca hwa nca nwa => ⟨(show 2 ≤ sizeLine by decide), fun T hT => ⟨T, _, rfl, .inl (.inl upd_same), rfl, _, _, rfl, _, _, rfl, t5, _, rfl, .inl (.inl (Ex.new (o := .tup [.ref ll, .ref t5]) hT _ _ ht5)), rfl, _, _, rfl, _, _, rfl, rfl, rfl, ?_⟩⟩⟩
    have x6 : Ex H3 (upd H5 T (.tup [.ref ll, .ref t5])) := (x4.trans e5).trans (Ex.new hT)
    have hca6 := Ex.new (o := .tup [.ref ll, .ref t5]) hT _ _ hca
    have hwa6 := Ex.new (o := .tup [.ref ll, .ref t5]) hT _ _ hwa
    have htl6 := (e5.trans (Ex.new (o := .tup [.ref ll, .ref t5]) hT)) _ _ htl4
    generalize (upd H5 T (.tup [.ref ll, .ref t5])) = H6 at x6 hca6 hwa6 htl6
    have htq6 := x6 _ _ htq
    have sq : ∀ {H' : Hp}, Ex H6 H' → SqB K true H' tq (row.map V.int) := fun e => .inl (.inl (e _ _ htq6))
    have sl : ∀ {H' : Hp}, Ex H6 H' → SqB K false H' ll (row.map V.int) := fun e => .inl (.inl (e _ _ htl6))
    have e6 : ExB l H H6 := e3'.trans (ExB.of x6)
    have hB6 := hB3.ex x6
    -- groups and houses
    refine ⟨_, rfl, true, tq, row, rfl, sq (Ex.refl _), hrow.nd, by omega, fun H7 t1 e7 nt1 ht1 => ⟨_, rfl, rfl, false, ll, row, rfl, sl e7, hrow.nd, by omega, fun H8 t2 e8 nt2 ht2 => ⟨_, rfl, true, tq, row, rfl, sq (e7.trans e8), hrow.nd, by omega, fun H9 t3 e9 nt3 ht3 => ⟨_, rfl, rfl, false, ll, row, rfl, sl ((e7.trans e8).trans e9), hrow.nd, by omega, fun H10 t4 e10 nt4 ht4 => ⟨(show 4 ≤ sizeLine by decide), fun to hto => ?_⟩⟩⟩⟩⟩
    have x10 := ((e7.trans e8).trans e9).trans e10
    have hgl : (grp row).length ≤ 1000 := by rw [grp_len]; omega
    have hpl : (dWords (picks row)).length ≤ 1000 := by unfold dWords; rw [List.length_map, picks_len]; omega
    have x11 : Ex H10 (upd H10 to (.lst [.ref t1, .ref t2, .ref t3, .ref t4])) := Ex.new hto
    have hto11 : (upd H10 to (.lst [.ref t1, .ref t2, .ref t3, .ref t4])) to = some (.lst [.ref t1, .ref t2, .ref t3, .ref t4]) := upd_same
    generalize (upd H10 to (.lst [.ref t1, .ref t2, .ref t3, .ref t4])) = H11 at x11 hto11
    have y11 := x10.trans x11
    refine ⟨_, rfl, _, rfl, ca, _, rfl, .inl ⟨.inl (.inl (y11 _ _ hca6)), fun tc ntc => ⟨(show 1 ≤ sizeLine by decide), fun q1 nq1 => ⟨q1, 2, _, rfl, rfl, upd_same, by decide, by decide, (show 1 * 2 ≤ sizeLine by decide), fun q2 nq2 => ?_⟩⟩⟩⟩
    have x12 := (Ex.new (o := .tup ((grp row).map V.int)) ntc).trans (Ex.new (o := .lst [.ref tc]) nq1)
    have x14 := x12.trans (Ex.new (o := .lst (List.replicate (2 : Int).toNat [V.ref tc]).flatten) nq2)
    have htc14 : (upd (upd (upd H11 tc (.tup ((grp row).map V.int))) q1 (.lst [.ref tc])) q2 (.lst (List.replicate (2 : Int).toNat [V.ref tc]).flatten)) tc = some (.tup ((grp row).map V.int)) := (Ex.new nq2) _ _ ((Ex.new nq1) _ _ upd_same)
    have hq14 : (upd (upd (upd H11 tc (.tup ((grp row).map V.int))) q1 (.lst [.ref tc])) q2 (.lst (List.replicate (2 : Int).toNat [V.ref tc]).flatten)) q2 = some (.lst [.ref tc, .ref tc]) := upd_same
    generalize (upd (upd (upd H11 tc (.tup ((grp row).map V.int))) q1 (.lst [.ref tc])) q2 (.lst (List.replicate (2 : Int).toNat [V.ref tc]).flatten)) = H14 at x14 htc14 hq14
    have y14 := y11.trans x14
    refine ⟨_, rfl, wa, _, rfl, .inl ⟨.inl (.inl (y14 _ _ hwa6)), fun tw ntw => ⟨(show 1 ≤ sizeLine by decide), fun q3 nq3 => ⟨q3, 2, _, rfl, rfl, upd_same, by decide, by decide, (show 1 * 2 ≤ sizeLine by decide), fun q4 nq4 => ?_⟩⟩⟩⟩
    have x15 := (Ex.new (o := .tup ((picks row).map wordV)) ntw).trans (Ex.new (o := .lst [.ref tw]) nq3)
    have x16 := x15.trans (Ex.new (o := .lst (List.replicate (2 : Int).toNat [V.ref tw]).flatten) nq4)
    have htw16 : (upd (upd (upd H14 tw (.tup ((picks row).map wordV))) q3 (.lst [.ref tw])) q4 (.lst (List.replicate (2 : Int).toNat [V.ref tw]).flatten)) tw = some (.tup ((picks row).map wordV)) := (Ex.new nq4) _ _ ((Ex.new nq3) _ _ upd_same)
    have hq16 : (upd (upd (upd H14 tw (.tup ((picks row).map wordV))) q3 (.lst [.ref tw])) q4 (.lst (List.replicate (2 : Int).toNat [V.ref tw]).flatten)) q4 = some (.lst [.ref tw, .ref tw]) := upd_same
    generalize (upd (upd (upd H14 tw (.tup ((picks row).map wordV))) q3 (.lst [.ref tw])) q4 (.lst (List.replicate (2 : Int).toNat [V.ref tw]).flatten)) = H16 at x16 htw16 hq16
    refine ⟨q2, q4, _, _, rfl, rfl, x16 _ _ hq14, hq16, (show 4 ≤ sizeLine by decide), fun q5 nq5 => ?_⟩
    have x17 : Ex H16 (upd H16 q5 (.lst ([V.ref tc, V.ref tc] ++ [V.ref tw, V.ref tw]))) := Ex.new nq5
    have hq17 : (upd H16 q5 (.lst ([V.ref tc, V.ref tc] ++ [V.ref tw, V.ref tw]))) q5 = some (.lst [.ref tc, .ref tc, .ref tw, .ref tw]) := upd_same
    generalize (upd H16 q5 (.lst ([V.ref tc, V.ref tc] ++ [V.ref tw, V.ref tw]))) = H17 at x17 hq17
    have z17 := x16.trans x17
    have y17 := x14.trans z17
    have dG : ∀ {t : Addr}, H17 t = some (.tup ((grp row).map V.int)) → Dp K H17 (.ref t) (.tuple (dInts (grp row))) := fun h => .tup (.inl (.inl h)) (dpa_ints _)
    have dW : ∀ {t : Addr}, H17 t = some (.tup ((picks row).map wordV)) → Dp K H17 (.ref t) (.tuple (dWords (picks row))) := fun h => .tup (.inl (.inl h)) (dpa_words _)
    have v17 := x11.trans y17
    refine ⟨.ref to, .ref q5, .list [.tuple (dInts (grp row)), .tuple (dInts (grp row)), .tuple (dWords (picks row)), .tuple (dWords (picks row))], rfl,
      .lst (.inl (.inl (y17 _ _ hto11))) (.cons (dG (v17 _ _ (e10 _ _ (e9 _ _ (e8 _ _ ht1))))) (.cons (dG (v17 _ _ (e10 _ _ (e9 _ _ ht2)))) (.cons (dW (v17 _ _ (e10 _ _ ht3))) (.cons (dW (v17 _ _ ht4)) .nil)))),
      .lst (.inl (.inl hq17)) (.cons (dG (z17 _ _ htc14)) (.cons (dG (z17 _ _ htc14)) (.cons (dW (x17 _ _ htw16)) (.cons (dW (x17 _ _ htw16)) .nil)))), ?_, fun H18 e18 => ⟨_, rfl, iteF ?_⟩⟩
    · refine on_seq (b := false) (show 4 ≤ 1000 by decide) fun x hx => ?_
      simp only [List.mem_cons, List.not_mem_nil, or_false] at hx
      have h1 : OnD (OnD (OnD NoD)) (.tuple (dInts (grp row))) := nest_flat (b := true) (by unfold dInts; rw [List.length_map]; exact hgl) (flat_dints _)
      have h2 : OnD (OnD (OnD NoD)) (.tuple (dWords (picks row))) := nest_flat (b := true) hpl (flat_dwords _)
      rcases hx with rfl | rfl | rfl | rfl
      · exact h1
      · exact h1
      · exact h2
      · exact h2
    have x18 : Ex H6 H18 := ((y11.trans y17)).trans e18
    clear dG dW v17 y17 z17 hq17 x17 x16 hq16 htw16 x15 y14 x14 hq14 htc14 x12 y11 hto11 x11 x10 e10 e9 e8 e7
    generalize himg : (row.map fun p => (n : Int) - 1 - p) = img
    have hil : img.length = row.length := by rw [← himg, List.length_map]
    -- the image
    refine ⟨_, rfl, true, tq, _, rfl, sq x18, fun D hD => lc_it (walk_seqB (K := K) (b := true) (a := tq) (xs := row.map V.int)) (fun i H' => Ex H18 H' ∧ H' D = some (.lst ((img.take i).map V.int))) ⟨Ex.new hD, upd_same⟩ (fun i H' _ c => sq (x18.trans c.1)) (fun i x H' H'' hi c y => ?_) (fun H19 c19 => ?_)⟩
    · obtain ⟨rfl, hx⟩ := y
      rw [List.getElem?_map] at hx
      obtain ⟨p, hp, rfl⟩ := Option.map_eq_some_iff.mp hx
      refine ⟨rfl, _, rfl, _, _, rfl, rfl, _, rfl, _, _, rfl, rfl, _, c.2, ?_, Ex.mut c.1 hD, ?_⟩
      · rw [List.length_map, List.length_take]
        exact small1000 (by omega)
      · rw [upd_same, take_next (x := (n : Int) - 1 - p) (by rw [← himg, List.getElem?_map, hp]; rfl), List.map_append]
        rfl
    rw [List.take_of_length_le (by rw [List.length_map]; omega)] at c19
    refine ⟨D, _, rfl, .inl ⟨.inl (.inl c19.2), fun ti nti => ?_⟩⟩
    have x20 : Ex H6 (upd H19 ti (.tup (img.map V.int))) := (x18.trans c19.1).trans (Ex.new nti)
    have hti20 : (upd H19 ti (.tup (img.map V.int))) ti = some (.tup (img.map V.int)) := upd_same
    generalize (upd H19 ti (.tup (img.map V.int))) = H20 at x20 hti20
    -- mirrored
    refine ⟨_, rfl, _, rfl, true, tq, n, row, rfl, sq x20, by omega, fun H21 m1 e21 nm1 hm1 => ⟨_, rfl, _, rfl, rfl, false, ll, n, row, rfl, sl (x20.trans e21), by omega, fun H22 m2 e22 nm2 hm2 => ⟨(show 2 ≤ sizeLine by decide), fun qa nqa => ⟨_, rfl, _, rfl, (show 2 ≤ sizeLine by decide), fun qb nqb => ?_⟩⟩⟩⟩
    rw [himg] at hm1 hm2
    have x23 : Ex H22 (upd (upd H22 qa (.lst [.ref m1, .ref m2])) qb (.lst [.ref ti, .ref ti])) := (Ex.new nqa).trans (Ex.new nqb)
    have hqa : (upd (upd H22 qa (.lst [.ref m1, .ref m2])) qb (.lst [.ref ti, .ref ti])) qa = some (.lst [.ref m1, .ref m2]) := (Ex.new nqb) _ _ upd_same
    have hqb : (upd (upd H22 qa (.lst [.ref m1, .ref m2])) qb (.lst [.ref ti, .ref ti])) qb = some (.lst [.ref ti, .ref ti]) := upd_same
    generalize (upd (upd H22 qa (.lst [.ref m1, .ref m2])) qb (.lst [.ref ti, .ref ti])) = H23 at x23 hqa hqb
    have dI : ∀ {t : Addr}, H23 t = some (.tup (img.map V.int)) → Dp K H23 (.ref t) (.tuple (dInts img)) := fun h => .tup (.inl (.inl h)) (dpa_ints _)
    refine ⟨.ref qa, .ref qb, .list [.tuple (dInts img), .tuple (dInts img)], rfl, .lst (.inl (.inl hqa)) (.cons (dI (x23 _ _ (e22 _ _ hm1))) (.cons (dI (x23 _ _ hm2)) .nil)),
      .lst (.inl (.inl hqb)) (.cons (dI (x23 _ _ (e22 _ _ (e21 _ _ hti20)))) (.cons (dI (x23 _ _ (e22 _ _ (e21 _ _ hti20)))) .nil)), ?_, fun H24 e24 => ⟨_, rfl, iteF ?_⟩⟩
    · refine on_seq (b := false) (show 2 ≤ 1000 by decide) fun x hx => ?_
      simp only [List.mem_cons, List.not_mem_nil, or_false] at hx
      have h1 : OnD (OnD (OnD NoD)) (.tuple (dInts img)) := nest_flat (b := true) (by unfold dInts; rw [List.length_map]; omega) (flat_dints _)
      rcases hx with rfl | rfl <;> exact h1
    have y24 := (e21.trans e22).trans (x23.trans e24)
    have hti := y24 _ _ hti20
    have x24 : Ex H6 H24 := x20.trans y24
    clear dI hqa hqb x23 hm1 hm2 y24 x20 hti20 x18 c19
    -- the first values
    have st : ∀ {H' : Hp}, Ex H6 H' → SqT K H' tq (row.map V.int) := fun e => .inl (.inl (e _ _ htq6))
    have hrm : (row.map V.int).length ≤ 16 := by rw [List.length_map]; exact hrl9
    refine ⟨_, rfl, _, rfl, _, rfl, tq, _, rfl, st x24, fun p1 np1 => ?_⟩
    have x25 : Ex H24 (upd H24 p1 (.tup (row.map V.int).reverse)) := Ex.new np1
    have hp1 : (upd H24 p1 (.tup (row.map V.int).reverse)) p1 = some (.tup (row.map V.int).reverse) := upd_same
    generalize (upd H24 p1 (.tup (row.map V.int).reverse)) = H25 at x25 hp1
    have y25 := x24.trans x25
    refine ⟨_, rfl, _, rfl, _, rfl, tq, _, 1, rfl, rfl, rfl, st y25, fun b2 H26 e26 hb2 => ⟨tq, b2, _, _, rfl, rfl, st (y25.trans e26), hb2, ?_, fun p2 H27 e27 hp2 => ?_⟩⟩
    · rw [List.length_take]
      exact Nat.le_of_lt (small1000 (by omega))
    have y27 := (y25.trans e26).trans e27
    refine ⟨_, rfl, _, rfl, (show 1 ≤ sizeLine by decide), fun T1 nT1 => ⟨tq, T1, _, _, rfl, rfl, st (y27.trans (Ex.new nT1)), .inl (.inl upd_same), ?_, fun p3 H28 e28 hp3 => ?_⟩⟩
    · exact Nat.le_of_lt (small1000 (by simp; omega))
    have y28 := (y27.trans (Ex.new nT1)).trans e28
    refine ⟨1, rfl, (show 1 ≤ sizeLine by decide), fun T2 nT2 => ⟨_, rfl, T2, tq, _, _, rfl, rfl, .inl (.inl upd_same), st (y28.trans (Ex.new nT2)), ?_, fun p4 H29 e29 hp4 => ?_⟩⟩
    · exact Nat.le_of_lt (small1000 (by simp; omega))
    have y29 := (y28.trans (Ex.new nT2)).trans e29
    refine ⟨Nat.zero_le _, fun T3 nT3 => ⟨Nat.zero_le _, fun L4 nL4 => ⟨(show 10 ≤ sizeLine by decide), fun M0 nM0 => ?_⟩⟩⟩
    have a30 : Ex H29 (upd (upd (upd H29 T3 (.tup [])) L4 (.lst [])) M0 (.lst [.ref tq, .ref ll, .ref p1, .ref p2, .ref p3, .ref p4, .ref T3, .ref L4, .non, .int 0])) := ((Ex.new nT3).trans (Ex.new nL4)).trans (Ex.new nM0)
    have hT3 : (upd (upd (upd H29 T3 (.tup [])) L4 (.lst [])) M0 (.lst [.ref tq, .ref ll, .ref p1, .ref p2, .ref p3, .ref p4, .ref T3, .ref L4, .non, .int 0])) T3 = some (.tup []) := (Ex.new nM0) _ _ ((Ex.new nL4) _ _ upd_same)
    have hL4 : (upd (upd (upd H29 T3 (.tup [])) L4 (.lst [])) M0 (.lst [.ref tq, .ref ll, .ref p1, .ref p2, .ref p3, .ref p4, .ref T3, .ref L4, .non, .int 0])) L4 = some (.lst []) := (Ex.new nM0) _ _ upd_same
    have hM0 : (upd (upd (upd H29 T3 (.tup [])) L4 (.lst [])) M0 (.lst [.ref tq, .ref ll, .ref p1, .ref p2, .ref p3, .ref p4, .ref T3, .ref L4, .non, .int 0])) M0 = some (.lst [.ref tq, .ref ll, .ref p1, .ref p2, .ref p3, .ref p4, .ref T3, .ref L4, .non, .int 0]) := upd_same
    generalize (upd (upd (upd H29 T3 (.tup [])) L4 (.lst [])) M0 (.lst [.ref tq, .ref ll, .ref p1, .ref p2, .ref p3, .ref p4, .ref T3, .ref L4, .non, .int 0])) = H30 at a30 hT3 hL4 hM0
    refine ⟨_, rfl, (show 1 ≤ sizeLine by decide), fun T5 nT5 => ⟨(show 2 ≤ sizeLine by decide), fun L6 nL6 => ⟨M0, L6, _, _, rfl, rfl, (Ex.new nL6) _ _ ((Ex.new nT5) _ _ hM0), upd_same, (show 12 ≤ sizeLine by decide), fun M1 nM1 => ?_⟩⟩⟩
    have a31 : Ex H30 (upd (upd (upd H30 T5 (.tup [.bl true])) L6 (.lst [.str "0", .ref T5])) M1 (.lst ([V.ref tq, .ref ll, .ref p1, .ref p2, .ref p3, .ref p4, .ref T3, .ref L4, .non, .int 0] ++ [V.str "0", .ref T5]))) := ((Ex.new nT5).trans (Ex.new nL6)).trans (Ex.new nM1)
    have hT5 : (upd (upd (upd H30 T5 (.tup [.bl true])) L6 (.lst [.str "0", .ref T5])) M1 (.lst ([V.ref tq, .ref ll, .ref p1, .ref p2, .ref p3, .ref p4, .ref T3, .ref L4, .non, .int 0] ++ [V.str "0", .ref T5]))) T5 = some (.tup [.bl true]) := (Ex.new nM1) _ _ ((Ex.new nL6) _ _ upd_same)
    have hM1 : (upd (upd (upd H30 T5 (.tup [.bl true])) L6 (.lst [.str "0", .ref T5])) M1 (.lst ([V.ref tq, .ref ll, .ref p1, .ref p2, .ref p3, .ref p4, .ref T3, .ref L4, .non, .int 0] ++ [V.str "0", .ref T5]))) M1 = some (.lst ([V.ref tq, .ref ll, .ref p1, .ref p2, .ref p3, .ref p4, .ref T3, .ref L4, .non, .int 0] ++ [V.str "0", .ref T5])) := upd_same
    generalize (upd (upd (upd H30 T5 (.tup [.bl true])) L6 (.lst [.str "0", .ref T5])) M1 (.lst ([V.ref tq, .ref ll, .ref p1, .ref p2, .ref p3, .ref p4, .ref T3, .ref L4, .non, .int 0] ++ [V.str "0", .ref T5]))) = H31 at a31 hT5 hM1
    refine ⟨_, rfl, (show 1 ≤ sizeLine by decide), fun u1 nu1 => ⟨(show 2 ≤ sizeLine by decide), fun u2 nu2 => ⟨(show 2 ≤ sizeLine by decide), fun u3 nu3 => ⟨10, 30, rfl, rfl, ⟨by decide, by decide, by decide⟩, (show 1 ≤ sizeLine by decide), fun u4 nu4 => ⟨(show 1 ≤ sizeLine by decide), fun u5 nu5 =>
      ⟨(show 1 ≤ sizeLine by decide), fun v1 nv1 => ⟨(show 1 ≤ sizeLine by decide), fun u6 nu6 => ⟨_, rfl, _, _, rfl, rfl, (show 1 ≤ sizeLine by decide), fun u7 nu7 => ⟨(show 2 ≤ sizeLine by decide), fun u8 nu8 => ⟨(show 1 ≤ sizeLine by decide), fun u9 nu9 => ⟨(show 9 ≤ sizeLine by decide), fun L7 nL7 => ?_⟩⟩⟩⟩⟩⟩⟩⟩⟩⟩⟩
    have c1 := Ex.new (o := .tup [.int 0]) nu1
    have c2 := Ex.new (o := .tup [.int 0, .int 0]) nu2
    have c3 := Ex.new (o := .tup [.int 1, .int 0]) nu3
    have c4 := Ex.new (o := .tup [.int (10 ^ (30 : Int).toNat)]) nu4
    have c5 := Ex.new (o := .tup [.str "0"]) nu5
    have c6 := Ex.new (o := .tup [.int 0]) nv1
    have c7 := Ex.new (o := .tup [.ref v1]) nu6
    have c8 := Ex.new (o := .tup [.int ((n : Int) - 1)]) nu7
    have c9 := Ex.new (o := .tup [.bl false, .int 1]) nu8
    have c10 := Ex.new (o := .tup [.non]) nu9
    have k11 := new_at (o := .lst [V.ref u1, .ref u2, .ref u3, .ref u4, .ref u5, .ref u6, .ref u7, .ref u8, .ref u9]) nL7
    have c11 := k11.1
    have w11 := k11.2
    have d10 := c10.trans c11
    have d9 := c9.trans d10
    have d8 := c8.trans d9
    have d7 := c7.trans d8
    have d6 := c6.trans d7
    have d5 := c5.trans d6
    have d4 := c4.trans d5
    have d3 := c3.trans d4
    have d2 := c2.trans d3
    have d1 := c1.trans d2
    have w1 := d2 u1 _ upd_same
    have w2 := d3 u2 _ upd_same
    have w3 := d4 u3 _ upd_same
    have w4 := d5 u4 _ upd_same
    have w5 := d6 u5 _ upd_same
    have w6 := d7 v1 _ upd_same
    have w7 := d8 u6 _ upd_same
    have w8 := d9 u7 _ upd_same
    have w9 := d10 u8 _ upd_same
    have w10 := c11 u9 _ upd_same
    clear c1 c2 c3 c4 c5 c6 c7 c8 c9 c10 c11 d2 d3 d4 d5 d6 d7 d8 d9 d10 k11
    generalize (upd (upd _ u9 _) L7 _) = H32 at d1 w1 w2 w3 w4 w5 w6 w7 w8 w9 w10 w11 ⊢
    have y31 := (y29.trans a30).trans a31
    have y32 := y31.trans d1
    have hB32 := hB6.ex y32
    have nln : ∀ {b : Addr} {H' : Hp}, Ex H6 H' → H' b = none → b ≠ l := fun e z => Ne.symm (ne_of_none (e _ _ hB6.at.choose_spec) z)
    have hllne : ll ≠ l := Ne.symm (ne_of_none hB3.at.choose_spec hll)
    refine ⟨M1, L7, _, _, rfl, rfl, d1 _ _ hM1, w11, (show 21 ≤ sizeLine by decide), fun M nM => ?_⟩
    have hl32 := hB32.at
    have tI : ∀ {t : Addr} {ns : List Int}, SqT K H32 t (ns.map V.int) → Dp K (off l H32) (.ref t) (.tuple (dInts ns)) := fun h => .tup (offT h hl32) (dpa_ints _)
    have tO : ∀ {t : Addr} {xs : List V}, H32 t = some (.tup xs) → SqT K (off l H32) t xs := fun h => offT (.inl (.inl h)) hl32
    have y27' := ((((Ex.new nT1).trans e28).trans (Ex.new nT2)).trans e29).trans ((a30.trans a31).trans d1)
    have y28' := ((Ex.new nT2).trans e29).trans ((a30.trans a31).trans d1)
    have y29' := (a30.trans a31).trans d1
    have q1 : Dp K (off l H32) (.ref p1) (.tuple (dInts row.reverse)) := tI (by
      rw [List.map_reverse]
      exact .inl (.inl ((((e26.trans e27).trans y27')) _ _ hp1)))
    have q2 : Dp K (off l H32) (.ref p2) (.tuple (dInts (row ++ row.take 1))) := tI (by
      rw [List.map_append, List.map_take]
      exact Evl.ex_t y27' hp2)
    have q3 : Dp K (off l H32) (.ref p3) (.tuple (dInts (row ++ [(n : Int)]))) := tI (by
      rw [List.map_append]
      exact Evl.ex_t y28' hp3)
    have q4 : Dp K (off l H32) (.ref p4) (.tuple (dInts (-1 :: row))) := tI (Evl.ex_t y29' hp4)
    have hL4' : off l H32 L4 = some (.lst []) := by
      rw [off_ne (fun z => by
        have h3 := d1 _ _ (a31 _ _ hL4)
        rw [z] at h3
        obtain ⟨ys, h4, h5⟩ := hB32.three
        rw [h4] at h3
        cases h3
        cases h5)]
      exact d1 _ _ (a31 _ _ hL4)
    have hll' : off l H32 ll = some (.lst (row.map V.int)) := by
      rw [off_ne hllne]
      exact y32 _ _ htl6
    have hD : DpAll K (off l H32) ([V.ref tq, V.ref ll, V.ref p1, V.ref p2, V.ref p3, V.ref p4, V.ref T3, V.ref L4, V.non, V.int 0] ++ [V.str (Str.ofString "0"), V.ref T5] ++ [V.ref u1, V.ref u2, V.ref u3, V.ref u4, V.ref u5, V.ref u6, V.ref u7, V.ref u8, V.ref u9])
        (mats n row) :=
      dpa_app (dpa_app (.cons (tI (st y32)) (.cons (.lst (.inl (.inl hll')) (dpa_ints _)) (.cons q1 (.cons q2 (.cons q3 (.cons q4 (.cons (.tup (tO (d1 _ _ (a31 _ _ hT3))) .nil) (.cons (.lst (.inl (.inl hL4')) .nil) (.cons .non (.cons (.int _) .nil))))))))))
        (.cons (.str _) (.cons (.tup (tO (d1 _ _ hT5)) (.cons (.bl _) .nil)) .nil)))
        (.cons (.tup (tO w1) (.cons (.int _) .nil)) (.cons (.tup (tO w2) (.cons (.int _) (.cons (.int _) .nil))) (.cons (.tup (tO w3) (.cons (.int _) (.cons (.int _) .nil))) (.cons (.tup (tO w4) (.cons (.int _) .nil)) (.cons (.tup (tO w5) (.cons (.str _) .nil))
          (.cons (.tup (tO w7) (.cons (.tup (tO w6) (.cons (.int _) .nil)) .nil)) (.cons (.tup (tO w8) (.cons (.int _) .nil)) (.cons (.tup (tO w9) (.cons (.bl _) (.cons (.int _) .nil))) (.cons (.tup (tO w10) (.cons .non .nil)) .nil)))))))))
    have hOk := okd_mats hn17 hrl9 (fun p hp => ⟨hrow.lo p hp, by have := hrow.hi p hp; omega⟩)
    have hMl : M ≠ l := nln y32 nM
    have hti32 : H32 ti = some (.tup (img.map V.int)) := (((x25.trans (e26.trans e27)).trans y27')) _ _ hti
    have z33 : Ex H32 (upd H32 M (.lst ([V.ref tq, V.ref ll, V.ref p1, V.ref p2, V.ref p3, V.ref p4, V.ref T3, V.ref L4, V.non, V.int 0] ++ [V.str (Str.ofString "0"), V.ref T5] ++ [V.ref u1, V.ref u2, V.ref u3, V.ref u4, V.ref u5, V.ref u6, V.ref u7, V.ref u8, V.ref u9]))) := Ex.new nM
    have hD33 := dpa_ex (off_add (l := l) (o := .lst ([V.ref tq, V.ref ll, V.ref p1, V.ref p2, V.ref p3, V.ref p4, V.ref T3, V.ref L4, V.non, V.int 0] ++ [V.str (Str.ofString "0"), V.ref T5] ++ [V.ref u1, V.ref u2, V.ref u3, V.ref u4, V.ref u5, V.ref u6, V.ref u7, V.ref u8, V.ref u9])) nM) hD
    have hM33 : (upd H32 M (.lst ([V.ref tq, V.ref ll, V.ref p1, V.ref p2, V.ref p3, V.ref p4, V.ref T3, V.ref L4, V.non, V.int 0] ++ [V.str (Str.ofString "0"), V.ref T5] ++ [V.ref u1, V.ref u2, V.ref u3, V.ref u4, V.ref u5, V.ref u6, V.ref u7, V.ref u8, V.ref u9]))) M = some (.lst ([V.ref tq, V.ref ll, V.ref p1, V.ref p2, V.ref p3, V.ref p4, V.ref T3, V.ref L4, V.non, V.int 0] ++ [V.str (Str.ofString "0"), V.ref T5] ++ [V.ref u1, V.ref u2, V.ref u3, V.ref u4, V.ref u5, V.ref u6, V.ref u7, V.ref u8, V.ref u9])) := upd_same
    have hlen21 : ([V.ref tq, V.ref ll, V.ref p1, V.ref p2, V.ref p3, V.ref p4, V.ref T3, V.ref L4, V.non, V.int 0] ++ [V.str (Str.ofString "0"), V.ref T5] ++ [V.ref u1, V.ref u2, V.ref u3, V.ref u4, V.ref u5, V.ref u6, V.ref u7, V.ref u8, V.ref u9]).length = 21 := rfl
    generalize ([V.ref tq, V.ref ll, V.ref p1, V.ref p2, V.ref p3, V.ref p4, V.ref T3, V.ref L4, V.non, V.int 0] ++ [V.str (Str.ofString "0"), V.ref T5] ++ [V.ref u1, V.ref u2, V.ref u3, V.ref u4, V.ref u5, V.ref u6, V.ref u7, V.ref u8, V.ref u9]) = xs0 at hD hD33 hM33 hlen21 z33
    generalize (upd H32 M (.lst xs0)) = H33 at z33 hD33 hM33
    have y33 := y32.trans z33
    have himb : ∀ p ∈ img, 0 ≤ p ∧ p ≤ 1000 := fun p hp => by
      rw [← himg] at hp
      obtain ⟨x, hx, rfl⟩ := List.mem_map.mp hp
      have h1 := hrow.lo x hx
      have h2 := hrow.hi x hx
      omega
    have hrwb : ∀ p ∈ row, 0 ≤ p ∧ p ≤ 1000 := fun p hp => ⟨hrow.lo p hp, by have := hrow.hi p hp; omega⟩
    -- ten values more
    refine ⟨_, rfl, by decide, by decide, for_range (lo := 0) (n := 10) (fun i σ Hc => ∃ y9 ci xs ds, σ = [some (.ref l), some (.int n), some (.ref tq), some (.ref ll), some (.ref ca), some (.ref wa), some (.ref to), some (.ref ti), some (.ref M), y9, none, none, none, none] ∧ ExB l H Hc ∧ BoxAt Hc l ci ∧ ci ≤ c3 + 5 * i ∧
      Hc M = some (.lst xs) ∧ xs.length ≤ 21 + i ∧ DpAll K (off M (off l Hc)) xs ds ∧ (∀ d ∈ ds, Okd d) ∧ Hc tq = some (.tup (row.map V.int)) ∧ Hc ti = some (.tup (img.map V.int)) ∧ Hc ll = some (.lst (row.map V.int))) ?_ ?_ ?_⟩
    · exact ⟨none, c3, xs0, mats n row, rfl, e6.trans (ExB.of y33), hB6.ex y33, by omega, hM33, by omega, hD33, hOk, y33 _ _ htq6, z33 _ _ hti32, y33 _ _ htl6⟩
    · rintro i σ Hc hi ⟨y9, ci, xs, ds, rfl, eb, hBc, hci, hM, hxl, hDc, hOc, hq, hti', hl'⟩
      have hlM : l ≠ M := Ne.symm hMl
      refine ⟨_, rfl, .inl ⟨rfl, _, .inl (.inl hM)⟩, _, rfl, _, rfl, _, rfl, _, rfl, (show 2 ≤ sizeLine by decide), fun Lq nLq => ?_⟩
      have f1 : Ex Hc (upd Hc Lq (.lst [.ref tq, .ref ti])) := Ex.new nLq
      have hLq : (upd Hc Lq (.lst [.ref tq, .ref ti])) Lq = some (.lst [.ref tq, .ref ti]) := upd_same
      have hlq : l ≠ Lq := ne_of_none hBc.at.choose_spec nLq
      generalize (upd Hc Lq (.lst [.ref tq, .ref ti])) = Hd at f1 hLq
      refine ⟨l, Lq, ci, false, _, rfl, hBc.ex f1, hlq, .inl (.inl hLq), (show 1 ≤ 2 by decide), (show 2 ≤ 1000 by decide), by omega, fun r x ys c' hx hB'' hc' => ?_⟩
      have eb2 : ExB l Hc (upd Hd l (.lst ys)) := (ExB.of f1).trans .box
      generalize (upd Hd l (.lst ys)) = He at hB'' eb2
      have hqe := eb2 _ _ (fun z => by rw [z, hBc.at.choose_spec] at hq; cases hq) hq
      have hte := eb2 _ _ (fun z => by rw [z, hBc.at.choose_spec] at hti'; cases hti') hti'
      have hle := eb2 _ _ hllne hl'
      have hMe := eb2 _ _ hMl hM
      have pick2 : ∃ (ad : Addr) (ns : List Int), x = .ref ad ∧ He ad = some (.tup (ns.map V.int)) ∧ ns.length ≤ 16 ∧ (∀ p ∈ ns, 0 ≤ p ∧ p ≤ 1000) := by
        match r, hx with
        | 0, hx => exact ⟨tq, row, (Option.some.inj hx).symm, hqe, hrl9, hrwb⟩
        | 1, hx => exact ⟨ti, img, (Option.some.inj hx).symm, hte, by omega, himb⟩
        | r + 2, hx => cases hx
      obtain ⟨ad, ns, rfl, had, hns, hnb⟩ := pick2
      refine ⟨l, c', .ref ad, OddT ns, rfl, hB'', by omega, ⟨ad, ns, rfl, .inl (.inl had), by omega, hnb, rfl⟩, fun xv d Hf cf hOd hDp hBf hcf ebf => ?_⟩
      have hMf := ebf _ _ hMl hMe
      have e9 : ExB l Hc Hf := eb2.trans ebf
      refine ⟨M, xs, xv, rfl, rfl, hMf, small1000 (by omega), _, cf, xs ++ [xv], ds ++ [d], rfl, ?_, hBf.upd hlM, by omega, upd_same, by rw [List.length_append]; simp; omega, ?_, ?_, ?_, ?_, ?_⟩
      · exact (eb.trans e9).mut (freshB (e6.trans (ExB.of y32)) (some_ne hB32.at.choose_spec) nM)
      · refine dpa_app (dpa_ex (off_mono fun b o h1 h2 hb => ?_) hDc) (.cons (dp_ex ?_ hDp) .nil)
        · rw [upd_ne h2]
          exact e9 b o h1 hb
        · exact (off_nw (some_ne hB''.at.choose_spec) (some_ne hMe)).trans (off_mono fun b o h1 h2 hb => by rw [upd_ne h2]; exact hb)
      · intro x hx
        rcases List.mem_append.mp hx with hx | hx
        · exact hOc x hx
        · rw [List.mem_singleton.mp hx]
          exact okd_bent (by omega) hnb hOd
      · rw [upd_ne (fun z => by rw [z, hMe] at hqe; cases hqe)]
        exact ebf _ _ (fun z => by rw [z, hB''.at.choose_spec] at hqe; cases hqe) hqe
      · rw [upd_ne (fun z => by rw [z, hMe] at hte; cases hte)]
        exact ebf _ _ (fun z => by rw [z, hB''.at.choose_spec] at hte; cases hte) hte
      · rw [upd_ne (Ne.symm (ne_of_none (y32 _ _ htl6) nM |>.symm))]
        exact ebf _ _ hllne hle
    · rintro σ Hc ⟨y9, ci, xs, ds, rfl, eb, hBc, hci, hM, hxl, hDc, hOc, hq, hti', hl'⟩
      have hDh : DpAll K Hc xs ds := dpa_ex (fun b o hb => off_ex b o (off_ex b o hb)) hDc
      have hdl := dpa_len hDh
      refine ⟨_, rfl, false, M, xs, rfl, .inl (.inl hM), for_it (walk_seqB (K := K) (b := false) (a := M) (xs := xs)) (fun i σ H3 => ∃ y10 y11 y12, σ = [some (.ref l), some (.int n), some (.ref tq), some (.ref ll), some (.ref ca), some (.ref wa), some (.ref to), some (.ref ti), some (.ref M), y9, y10, y11, y12, none] ∧ Ex Hc H3) ?_ ?_ ?_ ?_⟩
      · exact ⟨none, none, none, rfl, Ex.refl _⟩
      · rintro i σ H3 _ ⟨_, _, _, _, e3⟩
        exact .inl (.inl (e3 _ _ hM))
      · rintro i x σ H3 H3' hi ⟨y10, y11, y12, rfl, e3⟩ ⟨rfl, hx⟩
        obtain ⟨dd, hd1, hd2⟩ := dpa_get hDh hx
        have hok := hOc dd (List.mem_of_getElem? hd1)
        have hz : dd.shown.length ≤ sizeLine := Nat.le_trans hok.1.ln (by decide)
        have hdp : dd.depth ≤ 40 := Nat.le_trans hok.1.dp (by decide)
        refine ⟨_, rfl, x, dd, rfl, dp_ex e3 hd2, hok.1.sh, hok.1.nd, hdp, hz, _, rfl, _, rfl, x, dd, n, rfl, dp_ex e3 hd2, hok.2, fun H4 e4 => ⟨_, _, rfl, ?_⟩⟩
        have f4 := e3.trans e4
        refine ⟨_, rfl, _, rfl, x, dd, n, rfl, dp_ex f4 hd2, hok.2, fun H5 e5 => ⟨_, rfl, _, rfl, rfl, x, dd, n, rfl, dp_ex (f4.trans e5) hd2, hok.2, fun H6' e6' => ⟨(show 2 ≤ sizeLine by decide), fun qa nqa => ⟨_, rfl, _, rfl, (show 2 ≤ sizeLine by decide), fun qb nqb => ?_⟩⟩⟩⟩
        have f6 := (f4.trans e5).trans e6'
        have f7 := f6.trans ((Ex.new (o := .lst [.bl (rowD n dd), .bl (rowD n dd)]) nqa).trans (Ex.new (o := .lst [.bl (rowD n dd), .bl (rowD n dd)]) nqb))
        refine ⟨.ref qa, .ref qb, .list [.bool (rowD n dd), .bool (rowD n dd)], rfl, .lst (.inl (.inl ((Ex.new nqb) _ _ upd_same))) (.cons (.bl _) (.cons (.bl _) .nil)), .lst (.inl (.inl upd_same)) (.cons (.bl _) (.cons (.bl _) .nil)), ?_, fun H8 e8 => ⟨_, rfl, iteF ?_⟩⟩
        · refine on_seq (b := false) (show 2 ≤ 1000 by decide) fun x hx => ?_
          simp only [List.mem_cons, List.not_mem_nil, or_false] at hx
          rcases hx with rfl | rfl <;> exact on_flat rfl
        have f8 := f7.trans e8
        refine ⟨_, rfl, x, dd, rfl, dp_ex f8 hd2, hok.1.sh, hok.1.nd, hdp, hz, _, rfl, rfl, _, rfl, ?_⟩
        refine ite2 (fun z => ?_) (fun _ => ⟨_, _, _, rfl, f8⟩)
        rw [decide_eq_true rfl] at z
        cases z
      · rintro σ H3 ⟨y10, y11, y12, rfl, e3⟩
        refine ⟨_, rfl, _, rfl, tq, _, rfl, .inr (.inl (.inl (e3 _ _ hq))), fun lq nlq => ?_⟩
        have f4 := e3.trans (Ex.new (o := .lst (row.map V.int)) nlq)
        have refl1 : PyData.eqv (.list (dInts row)) (.list (dInts row)) = true := SeqAt.eqv_refl _ (SeqAt.canLay_of_shaped (sh_ints row).1)
        refine ⟨_, _, .lst (.inl (.inl (f4 _ _ hl'))) (dpa_ints row), .lst (.inl (.inl upd_same)) (dpa_ints row), (sh_ints row).1, (sh_ints row).1, true, by rw [refl1], ?_⟩
        refine ⟨(show 2 ≤ sizeLine by decide), fun tt ntt => ⟨.ref tt, .tuple [.int 15, .int 0], 16, rfl, .tup (.inl (.inl upd_same)) (.cons (.int _) (.cons (.int _) .nil)), (show 2 ≤ 900 by decide), fun H5 e5 => ?_⟩⟩
        have f5 := (f4.trans (Ex.new (o := .tup [.int 15, .int 0]) ntt)).trans e5
        have er : rowD 16 (.tuple [.int 15, .int 0]) = true := by decide
        refine ⟨_, _, rfl, rfl, ?_⟩
        rw [er]
        exact q _ ci (eb.trans (ExB.of f5)) (hBc.ex f5) (by omega)
end
end Og

namespace Og
open PySem PySem.Spec PyProof.Rows L2 OgR Evl OgM
section
variable {P : Program} {w : World} {K : PySem.W.Frag} {mg : Str → Option Value} {base : Heap} {a : Adr1} {d : Fds1}
def spLaw (K : PySem.W.Frag) : Sp := fun vs H Q _ => ∃ (s : Addr) (ns : List Int), vs = [.ref s] ∧ SqL K H s (ns.map V.int) ∧ ns.length ≤ 63 ∧ ∀ H', Q (.bl true) H'
theorem ok_law {f : Addr} {fd : FuncData} (F : Fun K "law" "law" sLaw f fd) (T : Top1 w K mg a d) : FnG P w K mg base 6 f fd ["_law_script"] (spLaw K) := by
  have GB : FnOk P w K mg base CX0 5 a.boxA d.boxD ["_law_script", "_law_k"] (spBox K) := (ok_box T.boxF T.cellF T.cellB T.cellG T.lenM T.absM T.intM).mono (by decide)
  have GR : FnG P w K mg base 5 a.rightA d.rightD ["_law_box_here"] spRight := ok_right T
  refine fnG_of F scLaw (fun vs H Q E h => ?_) (fun cdv A outer s H vs Q E hG hr h => ?_)
  · obtain ⟨_, _, rfl, _⟩ := h
    rfl
  · obtain ⟨sc, ns, rfl, hS, hlen, q⟩ := h
    refine ⟨_, pss_cons (ps_for PassesOwn.never rfl (pi_range1 rfl T.rangeM (pa_cons (pe_op op_add pe_int (pe_callB (call_min2 (by rfl)) (by rfl) T.minM (by decide +kernel) (pa_cons pe_int (pa_cons (pe_callB call_len_seq (by rfl) T.lenM PySem.boot_len (pa_cons (pv 0) pa_nil)) pa_nil)))) pa_nil)) (pg_name (i := 1) scLaw.nd rfl (.inl rfl))
        (pss_cons (ps_set (i := 2) scLaw.nd rfl (.inr rfl) (pe_call GB hr (by rfl) T.boxG T.boxF.kp T.boxB .nil pass0 (pa_cons (pv 0) (pa_cons (pv 1) pa_nil))))
        (pss_one (ps_if (pt_not (pt_val (pe_callB (cr_all (by rfl)) (by rfl) T.allM (by decide +kernel) (pa_cons
          (pe_lc (own := [("_law_turn", 3)]) (g := gName 3) (by rfl) scLaw.nd (pi_range1 rfl T.rangeM (pa_cons pe_int pa_nil))
            (blkOk_by (own := [("_law_turn", 3)]) (N := ["_law_script", "_law_k", "_law_box_here", "_law_turn"]) (sc := defScope sLaw) (by decide +kernel))
            (fun _ _ _ _ _ => pg_name (i := 3) scLaw.nd rfl (Or.inl rfl) (hf := Or.inr rfl))
            (fun _ _ _ _ _ => pts_nil)
            (fun _ _ _ _ _ => pe_callG (E := E0) GR hG hr (by rfl) T.rightG T.rightF.kp T.rightB (pa_cons (pv 2) pa_nil))) pa_nil)))) (pss_one (ps_ret pe_bl)) pss_nil))))
      (pss_one (ps_ret pe_bl)), ?_⟩
    have hmin : ∀ j : Int, 0 ≤ j → (0 : Int) ≤ (if j < 3 then j else 3) ∧ (if j < 3 then j else 3) ≤ 3 := fun j h => by split <;> omega
    have hm := hmin ((ns.map V.int).length : Int) (by omega)
    refine ⟨_, rfl, sc, _, rfl, .inl hS, _, _, rfl, _, _, rfl, rfl, _, rfl, by omega, by omega, for_range (lo := 0) (fun i σ H3 => ∃ y1 y2, σ = [some (.ref sc), y1, y2, none] ∧ SqL K H3 sc (ns.map V.int)) ?_ ?_ ?_⟩
    · exact ⟨none, none, rfl, hS⟩
    · rintro i σ H3 hi ⟨y1, y2, rfl, hS3⟩
      have hi4 : i ≤ 1000 := by omega
      rw [Int.zero_add]
      refine ⟨_, rfl, _, rfl, sc, ns, i, rfl, hS3, hi4, fun l x y hl hx hy hy2 => ?_⟩
      have hB0 : BoxAt (upd H3 l (.lst [.int x, .int y, .int 0])) l 0 := ⟨x, y, upd_same, hx, hy, hy2, by omega, by omega⟩
      have e0 : Ex H3 (upd H3 l (.lst [.int x, .int y, .int 0])) := Ex.new hl
      generalize (upd H3 l (.lst [.int x, .int y, .int 0])) = H4 at hB0 e0
      obtain ⟨bx, hbx⟩ := hB0.at
      refine ⟨3, rfl, by decide, by decide, fun D hD => lc_range (lo := 0) (n := 3) (fun j H' => ExB l H4 H' ∧ H' D = some (.lst ((List.replicate j true).map V.bl)) ∧ ∃ c', BoxAt H' l c' ∧ c' ≤ 1000 * (j : Int)) ⟨.of (Ex.new hD), upd_same, 0, hB0.ex (Ex.new hD), by omega⟩ (fun j H' hj c => ?_) (fun H5 c => ?_)⟩
      · obtain ⟨c1, c2, c', c3, c4⟩ := c
        have nlD : D ≠ l := Ne.symm (ne_of_none hbx hD)
        refine ⟨rfl, _, rfl, l, c', rfl, c3, by omega, fun H6 c6 e6 hB6 hc6 => ?_⟩
        refine ⟨_, e6 _ _ nlD c2, ?_, (c1.trans e6).mut hD, ?_, c6, hB6.upd (Ne.symm nlD), by omega⟩
        · rw [List.length_map, List.length_replicate]
          exact small1000 (by omega)
        · rw [upd_same, rep_snoc, List.map_append]
          rfl
      · obtain ⟨c1, c2, _⟩ := c
        refine ⟨D, _, rfl, .inl (.inl c2), _, rfl, ?_⟩
        rw [rep_all]
        refine iteF ⟨_, _, rfl, ?_⟩
        have e5 : Ex H3 H5 := fun b o hb => c1 b o (ne_of_none hb hl) (e0 b o hb)
        exact ex_l e5 hS3
    · rintro σ H3 _
      exact q _
end
theorem all_mk {l : PySem.W.OpenLaw} {w : World} {K : PySem.W.Frag} {h : Heap} {mg : Str → Option Value} {fa : Addr} (X : K.In h) (G : h.Ns mainGlobals mg) (hfa : mg "law" = some (.ref fa))
    {f0 f1 f2 f3 f4 f5 f6 f7 f8 f9 f10 f11 f12 f13 f14 f15 f16 f17 f18 f19 aW : Addr} {od0 an0 od1 an1 od2 an2 od3 an3 od4 an4 od5 an5 od6 an6 od7 an7 od8 an8 od9 an9 od10 an10 od11 an11 od12 an12 od13 an13 od14 an14 od15 an15 od16 an16 od17 an17 od18 an18 od19 an19 : Option Addr} {sl0 sl1 sl2 sl3 sl4 sl5 sl6 sl7 sl8 sl9 sl10 sl11 sl12 sl13 sl14 sl15 sl16 sl17 sl18 sl19 : Array (Option Value)} {oc0 kV0 dc0 pm0 cd0 ct0 oc1 kV1 dc1 pm1 cd1 ct1 oc2 kV2 dc2 pm2 cd2 ct2 oc3 kV3 dc3 pm3 cd3 ct3 oc4 kV4 dc4 pm4 cd4 ct4 oc5 kV5 dc5 pm5 cd5 ct5 oc6 kV6 dc6 pm6 cd6 ct6 oc7 kV7 dc7 pm7 cd7 ct7 oc8 kV8 dc8 pm8 cd8 ct8 oc9 kV9 dc9 pm9 cd9 ct9 oc10 kV10 dc10 pm10 cd10 ct10 oc11 kV11 dc11 pm11 cd11 ct11 oc12 kV12 dc12 pm12 cd12 ct12 oc13 kV13 dc13 pm13 cd13 ct13 oc14 kV14 dc14 pm14 cd14 ct14 oc15 kV15 dc15 pm15 cd15 ct15 oc16 kV16 dc16 pm16 cd16 ct16 oc17 kV17 dc17 pm17 cd17 ct17 oc18 kV18 dc18 pm18 cd18 ct18 oc19 kV19 dc19 pm19 cd19 ct19 : Value}
    {ddW : Option Addr} {nW : Nat} {slW : Array (Option Value)} {tW1 tW2 tW3 : Tok}
    (a0 : PySem.W.nsIn K mainGlobals "is_number" = some (some (.ref f0)))
    (l0 : K.lookup f0 = some ⟨oc0, od0, .func (PySem.W.fnOf "is_number" "is_number" (defArgs sIsN) (defBody sIsN) (defScope sIsN) .none kV0 dc0 pm0 an0 cd0 ct0), sl0⟩)
    (c0 : PySem.W.codeIn K cd0 "is_number" = true) (k0 : PySem.W.keepIn K (.ref f0) = true)
    (a1 : PySem.W.nsIn K mainGlobals "is_number_below" = some (some (.ref f1)))
    (l1 : K.lookup f1 = some ⟨oc1, od1, .func (PySem.W.fnOf "is_number_below" "is_number_below" (defArgs sIsB) (defBody sIsB) (defScope sIsB) .none kV1 dc1 pm1 an1 cd1 ct1), sl1⟩)
    (c1 : PySem.W.codeIn K cd1 "is_number_below" = true) (k1 : PySem.W.keepIn K (.ref f1) = true)
    (a2 : PySem.W.nsIn K mainGlobals "is_row" = some (some (.ref f2)))
    (l2 : K.lookup f2 = some ⟨oc2, od2, .func (PySem.W.fnOf "is_row" "is_row" (defArgs sIsRow) (defBody sIsRow) (defScope sIsRow) .none kV2 dc2 pm2 an2 cd2 ct2), sl2⟩)
    (c2 : PySem.W.codeIn K cd2 "is_row" = true) (k2 : PySem.W.keepIn K (.ref f2) = true)
    (a3 : PySem.W.nsIn K mainGlobals "neighbours" = some (some (.ref f3)))
    (l3 : K.lookup f3 = some ⟨oc3, od3, .func (PySem.W.fnOf "neighbours" "neighbours" (defArgs sNb) (defBody sNb) (defScope sNb) .none kV3 dc3 pm3 an3 cd3 ct3), sl3⟩)
    (c3 : PySem.W.codeIn K cd3 "neighbours" = true) (k3 : PySem.W.keepIn K (.ref f3) = true)
    (a4 : PySem.W.nsIn K mainGlobals "groups" = some (some (.ref f4)))
    (l4 : K.lookup f4 = some ⟨oc4, od4, .func (PySem.W.fnOf "groups" "groups" (defArgs sGroups) (defBody sGroups) (defScope sGroups) .none kV4 dc4 pm4 an4 cd4 ct4), sl4⟩)
    (c4 : PySem.W.codeIn K cd4 "groups" = true) (k4 : PySem.W.keepIn K (.ref f4) = true)
    (a5 : PySem.W.nsIn K mainGlobals "houses" = some (some (.ref f5)))
    (l5 : K.lookup f5 = some ⟨oc5, od5, .func (PySem.W.fnOf "houses" "houses" (defArgs sHouses) (defBody sHouses) (defScope sHouses) .none kV5 dc5 pm5 an5 cd5 ct5), sl5⟩)
    (c5 : PySem.W.codeIn K cd5 "houses" = true) (k5 : PySem.W.keepIn K (.ref f5) = true)
    (a6 : PySem.W.nsIn K mainGlobals "mirrored" = some (some (.ref f6)))
    (l6 : K.lookup f6 = some ⟨oc6, od6, .func (PySem.W.fnOf "mirrored" "mirrored" (defArgs sMirr) (defBody sMirr) (defScope sMirr) .none kV6 dc6 pm6 an6 cd6 ct6), sl6⟩)
    (c6 : PySem.W.codeIn K cd6 "mirrored" = true) (k6 : PySem.W.keepIn K (.ref f6) = true)
    (a7 : PySem.W.nsIn K mainGlobals "_law_cell_at" = some (some (.ref f7)))
    (l7 : K.lookup f7 = some ⟨oc7, od7, .func (PySem.W.fnOf "_law_cell_at" "_law_cell_at" (defArgs sCell) (defBody sCell) (defScope sCell) .none kV7 dc7 pm7 an7 cd7 ct7), sl7⟩)
    (c7 : PySem.W.codeIn K cd7 "_law_cell_at" = true) (k7 : PySem.W.keepIn K (.ref f7) = true)
    (a8 : PySem.W.nsIn K mainGlobals "_law_box" = some (some (.ref f8)))
    (l8 : K.lookup f8 = some ⟨oc8, od8, .func (PySem.W.fnOf "_law_box" "_law_box" (defArgs sBox) (defBody sBox) (defScope sBox) .none kV8 dc8 pm8 an8 cd8 ct8), sl8⟩)
    (c8 : PySem.W.codeIn K cd8 "_law_box" = true) (k8 : PySem.W.keepIn K (.ref f8) = true)
    (a9 : PySem.W.nsIn K mainGlobals "_law_take" = some (some (.ref f9)))
    (l9 : K.lookup f9 = some ⟨oc9, od9, .func (PySem.W.fnOf "_law_take" "_law_take" (defArgs sTake) (defBody sTake) (defScope sTake) .none kV9 dc9 pm9 an9 cd9 ct9), sl9⟩)
    (c9 : PySem.W.codeIn K cd9 "_law_take" = true) (k9 : PySem.W.keepIn K (.ref f9) = true)
    (a10 : PySem.W.nsIn K mainGlobals "_law_of" = some (some (.ref f10)))
    (l10 : K.lookup f10 = some ⟨oc10, od10, .func (PySem.W.fnOf "_law_of" "_law_of" (defArgs sOf) (defBody sOf) (defScope sOf) .none kV10 dc10 pm10 an10 cd10 ct10), sl10⟩)
    (c10 : PySem.W.codeIn K cd10 "_law_of" = true) (k10 : PySem.W.keepIn K (.ref f10) = true)
    (a11 : PySem.W.nsIn K mainGlobals "_law_same" = some (some (.ref f11)))
    (l11 : K.lookup f11 = some ⟨oc11, od11, .func (PySem.W.fnOf "_law_same" "_law_same" (defArgs sSame) (defBody sSame) (defScope sSame) .none kV11 dc11 pm11 an11 cd11 ct11), sl11⟩)
    (c11 : PySem.W.codeIn K cd11 "_law_same" = true) (k11 : PySem.W.keepIn K (.ref f11) = true)
    (a12 : PySem.W.nsIn K mainGlobals "_law_is_int" = some (some (.ref f12)))
    (l12 : K.lookup f12 = some ⟨oc12, od12, .func (PySem.W.fnOf "_law_is_int" "_law_is_int" (defArgs sIsI) (defBody sIsI) (defScope sIsI) .none kV12 dc12 pm12 an12 cd12 ct12), sl12⟩)
    (c12 : PySem.W.codeIn K cd12 "_law_is_int" = true) (k12 : PySem.W.keepIn K (.ref f12) = true)
    (a13 : PySem.W.nsIn K mainGlobals "_law_runs" = some (some (.ref f13)))
    (l13 : K.lookup f13 = some ⟨oc13, od13, .func (PySem.W.fnOf "_law_runs" "_law_runs" (defArgs sRuns) (defBody sRuns) (defScope sRuns) .none kV13 dc13 pm13 an13 cd13 ct13), sl13⟩)
    (c13 : PySem.W.codeIn K cd13 "_law_runs" = true) (k13 : PySem.W.keepIn K (.ref f13) = true)
    (a14 : PySem.W.nsIn K mainGlobals "_law_seen" = some (some (.ref f14)))
    (l14 : K.lookup f14 = some ⟨oc14, od14, .func (PySem.W.fnOf "_law_seen" "_law_seen" (defArgs sSeen) (defBody sSeen) (defScope sSeen) .none kV14 dc14 pm14 an14 cd14 ct14), sl14⟩)
    (c14 : PySem.W.codeIn K cd14 "_law_seen" = true) (k14 : PySem.W.keepIn K (.ref f14) = true)
    (a15 : PySem.W.nsIn K mainGlobals "_law_queue" = some (some (.ref f15)))
    (l15 : K.lookup f15 = some ⟨oc15, od15, .func (PySem.W.fnOf "_law_queue" "_law_queue" (defArgs sQueue) (defBody sQueue) (defScope sQueue) .none kV15 dc15 pm15 an15 cd15 ct15), sl15⟩)
    (c15 : PySem.W.codeIn K cd15 "_law_queue" = true) (k15 : PySem.W.keepIn K (.ref f15) = true)
    (a16 : PySem.W.nsIn K mainGlobals "_law_bent" = some (some (.ref f16)))
    (l16 : K.lookup f16 = some ⟨oc16, od16, .func (PySem.W.fnOf "_law_bent" "_law_bent" (defArgs sBent) (defBody sBent) (defScope sBent) .none kV16 dc16 pm16 an16 cd16 ct16), sl16⟩)
    (c16 : PySem.W.codeIn K cd16 "_law_bent" = true) (k16 : PySem.W.keepIn K (.ref f16) = true)
    (a17 : PySem.W.nsIn K mainGlobals "_law_is_queue" = some (some (.ref f17)))
    (l17 : K.lookup f17 = some ⟨oc17, od17, .func (PySem.W.fnOf "_law_is_queue" "_law_is_queue" (defArgs sIsQ) (defBody sIsQ) (defScope sIsQ) .none kV17 dc17 pm17 an17 cd17 ct17), sl17⟩)
    (c17 : PySem.W.codeIn K cd17 "_law_is_queue" = true) (k17 : PySem.W.keepIn K (.ref f17) = true)
    (a18 : PySem.W.nsIn K mainGlobals "_law_right" = some (some (.ref f18)))
    (l18 : K.lookup f18 = some ⟨oc18, od18, .func (PySem.W.fnOf "_law_right" "_law_right" (defArgs sRight) (defBody sRight) (defScope sRight) .none kV18 dc18 pm18 an18 cd18 ct18), sl18⟩)
    (c18 : PySem.W.codeIn K cd18 "_law_right" = true) (k18 : PySem.W.keepIn K (.ref f18) = true)
    (a19 : PySem.W.nsIn K mainGlobals "law" = some (some (.ref f19)))
    (l19 : K.lookup f19 = some ⟨oc19, od19, .func (PySem.W.fnOf "law" "law" (defArgs sLaw) (defBody sLaw) (defScope sLaw) .none kV19 dc19 pm19 an19 cd19 ct19), sl19⟩)
    (c19 : PySem.W.codeIn K cd19 "law" = true) (k19 : PySem.W.keepIn K (.ref f19) = true)
    (z_len : PySem.W.nsIn K mainGlobals "len" = some none)
    (z_abs : PySem.W.nsIn K mainGlobals "abs" = some none)
    (z_int : PySem.W.nsIn K mainGlobals "int" = some none)
    (z_sorted : PySem.W.nsIn K mainGlobals "sorted" = some none)
    (z_tuple : PySem.W.nsIn K mainGlobals "tuple" = some none)
    (z_list : PySem.W.nsIn K mainGlobals "list" = some none)
    (z_range : PySem.W.nsIn K mainGlobals "range" = some none)
    (z_zip : PySem.W.nsIn K mainGlobals "zip" = some none)
    (z_isinstance : PySem.W.nsIn K mainGlobals "isinstance" = some none)
    (z_bool : PySem.W.nsIn K mainGlobals "bool" = some none)
    (z_str : PySem.W.nsIn K mainGlobals "str" = some none)
    (z_min : PySem.W.nsIn K mainGlobals "min" = some none)
    (z_all : PySem.W.nsIn K mainGlobals "all" = some none)
    (z_set : PySem.W.nsIn K mainGlobals "set" = some none)
    (z_repr : PySem.W.nsIn K mainGlobals "repr" = some none)
    (aWo : PySem.W.nsIn K mainGlobals "WORDS" = some (some (.ref aW))) (lWo : K.lookup aW = some ⟨.type "tuple", ddW, .seq #[.str "new" tW1, .str "beside" tW2, .str "between" tW3] nW, slW⟩) :
    ∃ fd : FuncData, (∀ (s : Shared) (v : Value), BindsTo s fd ⟨[v], []⟩ [("_law_script", v)]) ∧ ∀ base : Heap, K.In base → base.Ns mainGlobals mg → FnG l.prog w K mg base 6 fa fd ["_law_script"] (spLaw K) := by
  have e := hfa.symm.trans (PySem.W.mg_of X G a19)
  cases e
  have F0 := fun_mk (st := sIsN) l0 c0 k0
  have b0 := F0.binds (ps := ["thing"]) fun _ _ _ _ _ _ us hl => match us, hl with | [_], _ => rfl
  have F1 := fun_mk (st := sIsB) l1 c1 k1
  have b1 := F1.binds (ps := ["thing", "limit"]) fun _ _ _ _ _ _ us hl => match us, hl with | [_, _], _ => rfl
  have F2 := fun_mk (st := sIsRow) l2 c2 k2
  have b2 := F2.binds (ps := ["plots", "thing"]) fun _ _ _ _ _ _ us hl => match us, hl with | [_, _], _ => rfl
  have F3 := fun_mk (st := sNb) l3 c3 k3
  have b3 := F3.binds (ps := ["row"]) fun _ _ _ _ _ _ us hl => match us, hl with | [_], _ => rfl
  have F4 := fun_mk (st := sGroups) l4 c4 k4
  have b4 := F4.binds (ps := ["row"]) fun _ _ _ _ _ _ us hl => match us, hl with | [_], _ => rfl
  have F5 := fun_mk (st := sHouses) l5 c5 k5
  have b5 := F5.binds (ps := ["row"]) fun _ _ _ _ _ _ us hl => match us, hl with | [_], _ => rfl
  have F6 := fun_mk (st := sMirr) l6 c6 k6
  have b6 := F6.binds (ps := ["plots", "row"]) fun _ _ _ _ _ _ us hl => match us, hl with | [_, _], _ => rfl
  have F7 := fun_mk (st := sCell) l7 c7 k7
  have b7 := F7.binds (ps := ["_law_script", "_law_k"]) fun _ _ _ _ _ _ us hl => match us, hl with | [_, _], _ => rfl
  have F8 := fun_mk (st := sBox) l8 c8 k8
  have b8 := F8.binds (ps := ["_law_script", "_law_k"]) fun _ _ _ _ _ _ us hl => match us, hl with | [_, _], _ => rfl
  have F9 := fun_mk (st := sTake) l9 c9 k9
  have b9 := F9.binds (ps := ["_law_box_here", "_law_below"]) fun _ _ _ _ _ _ us hl => match us, hl with | [_, _], _ => rfl
  have F10 := fun_mk (st := sOf) l10 c10 k10
  have b10 := F10.binds (ps := ["_law_box_here", "_law_some"]) fun _ _ _ _ _ _ us hl => match us, hl with | [_, _], _ => rfl
  have F11 := fun_mk (st := sSame) l11 c11 k11
  have b11 := F11.binds (ps := ["_law_found", "_law_due"]) fun _ _ _ _ _ _ us hl => match us, hl with | [_, _], _ => rfl
  have F12 := fun_mk (st := sIsI) l12 c12 k12
  have b12 := F12.binds (ps := ["_law_matter"]) fun _ _ _ _ _ _ us hl => match us, hl with | [_], _ => rfl
  have F13 := fun_mk (st := sRuns) l13 c13 k13
  have b13 := F13.binds (ps := ["_law_there"]) fun _ _ _ _ _ _ us hl => match us, hl with | [_], _ => rfl
  have F14 := fun_mk (st := sSeen) l14 c14 k14
  have b14 := F14.binds (ps := ["_law_queue_here"]) fun _ _ _ _ _ _ us hl => match us, hl with | [_], _ => rfl
  have F15 := fun_mk (st := sQueue) l15 c15 k15
  have b15 := F15.binds (ps := ["_law_box_here", "_law_count", "_law_size"]) fun _ _ _ _ _ _ us hl => match us, hl with | [_, _, _], _ => rfl
  have F16 := fun_mk (st := sBent) l16 c16 k16
  have b16 := F16.binds (ps := ["_law_box_here", "_law_part"]) fun _ _ _ _ _ _ us hl => match us, hl with | [_, _], _ => rfl
  have F17 := fun_mk (st := sIsQ) l17 c17 k17
  have b17 := F17.binds (ps := ["_law_count", "_law_matter"]) fun _ _ _ _ _ _ us hl => match us, hl with | [_, _], _ => rfl
  have F18 := fun_mk (st := sRight) l18 c18 k18
  have b18 := F18.binds (ps := ["_law_box_here"]) fun _ _ _ _ _ _ us hl => match us, hl with | [_], _ => rfl
  have F19 := fun_mk (st := sLaw) l19 c19 k19
  have T : Top1 w K mg ⟨f0, f1, f2, f3, f4, f5, f6, f7, f8, f9, f10, f11, f12, f13, f14, f15, f16, f17, f18, aW⟩ ⟨_, _, _, _, _, _, _, _, _, _, _, _, _, _, _, _, _, _, _⟩ := ⟨F0, b0, PySem.W.mg_of X G a0, F1, b1, PySem.W.mg_of X G a1, F2, b2, PySem.W.mg_of X G a2, F3, b3, PySem.W.mg_of X G a3, F4, b4, PySem.W.mg_of X G a4, F5, b5, PySem.W.mg_of X G a5, F6, b6, PySem.W.mg_of X G a6, F7, b7, PySem.W.mg_of X G a7, F8, b8, PySem.W.mg_of X G a8, F9, b9, PySem.W.mg_of X G a9, F10, b10, PySem.W.mg_of X G a10, F11, b11, PySem.W.mg_of X G a11, F12, b12, PySem.W.mg_of X G a12, F13, b13, PySem.W.mg_of X G a13, F14, b14, PySem.W.mg_of X G a14, F15, b15, PySem.W.mg_of X G a15, F16, b16, PySem.W.mg_of X G a16, F17, b17, PySem.W.mg_of X G a17, F18, b18, PySem.W.mg_of X G a18, PySem.W.mg_of X G aWo, fun H => .inr ⟨_, _, _, lWo, rfl, rfl, by show 3 ≤ sizeLine; decide, .cons ⟨_, rfl⟩ (.cons ⟨_, rfl⟩ (.cons ⟨_, rfl⟩ .nil))⟩, PySem.W.mg_none_of X G z_len, PySem.W.mg_none_of X G z_abs, PySem.W.mg_none_of X G z_int, PySem.W.mg_none_of X G z_sorted, PySem.W.mg_none_of X G z_tuple, PySem.W.mg_none_of X G z_list, PySem.W.mg_none_of X G z_range, PySem.W.mg_none_of X G z_zip, PySem.W.mg_none_of X G z_isinstance, PySem.W.mg_none_of X G z_bool, PySem.W.mg_none_of X G z_str, PySem.W.mg_none_of X G z_min, PySem.W.mg_none_of X G z_all, PySem.W.mg_none_of X G z_set, PySem.W.mg_none_of X G z_repr⟩
  exact ⟨_, fun s v => .of_eq rfl, fun base _ _ => ok_law F19 T⟩
end Og

open PySem PySem.W PyProof.Rows
set_option maxHeartbeats 0 in
theorem PySem.Challenge.cw_onlygroups_k01_rows_groups_and_houses_holds : PySem.Challenge.rw_onlygroups_k01_rows_groups_and_houses.Holds := by
  w_on; o_law; k_head; (case hw => w_witness2)
  k_fill
  refine OgR.walk_G (l := PySem.Challenge.rw_onlygroups_k01_rows_groups_and_houses) (n := 63) (k := 6) (x := "_law_script") (sp := fun w => Og.spLaw _) rfl (by decide) rfl ⟨rfl, by decide, by decide⟩ (fun w h Y => PySem.W.kIn_of Y) ?F (fun _ _ a ns hl hS => ⟨a, ns, rfl, hS, hl, fun _ => rfl⟩)
  case F =>
    intro w mg fa h KX G hmg
    refine' Og.all_mk KX G hmg ?a0 ?l0 ?c0 ?k0 ?a1 ?l1 ?c1 ?k1 ?a2 ?l2 ?c2 ?k2 ?a3 ?l3 ?c3 ?k3 ?a4 ?l4 ?c4 ?k4 ?a5 ?l5 ?c5 ?k5 ?a6 ?l6 ?c6 ?k6 ?a7 ?l7 ?c7 ?k7 ?a8 ?l8 ?c8 ?k8 ?a9 ?l9 ?c9 ?k9 ?a10 ?l10 ?c10 ?k10 ?a11 ?l11 ?c11 ?k11 ?a12 ?l12 ?c12 ?k12 ?a13 ?l13 ?c13 ?k13 ?a14 ?l14 ?c14 ?k14 ?a15 ?l15 ?c15 ?k15 ?a16 ?l16 ?c16 ?k16 ?a17 ?l17 ?c17 ?k17 ?a18 ?l18 ?c18 ?k18 ?a19 ?l19 ?c19 ?k19 ?z_len ?z_abs ?z_int ?z_sorted ?z_tuple ?z_list ?z_range ?z_zip ?z_isinstance ?z_bool ?z_str ?z_min ?z_all ?z_set ?z_repr ?aWo ?lWo
    (case a0 => k_is)
    (case l0 => k_is)
    (case c0 => k_is)
    (case k0 => k_is)
    (case a1 => k_is)
    (case l1 => k_is)
    (case c1 => k_is)
    (case k1 => k_is)
    (case a2 => k_is)
    (case l2 => k_is)
    (case c2 => k_is)
    (case k2 => k_is)
    (case a3 => k_is)
    (case l3 => k_is)
    (case c3 => k_is)
    (case k3 => k_is)
    (case a4 => k_is)
    (case l4 => k_is)
    (case c4 => k_is)
    (case k4 => k_is)
    (case a5 => k_is)
    (case l5 => k_is)
    (case c5 => k_is)
    (case k5 => k_is)
    (case a6 => k_is)
    (case l6 => k_is)
    (case c6 => k_is)
    (case k6 => k_is)
    (case a7 => k_is)
    (case l7 => k_is)
    (case c7 => k_is)
    (case k7 => k_is)
    (case a8 => k_is)
    (case l8 => k_is)
    (case c8 => k_is)
    (case k8 => k_is)
    (case a9 => k_is)
    (case l9 => k_is)
    (case c9 => k_is)
    (case k9 => k_is)
    (case a10 => k_is)
    (case l10 => k_is)
    (case c10 => k_is)
    (case k10 => k_is)
    (case a11 => k_is)
    (case l11 => k_is)
    (case c11 => k_is)
    (case k11 => k_is)
    (case a12 => k_is)
    (case l12 => k_is)
    (case c12 => k_is)
    (case k12 => k_is)
    (case a13 => k_is)
    (case l13 => k_is)
    (case c13 => k_is)
    (case k13 => k_is)
    (case a14 => k_is)
    (case l14 => k_is)
    (case c14 => k_is)
    (case k14 => k_is)
    (case a15 => k_is)
    (case l15 => k_is)
    (case c15 => k_is)
    (case k15 => k_is)
    (case a16 => k_is)
    (case l16 => k_is)
    (case c16 => k_is)
    (case k16 => k_is)
    (case a17 => k_is)
    (case l17 => k_is)
    (case c17 => k_is)
    (case k17 => k_is)
    (case a18 => k_is)
    (case l18 => k_is)
    (case c18 => k_is)
    (case k18 => k_is)
    (case a19 => k_is)
    (case l19 => k_is)
    (case c19 => k_is)
    (case k19 => k_is)
    (case z_len => k_is)
    (case z_abs => k_is)
    (case z_int => k_is)
    (case z_sorted => k_is)
    (case z_tuple => k_is)
    (case z_list => k_is)
    (case z_range => k_is)
    (case z_zip => k_is)
    (case z_isinstance => k_is)
    (case z_bool => k_is)
    (case z_str => k_is)
    (case z_min => k_is)
    (case z_all => k_is)
    (case z_set => k_is)
    (case z_repr => k_is)
    (case aWo => k_is)
    (case lWo => k_is)

