import PyProof.Rows.All
import Wide.All
import OpenK.AllK
import Wide.FinOn
import HandS.ForMost
import HandS.Evl
import HandS.IsInst
import HandS.Style
import HandS.Zip
import HandS.SortInts
import HandS.Conv
import HandS.More
import KE.GoesEnum
import HandS.Walk
import HandS.NoneIn
import HandS.SetFor
import HandS.Deep
import HandS.RaiseMore
import PyProof.ReprReads
import HandS.TupAny
import HandS.Ends
import HandS.Codes
import HandS.Words
import HandS.DeepEq
import HandS.WrittenGet
import HandS.Star
import HandS.TupLe
import KE.DataMinMax
import HandS.TupMul
import HandS.ExcInit
import HandS.ExcField
import KE.KExcInit
import KE.KExcIs
import PyProof.EqKinds
import PySem.Challenge.RW_onlygroups_k15_errors_by_hand
set_option Elab.async false
set_option linter.all false
set_option maxRecDepth 100000
set_option maxHeartbeats 4000000
namespace OgR
open PySem PySem.Spec PyProof.Rows L2
/-! sorted(t), t a tuple of ints -/
section
variable {prog : Program} {w : World} {A : Around} {E : Value → Shared → Prop} {s : Shared}
/-- the items of a tuple, collected in a new list at the heap's end -/
theorem gather_tup {Q : List Value → Shared → Prop} {t : Addr} {o : Obj} {xs : Array Value} {m : Nat} (got : s.heap.get? t = some o) (cl : o.cls = .type "tuple")
    (dt : o.data = .seq xs m) (fits : xs.size ≤ sizeLine)
    (fin : Q xs.toList { s with heap := (s.heap.push (seqObj "list" #[] 0)).update s.heap.objs.size (Obj.mapSeq (· ++ xs)) }) :
    wpAny (model prog w) A (collect (.ref t)) Q E s := by
  have new1 : (s.heap.push (seqObj "list" #[] 0)).get? s.heap.objs.size = some (seqObj "list" #[] 0) := Heap.get?_push_size _ rfl
  have new2 := Heap.get?_update_self (Obj.mapSeq (· ++ xs)) new1 rfl
  unfold collect
  refine wpAny_bind (wpAny_runValue (codeAny_builtin F.entry_proto_collect ?_))
  rw [Around.under_plainId F.plain_proto_collect _]
  refine wpAny_bind (wpAny_newObj_type (wpAny_pure ⟨plainId_quiet F.plain_list_iadd _, codeAny_builtin F.entry_list_iadd ?_⟩))
  rw [Around.under_plainId F.plain_list_iadd _]
  refine wpAny_mono (wpAny_extend_seq (hsz := fits) (A := A) (R := fun r s' => r = .ok (.ret (.ref s.heap.objs.size)) ∧
      s' = { s with heap := (s.heap.push (seqObj "list" #[] 0)).update s.heap.objs.size (Obj.mapSeq (· ++ xs)) })
    (s := { s with heap := s.heap.push (seqObj "list" #[] 0) }) _ t _ 0 (.inr rfl) new1 (Heap.get?_push_of_some _ got) cl dt ⟨rfl, rfl⟩) (fun f s' g => ?_) (fun e s' g => absurd g.1 (by simp))
  have last : wpAny (model prog w) A (do
      match (← load s.heap.objs.size).data with
        | Data.seq ys _ => pure ys.toList
        | _ => unsupported "internal:collect") Q E { s with heap := (s.heap.push (seqObj "list" #[] 0)).update s.heap.objs.size (Obj.mapSeq (· ++ xs)) } := by
    refine wpAny_bind (wpAny_load new2 (wpAny_pure ?_))
    have e0 : ((#[] : Array Value) ++ xs).toList = xs.toList := by simp
    show Q ((#[] : Array Value) ++ xs).toList _
    rw [e0]
    exact fin
  cases f with
  | done r =>
    obtain ⟨e1, rfl⟩ := g
    cases e1
    exact last
  | again c => exact ⟨g.1, codeAny_mono g.2 fun r s2 gr => by
      obtain ⟨rfl, rfl⟩ := gr
      exact last⟩
theorem sorted_of_tup {t : Addr} {us : List Value} {ms : List Int} {Q : Value → Shared → Prop} (ht : IsTup s.heap t us.toArray) (hz : us.length ≤ sizeLine) (hI : IntsAre us ms)
    (fin : ∀ (out : List Value) (h' : Heap) (p : Addr) (e : Nat), (∀ b o, s.heap.get? b = some o → h'.get? b = some o) → s.heap.objs.size ≤ p → IntsAre out (out.map SrtO.iv) → (out.map SrtO.iv).Perm ms → (out.map SrtO.iv).Pairwise (· ≤ ·) →
      h'.get? p = some (seqObj "list" out.toArray e) → Q (.ref p) { s with heap := h' }) :
    wpAny (model prog w) A (call (.builtin "sorted") [.ref t]) Q E s := by
  obtain ⟨o, ho, hc, n, hd⟩ := ht
  refine Calls.call_function_entry kind_sorted plain_sorted entry_sorted (args_sorted1 _) ?_
  unfold Builtin.«sorted»
  refine wpAny_bind (m := checkCount "sorted" 1 1 _) (wpAny_pure ?_)
  refine wpAny_bind (gather_tup ho hc hd (by simpa using hz) ?_)
  rw [List.toList_toArray]
  have hsz : ((s.heap.push (seqObj "list" #[] 0)).update s.heap.objs.size (Obj.mapSeq (· ++ us.toArray))).objs.size = s.heap.objs.size + 1 := by
    rw [Heap.size_update, size_push']
  have keep1 : ∀ b u, s.heap.get? b = some u → ((s.heap.push (seqObj "list" #[] 0)).update s.heap.objs.size (Obj.mapSeq (· ++ us.toArray))).get? b = some u := fun b u q =>
    (Heap.get?_update_other _ _ (Nat.ne_of_gt (Heap.lt_size q))).trans (Heap.get?_push_of_some _ q)
  generalize ((s.heap.push (seqObj "list" #[] 0)).update s.heap.objs.size (Obj.mapSeq (· ++ us.toArray))) = h1 at hsz keep1
  refine wpAny_bind (wpAny_newList ?_ hz)
  have old2 : ∀ b u, s.heap.get? b = some u → b < h1.objs.size := fun b u q => Heap.lt_size (keep1 b u q)
  have hnew : (h1.push (seqObj "list" us.toArray 0)).get? h1.objs.size = some (seqObj "list" us.toArray 0) := Heap.get?_push_size _ rfl
  have hle : s.heap.objs.size ≤ h1.objs.size := by omega
  show wpAny _ _ _ _ _ { s with heap := h1.push (seqObj "list" us.toArray 0) }
  refine wpAny_bind (wpAny_holding (wpAny_call_entry slot_list_sort ⟨_, hnew, rfl⟩ entry_list_sort (SrtO.list_sort_ord SrtO.swo_int hnew hz (fun h2 => SrtO.ints_sortable hI h2) fun out a1 a2 => ⟨_, rfl, ?_⟩) (args_list_sort _)))
  obtain ⟨b1, b2, b3⟩ := SrtO.ints_out hI a1 a2
  obtain ⟨e, he⟩ := sortedHeap_at (out := out.toArray) hnew
  refine wpAny_pure ⟨_, rfl, fin out _ h1.objs.size e (fun b u q => ?_) hle b1 b2 b3 he⟩
  have hb := old2 b u q
  rw [sortedHeap_old (Nat.ne_of_lt hb) (by rw [size_push']; exact Nat.lt_succ_of_lt hb)]
  exact Heap.get?_push_of_some _ (keep1 b u q)
end
def rSrtT (K : PySem.W.Frag) : List V → Hp → VK → Prop := fun vs H Q => ∃ (a : Addr) (ms : List Int), vs = [V.ref a] ∧ SqT K H a (ms.map V.int) ∧
  ∀ (ks : List Int) (p : Addr), ks.Perm ms → ks.Pairwise (· ≤ ·) → H p = none → Q (.ref p) (upd H p (.lst (ks.map V.int)))
theorem cr_srtT {X : Cx} : CallR X (.builtin "sorted") (rSrtT X.K) := by
  intro pins s σ H vs us Q I r h
  obtain ⟨a, ms, rfl, hs, q⟩ := h
  obtain ⟨its, rv, ht, hz⟩ := I.tuple hs
  rw [Vals.ref1 r]
  refine sorted_of_tup ht (by rw [← rv.length]; exact hz) rv.ints fun out h' p e keep hp k1 k2 k3 he => ?_
  have hlen : ((out.map SrtO.iv).map V.int).length ≤ sizeLine := by
    have q1 := k2.length_eq
    rw [List.length_map] at hz
    rw [List.length_map]
    omega
  exact ⟨.ref p, upd H p (.lst ((out.map SrtO.iv).map V.int)), I.laid (t' := s.toks) keep hp ⟨hlen, out, e, vals_of_ints k1, he⟩, rfl, q _ _ k2 k3 (I.hok.fresh hp)⟩

/-! ### a sequence, a list or a tuple -/
def SqB (K : PySem.W.Frag) : Bool → Hp → Addr → List V → Prop
  | true, H, a, xs => SqT K H a xs
  | false, H, a, xs => SqL K H a xs
def SeqIs : Bool → Heap → Addr → Array Value → Prop
  | true, h, a, xs => h.IsTuple a xs
  | false, h, a, xs => h.IsList a xs
def ItIs : Bool → Heap → Addr → Addr → Nat → Prop
  | true, h, i, a, n => h.IsTupleIter i a n
  | false, h, i, a, n => h.IsListIter i a n
def itObj (b : Bool) (a : Addr) : Obj := { cls := .type (if b then "tuple_iterator" else "list_iterator"), data := .fields #[.ref a, .int 0 0] }
theorem seqB {X : Cx} {pins : List (Addr × Obj)} {σ : L2.St} {H : Hp} {s : Shared} {a : Addr} {xs : List V} {b : Bool} (I : Inv X pins σ H s) (h : SqB X.K b H a xs) :
    ∃ its : List Value, Vals xs its ∧ SeqIs b s.heap a its.toArray ∧ a < s.heap.objs.size := by
  cases b with
  | true =>
    obtain ⟨its, r, p, _⟩ := I.tuple h
    exact ⟨its, r, p, p.lt⟩
  | false =>
    obtain ⟨its, r, p, _⟩ := I.list h
    exact ⟨its, r, p.isList, p.lt⟩
theorem seqB_inj {X : Cx} {pins : List (Addr × Obj)} {σ : L2.St} {H : Hp} {s : Shared} {a : Addr} {xs ys : List V} {b : Bool} (I : Inv X pins σ H s) (h : SqB X.K b H a xs) (h' : SqB X.K b H a ys) : xs = ys := by
  cases b with
  | true => exact I.tuple_inj h h'
  | false => exact I.list_inj h h'
theorem drawsB {prog : Program} {w : World} {A : Around} (hh : A.handled = none) (b : Bool) (it a : Addr) (hne : a ≠ it) (items : Array Value) :
    Draws prog w A it [it, a] items.size (fun i v => items[i]? = some v) (fun i h => ItIs b h it a i ∧ SeqIs b h a items) := by
  cases b with
  | true => exact Draws.tuple hh it a hne items
  | false => exact Draws.list hh it a hne items
theorem beginsB (b : Bool) (a : Addr) (items : Array Value) : Begins (.ref a) (itObj b a) fun h => SeqIs b h a items := by
  cases b with
  | true => exact begins_tuple a items
  | false => exact begins_list a items
theorem itIs0 {b : Bool} {h : Heap} {i a : Addr} (e : h.get? i = some (itObj b a)) : ItIs b h i a 0 := by
  cases b with
  | true => exact ⟨_, e, rfl, rfl⟩
  | false => exact ⟨_, e, rfl, rfl⟩
theorem ItIs.obj {b : Bool} {h : Heap} {i a : Addr} {n : Nat} (x : ItIs b h i a n) : ∃ o, h.get? i = some o ∧ ∀ v, o.data ≠ .cell v := by
  cases b with
  | true =>
    obtain ⟨o, e, _, d⟩ := x
    exact ⟨o, e, fun v q => by rw [d] at q; cases q⟩
  | false =>
    obtain ⟨o, e, _, d⟩ := x
    exact ⟨o, e, fun v q => by rw [d] at q; cases q⟩
theorem ItIs.keep {b : Bool} {h h' : Heap} {i a : Addr} {n : Nat} (x : ItIs b h i a n) (k : ∀ o, h.get? i = some o → h'.get? i = some o) : ItIs b h' i a n := by
  cases b with
  | true => exact Heap.IsTupleIter.at x k
  | false => exact Heap.IsListIter.at x k

/-! ### enumerate of a list or a tuple -/
set_option maxHeartbeats 1000000 in
theorem enum_new1 {v : Value} {o : Obj} {H : Heap → Prop} (B : Begins v o H) : Meets (Builtin.«enumerate.__new__» ⟨[.type "enumerate", v], []⟩) (fun _ R s => H s.heap ∧
    R (.ok (.ret (.ref (s.heap.push o).objs.size)))
      { s with heap := (s.heap.push o).push { cls := .type "enumerate", data := .fields #[.none, .bool false, .ref s.heap.objs.size, rawInt 0, .none, .none] } }) := by
  refine .of_wp fun prog w A R s h => ?_
  obtain ⟨hp, gn, dr, tk, os⟩ := s
  obtain ⟨hH, fin⟩ := h
  have hsub := sub_enumerate
  have it1 : ∀ {A' : Around} {E : Value → Shared → Prop} {Q : Value → Shared → Prop}, Q (.ref hp.objs.size) ⟨hp.push o, gn, dr, tk, os⟩ → wpAny (model prog w) A' (pyIter v) Q E ⟨hp, gn, dr, tk, os⟩ := fun q =>
    B.iter prog w _ _ ⟨hp, gn, dr, tk, os⟩ _ hH q
  wp_walk using it1
  refine wpAny_stack_any fun st => wpAny_pure ?_
  split
  · rename_i cc _ _ _ _ _
    cases (cc == Value.type "enumerate") <;> (wp_walk using it1; exact ⟨_, rfl, fin⟩)
  · wp_walk using it1
    exact ⟨_, rfl, fin⟩
theorem enum_begins1 {prog : Program} {w : World} {A : Around} {E : Value → Shared → Prop} {s : Shared} {v : Value} {o : Obj} {H : Heap → Prop} {Q : Value → Shared → Prop} (B : Begins v o H) (h1 : H s.heap)
    (fin : ∀ h', IsEnum h' (s.heap.objs.size + 1) s.heap.objs.size 0 .none → h'.get? s.heap.objs.size = some o → h'.objs.size = s.heap.objs.size + 2 → (∀ b u, s.heap.get? b = some u → h'.get? b = some u) →
      Q (.ref (s.heap.objs.size + 1)) { s with heap := h' }) : wpAny (model prog w) A (call (.type "enumerate") [v]) Q E s := by
  refine callType_new F.called_enumerate (by decide) (F.typeCall_enumerate_1 _) (F.newCall_enumerate_1 _) (fun obj => F.args_object_init_2 obj _) F.entry_enumerate_new (enum_new1 B) ⟨h1, ?_⟩
  have sz : (s.heap.push o).objs.size = s.heap.objs.size + 1 := Heap.size_push ..
  have it := Heap.get?_push_size (s.heap.push o) (o := { cls := .type "enumerate", data := .fields #[.none, .bool false, .ref s.heap.objs.size, rawInt 0, .none, .none] }) rfl
  rw [sz] at it
  show _ ∧ _
  rw [sz]
  exact ⟨⟨_, it, rfl⟩, fin _ it (Heap.get?_push_of_some _ (Heap.get?_push_size _ B.free)) (by rw [Heap.size_push, sz]) fun b u x => Heap.get?_push_of_some _ (Heap.get?_push_of_some _ x)⟩
/-- the turns of enumerate over the sequence at a -/
def IteB (K : PySem.W.Frag) (b : Bool) (a : Addr) : It where
  go := fun i H => ∃ (xs : List V) (x : V), SqB K b H a xs ∧ xs[i]? = some x
  yld := fun i H v H' => ∃ T x, v = .ref T ∧ H T = none ∧ H' = upd H T (.tup [.int (i : Nat), x]) ∧ ∀ xs, SqB K b H a xs → xs[i]? = some x
  stop := fun i H => ∃ xs : List V, SqB K b H a xs ∧ xs.length = i
theorem turn_enumB {P : Program} {w : World} {K : PySem.W.Frag} {elts : List Expr} {kk : Nat} {tpos : Pos} {b : Bool} (a e it : Addr) :
    Turn P w K (.Tuple elts kk tpos) (IteB K b a) [e, it] e (fun i h => (∃ old, IsEnum h e it ((i : Nat) : Int) old) ∧ ItIs b h it a i ∧ e ≠ it ∧ a ≠ it ∧ e ≠ a) where
  mem := List.mem_cons_self ..
  obj := fun i h st c hc => by
    obtain ⟨⟨old, he⟩, hi, _⟩ := st
    rcases List.mem_cons.mp hc with rfl | hc
    · exact ⟨_, he, fun v q => nomatch q⟩
    · rw [List.mem_singleton.mp hc]
      exact hi.obj
  keep := fun i h h' st k => by
    obtain ⟨⟨old, he⟩, hi, r⟩ := st
    exact ⟨⟨old, k e (by simp) _ he⟩, hi.keep (k it (by simp)), r⟩
  item := by
    intro X hP hw hK hc i pins s σ H E I hf st hg
    subst hP hw hK
    obtain ⟨⟨old, he⟩, hit, hne, hai, hea⟩ := st
    obtain ⟨xs, x, hq, hx⟩ := hg
    obtain ⟨its, rv, hsq, _⟩ := seqB I hq
    obtain ⟨u, hu, ru⟩ := rv.get hx
    have lte : e < s.heap.objs.size := Heap.lt_size he
    have lti : it < s.heap.objs.size := by
      obtain ⟨o, q, _⟩ := hit.obj
      exact Heap.lt_size q
    have hlt : i < its.toArray.size := by
      have q := (List.getElem?_eq_some_iff.mp hu).1
      simpa using q
    refine wpAny_pyNext_enum_itemC (drawsB (by exact I.ok.hd hc) b it a hai its.toArray) he ⟨hit, hsq⟩ hlt hne (by simp [hne, hea]) fun y h' tk hy ho hst' hT hsz hk => ?_
    have hyu : y = u := by
      have q : its[i]? = some y := by simpa using hy
      rw [hu] at q
      exact (Option.some.inj q).symm
    subst hyu
    refine ⟨_, rfl, wpAny_letOwnedTupleGo_enum (s := { s with heap := h', toks := tk + 1 }) ho fun h2 he2 sb => ?_⟩
    have atT : h2.get? s.heap.objs.size = some { cls := .type "tuple", data := .seq #[.int i tk, y] } := (sb.2 _ (Nat.ne_of_gt lte)).trans hT
    have I1 : Inv X pins σ (upd H s.heap.objs.size (.tup [.int (i : Nat), x])) { s with heap := h2, toks := tk + 1 } := by
      refine I.turnedNew (ch := [e, it]) (fun c oc hcn q => ?_) hf (Nat.le_refl _) ⟨by show 2 ≤ sizeLine; decide, [.int i tk, y], .cons ⟨_, rfl⟩ (.cons ru .nil), ⟨_, atT, rfl, _, rfl⟩⟩
      exact (sb.2 c (fun z => hcn (by simp [z]))).trans (hk c oc (fun z => hcn (by simp [z])) (fun z => hcn (by simp [z])) q)
    refine ⟨.ref s.heap.objs.size, _, I1, rfl, ⟨_, x, rfl, I.hok.fresh (Nat.le_refl _), rfl, fun ys hy' => by rw [seqB_inj I hy' hq]; exact hx⟩, ⟨⟨y, ?_⟩, hst'.1.keep fun o q => (sb.2 it (Ne.symm hne)).trans q, hne, hai, hea⟩, fun c hcm => ?_⟩
    · have e1 : ((i + 1 : Nat) : Int) = (i : Int) + 1 := by omega
      rw [e1]
      exact he2
    · have ltc : c < s.heap.objs.size := by
        rcases List.mem_cons.mp hcm with rfl | hcm
        · exact lte
        · rw [List.mem_singleton.mp hcm]
          exact lti
      rw [upd_ne (Nat.ne_of_lt ltc)]
      exact (hf c hcm).1
  done := by
    intro X hP hw hK hc i pins s σ H E I hf st hg
    subst hP hw hK
    obtain ⟨⟨old, he⟩, hit, hne, hai, hea⟩ := st
    obtain ⟨xs, hq, hx⟩ := hg
    obtain ⟨its, rv, hsq, _⟩ := seqB I hq
    obtain ⟨f0, f1, f2, f3, f4, f5⟩ := hf it (by simp)
    have hl : its.toArray.size = i := by
      have q := rv.length
      simp
      omega
    refine wpAny_pyNext_enum_endD (drawsB (by exact I.ok.hd hc) b it a hai its.toArray) he (by rw [hl]; exact ⟨hit, hsq⟩) fun h' hk => ⟨rfl, ?_⟩
    exact I.turned (t' := s.toks) (fun c oc hcn q => hk c oc hcn q) f0 f1 f3 f4 f5
  self := fun A i s Q E st h => by
    obtain ⟨⟨_, he⟩, _⟩ := st
    exact wpAny_pyIter_enum he h
def iEnumB (K : PySem.W.Frag) (ta : TA) : TI := fun σ H R => ta σ H fun vs H1 => ∃ b a xs, vs = [.ref a] ∧ SqB K b H1 a xs ∧ R (IteB K b a) H1
theorem pi_enumB {X : Cx} {e : Expr} {ta : TA} {p pos tpos : Pos} {elts : List Expr} {kk : Nat} (hg : Gl X "enumerate") (hm : X.mg "enumerate" = none) (ha : PA X [e] ta) (hs : starEach [e] X.env = [(false, eval e X.env)] := by rfl) :
    PI X (.Tuple elts kk tpos) (.Call (.Name "enumerate" p) [e] [] pos) (iEnumB X.K ta) := by
  refine ⟨fun pins s σ H R I h => ?_⟩
  refine Call_ (ld_blt I hg hm boot_enumerate (callWith_type1 (thn (ha.run pos pins s σ H _ I h) fun us s1 ⟨vs, H1, I1, r1, g⟩ => ?_) hs rfl))
  obtain ⟨b, a, xs, ex, hq, q⟩ := g
  subst ex
  rw [Vals.ref1 r1]
  obtain ⟨its, rv, hsq, lta⟩ := seqB I1 hq
  refine enum_begins1 (beginsB b a its.toArray) hsq fun h' he hit hsz hk => wpAny_pyIter_enum he ?_
  refine ⟨s1.heap.objs.size + 1, [s1.heap.objs.size + 1, s1.heap.objs.size], _, _, H1, rfl, I1.kept (t' := s1.toks) hk, turn_enumB a (s1.heap.objs.size + 1) s1.heap.objs.size, ⟨⟨.none, he⟩, itIs0 hit, Nat.succ_ne_self _, Nat.ne_of_lt lta, Nat.ne_of_gt (Nat.lt_succ_of_lt lta)⟩, fun c hc => ?_, q⟩
  have hle : s1.heap.objs.size ≤ c := by
    rcases List.mem_cons.mp hc with rfl | hc
    · exact Nat.le_succ _
    · rw [List.mem_singleton.mp hc]
      exact Nat.le_refl _
  exact I1.fpOk hle (I1.hok.fresh hle)
end OgR

namespace OgR
open PySem PySem.Spec PyProof.Rows L2
/-! ### zip of two sequences, each a list or a tuple -/
def ItzB (K : PySem.W.Frag) (b1 b2 : Bool) (a1 a2 : Addr) : It where
  go := fun i H => ∃ (xs ys : List V) (x y : V), SqB K b1 H a1 xs ∧ SqB K b2 H a2 ys ∧ xs[i]? = some x ∧ ys[i]? = some y
  yld := fun i H v H' => ∃ T x y, v = .ref T ∧ H T = none ∧ H' = upd H T (.tup [x, y]) ∧ (∀ xs, SqB K b1 H a1 xs → xs[i]? = some x) ∧ ∀ ys, SqB K b2 H a2 ys → ys[i]? = some y
  stop := fun i H => ∃ xs ys : List V, SqB K b1 H a1 xs ∧ SqB K b2 H a2 ys ∧ i ≤ xs.length ∧ i ≤ ys.length ∧ (i = xs.length ∨ i = ys.length)
theorem turn_zipB {P : Program} {w : World} {K : PySem.W.Frag} {elts : List Expr} {kk : Nat} {tpos : Pos} {b1 b2 : Bool} {a1 a2 z TI TO i1 i2 : Addr} (S : ZipSep2 z TI TO i1 i2 [i1, a1] [i2, a2]) (n1 : a1 ≠ i1) (n2 : a2 ≠ i2) :
    Turn P w K (.Tuple elts kk tpos) (ItzB K b1 b2 a1 a2) [z, TI, TO, i1, i2] z
      (fun i h => IsZip h z TI TO .none ∧ IsTupOf2 h TI (.ref i1) (.ref i2) ∧ (∃ x y, IsTupOf2 h TO x y) ∧ ItIs b1 h i1 a1 i ∧ ItIs b2 h i2 a2 i) where
  mem := List.mem_cons_self ..
  obj := fun i h st c hc => by
    obtain ⟨hz, hTI, ⟨x, y, hTO⟩, h1, h2⟩ := st
    have q : c = z ∨ c = TI ∨ c = TO ∨ c = i1 ∨ c = i2 := by simpa using hc
    rcases q with rfl | rfl | rfl | rfl | rfl
    · exact ⟨_, hz, fun v q => nomatch q⟩
    · exact ⟨_, hTI, fun v q => nomatch q⟩
    · exact ⟨_, hTO, fun v q => nomatch q⟩
    · exact h1.obj
    · exact h2.obj
  keep := fun i h h' st k => by
    obtain ⟨hz, hTI, ⟨x, y, hTO⟩, h1, h2⟩ := st
    exact ⟨k z (by simp) _ hz, k TI (by simp) _ hTI, ⟨x, y, k TO (by simp) _ hTO⟩, h1.keep (k i1 (by simp)), h2.keep (k i2 (by simp))⟩
  item := by
    intro X hP hw hK hc i pins s σ H E I hf st hg
    subst hP hw hK
    obtain ⟨hz, hTI, ⟨x0, y0, hTO⟩, h1, h2⟩ := st
    obtain ⟨xs, ys, x, y, qx, qy, hx, hy⟩ := hg
    obtain ⟨us1, rv1, sq1, _⟩ := seqB I qx
    obtain ⟨us2, rv2, sq2, _⟩ := seqB I qy
    obtain ⟨u1, e1, r1⟩ := rv1.get hx
    obtain ⟨u2, e2, r2⟩ := rv2.get hy
    have ltz : z < s.heap.objs.size := Heap.lt_size hz
    have lt1 : i < us1.toArray.size := by
      have q := (List.getElem?_eq_some_iff.mp e1).1
      simpa using q
    have lt2 : i < us2.toArray.size := by
      have q := (List.getElem?_eq_some_iff.mp e2).1
      simpa using q
    refine wpAny_pyNext_zipD2_item S (drawsB (by exact I.ok.hd hc) b1 i1 a1 n1 us1.toArray) (drawsB (by exact I.ok.hd hc) b2 i2 a2 n2 us2.toArray) hz hTI hTO ⟨h1, sq1⟩ ⟨h2, sq2⟩ lt1 lt2
      fun v1 v2 h' tk p1 p2 z' TO' st1 st2 hT hsz hk => ?_
    have ev1 : v1 = u1 := by
      have q : us1[i]? = some v1 := by simpa using p1
      rw [e1] at q
      exact (Option.some.inj q).symm
    have ev2 : v2 = u2 := by
      have q : us2[i]? = some v2 := by simpa using p2
      rw [e2] at q
      exact (Option.some.inj q).symm
    subst ev1 ev2
    refine ⟨_, rfl, wpAny_letOwnedTupleGo_zip (s := { s with heap := h', toks := tk }) z' fun h2' z2 sb => ?_⟩
    have atT : h2'.get? s.heap.objs.size = some { cls := .type "tuple", data := .seq #[v1, v2] } := (sb.2 _ (Nat.ne_of_gt ltz)).trans hT
    have I1 : Inv X pins σ (upd H s.heap.objs.size (.tup [x, y])) { s with heap := h2', toks := tk } := by
      refine I.turnedNew (ch := [z, TI, TO, i1, i2]) (fun c oc hcn q => ?_) hf (Nat.le_refl _) ⟨by show 2 ≤ sizeLine; decide, [v1, v2], .cons r1 (.cons r2 .nil), ⟨_, atT, rfl, _, rfl⟩⟩
      have g : ∀ d, d ∈ [z, TI, TO, i1, i2] → c ≠ d := fun d hd e => hcn (e ▸ hd)
      exact (sb.2 c (g z (by simp))).trans (hk c oc (g z (by simp)) (g TO (by simp)) (g i1 (by simp)) (g i2 (by simp)) q)
    refine ⟨.ref s.heap.objs.size, _, I1, rfl, ⟨_, x, y, rfl, I.hok.fresh (Nat.le_refl _), rfl, fun l hl => by rw [seqB_inj I hl qx]; exact hx, fun l hl => by rw [seqB_inj I hl qy]; exact hy⟩, ⟨z2, ?_, ⟨v1, v2, ?_⟩, ?_, ?_⟩, fun c hcm => ?_⟩
    · exact (sb.2 _ S.TIz).trans (hk _ _ S.TIz S.TITO S.TIi1 S.TIi2 hTI)
    · exact (sb.2 _ S.TOz).trans TO'
    · exact st1.1.keep fun o q => (sb.2 _ (Ne.symm S.zi1)).trans q
    · exact st2.1.keep fun o q => (sb.2 _ (Ne.symm S.zi2)).trans q
    · have ltc : c < s.heap.objs.size := by
        have q : c = z ∨ c = TI ∨ c = TO ∨ c = i1 ∨ c = i2 := by simpa using hcm
        rcases q with rfl | rfl | rfl | rfl | rfl
        · exact ltz
        · exact Heap.lt_size hTI
        · exact Heap.lt_size hTO
        · obtain ⟨_, q, _⟩ := h1.obj
          exact Heap.lt_size q
        · obtain ⟨_, q, _⟩ := h2.obj
          exact Heap.lt_size q
      rw [upd_ne (Nat.ne_of_lt ltc)]
      exact (hf c hcm).1
  done := by
    intro X hP hw hK hc i pins s σ H E I hf st hg
    subst hP hw hK
    obtain ⟨hz, hTI, ⟨x0, y0, hTO⟩, h1, h2⟩ := st
    obtain ⟨xs, ys, qx, qy, l1, l2, hend⟩ := hg
    obtain ⟨us1, rv1, sq1, _⟩ := seqB I qx
    obtain ⟨us2, rv2, sq2, _⟩ := seqB I qy
    have m1 : xs.length = us1.toArray.size := by
      have q := rv1.length
      simpa using q
    have m2 : ys.length = us2.toArray.size := by
      have q := rv2.length
      simpa using q
    refine wpAny_pyNext_zipD2_end S (drawsB (by exact I.ok.hd hc) b1 i1 a1 n1 us1.toArray) (drawsB (by exact I.ok.hd hc) b2 i2 a2 n2 us2.toArray) hz hTI hTO ⟨h1, sq1⟩ ⟨h2, sq2⟩ (by omega) (by omega) (by omega) fun h' tk hk => ⟨rfl, ?_⟩
    refine I.turnedL (t' := tk) (ch := [z, TI, TO, i1, i2]) (fun c oc hcn q => ?_) hf
    have g : ∀ d, d ∈ [z, TI, TO, i1, i2] → c ≠ d := fun d hd e => hcn (e ▸ hd)
    exact hk c oc (g z (by simp)) (g TO (by simp)) (g i1 (by simp)) (g i2 (by simp)) q
  self := fun A i s Q E st h => wpAny_pyIter_zip st.1 h
def iZipB (K : PySem.W.Frag) (ta : TA) : TI := fun σ H R => ta σ H fun vs H1 => ∃ b1 b2 a1 a2 xs ys, vs = [.ref a1, .ref a2] ∧ SqB K b1 H1 a1 xs ∧ SqB K b2 H1 a2 ys ∧ R (ItzB K b1 b2 a1 a2) H1
theorem pi_zipB {X : Cx} {e e2 : Expr} {ta : TA} {p pos tpos : Pos} {elts : List Expr} {kk : Nat} (hg : Gl X "zip") (hm : X.mg "zip" = none) (ha : PA X [e, e2] ta)
    (hs : starEach [e, e2] X.env = (false, eval e X.env) :: starEach [e2] X.env := by rfl) (hpl : (backTo pos (starEach [e2] X.env)).any (·.1) = false := by rfl) :
    PI X (.Tuple elts kk tpos) (.Call (.Name "zip" p) [e, e2] [] pos) (iZipB X.K ta) := by
  refine ⟨fun pins s σ H R I h => ?_⟩
  refine Call_ (ld_blt I hg hm boot_zip (callWith_type1 (thn (ha.run pos pins s σ H _ I h) fun us s1 ⟨vs, H1, I1, r1, g⟩ => ?_) hs hpl))
  obtain ⟨b1, b2, a1, a2, xs, ys, ex, qx, qy, q⟩ := g
  subst ex
  obtain ⟨u, w', eus, ru, rw'⟩ := vals2 r1
  subst eus
  cases ru
  cases rw'
  obtain ⟨us1, rv1, sq1, lt1⟩ := seqB I1 qx
  obtain ⟨us2, rv2, sq2, lt2⟩ := seqB I1 qy
  refine zip_begins2 (beginsB b1 a1 us1.toArray) (beginsB b2 a2 us2.toArray) sq1 sq2 fun h' hz hTI hTO g1 g2 hsz hk => wpAny_pyIter_zip hz ?_
  have S := zip_sep2 (N := s1.heap.objs.size) (fp1 := [a1]) (fp2 := [a2]) (fun b hb => by rw [List.mem_singleton.mp hb]; exact lt1) (fun b hb => by rw [List.mem_singleton.mp hb]; exact lt2)
  refine ⟨s1.heap.objs.size + 4, [s1.heap.objs.size + 4, s1.heap.objs.size + 2, s1.heap.objs.size + 3, s1.heap.objs.size, s1.heap.objs.size + 1], _, _, H1, rfl, I1.kept (t' := s1.toks) hk,
    turn_zipB S (Nat.ne_of_lt lt1) (Nat.ne_of_lt (Nat.lt_succ_of_lt lt2)), ⟨hz, hTI, ⟨_, _, hTO⟩, itIs0 g1, itIs0 g2⟩, fun c hcm => ?_, q⟩
  have hle : s1.heap.objs.size ≤ c := by
    have e' : c = s1.heap.objs.size + 4 ∨ c = s1.heap.objs.size + 2 ∨ c = s1.heap.objs.size + 3 ∨ c = s1.heap.objs.size ∨ c = s1.heap.objs.size + 1 := by simpa using hcm
    rcases e' with q | q | q | q | q <;> rw [q] <;> first | exact Nat.le_add_right _ _ | exact Nat.le_refl _
  exact I1.fpOk hle (I1.hok.fresh hle)
/-! ### their walks -/
theorem SqB.ex {K : PySem.W.Frag} {b : Bool} {H H' : Hp} {a : Addr} {xs : List V} (e : Evl.Ex H H') (h : SqB K b H a xs) : SqB K b H' a xs := by
  cases b with
  | true => exact Evl.ex_t e h
  | false => exact Evl.ex_l e h
theorem walk_enumB {K : PySem.W.Frag} {b : Bool} {a : Addr} {xs : List V} : Walk (IteB K b a) xs.length (fun H => SqB K b H a xs) (fun i H v H' => ∃ T x, v = .ref T ∧ H T = none ∧ H' = upd H T (.tup [.int (i : Nat), x]) ∧ xs[i]? = some x) where
  goes := fun i H hi h => ⟨xs, xs[i], h, List.getElem?_eq_getElem hi⟩
  stops := fun H h => ⟨xs, h, rfl⟩
  yields := fun i H v H' hi h y => by
    obtain ⟨T, x, e1, e2, e3, e4⟩ := y
    exact ⟨T, x, e1, e2, e3, e4 xs h⟩
theorem walk_zipB {K : PySem.W.Frag} {b1 b2 : Bool} {a1 a2 : Addr} {xs ys : List V} (hl : xs.length = ys.length) : Walk (ItzB K b1 b2 a1 a2) xs.length (fun H => SqB K b1 H a1 xs ∧ SqB K b2 H a2 ys)
    (fun i H v H' => ∃ T x y, v = .ref T ∧ H T = none ∧ H' = upd H T (.tup [x, y]) ∧ xs[i]? = some x ∧ ys[i]? = some y) where
  goes := fun i H hi h => ⟨xs, ys, xs[i], ys[i]'(by omega), h.1, h.2, List.getElem?_eq_getElem hi, List.getElem?_eq_getElem (by omega)⟩
  stops := fun H h => ⟨xs, ys, h.1, h.2, Nat.le_refl _, by omega, .inl rfl⟩
  yields := fun i H v H' hi h y => by
    obtain ⟨T, x, z, e1, e2, e3, e4, e5⟩ := y
    exact ⟨T, x, z, e1, e2, e3, e4 xs h.1, e5 ys h.2⟩
/-! ### for x in s, s a list or a tuple -/
def ItsB (K : PySem.W.Frag) (b : Bool) (a : Addr) : It where
  go := fun i H => ∃ xs x, SqB K b H a xs ∧ xs[i]? = some x
  yld := fun i H x H' => H' = H ∧ ∀ xs, SqB K b H a xs → xs[i]? = some x
  stop := fun i H => ∃ xs, SqB K b H a xs ∧ xs.length ≤ i
theorem turn_seqB {P : Program} {w : World} {K : PySem.W.Frag} {tg : Expr} (b : Bool) (a it : Addr) : Turn P w K tg (ItsB K b a) [it] it (fun i h => ItIs b h it a i) := by
  cases b with
  | true => exact turn_tuple a it
  | false => exact turn_list a it
def iSeqB (K : PySem.W.Frag) (tl : TE) : TI := fun σ H R => tl σ H fun x H1 => ∃ b a xs, x = .ref a ∧ SqB K b H1 a xs ∧ R (ItsB K b a) H1
theorem pi_seqB {X : Cx} {tg l : Expr} {tl : TE} (hl : PE X l tl) : PI X tg l (iSeqB X.K tl) := by
  refine ⟨fun pins s σ H R I h => thn (hl.run pins s σ H _ I h) fun v s1 ⟨x, H1, I1, r1, g⟩ => ?_⟩
  obtain ⟨b, a, xs, e, hq, q⟩ := g
  subst e
  cases r1
  obtain ⟨its, rv, hsq, lt⟩ := seqB I1 hq
  refine (beginsB b a its.toArray).iter _ _ _ _ _ _ hsq ?_
  refine ⟨s1.heap.objs.size, [s1.heap.objs.size], _, _, H1, rfl, I1.kept (t' := s1.toks) fun c o e => Heap.get?_push_of_some _ e, turn_seqB b a _, itIs0 (Heap.get?_push_size _ (beginsB b a its.toArray).free), fun c hc => ?_, q⟩
  rw [List.mem_singleton.mp hc]
  exact I1.fpOk (Nat.le_refl _) (I1.hok.fresh (Nat.le_refl _))
theorem walk_seqB {K : PySem.W.Frag} {b : Bool} {a : Addr} {xs : List V} : Walk (ItsB K b a) xs.length (fun H => SqB K b H a xs) (fun i H v H' => H' = H ∧ xs[i]? = some v) where
  goes := fun i H hi h => ⟨xs, xs[i], h, List.getElem?_eq_getElem hi⟩
  stops := fun H h => ⟨xs, h, Nat.le_refl _⟩
  yields := fun i H v H' hi h y => ⟨y.1, y.2 xs h⟩
/-! ### one of two readings -/
theorem PG.or {X : Cx} {e : Expr} {g1 g2 : TG} (h1 : PG X e g1) (h2 : PG X e g2) : PG X e (fun v σ H Q => g1 v σ H Q ∨ g2 v σ H Q) :=
  ⟨fun pins s σ H v u Q I r h => by
    rcases h with h | h
    · exact h1.run pins s σ H v u Q I r h
    · exact h2.run pins s σ H v u Q I r h⟩
theorem CallR.or {X : Cx} {f : Value} {r1 r2 : List V → Hp → VK → Prop} (h1 : CallR X f r1) (h2 : CallR X f r2) : CallR X f (fun vs H Q => r1 vs H Q ∨ r2 vs H Q) := by
  intro pins s σ H vs us Q I r h
  rcases h with h | h
  · exact h1 pins s σ H vs us Q I r h
  · exact h2 pins s σ H vs us Q I r h
/-- unpacking a pair: a tuple or a list of n items -/
def gSeqB (K : PySem.W.Frag) (n : Nat) (t : TGs) : TG := fun v σ H Q => ∃ b a xs, v = .ref a ∧ SqB K b H a xs ∧ xs.length = n ∧ t xs σ H Q
theorem pg_seqB {X : Cx} {es : List Expr} {k : Nat} {pos : Pos} {t : TGs} {n : Nat} (hc : X.calm = true) (h : PGs X es t)
    (hn : (assignEach es X.env).length = n := by rfl) (hst : (assignEach es X.env).findIdx? (·.1) = none := by rfl) : PG X (.Tuple es k pos) (gSeqB X.K n t) :=
  ⟨fun pins s σ H v u Q I r hw => by
    obtain ⟨b, a, xs, e1, hq, hl, hw⟩ := hw
    cases b with
    | true => exact (pg_tup hc h hn hst).run pins s σ H v u Q I r ⟨a, xs, e1, hq, hl, hw⟩
    | false => exact (pg_unl hc h hn hst).run pins s σ H v u Q I r ⟨a, xs, e1, hq, hl, hw⟩⟩
/-- sorted(s), s a list or a tuple of ints -/
def rSrtB (K : PySem.W.Frag) : List V → Hp → VK → Prop := fun vs H Q => ∃ (b : Bool) (a : Addr) (ms : List Int), vs = [V.ref a] ∧ SqB K b H a (ms.map V.int) ∧
  ∀ (ks : List Int) (p : Addr), ks.Perm ms → ks.Pairwise (· ≤ ·) → H p = none → Q (.ref p) (upd H p (.lst (ks.map V.int)))
theorem cr_srtB {X : Cx} : CallR X (.builtin "sorted") (rSrtB X.K) := by
  intro pins s σ H vs us Q I r h
  obtain ⟨b, a, ms, e, hq, q⟩ := h
  cases b with
  | true => exact cr_srtT pins s σ H vs us Q I r ⟨a, ms, e, hq, q⟩
  | false => exact cr_sortedI pins s σ H vs us Q I r ⟨a, ms, e, hq, q⟩
/-- len(s), s a list or a tuple -/
def rLenB (K : PySem.W.Frag) : List V → Hp → VK → Prop := fun vs H Q => ∃ (b : Bool) (a : Addr) (xs : List V), vs = [V.ref a] ∧ SqB K b H a xs ∧ Q (.int (xs.length : Int)) H
theorem cr_lenB {X : Cx} : CallR X (.builtin "len") (rLenB X.K) := by
  intro pins s σ H vs us Q I r h
  obtain ⟨b, a, xs, e, hq, q⟩ := h
  cases b with
  | true => exact call_len_seq pins s σ H vs us Q I r ⟨a, xs, e, .inr hq, q⟩
  | false => exact call_len_seq pins s σ H vs us Q I r ⟨a, xs, e, .inl hq, q⟩
/-- s[i], s a list or a tuple -/
def rIxB (K : PySem.W.Frag) : R2 := fun x y H Q => ∃ (b : Bool) (p : Addr) (xs : List V) (i : Int) (v : V), x = .ref p ∧ y = .int i ∧ SqB K b H p xs ∧ atI xs i = some v ∧ Q v H
theorem ix_B {X : Cx} : IxR X (rIxB X.K) := by
  have h : IxR X (rIx X.K) := ix_seq
  refine fun va sl pins s σ H x y u w Q I rx ry g hp => h va sl pins s σ H x y u w Q I rx ry ?_ hp
  obtain ⟨b, p, xs, i, v, e1, e2, hq, ha, q⟩ := g
  cases b with
  | true => exact .inr (.inl ⟨p, xs, i, v, e1, e2, hq, ha, q⟩)
  | false => exact .inl ⟨p, xs, i, v, e1, e2, hq, ha, q⟩
end OgR

namespace OgR
open PySem PySem.Spec PyProof.Rows L2
/-! ### l[a:c] = a list -/
def gSl (to : TE) (tl th : TO) : TG := fun v σ H Q => to σ H fun o H1 => tl σ H1 fun lo H2 => th σ H2 fun hi H3 => ∃ (l b : Addr) (xs ys : List V) (a c : Int), o = .ref l ∧ v = .ref b ∧ lo = some a ∧ hi = some c ∧ H3 l = some (.lst xs) ∧ H3 b = some (.lst ys) ∧ l ≠ b ∧
  0 ≤ a ∧ a ≤ c ∧ c ≤ xs.length ∧ xs.length + ys.length ≤ sizeLine ∧ Q σ (upd H3 l (.lst (xs.take a.toNat ++ ys ++ xs.drop c.toNat)))
theorem pg_sl {X : Cx} {o : Expr} {lo hi : Option Expr} {pos p2 : Pos} {to : TE} {tl th : TO} (ho : PE X o to) (hl : PO X lo tl) (hu : PO X hi th)
    (ha : ∀ v, assign (.Subscript o (.Slice lo hi none p2) pos) X.env v = (do
      let ov ← holding [v] (eval o X.env)
      let iv ← holding [v, ov] (eval (.Slice lo hi none p2) X.env)
      standAt pos
      holding [v, ov, iv] (setItem ov iv v)
      release [iv, v, ov] []) := by intro _; rfl) : PG X (.Subscript o (.Slice lo hi none p2) pos) (gSl to tl th) := by
  refine ⟨fun pins s σ H v u Q I r h => ?_⟩
  rw [ha]
  refine wpAny_bind (wpAny_holding (thn (ho.run pins s σ H _ I h) fun ov s1 ⟨x, H1, I1, r1, q1⟩ => ?_))
  refine wpAny_bind (wpAny_holding (wpAny_Slice (thn (hl.run pins s1 σ H1 _ I1 q1) fun vl s2 ⟨l, H2, I2, pl, q2⟩ => thn (hu.run pins s2 σ H2 _ I2 q2) fun vu s3 ⟨w', H3, I3, pu, q3⟩ => ?_)))
  rw [evalPart_none]
  refine wpAny_pure ?_
  obtain ⟨la, lb, xs, ys, a, c, rfl, rfl, rfl, rfl, e1, e2, hne, h0, hac, hc, hz, q⟩ := q3
  cases r1
  cases r
  have I4 : Inv X pins σ H3 { s3 with heap := s3.heap.push { cls := .type "slice", data := .fields #[vl, vu, .none] } } := I3.kept (t' := s3.toks) fun b ob q => Heap.get?_push_of_some _ q
  refine wpAny_bind (wpAny_standAt (wpAny_bind (wpAny_holding ?_)))
  cases pl with
  | int a ta =>
    cases pu with
    | int c tc => exact set_slice I4 e1 e2 hne (Heap.IsSliceOf.new ..) ⟨_, rfl⟩ ⟨_, rfl⟩ h0 hac hc hz fun s' I' => wpAny_release ⟨_, _, I', q⟩
end OgR

namespace OgR
open PySem PySem.Spec PyProof.Rows L2
/-! ### len(set(t)), t a tuple of ints, some of them perhaps twice -/
theorem card_eq : ∀ {ks ns : List Int}, ks.Nodup → (∀ k, k ∈ ns ↔ k ∈ ks) → ks.length ≤ ns.length ∧ (ks.length = ns.length ↔ ns.Nodup)
  | ks, [], hk, hm => by
    have e : ks = [] := List.eq_nil_iff_forall_not_mem.mpr fun k h => by
      have := (hm k).mpr h
      simp at this
    subst e
    simp
  | ks, n :: r, hk, hm => by
    by_cases hn : n ∈ r
    · have hm' : ∀ k, k ∈ r ↔ k ∈ ks := fun k => by
        rw [← hm k]
        constructor
        · exact fun h => List.mem_cons_of_mem _ h
        · intro h
          rcases List.mem_cons.mp h with e | e
          · rw [e]; exact hn
          · exact e
      have ih := card_eq hk hm'
      refine ⟨Nat.le_trans ih.1 (Nat.le_succ _), ?_⟩
      constructor
      · intro e
        have := ih.1
        rw [e, List.length_cons] at this
        omega
      · intro h
        exact absurd hn (List.nodup_cons.mp h).1
    · have hnk : n ∈ ks := (hm n).mp List.mem_cons_self
      have hm' : ∀ k, k ∈ r ↔ k ∈ ks.erase n := fun k => by
        rw [hk.mem_erase_iff, ← hm k]
        constructor
        · intro h
          refine ⟨fun e => hn (e ▸ h), List.mem_cons_of_mem _ h⟩
        · rintro ⟨h1, h2⟩
          rcases List.mem_cons.mp h2 with e | e
          · exact absurd e h1
          · exact e
      have ih := card_eq (hk.erase n) hm'
      have hl := List.length_erase_of_mem hnk
      have hpos : 0 < ks.length := List.length_pos_of_mem hnk
      rw [List.nodup_cons, List.length_cons]
      constructor
      · have := ih.1; omega
      · constructor
        · intro e
          exact ⟨hn, ih.2.mp (by omega)⟩
        · intro h
          have := ih.2.mpr h.2
          omega
section
variable {X : Cx}
def tLenSetN (K : PySem.W.Frag) (ta : TE) : TE := fun σ H Q => ta σ H fun x H1 => ∃ (l : Addr) (ns : List Int), x = V.ref l ∧ SqT K H1 l (ns.map V.int) ∧ ns.length ≤ 1000 ∧ ∀ c : Nat, c ≤ ns.length → (c = ns.length ↔ ns.Nodup) → Q (.int (c : Nat)) H1
theorem pe_lenSetN {a : Expr} {ta : TE} {p p2 q pos : Pos} (hc : X.calm = true) (hg : Gl X "len") (hm : X.mg "len" = none) (hg2 : Gl X "set") (hm2 : X.mg "set" = none) (ha : PE X a ta)
    (na : starEach [a] X.env = (false, eval a X.env) :: starEach [] X.env := by rfl) : PE X (.Call (.Name "len" p) [.Call (.Name "set" p2) [a] [] q] [] pos) (tLenSetN X.K ta) := by
  refine ⟨fun pins s σ H Q I h => ?_⟩
  refine Call_ (ld_blt I hg hm PySem.boot_len (PyProof.Rows.callWith_builtin1 (PyProof.Rows.args_cons ?_ rfl) rfl rfl))
  refine Call_ (ld_blt I hg2 hm2 PyProof.Rows.boot_set (PyProof.Rows.callWith_type1 (PyProof.Rows.args_cons (thn (ha.run pins s σ H _ I h) fun v s1 ⟨x, H1, I1, r1, q1⟩ => PyProof.Rows.args_nil ?_) na) na rfl))
  obtain ⟨l, ns, rfl, hq, h1, q1⟩ := q1
  cases r1
  obtain ⟨its, rv, pt, hz⟩ := I1.tuple hq
  have hi : IntsAre its.toArray.toList ns := ints_of_vals rv
  refine call_set_tupI ns (I1.ok.hd hc) (show s1.heap.IsTuple l its.toArray from pt) hi (by unfold scanBound; omega) fun h' tk c R1 hcn k => ?_
  obtain ⟨o, es, ep, t, ho, hex, hdt, g, nd, hm3, hb, hf, hn, hr, hl2⟩ := R1
  refine PyProof.Rows.args_nil ?_
  have I2 : Inv X pins σ H1 { s1 with heap := h', toks := tk } := I1.kept fun b o e => k b o e
  have hcard := card_eq (ks := es.toList.map keyOf) (ns := ns) nd fun k => by
    rw [← hm3 k]
    simp
  rw [List.length_map, Array.length_toList] at hcard
  refine call_len_set (s := { s1 with heap := h', toks := tk }) ho hex hdt hf ?_ ⟨.int (es.size : Nat), H1, I2.tok _, ⟨_, rfl⟩, q1 es.size hcard.1 hcard.2⟩
  have h5 := hcard.1
  have h6 : (es.size : Int) < 4096 := by omega
  exact Int.lt_of_lt_of_le h6 (by decide)
/-! ### repr(x), x data -/
def rRepr (K : PySem.W.Frag) : List V → Hp → VK → Prop := fun vs H Q => ∃ (v : V) (d : PyData), vs = [v] ∧ Dp K H v d ∧ d.showable = true ∧ d.hasDict = false ∧ d.depth ≤ 40 ∧ d.shown.length ≤ sizeLine ∧ Q (.str d.shown) H
theorem cr_repr (hG : X.A.guards = some []) (hu : X.A.units + 64 < cLine) : CallR X (.builtin "repr") (rRepr X.K) := by
  intro pins s σ H xs us Q I r h
  obtain ⟨v, d, rfl, hd, hs, hnd, hdep, hz, q⟩ := h
  obtain ⟨u, rfl, ru⟩ := r.one
  obtain ⟨as, rd⟩ := Dp.reads I d v u hd ru
  have fin : ∀ (h' : Heap) (tu : Tok) (tk : Nat), (∀ b o, s.heap.get? b = some o → h'.get? b = some o) → EP X pins σ Q (.str d.shown tu) { s with heap := h', toks := tk } :=
    fun h' tu tk hk => ⟨.str d.shown, H, I.kept (t' := tk) hk, ⟨tu, rfl⟩, q⟩
  cases rd with
  | none => exact P.repr_of_none (fin _ _ _ fun _ _ e => e)
  | bool b => exact P.repr_of_bool (by have f := fin s.heap s.toks (s.toks + 1) fun _ _ e => e; cases b <;> exact f)
  | int i t =>
    have hs' : i.natAbs.log2 < 1920 := by simpa [PyData.showable] using hs
    exact P.repr_of_int hs' (fin s.heap s.toks (s.toks + 1) fun _ _ e => e)
  | str x t => exact P.repr_of_str (hsz := by simpa [PyData.shown] using hz) (fin s.heap s.toks (s.toks + 1) fun _ _ e => e)
  | dict => simp [PyData.hasDict] at hnd
  | @list a o vs n ds as h1 h2 h3 h4 =>
    have hz' : (listText (PyData.shownAll ds)).length ≤ sizeLine := by simpa only [PyData.shown] using hz
    have hT : s.TypeIs (.ref a) "list" := ⟨o, h1, h2⟩
    have hdep' : PyData.depthAll ds + 1 ≤ 40 := by simpa only [PyData.depth] using hdep
    have fin' : ∀ (h' : Heap) (tu : Tok) (tk : Nat), (∀ b o, s.heap.get? b = some o → h'.get? b = some o) → EP X pins σ Q (.str (listText (PyData.shownAll ds)) tu) { s with heap := h', toks := tk } := by
      simpa only [PyData.shown] using fin
    obtain ⟨bs, hb, hk⟩ := ReprAllK.of_readsAll (prog := X.prog) (w := X.w) h4 (by simpa [PyData.showable] using hs)
      (fun hx => by simp only [PyData.hasDict] at hnd; rw [hnd] at hx; cases hx) fun t ht => Nat.le_trans (listText_mem_le ht) hz'
    have hna : a ∉ bs := not_mem_of_deeper (.list h1 h2 h3 h4) (by simp only [PyData.depth]; omega) hb
    refine call_repr_slot (by omega) hT PySem.F.slot_list_repr.toG ?_
    obtain ⟨l⟩ := vs
    cases l with
    | nil =>
      have h5 : ReadsAll s.heap [] ds _ := h4
      cases h5
      refine call_list_repr_empty hT h1 h3 ⟨_, _, rfl, ?_⟩
      exact fin' s.heap _ _ fun _ _ e => e
    | cons x l =>
      exact call_list_reprK h1 h2 h3 hna (by simpa using hk.length_eq) (fun i y e => hk.item i y (by simpa using e)) hG (fun b _ => Clear.nil b) (by show X.A.units + 1 + _ < _; omega) (fun _ _ e => e) (fun h' tu tk hk' => ⟨_, _, rfl, fin' h' tu tk hk'⟩) hz'
  | @tuple a o vs n ds as h1 h2 h3 h4 =>
    have hz' : (tupleText (PyData.shownAll ds)).length ≤ sizeLine := by simpa only [PyData.shown] using hz
    have hdep' : PyData.depthAll ds + 1 ≤ 40 := by simpa only [PyData.depth] using hdep
    obtain ⟨bs, hb, hk⟩ := ReprAllK.of_readsAll (prog := X.prog) (w := X.w) h4 (by simpa [PyData.showable] using hs)
      (fun hx => by simp only [PyData.hasDict] at hnd; rw [hnd] at hx; cases hx) fun t ht => Nat.le_trans (tupleText_mem_le ht) hz'
    have hna : a ∉ bs := not_mem_of_deeper (.tuple h1 h2 h3 h4) (by simp only [PyData.depth]; omega) hb
    refine call_repr_slot (by omega) ⟨o, h1, h2⟩ PySem.F.slot_tuple_repr ?_
    exact call_tuple_reprK h1 h2 h3 hna hk hG (fun b _ => Clear.nil b) (by show X.A.units + 1 + _ < _; omega) (fun _ _ e => e) (fun h' tu tk hk' => ⟨_, _, rfl, by simpa only [PyData.shown] using fin h' tu tk hk'⟩) hz'
end
end OgR

namespace OgR
open PySem PySem.Spec PyProof.Rows L2
/-! ### t[::-1], t a tuple -/
theorem rev_adjust (n : Nat) : Builtin.Slice.sliceAdjust none none (-1) (n : Int) = ((n : Int) - 1, -1) := by
  unfold Builtin.Slice.sliceAdjust
  simp
theorem rev_places (n : Nat) : Builtin.Slice.slicePlaces ((n : Int) - 1) (-1) (-1) = n := by
  unfold Builtin.Slice.slicePlaces
  simp
  split <;> omega
theorem rev_pick (xs : Array Value) : ((List.range xs.size).filterMap fun (m : Nat) => xs[(((xs.size : Int) - 1) + (m : Int) * (-1)).toNat]?) = xs.toList.reverse := by
  have e : ∀ m ∈ List.range xs.size, xs[(((xs.size : Int) - 1) + (m : Int) * (-1)).toNat]? = some (xs.toList.reverse.getD m .none) := by
    intro m hm
    have hm' : m < xs.size := List.mem_range.mp hm
    have e1 : (((xs.size : Int) - 1) + (m : Int) * (-1)).toNat = xs.size - 1 - m := by omega
    rw [e1, List.getD_eq_getElem?_getD, List.getElem?_reverse (by rw [Array.length_toList]; exact hm'), Array.length_toList, Array.getElem?_toList]
    rw [Array.getElem?_eq_getElem (by omega)]
    rfl
  have e2 : ((List.range xs.size).filterMap fun (m : Nat) => xs[(((xs.size : Int) - 1) + (m : Int) * (-1)).toNat]?) = (List.range xs.size).map fun m => xs.toList.reverse.getD m .none := by
    rw [← List.filterMap_eq_map]
    generalize List.range xs.size = R at e
    induction R with
    | nil => rfl
    | cons m R ih =>
      have e0 := e m List.mem_cons_self
      rw [List.filterMap_cons, List.filterMap_cons, e0, ih fun k hk => e k (List.mem_cons_of_mem _ hk)]
      rfl
  rw [e2]
  refine List.ext_getElem? fun i => ?_
  rw [List.getElem?_map]
  by_cases hi : i < xs.size
  · rw [List.getElem?_range hi]
    have hl : i < xs.toList.reverse.length := by rw [List.length_reverse, Array.length_toList]; exact hi
    simp only [Option.map_some, List.getD_eq_getElem?_getD]
    rw [List.getElem?_eq_getElem hl]
    rfl
  · rw [List.getElem?_eq_none (by rw [List.length_range]; omega), List.getElem?_eq_none (by rw [List.length_reverse, Array.length_toList]; omega)]
    rfl
section
variable {prog : Program} {w : World} {A : Around} {E : Value → Shared → Prop} {s : Shared}
theorem rev_applied {sl : Addr} {n : Nat} {t : Tok} {Q : Int × Int × Nat → Shared → Prop} (hs : s.heap.IsSliceOf sl .none .none (.int (-1) t)) (h : Q ((n : Int) - 1, -1, n) s) :
    wpAny (model prog w) A (Builtin.Slice.sliceApplied (.ref sl) (pure (n : Int))) Q E s := by
  obtain ⟨os, hos, -, hds⟩ := hs
  unfold Builtin.Slice.sliceApplied Builtin.Slice.sliceFields
  refine wpAny_bind (wpAny_bind (wpAny_field hos hds (x := .none) rfl (wpAny_bind (wpAny_field hos hds (x := .none) rfl (wpAny_bind (wpAny_field hos hds (x := .int (-1) t) rfl (wpAny_pure ?_)))))))
  refine wpAny_bind (slicePart_int ?_)
  show wpAny _ _ (if ((-1 : Int) == 0) = true then _ else _) _ _ s
  rw [if_neg (by decide)]
  refine wpAny_bind (slicePart_none (wpAny_bind (slicePart_none (wpAny_bind (wpAny_pure ?_)))))
  show wpAny _ _ (match Builtin.Slice.sliceAdjust none none (-1) (n : Int) with | (lo, hi) => pure (lo, (-1 : Int), Builtin.Slice.slicePlaces lo hi (-1))) _ _ s
  rw [rev_adjust]
  show wpAny _ _ (pure (((n : Int) - 1), (-1 : Int), Builtin.Slice.slicePlaces ((n : Int) - 1) (-1) (-1))) _ _ s
  rw [rev_places]
  exact wpAny_pure h
theorem getItem_rev {t sl : Addr} {items : Array Value} {tk : Tok} {Q : Value → Shared → Prop} (ht : IsTup s.heap t items) (hs : s.heap.IsSliceOf sl .none .none (.int (-1) tk))
    (h : Q (.ref s.heap.objs.size) { s with heap := s.heap.push { cls := .type "tuple", data := .seq items.toList.reverse.toArray } }) (hsz : items.size ≤ sizeLine) : wpAny (model prog w) A (getItem (.ref t) (.ref sl)) Q E s := by
  have hfit : sizeOk (.seq items.toList.reverse.toArray) := by
    show items.toList.reverse.toArray.size ≤ sizeLine
    rw [List.size_toArray, List.length_reverse, Array.length_toList]
    exact hsz
  have hTs : s.TypeIs (.ref sl) "slice" := by
    obtain ⟨os, hos, hcs, -⟩ := id hs
    exact ⟨os, hos, hcs⟩
  unfold getItem
  try with_reducible refine wpAny_holding ?_
  first | refine wpAny_bind (wpAny_pure ?_) | skip
  refine wpAny_bind (wpAny_sequenceKey ht.typeIs (by decide) (wpAny_bind (wpAny_callSpecial?_slot (name := Str.ofString "__getitem__") ht.typeIs PyProof.Rows.slot_tuple_getitem
    (wpAny_call_entry PyProof.Rows.slot_tuple_getitem ht.typeIs entry_tuple_getitem ?_ (args_tuple_getitem _ _)))))
  show wpAny _ _ (Builtin.Tuple.tupleItemsOf (.ref t) >>= _) _ _ s
  refine wpAny_bind (tupleItemsOf_ ht (wpAny_bind (wpAny_typeOf hTs ?_)))
  rw [if_pos (by decide)]
  refine wpAny_bind (rev_applied hs ?_)
  have hno : ¬ ((((items.size : Int) - 1) == 0 && (-1 : Int) == 1 && items.size == items.size) = true) := by simp
  show wpAny _ _ (if ((((items.size : Int) - 1) == 0 && (-1 : Int) == 1 && items.size == items.size) = true) then _ else _) _ _ s
  rw [if_neg hno, rev_pick]
  first
    | exact wpAny_bind (m := Builtin.Tuple.tupleExact _) (wpAny_newObj_type (wpAny_pure ⟨_, rfl, wpAny_pure h⟩) hfit)
    | exact wpAny_bind (wpAny_bind (m := Builtin.Tuple.tupleExact _) (wpAny_newObj_type (wpAny_pure (wpAny_pure ⟨_, rfl, wpAny_pure h⟩)) hfit))
    | exact wpAny_bind (wpAny_bind (m := Builtin.Tuple.tupleExact _) (wpAny_newObj_type (wpAny_pure ⟨_, rfl, wpAny_pure h⟩) hfit))
end
section
variable {X : Cx}
def tRevT (K : PySem.W.Frag) (te : TE) : TE := fun σ H Q => te σ H fun x H1 => ∃ a xs, x = .ref a ∧ SqT K H1 a xs ∧ ∀ p, H1 p = none → Q (.ref p) (upd H1 p (.tup xs.reverse))
theorem pe_revT {e : Expr} {te : TE} {k : Nat} {p1 p2 p3 pos : Pos} (he : PE X e te) : PE X (.Subscript e (.Slice none none (some (.UnaryOp .USub (.Constant (.int 1) k p1) p2)) p3) pos) (tRevT X.K te) := by
  refine ⟨fun pins s σ H Q I h => Subscript_ (thn (he.run pins s σ H _ I h) fun v s1 ⟨x, H1, I1, r1, q1⟩ => ?_)⟩
  obtain ⟨a, xs, rfl, hx, q⟩ := q1
  cases r1
  have hst : PO X (some (.UnaryOp .USub (.Constant (.int 1) k p1) p2)) (tPart (tUn (rU fun i => .int (-i)) (tC (.int 1)))) := po_some (pe_un un_neg pe_int)
  refine wpAny_Slice (thn (po_none.run pins s1 σ H1 (fun o H2 => o = none ∧ H2 = H1) I1 ⟨rfl, rfl⟩) fun vl s2 ⟨l, H2, I2, pl, el, e2⟩ => ?_)
  subst el e2
  refine thn (po_none.run pins s2 σ H2 (fun o H3 => o = none ∧ H3 = H2) I2 ⟨rfl, rfl⟩) fun vu s3 ⟨u, H3, I3, pu, eu, e3⟩ => ?_
  subst eu e3
  refine thn (hst.run pins s3 σ H3 (fun o H4 => o = some (-1) ∧ H4 = H3) I3 ⟨1, rfl, -1, rfl, rfl, rfl⟩) fun vs s4 ⟨o, H4, I4, ps, eo, e4⟩ => ?_
  subst eo e4
  cases pl
  cases pu
  cases ps with
  | int _ tk =>
    have I5 : Inv X pins σ H4 { s4 with heap := s4.heap.push { cls := .type "slice", data := .fields #[.none, .none, .int (-1) tk] } } := I4.kept (t' := s4.toks) fun b ob q => Heap.get?_push_of_some _ q
    obtain ⟨its, r, ht, hz⟩ := I5.tuple hx
    have hlen := r.length
    show wpAny (model X.prog X.w) X.A (subscriptTail e (.Slice none none (some (.UnaryOp .USub (.Constant (.int 1) k p1) p2)) p3) (.ref a) (.ref s4.heap.objs.size)) (EP X pins σ Q) X.xe { s4 with heap := s4.heap.push { cls := .type "slice", data := .fields #[.none, .none, .int (-1) tk] } }
    refine tail_any (ops := [.ref a, .ref s4.heap.objs.size]) ht.typeIs (PyProof.Rows.slot_tuple_getitem.lookup) ?_ (by with_unfolding_all rfl)
    refine getItem_rev ht (Heap.IsSliceOf.new _ .none .none (.int (-1) tk)) ⟨.ref _, _, I5.laid (t' := s4.toks) (o := .tup xs.reverse) (fun b ob q => Heap.get?_push_of_some _ q) (Nat.le_refl _) ?_, rfl, q _ (I5.hok.fresh (Nat.le_refl _))⟩ (by rw [List.size_toArray]; omega)
    exact ⟨by rw [List.length_reverse]; exact hz, _, r.reverse, ⟨_, Heap.get?_push_size _ rfl, rfl, 0, rfl⟩⟩
end
end OgR

namespace OgR
open PySem PySem.Spec PyProof.Rows L2
/-! ### defs that run where no repr is under way -/
section
variable {P : Program} {w : World} {K : PySem.W.Frag} {mg : Str → Option Value} {base : Heap}
/-- the promise of a def for callers of whom no repr is under way -/
def FnG (P : Program) (w : World) (K : PySem.W.Frag) (mg : Str → Option Value) (base : Heap) (k : Nat) (f : Addr) (fd : FuncData) (ps : List Str) (sp : Sp) : Prop :=
  (∀ vs H Q E, sp vs H Q E → vs.length = ps.length) ∧
  ∀ (A : Around) (outer : List Env) (s : Shared) (H : Hp) (args : Args) (us : List Value) (vs : List V) (Q : VK) (E : XK), A.guards = some [] → Room k A → Env0 P w K mg base A outer s H → BindsTo s fd args (ps.zip us) → Vals vs us →
    sp vs H Q E → codeAny (model P w) A (.call (.ref f) args) (CR CX0 outer P w H s Q E) s
theorem fnG_of {x qual : Str} {st : Stmt} {f : Addr} {fd : FuncData} {N ps : List Str} {k : Nat} {sp : Sp} (F : Fun K x qual st f fd) (S : FnScope N ps (defScope st)) (hl : ∀ vs H Q E, sp vs H Q E → vs.length = ps.length)
    (body : ∀ (cdv : Value) (A : Around) (outer : List Env) (s : Shared) (H : Hp) (vs : List V) (Q : VK) (E : XK), A.guards = some [] → Room k (A.deeper (envOfC qual (defScope st) s.heap.objs.size f cdv)) → sp vs H Q E →
      ∃ t, PSs (cxOf CX0 P w K mg base N qual (defScope st) f cdv A outer s H E).nox (defBody st) t ∧ t { nx := fun _ H' => Q .non H', rt := Q } (start N vs) H) : FnG P w K mg base (k + 1) f fd ps sp := by
  obtain ⟨oc, od, kV, doc, pm, an, cdv, ct, osl, rfl, lk, hcd⟩ := F.ex
  refine ⟨hl, fun A outer s H args us vs Q E hG hr e0 hb r hsp => ?_⟩
  have here : ∀ b o, base.get? b = some o → s.heap.get? b = some o := fun b o e => (e0.bs b o e).1
  have KX : K.In s.heap := e0.mod.kin.keeps here
  refine codeAny_call_function hr.depth (KX _ _ lk) rfl S.co S.gen rfl (PySem.W.codeRec_of KX hcd) (hb _ _ _ _ (wpAny_newFunctionEnv_cells S.kind ?_ fun env he s1 y => ?_))
  · rintro ⟨n, v⟩ hy
    exact (S.par n (List.of_mem_zip hy).1).imp id fun q => ⟨q, PySem.W.cellsFrom_some _ _ _ (.inl q)⟩
  · subst he
    obtain ⟨t, ht, hq⟩ := body cdv A outer s H vs Q E hG (hr.deeper _) hsp
    have I := inv_start (CX := CX0) (E := E) S hr.hd e0 (hl _ _ _ _ hsp) r y
    refine ⟨(e0.mod.nolimit.keeps here).keeps y.toInCall.keep, codeAny_func (wpAny_mono (ht.nox.run [] s1 (start N vs) H _ I hq) ?_ fun e s' hs => hs)⟩
    rintro (_ | _ | _ | u) s' hs
    all_goals first
      | (obtain ⟨v, σ', H', J, rv, q⟩ := hs; exact ⟨v, H', J.os, J.bare, J.base, J.hok, rv, q⟩)
      | (obtain ⟨σ', H', J, q⟩ := hs; exact ⟨V.non, H', J.os, J.bare, J.base, J.hok, rfl, q⟩)
      | (obtain ⟨_, _, _, q⟩ := hs; exact q.elim)
end
section
variable {X : Cx} {k : Nat} {f : Addr} {fd : FuncData} {ps : List Str} {sp : Sp} {E : XK} {x : Str} {p pos : Pos} {e : Expr} {es : List Expr} {t : TA}
theorem pe_callG (F : FnG X.prog X.w X.K X.mg X.base k f fd ps sp) (hG : X.A.guards = some []) (hr : Room k X.A) (hg : Gl X x) (hm : X.mg x = some (.ref f)) (hk : PySem.W.keepIn X.K (.ref f) = true) (hb : Binds X.K fd ps [])
    (ha : PA X (e :: es) t) (hdb : (x == ("__debug__" : Str)) = false := by decide) (he : starEach (e :: es) X.env = (false, eval e X.env) :: starEach es X.env := by rfl) (hpl : (backTo pos (starEach es X.env)).any (·.1) = false := by rfl) :
    PE X (.Call (.Name x p) (e :: es) [] pos) (tCall sp [] E t) := by
  refine ⟨fun pins s σ H Q I h => wpAny_Call_Name_kw (ld_glob I hg hm ?_ hdb)⟩
  refine PySem.W.callWith_K (h₀ := X.base) I.ok.mod.kin hk (thn (ha.run pos pins s σ H _ I h) fun us s1 ⟨vs, H1, I1, r, q⟩ => ⟨I1.kIn, ?_⟩) he hpl
  have q' : sp (vs ++ []) H1 Q E := q
  rw [List.append_nil] at q'
  have hl : us.length = ps.length := by rw [← r.length]; exact F.1 _ _ _ _ q'
  have hb' := hb s1 us I1.kIn (by rw [List.append_nil]; exact hl)
  rw [List.append_nil] at hb'
  refine wpAny_call (codeAny_mono (F.2 X.A X.stack s1 H1 ⟨us, []⟩ us vs Q E hG hr I1.env0 hb' r q') ?_)
  rintro (e | _ | _ | _ | u) s' hq
  all_goals first
    | exact I1.after hq
    | exact False.elim hq
end
end OgR

namespace OgR
open PySem PySem.Spec PyProof.Rows L2
/-! ### the head of a law whose def is a FnG -/
def scriptH (K : PySem.W.Frag) (a : Addr) (ob : Obj) (ns : List Int) : Hp := fun b => if b = a ∧ K.lookup a = none then some (.frz ob (.lst (ns.map V.int))) else none
theorem scriptH_some {K : PySem.W.Frag} {a b : Addr} {ob : Obj} {ns : List Int} {u : HO} (h : scriptH K a ob ns b = some u) : b = a ∧ K.lookup a = none ∧ u = .frz ob (.lst (ns.map V.int)) := by
  unfold scriptH at h
  split at h
  · rename_i c
    exact ⟨c.1, c.2, (Option.some.inj h).symm⟩
  · cases h
theorem scriptH_none {K : PySem.W.Frag} {a b : Addr} {ob : Obj} {ns : List Int} (h : ¬ (b = a ∧ K.lookup a = none)) : scriptH K a ob ns b = none := if_neg h
theorem law_runG {P : Program} {w : World} {K : PySem.W.Frag} {mg mb : Str → Option Value} {k : Nat} {fa a : Addr} {fd : FuncData} {x : Str} {sp : Sp} {s : Shared} {vs : List Value} {ns : List Int}
    (KX : K.In s.heap) (gl : s.heap.Ns mainGlobals mg) (bl : s.heap.Ns builtinsNs mb) (blt : ∀ x : Str, x ≠ "__name__" → mb x = bootBuiltins x) (lim : s.heap.NoLimit) (gn : s.gens = #[])
    (ha : s.heap.get? a = some { cls := .type "list", data := .seq vs.toArray }) (hi : IntsAre vs ns) (hl : ns.length ≤ sizeLine) (hr : Room k callerA)
    (F : ∀ base : Heap, K.In base → base.Ns mainGlobals mg → FnG P w K mg base k fa fd [x] sp) (bind : ∀ (s : Shared) (u : Value), BindsTo s fd ⟨[u], []⟩ [(x, u)])
    (hsp : ∀ H : Hp, SqL K H a (ns.map V.int) → sp [.ref a] H (fun v _ => v = .bl true) fun _ _ _ => False) :
    codeAny (model P w) callerA (.call (.ref fa) ⟨[.ref a], []⟩) (fun r s' => r = .ok (.ret (.bool true)) ∧ OldK s.heap s'.heap ∧ s'.os = s.os ∧ AllBare s'.gens) s := by
  have rv := vals_ints hi
  have hz : (ns.map V.int).length ≤ sizeLine := by rw [List.length_map]; exact hl
  generalize hH : scriptH K a { cls := .type "list", data := .seq vs.toArray } ns = H
  have tr : ∀ {b : Addr} {u : HO}, H b = some u → b = a ∧ K.lookup a = none ∧ u = .frz { cls := .type "list", data := .seq vs.toArray } (.lst (ns.map V.int)) := fun {b u} e => by
    rw [← hH] at e
    exact scriptH_some e
  have seq : SqL K H a (ns.map V.int) := by
    cases hk : K.lookup a with
    | none => exact .inl (.inr ⟨_, by rw [← hH]; exact if_pos ⟨rfl, hk⟩⟩)
    | some o =>
      have e := KX a o hk
      rw [ha] at e
      cases e
      exact .inr ⟨_, vs.toArray, _, hk, rfl, rfl, rfl, by rw [List.size_toArray, hi.length]; exact hl, by simpa using rv⟩
  have hok : HOk P w H s.heap := fun b u e => by
    obtain ⟨rfl, -, rfl⟩ := tr e
    exact ⟨ha, hz, vs, _, rv, ha⟩
  have kept : ∀ {b : Addr} {m : Str → Option Value}, s.heap.Ns b m → (hidT s.heap H).Ns b m := fun {b m} ⟨o, es, ep, e, d, r⟩ => ⟨o, es, ep, hidT_get e (by
    cases q : H b with
    | none => rfl
    | some u =>
      obtain ⟨rfl, -, -⟩ := tr q
      rw [ha] at e
      cases e
      cases d), d, r⟩
  have KB : K.In (hidT s.heap H) := fun b o e => hidT_get (KX b o e) (by
    cases q : H b with
    | none => rfl
    | some u =>
      obtain ⟨rfl, n, -⟩ := tr q
      rw [n] at e
      cases e)
  have M : Mod K mg (hidT s.heap H) := ⟨KB, kept gl, ⟨mb, kept bl, blt⟩, let ⟨mc, h1, h2⟩ := lim; ⟨mc, kept h1, h2⟩⟩
  have nofr : ∀ b : Addr, b ∉ frs [] := fun b hb => absurd (show b ∈ ([] : List Addr) from hb) (by simp)
  have e0 : Env0 P w K mg (hidT s.heap H) callerA [] s H := ⟨rfl, M, fun b o e => of_hidT e, Nat.le_of_eq (hidT_size _ _), trivial, fun b hb => absurd hb (nofr b), hok, .of_eq gn⟩
  refine codeAny_mono ((F _ KB (kept gl)).2 callerA [] s H ⟨[.ref a], []⟩ [.ref a] [.ref a] _ _ rfl hr e0 (bind s (.ref a)) (.cons rfl .nil) (hsp H seq)) ?_
  rintro (e | _ | _ | _ | u) s' h
  all_goals first
    | exact False.elim h
    | skip
  obtain ⟨v, H', os, bare, un, hok', r', q⟩ := h
  have q' : v = .bl true := q
  subst q'
  obtain rfl : u = Value.bool true := r'
  refine ⟨rfl, OldK.of_keep fun b o e => ?_, os, bare⟩
  cases q2 : H b with
  | none => exact un.keep b o e q2 (nofr b) (by simp)
  | some u =>
    obtain ⟨rfl, -, rfl⟩ := tr q2
    rw [ha] at e
    cases e
    exact (hok' _ _ (un.frzs _ _ _ q2)).1
theorem walk_G {l : PySem.W.OpenLaw} {n k : Nat} {q : Program} {loose : List Str} {XP : (Str → Option Value) → Heap → Prop} {YP : World → Heap → Prop} {d : DefRec} {K : Params → PySem.W.Frag} {sp : World → Sp} {x : Str}
    (hn : l.most = some n) (hn2 : n ≤ sizeLine) (hdf : d.params.defaults = []) (hr : Room k callerA) (hY : ∀ (w : World) (h : Heap), YP w h → (K w.params).In h)
    (F : ∀ (w : World) (mg : Str → Option Value) (fa : Addr) (h : Heap), (K w.params).In h → h.Ns mainGlobals mg → mg d.name = some (.ref fa) →
      ∃ fd : FuncData, (∀ (s : Shared) (u : Value), BindsTo s fd ⟨[u], []⟩ [(x, u)]) ∧ ∀ base : Heap, (K w.params).In base → base.Ns mainGlobals mg → FnG l.prog w (K w.params) mg base k fa fd [x] (sp w))
    (hsp : ∀ (w : World) (H : Hp) (a : Addr) (ns : List Int), ns.length ≤ n → SqL (K w.params) H a (ns.map V.int) → sp w [.ref a] H (fun v _ => v = .bl true) fun _ _ _ => False) :
    PySem.W.WalkO q loose XP YP l.row.toRowW d [] (fun f vs => PySem.call f vs) := by
  refine Att.attach_call hn hdf fun w s₀ s₁ mg mb fa o pm cd doc a vs ns G Y ho hd hcd hmg hobj hints hlen hg => ?_
  obtain ⟨fd, hb, hF⟩ := F w mg fa _ (hY w _ Y) G.T.g hmg
  exact law_runG (hY w _ Y) G.T.g G.T.b G.T.builtins G.T.nolimit hg hobj hints (Nat.le_trans hlen hn2) hr hF hb fun H hS => hsp w H a ns hlen hS
end OgR

namespace Dw
open PySem PySem.Spec PyProof.Rows L2 OgR Evl
/-! ### data in a part G of the heap H; lists of the def's own beside it -/
mutual
theorem dp_ex {K : PySem.W.Frag} {H H' : Hp} (e : Ex H H') : ∀ {d : PyData} {v : V}, Dp K H v d → Dp K H' v d
  | _, _, .non => .non
  | _, _, .bl b => .bl b
  | _, _, .int i => .int i
  | _, _, .str x => .str x
  | _, _, .lst h t => .lst (ex_l e h) (dpa_ex e t)
  | _, _, .tup h t => .tup (ex_t e h) (dpa_ex e t)
theorem dpa_ex {K : PySem.W.Frag} {H H' : Hp} (e : Ex H H') : ∀ {ds : List PyData} {vs : List V}, DpAll K H vs ds → DpAll K H' vs ds
  | _, _, .nil => .nil
  | _, _, .cons h t => .cons (dp_ex e h) (dpa_ex e t)
end
theorem dpa_get {K : PySem.W.Frag} {H : Hp} : ∀ {ds : List PyData} {vs : List V} {i : Nat} {v : V}, DpAll K H vs ds → vs[i]? = some v → ∃ d, ds[i]? = some d ∧ Dp K H v d
  | _, _, _, _, .nil, e => by simp at e
  | _, _, 0, _, .cons h _, e => by
    simp at e
    subst e
    exact ⟨_, rfl, h⟩
  | _, _, i + 1, _, .cons _ t, e => dpa_get (i := i) t (by simpa using e)
theorem dpa_back {K : PySem.W.Frag} {H : Hp} : ∀ {ds : List PyData} {vs : List V} {i : Nat} {d : PyData}, DpAll K H vs ds → ds[i]? = some d → ∃ v, vs[i]? = some v ∧ Dp K H v d
  | _, _, _, _, .nil, e => by simp at e
  | _, _, 0, _, .cons h _, e => by
    simp at e
    subst e
    exact ⟨_, rfl, h⟩
  | _, _, i + 1, _, .cons _ t, e => dpa_back (i := i) t (by simpa using e)
theorem dpa_len {K : PySem.W.Frag} {H : Hp} : ∀ {ds : List PyData} {vs : List V}, DpAll K H vs ds → vs.length = ds.length
  | _, _, .nil => rfl
  | _, _, .cons _ t => by rw [List.length_cons, List.length_cons, dpa_len t]
theorem dpa_app {K : PySem.W.Frag} {H : Hp} : ∀ {xs ys : List V} {ds es : List PyData}, DpAll K H xs ds → DpAll K H ys es → DpAll K H (xs ++ ys) (ds ++ es)
  | _, _, _, _, .nil, h => h
  | _, _, _, _, .cons a b, h => .cons a (dpa_app b h)
theorem dpa_set {K : PySem.W.Frag} {H : Hp} {x : V} {d : PyData} (hx : Dp K H x d) : ∀ {xs : List V} {ds : List PyData} (j : Nat), DpAll K H xs ds → DpAll K H (xs.set j x) (ds.set j d)
  | _, _, _, .nil => .nil
  | _, _, 0, .cons _ t => .cons hx t
  | _, _, j + 1, .cons h t => .cons h (dpa_set hx j t)
theorem dpa_take {K : PySem.W.Frag} {H : Hp} : ∀ {xs : List V} {ds : List PyData} (j : Nat), DpAll K H xs ds → DpAll K H (xs.take j) (ds.take j)
  | _, _, 0, _ => by simp only [List.take_zero]; exact .nil
  | _, _, _ + 1, .nil => by simp only [List.take_nil]; exact .nil
  | _, _, j + 1, .cons h t => .cons h (dpa_take j t)
theorem dpa_drop {K : PySem.W.Frag} {H : Hp} : ∀ {xs : List V} {ds : List PyData} (j : Nat), DpAll K H xs ds → DpAll K H (xs.drop j) (ds.drop j)
  | _, _, 0, h => h
  | _, _, _ + 1, .nil => by simp only [List.drop_nil]; exact .nil
  | _, _, j + 1, .cons h t => dpa_drop j t
theorem dpa_rev {K : PySem.W.Frag} {H : Hp} : ∀ {xs : List V} {ds : List PyData}, DpAll K H xs ds → DpAll K H xs.reverse ds.reverse
  | _, _, .nil => .nil
  | _, _, .cons h t => by
    rw [List.reverse_cons, List.reverse_cons]
    exact dpa_app (dpa_rev t) (.cons h .nil)
theorem dpa_ints {K : PySem.W.Frag} {H : Hp} : ∀ ns : List Int, DpAll K H (ns.map V.int) (ns.map PyData.int)
  | [] => .nil
  | n :: r => .cons (.int n) (dpa_ints r)
theorem ints_dpa {K : PySem.W.Frag} {H : Hp} : ∀ {ns : List Int} {xs : List V}, DpAll K H xs (ns.map PyData.int) → xs = ns.map V.int
  | [], _, .nil => rfl
  | _ :: _, _, .cons h t => by
    cases h
    rw [ints_dpa t]
    rfl
theorem atI_dpa {K : PySem.W.Frag} {H : Hp} {xs : List V} {ds : List PyData} {i : Int} {d : PyData} (h : DpAll K H xs ds) (e : atI ds i = some d) : ∃ v, atI xs i = some v ∧ Dp K H v d := by
  unfold atI at e ⊢
  rw [dpa_len h]
  cases q : ixN ds.length i with
  | none => rw [q] at e; cases e
  | some j =>
    rw [q] at e
    exact dpa_back h e
/-! ### the box of draws -/
def BoxAt (H : Hp) (l : Addr) (c : Int) : Prop := ∃ a b : Int, H l = some (.lst [.int a, .int b, .int c]) ∧ 0 ≤ a ∧ 0 ≤ b ∧ b < 2 ^ 62 ∧ 0 ≤ c ∧ c ≤ 1000000
theorem BoxAt.keep {H H' : Hp} {l : Addr} {c : Int} (h : BoxAt H l c) (e : ∀ o, H l = some o → H' l = some o) : BoxAt H' l c := by
  obtain ⟨a, b, h1, h2⟩ := h
  exact ⟨a, b, e _ h1, h2⟩
theorem BoxAt.ne {H : Hp} {l : Addr} {c : Int} (h : BoxAt H l c) : H l ≠ none := by
  obtain ⟨a, b, h1, _⟩ := h
  rw [h1]
  exact Option.some_ne_none _
/-! ### the state by data -/
inductive DV where
  | d (x : PyData)
  | own (ds : List PyData)
  | dic (kvs : List (Key × PyData))
  | dit (kvs : List (List Key × PyData))
  | dd (kvs : List (List Key × PyData))
  | box
def DV.mut : DV → Bool
  | .own _ => true
  | .dic _ => true
  | .dit _ => true
  | _ => false
structure Dt where
  env : List (Option DV)
  c : Int
structure Ct where
  K : PySem.W.Frag
  bx : Option Addr
  H0 : Hp
  G0 : Hp
/-- all but the box as it was -/
def Gr (C : Ct) (H H' : Hp) : Prop := ∀ b o, C.bx ≠ some b → H b = some o → H' b = some o
theorem Gr.refl (C : Ct) (H : Hp) : Gr C H H := fun _ _ _ h => h
theorem Gr.trans {C : Ct} {H H1 H2 : Hp} (a : Gr C H H1) (b : Gr C H1 H2) : Gr C H H2 := fun x o n h => b x o n (a x o n h)
theorem Gr.of {C : Ct} {H H' : Hp} (e : Ex H H') : Gr C H H' := fun b o _ h => e b o h
/-- what is in G' is in G or new over H -/
def Nw (G G' H : Hp) : Prop := ∀ b, G' b ≠ none → G b ≠ none ∨ H b = none
theorem Nw.refl (G H : Hp) : Nw G G H := fun _ h => .inl h
structure Fin (C : Ct) (G H : Hp) (c : Int) : Prop where
  gh : Ex G H
  g0 : Ex C.G0 G
  nw : Nw C.G0 G C.H0
  hh : Gr C C.H0 H
  bx : ∀ l, C.bx = some l → BoxAt H l c ∧ G l = none ∧ C.H0 l ≠ none
/-- a dict that is only read: locked, or older than the call -/
def RdD (C : Ct) (H : Hp) (p : Addr) (ks : List (List Key × V)) : Prop := ((∃ od, H p = some (.frz od (.dT ks))) ∨ (H p = some (.dT ks) ∧ C.H0 p ≠ none)) ∧ C.bx ≠ some p
theorem RdD.gr {C : Ct} {H H' : Hp} {p : Addr} {ks : List (List Key × V)} (h : RdD C H p ks) (e : Gr C H H') : RdD C H' p ks := by
  obtain ⟨(⟨od, h⟩ | ⟨h, h0⟩), n⟩ := h
  · exact ⟨.inl ⟨od, e p _ n h⟩, n⟩
  · exact ⟨.inr ⟨e p _ n h, h0⟩, n⟩
theorem RdD.upd {C : Ct} {H : Hp} {p q : Addr} {ks : List (List Key × V)} {u o : HO} (h : RdD C H p ks) (hq : H q = some u) (h0 : C.H0 q = none) (hn : ∀ od w, u ≠ .frz od w) : RdD C (upd H q o) p ks := by
  have hne : p ≠ q := fun z => by
    subst z
    obtain ⟨(⟨od, h⟩ | ⟨h, h1⟩), n⟩ := h
    · rw [hq] at h
      cases h
      exact hn _ _ rfl
    · exact h1 h0
  unfold RdD
  rw [upd_ne hne]
  exact h
def RV (C : Ct) (G H : Hp) (v : V) : DV → Prop
  | .d x => Dp C.K G v x
  | .own ds => ∃ p xs, v = .ref p ∧ H p = some (.lst xs) ∧ C.H0 p = none ∧ G p = none ∧ DpAll C.K G xs ds
  | .dic kvs => ∃ p ks, v = .ref p ∧ H p = some (.dK ks) ∧ C.H0 p = none ∧ G p = none ∧ Paired (fun a b => a.1 = b.1 ∧ Dp C.K G a.2 b.2) ks kvs
  | .dit kvs => ∃ p ks, v = .ref p ∧ H p = some (.dT ks) ∧ C.H0 p = none ∧ G p = none ∧ Paired (fun a b => a.1 = b.1 ∧ Dp C.K G a.2 b.2) ks kvs
  | .dd kvs => ∃ p ks, v = .ref p ∧ RdD C H p ks ∧ Paired (fun a b => a.1 = b.1 ∧ Dp C.K G a.2 b.2) ks kvs
  | .box => ∃ l, C.bx = some l ∧ v = .ref l
structure Rel (C : Ct) (G : Hp) (σ : L2.St) (H : Hp) (s : Dt) : Prop where
  fin : Fin C G H s.c
  len : s.env.length = σ.length
  sl : ∀ (i : Nat) x, s.env[i]? = some (some x) → ∃ v, σ[i]? = some (some v) ∧ RV C G H v x
  dis : ∀ (i j : Nat) x y p, i ≠ j → s.env[i]? = some (some x) → s.env[j]? = some (some y) → x.mut = true → y.mut = true → σ[i]? = some (some (.ref p)) → σ[j]? ≠ some (some (.ref p))
theorem paired_mapP {α β : Type} {F G : α → β → Prop} {l₁ : List α} {l₂ : List β} (h : Paired F l₁ l₂) (k : ∀ a b, F a b → G a b) : Paired G l₁ l₂ := Paired.mapP h k
/-- a step: all but the box stays, what was neither data nor a slot's does not become data, no slot becomes the def's own -/
structure Gs (C : Ct) (σ : L2.St) (G H : Hp) (s : Dt) (G' H' : Hp) (s' : Dt) : Prop where
  gr : Gr C H H'
  dom : ∀ b, H b ≠ none → H' b ≠ none
  nk : ∀ b, G b = none → H b ≠ none → (∀ (i : Nat) x, s.env[i]? = some (some x) → x.mut = true → σ[i]? ≠ some (some (.ref b))) → G' b = none
  ks : ∀ (i : Nat) x, s'.env[i]? = some (some x) → x.mut = true → ∃ x', s.env[i]? = some (some x') ∧ x'.mut = true
theorem Gs.refl {C : Ct} {σ : L2.St} {G H : Hp} {s : Dt} : Gs C σ G H s G H s := ⟨Gr.refl C H, fun _ h => h, fun _ h _ _ => h, fun i x h m => ⟨x, h, m⟩⟩
theorem Gs.trans {C : Ct} {σ : L2.St} {G H G1 H1 G2 H2 : Hp} {s s1 s2 : Dt} (a : Gs C σ G H s G1 H1 s1) (b : Gs C σ G1 H1 s1 G2 H2 s2) : Gs C σ G H s G2 H2 s2 :=
  ⟨a.gr.trans b.gr, fun x h => b.dom x (a.dom x h), fun x h1 h2 h3 => b.nk x (a.nk x h1 h2 h3) (a.dom x h2) fun i y e m => by
    obtain ⟨y', e', m'⟩ := a.ks i y e m
    exact h3 i y' e' m', fun i x e m => by
    obtain ⟨y, e', m'⟩ := b.ks i x e m
    exact a.ks i y e' m'⟩
section
variable {C : Ct} {G G' H H' : Hp} {σ : L2.St} {s : Dt} {c c' : Int}
theorem Gs.grow (eh : Ex H H') (nw : Nw G G' H) : Gs C σ G H s G' H' s := ⟨Gr.of eh, fun b h z => h (fresh_back eh z), fun b h1 h2 _ => by
    cases q : G' b with
    | none => rfl
    | some o =>
      rcases nw b (by rw [q]; exact Option.some_ne_none _) with z | z
      · exact absurd h1 z
      · exact absurd z h2, fun i x e m => ⟨x, e, m⟩⟩
theorem Gs.side (eh : Ex H H') : Gs C σ G H s G H' s := .grow eh (Nw.refl G H)
theorem Fin.h0 (h : Fin C G H c) {b : Addr} (e : H b = none) : C.H0 b = none := by
  cases q : C.H0 b with
  | none => rfl
  | some o =>
    by_cases z : C.bx = some b
    · exact absurd e (h.bx b z).1.ne
    · rw [h.hh b o z q] at e
      cases e
theorem Fin.step (h : Fin C G H c) (eg : Ex G G') (eh : Gr C H H') (gh : Ex G' H') (nw : Nw G G' H) (bx : ∀ l, C.bx = some l → BoxAt H' l c') : Fin C G' H' c' := by
  refine ⟨gh, h.g0.trans eg, fun b hb => ?_, h.hh.trans eh, fun l hl => ⟨bx l hl, ?_, (h.bx l hl).2.2⟩⟩
  · rcases nw b hb with q | q
    · exact h.nw b q
    · exact .inr (h.h0 q)
  · cases q : G' l with
    | none => rfl
    | some o =>
      rcases nw l (by rw [q]; exact Option.some_ne_none _) with z | z
      · exact absurd (h.bx l hl).2.1 z
      · exact absurd z (h.bx l hl).1.ne
theorem Fin.nbx (h : Fin C G H c) {p : Addr} (e : C.H0 p = none) : C.bx ≠ some p := fun z => (h.bx p z).2.2 e
theorem RV.step (f : Fin C G H c) (eg : Ex G G') (eh : Gr C H H') (nw : Nw G G' H) {v : V} : ∀ {x : DV}, RV C G H v x → RV C G' H' v x
  | .d x, h => dp_ex eg h
  | .own ds, ⟨p, xs, h1, h2, h3, h4, h5⟩ => by
    refine ⟨p, xs, h1, eh p _ (f.nbx h3) h2, h3, ?_, dpa_ex eg h5⟩
    cases q : G' p with
    | none => rfl
    | some o =>
      rcases nw p (by rw [q]; exact Option.some_ne_none _) with z | z
      · exact absurd h4 z
      · rw [h2] at z; cases z
  | .dic ks, ⟨p, xs, h1, h2, h3, h4, h5⟩ => by
    refine ⟨p, xs, h1, eh p _ (f.nbx h3) h2, h3, ?_, paired_mapP h5 fun a b q => ⟨q.1, dp_ex eg q.2⟩⟩
    cases q : G' p with
    | none => rfl
    | some o =>
      rcases nw p (by rw [q]; exact Option.some_ne_none _) with z | z
      · exact absurd h4 z
      · rw [h2] at z; cases z
  | .dit ks, ⟨p, xs, h1, h2, h3, h4, h5⟩ => by
    refine ⟨p, xs, h1, eh p _ (f.nbx h3) h2, h3, ?_, paired_mapP h5 fun a b q => ⟨q.1, dp_ex eg q.2⟩⟩
    cases q : G' p with
    | none => rfl
    | some o =>
      rcases nw p (by rw [q]; exact Option.some_ne_none _) with z | z
      · exact absurd h4 z
      · rw [h2] at z; cases z
  | .dd ks, ⟨p, xs, h1, h2, h5⟩ => ⟨p, xs, h1, h2.gr eh, paired_mapP h5 fun a b q => ⟨q.1, dp_ex eg q.2⟩⟩
  | .box, h => h
theorem Rel.step (h : Rel C G σ H s) (eg : Ex G G') (eh : Gr C H H') (gh : Ex G' H') (nw : Nw G G' H) (bx : ∀ l, C.bx = some l → BoxAt H' l c') : Rel C G' σ H' ⟨s.env, c'⟩ := by
  refine ⟨h.fin.step eg eh gh nw bx, h.len, fun i x e => ?_, h.dis⟩
  obtain ⟨v, hv, r⟩ := h.sl i x e
  exact ⟨v, hv, r.step h.fin eg eh nw⟩
theorem Rel.grow (h : Rel C G σ H s) (eg : Ex G G') (eh : Ex H H') (gh : Ex G' H') (nw : Nw G G' H) : Rel C G' σ H' s :=
  h.step eg (Gr.of eh) gh nw fun l hl => (h.fin.bx l hl).1.keep fun o q => eh l o q
/-- a new object of data -/
theorem Ex.both {p : Addr} {o : HO} (gh : Ex G H) (hp : H p = none) : Ex (upd G p o) (upd H p o) := fun b u e => by
  by_cases z : b = p
  · rw [z, upd_same] at e ⊢
    exact e
  · rw [upd_ne z] at e ⊢
    exact gh b u e
theorem Nw.one {p : Addr} {o : HO} (hp : H p = none) : Nw G (upd G p o) H := fun b hb => by
  by_cases z : b = p
  · exact .inr (by rw [z]; exact hp)
  · rw [upd_ne z] at hb
    exact .inl hb
theorem Nw.trans {G1 G2 H1 : Hp} (a : Nw G G1 H) (b : Nw G1 G2 H1) (e : Ex H H1) : Nw G G2 H := fun x hx => by
  rcases b x hx with q | q
  · exact a x q
  · exact .inr (fresh_back e q)
theorem Rel.new (h : Rel C G σ H s) {p : Addr} {o : HO} (hp : H p = none) : Rel C (upd G p o) σ (upd H p o) s ∧ Ex G (upd G p o) ∧ Gs C σ G H s (upd G p o) (upd H p o) s := by
  have g1 : G p = none := by
    cases q : G p with
    | none => rfl
    | some u => rw [h.fin.gh p u q] at hp; cases hp
  exact ⟨h.grow (Ex.new g1) (Ex.new hp) (Ex.both h.fin.gh hp) (Nw.one hp), Ex.new g1, .grow (Ex.new hp) (Nw.one hp)⟩
theorem Rel.notslot (h : Rel C G σ H s) {p : Addr} (hp : H p = none) (i : Nat) (x : DV) (e : s.env[i]? = some (some x)) (m : x.mut = true) : σ[i]? ≠ some (some (.ref p)) := fun q => by
  obtain ⟨v, hv, r⟩ := h.sl i x e
  rw [hv] at q
  cases q
  cases x with
  | d _ => cases m
  | box => cases m
  | own ds =>
    obtain ⟨p', xs, a1, a2, _⟩ := r
    cases a1
    rw [hp] at a2
    cases a2
  | dic ds =>
    obtain ⟨p', xs, a1, a2, _⟩ := r
    cases a1
    rw [hp] at a2
    cases a2
  | dit ds =>
    obtain ⟨p', xs, a1, a2, _⟩ := r
    cases a1
    rw [hp] at a2
    cases a2
  | dd _ => cases m
theorem Rel.gnone (h : Rel C G σ H s) {p : Addr} (hp : H p = none) : G p = none := by
  cases q : G p with
  | none => rfl
  | some u => rw [h.fin.gh p u q] at hp; cases hp
/-- a new object that is not (yet) data -/
theorem Rel.aside (h : Rel C G σ H s) (e : Ex H H') : Rel C G σ H' s := h.grow (Ex.refl G) e (h.fin.gh.trans e) (Nw.refl G H)
end
/-! ### expressions -/
abbrev WE := Dt → (PyData → Dt → Prop) → Prop
abbrev WA := Dt → (List PyData → Dt → Prop) → Prop
abbrev WT := Dt → (Bool → Dt → Prop) → Prop
def IE (C : Ct) (t : TE) (w : WE) : Prop := ∀ G σ H s Q Q', Rel C G σ H s → w s Q →
  (∀ v d s' G' H', Q d s' → Rel C G' σ H' s' → Ex G G' → Gs C σ G H s G' H' s' → Dp C.K G' v d → Q' v H') → t σ H Q'
def IA (C : Ct) (t : TA) (w : WA) : Prop := ∀ G σ H s Q Q', Rel C G σ H s → w s Q →
  (∀ vs ds s' G' H', Q ds s' → Rel C G' σ H' s' → Ex G G' → Gs C σ G H s G' H' s' → DpAll C.K G' vs ds → Q' vs H') → t σ H Q'
def IT (C : Ct) (t : TT) (w : WT) : Prop := ∀ G σ H s Q Q', Rel C G σ H s → w s Q →
  (∀ b s' G' H', Q b s' → Rel C G' σ H' s' → Ex G G' → Gs C σ G H s G' H' s' → Q' b H') → t σ H Q'
/-- a new list of the def's own -/
def IO (C : Ct) (t : TE) (w : WA) : Prop := ∀ G σ H s Q Q', Rel C G σ H s → w s Q →
  (∀ p xs ds s' G' H', Q ds s' → Rel C G' σ H' s' → Ex G G' → Gs C σ G H s G' H' s' → H p = none → H' p = some (.lst xs) → G' p = none → DpAll C.K G' xs ds → (∀ (i : Nat) x, s'.env[i]? = some (some x) → x.mut = true → σ[i]? ≠ some (some (.ref p))) → Q' (.ref p) H') → t σ H Q'
/-- a value that is only looked at: data, or a list of the def's own -/
def Pk (C : Ct) (G H : Hp) (v : V) (d : PyData) : Prop := Dp C.K G v d ∨ ∃ p xs ds, v = .ref p ∧ d = .list ds ∧ H p = some (.lst xs) ∧ C.bx ≠ some p ∧ DpAll C.K G xs ds
def IP (C : Ct) (t : TE) (w : WE) : Prop := ∀ G σ H s Q Q', Rel C G σ H s → w s Q →
  (∀ v d s' G' H', Q d s' → Rel C G' σ H' s' → Ex G G' → Gs C σ G H s G' H' s' → Pk C G' H' v d → Q' v H') → t σ H Q'
section
variable {C : Ct} {G G' H H' : Hp} {v : V} {d : PyData}
theorem Pk.mono (h : Pk C G H v d) (eg : Ex G G') (eh : Gr C H H') : Pk C G' H' v d := by
  rcases h with h | ⟨p, xs, ds, h1, h2, h3, h4, h5⟩
  · exact .inl (dp_ex eg h)
  · exact .inr ⟨p, xs, ds, h1, h2, eh p _ h4 h3, h4, dpa_ex eg h5⟩
theorem Pk.dp (h : Pk C G H v d) (e : Ex G H) : Dp C.K H v d := by
  rcases h with h | ⟨p, xs, ds, rfl, rfl, h3, h4, h5⟩
  · exact dp_ex e h
  · exact .lst (.inl (.inl h3)) (dpa_ex e h5)
def isT : PyData → Bool
  | .tuple _ => true
  | _ => false
def its : PyData → List PyData
  | .tuple ds => ds
  | .list ds => ds
  | _ => []
def seqd : PyData → Bool
  | .tuple _ => true
  | .list _ => true
  | _ => false
theorem Pk.seq (h : Pk C G H v d) (e : Ex G H) (hs : seqd d = true) : ∃ p xs, v = .ref p ∧ SqB C.K (isT d) H p xs ∧ DpAll C.K G xs (its d) := by
  rcases h with h | ⟨p, xs, ds, rfl, rfl, h3, h4, h5⟩
  · cases h with
    | lst h t => exact ⟨_, _, rfl, Evl.ex_l e h, t⟩
    | tup h t => exact ⟨_, _, rfl, Evl.ex_t e h, t⟩
    | _ => cases hs
  · exact ⟨p, xs, rfl, .inl (.inl h3), h5⟩
end
section
variable {C : Ct} {t ta tb tc : TE} {w wa wb : WE} {tA : TA} {wA : WA}
theorem ip_of (h : IE C t w) : IP C t w := fun G σ H s Q Q' r q k => h G σ H s Q Q' r q fun v d s' G' H' q' r' eg eh p => k v d s' G' H' q' r' eg eh (.inl p)
/-- a list of the def's own becomes data -/
def wPubO (w : WA) : WE := fun s Q => w s fun ds s' => Q (.list ds) s'
theorem ie_own {w : WA} (h : IO C t w) : IE C t (wPubO w) := fun G σ H s Q Q' r q k => h G σ H s _ Q' r q fun p xs ds s' G' H' q' r' eg eh hp h1 h2 h3 h4 => by
  have eh' : Ex (upd G' p (.lst xs)) H' := fun b u e => by
    by_cases z : b = p
    · rw [z, upd_same] at e
      rw [z, h1]
      exact e
    · rw [upd_ne z] at e
      exact r'.fin.gh b u e
  have eg' : Ex G' (upd G' p (.lst xs)) := Ex.new h2
  have nw : ∀ b, (upd G' p (.lst xs)) b ≠ none → G' b ≠ none ∨ b = p := fun b hb => by
    by_cases z : b = p
    · exact .inr z
    · rw [upd_ne z] at hb
      exact .inl hb
  have h0 : C.H0 p = none := r.fin.h0 hp
  refine k (.ref p) _ s' (upd G' p (.lst xs)) H' q' ⟨⟨eh', r'.fin.g0.trans eg', fun b hb => ?_, r'.fin.hh, fun l hl => ⟨(r'.fin.bx l hl).1, ?_, (r'.fin.bx l hl).2.2⟩⟩, r'.len, fun i x e => ?_, r'.dis⟩ (eg.trans eg') ⟨eh.gr, eh.dom, fun b h1 h2 h3 => by rw [upd_ne (fun z => h2 (by rw [z]; exact hp))]; exact eh.nk b h1 h2 h3, eh.ks⟩ (.lst (.inl (.inl upd_same)) (dpa_ex eg' h3))
  · rcases nw b hb with z | z
    · exact r'.fin.nw b z
    · exact .inr (by rw [z]; exact h0)
  · rw [upd_ne (fun z => (r.fin.nbx h0) (by rw [← z]; exact hl))]
    exact (r'.fin.bx l hl).2.1
  · obtain ⟨v, hv, rv⟩ := r'.sl i x e
    refine ⟨v, hv, ?_⟩
    cases x with
    | d x => exact dp_ex eg' rv
    | box => exact rv
    | own ds' =>
      obtain ⟨p', xs', a1, a2, a3, a4, a5⟩ := rv
      refine ⟨p', xs', a1, a2, a3, ?_, dpa_ex eg' a5⟩
      rw [upd_ne fun z => h4 i _ e rfl (by rw [hv, a1, z])]
      exact a4
    | dic ks =>
      obtain ⟨p', xs', a1, a2, a3, a4, a5⟩ := rv
      refine ⟨p', xs', a1, a2, a3, ?_, paired_mapP a5 fun a b q => ⟨q.1, dp_ex eg' q.2⟩⟩
      rw [upd_ne fun z => h4 i _ e rfl (by rw [hv, a1, z])]
      exact a4
    | dit ks =>
      obtain ⟨p', xs', a1, a2, a3, a4, a5⟩ := rv
      refine ⟨p', xs', a1, a2, a3, ?_, paired_mapP a5 fun a b q => ⟨q.1, dp_ex eg' q.2⟩⟩
      rw [upd_ne fun z => h4 i _ e rfl (by rw [hv, a1, z])]
      exact a4
    | dd ks =>
      obtain ⟨p', xs', a1, a2, a5⟩ := rv
      exact ⟨p', xs', a1, a2, paired_mapP a5 fun a b q => ⟨q.1, dp_ex eg' q.2⟩⟩
/-! constants, names -/
def wC (d : PyData) : WE := fun s Q => Q d s
theorem ie_c {v : V} {d : PyData} (h : ∀ G, Dp C.K G v d) : IE C (tC v) (wC d) := fun G σ H s Q Q' r q k => k v d s G H q r (Ex.refl G) Gs.refl (h G)
def wV (i : Nat) : WE := fun s Q => ∃ d, s.env[i]? = some (some (.d d)) ∧ Q d s
theorem ie_v {i : Nat} : IE C (tVar i) (wV i) := fun G σ H s Q Q' r q k => by
  obtain ⟨d, e, q⟩ := q
  obtain ⟨v, hv, rv⟩ := r.sl i _ e
  exact ⟨v, hv, k v d s G H q r (Ex.refl G) Gs.refl rv⟩
/-- a list of the def's own, from now on data -/
def wPub (i : Nat) : WE := fun s Q => ∃ ds, s.env[i]? = some (some (.own ds)) ∧ Q (.list ds) ⟨s.env.set i (some (.d (.list ds))), s.c⟩
theorem ie_pub {i : Nat} : IE C (tVar i) (wPub i) := fun G σ H s Q Q' r q k => by
  obtain ⟨ds, e, q⟩ := q
  obtain ⟨v, hv, p, xs, rfl, h1, h2, h3, h4⟩ := r.sl i _ e
  have eg : Ex G (upd G p (.lst xs)) := Ex.new h3
  have gh : Ex (upd G p (.lst xs)) H := fun b u e => by
    by_cases z : b = p
    · rw [z, upd_same] at e
      rw [z, h1]
      exact e
    · rw [upd_ne z] at e
      exact r.fin.gh b u e
  have hi : i < s.env.length := (List.getElem?_eq_some_iff.mp e).1
  have old : ∀ (j : Nat) x, (s.env.set i (some (.d (.list ds))))[j]? = some (some x) → (j = i ∧ x = .d (.list ds)) ∨ (j ≠ i ∧ s.env[j]? = some (some x)) := fun j x ej => by
    by_cases z : j = i
    · subst z
      rw [List.getElem?_set_self hi] at ej
      cases ej
      exact .inl ⟨rfl, rfl⟩
    · rw [List.getElem?_set_ne (Ne.symm z)] at ej
      exact .inr ⟨z, ej⟩
  refine ⟨.ref p, hv, k _ _ _ (upd G p (.lst xs)) H q ⟨⟨gh, r.fin.g0.trans eg, fun b hb => ?_, r.fin.hh, fun l hl => ⟨(r.fin.bx l hl).1, ?_, (r.fin.bx l hl).2.2⟩⟩, ?_, fun j x ej => ?_, fun j1 j2 x y p' hne e1 e2 m1 m2 => ?_⟩ eg ⟨Gr.refl C H, fun _ h => h, fun b h1 h2 h3 => by rw [upd_ne (fun z => h3 i _ e rfl (by rw [z]; exact hv))]; exact h1, fun j x ej m => by
      rcases old j x ej with ⟨_, rfl⟩ | ⟨_, ej⟩
      · cases m
      · exact ⟨x, ej, m⟩⟩ (.lst (.inl (.inl upd_same)) (dpa_ex eg h4))⟩
  · by_cases z : b = p
    · exact .inr (by rw [z]; exact h2)
    · rw [upd_ne z] at hb
      exact r.fin.nw b hb
  · rw [upd_ne (fun z => (r.fin.nbx h2) (by rw [← z]; exact hl))]
    exact (r.fin.bx l hl).2.1
  · rw [List.length_set]
    exact r.len
  · rcases old j x ej with ⟨rfl, rfl⟩ | ⟨z, ej⟩
    · exact ⟨_, hv, .lst (.inl (.inl upd_same)) (dpa_ex eg h4)⟩
    · obtain ⟨v', hv', rv⟩ := r.sl j x ej
      refine ⟨v', hv', ?_⟩
      cases x with
      | d x => exact dp_ex eg rv
      | box => exact rv
      | own ds' =>
        obtain ⟨p', xs', a1, a2, a3, a4, a5⟩ := rv
        refine ⟨p', xs', a1, a2, a3, ?_, dpa_ex eg a5⟩
        rw [upd_ne fun z' => r.dis i j _ _ p (Ne.symm z) e ej rfl rfl hv (by rw [hv', a1, z'])]
        exact a4
      | dic ks =>
        obtain ⟨p', xs', a1, a2, a3, a4, a5⟩ := rv
        refine ⟨p', xs', a1, a2, a3, ?_, paired_mapP a5 fun a b q => ⟨q.1, dp_ex eg q.2⟩⟩
        rw [upd_ne fun z' => r.dis i j _ _ p (Ne.symm z) e ej rfl rfl hv (by rw [hv', a1, z'])]
        exact a4
      | dit ks =>
        obtain ⟨p', xs', a1, a2, a3, a4, a5⟩ := rv
        refine ⟨p', xs', a1, a2, a3, ?_, paired_mapP a5 fun a b q => ⟨q.1, dp_ex eg q.2⟩⟩
        rw [upd_ne fun z' => r.dis i j _ _ p (Ne.symm z) e ej rfl rfl hv (by rw [hv', a1, z'])]
        exact a4
      | dd ks =>
        obtain ⟨p', xs', a1, a2, a5⟩ := rv
        exact ⟨p', xs', a1, a2, paired_mapP a5 fun a b q => ⟨q.1, dp_ex eg q.2⟩⟩
  · rcases old j1 x e1 with ⟨rfl, rfl⟩ | ⟨z1, e1⟩
    · cases m1
    · rcases old j2 y e2 with ⟨rfl, rfl⟩ | ⟨z2, e2⟩
      · cases m2
      · exact r.dis j1 j2 x y p' hne e1 e2 m1 m2
def DV.look : DV → Option PyData
  | .d x => some x
  | .own ds => some (.list ds)
  | _ => none
/-- a name that is only looked at -/
def wP (i : Nat) : WE := fun s Q => ∃ x d, s.env[i]? = some (some x) ∧ x.look = some d ∧ Q d s
theorem ip_v {i : Nat} : IP C (tVar i) (wP i) := fun G σ H s Q Q' r q k => by
  obtain ⟨x, d, e, hl, q⟩ := q
  obtain ⟨v, hv, rv⟩ := r.sl i _ e
  refine ⟨v, hv, k v d s G H q r (Ex.refl G) Gs.refl ?_⟩
  cases x with
  | d x => cases hl; exact .inl rv
  | own ds =>
    cases hl
    obtain ⟨p, xs, a1, a2, a3, a4, a5⟩ := rv
    exact .inr ⟨p, xs, ds, a1, rfl, a2, r.fin.nbx a3, a5⟩
  | dic _ => cases hl
  | dit _ => cases hl
  | dd _ => cases hl
  | box => cases hl
/-! arguments -/
theorem ia_nil : IA C tNil (fun s Q => Q [] s) := fun G σ H s Q Q' r q k => k [] [] s G H q r (Ex.refl G) Gs.refl .nil
def wCons (w : WE) (wr : WA) : WA := fun s Q => w s fun d s1 => wr s1 fun ds s2 => Q (d :: ds) s2
theorem ia_cons {tr : TA} {wr : WA} (h : IE C t w) (hr : IA C tr wr) : IA C (tCons t tr) (wCons w wr) := fun G σ H s Q Q' r q k =>
  h G σ H s _ _ r q fun v d s1 G1 H1 q1 r1 eg1 eh1 p1 => hr G1 σ H1 s1 _ _ r1 q1 fun vs ds s2 G2 H2 q2 r2 eg2 eh2 p2 =>
    k (v :: vs) (d :: ds) s2 G2 H2 q2 r2 (eg1.trans eg2) (eh1.trans eh2) (.cons (dp_ex eg2 p1) p2)
/-! displays -/
def wTup (w : WA) : WE := fun s Q => w s fun ds s1 => ds.length ≤ 100000 ∧ Q (.tuple ds) s1
theorem ie_tup (h : IA C tA wA) : IE C (tTup tA) (wTup wA) := fun G σ H s Q Q' r q k =>
  h G σ H s _ _ r q fun vs ds s1 G1 H1 q1 r1 eg1 eh1 p1 => ⟨by rw [dpa_len p1]; exact sz_of q1.1, fun p hp => by
    obtain ⟨r2, eg2, eh2⟩ := r1.new (o := .tup vs) hp
    exact k (.ref p) _ s1 _ _ q1.2 r2 (eg1.trans eg2) (eh1.trans eh2) (.tup (.inl (.inl upd_same)) (dpa_ex eg2 p1))⟩
def wLst (w : WA) : WA := fun s Q => w s fun ds s1 => ds.length ≤ 100000 ∧ Q ds s1
/-- a new list, made at the end -/
theorem own_new {G σ H s G1 H1 s1} {Q : List PyData → Dt → Prop} {Q' : VK} {vs : List V} {ds : List PyData} (r : Rel C G σ H s) (q1 : Q ds s1) (r1 : Rel C G1 σ H1 s1) (eg1 : Ex G G1) (eh1 : Gs C σ G H s G1 H1 s1) (p1 : DpAll C.K G1 vs ds) {p : Addr} (hp : H1 p = none)
    (k : ∀ p xs ds s' G' H', Q ds s' → Rel C G' σ H' s' → Ex G G' → Gs C σ G H s G' H' s' → H p = none → H' p = some (.lst xs) → G' p = none → DpAll C.K G' xs ds → (∀ (i : Nat) x, s'.env[i]? = some (some x) → x.mut = true → σ[i]? ≠ some (some (.ref p))) → Q' (.ref p) H') : Q' (.ref p) (upd H1 p (.lst vs)) := by
  refine k p vs ds s1 G1 _ q1 (r1.aside (Ex.new hp)) eg1 (eh1.trans (.side (Ex.new hp))) ?_ upd_same (r1.gnone hp) p1 (r1.notslot hp)
  cases q : H p with
  | none => rfl
  | some o =>
    by_cases z : C.bx = some p
    · exact absurd hp (r1.fin.bx p z).1.ne
    · rw [eh1.gr p o z q] at hp
      cases hp
theorem io_lst (h : IA C tA wA) : IO C (tLst tA) (wLst wA) := fun G σ H s Q Q' r q k =>
  h G σ H s _ _ r q fun vs ds s1 G1 H1 q1 r1 eg1 eh1 p1 => ⟨by rw [dpa_len p1]; exact sz_of q1.1, fun p hp => own_new r q1.2 r1 eg1 eh1 p1 hp k⟩
/-! operators on ints -/
def wI (C : Int → Int → Prop) (g : Int → Int → PyData) (wa wb : WE) : WE := fun s Q => wa s fun x s1 => wb s1 fun y s2 => ∃ i j, x = .int i ∧ y = .int j ∧ C i j ∧ Q (g i j) s2
theorem dp_int {K : PySem.W.Frag} {H : Hp} {v : V} {i : Int} (h : Dp K H v (.int i)) : v = .int i := by cases h; rfl
theorem dp_bl {K : PySem.W.Frag} {H : Hp} {v : V} {i : Bool} (h : Dp K H v (.bool i)) : v = .bl i := by cases h; rfl
theorem dp_str {K : PySem.W.Frag} {H : Hp} {v : V} {i : Str} (h : Dp K H v (.str i)) : v = .str i := by cases h; rfl
theorem ie_opI {P : Int → Int → Prop} {g : Int → Int → V} {gd : Int → Int → PyData} (hg : ∀ G i j, Dp C.K G (g i j) (gd i j)) (ha : IE C ta wa) (hb : IE C tb wb) : IE C (tOp (rI P g) ta tb) (wI P gd wa wb) := fun G σ H s Q Q' r q k =>
  ha G σ H s _ _ r q fun v d s1 G1 H1 q1 r1 eg1 eh1 p1 => hb G1 σ H1 s1 _ _ r1 q1 fun v2 d2 s2 G2 H2 q2 r2 eg2 eh2 p2 => by
    obtain ⟨i, j, rfl, rfl, hc, q3⟩ := q2
    exact ⟨i, j, dp_int p1, dp_int p2, hc, k _ _ s2 G2 H2 q3 r2 (eg1.trans eg2) (eh1.trans eh2) (hg _ _ _)⟩
def wI0 (g : Int → Int → PyData) (wa wb : WE) : WE := fun s Q => wa s fun x s1 => wb s1 fun y s2 => ∃ i j, x = .int i ∧ y = .int j ∧ Q (g i j) s2
theorem ie_opI0 {g : Int → Int → V} {gd : Int → Int → PyData} (hg : ∀ G i j, Dp C.K G (g i j) (gd i j)) (ha : IE C ta wa) (hb : IE C tb wb) : IE C (tOp (rI0 g) ta tb) (wI0 gd wa wb) := fun G σ H s Q Q' r q k =>
  ha G σ H s _ _ r q fun v d s1 G1 H1 q1 r1 eg1 eh1 p1 => hb G1 σ H1 s1 _ _ r1 q1 fun v2 d2 s2 G2 H2 q2 r2 eg2 eh2 p2 => by
    obtain ⟨i, j, rfl, rfl, q3⟩ := q2
    exact ⟨i, j, dp_int p1, dp_int p2, k _ _ s2 G2 H2 q3 r2 (eg1.trans eg2) (eh1.trans eh2) (hg _ _ _)⟩
/-! a reading of two values looked at, in general -/
theorem ie_op2 {r2 : R2} {g : PyData → PyData → Dt → (PyData → Dt → Prop) → Prop} (hg : ∀ G σ H s x y d e Q Q', Rel C G σ H s → Pk C G H x d → Pk C G H y e → g d e s Q →
      (∀ v z s' G' H', Q z s' → Rel C G' σ H' s' → Ex G G' → Gs C σ G H s G' H' s' → Dp C.K G' v z → Q' v H') → r2 x y H Q') (ha : IP C ta wa) (hb : IP C tb wb) :
    IE C (tOp r2 ta tb) (fun s Q => wa s fun d s1 => wb s1 fun e s2 => g d e s2 Q) := fun G σ H s Q Q' r q k =>
  ha G σ H s _ _ r q fun v d s1 G1 H1 q1 r1 eg1 eh1 p1 => hb G1 σ H1 s1 _ _ r1 q1 fun v2 d2 s2 G2 H2 q2 rr eg2 eh2 p2 =>
    hg G2 σ H2 s2 v v2 d d2 Q Q' rr (p1.mono eg2 eh2.gr) p2 q2 fun v z s' G' H' q r' eg eh p => k v z s' G' H' q r' ((eg1.trans eg2).trans eg) ((eh1.trans eh2).trans eh) p
theorem io_op2 {r2 : R2} {g : PyData → PyData → Dt → (List PyData → Dt → Prop) → Prop} (hg : ∀ G σ H s x y d e Q Q', Rel C G σ H s → Pk C G H x d → Pk C G H y e → g d e s Q →
      (∀ vs ds p, Q ds s → DpAll C.K G vs ds → H p = none → Q' (.ref p) (upd H p (.lst vs))) → r2 x y H Q') (ha : IP C ta wa) (hb : IP C tb wb) :
    IO C (tOp r2 ta tb) (fun s Q => wa s fun d s1 => wb s1 fun e s2 => g d e s2 Q) := fun G σ H s Q Q' r q k =>
  ha G σ H s _ _ r q fun v d s1 G1 H1 q1 r1 eg1 eh1 p1 => hb G1 σ H1 s1 _ _ r1 q1 fun v2 d2 s2 G2 H2 q2 rr eg2 eh2 p2 =>
    hg G2 σ H2 s2 v v2 d d2 Q Q' rr (p1.mono eg2 eh2.gr) p2 q2 fun vs ds p q hd hp => own_new r q rr (eg1.trans eg2) (eh1.trans eh2) hd hp k
end
end Dw

namespace Dw
open PySem PySem.Spec PyProof.Rows L2 OgR Evl
/-! ### a piece of syntax, its reading, and its reading by data -/
structure DE (X : Cx) (C : Ct) (e : Expr) (t : TE) (w : WE) : Prop where
  pe : PE X e t
  ie : IE C t w
structure DP (X : Cx) (C : Ct) (e : Expr) (t : TE) (w : WE) : Prop where
  pe : PE X e t
  ip : IP C t w
structure DO (X : Cx) (C : Ct) (e : Expr) (t : TE) (w : WA) : Prop where
  pe : PE X e t
  io : IO C t w
structure DA (X : Cx) (C : Ct) (es : List Expr) (t : TA) (w : WA) : Prop where
  pa : PA X es t
  ia : IA C t w
structure DT (X : Cx) (C : Ct) (e : Expr) (t : TT) (w : WT) : Prop where
  pt : PT X e t
  it : IT C t w
structure DW (X : Cx) (C : Ct) (e : Expr) (t : TT) (w : WT) : Prop where
  pw : PW X e t
  it : IT C t w
/-- a list looked at whose place is known: fresh, or of the def's own -/
def IL (C : Ct) (t : TE) (w : WA) : Prop := ∀ G σ H s Q Q', Rel C G σ H s → w s Q →
  (∀ p xs ds s' G' H', Q ds s' → Rel C G' σ H' s' → Ex G G' → Gs C σ G H s G' H' s' → H' p = some (.lst xs) → C.bx ≠ some p → DpAll C.K G' xs ds → Q' (.ref p) H') → t σ H Q'
structure DL (X : Cx) (C : Ct) (e : Expr) (t : TE) (w : WA) : Prop where
  pe : PE X e t
  il : IL C t w
section
variable {X : Cx} {C : Ct} {a b e : Expr} {es : List Expr} {pos : Pos} {t ta tb tc : TE} {w wa wb wc : WE} {tA : TA} {wA : WA}
theorem DE.p (h : DE X C e t w) : DP X C e t w := ⟨h.pe, ip_of h.ie⟩
theorem DO.d {w : WA} (h : DO X C e t w) : DE X C e t (wPubO w) := ⟨h.pe, ie_own h.io⟩
theorem DO.l {w : WA} (h : DO X C e t w) : DL X C e t w := ⟨h.pe, fun G σ H s Q Q' r q k => h.io G σ H s Q Q' r q fun p xs ds s' G' H' q' r' eg eh hp h1 h2 h3 h4 =>
  k p xs ds s' G' H' q' r' eg eh h1 (r'.fin.nbx (r.fin.h0 hp)) h3⟩
theorem DW.q {t : TT} {w : WT} (h : DW X C e t w) : DT X C e t w := ⟨h.pw.pt, h.it⟩
theorem de_int {i : Int} {j} : DE X C (.Constant (.int i) j pos) (tC (.int i)) (wC (.int i)) := ⟨pe_int, ie_c fun _ => .int i⟩
theorem de_str {i : Str} {j} : DE X C (.Constant (.str i) j pos) (tC (.str i)) (wC (.str i)) := ⟨pe_str, ie_c fun _ => .str i⟩
theorem de_bl {i : Bool} {j} : DE X C (.Constant (.bool i) j pos) (tC (.bl i)) (wC (.bool i)) := ⟨pe_bl, ie_c fun _ => .bl i⟩
theorem de_non {j} : DE X C (.Constant .none j pos) (tC .non) (wC .none) := ⟨pe_non, ie_c fun _ => .non⟩
theorem de_v (i : Nat) {x : Str} (hN : X.N[i]? = some x := by rfl) (hv : Vis X.env.scope x := by first | exact Or.inl rfl | exact Or.inr (Or.inl rfl) | exact Or.inr (Or.inr rfl)) (hd : (x == ("__debug__" : Str)) = false := by decide)
    (hcd : (x == ("__classdict__" : Str)) = false := by decide) : DE X C (.Name x pos) (tVar i) (wV i) := ⟨pe_var hN hv hd hcd, ie_v⟩
theorem de_pub (i : Nat) {x : Str} (hN : X.N[i]? = some x := by rfl) (hv : Vis X.env.scope x := by first | exact Or.inl rfl | exact Or.inr (Or.inl rfl) | exact Or.inr (Or.inr rfl)) (hd : (x == ("__debug__" : Str)) = false := by decide)
    (hcd : (x == ("__classdict__" : Str)) = false := by decide) : DE X C (.Name x pos) (tVar i) (wPub i) := ⟨pe_var hN hv hd hcd, ie_pub⟩
theorem dp_v (i : Nat) {x : Str} (hN : X.N[i]? = some x := by rfl) (hv : Vis X.env.scope x := by first | exact Or.inl rfl | exact Or.inr (Or.inl rfl) | exact Or.inr (Or.inr rfl)) (hd : (x == ("__debug__" : Str)) = false := by decide)
    (hcd : (x == ("__classdict__" : Str)) = false := by decide) : DP X C (.Name x pos) (tVar i) (wP i) := ⟨pe_var hN hv hd hcd, ip_v⟩
def wL (i : Nat) : WA := fun s Q => ∃ ds, s.env[i]? = some (some (.own ds)) ∧ Q ds s
theorem dl_v (i : Nat) {x : Str} (hN : X.N[i]? = some x := by rfl) (hv : Vis X.env.scope x := by first | exact Or.inl rfl | exact Or.inr (Or.inl rfl) | exact Or.inr (Or.inr rfl)) (hd : (x == ("__debug__" : Str)) = false := by decide)
    (hcd : (x == ("__classdict__" : Str)) = false := by decide) : DL X C (.Name x pos) (tVar i) (wL i) := ⟨pe_var hN hv hd hcd, fun G σ H s Q Q' r q k => by
  obtain ⟨ds, e, q⟩ := q
  obtain ⟨v, hv, p, xs, rfl, h1, h2, h3, h4⟩ := r.sl i _ e
  exact ⟨_, hv, k p xs ds s G H q r (Ex.refl G) Gs.refl h1 (r.fin.nbx h2) h4⟩⟩
/-- a constant of the module -/
theorem de_g {x : Str} {v : V} {u : Value} {d : PyData} (hg : Gl X x) (hm : X.mg x = some u) (rv : RelV v u) (hd : ∀ G, Dp C.K G v d) (hx : (x == ("__debug__" : Str)) = false := by decide) : DE X C (.Name x pos) (tC v) (wC d) := ⟨pe_glob hg hm rv hx, ie_c hd⟩
theorem da_nil : DA X C [] tNil (fun s Q => Q [] s) := ⟨pa_nil, ia_nil⟩
theorem da_cons {tr : TA} {wr : WA} (h : DE X C e t w) (hr : DA X C es tr wr) (hs : starEach (e :: es) X.env = (false, eval e X.env) :: starEach es X.env := by rfl) : DA X C (e :: es) (tCons t tr) (wCons w wr) := ⟨pa_cons h.pe hr.pa hs, ia_cons h.ie hr.ia⟩
theorem de_tup {k} (h : DA X C es tA wA) : DE X C (.Tuple es k pos) (tTup tA) (wTup wA) := ⟨pe_tup h.pa, ie_tup h.ia⟩
theorem do_lst (h : DA X C es tA wA) : DO X C (.List es pos) (tLst tA) (wLst wA) := ⟨pe_lst h.pa, io_lst h.ia⟩
/-! ### two-place operations -/
abbrev G2 := PyData → PyData → Dt → (PyData → Dt → Prop) → Prop
structure R2D (C : Ct) (r : R2) (g : G2) : Prop where
  run : ∀ G σ H s x y d e Q Q', Rel C G σ H s → Pk C G H x d → Pk C G H y e → g d e s Q → (∀ v z s' G' H', Q z s' → Rel C G' σ H' s' → Ex G G' → Gs C σ G H s G' H' s' → Dp C.K G' v z → Q' v H') → r x y H Q'
structure OpD (X : Cx) (C : Ct) (f : Value → Value → Sem Value) (r : R2) (g : G2) : Prop where
  op : OpR X f r
  rd : R2D C r g
def w2 (g : G2) (wa wb : WE) : WE := fun s Q => wa s fun d s1 => wb s1 fun e s2 => g d e s2 Q
theorem de_bin {op : Operator} {r : R2} {g : G2} (o : OpD X C (binaryOp op) r g) (ha : DP X C a ta wa) (hb : DP X C b tb wb) : DE X C (.BinOp a op b pos) (tOp r ta tb) (w2 g wa wb) := ⟨pe_op o.op ha.pe hb.pe, ie_op2 o.rd.run ha.ip hb.ip⟩
theorem de_cmp {op : CmpOp} {r : R2} {g : G2} (o : OpD X C (compareOp op) r g) (ha : DP X C a ta wa) (hb : DP X C b tb wb) (hm : behindInMarks op b = false := by first | exact nomark _ | rfl) : DE X C (.Compare a [op] [b] pos) (tOp r ta tb) (w2 g wa wb) := ⟨pe_cmpR o.op ha.pe hb.pe hm, ie_op2 o.rd.run ha.ip hb.ip⟩
/-- a value as a test -/
def wTest (w : WE) : WT := fun s Q => w s fun d s1 => ∃ k, d = .bool k ∧ Q k s1
theorem it_test (h : IE C t w) : IT C (tTest t) (wTest w) := fun G σ H s Q Q' r q k => h G σ H s _ _ r q fun v d s1 G1 H1 q1 r1 eg eh p => by
  obtain ⟨b, rfl, q2⟩ := q1
  exact ⟨b, dp_bl p, k b s1 G1 H1 q2 r1 eg eh⟩
theorem it_B (h : IE C t w) : IT C (tB t) (wTest w) := it_test h
theorem dt_cmp {op : CmpOp} {r : R2} {g : G2} (o : OpD X C (compareOp op) r g) (ha : DP X C a ta wa) (hb : DP X C b tb wb) (hm : behindInMarks op b = false := by first | exact nomark _ | rfl) : DT X C (.Compare a [op] [b] pos) (tTest (tOp r ta tb)) (wTest (w2 g wa wb)) :=
  ⟨pt_cmpR o.op ha.pe hb.pe hm, it_test (ie_op2 o.rd.run ha.ip hb.ip)⟩
theorem dt_val (h : DE X C e t w) (he : ∀ whole, isTrue e X.env whole = (do let v ← whole; standAt e.pos; holding [v] (truthy v)) := by intro _; rfl) : DT X C e (tB t) (wTest w) := ⟨pt_val h.pe he, it_B h.ie⟩
/-- a op b op' c -/
def wChain (g g' : G2) (wa wb wc : WE) : WE := fun s Q => wa s fun d s1 => wb s1 fun e s2 => g d e s2 fun z s3 => ∃ k, z = .bool k ∧ if k = true then wc s3 fun f s4 => g' e f s4 Q else Q (.bool false) s3
theorem ie_chain {r r' : R2} {g g' : G2} (hr : R2D C r g) (hr' : R2D C r' g') (ha : IP C ta wa) (hb : IP C tb wb) (hc : IP C tc wc) : IE C (tChain r r' ta tb tc) (wChain g g' wa wb wc) := fun G σ H s Q Q' r q k =>
  ha G σ H s _ _ r q fun v d s1 G1 H1 q1 r1 eg1 eh1 p1 => hb G1 σ H1 s1 _ _ r1 q1 fun v2 d2 s2 G2 H2 q2 rr eg2 eh2 p2 =>
    hr.run G2 σ H2 s2 v v2 d d2 _ _ rr (p1.mono eg2 eh2.gr) p2 q2 fun v3 z s3 G3 H3 q3 r3 eg3 eh3 p3 => by
      obtain ⟨kk, rfl, q3⟩ := q3
      refine ⟨kk, dp_bl p3, ?_⟩
      cases kk with
      | false =>
        refine iteF ?_
        rw [if_neg (by decide)] at q3
        exact k _ _ s3 G3 H3 q3 r3 ((eg1.trans eg2).trans eg3) ((eh1.trans eh2).trans eh3) (.bl _)
      | true =>
        refine iteT ?_
        rw [if_pos rfl] at q3
        exact hc G3 σ H3 s3 _ _ r3 q3 fun v4 f s4 G4 H4 q4 r4 eg4 eh4 p4 => hr'.run G4 σ H4 s4 v2 v4 d2 f _ _ r4 ((p2.mono eg3 eh3.gr).mono eg4 eh4.gr) p4 q4 fun v5 z s5 G5 H5 q5 r5 eg5 eh5 p5 =>
          k v5 z s5 G5 H5 q5 r5 ((((eg1.trans eg2).trans eg3).trans eg4).trans eg5) ((((eh1.trans eh2).trans eh3).trans eh4).trans eh5) p5
theorem de_chain {c : Expr} {op op' : CmpOp} {r r' : R2} {g g' : G2} (o : OpD X C (compareOp op) r g) (o' : OpD X C (compareOp op') r' g') (ha : DP X C a ta wa) (hb : DP X C b tb wb) (hc : DP X C c tc wc) (hm : lastMarks [op, op'] [b, c] = false := by with_unfolding_all rfl) :
    DE X C (.Compare a [op, op'] [b, c] pos) (tChain r r' ta tb tc) (wChain g g' wa wb wc) := ⟨pe_chain o.op o'.op ha.pe hb.pe hc.pe hm, ie_chain o.rd o'.rd ha.ip hb.ip hc.ip⟩
theorem dt_chain {c : Expr} {op op' : CmpOp} {r r' : R2} {g g' : G2} (o : OpD X C (compareOp op) r g) (o' : OpD X C (compareOp op') r' g') (ha : DP X C a ta wa) (hb : DP X C b tb wb) (hc : DP X C c tc wc) (hm : lastMarks [op, op'] [b, c] = false := by with_unfolding_all rfl) :
    DT X C (.Compare a [op, op'] [b, c] pos) (tTest (tChain r r' ta tb tc)) (wTest (wChain g g' wa wb wc)) := ⟨pt_chain o.op o'.op ha.pe hb.pe hc.pe hm, it_test (ie_chain o.rd o'.rd ha.ip hb.ip hc.ip)⟩
/-! and, or, not, if -/
def wAnd (u v : WT) : WT := fun s Q => u s fun b s1 => if b = true then v s1 Q else Q false s1
def wOr (u v : WT) : WT := fun s Q => u s fun b s1 => if b = true then Q true s1 else v s1 Q
def wNot (u : WT) : WT := fun s Q => u s fun b s1 => Q (!b) s1
theorem it_and {t u : TT} {w v : WT} (h : IT C t w) (h2 : IT C u v) : IT C (tAnd t u) (wAnd w v) := fun G σ H s Q Q' r q k => h G σ H s _ _ r q fun b s1 G1 H1 q1 r1 eg eh => by
  cases b with
  | false =>
    rw [if_neg (by decide)] at q1
    exact iteF (k false s1 G1 H1 q1 r1 eg eh)
  | true =>
    rw [if_pos rfl] at q1
    exact iteT (h2 G1 σ H1 s1 _ _ r1 q1 fun b s2 G2 H2 q2 r2 eg2 eh2 => k b s2 G2 H2 q2 r2 (eg.trans eg2) (eh.trans eh2))
theorem it_or {t u : TT} {w v : WT} (h : IT C t w) (h2 : IT C u v) : IT C (tOr t u) (wOr w v) := fun G σ H s Q Q' r q k => h G σ H s _ _ r q fun b s1 G1 H1 q1 r1 eg eh => by
  cases b with
  | true =>
    rw [if_pos rfl] at q1
    exact iteT (k true s1 G1 H1 q1 r1 eg eh)
  | false =>
    rw [if_neg (by decide)] at q1
    exact iteF (h2 G1 σ H1 s1 _ _ r1 q1 fun b s2 G2 H2 q2 r2 eg2 eh2 => k b s2 G2 H2 q2 r2 (eg.trans eg2) (eh.trans eh2))
theorem it_not {t : TT} {w : WT} (h : IT C t w) : IT C (tNot t) (wNot w) := fun G σ H s Q Q' r q k => h G σ H s _ _ r q fun b s1 G1 H1 q1 r1 eg eh => k (!b) s1 G1 H1 q1 r1 eg eh
variable {rest : List Expr} {tA' tB' : TT} {wA' wB' : WT}
theorem dw_and1 (h : DT X C a tA' wA') : DW X C (.BoolOp .And [a] pos) tA' wA' := ⟨pw_and1 h.pt, h.it⟩
theorem dw_or1 (h : DT X C a tA' wA') : DW X C (.BoolOp .Or [a] pos) tA' wA' := ⟨pw_or1 h.pt, h.it⟩
theorem dw_and (h : DT X C a tA' wA') (h2 : DW X C (.BoolOp .And (b :: rest) pos) tB' wB') : DW X C (.BoolOp .And (a :: b :: rest) pos) (tAnd tA' tB') (wAnd wA' wB') := ⟨pw_and h.pt h2.pw, it_and h.it h2.it⟩
theorem dw_or (h : DT X C a tA' wA') (h2 : DW X C (.BoolOp .Or (b :: rest) pos) tB' wB') : DW X C (.BoolOp .Or (a :: b :: rest) pos) (tOr tA' tB') (wOr wA' wB') := ⟨pw_or h.pt h2.pw, it_or h.it h2.it⟩
theorem dt_not (h : DT X C a tA' wA') : DT X C (.UnaryOp .Not a pos) (tNot tA') (wNot wA') := ⟨pt_not h.pt, it_not h.it⟩
def wAndV (u v : WE) : WE := fun s Q => u s fun d s1 => ∃ b, d = .bool b ∧ if b = true then v s1 Q else Q (.bool false) s1
def wOrV (u v : WE) : WE := fun s Q => u s fun d s1 => ∃ b, d = .bool b ∧ if b = true then Q (.bool true) s1 else v s1 Q
def wNotV (u : WE) : WE := fun s Q => u s fun d s1 => ∃ b, d = .bool b ∧ Q (.bool (!b)) s1
theorem ie_andV (h : IE C ta wa) (h2 : IE C tb wb) : IE C (tAndV ta tb) (wAndV wa wb) := fun G σ H s Q Q' r q k => h G σ H s _ _ r q fun v d s1 G1 H1 q1 r1 eg eh p => by
  obtain ⟨b, rfl, q1⟩ := q1
  refine ⟨b, dp_bl p, ?_⟩
  cases b with
  | false =>
    rw [if_neg (by decide)] at q1
    exact iteF (k _ _ s1 G1 H1 q1 r1 eg eh (.bl _))
  | true =>
    rw [if_pos rfl] at q1
    exact iteT (h2 G1 σ H1 s1 _ _ r1 q1 fun v d s2 G2 H2 q2 r2 eg2 eh2 p2 => k v d s2 G2 H2 q2 r2 (eg.trans eg2) (eh.trans eh2) p2)
theorem ie_orV (h : IE C ta wa) (h2 : IE C tb wb) : IE C (tOrV ta tb) (wOrV wa wb) := fun G σ H s Q Q' r q k => h G σ H s _ _ r q fun v d s1 G1 H1 q1 r1 eg eh p => by
  obtain ⟨b, rfl, q1⟩ := q1
  refine ⟨b, dp_bl p, ?_⟩
  cases b with
  | true =>
    rw [if_pos rfl] at q1
    exact iteT (k _ _ s1 G1 H1 q1 r1 eg eh (.bl _))
  | false =>
    rw [if_neg (by decide)] at q1
    exact iteF (h2 G1 σ H1 s1 _ _ r1 q1 fun v d s2 G2 H2 q2 r2 eg2 eh2 p2 => k v d s2 G2 H2 q2 r2 (eg.trans eg2) (eh.trans eh2) p2)
theorem ie_notV (h : IE C ta wa) : IE C (tNotV ta) (wNotV wa) := fun G σ H s Q Q' r q k => h G σ H s _ _ r q fun v d s1 G1 H1 q1 r1 eg eh p => by
  obtain ⟨b, rfl, q1⟩ := q1
  exact ⟨b, dp_bl p, k _ _ s1 G1 H1 q1 r1 eg eh (.bl _)⟩
theorem de_one {op} (h : DE X C a t w) : DE X C (.BoolOp op [a] pos) t w := ⟨pe_one h.pe, h.ie⟩
theorem de_and (h : DE X C a ta wa) (h2 : DE X C (.BoolOp .And (b :: rest) pos) tb wb) : DE X C (.BoolOp .And (a :: b :: rest) pos) (tAndV ta tb) (wAndV wa wb) := ⟨pe_and h.pe h2.pe, ie_andV h.ie h2.ie⟩
theorem de_or (h : DE X C a ta wa) (h2 : DE X C (.BoolOp .Or (b :: rest) pos) tb wb) : DE X C (.BoolOp .Or (a :: b :: rest) pos) (tOrV ta tb) (wOrV wa wb) := ⟨pe_or h.pe h2.pe, ie_orV h.ie h2.ie⟩
theorem de_not (h : DE X C a t w) : DE X C (.UnaryOp .Not a pos) (tNotV t) (wNotV w) := ⟨pe_not h.pe, ie_notV h.ie⟩
def wIf (c : WT) (u v : WE) : WE := fun s Q => c s fun b s1 => if b = true then u s1 Q else v s1 Q
theorem de_if {c : Expr} (hc : DT X C c tA' wA') (h : DE X C a ta wa) (h2 : DE X C b tb wb) : DE X C (.IfExp c a b pos) (tIf tA' ta tb) (wIf wA' wa wb) := ⟨pe_ifExp hc.pt h.pe h2.pe, fun G σ H s Q Q' r q k =>
  hc.it G σ H s _ _ r q fun bb s1 G1 H1 q1 r1 eg eh => by
    cases bb with
    | true =>
      rw [if_pos rfl] at q1
      exact iteT (h.ie G1 σ H1 s1 _ _ r1 q1 fun v d s2 G2 H2 q2 r2 eg2 eh2 p2 => k v d s2 G2 H2 q2 r2 (eg.trans eg2) (eh.trans eh2) p2)
    | false =>
      rw [if_neg (by decide)] at q1
      exact iteF (h2.ie G1 σ H1 s1 _ _ r1 q1 fun v d s2 G2 H2 q2 r2 eg2 eh2 p2 => k v d s2 G2 H2 q2 r2 (eg.trans eg2) (eh.trans eh2) p2)⟩
/-- truth of a list, tuple, text, int, None -/
def truD : PyData → Option Bool
  | .none => some false
  | .bool b => some b
  | .int i => some (i != 0)
  | .str y => if y.length ≤ 100000 then some ((y.length : Int) != 0) else none
  | .list ds => some (!ds.isEmpty)
  | .tuple ds => some (!ds.isEmpty)
  | .dict _ => none
theorem dpa_emp {K : PySem.W.Frag} {H : Hp} {xs : List V} {ds : List PyData} (h : DpAll K H xs ds) : xs.isEmpty = ds.isEmpty := by
  cases h <;> rfl
def wTru (w : WE) : WT := fun s Q => w s fun d s1 => ∃ k, truD d = some k ∧ Q k s1
theorem dt_tru (hK : X.K = C.K) (h : DP X C e t w) (he : ∀ whole, isTrue e X.env whole = (do let v ← whole; standAt e.pos; holding [v] (truthy v)) := by intro _; rfl) : DT X C e (fun σ H Q => t σ H fun x H' => ∃ k, TruV C.K x H' k ∧ Q k H') (wTru w) :=
  ⟨hK ▸ pt_truth h.pe he, fun G σ H s Q Q' r q k => h.ip G σ H s _ _ r q fun v d s1 G1 H1 q1 r1 eg eh p => by
    obtain ⟨b, hb, q1⟩ := q1
    refine ⟨b, ?_, k b s1 G1 H1 q1 r1 eg eh⟩
    have hd := p.dp r1.fin.gh
    cases d with
    | none => cases hd; cases hb; rfl
    | bool _ => cases hd; cases hb; rfl
    | int _ => cases hd; cases hb; rfl
    | str y =>
      cases hd
      have hb' : (if y.length ≤ 100000 then some ((y.length : Int) != 0) else none) = some b := hb
      split at hb'
      · rename_i hy
        cases hb'
        exact ⟨sz_of hy, rfl⟩
      · cases hb'
    | list ds =>
      cases hd with
      | lst h1 h2 =>
        cases hb
        exact .inl ⟨_, h1, by rw [dpa_emp h2]⟩
    | tuple ds =>
      cases hd with
      | tup h1 h2 =>
        cases hb
        exact .inr (.inl ⟨_, h1, by rw [dpa_emp h2]⟩)
    | dict _ => cases hb⟩
end
/-! ### the operations -/
def gI0 (f : Int → Int → PyData) : G2 := fun d e s Q => ∃ i j, d = .int i ∧ e = .int j ∧ Q (f i j) s
def gI (P : Int → Int → Prop) (f : Int → Int → PyData) : G2 := fun d e s Q => ∃ i j, d = .int i ∧ e = .int j ∧ P i j ∧ Q (f i j) s
section
variable {X : Cx} {C : Ct}
theorem pk_int {G H : Hp} {v : V} {i : Int} (h : Pk C G H v (.int i)) : v = .int i := by
  rcases h with h | ⟨_, _, _, _, h, _⟩
  · exact dp_int h
  · cases h
theorem pk_str {G H : Hp} {v : V} {i : Str} (h : Pk C G H v (.str i)) : v = .str i := by
  rcases h with h | ⟨_, _, _, _, h, _⟩
  · exact dp_str h
  · cases h
theorem pk_bl {G H : Hp} {v : V} {i : Bool} (h : Pk C G H v (.bool i)) : v = .bl i := by
  rcases h with h | ⟨_, _, _, _, h, _⟩
  · exact dp_bl h
  · cases h
theorem r2_I0 {f : Int → Int → V} {g : Int → Int → PyData} (hg : ∀ G i j, Dp C.K G (f i j) (g i j)) : R2D C (rI0 f) (gI0 g) := ⟨fun G σ H s x y d e Q Q' r p1 p2 q k => by
  obtain ⟨i, j, rfl, rfl, q⟩ := q
  exact ⟨i, j, pk_int p1, pk_int p2, k _ _ s G H q r (Ex.refl G) Gs.refl (hg _ _ _)⟩⟩
theorem r2_I {P : Int → Int → Prop} {f : Int → Int → V} {g : Int → Int → PyData} (hg : ∀ G i j, Dp C.K G (f i j) (g i j)) : R2D C (rI P f) (gI P g) := ⟨fun G σ H s x y d e Q Q' r p1 p2 q k => by
  obtain ⟨i, j, rfl, rfl, hc, q⟩ := q
  exact ⟨i, j, pk_int p1, pk_int p2, hc, k _ _ s G H q r (Ex.refl G) Gs.refl (hg _ _ _)⟩⟩
theorem o_add : OpD X C (binaryOp .Add) (rI0 fun i j => .int (i + j)) (gI0 fun i j => .int (i + j)) := ⟨op_add, r2_I0 fun _ _ _ => .int _⟩
theorem o_sub : OpD X C (binaryOp .Sub) (rI0 fun i j => .int (i - j)) (gI0 fun i j => .int (i - j)) := ⟨op_sub, r2_I0 fun _ _ _ => .int _⟩
theorem o_mul : OpD X C (binaryOp .Mult) (rI CMul fun i j => .int (i * j)) (gI CMul fun i j => .int (i * j)) := ⟨op_mul, r2_I fun _ _ _ => .int _⟩
theorem o_fdiv : OpD X C (binaryOp .FloorDiv) (rI CDiv fun i j => .int (i / j)) (gI CDiv fun i j => .int (i / j)) := ⟨op_fdiv, r2_I fun _ _ _ => .int _⟩
theorem o_mod : OpD X C (binaryOp .Mod) (rI (fun _ j => 0 < j) fun i j => .int (i % j)) (gI (fun _ j => 0 < j) fun i j => .int (i % j)) := ⟨op_mod, r2_I fun _ _ _ => .int _⟩
theorem o_pow : OpD X C (binaryOp .Pow) (rI CPow fun i j => .int (i ^ j.toNat)) (gI CPow fun i j => .int (i ^ j.toNat)) := ⟨op_pow, r2_I fun _ _ _ => .int _⟩
theorem o_lt : OpD X C (compareOp .Lt) (rI0 fun i j => .bl (decide (i < j))) (gI0 fun i j => .bool (decide (i < j))) := ⟨op_lt, r2_I0 fun _ _ _ => .bl _⟩
theorem o_le : OpD X C (compareOp .LtE) (rI0 fun i j => .bl (decide (i ≤ j))) (gI0 fun i j => .bool (decide (i ≤ j))) := ⟨op_le, r2_I0 fun _ _ _ => .bl _⟩
theorem o_gt : OpD X C (compareOp .Gt) (rI0 fun i j => .bl (decide (j < i))) (gI0 fun i j => .bool (decide (j < i))) := ⟨op_gt, r2_I0 fun _ _ _ => .bl _⟩
theorem o_ge : OpD X C (compareOp .GtE) (rI0 fun i j => .bl (decide (j ≤ i))) (gI0 fun i j => .bool (decide (j ≤ i))) := ⟨op_ge, r2_I0 fun _ _ _ => .bl _⟩
/-- == and != of data -/
def Shp (d : PyData) : Prop := SeqAt.shaped d = true
def gEq : G2 := fun d e s Q => Shp d ∧ Shp e ∧ Q (.bool (PyData.eqv d e)) s
def gNe : G2 := fun d e s Q => Shp d ∧ Shp e ∧ Q (.bool (!PyData.eqv d e)) s
theorem o_eq (hK : X.K = C.K) (hu : X.A.units + 64 < cLine) : OpD X C (compareOp .Eq) (rEqD C.K) gEq := ⟨hK ▸ op_eqD hu, ⟨fun G σ H s x y d e Q Q' r p1 p2 q k => ⟨d, e, p1.dp r.fin.gh, p2.dp r.fin.gh, q.1, q.2.1, k _ _ s G H q.2.2 r (Ex.refl G) Gs.refl (.bl _)⟩⟩⟩
theorem o_ne (hK : X.K = C.K) (hu : X.A.units + 64 < cLine) : OpD X C (compareOp .NotEq) (rNeD C.K) gNe := ⟨hK ▸ op_neD hu, ⟨fun G σ H s x y d e Q Q' r p1 p2 q k => ⟨d, e, p1.dp r.fin.gh, p2.dp r.fin.gh, q.1, q.2.1, k _ _ s G H q.2.2 r (Ex.refl G) Gs.refl (.bl _)⟩⟩⟩
/-- in, not in a list or a tuple of data -/
def rInB (K : PySem.W.Frag) (neg : Bool) : R2 := fun x y H Q => ∃ d e, Dp K H x d ∧ Dp K H y e ∧ seqd e = true ∧ Shp d ∧ Shp e ∧ Q (.bl (neg ^^ (its e).any fun z => PyData.eqv z d)) H
theorem shp_room {d e : PyData} {A : Around} (hd : Shp d) (hu : A.units + 65 < cLine) (ds : List PyData) : A.units + 1 + min (PyData.depthAll ds) d.depth < cLine := by
  have h1 := SeqAt.depth_of_shaped hd
  have h2 : min (PyData.depthAll ds) d.depth ≤ d.depth := Nat.min_le_right _ _
  omega
theorem op_inB (hu : X.A.units + 65 < cLine) : OpR X (compareOp .In) (rInB X.K false) := by
  intro pins s σ H x y v u Q I rx ry h
  obtain ⟨d, e, hd, he, hs, sd, se, q⟩ := h
  obtain ⟨as, r1⟩ := Dp.reads I d x v hd rx
  obtain ⟨bs, r2⟩ := Dp.reads I e y u he ry
  rw [Bool.false_xor] at q
  cases e with
  | list ds => exact SeqAt.in_list_reads r2 r1 (SeqAt.canLay_of_shaped se) (SeqAt.canLay_of_shaped sd) (shp_room (e := d) sd hu ds) ⟨.bl _, H, I, rfl, q⟩
  | tuple ds => exact SeqAt.in_tuple_reads r2 r1 (SeqAt.canLay_of_shaped se) (SeqAt.canLay_of_shaped sd) (shp_room (e := d) sd hu ds) ⟨.bl _, H, I, rfl, q⟩
  | _ => cases hs
theorem op_notInB (hu : X.A.units + 65 < cLine) : OpR X (compareOp .NotIn) (rInB X.K true) := by
  intro pins s σ H x y v u Q I rx ry h
  obtain ⟨d, e, hd, he, hs, sd, se, q⟩ := h
  obtain ⟨as, r1⟩ := Dp.reads I d x v hd rx
  obtain ⟨bs, r2⟩ := Dp.reads I e y u he ry
  rw [Bool.true_xor] at q
  cases e with
  | list ds => exact SeqAt.notIn_list_reads r2 r1 (SeqAt.canLay_of_shaped se) (SeqAt.canLay_of_shaped sd) (shp_room (e := d) sd hu ds) ⟨.bl _, H, I, rfl, q⟩
  | tuple ds => exact SeqAt.notIn_tuple_reads r2 r1 (SeqAt.canLay_of_shaped se) (SeqAt.canLay_of_shaped sd) (shp_room (e := d) sd hu ds) ⟨.bl _, H, I, rfl, q⟩
  | _ => cases hs
def gIn (neg : Bool) : G2 := fun d e s Q => seqd e = true ∧ Shp d ∧ Shp e ∧ Q (.bool (neg ^^ (its e).any fun z => PyData.eqv z d)) s
theorem r2_in {neg : Bool} : R2D C (rInB C.K neg) (gIn neg) := ⟨fun G σ H s x y d e Q Q' r p1 p2 q k => ⟨d, e, p1.dp r.fin.gh, p2.dp r.fin.gh, q.1, q.2.1, q.2.2.1, k _ _ s G H q.2.2.2 r (Ex.refl G) Gs.refl (.bl _)⟩⟩
theorem o_in (hK : X.K = C.K) (hu : X.A.units + 65 < cLine) : OpD X C (compareOp .In) (rInB C.K false) (gIn false) := ⟨hK ▸ op_inB hu, r2_in⟩
theorem o_notin (hK : X.K = C.K) (hu : X.A.units + 65 < cLine) : OpD X C (compareOp .NotIn) (rInB C.K true) (gIn true) := ⟨hK ▸ op_notInB hu, r2_in⟩
/-- is None, is not None, is of bools -/
def isNone : PyData → Bool
  | .none => true
  | _ => false
theorem pk_none {G H : Hp} {v : V} {d : PyData} (h : Pk C G H v d) : decide (v = .non) = isNone d := by
  rcases h with h | ⟨_, _, _, rfl, rfl, _⟩
  · cases h <;> rfl
  · rfl
def gIsN : G2 := fun d e s Q => e = .none ∧ Q (.bool (isNone d)) s
def gNotN : G2 := fun d e s Q => e = .none ∧ Q (.bool (!isNone d)) s
theorem pk_non {G H : Hp} {v : V} (h : Pk C G H v .none) : v = .non := by
  rcases h with h | ⟨_, _, _, _, h, _⟩
  · cases h; rfl
  · cases h
theorem o_isN : OpD X C (compareOp .Is) (fun x y H Q => y = .non ∧ Q (.bl (decide (x = .non))) H) gIsN := ⟨op_isN, ⟨fun G σ H s x y d e Q Q' r p1 p2 q k => by
  obtain ⟨rfl, q⟩ := q
  refine ⟨pk_non p2, ?_⟩
  rw [pk_none p1]
  exact k _ _ s G H q r (Ex.refl G) Gs.refl (.bl _)⟩⟩
theorem o_notN : OpD X C (compareOp .IsNot) (fun x y H Q => y = .non ∧ Q (.bl (!decide (x = .non))) H) gNotN := ⟨op_notN, ⟨fun G σ H s x y d e Q Q' r p1 p2 q k => by
  obtain ⟨rfl, q⟩ := q
  refine ⟨pk_non p2, ?_⟩
  rw [pk_none p1]
  exact k _ _ s G H q r (Ex.refl G) Gs.refl (.bl _)⟩⟩
def gIsB : G2 := fun d e s Q => ∃ a b, d = .bool a ∧ e = .bool b ∧ Q (.bool (decide (a = b))) s
def gNotB : G2 := fun d e s Q => ∃ a b, d = .bool a ∧ e = .bool b ∧ Q (.bool (!decide (a = b))) s
theorem o_isB : OpD X C (compareOp .Is) rIsB gIsB := ⟨op_isBl, ⟨fun G σ H s x y d e Q Q' r p1 p2 q k => by
  obtain ⟨a, b, rfl, rfl, q⟩ := q
  exact ⟨a, b, pk_bl p1, pk_bl p2, k _ _ s G H q r (Ex.refl G) Gs.refl (.bl _)⟩⟩⟩
theorem o_notB : OpD X C (compareOp .IsNot) rNotB gNotB := ⟨op_notBl, ⟨fun G σ H s x y d e Q Q' r p1 p2 q k => by
  obtain ⟨a, b, rfl, rfl, q⟩ := q
  exact ⟨a, b, pk_bl p1, pk_bl p2, k _ _ s G H q r (Ex.refl G) Gs.refl (.bl _)⟩⟩⟩
/-- tuple + tuple -/
def gCatT : G2 := fun d e s Q => ∃ ds es, d = .tuple ds ∧ e = .tuple es ∧ ds.length + es.length ≤ 100000 ∧ Q (.tuple (ds ++ es)) s
theorem pk_tup {G H : Hp} {v : V} {ds : List PyData} (h : Pk C G H v (.tuple ds)) : ∃ p xs, v = .ref p ∧ SqT C.K G p xs ∧ DpAll C.K G xs ds := by
  rcases h with h | ⟨_, _, _, _, h, _⟩
  · cases h with
    | tup h1 h2 => exact ⟨_, _, rfl, h1, h2⟩
  · cases h
theorem dpa_nil {K : PySem.W.Frag} {H : Hp} {ds : List PyData} (h : DpAll K H [] ds) : ds = [] := by cases h; rfl
theorem o_catT (hK : X.K = C.K) : OpD X C (binaryOp .Add) (rCatA C.K) gCatT := ⟨hK ▸ op_catA, ⟨fun G σ H s x y d e Q Q' r p1 p2 q k => by
  obtain ⟨ds, es, rfl, rfl, hl, q⟩ := q
  obtain ⟨a, xs, rfl, h1, h2⟩ := pk_tup p1
  obtain ⟨b, ys, rfl, h3, h4⟩ := pk_tup p2
  refine ⟨a, b, xs, ys, rfl, rfl, Evl.ex_t r.fin.gh h1, Evl.ex_t r.fin.gh h3, sz_of (by rw [dpa_len h2, dpa_len h4]; exact hl), fun e => ?_, fun _ e => ?_, fun _ _ p hp => ?_⟩
  · subst e
    rw [dpa_nil h2, List.nil_append] at q
    exact k _ _ s G H q r (Ex.refl G) Gs.refl (.tup h3 h4)
  · subst e
    rw [dpa_nil h4, List.append_nil] at q
    exact k _ _ s G H q r (Ex.refl G) Gs.refl (.tup h1 h2)
  · obtain ⟨r2, eg, eh⟩ := r.new (o := .tup (xs ++ ys)) hp
    exact k _ _ s _ _ q r2 eg eh (.tup (.inl (.inl upd_same)) (dpa_ex eg (dpa_app h2 h4)))⟩⟩
/-- text + text -/
def gCatS : G2 := fun d e s Q => ∃ i j, d = .str i ∧ e = .str j ∧ i.length + j.length ≤ 100000 ∧ Q (.str (i ++ j)) s
theorem o_catS : OpD X C (binaryOp .Add) (fun x y H Q => ∃ i j, x = .str i ∧ y = .str j ∧ i.length + j.length ≤ sizeLine ∧ Q (.str (i ++ j)) H) gCatS := ⟨op_add_str, ⟨fun G σ H s x y d e Q Q' r p1 p2 q k => by
  obtain ⟨i, j, rfl, rfl, hl, q⟩ := q
  exact ⟨i, j, pk_str p1, pk_str p2, sz_of hl, k _ _ s G H q r (Ex.refl G) Gs.refl (.str _)⟩⟩⟩
/-- s[i], a list or a tuple -/
def gIx : G2 := fun d e s Q => ∃ i z, seqd d = true ∧ e = .int i ∧ atI (its d) i = some z ∧ Q z s
theorem r2_ix : R2D C (rIxB C.K) gIx := ⟨fun G σ H s x y d e Q Q' r p1 p2 q k => by
  obtain ⟨i, z, hs, rfl, ha, q⟩ := q
  obtain ⟨p, xs, rfl, h1, h2⟩ := p1.seq r.fin.gh hs
  obtain ⟨v, hv, pv⟩ := atI_dpa h2 ha
  exact ⟨isT d, p, xs, i, v, rfl, pk_int p2, h1, hv, k _ _ s G H q r (Ex.refl G) Gs.refl pv⟩⟩
variable {a b e : Expr} {es : List Expr} {pos : Pos} {t ta tb tc : TE} {w wa wb wc : WE} {tA : TA} {wA : WA}
theorem de_ix (hK : X.K = C.K) (ha : DP X C a ta wa) (hb : DP X C b tb wb) (hs : PlainIx b := by exact fun _ _ => rfl) : DE X C (.Subscript a b pos) (tOp (rIxB C.K) ta tb) (w2 gIx wa wb) := ⟨pe_ix (hK ▸ ix_B) ha.pe hb.pe hs, ie_op2 r2_ix.run ha.ip hb.ip⟩
/-! ### list + list, list * int: new lists -/
def wCat (u v : WA) : WA := fun s Q => u s fun ds s1 => v s1 fun es s2 => ds.length + es.length ≤ 100000 ∧ Q (ds ++ es) s2
theorem do_cat {u v : WA} (ha : DL X C a ta u) (hb : DL X C b tb v) : DO X C (.BinOp a .Add b pos) (tOp rCat ta tb) (wCat u v) := ⟨pe_op op_cat ha.pe hb.pe, fun G σ H s Q Q' r q k =>
  ha.il G σ H s _ _ r q fun p xs ds s1 G1 H1 q1 r1 eg1 eh1 h1 n1 d1 => hb.il G1 σ H1 s1 _ _ r1 q1 fun p2 ys es s2 G2 H2 q2 r2 eg2 eh2 h2 n2 d2 =>
    ⟨p, p2, xs, ys, rfl, rfl, eh2.gr p _ n1 h1, h2, sz_of (by rw [dpa_len d1, dpa_len d2]; exact q2.1), fun l hl => own_new r q2.2 r2 (eg1.trans eg2) (eh1.trans eh2) (dpa_app (dpa_ex eg2 d1) d2) hl k⟩⟩
def wRep (u : WA) (v : WE) : WA := fun s Q => u s fun ds s1 => v s1 fun e s2 => ∃ k : Nat, e = .int k ∧ ds.length * k ≤ 100000 ∧ k ≤ 100000 ∧ Q (List.replicate k ds).flatten s2
theorem dpa_rep {K : PySem.W.Frag} {H : Hp} {xs : List V} {ds : List PyData} (h : DpAll K H xs ds) : ∀ k : Nat, DpAll K H (List.replicate k xs).flatten (List.replicate k ds).flatten
  | 0 => .nil
  | k + 1 => by
    rw [List.replicate_succ, List.replicate_succ, List.flatten_cons, List.flatten_cons]
    exact dpa_app h (dpa_rep h k)
theorem do_rep {u : WA} {v : WE} (ha : DL X C a ta u) (hb : DE X C b tb v) : DO X C (.BinOp a .Mult b pos) (tOp rRep ta tb) (wRep u v) := ⟨pe_op op_rep ha.pe hb.pe, fun G σ H s Q Q' r q k =>
  ha.il G σ H s _ _ r q fun p xs ds s1 G1 H1 q1 r1 eg1 eh1 h1 n1 d1 => hb.ie G1 σ H1 s1 _ _ r1 q1 fun v2 es s2 G2 H2 q2 r2 eg2 eh2 d2 => by
    obtain ⟨m, rfl, hm, hm2, q2⟩ := q2
    refine ⟨p, m, xs, rfl, dp_int d2, eh2.gr p _ n1 h1, by omega, by omega, sz_of (by rw [dpa_len d1]; simpa using hm), fun l hl => own_new r q2 r2 (eg1.trans eg2) (eh1.trans eh2) (by simpa using dpa_rep (dpa_ex eg2 d1) m) hl k⟩⟩
end
end Dw

namespace Dw
open PySem PySem.Spec PyProof.Rows L2 OgR Evl
/-! ### built-ins of one argument -/
abbrev G1 := PyData → Dt → (PyData → Dt → Prop) → Prop
structure R1D (C : Ct) (r : List V → Hp → VK → Prop) (g : G1) : Prop where
  run : ∀ G σ H s x d Q Q', Rel C G σ H s → Pk C G H x d → g d s Q → (∀ v z s' G' H', Q z s' → Rel C G' σ H' s' → Ex G G' → Gs C σ G H s G' H' s' → Dp C.K G' v z → Q' v H') → r [x] H Q'
/-- .. that give a new list -/
structure R1O (C : Ct) (r : List V → Hp → VK → Prop) (g : PyData → Dt → (List PyData → Dt → Prop) → Prop) : Prop where
  run : ∀ G σ H s x d Q Q', Rel C G σ H s → Pk C G H x d → g d s Q → (∀ vs ds p, Q ds s → DpAll C.K G vs ds → H p = none → Q' (.ref p) (upd H p (.lst vs))) → r [x] H Q'
def w1 (g : G1) (wa : WE) : WE := fun s Q => wa s fun d s1 => g d s1 Q
def w1O (g : PyData → Dt → (List PyData → Dt → Prop) → Prop) (wa : WE) : WA := fun s Q => wa s fun d s1 => g d s1 Q
section
variable {X : Cx} {C : Ct} {a b e : Expr} {es : List Expr} {pos p : Pos} {t ta tb tc : TE} {w wa wb wc : WE} {tA : TA} {wA : WA} {x : Str} {bid : String} {r : List V → Hp → VK → Prop} {g : G1} {gO : PyData → Dt → (List PyData → Dt → Prop) → Prop}
theorem ie_1 (hr : R1D C r g) (ha : IP C ta wa) : IE C (tCB r (tCons ta tNil)) (w1 g wa) := fun G σ H s Q Q' rr q k => ha G σ H s _ _ rr q fun v d s1 G1 H1 q1 r1 eg eh pk =>
  hr.run G1 σ H1 s1 v d _ _ r1 pk q1 fun v2 z s2 G2 H2 q2 r2 eg2 eh2 p2 => k v2 z s2 G2 H2 q2 r2 (eg.trans eg2) (eh.trans eh2) p2
theorem io_1 (hr : R1O C r gO) (ha : IP C ta wa) : IO C (tCB r (tCons ta tNil)) (w1O gO wa) := fun G σ H s Q Q' rr q k => ha G σ H s _ _ rr q fun v d s1 G1 H1 q1 r1 eg eh pk =>
  hr.run G1 σ H1 s1 v d _ _ r1 pk q1 fun vs ds p q2 hd hp => own_new rr q2 r1 eg eh hd hp k
theorem de_b1 (hc : CallR X (.builtin bid) r) (hr : R1D C r g) (hg : Gl X x) (hm : X.mg x = none) (hv : bootBuiltins x = some (.builtin bid)) (ha : DP X C a ta wa) (hn : x ≠ "__name__" := by decide) (hdb : (x == ("__debug__" : Str)) = false := by decide)
    (hs : starEach [a] X.env = (false, eval a X.env) :: starEach [] X.env := by rfl) : DE X C (.Call (.Name x p) [a] [] pos) (tCB r (tCons ta tNil)) (w1 g wa) := ⟨pe_callB hc hg hm hv (pa_cons ha.pe pa_nil hs) hn hdb hs, ie_1 hr ha.ip⟩
theorem de_t1 (hc : CallR X (.type bid) r) (hr : R1D C r g) (hg : Gl X x) (hm : X.mg x = none) (hv : bootBuiltins x = some (.type bid)) (ha : DP X C a ta wa) (hn : x ≠ "__name__" := by decide) (hdb : (x == ("__debug__" : Str)) = false := by decide)
    (hs : starEach [a] X.env = (false, eval a X.env) :: starEach [] X.env := by rfl) : DE X C (.Call (.Name x p) [a] [] pos) (tCB r (tCons ta tNil)) (w1 g wa) := ⟨pe_callTy hc hg hm hv (pa_cons ha.pe pa_nil hs) hn hdb hs, ie_1 hr ha.ip⟩
theorem do_b1 (hc : CallR X (.builtin bid) r) (hr : R1O C r gO) (hg : Gl X x) (hm : X.mg x = none) (hv : bootBuiltins x = some (.builtin bid)) (ha : DP X C a ta wa) (hn : x ≠ "__name__" := by decide) (hdb : (x == ("__debug__" : Str)) = false := by decide)
    (hs : starEach [a] X.env = (false, eval a X.env) :: starEach [] X.env := by rfl) : DO X C (.Call (.Name x p) [a] [] pos) (tCB r (tCons ta tNil)) (w1O gO wa) := ⟨pe_callB hc hg hm hv (pa_cons ha.pe pa_nil hs) hn hdb hs, io_1 hr ha.ip⟩
theorem do_t1 (hc : CallR X (.type bid) r) (hr : R1O C r gO) (hg : Gl X x) (hm : X.mg x = none) (hv : bootBuiltins x = some (.type bid)) (ha : DP X C a ta wa) (hn : x ≠ "__name__" := by decide) (hdb : (x == ("__debug__" : Str)) = false := by decide)
    (hs : starEach [a] X.env = (false, eval a X.env) :: starEach [] X.env := by rfl) : DO X C (.Call (.Name x p) [a] [] pos) (tCB r (tCons ta tNil)) (w1O gO wa) := ⟨pe_callTy hc hg hm hv (pa_cons ha.pe pa_nil hs) hn hdb hs, io_1 hr ha.ip⟩
/-! len -/
def lenD : PyData → Option Nat
  | .list ds => some ds.length
  | .tuple ds => some ds.length
  | .str z => if z.length ≤ 100000 then some z.length else none
  | _ => none
def gLen : G1 := fun d s Q => ∃ n : Nat, lenD d = some n ∧ Q (.int n) s
theorem r1_len : R1D C (fun xs H Q => ∃ x n, xs = [x] ∧ LenV C.K x H n ∧ Q (.int n) H) gLen := ⟨fun G σ H s x d Q Q' r pk q k => by
  obtain ⟨n, hn, q⟩ := q
  refine ⟨x, n, rfl, ?_, k _ _ s G H q r (Ex.refl G) Gs.refl (.int _)⟩
  have hd := pk.dp r.fin.gh
  cases d with
  | list ds =>
    cases hd with
    | lst h1 h2 => cases hn; exact .inl ⟨_, h1, (dpa_len h2).symm⟩
  | tuple ds =>
    cases hd with
    | tup h1 h2 => cases hn; exact .inr ⟨_, h1, (dpa_len h2).symm⟩
  | str z =>
    cases hd
    have hb' : (if z.length ≤ 100000 then some z.length else none) = some n := hn
    split at hb'
    · rename_i hy
      cases hb'
      exact ⟨sz_of hy, rfl⟩
    · cases hb'
  | none => cases hn
  | bool _ => cases hn
  | int _ => cases hn
  | dict _ => cases hn⟩
theorem de_len (hK : X.K = C.K) (hg : Gl X "len") (hm : X.mg "len" = none) (ha : DP X C a ta wa) (hs : starEach [a] X.env = (false, eval a X.env) :: starEach [] X.env := by rfl) :
    DE X C (.Call (.Name "len" p) [a] [] pos) (tCB (fun xs H Q => ∃ x n, xs = [x] ∧ LenV C.K x H n ∧ Q (.int n) H) (tCons ta tNil)) (w1 gLen wa) := de_b1 (hK ▸ call_len) r1_len hg hm PySem.boot_len ha (by decide) (by decide) hs
/-! tuple(x), list(x) -/
def gTupleOf : G1 := fun d s Q => seqd d = true ∧ Q (.tuple (its d)) s
def rTupleOf (K : PySem.W.Frag) : List V → Hp → VK → Prop := fun xs H Q => ∃ p ys, xs = [.ref p] ∧ ((SqL K H p ys ∧ ∀ l, H l = none → Q (.ref l) (upd H l (.tup ys))) ∨ (SqT K H p ys ∧ Q (.ref p) H))
theorem r1_tupleOf : R1D C (rTupleOf C.K) gTupleOf := ⟨fun G σ H s x d Q Q' r pk q k => by
  obtain ⟨hs, q⟩ := q
  obtain ⟨p, xs, rfl, h1, h2⟩ := pk.seq r.fin.gh hs
  refine ⟨p, xs, rfl, ?_⟩
  cases d with
  | list ds =>
    refine .inl ⟨h1, fun l hl => ?_⟩
    obtain ⟨r2, eg, eh⟩ := r.new (o := .tup xs) hl
    exact k _ _ s _ _ q r2 eg eh (.tup (.inl (.inl upd_same)) (dpa_ex eg h2))
  | tuple ds =>
    obtain ⟨p', xs', e, h3, h4⟩ := pk_tup pk
    cases e
    exact .inr ⟨h1, k _ _ s G H q r (Ex.refl G) Gs.refl (.tup h3 h4)⟩
  | _ => cases hs⟩
theorem de_tupleOf (hK : X.K = C.K) (hg : Gl X "tuple") (hm : X.mg "tuple" = none) (ha : DP X C a ta wa) (hs : starEach [a] X.env = (false, eval a X.env) :: starEach [] X.env := by rfl) :
    DE X C (.Call (.Name "tuple" p) [a] [] pos) (tCB (rTupleOf C.K) (tCons ta tNil)) (w1 gTupleOf wa) := de_t1 (hK ▸ call_tuple_of) r1_tupleOf hg hm (by decide +kernel) ha (by decide) (by decide) hs
def gListOf : PyData → Dt → (List PyData → Dt → Prop) → Prop := fun d s Q => seqd d = true ∧ Q (its d) s
def rListOf (K : PySem.W.Frag) : List V → Hp → VK → Prop := fun xs H Q => ∃ p ys, xs = [.ref p] ∧ (SqL K H p ys ∨ SqT K H p ys) ∧ ∀ l, H l = none → Q (.ref l) (upd H l (.lst ys))
theorem r1_listOf : R1O C (rListOf C.K) gListOf := ⟨fun G σ H s x d Q Q' r pk q k => by
  obtain ⟨hs, q⟩ := q
  obtain ⟨p, xs, rfl, h1, h2⟩ := pk.seq r.fin.gh hs
  refine ⟨p, xs, rfl, ?_, fun l hl => k xs _ l q h2 hl⟩
  cases d with
  | list ds => exact .inl h1
  | tuple ds => exact .inr h1
  | _ => cases hs⟩
theorem do_listOf (hK : X.K = C.K) (hg : Gl X "list") (hm : X.mg "list" = none) (ha : DP X C a ta wa) (hs : starEach [a] X.env = (false, eval a X.env) :: starEach [] X.env := by rfl) :
    DO X C (.Call (.Name "list" p) [a] [] pos) (tCB (rListOf C.K) (tCons ta tNil)) (w1O gListOf wa) := do_t1 (hK ▸ call_list_of) r1_listOf hg hm (by decide +kernel) ha (by decide) (by decide) hs
/-- list(range(n)) -/
def iotaD (a b : Int) : List PyData := (List.range (b - a).toNat).map fun (i : Nat) => .int (a + (i : Nat))
theorem dpa_iota {K : PySem.W.Frag} {H : Hp} (a b : Int) : DpAll K H (rgV a b) (iotaD a b) := by
  unfold rgV iotaD
  generalize List.range (b - a).toNat = l
  induction l with
  | nil => exact .nil
  | cons x l ih => exact .cons (.int _) ih
def wRg1 (wa : WE) : WA := fun s Q => wa s fun d s1 => ∃ n : Int, d = .int n ∧ 0 ≤ n ∧ n ≤ 100000 ∧ Q (iotaD 0 n) s1
theorem do_listRg {p2 pos2 : Pos} (hc : X.calm = true) (hg : Gl X "list") (hm : X.mg "list" = none) (hg2 : Gl X "range") (hm2 : X.mg "range" = none) (ha : DE X C a ta wa) (hs : starEach [a] X.env = (false, eval a X.env) :: starEach [] X.env := by rfl)
    (hs2 : starEach [.Call (.Name "range" p2) [a] [] pos2] X.env = (false, eval (.Call (.Name "range" p2) [a] [] pos2) X.env) :: starEach [] X.env := by rfl) :
    DO X C (.Call (.Name "list" p) [.Call (.Name "range" p2) [a] [] pos2] [] pos) (tLstRg (tRg1 ta)) (wRg1 wa) := ⟨pe_listRg hc hg hm (prg_1 hg2 hm2 ha.pe hs) hs2, fun G σ H s Q Q' r q k =>
  ha.ie G σ H s _ _ r q fun v d s1 G1 H1 q1 r1 eg eh p => by
    obtain ⟨n, rfl, h0, h1, q1⟩ := q1
    exact ⟨n, dp_int p, RgOk.of_le (by decide) (by omega) (by decide) h0, fun l hl => own_new r q1 r1 eg eh (dpa_iota 0 n) hl k⟩⟩
/-! sum, all, any, abs, int, str, min, max -/
def gSum : G1 := fun d s Q => ∃ ns : List Int, d = .list (ns.map .int) ∧ Q (.int ns.sum) s
theorem pk_lst {G H : Hp} {v : V} {ds : List PyData} (h : Pk C G H v (.list ds)) (e : Ex G H) : ∃ p xs, v = .ref p ∧ SqL C.K H p xs ∧ DpAll C.K G xs ds := h.seq e rfl
theorem r1_sum : R1D C (rSum C.K) gSum := ⟨fun G σ H s x d Q Q' r pk q k => by
  obtain ⟨ns, rfl, q⟩ := q
  obtain ⟨p, xs, rfl, h1, h2⟩ := pk_lst pk r.fin.gh
  rw [ints_dpa h2] at h1
  exact ⟨p, ns, rfl, h1, k _ _ s G H q r (Ex.refl G) Gs.refl (.int _)⟩⟩
theorem de_sum (hK : X.K = C.K) (hc : X.calm = true) (hg : Gl X "sum") (hm : X.mg "sum" = none) (ha : DP X C a ta wa) (hs : starEach [a] X.env = (false, eval a X.env) :: starEach [] X.env := by rfl) :
    DE X C (.Call (.Name "sum" p) [a] [] pos) (tCB (rSum C.K) (tCons ta tNil)) (w1 gSum wa) := de_b1 (hK ▸ cr_sum hc) r1_sum hg hm (by decide +kernel) ha (by decide) (by decide) hs
theorem bls_dpa {K : PySem.W.Frag} {H : Hp} : ∀ {ns : List Bool} {xs : List V}, DpAll K H xs (ns.map PyData.bool) → xs = ns.map V.bl
  | [], _, .nil => rfl
  | _ :: _, _, .cons h t => by
    cases h
    rw [bls_dpa t]
    rfl
def gAll : G1 := fun d s Q => ∃ bs : List Bool, d = .list (bs.map .bool) ∧ Q (.bool (bs.all id)) s
def gAny : G1 := fun d s Q => ∃ bs : List Bool, d = .list (bs.map .bool) ∧ Q (.bool (bs.any id)) s
theorem r1_all : R1D C (rAll C.K) gAll := ⟨fun G σ H s x d Q Q' r pk q k => by
  obtain ⟨ns, rfl, q⟩ := q
  obtain ⟨p, xs, rfl, h1, h2⟩ := pk_lst pk r.fin.gh
  rw [bls_dpa h2] at h1
  exact ⟨p, ns, rfl, h1, k _ _ s G H q r (Ex.refl G) Gs.refl (.bl _)⟩⟩
theorem r1_any : R1D C (rAny C.K) gAny := ⟨fun G σ H s x d Q Q' r pk q k => by
  obtain ⟨ns, rfl, q⟩ := q
  obtain ⟨p, xs, rfl, h1, h2⟩ := pk_lst pk r.fin.gh
  rw [bls_dpa h2] at h1
  exact ⟨p, ns, rfl, h1, k _ _ s G H q r (Ex.refl G) Gs.refl (.bl _)⟩⟩
theorem de_all (hK : X.K = C.K) (hc : X.calm = true) (hg : Gl X "all") (hm : X.mg "all" = none) (ha : DP X C a ta wa) (hs : starEach [a] X.env = (false, eval a X.env) :: starEach [] X.env := by rfl) :
    DE X C (.Call (.Name "all" p) [a] [] pos) (tCB (rAll C.K) (tCons ta tNil)) (w1 gAll wa) := de_b1 (hK ▸ cr_all hc) r1_all hg hm (by decide +kernel) ha (by decide) (by decide) hs
theorem de_any (hK : X.K = C.K) (hc : X.calm = true) (hg : Gl X "any") (hm : X.mg "any" = none) (ha : DP X C a ta wa) (hs : starEach [a] X.env = (false, eval a X.env) :: starEach [] X.env := by rfl) :
    DE X C (.Call (.Name "any" p) [a] [] pos) (tCB (rAny C.K) (tCons ta tNil)) (w1 gAny wa) := de_b1 (hK ▸ cr_any hc) r1_any hg hm (by decide +kernel) ha (by decide) (by decide) hs
def gInt : G1 := fun d s Q => (∃ i, d = .int i ∧ Q (.int i) s) ∨ ∃ b, d = .bool b ∧ Q (.int (if b then 1 else 0)) s
theorem r1_int : R1D C (fun xs H Q => (∃ i, xs = [.int i] ∧ Q (.int i) H) ∨ ∃ k, xs = [.bl k] ∧ Q (.int (if k then 1 else 0)) H) gInt := ⟨fun G σ H s x d Q Q' r pk q k => by
  rcases q with ⟨i, rfl, q⟩ | ⟨b, rfl, q⟩
  · exact .inl ⟨i, by rw [pk_int pk], k _ _ s G H q r (Ex.refl G) Gs.refl (.int _)⟩
  · exact .inr ⟨b, by rw [pk_bl pk], k _ _ s G H q r (Ex.refl G) Gs.refl (.int _)⟩⟩
theorem de_toInt (hg : Gl X "int") (hm : X.mg "int" = none) (ha : DP X C a ta wa) (hs : starEach [a] X.env = (false, eval a X.env) :: starEach [] X.env := by rfl) :
    DE X C (.Call (.Name "int" p) [a] [] pos) (tCB (fun xs H Q => (∃ i, xs = [.int i] ∧ Q (.int i) H) ∨ ∃ k, xs = [.bl k] ∧ Q (.int (if k then 1 else 0)) H) (tCons ta tNil)) (w1 gInt wa) := de_t1 call_int1 r1_int hg hm (by decide +kernel) ha (by decide) (by decide) hs
def gStr : G1 := fun d s Q => ∃ i : Int, d = .int i ∧ i.natAbs < 2 ^ 1000 ∧ Q (.str (toString i)) s
theorem r1_str : R1D C (fun xs H Q => ∃ i : Int, xs = [.int i] ∧ i.natAbs.log2 < 1920 ∧ Q (.str (toString i)) H) gStr := ⟨fun G σ H s x d Q Q' r pk q k => by
  obtain ⟨i, rfl, hi, q⟩ := q
  refine ⟨i, by rw [pk_int pk], ?_, k _ _ s G H q r (Ex.refl G) Gs.refl (.str _)⟩
  by_cases hz : i.natAbs = 0
  · rw [hz]
    decide
  · exact (Nat.log2_lt hz).mpr (Nat.lt_of_lt_of_le hi (Nat.pow_le_pow_right (by decide) (by decide)))⟩
theorem de_toStr (hg : Gl X "str") (hm : X.mg "str" = none) (ha : DP X C a ta wa) (hs : starEach [a] X.env = (false, eval a X.env) :: starEach [] X.env := by rfl) :
    DE X C (.Call (.Name "str" p) [a] [] pos) (tCB (fun xs H Q => ∃ i : Int, xs = [.int i] ∧ i.natAbs.log2 < 1920 ∧ Q (.str (toString i)) H) (tCons ta tNil)) (w1 gStr wa) := de_t1 call_str_int r1_str hg hm (by decide +kernel) ha (by decide) (by decide) hs
/-- max(a, b), min(a, b) of ints -/
def w2a (g : G2) (wa wb : WE) : WE := fun s Q => wa s fun d s1 => wb s1 fun e s2 => g d e s2 Q
theorem ie_2a {f : Int → Int → Int} (ha : IE C ta wa) (hb : IE C tb wb) : IE C (tCB (fun xs H Q => ∃ i j, xs = [.int i, .int j] ∧ Q (.int (f i j)) H) (tCons ta (tCons tb tNil))) (w2a (gI0 fun i j => .int (f i j)) wa wb) := fun G σ H s Q Q' r q k =>
  ha G σ H s _ _ r q fun v d s1 G1 H1 q1 r1 eg1 eh1 p1 => hb G1 σ H1 s1 _ _ r1 q1 fun v2 d2 s2 G2 H2 q2 r2 eg2 eh2 p2 => by
    obtain ⟨i, j, rfl, rfl, q3⟩ := q2
    exact ⟨i, j, by rw [dp_int p1, dp_int p2], k _ _ s2 G2 H2 q3 r2 (eg1.trans eg2) (eh1.trans eh2) (.int _)⟩
theorem de_max2 (hc : X.calm = true) (hg : Gl X "max") (hm : X.mg "max" = none) (ha : DE X C a ta wa) (hb : DE X C b tb wb) (hs : starEach [a, b] X.env = (false, eval a X.env) :: starEach [b] X.env := by rfl) (hs2 : starEach [b] X.env = (false, eval b X.env) :: starEach [] X.env := by rfl) (hpl : (backTo pos (starEach [b] X.env)).any (·.1) = false := by rfl) :
    DE X C (.Call (.Name "max" p) [a, b] [] pos) (tCB (fun xs H Q => ∃ i j, xs = [.int i, .int j] ∧ Q (.int (if j > i then j else i)) H) (tCons ta (tCons tb tNil))) (w2a (gI0 fun i j => .int (if j > i then j else i)) wa wb) :=
  ⟨pe_callB (call_max2 hc) hg hm (by decide +kernel) (pa_cons ha.pe (pa_cons hb.pe pa_nil hs2) hs) (by decide) (by decide) hs hpl, ie_2a ha.ie hb.ie⟩
theorem de_min2 (hc : X.calm = true) (hg : Gl X "min") (hm : X.mg "min" = none) (ha : DE X C a ta wa) (hb : DE X C b tb wb) (hs : starEach [a, b] X.env = (false, eval a X.env) :: starEach [b] X.env := by rfl) (hs2 : starEach [b] X.env = (false, eval b X.env) :: starEach [] X.env := by rfl) (hpl : (backTo pos (starEach [b] X.env)).any (·.1) = false := by rfl) :
    DE X C (.Call (.Name "min" p) [a, b] [] pos) (tCB (fun xs H Q => ∃ i j, xs = [.int i, .int j] ∧ Q (.int (if j < i then j else i)) H) (tCons ta (tCons tb tNil))) (w2a (gI0 fun i j => .int (if j < i then j else i)) wa wb) :=
  ⟨pe_callB (call_min2 hc) hg hm (by decide +kernel) (pa_cons ha.pe (pa_cons hb.pe pa_nil hs2) hs) (by decide) (by decide) hs hpl, ie_2a ha.ie hb.ie⟩
/-- sorted(s) of ints -/
def sortI (ns : List Int) : List Int := ns.mergeSort fun a b => decide (a ≤ b)
theorem perm_sorted_eq : ∀ {a b : List Int}, a.Perm b → a.Pairwise (· ≤ ·) → b.Pairwise (· ≤ ·) → a = b := by
  intro a b h ha hb
  exact h.eq_of_pairwise (le := (· ≤ ·)) (fun x y _ _ h1 h2 => Int.le_antisymm h1 h2) ha hb
theorem sortI_eq {ks ns : List Int} (h : ks.Perm ns) (hk : ks.Pairwise (· ≤ ·)) : ks = sortI ns := by
  refine perm_sorted_eq (h.trans (List.mergeSort_perm ns _).symm) hk ?_
  have := List.pairwise_mergeSort (le := fun a b : Int => decide (a ≤ b)) (fun a b c h1 h2 => by simp at *; omega) (fun a b => by simp; omega) ns
  exact this.imp fun h => by simpa using h
def gSorted : PyData → Dt → (List PyData → Dt → Prop) → Prop := fun d s Q => ∃ ns : List Int, seqd d = true ∧ its d = ns.map .int ∧ Q ((sortI ns).map .int) s
theorem r1_sorted : R1O C (rSrtB C.K) gSorted := ⟨fun G σ H s x d Q Q' r pk q k => by
  obtain ⟨ns, hs, he, q⟩ := q
  obtain ⟨p, xs, rfl, h1, h2⟩ := pk.seq r.fin.gh hs
  rw [he] at h2
  rw [ints_dpa h2] at h1
  refine ⟨isT d, p, ns, rfl, h1, fun ks l hp hk hl => ?_⟩
  rw [sortI_eq hp hk]
  exact k _ _ l q (dpa_ints _) hl⟩
theorem do_sorted (hK : X.K = C.K) (hg : Gl X "sorted") (hm : X.mg "sorted" = none) (ha : DP X C a ta wa) (hs : starEach [a] X.env = (false, eval a X.env) :: starEach [] X.env := by rfl) :
    DO X C (.Call (.Name "sorted" p) [a] [] pos) (tCB (rSrtB C.K) (tCons ta tNil)) (w1O gSorted wa) := do_b1 (hK ▸ cr_srtB) r1_sorted hg hm (by decide +kernel) ha (by decide) (by decide) hs
/-- min(t) of a tuple of ints -/
def minI : Int → List Int → Int
  | x, [] => x
  | x, y :: ys => minI (if y < x then y else x) ys
def rMinT (K : PySem.W.Frag) : List V → Hp → VK → Prop := fun vs H Q => ∃ (a : Addr) (ns : List Int), vs = [V.ref a] ∧ SqT K H a (ns.map V.int) ∧ 0 < ns.length ∧ ∀ m, m ∈ ns → (∀ y, y ∈ ns → m ≤ y) → Q (.int m) H
end
end Dw

namespace Dw
open PySem PySem.Spec PyProof.Rows L2 OgR Evl
/-! ### isinstance -/
theorem tyx_L {K : PySem.W.Frag} {H : Hp} {a : Addr} {xs : List V} (h : SqL K H a xs) : TyX K H (.ref a) (.type "list") := by
  rcases h with (h | ⟨o, h⟩) | ⟨o, _, _, hk, hc, _⟩
  · exact .base (.lst h)
  · exact .base (.frz h)
  · exact .kList hk hc
theorem tyx_T {K : PySem.W.Frag} {H : Hp} {a : Addr} {xs : List V} (h : SqT K H a xs) : TyX K H (.ref a) (.type "tuple") := by
  rcases h with (h | ⟨o, h⟩) | ⟨o, _, _, hk, hc, _⟩
  · exact .base (.tup h)
  · exact .fTuple h
  · exact .kTuple hk hc
def tyN : PyData → String
  | .none => "NoneType"
  | .bool _ => "bool"
  | .int _ => "int"
  | .str _ => "str"
  | .list _ => "list"
  | .tuple _ => "tuple"
  | .dict _ => "dict"
theorem tyx_D {K : PySem.W.Frag} {H : Hp} {v : V} {d : PyData} (h : Dp K H v d) : TyX K H v (.type (tyN d)) := by
  cases h with
  | non => exact .base .non
  | bl b => exact .base (.bl b)
  | int i => exact .base (.int i)
  | str x => exact .base (.str x)
  | lst h _ => exact tyx_L h
  | tup h _ => exact tyx_T h
/-- whether data is of a built-in class -/
inductive Ty where
  | int | bool | str | list | tuple
def Ty.nm : Ty → String
  | .int => "int"
  | .bool => "bool"
  | .str => "str"
  | .list => "list"
  | .tuple => "tuple"
def isA : Ty → PyData → Bool
  | .int, .int _ => true
  | .int, .bool _ => true
  | .bool, .bool _ => true
  | .str, .str _ => true
  | .list, .list _ => true
  | .tuple, .tuple _ => true
  | _, _ => false
theorem kt (T : Ty) (d : PyData) : kitB (tyN d) T.nm = some (isA T d) := by
  cases T with
  | int =>
    cases d with
    | none => exact (show kitB "NoneType" "int" = some false by decide +kernel)
    | bool _ => exact (show kitB "bool" "int" = some true by decide +kernel)
    | int _ => exact (show kitB "int" "int" = some true by decide +kernel)
    | str _ => exact (show kitB "str" "int" = some false by decide +kernel)
    | list _ => exact (show kitB "list" "int" = some false by decide +kernel)
    | tuple _ => exact (show kitB "tuple" "int" = some false by decide +kernel)
    | dict _ => exact (show kitB "dict" "int" = some false by decide +kernel)
  | bool =>
    cases d with
    | none => exact (show kitB "NoneType" "bool" = some false by decide +kernel)
    | bool _ => exact (show kitB "bool" "bool" = some true by decide +kernel)
    | int _ => exact (show kitB "int" "bool" = some false by decide +kernel)
    | str _ => exact (show kitB "str" "bool" = some false by decide +kernel)
    | list _ => exact (show kitB "list" "bool" = some false by decide +kernel)
    | tuple _ => exact (show kitB "tuple" "bool" = some false by decide +kernel)
    | dict _ => exact (show kitB "dict" "bool" = some false by decide +kernel)
  | str =>
    cases d with
    | none => exact (show kitB "NoneType" "str" = some false by decide +kernel)
    | bool _ => exact (show kitB "bool" "str" = some false by decide +kernel)
    | int _ => exact (show kitB "int" "str" = some false by decide +kernel)
    | str _ => exact (show kitB "str" "str" = some true by decide +kernel)
    | list _ => exact (show kitB "list" "str" = some false by decide +kernel)
    | tuple _ => exact (show kitB "tuple" "str" = some false by decide +kernel)
    | dict _ => exact (show kitB "dict" "str" = some false by decide +kernel)
  | list =>
    cases d with
    | none => exact (show kitB "NoneType" "list" = some false by decide +kernel)
    | bool _ => exact (show kitB "bool" "list" = some false by decide +kernel)
    | int _ => exact (show kitB "int" "list" = some false by decide +kernel)
    | str _ => exact (show kitB "str" "list" = some false by decide +kernel)
    | list _ => exact (show kitB "list" "list" = some true by decide +kernel)
    | tuple _ => exact (show kitB "tuple" "list" = some false by decide +kernel)
    | dict _ => exact (show kitB "dict" "list" = some false by decide +kernel)
  | tuple =>
    cases d with
    | none => exact (show kitB "NoneType" "tuple" = some false by decide +kernel)
    | bool _ => exact (show kitB "bool" "tuple" = some false by decide +kernel)
    | int _ => exact (show kitB "int" "tuple" = some false by decide +kernel)
    | str _ => exact (show kitB "str" "tuple" = some false by decide +kernel)
    | list _ => exact (show kitB "list" "tuple" = some false by decide +kernel)
    | tuple _ => exact (show kitB "tuple" "tuple" = some true by decide +kernel)
    | dict _ => exact (show kitB "dict" "tuple" = some false by decide +kernel)
theorem kit2 {K : PySem.W.Frag} {x a b : String} {b1 b2 : Bool} (h1 : kitB x a = some b1) (h2 : kitB x b = some b2) : PySem.W.kitAny K (.type x) [.type a, .type b] = some (b1 || b2) := by
  cases b1 with
  | true => exact kitAny_cons (kit_ty h1) (fun e => nomatch e) (fun _ => rfl)
  | false =>
    cases b2 with
    | true => exact kitAny_cons (kit_ty h1) (fun _ => kitAny_cons (kit_ty h2) (fun e => nomatch e) (fun _ => rfl)) (fun e => nomatch e)
    | false => exact kitAny_cons (kit_ty h1) (fun _ => kitAny_cons (kit_ty h2) (fun _ => kitAny_nil) (fun e => nomatch e)) (fun e => nomatch e)
section
variable {X : Cx} {C : Ct} {a b e : Expr} {es : List Expr} {pos p : Pos} {t ta tb tc : TE} {w wa wb wc : WE} {tA : TA} {wA : WA} {x : Str}
def wIsi (T : Ty) (wa : WE) : WE := fun s Q => wa s fun d s1 => Q (.bool (isA T d)) s1
theorem ie_isi {T : Ty} (ha : IP C ta wa) : IE C (tCB (rIsi C.K) (tCons ta (tCons (tC (.ty T.nm)) tNil))) (wIsi T wa) := fun G σ H s Q Q' r q k =>
  ha G σ H s _ _ r q fun v d s1 G1 H1 q1 r1 eg eh pk => ⟨v, _, _, _, isA T d, rfl, .ty _, tyx_D (pk.dp r1.fin.gh), kit_ty (kt T d), k _ _ s1 G1 H1 q1 r1 eg eh (.bl _)⟩
theorem de_isi (T : Ty) {y : Str} {p2 : Pos} (hK : X.K = C.K) (hg : Gl X "isinstance") (hm : X.mg "isinstance" = none) (hg2 : Gl X y) (hm2 : X.mg y = none) (hb2 : bootBuiltins y = some (.type T.nm)) (ha : DP X C a ta wa)
    (hs : starEach [a, .Name y p2] X.env = (false, eval a X.env) :: starEach [.Name y p2] X.env := by rfl) (hpl : (backTo pos (starEach [.Name y p2] X.env)).any (·.1) = false := by rfl) (hny : y ≠ "__name__" := by decide) (hdy : (y == ("__debug__" : Str)) = false := by decide)
    (hs2 : starEach [.Name y p2] X.env = (false, eval (.Name y p2) X.env) :: starEach [] X.env := by rfl) :
    DE X C (.Call (.Name "isinstance" p) [a, .Name y p2] [] pos) (tCB (rIsi C.K) (tCons ta (tCons (tC (.ty T.nm)) tNil))) (wIsi T wa) :=
  ⟨pe_callB (hK ▸ call_isi) hg hm (by decide +kernel) (pa_cons ha.pe (pa_cons (pe_bltn (v := .ty T.nm) hg2 hm2 hb2 rfl hny hdy) pa_nil hs2) hs) (by decide) (by decide) hs hpl, ie_isi ha.ip⟩
def wIsi2 (T U : Ty) (wa : WE) : WE := fun s Q => wa s fun d s1 => Q (.bool (isA T d || isA U d)) s1
theorem de_isi2 (T U : Ty) {y z : Str} {p2 p3 p4 : Pos} {kk} (hK : X.K = C.K) (hg : Gl X "isinstance") (hm : X.mg "isinstance" = none) (hg2 : Gl X y) (hm2 : X.mg y = none) (hb2 : bootBuiltins y = some (.type T.nm))
    (hg3 : Gl X z) (hm3 : X.mg z = none) (hb3 : bootBuiltins z = some (.type U.nm)) (ha : DP X C a ta wa)
    (hs : starEach [a, .Tuple [.Name y p2, .Name z p3] kk p4] X.env = (false, eval a X.env) :: starEach [.Tuple [.Name y p2, .Name z p3] kk p4] X.env := by rfl) (hpl : (backTo pos (starEach [.Tuple [.Name y p2, .Name z p3] kk p4] X.env)).any (·.1) = false := by rfl)
    (hny : y ≠ "__name__" := by decide) (hdy : (y == ("__debug__" : Str)) = false := by decide) (hnz : z ≠ "__name__" := by decide) (hdz : (z == ("__debug__" : Str)) = false := by decide)
    (hs2 : starEach [.Tuple [.Name y p2, .Name z p3] kk p4] X.env = (false, eval (.Tuple [.Name y p2, .Name z p3] kk p4) X.env) :: starEach [] X.env := by rfl)
    (hs3 : starEach [.Name y p2, .Name z p3] X.env = (false, eval (.Name y p2) X.env) :: starEach [.Name z p3] X.env := by rfl) (hs4 : starEach [.Name z p3] X.env = (false, eval (.Name z p3) X.env) :: starEach [] X.env := by rfl) :
    DE X C (.Call (.Name "isinstance" p) [a, .Tuple [.Name y p2, .Name z p3] kk p4] [] pos) (tCB (rIsiT C.K) (tCons ta (tCons (tTup (tCons (tC (.ty T.nm)) (tCons (tC (.ty U.nm)) tNil))) tNil))) (wIsi2 T U wa) :=
  ⟨pe_callB (hK ▸ call_isiT) hg hm (by decide +kernel) (pa_cons ha.pe (pa_cons (pe_tup (pa_cons (pe_bltn (v := .ty T.nm) hg2 hm2 hb2 rfl hny hdy) (pa_cons (pe_bltn (v := .ty U.nm) hg3 hm3 hb3 rfl hnz hdz) pa_nil hs4) hs3)) pa_nil hs2) hs) (by decide) (by decide) hs hpl,
   fun G σ H s Q Q' r q k => ha.ip G σ H s _ _ r q fun v d s1 G1 H1 q1 r1 eg eh pk => ⟨(show 2 ≤ sizeLine by decide), fun tp htp => by
    have e : Ex H1 (upd H1 tp (.tup [.ty T.nm, .ty U.nm])) := Ex.new htp
    exact ⟨v, tp, _, _, _, isA T d || isA U d, rfl, upd_same, .cons (.ty _) (.cons (.ty _) .nil), tyx_D (dp_ex e (pk.dp r1.fin.gh)), kit2 (kt T d) (kt U d), k _ _ s1 G1 _ q1 (r1.aside e) eg (eh.trans (.side e)) (.bl _)⟩⟩⟩
/-! ### slices -/
def cutD (xs : List PyData) (lo hi : Option Int) : List PyData := (xs.drop (HT.sIx xs.length 0 lo)).take (HT.sIx xs.length xs.length hi - HT.sIx xs.length 0 lo)
theorem dpa_cut {K : PySem.W.Frag} {H : Hp} {xs : List V} {ds : List PyData} (h : DpAll K H xs ds) (lo hi : Option Int) : DpAll K H (cutV xs lo hi) (cutD ds lo hi) := by
  unfold cutV cutD
  rw [dpa_len h]
  exact dpa_take _ (dpa_drop _ h)
abbrev WO := Dt → (Option Int → Dt → Prop) → Prop
def IOp (C : Ct) (t : TO) (w : WO) : Prop := ∀ G σ H s Q Q', Rel C G σ H s → w s Q →
  (∀ o s' G' H', Q o s' → Rel C G' σ H' s' → Ex G G' → Gs C σ G H s G' H' s' → Q' o H') → t σ H Q'
structure DOp (X : Cx) (C : Ct) (e : Option Expr) (t : TO) (w : WO) : Prop where
  po : PO X e t
  io : IOp C t w
theorem do_none : DOp X C none tNoPart (fun s Q => Q none s) := ⟨po_none, fun G σ H s Q Q' r q k => k none s G H q r (Ex.refl G) Gs.refl⟩
theorem do_some (h : DE X C e t w) : DOp X C (some e) (tPart t) (fun s Q => w s fun d s1 => ∃ i, d = .int i ∧ Q (some i) s1) := ⟨po_some h.pe, fun G σ H s Q Q' r q k => h.ie G σ H s _ _ r q fun v d s1 G1 H1 q1 r1 eg eh p => by
  obtain ⟨i, rfl, q1⟩ := q1
  exact ⟨i, dp_int p, k (some i) s1 G1 H1 q1 r1 eg eh⟩⟩
variable {lo hi : Option Expr} {tl th : TO} {wl wh : WO} {p2 : Pos}
def wSlT (wa : WE) (wl wh : WO) : WE := fun s Q => wa s fun d s1 => wl s1 fun l s2 => wh s2 fun h s3 => ∃ ds, d = .tuple ds ∧ Q (.tuple (cutD ds l h)) s3
/-- t[lo:hi] -/
theorem de_slT (hK : X.K = C.K) (ha : DP X C a ta wa) (hl : DOp X C lo tl wl) (hh : DOp X C hi th wh) : DE X C (.Subscript a (.Slice lo hi none p2) pos) (tSl (rSlA C.K) ta tl th) (wSlT wa wl wh) := ⟨pe_slice (hK ▸ sl_tupA) ha.pe hl.po hh.po, fun G σ H s Q Q' r q k =>
  ha.ip G σ H s _ _ r q fun v d s1 G1 H1 q1 r1 eg1 eh1 pk => hl.io G1 σ H1 s1 _ _ r1 q1 fun l s2 G2 H2 q2 r2 eg2 eh2 => hh.io G2 σ H2 s2 _ _ r2 q2 fun h s3 G3 H3 q3 r3 eg3 eh3 => by
    obtain ⟨ds, rfl, q3⟩ := q3
    obtain ⟨p, xs, rfl, h1, h2⟩ := pk_tup pk
    have h1' := Evl.ex_t ((eg2.trans eg3).trans r3.fin.gh) h1
    have h2' := dpa_ex (eg2.trans eg3) h2
    refine ⟨p, xs, rfl, h1', fun hw => ?_, fun _ l hl => ?_⟩
    · have e : cutD ds l h = ds := by
        unfold cutD
        rw [dpa_len h2'] at hw
        rw [hw.1, hw.2, List.drop_zero, Nat.sub_zero, List.take_length]
      rw [e] at q3
      exact k _ _ s3 G3 H3 q3 r3 ((eg1.trans eg2).trans eg3) ((eh1.trans eh2).trans eh3) (.tup (Evl.ex_t (eg2.trans eg3) h1) h2')
    · obtain ⟨r4, eg, eh⟩ := r3.new (o := .tup (cutV xs _ _)) hl
      exact k _ _ s3 _ _ q3 r4 (((eg1.trans eg2).trans eg3).trans eg) (((eh1.trans eh2).trans eh3).trans eh) (.tup (.inl (.inl upd_same)) (dpa_ex eg (dpa_cut h2' _ _)))⟩
/-- xs[lo:hi], a new list -/
def wSlL (wa : WE) (wl wh : WO) : WA := fun s Q => wa s fun d s1 => wl s1 fun l s2 => wh s2 fun h s3 => ∃ ds, d = .list ds ∧ Q (cutD ds l h) s3
theorem do_slL (hK : X.K = C.K) (ha : DP X C a ta wa) (hl : DOp X C lo tl wl) (hh : DOp X C hi th wh) : DO X C (.Subscript a (.Slice lo hi none p2) pos) (tSl (rSlL C.K) ta tl th) (wSlL wa wl wh) := ⟨pe_slice (hK ▸ sl_list) ha.pe hl.po hh.po, fun G σ H s Q Q' r q k =>
  ha.ip G σ H s _ _ r q fun v d s1 G1 H1 q1 r1 eg1 eh1 pk => hl.io G1 σ H1 s1 _ _ r1 q1 fun l s2 G2 H2 q2 r2 eg2 eh2 => hh.io G2 σ H2 s2 _ _ r2 q2 fun h s3 G3 H3 q3 r3 eg3 eh3 => by
    obtain ⟨ds, rfl, q3⟩ := q3
    obtain ⟨p, xs, rfl, h1, h2⟩ := pk_lst ((pk.mono eg2 eh2.gr).mono eg3 eh3.gr) r3.fin.gh
    exact ⟨p, xs, rfl, h1, fun l hl => own_new r q3 r3 ((eg1.trans eg2).trans eg3) ((eh1.trans eh2).trans eh3) (dpa_cut h2 _ _) hl k⟩⟩
/-- s[lo:hi], a text -/
def wSlS (wa : WE) (wl wh : WO) : WE := fun s Q => wa s fun d s1 => wl s1 fun l s2 => wh s2 fun h s3 => ∃ z, d = .str z ∧ z.length ≤ 100000 ∧ Q (.str (cutS z l h)) s3
theorem de_slS (ha : DP X C a ta wa) (hl : DOp X C lo tl wl) (hh : DOp X C hi th wh) : DE X C (.Subscript a (.Slice lo hi none p2) pos) (tSl rSlS ta tl th) (wSlS wa wl wh) := ⟨pe_slice sl_str ha.pe hl.po hh.po, fun G σ H s Q Q' r q k =>
  ha.ip G σ H s _ _ r q fun v d s1 G1 H1 q1 r1 eg1 eh1 pk => hl.io G1 σ H1 s1 _ _ r1 q1 fun l s2 G2 H2 q2 r2 eg2 eh2 => hh.io G2 σ H2 s2 _ _ r2 q2 fun h s3 G3 H3 q3 r3 eg3 eh3 => by
    obtain ⟨z, rfl, hz, q3⟩ := q3
    exact ⟨z, pk_str pk, sz_of hz, k _ _ s3 G3 H3 q3 r3 ((eg1.trans eg2).trans eg3) ((eh1.trans eh2).trans eh3) (.str _)⟩⟩
/-- t[::-1], a tuple -/
def wRevT (wa : WE) : WE := fun s Q => wa s fun d s1 => ∃ ds, d = .tuple ds ∧ Q (.tuple ds.reverse) s1
theorem de_revT {k : Nat} {p1 p3 : Pos} (hK : X.K = C.K) (ha : DP X C a ta wa) : DE X C (.Subscript a (.Slice none none (some (.UnaryOp .USub (.Constant (.int 1) k p1) p2)) p3) pos) (tRevT C.K ta) (wRevT wa) := ⟨hK ▸ pe_revT ha.pe, fun G σ H s Q Q' r q k =>
  ha.ip G σ H s _ _ r q fun v d s1 G1 H1 q1 r1 eg1 eh1 pk => by
    obtain ⟨ds, rfl, q1⟩ := q1
    obtain ⟨p, xs, rfl, h1, h2⟩ := pk_tup pk
    refine ⟨p, xs, rfl, Evl.ex_t r1.fin.gh h1, fun l hl => ?_⟩
    obtain ⟨r4, eg, eh⟩ := r1.new (o := .tup xs.reverse) hl
    exact k _ _ s1 _ _ q1 r4 (eg1.trans eg) (eh1.trans eh) (.tup (.inl (.inl upd_same)) (dpa_ex eg (dpa_rev h2)))⟩
/-- -n -/
def wNeg (wa : WE) : WE := fun s Q => wa s fun d s1 => ∃ i, d = .int i ∧ Q (.int (-i)) s1
theorem de_neg (ha : DE X C a ta wa) : DE X C (.UnaryOp .USub a pos) (tUn (rU fun i => .int (-i)) ta) (wNeg wa) := ⟨pe_un un_neg ha.pe, fun G σ H s Q Q' r q k =>
  ha.ie G σ H s _ _ r q fun v d s1 G1 H1 q1 r1 eg1 eh1 p => by
    obtain ⟨i, rfl, q1⟩ := q1
    exact ⟨i, dp_int p, k _ _ s1 G1 H1 q1 r1 eg1 eh1 (.int _)⟩⟩
/-! ### calls of defs -/
abbrev FP := List PyData → (PyData → Prop) → Prop
abbrev FB := List PyData → Int → (PyData → Int → Prop) → Prop
/-- a def that only reads and makes data -/
def spP (K : PySem.W.Frag) (F : FP) : Sp := fun vs H Q _ => ∃ G ds R, Ex G H ∧ DpAll K G vs ds ∧ F ds R ∧
  ∀ v d G' H', R d → Ex G G' → Ex H H' → Ex G' H' → Nw G G' H → Dp K G' v d → Q v H'
/-- a def that draws: the box is its first argument -/
def spB (K : PySem.W.Frag) (F : FB) : Sp := fun vs H Q _ => ∃ l vs' G ds c R, vs = .ref l :: vs' ∧ BoxAt H l c ∧ G l = none ∧ Ex G H ∧ DpAll K G vs' ds ∧ F ds c R ∧
  ∀ v d c' G' H', R d c' → Ex G G' → (∀ b o, b ≠ l → H b = some o → H' b = some o) → BoxAt H' l c' → Ex G' H' → Nw G G' H → Dp K G' v d → Q v H'
def wCall (F : FP) (wA : WA) : WE := fun s Q => wA s fun ds s1 => F ds fun d => Q d s1
theorem ie_call {F : FP} {E : XK} (h : IA C tA wA) : IE C (tCall (spP C.K F) [] E tA) (wCall F wA) := fun G σ H s Q Q' r q k =>
  h G σ H s _ _ r q fun vs ds s1 G1 H1 q1 r1 eg eh p => ⟨G1, ds, _, r1.fin.gh, by rw [List.append_nil]; exact p, q1, fun v d G2 H2 q2 eg2 eh2 gh nw pd =>
    k v d s1 G2 H2 q2 (r1.grow eg2 eh2 gh nw) (eg.trans eg2) (eh.trans (.grow eh2 nw)) pd⟩
theorem de_call {F : FP} {k : Nat} {f : Addr} {fd : FuncData} {ps : List Str} (G : FnOk X.prog X.w X.K X.mg X.base CX0 k f fd ps (spP C.K F)) (hr : Room k X.A) (hg : Gl X x) (hm : X.mg x = some (.ref f)) (hk : PySem.W.keepIn X.K (.ref f) = true) (hb : Binds X.K fd ps [])
    (ha : DA X C (e :: es) tA wA) (hdb : (x == ("__debug__" : Str)) = false := by decide) (he : starEach (e :: es) X.env = (false, eval e X.env) :: starEach es X.env := by rfl) (hpl : (backTo pos (starEach es X.env)).any (·.1) = false := by rfl) :
    DE X C (.Call (.Name x p) (e :: es) [] pos) (tCall (spP C.K F) [] E0 tA) (wCall F wA) := ⟨pe_call G hr hg hm hk hb .nil pass0 ha.pa hdb he hpl, ie_call ha.ia⟩
/-- .. the box in slot i -/
def wCallB (i : Nat) (F : FB) (wA : WA) : WE := fun s Q => s.env[i]? = some (some .box) ∧ wA s fun ds s1 => F ds s1.c fun d c' => Q d ⟨s1.env, c'⟩
theorem ie_callB {F : FB} {E : XK} {i : Nat} (h : IA C tA wA) : IE C (tCall (spB C.K F) [] E (tCons (tVar i) tA)) (wCallB i F wA) := fun G σ H s Q Q' r q k => by
  obtain ⟨e, q⟩ := q
  obtain ⟨v, hv, l, hl, rfl⟩ := r.sl i _ e
  refine ⟨_, hv, h G σ H s _ _ r q fun vs ds s1 G1 H1 q1 r1 eg eh p => ⟨l, vs, G1, ds, s1.c, _, by rw [List.append_nil], (r1.fin.bx l hl).1, (r1.fin.bx l hl).2.1, r1.fin.gh, p, q1, fun v d c' G2 H2 q2 eg2 eh2 hb gh nw pd => ?_⟩⟩
  have gr : Gr C H1 H2 := fun b o hn hb => eh2 b o (fun z => hn (by rw [z]; exact hl)) hb
  refine k v d _ G2 H2 q2 (r1.step eg2 gr gh nw fun l' hl' => by rw [hl] at hl'; cases hl'; exact hb) (eg.trans eg2) (eh.trans ⟨gr, fun b h z => ?_, fun b h1 h2 _ => ?_, fun i x e m => ⟨x, e, m⟩⟩) pd
  · by_cases hb2 : b = l
    · exact hb.ne (hb2 ▸ z)
    · cases q : H1 b with
      | none => exact h q
      | some o => rw [eh2 b o hb2 q] at z; cases z
  · cases q : G2 b with
    | none => rfl
    | some o =>
      rcases nw b (by rw [q]; exact Option.some_ne_none _) with z | z
      · exact absurd h1 z
      · exact absurd z h2
theorem de_callB (i : Nat) {F : FB} {k : Nat} {f : Addr} {fd : FuncData} {ps : List Str} {y : Str} {p2 : Pos} (G : FnOk X.prog X.w X.K X.mg X.base CX0 k f fd ps (spB C.K F)) (hr : Room k X.A) (hg : Gl X x) (hm : X.mg x = some (.ref f)) (hk : PySem.W.keepIn X.K (.ref f) = true) (hb : Binds X.K fd ps [])
    (ha : DA X C es tA wA) (hv : PE X (.Name y p2) (tVar i) := by exact pv _) (hdb : (x == ("__debug__" : Str)) = false := by decide) (he : starEach (.Name y p2 :: es) X.env = (false, eval (.Name y p2) X.env) :: starEach es X.env := by rfl) (hpl : (backTo pos (starEach es X.env)).any (·.1) = false := by rfl) :
    DE X C (.Call (.Name x p) (.Name y p2 :: es) [] pos) (tCall (spB C.K F) [] E0 (tCons (tVar i) tA)) (wCallB i F wA) := ⟨pe_call G hr hg hm hk hb .nil pass0 (pa_cons hv ha.pa he) hdb he hpl, ie_callB ha.ia⟩
end
end Dw

namespace Dw
open PySem PySem.Spec PyProof.Rows L2 OgR Evl
/-! ### slots -/
def Dt.set (s : Dt) (i : Nat) (x : DV) : Dt := ⟨s.env.set i (some x), s.c⟩
section
variable {C : Ct} {G G' H H' : Hp} {σ : L2.St} {s : Dt} {c c' : Int}
theorem get_set {α : Type} {l : List (Option α)} {i j : Nat} {x y : α} (h : (l.set i (some x))[j]? = some (some y)) : (j = i ∧ y = x ∧ i < l.length) ∨ (j ≠ i ∧ l[j]? = some (some y)) := by
  by_cases z : j = i
  · subst z
    by_cases hl : j < l.length
    · rw [List.getElem?_set_self hl] at h
      cases h
      exact .inl ⟨rfl, rfl, hl⟩
    · rw [List.getElem?_eq_none (by rw [List.length_set]; omega)] at h
      cases h
  · rw [List.getElem?_set_ne (Ne.symm z)] at h
    exact .inr ⟨z, h⟩
theorem Rel.put (r : Rel C G σ H s) {i : Nat} {v : V} {x : DV} (rv : RV C G H v x) (hd : x.mut = true → ∀ (j : Nat) y p, s.env[j]? = some (some y) → y.mut = true → v = .ref p → σ[j]? ≠ some (some (.ref p))) : Rel C G (σ.set i (some v)) H (s.set i x) := by
  refine ⟨r.fin, by show (s.env.set i _).length = _; rw [List.length_set, List.length_set]; exact r.len, fun j y e => ?_, fun j k y z p hne e1 e2 m1 m2 hs => ?_⟩
  · rcases get_set e with ⟨rfl, rfl, hl⟩ | ⟨z, e⟩
    · exact ⟨v, List.getElem?_set_self (by rw [← r.len]; exact hl), rv⟩
    · obtain ⟨v', hv, rv'⟩ := r.sl j y e
      exact ⟨v', by rw [List.getElem?_set_ne (Ne.symm z)]; exact hv, rv'⟩
  · rcases get_set e1 with ⟨w1, w2, hl⟩ | ⟨z1, f1⟩
    · rcases get_set e2 with ⟨w3, _, _⟩ | ⟨z2, f2⟩
      · exact absurd (w1.trans w3.symm) hne
      · subst w1
        subst w2
        rw [List.getElem?_set_self (by rw [← r.len]; exact hl)] at hs
        cases hs
        rw [List.getElem?_set_ne (Ne.symm z2)]
        exact hd m1 k z p f2 m2 rfl
    · rw [List.getElem?_set_ne (Ne.symm z1)] at hs
      rcases get_set e2 with ⟨w1, w2, hl⟩ | ⟨z2, f2⟩
      · subst w1
        subst w2
        rw [List.getElem?_set_self (by rw [← r.len]; exact hl)]
        intro q
        cases q
        exact hd m2 j y p f1 m1 rfl hs
      · rw [List.getElem?_set_ne (Ne.symm z2)]
        exact r.dis j k y z p hne f1 f2 m1 m2 hs
theorem Rel.putd (r : Rel C G σ H s) {i : Nat} {v : V} {d : PyData} (rv : Dp C.K G v d) : Rel C G (σ.set i (some v)) H (s.set i (.d d)) := r.put (x := .d d) rv fun m => nomatch m
/-- a list of the def's own changes -/
theorem Rel.mutl (r : Rel C G σ H s) {i : Nat} {p : Addr} {ds ds' : List PyData} {xs' : List V} (e : s.env[i]? = some (some (.own ds))) (hs : σ[i]? = some (some (.ref p))) (hd : DpAll C.K G xs' ds') : Rel C G σ (upd H p (.lst xs')) (s.set i (.own ds')) := by
  obtain ⟨v, hv, p', xs, hvp, h1, h2, h3, h4⟩ := r.sl i _ e
  rw [hs] at hv
  cases hv
  cases hvp
  have gp : ∀ b, G b ≠ none → b ≠ p := fun b hb z => hb (by rw [z]; exact h3)
  refine ⟨⟨fun b o hb => ?_, r.fin.g0, r.fin.nw, fun b o n hb => ?_, fun l hl => ?_⟩, by show (s.env.set i _).length = _; rw [List.length_set]; exact r.len, fun j y ej => ?_, fun j k y z q hne e1 e2 m1 m2 => ?_⟩
  · rw [upd_ne (gp b (by rw [hb]; exact Option.some_ne_none _))]
    exact r.fin.gh b o hb
  · rw [upd_ne (fun z => by rw [z, h2] at hb; cases hb)]
    exact r.fin.hh b o n hb
  · have hlp : l ≠ p := fun z => r.fin.nbx h2 (by rw [← z]; exact hl)
    refine ⟨(r.fin.bx l hl).1.keep fun o q => ?_, (r.fin.bx l hl).2⟩
    rw [upd_ne hlp]
    exact q
  · rcases get_set ej with ⟨rfl, rfl, hl⟩ | ⟨z, ej⟩
    · exact ⟨_, hs, p, xs', rfl, upd_same, h2, h3, hd⟩
    · obtain ⟨v', hv', rv⟩ := r.sl j y ej
      refine ⟨v', hv', ?_⟩
      cases y with
      | d x => exact rv
      | box => exact rv
      | own ds2 =>
        obtain ⟨p2, xs2, a1, a2, a3, a4, a5⟩ := rv
        exact ⟨p2, xs2, a1, by rw [upd_ne fun z' => r.dis i j _ _ p (Ne.symm z) e ej rfl rfl hs (by rw [hv', a1, z'])]; exact a2, a3, a4, a5⟩
      | dic ks =>
        obtain ⟨p2, xs2, a1, a2, a3, a4, a5⟩ := rv
        exact ⟨p2, xs2, a1, by rw [upd_ne fun z' => r.dis i j _ _ p (Ne.symm z) e ej rfl rfl hs (by rw [hv', a1, z'])]; exact a2, a3, a4, a5⟩
      | dit ks =>
        obtain ⟨p2, xs2, a1, a2, a3, a4, a5⟩ := rv
        exact ⟨p2, xs2, a1, by rw [upd_ne fun z' => r.dis i j _ _ p (Ne.symm z) e ej rfl rfl hs (by rw [hv', a1, z'])]; exact a2, a3, a4, a5⟩
      | dd ks =>
        obtain ⟨p2, xs2, a1, a2, a5⟩ := rv
        exact ⟨p2, xs2, a1, a2.upd h1 h2 (fun _ _ z => by cases z), a5⟩
  · have go : ∀ (j : Nat) y, (s.set i (.own ds')).env[j]? = some (some y) → y.mut = true → ∃ y', s.env[j]? = some (some y') ∧ y'.mut = true := fun j y ej m => by
      rcases get_set ej with ⟨rfl, rfl, hl⟩ | ⟨z, ej⟩
      · exact ⟨_, e, rfl⟩
      · exact ⟨y, ej, m⟩
    obtain ⟨y', f1, n1⟩ := go j y e1 m1
    obtain ⟨z', f2, n2⟩ := go k z e2 m2
    exact r.dis j k y' z' q hne f1 f2 n1 n2
end
/-! ### targets -/
abbrev WG := PyData → Dt → (Dt → Prop) → Prop
abbrev WGs := List PyData → Dt → (Dt → Prop) → Prop
def IG (C : Ct) (g : TG) (ks : List Nat) (w : WG) : Prop := ∀ G σ H s v d Q Q', Rel C G σ H s → Dp C.K G v d → w d s Q →
  (∀ σ' s', Q s' → Rel C G σ' H s' → σ'.length = σ.length → (∀ j : Nat, j ∉ ks → σ'[j]? = σ[j]?) → Q' σ' H) → g v σ H Q'
def IGs (C : Ct) (g : TGs) (ks : List Nat) (w : WGs) : Prop := ∀ G σ H s vs ds Q Q', Rel C G σ H s → DpAll C.K G vs ds → w ds s Q →
  (∀ σ' s', Q s' → Rel C G σ' H s' → σ'.length = σ.length → (∀ j : Nat, j ∉ ks → σ'[j]? = σ[j]?) → Q' σ' H) → g vs σ H Q'
structure DG (X : Cx) (C : Ct) (e : Expr) (g : TG) (ks : List Nat) (w : WG) : Prop where
  pg : PG X e g
  ig : IG C g ks w
structure DGs (X : Cx) (C : Ct) (es : List Expr) (g : TGs) (ks : List Nat) (w : WGs) : Prop where
  pg : PGs X es g
  ig : IGs C g ks w
section
variable {X : Cx} {C : Ct} {a b e tg : Expr} {es : List Expr} {pos p : Pos} {t ta tb tc : TE} {w wa wb wc : WE} {tA : TA} {wA : WA} {x : Str}
def wName (i : Nat) : WG := fun d s Q => Q (s.set i (.d d))
theorem ig_name (i : Nat) : IG C (gName i) [i] (wName i) := fun G σ H s v d Q Q' r p q k =>
  k _ _ q (r.putd p) (List.length_set ..) fun j hj => List.getElem?_set_ne (fun z => hj (by simp [z]))
theorem dg_name (i : Nat) (hN : X.N.Nodup) (hi : X.N[i]? = some x := by rfl) (hx : Loc X.env.scope x := by first | exact .inl rfl | exact .inr rfl) (hf : X.fn x = true ∨ X.env.scope.names.lookup x = some .local := by first | exact .inl rfl | exact .inr rfl | assumption) : DG X C (.Name x pos) (gName i) [i] (wName i) :=
  ⟨pg_name hN hi hx hf, ig_name i⟩
def wGNil : WGs := fun ds s Q => ds = [] ∧ Q s
def wGCons (w : WG) (u : WGs) : WGs := fun ds s Q => ∃ d r, ds = d :: r ∧ w d s fun s' => u r s' Q
theorem dgs_nil : DGs X C [] gNil [] wGNil := ⟨pgs_nil, fun G σ H s vs ds Q Q' r p q k => by
  obtain ⟨rfl, q⟩ := q
  cases p
  exact ⟨rfl, k σ s q r rfl fun _ _ => rfl⟩⟩
theorem dgs_cons {g : TG} {gs : TGs} {k1 k2 : List Nat} {w : WG} {u : WGs} (h1 : DG X C e g k1 w) (h2 : DGs X C es gs k2 u) (hs : PGs X (e :: es) (gCons g gs) := by exact pgs_cons (DG.pg (by assumption)) (DGs.pg (by assumption))) : DGs X C (e :: es) (gCons g gs) (k1 ++ k2) (wGCons w u) := ⟨hs, fun G σ H s vs ds Q Q' r p q k => by
  obtain ⟨d, ds', rfl, q⟩ := q
  cases p with
  | @cons v vs' _ _ p1 p2 =>
    refine ⟨v, vs', rfl, h1.ig G σ H s v d _ _ r p1 q fun σ1 s1 q1 r1 l1 f1 => h2.ig G σ1 H s1 vs' ds' _ _ r1 p2 q1 fun σ2 s2 q2 r2 l2 f2 => k σ2 s2 q2 r2 (l2.trans l1) fun j hj => ?_⟩
    rw [List.mem_append, not_or] at hj
    rw [f2 j hj.2, f1 j hj.1]⟩
def wGTup (n : Nat) (u : WGs) : WG := fun d s Q => seqd d = true ∧ (its d).length = n ∧ u (its d) s Q
theorem ig_tup {n : Nat} {g : TGs} {ks : List Nat} {u : WGs} (h : IGs C g ks u) : IG C (gSeqB C.K n g) ks (wGTup n u) := fun G σ H s v d Q Q' r p q k => by
  obtain ⟨hs, hl, q⟩ := q
  obtain ⟨a, xs, rfl, h1, h2⟩ := (show Pk C G H v d from .inl p).seq r.fin.gh hs
  exact ⟨isT d, a, xs, rfl, h1, by rw [dpa_len h2]; exact hl, h G σ H s xs (its d) Q Q' r h2 q k⟩
theorem dg_tup {n : Nat} {g : TGs} {ks : List Nat} {u : WGs} {k : Nat} (hK : X.K = C.K) (hc : X.calm = true) (h : DGs X C es g ks u) (hn : (assignEach es X.env).length = n := by rfl) (hst : (assignEach es X.env).findIdx? (·.1) = none := by rfl) :
    DG X C (.Tuple es k pos) (gSeqB C.K n g) ks (wGTup n u) := ⟨hK ▸ pg_seqB hc h.pg hn hst, ig_tup h.ig⟩
/-! ### what is walked -/
def ItD (C : Ct) (G1 : Hp) (J : It) (ds : List PyData) : Prop := ∀ G2 H2, Ex G1 G2 → Ex G2 H2 → (∀ (i : Nat) d, ds[i]? = some d → J.go i H2 ∧ ∀ x H3, J.yld i H2 x H3 → ∃ G3, Ex G2 G3 ∧ Ex H2 H3 ∧ Ex G3 H3 ∧ Nw G2 G3 H2 ∧ Dp C.K G3 x d) ∧ J.stop ds.length H2
def II (C : Ct) (wi : TI) (w : WA) : Prop := ∀ G σ H s Q R, Rel C G σ H s → w s Q →
  (∀ J ds s' G' H', Q ds s' → Rel C G' σ H' s' → Ex G G' → Gs C σ G H s G' H' s' → ItD C G' J ds → R J H') → wi σ H R
structure DI (X : Cx) (C : Ct) (tg iter : Expr) (wi : TI) (w : WA) : Prop where
  pi : PI X tg iter wi
  ii : II C wi w
def wSeq (w : WE) : WA := fun s Q => w s fun d s1 => seqd d = true ∧ Q (its d) s1
theorem dp_seq {G H : Hp} {v : V} {d : PyData} (h : Dp C.K G v d) (hs : seqd d = true) : ∃ p xs, v = .ref p ∧ SqB C.K (isT d) G p xs ∧ DpAll C.K G xs (its d) := (show Pk C G G v d from .inl h).seq (Ex.refl G) hs
theorem itd_seq {G : Hp} {p : Addr} {b : Bool} {xs : List V} {ds : List PyData} (h1 : SqB C.K b G p xs) (h2 : DpAll C.K G xs ds) : ItD C G (ItsB C.K b p) ds := fun G2 H2 e1 e2 => by
  have h1' := SqB.ex (e1.trans e2) h1
  refine ⟨fun i d hd => ?_, xs, h1', by rw [dpa_len h2]; exact Nat.le_refl _⟩
  obtain ⟨v, hv, pv⟩ := dpa_back h2 hd
  refine ⟨⟨xs, v, h1', hv⟩, fun x H3 y => ?_⟩
  obtain ⟨rfl, hy⟩ := y
  have e := hy xs h1'
  rw [hv] at e
  cases e
  exact ⟨G2, Ex.refl _, Ex.refl _, e2, Nw.refl _ _, dp_ex e1 pv⟩
theorem di_seq (hK : X.K = C.K) (h : DE X C e t w) : DI X C tg e (iSeqB C.K t) (wSeq w) := ⟨hK ▸ pi_seqB h.pe, fun G σ H s Q R r q k => h.ie G σ H s _ _ r q fun v d s1 G1 H1 q1 r1 eg eh p => by
  obtain ⟨hs, q1⟩ := q1
  obtain ⟨a, xs, rfl, h1, h2⟩ := dp_seq (H := H1) p hs
  exact ⟨isT d, a, xs, rfl, SqB.ex r1.fin.gh h1, k _ _ s1 G1 H1 q1 r1 eg eh (itd_seq h1 h2)⟩⟩
def wRng1 (w : WE) : WA := fun s Q => w s fun d s1 => ∃ j : Int, d = .int j ∧ -(2 ^ 62) ≤ j ∧ j < 2 ^ 62 ∧ Q (iotaD 0 j) s1
theorem iota_get {a b : Int} {i : Nat} {d : PyData} (h : (iotaD a b)[i]? = some d) : i < (b - a).toNat ∧ d = .int (a + i) := by
  unfold iotaD at h
  rw [List.getElem?_map] at h
  cases q : (List.range (b - a).toNat)[i]? with
  | none => rw [q] at h; cases h
  | some m =>
    rw [q] at h
    have h1 := List.getElem?_eq_some_iff.mp q
    obtain ⟨h2, h3⟩ := h1
    rw [List.getElem_range] at h3
    rw [List.length_range] at h2
    subst h3
    exact ⟨h2, by simpa using h.symm⟩
theorem iota_len (a b : Int) : (iotaD a b).length = (b - a).toNat := by unfold iotaD; rw [List.length_map, List.length_range]
theorem itd_rng {G : Hp} {a b : Int} : ItD C G (Itr a (b - a).toNat) (iotaD a b) := fun G2 H2 e1 e2 => by
  refine ⟨fun i d hd => ?_, by rw [iota_len]; exact Nat.le_refl _⟩
  obtain ⟨h1, rfl⟩ := iota_get hd
  refine ⟨h1, fun x H3 y => ?_⟩
  obtain ⟨rfl, rfl⟩ := y
  exact ⟨G2, Ex.refl _, Ex.refl _, e2, Nw.refl _ _, .int _⟩
theorem di_rng1 (hg : Gl X "range") (hm : X.mg "range" = none) (h : DE X C a ta wa) (hs : starEach [a] X.env = [(false, eval a X.env)] := by rfl) (hs2 : starEach [a] X.env = (false, eval a X.env) :: starEach [] X.env := by rfl) :
    DI X C tg (.Call (.Name "range" p) [a] [] pos) (iRng1 (tCons ta tNil)) (wRng1 wa) := ⟨pi_range1 hg hm (pa_cons h.pe pa_nil hs2) hs, fun G σ H s Q R r q k => h.ie G σ H s _ _ r q fun v d s1 G1 H1 q1 r1 eg eh p => by
  obtain ⟨j, rfl, h1, h2, q1⟩ := q1
  refine ⟨j, by rw [dp_int p], h1, h2, ?_⟩
  have := itd_rng (C := C) (G := G1) (a := 0) (b := j)
  rw [Int.sub_zero] at this
  exact k _ _ s1 G1 H1 q1 r1 eg eh this⟩
/-- enumerate -/
def enumD (ds : List PyData) : List PyData := ds.mapIdx fun i d => .tuple [.int (i : Nat), d]
def wEnum (w : WE) : WA := fun s Q => w s fun d s1 => seqd d = true ∧ Q (enumD (its d)) s1
theorem itd_enum {G : Hp} {p : Addr} {b : Bool} {xs : List V} {ds : List PyData} (h1 : SqB C.K b G p xs) (h2 : DpAll C.K G xs ds) : ItD C G (IteB C.K b p) (enumD ds) := fun G2 H2 e1 e2 => by
  have h1' := SqB.ex (e1.trans e2) h1
  refine ⟨fun i d hd => ?_, xs, h1', by unfold enumD; rw [List.length_mapIdx]; exact dpa_len h2⟩
  unfold enumD at hd
  rw [List.getElem?_mapIdx] at hd
  cases q : ds[i]? with
  | none => rw [q] at hd; cases hd
  | some z =>
    rw [q] at hd
    cases hd
    obtain ⟨v, hv, pv⟩ := dpa_back h2 q
    refine ⟨⟨xs, v, h1', hv⟩, fun x H3 y => ?_⟩
    obtain ⟨T, v2, rfl, hT, rfl, hy⟩ := y
    have e := hy xs h1'
    rw [hv] at e
    cases e
    have g1 : G2 T = none := fresh_back e2 hT
    exact ⟨upd G2 T (.tup [.int (i : Nat), v]), Ex.new g1, Ex.new hT, Ex.both e2 hT, Nw.one hT, .tup (.inl (.inl upd_same)) (.cons (.int _) (.cons (dp_ex (e1.trans (Ex.new g1)) pv) .nil))⟩
theorem di_enum {elts : List Expr} {kk : Nat} {tpos : Pos} (hK : X.K = C.K) (hg : Gl X "enumerate") (hm : X.mg "enumerate" = none) (h : DE X C a ta wa) (hs : starEach [a] X.env = [(false, eval a X.env)] := by rfl) (hs2 : starEach [a] X.env = (false, eval a X.env) :: starEach [] X.env := by rfl) :
    DI X C (.Tuple elts kk tpos) (.Call (.Name "enumerate" p) [a] [] pos) (iEnumB C.K (tCons ta tNil)) (wEnum wa) := ⟨hK ▸ pi_enumB hg hm (pa_cons h.pe pa_nil hs2) hs, fun G σ H s Q R r q k => h.ie G σ H s _ _ r q fun v d s1 G1 H1 q1 r1 eg eh p => by
  obtain ⟨hs, q1⟩ := q1
  obtain ⟨a, xs, rfl, h1, h2⟩ := dp_seq (H := H1) p hs
  exact ⟨isT d, a, xs, rfl, SqB.ex r1.fin.gh h1, k _ _ s1 G1 H1 q1 r1 eg eh (itd_enum h1 h2)⟩⟩
/-- zip of two -/
def zipD (ds es : List PyData) : List PyData := List.zipWith (fun d e => .tuple [d, e]) ds es
def wZip (w u : WE) : WA := fun s Q => w s fun d s1 => u s1 fun e s2 => seqd d = true ∧ seqd e = true ∧ Q (zipD (its d) (its e)) s2
theorem itd_zip {G : Hp} {p p' : Addr} {b b' : Bool} {xs xs' : List V} {ds ds' : List PyData} (h1 : SqB C.K b G p xs) (h2 : DpAll C.K G xs ds) (h1' : SqB C.K b' G p' xs') (h2' : DpAll C.K G xs' ds') : ItD C G (ItzB C.K b b' p p') (zipD ds ds') := fun G2 H2 e1 e2 => by
  have k1 := SqB.ex (e1.trans e2) h1
  have k2 := SqB.ex (e1.trans e2) h1'
  have l1 := dpa_len h2
  have l2 := dpa_len h2'
  refine ⟨fun i d hd => ?_, xs, xs', k1, k2, ?_, ?_, ?_⟩
  · unfold zipD at hd
    rw [List.getElem?_zipWith] at hd
    cases q : ds[i]? with
    | none => rw [q] at hd; cases hd
    | some z =>
      cases q' : ds'[i]? with
      | none => rw [q, q'] at hd; cases hd
      | some z' =>
        rw [q, q'] at hd
        cases hd
        obtain ⟨v, hv, pv⟩ := dpa_back h2 q
        obtain ⟨v', hv', pv'⟩ := dpa_back h2' q'
        refine ⟨⟨xs, xs', v, v', k1, k2, hv, hv'⟩, fun x H3 y => ?_⟩
        obtain ⟨T, u, u', rfl, hT, rfl, hy, hy'⟩ := y
        have e := hy xs k1
        rw [hv] at e
        cases e
        have e := hy' xs' k2
        rw [hv'] at e
        cases e
        have g1 : G2 T = none := fresh_back e2 hT
        exact ⟨upd G2 T (.tup [v, v']), Ex.new g1, Ex.new hT, Ex.both e2 hT, Nw.one hT, .tup (.inl (.inl upd_same)) (.cons (dp_ex (e1.trans (Ex.new g1)) pv) (.cons (dp_ex (e1.trans (Ex.new g1)) pv') .nil))⟩
  all_goals unfold zipD; rw [List.length_zipWith]; omega
theorem di_zip {elts : List Expr} {kk : Nat} {tpos : Pos} (hK : X.K = C.K) (hg : Gl X "zip") (hm : X.mg "zip" = none) (h : DE X C a ta wa) (h' : DE X C b tb wb) (hpi : PI X (.Tuple elts kk tpos) (.Call (.Name "zip" p) [a, b] [] pos) (iZipB X.K (tCons ta (tCons tb tNil)))) :
    DI X C (.Tuple elts kk tpos) (.Call (.Name "zip" p) [a, b] [] pos) (iZipB C.K (tCons ta (tCons tb tNil))) (wZip wa wb) := ⟨hK ▸ hpi, fun G σ H s Q R r q k => h.ie G σ H s _ _ r q fun v d s1 G1 H1 q1 r1 eg eh p =>
  h'.ie G1 σ H1 s1 _ _ r1 q1 fun v' d' s2 G2 H2 q2 r2 eg2 eh2 p' => by
  obtain ⟨hs, hs', q2⟩ := q2
  obtain ⟨a, xs, rfl, h1, h2⟩ := dp_seq (H := H1) (dp_ex eg2 p) hs
  obtain ⟨a', xs', rfl, h1', h2'⟩ := dp_seq (H := H2) p' hs'
  exact ⟨isT d, isT d', a, a', xs, xs', rfl, SqB.ex r2.fin.gh h1, SqB.ex r2.fin.gh h1', k _ _ s2 G2 H2 q2 r2 (eg.trans eg2) (eh.trans eh2) (itd_zip h1 h2 h1' h2')⟩⟩
/-- a text, sign by sign -/
def signsD (z : Str) : List PyData := z.cps.toList.map fun c => .str ⟨#[c]⟩
def wSigns (w : WE) : WA := fun s Q => w s fun d s1 => ∃ z, d = .str z ∧ Q (signsD z) s1
end
/-! ### statements -/
structure DEnds where
  nx : Dt → Prop
  rt : PyData → Int → Prop
  bk : Dt → Prop := fun _ => False
  ct : Dt → Prop := fun _ => False
abbrev WS := DEnds → Dt → Prop
structure Outs (C : Ct) (G : Hp) (D : Ends) (DD : DEnds) : Prop where
  nx : ∀ σ' H' s' G', DD.nx s' → Rel C G' σ' H' s' → Ex G G' → D.nx σ' H'
  bk : ∀ σ' H' s' G', DD.bk s' → Rel C G' σ' H' s' → Ex G G' → D.bk σ' H'
  ct : ∀ σ' H' s' G', DD.ct s' → Rel C G' σ' H' s' → Ex G G' → D.ct σ' H'
  rt : ∀ v d c' G' H', DD.rt d c' → Fin C G' H' c' → Ex G G' → Dp C.K G' v d → D.rt v H'
theorem Outs.mono {C : Ct} {G G1 : Hp} {D : Ends} {DD : DEnds} (o : Outs C G D DD) (e : Ex G G1) : Outs C G1 D DD :=
  ⟨fun σ H s G' a b c => o.nx σ H s G' a b (e.trans c), fun σ H s G' a b c => o.bk σ H s G' a b (e.trans c), fun σ H s G' a b c => o.ct σ H s G' a b (e.trans c), fun v d c' G' H' a b c p => o.rt v d c' G' H' a b (e.trans c) p⟩
def IS (C : Ct) (t : TS) (w : WS) : Prop := ∀ G σ H s D DD, Rel C G σ H s → w DD s → Outs C G D DD → t D σ H
structure DS (X : Cx) (C : Ct) (st : Stmt) (t : TS) (w : WS) : Prop where
  ps : PS X st t
  is : IS C t w
structure DSs (X : Cx) (C : Ct) (st : List Stmt) (t : TS) (w : WS) : Prop where
  ps : PSs X st t
  is : IS C t w
section
variable {X : Cx} {C : Ct} {a b e tg : Expr} {es : List Expr} {pos p : Pos} {t ta tb tc : TE} {w wa wb wc : WE} {tA : TA} {wA : WA} {x : Str} {st : Stmt} {sts : List Stmt} {u v : TS} {wu wv : WS}
def wNext : WS := fun DD s => DD.nx s
def wSq (w u : WS) : WS := fun DD s => w { DD with nx := u DD } s
theorem is_seq (h : IS C u wu) (h2 : IS C v wv) : IS C (tSeq u v) (wSq wu wv) := fun G σ H s D DD r q o =>
  h G σ H s _ _ r q ⟨fun σ' H' s' G' n r' e => h2 G' σ' H' s' D DD r' n (o.mono e), o.bk, o.ct, o.rt⟩
theorem dss_nil : DSs X C [] tNext wNext := ⟨pss_nil, fun G σ H s D DD r q o => o.nx σ H s G q r (Ex.refl G)⟩
theorem dss_cons (h : DS X C st u wu) (h2 : DSs X C sts v wv) : DSs X C (st :: sts) (tSeq u v) (wSq wu wv) := ⟨pss_cons h.ps h2.ps, is_seq h.is h2.is⟩
/-- a statement that several ways lead out of: what holds behind it, said once -/
def wSqC (w u : WS) : WS := fun DD s => ∃ P : Dt → Prop, w { DD with nx := P } s ∧ ∀ s', P s' → u DD s'
theorem dss_cut (h : DS X C st u wu) (h2 : DSs X C sts v wv) : DSs X C (st :: sts) (tSeq u v) (wSqC wu wv) := ⟨pss_cons h.ps h2.ps, fun G σ H s D DD r q o => by
  obtain ⟨P, q1, q2⟩ := q
  exact h.is G σ H s _ _ r q1 ⟨fun σ' H' s' G' n r' e => h2.is G' σ' H' s' D DD r' (q2 s' n) (o.mono e), o.bk, o.ct, o.rt⟩⟩
theorem dss_one (h : DS X C st u wu) : DSs X C [st] u wu := ⟨pss_one h.ps, h.is⟩
theorem ds_doc {x : Str} {j pos'} : DS X C (.Expr (.Constant (.str x) j pos) pos') tNext wNext := ⟨ps_doc, fun G σ H s D DD r q o => o.nx σ H s G q r (Ex.refl G)⟩
theorem ds_pass : DS X C (.Pass pos) tNext wNext := ⟨ps_pass, fun G σ H s D DD r q o => o.nx σ H s G q r (Ex.refl G)⟩
theorem ds_break : DS X C (.Break pos) tBreak (fun DD s => DD.bk s) := ⟨ps_break, fun G σ H s D DD r q o => o.bk σ H s G q r (Ex.refl G)⟩
theorem ds_continue : DS X C (.Continue pos) tCont (fun DD s => DD.ct s) := ⟨ps_continue, fun G σ H s D DD r q o => o.ct σ H s G q r (Ex.refl G)⟩
theorem ds_never : DS X C st tNever (fun _ _ => False) := ⟨ps_never, fun G σ H s D DD r q o => q.elim⟩
def wRet (w : WE) : WS := fun DD s => w s fun d s1 => DD.rt d s1.c
theorem ds_ret (h : DE X C e t w) : DS X C (.Return (some e) pos) (tRet t) (wRet w) := ⟨ps_ret h.pe, fun G σ H s D DD r q o => h.ie G σ H s _ _ r q fun v d s1 G1 H1 q1 r1 eg eh p => o.rt v d s1.c G1 H1 q1 r1.fin eg p⟩
theorem ds_retN : DS X C (.Return none pos) tRetN (fun DD s => DD.rt .none s.c) := ⟨ps_retN, fun G σ H s D DD r q o => o.rt .non .none s.c G H q r.fin (Ex.refl G) .non⟩
def wIfS (c : WT) (u v : WS) : WS := fun DD s => c s fun b s1 => if b = true then u DD s1 else v DD s1
theorem ds_if {c : Expr} {l1 l2 : List Stmt} {tc : TT} {wc : WT} (hc : DT X C c tc wc) (h1 : DSs X C l1 u wu) (h2 : DSs X C l2 v wv) : DS X C (.If c l1 l2 pos) (tIfS tc u v) (wIfS wc wu wv) := ⟨ps_if hc.pt h1.ps h2.ps, fun G σ H s D DD r q o =>
  hc.it G σ H s _ _ r q fun b s1 G1 H1 q1 r1 eg eh => by
    cases b with
    | true =>
      rw [if_pos rfl] at q1
      exact iteT (h1.is G1 σ H1 s1 D DD r1 q1 (o.mono eg))
    | false =>
      rw [if_neg (by decide)] at q1
      exact iteF (h2.is G1 σ H1 s1 D DD r1 q1 (o.mono eg))⟩
def wDrop (w : WE) : WS := fun DD s => w s fun _ s1 => DD.nx s1
theorem ds_expr (h : DE X C e t w) (hs : swapsWith e none pos.line X.env = pure false := by rfl) : DS X C (.Expr e pos) (tDrop t) (wDrop w) := ⟨ps_expr h.pe hs, fun G σ H s D DD r q o => h.ie G σ H s _ _ r q fun v d s1 G1 H1 q1 r1 eg eh p => o.nx σ H1 s1 G1 q1 r1 eg⟩
/-- target = e -/
def wAsg (w : WE) (g : WG) : WS := fun DD s => w s fun d s1 => g d s1 DD.nx
theorem is_asg {g : TG} {ks : List Nat} {wg : WG} (h : IE C t w) (hg : IG C g ks wg) : IS C (tAsg t g) (wAsg w wg) := fun G σ H s D DD r q o =>
  h G σ H s _ _ r q fun v d s1 G1 H1 q1 r1 eg eh p => hg G1 σ H1 s1 v d _ _ r1 p q1 fun σ' s' q2 r2 _ _ => o.nx σ' H1 s' G1 q2 r2 eg
theorem ds_asg {g : TG} {ks : List Nat} {wg : WG} (h : DE X C e t w) (hg : DG X C tg g ks wg) (hs : swapsWithSole [tg] e pos.line X.env = pure false := by rfl) (hw : swappedStores [tg] e X.env = pure none := by rfl)
    (h1 : (assignEach [tg] X.env).map (·.2) = [assign tg X.env] := by rfl) : DS X C (.Assign [tg] e pos) (tAsg t g) (wAsg w wg) := ⟨ps_asg h.pe hg.pg hs hw h1, is_asg h.ie hg.ig⟩
theorem ds_set (i : Nat) {pos' : Pos} (hN : X.N.Nodup) (h : DE X C e t w) (hi : X.N[i]? = some x := by rfl) (hx : Loc X.env.scope x := by first | exact .inl rfl | exact .inr rfl) (hs : swapsWith e (some (.Name x pos')) pos.line X.env = pure false := by rfl)
    (hf : X.fn x = true ∨ X.env.scope.names.lookup x = some .local := by first | exact .inl rfl | exact .inr rfl | assumption) : DS X C (.Assign [.Name x pos'] e pos) (tAsg t (gName i)) (wAsg w (wName i)) := ⟨ps_set hN hi hx h.pe hs hf, is_asg h.ie (ig_name i)⟩
/-- name = a new list of the def's own -/
def wOwn (i : Nat) (w : WA) : WS := fun DD s => w s fun ds s1 => DD.nx (s1.set i (.own ds))
theorem is_own {i : Nat} {w : WA} (h : IO C t w) : IS C (tAsg t (gName i)) (wOwn i w) := fun G σ H s D DD r q o =>
  h G σ H s _ _ r q fun p xs ds s1 G1 H1 q1 r1 eg eh hp h1 h2 h3 h4 => o.nx _ H1 _ G1 q1 (r1.put (x := .own ds) ⟨p, xs, rfl, h1, r.fin.h0 hp, h2, h3⟩ fun _ j y p' ej m z => by
    cases z
    exact h4 j y ej m) eg
theorem ds_own (i : Nat) {w : WA} {pos' : Pos} (hN : X.N.Nodup) (h : DO X C e t w) (hi : X.N[i]? = some x := by rfl) (hx : Loc X.env.scope x := by first | exact .inl rfl | exact .inr rfl) (hs : swapsWith e (some (.Name x pos')) pos.line X.env = pure false := by rfl)
    (hf : X.fn x = true ∨ X.env.scope.names.lookup x = some .local := by first | exact .inl rfl | exact .inr rfl | assumption) : DS X C (.Assign [.Name x pos'] e pos) (tAsg t (gName i)) (wOwn i w) := ⟨ps_set hN hi hx h.pe hs hf, is_own h.io⟩
/-- name += e -/
def wAug (i : Nat) (f : Int → Int → Int) (w : WE) : WS := fun DD s => ∃ m, s.env[i]? = some (some (.d (.int m))) ∧ w s fun d s1 => ∃ n, d = .int n ∧ DD.nx (s1.set i (.d (.int (f m n))))
theorem is_aug {i : Nat} {f : Int → Int → Int} (h : IE C t w) : IS C (tAug i t (ipI f)) (wAug i f w) := fun G σ H s D DD r q o => by
  obtain ⟨m, em, q⟩ := q
  obtain ⟨v, hv, rv⟩ := r.sl i _ em
  refine ⟨v, hv, h G σ H s _ _ r q fun y d s1 G1 H1 q1 r1 eg eh p => ?_⟩
  obtain ⟨n, rfl, q1⟩ := q1
  exact ⟨m, n, dp_int rv, dp_int p, o.nx _ H1 _ G1 q1 (r1.putd (.int _)) eg⟩
theorem ds_iadd (i : Nat) {pos' : Pos} (hN : X.N.Nodup) (h : DE X C e t w) (hi : X.N[i]? = some x := by rfl) (hx : Loc X.env.scope x := by first | exact .inl rfl | exact .inr rfl) (hf : X.fn x = true ∨ X.env.scope.names.lookup x = some .local := by first | exact .inl rfl | exact .inr rfl | assumption) :
    DS X C (.AugAssign (.Name x pos') .Add e pos) (tAug i t (ipI fun i j => i + j)) (wAug i (fun i j => i + j) w) := ⟨ps_aug hN hi hx h.pe ip_add hf, is_aug h.ie⟩
theorem ds_isub (i : Nat) {pos' : Pos} (hN : X.N.Nodup) (h : DE X C e t w) (hi : X.N[i]? = some x := by rfl) (hx : Loc X.env.scope x := by first | exact .inl rfl | exact .inr rfl) (hf : X.fn x = true ∨ X.env.scope.names.lookup x = some .local := by first | exact .inl rfl | exact .inr rfl | assumption) :
    DS X C (.AugAssign (.Name x pos') .Sub e pos) (tAug i t (ipI fun i j => i - j)) (wAug i (fun i j => i - j) w) := ⟨ps_aug hN hi hx h.pe ip_sub hf, is_aug h.ie⟩
/-! lists of the def's own, changed -/
def wMeth (i : Nat) (wA : WA) (f : List PyData → List PyData → (PyData → List PyData → Prop) → Prop) : WE := fun s Q => (∃ ds0, s.env[i]? = some (some (.own ds0))) ∧ wA s fun as s1 => ∃ ds, s1.env[i]? = some (some (.own ds)) ∧ f ds as fun d ds' => Q d (s1.set i (.own ds'))
/-- such a method as a statement -/
theorem is_meth {i : Nat} {r : V → List V → Hp → VK → Prop} {f : List PyData → List PyData → (PyData → List PyData → Prop) → Prop}
    (hr : ∀ G H p xs vs ds as R Q', H p = some (.lst xs) → DpAll C.K G xs ds → DpAll C.K G vs as → f ds as R → (∀ v d xs' ds', R d ds' → DpAll C.K G xs' ds' → Dp C.K G v d → Q' v (upd H p (.lst xs'))) → r (.ref p) vs H Q') (h : IA C tA wA) :
    IS C (tDrop (tBM C.K "list" r (tVar i) tA)) (wDrop (wMeth i wA f)) := fun G σ H s D DD rr q o => by
  obtain ⟨⟨ds0, e0⟩, q⟩ := q
  obtain ⟨v, hv, p, xs0, rfl, b1, b2, b3, b4⟩ := rr.sl i _ e0
  refine ⟨_, hv, .inl ⟨rfl, _, .inl (.inl b1)⟩, h G σ H s _ _ rr q fun vs as s1 G1 H1 q1 r1 eg eh pa => ?_⟩
  obtain ⟨ds, e1, q1⟩ := q1
  obtain ⟨v', hv', p', xs, hvp, a1, a2, a3, a4⟩ := r1.sl i _ e1
  rw [hv] at hv'
  cases hv'
  cases hvp
  exact hr G1 H1 p xs vs ds as _ _ a1 a4 pa q1 fun v d xs' ds' q2 hd pd => o.nx σ _ _ G1 q2 (r1.mutl e1 hv hd) eg
def fAppend : List PyData → List PyData → (PyData → List PyData → Prop) → Prop := fun ds as Q => ∃ d, as = [d] ∧ ds.length < 100000 ∧ Q .none (ds ++ [d])
theorem ds_append (i : Nat) {apos cpos : Pos} (hK : X.K = C.K) (h : DE X C e t w) (hv : PE X (.Name x p) (tVar i) := by exact pv _) (hb : PE X (.Call (.Attribute (.Name x p) "append" apos) [e] [] cpos) (tBM X.K "list" rAppend (tVar i) (tCons t tNil)))
    (hs : swapsWith (.Call (.Attribute (.Name x p) "append" apos) [e] [] cpos) none pos.line X.env = pure false := by rfl) :
    DS X C (.Expr (.Call (.Attribute (.Name x p) "append" apos) [e] [] cpos) pos) (tDrop (tBM C.K "list" rAppend (tVar i) (tCons t tNil))) (wDrop (wMeth i (wCons w fun s Q => Q [] s) fAppend)) :=
  ⟨ps_expr (hK ▸ hb) hs, is_meth (fun G H p xs vs ds as R Q' h1 h2 h3 hf k => by
    obtain ⟨d, rfl, hl, hf⟩ := hf
    cases h3 with
    | cons p1 p2 =>
      cases p2
      exact ⟨p, xs, _, rfl, rfl, h1, sz_lt (by rw [dpa_len h2]; exact hl), k _ _ _ _ hf (dpa_app h2 (.cons p1 .nil)) .non⟩) (ia_cons h.ie ia_nil)⟩
end
end Dw

namespace Dw
open PySem PySem.Spec PyProof.Rows L2 OgR Evl
section
variable {X : Cx} {C : Ct} {a b e tg : Expr} {es : List Expr} {pos p : Pos} {t ta tb tc te : TE} {w wa wb wc we : WE} {tA : TA} {wA : WA} {x : Str} {st : Stmt} {sts : List Stmt} {u v : TS} {wu wv : WS}
/-! ### for -/
def wFor (w : WA) (g : WG) (wb : WS) : WS := fun DD s => w s fun ds s1 => ∃ Inv : Nat → Dt → Prop, Inv 0 s1 ∧
  (∀ (i : Nat) d s2, ds[i]? = some d → Inv i s2 → g d s2 fun s3 => wb { nx := Inv (i + 1), rt := DD.rt, bk := DD.nx, ct := Inv (i + 1) } s3) ∧ ∀ s2, Inv ds.length s2 → DD.nx s2
theorem is_for {wi : TI} {wI : WA} {g : TG} {ks : List Nat} {wg : WG} {tb : TS} {wb : WS} (hi : II C wi wI) (hg : IG C g ks wg) (hb : IS C tb wb) : IS C (tFor wi g tb) (wFor wI wg wb) := fun G σ H s D DD r q o =>
  hi G σ H s _ _ r q fun J ds s1 G1 H1 q1 r1 eg eh itd => by
    obtain ⟨Inv, h0, hs, hd⟩ := q1
    refine ⟨fun i m σ' H' => m = ds.length - i ∧ i ≤ ds.length ∧ ∃ G' s', Ex G1 G' ∧ Rel C G' σ' H' s' ∧ Inv i s', ⟨ds.length, by simp, Nat.zero_le _, G1, s1, Ex.refl G1, r1, h0⟩, ?_⟩
    rintro i m σ' H' ⟨rfl, hi, G', s', e', r', inv⟩
    obtain ⟨go, stop⟩ := itd G' H' e' r'.fin.gh
    by_cases hlt : i < ds.length
    · have hd1 : ds[i]? = some ds[i] := List.getElem?_eq_getElem hlt
      obtain ⟨g1, g2⟩ := go i _ hd1
      refine .inr ⟨g1, fun σ2 H2 => ∃ G2 s2, Ex G1 G2 ∧ Rel C G2 σ2 H2 s2 ∧ Inv (i + 1) s2, fun σ2 H2 ⟨G2, s2, a1, a2, a3⟩ => ⟨ds.length - (i + 1), by omega, rfl, hlt, G2, s2, a1, a2, a3⟩, fun x H3 y => ?_⟩
      obtain ⟨G3, b1, b2, b3, b4, b5⟩ := g2 x H3 y
      have r3 := r'.grow b1 b2 b3 b4
      have e3 := e'.trans b1
      refine hg G3 σ' H3 s' x _ _ _ r3 b5 (hs i _ s' hd1 inv) fun σ4 s4 q4 r4 _ _ => hb G3 σ4 H3 s4 _ _ r4 q4 ⟨fun σ5 H5 s5 G5 q r e => ⟨G5, s5, e3.trans e, r, q⟩, fun σ5 H5 s5 G5 q r e => o.nx σ5 H5 s5 G5 q r ((eg.trans e3).trans e), fun σ5 H5 s5 G5 q r e => ⟨G5, s5, e3.trans e, r, q⟩, fun v d c' G5 H5 q f e p => o.rt v d c' G5 H5 q f ((eg.trans e3).trans e) p⟩
    · have e : i = ds.length := by omega
      subst e
      exact .inl ⟨stop, o.nx σ' H' s' G' (hd s' inv) r' (eg.trans e')⟩
theorem ds_for {iter : Expr} {wi : TI} {wI : WA} {g : TG} {ks : List Nat} {wg : WG} {tb : TS} {wb : WS} (hp : PassesOwn (model X.prog X.w) X.A X.env X.xe) (hc : X.calm = true) (hi : DI X C tg iter wi wI) (hg : DG X C tg g ks wg) (hb : DSs X C sts tb wb)
    (hs : ∀ x, foldedSetIterable iter X.env x = pure x := by intro _; rfl) : DS X C (.For tg iter sts [] pos) (tFor wi g tb) (wFor wI wg wb) := ⟨ps_for hp hc hi.pi hg.pg hb.ps hs, is_for hi.ii hg.ig hb.is⟩
/-! ### while -/
def wWhile (c : WT) (wb : WS) : WS := fun DD s => ∃ Inv : Nat → Dt → Prop, (∃ m, Inv m s) ∧ ∀ m s, Inv m s → c s fun b s1 => if b = true then wb { nx := fun s2 => ∃ m', m' < m ∧ Inv m' s2, rt := DD.rt, bk := DD.nx, ct := fun s2 => ∃ m', m' < m ∧ Inv m' s2 } s1 else DD.nx s1
theorem ds_while {c : Expr} {tc : TT} {wc : WT} {tb : TS} {wb : WS} (hp : PassesOwn (model X.prog X.w) X.A X.env X.xe) (hc : DT X C c tc wc) (hb : DSs X C sts tb wb) : DS X C (.While c sts [] pos) (tWhile tc tb) (wWhile wc wb) := ⟨ps_while hp hc.pt hb.ps, fun G σ H s D DD r q o => by
  obtain ⟨Inv, ⟨m0, h0⟩, hs⟩ := q
  refine ⟨fun m σ' H' => ∃ G' s', Ex G G' ∧ Rel C G' σ' H' s' ∧ Inv m s', ⟨m0, G, s, Ex.refl G, r, h0⟩, ?_⟩
  rintro m σ' H' ⟨G', s', e', r', inv⟩
  refine hc.it G' σ' H' s' _ _ r' (hs m s' inv) fun b s1 G1 H1 q1 r1 eg eh => ?_
  cases b with
  | false =>
    rw [if_neg (by decide)] at q1
    exact iteF (o.nx σ' H1 s1 G1 q1 r1 (e'.trans eg))
  | true =>
    rw [if_pos rfl] at q1
    refine iteT ⟨fun σ2 H2 => ∃ m' G2 s2, m' < m ∧ Ex G G2 ∧ Rel C G2 σ2 H2 s2 ∧ Inv m' s2, fun σ2 H2 ⟨m', G2, s2, a0, a1, a2, a3⟩ => ⟨m', a0, G2, s2, a1, a2, a3⟩, hb.is G1 σ' H1 s1 _ _ r1 q1 ⟨fun σ5 H5 s5 G5 q r e => ?_, fun σ5 H5 s5 G5 q r e => o.nx σ5 H5 s5 G5 q r ((e'.trans eg).trans e), fun σ5 H5 s5 G5 q r e => ?_, fun v d c' G5 H5 q f e p => o.rt v d c' G5 H5 q f ((e'.trans eg).trans e) p⟩⟩
    · obtain ⟨m', hm, q⟩ := q
      exact ⟨m', G5, s5, hm, (e'.trans eg).trans e, r, q⟩
    · obtain ⟨m', hm, q⟩ := q
      exact ⟨m', G5, s5, hm, (e'.trans eg).trans e, r, q⟩⟩
/-! ### comprehensions -/
def wipeD (env : List (Option DV)) : List Nat → List (Option DV)
  | [] => env
  | v :: vs => (wipeD env vs).set v none
theorem wipeD_len (env : List (Option DV)) : ∀ vs : List Nat, (wipeD env vs).length = env.length
  | [] => rfl
  | v :: vs => by unfold wipeD; rw [List.length_set, wipeD_len env vs]
theorem wipeD_some {env : List (Option DV)} {i : Nat} {x : DV} : ∀ {vs : List Nat}, (wipeD env vs)[i]? = some (some x) → env[i]? = some (some x) ∧ i ∉ vs
  | [], h => ⟨h, by simp⟩
  | v :: vs, h => by
    unfold wipeD at h
    by_cases hi : v = i
    · subst hi
      by_cases hv : v < (wipeD env vs).length
      · rw [List.getElem?_set_self hv] at h; cases h
      · rw [List.getElem?_eq_none (by rw [List.length_set]; omega)] at h; cases h
    · rw [List.getElem?_set_ne hi] at h
      obtain ⟨h1, h2⟩ := wipeD_some h
      exact ⟨h1, by simp only [List.mem_cons, not_or]; exact ⟨fun e => hi e.symm, h2⟩⟩
theorem wipe_get (σ : L2.St) (j : Nat) : ∀ vs : List Nat, (wipe σ vs)[j]? = if j ∈ vs then (if j < σ.length then some none else none) else σ[j]?
  | [] => by simp [wipe]
  | v :: vs => by
    unfold wipe
    by_cases hv : v = j
    · subst hv
      rw [if_pos (by simp)]
      by_cases hl : v < σ.length
      · rw [List.getElem?_set_self (by rw [wipe_length]; exact hl), if_pos hl]
      · rw [List.getElem?_eq_none (by rw [List.length_set, wipe_length]; omega), if_neg hl]
    · rw [List.getElem?_set_ne hv, wipe_get σ j vs]
      by_cases hm : j ∈ vs
      · rw [if_pos hm, if_pos (show j ∈ v :: vs from List.mem_cons_of_mem _ hm)]
      · rw [if_neg hm, if_neg (show ¬ j ∈ v :: vs by simp only [List.mem_cons, not_or]; exact ⟨fun z => hv z.symm, hm⟩)]
theorem wipe_of {σ σ2 : L2.St} {vs ks : List Nat} (hl : σ2.length = (wipe σ vs).length) (h : ∀ j : Nat, j ∉ ks → σ2[j]? = (wipe σ vs)[j]?) (hk : ∀ k ∈ ks, k ∈ vs) : wipe σ2 vs = wipe σ vs := by
  refine List.ext_getElem? fun j => ?_
  rw [wipe_length] at hl
  rw [wipe_get, wipe_get]
  by_cases hj : j ∈ vs
  · rw [if_pos hj, if_pos hj, hl]
  · rw [if_neg hj, if_neg hj, h j fun z => hj (hk j z), wipe_get, if_neg hj]
theorem Rel.wipe {G H : Hp} {σ : L2.St} {s : Dt} (r : Rel C G σ H s) (vs : List Nat) : Rel C G (L2.wipe σ vs) H ⟨wipeD s.env vs, s.c⟩ := by
  have go : ∀ (i : Nat), i ∉ vs → (L2.wipe σ vs)[i]? = σ[i]? := fun i hi => by rw [wipe_get, if_neg hi]
  refine ⟨r.fin, by show (wipeD s.env vs).length = _; rw [wipeD_len, wipe_length]; exact r.len, fun i x e => ?_, fun i j x y p hne e1 e2 m1 m2 => ?_⟩
  · obtain ⟨e', hi⟩ := wipeD_some e
    obtain ⟨v, hv, rv⟩ := r.sl i x e'
    exact ⟨v, by rw [go i hi]; exact hv, rv⟩
  · obtain ⟨e1', h1⟩ := wipeD_some e1
    obtain ⟨e2', h2⟩ := wipeD_some e2
    rw [go i h1, go j h2]
    exact r.dis i j x y p hne e1' e2' m1 m2
/-- what is neither data nor the box stays so, where the slots keep their own lists -/
theorem Gs.keep {σ : L2.St} {G H G' H' : Hp} {s s' : Dt} (g : Gs C σ G H s G' H' s') (r : Rel C G σ H s) (r' : Rel C G' σ H' s') (he : s'.env = s.env) {b : Addr} (h1 : G b = none) (h2 : H b ≠ none) : G' b = none := by
  by_cases hx : ∃ (i : Nat) (x : DV), s.env[i]? = some (some x) ∧ x.mut = true ∧ σ[i]? = some (some (.ref b))
  · obtain ⟨i, x, e, m, hs⟩ := hx
    rw [← he] at e
    obtain ⟨v, hv, rv⟩ := r'.sl i x e
    rw [hs] at hv
    cases hv
    cases x with
    | d _ => cases m
    | box => cases m
    | own ds =>
      obtain ⟨p', xs, a1, a2, a3, a4, a5⟩ := rv
      cases a1
      exact a4
    | dic ds =>
      obtain ⟨p', xs, a1, a2, a3, a4, a5⟩ := rv
      cases a1
      exact a4
    | dit ds =>
      obtain ⟨p', xs, a1, a2, a3, a4, a5⟩ := rv
      cases a1
      exact a4
    | dd _ => cases m
  · exact g.nk b h1 h2 fun i x e m hs => hx ⟨i, x, e, m, hs⟩
theorem Rel.back {σ σ2 : L2.St} {G H G' H' : Hp} {env : List (Option DV)} {c : Int} {s2 s' : Dt} (r : Rel C G σ H ⟨env, c⟩) (r2 : Rel C G σ2 H s2) (r' : Rel C G' σ2 H' s') (he : s'.env = s2.env) (eg : Ex G G') (g : Gs C σ2 G H s2 G' H' s') : Rel C G' σ H' ⟨env, s'.c⟩ := by
  refine ⟨r'.fin, r.len, fun i x e => ?_, r.dis⟩
  obtain ⟨v, hv, rv⟩ := r.sl i x e
  refine ⟨v, hv, ?_⟩
  cases x with
  | d _ => exact dp_ex eg rv
  | box => exact rv
  | own ds =>
    obtain ⟨p', xs, a1, a2, a3, a4, a5⟩ := rv
    exact ⟨p', xs, a1, g.gr p' _ (r.fin.nbx a3) a2, a3, g.keep r2 r' he a4 (by rw [a2]; exact Option.some_ne_none _), dpa_ex eg a5⟩
  | dic ds =>
    obtain ⟨p', xs, a1, a2, a3, a4, a5⟩ := rv
    exact ⟨p', xs, a1, g.gr p' _ (r.fin.nbx a3) a2, a3, g.keep r2 r' he a4 (by rw [a2]; exact Option.some_ne_none _), paired_mapP a5 fun a b q => ⟨q.1, dp_ex eg q.2⟩⟩
  | dit ds =>
    obtain ⟨p', xs, a1, a2, a3, a4, a5⟩ := rv
    exact ⟨p', xs, a1, g.gr p' _ (r.fin.nbx a3) a2, a3, g.keep r2 r' he a4 (by rw [a2]; exact Option.some_ne_none _), paired_mapP a5 fun a b q => ⟨q.1, dp_ex eg q.2⟩⟩
  | dd ds =>
    obtain ⟨p', xs, a1, a2, a5⟩ := rv
    exact ⟨p', xs, a1, a2.gr g.gr, paired_mapP a5 fun a b q => ⟨q.1, dp_ex eg q.2⟩⟩
def wLc (w : WA) (g : WG) (tt : WT) (te : WE) (vs : List Nat) : WA := fun s Q => w s fun ds s1 => ∃ Inv : Nat → List PyData → Int → Prop, Inv 0 [] s1.c ∧
  (∀ (i : Nat) d acc c, ds[i]? = some d → Inv i acc c → g d ⟨wipeD s1.env vs, c⟩ fun s2 => tt s2 fun b s3 => s3.env = s2.env ∧ if b = true then te s3 fun y s4 => s4.env = s2.env ∧ acc.length < 100000 ∧ Inv (i + 1) (acc ++ [y]) s4.c else Inv (i + 1) acc s3.c) ∧
  ∀ acc c, Inv ds.length acc c → Q acc ⟨s1.env, c⟩
theorem io_lc {wi : TI} {wI : WA} {g : TG} {ks vs : List Nat} {wg : WG} {tt : TT} {wt : WT} (hk : ∀ k ∈ ks, k ∈ vs) (hi : II C wi wI) (hg : IG C g ks wg) (ht : IT C tt wt) (he : IE C te we) : IO C (tLc wi g tt te vs) (wLc wI wg wt we vs) := fun G σ H s Q Q' r q k =>
  hi G σ H s _ _ r q fun J ds s1 G1 H1 q1 r1 eg eh itd D hD => by
    obtain ⟨Inv, h0, hs, hd⟩ := q1
    have hHD : H D = none := by
      cases z : H D with
      | none => rfl
      | some o => exact absurd hD (eh.dom D (by rw [z]; exact Option.some_ne_none _))
    refine ⟨fun i m H' => m = ds.length - i ∧ i ≤ ds.length ∧ ∃ G' acc xs c', Ex G1 G' ∧ Rel C G' σ H' ⟨s1.env, c'⟩ ∧ Gs C σ G1 H1 s1 G' H' ⟨s1.env, c'⟩ ∧ H' D = some (.lst xs) ∧ G' D = none ∧ DpAll C.K G' xs acc ∧ Inv i acc c', ⟨ds.length, by simp, Nat.zero_le _, G1, [], [], s1.c, Ex.refl G1, r1.aside (Ex.new hD), .side (Ex.new hD), upd_same, r1.gnone hD, .nil, h0⟩, ?_⟩
    rintro i m H' ⟨rfl, hi, G', acc, xs, c', e', r', g', hHd, hGd, dacc, inv⟩
    obtain ⟨go, stop⟩ := itd G' H' e' r'.fin.gh
    have nbD : C.bx ≠ some D := r.fin.nbx (r.fin.h0 hHD)
    by_cases hlt : i < ds.length
    · have hd1 : ds[i]? = some ds[i] := List.getElem?_eq_getElem hlt
      obtain ⟨g1, g2⟩ := go i _ hd1
      refine .inr ⟨g1, fun H2 => ∃ G' acc xs c', Ex G1 G' ∧ Rel C G' σ H2 ⟨s1.env, c'⟩ ∧ Gs C σ G1 H1 s1 G' H2 ⟨s1.env, c'⟩ ∧ H2 D = some (.lst xs) ∧ G' D = none ∧ DpAll C.K G' xs acc ∧ Inv (i + 1) acc c', fun H2 ⟨G2, a1, a2, a3, a4, a5, a6, a7, a8, a9, a10⟩ => ⟨ds.length - (i + 1), by omega, rfl, hlt, G2, a1, a2, a3, a4, a5, a6, a7, a8, a9, a10⟩, fun x H3 y => ?_⟩
      obtain ⟨G3, b1, b2, b3, b4, b5⟩ := g2 x H3 y
      have r3 := r'.grow b1 b2 b3 b4
      have gs3 : Gs C σ G' H' ⟨s1.env, c'⟩ G3 H3 ⟨s1.env, c'⟩ := .grow b2 b4
      have e3 := e'.trans b1
      have hG3 : G3 D = none := gs3.nk D hGd (by rw [hHd]; exact Option.some_ne_none _) fun j y ej m z => by
        obtain ⟨v, hv, rv⟩ := r1.sl j y ej
        rw [z] at hv
        cases hv
        exact r1.notslot hD j y ej m z
      refine hg G3 (L2.wipe σ vs) H3 ⟨wipeD s1.env vs, c'⟩ x _ _ _ (r3.wipe vs) b5 (hs i _ acc c' hd1 inv) fun σ4 s4 q4 r4 l4 f4 => ⟨wipe_of l4 f4 hk, ht G3 σ4 H3 s4 _ _ r4 q4 fun bb s5 G5 H5 q5 r5 eg5 gs5 => ?_⟩
      obtain ⟨he5, q5⟩ := q5
      cases bb with
      | false =>
        rw [if_neg (by decide)] at q5
        have rr := r3.back r4 r5 he5 eg5 gs5
        refine iteF ⟨G5, acc, xs, s5.c, e3.trans eg5, rr, g'.trans (gs3.trans ⟨gs5.gr, gs5.dom, fun b h1 h2 h3 => gs5.keep r4 r5 he5 h1 h2, fun i x e m => ⟨x, e, m⟩⟩), gs5.gr D _ nbD (b2 D _ hHd), gs5.keep r4 r5 he5 hG3 (by rw [b2 D _ hHd]; exact Option.some_ne_none _), dpa_ex (b1.trans eg5) dacc, q5⟩
      | true =>
        rw [if_pos rfl] at q5
        refine iteT (he G5 σ4 H5 s5 _ _ r5 q5 fun v y s6 G6 H6 q6 r6 eg6 gs6 pv => ?_)
        obtain ⟨he6, hl, q6⟩ := q6
        have gs7 := gs5.trans gs6
        have rr := r3.back r4 r6 he6 (eg5.trans eg6) gs7
        have hD6 : H6 D = some (.lst xs) := gs7.gr D _ nbD (b2 D _ hHd)
        have gD6 : G6 D = none := gs7.keep r4 r6 he6 hG3 (by rw [b2 D _ hHd]; exact Option.some_ne_none _)
        have hm : ∀ b, b ≠ D → upd H6 D (.lst (xs ++ [v])) b = H6 b := fun b hb => upd_ne hb
        refine ⟨xs, hD6, sz_lt (by rw [dpa_len dacc]; exact hl), G6, acc ++ [y], xs ++ [v], s6.c, e3.trans (eg5.trans eg6), ?_, ?_, upd_same, gD6, dpa_app (dpa_ex ((b1.trans eg5).trans eg6) dacc) (.cons pv .nil), q6⟩
        · -- D is no slot's and not data
          have h0D : C.H0 D = none := r.fin.h0 hHD
          refine ⟨⟨fun b o hb => ?_, rr.fin.g0, rr.fin.nw, fun b o n hb => ?_, fun l hl => ?_⟩, rr.len, fun j y ej => ?_, rr.dis⟩
          · rw [hm b (fun z => by rw [z, gD6] at hb; cases hb)]
            exact rr.fin.gh b o hb
          · rw [hm b (fun z => by rw [z, h0D] at hb; cases hb)]
            exact rr.fin.hh b o n hb
          · refine ⟨(rr.fin.bx l hl).1.keep fun o q => ?_, (rr.fin.bx l hl).2⟩
            rw [hm l (fun z => nbD (by rw [← z]; exact hl))]
            exact q
          · obtain ⟨v', hv', rv⟩ := rr.sl j y ej
            refine ⟨v', hv', ?_⟩
            cases y with
            | d _ => exact rv
            | box => exact rv
            | own ds2 =>
              obtain ⟨p2, xs2, a1, a2, a3, a4, a5⟩ := rv
              exact ⟨p2, xs2, a1, by rw [hm p2 (fun z => r1.notslot hD j _ ej rfl (by rw [hv', a1, z]))]; exact a2, a3, a4, a5⟩
            | dic ds2 =>
              obtain ⟨p2, xs2, a1, a2, a3, a4, a5⟩ := rv
              exact ⟨p2, xs2, a1, by rw [hm p2 (fun z => r1.notslot hD j _ ej rfl (by rw [hv', a1, z]))]; exact a2, a3, a4, a5⟩
            | dit ds2 =>
              obtain ⟨p2, xs2, a1, a2, a3, a4, a5⟩ := rv
              exact ⟨p2, xs2, a1, by rw [hm p2 (fun z => r1.notslot hD j _ ej rfl (by rw [hv', a1, z]))]; exact a2, a3, a4, a5⟩
            | dd ds2 =>
              obtain ⟨p2, xs2, a1, a2, a5⟩ := rv
              exact ⟨p2, xs2, a1, a2.upd hD6 h0D (fun _ _ z => by cases z), a5⟩
        · have gg := g'.trans (gs3.trans (s2 := ⟨s1.env, s6.c⟩) ⟨gs7.gr, gs7.dom, fun b h1 h2 h3 => gs7.keep r4 r6 he6 h1 h2, fun i x e m => ⟨x, e, m⟩⟩)
          refine ⟨fun b o n hb => ?_, fun b hb => ?_, gg.nk, gg.ks⟩
          · rw [hm b (fun z => by rw [z, hD] at hb; cases hb)]
            exact gg.gr b o n hb
          · by_cases z : b = D
            · rw [z, upd_same]
              exact Option.some_ne_none _
            · rw [hm b z]
              exact gg.dom b hb
    · have e : i = ds.length := by omega
      subst e
      refine .inl ⟨stop, k D xs acc ⟨s1.env, c'⟩ G' H' (hd acc c' inv) r' (eg.trans e') (eh.trans g') hHD hHd hGd dacc fun j y ej m => r1.notslot hD j y ej m⟩
theorem do_lc {elt iter : Expr} {ifs : List Expr} {scope : Scope} {own : List (Str × Nat)} {wi : TI} {wI : WA} {g : TG} {ks : List Nat} {wg : WG} {tt : TT} {wt : WT} (hc : X.calm = true) (hN : X.N.Nodup) (hi : DI X C tg iter wi wI) (ok : BlkOk X.N X.env.scope scope own)
    (hg : ∀ (s : Shared) (H : Hp) (A : Addr) (cl : List (Str × Addr)) (fp : List Addr), DG (X.blk s H scope (compEnvC scope cl A X.env) fp) C tg g ks wg)
    (ht : (∀ (s : Shared) (H : Hp) (A : Addr) (cl : List (Str × Addr)) (fp : List Addr), PTs (X.blk s H scope (compEnvC scope cl A X.env) fp) ifs tt) ∧ IT C tt wt)
    (he : ∀ (s : Shared) (H : Hp) (A : Addr) (cl : List (Str × Addr)) (fp : List Addr), DE (X.blk s H scope (compEnvC scope cl A X.env) fp) C elt te we) (hk : ∀ k ∈ ks, k ∈ own.map (·.2) := by decide) (hs : ∀ x, foldedSetIterable iter X.env x = pure x := by intro _; rfl) :
    DO X C (.ListComp elt [⟨tg, iter, ifs, 0⟩] scope pos) (tLc wi g tt te (own.map (·.2))) (wLc wI wg wt we (own.map (·.2))) :=
  ⟨pe_lc hc hN hi.pi ok (fun s H A cl fp => (hg s H A cl fp).pg) ht.1 (fun s H A cl fp => (he s H A cl fp).pe) hs,
   io_lc hk hi.ii (hg {} (fun _ => none) 0 [] []).ig ht.2 (he {} (fun _ => none) 0 [] []).ie⟩
end
end Dw

namespace Dw
open PySem PySem.Spec PyProof.Rows L2 OgR Evl
/-! ### defs: where they stand, what they promise -/
section
variable {P : Program} {wd : World} {K : PySem.W.Frag} {mg : Str → Option Value} {base : Heap}
structure Fct (K : PySem.W.Frag) (mg : Str → Option Value) (x : Str) (st : Stmt) (ps : List Str) : Prop where
  ex : ∃ f fd, Fun K x x st f fd ∧ Binds K fd ps [] ∧ mg x = some (.ref f)
def perm {α : Type} (π : List Nat) (l : List α) : List α := π.filterMap fun i => l[i]?
/-- how names alone bind -/
def ByP (fd : FuncData) (ps ks : List Str) (π : List Nat) : Prop := ∀ (s : Shared) (ws : List Value), ws.length = ks.length → BindsTo s fd ⟨[], ks.zip ws⟩ (ps.zip (perm π ws))
structure Def (P : Program) (wd : World) (K : PySem.W.Frag) (mg : Str → Option Value) (base : Heap) (k : Nat) (x : Str) (st : Stmt) (ps : List Str) (sp : Sp) : Prop where
  ex : ∃ f fd, FnG P wd K mg base k f fd ps sp ∧ Fun K x x st f fd ∧ Binds K fd ps [] ∧ mg x = some (.ref f)
theorem Def.mono {j k : Nat} {x : Str} {st : Stmt} {ps : List Str} {sp : Sp} (D : Def P wd K mg base j x st ps sp) (h : j ≤ k) : Def P wd K mg base k x st ps sp := by
  obtain ⟨f, fd, G, F, b, m⟩ := D.ex
  exact ⟨f, fd, ⟨G.1, fun A outer s H args us vs Q E hG hr => G.2 A outer s H args us vs Q E hG (hr.mono h)⟩, F, b, m⟩
theorem Def.imp {k : Nat} {x : Str} {st : Stmt} {ps : List Str} {sp sp' : Sp} (D : Def P wd K mg base k x st ps sp) (h : ∀ vs H Q E, sp' vs H Q E → sp vs H Q E) : Def P wd K mg base k x st ps sp' := by
  obtain ⟨f, fd, G, F, b, m⟩ := D.ex
  exact ⟨f, fd, ⟨fun vs H Q E q => G.1 vs H Q E (h _ _ _ _ q), fun A outer s H args us vs Q E hG hr he hb hv hs => G.2 A outer s H args us vs Q E hG hr he hb hv (h _ _ _ _ hs)⟩, F, b, m⟩
/-- a promise that asks for what cannot be -/
theorem Def.no {k : Nat} {x : Str} {st : Stmt} {ps : List Str} {sp : Sp} (c : Fct K mg x st ps) (h : ∀ vs H Q E, ¬ sp vs H Q E) : Def P wd K mg base k x st ps sp := by
  obtain ⟨f, fd, F, b, m⟩ := c.ex
  exact ⟨f, fd, ⟨fun vs H Q E q => (h _ _ _ _ q).elim, fun A outer s H args us vs Q E hG hr he hb hv hs => (h _ _ _ _ hs).elim⟩, F, b, m⟩
def env0 (N : List Str) (xs : List DV) : List (Option DV) := xs.map some ++ List.replicate (N.length - xs.length) none
theorem env0_get {N : List Str} {xs : List DV} {i : Nat} {x : DV} (h : (env0 N xs)[i]? = some (some x)) : xs[i]? = some x := by
  unfold env0 at h
  by_cases hl : i < xs.length
  · rw [List.getElem?_append_left (by rw [List.length_map]; exact hl), List.getElem?_map, List.getElem?_eq_getElem hl] at h
    rw [List.getElem?_eq_getElem hl]
    simpa using h
  · rw [List.getElem?_append_right (by rw [List.length_map]; omega)] at h
    obtain ⟨_, h2⟩ := List.getElem?_eq_some_iff.mp h
    rw [List.getElem_replicate] at h2
    cases h2
theorem start_get {N : List Str} {vs : List V} {i : Nat} {v : V} (h : vs[i]? = some v) : (L2.start N vs)[i]? = some (some v) := by
  unfold L2.start
  have hl := (List.getElem?_eq_some_iff.mp h).1
  rw [List.getElem?_append_left (by rw [List.length_map]; exact hl), List.getElem?_map, h]
  rfl
theorem env0_len {N : List Str} {xs : List DV} {vs : List V} (h : xs.length = vs.length) : (env0 N xs).length = (L2.start N vs).length := by
  unfold env0 L2.start
  rw [List.length_append, List.length_append, List.length_map, List.length_map, List.length_replicate, List.length_replicate, h]
theorem Def.pure {k : Nat} {x : Str} {st : Stmt} {N ps : List Str} {F : FP} (c : Fct K mg x st ps) (S : FnScope N ps (defScope st)) (hl : ∀ ds R, F ds R → ds.length = ps.length)
    (body : ∀ (f : Addr) (cdv : Value) (A : Around) (outer : List Env) (s : Shared) (H G : Hp) (E : XK) (ds : List PyData) (R : PyData → Prop), A.guards = some [] → Room k (A.deeper (envOfC x (defScope st) s.heap.objs.size f cdv)) → F ds R →
      ∃ t w, DSs (cxOf CX0 P wd K mg base N x (defScope st) f cdv A outer s H E).nox ⟨K, none, H, G⟩ (defBody st) t w ∧ w { nx := fun _ => R .none, rt := fun d _ => R d } ⟨env0 N (ds.map .d), 0⟩) : Def P wd K mg base (k + 1) x st ps (spP K F) := by
  obtain ⟨f, fd, Fn, b, m⟩ := c.ex
  refine ⟨f, fd, fnG_of Fn S (fun vs H Q E h => ?_) (fun cdv A outer s H vs Q E hG hr h => ?_), Fn, b, m⟩
  · obtain ⟨G, ds, R, _, p, hF, _⟩ := h
    rw [dpa_len p]
    exact hl ds R hF
  · obtain ⟨G, ds, R, gh, p, hF, kk⟩ := h
    obtain ⟨t, w, D, hw⟩ := body f cdv A outer s H G E ds R hG hr hF
    have rel : Rel ⟨K, none, H, G⟩ G (L2.start N vs) H ⟨env0 N (ds.map .d), 0⟩ := by
      refine ⟨⟨gh, Ex.refl G, Nw.refl G H, Gr.refl _ H, fun l hl => nomatch hl⟩, env0_len (by rw [List.length_map, dpa_len p]), fun i x e => ?_, fun i j x y q _ e1 _ m1 => ?_⟩
      · have e' := env0_get e
        rw [List.getElem?_map] at e'
        cases q : ds[i]? with
        | none => rw [q] at e'; cases e'
        | some d =>
          rw [q] at e'
          cases e'
          obtain ⟨v, hv, pv⟩ := dpa_back p q
          exact ⟨v, start_get hv, pv⟩
      · have e' := env0_get e1
        rw [List.getElem?_map] at e'
        cases q : ds[i]? with
        | none => rw [q] at e'; cases e'
        | some d => rw [q] at e'; cases e'; cases m1
    refine ⟨t, D.ps, D.is G (L2.start N vs) H _ _ _ rel hw ⟨fun σ' H' s' G' hn r' e => ?_, fun _ _ _ _ h => h.elim, fun _ _ _ _ h => h.elim, fun v d c' G' H' hR f' e pv => ?_⟩⟩
    · exact kk .non .none G' H' hn e (fun b o hb => r'.fin.hh b o (fun z => nomatch z) hb) r'.fin.gh r'.fin.nw .non
    · exact kk v d G' H' hR e (fun b o hb => f'.hh b o (fun z => nomatch z) hb) f'.gh f'.nw pv
theorem Def.draws {k : Nat} {x : Str} {st : Stmt} {N ps : List Str} {F : FB} (c : Fct K mg x st ps) (S : FnScope N ps (defScope st)) (hl : ∀ ds c R, F ds c R → ds.length + 1 = ps.length)
    (body : ∀ (f : Addr) (cdv : Value) (A : Around) (outer : List Env) (s : Shared) (H G : Hp) (l : Addr) (E : XK) (ds : List PyData) (c : Int) (R : PyData → Int → Prop), A.guards = some [] → Room k (A.deeper (envOfC x (defScope st) s.heap.objs.size f cdv)) → F ds c R →
      ∃ t w, DSs (cxOf CX0 P wd K mg base N x (defScope st) f cdv A outer s H E).nox ⟨K, some l, H, G⟩ (defBody st) t w ∧ w { nx := fun s => R .none s.c, rt := R } ⟨env0 N (.box :: ds.map .d), c⟩) : Def P wd K mg base (k + 1) x st ps (spB K F) := by
  obtain ⟨f, fd, Fn, b, m⟩ := c.ex
  refine ⟨f, fd, fnG_of Fn S (fun vs H Q E h => ?_) (fun cdv A outer s H vs Q E hG hr h => ?_), Fn, b, m⟩
  · obtain ⟨l, vs', G, ds, c, R, rfl, _, _, _, p, hF, _⟩ := h
    rw [List.length_cons, dpa_len p]
    exact hl ds c R hF
  · obtain ⟨l, vs', G, ds, c, R, rfl, hB, hGl, gh, p, hF, kk⟩ := h
    obtain ⟨t, w, D, hw⟩ := body f cdv A outer s H G l E ds c R hG hr hF
    have rel : Rel ⟨K, some l, H, G⟩ G (L2.start N (.ref l :: vs')) H ⟨env0 N (.box :: ds.map .d), c⟩ := by
      refine ⟨⟨gh, Ex.refl G, Nw.refl G H, Gr.refl _ H, fun l' hl' => ?_⟩, env0_len (by rw [List.length_cons, List.length_cons, List.length_map, dpa_len p]), fun i x e => ?_, fun i j x y q _ e1 _ m1 => ?_⟩
      · cases hl'
        exact ⟨hB, hGl, hB.ne⟩
      · have e' := env0_get e
        cases i with
        | zero =>
          cases e'
          exact ⟨.ref l, start_get rfl, l, rfl, rfl⟩
        | succ i =>
          rw [List.getElem?_cons_succ, List.getElem?_map] at e'
          cases q : ds[i]? with
          | none => rw [q] at e'; cases e'
          | some d =>
            rw [q] at e'
            cases e'
            obtain ⟨v, hv, pv⟩ := dpa_back p q
            exact ⟨v, start_get (by rw [List.getElem?_cons_succ]; exact hv), pv⟩
      · have e' := env0_get e1
        cases i with
        | zero => cases e'; cases m1
        | succ i =>
          rw [List.getElem?_cons_succ, List.getElem?_map] at e'
          cases q : ds[i]? with
          | none => rw [q] at e'; cases e'
          | some d => rw [q] at e'; cases e'; cases m1
    refine ⟨t, D.ps, D.is G _ H _ _ _ rel hw ⟨fun σ' H' s' G' hn r' e => ?_, fun _ _ _ _ h => h.elim, fun _ _ _ _ h => h.elim, fun v d c' G' H' hR f' e pv => ?_⟩⟩
    · exact kk .non .none s'.c G' H' hn e (fun b o hb hx => r'.fin.hh b o (fun z => hb (by cases z; rfl)) hx) (r'.fin.bx l rfl).1 r'.fin.gh r'.fin.nw .non
    · exact kk v d c' G' H' hR e (fun b o hb hx => f'.hh b o (fun z => hb (by cases z; rfl)) hx) (f'.bx l rfl).1 f'.gh f'.nw pv
end
section
variable {X : Cx} {C : Ct} {a b e tg : Expr} {es : List Expr} {pos p : Pos} {t ta tb tc te : TE} {w wa wb wc we : WE} {tA : TA} {wA : WA} {x : Str} {st : Stmt} {sts : List Stmt} {ps : List Str} {k : Nat}
theorem de_c {F : FP} (D : Def X.prog X.w X.K X.mg X.base k x st ps (spP C.K F)) (hG : X.A.guards = some []) (hr : Room k X.A) (hg : Gl X x)
    (ha : DA X C (e :: es) tA wA) (hdb : (x == ("__debug__" : Str)) = false := by decide) (he : starEach (e :: es) X.env = (false, eval e X.env) :: starEach es X.env := by rfl) (hpl : (backTo pos (starEach es X.env)).any (·.1) = false := by rfl) :
    DE X C (.Call (.Name x p) (e :: es) [] pos) (tCall (spP C.K F) [] E0 tA) (wCall F wA) := by
  obtain ⟨f, fd, G, Fn, b, m⟩ := D.ex
  exact ⟨pe_callG G hG hr hg m Fn.kp b ha.pa hdb he hpl, ie_call ha.ia⟩
theorem de_cB (i : Nat) {F : FB} {y : Str} {p2 : Pos} (D : Def X.prog X.w X.K X.mg X.base k x st ps (spB C.K F)) (hG : X.A.guards = some []) (hr : Room k X.A) (hg : Gl X x)
    (ha : DA X C es tA wA) (hv : PE X (.Name y p2) (tVar i) := by exact pv _) (hdb : (x == ("__debug__" : Str)) = false := by decide) (he : starEach (.Name y p2 :: es) X.env = (false, eval (.Name y p2) X.env) :: starEach es X.env := by rfl) (hpl : (backTo pos (starEach es X.env)).any (·.1) = false := by rfl) :
    DE X C (.Call (.Name x p) (.Name y p2 :: es) [] pos) (tCall (spB C.K F) [] E0 (tCons (tVar i) tA)) (wCallB i F wA) := by
  obtain ⟨f, fd, G, Fn, b, m⟩ := D.ex
  exact ⟨pe_callG G hG hr hg m Fn.kp b (pa_cons hv ha.pa he) hdb he hpl, ie_callB ha.ia⟩
/-! by names alone -/
structure DKw (X : Cx) (C : Ct) (kws : List Keyword) (t : TA) (w : WA) : Prop where
  pk : PK X kws t
  ia : IA C t w
theorem dk_nil : DKw X C [] tNil (fun s Q => Q [] s) := ⟨pk_nil, ia_nil⟩
theorem dk_cons {kws : List Keyword} {nm : Option Str} {kpos : Pos} {tr : TA} {wr : WA} (h : DE X C e t w) (hr : DKw X C kws tr wr) : DKw X C (⟨nm, e, kpos⟩ :: kws) (tCons t tr) (wCons w wr) := ⟨pk_cons h.pe hr.pk, ia_cons h.ie hr.ia⟩
def tNm (sp : Sp) (n : Nat) (π : List Nat) (E : XK) (tk : TA) : TE := fun σ H Q => tk σ H fun zs H1 => zs.length = n ∧ sp (perm π zs) H1 Q E
theorem vals_perm {π : List Nat} {zs : List V} {ws : List Value} (h : Vals zs ws) : Vals (perm π zs) (perm π ws) := by
  unfold perm
  induction π with
  | nil => exact .nil
  | cons i π ih =>
    rw [List.filterMap_cons, List.filterMap_cons]
    cases q : zs[i]? with
    | none => rw [h.none_of q]; exact ih
    | some v =>
      obtain ⟨u, hu, ru⟩ := h.get q
      rw [hu]
      exact .cons ru ih
theorem dpa_perm {K : PySem.W.Frag} {G : Hp} {π : List Nat} {zs : List V} {ds : List PyData} (h : DpAll K G zs ds) : DpAll K G (perm π zs) (perm π ds) := by
  unfold perm
  induction π with
  | nil => exact .nil
  | cons i π ih =>
    rw [List.filterMap_cons, List.filterMap_cons]
    cases q : zs[i]? with
    | none =>
      rw [List.getElem?_eq_none_iff.mpr (by rw [← dpa_len h]; exact List.getElem?_eq_none_iff.mp q)]
      exact ih
    | some v =>
      obtain ⟨u, hu, ru⟩ := dpa_get h q
      rw [hu]
      exact .cons ru ih
theorem pe_nm {n : Nat} {f : Addr} {fd : FuncData} {ks : List Str} {sp : Sp} {kws : List Keyword} {tk : TA} {π : List Nat} (F : FnG X.prog X.w X.K X.mg X.base k f fd ps sp) (hG : X.A.guards = some []) (hr : Room k X.A) (hg : Gl X x) (hm : X.mg x = some (.ref f)) (hk : PySem.W.keepIn X.K (.ref f) = true) (hb : ByP fd ps ks π) (hn : ks.length = n) (hkw : PK X kws tk)
    (hall : (backToKw pos (keywordEach kws X.env)).all (·.1.isSome) = true := by rfl) (hks : (backToKw pos (keywordEach kws X.env)).filterMap (·.1) = ks := by rfl) (hdb : (x == ("__debug__" : Str)) = false := by decide)
    (hpl : ((backTo pos (starEach [] X.env)).any (·.1) || (backToKw pos (keywordEach kws X.env)).any (·.1.isNone)) = false := by rfl) :
    PE X (.Call (.Name x p) [] kws pos) (tNm sp n π E0 tk) := by
  refine ⟨fun pins s σ H Q I h => wpAny_Call_Name_kw (ld_glob I hg hm ?_ hdb)⟩
  refine PySem.W.callWith_KW0 (h₀ := X.base) I.ok.mod.kin hk hall (thn (hkw.run pos pins s σ H _ I h) fun ws s1 ⟨zs, H1, I1, rz, hl, q⟩ => ⟨I1.kIn, ?_⟩) hpl
  rw [hks]
  have hwl : ws.length = ks.length := by rw [← rz.length, hl, hn]
  refine wpAny_call (codeAny_mono (F.2 X.A X.stack s1 H1 ⟨[], ks.zip ws⟩ (perm π ws) (perm π zs) Q E0 hG hr I1.env0 (hb s1 ws hwl) (vals_perm rz) q) ?_)
  rintro (e | _ | _ | _ | u) s' hq
  all_goals first
    | exact I1.after hq
    | exact False.elim hq
def wNm (F : FP) (n : Nat) (π : List Nat) (wA : WA) : WE := fun s Q => wA s fun ds s1 => ds.length = n ∧ F (perm π ds) fun d => Q d s1
theorem ie_nm {F : FP} {n : Nat} {π : List Nat} (h : IA C tA wA) : IE C (tNm (spP C.K F) n π E0 tA) (wNm F n π wA) := fun G σ H s Q Q' r q k =>
  h G σ H s _ _ r q fun vs ds s1 G1 H1 q1 r1 eg eh p => ⟨by rw [dpa_len p]; exact q1.1, G1, perm π ds, _, r1.fin.gh, dpa_perm p, q1.2, fun v d G2 H2 q2 eg2 eh2 gh nw pd =>
    k v d s1 G2 H2 q2 (r1.grow eg2 eh2 gh nw) (eg.trans eg2) (eh.trans (.grow eh2 nw)) pd⟩
theorem de_nm {F : FP} {ks : List Str} {kws : List Keyword} {tk : TA} {wk : WA} (π : List Nat) (D : Def X.prog X.w X.K X.mg X.base k x st ps (spP C.K F)) (hG : X.A.guards = some []) (hr : Room k X.A) (hg : Gl X x)
    (hby : ∀ (kV doc pm : Value) (an : Option Addr) (cdv ct : Value) (ws : List Value), ws.length = ks.length → bindArgs (PySem.W.fnOf x x (defArgs st) (defBody st) (defScope st) .none kV doc pm an cdv ct) ⟨[], ks.zip ws⟩ = Pure.pure (ps.zip (perm π ws))) (hkw : DKw X C kws tk wk)
    (hall : (backToKw pos (keywordEach kws X.env)).all (·.1.isSome) = true := by rfl) (hks : (backToKw pos (keywordEach kws X.env)).filterMap (·.1) = ks := by rfl) (hdb : (x == ("__debug__" : Str)) = false := by decide)
    (hpl : ((backTo pos (starEach [] X.env)).any (·.1) || (backToKw pos (keywordEach kws X.env)).any (·.1.isNone)) = false := by rfl) :
    DE X C (.Call (.Name x p) [] kws pos) (tNm (spP C.K F) ks.length π E0 tk) (wNm F ks.length π wk) := by
  obtain ⟨f, fd, G, Fn, b, m⟩ := D.ex
  refine ⟨pe_nm (ks := ks) G hG hr hg m Fn.kp ?_ rfl hkw.pk hall hks hdb hpl, ie_nm hkw.ia⟩
  obtain ⟨oc, od, kV, doc, pm, an, cdv, ct, osl, rfl, lk, hcd⟩ := Fn.ex
  exact fun s ws hl => .of_eq (hby kV doc pm an cdv ct ws hl)
/-! ### name = [..] on one line -/
theorem ds_setLc {elt iter : Expr} {ifs : List Expr} {scope : Scope} {own : List (Str × Nat)} {wi : TI} {wI : WA} {g : TG} {ks : List Nat} {wg : WG} {tt : TT} {wt : WT} (i : Nat) {y : Str} {py spos : Pos} (hc : X.calm = true) (hN : X.N.Nodup) (hy : X.N[i]? = some y) (hyl : X.env.scope.names.lookup y = some .local)
    (hsw : swapsWith (.ListComp elt [⟨tg, iter, ifs, 0⟩] scope pos) (some (.Name y py)) spos.line X.env = Pure.pure true) (hi : DI X C tg iter wi wI) (ok : BlkOk X.N X.env.scope scope own)
    (hg : ∀ (s : Shared) (H : Hp) (A : Addr) (cl : List (Str × Addr)) (fp : List Addr), DG (X.blk s H scope (compEnvC scope cl A X.env) fp) C tg g ks wg)
    (ht : (∀ (s : Shared) (H : Hp) (A : Addr) (cl : List (Str × Addr)) (fp : List Addr), PTs (X.blk s H scope (compEnvC scope cl A X.env) fp) ifs tt) ∧ IT C tt wt)
    (he : ∀ (s : Shared) (H : Hp) (A : Addr) (cl : List (Str × Addr)) (fp : List Addr), DE (X.blk s H scope (compEnvC scope cl A X.env) fp) C elt te we) (hk : ∀ k ∈ ks, k ∈ own.map (·.2) := by decide) (hs : ∀ x, foldedSetIterable iter X.env x = Pure.pure x := by intro _; rfl) :
    DS X C (.Assign [.Name y py] (.ListComp elt [⟨tg, iter, ifs, 0⟩] scope pos) spos) (tAsg (tLc wi g tt te (own.map (·.2))) (gName i)) (wAsg (wPubO (wLc wI wg wt we (own.map (·.2)))) (wName i)) :=
  ⟨ps_setLc hc hN hy hyl hsw hi.pi ok (fun s H A cl fp => (hg s H A cl fp).pg) ht.1 (fun s H A cl fp => (he s H A cl fp).pe) hs, is_asg (ie_own (io_lc hk hi.ii (hg {} (fun _ => none) 0 [] []).ig ht.2 (he {} (fun _ => none) 0 [] []).ie)) (ig_name i)⟩
theorem ds_ownLc {elt iter : Expr} {ifs : List Expr} {scope : Scope} {own : List (Str × Nat)} {wi : TI} {wI : WA} {g : TG} {ks : List Nat} {wg : WG} {tt : TT} {wt : WT} (i : Nat) {y : Str} {py spos : Pos} (hc : X.calm = true) (hN : X.N.Nodup) (hy : X.N[i]? = some y) (hyl : X.env.scope.names.lookup y = some .local)
    (hsw : swapsWith (.ListComp elt [⟨tg, iter, ifs, 0⟩] scope pos) (some (.Name y py)) spos.line X.env = Pure.pure true) (hi : DI X C tg iter wi wI) (ok : BlkOk X.N X.env.scope scope own)
    (hg : ∀ (s : Shared) (H : Hp) (A : Addr) (cl : List (Str × Addr)) (fp : List Addr), DG (X.blk s H scope (compEnvC scope cl A X.env) fp) C tg g ks wg)
    (ht : (∀ (s : Shared) (H : Hp) (A : Addr) (cl : List (Str × Addr)) (fp : List Addr), PTs (X.blk s H scope (compEnvC scope cl A X.env) fp) ifs tt) ∧ IT C tt wt)
    (he : ∀ (s : Shared) (H : Hp) (A : Addr) (cl : List (Str × Addr)) (fp : List Addr), DE (X.blk s H scope (compEnvC scope cl A X.env) fp) C elt te we) (hk : ∀ k ∈ ks, k ∈ own.map (·.2) := by decide) (hs : ∀ x, foldedSetIterable iter X.env x = Pure.pure x := by intro _; rfl) :
    DS X C (.Assign [.Name y py] (.ListComp elt [⟨tg, iter, ifs, 0⟩] scope pos) spos) (tAsg (tLc wi g tt te (own.map (·.2))) (gName i)) (wOwn i (wLc wI wg wt we (own.map (·.2)))) :=
  ⟨ps_setLc hc hN hy hyl hsw hi.pi ok (fun s H A cl fp => (hg s H A cl fp).pg) ht.1 (fun s H A cl fp => (he s H A cl fp).pe) hs, is_own (io_lc hk hi.ii (hg {} (fun _ => none) 0 [] []).ig ht.2 (he {} (fun _ => none) 0 [] []).ie)⟩
theorem ts_nil : (∀ (s : Shared) (H : Hp) (scope : Scope) (A : Addr) (cl : List (Str × Addr)) (fp : List Addr), PTs (X.blk s H scope (compEnvC scope cl A X.env) fp) [] tYes) ∧ IT C tYes (fun s Q => Q true s) :=
  ⟨fun _ _ _ _ _ _ => pts_nil, fun G σ H s Q Q' r q k => k true s G H q r (Ex.refl G) Gs.refl⟩
theorem ts_one {c : Expr} {scope : Scope} {tt : TT} {wt : WT} (h : ∀ (s : Shared) (H : Hp) (A : Addr) (cl : List (Str × Addr)) (fp : List Addr), DT (X.blk s H scope (compEnvC scope cl A X.env) fp) C c tt wt) :
    (∀ (s : Shared) (H : Hp) (A : Addr) (cl : List (Str × Addr)) (fp : List Addr), PTs (X.blk s H scope (compEnvC scope cl A X.env) fp) [c] tt) ∧ IT C tt wt := ⟨fun s H A cl fp => pts_one (h s H A cl fp).pt, (h {} (fun _ => none) 0 [] []).it⟩
theorem ts_no {scope : Scope} : (∀ (s : Shared) (H : Hp) (A : Addr) (cl : List (Str × Addr)) (fp : List Addr), PTs (X.blk s H scope (compEnvC scope cl A X.env) fp) [] tYes) ∧ IT C tYes (fun s Q => Q true s) :=
  ⟨fun _ _ _ _ _ => pts_nil, fun G σ H s Q Q' r q k => k true s G H q r (Ex.refl G) Gs.refl⟩
/-! ### several names at once, some of them new lists of the def's own -/
abbrev WX := Dt → (DV → Dt → Prop) → Prop
abbrev WXs := Dt → (List DV → Dt → Prop) → Prop
def PV (C : Ct) (σ : L2.St) (G H : Hp) (s : Dt) (v : V) : DV → Prop
  | .d x => Dp C.K G v x
  | .own ds => ∃ p xs, v = .ref p ∧ H p = some (.lst xs) ∧ C.H0 p = none ∧ G p = none ∧ DpAll C.K G xs ds ∧ ∀ (i : Nat) x, s.env[i]? = some (some x) → x.mut = true → σ[i]? ≠ some (some (.ref p))
  | _ => False
theorem PV.mono {σ : L2.St} {G H G' H' : Hp} {s s' : Dt} {v : V} {x : DV} (h : PV C σ G H s v x) (r : Rel C G σ H s) (eg : Ex G G') (g : Gs C σ G H s G' H' s') : PV C σ G' H' s' v x := by
  cases x with
  | d _ => exact dp_ex eg h
  | own ds =>
    obtain ⟨p, xs, a1, a2, a3, a4, a5, a6⟩ := h
    refine ⟨p, xs, a1, g.gr p _ (r.fin.nbx a3) a2, a3, g.nk p a4 (by rw [a2]; exact Option.some_ne_none _) a6, dpa_ex eg a5, fun i y e m => ?_⟩
    obtain ⟨y', e', m'⟩ := g.ks i y e m
    exact a6 i y' e' m'
  | dic _ => exact h
  | dit _ => exact h
  | dd _ => exact h
  | box => exact h
theorem PV.rv {σ : L2.St} {G H : Hp} {s : Dt} {v : V} {x : DV} (h : PV C σ G H s v x) : RV C G H v x := by
  cases x with
  | d _ => exact h
  | own ds =>
    obtain ⟨p, xs, a1, a2, a3, a4, a5, a6⟩ := h
    exact ⟨p, xs, a1, a2, a3, a4, a5⟩
  | dic _ => exact h.elim
  | dit _ => exact h.elim
  | dd _ => exact h.elim
  | box => exact h.elim
/-- new places over H -/
def Frs (H : Hp) (vs : List V) (xs : List DV) : Prop := ∀ (i : Nat) x p, xs[i]? = some x → x.mut = true → vs[i]? = some (.ref p) → H p = none
def Dst (vs : List V) (xs : List DV) : Prop := ∀ (i j : Nat) x y p, i ≠ j → xs[i]? = some x → xs[j]? = some y → x.mut = true → y.mut = true → vs[i]? = some (.ref p) → vs[j]? ≠ some (.ref p)
inductive PVs (C : Ct) (σ : L2.St) (G H : Hp) (s : Dt) : List V → List DV → Prop
  | nil : PVs C σ G H s [] []
  | cons {v : V} {x : DV} {vs : List V} {xs : List DV} : PV C σ G H s v x → PVs C σ G H s vs xs → PVs C σ G H s (v :: vs) (x :: xs)
def IX (C : Ct) (t : TE) (w : WX) : Prop := ∀ G σ H s Q Q', Rel C G σ H s → w s Q →
  (∀ v x s' G' H', Q x s' → Rel C G' σ H' s' → Ex G G' → Gs C σ G H s G' H' s' → PV C σ G' H' s' v x → (∀ p, x.mut = true → v = .ref p → H p = none) → Q' v H') → t σ H Q'
def IXs (C : Ct) (t : TA) (w : WXs) : Prop := ∀ G σ H s Q Q', Rel C G σ H s → w s Q →
  (∀ vs xs s' G' H', Q xs s' → Rel C G' σ H' s' → Ex G G' → Gs C σ G H s G' H' s' → PVs C σ G' H' s' vs xs → Frs H vs xs → Dst vs xs → Q' vs H') → t σ H Q'
structure DX (X : Cx) (C : Ct) (e : Expr) (t : TE) (w : WX) : Prop where
  pe : PE X e t
  ix : IX C t w
structure DXs (X : Cx) (C : Ct) (es : List Expr) (t : TA) (w : WXs) : Prop where
  pa : PA X es t
  ix : IXs C t w
theorem DE.dx (h : DE X C e t w) : DX X C e t (fun s Q => w s fun d s1 => Q (.d d) s1) := ⟨h.pe, fun G σ H s Q Q' r q k => h.ie G σ H s _ _ r q fun v d s' G' H' q' r' eg g p => k v (.d d) s' G' H' q' r' eg g p fun _ m => nomatch m⟩
theorem DO.dx {w : WA} (h : DO X C e t w) : DX X C e t (fun s Q => w s fun ds s1 => Q (.own ds) s1) := ⟨h.pe, fun G σ H s Q Q' r q k => h.io G σ H s _ _ r q fun p xs ds s' G' H' q' r' eg g hp h1 h2 h3 h4 =>
  k (.ref p) (.own ds) s' G' H' q' r' eg g ⟨p, xs, rfl, h1, r.fin.h0 hp, h2, h3, h4⟩ fun p' _ z => by cases z; exact hp⟩
theorem dx_nil : DXs X C [] tNil (fun s Q => Q [] s) := ⟨pa_nil, fun G σ H s Q Q' r q k => k [] [] s G H q r (Ex.refl G) Gs.refl .nil (fun i x p e => by simp at e) fun i j x y p _ e => by simp at e⟩
theorem PVs.mono {σ : L2.St} {G H G' H' : Hp} {s s' : Dt} (r : Rel C G σ H s) (eg : Ex G G') (g : Gs C σ G H s G' H' s') : ∀ {vs : List V} {xs : List DV}, PVs C σ G H s vs xs → PVs C σ G' H' s' vs xs
  | _, _, .nil => .nil
  | _, _, .cons h t => .cons (h.mono r eg g) (PVs.mono r eg g t)
theorem dx_cons {tr : TA} {w : WX} {wr : WXs} (h : DX X C e t w) (hr : DXs X C es tr wr) (hs : starEach (e :: es) X.env = (false, eval e X.env) :: starEach es X.env := by rfl) : DXs X C (e :: es) (tCons t tr) (fun s Q => w s fun x s1 => wr s1 fun xs s2 => Q (x :: xs) s2) :=
  ⟨pa_cons h.pe hr.pa hs, fun G σ H s Q Q' r q k => h.ix G σ H s _ _ r q fun v x s1 G1 H1 q1 r1 eg1 g1 p1 f1 => hr.ix G1 σ H1 s1 _ _ r1 q1 fun vs xs s2 G2 H2 q2 r2 eg2 g2 p2 f2 d2 => by
    refine k (v :: vs) (x :: xs) s2 G2 H2 q2 r2 (eg1.trans eg2) (g1.trans g2) (.cons (p1.mono r1 eg2 g2) p2) (fun i y p ei m hv => ?_) fun i j y z p hne ei ej m1 m2 hv => ?_
    · cases i with
      | zero =>
        cases ei
        cases hv
        exact f1 p m rfl
      | succ i =>
        have := f2 i y p (by simpa using ei) m (by simpa using hv)
        cases q : H p with
        | none => rfl
        | some o => exact absurd this (g1.dom p (by rw [q]; exact Option.some_ne_none _))
    · have key : ∀ (n : Nat) (y z : DV) (p : Addr), y = x → xs[n]? = some z → y.mut = true → z.mut = true → v = .ref p → vs[n]? ≠ some (.ref p) := fun n y z p e1 e2 m1 m2 hv hn => by
        subst e1
        have hz := f2 n z p e2 m2 hn
        cases y with
        | own ds =>
          obtain ⟨p', xs', a1, a2, _⟩ := p1
          rw [hv] at a1
          cases a1
          rw [hz] at a2
          cases a2
        | dic _ => exact p1
        | dit _ => exact p1
        | dd _ => exact p1
        | d _ => cases m1
        | box => cases m1
      cases i with
      | zero =>
        cases j with
        | zero => exact absurd rfl hne
        | succ j =>
          cases ei
          cases hv
          simpa using key j x z p rfl (by simpa using ej) m1 m2 rfl
      | succ i =>
        cases j with
        | zero =>
          cases ej
          intro hn
          cases hn
          exact key i x y p rfl (by simpa using ei) m2 m1 rfl (by simpa using hv)
        | succ j => simpa using d2 i j y z p (fun e => hne (by rw [e])) (by simpa using ei) (by simpa using ej) m1 m2 (by simpa using hv)⟩
/-- names by slots, all different -/
def setS (σ : L2.St) : List Nat → List V → L2.St
  | k :: ks, v :: vs => setS (σ.set k (some v)) ks vs
  | _, _ => σ
def Dt.sets (s : Dt) : List Nat → List DV → Dt
  | k :: ks, x :: xs => (s.set k x).sets ks xs
  | _, _ => s
theorem rel_sets {G H : Hp} : ∀ {ks : List Nat} {vs : List V} {xs : List DV} {σ : L2.St} {s : Dt}, Rel C G σ H s → PVs C σ G H s vs xs → Dst vs xs → Rel C G (setS σ ks vs) H (s.sets ks xs)
  | [], _, _, _, _, r, _, _ => r
  | _ :: _, _, _, _, _, r, .nil, _ => r
  | k :: ks, _, _, σ, s, r, .cons (v := v) (x := x) (vs := vs) (xs := xs) h t, hd => by
    have r1 : Rel C G (σ.set k (some v)) H (s.set k x) := r.put h.rv fun m j y p ej mj hv => by
      cases x with
      | own ds =>
        obtain ⟨p', xs', a1, a2, a3, a4, a5, a6⟩ := h
        rw [hv] at a1
        cases a1
        exact a6 j y ej mj
      | d _ => cases m
      | box => cases m
      | dic _ => exact h.elim
      | dit _ => exact h.elim
      | dd _ => exact h.elim
    refine rel_sets (ks := ks) r1 ?_ fun i j y z p hne ei ej m1 m2 hv => by
      simpa using hd (i + 1) (j + 1) y z p (fun e => hne (Nat.succ.inj e)) (by simpa using ei) (by simpa using ej) m1 m2 (by simpa using hv)
    -- the others stay no slot's
    have go : ∀ {vs' : List V} {xs' : List DV}, PVs C σ G H s vs' xs' → (∀ (n : Nat) z p, xs'[n]? = some z → z.mut = true → vs'[n]? = some (.ref p) → x.mut = true → v ≠ .ref p) → PVs C (σ.set k (some v)) G H (s.set k x) vs' xs' := by
      intro vs' xs' hp
      induction hp with
      | nil => exact fun _ => .nil
      | @cons v' x' vs' xs' h' t' ih =>
        intro hq
        refine .cons ?_ (ih fun n z p e m hv => hq (n + 1) z p (by simpa using e) m (by simpa using hv))
        cases x' with
        | d _ => exact h'
        | own ds' =>
          obtain ⟨p', xs'', a1, a2, a3, a4, a5, a6⟩ := h'
          refine ⟨p', xs'', a1, a2, a3, a4, a5, fun i y e m => ?_⟩
          rcases get_set e with ⟨rfl, rfl, hl⟩ | ⟨z, e⟩
          · intro hs
            rw [List.getElem?_set_self (by rw [← r.len]; exact hl)] at hs
            cases hs
            exact hq 0 _ p' rfl rfl (by rw [a1]; rfl) m rfl
          · rw [List.getElem?_set_ne (Ne.symm z)]
            exact a6 i y e m
        | dic _ => exact h'
        | dit _ => exact h'
        | dd _ => exact h'
        | box => exact h'
    exact go t fun n z p e m hv hx hvp => hd 0 (n + 1) x z p (by omega) rfl (by simpa using e) hx m (by rw [hvp]; rfl) (by simpa using hv)
def wPar (n : Nat) (ks : List Nat) (w : WXs) : WS := fun DD s => w s fun xs s1 => xs.length = n ∧ DD.nx (s1.sets ks xs)
theorem pvs_len {σ : L2.St} {G H : Hp} {s : Dt} : ∀ {vs : List V} {xs : List DV}, PVs C σ G H s vs xs → vs.length = xs.length
  | _, _, .nil => rfl
  | _, _, .cons _ t => by rw [List.length_cons, List.length_cons, pvs_len t]
theorem is_par2 {i j : Nat} {w : WXs} (h : IXs C tA w) : IS C (tPar i j tA) (wPar 2 [i, j] w) := fun G σ H s D DD r q o => h G σ H s _ _ r q fun vs xs s1 G1 H1 q1 r1 eg g p f d => by
  obtain ⟨hl, q1⟩ := q1
  have hv := pvs_len p
  match vs, hv with
  | [v, v'], _ => exact ⟨v, v', rfl, o.nx _ H1 _ G1 q1 (rel_sets (ks := [i, j]) r1 p d) eg⟩
  | [], hv => rw [hl] at hv; simp at hv
  | [_], hv => rw [hl] at hv; simp at hv
  | _ :: _ :: _ :: _, hv => rw [hl] at hv; simp at hv
theorem ds_par2 (i j : Nat) {xn yn : Str} {px py pt : Pos} {kt k2 pt2} {w : WXs} (hc : X.calm = true) (hN : X.N.Nodup) (h : DXs X C [a, b] tA w) (hi : X.N[i]? = some xn := by rfl) (hj : X.N[j]? = some yn := by rfl) (hij : i ≠ j := by decide)
    (hx : X.env.scope.names.lookup xn = some .local := by rfl) (hy : X.env.scope.names.lookup yn = some .local := by rfl)
    (hw : swappedStores [.Tuple [.Name xn px, .Name yn py] kt pt] (.Tuple [a, b] k2 pt2) X.env = Pure.pure (some [xn, yn]) := by rfl)
    (hs : swapsWithSole [.Tuple [.Name xn px, .Name yn py] kt pt] (.Tuple [a, b] k2 pt2) pos.line X.env = Pure.pure false := by rfl) :
    DS X C (.Assign [.Tuple [.Name xn px, .Name yn py] kt pt] (.Tuple [a, b] k2 pt2) pos) (tPar i j tA) (wPar 2 [i, j] w) := ⟨ps_par hc hN hi hj hij hx hy h.pa hw hs, is_par2 h.ix⟩
theorem is_par3 {i j l : Nat} {w : WXs} (h : IXs C tA w) : IS C (tPar3 i j l tA) (wPar 3 [i, j, l] w) := fun G σ H s D DD r q o => h G σ H s _ _ r q fun vs xs s1 G1 H1 q1 r1 eg g p f d => by
  obtain ⟨hl, q1⟩ := q1
  have hv := pvs_len p
  match vs, hv with
  | [v, v', v''], _ => exact ⟨v, v', v'', rfl, o.nx _ H1 _ G1 q1 (rel_sets (ks := [i, j, l]) r1 p d) eg⟩
  | [], hv => rw [hl] at hv; simp at hv
  | [_], hv => rw [hl] at hv; simp at hv
  | [_, _], hv => rw [hl] at hv; simp at hv
  | _ :: _ :: _ :: _ :: _, hv => rw [hl] at hv; simp at hv
def gNames : List Nat → TGs
  | [] => gNil
  | k :: ks => gCons (gName k) (gNames ks)
theorem ig_names {G H : Hp} {D : L2.St → Hp → Prop} : ∀ {ks : List Nat} {vs : List V} {σ : L2.St}, vs.length = ks.length → D (setS σ ks vs) H → gNames ks vs σ H D
  | [], [], _, _, h => ⟨rfl, h⟩
  | k :: ks, v :: vs, σ, hl, h => ⟨v, vs, rfl, ig_names (G := G) (ks := ks) (by simpa using hl) h⟩
theorem is_parT {n : Nat} {ks : List Nat} {w : WXs} (hn : ks.length = n) (hn2 : n ≤ 100 := by decide) (h : IXs C tA w) : IS C (tAsg (tTup tA) (gTup C.K n (gNames ks))) (wPar n ks w) := fun G σ H s D DD r q o => h G σ H s _ _ r q fun vs xs s1 G1 H1 q1 r1 eg g p f d => by
  obtain ⟨hl, q1⟩ := q1
  have hv := pvs_len p
  refine ⟨sz_of (by omega), fun T hT => ⟨T, vs, rfl, .inl (.inl upd_same), by omega, ig_names (G := G) (by omega) ?_⟩⟩
  have e : Ex H1 (upd H1 T (.tup vs)) := Ex.new hT
  exact o.nx _ _ _ G1 q1 (rel_sets (ks := ks) (r1.aside e) (p.mono r1 (Ex.refl G1) (.side e)) d) eg
theorem ds_parT {n : Nat} (ks : List Nat) {kk k2 : Nat} {es2 : List Expr} {pt pt2 : Pos} {w : WXs} (hK : X.K = C.K) (hpg : PG X (.Tuple es kk pt) (gTup X.K n (gNames ks))) (hn : ks.length = n) (h : DXs X C es2 tA w) (hn2 : n ≤ 100 := by decide)
    (hs : swapsWithSole [.Tuple es kk pt] (.Tuple es2 k2 pt2) pos.line X.env = Pure.pure false := by rfl) (hw : swappedStores [.Tuple es kk pt] (.Tuple es2 k2 pt2) X.env = Pure.pure none := by rfl) (h1 : (assignEach [.Tuple es kk pt] X.env).map (·.2) = [assign (.Tuple es kk pt) X.env] := by rfl) :
    DS X C (.Assign [.Tuple es kk pt] (.Tuple es2 k2 pt2) pos) (tAsg (tTup tA) (gTup C.K n (gNames ks))) (wPar n ks w) := ⟨ps_asg (pe_tup h.pa) (hK ▸ hpg) hs hw h1, is_parT hn hn2 h.ix⟩
end
end Dw

namespace Dw
open PySem PySem.Spec PyProof.Rows L2 OgR Evl
section
variable {X : Cx} {C : Ct} {a b e tg : Expr} {es : List Expr} {pos p : Pos} {t ta tb tc te ty : TE} {w wa wb wc we wy : WE} {tA : TA} {wA : WA} {x : Str} {st : Stmt} {sts : List Stmt} {ps : List Str} {k : Nat}
/-! ### constants of the module -/
structure GC (K : PySem.W.Frag) (mg : Str → Option Value) (x : Str) (d : PyData) : Prop where
  ex : ∃ a, mg x = some (.ref a) ∧ ∀ G, Dp K G (.ref a) d
def tGl (mg : Str → Option Value) (x : Str) : TE := fun _ H Q => ∀ a, mg x = some (.ref a) → Q (.ref a) H
theorem de_gc {d : PyData} {mg : Str → Option Value} (c : GC C.K mg x d) (hg : Gl X x) (hmg : X.mg = mg := by rfl) (hd : (x == ("__debug__" : Str)) = false := by decide) : DE X C (.Name x pos) (tGl mg x) (wC d) := by
  subst hmg
  obtain ⟨a, hm, hD⟩ := c.ex
  refine ⟨⟨fun pins s σ H Q I h => (pe_glob (v := .ref a) hg hm rfl hd).run pins s σ H Q I (h a hm)⟩, fun G σ H s Q Q' r q k a' hm' => ?_⟩
  rw [hm] at hm'
  cases hm'
  exact k _ _ s G H q r (Ex.refl G) Gs.refl (hD G)
/-- an int of the module -/
theorem de_gi {i : Int} {tk : Tok} (hm : X.mg x = some (.int i tk)) (hg : Gl X x) (hd : (x == ("__debug__" : Str)) = false := by decide) : DE X C (.Name x pos) (tC (.int i)) (wC (.int i)) := ⟨pe_glob hg hm ⟨_, rfl⟩ hd, ie_c fun _ => .int _⟩
/-! ### dicts of constants, by a key -/
def vOf : PyData → V
  | .int i => .int i
  | .str z => .str z
  | .bool b => .bl b
  | _ => .non
def flt : PyData → Bool
  | .int _ | .str _ | .bool _ | .none => true
  | _ => false
theorem dp_flt {K : PySem.W.Frag} {G : Hp} {d : PyData} (h : flt d = true) : Dp K G (vOf d) d := by
  cases d with
  | none => exact .non
  | bool b => exact .bl b
  | int i => exact .int i
  | str z => exact .str z
  | list _ => cases h
  | tuple _ => cases h
  | dict _ => cases h
structure GD (wd : World) (K : PySem.W.Frag) (mg : Str → Option Value) (x : Str) (tbl : List (Str × PyData)) : Prop where
  ex : ∃ a, mg x = some (.ref a) ∧ ∀ z d, (z, d) ∈ tbl → flt d = true ∧ KDct K wd a z (vOf d)
def wGix (tbl : List (Str × PyData)) (wy : WE) : WE := fun s Q => wy s fun y s1 => ∃ z d, y = .str z ∧ (z, d) ∈ tbl ∧ Q d s1
theorem de_gix {tbl : List (Str × PyData)} {p2 : Pos} {wd : World} {mg : Str → Option Value} (c : GD wd C.K mg x tbl) (hK : X.K = C.K) (hg : Gl X x) (hy : DE X C b ty wy) (hmg : X.mg = mg := by rfl) (hwd : X.w = wd := by rfl) (hs : PlainIx b := by exact fun _ _ => rfl) (hd : (x == ("__debug__" : Str)) = false := by decide) :
    DE X C (.Subscript (.Name x p2) b pos) (tOp (rIxD C.K wd) (tGl mg x) ty) (wGix tbl wy) := by
  subst hmg hwd
  obtain ⟨a, hm, hD⟩ := c.ex
  have hpe : PE X (.Name x p2) (tGl X.mg x) := ⟨fun pins s σ H Q I h => (pe_glob (v := .ref a) hg hm rfl hd).run pins s σ H Q I (h a hm)⟩
  refine ⟨pe_ix (hK ▸ ix_kdict) hpe hy.pe hs, fun G σ H s Q Q' r q k a' hm' => hy.ie G σ H s _ _ r q fun v d s1 G1 H1 q1 r1 eg g pd => ?_⟩
  rw [hm] at hm'
  cases hm'
  obtain ⟨z, dd, rfl, hz, q1⟩ := q1
  obtain ⟨hf, kd⟩ := hD z dd hz
  exact ⟨a, z, vOf dd, rfl, dp_str pd, kd, k _ _ s1 G1 H1 q1 r1 eg g (dp_flt hf)⟩
/-- a displayed dict -/
def keyD : PyData → Option Key
  | .int i => some (.inl i)
  | .str z => some (.inr z)
  | _ => none
theorem key_v {K : PySem.W.Frag} {G : Hp} {v : V} {d : PyData} {k : Key} (h : Dp K G v d) (e : keyD d = some k) : v = kV k := by
  cases h with
  | int i => cases e; rfl
  | str z => cases e; rfl
  | _ => cases e
def kvsV (tbl : List (Key × PyData)) : List (Key × V) := tbl.map fun kd => (kd.1, vOf kd.2)
def lookD (tbl : List (Key × PyData)) (k : Key) : Option PyData := (tbl.find? fun kd => decide (kd.1 = k)).map (·.2)
def wDix (tbl : List (Key × PyData)) (wy : WE) : WE := fun s Q => wy s fun y s1 => ∃ k d, keyD y = some k ∧ lookD tbl k = some d ∧ Q d s1
theorem valV_of {tbl : List (Key × PyData)} {k : Key} {d : PyData} (h : lookD tbl k = some d) : valV (kvsV tbl) k = some (vOf d) := by
  unfold lookD at h
  unfold valV kvsV
  rw [List.find?_map]
  cases q : tbl.find? (fun kd => decide (kd.1 = k)) with
  | none => rw [q] at h; cases h
  | some kd =>
    rw [q] at h
    cases h
    have e : ((fun kv : Key × V => decide (kv.1 = k)) ∘ fun kd : Key × PyData => (kd.1, vOf kd.2)) = fun kd => decide (kd.1 = k) := rfl
    rw [e, q]
    rfl
theorem lookD_mem {tbl : List (Key × PyData)} {k : Key} {d : PyData} (h : lookD tbl k = some d) : (k, d) ∈ tbl := by
  unfold lookD at h
  cases q : tbl.find? (fun kd => decide (kd.1 = k)) with
  | none => rw [q] at h; cases h
  | some kd =>
    rw [q] at h
    cases h
    have h1 := List.find?_some q
    have h2 := List.mem_of_find?_eq_some q
    obtain ⟨k', d'⟩ := kd
    have e : k' = k := of_decide_eq_true h1
    subst e
    exact h2
theorem de_dix {keys : List (Option Expr)} {vals : List Expr} {trs : List (TE × TE)} {p2 : Pos} (tbl : List (Key × PyData)) (hu : X.A.units + 1 < cLine) (hp : PE X (.Dict keys vals p2) (tDisp trs)) (hc : ∀ σ H Q, Q ((kvsV tbl).map fun kv => (kV kv.1, kv.2)) H → tPairs trs σ H Q) (hy : DE X C b ty wy)
    (hm : mergeK [] (kvsV tbl) = kvsV tbl := by rfl) (hl : tbl.length ≤ 15 := by decide) (hf : ∀ kd ∈ tbl, flt kd.2 = true := by decide) (hs : NoSl b := by exact fun _ _ => rfl) :
    DE X C (.Subscript (.Dict keys vals p2) b pos) (tDGet (tDisp trs) ty) (wDix tbl wy) := ⟨pe_dget hu hp hy.pe hs, fun G σ H s Q Q' r q k pp hpp => hc _ _ _ ⟨upd_same, kvsV tbl, rfl, by unfold kvsV; rw [List.length_map]; exact hl, by
    have e1 : Ex H (upd (upd H pp (.dK [])) pp (.dK (mergeK [] (kvsV tbl)))) := by
      rw [upd_upd]
      exact Ex.new hpp
    refine hy.ie G σ _ s _ _ (r.aside e1) q fun v d s1 G1 H1 q1 r1 eg g pd => ?_
    obtain ⟨kk, dd, hk, hl2, q1⟩ := q1
    have hp1 : H1 pp = some (.dK (kvsV tbl)) := by
      rw [hm] at g
      exact g.gr pp _ (r.fin.nbx (r.fin.h0 hpp)) upd_same
    refine ⟨pp, vOf dd, rfl, ?_, k _ _ s1 G1 H1 q1 r1 eg ((Gs.side e1).trans g) (dp_flt (hf _ (lookD_mem hl2)))⟩
    rw [key_v pd hk, ← valV_of hl2]
    exact DGet.k hp1⟩⟩
/-! ### list + list, looked at -/
def rCatL (K : PySem.W.Frag) : R2 := fun x y H Q => ∃ l m xs zs, x = .ref l ∧ y = .ref m ∧ SqL K H l xs ∧ SqL K H m zs ∧ xs.length + zs.length ≤ sizeLine ∧ ∀ p, H p = none → Q (.ref p) (upd H p (.lst (xs ++ zs)))
theorem op_catL : OpR X (binaryOp .Add) (rCatL X.K) := by
  intro pins s σ H x y v u Q I rx ry h
  obtain ⟨l, m, xs, zs, rfl, rfl, h1, h2, hz, q⟩ := h
  cases rx
  cases ry
  obtain ⟨its, r1, p1, _⟩ := I.list h1
  obtain ⟨js, r2, p2, _⟩ := I.list h2
  obtain ⟨⟨c1, d1, t1, s1⟩, n1, g1, e1, _, k1⟩ := p1
  obtain ⟨⟨c2, d2, t2, s2⟩, n2, g2, e2, _, k2⟩ := p2
  simp only at e1 k1 e2 k2
  subst e1 k1 e2 k2
  have hl : its.toArray.size + js.toArray.size ≤ sizeLine := by rw [List.size_toArray, List.size_toArray, ← r1.length, ← r2.length]; exact hz
  have hp := list_addW l m its.toArray js.toArray n1 n2 d1 d2 s1 s2 hl
  refine concat_meets ⟨_, g1, rfl⟩ ⟨_, g2, rfl⟩ noFill_list_add seq_list_add F.slot_list_add F.entry_list_add (F.args_list_add_2 _ _) hp ⟨g1, g2, ?_⟩
  rw [show its.toArray ++ js.toArray = (its ++ js).toArray by simp]
  exact ⟨.ref _, _, I.lnew (t' := s.toks) (r1.append r2) (by rw [List.length_append]; exact hz), rfl, q _ I.fresh⟩
def wCatP (u v : WE) : WA := fun s Q => u s fun d s1 => v s1 fun e s2 => ∃ ds es, d = .list ds ∧ e = .list es ∧ ds.length + es.length ≤ 100000 ∧ Q (ds ++ es) s2
theorem do_catP (hK : X.K = C.K) (ha : DP X C a ta wa) (hb : DP X C b tb wb) : DO X C (.BinOp a .Add b pos) (tOp (rCatL C.K) ta tb) (wCatP wa wb) := ⟨pe_op (hK ▸ op_catL) ha.pe hb.pe, fun G σ H s Q Q' r q k =>
  ha.ip G σ H s _ _ r q fun v d s1 G1 H1 q1 r1 eg1 g1 p1 => hb.ip G1 σ H1 s1 _ _ r1 q1 fun v2 d2 s2 G2 H2 q2 r2 eg2 g2 p2 => by
    obtain ⟨ds, es, rfl, rfl, hl, q2⟩ := q2
    obtain ⟨a, xs, rfl, h1, h2⟩ := pk_lst (p1.mono eg2 g2.gr) r2.fin.gh
    obtain ⟨b, ys, rfl, h3, h4⟩ := pk_lst p2 r2.fin.gh
    exact ⟨a, b, xs, ys, rfl, rfl, h1, h3, sz_of (by rw [dpa_len h2, dpa_len h4]; exact hl), fun l hl => own_new r q2 r2 (eg1.trans eg2) (g1.trans g2) (dpa_app h2 h4) hl k⟩⟩
/-! ### more of lists of the def's own -/
/-- y = x.pop(), y = x.pop(i) -/
def wPopTo (j i : Nat) (wA : WA) (f : List PyData → List PyData → (PyData → List PyData → Prop) → Prop) : WS := fun DD s => (∃ ds0, s.env[i]? = some (some (.own ds0))) ∧ wA s fun as s1 => ∃ ds, s1.env[i]? = some (some (.own ds)) ∧ f ds as fun d ds' => DD.nx ((s1.set i (.own ds')).set j (.d d))
def fPop : List PyData → List PyData → (PyData → List PyData → Prop) → Prop := fun ds as Q => ∃ ds' d, as = [] ∧ ds = ds' ++ [d] ∧ Q d ds'
theorem dpa_snoc {K : PySem.W.Frag} {G : Hp} {xs : List V} {ds : List PyData} {d : PyData} (h : DpAll K G xs (ds ++ [d])) : ∃ ys y, xs = ys ++ [y] ∧ DpAll K G ys ds ∧ Dp K G y d := by
  have h1 := dpa_take ds.length h
  have h2 := dpa_drop ds.length h
  rw [List.take_left' rfl] at h1
  rw [List.drop_left' rfl] at h2
  have e := List.take_append_drop ds.length xs
  generalize List.drop ds.length xs = r at h2 e
  cases h2 with
  | cons p1 p2 =>
    cases p2
    exact ⟨_, _, e.symm, h1, p1⟩
/-- a list's method of no argument, its answer stored -/
theorem is_pop0 {i j : Nat} : IS C (tAsg (tBM0 C.K "list" rPop (tVar i)) (gName j)) (wPopTo j i (fun s Q => Q [] s) fPop) := fun G σ H s D DD rr q o => by
  obtain ⟨⟨ds0, e0⟩, ds, e1, ds', d, _, rfl, q⟩ := q
  obtain ⟨v, hv, p, xs, rfl, a1, a2, a3, a4⟩ := rr.sl i _ e1
  obtain ⟨ys, y, rfl, h1, h2⟩ := dpa_snoc a4
  refine ⟨_, hv, .inl ⟨rfl, _, .inl (.inl a1)⟩, p, ys ++ [y], y, rfl, rfl, a1, ?_, ?_⟩
  · rw [List.length_append, List.length_singleton, Nat.add_sub_cancel, List.getElem?_concat_length]
  · rw [List.dropLast_concat]
    exact o.nx _ _ _ G q ((rr.mutl e1 hv h1).putd h2) (Ex.refl G)
theorem ds_popTo (j i : Nat) {y : Str} {apos cpos py : Pos} (hK : X.K = C.K) (hN : X.N.Nodup) (hb : PE X (.Call (.Attribute (.Name x p) "pop" apos) [] [] cpos) (tBM0 X.K "list" rPop (tVar i)))
    (hi : X.N[j]? = some y := by rfl) (hx : Loc X.env.scope y := by first | exact .inl rfl | exact .inr rfl) (hs : swapsWith (.Call (.Attribute (.Name x p) "pop" apos) [] [] cpos) (some (.Name y py)) pos.line X.env = Pure.pure false := by rfl)
    (hf : X.fn y = true ∨ X.env.scope.names.lookup y = some .local := by first | exact .inl rfl | exact .inr rfl | assumption) :
    DS X C (.Assign [.Name y py] (.Call (.Attribute (.Name x p) "pop" apos) [] [] cpos) pos) (tAsg (tBM0 C.K "list" rPop (tVar i)) (gName j)) (wPopTo j i (fun s Q => Q [] s) fPop) := ⟨ps_set hN hi hx (hK ▸ hb) hs hf, is_pop0⟩
/-- x.pop(i), x.insert(i, y) as statements -/
def fPopAt : List PyData → List PyData → (PyData → List PyData → Prop) → Prop := fun ds as Q => ∃ (n : Nat) (d : PyData), as = [.int n] ∧ ds[n]? = some d ∧ n < 100000 ∧ Q d (ds.eraseIdx n)
def fIns : List PyData → List PyData → (PyData → List PyData → Prop) → Prop := fun ds as Q => ∃ (n : Nat) (d : PyData), as = [.int n, d] ∧ ds.length < 100000 ∧ n < 100000 ∧ Q .none (ds.take n ++ [d] ++ ds.drop n)
theorem dpa_erase {K : PySem.W.Frag} {G : Hp} : ∀ {xs : List V} {ds : List PyData} (n : Nat), DpAll K G xs ds → DpAll K G (xs.eraseIdx n) (ds.eraseIdx n)
  | _, _, _, .nil => .nil
  | _, _, 0, .cons _ t => t
  | _, _, n + 1, .cons h t => .cons h (dpa_erase n t)
theorem seqIx {n m : Nat} (h : n < m) : seqIndex? (n : Int) m = some n := by
  have := (ixN_seq (n := m) (i := n) (j := n) (by unfold ixN; rw [if_pos (by omega), if_pos (by omega), Int.toNat_natCast])).1
  exact this
theorem ds_popAt (i : Nat) {apos cpos : Pos} (hK : X.K = C.K) (h : DE X C e t w) (hb : PE X (.Call (.Attribute (.Name x p) "pop" apos) [e] [] cpos) (tBM X.K "list" rPopAt (tVar i) (tCons t tNil)))
    (hs : swapsWith (.Call (.Attribute (.Name x p) "pop" apos) [e] [] cpos) none pos.line X.env = Pure.pure false := by rfl) :
    DS X C (.Expr (.Call (.Attribute (.Name x p) "pop" apos) [e] [] cpos) pos) (tDrop (tBM C.K "list" rPopAt (tVar i) (tCons t tNil))) (wDrop (wMeth i (wCons w fun s Q => Q [] s) fPopAt)) :=
  ⟨ps_expr (hK ▸ hb) hs, is_meth (fun G H p xs vs ds as R Q' h1 h2 h3 hf k => by
    obtain ⟨n, d, rfl, hd, hn, hf⟩ := hf
    cases h3 with
    | cons p1 p2 =>
      cases p2
      obtain ⟨v, hv, pv⟩ := dpa_back h2 hd
      have hl : n < xs.length := (List.getElem?_eq_some_iff.mp hv).1
      exact ⟨p, xs, n, n, v, rfl, by rw [dp_int p1], h1, by omega, by omega, seqIx hl, hv, k _ _ _ _ hf (dpa_erase n h2) pv⟩) (ia_cons h.ie ia_nil)⟩
theorem ds_ins (i : Nat) {apos cpos : Pos} (hK : X.K = C.K) (h : DE X C a ta wa) (h' : DE X C b tb wb) (hb : PE X (.Call (.Attribute (.Name x p) "insert" apos) [a, b] [] cpos) (tBM X.K "list" (fun x vs H Q => ∃ (l : Addr) (xs : List V) (i : Int) (y : V), x = .ref l ∧ vs = [.int i, y] ∧ H l = some (.lst xs) ∧ xs.length < sizeLine ∧ 0 ≤ i ∧ i < 2 ^ 63 ∧
    Q .non (upd H l (.lst (xs.take i.toNat ++ [y] ++ xs.drop i.toNat)))) (tVar i) (tCons ta (tCons tb tNil))))
    (hs : swapsWith (.Call (.Attribute (.Name x p) "insert" apos) [a, b] [] cpos) none pos.line X.env = Pure.pure false := by rfl) :
    DS X C (.Expr (.Call (.Attribute (.Name x p) "insert" apos) [a, b] [] cpos) pos) (tDrop (tBM C.K "list" (fun x vs H Q => ∃ (l : Addr) (xs : List V) (i : Int) (y : V), x = .ref l ∧ vs = [.int i, y] ∧ H l = some (.lst xs) ∧ xs.length < sizeLine ∧ 0 ≤ i ∧ i < 2 ^ 63 ∧
    Q .non (upd H l (.lst (xs.take i.toNat ++ [y] ++ xs.drop i.toNat)))) (tVar i) (tCons ta (tCons tb tNil)))) (wDrop (wMeth i (wCons wa (wCons wb fun s Q => Q [] s)) fIns)) :=
  ⟨ps_expr (hK ▸ hb) hs, is_meth (fun G H p xs vs ds as R Q' h1 h2 h3 hf k => by
    obtain ⟨n, d, rfl, hl, hn, hf⟩ := hf
    cases h3 with
    | cons p1 p2 =>
      cases p2 with
      | cons p2 p3 =>
        cases p3
        refine ⟨p, xs, n, _, rfl, by rw [dp_int p1], h1, sz_lt (by rw [dpa_len h2]; exact hl), by omega, by omega, ?_⟩
        rw [Int.toNat_natCast]
        exact k _ _ _ _ hf (dpa_app (dpa_app (dpa_take n h2) (.cons p2 .nil)) (dpa_drop n h2)) .non) (ia_cons h.ie (ia_cons h'.ie ia_nil))⟩
/-- x[i] = e -/
def wSetIx (i : Nat) (we wi : WE) : WS := fun DD s => we s fun d s1 => (∃ ds0, s1.env[i]? = some (some (.own ds0))) ∧ wi s1 fun k s2 => ∃ (n : Nat) (ds : List PyData), k = .int n ∧ s2.env[i]? = some (some (.own ds)) ∧ n < ds.length ∧ DD.nx (s2.set i (.own (ds.set n d)))
theorem ds_setIx (i : Nat) {p2 : Pos} (h : DE X C e t w) (hi : DE X C b ty wy) (hps : PS X (.Assign [.Subscript (.Name x p) b p2] e pos) (tAsg t (gSub (tVar i) ty rSetL))) : DS X C (.Assign [.Subscript (.Name x p) b p2] e pos) (tAsg t (gSub (tVar i) ty rSetL)) (wSetIx i w wy) := ⟨hps, fun G σ H s D DD r q o =>
  h.ie G σ H s _ _ r q fun v d s1 G1 H1 q1 r1 eg1 g1 pd => by
    obtain ⟨⟨ds0, e0⟩, q1⟩ := q1
    obtain ⟨v0, hv0, _⟩ := r1.sl i _ e0
    refine ⟨v0, hv0, hi.ie G1 σ H1 s1 _ _ r1 q1 fun v2 kk s2 G2 H2 q2 r2 eg2 g2 pk => ?_⟩
    obtain ⟨n, ds, rfl, e2, hn, q2⟩ := q2
    obtain ⟨v3, hv3, pp, xs, rfl, a1, a2, a3, a4⟩ := r2.sl i _ e2
    rw [hv0] at hv3
    cases hv3
    have hl : n < xs.length := by rw [dpa_len a4]; exact hn
    exact ⟨pp, xs, n, n, rfl, dp_int pk, a1, by unfold ixN; rw [if_pos (by omega), if_pos (by omega), Int.toNat_natCast], o.nx _ _ _ G2 q2 (r2.mutl e2 hv0 (dpa_set (dp_ex eg2 pd) n a4)) (eg1.trans eg2)⟩⟩
/-! ### repr of data -/
def RepOk (d : PyData) : Prop := d.showable = true ∧ d.hasDict = false ∧ d.depth ≤ 40 ∧ d.shown.length ≤ sizeLine
def gRepr : G1 := fun d s Q => RepOk d ∧ Q (.str d.shown) s
theorem r1_repr : R1D C (rRepr C.K) gRepr := ⟨fun G σ H s x d Q Q' r pk q k => by
  obtain ⟨⟨h1, h2, h3, h4⟩, q⟩ := q
  exact ⟨x, d, rfl, pk.dp r.fin.gh, h1, h2, h3, h4, k _ _ s G H q r (Ex.refl G) Gs.refl (.str _)⟩⟩
theorem de_repr (hK : X.K = C.K) (hG : X.A.guards = some []) (hu : X.A.units + 64 < cLine) (hg : Gl X "repr") (hm : X.mg "repr" = none) (ha : DP X C a ta wa) (hs : starEach [a] X.env = (false, eval a X.env) :: starEach [] X.env := by rfl) :
    DE X C (.Call (.Name "repr" p) [a] [] pos) (tCB (rRepr C.K) (tCons ta tNil)) (w1 gRepr wa) := de_b1 (hK ▸ cr_repr hG hu) r1_repr hg hm (by decide +kernel) ha (by decide) (by decide) hs
/-! ### min of a tuple of ints -/
def rMinT' (K : PySem.W.Frag) : List V → Hp → VK → Prop := fun vs H Q => ∃ (a : Addr) (n : Int) (ns : List Int), vs = [V.ref a] ∧ SqT K H a ((n :: ns).map V.int) ∧ Q (.int (ns.foldl min n)) H
theorem reads_ints {h : Heap} : ∀ {us : List Value} {ns : List Int}, IntsAre us ns → ∃ as, ReadsAll h us (ns.map PyData.int) as
  | _, _, .nil => ⟨_, .nil⟩
  | _, _, .cons n t r => by
    obtain ⟨as, q⟩ := reads_ints r
    exact ⟨_, .cons (.int n t) q⟩
theorem alike_ints (ns : List Int) : PySem.W.AlikeAll (ns.map PyData.int) := by
  refine ⟨fun x hx y hy => ?_, fun x hx => ?_⟩
  · obtain ⟨i, _, rfl⟩ := List.mem_map.mp hx
    obtain ⟨j, _, rfl⟩ := List.mem_map.mp hy
    simp only [PySem.W.alike]
  · obtain ⟨i, _, rfl⟩ := List.mem_map.mp hx
    exact fun e => nomatch e
theorem depth_ints : ∀ ns : List Int, PyData.depthAll (ns.map PyData.int) = 0
  | [] => by simp [PyData.depthAll]
  | n :: r => by rw [List.map_cons]; simp only [PyData.depthAll, PyData.depth]; rw [depth_ints r]; rfl
theorem cr_minT (hc : X.calm = true) (hu : X.A.units + 1 < cLine) : CallR X (.builtin "min") (rMinT' X.K) := by
  intro pins s σ H vs us Q I r h
  obtain ⟨a, n, ns, rfl, hs, q⟩ := h
  obtain ⟨its, rv, pt, hz⟩ := I.tuple hs
  rw [Vals.ref1 r]
  obtain ⟨as, ra⟩ := reads_ints (h := s.heap) rv.ints
  refine PySem.W.min_tuple_data (x := .int n) (xs := ns.map .int) (vs := its.toArray) (I.ok.hd hc) pt (by simpa using ra) (alike_ints (n :: ns)) ?_ fun i v h' tk bs hi rd hk => ?_
  · rw [show PyData.int n :: ns.map PyData.int = (n :: ns).map PyData.int from rfl, depth_ints]
    exact hu
  · rw [PySem.W.minD_ints] at rd
    cases rd
    exact ⟨.int _, H, I.kept hk, ⟨_, rfl⟩, q⟩
def gMinT : G1 := fun d s Q => ∃ (n : Int) (ns : List Int), d = .tuple ((n :: ns).map .int) ∧ Q (.int (ns.foldl min n)) s
theorem r1_minT : R1D C (rMinT' C.K) gMinT := ⟨fun G σ H s x d Q Q' r pk q k => by
  obtain ⟨n, ns, rfl, q⟩ := q
  obtain ⟨p, xs, rfl, h1, h2⟩ := pk_tup pk
  rw [ints_dpa h2] at h1
  exact ⟨p, n, ns, rfl, Evl.ex_t r.fin.gh h1, k _ _ s G H q r (Ex.refl G) Gs.refl (.int _)⟩⟩
theorem de_minT (hK : X.K = C.K) (hc : X.calm = true) (hu : X.A.units + 1 < cLine) (hg : Gl X "min") (hm : X.mg "min" = none) (ha : DP X C a ta wa) (hs : starEach [a] X.env = (false, eval a X.env) :: starEach [] X.env := by rfl) :
    DE X C (.Call (.Name "min" p) [a] [] pos) (tCB (rMinT' C.K) (tCons ta tNil)) (w1 gMinT wa) := de_b1 (hK ▸ cr_minT hc hu) r1_minT hg hm (by decide +kernel) ha (by decide) (by decide) hs
/-! ### tuple * int -/
end
end Dw

namespace Dw
open PySem PySem.Spec PyProof.Rows L2 OgR Evl
theorem u65 {k : Nat} {A : Around} (r : Room k A) : A.units + 65 < cLine := by have := r.un; omega
section
variable {X : Cx} {C : Ct} {a b c e tg : Expr} {es : List Expr} {pos p : Pos} {t ta tb tc te ty : TE} {w wa wb wc we wy : WE} {tA : TA} {wA : WA} {x : Str} {st : Stmt} {sts : List Stmt} {ps : List Str} {k : Nat}
theorem dgs_c {g : TG} {gs : TGs} {k1 k2 : List Nat} {w : WG} {u : WGs} (h1 : DG X C e g k1 w) (h2 : DGs X C es gs k2 u) (hs : (assignEach (e :: es) X.env).map (·.2) = assign e X.env :: (assignEach es X.env).map (·.2) := by rfl) :
    DGs X C (e :: es) (gCons g gs) (k1 ++ k2) (wGCons w u) := dgs_cons h1 h2 (pgs_cons h1.pg h2.pg hs)
theorem di_zip2 {elts : List Expr} {kk : Nat} {tpos : Pos} (hK : X.K = C.K) (hg : Gl X "zip") (hm : X.mg "zip" = none) (h : DE X C a ta wa) (h' : DE X C b tb wb) (hs : starEach [a, b] X.env = (false, eval a X.env) :: starEach [b] X.env := by rfl) (hs2 : starEach [b] X.env = (false, eval b X.env) :: starEach [] X.env := by rfl)
    (hpl : (backTo pos (starEach [b] X.env)).any (·.1) = false := by rfl) : DI X C (.Tuple elts kk tpos) (.Call (.Name "zip" p) [a, b] [] pos) (iZipB C.K (tCons ta (tCons tb tNil))) (wZip wa wb) :=
  di_zip hK hg hm h h' (pi_zipB hg hm (pa_cons h.pe (pa_cons h'.pe pa_nil hs2) hs) hs hpl)
theorem ds_par3 (i j l : Nat) {xn yn zn : Str} {px py pz pt : Pos} {kt k2 pt2} {w : WXs} (hc : X.calm = true) (hN : X.N.Nodup) (h : DXs X C [a, b, c] tA w) (hi : X.N[i]? = some xn := by rfl) (hj : X.N[j]? = some yn := by rfl) (hl : X.N[l]? = some zn := by rfl) (hij : i ≠ j := by decide) (hil : i ≠ l := by decide) (hjl : j ≠ l := by decide)
    (hx : X.env.scope.names.lookup xn = some .local := by rfl) (hy : X.env.scope.names.lookup yn = some .local := by rfl) (hz : X.env.scope.names.lookup zn = some .local := by rfl)
    (hw : swappedStores [.Tuple [.Name xn px, .Name yn py, .Name zn pz] kt pt] (.Tuple [a, b, c] k2 pt2) X.env = Pure.pure (some [xn, yn, zn]) := by rfl)
    (hs : swapsWithSole [.Tuple [.Name xn px, .Name yn py, .Name zn pz] kt pt] (.Tuple [a, b, c] k2 pt2) pos.line X.env = Pure.pure false := by rfl) :
    DS X C (.Assign [.Tuple [.Name xn px, .Name yn py, .Name zn pz] kt pt] (.Tuple [a, b, c] k2 pt2) pos) (tPar3 i j l tA) (wPar 3 [i, j, l] w) := ⟨ps_par3 hc hN hi hj hl hij hil hjl hx hy hz h.pa hw hs, is_par3 h.ix⟩
/-! the methods of a list of the def's own, in short -/
theorem ds_app (i : Nat) {apos cpos : Pos} (hK : X.K = C.K) (h : DE X C e t w) (hv : PE X (.Name x p) (tVar i) := by exact pv _) (hb0 : attributeBase (.Name x p) "append" X.env (eval (.Name x p) X.env) = eval (.Name x p) X.env := by rfl)
    (hfew : ((backTo cpos (starEach [e] X.env)).all (fun x => !x.1) && (backToKw cpos (keywordEach [] X.env)).all (fun x => x.1.isSome) && decide ([e].length + ([] : List Keyword).length + (if ([] : List Keyword).isEmpty then 0 else 1) < 30)) = true := by rfl)
    (hline : (apos.endLine == cpos.line) = true := by rfl) (hst : starEach [e] X.env = (false, eval e X.env) :: starEach [] X.env := by rfl) (hpl : (backTo cpos (starEach [] X.env)).any (·.1) = false := by rfl)
    (hs : swapsWith (.Call (.Attribute (.Name x p) "append" apos) [e] [] cpos) none pos.line X.env = Pure.pure false := by rfl) :
    DS X C (.Expr (.Call (.Attribute (.Name x p) "append" apos) [e] [] cpos) pos) (tDrop (tBM C.K "list" rAppend (tVar i) (tCons t tNil))) (wDrop (wMeth i (wCons w fun s Q => Q [] s) fAppend)) :=
  ds_append i hK h hv (pe_bm PySem.F.plainAttrs_list PySem.F.slot_list_append PySem.F.type_list_append mt_append hv (pa_cons h.pe pa_nil hst) hb0 hfew hline hst hpl) hs
theorem ds_popA (i : Nat) {apos cpos : Pos} (hK : X.K = C.K) (h : DE X C e t w) (hv : PE X (.Name x p) (tVar i) := by exact pv _) (hb0 : attributeBase (.Name x p) "pop" X.env (eval (.Name x p) X.env) = eval (.Name x p) X.env := by rfl)
    (hfew : ((backTo cpos (starEach [e] X.env)).all (fun x => !x.1) && (backToKw cpos (keywordEach [] X.env)).all (fun x => x.1.isSome) && decide ([e].length + ([] : List Keyword).length + (if ([] : List Keyword).isEmpty then 0 else 1) < 30)) = true := by rfl)
    (hline : (apos.endLine == cpos.line) = true := by rfl) (hst : starEach [e] X.env = (false, eval e X.env) :: starEach [] X.env := by rfl) (hpl : (backTo cpos (starEach [] X.env)).any (·.1) = false := by rfl)
    (hs : swapsWith (.Call (.Attribute (.Name x p) "pop" apos) [e] [] cpos) none pos.line X.env = Pure.pure false := by rfl) :
    DS X C (.Expr (.Call (.Attribute (.Name x p) "pop" apos) [e] [] cpos) pos) (tDrop (tBM C.K "list" rPopAt (tVar i) (tCons t tNil))) (wDrop (wMeth i (wCons w fun s Q => Q [] s) fPopAt)) :=
  ds_popAt i hK h (pe_bm PySem.F.plainAttrs_list PySem.F.slot_list_pop PySem.F.type_list_pop mt_popAt hv (pa_cons h.pe pa_nil hst) hb0 hfew hline hst hpl) hs
abbrev rIns : V → List V → Hp → VK → Prop := fun x vs H Q => ∃ (l : Addr) (xs : List V) (i : Int) (y : V), x = .ref l ∧ vs = [.int i, y] ∧ H l = some (.lst xs) ∧ xs.length < sizeLine ∧ 0 ≤ i ∧ i < 2 ^ 63 ∧
  Q .non (upd H l (.lst (xs.take i.toNat ++ [y] ++ xs.drop i.toNat)))
theorem ds_insA (i : Nat) {apos cpos : Pos} (hK : X.K = C.K) (h : DE X C a ta wa) (h' : DE X C b tb wb) (hv : PE X (.Name x p) (tVar i) := by exact pv _) (hb0 : attributeBase (.Name x p) "insert" X.env (eval (.Name x p) X.env) = eval (.Name x p) X.env := by rfl)
    (hfew : ((backTo cpos (starEach [a, b] X.env)).all (fun x => !x.1) && (backToKw cpos (keywordEach [] X.env)).all (fun x => x.1.isSome) && decide ([a, b].length + ([] : List Keyword).length + (if ([] : List Keyword).isEmpty then 0 else 1) < 30)) = true := by rfl)
    (hline : (apos.endLine == cpos.line) = true := by rfl) (hst : starEach [a, b] X.env = (false, eval a X.env) :: starEach [b] X.env := by rfl) (hst2 : starEach [b] X.env = (false, eval b X.env) :: starEach [] X.env := by rfl) (hpl : (backTo cpos (starEach [b] X.env)).any (·.1) = false := by rfl)
    (hs : swapsWith (.Call (.Attribute (.Name x p) "insert" apos) [a, b] [] cpos) none pos.line X.env = Pure.pure false := by rfl) :
    DS X C (.Expr (.Call (.Attribute (.Name x p) "insert" apos) [a, b] [] cpos) pos) (tDrop (tBM C.K "list" rIns (tVar i) (tCons ta (tCons tb tNil)))) (wDrop (wMeth i (wCons wa (wCons wb fun s Q => Q [] s)) fIns)) :=
  ds_ins i hK h h' (pe_bm PySem.F.plainAttrs_list PySem.F.slot_list_insert PySem.F.type_list_insert mt_insert hv (pa_cons h.pe (pa_cons h'.pe pa_nil hst2) hst) hb0 hfew hline hst hpl) hs
theorem ds_sub (i : Nat) {p2 : Pos} (h : DE X C e t w) (hi : DE X C b ty wy) (hps : PE X e t → PE X b ty → PS X (.Assign [.Subscript (.Name x p) b p2] e pos) (tAsg t (gSub (tVar i) ty rSetL)) := by exact fun h hi => ps_asg h (pg_sub (pv _) hi set_list)) :
    DS X C (.Assign [.Subscript (.Name x p) b p2] e pos) (tAsg t (gSub (tVar i) ty rSetL)) (wSetIx i w wy) := ds_setIx i h hi (hps h.pe hi.pe)
end
/-! ### loops, what follows a turn kept closed -/
theorem for_by {ds : List PyData} {g : WG} {wb : WS} {DD : DEnds} {s1 : Dt} (Inv : Nat → Dt → Prop) (h0 : Inv 0 s1)
    (hs : ∀ (i : Nat) d s2 (J : Dt → Prop), ds[i]? = some d → Inv i s2 → (∀ s, Inv (i + 1) s → J s) → g d s2 fun s3 => wb { nx := J, rt := DD.rt, bk := DD.nx, ct := J } s3) (hd : ∀ s2, Inv ds.length s2 → DD.nx s2) :
    ∃ Inv : Nat → Dt → Prop, Inv 0 s1 ∧ (∀ (i : Nat) d s2, ds[i]? = some d → Inv i s2 → g d s2 fun s3 => wb { nx := Inv (i + 1), rt := DD.rt, bk := DD.nx, ct := Inv (i + 1) } s3) ∧ ∀ s2, Inv ds.length s2 → DD.nx s2 :=
  ⟨Inv, h0, fun i d s2 e inv => hs i d s2 (Inv (i + 1)) e inv fun _ h => h, hd⟩
/-! ### simple comprehensions -/
theorem lc_by {ds : List PyData} {g : WG} {tt : WT} {te : WE} {vs : List Nat} {env : List (Option DV)} {c : Int} {Q : List PyData → Dt → Prop} (f : PyData → Option PyData) (hl : ds.length ≤ 99999)
    (h : ∀ d ∈ ds, ∀ (acc : List PyData) (J : List PyData → Int → Prop), acc.length < 100000 → (∀ y, f d = some y → J (acc ++ [y]) c) → (f d = none → J acc c) →
      g d ⟨wipeD env vs, c⟩ fun s2 => tt s2 fun b s3 => s3.env = s2.env ∧ if b = true then te s3 fun y s4 => s4.env = s2.env ∧ acc.length < 100000 ∧ J (acc ++ [y]) s4.c else J acc s3.c) (q : Q (ds.filterMap f) ⟨env, c⟩) :
    ∃ Inv : Nat → List PyData → Int → Prop, Inv 0 [] c ∧
      (∀ (i : Nat) d acc c', ds[i]? = some d → Inv i acc c' → g d ⟨wipeD env vs, c'⟩ fun s2 => tt s2 fun b s3 => s3.env = s2.env ∧ if b = true then te s3 fun y s4 => s4.env = s2.env ∧ acc.length < 100000 ∧ Inv (i + 1) (acc ++ [y]) s4.c else Inv (i + 1) acc s3.c) ∧
      ∀ acc c', Inv ds.length acc c' → Q acc ⟨env, c'⟩ := by
  refine ⟨fun i acc c' => c' = c ∧ acc = (ds.take i).filterMap f, ⟨rfl, rfl⟩, fun i d acc c' hd inv => ?_, fun acc c' inv => ?_⟩
  · obtain ⟨rfl, rfl⟩ := inv
    have e : ds.take (i + 1) = ds.take i ++ [d] := by rw [List.take_add_one, hd]; rfl
    refine h d (List.mem_of_getElem? hd) _ (fun acc c2 => c2 = c' ∧ acc = (ds.take (i + 1)).filterMap f) ?_ (fun y hy => ⟨rfl, ?_⟩) fun hy => ⟨rfl, ?_⟩
    · have := List.length_filterMap_le f (ds.take i)
      rw [List.length_take] at this
      omega
    · rw [e, List.filterMap_append, List.filterMap_cons, hy]
      rfl
    · rw [e, List.filterMap_append, List.filterMap_cons, hy]
      simp
  · obtain ⟨rfl, rfl⟩ := inv
    rw [List.take_length]
    exact q
theorem lc_map {ds : List PyData} {g : WG} {te : WE} {vs : List Nat} {env : List (Option DV)} {c : Int} {Q : List PyData → Dt → Prop} (f : PyData → PyData) (hl : ds.length ≤ 99999)
    (h : ∀ d ∈ ds, ∀ (acc : List PyData) (J : List PyData → Int → Prop), acc.length < 100000 → J (acc ++ [f d]) c → g d ⟨wipeD env vs, c⟩ fun s2 => te s2 fun y s4 => s4.env = s2.env ∧ acc.length < 100000 ∧ J (acc ++ [y]) s4.c) (q : Q (ds.map f) ⟨env, c⟩) :
    ∃ Inv : Nat → List PyData → Int → Prop, Inv 0 [] c ∧
      (∀ (i : Nat) d acc c', ds[i]? = some d → Inv i acc c' → g d ⟨wipeD env vs, c'⟩ fun s2 => (fun s (Q : Bool → Dt → Prop) => Q true s) s2 fun b s3 => s3.env = s2.env ∧ if b = true then te s3 fun y s4 => s4.env = s2.env ∧ acc.length < 100000 ∧ Inv (i + 1) (acc ++ [y]) s4.c else Inv (i + 1) acc s3.c) ∧
      ∀ acc c', Inv ds.length acc c' → Q acc ⟨env, c'⟩ := by
  refine ⟨fun i acc c' => c' = c ∧ acc = (ds.take i).map f, ⟨rfl, rfl⟩, fun i d acc c' hd inv => ?_, fun acc c' inv => ?_⟩
  · obtain ⟨rfl, rfl⟩ := inv
    have e : ds.take (i + 1) = ds.take i ++ [d] := by rw [List.take_add_one, hd]; rfl
    have := h d (List.mem_of_getElem? hd) ((ds.take i).map f) (fun acc c2 => c2 = c' ∧ acc = (ds.take (i + 1)).map f) (by rw [List.length_map, List.length_take]; omega) ⟨rfl, by rw [e, List.map_append]; rfl⟩
    simp only [if_true, true_and]
    exact this
  · obtain ⟨rfl, rfl⟩ := inv
    rw [List.take_length]
    exact q
end Dw

namespace Dw
open PySem PySem.Spec PyProof.Rows L2 OgR Evl
/-- data whose text is short -/
structure Shw (k m : Nat) (d : PyData) : Prop where
  sh : d.showable = true
  nd : d.hasDict = false
  dp : d.depth ≤ k
  ln : d.shown.length ≤ m
theorem Shw.up {k m k' m' : Nat} {d : PyData} (h : Shw k m d) (hk : k ≤ k') (hm : m ≤ m') : Shw k' m' d := ⟨h.sh, h.nd, Nat.le_trans h.dp hk, Nat.le_trans h.ln hm⟩
theorem tf_le {m : Nat} : ∀ (ts : List Str) (k : Nat) (acc : Str), (∀ t ∈ ts, t.length ≤ m) → (textFrom k acc ts).length ≤ acc.length + (m + 2) * ts.length
  | [], k, acc, _ => by show acc.length ≤ _; omega
  | t :: ts, k, acc, h => by
    have ih := tf_le ts (k + 1) (acc ++ (if k > 0 then ", " else "" : String) ++ t) fun x hx => h x (List.mem_cons_of_mem _ hx)
    have h1 := h t List.mem_cons_self
    rw [strLen_append, strLen_append] at ih
    have h2 : (Str.ofString (if k > 0 then ", " else "")).length ≤ 2 := by
      split <;> decide
    show (textFrom (k + 1) (acc ++ (if k > 0 then ", " else "" : String) ++ t) ts).length ≤ _
    rw [List.length_cons, Nat.mul_add]
    have e3 : (Str.ofString (if k > 0 then ", " else "")).length ≤ 2 := h2
    omega
theorem piled_le {m : Nat} : ∀ ts : List Str, (∀ t ∈ ts, t.length ≤ m) → piled ts ≤ (m + 2) * ts.length
  | [], _ => by rw [piled_nil]; omega
  | t :: ts, h => by
    rw [piled_cons, List.length_cons, Nat.mul_add]
    have := piled_le ts fun x hx => h x (List.mem_cons_of_mem _ hx)
    have := h t List.mem_cons_self
    omega
theorem lt_le {m : Nat} {ts : List Str} (h : ∀ t ∈ ts, t.length ≤ m) : (listText ts).length ≤ (m + 2) * ts.length + 4 := by
  have h1 := tf_le ts 0 "[" h
  show (textFrom 0 "[" ts ++ "]").length ≤ _
  rw [strLen_append]
  have e1 : (Str.ofString "[").length = 1 := by decide
  have e2 : (Str.ofString "]").length = 1 := by decide
  omega
theorem tt_le {m : Nat} {ts : List Str} (h : ∀ t ∈ ts, t.length ≤ m) : (tupleText ts).length ≤ (m + 2) * ts.length + 4 := by
  unfold tupleText
  rw [strLen_append, strLen_append]
  have e1 : (Str.ofString "(").length = 1 := by decide
  have e2 : (Str.ofString (if ts.length == 1 then ",)" else ")")).length ≤ 2 := by
    split <;> decide
  have h1 := piled_le ts h
  by_cases hn : ts = []
  · subst hn
    have e3 : ((Str.ofString ", ").join []).length = 0 := by decide
    rw [e3]
    omega
  · have h2 := join_length_add ts hn
    omega
theorem shownAll_map : ∀ ds : List PyData, PyData.shownAll ds = ds.map PyData.shown
  | [] => by simp only [PyData.shownAll, List.map_nil]
  | d :: ds => by simp only [PyData.shownAll, List.map_cons, shownAll_map ds]
theorem seq_facts {k m : Nat} : ∀ {ds : List PyData}, (∀ d ∈ ds, Shw k m d) → PyData.showableAll ds = true ∧ PyData.hasDictAll ds = false ∧ PyData.depthAll ds ≤ k
  | [], _ => ⟨by simp only [PyData.showableAll], by simp only [PyData.hasDictAll], by simp only [PyData.depthAll]; omega⟩
  | d :: ds, h => by
    obtain ⟨h1, h2, h3⟩ := seq_facts fun x hx => h x (List.mem_cons_of_mem _ hx)
    have h0 := h d List.mem_cons_self
    refine ⟨?_, ?_, ?_⟩
    · simp only [PyData.showableAll, h0.sh, h1, Bool.and_self]
    · simp only [PyData.hasDictAll, h0.nd, h2, Bool.or_self]
    · simp only [PyData.depthAll]
      exact Nat.max_le.mpr ⟨h0.dp, h3⟩
theorem shw_tup {k m n : Nat} {ds : List PyData} (h : ∀ d ∈ ds, Shw k m d) (hn : ds.length ≤ n) : Shw (k + 1) ((m + 2) * n + 4) (.tuple ds) := by
  obtain ⟨h1, h2, h3⟩ := seq_facts h
  refine ⟨by simpa only [PyData.showable] using h1, by simpa only [PyData.hasDict] using h2, by simp only [PyData.depth]; omega, ?_⟩
  simp only [PyData.shown]
  refine Nat.le_trans (tt_le (m := m) fun t ht => ?_) ?_
  · rw [shownAll_map] at ht
    obtain ⟨d, hd, rfl⟩ := List.mem_map.mp ht
    exact (h d hd).ln
  · rw [shownAll_map, List.length_map]
    exact Nat.add_le_add_right (Nat.mul_le_mul_left _ hn) 4
theorem shw_lst {k m n : Nat} {ds : List PyData} (h : ∀ d ∈ ds, Shw k m d) (hn : ds.length ≤ n) : Shw (k + 1) ((m + 2) * n + 4) (.list ds) := by
  obtain ⟨h1, h2, h3⟩ := seq_facts h
  refine ⟨by simpa only [PyData.showable] using h1, by simpa only [PyData.hasDict] using h2, by simp only [PyData.depth]; omega, ?_⟩
  simp only [PyData.shown]
  refine Nat.le_trans (lt_le (m := m) fun t ht => ?_) ?_
  · rw [shownAll_map] at ht
    obtain ⟨d, hd, rfl⟩ := List.mem_map.mp ht
    exact (h d hd).ln
  · rw [shownAll_map, List.length_map]
    exact Nat.add_le_add_right (Nat.mul_le_mul_left _ hn) 4
theorem shw_int {i : Int} (h : i.natAbs ≤ 10 ^ 30 + 1000) : Shw 0 400 (.int i) := by
  have h1 : i.natAbs < 10 ^ 31 := Nat.lt_of_le_of_lt h (by decide)
  have h2 := int_text_length_le10 (k := 31) (by decide) h1
  refine ⟨?_, rfl, Nat.le_refl _, ?_⟩
  · simp only [PyData.showable, decide_eq_true_eq]
    by_cases hz : i.natAbs = 0
    · rw [hz]
      decide
    · exact (Nat.log2_lt hz).mpr (Nat.lt_of_lt_of_le h1 (Nat.le_trans (show 10 ^ 31 ≤ 2 ^ 128 by decide) (Nat.pow_le_pow_right (by decide) (by decide))))
  · simp only [PyData.shown]
    rw [PySem.ofString_length]
    omega
theorem shw_none : Shw 0 400 .none := ⟨rfl, rfl, Nat.le_refl _, by decide⟩
theorem shw_bool (b : Bool) : Shw 0 400 (.bool b) := by cases b <;> exact ⟨rfl, rfl, Nat.le_refl _, by decide⟩
theorem shw_str {x : Str} (h : (reprText x).length ≤ 400) : Shw 0 400 (.str x) := ⟨rfl, rfl, Nat.le_refl _, h⟩
theorem sok (s : String) : PyData.strOk (Str.ofString s) = true := by
  unfold PyData.strOk
  rw [Array.all_eq_true_iff_forall_mem]
  intro c hc
  have : c ∈ s.toList.map Char.toNat := by
    rw [Str.ofString_eq_toList] at hc
    simpa using hc
  obtain ⟨ch, _, rfl⟩ := List.mem_map.mp this
  have h := ch.valid
  refine decide_eq_true ?_
  have : ch.val.toNat < 1114112 := by
    rcases h with h | h
    · exact Nat.lt_trans h (by decide)
    · exact h.2
  exact this
theorem eqv_str (x y : Str) : PyData.eqv (.str x) (.str y) = decide (x = y) := by
  simp only [PyData.eqv]
  by_cases h : x = y
  · subst h
    simp
  · rw [decide_eq_false h]
    exact beq_eq_false_iff_ne.mpr h
theorem eqv_int (x y : Int) : PyData.eqv (.int x) (.int y) = decide (x = y) := by
  simp only [PyData.eqv]
  by_cases h : x = y
  · subst h
    simp
  · rw [decide_eq_false h]
    exact beq_eq_false_iff_ne.mpr h
theorem eqv_bool (x y : Bool) : PyData.eqv (.bool x) (.bool y) = decide (x = y) := by
  cases x <;> cases y <;> rfl
/-! ### bounded data -/
def FlB : PyData → Prop
  | .none => True
  | .bool _ => True
  | .int i => i.natAbs ≤ 10 ^ 30 + 1000
  | .str z => PyData.strOk z = true ∧ (reprText z).length ≤ 400
  | _ => False
def Bd (w : Nat) : Nat → PyData → Prop
  | 0, d => FlB d
  | k + 1, d => FlB d ∨ ∃ ds, (d = .list ds ∨ d = .tuple ds) ∧ ds.length ≤ w ∧ ∀ x ∈ ds, Bd w k x
theorem Bd.flat {w k : Nat} {d : PyData} (h : FlB d) : Bd w k d := by
  cases k with
  | zero => exact h
  | succ k => exact .inl h
theorem Bd.up {w w' : Nat} (hw : w ≤ w') : ∀ {k k' : Nat} {d : PyData}, k ≤ k' → Bd w k d → Bd w' k' d
  | 0, _, _, _, h => .flat h
  | k + 1, 0, _, hk, _ => absurd hk (by omega)
  | k + 1, k' + 1, d, hk, h => by
    rcases h with h | ⟨ds, e, hl, hd⟩
    · exact .inl h
    · exact .inr ⟨ds, e, Nat.le_trans hl hw, fun x hx => Bd.up hw (by omega) (hd x hx)⟩
theorem bd_tup {w k : Nat} {ds : List PyData} (hl : ds.length ≤ w) (h : ∀ x ∈ ds, Bd w k x) : Bd w (k + 1) (.tuple ds) := .inr ⟨ds, .inr rfl, hl, h⟩
theorem bd_lst {w k : Nat} {ds : List PyData} (hl : ds.length ≤ w) (h : ∀ x ∈ ds, Bd w k x) : Bd w (k + 1) (.list ds) := .inr ⟨ds, .inl rfl, hl, h⟩
/-- the parts of bounded data -/
theorem Bd.its {w k : Nat} {d : PyData} (h : Bd w k d) (hs : seqd d = true) : ∃ j, k = j + 1 ∧ (Dw.its d).length ≤ w ∧ ∀ x ∈ Dw.its d, Bd w j x := by
  cases k with
  | zero => cases d <;> first | exact (h : False).elim | cases hs
  | succ k =>
    refine ⟨k, rfl, ?_⟩
    rcases h with h | ⟨ds, rfl | rfl, hl, hd⟩
    · cases d <;> first | exact (h : False).elim | cases hs
    · exact ⟨hl, hd⟩
    · exact ⟨hl, hd⟩
theorem canAll : ∀ {ds : List PyData}, (∀ d ∈ ds, PyData.canLay0 d = true) → PyData.canLayAll0 ds = true
  | [], _ => by simp only [PyData.canLayAll0]
  | d :: ds, h => by simp only [PyData.canLayAll0, h d List.mem_cons_self, canAll fun x hx => h x (List.mem_cons_of_mem _ hx), Bool.and_self]
theorem depAll {n : Nat} : ∀ {ds : List PyData}, (∀ d ∈ ds, PyData.depth d ≤ n) → PyData.depthAll ds ≤ n
  | [], _ => by simp only [PyData.depthAll]; omega
  | d :: ds, h => by
    simp only [PyData.depthAll]
    exact Nat.max_le.mpr ⟨h d List.mem_cons_self, depAll fun x hx => h x (List.mem_cons_of_mem _ hx)⟩
theorem FlB.can {d : PyData} (h : FlB d) : PyData.canLay0 d = true ∧ PyData.depth d = 0 := by
  cases d with
  | none => exact ⟨by simp only [PyData.canLay0], by simp only [PyData.depth]⟩
  | bool _ => exact ⟨by simp only [PyData.canLay0], by simp only [PyData.depth]⟩
  | int _ => exact ⟨by simp only [PyData.canLay0], by simp only [PyData.depth]⟩
  | str z => exact ⟨by simp only [PyData.canLay0]; exact h.1, by simp only [PyData.depth]⟩
  | list _ => exact h.elim
  | tuple _ => exact h.elim
  | dict _ => exact h.elim
theorem Bd.can {w : Nat} : ∀ {k : Nat} {d : PyData}, Bd w k d → PyData.canLay0 d = true ∧ PyData.depth d ≤ k
  | 0, d, h => ⟨(FlB.can h).1, by rw [(FlB.can h).2]; exact Nat.le_refl _⟩
  | k + 1, d, h => by
    rcases h with h | ⟨ds, rfl | rfl, hl, hd⟩
    · exact ⟨h.can.1, by rw [h.can.2]; omega⟩
    · refine ⟨by simp only [PyData.canLay0]; exact canAll fun x hx => (Bd.can (hd x hx)).1, ?_⟩
      simp only [PyData.depth]
      exact Nat.succ_le_succ (depAll fun x hx => (Bd.can (hd x hx)).2)
    · refine ⟨by simp only [PyData.canLay0]; exact canAll fun x hx => (Bd.can (hd x hx)).1, ?_⟩
      simp only [PyData.depth]
      exact Nat.succ_le_succ (depAll fun x hx => (Bd.can (hd x hx)).2)
theorem Bd.shp {w k : Nat} {d : PyData} (h : Bd w k d) (hk : k ≤ 64) : Shp d := by
  obtain ⟨h1, h2⟩ := h.can
  exact Bool.and_eq_true_iff.mpr ⟨h1, decide_eq_true (Nat.le_trans h2 hk)⟩
theorem shp_int (i : Int) : Shp (.int i) := rfl
theorem shp_bool (i : Bool) : Shp (.bool i) := rfl
theorem shp_none : Shp .none := rfl
theorem shp_z {z : Str} (h : PyData.strOk z = true) : Shp (.str z) := by
  show SeqAt.shaped (.str z) = true
  simp [SeqAt.shaped, PyData.canLay0, PyData.depth, h]
theorem shp_str (s : String) : Shp (.str (Str.ofString s)) := shp_z (sok s)
/-- how long the text of bounded data is -/
def lenB (w : Nat) : Nat → Nat
  | 0 => 400
  | k + 1 => (lenB w k + 2) * w + 404
theorem FlB.shw {d : PyData} (h : FlB d) : Shw 0 400 d := by
  cases d with
  | none => exact shw_none
  | bool _ => exact shw_bool _
  | int _ => exact shw_int h
  | str z => exact shw_str h.2
  | list _ => exact h.elim
  | tuple _ => exact h.elim
  | dict _ => exact h.elim
theorem lenB_400 (w : Nat) : ∀ k, 400 ≤ lenB w k
  | 0 => Nat.le_refl _
  | k + 1 => by show 400 ≤ (lenB w k + 2) * w + 404; omega
theorem Bd.shw {w : Nat} : ∀ {k : Nat} {d : PyData}, Bd w k d → Shw k (lenB w k) d
  | 0, d, h => FlB.shw h
  | k + 1, d, h => by
    rcases h with h | ⟨ds, rfl | rfl, hl, hd⟩
    · exact h.shw.up (Nat.zero_le _) (lenB_400 w (k + 1))
    · exact (shw_lst (fun x hx => Bd.shw (hd x hx)) hl).up (Nat.le_refl _) (by show _ ≤ (lenB w k + 2) * w + 404; omega)
    · exact (shw_tup (fun x hx => Bd.shw (hd x hx)) hl).up (Nat.le_refl _) (by show _ ≤ (lenB w k + 2) * w + 404; omega)
theorem Bd.rep {w k : Nat} {d : PyData} (h : Bd w k d) (hk : k ≤ 40) (hl : lenB w k ≤ sizeLine) : RepOk d := by
  have s := h.shw
  exact ⟨s.sh, s.nd, Nat.le_trans s.dp hk, Nat.le_trans s.ln hl⟩
end Dw

namespace Dw
open PySem PySem.Spec PyProof.Rows L2 OgR Evl
/-! ### data that a law makes: leaves, depth, width, and how long its text is -/
def Lf (b : Nat) : PyData → Prop
  | .none => True
  | .bool _ => True
  | .int i => i.natAbs ≤ 10 ^ 30 + b
  | .str z => PyData.strOk z = true ∧ (reprText z).length ≤ 400
  | _ => False
theorem Lf.fl {b : Nat} (hb : b ≤ 1000) {d : PyData} (h : Lf b d) : FlB d := by
  cases d with
  | int i => exact Nat.le_trans (h : i.natAbs ≤ 10 ^ 30 + b) (by omega)
  | _ => exact h
theorem Lf.up {b b' : Nat} (hb : b ≤ b') {d : PyData} (h : Lf b d) : Lf b' d := by
  cases d with
  | int i => exact Nat.le_trans (h : i.natAbs ≤ 10 ^ 30 + b) (by omega)
  | _ => exact h
def Lv (b w : Nat) : Nat → PyData → Prop
  | 0, d => Lf b d
  | k + 1, d => Lf b d ∨ ∃ ds, (d = .list ds ∨ d = .tuple ds) ∧ ds.length ≤ w ∧ ∀ x ∈ ds, Lv b w k x
theorem Lv.flat {b w k : Nat} {d : PyData} (h : Lf b d) : Lv b w k d := by
  cases k with
  | zero => exact h
  | succ k => exact .inl h
theorem Lv.up {b b' w w' : Nat} (hb : b ≤ b') (hw : w ≤ w') : ∀ {k k' : Nat} {d : PyData}, k ≤ k' → Lv b w k d → Lv b' w' k' d
  | 0, _, _, _, h => .flat (Lf.up hb h)
  | k + 1, 0, _, hk, _ => absurd hk (by omega)
  | k + 1, k' + 1, d, hk, h => by
    rcases h with h | ⟨ds, e, hl, hd⟩
    · exact .inl (h.up hb)
    · exact .inr ⟨ds, e, Nat.le_trans hl hw, fun x hx => Lv.up hb hw (by omega) (hd x hx)⟩
theorem Lv.bd {b w : Nat} (hb : b ≤ 1000) : ∀ {k : Nat} {d : PyData}, Lv b w k d → Bd w k d
  | 0, _, h => Lf.fl hb h
  | k + 1, d, h => by
    rcases h with h | ⟨ds, e, hl, hd⟩
    · exact .inl (h.fl hb)
    · exact .inr ⟨ds, e, hl, fun x hx => Lv.bd hb (hd x hx)⟩
theorem Lv.its {b w k : Nat} {d : PyData} (h : Lv b w k d) (hs : seqd d = true) : ∃ j, k = j + 1 ∧ (Dw.its d).length ≤ w ∧ ∀ x ∈ Dw.its d, Lv b w j x := by
  cases k with
  | zero => cases d <;> first | exact (h : False).elim | cases hs
  | succ k =>
    refine ⟨k, rfl, ?_⟩
    rcases h with h | ⟨ds, rfl | rfl, hl, hd⟩
    · cases d <;> first | exact (h : False).elim | cases hs
    · exact ⟨hl, hd⟩
    · exact ⟨hl, hd⟩
mutual
def Tw : PyData → Nat
  | .list ds => TwA ds + 4
  | .tuple ds => TwA ds + 4
  | _ => 400
def TwA : List PyData → Nat
  | [] => 0
  | d :: ds => Tw d + 2 + TwA ds
end
theorem twA_app : ∀ xs ys : List PyData, TwA (xs ++ ys) = TwA xs + TwA ys
  | [], ys => by simp only [List.nil_append, TwA]; omega
  | x :: xs, ys => by
    simp only [List.cons_append, TwA, twA_app xs ys]
    omega
theorem twA_mem : ∀ {xs : List PyData} {x : PyData}, x ∈ xs → Tw x + 2 ≤ TwA xs
  | y :: xs, x, h => by
    simp only [TwA]
    rcases List.mem_cons.mp h with rfl | h
    · omega
    · have := twA_mem h
      omega
theorem twA_td (xs : List PyData) (n : Nat) : TwA (xs.take n) + TwA (xs.drop n) = TwA xs := by
  rw [← twA_app, List.take_append_drop]
theorem twA_erase : ∀ (xs : List PyData) (n : Nat), TwA (xs.eraseIdx n) ≤ TwA xs
  | [], n => by simp [List.eraseIdx]
  | x :: xs, 0 => by simp only [List.eraseIdx, TwA]; omega
  | x :: xs, n + 1 => by
    have := twA_erase xs n
    simp only [List.eraseIdx, TwA]
    omega
theorem twA_set : ∀ (xs : List PyData) (n : Nat) (x y : PyData), xs[n]? = some x → TwA (xs.set n y) + Tw x = TwA xs + Tw y
  | [], n, x, y, h => by simp at h
  | z :: xs, 0, x, y, h => by
    have : z = x := Option.some.inj h
    subst this
    simp only [List.set, TwA]
    omega
  | z :: xs, n + 1, x, y, h => by
    have := twA_set xs n x y h
    simp only [List.set, TwA]
    omega
theorem twA_len : ∀ (m : Nat) (xs : List PyData), (∀ x ∈ xs, Tw x ≤ m) → TwA xs ≤ (m + 2) * xs.length
  | m, [], _ => by simp only [TwA]; omega
  | m, x :: xs, h => by
    have h1 := h x List.mem_cons_self
    have h2 := twA_len m xs fun y hy => h y (List.mem_cons_of_mem _ hy)
    simp only [TwA, List.length_cons, Nat.mul_add]
    omega
theorem tf_le2 : ∀ (ts : List Str) (k : Nat) (acc : Str), (textFrom k acc ts).length ≤ acc.length + piled ts
  | [], k, acc => by rw [piled_nil]; exact Nat.le_refl _
  | t :: ts, k, acc => by
    have ih := tf_le2 ts (k + 1) (acc ++ (if k > 0 then ", " else "" : String) ++ t)
    rw [strLen_append, strLen_append] at ih
    have e3 : (Str.ofString (if k > 0 then ", " else "")).length ≤ 2 := by
      split <;> decide
    show (textFrom (k + 1) (acc ++ (if k > 0 then ", " else "" : String) ++ t) ts).length ≤ _
    rw [piled_cons]
    omega
theorem lt_le2 (ts : List Str) : (listText ts).length ≤ piled ts + 4 := by
  have h1 := tf_le2 ts 0 "["
  show (textFrom 0 "[" ts ++ "]").length ≤ _
  rw [strLen_append]
  have e1 : (Str.ofString "[").length = 1 := by decide
  have e2 : (Str.ofString "]").length = 1 := by decide
  omega
theorem tt_le2 (ts : List Str) : (tupleText ts).length ≤ piled ts + 4 := by
  unfold tupleText
  rw [strLen_append, strLen_append]
  have e1 : (Str.ofString "(").length = 1 := by decide
  have e2 : (Str.ofString (if ts.length == 1 then ",)" else ")")).length ≤ 2 := by
    split <;> decide
  by_cases hn : ts = []
  · subst hn
    have e3 : ((Str.ofString ", ").join []).length = 0 := by decide
    rw [e3]
    omega
  · have h2 := join_length_add ts hn
    omega
theorem piled_tw : ∀ {ds : List PyData}, (∀ d ∈ ds, d.shown.length ≤ Tw d) → piled (PyData.shownAll ds) ≤ TwA ds
  | [], _ => by simp only [PyData.shownAll, TwA, piled_nil]; exact Nat.le_refl _
  | d :: ds, h => by
    have h1 := h d List.mem_cons_self
    have h2 := piled_tw fun x hx => h x (List.mem_cons_of_mem _ hx)
    simp only [PyData.shownAll, TwA, piled_cons]
    omega
theorem FlB.tw {d : PyData} (h : FlB d) : Tw d = 400 := by
  cases d with
  | list _ => exact h.elim
  | tuple _ => exact h.elim
  | dict _ => exact h.elim
  | _ => simp only [Tw]
theorem Bd.tw {w : Nat} : ∀ {k : Nat} {d : PyData}, Bd w k d → d.shown.length ≤ Tw d
  | 0, d, h => by rw [FlB.tw h]; exact (FlB.shw h).ln
  | k + 1, d, h => by
    rcases h with h | ⟨ds, rfl | rfl, hl, hd⟩
    · rw [FlB.tw h]
      exact (FlB.shw h).ln
    · have := piled_tw fun x hx => Bd.tw (hd x hx)
      have h2 := lt_le2 (PyData.shownAll ds)
      simp only [PyData.shown, Tw]
      omega
    · have := piled_tw fun x hx => Bd.tw (hd x hx)
      have h2 := tt_le2 (PyData.shownAll ds)
      simp only [PyData.shown, Tw]
      omega
structure Sm (b w k L : Nat) (d : PyData) : Prop where
  lv : Lv b w k d
  tw : Tw d ≤ L
theorem Sm.up {b w k L b' w' k' L' : Nat} {d : PyData} (h : Sm b w k L d) (hb : b ≤ b') (hw : w ≤ w') (hk : k ≤ k') (hL : L ≤ L') : Sm b' w' k' L' d := ⟨h.lv.up hb hw hk, Nat.le_trans h.tw hL⟩
theorem Sm.bd {b w k L : Nat} {d : PyData} (h : Sm b w k L d) (hb : b ≤ 1000) : Bd w k d := h.lv.bd hb
theorem Sm.rep {b w k L : Nat} {d : PyData} (h : Sm b w k L d) (hb : b ≤ 1000) (hk : k ≤ 40) (hL : L ≤ sizeLine) : RepOk d := by
  have s := (h.bd hb).shw
  exact ⟨s.sh, s.nd, Nat.le_trans s.dp hk, Nat.le_trans (h.bd hb).tw (Nat.le_trans h.tw hL)⟩
theorem Lf.tw {b : Nat} {d : PyData} (h : Lf b d) : Tw d = 400 := by
  cases d with
  | list _ => exact h.elim
  | tuple _ => exact h.elim
  | dict _ => exact h.elim
  | _ => simp only [Tw]
theorem Sm.leaf {b w k L : Nat} {d : PyData} (h : Lf b d) (hL : 400 ≤ L) : Sm b w k L d := ⟨.flat h, by rw [h.tw]; exact hL⟩
theorem Sm.tup {b w k L : Nat} {ds : List PyData} (h : ∀ x ∈ ds, Lv b w k x) (hw : ds.length ≤ w) (hL : TwA ds + 4 ≤ L) : Sm b w (k + 1) L (.tuple ds) := ⟨.inr ⟨ds, .inr rfl, hw, h⟩, by simp only [Tw]; exact hL⟩
theorem Sm.lst {b w k L : Nat} {ds : List PyData} (h : ∀ x ∈ ds, Lv b w k x) (hw : ds.length ≤ w) (hL : TwA ds + 4 ≤ L) : Sm b w (k + 1) L (.list ds) := ⟨.inr ⟨ds, .inl rfl, hw, h⟩, by simp only [Tw]; exact hL⟩
theorem lf_digits {b : Nat} (hb : b ≤ 1000) {i : Int} (h : i.natAbs ≤ 10 ^ 30 + b) {b' : Nat} : Lf b' (.str (toString i)) := by
  have h1 : i.natAbs < 10 ^ 31 := by omega
  have h2 := int_text_length_le10 (k := 31) (by decide) h1
  refine ⟨sok _, ?_⟩
  have h3 : (reprText (Str.ofString (toString i))).length ≤ 10 * (Str.ofString (toString i)).length + 2 := PySem.StrLaws.reprText_len _ fun c hc => by
    have hs := sok (toString i)
    unfold PyData.strOk at hs
    rw [Array.all_eq_true_iff_forall_mem] at hs
    have := of_decide_eq_true (hs c (by simpa using hc))
    exact Nat.lt_of_lt_of_le this (by decide)
  rw [PySem.ofString_length] at h3
  exact Nat.le_trans h3 (by omega)


end Dw

namespace Dw
open PySem PySem.Spec PyProof.Rows L2 OgR Evl
theorem tuple_mul1 (l : Addr) (items : Array Value) (n : Nat) (dd : Option Addr) (sl : Array (Option Value)) (u : Tok) :
    Meets (Builtin.«tuple.__mul__» ⟨[.ref l, .int 1 u], []⟩) (fun _ R s => s.heap.get? l = some { cls := .type "tuple", dict := dd, data := .seq items n, slots := sl } ∧
      R (.ok (.ret (Value.ref l))) s) :=
  .of_wp fun prog w A R s h => by
    obtain ⟨hp, g, d, tk, os⟩ := s
    obtain ⟨hl, h⟩ := h
    have f1 := AutoSeq1.idx_int
    have c1 : (items.isEmpty || (1 : Int) == 1) = true := by rw [show ((1 : Int) == 1) = true by decide, Bool.or_true]
    wp_walk using wpAny_loadPart' hl
    repeat (first
      | (refine wpAny_ite_true (decide_eq_true c1) ?_; wp_walk using wpAny_loadPart' hl))
    exact ⟨_, rfl, h⟩
theorem tuple_mul0 (l : Addr) (items : Array Value) (n : Nat) (dd : Option Addr) (sl : Array (Option Value)) (x : Int) (u : Tok) (c0 : (decide (x < -(2 ^ 63)) || decide (x ≥ 2 ^ 63)) = false) (c1 : (items.isEmpty || x == 1) = false) (c2 : (decide (x ≤ 0) || items.isEmpty) = true) :
    Meets (Builtin.«tuple.__mul__» ⟨[.ref l, .int x u], []⟩) (fun _ R s => s.heap.get? l = some { cls := .type "tuple", dict := dd, data := .seq items n, slots := sl } ∧
      R (.ok (.ret (Value.ref s.heap.objs.size))) { s with heap := s.heap.push { cls := Value.type "tuple", data := Data.seq #[] }, toks := s.toks }) :=
  .of_wp fun prog w A R s h => by
    obtain ⟨hp, g, d, tk, os⟩ := s
    obtain ⟨hl, h⟩ := h
    have f1 := AutoSeq1.idx_int
    wp_walk using wpAny_loadPart' hl
    repeat (first
      | (refine wpAny_ite_false (decide_eq_false (by rw [c0]; exact Bool.false_ne_true)) ?_; wp_walk using wpAny_loadPart' hl)
      | (refine wpAny_ite_false (decide_eq_false (by rw [c1]; exact Bool.false_ne_true)) ?_; wp_walk using wpAny_loadPart' hl)
      | (refine wpAny_ite_true (decide_eq_true c2) ?_; wp_walk using wpAny_loadPart' hl))
    exact ⟨_, rfl, h⟩
/-- a tuple that is not empty, times a number -/
def rRepN (K : PySem.W.Frag) : R2 := fun x y H Q => ∃ l k xs, x = .ref l ∧ y = .int k ∧ SqT K H l xs ∧ xs ≠ [] ∧ -1000 ≤ k ∧ k ≤ 1000 ∧ xs.length ≤ 1000 ∧ (k = 1 → Q (.ref l) H) ∧ (k ≠ 1 → ∀ p, H p = none → Q (.ref p) (upd H p (.tup (List.replicate k.toNat xs).flatten)))
section
variable {X : Cx}
theorem op_repN : OpR X (binaryOp .Mult) (rRepN X.K) := by
  intro pins s σ H x y v u Q I rx ry h
  obtain ⟨l, k, xs, rfl, rfl, hT, hne, h1, h2, hz, q1, q2⟩ := h
  by_cases hk2 : 2 ≤ k
  · exact op_repT pins s σ H _ _ v u Q I rx ry ⟨l, k, xs, rfl, rfl, hT, hne, hk2, h2, hz, q2 (by omega)⟩
  cases rx
  obtain ⟨t, rfl⟩ := ry
  obtain ⟨its, r, ⟨⟨cls, dd, data, sl⟩, ho, hc, n, hd⟩, hs⟩ := I.tuple hT
  simp only at hc hd
  subst hc hd
  have hle : its.length = xs.length := r.length.symm
  have hn : its ≠ [] := fun e => hne (by
    rw [e] at hle
    exact List.eq_nil_of_length_eq_zero hle.symm)
  have hi : its.toArray.isEmpty = false := by
    cases its with
    | nil => exact absurd rfl hn
    | cons a b => rfl
  by_cases hk1 : k = 1
  · subst hk1
    refine wpAny_binaryOp_repeat_ref (T := "tuple") (U := "int") (by decide) ⟨_, ho, rfl⟩ (fun s' => typeIs_int s' 1 t) noFill_tuple_mul F.fills_int_mul F.slot_int_rmul repeat_tuple F.slot_int_index.lookup
      (call_meets F.slot_int_rmul (typeIs_int s 1 t) F.entry_int_rmul (F.args_int_rmul_2 _ _) (int_rmul_tuple 1 t l its.toArray n dd sl)
        ⟨ho, rfl, ⟨_, ho, rfl⟩, call_meets F.slot_tuple_mul ⟨_, ho, rfl⟩ F.entry_tuple_mul (F.args_tuple_mul_2 _ _) (tuple_mul1 l its.toArray n dd sl t) ⟨ho, ?_⟩⟩)
    exact ⟨.ref l, H, I, rfl, q1 rfl⟩
  · have c0 : (decide (k < -(2 ^ 63)) || decide (k ≥ 2 ^ 63)) = false := by
      rw [decide_eq_false (by omega), decide_eq_false (by omega)] <;> rfl
    have c1 : (its.toArray.isEmpty || k == 1) = false := by
      rw [hi, Bool.false_or]
      exact beq_eq_false_iff_ne.mpr hk1
    have c2 : (decide (k ≤ 0) || its.toArray.isEmpty) = true := by
      rw [decide_eq_true (by omega)]
      rfl
    refine wpAny_binaryOp_repeat_ref (T := "tuple") (U := "int") (by decide) ⟨_, ho, rfl⟩ (fun s' => typeIs_int s' k t) noFill_tuple_mul F.fills_int_mul F.slot_int_rmul repeat_tuple F.slot_int_index.lookup
      (call_meets F.slot_int_rmul (typeIs_int s k t) F.entry_int_rmul (F.args_int_rmul_2 _ _) (int_rmul_tuple k t l its.toArray n dd sl)
        ⟨ho, rfl, ⟨_, ho, rfl⟩, call_meets F.slot_tuple_mul ⟨_, ho, rfl⟩ F.entry_tuple_mul (F.args_tuple_mul_2 _ _) (tuple_mul0 l its.toArray n dd sl k t c0 c1 c2) ⟨ho, ?_⟩⟩)
    have e0 : k.toNat = 0 := by omega
    have q := q2 hk1
    rw [e0] at q
    refine ⟨.ref s.heap.objs.size, _, I.laid (t' := s.toks) (o := .tup (List.replicate 0 xs).flatten) (fun b ob q => Heap.get?_push_of_some _ q) (Nat.le_refl _) ?_, rfl, q _ (I.hok.fresh (Nat.le_refl _))⟩
    have r0 := r.rep 0
    exact ⟨Nat.zero_le _, _, r0, IsTup.new _ _⟩
end
section
variable {X : Cx} {C : Ct}
/-- != of texts -/
def gNeS : G2 := fun d e s Q => ∃ x y, d = .str x ∧ e = .str y ∧ Q (.bool (!decide (x = y))) s
theorem o_neS : OpD X C (compareOp .NotEq) rNe gNeS := ⟨op_ne, ⟨fun G σ H s x y d e Q Q' r p1 p2 q k => by
  obtain ⟨a, b, rfl, rfl, q⟩ := q
  have h1 := pk_str p1
  have h2 := pk_str p2
  subst h1 h2
  refine ⟨rfl, ?_⟩
  have e : decide (V.str a = V.str b) = decide (a = b) := by simp
  rw [e]
  exact k _ _ s G H q r (Ex.refl G) Gs.refl (.bl _)⟩⟩
def repD (k : Int) (ds : List PyData) : List PyData := (List.replicate k.toNat ds).flatten
def gRepN : G2 := fun d e s Q => ∃ (ds : List PyData) (k : Int), d = .tuple ds ∧ e = .int k ∧ ds ≠ [] ∧ -1000 ≤ k ∧ k ≤ 1000 ∧ ds.length ≤ 1000 ∧ Q (.tuple (repD k ds)) s
theorem dpa_repN {K : PySem.W.Frag} {G : Hp} {xs : List V} {ds : List PyData} (h : DpAll K G xs ds) : ∀ n, DpAll K G (List.replicate n xs).flatten (List.replicate n ds).flatten
  | 0 => .nil
  | n + 1 => by
    rw [List.replicate_succ, List.replicate_succ, List.flatten_cons, List.flatten_cons]
    exact dpa_app h (dpa_repN h n)
theorem o_repT (hK : X.K = C.K) : OpD X C (binaryOp .Mult) (rRepN C.K) gRepN := ⟨hK ▸ op_repN, ⟨fun G σ H s x y d e Q Q' r p1 p2 q k => by
  obtain ⟨ds, n, rfl, rfl, hne, h1, h2, hl, q⟩ := q
  obtain ⟨a, xs, rfl, h3, h4⟩ := pk_tup p1
  have hy : y = .int n := by
    rcases p2 with h | ⟨_, _, _, _, h, _⟩
    · exact dp_int h
    · cases h
  subst hy
  refine ⟨a, n, xs, rfl, rfl, Evl.ex_t r.fin.gh h3, fun e => hne ?_, h1, h2, by rw [dpa_len h4]; exact hl, fun e => ?_, fun e p hp => ?_⟩
  · subst e
    exact dpa_nil h4
  · subst e
    have e1 : repD 1 ds = ds := by
      unfold repD
      show (List.replicate 1 ds).flatten = ds
      simp
    rw [e1] at q
    exact k _ _ s G H q r (Ex.refl G) Gs.refl (.tup h3 h4)
  · obtain ⟨r2, eg, eh⟩ := r.new (o := .tup (List.replicate n.toNat xs).flatten) hp
    exact k _ _ s _ _ q r2 eg eh (.tup (.inl (.inl upd_same)) (dpa_ex eg (dpa_repN h4 _)))⟩⟩
end
end Dw

namespace Dw
open PySem PySem.Spec PyProof.Rows L2 OgR Evl
/-! ### what the head of a law wants -/
def ExB (l : Addr) (H H' : Hp) : Prop := ∀ a o, a ≠ l → H a = some o → H' a = some o
theorem ExB.of {l : Addr} {H H' : Hp} (e : Ex H H') : ExB l H H' := fun a o _ h => e a o h
theorem ExB.trans {l : Addr} {H H1 H2 : Hp} (a : ExB l H H1) (b : ExB l H1 H2) : ExB l H H2 := fun x o n h => b x o n (a x o n h)
theorem ExB.mut {l p : Addr} {H H' : Hp} {o : HO} (e : ExB l H H') (h : H p = none) : ExB l H (upd H' p o) := fun x u n hx => by
  rw [upd_ne (fun z => by rw [z, h] at hx; cases hx)]
  exact e x u n hx
theorem BoxAt.ex {H H' : Hp} {l : Addr} {c : Int} (h : BoxAt H l c) (e : Ex H H') : BoxAt H' l c := h.keep fun o q => e l o q
theorem BoxAt.upd {H : Hp} {l p : Addr} {c : Int} {o : HO} (h : BoxAt H l c) (n : l ≠ p) : BoxAt (upd H p o) l c := h.keep fun u q => by
  rw [upd_ne n]
  exact q
theorem repT_snoc (n : Nat) : List.replicate (n + 1) true = List.replicate n true ++ [true] := by
  rw [List.replicate_succ']
theorem repT_all (n : Nat) : (List.replicate n true).all id = true := by
  rw [List.all_eq_true]
  intro x hx
  rw [(List.mem_replicate.mp hx).2]
  rfl
theorem box01 (b : Bool) : -(2 ^ 64) < (if b = true then (1 : Int) else 0) ∧ (if b = true then (1 : Int) else 0) < 2 ^ 64 := by
  cases b <;> decide
/-- promises of _law_cell_at, _law_box, _law_right, law -/
def spCel (K : PySem.W.Frag) : Sp := fun vs H Q _ => ∃ (a : Addr) (ns : List Int) (k : Nat), vs = [.ref a, .int k] ∧ SqL K H a (ns.map V.int) ∧ Q (.int (ns.getD k 0)) H
def spBox (K : PySem.W.Frag) : Sp := fun vs H Q _ => ∃ (a : Addr) (ns : List Int) (k : Nat), vs = [.ref a, .int k] ∧ SqL K H a (ns.map V.int) ∧ k ≤ 1000 ∧
  ∀ l x y, H l = none → 0 ≤ x → 0 ≤ y → y < 2 ^ 62 → Q (.ref l) (upd H l (.lst [.int x, .int y, .int 0]))
def spRight : Sp := fun vs H Q _ => ∃ (l : Addr) (c : Int), vs = [.ref l] ∧ BoxAt H l c ∧ c ≤ 800000 ∧ ∀ H' c', ExB l H H' → BoxAt H' l c' → c' ≤ c + 1000 → Q (.bl true) H'
def spLaw (K : PySem.W.Frag) : Sp := fun vs H Q _ => ∃ (s : Addr) (ns : List Int), vs = [.ref s] ∧ SqL K H s (ns.map V.int) ∧ ns.length ≤ 63 ∧ ∀ H', Q (.bl true) H'
/-- what a law's _law_right promises -/
def fRight : FB := fun ds c R => ds = [] ∧ c ≤ 800000 ∧ ∀ c', c' ≤ c + 1000 → R (.bool true) c'
theorem right_of {P : Program} {wd : World} {K : PySem.W.Frag} {mg : Str → Option Value} {base : Heap} {k : Nat} {x : Str} {st : Stmt} {ps : List Str} (D : Def P wd K mg base k x st ps (spB K fRight)) : Def P wd K mg base k x st ps spRight :=
  D.imp fun vs H Q E h => by
    obtain ⟨l, c, rfl, hB, hc, q⟩ := h
    refine ⟨l, [], fun _ => none, [], c, fun d c' => d = .bool true ∧ c' ≤ c + 1000, rfl, hB, rfl, (fun b o h => by cases h), .nil, ⟨rfl, hc, fun c' h => ⟨rfl, h⟩⟩, fun v d c' G' H' hR eg eh hB' gh nw pd => ?_⟩
    obtain ⟨rfl, h2⟩ := hR
    rw [dp_bl pd]
    exact q H' c' (fun a o n h => eh a o n h) hB' h2
end Dw

namespace Gx
open PySem PySem.Spec PyProof.Rows L2
/-! ### an own exception class with an __init__, over any built-in one -/
structure XC (K : PySem.W.Frag) (C : Addr) (B newId initId : String) (bmB : List Value) : Prop where
  fb : ExcBaseFacts B newId initId bmB
  sf : StoreFacts B bmB "object.__setattr__" "object"
  ini : PySem.W.excInitIn K C bmB newId = true
  ovr : PySem.W.excOver K C bmB = true
  dct : PySem.W.hasDictIn K C = true
  sa : PySem.W.findIn K (.ref C) "__setattr__" = some (some (.builtin "object.__setattr__"))
  ga : PySem.W.findIn K (.ref C) "__getattribute__" = some (some (.builtin "BaseException.__getattribute__"))
  gg : PySem.W.findIn K (.ref C) "__getattr__" = some none
  sub : PySem.W.subIn K (.ref C) (.type "BaseException") = some true
  cls : PySem.W.findIn K (.ref C) "__class__" = some (some (.builtin "object.__class__"))
  kp : PySem.W.keepIn K (.ref C) = true
  cin : (PySem.W.clsIn K C).isSome = true
  mro : PySem.W.mroIn K C (.type "object") = some true
  spc : PySem.W.specialIn K (.builtin "object.__class__") "__get__" = some (some (.builtin "getset_descriptor.__get__"))
  tks : PySem.W.takesIn K (.builtin "object.__class__") = some true
section
variable {prog : Program} {w : World} {A : Around} {E : Value → Shared → Prop} {s : Shared} {K : PySem.W.Frag} {C x t : Addr} {B newId initId : String} {bmB : List Value}
/-- x.name = v, the first field -/
theorem osaG {name : Str} {tk : Tok} {v : Value} {R : Result → Shared → Prop} (T : XC K C B newId initId bmB) (ok : K.In s.heap) (hx : s.heap.get? x = some (PySem.W.excObj C t none .none)) (ht : PySem.W.takerIn K C name = some none)
    (hq : ∀ h' tk' dx, (∀ b o, b ≠ x → s.heap.get? b = some o → h'.get? b = some o) → s.heap.objs.size ≤ dx → dx ≠ x → h'.get? x = some (PySem.W.excObj C t (some dx) .none) →
      h'.Ns1 dx (fun y => if y = name then some v else none) → R (.ok (.ret .none)) { s with heap := h', toks := tk' }) :
    codeAny (model prog w) A (.call (.builtin "object.__setattr__") ⟨[.ref x, .str name tk, v], []⟩) R s := by
  obtain ⟨cd, c1, c2⟩ := PySem.W.any_some T.dct
  have hlt := Heap.lt_size hx
  refine PySem.W.osa_openX (od := none) T.sf ok ⟨hx, rfl, rfl, trivial⟩ T.ovr ht fun bb => ?_
  refine wpAny_bind (wpAny_pure (wpAny_bind (PySem.W.instanceDict_exc hx (PySem.W.looks_clsIn ok c1) c2 ?_)))
  obtain ⟨hp, g, dr, tk0, os⟩ := s
  show wpAny _ _ (Builtin.ObjectAttr.storeInDict hp.objs.size (.str name tk) name v) _ _ _
  refine HandSPX.store_in_new ⟨_, #[], _, (Heap.get?_update_ne _ _ _ _ (Nat.ne_of_gt hlt)).trans (Heap.get?_push_at rfl rfl), rfl, fun e he => absurd he (by simp), fun _ => rfl⟩ fun h1 tk1 ns sb => ?_
  have up : (hp.push (PySem.W.dictOf [] 0)).get? x = some (PySem.W.excObj C t none .none) := Heap.get?_push_of_some _ hx
  refine hq h1 tk1 hp.objs.size (fun b o nb hb => ?_) (Nat.le_refl _) (Nat.ne_of_gt hlt) ?_ ns
  · rw [sb.2 b (Nat.ne_of_lt (Heap.lt_size hb)), Heap.get?_update_ne _ _ _ _ nb]
    exact Heap.get?_push_of_some _ hb
  · rw [sb.2 x (Nat.ne_of_lt hlt)]
    exact Heap.get?_update_self _ up rfl
end
section
variable {X : Cx} {pins : List (Addr × Obj)} {σ : L2.St} {H : Hp} {s : Shared} {a C dx : Addr} {f : Str} {y : V} {u : Value} {A : Around} {E : Value → Shared → Prop} {B newId initId : String} {bmB : List Value}
/-- the same over the tracked heap -/
theorem storeG {Q : Unit → Shared → Prop} (T : XC X.K C B newId initId bmB) (I : Inv X pins σ H s) (he : H a = some (exo a C none)) (ht : PySem.W.takerIn X.K C f = some none) (ry : RelV y u)
    (h : ∀ dx s', H dx = none → dx ≠ a → Inv X pins σ (upd (upd H dx (exd dx [(f, y)])) a (exo a C (some dx))) s' → Q () s') : wpAny (model X.prog X.w) A (setAttr (.ref a) f u) Q E s := by
  obtain ⟨t1, ho⟩ := exo_at I.hok he
  refine PySem.W.set_plain I.kIn (od := none) ⟨ho, rfl, rfl, trivial⟩ T.sa ?_
  refine osaG (s := { s with toks := s.toks + 1 }) (t := t1) T I.kIn ho ht fun h1 tk1 dx kk sz nx hx ns => ?_
  have free : H dx = none := I.hok.fresh sz
  have young : ∀ {b : Addr} {o : Obj}, s.heap.get? b = some o → b ≠ dx := fun {b o} z e => by
    rw [e] at z
    exact absurd (Heap.lt_size z) (Nat.not_lt.mpr sz)
  have nota : ∀ {b : Addr}, H b = none → b ≠ a := fun {b} n z => by
    rw [z, he] at n
    cases n
  have far : ∀ {b : Addr} {o : HO}, H b = some o → o ≠ exo a C none → upd (upd H dx (exd dx [(f, y)])) a (exo a C (some dx)) b = some o := fun {b o} z ne => by
    have b1 : b ≠ a := fun z1 => by
      rw [z1, he] at z
      exact ne (Option.some.inj z).symm
    have b2 : b ≠ dx := fun z1 => by
      rw [z1, free] at z
      cases z
    rw [upd_ne b1, upd_ne b2]
    exact z
  have un : Un X.fs [] H (upd (upd H dx (exd dx [(f, y)])) a (exo a C (some dx))) s.heap h1 := by
    refine ⟨fun b o z n _ _ => kk b o (nota n) z, fun b o z n _ _ => ⟨o.slots, kk b o (nota n) z⟩, fun b o z n _ => ?_, fun b o z _ => ?_, fun b xs z => far z fun e => exo_tup e.symm, fun b o v z => far z fun e => exo_frz e.symm, fun b ps z => ⟨#[], ?_⟩⟩
    · rw [upd_ne (nota n), upd_ne (young z)]
      exact n
    · by_cases ab : b = a
      · exact ⟨_, ab ▸ hx⟩
      · exact ⟨o, kk b o ab z⟩
    · rw [far z fun e => exo_tbl e.symm, Array.append_empty]
  refine h dx _ free nx (I.un (t' := tk1) un fun b o z => ?_)
  by_cases ab : b = a
  · rw [ab, upd_same] at z
    cases z
    rw [ab]
    exact exo_ok hx
  · rw [upd_ne ab] at z
    by_cases bd : b = dx
    · rw [bd, upd_same] at z
      cases z
      rw [bd]
      exact exd_ok ns (relO_put (fs := []) ry fun _ => trivial)
    · rw [upd_ne bd] at z
      refine (I.hok b o z).stay (fun c v hc zz => kk c v ?_ zz) (fun c hc => far hc fun e => exo_own e.symm) fun c xs hc => far hc fun e => exo_tup e.symm
      rcases hc with hc | hc
      · exact hc ▸ ab
      · exact fun z1 => by
          rw [z1, he] at hc
          exact exo_own (Option.some.inj hc)
end
section
variable {X : Cx} {o e : Expr} {es : List Expr} {to te : TE} {ta : TA} {f : Str} {p p' pos : Pos} {C : Addr} {B newId initId : String} {bmB : List Value}
/-- self.f = e, as the first and only field -/
def tFld (C : Addr) (f : Str) (to te : TE) : TS := fun D σ H => te σ H fun y H1 => to σ H1 fun x H2 => ∃ a : Addr, x = .ref a ∧ H2 a = some (exo a C none) ∧ ∀ dx, H2 dx = none → dx ≠ a → D.nx σ (upd (upd H2 dx (exd dx [(f, y)])) a (exo a C (some dx)))
theorem ps_fld (T : XC X.K C B newId initId bmB) (ht : PySem.W.takerIn X.K C f = some none) (ho : PE X o to) (he : PE X e te) (hs : swapsWith e (some (.Attribute o f p')) pos.line X.env = pure false := by rfl) : PS X (.Assign [.Attribute o f p'] e pos) (tFld C f to te) := by
  refine ⟨fun pins s σ H D I h => plainObj_wpAny_Assign_Attribute (thn (he.run pins s σ H _ I h) fun v s1 g1 => ?_) hs⟩
  obtain ⟨y, H1, I1, ry, q1⟩ := g1
  refine thn (ho.run pins s1 σ H1 _ I1 q1) fun u s2 g2 => ?_
  obtain ⟨x, H2, I2, rx, a, e1, ha, q⟩ := g2
  subst e1
  cases (show u = Value.ref a from rx)
  exact storeG T I2 ha ht ry fun dx s3 n ne J => ⟨σ, _, J, q dx n ne⟩
end
end Gx

namespace PySem.GxK
open PySem.W PySem.Calls PyProof.Rows
/-! ### C(f=v): the class called with one name -/
section
variable {prog : Program} {w : World} {M : Model} {A : Around} {E : Value → Shared → Prop} {R : Result → Shared → Prop} {h : Heap} {g : Array GenState} {d : Drawn} {t : Nat} {os : OsState}
variable {nm q n : Str} {C N : Addr} {bs bm bmB : List Value} {hdct : Bool} {sn : List Str} {sub : List Value} {ab : Bool} {col : Option Bool} {dd : Option Addr} {k0 k1 k2 k3 k5 : Option Value} {B newId initId : String} {v : Value}
theorem kw_chkT {Q : Unit → Shared → Prop} (hC : h.get? C = some (excClassObj nm q C N bs bm hdct sn sub ab col dd k0 k1 k2 k3 k5 newId)) (hq : Q () ⟨h, g, d, t, os⟩) :
    wpAny M A (checkBuiltinCall "type.__call__" ⟨[.ref C], [(n, v)]⟩) Q E ⟨h, g, d, t, os⟩ := by
  have sb := tc_sub
  have ty : (⟨h, g, d, t, os⟩ : Shared).TypeIs (.ref C) "type" := ⟨_, hC, rfl⟩
  simp only [checkBuiltinCall, tc_kind, tc_split]
  repeat (any_goals (first | assumption | with_reducible refine wpAny_loadPart_at hC ?_ | with_reducible refine wpAny_onRaise ?_ | with_reducible refine wpAny_map ?_ | wp_step))
theorem kw_chkN (F : ExcBaseFacts B newId initId bmB) (hT : ∀ X : String, bm.contains (.type X) = bmB.contains (.type X)) {Q : Unit → Shared → Prop}
    (hC : h.get? C = some (excClassObj nm q C N bs bm hdct sn sub ab col dd k0 k1 k2 k3 k5 newId)) (hq : Q () ⟨h, g, d, t, os⟩) : wpAny M A (checkBuiltinCall newId ⟨[.ref C], [(n, v)]⟩) Q E ⟨h, g, d, t, os⟩ := by
  have inB : (Value.ref C :: bm).contains (.type B) = true := by rw [List.contains_cons, hT, F.hasB, Bool.or_true]
  have ns := F.noStar
  simp only [checkBuiltinCall, F.newKind, F.newSplit, F.newRow]
  repeat (first | refine wpAny_loadPart_at hC ?_ | (refine wpAny_isSubtype_exc hC ?_; rw [inB]) | refine wpAny_staticBase_exc hC ?_ | refine wpAny_madeBy_exc hC ?_ | simp only [bne_self_eq_false, Bool.false_eq_true, if_false] | wp_step)
  exact hq
theorem kw_new (F : ExcBaseFacts B newId initId bmB) (hT : ∀ X : String, bm.contains (.type X) = bmB.contains (.type X))
    (hC : h.get? C = some (excClassObj nm q C N bs bm hdct sn sub ab col dd k0 k1 k2 k3 k5 newId))
    (hq : R (.ok (.ret (.ref (h.objs.size + 1)))) ⟨(h.push (PySem.W.kdv_tup [])).push (HandSPX.excO C h.objs.size), g, d, t, os⟩) :
    codeAny (model prog w) A (.builtin newId ⟨[.ref C], [(n, v)]⟩) R ⟨h, g, d, t, os⟩ := by
  have fin := F.ends
  have c1 : (Value.ref C :: bm).contains (.type B) = true := by rw [List.contains_cons, hT, F.hasB, Bool.or_true]
  have c2 : (Value.ref C :: bm).contains (.type "AttributeError") = false := by rw [List.contains_cons, hT, F.noAttr]; rfl
  have c3 : (Value.ref C :: bm).contains (.type "NameError") = false := by rw [List.contains_cons, hT, F.noName]; rfl
  refine codeAny_builtinAt F.entry ?_
  unfold Builtin.«BaseException.__new__»
  refine wpAt_bind ?_
  show wpAt _ _ _ (stack >>= _) _ _ _
  refine wpAt_bind (wpAt_stack fun p below => wpAt_of_wpAny ?_)
  wp_walk
  refine wpAt_of_wpAny ?_
  rw [F.owner]
  repeat (first | with_reducible refine wpAny_madeHere_exc F.canon hC ?_ | with_reducible refine wpAny_loadPart_at hC ?_ | (with_reducible refine wpAny_isSubtype_exc hC ?_; first | rw [c1] | rw [c2] | rw [c3]) | wp_step)
  show R _ _
  rw [Heap.size_push]
  exact hq
theorem kw_call (F : ExcBaseFacts B newId initId bmB) (hT : ∀ X : String, bm.contains (.type X) = bmB.contains (.type X)) {fI : Addr}
    (hC : h.get? C = some (excClassObj nm q C N bs bm hdct sn sub ab col dd k0 k1 k2 k3 k5 newId))
    (hi : PySem.W.Looks (model prog w) h (typeLookup (.ref C) "__init__") (some (.ref fI))) (hb : ∀ self, PySem.W.Looks (model prog w) h (bindSpecial (.ref fI) self) (.ref fI, [self]))
    (hq : codeAny (model prog w) (A.under (.builtin "type.__call__" ⟨[.ref C], [(n, v)]⟩)) (.call (.ref fI) ⟨[.ref (h.objs.size + 1)], [(n, v)]⟩) (PySem.W.InitBack (h.objs.size + 1) R)
      ⟨(h.push (PySem.W.kdv_tup [])).push (HandSPX.excO C h.objs.size), g, d, t, os⟩) :
    codeAny (model prog w) A (.call (.ref C) ⟨[], [(n, v)]⟩) R ⟨h, g, d, t, os⟩ := by
  have g1 := tc_lookup
  have g2 := tc_bind (.ref C)
  have ty : (⟨h, g, d, t, os⟩ : Shared).TypeIs (.ref C) "type" := ⟨_, hC, rfl⟩
  refine codeAny_of_tree ?_
  show wpAny _ _ (callAny (.ref C) _) _ _ _
  repeat (any_goals (first | assumption | with_reducible refine wpAny_loadPart_at hC ?_ | wp_step))
  refine ⟨rfl, ?_⟩
  refine codeAny_call_builtin_at (Code.quiet_builtin _ (by decide +kernel)) entry_typeCall (kw_chkT hC ?_)
  repeat (first | with_reducible refine wpAny_loadPart_at hC ?_ | with_reducible refine wpAny_madeBy_exc hC ?_ | wp_step)
  refine codeAny_call_builtin_code (Code.quiet_builtin _ F.quiet) (kw_chkN F hT hC ?_)
  refine kw_new F hT hC ?_
  show wpAny _ _ _ _ _ _
  have up : ∀ b o, h.get? b = some o → ((h.push (PySem.W.kdv_tup [])).push (HandSPX.excO C h.objs.size)).get? b = some o := fun b o e => Heap.get?_push_of_some _ (Heap.get?_push_of_some _ e)
  have hC1 := up _ _ hC
  have hnew : ((h.push (PySem.W.kdv_tup [])).push (HandSPX.excO C h.objs.size)).get? (h.objs.size + 1) = some (HandSPX.excO C h.objs.size) := by heap_get
  have own : (Value.ref C :: bm).contains (.ref C) = true := by simp
  have i1 := hi.keeps up
  have b1 := (hb (.ref (h.objs.size + 1))).keeps up
  unfold isInstance
  repeat (first | with_reducible refine wpAny_loadPart_at hnew ?_ | (with_reducible refine wpAny_isSubtype_exc hC1 ?_; rw [own]) | wp_step)
  show wpAny _ _ (typeLookup (.ref C) _) _ _ _
  refine i1.at (wpAny_holding (wpAny_bind (b1.at (wpAny_bind (wpAny_call (codeAny_mono hq fun r s' z => ?_))))))
  rcases r with e | (u | _ | _ | _) <;> first | exact z | exact z.elim | skip
  obtain ⟨rfl, z⟩ := z
  first
    | exact wpAny_pure (wpAny_pure z)
    | (wp_walk; exact z)
end
end PySem.GxK

namespace Gx
open PySem PySem.Spec PyProof.Rows L2
def XCx (K : PySem.W.Frag) (C : Addr) : Prop := ∃ B n i bm, XC K C B n i bm
/-- at a: an exception of the class at C, with the fields fs -/
def XAt (H : Hp) (a C : Addr) (fs : List (Str × V)) : Prop := ∃ d, H a = some (exo a C (some d)) ∧ H d = some (exd d fs)
theorem XAt.mono {H H' : Hp} {a C : Addr} {fs : List (Str × V)} (h : XAt H a C fs) (e : ∀ b o, H b = some o → H' b = some o) : XAt H' a C fs := by
  obtain ⟨d, h1, h2⟩ := h
  exact ⟨d, e _ _ h1, e _ _ h2⟩
section
variable {X : Cx} {pins : List (Addr × Obj)} {σ : L2.St} {H : Hp} {s : Shared} {a C : Addr} {fs : List (Str × V)}
theorem xat_inst (I : Inv X pins σ H s) (h : XAt H a C fs) : ∃ ox od, PySem.W.InstAt s.heap a ox C (some od) ∧ ∀ f, RelO (fs.lookup f) ((PySem.W.lookIn f od).getD none) ∧ (PySem.W.lookIn f od).isSome = true := by
  obtain ⟨d, h1, h2⟩ := h
  obtain ⟨t1, ho⟩ := exo_at I.hok h1
  obtain ⟨mA, hns, rel⟩ := exd_at I.hok h2
  obtain ⟨od, hod, hl⟩ := lookIn_ns hns
  exact ⟨_, od, ⟨ho, rfl, rfl, hod⟩, fun f => ⟨by rw [hl]; exact rel f, by rw [hl]; rfl⟩⟩
end
section
variable {X : Cx} {o e : Expr} {es : List Expr} {to te : TE} {ta : TA} {f n : Str} {p p' pos : Pos}
/-- e.f -/
@[irreducible] def tGet (K : PySem.W.Frag) (n : Str) (te : TE) : TE := fun σ H Q => te σ H fun x H1 => ∃ a C fs v, x = .ref a ∧ XAt H1 a C fs ∧ XCx K C ∧ PySem.W.findIn K (.ref C) n = some none ∧ fs.lookup n = some v ∧ Q v H1
theorem pe_get (he : PE X e te) (hb : attributeBase e n X.env (eval e X.env) = eval e X.env := by rfl) : PE X (.Attribute e n pos) (tGet X.K n te) := by
  refine ⟨fun pins s σ H Q I h => ?_⟩
  unfold tGet at h
  refine attr_of hb (thn (he.run pins s σ H _ I h) fun u s1 g => ?_)
  obtain ⟨x, H1, I1, rx, a, C, fs, v, ex, ha, ⟨B, nn, ii, bm, T⟩, hno, l, q⟩ := g
  subst ex
  cases (show u = Value.ref a from rx)
  obtain ⟨ox, od, J, hl⟩ := xat_inst I1 ha
  obtain ⟨r1, r2⟩ := hl n
  rw [l] at r1
  obtain ⟨z, hz⟩ := Option.isSome_iff_exists.mp r2
  rw [hz] at r1
  obtain ⟨u2, hu, ru⟩ := RelO.some_of r1
  have hz2 : z = some u2 := hu
  subst hz2
  exact HandSPX.exc_get I1.kIn J T.ga T.gg T.sub (PySem.W.findObj_own T.dct hno rfl hz) (handed_of ru) ⟨v, H1, I1.tok _, ru, q⟩
end
section
variable {X : Cx}
/-- isinstance(e, c) -/
def rIsX (K : PySem.W.Frag) : List V → Hp → VK → Prop := fun xs H Q => ∃ (a C : Addr) (fs : List (Str × V)) (c : V) (cv : Value) (b : Bool), xs = [.ref a, c] ∧ XAt H a C fs ∧ XCx K C ∧ (∀ u, RelV c u → u = cv) ∧ PySem.W.kitOne K (.ref C) cv = some b ∧ Q (.bl b) H
theorem call_isX : CallR X (.builtin "isinstance") (rIsX X.K) := by
  intro pins s σ H xs us Q I r h
  obtain ⟨a, C, fs, c, cv, b, rfl, ha, ⟨B, n, i, bm, T⟩, hcv, e, q⟩ := h
  cases r with
  | cons rx rr =>
    cases rr with
    | cons rt rr =>
      cases rr
      cases rx
      have ec := hcv _ rt
      subst ec
      obtain ⟨ox, od, J, _⟩ := xat_inst I ha
      exact PySem.W.kia_one (PySem.W.kitx_exc T.cin T.ga T.gg T.sub T.cls T.spc T.tks T.mro) I.kIn J e (fun z => nomatch z) fun tk => ⟨.bl b, H, I.kept (t' := tk) fun _ _ z => z, rfl, q⟩
/-- isinstance(e, (c, ..)) -/
def rIsXT (K : PySem.W.Frag) : List V → Hp → VK → Prop := fun xs H Q => ∃ (a C tp : Addr) (fs : List (Str × V)) (cs : List V) (cvs : List Value) (b : Bool), xs = [.ref a, .ref tp] ∧ XAt H a C fs ∧ XCx K C ∧ H tp = some (.tup cs) ∧ (∀ us, Vals cs us → us = cvs) ∧ PySem.W.kitAny K (.ref C) cvs = some b ∧ Q (.bl b) H
theorem call_isXT : CallR X (.builtin "isinstance") (rIsXT X.K) := by
  intro pins s σ H xs us Q I r h
  obtain ⟨a, C, tp, fs, cs, cvs, b, rfl, ha, ⟨B, n, i, bm, T⟩, ht, hcv, e, q⟩ := h
  cases r with
  | cons rx rr =>
    cases rr with
    | cons rt rr =>
      cases rr
      cases rx
      cases rt
      obtain ⟨ox, od, J, _⟩ := xat_inst I ha
      obtain ⟨_, its2, r2, ob, ho, hc, nn, hd⟩ := I.hok _ _ ht
      have e2 := hcv _ r2
      subst e2
      obtain ⟨c1, c2, c3, c4⟩ := ob
      dsimp only at hc hd
      subst hc hd
      exact PySem.W.kia_tup (PySem.W.kitx_exc T.cin T.ga T.gg T.sub T.cls T.spc T.tks T.mro) I.kIn J ho e (fun z => nomatch z) fun tk => ⟨.bl b, H, I.kept (t' := tk) fun _ _ z => z, rfl, q⟩
end
/-! ### making one -/
section
variable {X : Cx} {e : Expr} {es : List Expr} {ta : TA} {p pos : Pos} {x : Str} {C fI : Addr} {k : Nat} {fd : FuncData} {ps : List Str} {sp : Sp} {B newId initId : String} {bmB : List Value}
@[irreducible] def tMk (C : Addr) (sp : Sp) (ta : TA) : TE := fun σ H Q => ta σ H fun vs H1 => vs.length ≤ 1000 ∧ ∀ a, H1 a = none → sp (.ref a :: vs) (upd H1 a (exo a C none)) (fun v H2 => v = .non ∧ Q (.ref a) H2) E0
theorem pe_mk (T : XC X.K C B newId initId bmB) (iC : PySem.W.findIn X.K (.ref C) "__init__" = some (some (.ref fI))) (tI : PySem.W.typeIn X.K (.ref fI) = some (.type "function")) (F1 : FnOk X.prog X.w X.K X.mg X.base CX0 k fI fd ps sp) (hr : Room (k + 1) X.A) (hb : Binds X.K fd ps [])
    (hg : Gl X x) (hm : X.mg x = some (.ref C)) (ha : PA X (e :: es) ta) (hdb : (x == ("__debug__" : Str)) = false := by decide) (he : starEach (e :: es) X.env = (false, eval e X.env) :: starEach es X.env := by rfl) (hpl : (backTo pos (starEach es X.env)).any (·.1) = false := by rfl) :
    PE X (.Call (.Name x p) (e :: es) [] pos) (tMk C sp ta) := by
  refine ⟨fun pins s σ H Q I h => wpAny_Call_Name_kw (ld_glob I hg hm ?_ hdb)⟩
  unfold tMk at h
  refine PySem.W.callWith_K (h₀ := X.base) I.ok.mod.kin T.kp (thn (ha.run pos pins s σ H _ I h) fun us s1 g => ?_) he hpl
  obtain ⟨vs, H1, I1, r1, hz, q1⟩ := g
  refine ⟨I1.kIn, ?_⟩
  show wpAny _ _ (call (.ref C) us) _ _ _
  obtain ⟨nm, N, qn, bs, bm, hdct, sn, sub, ab, col, dd, k0, k1, k2, k3, k5, hC, hT⟩ := PySem.W.excInit_of I1.kIn T.ini
  obtain ⟨hp, g, dr, tk, os⟩ := s1
  have sz : hp.objs.size ≤ hp.objs.size + 1 := Nat.le_succ _
  have fr : H1 (hp.objs.size + 1) = none := I1.hok.fresh sz
  have q2 := q1 (hp.objs.size + 1) fr
  have up : ∀ b o, hp.get? b = some o → ((hp.push (PySem.W.kdv_tup us)).push (HandSPX.excO C hp.objs.size)).get? b = some o := fun b o z => Heap.get?_push_of_some _ (Heap.get?_push_of_some _ z)
  have new : ((hp.push (PySem.W.kdv_tup us)).push (HandSPX.excO C hp.objs.size)).get? (hp.objs.size + 1) = some (HandSPX.excO C hp.objs.size) := by heap_get
  have I2 : Inv X pins σ (upd H1 (hp.objs.size + 1) (exo (hp.objs.size + 1) C none)) ⟨(hp.push (PySem.W.kdv_tup us)).push (HandSPX.excO C hp.objs.size), g, dr, tk, os⟩ :=
    I1.laid (t' := tk) (a := hp.objs.size + 1) (o := exo (hp.objs.size + 1) C none) (h' := (hp.push (PySem.W.kdv_tup us)).push (HandSPX.excO C hp.objs.size)) up sz (exo_ok new)
  have r2 : Vals (V.ref (hp.objs.size + 1) :: vs) (Value.ref (hp.objs.size + 1) :: us) := .cons rfl r1
  have hl : (Value.ref (hp.objs.size + 1) :: us).length = ps.length := by rw [← r2.length, F1.len _ _ _ _ q2]
  have hus : us.length ≤ sizeLine := by
    rw [← r1.length, sizeLine_eq]
    omega
  have hbb := hb ⟨(hp.push (PySem.W.kdv_tup us)).push (HandSPX.excO C hp.objs.size), g, dr, tk, os⟩ (Value.ref (hp.objs.size + 1) :: us) I2.kIn (by rw [List.append_nil]; exact hl)
  rw [List.append_nil] at hbb
  refine wpAny_call (HandSPX.call_own T.fb hT hC (PySem.W.looks_findIn I1.kIn iC) (fun self => PySem.W.bind_fn I1.kIn self tI) hus
    (codeAny_mono (F1.run _ X.stack _ _ _ _ _ _ E0 (hr.make C us []) (I2.env0.make C us []) hbb r2 q2) fun r s' w => ?_))
  rcases r with er | (_ | _ | _ | u)
  case ok.ret =>
    obtain ⟨v, H2, J, rv, ev, q3⟩ := I2.after w
    subst ev
    exact ⟨rv, .ref (hp.objs.size + 1), H2, J, rfl, q3⟩
  all_goals exact False.elim w
/-- C(f=e) -/
theorem pe_mkK {n : Str} {te : TE} {kpos : Pos} (T : XC X.K C B newId initId bmB) (iC : PySem.W.findIn X.K (.ref C) "__init__" = some (some (.ref fI))) (tI : PySem.W.typeIn X.K (.ref fI) = some (.type "function")) (F1 : FnOk X.prog X.w X.K X.mg X.base CX0 k fI fd ps sp) (hr : Room (k + 1) X.A)
    (hb : ∀ (s : Shared) (a u : Value), BindsTo s fd ⟨[a], [(n, u)]⟩ (ps.zip [a, u])) (hg : Gl X x) (hm : X.mg x = some (.ref C)) (he : PE X e te) (hn2 : ps.length = 2 := by rfl) (hdb : (x == ("__debug__" : Str)) = false := by decide)
    (hall : (backToKw pos (keywordEach [⟨some n, e, kpos⟩] X.env)).all (·.1.isSome) = true := by rfl) (hks : (backToKw pos (keywordEach [⟨some n, e, kpos⟩] X.env)).filterMap (·.1) = [n] := by rfl)
    (hpl : ((backTo pos (starEach [] X.env)).any (·.1) || (backToKw pos (keywordEach [⟨some n, e, kpos⟩] X.env)).any (·.1.isNone)) = false := by rfl) :
    PE X (.Call (.Name x p) [] [⟨some n, e, kpos⟩] pos) (tMk C sp (tCons te tNil)) := by
  refine ⟨fun pins s σ H Q I h => wpAny_Call_Name_kw (ld_glob I hg hm ?_ hdb)⟩
  unfold tMk at h
  refine PySem.W.callWith_KW0 (h₀ := X.base) I.ok.mod.kin T.kp hall (thn ((pk_cons (nm := some n) (kpos := kpos) he pk_nil).run pos pins s σ H _ I h) fun us s1 g => ?_) hpl
  obtain ⟨vs, H1, I1, r1, hz, q1⟩ := g
  refine ⟨I1.kIn, ?_⟩
  rw [hks]
  obtain ⟨nm, N, qn, bs, bm, hdct, sn, sub, ab, col, dd, k0, k1, k2, k3, k5, hC, hT⟩ := PySem.W.excInit_of I1.kIn T.ini
  obtain ⟨hp, g, dr, tk, os⟩ := s1
  have sz : hp.objs.size ≤ hp.objs.size + 1 := Nat.le_succ _
  have fr : H1 (hp.objs.size + 1) = none := I1.hok.fresh sz
  have q2 := q1 (hp.objs.size + 1) fr
  have hl := F1.len _ _ _ _ q2
  have hp2 : ps.length = 2 → ∃ v u, vs = [v] ∧ us = [u] ∧ RelV v u := fun e2 => by
    rw [e2] at hl
    cases r1 with
    | nil => simp at hl
    | cons r rr =>
      cases rr with
      | nil => exact ⟨_, _, rfl, rfl, r⟩
      | cons _ _ => simp at hl
  obtain ⟨v, u, rfl, rfl, ru⟩ := hp2 hn2
  have up : ∀ b o, hp.get? b = some o → ((hp.push (PySem.W.kdv_tup [])).push (HandSPX.excO C hp.objs.size)).get? b = some o := fun b o z => Heap.get?_push_of_some _ (Heap.get?_push_of_some _ z)
  have new : ((hp.push (PySem.W.kdv_tup [])).push (HandSPX.excO C hp.objs.size)).get? (hp.objs.size + 1) = some (HandSPX.excO C hp.objs.size) := by heap_get
  have I2 : Inv X pins σ (upd H1 (hp.objs.size + 1) (exo (hp.objs.size + 1) C none)) ⟨(hp.push (PySem.W.kdv_tup [])).push (HandSPX.excO C hp.objs.size), g, dr, tk, os⟩ :=
    I1.laid (t' := tk) (a := hp.objs.size + 1) (o := exo (hp.objs.size + 1) C none) (h' := (hp.push (PySem.W.kdv_tup [])).push (HandSPX.excO C hp.objs.size)) up sz (exo_ok new)
  have r2 : Vals [V.ref (hp.objs.size + 1), v] [Value.ref (hp.objs.size + 1), u] := .cons rfl (.cons ru .nil)
  refine wpAny_call (PySem.GxK.kw_call T.fb hT hC (PySem.W.looks_findIn I1.kIn iC) (fun self => PySem.W.bind_fn I1.kIn self tI)
    (codeAny_mono (F1.run _ X.stack _ _ _ _ _ _ E0 (hr.make C [] [(n, u)]) (I2.env0.make C [] [(n, u)]) (hb _ _ _) r2 q2) fun r s' w => ?_))
  rcases r with er | (_ | _ | _ | u)
  case ok.ret =>
    obtain ⟨v, H2, J, rv, ev, q3⟩ := I2.after w
    subst ev
    exact ⟨rv, .ref (hp.objs.size + 1), H2, J, rfl, q3⟩
  all_goals exact False.elim w
end
end Gx

namespace Og15
open PySem PySem.Spec PyProof.Rows L2 OgR Evl Dw
def topS (i : Nat) : Stmt := PySem.Challenge.pw_onlygroups_k15_errors_by_hand.main.body.getD i (.Pass ⟨0, 0, 0, 0⟩)
abbrev s_tuple_for_list : Stmt := topS 1
theorem sc_tuple_for_list : FnScope ["value"] ["value"] (defScope s_tuple_for_list) := ⟨rfl, rfl, rfl, by decide +kernel, rfl, by decide +kernel, by decide +kernel⟩
abbrev s_l_cell_at : Stmt := topS 18
theorem sc_l_cell_at : FnScope ["_law_script", "_law_k"] ["_law_script", "_law_k"] (defScope s_l_cell_at) := ⟨rfl, rfl, rfl, by decide +kernel, rfl, by decide +kernel, by decide +kernel⟩
abbrev s_l_box : Stmt := topS 19
theorem sc_l_box : FnScope ["_law_script", "_law_k", "_law_core"] ["_law_script", "_law_k"] (defScope s_l_box) := ⟨rfl, rfl, rfl, by decide +kernel, rfl, by decide +kernel, by decide +kernel⟩
abbrev s_l_take : Stmt := topS 20
theorem sc_l_take : FnScope ["_law_box_here", "_law_below", "_law_found", "_law_once", "_law_twice"] ["_law_box_here", "_law_below"] (defScope s_l_take) := ⟨rfl, rfl, rfl, by decide +kernel, rfl, by decide +kernel, by decide +kernel⟩
abbrev s_l_same : Stmt := topS 21
theorem sc_l_same : FnScope ["_law_found", "_law_due", "_law_a", "_law_b"] ["_law_found", "_law_due"] (defScope s_l_same) := ⟨rfl, rfl, rfl, by decide +kernel, rfl, by decide +kernel, by decide +kernel⟩
abbrev s_l_flags : Stmt := topS 22
theorem sc_l_flags : FnScope ["_law_made", "_law_flags_here"] ["_law_made"] (defScope s_l_flags) := ⟨rfl, rfl, rfl, by decide +kernel, rfl, by decide +kernel, by decide +kernel⟩
abbrev s_l_one_right : Stmt := topS 23
theorem sc_l_one_right : FnScope ["_law_made", "_law_at", "_law_kinds", "_law_due"] ["_law_made", "_law_at"] (defScope s_l_one_right) := ⟨rfl, rfl, rfl, by decide +kernel, rfl, by decide +kernel, by decide +kernel⟩
abbrev s_l_right : Stmt := topS 24
theorem sc_l_right : FnScope ["_law_box_here", "_law_spot", "_law_far", "_law_values", "_law_made", "_law_named", "_law_some", "_law_fields", "_law_kinds", "_law_its", "_law_at"] ["_law_box_here"] (defScope s_l_right) := ⟨rfl, rfl, rfl, by decide +kernel, rfl, by decide +kernel, by decide +kernel⟩
abbrev s_law : Stmt := topS 25
theorem sc_law : FnScope ["_law_script", "_law_k", "_law_box_here", "_law_turn"] ["_law_script"] (defScope s_law) := ⟨rfl, rfl, rfl, by decide +kernel, rfl, by decide +kernel, by decide +kernel⟩
structure Top (wd : World) (K : PySem.W.Frag) (mg : Str → Option Value) : Prop where
  d_tuple_for_list : Fct K mg "tuple_for_list" s_tuple_for_list ["value"]
  d_l_cell_at : Fct K mg "_law_cell_at" s_l_cell_at ["_law_script", "_law_k"]
  d_l_box : Fct K mg "_law_box" s_l_box ["_law_script", "_law_k"]
  d_l_take : Fct K mg "_law_take" s_l_take ["_law_box_here", "_law_below"]
  d_l_same : Fct K mg "_law_same" s_l_same ["_law_found", "_law_due"]
  d_l_flags : Fct K mg "_law_flags" s_l_flags ["_law_made"]
  d_l_one_right : Fct K mg "_law_one_right" s_l_one_right ["_law_made", "_law_at"]
  d_l_right : Fct K mg "_law_right" s_l_right ["_law_box_here"]
  c_MOST : ∃ tk, mg "MOST" = some (.int 300 tk)
  b_abs : mg "abs" = none
  b_all : mg "all" = none
  b_bool : mg "bool" = none
  b_int : mg "int" = none
  b_isinstance : mg "isinstance" = none
  b_len : mg "len" = none
  b_list : mg "list" = none
  b_min : mg "min" = none
  b_range : mg "range" = none
  b_str : mg "str" = none
  b_tuple : mg "tuple" = none
  b_zip : mg "zip" = none
end Og15

namespace Og15
open PySem PySem.Spec PyProof.Rows L2 OgR Evl Dw
local macro_rules | `(tactic| walk_at "d") => `(tactic| first
  | refine ⟨_, rfl, ?_⟩ | refine ⟨_, _, rfl, rfl, ?_⟩ | refine iteT ?_ | refine iteF ?_ | refine ⟨_, _, rfl, rfl, rfl, ?_⟩)
section
variable {P : Program} {wd : World} {K : PySem.W.Frag} {mg : Str → Option Value} {base : Heap}
/-! ### _law_take -/
def spTake : Sp := fun vs H Q _ => ∃ (l : Addr) (c n : Int), vs = [.ref l, .int n] ∧ Dw.BoxAt H l c ∧ 1 ≤ n ∧ n ≤ 10000000 ∧ c < 1000000 ∧
  ∀ r xs c', 0 ≤ r → r < n → Dw.BoxAt (upd H l (.lst xs)) l c' → c' ≤ c + 1 → Q (.int r) (upd H l (.lst xs))
theorem raw_take {f : Addr} {fd : FuncData} {k : Nat} (F : Fun K "_law_take" "_law_take" s_l_take f fd) : FnG P wd K mg base (k + 1) f fd ["_law_box_here", "_law_below"] spTake := by
  refine fnG_of F sc_l_take (fun vs H Q E h => ?_) (fun cdv A outer s H vs Q E hG hr h => ?_)
  · obtain ⟨l, c, n, rfl, _⟩ := h
    rfl
  · obtain ⟨l, c, n, rfl, ⟨a, b, hl, ha, hb, hb2, hc, hc2⟩, hn, hn2, hc3, q⟩ := h
    have hL : SqL K H l [.int a, .int b, .int c] := .inl (.inl hl)
    have X0 : ∀ {X : Cx} {j : Int} {p p1 p2 : Pos} {k : Nat} (hv : PE X (.Name "_law_box_here" p1) (tVar 0)), PE X (.Subscript (.Name "_law_box_here" p1) (.Constant (.int j) k p2) p) (tOp (rIxL X.K) (tVar 0) (fun _ H Q => Q (.int j) H)) := fun hv => pe_ix ix_list hv pe_int (fun _ _ => rfl)
    refine ⟨_, pss_cons (ps_if (pt_cmpR op_gt (X0 (pv 0)) pe_int (nomark _))
        (pss_cons (ps_set (i := 2) sc_l_take.nd rfl (.inl rfl) (pe_op op_mod (X0 (pv 0)) (pv 1)))
          (pss_cons (ps_asg (pe_op op_fdiv (X0 (pv 0)) (pv 1)) (pg_sub (pv 0) pe_int set_list))
          (pss_one (ps_ret (pv 2))))) pss_nil)
      (pss_cons (ps_if (pt_cmpR op_gt (pv 1) (pe_op op_pow pe_int pe_int) (nomark _)) (pss_one ps_never) pss_nil)
      (pss_cons (ps_asg (pe_op op_add (X0 (pv 0)) pe_int) (pg_sub (pv 0) pe_int set_list))
      (pss_cons (ps_set (i := 3) sc_l_take.nd rfl (.inl rfl) (pe_op op_mod (pe_op op_mul (pe_op op_add (X0 (pv 0)) (pe_op op_mul pe_int (X0 (pv 0)))) (pe_op op_add pe_int (X0 (pv 0)))) pe_int))
      (pss_cons (ps_set (i := 4) sc_l_take.nd rfl (.inl rfl) (pe_op op_mod (pe_op op_mul (pe_op op_add (pe_op op_add (pv 3) (X0 (pv 0))) (pe_op op_fdiv (X0 (pv 0)) pe_int)) (pe_op op_add (pe_op op_mod (pv 3) pe_int) pe_int)) pe_int))
      (pss_one (ps_ret (pe_op op_mod (pe_op op_fdiv (pe_op op_mod (pe_op op_add (pe_op op_mul (pv 4) pe_int) (pv 3)) pe_int) pe_int) (pv 1)))))))), ?_⟩
    refine ⟨_, rfl, l, _, 0, _, rfl, rfl, hL, rfl, _, _, rfl, rfl, _, rfl, ite2 (fun e => ?_) (fun e => ?_)⟩
    · have h1 := of_decide_eq_true e
      refine ⟨_, rfl, l, _, 0, _, rfl, rfl, hL, rfl, _, rfl, _, _, rfl, rfl, by omega, ?_⟩
      refine ⟨_, rfl, l, _, 0, _, rfl, rfl, hL, rfl, _, rfl, _, _, rfl, rfl, ⟨by omega, by omega⟩, _, rfl, l, _, 0, 0, rfl, rfl, hl, rfl, ?_⟩
      refine ⟨_, rfl, ?_⟩
      refine q _ _ c (Int.emod_nonneg _ (by omega)) (Int.emod_lt_of_pos _ (by omega)) ⟨_, _, upd_same, Int.ediv_nonneg ha (by omega), hb, hb2, hc, hc2⟩ (by omega)
    · refine ⟨_, rfl, _, _, rfl, rfl, ⟨by decide, by decide, by decide⟩, _, _, rfl, rfl, _, rfl, ite2 (fun e2 => ?_) (fun e2 => ?_)⟩
      · have h2 := of_decide_eq_true e2
        exact absurd h2 (by show ¬ ((10 : Int) ^ 7 < n); omega)
      · refine ⟨_, rfl, l, _, 2, _, rfl, rfl, hL, rfl, _, _, rfl, rfl, _, rfl, l, _, 2, 2, rfl, rfl, hl, rfl, ?_⟩
        have hl2 : upd H l (.lst [.int a, .int b, .int (c + 1)]) l = some (.lst [.int a, .int b, .int (c + 1)]) := upd_same
        have hL2 : SqL K (upd H l (.lst [.int a, .int b, .int (c + 1)])) l [.int a, .int b, .int (c + 1)] := .inl (.inl hl2)
        show tSeq _ _ _ _ (upd H l (.lst [.int a, .int b, .int (c + 1)]))
        refine ⟨_, rfl, l, _, 1, _, rfl, rfl, hL2, rfl, _, rfl, l, _, 2, _, rfl, rfl, hL2, rfl, _, _, rfl, rfl, .inl ⟨by decide, by decide⟩, _, _, rfl, rfl, _, rfl, l, _, 2, _, rfl, rfl, hL2, rfl, _, _, rfl, rfl, _, _, rfl, rfl, .inl ⟨by omega, by omega⟩, _, _, rfl, rfl, by omega, ?_⟩
        refine ⟨_, rfl, _, rfl, l, _, 2, _, rfl, rfl, hL2, rfl, _, _, rfl, rfl, _, rfl, l, _, 1, _, rfl, rfl, hL2, rfl, _, _, rfl, rfl, ⟨by decide, by decide⟩, _, _, rfl, rfl, _, rfl, _, _, rfl, rfl, by omega, _, _, rfl, rfl, _, _, rfl, rfl, .inr ⟨?_, ?_⟩, _, _, rfl, rfl, by omega, ?_⟩
        · have := Int.emod_nonneg ((b + 48271 * (c + 1)) * (39373 + (c + 1)) % 2147483647) (show (40009 : Int) ≠ 0 by decide); omega
        · have := Int.emod_lt_of_pos ((b + 48271 * (c + 1)) * (39373 + (c + 1)) % 2147483647) (show (0 : Int) < 40009 by decide); omega
        · refine ⟨_, rfl, _, _, rfl, rfl, .inr ⟨by decide, by decide⟩, _, rfl, _, _, rfl, rfl, _, _, rfl, rfl, by omega, _, _, rfl, rfl, ⟨by decide, by decide⟩, _, rfl, _, _, rfl, rfl, by omega, ?_⟩
          exact q _ _ (c + 1) (Int.emod_nonneg _ (by omega)) (Int.emod_lt_of_pos _ (by omega)) ⟨_, _, upd_same, ha, hb, hb2, by omega, by omega⟩ (by omega)
def f_take : FB := fun ds c R => ∃ n : Int, ds = [.int n] ∧ 1 ≤ n ∧ n ≤ 10000000 ∧ c < 1000000 ∧ ∀ r c', 0 ≤ r → r < n → c' ≤ c + 1 → R (.int r) c'
theorem ok_l_take (T : Top wd K mg) : Def P wd K mg base 1 "_law_take" s_l_take ["_law_box_here", "_law_below"] (spB K f_take) := by
  obtain ⟨f, fd, F, b, m⟩ := T.d_l_take.ex
  refine Def.imp (sp := spTake) ⟨f, fd, raw_take F, F, b, m⟩ fun vs H Q E h => ?_
  obtain ⟨l, vs', G, ds, c, R, rfl, hB, hGl, gh, p, ⟨n, rfl, h1, h2, h3, hR⟩, kk⟩ := h
  cases p with
  | cons p1 p2 =>
    cases p2
    refine ⟨l, c, n, by rw [dp_int p1], hB, h1, h2, h3, fun r xs c' r0 r1 hB' hc' => kk (.int r) (.int r) c' G _ (hR r c' r0 r1 hc') (Ex.refl G) (fun b o hb h => by rw [upd_ne hb]; exact h) hB' (fun b o h => ?_) (Nw.refl G H) (.int r)⟩
    rw [upd_ne (fun z => by rw [z, hGl] at h; cases h)]
    exact gh b o h
/-! ### _law_take of 10 ** 9 -/
def spTake2 : Sp := fun vs H Q _ => ∃ (l : Addr) (c : Int), vs = [.ref l, .int 1000000000] ∧ Dw.BoxAt H l c ∧ c < 900000 ∧
  ∀ r xs c', 0 ≤ r → r < 1000000000 → Dw.BoxAt (upd H l (.lst xs)) l c' → c' ≤ c + 2 → Q (.int r) (upd H l (.lst xs))
theorem raw_take2 {f : Addr} {fd : FuncData} (F : Fun K "_law_take" "_law_take" s_l_take f fd) (b : Binds K fd ["_law_box_here", "_law_below"] []) (m : mg "_law_take" = some (.ref f)) : FnG P wd K mg base 2 f fd ["_law_box_here", "_law_below"] spTake2 := by
  have GT : FnG P wd K mg base 1 f fd ["_law_box_here", "_law_below"] spTake := raw_take F
  refine fnG_of F sc_l_take (fun vs H Q E h => ?_) (fun cdv A outer s H vs Q E hG hr h => ?_)
  · obtain ⟨l, c, rfl, _⟩ := h
    rfl
  · obtain ⟨l, c, rfl, hB, hc3, q⟩ := h
    obtain ⟨a, bb, hl, ha, hb, hb2, hc, hc2⟩ := id hB
    have hL : SqL K H l [.int a, .int bb, .int c] := .inl (.inl hl)
    have X0 : ∀ {X : Cx} {j : Int} {p p1 p2 : Pos} {k : Nat} (hv : PE X (.Name "_law_box_here" p1) (tVar 0)), PE X (.Subscript (.Name "_law_box_here" p1) (.Constant (.int j) k p2) p) (tOp (rIxL X.K) (tVar 0) (fun _ H Q => Q (.int j) H)) := fun hv => pe_ix ix_list hv pe_int (fun _ _ => rfl)
    refine ⟨_, pss_cons (ps_if (pt_cmpR op_gt (X0 (pv 0)) pe_int (nomark _))
        (pss_cons (ps_set (i := 2) sc_l_take.nd rfl (.inl rfl) (pe_op op_mod (X0 (pv 0)) (pv 1)))
          (pss_cons (ps_asg (pe_op op_fdiv (X0 (pv 0)) (pv 1)) (pg_sub (pv 0) pe_int set_list))
          (pss_one (ps_ret (pv 2))))) pss_nil)
      (pss_cons (ps_if (pt_cmpR op_gt (pv 1) (pe_op op_pow pe_int pe_int) (nomark _))
        (pss_one (ps_ret (pe_op op_mod (pe_op op_add (pe_callG (E := E0) GT hG hr (by rfl) m F.kp b (pa_cons (pv 0) (pa_cons (pe_op op_pow pe_int pe_int) pa_nil)))
          (pe_op op_mul (pe_op op_pow pe_int pe_int) (pe_callG (E := E0) GT hG hr (by rfl) m F.kp b (pa_cons (pv 0) (pa_cons (pe_op op_add (pe_op op_fdiv (pv 1) (pe_op op_pow pe_int pe_int)) pe_int) pa_nil))))) (pv 1)))) pss_nil)
      (pss_cons ps_never (pss_cons ps_never (pss_cons ps_never (pss_one ps_never))))), ?_⟩
    refine ⟨_, rfl, l, _, 0, _, rfl, rfl, hL, rfl, _, _, rfl, rfl, _, rfl, ite2 (fun e => ?_) (fun e => ?_)⟩
    · have h1 := of_decide_eq_true e
      refine ⟨_, rfl, l, _, 0, _, rfl, rfl, hL, rfl, _, rfl, _, _, rfl, rfl, by omega, ?_⟩
      refine ⟨_, rfl, l, _, 0, _, rfl, rfl, hL, rfl, _, rfl, _, _, rfl, rfl, ⟨by omega, by omega⟩, _, rfl, l, _, 0, 0, rfl, rfl, hl, rfl, ?_⟩
      refine ⟨_, rfl, ?_⟩
      refine q _ _ c (Int.emod_nonneg _ (by omega)) (Int.emod_lt_of_pos _ (by omega)) ⟨_, _, upd_same, Int.ediv_nonneg ha (by omega), hb, hb2, hc, hc2⟩ (by omega)
    · refine ⟨_, rfl, _, _, rfl, rfl, ⟨by decide, by decide, by decide⟩, _, _, rfl, rfl, _, rfl, ite2 (fun e2 => ?_) (fun e2 => ?_)⟩
      · refine ⟨_, rfl, _, _, rfl, rfl, ⟨by decide, by decide, by decide⟩, l, c, _, rfl, hB, by decide, by decide, by omega, fun r1 xs c1 r0 rr hB1 hc1 => ?_⟩
        refine ⟨_, _, rfl, rfl, ⟨by decide, by decide, by decide⟩, _, rfl, _, rfl, _, _, rfl, rfl, ⟨by decide, by decide, by decide⟩, _, _, rfl, rfl, ⟨by decide, by decide⟩, _, _, rfl, rfl, l, c1, _, rfl, hB1, by decide, by decide, by omega, fun r2 xs2 c2 r3 rr2 hB2 hc22 => ?_⟩
        refine ⟨_, _, rfl, rfl, .inl ⟨by decide, by decide⟩, _, _, rfl, rfl, _, rfl, _, _, rfl, rfl, (show (0 : Int) < 1000000000 by decide), ?_⟩
        rw [upd_upd] at hB2 ⊢
        exact q _ _ c2 (Int.emod_nonneg _ (by decide)) (Int.emod_lt_of_pos _ (by decide)) hB2 (by omega)
      · exact absurd (decide_eq_true (show (10 : Int) ^ 7 < 1000000000 by decide)) e2
end
end Og15

namespace Og15
open PySem PySem.Spec PyProof.Rows L2 OgR Evl Dw
local macro_rules | `(tactic| walk_at "d") => `(tactic| first
  | refine ⟨_, rfl, ?_⟩ | refine ⟨_, _, rfl, rfl, ?_⟩ | refine iteT ?_ | refine iteF ?_ | refine ⟨_, _, rfl, rfl, rfl, ?_⟩ | refine ⟨rfl, ?_⟩)
def OnB (w : Nat) (C : PyData → Prop) (d : PyData) : Prop := FlB d ∨ ∃ es, (d = .list es ∨ d = .tuple es) ∧ es.length ≤ w ∧ ∀ x ∈ es, C x
theorem eqvAll_refl : ∀ {l : List PyData}, (∀ x ∈ l, PyData.eqv x x = true) → PyData.eqvAll l l = true
  | [], _ => by simp only [PyData.eqvAll]
  | x :: l, h => by simp only [PyData.eqvAll, h x List.mem_cons_self, eqvAll_refl fun y hy => h y (List.mem_cons_of_mem _ hy), Bool.and_self]
theorem flat_refl {d : PyData} (h : FlB d) : PyData.eqv d d = true := by
  cases d with
  | none => simp only [PyData.eqv]
  | bool b => rw [eqv_bool]; simp
  | int i => rw [eqv_int]; simp
  | str z => rw [eqv_str]; simp
  | list _ => exact h.elim
  | tuple _ => exact h.elim
  | dict _ => exact h.elim
theorem FlB.shp {d : PyData} (h : FlB d) : Shp d := Bd.shp (w := 0) (k := 0) h (by decide)
theorem zip_self {es : List PyData} {x : PyData} (h : x ∈ zipD es es) : ∃ d ∈ es, x = .tuple [d, d] := by
  unfold zipD at h
  induction es with
  | nil => simp at h
  | cons e es ih =>
    rw [List.zipWith_cons_cons] at h
    rcases List.mem_cons.mp h with rfl | h
    · exact ⟨e, List.mem_cons_self, rfl⟩
    · obtain ⟨d, hd, r⟩ := ih h
      exact ⟨d, List.mem_cons_of_mem _ hd, r⟩
theorem zip_len (es : List PyData) : (zipD es es).length = es.length := by unfold zipD; rw [List.length_zipWith]; omega
theorem all_true {l : List PyData} : ((l.map fun _ => true).all id) = true := by rw [List.all_map]; simp
section
variable {P : Program} {wd : World} {K : PySem.W.Frag} {mg : Str → Option Value} {base : Heap}
def f_same (C : PyData → Prop) : FP := fun ds R => ∃ d, ds = [d, d] ∧ C d ∧ R (.bool true)
theorem same_step (T : Top wd K mg) {m w : Nat} {C : PyData → Prop} (hw : w ≤ 1000) (g_l_same : Def P wd K mg base m "_law_same" s_l_same ["_law_found", "_law_due"] (spP K (f_same C))) :
    Def P wd K mg base (m + 1) "_law_same" s_l_same ["_law_found", "_law_due"] (spP K (f_same (OnB w C))) := by
  refine Def.pure T.d_l_same sc_l_same (fun ds R h => by obtain ⟨d, rfl, _⟩ := h; rfl) (fun f cdv A outer s H G E ds R hG hr h => ?_)
  obtain ⟨d, rfl, hd, q⟩ := h
  refine ⟨_, _, (dss_cons (ds_if (dt_val (de_isi2 .list .tuple rfl (by rfl) T.b_isinstance (by rfl) T.b_list (by decide +kernel) (by rfl) T.b_tuple (by decide +kernel) (dp_v 1))) (dss_cons (ds_if (DW.q (dw_or (dt_cmp (o_ne rfl hr.units) (DE.p (de_isi .list rfl (by rfl) T.b_isinstance (by rfl) T.b_list (by decide +kernel) (dp_v 0))) (DE.p (de_isi .list rfl (by rfl) T.b_isinstance (by rfl) T.b_list (by decide +kernel) (dp_v 1)))) (dw_or1 (dt_cmp (o_ne rfl hr.units) (DE.p (de_isi .tuple rfl (by rfl) T.b_isinstance (by rfl) T.b_tuple (by decide +kernel) (dp_v 0))) (DE.p (de_isi .tuple rfl (by rfl) T.b_isinstance (by rfl) T.b_tuple (by decide +kernel) (dp_v 1))))))) (dss_one (ds_ret de_bl)) dss_nil)
        (dss_one (ds_ret (de_and (de_cmp (o_eq rfl hr.units) (DE.p (de_len rfl (by rfl) T.b_len (dp_v 0))) (DE.p (de_len rfl (by rfl) T.b_len (dp_v 1)))) (de_one (de_all rfl (by rfl) (by rfl) T.b_all (DE.p (DO.d (do_lc (own := [("_law_a", 2), ("_law_b", 3)]) (by rfl) sc_l_same.nd (di_zip2 rfl (by rfl) T.b_zip (de_v 0) (de_v 1)) (blkOk_by (own := [("_law_a", 2), ("_law_b", 3)]) (N := ["_law_found", "_law_due", "_law_a", "_law_b"]) (sc := defScope s_l_same) (by decide +kernel)) (fun _ _ _ _ _ => (dg_tup (n := 2) rfl (by rfl) (dgs_c (dg_name 2 sc_l_same.nd (hf := Or.inr rfl)) (dgs_c (dg_name 3 sc_l_same.nd (hf := Or.inr rfl)) dgs_nil)))) ts_no (fun _ _ _ _ _ => (de_c g_l_same hG (hr.mono (by omega)) (by rfl) (da_cons (de_v 2) (da_cons (de_v 3) da_nil))))))))))))) dss_nil)
      (dss_cons (ds_if (DW.q (dw_or (dt_cmp o_isN (dp_v 1) (DE.p de_non)) (dw_or1 (dt_val (de_isi2 .bool .str rfl (by rfl) T.b_isinstance (by rfl) T.b_bool (by decide +kernel) (by rfl) T.b_str (by decide +kernel) (dp_v 1)))))) (dss_one (ds_ret (de_and (de_cmp (o_eq rfl hr.units) (dp_v 0) (dp_v 1)) (de_and (de_cmp (o_eq rfl hr.units) (DE.p (de_isi .bool rfl (by rfl) T.b_isinstance (by rfl) T.b_bool (by decide +kernel) (dp_v 0))) (DE.p (de_isi .bool rfl (by rfl) T.b_isinstance (by rfl) T.b_bool (by decide +kernel) (dp_v 1)))) (de_one (de_cmp (o_eq rfl hr.units) (DE.p (de_cmp o_isN (dp_v 0) (DE.p de_non))) (DE.p (de_cmp o_isN (dp_v 1) (DE.p de_non))))))))) dss_nil)
      (dss_one (ds_ret (de_and (de_isi .int rfl (by rfl) T.b_isinstance (by rfl) T.b_int (by decide +kernel) (dp_v 0)) (de_and (de_not (de_isi .bool rfl (by rfl) T.b_isinstance (by rfl) T.b_bool (by decide +kernel) (dp_v 0))) (de_one (de_cmp (o_eq rfl hr.units) (dp_v 0) (dp_v 1))))))))), ?_⟩
  have flat : ∀ d : PyData, FlB d → Shp d := fun d h => FlB.shp h
  rcases hd with hf | ⟨es, he, hl, hC⟩
  · cases d with
    | none =>
      repeat walk_at "d"
      exact q
    | bool b =>
      repeat walk_at "d"
      rw [eqv_bool, decide_eq_true rfl]
      repeat walk_at "d"
      exact q
    | int i =>
      repeat walk_at "d"
      rw [eqv_int, decide_eq_true rfl]
      exact q
    | str z =>
      repeat walk_at "d"
      refine ⟨flat _ hf, flat _ hf, ?_⟩
      rw [eqv_str, decide_eq_true rfl]
      repeat walk_at "d"
      exact q
    | list _ => exact hf.elim
    | tuple _ => exact hf.elim
    | dict _ => exact hf.elim
  · rcases he with rfl | rfl
    all_goals
      repeat walk_at "d"
      rw [eqv_int, decide_eq_true rfl]
      repeat walk_at "d"
      refine lc_map (fun _ => .bool true) (by show (zipD es es).length ≤ _; rw [zip_len]; omega) (fun x hx acc J hacc hJ => ?_) ⟨(zipD es es).map fun _ => true, by rw [List.map_map]; rfl, ?_⟩
      · obtain ⟨y, hy, rfl⟩ := zip_self hx
        exact ⟨rfl, rfl, y, [y], rfl, y, [], rfl, rfl, y, rfl, y, rfl, y, rfl, hC y hy, rfl, hacc, hJ⟩
      · rw [all_true]
        exact q
theorem ok_l_same (T : Top wd K mg) {w : Nat} (hw : w ≤ 1000) : ∀ k : Nat, Def P wd K mg base (k + 1) "_law_same" s_l_same ["_law_found", "_law_due"] (spP K (f_same (Bd w k)))
  | 0 => by
    have h0 : Def P wd K mg base 0 "_law_same" s_l_same ["_law_found", "_law_due"] (spP K (f_same fun _ => False)) := Def.no T.d_l_same fun vs H Q E h => by
      obtain ⟨_, _, _, _, _, ⟨_, _, h, _⟩, _⟩ := h
      exact h
    refine (same_step T hw h0).imp fun vs H Q E h => ?_
    obtain ⟨G, ds, R, h1, h2, ⟨d, h3, h4, h5⟩, h6⟩ := h
    exact ⟨G, ds, R, h1, h2, ⟨d, h3, .inl h4, h5⟩, h6⟩
  | k + 1 => same_step T hw (ok_l_same T hw k)
end
end Og15

namespace Og15
open PySem PySem.Spec PyProof.Rows L2 OgR Evl Dw Gx
/-! ### the classes -/
def iniS (i : Nat) : Stmt := match topS i with
  | .ClassDef _ _ _ b _ _ _ _ _ _ _ => b.getD 0 (.Pass ⟨0, 0, 0, 0⟩)
  | _ => .Pass ⟨0, 0, 0, 0⟩
structure Cls (K : PySem.W.Frag) (mg : Str → Option Value) (x f q : Str) (B n i : String) (bm : List Value) (st : Stmt) (C : Addr) : Prop where
  xc : XC K C B n i bm
  here : mg x = some (.ref C)
  fld : PySem.W.findIn K (.ref C) f = some none
  ini : ∃ fI fd, PySem.W.findIn K (.ref C) "__init__" = some (some (.ref fI)) ∧ PySem.W.typeIn K (.ref fI) = some (.type "function") ∧ Fun K "__init__" q st fI fd ∧ Binds K fd ["self", f] [] ∧
    ∀ (s : Shared) (a u : Value), BindsTo s fd ⟨[a], [(f, u)]⟩ ((["self", f] : List Str).zip [a, u])
theorem taker {K : PySem.W.Frag} {C : Addr} {f : Str} (h : PySem.W.findIn K (.ref C) f = some none) : PySem.W.takerIn K C f = some none := by
  unfold PySem.W.takerIn
  rw [h]
  rfl
abbrev bVE : List Value := [.type "ValueError", .type "Exception", .type "BaseException", .type "object"]
abbrev bLE : List Value := [.type "LookupError", .type "Exception", .type "BaseException", .type "object"]
abbrev bRE : List Value := [.type "RuntimeError", .type "Exception", .type "BaseException", .type "object"]
abbrev bOE : List Value := [.type "OverflowError", .type "ArithmeticError", .type "Exception", .type "BaseException", .type "object"]
/-- what an __init__ promises: one field -/
def spIni (C : Addr) (f : Str) (P : V → Hp → Prop) : Sp := fun vs H Q _ => ∃ (a : Addr) (y : V), vs = [.ref a, y] ∧ H a = some (exo a C none) ∧ P y H ∧ ∀ dx, H dx = none → dx ≠ a → Q .non (upd (upd H dx (exd dx [(f, y)])) a (exo a C (some dx)))
section
variable {P : Program} {wd : World} {K : PySem.W.Frag} {mg : Str → Option Value} {base : Heap}
structure TopX (K : PySem.W.Frag) (mg : Str → Option Value) (c : Nat → Addr) : Prop where
  x0 : Cls K mg "BadText" "text" "BadText.__init__" "ValueError" "ValueError.__new__" "ValueError.__init__" bVE (iniS 3) (c 0)
  x1 : Cls K mg "BadLine" "number" "BadLine.__init__" "ValueError" "ValueError.__new__" "ValueError.__init__" bVE (iniS 4) (c 1)
  x2 : Cls K mg "Impossible" "evidence" "Impossible.__init__" "ValueError" "ValueError.__new__" "ValueError.__init__" bVE (iniS 5) (c 2)
  x3 : Cls K mg "Misfit" "time" "Misfit.__init__" "ValueError" "ValueError.__new__" "ValueError.__init__" bVE (iniS 6) (c 3)
  x4 : Cls K mg "Noted" "note" "Noted.__init__" "ValueError" "ValueError.__new__" "ValueError.__init__" bVE (iniS 7) (c 4)
  x5 : Cls K mg "NoPlot" "plot" "NoPlot.__init__" "LookupError" "LookupError.__new__" "LookupError.__init__" bLE (iniS 8) (c 5)
  x6 : Cls K mg "NoTime" "time" "NoTime.__init__" "LookupError" "LookupError.__new__" "LookupError.__init__" bLE (iniS 9) (c 6)
  x7 : Cls K mg "NoChoice" "number" "NoChoice.__init__" "LookupError" "LookupError.__new__" "LookupError.__init__" bLE (iniS 10) (c 7)
  x8 : Cls K mg "NoNote" "note" "NoNote.__init__" "LookupError" "LookupError.__new__" "LookupError.__init__" bLE (iniS 11) (c 8)
  x9 : Cls K mg "NoNumber" "number" "NoNumber.__init__" "LookupError" "LookupError.__new__" "LookupError.__init__" bLE (iniS 12) (c 9)
  x10 : Cls K mg "NoOperation" "many" "NoOperation.__init__" "LookupError" "LookupError.__new__" "LookupError.__init__" bLE (iniS 13) (c 10)
  x11 : Cls K mg "Built" "plot" "Built.__init__" "RuntimeError" "RuntimeError.__new__" "RuntimeError.__init__" bRE (iniS 14) (c 11)
  x12 : Cls K mg "TooMany" "many" "TooMany.__init__" "OverflowError" "OverflowError.__new__" "OverflowError.__init__" bOE (iniS 15) (c 12)
  kit : ((List.range 13).all fun i => (List.range 13).all fun j => PySem.W.kitOne K (.ref (c i)) (.ref (c j)) == some (decide (i = j))) = true
  kitB : ((List.range 13).all fun i => PySem.W.kitOne K (.ref (c i)) (.type "ValueError") == some (decide (i < 5)) && (PySem.W.kitOne K (.ref (c i)) (.type "LookupError") == some (decide (5 ≤ i ∧ i < 11)) && (PySem.W.kitOne K (.ref (c i)) (.type "RuntimeError") == some (decide (i = 11)) && (PySem.W.kitOne K (.ref (c i)) (.type "OverflowError") == some (decide (i = 12)) &&
    PySem.W.kitAny K (.ref (c i)) [.type "IndexError", .type "KeyError", .type "NotImplementedError"] == some false)))) = true
  bV : mg "ValueError" = none
  bL : mg "LookupError" = none
  bR : mg "RuntimeError" = none
  bO : mg "OverflowError" = none
  bI : mg "IndexError" = none
  bK : mg "KeyError" = none
  bN : mg "NotImplementedError" = none
/-! ### the fields -/
def spTfl (K : PySem.W.Frag) : Sp := fun vs H Q _ => ∃ p xs, vs = [.ref p] ∧ SqT K H p xs ∧ Q (.ref p) H
theorem ok_tfl (T : Top wd K mg) : ∃ f fd, FnOk P wd K mg base CX0 1 f fd ["value"] (spTfl K) ∧ Fun K "tuple_for_list" "tuple_for_list" s_tuple_for_list f fd ∧ Binds K fd ["value"] [] ∧ mg "tuple_for_list" = some (.ref f) := by
  obtain ⟨f, fd, F, b, m⟩ := T.d_tuple_for_list.ex
  refine ⟨f, fd, F.ok sc_tuple_for_list (fun vs H Q E h => ?_) (fun cdv A outer s H vs Q E hr h => ?_), F, b, m⟩
  · obtain ⟨p, xs, rfl, _⟩ := h
    rfl
  · obtain ⟨p, xs, rfl, hS, q⟩ := h
    refine ⟨_, pss_cons (ps_if (pt_val (pe_callB call_isi (by rfl) T.b_isinstance (by decide +kernel) (pa_cons (pv 0) (pa_cons (pe_bltn (v := .ty "list") (by rfl) T.b_list (by decide +kernel) rfl) pa_nil)))) (pss_one ps_never) pss_nil) (pss_one (ps_ret (pv 0))), ?_⟩
    refine ⟨_, rfl, .ref p, .ty "list", _, _, false, rfl, .ty _, tyx_T hS, kit_ty (show kitB "tuple" "list" = some false by decide +kernel), ?_⟩
    exact ⟨false, rfl, iteF ⟨_, rfl, q⟩⟩
def IsTp (K : PySem.W.Frag) : V → Hp → Prop := fun y H => ∃ p xs, y = .ref p ∧ SqT K H p xs
theorem exo_ex {H : Hp} {a C : Addr} (h : H a = none) : Ex H (upd H a (exo a C none)) := Ex.new h
structure Mk (P : Program) (wd : World) (K : PySem.W.Frag) (mg : Str → Option Value) (base : Heap) (f : Str) (Pr : V → Hp → Prop) (C : Addr) : Prop where
  ex : ∃ fI fd, PySem.W.findIn K (.ref C) "__init__" = some (some (.ref fI)) ∧ PySem.W.typeIn K (.ref fI) = some (.type "function") ∧ FnOk P wd K mg base CX0 2 fI fd ["self", f] (spIni C f Pr) ∧ Binds K fd ["self", f] [] ∧
    ∀ (s : Shared) (a u : Value), BindsTo s fd ⟨[a], [(f, u)]⟩ ((["self", f] : List Str).zip [a, u])
theorem si_0 : FnScope ["self", "text"] ["self", "text"] (defScope (iniS 3)) := ⟨rfl, rfl, rfl, by decide +kernel, rfl, by decide +kernel, by decide +kernel⟩
theorem mk_0 {c : Nat → Addr} (Y : TopX K mg c) : Mk P wd K mg base "text" (fun _ _ => True) (c 0) := by
  obtain ⟨fI, fd, h1, h2, F, b, kb⟩ := Y.x0.ini
  refine ⟨fI, fd, h1, h2, (F.ok (k := 1) si_0 (fun vs H Q E h => ?_) (fun cdv A outer s H vs Q E hr h => ?_)), b, kb⟩
  · obtain ⟨a, y, rfl, _⟩ := h
    rfl
  · obtain ⟨a, y, rfl, ha, _, q⟩ := h
    exact ⟨_, pss_one (ps_fld Y.x0.xc (taker Y.x0.fld) (pv 0) (pv 1)), _, rfl, _, rfl, a, rfl, ha, fun dx hd ne => q dx hd ne⟩
theorem si_1 : FnScope ["self", "number"] ["self", "number"] (defScope (iniS 4)) := ⟨rfl, rfl, rfl, by decide +kernel, rfl, by decide +kernel, by decide +kernel⟩
theorem mk_1 {c : Nat → Addr} (Y : TopX K mg c) : Mk P wd K mg base "number" (fun _ _ => True) (c 1) := by
  obtain ⟨fI, fd, h1, h2, F, b, kb⟩ := Y.x1.ini
  refine ⟨fI, fd, h1, h2, (F.ok (k := 1) si_1 (fun vs H Q E h => ?_) (fun cdv A outer s H vs Q E hr h => ?_)), b, kb⟩
  · obtain ⟨a, y, rfl, _⟩ := h
    rfl
  · obtain ⟨a, y, rfl, ha, _, q⟩ := h
    exact ⟨_, pss_one (ps_fld Y.x1.xc (taker Y.x1.fld) (pv 0) (pv 1)), _, rfl, _, rfl, a, rfl, ha, fun dx hd ne => q dx hd ne⟩
theorem si_2 : FnScope ["self", "evidence"] ["self", "evidence"] (defScope (iniS 5)) := ⟨rfl, rfl, rfl, by decide +kernel, rfl, by decide +kernel, by decide +kernel⟩
theorem mk_2 {c : Nat → Addr} (T : Top wd K mg) (Y : TopX K mg c) : Mk P wd K mg base "evidence" (IsTp K) (c 2) := by
  obtain ⟨fI, fd, h1, h2, F, b, kb⟩ := Y.x2.ini
  obtain ⟨fT, fdT, GT, FT, bT, gT⟩ := ok_tfl (P := P) (base := base) T
  refine ⟨fI, fd, h1, h2, (F.ok (k := 1) si_2 (fun vs H Q E h => ?_) (fun cdv A outer s H vs Q E hr h => ?_)), b, kb⟩
  · obtain ⟨a, y, rfl, _⟩ := h
    rfl
  · obtain ⟨a, y, rfl, ha, ⟨p, xs, rfl, hS⟩, q⟩ := h
    exact ⟨_, pss_one (ps_fld Y.x2.xc (taker Y.x2.fld) (pv 0) (pe_call GT hr (by rfl) gT FT.kp bT .nil pass0 (pa_cons (pv 1) pa_nil))), _, rfl, p, xs, rfl, hS, _, rfl, a, rfl, ha, fun dx hd ne => q dx hd ne⟩
theorem si_3 : FnScope ["self", "time"] ["self", "time"] (defScope (iniS 6)) := ⟨rfl, rfl, rfl, by decide +kernel, rfl, by decide +kernel, by decide +kernel⟩
theorem mk_3 {c : Nat → Addr} (Y : TopX K mg c) : Mk P wd K mg base "time" (fun _ _ => True) (c 3) := by
  obtain ⟨fI, fd, h1, h2, F, b, kb⟩ := Y.x3.ini
  refine ⟨fI, fd, h1, h2, (F.ok (k := 1) si_3 (fun vs H Q E h => ?_) (fun cdv A outer s H vs Q E hr h => ?_)), b, kb⟩
  · obtain ⟨a, y, rfl, _⟩ := h
    rfl
  · obtain ⟨a, y, rfl, ha, _, q⟩ := h
    exact ⟨_, pss_one (ps_fld Y.x3.xc (taker Y.x3.fld) (pv 0) (pv 1)), _, rfl, _, rfl, a, rfl, ha, fun dx hd ne => q dx hd ne⟩
theorem si_4 : FnScope ["self", "note"] ["self", "note"] (defScope (iniS 7)) := ⟨rfl, rfl, rfl, by decide +kernel, rfl, by decide +kernel, by decide +kernel⟩
theorem mk_4 {c : Nat → Addr} (T : Top wd K mg) (Y : TopX K mg c) : Mk P wd K mg base "note" (IsTp K) (c 4) := by
  obtain ⟨fI, fd, h1, h2, F, b, kb⟩ := Y.x4.ini
  obtain ⟨fT, fdT, GT, FT, bT, gT⟩ := ok_tfl (P := P) (base := base) T
  refine ⟨fI, fd, h1, h2, (F.ok (k := 1) si_4 (fun vs H Q E h => ?_) (fun cdv A outer s H vs Q E hr h => ?_)), b, kb⟩
  · obtain ⟨a, y, rfl, _⟩ := h
    rfl
  · obtain ⟨a, y, rfl, ha, ⟨p, xs, rfl, hS⟩, q⟩ := h
    exact ⟨_, pss_one (ps_fld Y.x4.xc (taker Y.x4.fld) (pv 0) (pe_call GT hr (by rfl) gT FT.kp bT .nil pass0 (pa_cons (pv 1) pa_nil))), _, rfl, p, xs, rfl, hS, _, rfl, a, rfl, ha, fun dx hd ne => q dx hd ne⟩
theorem si_5 : FnScope ["self", "plot"] ["self", "plot"] (defScope (iniS 8)) := ⟨rfl, rfl, rfl, by decide +kernel, rfl, by decide +kernel, by decide +kernel⟩
theorem mk_5 {c : Nat → Addr} (Y : TopX K mg c) : Mk P wd K mg base "plot" (fun _ _ => True) (c 5) := by
  obtain ⟨fI, fd, h1, h2, F, b, kb⟩ := Y.x5.ini
  refine ⟨fI, fd, h1, h2, (F.ok (k := 1) si_5 (fun vs H Q E h => ?_) (fun cdv A outer s H vs Q E hr h => ?_)), b, kb⟩
  · obtain ⟨a, y, rfl, _⟩ := h
    rfl
  · obtain ⟨a, y, rfl, ha, _, q⟩ := h
    exact ⟨_, pss_one (ps_fld Y.x5.xc (taker Y.x5.fld) (pv 0) (pv 1)), _, rfl, _, rfl, a, rfl, ha, fun dx hd ne => q dx hd ne⟩
theorem si_6 : FnScope ["self", "time"] ["self", "time"] (defScope (iniS 9)) := ⟨rfl, rfl, rfl, by decide +kernel, rfl, by decide +kernel, by decide +kernel⟩
theorem mk_6 {c : Nat → Addr} (Y : TopX K mg c) : Mk P wd K mg base "time" (fun _ _ => True) (c 6) := by
  obtain ⟨fI, fd, h1, h2, F, b, kb⟩ := Y.x6.ini
  refine ⟨fI, fd, h1, h2, (F.ok (k := 1) si_6 (fun vs H Q E h => ?_) (fun cdv A outer s H vs Q E hr h => ?_)), b, kb⟩
  · obtain ⟨a, y, rfl, _⟩ := h
    rfl
  · obtain ⟨a, y, rfl, ha, _, q⟩ := h
    exact ⟨_, pss_one (ps_fld Y.x6.xc (taker Y.x6.fld) (pv 0) (pv 1)), _, rfl, _, rfl, a, rfl, ha, fun dx hd ne => q dx hd ne⟩
theorem si_7 : FnScope ["self", "number"] ["self", "number"] (defScope (iniS 10)) := ⟨rfl, rfl, rfl, by decide +kernel, rfl, by decide +kernel, by decide +kernel⟩
theorem mk_7 {c : Nat → Addr} (Y : TopX K mg c) : Mk P wd K mg base "number" (fun _ _ => True) (c 7) := by
  obtain ⟨fI, fd, h1, h2, F, b, kb⟩ := Y.x7.ini
  refine ⟨fI, fd, h1, h2, (F.ok (k := 1) si_7 (fun vs H Q E h => ?_) (fun cdv A outer s H vs Q E hr h => ?_)), b, kb⟩
  · obtain ⟨a, y, rfl, _⟩ := h
    rfl
  · obtain ⟨a, y, rfl, ha, _, q⟩ := h
    exact ⟨_, pss_one (ps_fld Y.x7.xc (taker Y.x7.fld) (pv 0) (pv 1)), _, rfl, _, rfl, a, rfl, ha, fun dx hd ne => q dx hd ne⟩
theorem si_8 : FnScope ["self", "note"] ["self", "note"] (defScope (iniS 11)) := ⟨rfl, rfl, rfl, by decide +kernel, rfl, by decide +kernel, by decide +kernel⟩
theorem mk_8 {c : Nat → Addr} (T : Top wd K mg) (Y : TopX K mg c) : Mk P wd K mg base "note" (IsTp K) (c 8) := by
  obtain ⟨fI, fd, h1, h2, F, b, kb⟩ := Y.x8.ini
  obtain ⟨fT, fdT, GT, FT, bT, gT⟩ := ok_tfl (P := P) (base := base) T
  refine ⟨fI, fd, h1, h2, (F.ok (k := 1) si_8 (fun vs H Q E h => ?_) (fun cdv A outer s H vs Q E hr h => ?_)), b, kb⟩
  · obtain ⟨a, y, rfl, _⟩ := h
    rfl
  · obtain ⟨a, y, rfl, ha, ⟨p, xs, rfl, hS⟩, q⟩ := h
    exact ⟨_, pss_one (ps_fld Y.x8.xc (taker Y.x8.fld) (pv 0) (pe_call GT hr (by rfl) gT FT.kp bT .nil pass0 (pa_cons (pv 1) pa_nil))), _, rfl, p, xs, rfl, hS, _, rfl, a, rfl, ha, fun dx hd ne => q dx hd ne⟩
theorem si_9 : FnScope ["self", "number"] ["self", "number"] (defScope (iniS 12)) := ⟨rfl, rfl, rfl, by decide +kernel, rfl, by decide +kernel, by decide +kernel⟩
theorem mk_9 {c : Nat → Addr} (Y : TopX K mg c) : Mk P wd K mg base "number" (fun _ _ => True) (c 9) := by
  obtain ⟨fI, fd, h1, h2, F, b, kb⟩ := Y.x9.ini
  refine ⟨fI, fd, h1, h2, (F.ok (k := 1) si_9 (fun vs H Q E h => ?_) (fun cdv A outer s H vs Q E hr h => ?_)), b, kb⟩
  · obtain ⟨a, y, rfl, _⟩ := h
    rfl
  · obtain ⟨a, y, rfl, ha, _, q⟩ := h
    exact ⟨_, pss_one (ps_fld Y.x9.xc (taker Y.x9.fld) (pv 0) (pv 1)), _, rfl, _, rfl, a, rfl, ha, fun dx hd ne => q dx hd ne⟩
theorem si_10 : FnScope ["self", "many"] ["self", "many"] (defScope (iniS 13)) := ⟨rfl, rfl, rfl, by decide +kernel, rfl, by decide +kernel, by decide +kernel⟩
theorem mk_10 {c : Nat → Addr} (Y : TopX K mg c) : Mk P wd K mg base "many" (fun _ _ => True) (c 10) := by
  obtain ⟨fI, fd, h1, h2, F, b, kb⟩ := Y.x10.ini
  refine ⟨fI, fd, h1, h2, (F.ok (k := 1) si_10 (fun vs H Q E h => ?_) (fun cdv A outer s H vs Q E hr h => ?_)), b, kb⟩
  · obtain ⟨a, y, rfl, _⟩ := h
    rfl
  · obtain ⟨a, y, rfl, ha, _, q⟩ := h
    exact ⟨_, pss_one (ps_fld Y.x10.xc (taker Y.x10.fld) (pv 0) (pv 1)), _, rfl, _, rfl, a, rfl, ha, fun dx hd ne => q dx hd ne⟩
theorem si_11 : FnScope ["self", "plot"] ["self", "plot"] (defScope (iniS 14)) := ⟨rfl, rfl, rfl, by decide +kernel, rfl, by decide +kernel, by decide +kernel⟩
theorem mk_11 {c : Nat → Addr} (Y : TopX K mg c) : Mk P wd K mg base "plot" (fun _ _ => True) (c 11) := by
  obtain ⟨fI, fd, h1, h2, F, b, kb⟩ := Y.x11.ini
  refine ⟨fI, fd, h1, h2, (F.ok (k := 1) si_11 (fun vs H Q E h => ?_) (fun cdv A outer s H vs Q E hr h => ?_)), b, kb⟩
  · obtain ⟨a, y, rfl, _⟩ := h
    rfl
  · obtain ⟨a, y, rfl, ha, _, q⟩ := h
    exact ⟨_, pss_one (ps_fld Y.x11.xc (taker Y.x11.fld) (pv 0) (pv 1)), _, rfl, _, rfl, a, rfl, ha, fun dx hd ne => q dx hd ne⟩
theorem si_12 : FnScope ["self", "many"] ["self", "many"] (defScope (iniS 15)) := ⟨rfl, rfl, rfl, by decide +kernel, rfl, by decide +kernel, by decide +kernel⟩
theorem mk_12 {c : Nat → Addr} (Y : TopX K mg c) : Mk P wd K mg base "many" (fun _ _ => True) (c 12) := by
  obtain ⟨fI, fd, h1, h2, F, b, kb⟩ := Y.x12.ini
  refine ⟨fI, fd, h1, h2, (F.ok (k := 1) si_12 (fun vs H Q E h => ?_) (fun cdv A outer s H vs Q E hr h => ?_)), b, kb⟩
  · obtain ⟨a, y, rfl, _⟩ := h
    rfl
  · obtain ⟨a, y, rfl, ha, _, q⟩ := h
    exact ⟨_, pss_one (ps_fld Y.x12.xc (taker Y.x12.fld) (pv 0) (pv 1)), _, rfl, _, rfl, a, rfl, ha, fun dx hd ne => q dx hd ne⟩
end
end Og15

namespace Og15
open PySem PySem.Spec PyProof.Rows L2 OgR Evl Dw Gx
/-! ### xs.count(b), truth values -/
theorem bls_vals : ∀ {bs : List Bool} {us : List Value}, Vals (bs.map V.bl) us → us = bs.map Value.bool
  | [], _, .nil => rfl
  | b :: bs, _, .cons r t => by
    cases (show _ = Value.bool b from r)
    rw [bls_vals t]
    rfl
def eB : Value → Bool
  | .bool b => b
  | _ => false
theorem eB_count : ∀ bs : List Bool, (bs.map Value.bool).countP eB = bs.count true
  | [] => rfl
  | b :: bs => by
    rw [List.map_cons, List.countP_cons, eB_count bs, List.count_cons]
    cases b <;> rfl
section
variable {X : Cx}
def rCntB (K : PySem.W.Frag) : V → List V → Hp → VK → Prop := fun x xs H Q => ∃ (p : Addr) (bs : List Bool), x = .ref p ∧ xs = [.bl true] ∧ SqL K H p (bs.map V.bl) ∧ Q (.int (bs.count true : Nat)) H
theorem mt_bcount : MtR X "list.count" (rCntB X.K) := by
  intro pins s σ H x xs v us Q I rx rxs h
  obtain ⟨p, bs, rfl, rfl, hs, q⟩ := h
  cases rx
  obtain ⟨u, rfl, ru⟩ := rxs.one
  cases (show u = Value.bool true from ru)
  obtain ⟨its, rv, pt, hlen⟩ := I.list hs
  obtain ⟨⟨cls, dd, data, sl⟩, n, ho, hc, hdn, hd⟩ := pt
  simp only at hc hd
  subst hc hd
  have hi := bls_vals rv
  subst hi
  refine call_meets PySem.F.slot_list_count ⟨_, ho, rfl⟩ PySem.F.entry_list_count (PySem.F.args_list_count_2 _ _) (SeqAt.list_countAt p _ n dd sl (.bool true) eB) ⟨ho, fun y hy => ?_, ?_⟩
  · have hy' : y ∈ bs.map Value.bool := by simpa using hy
    obtain ⟨b, _, rfl⟩ := List.mem_map.mp hy'
    cases b <;> exact SeqAt.EqAt.bool_bool _ _
  · refine ⟨.int (bs.count true : Nat), H, I.tok _, ⟨s.toks, ?_⟩, q⟩
    show Value.int (((bs.map Value.bool).countP eB : Nat) : Int) s.toks = Value.int ((bs.count true : Nat) : Int) s.toks
    rw [eB_count]
end
section
variable {P : Program} {wd : World} {K : PySem.W.Frag} {mg : Str → Option Value} {base : Heap} {c : Nat → Addr}
theorem TopX.xcx (Y : TopX K mg c) {i : Nat} (h : i < 13) : XCx K (c i) := by
  match i, h with
  | 0, _ => exact ⟨_, _, _, _, Y.x0.xc⟩
  | 1, _ => exact ⟨_, _, _, _, Y.x1.xc⟩
  | 2, _ => exact ⟨_, _, _, _, Y.x2.xc⟩
  | 3, _ => exact ⟨_, _, _, _, Y.x3.xc⟩
  | 4, _ => exact ⟨_, _, _, _, Y.x4.xc⟩
  | 5, _ => exact ⟨_, _, _, _, Y.x5.xc⟩
  | 6, _ => exact ⟨_, _, _, _, Y.x6.xc⟩
  | 7, _ => exact ⟨_, _, _, _, Y.x7.xc⟩
  | 8, _ => exact ⟨_, _, _, _, Y.x8.xc⟩
  | 9, _ => exact ⟨_, _, _, _, Y.x9.xc⟩
  | 10, _ => exact ⟨_, _, _, _, Y.x10.xc⟩
  | 11, _ => exact ⟨_, _, _, _, Y.x11.xc⟩
  | 12, _ => exact ⟨_, _, _, _, Y.x12.xc⟩
theorem TopX.kt (Y : TopX K mg c) {i j : Nat} (h : i < 13) (h2 : j < 13) : PySem.W.kitOne K (.ref (c i)) (.ref (c j)) = some (decide (i = j)) := by
  have h3 := List.all_eq_true.mp Y.kit i (List.mem_range.mpr h)
  exact beq_iff_eq.mp (List.all_eq_true.mp h3 j (List.mem_range.mpr h2))
/-! ### _law_flags -/
def ordF : List Nat := [1, 0, 11, 2, 3, 7, 8, 9, 10, 5, 6, 4, 12]
def flB (i : Nat) : List Bool := ordF.map fun j => decide (i = j)
theorem flB_one : ∀ i, i < 13 → (flB i).count true = 1 := by decide
def spFlags (c : Nat → Addr) : Sp := fun vs H Q _ => ∃ (e : Addr) (i : Nat) (fs : List (Str × V)), vs = [.ref e] ∧ i < 13 ∧ XAt H e (c i) fs ∧ ∀ p H', Ex H H' → H' p = some (.lst ((flB i).map V.bl)) → Q (.ref p) H'
theorem is_st (Y : TopX K mg c) {i j : Nat} {e : Addr} {fs : List (Str × V)} {σ : L2.St} {H : Hp} {Q : VK} (hi : i < 13) (hj : j < 13) (h0 : σ[0]? = some (some (.ref e))) (hX : XAt H e (c i) fs) (q : Q (.bl (decide (i = j))) H) :
    tCB (rIsX K) (tCons (tVar 0) (tCons (tC (.ref (c j))) tNil)) σ H Q := ⟨_, h0, e, c i, fs, _, _, _, rfl, hX, Y.xcx hi, fun u r => r, Y.kt hi hj, q⟩
theorem ok_l_flags (T : Top wd K mg) (Y : TopX K mg c) : Def P wd K mg base 1 "_law_flags" s_l_flags ["_law_made"] (spFlags c) := by
  obtain ⟨f, fd, F, b, m⟩ := T.d_l_flags.ex
  refine ⟨f, fd, fnG_of F sc_l_flags (fun vs H Q E h => ?_) (fun cdv A outer s H vs Q E hG hr h => ?_), F, b, m⟩
  · obtain ⟨e, i, fs, rfl, _⟩ := h
    rfl
  · obtain ⟨e, i, fs, rfl, hi, hX, q⟩ := h
    refine ⟨_, pss_cons (ps_set (i := 1) sc_l_flags.nd rfl (.inl rfl) (pe_lst (pa_cons (pe_callB call_isX (by rfl) T.b_isinstance (by decide +kernel) (pa_cons (pv 0) (pa_cons (pe_glob (v := .ref (c 1)) (by rfl) Y.x1.here rfl) pa_nil))) (pa_cons (pe_callB call_isX (by rfl) T.b_isinstance (by decide +kernel) (pa_cons (pv 0) (pa_cons (pe_glob (v := .ref (c 0)) (by rfl) Y.x0.here rfl) pa_nil))) (pa_cons (pe_callB call_isX (by rfl) T.b_isinstance (by decide +kernel) (pa_cons (pv 0) (pa_cons (pe_glob (v := .ref (c 11)) (by rfl) Y.x11.here rfl) pa_nil))) pa_nil)))))
      (pss_cons (ps_set (i := 1) sc_l_flags.nd rfl (.inl rfl) (pe_op op_cat (pv 1) (pe_lst (pa_cons (pe_callB call_isX (by rfl) T.b_isinstance (by decide +kernel) (pa_cons (pv 0) (pa_cons (pe_glob (v := .ref (c 2)) (by rfl) Y.x2.here rfl) pa_nil))) (pa_cons (pe_callB call_isX (by rfl) T.b_isinstance (by decide +kernel) (pa_cons (pv 0) (pa_cons (pe_glob (v := .ref (c 3)) (by rfl) Y.x3.here rfl) pa_nil))) (pa_cons (pe_callB call_isX (by rfl) T.b_isinstance (by decide +kernel) (pa_cons (pv 0) (pa_cons (pe_glob (v := .ref (c 7)) (by rfl) Y.x7.here rfl) pa_nil))) pa_nil))))))
      (pss_cons (ps_set (i := 1) sc_l_flags.nd rfl (.inl rfl) (pe_op op_cat (pv 1) (pe_lst (pa_cons (pe_callB call_isX (by rfl) T.b_isinstance (by decide +kernel) (pa_cons (pv 0) (pa_cons (pe_glob (v := .ref (c 8)) (by rfl) Y.x8.here rfl) pa_nil))) (pa_cons (pe_callB call_isX (by rfl) T.b_isinstance (by decide +kernel) (pa_cons (pv 0) (pa_cons (pe_glob (v := .ref (c 9)) (by rfl) Y.x9.here rfl) pa_nil))) (pa_cons (pe_callB call_isX (by rfl) T.b_isinstance (by decide +kernel) (pa_cons (pv 0) (pa_cons (pe_glob (v := .ref (c 10)) (by rfl) Y.x10.here rfl) pa_nil))) pa_nil))))))
      (pss_cons (ps_set (i := 1) sc_l_flags.nd rfl (.inl rfl) (pe_op op_cat (pv 1) (pe_lst (pa_cons (pe_callB call_isX (by rfl) T.b_isinstance (by decide +kernel) (pa_cons (pv 0) (pa_cons (pe_glob (v := .ref (c 5)) (by rfl) Y.x5.here rfl) pa_nil))) (pa_cons (pe_callB call_isX (by rfl) T.b_isinstance (by decide +kernel) (pa_cons (pv 0) (pa_cons (pe_glob (v := .ref (c 6)) (by rfl) Y.x6.here rfl) pa_nil))) (pa_cons (pe_callB call_isX (by rfl) T.b_isinstance (by decide +kernel) (pa_cons (pv 0) (pa_cons (pe_glob (v := .ref (c 4)) (by rfl) Y.x4.here rfl) pa_nil))) pa_nil))))))
      (pss_one (ps_ret (pe_op op_cat (pv 1) (pe_lst (pa_cons (pe_callB call_isX (by rfl) T.b_isinstance (by decide +kernel) (pa_cons (pv 0) (pa_cons (pe_glob (v := .ref (c 12)) (by rfl) Y.x12.here rfl) pa_nil))) pa_nil)))))))), ?_⟩
    refine is_st Y hi (j := 1) (by decide) rfl hX <| is_st Y hi (j := 0) (by decide) rfl hX <| is_st Y hi (j := 11) (by decide) rfl hX <| ⟨(show 3 ≤ sizeLine by decide), fun p1 n1 => ?_⟩
    have X1 := hX.mono (Ex.new (o := .lst [.bl (decide (i = 1)), .bl (decide (i = 0)), .bl (decide (i = 11))]) n1)
    have e1 : Ex H (upd H p1 (.lst [.bl (decide (i = 1)), .bl (decide (i = 0)), .bl (decide (i = 11))])) := Ex.new n1
    have l1 : (upd H p1 (.lst [.bl (decide (i = 1)), .bl (decide (i = 0)), .bl (decide (i = 11))])) p1 = some (.lst [.bl (decide (i = 1)), .bl (decide (i = 0)), .bl (decide (i = 11))]) := upd_same
    revert X1 e1 l1
    generalize (upd H p1 (.lst [.bl (decide (i = 1)), .bl (decide (i = 0)), .bl (decide (i = 11))])) = H1
    intro X1 e1 l1
    refine ⟨_, rfl, is_st Y hi (j := 2) (by decide) rfl X1 <| is_st Y hi (j := 3) (by decide) rfl X1 <| is_st Y hi (j := 7) (by decide) rfl X1 <| ⟨(show 3 ≤ sizeLine by decide), fun q2 m2 => ?_⟩⟩
    have f2 : Ex H1 (upd H1 q2 (.lst [.bl (decide (i = 2)), .bl (decide (i = 3)), .bl (decide (i = 7))])) := Ex.new m2
    have k2 : upd H1 q2 (.lst [.bl (decide (i = 2)), .bl (decide (i = 3)), .bl (decide (i = 7))]) q2 = some (.lst [.bl (decide (i = 2)), .bl (decide (i = 3)), .bl (decide (i = 7))]) := upd_same
    revert f2 k2
    generalize upd H1 q2 (.lst [.bl (decide (i = 2)), .bl (decide (i = 3)), .bl (decide (i = 7))]) = H2
    intro f2 k2
    refine ⟨p1, q2, _, _, rfl, rfl, f2 p1 _ l1, k2, (show 6 ≤ sizeLine by decide), fun p2 n2 => ?_⟩
    have e2 : Ex H (upd H2 p2 (.lst [.bl (decide (i = 1)), .bl (decide (i = 0)), .bl (decide (i = 11)), .bl (decide (i = 2)), .bl (decide (i = 3)), .bl (decide (i = 7))])) := (e1.trans f2).trans (Ex.new n2)
    have l2 : upd H2 p2 (.lst [.bl (decide (i = 1)), .bl (decide (i = 0)), .bl (decide (i = 11)), .bl (decide (i = 2)), .bl (decide (i = 3)), .bl (decide (i = 7))]) p2 = some (.lst [.bl (decide (i = 1)), .bl (decide (i = 0)), .bl (decide (i = 11)), .bl (decide (i = 2)), .bl (decide (i = 3)), .bl (decide (i = 7))]) := upd_same
    have X3 := hX.mono e2
    revert e2 l2 X3
    show _ → _ → _ → tSeq _ _ _ _ (upd H2 p2 (.lst [.bl (decide (i = 1)), .bl (decide (i = 0)), .bl (decide (i = 11)), .bl (decide (i = 2)), .bl (decide (i = 3)), .bl (decide (i = 7))]))
    generalize upd H2 p2 (.lst [.bl (decide (i = 1)), .bl (decide (i = 0)), .bl (decide (i = 11)), .bl (decide (i = 2)), .bl (decide (i = 3)), .bl (decide (i = 7))]) = H3
    intro e2 l2 X3
    refine ⟨_, rfl, is_st Y hi (j := 8) (by decide) rfl X3 <| is_st Y hi (j := 9) (by decide) rfl X3 <| is_st Y hi (j := 10) (by decide) rfl X3 <| ⟨(show 3 ≤ sizeLine by decide), fun q3 m3 => ?_⟩⟩
    have f3 : Ex H3 (upd H3 q3 (.lst [.bl (decide (i = 8)), .bl (decide (i = 9)), .bl (decide (i = 10))])) := Ex.new m3
    have k3 : upd H3 q3 (.lst [.bl (decide (i = 8)), .bl (decide (i = 9)), .bl (decide (i = 10))]) q3 = some (.lst [.bl (decide (i = 8)), .bl (decide (i = 9)), .bl (decide (i = 10))]) := upd_same
    revert f3 k3
    generalize upd H3 q3 (.lst [.bl (decide (i = 8)), .bl (decide (i = 9)), .bl (decide (i = 10))]) = H4
    intro f3 k3
    refine ⟨p2, q3, _, _, rfl, rfl, f3 p2 _ l2, k3, (show 9 ≤ sizeLine by decide), fun p3 n3 => ?_⟩
    have e3 : Ex H (upd H4 p3 (.lst [.bl (decide (i = 1)), .bl (decide (i = 0)), .bl (decide (i = 11)), .bl (decide (i = 2)), .bl (decide (i = 3)), .bl (decide (i = 7)), .bl (decide (i = 8)), .bl (decide (i = 9)), .bl (decide (i = 10))])) := (e2.trans f3).trans (Ex.new n3)
    have l3 : upd H4 p3 (.lst [.bl (decide (i = 1)), .bl (decide (i = 0)), .bl (decide (i = 11)), .bl (decide (i = 2)), .bl (decide (i = 3)), .bl (decide (i = 7)), .bl (decide (i = 8)), .bl (decide (i = 9)), .bl (decide (i = 10))]) p3 = some (.lst [.bl (decide (i = 1)), .bl (decide (i = 0)), .bl (decide (i = 11)), .bl (decide (i = 2)), .bl (decide (i = 3)), .bl (decide (i = 7)), .bl (decide (i = 8)), .bl (decide (i = 9)), .bl (decide (i = 10))]) := upd_same
    have X5 := hX.mono e3
    revert e3 l3 X5
    show _ → _ → _ → tSeq _ _ _ _ (upd H4 p3 (.lst [.bl (decide (i = 1)), .bl (decide (i = 0)), .bl (decide (i = 11)), .bl (decide (i = 2)), .bl (decide (i = 3)), .bl (decide (i = 7)), .bl (decide (i = 8)), .bl (decide (i = 9)), .bl (decide (i = 10))]))
    generalize upd H4 p3 (.lst [.bl (decide (i = 1)), .bl (decide (i = 0)), .bl (decide (i = 11)), .bl (decide (i = 2)), .bl (decide (i = 3)), .bl (decide (i = 7)), .bl (decide (i = 8)), .bl (decide (i = 9)), .bl (decide (i = 10))]) = H5
    intro e3 l3 X5
    refine ⟨_, rfl, is_st Y hi (j := 5) (by decide) rfl X5 <| is_st Y hi (j := 6) (by decide) rfl X5 <| is_st Y hi (j := 4) (by decide) rfl X5 <| ⟨(show 3 ≤ sizeLine by decide), fun q4 m4 => ?_⟩⟩
    have f4 : Ex H5 (upd H5 q4 (.lst [.bl (decide (i = 5)), .bl (decide (i = 6)), .bl (decide (i = 4))])) := Ex.new m4
    have k4 : upd H5 q4 (.lst [.bl (decide (i = 5)), .bl (decide (i = 6)), .bl (decide (i = 4))]) q4 = some (.lst [.bl (decide (i = 5)), .bl (decide (i = 6)), .bl (decide (i = 4))]) := upd_same
    revert f4 k4
    generalize upd H5 q4 (.lst [.bl (decide (i = 5)), .bl (decide (i = 6)), .bl (decide (i = 4))]) = H6
    intro f4 k4
    refine ⟨p3, q4, _, _, rfl, rfl, f4 p3 _ l3, k4, (show 12 ≤ sizeLine by decide), fun p4 n4 => ?_⟩
    refine ⟨_, rfl, is_st Y hi (j := 12) (by decide) rfl (hX.mono ((e3.trans f4).trans (Ex.new n4))) <| ⟨(show 1 ≤ sizeLine by decide), fun q5 m5 => ?_⟩⟩
    refine ⟨p4, q5, _, _, rfl, rfl, Ex.new m5 p4 _ upd_same, upd_same, (show 13 ≤ sizeLine by decide), fun p5 n5 => ?_⟩
    exact q p5 _ ((((e3.trans f4).trans (Ex.new n4)).trans (Ex.new m5)).trans (Ex.new n5)) upd_same
end
end Og15

namespace Og15
open PySem PySem.Spec PyProof.Rows L2 OgR Evl Dw Gx
section
variable {P : Program} {wd : World} {K : PySem.W.Frag} {mg : Str → Option Value} {base : Heap} {c : Nat → Addr}
def kd (i : Nat) : Nat := if i < 5 then 0 else if i < 11 then 1 else if i = 11 then 2 else 3
def kdB (i : Nat) : List Bool := [decide (i < 5), decide (5 ≤ i ∧ i < 11), decide (i = 11), decide (i = 12)]
theorem kd_due : ∀ i, i < 13 → kdB i = (List.replicate 4 false).set (kd i) true := by decide
theorem kd_lt : ∀ i, i < 13 → kd i < 4 := by decide
theorem TopX.kb (Y : TopX K mg c) {i : Nat} (h : i < 13) : PySem.W.kitOne K (.ref (c i)) (.type "ValueError") = some (decide (i < 5)) ∧ PySem.W.kitOne K (.ref (c i)) (.type "LookupError") = some (decide (5 ≤ i ∧ i < 11)) ∧ PySem.W.kitOne K (.ref (c i)) (.type "RuntimeError") = some (decide (i = 11)) ∧
    PySem.W.kitOne K (.ref (c i)) (.type "OverflowError") = some (decide (i = 12)) ∧ PySem.W.kitAny K (.ref (c i)) [.type "IndexError", .type "KeyError", .type "NotImplementedError"] = some false := by
  have h3 := List.all_eq_true.mp Y.kitB i (List.mem_range.mpr h)
  simp only [Bool.and_eq_true, beq_iff_eq] at h3
  exact ⟨h3.1, h3.2.1, h3.2.2.1, h3.2.2.2.1, h3.2.2.2.2⟩
def spOne (c : Nat → Addr) : Sp := fun vs H Q _ => ∃ (e : Addr) (i : Nat) (fs : List (Str × V)), vs = [.ref e, .int (kd i : Nat)] ∧ i < 13 ∧ XAt H e (c i) fs ∧ ∀ H', Ex H H' → Q (.bl true) H'
theorem ib_st (Y : TopX K mg c) {i : Nat} {e : Addr} {fs : List (Str × V)} {σ : L2.St} {H : Hp} {Q : VK} {B : String} {b : Bool} (hi : i < 13) (hk : PySem.W.kitOne K (.ref (c i)) (.type B) = some b) (h0 : σ[0]? = some (some (.ref e))) (hX : XAt H e (c i) fs) (q : Q (.bl b) H) :
    tCB (rIsX K) (tCons (tVar 0) (tCons (tC (.ty B)) tNil)) σ H Q := ⟨_, h0, e, c i, fs, _, _, _, rfl, hX, Y.xcx hi, fun u r => r, hk, q⟩
theorem ok_l_one_right (T : Top wd K mg) (Y : TopX K mg c) : Def P wd K mg base 2 "_law_one_right" s_l_one_right ["_law_made", "_law_at"] (spOne c) := by
  obtain ⟨fF, fdF, GF, FF, bF, gF⟩ := (ok_l_flags (P := P) (base := base) T Y).ex
  obtain ⟨f, fd, F, b, m⟩ := T.d_l_one_right.ex
  refine ⟨f, fd, fnG_of F sc_l_one_right (fun vs H Q E h => ?_) (fun cdv A outer s H vs Q E hG hr h => ?_), F, b, m⟩
  · obtain ⟨e, i, fs, rfl, _⟩ := h
    rfl
  · obtain ⟨e, i, fs, rfl, hi, hX, q⟩ := h
    obtain ⟨k1, k2, k3, k4, k5⟩ := Y.kb hi
    refine ⟨_, pss_cons (ps_if (pt_cmpR op_ne (pe_bm PySem.F.plainAttrs_list PySem.F.slot_list_count PySem.F.type_list_count mt_bcount (pe_callG (E := E0) GF hG hr (by rfl) gF FF.kp bF (pa_cons (pv 0) pa_nil)) (pa_cons pe_bl pa_nil)) pe_int (nomark _)) (pss_one ps_never) pss_nil)
      (pss_cons (ps_set (i := 2) sc_l_one_right.nd rfl (.inl rfl) (pe_lst (pa_cons (pe_callB call_isX (by rfl) T.b_isinstance (by decide +kernel) (pa_cons (pv 0) (pa_cons (pe_bltn (v := .ty "ValueError") (by rfl) Y.bV (by decide +kernel) rfl) pa_nil)))
        (pa_cons (pe_callB call_isX (by rfl) T.b_isinstance (by decide +kernel) (pa_cons (pv 0) (pa_cons (pe_bltn (v := .ty "LookupError") (by rfl) Y.bL (by decide +kernel) rfl) pa_nil)))
        (pa_cons (pe_callB call_isX (by rfl) T.b_isinstance (by decide +kernel) (pa_cons (pv 0) (pa_cons (pe_bltn (v := .ty "RuntimeError") (by rfl) Y.bR (by decide +kernel) rfl) pa_nil))) pa_nil)))))
      (pss_cons (ps_expr (pe_bm PySem.F.plainAttrs_list PySem.F.slot_list_append PySem.F.type_list_append mt_append (pv 2) (pa_cons (pe_callB call_isX (by rfl) T.b_isinstance (by decide +kernel) (pa_cons (pv 0) (pa_cons (pe_bltn (v := .ty "OverflowError") (by rfl) Y.bO (by decide +kernel) rfl) pa_nil))) pa_nil)))
      (pss_cons (ps_set (i := 3) sc_l_one_right.nd rfl (.inl rfl) (pe_op op_rep (pe_lst (pa_cons pe_bl pa_nil)) pe_int))
      (pss_cons (ps_asg pe_bl (pg_sub (pv 3) (pv 1) set_list))
      (pss_one (ps_ret (pe_and (pe_cmpR (op_eqD hr.units) (pv 2) (pv 3) (nomark _)) (pe_one (pe_not (pe_callB call_isXT (by rfl) T.b_isinstance (by decide +kernel) (pa_cons (pv 0) (pa_cons (pe_tup
        (pa_cons (pe_bltn (v := .ty "IndexError") (by rfl) Y.bI (by decide +kernel) rfl) (pa_cons (pe_bltn (v := .ty "KeyError") (by rfl) Y.bK (by decide +kernel) rfl) (pa_cons (pe_bltn (v := .ty "NotImplementedError") (by rfl) Y.bN (by decide +kernel) rfl) pa_nil)))) pa_nil)))))))))))), ?_⟩
    refine ⟨_, rfl, e, i, fs, rfl, hi, hX, fun p H1 x1 l1 => ⟨.inl ⟨rfl, _, .inl (.inl l1)⟩, p, flB i, rfl, rfl, .inl (.inl l1), ?_⟩⟩
    rw [flB_one i hi]
    refine ⟨rfl, _, rfl, ite2 (fun h => absurd h (by decide)) (fun _ => ?_)⟩
    have X1 := hX.mono x1
    refine ib_st Y hi k1 rfl X1 <| ib_st Y hi k2 rfl X1 <| ib_st Y hi k3 rfl X1 <| ⟨(show 3 ≤ sizeLine by decide), fun p2 n2 => ?_⟩
    have x2 := x1.trans (Ex.new (o := .lst [.bl (decide (i < 5)), .bl (decide (5 ≤ i ∧ i < 11)), .bl (decide (i = 11))]) n2)
    have X2 := hX.mono x2
    refine ⟨_, rfl, .inl ⟨rfl, _, .inl (.inl upd_same)⟩, ib_st Y hi k4 rfl X2 ⟨p2, _, _, rfl, rfl, upd_same, (show 3 < sizeLine by decide), ?_⟩⟩
    rw [upd_upd]
    have x3 : Ex H (upd H1 p2 (.lst ((kdB i).map V.bl))) := x1.trans (Ex.new n2)
    have l3 : upd H1 p2 (.lst ((kdB i).map V.bl)) p2 = some (.lst ((kdB i).map V.bl)) := upd_same
    revert x3 l3
    show _ → _ → tSeq _ _ _ _ (upd H1 p2 (.lst ((kdB i).map V.bl)))
    generalize upd H1 p2 (.lst ((kdB i).map V.bl)) = H3
    intro x3 l3
    refine ⟨(show 1 ≤ sizeLine by decide), fun p4 n4 => ⟨p4, 4, _, rfl, rfl, upd_same, by decide, by decide, (show 1 * 4 ≤ sizeLine by decide), fun p5 n5 => ?_⟩⟩
    have x5 : Ex H3 (upd H3 p4 (.lst [.bl false])) := Ex.new n4
    revert x5 n5
    show _ → _ → tSeq _ _ _ _ (upd (upd H3 p4 (.lst [.bl false])) p5 (.lst [.bl false, .bl false, .bl false, .bl false]))
    generalize upd H3 p4 (.lst [.bl false]) = H4
    intro n5 x5
    have hk := kd_lt i hi
    refine ⟨_, rfl, _, rfl, p5, _, _, kd i, rfl, rfl, upd_same, ?_, ?_⟩
    · unfold ixN
      rw [if_pos (by omega), if_pos (by simp; omega), Int.toNat_natCast]
    · rw [upd_upd]
      have el : ([.bl false, .bl false, .bl false, .bl false] : List V).set (kd i) (.bl true) = (kdB i).map V.bl := by
        rw [kd_due i hi, List.map_set]
        rfl
      rw [el]
      have x6 := x5.trans (Ex.new (o := .lst ((kdB i).map V.bl)) n5)
      have l6 := x6 p2 _ l3
      have dpa : ∀ (G : Hp) (bs : List Bool), DpAll K G (bs.map V.bl) (bs.map PyData.bool) := fun G bs => by
        induction bs with
        | nil => exact .nil
        | cons b bs ih => exact .cons (.bl b) ih
      refine ⟨_, rfl, _, rfl, .list ((kdB i).map .bool), .list ((kdB i).map .bool), .lst (.inl (.inl l6)) (dpa _ _), .lst (.inl (.inl upd_same)) (dpa _ _), by rfl, by rfl, ?_⟩
      have eq1 : PyData.eqv (.list ((kdB i).map .bool)) (.list ((kdB i).map .bool)) = true := by
        unfold kdB
        cases decide (i < 5) <;> cases decide (5 ≤ i ∧ i < 11) <;> cases decide (i = 11) <;> cases decide (i = 12) <;> rfl
      rw [eq1]
      refine ⟨true, rfl, iteT ⟨_, rfl, ⟨(show 3 ≤ sizeLine by decide), fun tp nt => ⟨e, c i, tp, fs, _, _, false, rfl, hX.mono ((x3.trans x6).trans (Ex.new nt)), Y.xcx hi, upd_same, fun us v => ?_, k5, false, rfl, q _ ((x3.trans x6).trans (Ex.new nt))⟩⟩⟩⟩
      cases v with
      | cons r1 v =>
        cases v with
        | cons r2 v =>
          cases v with
          | cons r3 v =>
            cases v
            cases (show _ = Value.type "IndexError" from r1)
            cases (show _ = Value.type "KeyError" from r2)
            cases (show _ = Value.type "NotImplementedError" from r3)
            rfl
end
end Og15

namespace Og15
open PySem PySem.Spec PyProof.Rows L2 OgR Evl Dw Gx
def fnL : List Str := ["text", "number", "evidence", "time", "note", "plot", "time", "number", "note", "number", "many", "plot", "many"]
def fnAt (j : Nat) : Str := fnL.getD j ""
structure S15 (c : Nat → Addr) (vals : List V) (H0 H : Hp) (L : List (Addr × Nat)) (kp : List (Addr × HO)) : Prop where
  x : Ex H0 H
  al : ∀ q ∈ L, XAt H q.1 (c q.2) [(fnAt q.2, vals.getD q.2 .non)]
  kp : ∀ q ∈ kp, H q.1 = some q.2
section
variable {K : PySem.W.Frag} {c : Nat → Addr} {vals : List V} {H0 H H' : Hp} {L : List (Addr × Nat)} {kp : List (Addr × HO)} {p a : Addr} {o : HO}
theorem S15.ex (S : S15 c vals H0 H L kp) (e : Ex H H') : S15 c vals H0 H' L kp := ⟨S.x.trans e, fun q h => (S.al q h).mono e, fun q h => e _ _ (S.kp q h)⟩
theorem S15.new (S : S15 c vals H0 H L kp) (n : H p = none) : S15 c vals H0 (upd H p o) L ((p, o) :: kp) := ⟨S.x.trans (Ex.new n), fun q h => (S.al q h).mono (Ex.new n), fun q h => by
  rcases List.mem_cons.mp h with rfl | h
  · exact upd_same
  · exact Ex.new n _ _ (S.kp q h)⟩
theorem S15.drop (S : S15 c vals H0 H L kp) {kq : List (Addr × HO)} (h : ∀ q ∈ kq, q ∈ kp) : S15 c vals H0 H L kq := ⟨S.x, S.al, fun q z => S.kp q (h q z)⟩
theorem S15.ne (S : S15 c vals H0 H L kp) (n : H p = none) : ∀ q ∈ kp, q.1 ≠ p := fun q h z => by
  have := S.kp q h
  rw [z, n] at this
  cases this
theorem S15.h0 (S : S15 c vals H0 H L kp) (n : H p = none) : H0 p = none := fresh_back S.x n
theorem exo_lst {e C : Addr} {d : Option Addr} {xs : List V} : exo e C d ≠ .lst xs := fun z => by
  have z' : HO.ext _ = HO.lst xs := z
  cases z'
theorem exd_lst {e : Addr} {fs : List (Str × V)} {xs : List V} : exd e fs ≠ .lst xs := fun z => by
  have z' : HO.ext _ = HO.lst xs := z
  cases z'
theorem S15.mut (S : S15 c vals H0 H L kp) {xs ys : List V} (h0 : H0 p = none) (hp : H p = some (.lst xs)) {kq : List (Addr × HO)} (hs : ∀ q ∈ kq, q ∈ kp) (hn : ∀ q ∈ kq, q.1 ≠ p) : S15 c vals H0 (upd H p (.lst ys)) L ((p, .lst ys) :: kq) := by
  refine ⟨fun b o hb => ?_, fun q h => ?_, fun q h => ?_⟩
  · rw [upd_ne (fun z => by rw [z, h0] at hb; cases hb)]
    exact S.x b o hb
  · obtain ⟨d, h1, h2⟩ := S.al q h
    refine ⟨d, ?_, ?_⟩
    · rw [upd_ne (fun z => by rw [z, hp] at h1; exact exo_lst (Option.some.inj h1).symm)]
      exact h1
    · rw [upd_ne (fun z => by rw [z, hp] at h2; exact exd_lst (Option.some.inj h2).symm)]
      exact h2
  · rcases List.mem_cons.mp h with rfl | h
    · exact upd_same
    · rw [upd_ne (hn q h)]
      exact S.kp q (hs q h)
theorem mk_st {Pr : V → Hp → Prop} {f : Str} {pv : Addr} {σ : L2.St} {Q : VK} {i : Int} {v : V} (S : S15 c vals H0 H L kp) (j : Nat) (hv : SqL K H0 pv vals) (h3 : σ[3]? = some (some (.ref pv))) (ha : atI vals i = some v) (hj : vals.getD j .non = v) (hf : fnAt j = f) (hP : Pr v H0) (hm : ∀ H H', Ex H H' → Pr v H → Pr v H')
    (q : ∀ a H2, S15 c vals H0 H2 ((a, j) :: L) kp → Q (.ref a) H2) : tMk (c j) (spIni (c j) f Pr) (tCons (tOp (rIxL K) (tVar 3) (tC (.int i))) tNil) σ H Q := by
  unfold tMk
  refine ⟨_, h3, pv, vals, i, v, rfl, rfl, Evl.ex_l S.x hv, ha, (show 1 ≤ 1000 by decide), fun a na => ⟨a, v, rfl, upd_same, hm _ _ (S.x.trans (Ex.new na)) hP, fun dx nd ne => ⟨rfl, ?_⟩⟩⟩
  have nd' : H dx = none := by rw [upd_ne ne] at nd; exact nd
  have e : Ex H (upd (upd (upd H a (exo a (c j) none)) dx (exd dx [(f, v)])) a (exo a (c j) (some dx))) := fun b o hb => by
    have b1 : b ≠ a := fun z => by rw [z, na] at hb; cases hb
    have b2 : b ≠ dx := fun z => by rw [z, nd'] at hb; cases hb
    rw [upd_ne b1, upd_ne b2, upd_ne b1]
    exact hb
  have S2 := S.ex e
  refine q a _ ⟨S2.x, fun z hz => ?_, S2.kp⟩
  rcases List.mem_cons.mp hz with rfl | hz
  · refine ⟨dx, upd_same, ?_⟩
    rw [upd_ne ne, upd_same, hf, hj]
  · exact S2.al z hz
/-- a list of the thirteen -/
structure Good (c : Nat → Addr) (vals : List V) (H : Hp) (p : Addr) (a : Nat → Addr) : Prop where
  l : H p = some (.lst [.ref (a 0), .ref (a 1), .ref (a 2), .ref (a 3), .ref (a 4), .ref (a 5), .ref (a 6), .ref (a 7), .ref (a 8), .ref (a 9), .ref (a 10), .ref (a 11), .ref (a 12)])
  x : ∀ j, j < 13 → XAt H (a j) (c j) [(fnAt j, vals.getD j .non)]
theorem Good.ex {a : Nat → Addr} (g : Good c vals H p a) (e : Ex H H') : Good c vals H' p a := ⟨e _ _ g.l, fun j h => (g.x j h).mono e⟩
theorem get_st {mg : Str → Option Value} {a : Nat → Addr} {σ : L2.St} {Q : VK} {i : Int} {v : V} {f : Str} (Y : TopX K mg c) (g : Good c vals H p a) (j : Nat) (hj : j < 13) (h6 : σ[6]? = some (some (.ref p))) (hi : atI ([.ref (a 0), .ref (a 1), .ref (a 2), .ref (a 3), .ref (a 4), .ref (a 5), .ref (a 6), .ref (a 7), .ref (a 8), .ref (a 9), .ref (a 10), .ref (a 11), .ref (a 12)] : List V) i = some (.ref (a j)))
    (hf : fnAt j = f) (hn : PySem.W.findIn K (.ref (c j)) f = some none) (hv : vals.getD j .non = v) (q : Q v H) : tGet K f (tOp (rIxL K) (tVar 6) (tC (.int i))) σ H Q := by
  unfold tGet
  refine ⟨_, h6, p, _, i, _, rfl, rfl, .inl (.inl g.l), hi, a j, c j, _, v, rfl, g.x j hj, Y.xcx hj, hn, ?_, q⟩
  rw [hf, hv]
  exact List.lookup_cons_self
end
end Og15

namespace Og15
open PySem PySem.Spec PyProof.Rows L2 OgR Evl Dw Gx
section
variable {K : PySem.W.Frag} {c : Nat → Addr} {vals : List V} {H0 H H' : Hp} {p k7 : Addr} {a : Nat → Addr}
abbrev refs13 (a : Nat → Addr) : List V := [.ref (a 0), .ref (a 1), .ref (a 2), .ref (a 3), .ref (a 4), .ref (a 5), .ref (a 6), .ref (a 7), .ref (a 8), .ref (a 9), .ref (a 10), .ref (a 11), .ref (a 12)]
abbrev kinds13 : List V := [.int 0, .int 0, .int 0, .int 0, .int 0, .int 1, .int 1, .int 1, .int 1, .int 1, .int 1, .int 2, .int 3]
theorem refs_at (a : Nat → Addr) : ∀ i, i < 13 → (refs13 a)[i]? = some (.ref (a i))
  | 0, _ => rfl | 1, _ => rfl | 2, _ => rfl | 3, _ => rfl | 4, _ => rfl | 5, _ => rfl | 6, _ => rfl | 7, _ => rfl | 8, _ => rfl | 9, _ => rfl | 10, _ => rfl | 11, _ => rfl | 12, _ => rfl
theorem kinds_at : ∀ i, i < 13 → kinds13[i]? = some (.int (kd i : Nat))
  | 0, _ => rfl | 1, _ => rfl | 2, _ => rfl | 3, _ => rfl | 4, _ => rfl | 5, _ => rfl | 6, _ => rfl | 7, _ => rfl | 8, _ => rfl | 9, _ => rfl | 10, _ => rfl | 11, _ => rfl | 12, _ => rfl
theorem all_st {x0 x1 x2 x3 x4 x5 x7 x9 x10 : Option V} {Q : VK} (g : Good c vals H p a) (lk : H k7 = some (.lst kinds13)) (q : ∀ H', Ex H H' → Q (.bl true) H') :
    tCB (rAll K) (tCons (tLc (iZipB K (tCons (tVar 6) (tCons (tVar 8) tNil))) (gTup K 2 (gCons (gName 9) (gCons (gName 10) gNil))) tYes (tCall (spOne c) [] E0 (tCons (tVar 9) (tCons (tVar 10) tNil))) [9, 10]) tNil)
      [x0, x1, x2, x3, x4, x5, some (.ref p), x7, some (.ref k7), x9, x10] H Q := by
  refine ⟨_, rfl, _, rfl, false, false, p, k7, refs13 a, kinds13, rfl, .inl (.inl g.l), .inl (.inl lk), fun D hD => lc_it (walk_zipB (xs := refs13 a) (ys := kinds13) rfl) (fun j H'' => Ex H H'' ∧ H'' D = some (.lst ((List.replicate j true).map V.bl))) ?_ ?_ ?_ ?_⟩
  · exact ⟨Ex.new hD, upd_same⟩
  · rintro j H2 _ ⟨e2, _⟩
    exact ⟨.inl (.inl (e2 _ _ g.l)), .inl (.inl (e2 _ _ lk))⟩
  · rintro j v H2 H3 hj ⟨e2, l2⟩ ⟨T, x, y, rfl, nT, rfl, hx, hy⟩
    have hj' : j < 13 := hj
    rw [refs_at a j hj'] at hx
    rw [kinds_at j hj'] at hy
    cases hx
    cases hy
    have e3 : Ex H (upd H2 T (.tup [.ref (a j), .int (kd j : Nat)])) := e2.trans (Ex.new nT)
    refine ⟨T, _, rfl, .inl (.inl upd_same), rfl, _, _, rfl, _, _, rfl, rfl, rfl, ?_⟩
    refine ⟨_, rfl, _, rfl, a j, j, _, rfl, hj', (g.x j hj').mono e3, fun H4 e4 => ?_⟩
    have l4 : H4 D = some (.lst ((List.replicate j true).map V.bl)) := e4 _ _ (Ex.new nT _ _ l2)
    refine ⟨_, l4, ?_, ?_, ?_⟩
    · rw [List.length_map, List.length_replicate, sizeLine_eq]
      omega
    · intro b o hb
      rw [upd_ne (fun z => by rw [z, hD] at hb; cases hb)]
      exact e4 _ _ (e3 _ _ hb)
    · rw [upd_same, repT_snoc, List.map_append]
      rfl
  · rintro H2 ⟨e2, l2⟩
    refine ⟨D, List.replicate 13 true, rfl, .inl (.inl l2), ?_⟩
    rw [repT_all]
    exact q H2 e2
end
end Og15

set_option maxHeartbeats 8000000
namespace Og15
open PySem PySem.Spec PyProof.Rows L2 OgR Evl Dw Gx
/-- statements by their V-level reading -/
theorem ds_raw {X : Cx} {C : Ct} {sts : List Stmt} {t : TS} (h : PSs X sts t) : DSs X C sts t (fun DD s => ∀ G σ H D, Rel C G σ H s → Outs C G D DD → t D σ H) := ⟨h, fun G σ H s D DD r q o => q G σ H D r o⟩
local macro_rules | `(tactic| walk_at "d") => `(tactic| first
  | refine ⟨_, rfl, ?_⟩ | refine ⟨_, _, rfl, rfl, ?_⟩ | refine ⟨Nat.le_of_ble_eq_true rfl, ?_⟩ | refine ⟨_, _, rfl, rfl, Nat.le_of_ble_eq_true rfl, ?_⟩)
theorem dpa_uncons {K : PySem.W.Frag} {G : Hp} {xs : List V} {d : PyData} {ds : List PyData} (h : DpAll K G xs (d :: ds)) : ∃ u w, xs = u :: w ∧ Dp K G u d ∧ DpAll K G w ds := by
  cases h with
  | cons a b => exact ⟨_, _, rfl, a, b⟩
theorem dpa_nil2 {K : PySem.W.Frag} {G : Hp} {xs : List V} (h : DpAll K G xs []) : xs = [] := by cases h; rfl
section
variable {P : Program} {wd : World} {K : PySem.W.Frag} {mg : Str → Option Value} {base : Heap} {c : Nat → Addr}
def f_take2 : FB := fun ds c R => ds = [.int 1000000000] ∧ c < 900000 ∧ ∀ r c', 0 ≤ r → r < 1000000000 → c' ≤ c + 2 → R (.int r) c'
theorem ok_l_take2 (T : Top wd K mg) : Def P wd K mg base 2 "_law_take" s_l_take ["_law_box_here", "_law_below"] (spB K f_take2) := by
  obtain ⟨f, fd, F, b, m⟩ := T.d_l_take.ex
  refine Def.imp (sp := spTake2) ⟨f, fd, raw_take2 F b m, F, b, m⟩ fun vs H Q E h => ?_
  obtain ⟨l, vs', G, ds, c, R, rfl, hB, hGl, gh, p, ⟨rfl, h3, hR⟩, kk⟩ := h
  cases p with
  | cons p1 p2 =>
    cases p2
    refine ⟨l, c, by rw [dp_int p1], hB, h3, fun r xs c' r0 r1 hB' hc' => kk (.int r) (.int r) c' G _ (hR r c' r0 r1 hc') (Ex.refl G) (fun b o hb h => by rw [upd_ne hb]; exact h) hB' (fun b o h => ?_) (Nw.refl G H) (.int r)⟩
    rw [upd_ne (fun z => by rw [z, hGl] at h; cases h)]
    exact gh b o h
def valD (spot far : Int) : List PyData := [.str "x", .int spot, .tuple [.str "stuck", .int spot], .int spot, .tuple [.int spot, .str "groups", .int (spot + 1)], .int (far - 500), .int (far - 7), .int far, .tuple [.int spot, .str "house", .str "new"], .int (far + 1), .int (61 + spot), .int spot, .int (301 + far)]
theorem val_bd {spot far : Int} (h1 : 0 ≤ spot) (h2 : spot < 16) (h3 : 0 ≤ far) (h4 : far < 1000000000) : Bd 20 3 (.list (valD spot far)) := by
  have fi : ∀ {n : Nat} {i : Int}, -1000 ≤ i → i ≤ 2000000000 → Bd 20 n (.int i) := fun a b => Bd.flat (show _ ≤ 10 ^ 30 + 1000 by omega)
  have fs : ∀ {n : Nat} {z : Str}, PyData.strOk z = true ∧ (reprText z).length ≤ 400 → Bd 20 n (.str z) := fun h => Bd.flat h
  refine bd_lst (Nat.le_of_ble_eq_true rfl) fun x hx => ?_
  unfold valD at hx
  simp only [List.mem_cons, List.not_mem_nil, or_false] at hx
  rcases hx with rfl | rfl | rfl | rfl | rfl | rfl | rfl | rfl | rfl | rfl | rfl | rfl | rfl
  all_goals first
    | exact fs (by decide +kernel)
    | exact fi (by omega) (by omega)
    | (refine bd_tup (Nat.le_of_ble_eq_true rfl) fun y hy => ?_
       simp only [List.mem_cons, List.not_mem_nil, or_false] at hy
       rcases hy with rfl | rfl | rfl <;> first | exact fs (by decide +kernel) | exact fi (by omega) (by omega))
    | (refine bd_tup (Nat.le_of_ble_eq_true rfl) fun y hy => ?_
       simp only [List.mem_cons, List.not_mem_nil, or_false] at hy
       rcases hy with rfl | rfl <;> first | exact fs (by decide +kernel) | exact fi (by omega) (by omega))
theorem ok_l_right (T : Top wd K mg) (Y : TopX K mg c) : Def P wd K mg base 8 "_law_right" s_l_right ["_law_box_here"] (spB K fRight) := by
  have g_l_take := ok_l_take (P := P) (base := base) T
  have g_l_take2 := ok_l_take2 (P := P) (base := base) T
  obtain ⟨fS, fdS, GS, FS, bS, gS⟩ := (ok_l_same (P := P) (base := base) T (w := 20) (by decide) 3).ex
  obtain ⟨fO, fdO, GO, FO, bO, gO⟩ := (ok_l_one_right (P := P) (base := base) T Y).ex
  obtain ⟨tkM, hM⟩ := T.c_MOST
  obtain ⟨fI0, fd0, i0, t0, F0, b0, kb0⟩ := (mk_0 (P := P) (base := base) (wd := wd) Y).ex
  obtain ⟨fI1, fd1, i1, t1, F1, b1, kb1⟩ := (mk_1 (P := P) (base := base) (wd := wd) Y).ex
  obtain ⟨fI2, fd2, i2, t2, F2, b2, kb2⟩ := (mk_2 (P := P) (base := base) T Y).ex
  obtain ⟨fI3, fd3, i3, t3, F3, b3, kb3⟩ := (mk_3 (P := P) (base := base) (wd := wd) Y).ex
  obtain ⟨fI4, fd4, i4, t4, F4, b4, kb4⟩ := (mk_4 (P := P) (base := base) T Y).ex
  obtain ⟨fI5, fd5, i5, t5, F5, b5, kb5⟩ := (mk_5 (P := P) (base := base) (wd := wd) Y).ex
  obtain ⟨fI6, fd6, i6, t6, F6, b6, kb6⟩ := (mk_6 (P := P) (base := base) (wd := wd) Y).ex
  obtain ⟨fI7, fd7, i7, t7, F7, b7, kb7⟩ := (mk_7 (P := P) (base := base) (wd := wd) Y).ex
  obtain ⟨fI8, fd8, i8, t8, F8, b8, kb8⟩ := (mk_8 (P := P) (base := base) T Y).ex
  obtain ⟨fI9, fd9, i9, t9, F9, b9, kb9⟩ := (mk_9 (P := P) (base := base) (wd := wd) Y).ex
  obtain ⟨fI10, fd10, i10, t10, F10, b10, kb10⟩ := (mk_10 (P := P) (base := base) (wd := wd) Y).ex
  obtain ⟨fI11, fd11, i11, t11, F11, b11, kb11⟩ := (mk_11 (P := P) (base := base) (wd := wd) Y).ex
  obtain ⟨fI12, fd12, i12, t12, F12, b12, kb12⟩ := (mk_12 (P := P) (base := base) (wd := wd) Y).ex
  refine Def.draws (k := 7) T.d_l_right sc_l_right (fun ds c R h => by obtain ⟨rfl, _⟩ := h; rfl) fun f cdv A outer s H G l E ds cc R hG hr hF => ?_
  obtain ⟨rfl, hc, hR⟩ := hF
  refine ⟨_, _, dss_cons (ds_par2 1 2 (by rfl) sc_l_right.nd (dx_cons (DE.dx (de_cB 0 g_l_take hG (hr.mono (by omega)) (by rfl) (da_cons de_int da_nil))) (dx_cons (DE.dx (de_cB 0 g_l_take2 hG (hr.mono (by omega)) (by rfl) (da_cons (de_bin o_pow (DE.p de_int) (DE.p de_int)) da_nil))) dx_nil)))
      (dss_cons (ds_set 3 sc_l_right.nd (DO.d (do_lst (da_cons de_str (da_cons (de_v 1) (da_cons (de_tup (da_cons de_str (da_cons (de_v 1) da_nil))) (da_cons (de_v 1) (da_cons (de_tup (da_cons (de_v 1) (da_cons de_str (da_cons (de_bin o_add (dp_v 1) (DE.p de_int)) da_nil)))) (da_cons (de_bin o_sub (dp_v 2) (DE.p de_int)) (da_cons (de_bin o_sub (dp_v 2) (DE.p de_int)) (da_cons (de_v 2) da_nil)))))))))))
      (dss_cons (ds_set 3 sc_l_right.nd (DO.d (do_catP rfl (dp_v 3) (DE.p (DO.d (do_lst (da_cons (de_tup (da_cons (de_v 1) (da_cons de_str (da_cons de_str da_nil)))) da_nil)))))))
      (dss_cons (ds_set 3 sc_l_right.nd (DO.d (do_catP rfl (dp_v 3) (DE.p (DO.d (do_lst (da_cons (de_bin o_add (dp_v 2) (DE.p de_int)) (da_cons (de_bin o_add (DE.p de_int) (dp_v 1)) (da_cons (de_v 1) (da_cons (de_bin o_add (DE.p de_int) (dp_v 2)) da_nil))))))))))
      (ds_raw (pss_cons (ps_set (i := 4) sc_l_right.nd rfl (.inl rfl) (pe_lst (pa_cons (pe_mk Y.x0.xc i0 t0 F0 (hr.mono (by omega)) b0 (by rfl) Y.x0.here (pa_cons (pe_ix ix_list (pv 3) pe_int (fun _ _ => rfl)) pa_nil)) (pa_cons (pe_mk Y.x1.xc i1 t1 F1 (hr.mono (by omega)) b1 (by rfl) Y.x1.here (pa_cons (pe_ix ix_list (pv 3) pe_int (fun _ _ => rfl)) pa_nil)) (pa_cons (pe_mk Y.x2.xc i2 t2 F2 (hr.mono (by omega)) b2 (by rfl) Y.x2.here (pa_cons (pe_ix ix_list (pv 3) pe_int (fun _ _ => rfl)) pa_nil)) (pa_cons (pe_mk Y.x3.xc i3 t3 F3 (hr.mono (by omega)) b3 (by rfl) Y.x3.here (pa_cons (pe_ix ix_list (pv 3) pe_int (fun _ _ => rfl)) pa_nil)) (pa_cons (pe_mk Y.x4.xc i4 t4 F4 (hr.mono (by omega)) b4 (by rfl) Y.x4.here (pa_cons (pe_ix ix_list (pv 3) pe_int (fun _ _ => rfl)) pa_nil)) pa_nil)))))))
      (pss_cons (ps_set (i := 4) sc_l_right.nd rfl (.inl rfl) (pe_op op_cat (pv 4) (pe_lst (pa_cons (pe_mk Y.x5.xc i5 t5 F5 (hr.mono (by omega)) b5 (by rfl) Y.x5.here (pa_cons (pe_ix ix_list (pv 3) pe_int (fun _ _ => rfl)) pa_nil)) (pa_cons (pe_mk Y.x6.xc i6 t6 F6 (hr.mono (by omega)) b6 (by rfl) Y.x6.here (pa_cons (pe_ix ix_list (pv 3) pe_int (fun _ _ => rfl)) pa_nil)) (pa_cons (pe_mk Y.x7.xc i7 t7 F7 (hr.mono (by omega)) b7 (by rfl) Y.x7.here (pa_cons (pe_ix ix_list (pv 3) pe_int (fun _ _ => rfl)) pa_nil)) (pa_cons (pe_mk Y.x8.xc i8 t8 F8 (hr.mono (by omega)) b8 (by rfl) Y.x8.here (pa_cons (pe_ix ix_list (pv 3) pe_int (fun _ _ => rfl)) pa_nil)) pa_nil)))))))
      (pss_cons (ps_set (i := 4) sc_l_right.nd rfl (.inl rfl) (pe_op op_cat (pv 4) (pe_lst (pa_cons (pe_mk Y.x9.xc i9 t9 F9 (hr.mono (by omega)) b9 (by rfl) Y.x9.here (pa_cons (pe_ix ix_list (pv 3) pe_int (fun _ _ => rfl)) pa_nil)) (pa_cons (pe_mk Y.x10.xc i10 t10 F10 (hr.mono (by omega)) b10 (by rfl) Y.x10.here (pa_cons (pe_ix ix_list (pv 3) pe_int (fun _ _ => rfl)) pa_nil)) (pa_cons (pe_mk Y.x11.xc i11 t11 F11 (hr.mono (by omega)) b11 (by rfl) Y.x11.here (pa_cons (pe_ix ix_list (pv 3) pe_int (fun _ _ => rfl)) pa_nil)) (pa_cons (pe_mk Y.x12.xc i12 t12 F12 (hr.mono (by omega)) b12 (by rfl) Y.x12.here (pa_cons (pe_ix ix_list (pv 3) pe_int (fun _ _ => rfl)) pa_nil)) pa_nil)))))))
      (pss_cons (ps_set (i := 5) sc_l_right.nd rfl (.inl rfl) (pe_lst (pa_cons (pe_mkK Y.x0.xc i0 t0 F0 (hr.mono (by omega)) kb0 (by rfl) Y.x0.here (pe_ix ix_list (pv 3) pe_int (fun _ _ => rfl))) (pa_cons (pe_mkK Y.x1.xc i1 t1 F1 (hr.mono (by omega)) kb1 (by rfl) Y.x1.here (pe_ix ix_list (pv 3) pe_int (fun _ _ => rfl))) (pa_cons (pe_mkK Y.x2.xc i2 t2 F2 (hr.mono (by omega)) kb2 (by rfl) Y.x2.here (pe_ix ix_list (pv 3) pe_int (fun _ _ => rfl))) pa_nil)))))
      (pss_cons (ps_set (i := 5) sc_l_right.nd rfl (.inl rfl) (pe_op op_cat (pv 5) (pe_lst (pa_cons (pe_mkK Y.x3.xc i3 t3 F3 (hr.mono (by omega)) kb3 (by rfl) Y.x3.here (pe_ix ix_list (pv 3) pe_int (fun _ _ => rfl))) (pa_cons (pe_mkK Y.x4.xc i4 t4 F4 (hr.mono (by omega)) kb4 (by rfl) Y.x4.here (pe_ix ix_list (pv 3) pe_int (fun _ _ => rfl))) (pa_cons (pe_mkK Y.x5.xc i5 t5 F5 (hr.mono (by omega)) kb5 (by rfl) Y.x5.here (pe_ix ix_list (pv 3) pe_int (fun _ _ => rfl))) pa_nil))))))
      (pss_cons (ps_set (i := 5) sc_l_right.nd rfl (.inl rfl) (pe_op op_cat (pv 5) (pe_lst (pa_cons (pe_mkK Y.x6.xc i6 t6 F6 (hr.mono (by omega)) kb6 (by rfl) Y.x6.here (pe_ix ix_list (pv 3) pe_int (fun _ _ => rfl))) (pa_cons (pe_mkK Y.x7.xc i7 t7 F7 (hr.mono (by omega)) kb7 (by rfl) Y.x7.here (pe_ix ix_list (pv 3) pe_int (fun _ _ => rfl))) (pa_cons (pe_mkK Y.x8.xc i8 t8 F8 (hr.mono (by omega)) kb8 (by rfl) Y.x8.here (pe_ix ix_list (pv 3) pe_int (fun _ _ => rfl))) pa_nil))))))
      (pss_cons (ps_set (i := 5) sc_l_right.nd rfl (.inl rfl) (pe_op op_cat (pv 5) (pe_lst (pa_cons (pe_mkK Y.x9.xc i9 t9 F9 (hr.mono (by omega)) kb9 (by rfl) Y.x9.here (pe_ix ix_list (pv 3) pe_int (fun _ _ => rfl))) (pa_cons (pe_mkK Y.x10.xc i10 t10 F10 (hr.mono (by omega)) kb10 (by rfl) Y.x10.here (pe_ix ix_list (pv 3) pe_int (fun _ _ => rfl))) (pa_cons (pe_mkK Y.x11.xc i11 t11 F11 (hr.mono (by omega)) kb11 (by rfl) Y.x11.here (pe_ix ix_list (pv 3) pe_int (fun _ _ => rfl))) pa_nil))))))
      (pss_cons (ps_expr (pe_bm PySem.F.plainAttrs_list PySem.F.slot_list_append PySem.F.type_list_append mt_append (pv 5) (pa_cons (pe_mkK Y.x12.xc i12 t12 F12 (hr.mono (by omega)) kb12 (by rfl) Y.x12.here (pe_ix ix_list (pv 3) pe_int (fun _ _ => rfl))) pa_nil)))
      (pss_cons (ps_for PassesOwn.never rfl (pi_tup (pe_tup (pa_cons (pv 4) (pa_cons (pv 5) pa_nil)))) (pg_name (i := 6) sc_l_right.nd rfl (.inl rfl))
        (pss_cons (ps_set (i := 7) sc_l_right.nd rfl (.inl rfl) (pe_lst (pa_cons (pe_get (pe_ix ix_list (pv 6) pe_int (fun _ _ => rfl))) (pa_cons (pe_get (pe_ix ix_list (pv 6) pe_int (fun _ _ => rfl))) (pa_cons (pe_get (pe_ix ix_list (pv 6) pe_int (fun _ _ => rfl))) (pa_cons (pe_get (pe_ix ix_list (pv 6) pe_int (fun _ _ => rfl))) (pa_cons (pe_get (pe_ix ix_list (pv 6) pe_int (fun _ _ => rfl))) (pa_cons (pe_get (pe_ix ix_list (pv 6) pe_int (fun _ _ => rfl))) pa_nil))))))))
        (pss_cons (ps_set (i := 7) sc_l_right.nd rfl (.inl rfl) (pe_op op_cat (pv 7) (pe_lst (pa_cons (pe_get (pe_ix ix_list (pv 6) pe_int (fun _ _ => rfl))) (pa_cons (pe_get (pe_ix ix_list (pv 6) pe_int (fun _ _ => rfl))) (pa_cons (pe_get (pe_ix ix_list (pv 6) pe_int (fun _ _ => rfl))) (pa_cons (pe_get (pe_ix ix_list (pv 6) pe_int (fun _ _ => rfl))) (pa_cons (pe_get (pe_ix ix_list (pv 6) pe_int (fun _ _ => rfl))) pa_nil))))))))
        (pss_cons (ps_if (pt_not (pt_val (pe_callG (E := E0) GS hG (hr.mono (by omega)) (by rfl) gS FS.kp bS (pa_cons (pe_op op_cat (pv 7) (pe_lst (pa_cons (pe_get (pe_ix ix_list (pv 6) pe_int (fun _ _ => rfl))) (pa_cons (pe_get (pe_ix ix_list (pv 6) pe_int (fun _ _ => rfl))) pa_nil)))) (pa_cons (pv 3) pa_nil))))) (pss_one ps_never) pss_nil)
        (pss_cons (ps_set (i := 8) sc_l_right.nd rfl (.inl rfl) (pe_op op_cat (pe_op op_cat (pe_op op_rep (pe_lst (pa_cons pe_int pa_nil)) pe_int) (pe_op op_rep (pe_lst (pa_cons pe_int pa_nil)) pe_int)) (pe_lst (pa_cons pe_int (pa_cons pe_int pa_nil)))))
        (pss_one (ps_if (pt_not (pt_val (pe_callB (cr_all (by rfl)) (by rfl) T.b_all (by decide +kernel) (pa_cons (pe_lc (own := [("_law_its", 9), ("_law_at", 10)]) (g := gTup K 2 (gCons (gName 9) (gCons (gName 10) gNil))) (by rfl) sc_l_right.nd (pi_zipB (by rfl) T.b_zip (pa_cons (pv 6) (pa_cons (pv 8) pa_nil))) (blkOk_by (own := [("_law_its", 9), ("_law_at", 10)]) (N := ["_law_box_here", "_law_spot", "_law_far", "_law_values", "_law_made", "_law_named", "_law_some", "_law_fields", "_law_kinds", "_law_its", "_law_at"]) (sc := defScope s_l_right) (by decide +kernel)) (fun _ _ _ _ _ => pg_tup (n := 2) rfl (pgs_cons (pg_name (i := 9) sc_l_right.nd rfl (Or.inl rfl) (hf := Or.inr rfl)) (pgs_cons (pg_name (i := 10) sc_l_right.nd rfl (Or.inl rfl) (hf := Or.inr rfl)) pgs_nil))) (fun _ _ _ _ _ => pts_nil) (fun _ _ _ _ _ => pe_callG (E := E0) GO hG (hr.mono (by omega)) (by rfl) gO FO.kp bO (pa_cons (pv 9) (pa_cons (pv 10) pa_nil)))) pa_nil)))) (pss_one ps_never) pss_nil)))))))
      (pss_one (ps_ret (pe_cmpR op_eq (pe_glob (v := .int 300) (by rfl) hM ⟨_, rfl⟩) pe_int (nomark _))))))))))))))))), ?_⟩
  refine ⟨rfl, 16, rfl, by decide, by decide, (show cc < 1000000 by omega), fun spot c1 sp0 sp1 hc1 => ⟨rfl, _, _, rfl, rfl, ⟨by decide, by decide, by decide⟩, rfl, (by have z : c1 ≤ cc + 1 := hc1; show c1 < 900000; omega), fun far c2 fr0 fr1 hc2 => ⟨rfl, ?_⟩⟩⟩
  repeat walk_at "d"
  intro G1 σ1 H1 D1 r1 o1
  have hlen : σ1.length = 11 := r1.len.symm
  obtain ⟨v1, e1, rv1⟩ := r1.sl 1 _ rfl
  obtain ⟨v2, e2, rv2⟩ := r1.sl 2 _ rfl
  obtain ⟨v3, e3, rv3⟩ := r1.sl 3 _ rfl
  match σ1, hlen with
  | [s0, s1, s2, s3, s4, s5, s6, s7, s8, s9, s10], _ =>
    simp only [List.getElem?_cons_zero, List.getElem?_cons_succ, Option.some.injEq] at e1 e2 e3
    subst e1 e2 e3
    cases (dp_int rv1)
    cases (dp_int rv2)
    have hval : ∃ pv vals, v3 = .ref pv ∧ SqL K H1 pv vals ∧ DpAll K G1 vals (valD spot far) := by
      cases rv3 with
      | lst z1 z2 => exact ⟨_, _, rfl, Evl.ex_l r1.fin.gh z1, z2⟩
    obtain ⟨pv, vals, rfl, hv, dv⟩ := hval
    have hvals : ∃ r2 r4 r8, vals = [.str "x", .int spot, r2, .int spot, r4, .int (far - 500), .int (far - 7), .int far, r8, .int (far + 1), .int (61 + spot), .int spot, .int (301 + far)] ∧ IsTp K r2 H1 ∧ IsTp K r4 H1 ∧ IsTp K r8 H1 := by
      have go : ∀ {v : V} {ds : List PyData}, Dp K G1 v (.tuple ds) → IsTp K v H1 := fun h => by
        cases h with
        | tup z1 z2 => exact ⟨_, _, rfl, Evl.ex_t r1.fin.gh z1⟩
      have dv2 := dv
      unfold valD at dv2
      obtain ⟨u0, w0, rfl, p0, dv2⟩ := dpa_uncons dv2
      obtain ⟨u1, w1, rfl, p1, dv2⟩ := dpa_uncons dv2
      obtain ⟨u2, w2, rfl, p2, dv2⟩ := dpa_uncons dv2
      obtain ⟨u3, w3, rfl, p3, dv2⟩ := dpa_uncons dv2
      obtain ⟨u4, w4, rfl, p4, dv2⟩ := dpa_uncons dv2
      obtain ⟨u5, w5, rfl, p5, dv2⟩ := dpa_uncons dv2
      obtain ⟨u6, w6, rfl, p6, dv2⟩ := dpa_uncons dv2
      obtain ⟨u7, w7, rfl, p7, dv2⟩ := dpa_uncons dv2
      obtain ⟨u8, w8, rfl, p8, dv2⟩ := dpa_uncons dv2
      obtain ⟨u9, w9, rfl, p9, dv2⟩ := dpa_uncons dv2
      obtain ⟨u10, w10, rfl, p10, dv2⟩ := dpa_uncons dv2
      obtain ⟨u11, w11, rfl, p11, dv2⟩ := dpa_uncons dv2
      obtain ⟨u12, w12, rfl, p12, dv2⟩ := dpa_uncons dv2
      cases dpa_nil2 dv2
      cases dp_str p0
      cases dp_int p1
      cases dp_int p3
      cases dp_int p5
      cases dp_int p6
      cases dp_int p7
      cases dp_int p9
      cases dp_int p10
      cases dp_int p11
      cases dp_int p12
      exact ⟨_, _, _, rfl, go p2, go p4, go p8⟩
    obtain ⟨r2, r4, r8, rfl, h2t, h4t, h8t⟩ := hvals
    have S : S15 c [.str "x", .int spot, r2, .int spot, r4, .int (far - 500), .int (far - 7), .int far, r8, .int (far + 1), .int (61 + spot), .int spot, .int (301 + far)] H1 H1 [] [] := ⟨Ex.refl _, (fun q h => nomatch h), (fun q h => nomatch h)⟩
    show tMk (c 0) (spIni (c 0) _ _) (tCons (tOp (rIxL K) (tVar 3) (tC (.int 0))) tNil) _ _ _
    refine mk_st (Pr := fun _ _ => True) (i := 0) S 0 hv rfl rfl rfl rfl trivial (fun _ _ _ h => h) (fun A0 KA0 SA0 => ?_)
    show tMk (c 1) (spIni (c 1) _ _) (tCons (tOp (rIxL K) (tVar 3) (tC (.int 1))) tNil) _ _ _
    refine mk_st (Pr := fun _ _ => True) (i := 1) SA0 1 hv rfl rfl rfl rfl trivial (fun _ _ _ h => h) (fun A1 KA1 SA1 => ?_)
    show tMk (c 2) (spIni (c 2) _ _) (tCons (tOp (rIxL K) (tVar 3) (tC (.int 2))) tNil) _ _ _
    refine mk_st (Pr := IsTp K) (i := 2) SA1 2 hv rfl rfl rfl rfl h2t (fun _ _ e ⟨p, xs, z1, z2⟩ => ⟨p, xs, z1, Evl.ex_t e z2⟩) (fun A2 KA2 SA2 => ?_)
    show tMk (c 3) (spIni (c 3) _ _) (tCons (tOp (rIxL K) (tVar 3) (tC (.int 3))) tNil) _ _ _
    refine mk_st (Pr := fun _ _ => True) (i := 3) SA2 3 hv rfl rfl rfl rfl trivial (fun _ _ _ h => h) (fun A3 KA3 SA3 => ?_)
    show tMk (c 4) (spIni (c 4) _ _) (tCons (tOp (rIxL K) (tVar 3) (tC (.int 4))) tNil) _ _ _
    refine mk_st (Pr := IsTp K) (i := 4) SA3 4 hv rfl rfl rfl rfl h4t (fun _ _ e ⟨p, xs, z1, z2⟩ => ⟨p, xs, z1, Evl.ex_t e z2⟩) (fun A4 KA4 SA4 => ?_)
    refine ⟨(show 5 ≤ sizeLine by decide), fun p1 n1 => ?_⟩
    have T1 := SA4.new (o := .lst [.ref A0, .ref A1, .ref A2, .ref A3, .ref A4]) n1
    refine ⟨_, rfl, ?_⟩
    show tMk (c 5) (spIni (c 5) _ _) (tCons (tOp (rIxL K) (tVar 3) (tC (.int 5))) tNil) _ _ _
    refine mk_st (Pr := fun _ _ => True) (i := 5) T1 5 hv rfl rfl rfl rfl trivial (fun _ _ _ h => h) (fun A5 KA5 SA5 => ?_)
    show tMk (c 6) (spIni (c 6) _ _) (tCons (tOp (rIxL K) (tVar 3) (tC (.int 6))) tNil) _ _ _
    refine mk_st (Pr := fun _ _ => True) (i := 6) SA5 6 hv rfl rfl rfl rfl trivial (fun _ _ _ h => h) (fun A6 KA6 SA6 => ?_)
    show tMk (c 7) (spIni (c 7) _ _) (tCons (tOp (rIxL K) (tVar 3) (tC (.int 7))) tNil) _ _ _
    refine mk_st (Pr := fun _ _ => True) (i := 7) SA6 7 hv rfl rfl rfl rfl trivial (fun _ _ _ h => h) (fun A7 KA7 SA7 => ?_)
    show tMk (c 8) (spIni (c 8) _ _) (tCons (tOp (rIxL K) (tVar 3) (tC (.int 8))) tNil) _ _ _
    refine mk_st (Pr := IsTp K) (i := 8) SA7 8 hv rfl rfl rfl rfl h8t (fun _ _ e ⟨p, xs, z1, z2⟩ => ⟨p, xs, z1, Evl.ex_t e z2⟩) (fun A8 KA8 SA8 => ?_)
    refine ⟨(show 4 ≤ sizeLine by decide), fun q2 m2 => ⟨p1, q2, _, _, rfl, rfl, Ex.new m2 _ _ (SA8.kp (p1, .lst [.ref A0, .ref A1, .ref A2, .ref A3, .ref A4]) (by simp)), upd_same, (show 9 ≤ sizeLine by decide), fun p2 n2 => ?_⟩⟩
    have T2 := (SA8.new (o := .lst [.ref A5, .ref A6, .ref A7, .ref A8]) m2).new (o := .lst [.ref A0, .ref A1, .ref A2, .ref A3, .ref A4, .ref A5, .ref A6, .ref A7, .ref A8]) n2
    refine ⟨_, rfl, ?_⟩
    show tMk (c 9) (spIni (c 9) _ _) (tCons (tOp (rIxL K) (tVar 3) (tC (.int 9))) tNil) _ _ _
    refine mk_st (Pr := fun _ _ => True) (i := 9) T2 9 hv rfl rfl rfl rfl trivial (fun _ _ _ h => h) (fun A9 KA9 SA9 => ?_)
    show tMk (c 10) (spIni (c 10) _ _) (tCons (tOp (rIxL K) (tVar 3) (tC (.int 10))) tNil) _ _ _
    refine mk_st (Pr := fun _ _ => True) (i := 10) SA9 10 hv rfl rfl rfl rfl trivial (fun _ _ _ h => h) (fun A10 KA10 SA10 => ?_)
    show tMk (c 11) (spIni (c 11) _ _) (tCons (tOp (rIxL K) (tVar 3) (tC (.int 11))) tNil) _ _ _
    refine mk_st (Pr := fun _ _ => True) (i := 11) SA10 11 hv rfl rfl rfl rfl trivial (fun _ _ _ h => h) (fun A11 KA11 SA11 => ?_)
    show tMk (c 12) (spIni (c 12) _ _) (tCons (tOp (rIxL K) (tVar 3) (tC (.int 12))) tNil) _ _ _
    refine mk_st (Pr := fun _ _ => True) (i := 12) SA11 12 hv rfl rfl rfl rfl trivial (fun _ _ _ h => h) (fun A12 KA12 SA12 => ?_)
    refine ⟨(show 4 ≤ sizeLine by decide), fun q3 m3 => ⟨p2, q3, _, _, rfl, rfl, Ex.new m3 _ _ (SA12.kp (p2, .lst [.ref A0, .ref A1, .ref A2, .ref A3, .ref A4, .ref A5, .ref A6, .ref A7, .ref A8]) (by simp)), upd_same, (show 13 ≤ sizeLine by decide), fun p3 n3 => ?_⟩⟩
    have T3 := (SA12.new (o := .lst [.ref A9, .ref A10, .ref A11, .ref A12]) m3).new (o := .lst [.ref A0, .ref A1, .ref A2, .ref A3, .ref A4, .ref A5, .ref A6, .ref A7, .ref A8, .ref A9, .ref A10, .ref A11, .ref A12]) n3
    show tMk (c 0) (spIni (c 0) _ _) (tCons (tOp (rIxL K) (tVar 3) (tC (.int 0))) tNil) _ _ _
    refine mk_st (Pr := fun _ _ => True) (i := 0) T3 0 hv rfl rfl rfl rfl trivial (fun _ _ _ h => h) (fun B0 KB0 SB0 => ?_)
    show tMk (c 1) (spIni (c 1) _ _) (tCons (tOp (rIxL K) (tVar 3) (tC (.int 1))) tNil) _ _ _
    refine mk_st (Pr := fun _ _ => True) (i := 1) SB0 1 hv rfl rfl rfl rfl trivial (fun _ _ _ h => h) (fun B1 KB1 SB1 => ?_)
    show tMk (c 2) (spIni (c 2) _ _) (tCons (tOp (rIxL K) (tVar 3) (tC (.int 2))) tNil) _ _ _
    refine mk_st (Pr := IsTp K) (i := 2) SB1 2 hv rfl rfl rfl rfl h2t (fun _ _ e ⟨p, xs, z1, z2⟩ => ⟨p, xs, z1, Evl.ex_t e z2⟩) (fun B2 KB2 SB2 => ?_)
    refine ⟨(show 3 ≤ sizeLine by decide), fun p4 n4 => ?_⟩
    have T4 := SB2.new (o := .lst [.ref B0, .ref B1, .ref B2]) n4
    refine ⟨_, rfl, ?_⟩
    show tMk (c 3) (spIni (c 3) _ _) (tCons (tOp (rIxL K) (tVar 3) (tC (.int 3))) tNil) _ _ _
    refine mk_st (Pr := fun _ _ => True) (i := 3) T4 3 hv rfl rfl rfl rfl trivial (fun _ _ _ h => h) (fun B3 KB3 SB3 => ?_)
    show tMk (c 4) (spIni (c 4) _ _) (tCons (tOp (rIxL K) (tVar 3) (tC (.int 4))) tNil) _ _ _
    refine mk_st (Pr := IsTp K) (i := 4) SB3 4 hv rfl rfl rfl rfl h4t (fun _ _ e ⟨p, xs, z1, z2⟩ => ⟨p, xs, z1, Evl.ex_t e z2⟩) (fun B4 KB4 SB4 => ?_)
    show tMk (c 5) (spIni (c 5) _ _) (tCons (tOp (rIxL K) (tVar 3) (tC (.int 5))) tNil) _ _ _
    refine mk_st (Pr := fun _ _ => True) (i := 5) SB4 5 hv rfl rfl rfl rfl trivial (fun _ _ _ h => h) (fun B5 KB5 SB5 => ?_)
    refine ⟨(show 3 ≤ sizeLine by decide), fun q5 m5 => ⟨p4, q5, _, _, rfl, rfl, Ex.new m5 _ _ (SB5.kp (p4, .lst [.ref B0, .ref B1, .ref B2]) (by simp)), upd_same, (show 6 ≤ sizeLine by decide), fun p5 n5 => ?_⟩⟩
    have T5 := (SB5.new (o := .lst [.ref B3, .ref B4, .ref B5]) m5).new (o := .lst [.ref B0, .ref B1, .ref B2, .ref B3, .ref B4, .ref B5]) n5
    refine ⟨_, rfl, ?_⟩
    show tMk (c 6) (spIni (c 6) _ _) (tCons (tOp (rIxL K) (tVar 3) (tC (.int 6))) tNil) _ _ _
    refine mk_st (Pr := fun _ _ => True) (i := 6) T5 6 hv rfl rfl rfl rfl trivial (fun _ _ _ h => h) (fun B6 KB6 SB6 => ?_)
    show tMk (c 7) (spIni (c 7) _ _) (tCons (tOp (rIxL K) (tVar 3) (tC (.int 7))) tNil) _ _ _
    refine mk_st (Pr := fun _ _ => True) (i := 7) SB6 7 hv rfl rfl rfl rfl trivial (fun _ _ _ h => h) (fun B7 KB7 SB7 => ?_)
    show tMk (c 8) (spIni (c 8) _ _) (tCons (tOp (rIxL K) (tVar 3) (tC (.int 8))) tNil) _ _ _
    refine mk_st (Pr := IsTp K) (i := 8) SB7 8 hv rfl rfl rfl rfl h8t (fun _ _ e ⟨p, xs, z1, z2⟩ => ⟨p, xs, z1, Evl.ex_t e z2⟩) (fun B8 KB8 SB8 => ?_)
    refine ⟨(show 3 ≤ sizeLine by decide), fun q6 m6 => ⟨p5, q6, _, _, rfl, rfl, Ex.new m6 _ _ (SB8.kp (p5, .lst [.ref B0, .ref B1, .ref B2, .ref B3, .ref B4, .ref B5]) (by simp)), upd_same, (show 9 ≤ sizeLine by decide), fun p6 n6 => ?_⟩⟩
    have T6 := (SB8.new (o := .lst [.ref B6, .ref B7, .ref B8]) m6).new (o := .lst [.ref B0, .ref B1, .ref B2, .ref B3, .ref B4, .ref B5, .ref B6, .ref B7, .ref B8]) n6
    refine ⟨_, rfl, ?_⟩
    show tMk (c 9) (spIni (c 9) _ _) (tCons (tOp (rIxL K) (tVar 3) (tC (.int 9))) tNil) _ _ _
    refine mk_st (Pr := fun _ _ => True) (i := 9) T6 9 hv rfl rfl rfl rfl trivial (fun _ _ _ h => h) (fun B9 KB9 SB9 => ?_)
    show tMk (c 10) (spIni (c 10) _ _) (tCons (tOp (rIxL K) (tVar 3) (tC (.int 10))) tNil) _ _ _
    refine mk_st (Pr := fun _ _ => True) (i := 10) SB9 10 hv rfl rfl rfl rfl trivial (fun _ _ _ h => h) (fun B10 KB10 SB10 => ?_)
    show tMk (c 11) (spIni (c 11) _ _) (tCons (tOp (rIxL K) (tVar 3) (tC (.int 11))) tNil) _ _ _
    refine mk_st (Pr := fun _ _ => True) (i := 11) SB10 11 hv rfl rfl rfl rfl trivial (fun _ _ _ h => h) (fun B11 KB11 SB11 => ?_)
    refine ⟨(show 3 ≤ sizeLine by decide), fun q7 m7 => ⟨p6, q7, _, _, rfl, rfl, Ex.new m7 _ _ (SB11.kp (p6, .lst [.ref B0, .ref B1, .ref B2, .ref B3, .ref B4, .ref B5, .ref B6, .ref B7, .ref B8]) (by simp)), upd_same, (show 12 ≤ sizeLine by decide), fun p7 n7 => ?_⟩⟩
    have T7 := (SB11.new (o := .lst [.ref B9, .ref B10, .ref B11]) m7).new (o := .lst [.ref B0, .ref B1, .ref B2, .ref B3, .ref B4, .ref B5, .ref B6, .ref B7, .ref B8, .ref B9, .ref B10, .ref B11]) n7
    have ne7 := (SB11.new (o := .lst [.ref B9, .ref B10, .ref B11]) m7).ne n7 (p3, .lst [.ref A0, .ref A1, .ref A2, .ref A3, .ref A4, .ref A5, .ref A6, .ref A7, .ref A8, .ref A9, .ref A10, .ref A11, .ref A12]) (by simp)
    have z7 := (SB11.new (o := .lst [.ref B9, .ref B10, .ref B11]) m7).h0 n7
    refine ⟨_, rfl, .inl ⟨rfl, _, .inl (.inl (T7.kp (p7, .lst [.ref B0, .ref B1, .ref B2, .ref B3, .ref B4, .ref B5, .ref B6, .ref B7, .ref B8, .ref B9, .ref B10, .ref B11]) (by simp)))⟩, ?_⟩
    show tMk (c 12) (spIni (c 12) _ _) (tCons (tOp (rIxL K) (tVar 3) (tC (.int 12))) tNil) _ _ _
    refine mk_st (Pr := fun _ _ => True) (i := 12) T7 12 hv rfl rfl rfl rfl trivial (fun _ _ _ h => h) (fun B12 KB12 SB12 => ?_)
    refine ⟨p7, _, _, rfl, rfl, SB12.kp (p7, .lst [.ref B0, .ref B1, .ref B2, .ref B3, .ref B4, .ref B5, .ref B6, .ref B7, .ref B8, .ref B9, .ref B10, .ref B11]) (by simp), (show 12 < sizeLine by decide), ?_⟩
    have W := SB12.mut (p := p7) (ys := [.ref B0, .ref B1, .ref B2, .ref B3, .ref B4, .ref B5, .ref B6, .ref B7, .ref B8, .ref B9, .ref B10, .ref B11, .ref B12]) (kq := [(p3, .lst [.ref A0, .ref A1, .ref A2, .ref A3, .ref A4, .ref A5, .ref A6, .ref A7, .ref A8, .ref A9, .ref A10, .ref A11, .ref A12])]) z7 (SB12.kp (p7, .lst [.ref B0, .ref B1, .ref B2, .ref B3, .ref B4, .ref B5, .ref B6, .ref B7, .ref B8, .ref B9, .ref B10, .ref B11]) (by simp)) (by simp) (by simp; exact ne7)
    have gm : Good c [.str "x", .int spot, r2, .int spot, r4, .int (far - 500), .int (far - 7), .int far, r8, .int (far + 1), .int (61 + spot), .int spot, .int (301 + far)] (upd KB12 p7 (.lst [.ref B0, .ref B1, .ref B2, .ref B3, .ref B4, .ref B5, .ref B6, .ref B7, .ref B8, .ref B9, .ref B10, .ref B11, .ref B12])) p3 (fun j => [A0, A1, A2, A3, A4, A5, A6, A7, A8, A9, A10, A11, A12].getD j 0) := ⟨W.kp (p3, .lst [.ref A0, .ref A1, .ref A2, .ref A3, .ref A4, .ref A5, .ref A6, .ref A7, .ref A8, .ref A9, .ref A10, .ref A11, .ref A12]) (by simp), fun j hj => by
      match j, hj with
      | 0, _ => exact W.al (A0, 0) (by simp)
      | 1, _ => exact W.al (A1, 1) (by simp)
      | 2, _ => exact W.al (A2, 2) (by simp)
      | 3, _ => exact W.al (A3, 3) (by simp)
      | 4, _ => exact W.al (A4, 4) (by simp)
      | 5, _ => exact W.al (A5, 5) (by simp)
      | 6, _ => exact W.al (A6, 6) (by simp)
      | 7, _ => exact W.al (A7, 7) (by simp)
      | 8, _ => exact W.al (A8, 8) (by simp)
      | 9, _ => exact W.al (A9, 9) (by simp)
      | 10, _ => exact W.al (A10, 10) (by simp)
      | 11, _ => exact W.al (A11, 11) (by simp)
      | 12, _ => exact W.al (A12, 12) (by simp)⟩
    have gn : Good c [.str "x", .int spot, r2, .int spot, r4, .int (far - 500), .int (far - 7), .int far, r8, .int (far + 1), .int (61 + spot), .int spot, .int (301 + far)] (upd KB12 p7 (.lst [.ref B0, .ref B1, .ref B2, .ref B3, .ref B4, .ref B5, .ref B6, .ref B7, .ref B8, .ref B9, .ref B10, .ref B11, .ref B12])) p7 (fun j => [B0, B1, B2, B3, B4, B5, B6, B7, B8, B9, B10, B11, B12].getD j 0) := ⟨W.kp (p7, .lst [.ref B0, .ref B1, .ref B2, .ref B3, .ref B4, .ref B5, .ref B6, .ref B7, .ref B8, .ref B9, .ref B10, .ref B11, .ref B12]) (by simp), fun j hj => by
      match j, hj with
      | 0, _ => exact W.al (B0, 0) (by simp)
      | 1, _ => exact W.al (B1, 1) (by simp)
      | 2, _ => exact W.al (B2, 2) (by simp)
      | 3, _ => exact W.al (B3, 3) (by simp)
      | 4, _ => exact W.al (B4, 4) (by simp)
      | 5, _ => exact W.al (B5, 5) (by simp)
      | 6, _ => exact W.al (B6, 6) (by simp)
      | 7, _ => exact W.al (B7, 7) (by simp)
      | 8, _ => exact W.al (B8, 8) (by simp)
      | 9, _ => exact W.al (B9, 9) (by simp)
      | 10, _ => exact W.al (B10, 10) (by simp)
      | 11, _ => exact W.al (B11, 11) (by simp)
      | 12, _ => exact W.al (B12, 12) (by simp)⟩
    have xw := W.x
    revert gm gn xw
    generalize (fun j => [A0, A1, A2, A3, A4, A5, A6, A7, A8, A9, A10, A11, A12].getD j 0 : Nat → Addr) = am
    generalize (fun j => [B0, B1, B2, B3, B4, B5, B6, B7, B8, B9, B10, B11, B12].getD j 0 : Nat → Addr) = an
    intro gm gn xw
    have dvH : DpAll K H1 [.str "x", .int spot, r2, .int spot, r4, .int (far - 500), .int (far - 7), .int far, r8, .int (far + 1), .int (61 + spot), .int spot, .int (301 + far)] (valD spot far) := dpa_ex r1.fin.gh dv
    refine ⟨_, rfl, _, rfl, (show 2 ≤ sizeLine by decide), fun tp nt => ⟨tp, rfl, ⟨_, .inl (.inl upd_same)⟩, for_tup (K := K) (a := tp) (xs := [.ref p3, .ref p7]) (fun i σ2 H2 => ∃ y6 y7 y8, σ2 = [s0, some (.int spot), some (.int far), some (.ref pv), some (.ref p3), some (.ref p7), y6, y7, y8, s9, s10] ∧ Ex H1 H2 ∧ Good c [.str "x", .int spot, r2, .int spot, r4, .int (far - 500), .int (far - 7), .int far, r8, .int (far + 1), .int (61 + spot), .int spot, .int (301 + far)] H2 p3 am ∧ Good c [.str "x", .int spot, r2, .int spot, r4, .int (far - 500), .int (far - 7), .int far, r8, .int (far + 1), .int (61 + spot), .int spot, .int (301 + far)] H2 p7 an ∧ H2 tp = some (.tup [.ref p3, .ref p7])) ?_ ?_ ?_ ?_⟩⟩
    · exact ⟨_, _, _, rfl, xw.trans (Ex.new nt), gm.ex (Ex.new nt), gn.ex (Ex.new nt), upd_same⟩
    · rintro i σ2 H2 _ ⟨_, _, _, _, _, _, _, ht⟩
      exact .inl (.inl ht)
    · rintro i x σ2 H2 hx ⟨y6, y7, y8, rfl, xh, g3, g7, ht⟩
      obtain ⟨p, a, rfl, g⟩ : ∃ p a, x = .ref p ∧ Good c [.str "x", .int spot, r2, .int spot, r4, .int (far - 500), .int (far - 7), .int far, r8, .int (far + 1), .int (61 + spot), .int spot, .int (301 + far)] H2 p a := by
        match i, hx with
        | 0, hx => cases hx; exact ⟨_, _, rfl, g3⟩
        | 1, hx => cases hx; exact ⟨_, _, rfl, g7⟩
      show tGet K _ (tOp (rIxL K) (tVar 6) (tC (.int 0))) _ _ _
      refine get_st Y g 0 (by decide) rfl rfl rfl Y.x0.fld rfl ?_
      show tGet K _ (tOp (rIxL K) (tVar 6) (tC (.int 1))) _ _ _
      refine get_st Y g 1 (by decide) rfl rfl rfl Y.x1.fld rfl ?_
      show tGet K _ (tOp (rIxL K) (tVar 6) (tC (.int 2))) _ _ _
      refine get_st Y g 2 (by decide) rfl rfl rfl Y.x2.fld rfl ?_
      show tGet K _ (tOp (rIxL K) (tVar 6) (tC (.int 3))) _ _ _
      refine get_st Y g 3 (by decide) rfl rfl rfl Y.x3.fld rfl ?_
      show tGet K _ (tOp (rIxL K) (tVar 6) (tC (.int 4))) _ _ _
      refine get_st Y g 4 (by decide) rfl rfl rfl Y.x4.fld rfl ?_
      show tGet K _ (tOp (rIxL K) (tVar 6) (tC (.int 5))) _ _ _
      refine get_st Y g 5 (by decide) rfl rfl rfl Y.x5.fld rfl ?_
      refine ⟨(show 6 ≤ sizeLine by decide), fun f1 n1 => ?_⟩
      refine ⟨_, rfl, ?_⟩
      show tGet K _ (tOp (rIxL K) (tVar 6) (tC (.int 6))) _ _ _
      refine get_st Y (g.ex (Ex.new n1)) 6 (by decide) rfl rfl rfl Y.x6.fld rfl ?_
      show tGet K _ (tOp (rIxL K) (tVar 6) (tC (.int 7))) _ _ _
      refine get_st Y (g.ex (Ex.new n1)) 7 (by decide) rfl rfl rfl Y.x7.fld rfl ?_
      show tGet K _ (tOp (rIxL K) (tVar 6) (tC (.int 8))) _ _ _
      refine get_st Y (g.ex (Ex.new n1)) 8 (by decide) rfl rfl rfl Y.x8.fld rfl ?_
      show tGet K _ (tOp (rIxL K) (tVar 6) (tC (.int 9))) _ _ _
      refine get_st Y (g.ex (Ex.new n1)) 9 (by decide) rfl rfl rfl Y.x9.fld rfl ?_
      show tGet K _ (tOp (rIxL K) (tVar 6) (tC (.int 10))) _ _ _
      refine get_st Y (g.ex (Ex.new n1)) 10 (by decide) rfl rfl rfl Y.x10.fld rfl ?_
      refine ⟨(show 5 ≤ sizeLine by decide), fun q2 m2 => ⟨f1, q2, _, _, rfl, rfl, Ex.new m2 _ _ upd_same, upd_same, (show 11 ≤ sizeLine by decide), fun f2 n2 => ?_⟩⟩
      refine ⟨_, rfl, ?_⟩
      show tGet K _ (tOp (rIxL K) (tVar 6) (tC (.int 11))) _ _ _
      refine get_st Y (g.ex (((Ex.new n1).trans (Ex.new m2)).trans (Ex.new n2))) 11 (by decide) rfl rfl rfl Y.x11.fld rfl ?_
      show tGet K _ (tOp (rIxL K) (tVar 6) (tC (.int 12))) _ _ _
      refine get_st Y (g.ex (((Ex.new n1).trans (Ex.new m2)).trans (Ex.new n2))) 12 (by decide) rfl rfl rfl Y.x12.fld rfl ?_
      refine ⟨(show 2 ≤ sizeLine by decide), fun q3 m3 => ⟨f2, q3, _, _, rfl, rfl, Ex.new m3 _ _ upd_same, upd_same, (show 13 ≤ sizeLine by decide), fun f4 n4 => ?_⟩⟩
      refine ⟨_, rfl, ?_⟩
      refine ⟨_, [.list (valD spot far), .list (valD spot far)], fun d => d = .bool true, Ex.refl _, .cons (.lst (.inl (.inl upd_same)) (dpa_ex (xh.trans (((((Ex.new n1).trans (Ex.new m2)).trans (Ex.new n2)).trans (Ex.new m3)).trans (Ex.new n4))) dvH)) (.cons (.lst (Evl.ex_l (xh.trans (((((Ex.new n1).trans (Ex.new m2)).trans (Ex.new n2)).trans (Ex.new m3)).trans (Ex.new n4))) hv) (dpa_ex (xh.trans (((((Ex.new n1).trans (Ex.new m2)).trans (Ex.new n2)).trans (Ex.new m3)).trans (Ex.new n4))) dvH)) .nil), ⟨_, rfl, val_bd sp0 sp1 fr0 fr1, rfl⟩, fun v d G6 H6 hd eg eh gh nw pd => ?_⟩
      subst hd
      cases dp_bl pd
      refine ⟨true, rfl, iteF ?_⟩
      have xg : Ex H2 H6 := (((((Ex.new n1).trans (Ex.new m2)).trans (Ex.new n2)).trans (Ex.new m3)).trans (Ex.new n4)).trans eh
      refine ⟨(show 1 ≤ sizeLine by decide), fun k1 e1 => ⟨k1, 5, _, rfl, rfl, upd_same, by decide, by decide, (show 1 * 5 ≤ sizeLine by decide), fun k2 e2 => ?_⟩⟩
      refine ⟨(show 1 ≤ sizeLine by decide), fun k3 e3 => ⟨k3, 6, _, rfl, rfl, upd_same, by decide, by decide, (show 1 * 6 ≤ sizeLine by decide), fun k4 e4 => ?_⟩⟩
      refine ⟨k2, k4, _, _, rfl, rfl, Ex.new e4 _ _ (Ex.new e3 _ _ upd_same), upd_same, (show 11 ≤ sizeLine by decide), fun k5 e5 => ?_⟩
      refine ⟨(show 2 ≤ sizeLine by decide), fun k6 e6 => ⟨k5, k6, _, _, rfl, rfl, Ex.new e6 _ _ upd_same, upd_same, (show 13 ≤ sizeLine by decide), fun k7 e7 => ?_⟩⟩
      refine all_st (g.ex (xg.trans (((((((Ex.new e1).trans (Ex.new e2)).trans (Ex.new e3)).trans (Ex.new e4)).trans (Ex.new e5)).trans (Ex.new e6)).trans (Ex.new e7)))) upd_same fun H7 e8 => ?_
      have x7 : Ex H2 H7 := (xg.trans (((((((Ex.new e1).trans (Ex.new e2)).trans (Ex.new e3)).trans (Ex.new e4)).trans (Ex.new e5)).trans (Ex.new e6)).trans (Ex.new e7))).trans e8
      exact ⟨true, rfl, iteF ⟨_, _, _, rfl, xh.trans x7, g3.ex x7, g7.ex x7, x7 _ _ ht⟩⟩
    · rintro σ2 H2 ⟨y6, y7, y8, rfl, xh, _, _, _⟩
      have e300 : decide (V.int 300 = V.int 300) = true := by decide
      refine ⟨rfl, ?_⟩
      rw [e300]
      exact o1.rt _ (.bool true) c2 G1 H2 (hR c2 (by have z : c1 ≤ cc + 1 := hc1; have z2 : c2 ≤ c1 + 2 := hc2; omega)) (r1.aside xh).fin (Ex.refl G1) (.bl true)
end
end Og15

namespace Og15
open PySem PySem.Spec PyProof.Rows L2 OgR Evl Dw
section
variable {P : Program} {wd : World} {K : PySem.W.Frag} {mg : Str → Option Value} {base : Heap}
theorem ok_l_cell_at (T : Top wd K mg) : Def P wd K mg base 1 "_law_cell_at" s_l_cell_at ["_law_script", "_law_k"] (spCel K) := by
  obtain ⟨f, fd, F, b, m⟩ := T.d_l_cell_at.ex
  refine ⟨f, fd, fnG_of F sc_l_cell_at (fun vs H Q E h => ?_) (fun cdv A outer s H vs Q E hG hr h => ?_), F, b, m⟩
  · obtain ⟨a, ns, k, rfl, _⟩ := h
    rfl
  · obtain ⟨a, ns, j, rfl, hS, q⟩ := h
    refine ⟨_, pss_cons (ps_if (pt_cmpR op_lt (pv 1) (pe_callB call_len_seq (by rfl) T.b_len PySem.boot_len (pa_cons (pv 0) pa_nil)) (nomark _))
        (pss_one (ps_ret (pe_ix ix_list (pv 0) (pv 1) (fun _ _ => rfl)))) pss_nil)
      (pss_one (ps_ret pe_int)), ?_⟩
    refine ⟨_, rfl, _, rfl, a, _, rfl, .inl hS, _, _, rfl, rfl, _, rfl, ite2 (fun e => ?_) (fun e => ?_)⟩
    · have h1 := of_decide_eq_true e
      rw [List.length_map] at h1
      have hj : j < ns.length := by omega
      refine ⟨_, rfl, _, rfl, a, _, _, _, rfl, rfl, hS, atI_nat (j := j) (v := .int ns[j]) ?_, ?_⟩
      · rw [List.getElem?_map, List.getElem?_eq_getElem hj]; rfl
      · rw [List.getD_eq_getElem?_getD, List.getElem?_eq_getElem hj] at q
        exact q
    · have hj : ¬ j < ns.length := fun z => e (decide_eq_true (by rw [List.length_map]; omega))
      rw [List.getD_eq_getElem?_getD, List.getElem?_eq_none (by omega)] at q
      exact q
theorem ok_l_box (T : Top wd K mg) : Def P wd K mg base 2 "_law_box" s_l_box ["_law_script", "_law_k"] (spBox K) := by
  obtain ⟨fC, fdC, GC, FC, bC, gC⟩ := (ok_l_cell_at (P := P) (base := base) T).ex
  obtain ⟨f, fd, F, b, m⟩ := T.d_l_box.ex
  refine ⟨f, fd, fnG_of F sc_l_box (fun vs H Q E h => ?_) (fun cdv A outer s H vs Q E hG hr h => ?_), F, b, m⟩
  · obtain ⟨a, ns, k, rfl, _⟩ := h
    rfl
  · obtain ⟨a, ns, j, rfl, hS, hj, q⟩ := h
    refine ⟨_, pss_cons (ps_set (i := 2) sc_l_box.nd rfl (.inl rfl) (pe_callG (E := E0) GC hG hr (by rfl) gC FC.kp bC (pa_cons (pv 0) (pa_cons (pv 1) pa_nil))))
      (pss_one (ps_ret (pe_lst (pa_cons (pe_op op_mul (pe_callB call_abs (by rfl) T.b_abs (by decide +kernel) (pa_cons (pv 2) pa_nil))
            (pe_callTy call_int1 (by rfl) T.b_int (by decide +kernel) (pa_cons (pe_cmpR op_ge (pe_callB call_abs (by rfl) T.b_abs (by decide +kernel) (pa_cons (pv 2) pa_nil)) (pe_op op_pow pe_int pe_int) (nomark _)) pa_nil)))
          (pa_cons (pe_op op_add (pe_op op_add (pe_op op_mod (pv 2) pe_int) (pe_op op_mul pe_int (pv 1))) pe_int) (pa_cons pe_int pa_nil)))))), ?_⟩
    refine ⟨_, rfl, _, rfl, a, ns, j, rfl, hS, ?_⟩
    generalize ns.getD j 0 = c
    refine ⟨_, rfl, _, rfl, _, rfl, _, rfl, _, _, rfl, rfl, ⟨by decide, by decide, by decide⟩, _, _, rfl, rfl, .inr ⟨_, rfl, _, _, rfl, rfl, .inr ?_, ?_⟩⟩
    · exact box01 _
    · refine ⟨_, rfl, _, _, rfl, rfl, (show (0 : Int) < 2305843009213693951 by decide), _, rfl, _, _, rfl, rfl, .inl ⟨by decide, by decide⟩, _, _, rfl, rfl, _, _, rfl, rfl, (show 3 ≤ sizeLine by decide), fun l hl => ?_⟩
      refine q l _ _ hl ?_ ?_ ?_
      · split <;> split <;> simp <;> omega
      · have := Int.emod_nonneg c (show (2305843009213693951 : Int) ≠ 0 by decide); omega
      · have := Int.emod_lt_of_pos c (show (0 : Int) < 2305843009213693951 by decide); omega
theorem ok_law {f : Addr} {fd : FuncData} {c : Nat → Addr} (F : Fun K "law" "law" s_law f fd) (T : Top wd K mg) (Y : TopX K mg c) : FnG P wd K mg base 9 f fd ["_law_script"] (spLaw K) := by
  obtain ⟨fB, fdB, GB, FB, bB, gB⟩ := ((ok_l_box (P := P) (base := base) T).mono (show 2 ≤ 8 by decide)).ex
  obtain ⟨fR, fdR, GR, FR, bR, gR⟩ := (right_of (ok_l_right (P := P) (base := base) T Y)).ex
  refine fnG_of F sc_law (fun vs H Q E h => ?_) (fun cdv A outer s H vs Q E hG hr h => ?_)
  · obtain ⟨_, _, rfl, _⟩ := h
    rfl
  · obtain ⟨sc, ns, rfl, hS, hlen, q⟩ := h
    refine ⟨_, pss_cons (ps_for PassesOwn.never rfl (pi_range1 rfl T.b_range (pa_cons (pe_op op_add pe_int (pe_callB (call_min2 (by rfl)) (by rfl) T.b_min (by decide +kernel) (pa_cons pe_int (pa_cons (pe_callB call_len_seq (by rfl) T.b_len PySem.boot_len (pa_cons (pv 0) pa_nil)) pa_nil)))) pa_nil)) (pg_name (i := 1) sc_law.nd rfl (.inl rfl))
        (pss_cons (ps_set (i := 2) sc_law.nd rfl (.inr rfl) (pe_callG (E := E0) GB hG hr (by rfl) gB FB.kp bB (pa_cons (pv 0) (pa_cons (pv 1) pa_nil))))
        (pss_one (ps_if (pt_not (pt_val (pe_callB (cr_all (by rfl)) (by rfl) T.b_all (by decide +kernel) (pa_cons
          (pe_lc (own := [("_law_turn", 3)]) (g := gName 3) (by rfl) sc_law.nd (pi_range1 rfl T.b_range (pa_cons pe_int pa_nil))
            (blkOk_by (own := [("_law_turn", 3)]) (N := ["_law_script", "_law_k", "_law_box_here", "_law_turn"]) (sc := defScope s_law) (by decide +kernel))
            (fun _ _ _ _ _ => pg_name (i := 3) sc_law.nd rfl (Or.inl rfl) (hf := Or.inr rfl))
            (fun _ _ _ _ _ => pts_nil)
            (fun _ _ _ _ _ => pe_callG (E := E0) GR hG hr (by rfl) gR FR.kp bR (pa_cons (pv 2) pa_nil))) pa_nil)))) (pss_one (ps_ret pe_bl)) pss_nil))))
      (pss_one (ps_ret pe_bl)), ?_⟩
    have hmin : ∀ j : Int, 0 ≤ j → (0 : Int) ≤ (if j < 3 then j else 3) ∧ (if j < 3 then j else 3) ≤ 3 := fun j h => by split <;> omega
    have hm := hmin ((ns.map V.int).length : Int) (by omega)
    refine ⟨_, rfl, sc, _, rfl, .inl hS, _, _, rfl, _, _, rfl, rfl, _, rfl, by omega, by omega, for_range (lo := 0) (fun i σ H3 => ∃ y1 y2, σ = [some (.ref sc), y1, y2, none] ∧ SqL K H3 sc (ns.map V.int)) ?_ ?_ ?_⟩
    · exact ⟨none, none, rfl, hS⟩
    · rintro i σ H3 hi ⟨y1, y2, rfl, hS3⟩
      have hi4 : i ≤ 1000 := by omega
      rw [Int.zero_add]
      refine ⟨_, rfl, _, rfl, sc, ns, i, rfl, hS3, hi4, fun l x y hl hx hy hy2 => ?_⟩
      have hB0 : Dw.BoxAt (upd H3 l (.lst [.int x, .int y, .int 0])) l 0 := ⟨x, y, upd_same, hx, hy, hy2, by omega, by omega⟩
      have e0 : Ex H3 (upd H3 l (.lst [.int x, .int y, .int 0])) := Ex.new hl
      generalize (upd H3 l (.lst [.int x, .int y, .int 0])) = H4 at hB0 e0
      have hbx := hB0.ne
      refine ⟨1, rfl, by decide, by decide, fun D hD => lc_range (lo := 0) (n := 1) (fun j H' => ExB l H4 H' ∧ H' D = some (.lst ((List.replicate j true).map V.bl)) ∧ ∃ c', Dw.BoxAt H' l c' ∧ c' ≤ 1000 * (j : Int)) ⟨.of (Ex.new hD), upd_same, 0, hB0.ex (Ex.new hD), by omega⟩ (fun j H' hj c => ?_) (fun H5 c => ?_)⟩
      · obtain ⟨c1, c2, c', c3, c4⟩ := c
        have nlD : D ≠ l := fun z => hbx (z ▸ hD)
        refine ⟨rfl, _, rfl, l, c', rfl, c3, by omega, fun H6 c6 e6 hB6 hc6 => ?_⟩
        refine ⟨_, e6 _ _ nlD c2, ?_, (c1.trans e6).mut hD, ?_, c6, hB6.upd (Ne.symm nlD), by omega⟩
        · rw [List.length_map, List.length_replicate]
          have : j < 1 := hj
          rw [sizeLine_eq]
          omega
        · rw [upd_same, repT_snoc, List.map_append]
          rfl
      · obtain ⟨c1, c2, _⟩ := c
        refine ⟨D, _, rfl, .inl (.inl c2), _, rfl, ?_⟩
        rw [repT_all]
        refine iteF ⟨_, _, rfl, ?_⟩
        have e5 : Ex H3 H5 := fun b o hb => c1 b o (fun z => by rw [z, hl] at hb; cases hb) (e0 b o hb)
        exact ex_l e5 hS3
    · rintro σ H3 _
      exact q _
end
end Og15

namespace Og15
open PySem PySem.Spec PyProof.Rows L2 OgR Evl Dw Gx
theorem all_mk {l : PySem.W.OpenLaw} {w : World} {K : PySem.W.Frag} {h : Heap} {mg : Str → Option Value} {fa : Addr} (X : K.In h) (G : h.Ns mainGlobals mg) (hfa : mg "law" = some (.ref fa))
    {f0 f1 f2 f3 f4 f5 f6 f7 f8 : Addr} {od0 an0 od1 an1 od2 an2 od3 an3 od4 an4 od5 an5 od6 an6 od7 an7 od8 an8 : Option Addr} {sl0 sl1 sl2 sl3 sl4 sl5 sl6 sl7 sl8 : Array (Option Value)} {oc0 kV0 dc0 pm0 cd0 ct0 oc1 kV1 dc1 pm1 cd1 ct1 oc2 kV2 dc2 pm2 cd2 ct2 oc3 kV3 dc3 pm3 cd3 ct3 oc4 kV4 dc4 pm4 cd4 ct4 oc5 kV5 dc5 pm5 cd5 ct5 oc6 kV6 dc6 pm6 cd6 ct6 oc7 kV7 dc7 pm7 cd7 ct7 oc8 kV8 dc8 pm8 cd8 ct8 : Value}
    (a0 : PySem.W.nsIn K mainGlobals "tuple_for_list" = some (some (.ref f0)))
    (l0 : K.lookup f0 = some ⟨oc0, od0, .func (PySem.W.fnOf "tuple_for_list" "tuple_for_list" (defArgs s_tuple_for_list) (defBody s_tuple_for_list) (defScope s_tuple_for_list) .none kV0 dc0 pm0 an0 cd0 ct0), sl0⟩)
    (c0 : PySem.W.codeIn K cd0 "tuple_for_list" = true) (k0 : PySem.W.keepIn K (.ref f0) = true)
    (a1 : PySem.W.nsIn K mainGlobals "_law_cell_at" = some (some (.ref f1)))
    (l1 : K.lookup f1 = some ⟨oc1, od1, .func (PySem.W.fnOf "_law_cell_at" "_law_cell_at" (defArgs s_l_cell_at) (defBody s_l_cell_at) (defScope s_l_cell_at) .none kV1 dc1 pm1 an1 cd1 ct1), sl1⟩)
    (c1 : PySem.W.codeIn K cd1 "_law_cell_at" = true) (k1 : PySem.W.keepIn K (.ref f1) = true)
    (a2 : PySem.W.nsIn K mainGlobals "_law_box" = some (some (.ref f2)))
    (l2 : K.lookup f2 = some ⟨oc2, od2, .func (PySem.W.fnOf "_law_box" "_law_box" (defArgs s_l_box) (defBody s_l_box) (defScope s_l_box) .none kV2 dc2 pm2 an2 cd2 ct2), sl2⟩)
    (c2 : PySem.W.codeIn K cd2 "_law_box" = true) (k2 : PySem.W.keepIn K (.ref f2) = true)
    (a3 : PySem.W.nsIn K mainGlobals "_law_take" = some (some (.ref f3)))
    (l3 : K.lookup f3 = some ⟨oc3, od3, .func (PySem.W.fnOf "_law_take" "_law_take" (defArgs s_l_take) (defBody s_l_take) (defScope s_l_take) .none kV3 dc3 pm3 an3 cd3 ct3), sl3⟩)
    (c3 : PySem.W.codeIn K cd3 "_law_take" = true) (k3 : PySem.W.keepIn K (.ref f3) = true)
    (a4 : PySem.W.nsIn K mainGlobals "_law_same" = some (some (.ref f4)))
    (l4 : K.lookup f4 = some ⟨oc4, od4, .func (PySem.W.fnOf "_law_same" "_law_same" (defArgs s_l_same) (defBody s_l_same) (defScope s_l_same) .none kV4 dc4 pm4 an4 cd4 ct4), sl4⟩)
    (c4 : PySem.W.codeIn K cd4 "_law_same" = true) (k4 : PySem.W.keepIn K (.ref f4) = true)
    (a5 : PySem.W.nsIn K mainGlobals "_law_flags" = some (some (.ref f5)))
    (l5 : K.lookup f5 = some ⟨oc5, od5, .func (PySem.W.fnOf "_law_flags" "_law_flags" (defArgs s_l_flags) (defBody s_l_flags) (defScope s_l_flags) .none kV5 dc5 pm5 an5 cd5 ct5), sl5⟩)
    (c5 : PySem.W.codeIn K cd5 "_law_flags" = true) (k5 : PySem.W.keepIn K (.ref f5) = true)
    (a6 : PySem.W.nsIn K mainGlobals "_law_one_right" = some (some (.ref f6)))
    (l6 : K.lookup f6 = some ⟨oc6, od6, .func (PySem.W.fnOf "_law_one_right" "_law_one_right" (defArgs s_l_one_right) (defBody s_l_one_right) (defScope s_l_one_right) .none kV6 dc6 pm6 an6 cd6 ct6), sl6⟩)
    (c6 : PySem.W.codeIn K cd6 "_law_one_right" = true) (k6 : PySem.W.keepIn K (.ref f6) = true)
    (a7 : PySem.W.nsIn K mainGlobals "_law_right" = some (some (.ref f7)))
    (l7 : K.lookup f7 = some ⟨oc7, od7, .func (PySem.W.fnOf "_law_right" "_law_right" (defArgs s_l_right) (defBody s_l_right) (defScope s_l_right) .none kV7 dc7 pm7 an7 cd7 ct7), sl7⟩)
    (c7 : PySem.W.codeIn K cd7 "_law_right" = true) (k7 : PySem.W.keepIn K (.ref f7) = true)
    (a8 : PySem.W.nsIn K mainGlobals "law" = some (some (.ref f8)))
    (l8 : K.lookup f8 = some ⟨oc8, od8, .func (PySem.W.fnOf "law" "law" (defArgs s_law) (defBody s_law) (defScope s_law) .none kV8 dc8 pm8 an8 cd8 ct8), sl8⟩)
    (c8 : PySem.W.codeIn K cd8 "law" = true) (k8 : PySem.W.keepIn K (.ref f8) = true)
    {tk0 : Tok} (e0 : PySem.W.nsIn K mainGlobals "MOST" = some (some (.int 300 tk0)))
    (z_abs : PySem.W.nsIn K mainGlobals "abs" = some none)
    (z_all : PySem.W.nsIn K mainGlobals "all" = some none)
    (z_bool : PySem.W.nsIn K mainGlobals "bool" = some none)
    (z_int : PySem.W.nsIn K mainGlobals "int" = some none)
    (z_isinstance : PySem.W.nsIn K mainGlobals "isinstance" = some none)
    (z_len : PySem.W.nsIn K mainGlobals "len" = some none)
    (z_list : PySem.W.nsIn K mainGlobals "list" = some none)
    (z_min : PySem.W.nsIn K mainGlobals "min" = some none)
    (z_range : PySem.W.nsIn K mainGlobals "range" = some none)
    (z_str : PySem.W.nsIn K mainGlobals "str" = some none)
    (z_tuple : PySem.W.nsIn K mainGlobals "tuple" = some none)
    (z_zip : PySem.W.nsIn K mainGlobals "zip" = some none)
    (spc : PySem.W.specialIn K (.builtin "object.__class__") "__get__" = some (some (.builtin "getset_descriptor.__get__"))) (tks : PySem.W.takesIn K (.builtin "object.__class__") = some true)
    {C0 fI0 : Addr} {odI0 anI0 : Option Addr} {slI0 : Array (Option Value)} {ocI0 kVI0 dcI0 pmI0 cdI0 ctI0 : Value}
    (vcn0 : PySem.W.nsIn K mainGlobals "BadText" = some (some (.ref C0)))
    (vxi0 : PySem.W.excInitIn K C0 bVE "ValueError.__new__" = true)
    (vxo0 : PySem.W.excOver K C0 bVE = true)
    (vxd0 : PySem.W.hasDictIn K C0 = true)
    (vxs0 : PySem.W.findIn K (.ref C0) "__setattr__" = some (some (.builtin "object.__setattr__")))
    (vxg0 : PySem.W.findIn K (.ref C0) "__getattribute__" = some (some (.builtin "BaseException.__getattribute__")))
    (vxh0 : PySem.W.findIn K (.ref C0) "__getattr__" = some none)
    (vxb0 : PySem.W.subIn K (.ref C0) (.type "BaseException") = some true)
    (vxc0 : PySem.W.findIn K (.ref C0) "__class__" = some (some (.builtin "object.__class__")))
    (vxk0 : PySem.W.keepIn K (.ref C0) = true)
    (vxn0 : (PySem.W.clsIn K C0).isSome = true)
    (vxm0 : PySem.W.mroIn K C0 (.type "object") = some true)
    (vxf0 : PySem.W.findIn K (.ref C0) "text" = some none)
    (vin0 : PySem.W.findIn K (.ref C0) "__init__" = some (some (.ref fI0)))
    (vty0 : PySem.W.typeIn K (.ref fI0) = some (.type "function"))
    (vlI0 : K.lookup fI0 = some ⟨ocI0, odI0, .func (PySem.W.fnOf "__init__" "BadText.__init__" (defArgs (iniS 3)) (defBody (iniS 3)) (defScope (iniS 3)) .none kVI0 dcI0 pmI0 anI0 cdI0 ctI0), slI0⟩)
    (vcI0 : PySem.W.codeIn K cdI0 "BadText.__init__" = true)
    (vkI0 : PySem.W.keepIn K (.ref fI0) = true)
    {C1 fI1 : Addr} {odI1 anI1 : Option Addr} {slI1 : Array (Option Value)} {ocI1 kVI1 dcI1 pmI1 cdI1 ctI1 : Value}
    (vcn1 : PySem.W.nsIn K mainGlobals "BadLine" = some (some (.ref C1)))
    (vxi1 : PySem.W.excInitIn K C1 bVE "ValueError.__new__" = true)
    (vxo1 : PySem.W.excOver K C1 bVE = true)
    (vxd1 : PySem.W.hasDictIn K C1 = true)
    (vxs1 : PySem.W.findIn K (.ref C1) "__setattr__" = some (some (.builtin "object.__setattr__")))
    (vxg1 : PySem.W.findIn K (.ref C1) "__getattribute__" = some (some (.builtin "BaseException.__getattribute__")))
    (vxh1 : PySem.W.findIn K (.ref C1) "__getattr__" = some none)
    (vxb1 : PySem.W.subIn K (.ref C1) (.type "BaseException") = some true)
    (vxc1 : PySem.W.findIn K (.ref C1) "__class__" = some (some (.builtin "object.__class__")))
    (vxk1 : PySem.W.keepIn K (.ref C1) = true)
    (vxn1 : (PySem.W.clsIn K C1).isSome = true)
    (vxm1 : PySem.W.mroIn K C1 (.type "object") = some true)
    (vxf1 : PySem.W.findIn K (.ref C1) "number" = some none)
    (vin1 : PySem.W.findIn K (.ref C1) "__init__" = some (some (.ref fI1)))
    (vty1 : PySem.W.typeIn K (.ref fI1) = some (.type "function"))
    (vlI1 : K.lookup fI1 = some ⟨ocI1, odI1, .func (PySem.W.fnOf "__init__" "BadLine.__init__" (defArgs (iniS 4)) (defBody (iniS 4)) (defScope (iniS 4)) .none kVI1 dcI1 pmI1 anI1 cdI1 ctI1), slI1⟩)
    (vcI1 : PySem.W.codeIn K cdI1 "BadLine.__init__" = true)
    (vkI1 : PySem.W.keepIn K (.ref fI1) = true)
    {C2 fI2 : Addr} {odI2 anI2 : Option Addr} {slI2 : Array (Option Value)} {ocI2 kVI2 dcI2 pmI2 cdI2 ctI2 : Value}
    (vcn2 : PySem.W.nsIn K mainGlobals "Impossible" = some (some (.ref C2)))
    (vxi2 : PySem.W.excInitIn K C2 bVE "ValueError.__new__" = true)
    (vxo2 : PySem.W.excOver K C2 bVE = true)
    (vxd2 : PySem.W.hasDictIn K C2 = true)
    (vxs2 : PySem.W.findIn K (.ref C2) "__setattr__" = some (some (.builtin "object.__setattr__")))
    (vxg2 : PySem.W.findIn K (.ref C2) "__getattribute__" = some (some (.builtin "BaseException.__getattribute__")))
    (vxh2 : PySem.W.findIn K (.ref C2) "__getattr__" = some none)
    (vxb2 : PySem.W.subIn K (.ref C2) (.type "BaseException") = some true)
    (vxc2 : PySem.W.findIn K (.ref C2) "__class__" = some (some (.builtin "object.__class__")))
    (vxk2 : PySem.W.keepIn K (.ref C2) = true)
    (vxn2 : (PySem.W.clsIn K C2).isSome = true)
    (vxm2 : PySem.W.mroIn K C2 (.type "object") = some true)
    (vxf2 : PySem.W.findIn K (.ref C2) "evidence" = some none)
    (vin2 : PySem.W.findIn K (.ref C2) "__init__" = some (some (.ref fI2)))
    (vty2 : PySem.W.typeIn K (.ref fI2) = some (.type "function"))
    (vlI2 : K.lookup fI2 = some ⟨ocI2, odI2, .func (PySem.W.fnOf "__init__" "Impossible.__init__" (defArgs (iniS 5)) (defBody (iniS 5)) (defScope (iniS 5)) .none kVI2 dcI2 pmI2 anI2 cdI2 ctI2), slI2⟩)
    (vcI2 : PySem.W.codeIn K cdI2 "Impossible.__init__" = true)
    (vkI2 : PySem.W.keepIn K (.ref fI2) = true)
    {C3 fI3 : Addr} {odI3 anI3 : Option Addr} {slI3 : Array (Option Value)} {ocI3 kVI3 dcI3 pmI3 cdI3 ctI3 : Value}
    (vcn3 : PySem.W.nsIn K mainGlobals "Misfit" = some (some (.ref C3)))
    (vxi3 : PySem.W.excInitIn K C3 bVE "ValueError.__new__" = true)
    (vxo3 : PySem.W.excOver K C3 bVE = true)
    (vxd3 : PySem.W.hasDictIn K C3 = true)
    (vxs3 : PySem.W.findIn K (.ref C3) "__setattr__" = some (some (.builtin "object.__setattr__")))
    (vxg3 : PySem.W.findIn K (.ref C3) "__getattribute__" = some (some (.builtin "BaseException.__getattribute__")))
    (vxh3 : PySem.W.findIn K (.ref C3) "__getattr__" = some none)
    (vxb3 : PySem.W.subIn K (.ref C3) (.type "BaseException") = some true)
    (vxc3 : PySem.W.findIn K (.ref C3) "__class__" = some (some (.builtin "object.__class__")))
    (vxk3 : PySem.W.keepIn K (.ref C3) = true)
    (vxn3 : (PySem.W.clsIn K C3).isSome = true)
    (vxm3 : PySem.W.mroIn K C3 (.type "object") = some true)
    (vxf3 : PySem.W.findIn K (.ref C3) "time" = some none)
    (vin3 : PySem.W.findIn K (.ref C3) "__init__" = some (some (.ref fI3)))
    (vty3 : PySem.W.typeIn K (.ref fI3) = some (.type "function"))
    (vlI3 : K.lookup fI3 = some ⟨ocI3, odI3, .func (PySem.W.fnOf "__init__" "Misfit.__init__" (defArgs (iniS 6)) (defBody (iniS 6)) (defScope (iniS 6)) .none kVI3 dcI3 pmI3 anI3 cdI3 ctI3), slI3⟩)
    (vcI3 : PySem.W.codeIn K cdI3 "Misfit.__init__" = true)
    (vkI3 : PySem.W.keepIn K (.ref fI3) = true)
    {C4 fI4 : Addr} {odI4 anI4 : Option Addr} {slI4 : Array (Option Value)} {ocI4 kVI4 dcI4 pmI4 cdI4 ctI4 : Value}
    (vcn4 : PySem.W.nsIn K mainGlobals "Noted" = some (some (.ref C4)))
    (vxi4 : PySem.W.excInitIn K C4 bVE "ValueError.__new__" = true)
    (vxo4 : PySem.W.excOver K C4 bVE = true)
    (vxd4 : PySem.W.hasDictIn K C4 = true)
    (vxs4 : PySem.W.findIn K (.ref C4) "__setattr__" = some (some (.builtin "object.__setattr__")))
    (vxg4 : PySem.W.findIn K (.ref C4) "__getattribute__" = some (some (.builtin "BaseException.__getattribute__")))
    (vxh4 : PySem.W.findIn K (.ref C4) "__getattr__" = some none)
    (vxb4 : PySem.W.subIn K (.ref C4) (.type "BaseException") = some true)
    (vxc4 : PySem.W.findIn K (.ref C4) "__class__" = some (some (.builtin "object.__class__")))
    (vxk4 : PySem.W.keepIn K (.ref C4) = true)
    (vxn4 : (PySem.W.clsIn K C4).isSome = true)
    (vxm4 : PySem.W.mroIn K C4 (.type "object") = some true)
    (vxf4 : PySem.W.findIn K (.ref C4) "note" = some none)
    (vin4 : PySem.W.findIn K (.ref C4) "__init__" = some (some (.ref fI4)))
    (vty4 : PySem.W.typeIn K (.ref fI4) = some (.type "function"))
    (vlI4 : K.lookup fI4 = some ⟨ocI4, odI4, .func (PySem.W.fnOf "__init__" "Noted.__init__" (defArgs (iniS 7)) (defBody (iniS 7)) (defScope (iniS 7)) .none kVI4 dcI4 pmI4 anI4 cdI4 ctI4), slI4⟩)
    (vcI4 : PySem.W.codeIn K cdI4 "Noted.__init__" = true)
    (vkI4 : PySem.W.keepIn K (.ref fI4) = true)
    {C5 fI5 : Addr} {odI5 anI5 : Option Addr} {slI5 : Array (Option Value)} {ocI5 kVI5 dcI5 pmI5 cdI5 ctI5 : Value}
    (vcn5 : PySem.W.nsIn K mainGlobals "NoPlot" = some (some (.ref C5)))
    (vxi5 : PySem.W.excInitIn K C5 bLE "LookupError.__new__" = true)
    (vxo5 : PySem.W.excOver K C5 bLE = true)
    (vxd5 : PySem.W.hasDictIn K C5 = true)
    (vxs5 : PySem.W.findIn K (.ref C5) "__setattr__" = some (some (.builtin "object.__setattr__")))
    (vxg5 : PySem.W.findIn K (.ref C5) "__getattribute__" = some (some (.builtin "BaseException.__getattribute__")))
    (vxh5 : PySem.W.findIn K (.ref C5) "__getattr__" = some none)
    (vxb5 : PySem.W.subIn K (.ref C5) (.type "BaseException") = some true)
    (vxc5 : PySem.W.findIn K (.ref C5) "__class__" = some (some (.builtin "object.__class__")))
    (vxk5 : PySem.W.keepIn K (.ref C5) = true)
    (vxn5 : (PySem.W.clsIn K C5).isSome = true)
    (vxm5 : PySem.W.mroIn K C5 (.type "object") = some true)
    (vxf5 : PySem.W.findIn K (.ref C5) "plot" = some none)
    (vin5 : PySem.W.findIn K (.ref C5) "__init__" = some (some (.ref fI5)))
    (vty5 : PySem.W.typeIn K (.ref fI5) = some (.type "function"))
    (vlI5 : K.lookup fI5 = some ⟨ocI5, odI5, .func (PySem.W.fnOf "__init__" "NoPlot.__init__" (defArgs (iniS 8)) (defBody (iniS 8)) (defScope (iniS 8)) .none kVI5 dcI5 pmI5 anI5 cdI5 ctI5), slI5⟩)
    (vcI5 : PySem.W.codeIn K cdI5 "NoPlot.__init__" = true)
    (vkI5 : PySem.W.keepIn K (.ref fI5) = true)
    {C6 fI6 : Addr} {odI6 anI6 : Option Addr} {slI6 : Array (Option Value)} {ocI6 kVI6 dcI6 pmI6 cdI6 ctI6 : Value}
    (vcn6 : PySem.W.nsIn K mainGlobals "NoTime" = some (some (.ref C6)))
    (vxi6 : PySem.W.excInitIn K C6 bLE "LookupError.__new__" = true)
    (vxo6 : PySem.W.excOver K C6 bLE = true)
    (vxd6 : PySem.W.hasDictIn K C6 = true)
    (vxs6 : PySem.W.findIn K (.ref C6) "__setattr__" = some (some (.builtin "object.__setattr__")))
    (vxg6 : PySem.W.findIn K (.ref C6) "__getattribute__" = some (some (.builtin "BaseException.__getattribute__")))
    (vxh6 : PySem.W.findIn K (.ref C6) "__getattr__" = some none)
    (vxb6 : PySem.W.subIn K (.ref C6) (.type "BaseException") = some true)
    (vxc6 : PySem.W.findIn K (.ref C6) "__class__" = some (some (.builtin "object.__class__")))
    (vxk6 : PySem.W.keepIn K (.ref C6) = true)
    (vxn6 : (PySem.W.clsIn K C6).isSome = true)
    (vxm6 : PySem.W.mroIn K C6 (.type "object") = some true)
    (vxf6 : PySem.W.findIn K (.ref C6) "time" = some none)
    (vin6 : PySem.W.findIn K (.ref C6) "__init__" = some (some (.ref fI6)))
    (vty6 : PySem.W.typeIn K (.ref fI6) = some (.type "function"))
    (vlI6 : K.lookup fI6 = some ⟨ocI6, odI6, .func (PySem.W.fnOf "__init__" "NoTime.__init__" (defArgs (iniS 9)) (defBody (iniS 9)) (defScope (iniS 9)) .none kVI6 dcI6 pmI6 anI6 cdI6 ctI6), slI6⟩)
    (vcI6 : PySem.W.codeIn K cdI6 "NoTime.__init__" = true)
    (vkI6 : PySem.W.keepIn K (.ref fI6) = true)
    {C7 fI7 : Addr} {odI7 anI7 : Option Addr} {slI7 : Array (Option Value)} {ocI7 kVI7 dcI7 pmI7 cdI7 ctI7 : Value}
    (vcn7 : PySem.W.nsIn K mainGlobals "NoChoice" = some (some (.ref C7)))
    (vxi7 : PySem.W.excInitIn K C7 bLE "LookupError.__new__" = true)
    (vxo7 : PySem.W.excOver K C7 bLE = true)
    (vxd7 : PySem.W.hasDictIn K C7 = true)
    (vxs7 : PySem.W.findIn K (.ref C7) "__setattr__" = some (some (.builtin "object.__setattr__")))
    (vxg7 : PySem.W.findIn K (.ref C7) "__getattribute__" = some (some (.builtin "BaseException.__getattribute__")))
    (vxh7 : PySem.W.findIn K (.ref C7) "__getattr__" = some none)
    (vxb7 : PySem.W.subIn K (.ref C7) (.type "BaseException") = some true)
    (vxc7 : PySem.W.findIn K (.ref C7) "__class__" = some (some (.builtin "object.__class__")))
    (vxk7 : PySem.W.keepIn K (.ref C7) = true)
    (vxn7 : (PySem.W.clsIn K C7).isSome = true)
    (vxm7 : PySem.W.mroIn K C7 (.type "object") = some true)
    (vxf7 : PySem.W.findIn K (.ref C7) "number" = some none)
    (vin7 : PySem.W.findIn K (.ref C7) "__init__" = some (some (.ref fI7)))
    (vty7 : PySem.W.typeIn K (.ref fI7) = some (.type "function"))
    (vlI7 : K.lookup fI7 = some ⟨ocI7, odI7, .func (PySem.W.fnOf "__init__" "NoChoice.__init__" (defArgs (iniS 10)) (defBody (iniS 10)) (defScope (iniS 10)) .none kVI7 dcI7 pmI7 anI7 cdI7 ctI7), slI7⟩)
    (vcI7 : PySem.W.codeIn K cdI7 "NoChoice.__init__" = true)
    (vkI7 : PySem.W.keepIn K (.ref fI7) = true)
    {C8 fI8 : Addr} {odI8 anI8 : Option Addr} {slI8 : Array (Option Value)} {ocI8 kVI8 dcI8 pmI8 cdI8 ctI8 : Value}
    (vcn8 : PySem.W.nsIn K mainGlobals "NoNote" = some (some (.ref C8)))
    (vxi8 : PySem.W.excInitIn K C8 bLE "LookupError.__new__" = true)
    (vxo8 : PySem.W.excOver K C8 bLE = true)
    (vxd8 : PySem.W.hasDictIn K C8 = true)
    (vxs8 : PySem.W.findIn K (.ref C8) "__setattr__" = some (some (.builtin "object.__setattr__")))
    (vxg8 : PySem.W.findIn K (.ref C8) "__getattribute__" = some (some (.builtin "BaseException.__getattribute__")))
    (vxh8 : PySem.W.findIn K (.ref C8) "__getattr__" = some none)
    (vxb8 : PySem.W.subIn K (.ref C8) (.type "BaseException") = some true)
    (vxc8 : PySem.W.findIn K (.ref C8) "__class__" = some (some (.builtin "object.__class__")))
    (vxk8 : PySem.W.keepIn K (.ref C8) = true)
    (vxn8 : (PySem.W.clsIn K C8).isSome = true)
    (vxm8 : PySem.W.mroIn K C8 (.type "object") = some true)
    (vxf8 : PySem.W.findIn K (.ref C8) "note" = some none)
    (vin8 : PySem.W.findIn K (.ref C8) "__init__" = some (some (.ref fI8)))
    (vty8 : PySem.W.typeIn K (.ref fI8) = some (.type "function"))
    (vlI8 : K.lookup fI8 = some ⟨ocI8, odI8, .func (PySem.W.fnOf "__init__" "NoNote.__init__" (defArgs (iniS 11)) (defBody (iniS 11)) (defScope (iniS 11)) .none kVI8 dcI8 pmI8 anI8 cdI8 ctI8), slI8⟩)
    (vcI8 : PySem.W.codeIn K cdI8 "NoNote.__init__" = true)
    (vkI8 : PySem.W.keepIn K (.ref fI8) = true)
    {C9 fI9 : Addr} {odI9 anI9 : Option Addr} {slI9 : Array (Option Value)} {ocI9 kVI9 dcI9 pmI9 cdI9 ctI9 : Value}
    (vcn9 : PySem.W.nsIn K mainGlobals "NoNumber" = some (some (.ref C9)))
    (vxi9 : PySem.W.excInitIn K C9 bLE "LookupError.__new__" = true)
    (vxo9 : PySem.W.excOver K C9 bLE = true)
    (vxd9 : PySem.W.hasDictIn K C9 = true)
    (vxs9 : PySem.W.findIn K (.ref C9) "__setattr__" = some (some (.builtin "object.__setattr__")))
    (vxg9 : PySem.W.findIn K (.ref C9) "__getattribute__" = some (some (.builtin "BaseException.__getattribute__")))
    (vxh9 : PySem.W.findIn K (.ref C9) "__getattr__" = some none)
    (vxb9 : PySem.W.subIn K (.ref C9) (.type "BaseException") = some true)
    (vxc9 : PySem.W.findIn K (.ref C9) "__class__" = some (some (.builtin "object.__class__")))
    (vxk9 : PySem.W.keepIn K (.ref C9) = true)
    (vxn9 : (PySem.W.clsIn K C9).isSome = true)
    (vxm9 : PySem.W.mroIn K C9 (.type "object") = some true)
    (vxf9 : PySem.W.findIn K (.ref C9) "number" = some none)
    (vin9 : PySem.W.findIn K (.ref C9) "__init__" = some (some (.ref fI9)))
    (vty9 : PySem.W.typeIn K (.ref fI9) = some (.type "function"))
    (vlI9 : K.lookup fI9 = some ⟨ocI9, odI9, .func (PySem.W.fnOf "__init__" "NoNumber.__init__" (defArgs (iniS 12)) (defBody (iniS 12)) (defScope (iniS 12)) .none kVI9 dcI9 pmI9 anI9 cdI9 ctI9), slI9⟩)
    (vcI9 : PySem.W.codeIn K cdI9 "NoNumber.__init__" = true)
    (vkI9 : PySem.W.keepIn K (.ref fI9) = true)
    {C10 fI10 : Addr} {odI10 anI10 : Option Addr} {slI10 : Array (Option Value)} {ocI10 kVI10 dcI10 pmI10 cdI10 ctI10 : Value}
    (vcn10 : PySem.W.nsIn K mainGlobals "NoOperation" = some (some (.ref C10)))
    (vxi10 : PySem.W.excInitIn K C10 bLE "LookupError.__new__" = true)
    (vxo10 : PySem.W.excOver K C10 bLE = true)
    (vxd10 : PySem.W.hasDictIn K C10 = true)
    (vxs10 : PySem.W.findIn K (.ref C10) "__setattr__" = some (some (.builtin "object.__setattr__")))
    (vxg10 : PySem.W.findIn K (.ref C10) "__getattribute__" = some (some (.builtin "BaseException.__getattribute__")))
    (vxh10 : PySem.W.findIn K (.ref C10) "__getattr__" = some none)
    (vxb10 : PySem.W.subIn K (.ref C10) (.type "BaseException") = some true)
    (vxc10 : PySem.W.findIn K (.ref C10) "__class__" = some (some (.builtin "object.__class__")))
    (vxk10 : PySem.W.keepIn K (.ref C10) = true)
    (vxn10 : (PySem.W.clsIn K C10).isSome = true)
    (vxm10 : PySem.W.mroIn K C10 (.type "object") = some true)
    (vxf10 : PySem.W.findIn K (.ref C10) "many" = some none)
    (vin10 : PySem.W.findIn K (.ref C10) "__init__" = some (some (.ref fI10)))
    (vty10 : PySem.W.typeIn K (.ref fI10) = some (.type "function"))
    (vlI10 : K.lookup fI10 = some ⟨ocI10, odI10, .func (PySem.W.fnOf "__init__" "NoOperation.__init__" (defArgs (iniS 13)) (defBody (iniS 13)) (defScope (iniS 13)) .none kVI10 dcI10 pmI10 anI10 cdI10 ctI10), slI10⟩)
    (vcI10 : PySem.W.codeIn K cdI10 "NoOperation.__init__" = true)
    (vkI10 : PySem.W.keepIn K (.ref fI10) = true)
    {C11 fI11 : Addr} {odI11 anI11 : Option Addr} {slI11 : Array (Option Value)} {ocI11 kVI11 dcI11 pmI11 cdI11 ctI11 : Value}
    (vcn11 : PySem.W.nsIn K mainGlobals "Built" = some (some (.ref C11)))
    (vxi11 : PySem.W.excInitIn K C11 bRE "RuntimeError.__new__" = true)
    (vxo11 : PySem.W.excOver K C11 bRE = true)
    (vxd11 : PySem.W.hasDictIn K C11 = true)
    (vxs11 : PySem.W.findIn K (.ref C11) "__setattr__" = some (some (.builtin "object.__setattr__")))
    (vxg11 : PySem.W.findIn K (.ref C11) "__getattribute__" = some (some (.builtin "BaseException.__getattribute__")))
    (vxh11 : PySem.W.findIn K (.ref C11) "__getattr__" = some none)
    (vxb11 : PySem.W.subIn K (.ref C11) (.type "BaseException") = some true)
    (vxc11 : PySem.W.findIn K (.ref C11) "__class__" = some (some (.builtin "object.__class__")))
    (vxk11 : PySem.W.keepIn K (.ref C11) = true)
    (vxn11 : (PySem.W.clsIn K C11).isSome = true)
    (vxm11 : PySem.W.mroIn K C11 (.type "object") = some true)
    (vxf11 : PySem.W.findIn K (.ref C11) "plot" = some none)
    (vin11 : PySem.W.findIn K (.ref C11) "__init__" = some (some (.ref fI11)))
    (vty11 : PySem.W.typeIn K (.ref fI11) = some (.type "function"))
    (vlI11 : K.lookup fI11 = some ⟨ocI11, odI11, .func (PySem.W.fnOf "__init__" "Built.__init__" (defArgs (iniS 14)) (defBody (iniS 14)) (defScope (iniS 14)) .none kVI11 dcI11 pmI11 anI11 cdI11 ctI11), slI11⟩)
    (vcI11 : PySem.W.codeIn K cdI11 "Built.__init__" = true)
    (vkI11 : PySem.W.keepIn K (.ref fI11) = true)
    {C12 fI12 : Addr} {odI12 anI12 : Option Addr} {slI12 : Array (Option Value)} {ocI12 kVI12 dcI12 pmI12 cdI12 ctI12 : Value}
    (vcn12 : PySem.W.nsIn K mainGlobals "TooMany" = some (some (.ref C12)))
    (vxi12 : PySem.W.excInitIn K C12 bOE "OverflowError.__new__" = true)
    (vxo12 : PySem.W.excOver K C12 bOE = true)
    (vxd12 : PySem.W.hasDictIn K C12 = true)
    (vxs12 : PySem.W.findIn K (.ref C12) "__setattr__" = some (some (.builtin "object.__setattr__")))
    (vxg12 : PySem.W.findIn K (.ref C12) "__getattribute__" = some (some (.builtin "BaseException.__getattribute__")))
    (vxh12 : PySem.W.findIn K (.ref C12) "__getattr__" = some none)
    (vxb12 : PySem.W.subIn K (.ref C12) (.type "BaseException") = some true)
    (vxc12 : PySem.W.findIn K (.ref C12) "__class__" = some (some (.builtin "object.__class__")))
    (vxk12 : PySem.W.keepIn K (.ref C12) = true)
    (vxn12 : (PySem.W.clsIn K C12).isSome = true)
    (vxm12 : PySem.W.mroIn K C12 (.type "object") = some true)
    (vxf12 : PySem.W.findIn K (.ref C12) "many" = some none)
    (vin12 : PySem.W.findIn K (.ref C12) "__init__" = some (some (.ref fI12)))
    (vty12 : PySem.W.typeIn K (.ref fI12) = some (.type "function"))
    (vlI12 : K.lookup fI12 = some ⟨ocI12, odI12, .func (PySem.W.fnOf "__init__" "TooMany.__init__" (defArgs (iniS 15)) (defBody (iniS 15)) (defScope (iniS 15)) .none kVI12 dcI12 pmI12 anI12 cdI12 ctI12), slI12⟩)
    (vcI12 : PySem.W.codeIn K cdI12 "TooMany.__init__" = true)
    (vkI12 : PySem.W.keepIn K (.ref fI12) = true)
    (vkit : ((List.range 13).all fun i => (List.range 13).all fun j => PySem.W.kitOne K (.ref ((fun j => [C0, C1, C2, C3, C4, C5, C6, C7, C8, C9, C10, C11, C12].getD j 0 : Nat → Addr) i)) (.ref ((fun j => [C0, C1, C2, C3, C4, C5, C6, C7, C8, C9, C10, C11, C12].getD j 0 : Nat → Addr) j)) == some (decide (i = j))) = true)
    (vkitB : ((List.range 13).all fun i => PySem.W.kitOne K (.ref ((fun j => [C0, C1, C2, C3, C4, C5, C6, C7, C8, C9, C10, C11, C12].getD j 0 : Nat → Addr) i)) (.type "ValueError") == some (decide (i < 5)) && (PySem.W.kitOne K (.ref ((fun j => [C0, C1, C2, C3, C4, C5, C6, C7, C8, C9, C10, C11, C12].getD j 0 : Nat → Addr) i)) (.type "LookupError") == some (decide (5 ≤ i ∧ i < 11)) && (PySem.W.kitOne K (.ref ((fun j => [C0, C1, C2, C3, C4, C5, C6, C7, C8, C9, C10, C11, C12].getD j 0 : Nat → Addr) i)) (.type "RuntimeError") == some (decide (i = 11)) && (PySem.W.kitOne K (.ref ((fun j => [C0, C1, C2, C3, C4, C5, C6, C7, C8, C9, C10, C11, C12].getD j 0 : Nat → Addr) i)) (.type "OverflowError") == some (decide (i = 12)) && PySem.W.kitAny K (.ref ((fun j => [C0, C1, C2, C3, C4, C5, C6, C7, C8, C9, C10, C11, C12].getD j 0 : Nat → Addr) i)) [.type "IndexError", .type "KeyError", .type "NotImplementedError"] == some false)))) = true)
    (y_ValueError : PySem.W.nsIn K mainGlobals "ValueError" = some none)
    (y_LookupError : PySem.W.nsIn K mainGlobals "LookupError" = some none)
    (y_RuntimeError : PySem.W.nsIn K mainGlobals "RuntimeError" = some none)
    (y_OverflowError : PySem.W.nsIn K mainGlobals "OverflowError" = some none)
    (y_IndexError : PySem.W.nsIn K mainGlobals "IndexError" = some none)
    (y_KeyError : PySem.W.nsIn K mainGlobals "KeyError" = some none)
    (y_NotImplementedError : PySem.W.nsIn K mainGlobals "NotImplementedError" = some none) :
    ∃ fd : FuncData, (∀ (s : Shared) (v : Value), BindsTo s fd ⟨[v], []⟩ [("_law_script", v)]) ∧ ∀ base : Heap, K.In base → base.Ns mainGlobals mg → FnG l.prog w K mg base 9 fa fd ["_law_script"] (Dw.spLaw K) := by
  have e := hfa.symm.trans (PySem.W.mg_of X G a8)
  cases e
  have F0 := fun_mk (st := s_tuple_for_list) l0 c0 k0
  have b0 := F0.binds (ps := ["value"]) fun _ _ _ _ _ _ us hl => match us, hl with | [_], _ => rfl
  have F1 := fun_mk (st := s_l_cell_at) l1 c1 k1
  have b1 := F1.binds (ps := ["_law_script", "_law_k"]) fun _ _ _ _ _ _ us hl => match us, hl with | [_, _], _ => rfl
  have F2 := fun_mk (st := s_l_box) l2 c2 k2
  have b2 := F2.binds (ps := ["_law_script", "_law_k"]) fun _ _ _ _ _ _ us hl => match us, hl with | [_, _], _ => rfl
  have F3 := fun_mk (st := s_l_take) l3 c3 k3
  have b3 := F3.binds (ps := ["_law_box_here", "_law_below"]) fun _ _ _ _ _ _ us hl => match us, hl with | [_, _], _ => rfl
  have F4 := fun_mk (st := s_l_same) l4 c4 k4
  have b4 := F4.binds (ps := ["_law_found", "_law_due"]) fun _ _ _ _ _ _ us hl => match us, hl with | [_, _], _ => rfl
  have F5 := fun_mk (st := s_l_flags) l5 c5 k5
  have b5 := F5.binds (ps := ["_law_made"]) fun _ _ _ _ _ _ us hl => match us, hl with | [_], _ => rfl
  have F6 := fun_mk (st := s_l_one_right) l6 c6 k6
  have b6 := F6.binds (ps := ["_law_made", "_law_at"]) fun _ _ _ _ _ _ us hl => match us, hl with | [_, _], _ => rfl
  have F7 := fun_mk (st := s_l_right) l7 c7 k7
  have b7 := F7.binds (ps := ["_law_box_here"]) fun _ _ _ _ _ _ us hl => match us, hl with | [_], _ => rfl
  have F8 := fun_mk (st := s_law) l8 c8 k8
  have T : Top w K mg := ⟨⟨⟨f0, _, F0, b0, PySem.W.mg_of X G a0⟩⟩, ⟨⟨f1, _, F1, b1, PySem.W.mg_of X G a1⟩⟩, ⟨⟨f2, _, F2, b2, PySem.W.mg_of X G a2⟩⟩, ⟨⟨f3, _, F3, b3, PySem.W.mg_of X G a3⟩⟩, ⟨⟨f4, _, F4, b4, PySem.W.mg_of X G a4⟩⟩, ⟨⟨f5, _, F5, b5, PySem.W.mg_of X G a5⟩⟩, ⟨⟨f6, _, F6, b6, PySem.W.mg_of X G a6⟩⟩, ⟨⟨f7, _, F7, b7, PySem.W.mg_of X G a7⟩⟩, ⟨tk0, PySem.W.mg_of X G e0⟩, PySem.W.mg_none_of X G z_abs, PySem.W.mg_none_of X G z_all, PySem.W.mg_none_of X G z_bool, PySem.W.mg_none_of X G z_int, PySem.W.mg_none_of X G z_isinstance, PySem.W.mg_none_of X G z_len, PySem.W.mg_none_of X G z_list, PySem.W.mg_none_of X G z_min, PySem.W.mg_none_of X G z_range, PySem.W.mg_none_of X G z_str, PySem.W.mg_none_of X G z_tuple, PySem.W.mg_none_of X G z_zip⟩
  have X0 : XC K C0 "ValueError" "ValueError.__new__" "ValueError.__init__" bVE := ⟨PySem.F.excBase_ValueError, PySem.F.store_ValueError, vxi0, vxo0, vxd0, vxs0, vxg0, vxh0, vxb0, vxc0, vxk0, vxn0, vxm0, spc, tks⟩
  have FI0 := fun_mk (st := iniS 3) vlI0 vcI0 vkI0
  have Y0 : Cls K mg "BadText" "text" "BadText.__init__" "ValueError" "ValueError.__new__" "ValueError.__init__" bVE (iniS 3) C0 := ⟨X0, PySem.W.mg_of X G vcn0, vxf0, ⟨fI0, _, vin0, vty0, FI0, FI0.binds (ps := ["self", "text"]) (fun _ _ _ _ _ _ us hl => match us, hl with | [_, _], _ => rfl), fun s a u => .of_eq rfl⟩⟩
  have X1 : XC K C1 "ValueError" "ValueError.__new__" "ValueError.__init__" bVE := ⟨PySem.F.excBase_ValueError, PySem.F.store_ValueError, vxi1, vxo1, vxd1, vxs1, vxg1, vxh1, vxb1, vxc1, vxk1, vxn1, vxm1, spc, tks⟩
  have FI1 := fun_mk (st := iniS 4) vlI1 vcI1 vkI1
  have Y1 : Cls K mg "BadLine" "number" "BadLine.__init__" "ValueError" "ValueError.__new__" "ValueError.__init__" bVE (iniS 4) C1 := ⟨X1, PySem.W.mg_of X G vcn1, vxf1, ⟨fI1, _, vin1, vty1, FI1, FI1.binds (ps := ["self", "number"]) (fun _ _ _ _ _ _ us hl => match us, hl with | [_, _], _ => rfl), fun s a u => .of_eq rfl⟩⟩
  have X2 : XC K C2 "ValueError" "ValueError.__new__" "ValueError.__init__" bVE := ⟨PySem.F.excBase_ValueError, PySem.F.store_ValueError, vxi2, vxo2, vxd2, vxs2, vxg2, vxh2, vxb2, vxc2, vxk2, vxn2, vxm2, spc, tks⟩
  have FI2 := fun_mk (st := iniS 5) vlI2 vcI2 vkI2
  have Y2 : Cls K mg "Impossible" "evidence" "Impossible.__init__" "ValueError" "ValueError.__new__" "ValueError.__init__" bVE (iniS 5) C2 := ⟨X2, PySem.W.mg_of X G vcn2, vxf2, ⟨fI2, _, vin2, vty2, FI2, FI2.binds (ps := ["self", "evidence"]) (fun _ _ _ _ _ _ us hl => match us, hl with | [_, _], _ => rfl), fun s a u => .of_eq rfl⟩⟩
  have X3 : XC K C3 "ValueError" "ValueError.__new__" "ValueError.__init__" bVE := ⟨PySem.F.excBase_ValueError, PySem.F.store_ValueError, vxi3, vxo3, vxd3, vxs3, vxg3, vxh3, vxb3, vxc3, vxk3, vxn3, vxm3, spc, tks⟩
  have FI3 := fun_mk (st := iniS 6) vlI3 vcI3 vkI3
  have Y3 : Cls K mg "Misfit" "time" "Misfit.__init__" "ValueError" "ValueError.__new__" "ValueError.__init__" bVE (iniS 6) C3 := ⟨X3, PySem.W.mg_of X G vcn3, vxf3, ⟨fI3, _, vin3, vty3, FI3, FI3.binds (ps := ["self", "time"]) (fun _ _ _ _ _ _ us hl => match us, hl with | [_, _], _ => rfl), fun s a u => .of_eq rfl⟩⟩
  have X4 : XC K C4 "ValueError" "ValueError.__new__" "ValueError.__init__" bVE := ⟨PySem.F.excBase_ValueError, PySem.F.store_ValueError, vxi4, vxo4, vxd4, vxs4, vxg4, vxh4, vxb4, vxc4, vxk4, vxn4, vxm4, spc, tks⟩
  have FI4 := fun_mk (st := iniS 7) vlI4 vcI4 vkI4
  have Y4 : Cls K mg "Noted" "note" "Noted.__init__" "ValueError" "ValueError.__new__" "ValueError.__init__" bVE (iniS 7) C4 := ⟨X4, PySem.W.mg_of X G vcn4, vxf4, ⟨fI4, _, vin4, vty4, FI4, FI4.binds (ps := ["self", "note"]) (fun _ _ _ _ _ _ us hl => match us, hl with | [_, _], _ => rfl), fun s a u => .of_eq rfl⟩⟩
  have X5 : XC K C5 "LookupError" "LookupError.__new__" "LookupError.__init__" bLE := ⟨PySem.F.excBase_LookupError, PySem.F.store_LookupError, vxi5, vxo5, vxd5, vxs5, vxg5, vxh5, vxb5, vxc5, vxk5, vxn5, vxm5, spc, tks⟩
  have FI5 := fun_mk (st := iniS 8) vlI5 vcI5 vkI5
  have Y5 : Cls K mg "NoPlot" "plot" "NoPlot.__init__" "LookupError" "LookupError.__new__" "LookupError.__init__" bLE (iniS 8) C5 := ⟨X5, PySem.W.mg_of X G vcn5, vxf5, ⟨fI5, _, vin5, vty5, FI5, FI5.binds (ps := ["self", "plot"]) (fun _ _ _ _ _ _ us hl => match us, hl with | [_, _], _ => rfl), fun s a u => .of_eq rfl⟩⟩
  have X6 : XC K C6 "LookupError" "LookupError.__new__" "LookupError.__init__" bLE := ⟨PySem.F.excBase_LookupError, PySem.F.store_LookupError, vxi6, vxo6, vxd6, vxs6, vxg6, vxh6, vxb6, vxc6, vxk6, vxn6, vxm6, spc, tks⟩
  have FI6 := fun_mk (st := iniS 9) vlI6 vcI6 vkI6
  have Y6 : Cls K mg "NoTime" "time" "NoTime.__init__" "LookupError" "LookupError.__new__" "LookupError.__init__" bLE (iniS 9) C6 := ⟨X6, PySem.W.mg_of X G vcn6, vxf6, ⟨fI6, _, vin6, vty6, FI6, FI6.binds (ps := ["self", "time"]) (fun _ _ _ _ _ _ us hl => match us, hl with | [_, _], _ => rfl), fun s a u => .of_eq rfl⟩⟩
  have X7 : XC K C7 "LookupError" "LookupError.__new__" "LookupError.__init__" bLE := ⟨PySem.F.excBase_LookupError, PySem.F.store_LookupError, vxi7, vxo7, vxd7, vxs7, vxg7, vxh7, vxb7, vxc7, vxk7, vxn7, vxm7, spc, tks⟩
  have FI7 := fun_mk (st := iniS 10) vlI7 vcI7 vkI7
  have Y7 : Cls K mg "NoChoice" "number" "NoChoice.__init__" "LookupError" "LookupError.__new__" "LookupError.__init__" bLE (iniS 10) C7 := ⟨X7, PySem.W.mg_of X G vcn7, vxf7, ⟨fI7, _, vin7, vty7, FI7, FI7.binds (ps := ["self", "number"]) (fun _ _ _ _ _ _ us hl => match us, hl with | [_, _], _ => rfl), fun s a u => .of_eq rfl⟩⟩
  have X8 : XC K C8 "LookupError" "LookupError.__new__" "LookupError.__init__" bLE := ⟨PySem.F.excBase_LookupError, PySem.F.store_LookupError, vxi8, vxo8, vxd8, vxs8, vxg8, vxh8, vxb8, vxc8, vxk8, vxn8, vxm8, spc, tks⟩
  have FI8 := fun_mk (st := iniS 11) vlI8 vcI8 vkI8
  have Y8 : Cls K mg "NoNote" "note" "NoNote.__init__" "LookupError" "LookupError.__new__" "LookupError.__init__" bLE (iniS 11) C8 := ⟨X8, PySem.W.mg_of X G vcn8, vxf8, ⟨fI8, _, vin8, vty8, FI8, FI8.binds (ps := ["self", "note"]) (fun _ _ _ _ _ _ us hl => match us, hl with | [_, _], _ => rfl), fun s a u => .of_eq rfl⟩⟩
  have X9 : XC K C9 "LookupError" "LookupError.__new__" "LookupError.__init__" bLE := ⟨PySem.F.excBase_LookupError, PySem.F.store_LookupError, vxi9, vxo9, vxd9, vxs9, vxg9, vxh9, vxb9, vxc9, vxk9, vxn9, vxm9, spc, tks⟩
  have FI9 := fun_mk (st := iniS 12) vlI9 vcI9 vkI9
  have Y9 : Cls K mg "NoNumber" "number" "NoNumber.__init__" "LookupError" "LookupError.__new__" "LookupError.__init__" bLE (iniS 12) C9 := ⟨X9, PySem.W.mg_of X G vcn9, vxf9, ⟨fI9, _, vin9, vty9, FI9, FI9.binds (ps := ["self", "number"]) (fun _ _ _ _ _ _ us hl => match us, hl with | [_, _], _ => rfl), fun s a u => .of_eq rfl⟩⟩
  have X10 : XC K C10 "LookupError" "LookupError.__new__" "LookupError.__init__" bLE := ⟨PySem.F.excBase_LookupError, PySem.F.store_LookupError, vxi10, vxo10, vxd10, vxs10, vxg10, vxh10, vxb10, vxc10, vxk10, vxn10, vxm10, spc, tks⟩
  have FI10 := fun_mk (st := iniS 13) vlI10 vcI10 vkI10
  have Y10 : Cls K mg "NoOperation" "many" "NoOperation.__init__" "LookupError" "LookupError.__new__" "LookupError.__init__" bLE (iniS 13) C10 := ⟨X10, PySem.W.mg_of X G vcn10, vxf10, ⟨fI10, _, vin10, vty10, FI10, FI10.binds (ps := ["self", "many"]) (fun _ _ _ _ _ _ us hl => match us, hl with | [_, _], _ => rfl), fun s a u => .of_eq rfl⟩⟩
  have X11 : XC K C11 "RuntimeError" "RuntimeError.__new__" "RuntimeError.__init__" bRE := ⟨PySem.F.excBase_RuntimeError, PySem.F.store_RuntimeError, vxi11, vxo11, vxd11, vxs11, vxg11, vxh11, vxb11, vxc11, vxk11, vxn11, vxm11, spc, tks⟩
  have FI11 := fun_mk (st := iniS 14) vlI11 vcI11 vkI11
  have Y11 : Cls K mg "Built" "plot" "Built.__init__" "RuntimeError" "RuntimeError.__new__" "RuntimeError.__init__" bRE (iniS 14) C11 := ⟨X11, PySem.W.mg_of X G vcn11, vxf11, ⟨fI11, _, vin11, vty11, FI11, FI11.binds (ps := ["self", "plot"]) (fun _ _ _ _ _ _ us hl => match us, hl with | [_, _], _ => rfl), fun s a u => .of_eq rfl⟩⟩
  have X12 : XC K C12 "OverflowError" "OverflowError.__new__" "OverflowError.__init__" bOE := ⟨PySem.F.excBase_OverflowError, PySem.F.store_OverflowError, vxi12, vxo12, vxd12, vxs12, vxg12, vxh12, vxb12, vxc12, vxk12, vxn12, vxm12, spc, tks⟩
  have FI12 := fun_mk (st := iniS 15) vlI12 vcI12 vkI12
  have Y12 : Cls K mg "TooMany" "many" "TooMany.__init__" "OverflowError" "OverflowError.__new__" "OverflowError.__init__" bOE (iniS 15) C12 := ⟨X12, PySem.W.mg_of X G vcn12, vxf12, ⟨fI12, _, vin12, vty12, FI12, FI12.binds (ps := ["self", "many"]) (fun _ _ _ _ _ _ us hl => match us, hl with | [_, _], _ => rfl), fun s a u => .of_eq rfl⟩⟩
  have TY : TopX K mg (fun j => [C0, C1, C2, C3, C4, C5, C6, C7, C8, C9, C10, C11, C12].getD j 0 : Nat → Addr) := ⟨Y0, Y1, Y2, Y3, Y4, Y5, Y6, Y7, Y8, Y9, Y10, Y11, Y12, vkit, vkitB, PySem.W.mg_none_of X G y_ValueError, PySem.W.mg_none_of X G y_LookupError, PySem.W.mg_none_of X G y_RuntimeError, PySem.W.mg_none_of X G y_OverflowError, PySem.W.mg_none_of X G y_IndexError, PySem.W.mg_none_of X G y_KeyError, PySem.W.mg_none_of X G y_NotImplementedError⟩
  exact ⟨_, fun s v => .of_eq rfl, fun base _ _ => ok_law F8 T TY⟩
end Og15

open PySem PySem.W PyProof.Rows
set_option maxHeartbeats 0 in
theorem PySem.Challenge.cw_onlygroups_k15_errors_by_hand_holds : PySem.Challenge.rw_onlygroups_k15_errors_by_hand.Holds := by
  w_on; o_law; k_head; (case hw => w_witness2)
  k_fill
  refine OgR.walk_G (l := PySem.Challenge.rw_onlygroups_k15_errors_by_hand) (n := 63) (k := 9) (x := "_law_script") (sp := fun w => Dw.spLaw _) rfl (by decide) rfl ⟨rfl, by decide, by decide⟩ (fun w h Y => PySem.W.kIn_of Y) ?F (fun _ _ a ns hl hS => ⟨a, ns, rfl, hS, hl, fun _ => rfl⟩)
  case F =>
    intro w mg fa h KX G hmg
    refine' Og15.all_mk KX G hmg ?a0 ?l0 ?c0 ?k0 ?a1 ?l1 ?c1 ?k1 ?a2 ?l2 ?c2 ?k2 ?a3 ?l3 ?c3 ?k3 ?a4 ?l4 ?c4 ?k4 ?a5 ?l5 ?c5 ?k5 ?a6 ?l6 ?c6 ?k6 ?a7 ?l7 ?c7 ?k7 ?a8 ?l8 ?c8 ?k8 ?e0 ?z_abs ?z_all ?z_bool ?z_int ?z_isinstance ?z_len ?z_list ?z_min ?z_range ?z_str ?z_tuple ?z_zip ?spc ?tks ?vcn0 ?vxi0 ?vxo0 ?vxd0 ?vxs0 ?vxg0 ?vxh0 ?vxb0 ?vxc0 ?vxk0 ?vxn0 ?vxm0 ?vxf0 ?vin0 ?vty0 ?vlI0 ?vcI0 ?vkI0 ?vcn1 ?vxi1 ?vxo1 ?vxd1 ?vxs1 ?vxg1 ?vxh1 ?vxb1 ?vxc1 ?vxk1 ?vxn1 ?vxm1 ?vxf1 ?vin1 ?vty1 ?vlI1 ?vcI1 ?vkI1 ?vcn2 ?vxi2 ?vxo2 ?vxd2 ?vxs2 ?vxg2 ?vxh2 ?vxb2 ?vxc2 ?vxk2 ?vxn2 ?vxm2 ?vxf2 ?vin2 ?vty2 ?vlI2 ?vcI2 ?vkI2 ?vcn3 ?vxi3 ?vxo3 ?vxd3 ?vxs3 ?vxg3 ?vxh3 ?vxb3 ?vxc3 ?vxk3 ?vxn3 ?vxm3 ?vxf3 ?vin3 ?vty3 ?vlI3 ?vcI3 ?vkI3 ?vcn4 ?vxi4 ?vxo4 ?vxd4 ?vxs4 ?vxg4 ?vxh4 ?vxb4 ?vxc4 ?vxk4 ?vxn4 ?vxm4 ?vxf4 ?vin4 ?vty4 ?vlI4 ?vcI4 ?vkI4 ?vcn5 ?vxi5 ?vxo5 ?vxd5 ?vxs5 ?vxg5 ?vxh5 ?vxb5 ?vxc5 ?vxk5 ?vxn5 ?vxm5 ?vxf5 ?vin5 ?vty5 ?vlI5 ?vcI5 ?vkI5 ?vcn6 ?vxi6 ?vxo6 ?vxd6 ?vxs6 ?vxg6 ?vxh6 ?vxb6 ?vxc6 ?vxk6 ?vxn6 ?vxm6 ?vxf6 ?vin6 ?vty6 ?vlI6 ?vcI6 ?vkI6 ?vcn7 ?vxi7 ?vxo7 ?vxd7 ?vxs7 ?vxg7 ?vxh7 ?vxb7 ?vxc7 ?vxk7 ?vxn7 ?vxm7 ?vxf7 ?vin7 ?vty7 ?vlI7 ?vcI7 ?vkI7 ?vcn8 ?vxi8 ?vxo8 ?vxd8 ?vxs8 ?vxg8 ?vxh8 ?vxb8 ?vxc8 ?vxk8 ?vxn8 ?vxm8 ?vxf8 ?vin8 ?vty8 ?vlI8 ?vcI8 ?vkI8 ?vcn9 ?vxi9 ?vxo9 ?vxd9 ?vxs9 ?vxg9 ?vxh9 ?vxb9 ?vxc9 ?vxk9 ?vxn9 ?vxm9 ?vxf9 ?vin9 ?vty9 ?vlI9 ?vcI9 ?vkI9 ?vcn10 ?vxi10 ?vxo10 ?vxd10 ?vxs10 ?vxg10 ?vxh10 ?vxb10 ?vxc10 ?vxk10 ?vxn10 ?vxm10 ?vxf10 ?vin10 ?vty10 ?vlI10 ?vcI10 ?vkI10 ?vcn11 ?vxi11 ?vxo11 ?vxd11 ?vxs11 ?vxg11 ?vxh11 ?vxb11 ?vxc11 ?vxk11 ?vxn11 ?vxm11 ?vxf11 ?vin11 ?vty11 ?vlI11 ?vcI11 ?vkI11 ?vcn12 ?vxi12 ?vxo12 ?vxd12 ?vxs12 ?vxg12 ?vxh12 ?vxb12 ?vxc12 ?vxk12 ?vxn12 ?vxm12 ?vxf12 ?vin12 ?vty12 ?vlI12 ?vcI12 ?vkI12 ?vkit ?vkitB ?y_ValueError ?y_LookupError ?y_RuntimeError ?y_OverflowError ?y_IndexError ?y_KeyError ?y_NotImplementedError
    (case a0 => k_is)
    (case l0 => k_is)
    (case c0 => k_is)
    (case k0 => k_is)
    (case a1 => k_is)
    (case l1 => k_is)
    (case c1 => k_is)
    (case k1 => k_is)
    (case a2 => k_is)
    (case l2 => k_is)
    (case c2 => k_is)
    (case k2 => k_is)
    (case a3 => k_is)
    (case l3 => k_is)
    (case c3 => k_is)
    (case k3 => k_is)
    (case a4 => k_is)
    (case l4 => k_is)
    (case c4 => k_is)
    (case k4 => k_is)
    (case a5 => k_is)
    (case l5 => k_is)
    (case c5 => k_is)
    (case k5 => k_is)
    (case a6 => k_is)
    (case l6 => k_is)
    (case c6 => k_is)
    (case k6 => k_is)
    (case a7 => k_is)
    (case l7 => k_is)
    (case c7 => k_is)
    (case k7 => k_is)
    (case a8 => k_is)
    (case l8 => k_is)
    (case c8 => k_is)
    (case k8 => k_is)
    (case e0 => k_is)
    (case z_abs => k_is)
    (case z_all => k_is)
    (case z_bool => k_is)
    (case z_int => k_is)
    (case z_isinstance => k_is)
    (case z_len => k_is)
    (case z_list => k_is)
    (case z_min => k_is)
    (case z_range => k_is)
    (case z_str => k_is)
    (case z_tuple => k_is)
    (case z_zip => k_is)
    (case spc => k_is)
    (case tks => k_is)
    (case vcn0 => k_is)
    (case vxi0 => first | exact rfl | decide +kernel | k_is)
    (case vxo0 => first | exact rfl | decide +kernel | k_is)
    (case vxd0 => k_is)
    (case vxs0 => k_is)
    (case vxg0 => k_is)
    (case vxh0 => k_is)
    (case vxb0 => k_is)
    (case vxc0 => k_is)
    (case vxk0 => k_is)
    (case vxn0 => first | exact rfl | decide +kernel | k_is)
    (case vxm0 => k_is)
    (case vxf0 => k_is)
    (case vin0 => k_is)
    (case vty0 => k_is)
    (case vlI0 => k_is)
    (case vcI0 => k_is)
    (case vkI0 => k_is)
    (case vcn1 => k_is)
    (case vxi1 => first | exact rfl | decide +kernel | k_is)
    (case vxo1 => first | exact rfl | decide +kernel | k_is)
    (case vxd1 => k_is)
    (case vxs1 => k_is)
    (case vxg1 => k_is)
    (case vxh1 => k_is)
    (case vxb1 => k_is)
    (case vxc1 => k_is)
    (case vxk1 => k_is)
    (case vxn1 => first | exact rfl | decide +kernel | k_is)
    (case vxm1 => k_is)
    (case vxf1 => k_is)
    (case vin1 => k_is)
    (case vty1 => k_is)
    (case vlI1 => k_is)
    (case vcI1 => k_is)
    (case vkI1 => k_is)
    (case vcn2 => k_is)
    (case vxi2 => first | exact rfl | decide +kernel | k_is)
    (case vxo2 => first | exact rfl | decide +kernel | k_is)
    (case vxd2 => k_is)
    (case vxs2 => k_is)
    (case vxg2 => k_is)
    (case vxh2 => k_is)
    (case vxb2 => k_is)
    (case vxc2 => k_is)
    (case vxk2 => k_is)
    (case vxn2 => first | exact rfl | decide +kernel | k_is)
    (case vxm2 => k_is)
    (case vxf2 => k_is)
    (case vin2 => k_is)
    (case vty2 => k_is)
    (case vlI2 => k_is)
    (case vcI2 => k_is)
    (case vkI2 => k_is)
    (case vcn3 => k_is)
    (case vxi3 => first | exact rfl | decide +kernel | k_is)
    (case vxo3 => first | exact rfl | decide +kernel | k_is)
    (case vxd3 => k_is)
    (case vxs3 => k_is)
    (case vxg3 => k_is)
    (case vxh3 => k_is)
    (case vxb3 => k_is)
    (case vxc3 => k_is)
    (case vxk3 => k_is)
    (case vxn3 => first | exact rfl | decide +kernel | k_is)
    (case vxm3 => k_is)
    (case vxf3 => k_is)
    (case vin3 => k_is)
    (case vty3 => k_is)
    (case vlI3 => k_is)
    (case vcI3 => k_is)
    (case vkI3 => k_is)
    (case vcn4 => k_is)
    (case vxi4 => first | exact rfl | decide +kernel | k_is)
    (case vxo4 => first | exact rfl | decide +kernel | k_is)
    (case vxd4 => k_is)
    (case vxs4 => k_is)
    (case vxg4 => k_is)
    (case vxh4 => k_is)
    (case vxb4 => k_is)
    (case vxc4 => k_is)
    (case vxk4 => k_is)
    (case vxn4 => first | exact rfl | decide +kernel | k_is)
    (case vxm4 => k_is)
    (case vxf4 => k_is)
    (case vin4 => k_is)
    (case vty4 => k_is)
    (case vlI4 => k_is)
    (case vcI4 => k_is)
    (case vkI4 => k_is)
    (case vcn5 => k_is)
    (case vxi5 => first | exact rfl | decide +kernel | k_is)
    (case vxo5 => first | exact rfl | decide +kernel | k_is)
    (case vxd5 => k_is)
    (case vxs5 => k_is)
    (case vxg5 => k_is)
    (case vxh5 => k_is)
    (case vxb5 => k_is)
    (case vxc5 => k_is)
    (case vxk5 => k_is)
    (case vxn5 => first | exact rfl | decide +kernel | k_is)
    (case vxm5 => k_is)
    (case vxf5 => k_is)
    (case vin5 => k_is)
    (case vty5 => k_is)
    (case vlI5 => k_is)
    (case vcI5 => k_is)
    (case vkI5 => k_is)
    (case vcn6 => k_is)
    (case vxi6 => first | exact rfl | decide +kernel | k_is)
    (case vxo6 => first | exact rfl | decide +kernel | k_is)
    (case vxd6 => k_is)
    (case vxs6 => k_is)
    (case vxg6 => k_is)
    (case vxh6 => k_is)
    (case vxb6 => k_is)
    (case vxc6 => k_is)
    (case vxk6 => k_is)
    (case vxn6 => first | exact rfl | decide +kernel | k_is)
    (case vxm6 => k_is)
    (case vxf6 => k_is)
    (case vin6 => k_is)
    (case vty6 => k_is)
    (case vlI6 => k_is)
    (case vcI6 => k_is)
    (case vkI6 => k_is)
    (case vcn7 => k_is)
    (case vxi7 => first | exact rfl | decide +kernel | k_is)
    (case vxo7 => first | exact rfl | decide +kernel | k_is)
    (case vxd7 => k_is)
    (case vxs7 => k_is)
    (case vxg7 => k_is)
    (case vxh7 => k_is)
    (case vxb7 => k_is)
    (case vxc7 => k_is)
    (case vxk7 => k_is)
    (case vxn7 => first | exact rfl | decide +kernel | k_is)
    (case vxm7 => k_is)
    (case vxf7 => k_is)
    (case vin7 => k_is)
    (case vty7 => k_is)
    (case vlI7 => k_is)
    (case vcI7 => k_is)
    (case vkI7 => k_is)
    (case vcn8 => k_is)
    (case vxi8 => first | exact rfl | decide +kernel | k_is)
    (case vxo8 => first | exact rfl | decide +kernel | k_is)
    (case vxd8 => k_is)
    (case vxs8 => k_is)
    (case vxg8 => k_is)
    (case vxh8 => k_is)
    (case vxb8 => k_is)
    (case vxc8 => k_is)
    (case vxk8 => k_is)
    (case vxn8 => first | exact rfl | decide +kernel | k_is)
    (case vxm8 => k_is)
    (case vxf8 => k_is)
    (case vin8 => k_is)
    (case vty8 => k_is)
    (case vlI8 => k_is)
    (case vcI8 => k_is)
    (case vkI8 => k_is)
    (case vcn9 => k_is)
    (case vxi9 => first | exact rfl | decide +kernel | k_is)
    (case vxo9 => first | exact rfl | decide +kernel | k_is)
    (case vxd9 => k_is)
    (case vxs9 => k_is)
    (case vxg9 => k_is)
    (case vxh9 => k_is)
    (case vxb9 => k_is)
    (case vxc9 => k_is)
    (case vxk9 => k_is)
    (case vxn9 => first | exact rfl | decide +kernel | k_is)
    (case vxm9 => k_is)
    (case vxf9 => k_is)
    (case vin9 => k_is)
    (case vty9 => k_is)
    (case vlI9 => k_is)
    (case vcI9 => k_is)
    (case vkI9 => k_is)
    (case vcn10 => k_is)
    (case vxi10 => first | exact rfl | decide +kernel | k_is)
    (case vxo10 => first | exact rfl | decide +kernel | k_is)
    (case vxd10 => k_is)
    (case vxs10 => k_is)
    (case vxg10 => k_is)
    (case vxh10 => k_is)
    (case vxb10 => k_is)
    (case vxc10 => k_is)
    (case vxk10 => k_is)
    (case vxn10 => first | exact rfl | decide +kernel | k_is)
    (case vxm10 => k_is)
    (case vxf10 => k_is)
    (case vin10 => k_is)
    (case vty10 => k_is)
    (case vlI10 => k_is)
    (case vcI10 => k_is)
    (case vkI10 => k_is)
    (case vcn11 => k_is)
    (case vxi11 => first | exact rfl | decide +kernel | k_is)
    (case vxo11 => first | exact rfl | decide +kernel | k_is)
    (case vxd11 => k_is)
    (case vxs11 => k_is)
    (case vxg11 => k_is)
    (case vxh11 => k_is)
    (case vxb11 => k_is)
    (case vxc11 => k_is)
    (case vxk11 => k_is)
    (case vxn11 => first | exact rfl | decide +kernel | k_is)
    (case vxm11 => k_is)
    (case vxf11 => k_is)
    (case vin11 => k_is)
    (case vty11 => k_is)
    (case vlI11 => k_is)
    (case vcI11 => k_is)
    (case vkI11 => k_is)
    (case vcn12 => k_is)
    (case vxi12 => first | exact rfl | decide +kernel | k_is)
    (case vxo12 => first | exact rfl | decide +kernel | k_is)
    (case vxd12 => k_is)
    (case vxs12 => k_is)
    (case vxg12 => k_is)
    (case vxh12 => k_is)
    (case vxb12 => k_is)
    (case vxc12 => k_is)
    (case vxk12 => k_is)
    (case vxn12 => first | exact rfl | decide +kernel | k_is)
    (case vxm12 => k_is)
    (case vxf12 => k_is)
    (case vin12 => k_is)
    (case vty12 => k_is)
    (case vlI12 => k_is)
    (case vcI12 => k_is)
    (case vkI12 => k_is)
    (case vkit => first | exact rfl | decide +kernel | k_is)
    (case vkitB => first | exact rfl | decide +kernel | k_is)
    (case y_ValueError => k_is)
    (case y_LookupError => k_is)
    (case y_RuntimeError => k_is)
    (case y_OverflowError => k_is)
    (case y_IndexError => k_is)
    (case y_KeyError => k_is)
    (case y_NotImplementedError => k_is)

