import PyProof.Rows.All
import Wide.All
import OpenK.AllK
import Wide.FinOn
import HandS.ForMost
import HandS.Evl
import HandS.IsInst
import HandS.Style
import HandS.Zip
import HandS.SortInts
import HandS.Conv
import HandS.More
import KE.GoesEnum
import HandS.Walk
import HandS.NoneIn
import HandS.SetFor
import HandS.Deep
import HandS.RaiseMore
import PyProof.ReprReads
import HandS.TupAny
import HandS.Ends
import HandS.Codes
import HandS.Words
import HandS.DeepEq
import HandS.WrittenGet
import HandS.Star
import HandS.TupLe
import HandS.Nested
import KE.DataMinMax
import HandS.TupMul
import HandS.Dict
import HandS.Iter
import KE.SortData
import KE.DataCmp
import HandS.ExcInit
import HandS.ExcField
import KE.KExcInit
import KE.KExcIs
import KE.KTryMore
import HandS.WordsExc
import HandS.DictComp
import HandS.RevRange
import HandS.Wide
import KE.KTupSum
import HandS.Finally
import OpenK.KOps
import HandS.Flow
import HandS.Strs
import KE.DataFind
import HandS.TupSets
import HandS.MakeKwOnly
import HandS.FStr
import KE.SortLaws
import HandS.EndTab
import HandS.NestedK
import PySem.Challenge.RW_onlygroups_k23_errors_in_their_order
set_option Elab.async false
set_option linter.all false
set_option maxRecDepth 100000
set_option maxHeartbeats 4000000
namespace OgR
open PySem PySem.Spec PyProof.Rows L2
section
variable {prog : Program} {w : World} {A : Around} {E : Value → Shared → Prop} {s : Shared}
/-- the items of a tuple, collected in a new list at the heap's end -/
theorem gather_tup {Q : List Value → Shared → Prop} {t : Addr} {o : Obj} {xs : Array Value} {m : Nat} (got : s.heap.get? t = some o) (cl : o.cls = .type "tuple")
    (dt : o.data = .seq xs m) (fits : xs.size ≤ sizeLine)
    (fin : Q xs.toList { s with heap := (s.heap.push (seqObj "list" #[] 0)).update s.heap.objs.size (Obj.mapSeq (· ++ xs)) }) :
    wpAny (model prog w) A (collect (.ref t)) Q E s := by
  have new1 : (s.heap.push (seqObj "list" #[] 0)).get? s.heap.objs.size = some (seqObj "list" #[] 0) := Heap.get?_push_size _ rfl
  have new2 := Heap.get?_update_self (Obj.mapSeq (· ++ xs)) new1 rfl
  unfold collect
  refine wpAny_bind (wpAny_runValue (codeAny_builtin F.entry_proto_collect ?_))
  rw [Around.under_plainId F.plain_proto_collect _]
  refine wpAny_bind (wpAny_newObj_type (wpAny_pure ⟨plainId_quiet F.plain_list_iadd _, codeAny_builtin F.entry_list_iadd ?_⟩))
  rw [Around.under_plainId F.plain_list_iadd _]
  refine wpAny_mono (wpAny_extend_seq (hsz := fits) (A := A) (R := fun r s' => r = .ok (.ret (.ref s.heap.objs.size)) ∧
      s' = { s with heap := (s.heap.push (seqObj "list" #[] 0)).update s.heap.objs.size (Obj.mapSeq (· ++ xs)) })
    (s := { s with heap := s.heap.push (seqObj "list" #[] 0) }) _ t _ 0 (.inr rfl) new1 (Heap.get?_push_of_some _ got) cl dt ⟨rfl, rfl⟩) (fun f s' g => ?_) (fun e s' g => absurd g.1 (by simp))
  have last : wpAny (model prog w) A (do
      match (← load s.heap.objs.size).data with
        | Data.seq ys _ => pure ys.toList
        | _ => unsupported "internal:collect") Q E { s with heap := (s.heap.push (seqObj "list" #[] 0)).update s.heap.objs.size (Obj.mapSeq (· ++ xs)) } := by
    refine wpAny_bind (wpAny_load new2 (wpAny_pure ?_))
    have e0 : ((#[] : Array Value) ++ xs).toList = xs.toList := by simp
    show Q ((#[] : Array Value) ++ xs).toList _
    rw [e0]
    exact fin
  cases f with
  | done r =>
    obtain ⟨e1, rfl⟩ := g
    cases e1
    exact last
  | again c => exact ⟨g.1, codeAny_mono g.2 fun r s2 gr => by
      obtain ⟨rfl, rfl⟩ := gr
      exact last⟩
theorem sorted_of_tup {t : Addr} {us : List Value} {ms : List Int} {Q : Value → Shared → Prop} (ht : IsTup s.heap t us.toArray) (hz : us.length ≤ sizeLine) (hI : IntsAre us ms)
    (fin : ∀ (out : List Value) (h' : Heap) (p : Addr) (e : Nat), (∀ b o, s.heap.get? b = some o → h'.get? b = some o) → s.heap.objs.size ≤ p → IntsAre out (out.map SrtO.iv) → (out.map SrtO.iv).Perm ms → (out.map SrtO.iv).Pairwise (· ≤ ·) →
      h'.get? p = some (seqObj "list" out.toArray e) → Q (.ref p) { s with heap := h' }) :
    wpAny (model prog w) A (call (.builtin "sorted") [.ref t]) Q E s := by
  obtain ⟨o, ho, hc, n, hd⟩ := ht
  refine Calls.call_function_entry kind_sorted plain_sorted entry_sorted (args_sorted1 _) ?_
  unfold Builtin.«sorted»
  refine wpAny_bind (m := checkCount "sorted" 1 1 _) (wpAny_pure ?_)
  refine wpAny_bind (gather_tup ho hc hd (by simpa using hz) ?_)
  rw [List.toList_toArray]
  have hsz : ((s.heap.push (seqObj "list" #[] 0)).update s.heap.objs.size (Obj.mapSeq (· ++ us.toArray))).objs.size = s.heap.objs.size + 1 := by
    rw [Heap.size_update, size_push']
  have keep1 : ∀ b u, s.heap.get? b = some u → ((s.heap.push (seqObj "list" #[] 0)).update s.heap.objs.size (Obj.mapSeq (· ++ us.toArray))).get? b = some u := fun b u q =>
    (Heap.get?_update_other _ _ (Nat.ne_of_gt (Heap.lt_size q))).trans (Heap.get?_push_of_some _ q)
  generalize ((s.heap.push (seqObj "list" #[] 0)).update s.heap.objs.size (Obj.mapSeq (· ++ us.toArray))) = h1 at hsz keep1
  refine wpAny_bind (wpAny_newList ?_ hz)
  have old2 : ∀ b u, s.heap.get? b = some u → b < h1.objs.size := fun b u q => Heap.lt_size (keep1 b u q)
  have hnew : (h1.push (seqObj "list" us.toArray 0)).get? h1.objs.size = some (seqObj "list" us.toArray 0) := Heap.get?_push_size _ rfl
  have hle : s.heap.objs.size ≤ h1.objs.size := by omega
  show wpAny _ _ _ _ _ { s with heap := h1.push (seqObj "list" us.toArray 0) }
  refine wpAny_bind (wpAny_holding (wpAny_call_entry slot_list_sort ⟨_, hnew, rfl⟩ entry_list_sort (SrtO.list_sort_ord SrtO.swo_int hnew hz (fun h2 => SrtO.ints_sortable hI h2) fun out a1 a2 => ⟨_, rfl, ?_⟩) (args_list_sort _)))
  obtain ⟨b1, b2, b3⟩ := SrtO.ints_out hI a1 a2
  obtain ⟨e, he⟩ := sortedHeap_at (out := out.toArray) hnew
  refine wpAny_pure ⟨_, rfl, fin out _ h1.objs.size e (fun b u q => ?_) hle b1 b2 b3 he⟩
  have hb := old2 b u q
  rw [sortedHeap_old (Nat.ne_of_lt hb) (by rw [size_push']; exact Nat.lt_succ_of_lt hb)]
  exact Heap.get?_push_of_some _ (keep1 b u q)
end
def rSrtT (K : PySem.W.Frag) : List V → Hp → VK → Prop := fun vs H Q => ∃ (a : Addr) (ms : List Int), vs = [V.ref a] ∧ SqT K H a (ms.map V.int) ∧
  ∀ (ks : List Int) (p : Addr), ks.Perm ms → ks.Pairwise (· ≤ ·) → H p = none → Q (.ref p) (upd H p (.lst (ks.map V.int)))
theorem cr_srtT {X : Cx} : CallR X (.builtin "sorted") (rSrtT X.K) := by
  intro pins s σ H vs us Q I r h
  obtain ⟨a, ms, rfl, hs, q⟩ := h
  obtain ⟨its, rv, ht, hz⟩ := I.tuple hs
  rw [Vals.ref1 r]
  refine sorted_of_tup ht (by rw [← rv.length]; exact hz) rv.ints fun out h' p e keep hp k1 k2 k3 he => ?_
  have hlen : ((out.map SrtO.iv).map V.int).length ≤ sizeLine := by
    have q1 := k2.length_eq
    rw [List.length_map] at hz
    rw [List.length_map]
    omega
  exact ⟨.ref p, upd H p (.lst ((out.map SrtO.iv).map V.int)), I.laid (t' := s.toks) keep hp ⟨hlen, out, e, vals_of_ints k1, he⟩, rfl, q _ _ k2 k3 (I.hok.fresh hp)⟩
def SqB (K : PySem.W.Frag) : Bool → Hp → Addr → List V → Prop
  | true, H, a, xs => SqT K H a xs
  | false, H, a, xs => SqL K H a xs
def SeqIs : Bool → Heap → Addr → Array Value → Prop
  | true, h, a, xs => h.IsTuple a xs
  | false, h, a, xs => h.IsList a xs
def ItIs : Bool → Heap → Addr → Addr → Nat → Prop
  | true, h, i, a, n => h.IsTupleIter i a n
  | false, h, i, a, n => h.IsListIter i a n
def itObj (b : Bool) (a : Addr) : Obj := { cls := .type (if b then "tuple_iterator" else "list_iterator"), data := .fields #[.ref a, .int 0 0] }
theorem seqB {X : Cx} {pins : List (Addr × Obj)} {σ : L2.St} {H : Hp} {s : Shared} {a : Addr} {xs : List V} {b : Bool} (I : Inv X pins σ H s) (h : SqB X.K b H a xs) :
    ∃ its : List Value, Vals xs its ∧ SeqIs b s.heap a its.toArray ∧ a < s.heap.objs.size := by
  cases b with
  | true =>
    obtain ⟨its, r, p, _⟩ := I.tuple h
    exact ⟨its, r, p, p.lt⟩
  | false =>
    obtain ⟨its, r, p, _⟩ := I.list h
    exact ⟨its, r, p.isList, p.lt⟩
theorem seqB_inj {X : Cx} {pins : List (Addr × Obj)} {σ : L2.St} {H : Hp} {s : Shared} {a : Addr} {xs ys : List V} {b : Bool} (I : Inv X pins σ H s) (h : SqB X.K b H a xs) (h' : SqB X.K b H a ys) : xs = ys := by
  cases b with
  | true => exact I.tuple_inj h h'
  | false => exact I.list_inj h h'
theorem drawsB {prog : Program} {w : World} {A : Around} (hh : A.handled = none) (b : Bool) (it a : Addr) (hne : a ≠ it) (items : Array Value) :
    Draws prog w A it [it, a] items.size (fun i v => items[i]? = some v) (fun i h => ItIs b h it a i ∧ SeqIs b h a items) := by
  cases b with
  | true => exact Draws.tuple hh it a hne items
  | false => exact Draws.list hh it a hne items
theorem beginsB (b : Bool) (a : Addr) (items : Array Value) : Begins (.ref a) (itObj b a) fun h => SeqIs b h a items := by
  cases b with
  | true => exact begins_tuple a items
  | false => exact begins_list a items
theorem itIs0 {b : Bool} {h : Heap} {i a : Addr} (e : h.get? i = some (itObj b a)) : ItIs b h i a 0 := by
  cases b with
  | true => exact ⟨_, e, rfl, rfl⟩
  | false => exact ⟨_, e, rfl, rfl⟩
theorem ItIs.obj {b : Bool} {h : Heap} {i a : Addr} {n : Nat} (x : ItIs b h i a n) : ∃ o, h.get? i = some o ∧ ∀ v, o.data ≠ .cell v := by
  cases b with
  | true =>
    obtain ⟨o, e, _, d⟩ := x
    exact ⟨o, e, fun v q => by rw [d] at q; cases q⟩
  | false =>
    obtain ⟨o, e, _, d⟩ := x
    exact ⟨o, e, fun v q => by rw [d] at q; cases q⟩
theorem ItIs.keep {b : Bool} {h h' : Heap} {i a : Addr} {n : Nat} (x : ItIs b h i a n) (k : ∀ o, h.get? i = some o → h'.get? i = some o) : ItIs b h' i a n := by
  cases b with
  | true => exact Heap.IsTupleIter.at x k
  | false => exact Heap.IsListIter.at x k
end OgR
namespace OgR
open PySem PySem.Spec PyProof.Rows L2
def ItzB (K : PySem.W.Frag) (b1 b2 : Bool) (a1 a2 : Addr) : It where
  go := fun i H => ∃ (xs ys : List V) (x y : V), SqB K b1 H a1 xs ∧ SqB K b2 H a2 ys ∧ xs[i]? = some x ∧ ys[i]? = some y
  yld := fun i H v H' => ∃ T x y, v = .ref T ∧ H T = none ∧ H' = upd H T (.tup [x, y]) ∧ (∀ xs, SqB K b1 H a1 xs → xs[i]? = some x) ∧ ∀ ys, SqB K b2 H a2 ys → ys[i]? = some y
  stop := fun i H => ∃ xs ys : List V, SqB K b1 H a1 xs ∧ SqB K b2 H a2 ys ∧ i ≤ xs.length ∧ i ≤ ys.length ∧ (i = xs.length ∨ i = ys.length)
theorem turn_zipB {P : Program} {w : World} {K : PySem.W.Frag} {elts : List Expr} {kk : Nat} {tpos : Pos} {b1 b2 : Bool} {a1 a2 z TI TO i1 i2 : Addr} (S : ZipSep2 z TI TO i1 i2 [i1, a1] [i2, a2]) (n1 : a1 ≠ i1) (n2 : a2 ≠ i2) :
    Turn P w K (.Tuple elts kk tpos) (ItzB K b1 b2 a1 a2) [z, TI, TO, i1, i2] z
      (fun i h => IsZip h z TI TO .none ∧ IsTupOf2 h TI (.ref i1) (.ref i2) ∧ (∃ x y, IsTupOf2 h TO x y) ∧ ItIs b1 h i1 a1 i ∧ ItIs b2 h i2 a2 i) where
  mem := List.mem_cons_self ..
  obj := fun i h st c hc => by
    obtain ⟨hz, hTI, ⟨x, y, hTO⟩, h1, h2⟩ := st
    have q : c = z ∨ c = TI ∨ c = TO ∨ c = i1 ∨ c = i2 := by simpa using hc
    rcases q with rfl | rfl | rfl | rfl | rfl
    · exact ⟨_, hz, fun v q => nomatch q⟩
    · exact ⟨_, hTI, fun v q => nomatch q⟩
    · exact ⟨_, hTO, fun v q => nomatch q⟩
    · exact h1.obj
    · exact h2.obj
  keep := fun i h h' st k => by
    obtain ⟨hz, hTI, ⟨x, y, hTO⟩, h1, h2⟩ := st
    exact ⟨k z (by simp) _ hz, k TI (by simp) _ hTI, ⟨x, y, k TO (by simp) _ hTO⟩, h1.keep (k i1 (by simp)), h2.keep (k i2 (by simp))⟩
  item := by
    intro X hP hw hK hc i pins s σ H E I hf st hg
    subst hP hw hK
    obtain ⟨hz, hTI, ⟨x0, y0, hTO⟩, h1, h2⟩ := st
    obtain ⟨xs, ys, x, y, qx, qy, hx, hy⟩ := hg
    obtain ⟨us1, rv1, sq1, _⟩ := seqB I qx
    obtain ⟨us2, rv2, sq2, _⟩ := seqB I qy
    obtain ⟨u1, e1, r1⟩ := rv1.get hx
    obtain ⟨u2, e2, r2⟩ := rv2.get hy
    have ltz : z < s.heap.objs.size := Heap.lt_size hz
    have lt1 : i < us1.toArray.size := by
      have q := (List.getElem?_eq_some_iff.mp e1).1
      simpa using q
    have lt2 : i < us2.toArray.size := by
      have q := (List.getElem?_eq_some_iff.mp e2).1
      simpa using q
    refine wpAny_pyNext_zipD2_item S (drawsB (by exact I.ok.hd hc) b1 i1 a1 n1 us1.toArray) (drawsB (by exact I.ok.hd hc) b2 i2 a2 n2 us2.toArray) hz hTI hTO ⟨h1, sq1⟩ ⟨h2, sq2⟩ lt1 lt2
      fun v1 v2 h' tk p1 p2 z' TO' st1 st2 hT hsz hk => ?_
    have ev1 : v1 = u1 := by
      have q : us1[i]? = some v1 := by simpa using p1
      rw [e1] at q
      exact (Option.some.inj q).symm
    have ev2 : v2 = u2 := by
      have q : us2[i]? = some v2 := by simpa using p2
      rw [e2] at q
      exact (Option.some.inj q).symm
    subst ev1 ev2
    refine ⟨_, rfl, wpAny_letOwnedTupleGo_zip (s := { s with heap := h', toks := tk }) z' fun h2' z2 sb => ?_⟩
    have atT : h2'.get? s.heap.objs.size = some { cls := .type "tuple", data := .seq #[v1, v2] } := (sb.2 _ (Nat.ne_of_gt ltz)).trans hT
    have I1 : Inv X pins σ (upd H s.heap.objs.size (.tup [x, y])) { s with heap := h2', toks := tk } := by
      refine I.turnedNew (ch := [z, TI, TO, i1, i2]) (fun c oc hcn q => ?_) hf (Nat.le_refl _) ⟨by show 2 ≤ sizeLine; decide, [v1, v2], .cons r1 (.cons r2 .nil), ⟨_, atT, rfl, _, rfl⟩⟩
      have g : ∀ d, d ∈ [z, TI, TO, i1, i2] → c ≠ d := fun d hd e => hcn (e ▸ hd)
      exact (sb.2 c (g z (by simp))).trans (hk c oc (g z (by simp)) (g TO (by simp)) (g i1 (by simp)) (g i2 (by simp)) q)
    refine ⟨.ref s.heap.objs.size, _, I1, rfl, ⟨_, x, y, rfl, I.hok.fresh (Nat.le_refl _), rfl, fun l hl => by rw [seqB_inj I hl qx]; exact hx, fun l hl => by rw [seqB_inj I hl qy]; exact hy⟩, ⟨z2, ?_, ⟨v1, v2, ?_⟩, ?_, ?_⟩, fun c hcm => ?_⟩
    · exact (sb.2 _ S.TIz).trans (hk _ _ S.TIz S.TITO S.TIi1 S.TIi2 hTI)
    · exact (sb.2 _ S.TOz).trans TO'
    · exact st1.1.keep fun o q => (sb.2 _ (Ne.symm S.zi1)).trans q
    · exact st2.1.keep fun o q => (sb.2 _ (Ne.symm S.zi2)).trans q
    · have ltc : c < s.heap.objs.size := by
        have q : c = z ∨ c = TI ∨ c = TO ∨ c = i1 ∨ c = i2 := by simpa using hcm
        rcases q with rfl | rfl | rfl | rfl | rfl
        · exact ltz
        · exact Heap.lt_size hTI
        · exact Heap.lt_size hTO
        · obtain ⟨_, q, _⟩ := h1.obj
          exact Heap.lt_size q
        · obtain ⟨_, q, _⟩ := h2.obj
          exact Heap.lt_size q
      rw [upd_ne (Nat.ne_of_lt ltc)]
      exact (hf c hcm).1
  done := by
    intro X hP hw hK hc i pins s σ H E I hf st hg
    subst hP hw hK
    obtain ⟨hz, hTI, ⟨x0, y0, hTO⟩, h1, h2⟩ := st
    obtain ⟨xs, ys, qx, qy, l1, l2, hend⟩ := hg
    obtain ⟨us1, rv1, sq1, _⟩ := seqB I qx
    obtain ⟨us2, rv2, sq2, _⟩ := seqB I qy
    have m1 : xs.length = us1.toArray.size := by
      have q := rv1.length
      simpa using q
    have m2 : ys.length = us2.toArray.size := by
      have q := rv2.length
      simpa using q
    refine wpAny_pyNext_zipD2_end S (drawsB (by exact I.ok.hd hc) b1 i1 a1 n1 us1.toArray) (drawsB (by exact I.ok.hd hc) b2 i2 a2 n2 us2.toArray) hz hTI hTO ⟨h1, sq1⟩ ⟨h2, sq2⟩ (by omega) (by omega) (by omega) fun h' tk hk => ⟨rfl, ?_⟩
    refine I.turnedL (t' := tk) (ch := [z, TI, TO, i1, i2]) (fun c oc hcn q => ?_) hf
    have g : ∀ d, d ∈ [z, TI, TO, i1, i2] → c ≠ d := fun d hd e => hcn (e ▸ hd)
    exact hk c oc (g z (by simp)) (g TO (by simp)) (g i1 (by simp)) (g i2 (by simp)) q
  self := fun A i s Q E st h => wpAny_pyIter_zip st.1 h
def iZipB (K : PySem.W.Frag) (ta : TA) : TI := fun σ H R => ta σ H fun vs H1 => ∃ b1 b2 a1 a2 xs ys, vs = [.ref a1, .ref a2] ∧ SqB K b1 H1 a1 xs ∧ SqB K b2 H1 a2 ys ∧ R (ItzB K b1 b2 a1 a2) H1
theorem pi_zipB {X : Cx} {e e2 : Expr} {ta : TA} {p pos tpos : Pos} {elts : List Expr} {kk : Nat} (hg : Gl X "zip") (hm : X.mg "zip" = none) (ha : PA X [e, e2] ta)
    (hs : starEach [e, e2] X.env = (false, eval e X.env) :: starEach [e2] X.env := by rfl) (hpl : (backTo pos (starEach [e2] X.env)).any (·.1) = false := by rfl) :
    PI X (.Tuple elts kk tpos) (.Call (.Name "zip" p) [e, e2] [] pos) (iZipB X.K ta) := by
  refine ⟨fun pins s σ H R I h => ?_⟩
  refine Call_ (ld_blt I hg hm boot_zip (callWith_type1 (thn (ha.run pos pins s σ H _ I h) fun us s1 ⟨vs, H1, I1, r1, g⟩ => ?_) hs hpl))
  obtain ⟨b1, b2, a1, a2, xs, ys, ex, qx, qy, q⟩ := g
  subst ex
  obtain ⟨u, w', eus, ru, rw'⟩ := vals2 r1
  subst eus
  cases ru
  cases rw'
  obtain ⟨us1, rv1, sq1, lt1⟩ := seqB I1 qx
  obtain ⟨us2, rv2, sq2, lt2⟩ := seqB I1 qy
  refine zip_begins2 (beginsB b1 a1 us1.toArray) (beginsB b2 a2 us2.toArray) sq1 sq2 fun h' hz hTI hTO g1 g2 hsz hk => wpAny_pyIter_zip hz ?_
  have S := zip_sep2 (N := s1.heap.objs.size) (fp1 := [a1]) (fp2 := [a2]) (fun b hb => by rw [List.mem_singleton.mp hb]; exact lt1) (fun b hb => by rw [List.mem_singleton.mp hb]; exact lt2)
  refine ⟨s1.heap.objs.size + 4, [s1.heap.objs.size + 4, s1.heap.objs.size + 2, s1.heap.objs.size + 3, s1.heap.objs.size, s1.heap.objs.size + 1], _, _, H1, rfl, I1.kept (t' := s1.toks) hk,
    turn_zipB S (Nat.ne_of_lt lt1) (Nat.ne_of_lt (Nat.lt_succ_of_lt lt2)), ⟨hz, hTI, ⟨_, _, hTO⟩, itIs0 g1, itIs0 g2⟩, fun c hcm => ?_, q⟩
  have hle : s1.heap.objs.size ≤ c := by
    have e' : c = s1.heap.objs.size + 4 ∨ c = s1.heap.objs.size + 2 ∨ c = s1.heap.objs.size + 3 ∨ c = s1.heap.objs.size ∨ c = s1.heap.objs.size + 1 := by simpa using hcm
    rcases e' with q | q | q | q | q <;> rw [q] <;> first | exact Nat.le_add_right _ _ | exact Nat.le_refl _
  exact I1.fpOk hle (I1.hok.fresh hle)
theorem SqB.ex {K : PySem.W.Frag} {b : Bool} {H H' : Hp} {a : Addr} {xs : List V} (e : Evl.Ex H H') (h : SqB K b H a xs) : SqB K b H' a xs := by
  cases b with
  | true => exact Evl.ex_t e h
  | false => exact Evl.ex_l e h
def ItsB (K : PySem.W.Frag) (b : Bool) (a : Addr) : It where
  go := fun i H => ∃ xs x, SqB K b H a xs ∧ xs[i]? = some x
  yld := fun i H x H' => H' = H ∧ ∀ xs, SqB K b H a xs → xs[i]? = some x
  stop := fun i H => ∃ xs, SqB K b H a xs ∧ xs.length ≤ i
theorem turn_seqB {P : Program} {w : World} {K : PySem.W.Frag} {tg : Expr} (b : Bool) (a it : Addr) : Turn P w K tg (ItsB K b a) [it] it (fun i h => ItIs b h it a i) := by
  cases b with
  | true => exact turn_tuple a it
  | false => exact turn_list a it
def iSeqB (K : PySem.W.Frag) (tl : TE) : TI := fun σ H R => tl σ H fun x H1 => ∃ b a xs, x = .ref a ∧ SqB K b H1 a xs ∧ R (ItsB K b a) H1
theorem pi_seqB {X : Cx} {tg l : Expr} {tl : TE} (hl : PE X l tl) : PI X tg l (iSeqB X.K tl) := by
  refine ⟨fun pins s σ H R I h => thn (hl.run pins s σ H _ I h) fun v s1 ⟨x, H1, I1, r1, g⟩ => ?_⟩
  obtain ⟨b, a, xs, e, hq, q⟩ := g
  subst e
  cases r1
  obtain ⟨its, rv, hsq, lt⟩ := seqB I1 hq
  refine (beginsB b a its.toArray).iter _ _ _ _ _ _ hsq ?_
  refine ⟨s1.heap.objs.size, [s1.heap.objs.size], _, _, H1, rfl, I1.kept (t' := s1.toks) fun c o e => Heap.get?_push_of_some _ e, turn_seqB b a _, itIs0 (Heap.get?_push_size _ (beginsB b a its.toArray).free), fun c hc => ?_, q⟩
  rw [List.mem_singleton.mp hc]
  exact I1.fpOk (Nat.le_refl _) (I1.hok.fresh (Nat.le_refl _))
theorem walk_seqB {K : PySem.W.Frag} {b : Bool} {a : Addr} {xs : List V} : Walk (ItsB K b a) xs.length (fun H => SqB K b H a xs) (fun i H v H' => H' = H ∧ xs[i]? = some v) where
  goes := fun i H hi h => ⟨xs, xs[i], h, List.getElem?_eq_getElem hi⟩
  stops := fun H h => ⟨xs, h, Nat.le_refl _⟩
  yields := fun i H v H' hi h y => ⟨y.1, y.2 xs h⟩
theorem PG.or {X : Cx} {e : Expr} {g1 g2 : TG} (h1 : PG X e g1) (h2 : PG X e g2) : PG X e (fun v σ H Q => g1 v σ H Q ∨ g2 v σ H Q) :=
  ⟨fun pins s σ H v u Q I r h => by
    rcases h with h | h
    · exact h1.run pins s σ H v u Q I r h
    · exact h2.run pins s σ H v u Q I r h⟩
theorem CallR.or {X : Cx} {f : Value} {r1 r2 : List V → Hp → VK → Prop} (h1 : CallR X f r1) (h2 : CallR X f r2) : CallR X f (fun vs H Q => r1 vs H Q ∨ r2 vs H Q) := by
  intro pins s σ H vs us Q I r h
  rcases h with h | h
  · exact h1 pins s σ H vs us Q I r h
  · exact h2 pins s σ H vs us Q I r h
/-- unpacking a pair: a tuple or a list of n items -/
def gSeqB (K : PySem.W.Frag) (n : Nat) (t : TGs) : TG := fun v σ H Q => ∃ b a xs, v = .ref a ∧ SqB K b H a xs ∧ xs.length = n ∧ t xs σ H Q
theorem pg_seqB {X : Cx} {es : List Expr} {k : Nat} {pos : Pos} {t : TGs} {n : Nat} (hc : X.calm = true) (h : PGs X es t)
    (hn : (assignEach es X.env).length = n := by rfl) (hst : (assignEach es X.env).findIdx? (·.1) = none := by rfl) : PG X (.Tuple es k pos) (gSeqB X.K n t) :=
  ⟨fun pins s σ H v u Q I r hw => by
    obtain ⟨b, a, xs, e1, hq, hl, hw⟩ := hw
    cases b with
    | true => exact (pg_tup hc h hn hst).run pins s σ H v u Q I r ⟨a, xs, e1, hq, hl, hw⟩
    | false => exact (pg_unl hc h hn hst).run pins s σ H v u Q I r ⟨a, xs, e1, hq, hl, hw⟩⟩
/-- sorted(s), s a list or a tuple of ints -/
def rSrtB (K : PySem.W.Frag) : List V → Hp → VK → Prop := fun vs H Q => ∃ (b : Bool) (a : Addr) (ms : List Int), vs = [V.ref a] ∧ SqB K b H a (ms.map V.int) ∧
  ∀ (ks : List Int) (p : Addr), ks.Perm ms → ks.Pairwise (· ≤ ·) → H p = none → Q (.ref p) (upd H p (.lst (ks.map V.int)))
theorem cr_srtB {X : Cx} : CallR X (.builtin "sorted") (rSrtB X.K) := by
  intro pins s σ H vs us Q I r h
  obtain ⟨b, a, ms, e, hq, q⟩ := h
  cases b with
  | true => exact cr_srtT pins s σ H vs us Q I r ⟨a, ms, e, hq, q⟩
  | false => exact cr_sortedI pins s σ H vs us Q I r ⟨a, ms, e, hq, q⟩
/-- s[i], s a list or a tuple -/
def rIxB (K : PySem.W.Frag) : R2 := fun x y H Q => ∃ (b : Bool) (p : Addr) (xs : List V) (i : Int) (v : V), x = .ref p ∧ y = .int i ∧ SqB K b H p xs ∧ atI xs i = some v ∧ Q v H
theorem ix_B {X : Cx} : IxR X (rIxB X.K) := by
  have h : IxR X (rIx X.K) := ix_seq
  refine fun va sl pins s σ H x y u w Q I rx ry g hp => h va sl pins s σ H x y u w Q I rx ry ?_ hp
  obtain ⟨b, p, xs, i, v, e1, e2, hq, ha, q⟩ := g
  cases b with
  | true => exact .inr (.inl ⟨p, xs, i, v, e1, e2, hq, ha, q⟩)
  | false => exact .inl ⟨p, xs, i, v, e1, e2, hq, ha, q⟩
end OgR
namespace OgR
open PySem PySem.Spec PyProof.Rows L2
end OgR
namespace OgR
open PySem PySem.Spec PyProof.Rows L2
end OgR
namespace OgR
open PySem PySem.Spec PyProof.Rows L2
end OgR
namespace OgR
open PySem PySem.Spec PyProof.Rows L2
section
variable {P : Program} {w : World} {K : PySem.W.Frag} {mg : Str → Option Value} {base : Heap}
/-- the promise of a def for callers of whom no repr is under way -/
def FnG (P : Program) (w : World) (K : PySem.W.Frag) (mg : Str → Option Value) (base : Heap) (k : Nat) (f : Addr) (fd : FuncData) (ps : List Str) (sp : Sp) : Prop :=
  (∀ vs H Q E, sp vs H Q E → vs.length = ps.length) ∧
  ∀ (A : Around) (outer : List Env) (s : Shared) (H : Hp) (args : Args) (us : List Value) (vs : List V) (Q : VK) (E : XK), A.guards = some [] → Room k A → Env0 P w K mg base A outer s H → BindsTo s fd args (ps.zip us) → Vals vs us →
    sp vs H Q E → codeAny (model P w) A (.call (.ref f) args) (CR CX0 outer P w H s Q E) s
theorem fnG_of {x qual : Str} {st : Stmt} {f : Addr} {fd : FuncData} {N ps : List Str} {k : Nat} {sp : Sp} (F : Fun K x qual st f fd) (S : FnScope N ps (defScope st)) (hl : ∀ vs H Q E, sp vs H Q E → vs.length = ps.length)
    (body : ∀ (cdv : Value) (A : Around) (outer : List Env) (s : Shared) (H : Hp) (vs : List V) (Q : VK) (E : XK), A.guards = some [] → Room k (A.deeper (envOfC qual (defScope st) s.heap.objs.size f cdv)) → sp vs H Q E →
      ∃ t, PSs (cxOf CX0 P w K mg base N qual (defScope st) f cdv A outer s H E).nox (defBody st) t ∧ t { nx := fun _ H' => Q .non H', rt := Q } (start N vs) H) : FnG P w K mg base (k + 1) f fd ps sp := by
  obtain ⟨oc, od, kV, doc, pm, an, cdv, ct, osl, rfl, lk, hcd⟩ := F.ex
  refine ⟨hl, fun A outer s H args us vs Q E hG hr e0 hb r hsp => ?_⟩
  have here : ∀ b o, base.get? b = some o → s.heap.get? b = some o := fun b o e => (e0.bs b o e).1
  have KX : K.In s.heap := e0.mod.kin.keeps here
  refine codeAny_call_function hr.depth (KX _ _ lk) rfl S.co S.gen rfl (PySem.W.codeRec_of KX hcd) (hb _ _ _ _ (wpAny_newFunctionEnv_cells S.kind ?_ fun env he s1 y => ?_))
  · rintro ⟨n, v⟩ hy
    exact (S.par n (List.of_mem_zip hy).1).imp id fun q => ⟨q, PySem.W.cellsFrom_some _ _ _ (.inl q)⟩
  · subst he
    obtain ⟨t, ht, hq⟩ := body cdv A outer s H vs Q E hG (hr.deeper _) hsp
    have I := inv_start (CX := CX0) (E := E) S hr.hd e0 (hl _ _ _ _ hsp) r y
    refine ⟨(e0.mod.nolimit.keeps here).keeps y.toInCall.keep, codeAny_func (wpAny_mono (ht.nox.run [] s1 (start N vs) H _ I hq) ?_ fun e s' hs => hs)⟩
    rintro (_ | _ | _ | u) s' hs
    all_goals first
      | (obtain ⟨v, σ', H', J, rv, q⟩ := hs; exact ⟨v, H', J.os, J.bare, J.base, J.hok, rv, q⟩)
      | (obtain ⟨σ', H', J, q⟩ := hs; exact ⟨V.non, H', J.os, J.bare, J.base, J.hok, rfl, q⟩)
      | (obtain ⟨_, _, _, q⟩ := hs; exact q.elim)
end
section
variable {X : Cx} {k : Nat} {f : Addr} {fd : FuncData} {ps : List Str} {sp : Sp} {E : XK} {x : Str} {p pos : Pos} {e : Expr} {es : List Expr} {t : TA}
theorem pe_callG (F : FnG X.prog X.w X.K X.mg X.base k f fd ps sp) (hG : X.A.guards = some []) (hr : Room k X.A) (hg : Gl X x) (hm : X.mg x = some (.ref f)) (hk : PySem.W.keepIn X.K (.ref f) = true) (hb : Binds X.K fd ps [])
    (ha : PA X (e :: es) t) (hdb : (x == ("__debug__" : Str)) = false := by decide) (he : starEach (e :: es) X.env = (false, eval e X.env) :: starEach es X.env := by rfl) (hpl : (backTo pos (starEach es X.env)).any (·.1) = false := by rfl) :
    PE X (.Call (.Name x p) (e :: es) [] pos) (tCall sp [] E t) := by
  refine ⟨fun pins s σ H Q I h => wpAny_Call_Name_kw (ld_glob I hg hm ?_ hdb)⟩
  refine PySem.W.callWith_K (h₀ := X.base) I.ok.mod.kin hk (thn (ha.run pos pins s σ H _ I h) fun us s1 ⟨vs, H1, I1, r, q⟩ => ⟨I1.kIn, ?_⟩) he hpl
  have q' : sp (vs ++ []) H1 Q E := q
  rw [List.append_nil] at q'
  have hl : us.length = ps.length := by rw [← r.length]; exact F.1 _ _ _ _ q'
  have hb' := hb s1 us I1.kIn (by rw [List.append_nil]; exact hl)
  rw [List.append_nil] at hb'
  refine wpAny_call (codeAny_mono (F.2 X.A X.stack s1 H1 ⟨us, []⟩ us vs Q E hG hr I1.env0 hb' r q') ?_)
  rintro (e | _ | _ | _ | u) s' hq
  all_goals first
    | exact I1.after hq
    | exact False.elim hq
end
end OgR
namespace OgR
open PySem PySem.Spec PyProof.Rows L2
def scriptH (K : PySem.W.Frag) (a : Addr) (ob : Obj) (ns : List Int) : Hp := fun b => if b = a ∧ K.lookup a = none then some (.frz ob (.lst (ns.map V.int))) else none
theorem scriptH_some {K : PySem.W.Frag} {a b : Addr} {ob : Obj} {ns : List Int} {u : HO} (h : scriptH K a ob ns b = some u) : b = a ∧ K.lookup a = none ∧ u = .frz ob (.lst (ns.map V.int)) := by
  unfold scriptH at h
  split at h
  · rename_i c
    exact ⟨c.1, c.2, (Option.some.inj h).symm⟩
  · cases h
end OgR
namespace Dw
open PySem PySem.Spec PyProof.Rows L2 OgR Evl
mutual
inductive Dp (K : PySem.W.Frag) (G : Hp) : V → PyData → Prop
  | non : Dp K G .non .none
  | bl (b : Bool) : Dp K G (.bl b) (.bool b)
  | int (i : Int) : Dp K G (.int i) (.int i)
  | str (x : Str) : Dp K G (.str x) (.str x)
  | lst {a : Addr} {xs : List V} {ds : List PyData} (h : G a = some (.lst xs)) (t : DpAll K G xs ds) : Dp K G (.ref a) (.list ds)
  | tup {a : Addr} {xs : List V} {ds : List PyData} (h : SqT K G a xs) (t : DpAll K G xs ds) : Dp K G (.ref a) (.tuple ds)
inductive DpAll (K : PySem.W.Frag) (G : Hp) : List V → List PyData → Prop
  | nil : DpAll K G [] []
  | cons {v : V} {vs : List V} {d : PyData} {ds : List PyData} (h : Dp K G v d) (t : DpAll K G vs ds) : DpAll K G (v :: vs) (d :: ds)
end
mutual
theorem Dp.up {K : PySem.W.Frag} {G : Hp} : ∀ {d : PyData} {v : V}, Dp K G v d → L2.Dp K G v d
  | _, _, .non => .non
  | _, _, .bl b => .bl b
  | _, _, .int i => .int i
  | _, _, .str x => .str x
  | _, _, .lst h t => .lst (.inl (.inl h)) t.up
  | _, _, .tup h t => .tup h t.up
theorem DpAll.up {K : PySem.W.Frag} {G : Hp} : ∀ {ds : List PyData} {vs : List V}, DpAll K G vs ds → L2.DpAll K G vs ds
  | _, _, .nil => .nil
  | _, _, .cons h t => .cons h.up t.up
end
instance {K : PySem.W.Frag} {G : Hp} {v : V} {d : PyData} : Coe (Dp K G v d) (L2.Dp K G v d) := ⟨Dp.up⟩
instance {K : PySem.W.Frag} {G : Hp} {vs : List V} {ds : List PyData} : Coe (DpAll K G vs ds) (L2.DpAll K G vs ds) := ⟨DpAll.up⟩
theorem Dp.reads {X : Cx} {pins : List (Addr × Obj)} {σ : L2.St} {H : Hp} {s : Shared} (I : Inv X pins σ H s) (d : PyData) (v : V) (u : Value) (h : Dp X.K H v d) (r : RelV v u) : ∃ as, Reads s.heap u d as := L2.Dp.reads I d v u h.up r
theorem Dp.readsAll {X : Cx} {pins : List (Addr × Obj)} {σ : L2.St} {H : Hp} {s : Shared} (I : Inv X pins σ H s) (ds : List PyData) (vs : List V) (us : List Value) (h : DpAll X.K H vs ds) (r : Vals vs us) : ∃ as, ReadsAll s.heap us ds as := L2.Dp.readsAll I ds vs us h.up r
mutual
theorem dp_ex {K : PySem.W.Frag} {H H' : Hp} (e : Ex H H') : ∀ {d : PyData} {v : V}, Dp K H v d → Dp K H' v d
  | _, _, .non => .non
  | _, _, .bl b => .bl b
  | _, _, .int i => .int i
  | _, _, .str x => .str x
  | _, _, .lst h t => .lst (e _ _ h) (dpa_ex e t)
  | _, _, .tup h t => .tup (ex_t e h) (dpa_ex e t)
theorem dpa_ex {K : PySem.W.Frag} {H H' : Hp} (e : Ex H H') : ∀ {ds : List PyData} {vs : List V}, DpAll K H vs ds → DpAll K H' vs ds
  | _, _, .nil => .nil
  | _, _, .cons h t => .cons (dp_ex e h) (dpa_ex e t)
end
theorem dpa_get {K : PySem.W.Frag} {H : Hp} : ∀ {ds : List PyData} {vs : List V} {i : Nat} {v : V}, DpAll K H vs ds → vs[i]? = some v → ∃ d, ds[i]? = some d ∧ Dp K H v d
  | _, _, _, _, .nil, e => by simp at e
  | _, _, 0, _, .cons h _, e => by
    simp at e
    subst e
    exact ⟨_, rfl, h⟩
  | _, _, i + 1, _, .cons _ t, e => dpa_get (i := i) t (by simpa using e)
theorem dpa_back {K : PySem.W.Frag} {H : Hp} : ∀ {ds : List PyData} {vs : List V} {i : Nat} {d : PyData}, DpAll K H vs ds → ds[i]? = some d → ∃ v, vs[i]? = some v ∧ Dp K H v d
  | _, _, _, _, .nil, e => by simp at e
  | _, _, 0, _, .cons h _, e => by
    simp at e
    subst e
    exact ⟨_, rfl, h⟩
  | _, _, i + 1, _, .cons _ t, e => dpa_back (i := i) t (by simpa using e)
theorem dpa_len {K : PySem.W.Frag} {H : Hp} : ∀ {ds : List PyData} {vs : List V}, DpAll K H vs ds → vs.length = ds.length
  | _, _, .nil => rfl
  | _, _, .cons _ t => by rw [List.length_cons, List.length_cons, dpa_len t]
theorem dpa_app {K : PySem.W.Frag} {H : Hp} : ∀ {xs ys : List V} {ds es : List PyData}, DpAll K H xs ds → DpAll K H ys es → DpAll K H (xs ++ ys) (ds ++ es)
  | _, _, _, _, .nil, h => h
  | _, _, _, _, .cons a b, h => .cons a (dpa_app b h)
theorem dpa_take {K : PySem.W.Frag} {H : Hp} : ∀ {xs : List V} {ds : List PyData} (j : Nat), DpAll K H xs ds → DpAll K H (xs.take j) (ds.take j)
  | _, _, 0, _ => by simp only [List.take_zero]; exact .nil
  | _, _, _ + 1, .nil => by simp only [List.take_nil]; exact .nil
  | _, _, j + 1, .cons h t => .cons h (dpa_take j t)
theorem dpa_drop {K : PySem.W.Frag} {H : Hp} : ∀ {xs : List V} {ds : List PyData} (j : Nat), DpAll K H xs ds → DpAll K H (xs.drop j) (ds.drop j)
  | _, _, 0, h => h
  | _, _, _ + 1, .nil => by simp only [List.drop_nil]; exact .nil
  | _, _, j + 1, .cons h t => dpa_drop j t
theorem dpa_rev {K : PySem.W.Frag} {H : Hp} : ∀ {xs : List V} {ds : List PyData}, DpAll K H xs ds → DpAll K H xs.reverse ds.reverse
  | _, _, .nil => .nil
  | _, _, .cons h t => by
    rw [List.reverse_cons, List.reverse_cons]
    exact dpa_app (dpa_rev t) (.cons h .nil)
theorem dpa_ints {K : PySem.W.Frag} {H : Hp} : ∀ ns : List Int, DpAll K H (ns.map V.int) (ns.map PyData.int)
  | [] => .nil
  | n :: r => .cons (.int n) (dpa_ints r)
theorem ints_dpa {K : PySem.W.Frag} {H : Hp} : ∀ {ns : List Int} {xs : List V}, DpAll K H xs (ns.map PyData.int) → xs = ns.map V.int
  | [], _, .nil => rfl
  | _ :: _, _, .cons h t => by
    cases h
    rw [ints_dpa t]
    rfl
theorem atI_dpa {K : PySem.W.Frag} {H : Hp} {xs : List V} {ds : List PyData} {i : Int} {d : PyData} (h : DpAll K H xs ds) (e : atI ds i = some d) : ∃ v, atI xs i = some v ∧ Dp K H v d := by
  unfold atI at e ⊢
  rw [dpa_len h]
  cases q : ixN ds.length i with
  | none => rw [q] at e; cases e
  | some j =>
    rw [q] at e
    exact dpa_back h e
mutual
def NoL : PyData → Bool
  | .list _ => false
  | .tuple ds => NoLA ds
  | .dict _ => false
  | _ => true
def NoLA : List PyData → Bool
  | [] => true
  | d :: ds => NoL d && NoLA ds
end
theorem NoLA.mem : ∀ {xs : List PyData}, NoLA xs = true → ∀ x ∈ xs, NoL x = true
  | _ :: _, h, _, .head _ => by
    unfold NoLA at h
    rw [Bool.and_eq_true] at h
    exact h.1
  | _ :: xs, h, x, .tail _ m => by
    unfold NoLA at h
    rw [Bool.and_eq_true] at h
    exact NoLA.mem h.2 x m
theorem NoLA.of : ∀ {xs : List PyData}, (∀ x ∈ xs, NoL x = true) → NoLA xs = true
  | [], _ => rfl
  | x :: xs, h => by
    show (NoL x && NoLA xs) = true
    rw [h x List.mem_cons_self, NoLA.of fun y hy => h y (List.mem_cons_of_mem _ hy)]
    rfl
def notTup : HO → Bool
  | .tup _ => false
  | .frz _ (.tup _) => false
  | _ => true
def rollG (G G2 : Hp) : Hp := fun b => match G b with
  | some o => some o
  | none => match G2 b with
    | some (.tup xs) => some (.tup xs)
    | some (.frz o (.tup xs)) => some (.frz o (.tup xs))
    | _ => none
theorem roll_old {G G2 : Hp} : Ex G (rollG G G2) := fun b o h => by
  unfold rollG
  rw [h]
theorem roll_in {G G2 : Hp} (e : Ex G G2) : Ex (rollG G G2) G2 := fun b o h => by
  unfold rollG at h
  split at h
  · rename_i q
    cases h
    exact e _ _ q
  · split at h
    · rename_i q
      cases h
      exact q
    · rename_i q
      cases h
      exact q
    · cases h
theorem roll_keep {G G2 : Hp} (e : Ex G G2) {b : Addr} {o : HO} (h : G2 b = some o) (k : notTup o = false) : rollG G G2 b = some o := by
  unfold rollG
  split
  · rename_i o q
    have := e _ _ q
    rw [h] at this
    rw [Option.some.inj this]
  · rw [h]
    cases o with
    | tup xs => rfl
    | frz o u => cases u <;> first | rfl | cases k
    | _ => cases k
theorem roll_no {G G2 : Hp} {b : Addr} (h : G b = none) (h2 : ∀ o, G2 b = some o → notTup o = true) : rollG G G2 b = none := by
  unfold rollG
  rw [h]
  cases q : G2 b with
  | none => rfl
  | some o =>
    have k := h2 o q
    cases o with
    | tup xs => cases k
    | frz o u => cases u <;> first | rfl | cases k
    | _ => rfl
theorem roll_some {G G2 : Hp} {b : Addr} (h : rollG G G2 b ≠ none) : G b ≠ none ∨ G2 b ≠ none := by
  cases q : G b with
  | some o => exact .inl (Option.some_ne_none _)
  | none =>
    refine .inr fun z => h ?_
    unfold rollG
    rw [q, z]
mutual
theorem lf_roll {K : PySem.W.Frag} {G G2 : Hp} (e : Ex G G2) : ∀ {d : PyData} {v : V}, NoL d = true → Dp K G2 v d → Dp K (rollG G G2) v d
  | _, _, _, .non => .non
  | _, _, _, .bl b => .bl b
  | _, _, _, .int i => .int i
  | _, _, _, .str x => .str x
  | _, _, h, .lst _ _ => by cases h
  | _, _, h, .tup (xs := xs) h1 t => .tup (by
      rcases h1 with (h1 | ⟨o, h1⟩) | h1
      · exact .inl (.inl (roll_keep e h1 rfl))
      · exact .inl (.inr ⟨o, roll_keep e h1 rfl⟩)
      · exact .inr h1) (lf_rollA e h t)
theorem lf_rollA {K : PySem.W.Frag} {G G2 : Hp} (e : Ex G G2) : ∀ {ds : List PyData} {vs : List V}, NoLA ds = true → DpAll K G2 vs ds → DpAll K (rollG G G2) vs ds
  | _, _, _, .nil => .nil
  | _, _, h, .cons a t => by
    unfold NoLA at h
    rw [Bool.and_eq_true] at h
    exact .cons (lf_roll e h.1 a) (lf_rollA e h.2 t)
end
def BoxAt (H : Hp) (l : Addr) (c : Int) : Prop := ∃ a b : Int, H l = some (.lst [.int a, .int b, .int c]) ∧ 0 ≤ a ∧ 0 ≤ b ∧ b < 2 ^ 62 ∧ 0 ≤ c ∧ c ≤ 1000000
theorem BoxAt.keep {H H' : Hp} {l : Addr} {c : Int} (h : BoxAt H l c) (e : ∀ o, H l = some o → H' l = some o) : BoxAt H' l c := by
  obtain ⟨a, b, h1, h2⟩ := h
  exact ⟨a, b, e _ h1, h2⟩
theorem BoxAt.ne {H : Hp} {l : Addr} {c : Int} (h : BoxAt H l c) : H l ≠ none := by
  obtain ⟨a, b, h1, _⟩ := h
  rw [h1]
  exact Option.some_ne_none _
/-- an object that a def may change: a street (its class, itself, its own dict, its list of states, its list of lines), a list -/
inductive Ob where
  | st (cl a dx ps pt : Addr)
  | ls (p : Addr)
def Ob.adr : Ob → Addr
  | .st _ a _ _ _ => a
  | .ls p => p
inductive Ob.has : Ob → Addr → Prop
  | sa {cl a dx ps pt : Addr} : Ob.has (.st cl a dx ps pt) a
  | sd {cl a dx ps pt : Addr} : Ob.has (.st cl a dx ps pt) dx
  | ss {cl a dx ps pt : Addr} : Ob.has (.st cl a dx ps pt) ps
  | sl {cl a dx ps pt : Addr} : Ob.has (.st cl a dx ps pt) pt
  | l {p : Addr} : Ob.has (.ls p) p
structure Bx where
  box : Option Addr
  tab : Option Addr
  obs : List Ob
abbrev b0 : Bx := ⟨none, none, []⟩
abbrev bB (l : Addr) : Bx := ⟨some l, none, []⟩
abbrev bT (P : Addr) : Bx := ⟨none, some P, []⟩
inductive Bx.has : Bx → Addr → Prop
  | box {l : Addr} {t : Option Addr} {os : List Ob} : Bx.has ⟨some l, t, os⟩ l
  | tab {b : Option Addr} {P : Addr} {os : List Ob} : Bx.has ⟨b, some P, os⟩ P
  | ob1 {b t : Option Addr} {o : Ob} {os : List Ob} {l : Addr} (h : o.has l) : Bx.has ⟨b, t, o :: os⟩ l
  | ob2 {b t : Option Addr} {o : Ob} {os : List Ob} {l : Addr} (h : Bx.has ⟨none, none, os⟩ l) : Bx.has ⟨b, t, o :: os⟩ l
theorem Bx.has.obs {l : Addr} : ∀ {os : List Ob}, Bx.has ⟨none, none, os⟩ l → ∃ o ∈ os, o.has l
  | _, .ob1 h => ⟨_, List.mem_cons_self, h⟩
  | _, .ob2 h => let ⟨o, a, b⟩ := Bx.has.obs h; ⟨o, List.mem_cons_of_mem _ a, b⟩
theorem Bx.has.obs2 {l : Addr} {o : Ob} (h : o.has l) : ∀ {os : List Ob} {b t : Option Addr}, o ∈ os → Bx.has ⟨b, t, os⟩ l
  | _, _, _, .head _ => .ob1 h
  | _, _, _, .tail _ m => .ob2 (Bx.has.obs2 h m)
theorem Bx.has.of {x : Bx} {l : Addr} (h : x.has l) : x.box = some l ∨ x.tab = some l ∨ ∃ o ∈ x.obs, o.has l := by
  cases h with
  | box => exact .inl rfl
  | tab => exact .inr (.inl rfl)
  | ob1 h => exact .inr (.inr ⟨_, List.mem_cons_self, h⟩)
  | ob2 h =>
    obtain ⟨o, a, b⟩ := Bx.has.obs h
    exact .inr (.inr ⟨o, List.mem_cons_of_mem _ a, b⟩)
theorem Bx.has.ofb {x : Bx} {l : Addr} (h : x.box = some l) : x.has l := by
  obtain ⟨a, b, os⟩ := x
  cases (show a = some l from h)
  exact .box
theorem Bx.has.oft {x : Bx} {l : Addr} (h : x.tab = some l) : x.has l := by
  obtain ⟨a, b, os⟩ := x
  cases (show b = some l from h)
  exact .tab
theorem Bx.has.ofo {x : Bx} {l : Addr} {o : Ob} (h : o ∈ x.obs) (h2 : o.has l) : x.has l := Bx.has.obs2 h2 h
/-- they do not meet -/
structure Bx.ok (x : Bx) : Prop where
  nb : ∀ l, x.box = some l ∨ x.tab = some l → ∀ o ∈ x.obs, ¬ o.has l
  nd : x.obs.Pairwise fun o o' => ∀ b, o.has b → ¬ o'.has b
theorem Bx.ok0 {b t : Option Addr} : Bx.ok ⟨b, t, []⟩ := ⟨fun _ _ o h => absurd h List.not_mem_nil, .nil⟩
/-- what a street knows: its plots, its states, its lines -/
structure Sd where
  plots : Int
  states : List PyData
  told : List PyData
inductive Ov where
  | st (S : Sd)
  | ls (ds : List PyData)
/-- how many draws there were; what the objects hold -/
structure Cs where
  n : Int
  o : List Ov
inductive ObAt (K : PySem.W.Frag) (G H : Hp) : Ob → Ov → Prop
  | st {cl a dx ps pt : Addr} {S : Sd} {xs ys : List V} (ha : H a = some (.ins cl dx [("plots", .int S.plots), ("states", .ref ps), ("told", .ref pt)])) (hd : H dx = some (.own a)) (hs : H ps = some (.lst xs)) (ht : H pt = some (.lst ys)) (ne : ps ≠ pt)
      (ds : DpAll K G xs S.states) (dt : DpAll K G ys S.told) (ls : NoLA S.states = true) (lt : NoLA S.told = true) : ObAt K G H (.st cl a dx ps pt) (.st S)
  | ls {p : Addr} {ds : List PyData} {xs : List V} (hp : H p = some (.lst xs)) (hd : DpAll K G xs ds) (lf : NoLA ds = true) : ObAt K G H (.ls p) (.ls ds)
theorem ObAt.keep {K : PySem.W.Frag} {G H G' H' : Hp} {o : Ob} {x : Ov} (h : ObAt K G H o x) (eg : Ex G G') (e : ∀ b w, o.has b → H b = some w → H' b = some w) : ObAt K G' H' o x := by
  cases h with
  | st ha hd hs ht ne ds dt ls lt => exact .st (e _ _ .sa ha) (e _ _ .sd hd) (e _ _ .ss hs) (e _ _ .sl ht) ne (dpa_ex eg ds) (dpa_ex eg dt) ls lt
  | ls hp hd lf => exact .ls (e _ _ .l hp) (dpa_ex eg hd) lf
theorem ObAt.cell {K : PySem.W.Frag} {G H : Hp} {o : Ob} {x : Ov} (h : ObAt K G H o x) {b : Addr} (hb : o.has b) : ∃ w, H b = some w ∧ notTup w = true := by
  cases h with
  | st ha hd hs ht ne ds dt ls lt => cases hb <;> exact ⟨_, by assumption, rfl⟩
  | ls hp hd lf => cases hb; exact ⟨_, hp, rfl⟩
theorem ObAt.roll {K : PySem.W.Frag} {G G2 H : Hp} {o : Ob} {x : Ov} (e : Ex G G2) (h : ObAt K G2 H o x) : ObAt K (rollG G G2) H o x := by
  cases h with
  | st ha hd hs ht ne ds dt ls lt => exact .st ha hd hs ht ne (lf_rollA e ls ds) (lf_rollA e lt dt) ls lt
  | ls hp hd lf => exact .ls hp (lf_rollA e lf hd) lf
def ObsAt (K : PySem.W.Frag) (os : List Ob) (G H : Hp) (xs : List Ov) : Prop := Paired (ObAt K G H) os xs
theorem ObsAt.keep {K : PySem.W.Frag} {G H G' H' : Hp} (eg : Ex G G') : ∀ {os : List Ob} {xs : List Ov}, ObsAt K os G H xs → (∀ o ∈ os, ∀ b w, o.has b → H b = some w → H' b = some w) → ObsAt K os G' H' xs
  | _, _, .nil, _ => .nil
  | _, _, .cons h t, e => .cons (h.keep eg (e _ List.mem_cons_self)) (ObsAt.keep eg t fun o ho => e o (List.mem_cons_of_mem _ ho))
/-- the name of the one lambda that the program makes -/
def lamQ : Str := "apart_orders" ++ ".<locals>." ++ "<lambda>"
abbrev TabL (H : Hp) (P : Addr) : Prop := LamX.TabS H P lamQ
theorem TabL.ne {H : Hp} {P : Addr} (h : TabL H P) : ∃ ps, H P = some (.tbl ps) := by
  obtain ⟨ps, h1, _⟩ := h
  exact ⟨ps, h1⟩
def isExt : HO → Bool
  | .ext _ => true
  | _ => false
/-- what lies at an address of these -/
structure Bxs (x : Bx) (H : Hp) (l : Addr) (c : Cs) : Prop where
  box : x.box = some l → BoxAt H l c.n
  tab : x.tab = some l → TabL H l
  ne : H l ≠ none
  nt' : ∀ o, H l = some o → notTup o = true
theorem Bxs.keep {x : Bx} {H H' : Hp} {l : Addr} {c : Cs} (h : Bxs x H l c) (e : ∀ b o, (b = l ∨ isExt o = true) → H b = some o → H' b = some o) : Bxs x H' l c := by
  refine ⟨fun z => (h.box z).keep fun o => e l o (.inl rfl), fun z => ?_, ?_, fun o2 z => ?_⟩
  · obtain ⟨ps, h1, h2, h3⟩ := h.tab z
    refine ⟨ps, e l _ (.inl rfl) h1, h2, fun pos cv hc => ?_⟩
    obtain ⟨c, e1, e2⟩ := h3 pos cv hc
    exact ⟨c, e1, e c _ (.inr rfl) e2⟩
  · cases q : H l with
    | none => exact absurd q h.ne
    | some o => rw [e l o (.inl rfl) q]; exact Option.some_ne_none _
  · cases q : H l with
    | none => exact absurd q h.ne
    | some o =>
      rw [e l o (.inl rfl) q] at z
      exact h.nt' o2 (q.trans z)
theorem Bxs.ex {x : Bx} {H H' : Hp} {l : Addr} {c : Cs} (h : Bxs x H l c) (e : Ex H H') : Bxs x H' l c := h.keep fun b o _ => e b o
theorem Bxs.nt {x : Bx} {H : Hp} {l : Addr} {c : Cs} (_ : x.has l) (h : Bxs x H l c) : ∃ o, H l = some o ∧ notTup o = true := by
  cases q : H l with
  | none => exact absurd q h.ne
  | some o => exact ⟨o, rfl, h.nt' o q⟩
theorem Bxs.ofBox {x : Bx} {H : Hp} {l : Addr} {c : Cs} (hb : BoxAt H l c.n) (ht : x.tab ≠ some l) : Bxs x H l c := ⟨fun _ => hb, fun z => absurd z ht, hb.ne, fun o z => by
  obtain ⟨a, b, h1, _⟩ := hb
  rw [h1] at z
  cases z
  rfl⟩
theorem Bxs.ofTab {x : Bx} {H : Hp} {l : Addr} {c : Cs} (hb : TabL H l) (ht : x.box ≠ some l) : Bxs x H l c := ⟨fun z => absurd z ht, fun _ => hb, (fun z => by
  obtain ⟨ps, h1⟩ := hb.ne
  rw [h1] at z
  cases z), fun o z => by
  obtain ⟨ps, h1⟩ := hb.ne
  rw [h1] at z
  cases z
  rfl⟩
theorem ObAt.soft {K : PySem.W.Frag} {G H : Hp} {o : Ob} {x : Ov} (h : ObAt K G H o x) {b : Addr} (hb : o.has b) : ∃ w, H b = some w ∧ isExt w = false := by
  cases h with
  | st ha hd hs ht ne ds dt ls lt => cases hb <;> exact ⟨_, by assumption, rfl⟩
  | ls hp hd lf => cases hb; exact ⟨_, hp, rfl⟩
theorem ObsAt.soft {K : PySem.W.Frag} {G H : Hp} {b : Addr} : ∀ {os : List Ob} {xs : List Ov}, ObsAt K os G H xs → ∀ o ∈ os, o.has b → ∃ w, H b = some w ∧ isExt w = false
  | _, _, .cons h t, o, m, hb => by
    rcases List.mem_cons.mp m with rfl | m
    · exact h.soft hb
    · exact ObsAt.soft t o m hb
theorem ObsAt.roll {K : PySem.W.Frag} {G G2 H : Hp} (e : Ex G G2) : ∀ {os : List Ob} {xs : List Ov}, ObsAt K os G2 H xs → ObsAt K os (rollG G G2) H xs
  | _, _, .nil => .nil
  | _, _, .cons h t => .cons (h.roll e) (ObsAt.roll e t)
inductive DV where
  | d (x : PyData)
  | own (ds : List PyData)
  | dic (kvs : List (Key × PyData))
  | dit (kvs : List (List Key × PyData))
  | dd (kvs : List (List Key × PyData))
  | oth (φ : Hp → Hp → V → Prop)
  | box
  | ob (k : Nat)
  | obl (ks : List Nat)
def DV.mut : DV → Bool
  | .own _ => true
  | .dic _ => true
  | .dit _ => true
  | _ => false
structure Dt where
  env : List (Option DV)
  c : Cs
structure Ct where
  K : PySem.W.Frag
  bx : Bx
  H0 : Hp
  G0 : Hp
/-- all but the box as it was -/
def Gr (C : Ct) (H H' : Hp) : Prop := ∀ b o, ¬ C.bx.has b → H b = some o → H' b = some o
theorem Gr.refl (C : Ct) (H : Hp) : Gr C H H := fun _ _ _ h => h
theorem Gr.trans {C : Ct} {H H1 H2 : Hp} (a : Gr C H H1) (b : Gr C H1 H2) : Gr C H H2 := fun x o n h => b x o n (a x o n h)
theorem Gr.of {C : Ct} {H H' : Hp} (e : Ex H H') : Gr C H H' := fun b o _ h => e b o h
/-- what is in G' is in G or new over H -/
def Nw (G G' H : Hp) : Prop := ∀ b, G' b ≠ none → G b ≠ none ∨ H b = none ∨ ∃ xs, H b = some (.tup xs)
theorem Nw.refl (G H : Hp) : Nw G G H := fun _ h => .inl h
theorem Nw.out {G G' H : Hp} (h : Nw G G' H) {b : Addr} {o : HO} (g : G b = none) (e : H b = some o) (n : notTup o = true) : G' b = none := by
  cases q : G' b with
  | none => rfl
  | some w =>
    rcases h b (by rw [q]; exact Option.some_ne_none _) with z | z | ⟨xs, z⟩
    · exact absurd g z
    · rw [e] at z; cases z
    · rw [e] at z; cases z; cases n
structure Fin (C : Ct) (G H : Hp) (c : Cs) : Prop where
  gh : Ex G H
  g0 : Ex C.G0 G
  nw : Nw C.G0 G C.H0
  hh : Gr C C.H0 H
  ok : C.bx.ok
  ob : ObsAt C.K C.bx.obs G H c.o
  bx : ∀ l, C.bx.has l → Bxs C.bx H l c ∧ G l = none ∧ C.H0 l ≠ none
/-- a dict that is only read: locked, or older than the call -/
def RdD (C : Ct) (H : Hp) (p : Addr) (ks : List (List Key × V)) : Prop := ((∃ od, H p = some (.frz od (.dT ks))) ∨ (H p = some (.dT ks) ∧ C.H0 p ≠ none)) ∧ ¬ C.bx.has p
theorem RdD.gr {C : Ct} {H H' : Hp} {p : Addr} {ks : List (List Key × V)} (h : RdD C H p ks) (e : Gr C H H') : RdD C H' p ks := by
  obtain ⟨(⟨od, h⟩ | ⟨h, h0⟩), n⟩ := h
  · exact ⟨.inl ⟨od, e p _ n h⟩, n⟩
  · exact ⟨.inr ⟨e p _ n h, h0⟩, n⟩
theorem RdD.upd {C : Ct} {H : Hp} {p q : Addr} {ks : List (List Key × V)} {u o : HO} (h : RdD C H p ks) (hq : H q = some u) (h0 : C.H0 q = none) (hn : ∀ od w, u ≠ .frz od w) : RdD C (upd H q o) p ks := by
  have hne : p ≠ q := fun z => by
    subst z
    obtain ⟨(⟨od, h⟩ | ⟨h, h1⟩), n⟩ := h
    · rw [hq] at h
      cases h
      exact hn _ _ rfl
    · exact h1 h0
  unfold RdD
  rw [upd_ne hne]
  exact h
/-- what no def changes: all but lists and dicts -/
def soft : HO → Bool
  | .lst _ => true
  | .dK _ => true
  | .dT _ => true
  | .frz _ _ => true
  | _ => false
theorem Bxs.updS {x : Bx} {H : Hp} {l p : Addr} {c : Cs} {u o : HO} (h : Bxs x H l c) (hp : H p = some u) (s : soft u = true) (hlp : l ≠ p) : Bxs x (upd H p o) l c := h.keep fun b w hb q => by
  by_cases z : b = p
  · subst z
    rcases hb with hb | hb
    · exact absurd hb.symm hlp
    · rw [hp] at q
      cases q
      cases u <;> first | (simp [soft] at s; done) | (simp [isExt] at hb; done)
  · rw [upd_ne z]
    exact q
def Kept (C : Ct) (H H' : Hp) : Prop := ∀ b o, ¬ C.bx.has b → H b = some o → soft o = false → H' b = some o
theorem Kept.refl (C : Ct) (H : Hp) : Kept C H H := fun _ _ _ h _ => h
theorem Kept.trans {C : Ct} {H H1 H2 : Hp} (a : Kept C H H1) (b : Kept C H1 H2) : Kept C H H2 := fun x o n h s => b x o n (a x o n h s) s
theorem Kept.of {C : Ct} {H H' : Hp} (e : Gr C H H') : Kept C H H' := fun b o n h _ => e b o n h
theorem Kept.upd {C : Ct} {H : Hp} {p : Addr} {u o : HO} (h : H p = some u) (s : soft u = true) : Kept C H (upd H p o) := fun b w n hb hs => by
  by_cases z : b = p
  · subst z
    rw [h] at hb
    cases hb
    rw [s] at hs
    cases hs
  · rw [upd_ne z]
    exact hb
/-- anything else that stays -/
structure Oth (C : Ct) (φ : Hp → Hp → V → Prop) (G H : Hp) (v : V) : Prop where
  now : φ G H v
  keep : ∀ G' H', Ex G G' → Kept C H H' → φ G' H' v
theorem Oth.step {C : Ct} {φ : Hp → Hp → V → Prop} {G H G' H' : Hp} {v : V} (h : Oth C φ G H v) (eg : Ex G G') (eh : Kept C H H') : Oth C φ G' H' v := ⟨h.keep G' H' eg eh, fun G2 H2 e k => h.keep G2 H2 (eg.trans e) (eh.trans k)⟩
def RV (C : Ct) (G H : Hp) (v : V) : DV → Prop
  | .oth φ => Oth C φ G H v
  | .d x => Dp C.K G v x
  | .own ds => ∃ p xs, v = .ref p ∧ H p = some (.lst xs) ∧ C.H0 p = none ∧ G p = none ∧ DpAll C.K G xs ds
  | .dic kvs => ∃ p ks, v = .ref p ∧ H p = some (.dK ks) ∧ C.H0 p = none ∧ G p = none ∧ Paired (fun a b => a.1 = b.1 ∧ Dp C.K G a.2 b.2) ks kvs
  | .dit kvs => ∃ p ks, v = .ref p ∧ H p = some (.dT ks) ∧ C.H0 p = none ∧ G p = none ∧ Paired (fun a b => a.1 = b.1 ∧ Dp C.K G a.2 b.2) ks kvs
  | .dd kvs => ∃ p ks, v = .ref p ∧ RdD C H p ks ∧ Paired (fun a b => a.1 = b.1 ∧ Dp C.K G a.2 b.2) ks kvs
  | .box => ∃ l, C.bx.box = some l ∧ v = .ref l
  | .ob k => ∃ o, C.bx.obs[k]? = some o ∧ v = .ref o.adr
  | .obl ks => ∃ a vs, v = .ref a ∧ G a = some (.lst vs) ∧ Paired (fun v k => ∃ o, C.bx.obs[k]? = some o ∧ v = .ref o.adr) vs ks
theorem obl_ex {C : Ct} {G G' H H' : Hp} {v : V} {ks : List Nat} (e : Ex G G') (h : RV C G H v (.obl ks)) : RV C G' H' v (.obl ks) := by
  obtain ⟨a, vs, h1, h2, h3⟩ := h
  exact ⟨a, vs, h1, e _ _ h2, h3⟩
structure Rel (C : Ct) (G : Hp) (σ : L2.St) (H : Hp) (s : Dt) : Prop where
  fin : Fin C G H s.c
  len : s.env.length = σ.length
  sl : ∀ (i : Nat) x, s.env[i]? = some (some x) → ∃ v, σ[i]? = some (some v) ∧ RV C G H v x
  dis : ∀ (i j : Nat) x y p, i ≠ j → s.env[i]? = some (some x) → s.env[j]? = some (some y) → x.mut = true → y.mut = true → σ[i]? = some (some (.ref p)) → σ[j]? ≠ some (some (.ref p))
theorem paired_mapP {α β : Type} {F G : α → β → Prop} {l₁ : List α} {l₂ : List β} (h : Paired F l₁ l₂) (k : ∀ a b, F a b → G a b) : Paired G l₁ l₂ := Paired.mapP h k
/-- a step: all but the box stays, what was neither data nor a slot's does not become data, no slot becomes the def's own -/
structure Gs (C : Ct) (σ : L2.St) (G H : Hp) (s : Dt) (G' H' : Hp) (s' : Dt) : Prop where
  gr : Gr C H H'
  dom : ∀ b, H b ≠ none → H' b ≠ none
  nk : ∀ b o, G b = none → ¬ C.bx.has b → H b = some o → notTup o = true → (∀ (i : Nat) x, s.env[i]? = some (some x) → x.mut = true → σ[i]? ≠ some (some (.ref b))) → G' b = none
  ks : ∀ (i : Nat) x, s'.env[i]? = some (some x) → x.mut = true → ∃ x', s.env[i]? = some (some x') ∧ x'.mut = true
theorem Gs.refl {C : Ct} {σ : L2.St} {G H : Hp} {s : Dt} : Gs C σ G H s G H s := ⟨Gr.refl C H, fun _ h => h, fun _ _ h _ _ _ _ => h, fun i x h m => ⟨x, h, m⟩⟩
theorem Gs.trans {C : Ct} {σ : L2.St} {G H G1 H1 G2 H2 : Hp} {s s1 s2 : Dt} (a : Gs C σ G H s G1 H1 s1) (b : Gs C σ G1 H1 s1 G2 H2 s2) : Gs C σ G H s G2 H2 s2 :=
  ⟨a.gr.trans b.gr, fun x h => b.dom x (a.dom x h), fun x o h1 hb h2 hn h3 => b.nk x o (a.nk x o h1 hb h2 hn h3) hb (a.gr x o hb h2) hn fun i y e m => by
    obtain ⟨y', e', m'⟩ := a.ks i y e m
    exact h3 i y' e' m', fun i x e m => by
    obtain ⟨y, e', m'⟩ := b.ks i x e m
    exact a.ks i y e' m'⟩
section
variable {C : Ct} {G G' H H' : Hp} {σ : L2.St} {s : Dt} {c c' : Cs}
theorem Gs.grow (eh : Ex H H') (nw : Nw G G' H) : Gs C σ G H s G' H' s := ⟨Gr.of eh, fun b h z => h (fresh_back eh z), fun b o h1 _ h2 hn _ => nw.out h1 h2 hn, fun i x e m => ⟨x, e, m⟩⟩
theorem Gs.side (eh : Ex H H') : Gs C σ G H s G H' s := .grow eh (Nw.refl G H)
theorem Fin.h0 (h : Fin C G H c) {b : Addr} (e : H b = none) : C.H0 b = none := by
  cases q : C.H0 b with
  | none => rfl
  | some o =>
    by_cases z : C.bx.has b
    · exact absurd e (h.bx b z).1.ne
    · rw [h.hh b o z q] at e
      cases e
theorem Fin.step (h : Fin C G H c) (eg : Ex G G') (eh : Gr C H H') (gh : Ex G' H') (nw : Nw G G' H) (ob : ObsAt C.K C.bx.obs G' H' c'.o) (bx : ∀ l, C.bx.has l → Bxs C.bx H' l c') : Fin C G' H' c' := by
  refine ⟨gh, h.g0.trans eg, fun b hb => ?_, h.hh.trans eh, h.ok, ob, fun l hl => ⟨bx l hl, ?_, (h.bx l hl).2.2⟩⟩
  · rcases nw b hb with q | q | ⟨xs, q⟩
    · exact h.nw b q
    · exact .inr (.inl (h.h0 q))
    · cases z : C.H0 b with
      | none => exact .inr (.inl rfl)
      | some o =>
        by_cases hbx : C.bx.has b
        · obtain ⟨u, u3, un⟩ := (h.bx b hbx).1.nt hbx
          rw [q] at u3
          cases u3
          cases un
        · have := h.hh b o hbx z
          rw [q] at this
          cases this
          exact .inr (.inr ⟨xs, rfl⟩)
  · obtain ⟨u, u3, un⟩ := (h.bx l hl).1.nt hl
    exact nw.out (h.bx l hl).2.1 u3 un
/-- the objects stay where a step changes the box or the table alone -/
theorem Fin.obx (h : Fin C G H c) (eg : Ex G G') {l : Addr} (hl : C.bx.box = some l ∨ C.bx.tab = some l) (e : ∀ b o, b ≠ l → H b = some o → H' b = some o) : ObsAt C.K C.bx.obs G' H' c.o :=
  h.ob.keep eg fun o ho b w hb q => e b w (fun z => h.ok.nb l hl o ho (by rw [← z]; exact hb)) q
theorem Fin.obe (h : Fin C G H c) (eg : Ex G G') (e : Ex H H') : ObsAt C.K C.bx.obs G' H' c.o := h.ob.keep eg fun _ _ b w _ q => e b w q
/-- nor where something changes that is new since the call -/
theorem Fin.obu (h : Fin C G H c) (eg : Ex G G') {p : Addr} (h0 : C.H0 p = none) (e : ∀ b o, b ≠ p → H b = some o → H' b = some o) : ObsAt C.K C.bx.obs G' H' c.o :=
  h.ob.keep eg fun o ho b w hb q => e b w (fun z => (h.bx b (.ofo ho hb)).2.2 (by rw [z]; exact h0)) q
theorem Fin.boxAt (h : Fin C G H c) {l : Addr} (hl : C.bx.box = some l) : BoxAt H l c.n := (h.bx l (.ofb hl)).1.box hl
theorem Fin.boxG (h : Fin C G H c) {l : Addr} (hl : C.bx.box = some l) : G l = none := (h.bx l (.ofb hl)).2.1
/-- the box alone changes -/
theorem Fin.boxStep (h : Fin C G H c) {l : Addr} (hl : C.bx.box = some l) (e : ∀ b o, b ≠ l → H b = some o → H' b = some o) (hb : BoxAt H' l c'.n) : ∀ l', C.bx.has l' → Bxs C.bx H' l' c' := fun l' hl' => by
  obtain ⟨a, b, ha, _⟩ := h.boxAt hl
  by_cases z : l' = l
  · subst z
    refine .ofBox hb fun q => ?_
    obtain ⟨ps, h2⟩ := ((h.bx l' hl').1.tab q).ne
    rw [ha] at h2
    cases h2
  · refine ⟨fun q => ?_, fun q => ?_, ?_, fun o2 q => ?_⟩
    · rw [hl] at q
      exact absurd (Option.some.inj q).symm z
    · obtain ⟨ps, h1, h2, h3⟩ := (h.bx l' hl').1.tab q
      refine ⟨ps, e l' _ z h1, h2, fun pos cv hc => ?_⟩
      obtain ⟨c, e1, e2⟩ := h3 pos cv hc
      exact ⟨c, e1, e c _ (fun w => by rw [w, ha] at e2; cases e2) e2⟩
    · have := (h.bx l' hl').1.ne
      cases q : H l' with
      | none => exact absurd q this
      | some o => rw [e l' o z q]; exact Option.some_ne_none _
    · cases w : H l' with
      | none => exact absurd w (h.bx l' hl').1.ne
      | some o =>
        rw [e l' o z w] at q
        exact (h.bx l' hl').1.nt' o2 (w.trans q)
theorem Fin.nbx (h : Fin C G H c) {p : Addr} (e : C.H0 p = none) : ¬ C.bx.has p := fun z => (h.bx p z).2.2 e
theorem RV.step (f : Fin C G H c) (eg : Ex G G') (eh : Gr C H H') (nw : Nw G G' H) {v : V} : ∀ {x : DV}, RV C G H v x → RV C G' H' v x
  | .d x, h => dp_ex eg h
  | .own ds, ⟨p, xs, h1, h2, h3, h4, h5⟩ => by
    refine ⟨p, xs, h1, eh p _ (f.nbx h3) h2, h3, ?_, dpa_ex eg h5⟩
    exact nw.out h4 h2 rfl
  | .dic ks, ⟨p, xs, h1, h2, h3, h4, h5⟩ => by
    refine ⟨p, xs, h1, eh p _ (f.nbx h3) h2, h3, ?_, paired_mapP h5 fun a b q => ⟨q.1, dp_ex eg q.2⟩⟩
    exact nw.out h4 h2 rfl
  | .dit ks, ⟨p, xs, h1, h2, h3, h4, h5⟩ => by
    refine ⟨p, xs, h1, eh p _ (f.nbx h3) h2, h3, ?_, paired_mapP h5 fun a b q => ⟨q.1, dp_ex eg q.2⟩⟩
    exact nw.out h4 h2 rfl
  | .oth φ, h => Oth.step (φ := φ) h eg (Kept.of eh)
  | .dd ks, ⟨p, xs, h1, h2, h5⟩ => ⟨p, xs, h1, h2.gr eh, paired_mapP h5 fun a b q => ⟨q.1, dp_ex eg q.2⟩⟩
  | .box, h => h
  | .ob _, h => h
  | .obl _, ⟨a, vs, h1, h2, h3⟩ => ⟨a, vs, h1, eg _ _ h2, h3⟩
theorem Rel.step (h : Rel C G σ H s) (eg : Ex G G') (eh : Gr C H H') (gh : Ex G' H') (nw : Nw G G' H) (ob : ObsAt C.K C.bx.obs G' H' c'.o) (bx : ∀ l, C.bx.has l → Bxs C.bx H' l c') : Rel C G' σ H' ⟨s.env, c'⟩ := by
  refine ⟨h.fin.step eg eh gh nw ob bx, h.len, fun i x e => ?_, h.dis⟩
  obtain ⟨v, hv, r⟩ := h.sl i x e
  exact ⟨v, hv, r.step h.fin eg eh nw⟩
theorem Rel.grow (h : Rel C G σ H s) (eg : Ex G G') (eh : Ex H H') (gh : Ex G' H') (nw : Nw G G' H) : Rel C G' σ H' s :=
  h.step eg (Gr.of eh) gh nw (h.fin.obe eg eh) fun l hl => (h.fin.bx l hl).1.ex eh
/-- a new object of data -/
theorem Ex.both {p : Addr} {o : HO} (gh : Ex G H) (hp : H p = none) : Ex (upd G p o) (upd H p o) := fun b u e => by
  by_cases z : b = p
  · rw [z, upd_same] at e ⊢
    exact e
  · rw [upd_ne z] at e ⊢
    exact gh b u e
theorem Nw.one {p : Addr} {o : HO} (hp : H p = none) : Nw G (upd G p o) H := fun b hb => by
  by_cases z : b = p
  · exact .inr (.inl (by rw [z]; exact hp))
  · rw [upd_ne z] at hb
    exact .inl hb
theorem Nw.trans {G1 G2 H1 : Hp} (a : Nw G G1 H) (b : Nw G1 G2 H1) (e : Ex H H1) : Nw G G2 H := fun x hx => by
  rcases b x hx with q | q | ⟨xs, q⟩
  · exact a x q
  · exact .inr (.inl (fresh_back e q))
  · cases z : H x with
    | none => exact .inr (.inl rfl)
    | some o =>
      have := e x o z
      rw [q] at this
      cases this
      exact .inr (.inr ⟨xs, rfl⟩)
theorem Rel.new (h : Rel C G σ H s) {p : Addr} {o : HO} (hp : H p = none) : Rel C (upd G p o) σ (upd H p o) s ∧ Ex G (upd G p o) ∧ Gs C σ G H s (upd G p o) (upd H p o) s := by
  have g1 : G p = none := by
    cases q : G p with
    | none => rfl
    | some u => rw [h.fin.gh p u q] at hp; cases hp
  exact ⟨h.grow (Ex.new g1) (Ex.new hp) (Ex.both h.fin.gh hp) (Nw.one hp), Ex.new g1, .grow (Ex.new hp) (Nw.one hp)⟩
theorem Rel.notslot (h : Rel C G σ H s) {p : Addr} (hp : H p = none) (i : Nat) (x : DV) (e : s.env[i]? = some (some x)) (m : x.mut = true) : σ[i]? ≠ some (some (.ref p)) := fun q => by
  obtain ⟨v, hv, r⟩ := h.sl i x e
  rw [hv] at q
  cases q
  cases x with
  | d _ => cases m
  | box => cases m
  | ob _ => cases m
  | obl _ => cases m
  | own ds =>
    obtain ⟨p', xs, a1, a2, _⟩ := r
    cases a1
    rw [hp] at a2
    cases a2
  | dic ds =>
    obtain ⟨p', xs, a1, a2, _⟩ := r
    cases a1
    rw [hp] at a2
    cases a2
  | dit ds =>
    obtain ⟨p', xs, a1, a2, _⟩ := r
    cases a1
    rw [hp] at a2
    cases a2
  | dd _ => cases m
  | oth _ => cases m
theorem Rel.gnone (h : Rel C G σ H s) {p : Addr} (hp : H p = none) : G p = none := by
  cases q : G p with
  | none => rfl
  | some u => rw [h.fin.gh p u q] at hp; cases hp
/-- a new object that is not (yet) data -/
theorem Rel.aside (h : Rel C G σ H s) (e : Ex H H') : Rel C G σ H' s := h.grow (Ex.refl G) e (h.fin.gh.trans e) (Nw.refl G H)
end
section
variable {C : Ct} {G G2 H H2 : Hp} {σ : L2.St} {s : Dt} {c2 : Cs}
/-- back to the data of before, but for tuples and what is locked: what else came to the data is forgotten -/
theorem roll_lst (e : Ex G G2) (gh : Ex G2 H2) {p : Addr} {o : HO} (g : G p = none) (h : H2 p = some o) (k : notTup o = true) : rollG G G2 p = none := roll_no g fun o2 h2 => by
  have := gh _ _ h2
  rw [h] at this
  cases this
  exact k
theorem Rel.roll (r : Rel C G σ H s) (e2 : Ex G G2) (f2 : Fin C G2 H2 c2) (gr : Gr C H H2) : Rel C (rollG G G2) σ H2 ⟨s.env, c2⟩ := by
  refine ⟨⟨(roll_in e2).trans f2.gh, r.fin.g0.trans roll_old, fun b hb => ?_, f2.hh, r.fin.ok, f2.ob.roll e2, fun l hl => ⟨(f2.bx l hl).1, roll_no (r.fin.bx l hl).2.1 (fun o z => by rw [(f2.bx l hl).2.1] at z; cases z), (f2.bx l hl).2.2⟩⟩, r.len, fun i x e => ?_, r.dis⟩
  · rcases roll_some hb with z | z
    · exact r.fin.nw b z
    · exact f2.nw b z
  · obtain ⟨v, hv, rv⟩ := r.sl i x e
    refine ⟨v, hv, ?_⟩
    cases x with
    | d x => exact dp_ex roll_old rv
    | box => exact rv
    | ob _ => exact rv
    | obl _ => exact obl_ex roll_old rv
    | own ds =>
      obtain ⟨p, xs, a1, a2, a3, a4, a5⟩ := rv
      have a2' := gr p _ (r.fin.nbx a3) a2
      exact ⟨p, xs, a1, a2', a3, roll_lst e2 f2.gh a4 a2' rfl, dpa_ex roll_old a5⟩
    | dic ks =>
      obtain ⟨p, xs, a1, a2, a3, a4, a5⟩ := rv
      have a2' := gr p _ (r.fin.nbx a3) a2
      exact ⟨p, xs, a1, a2', a3, roll_lst e2 f2.gh a4 a2' rfl, paired_mapP a5 fun a b q => ⟨q.1, dp_ex roll_old q.2⟩⟩
    | dit ks =>
      obtain ⟨p, xs, a1, a2, a3, a4, a5⟩ := rv
      have a2' := gr p _ (r.fin.nbx a3) a2
      exact ⟨p, xs, a1, a2', a3, roll_lst e2 f2.gh a4 a2' rfl, paired_mapP a5 fun a b q => ⟨q.1, dp_ex roll_old q.2⟩⟩
    | oth φ => exact Oth.step (φ := φ) rv roll_old (Kept.of gr)
    | dd ks =>
      obtain ⟨p, xs, a1, a2, a5⟩ := rv
      exact ⟨p, xs, a1, a2.gr gr, paired_mapP a5 fun a b q => ⟨q.1, dp_ex roll_old q.2⟩⟩
end
abbrev WE := Dt → (PyData → Dt → Prop) → Prop
abbrev WA := Dt → (List PyData → Dt → Prop) → Prop
abbrev WT := Dt → (Bool → Dt → Prop) → Prop
def IE (C : Ct) (t : TE) (w : WE) : Prop := ∀ G σ H s Q Q', Rel C G σ H s → w s Q →
  (∀ v d s' G' H', Q d s' → Rel C G' σ H' s' → Ex G G' → Gs C σ G H s G' H' s' → Dp C.K G' v d → Q' v H') → t σ H Q'
def IA (C : Ct) (t : TA) (w : WA) : Prop := ∀ G σ H s Q Q', Rel C G σ H s → w s Q →
  (∀ vs ds s' G' H', Q ds s' → Rel C G' σ H' s' → Ex G G' → Gs C σ G H s G' H' s' → DpAll C.K G' vs ds → Q' vs H') → t σ H Q'
def IT (C : Ct) (t : TT) (w : WT) : Prop := ∀ G σ H s Q Q', Rel C G σ H s → w s Q →
  (∀ b s' G' H', Q b s' → Rel C G' σ H' s' → Ex G G' → Gs C σ G H s G' H' s' → Q' b H') → t σ H Q'
/-- a new list of the def's own -/
def IO (C : Ct) (t : TE) (w : WA) : Prop := ∀ G σ H s Q Q', Rel C G σ H s → w s Q →
  (∀ p xs ds s' G' H', Q ds s' → Rel C G' σ H' s' → Ex G G' → Gs C σ G H s G' H' s' → H p = none → H' p = some (.lst xs) → G' p = none → DpAll C.K G' xs ds → (∀ (i : Nat) x, s'.env[i]? = some (some x) → x.mut = true → σ[i]? ≠ some (some (.ref p))) → Q' (.ref p) H') → t σ H Q'
/-- a value that is only looked at: data, or a list of the def's own -/
def Pk (C : Ct) (G H : Hp) (v : V) (d : PyData) : Prop := Dp C.K G v d ∨ ∃ p xs ds, v = .ref p ∧ d = .list ds ∧ H p = some (.lst xs) ∧ ¬ C.bx.has p ∧ DpAll C.K G xs ds
def IP (C : Ct) (t : TE) (w : WE) : Prop := ∀ G σ H s Q Q', Rel C G σ H s → w s Q →
  (∀ v d s' G' H', Q d s' → Rel C G' σ H' s' → Ex G G' → Gs C σ G H s G' H' s' → Pk C G' H' v d → Q' v H') → t σ H Q'
section
variable {C : Ct} {G G' H H' : Hp} {v : V} {d : PyData}
theorem Pk.mono (h : Pk C G H v d) (eg : Ex G G') (eh : Gr C H H') : Pk C G' H' v d := by
  rcases h with h | ⟨p, xs, ds, h1, h2, h3, h4, h5⟩
  · exact .inl (dp_ex eg h)
  · exact .inr ⟨p, xs, ds, h1, h2, eh p _ h4 h3, h4, dpa_ex eg h5⟩
theorem Pk.dp (h : Pk C G H v d) (e : Ex G H) : Dp C.K H v d := by
  rcases h with h | ⟨p, xs, ds, rfl, rfl, h3, h4, h5⟩
  · exact dp_ex e h
  · exact .lst h3 (dpa_ex e h5)
def isT : PyData → Bool
  | .tuple _ => true
  | _ => false
def its : PyData → List PyData
  | .tuple ds => ds
  | .list ds => ds
  | _ => []
def seqd : PyData → Bool
  | .tuple _ => true
  | .list _ => true
  | _ => false
theorem Pk.seq (h : Pk C G H v d) (e : Ex G H) (hs : seqd d = true) : ∃ p xs, v = .ref p ∧ SqB C.K (isT d) H p xs ∧ DpAll C.K G xs (its d) := by
  rcases h with h | ⟨p, xs, ds, rfl, rfl, h3, h4, h5⟩
  · cases h with
    | lst h t => exact ⟨_, _, rfl, .inl (.inl (e _ _ h)), t⟩
    | tup h t => exact ⟨_, _, rfl, Evl.ex_t e h, t⟩
    | _ => cases hs
  · exact ⟨p, xs, rfl, .inl (.inl h3), h5⟩
end
section
variable {C : Ct} {t ta tb tc : TE} {w wa wb : WE} {tA : TA} {wA : WA}
theorem ip_of (h : IE C t w) : IP C t w := fun G σ H s Q Q' r q k => h G σ H s Q Q' r q fun v d s' G' H' q' r' eg eh p => k v d s' G' H' q' r' eg eh (.inl p)
/-- a list of the def's own becomes data -/
def wPubO (w : WA) : WE := fun s Q => w s fun ds s' => Q (.list ds) s'
theorem ie_own {w : WA} (h : IO C t w) : IE C t (wPubO w) := fun G σ H s Q Q' r q k => h G σ H s _ Q' r q fun p xs ds s' G' H' q' r' eg eh hp h1 h2 h3 h4 => by
  have eh' : Ex (upd G' p (.lst xs)) H' := fun b u e => by
    by_cases z : b = p
    · rw [z, upd_same] at e
      rw [z, h1]
      exact e
    · rw [upd_ne z] at e
      exact r'.fin.gh b u e
  have eg' : Ex G' (upd G' p (.lst xs)) := Ex.new h2
  have nw : ∀ b, (upd G' p (.lst xs)) b ≠ none → G' b ≠ none ∨ b = p := fun b hb => by
    by_cases z : b = p
    · exact .inr z
    · rw [upd_ne z] at hb
      exact .inl hb
  have h0 : C.H0 p = none := r.fin.h0 hp
  refine k (.ref p) _ s' (upd G' p (.lst xs)) H' q' ⟨⟨eh', r'.fin.g0.trans eg', fun b hb => ?_, r'.fin.hh, r'.fin.ok, r'.fin.obe eg' (Ex.refl _), fun l hl => ⟨(r'.fin.bx l hl).1, ?_, (r'.fin.bx l hl).2.2⟩⟩, r'.len, fun i x e => ?_, r'.dis⟩ (eg.trans eg') ⟨eh.gr, eh.dom, fun b o h1 hb h2 hn h3 => by rw [upd_ne (fun z => by rw [z, hp] at h2; cases h2)]; exact eh.nk b o h1 hb h2 hn h3, eh.ks⟩ (.lst upd_same (dpa_ex eg' h3))
  · rcases nw b hb with z | z
    · exact r'.fin.nw b z
    · exact .inr (.inl (by rw [z]; exact h0))
  · rw [upd_ne (fun z => (r.fin.nbx h0) (by rw [← z]; exact hl))]
    exact (r'.fin.bx l hl).2.1
  · obtain ⟨v, hv, rv⟩ := r'.sl i x e
    refine ⟨v, hv, ?_⟩
    cases x with
    | d x => exact dp_ex eg' rv
    | box => exact rv
    | ob _ => exact rv
    | obl _ => exact obl_ex eg' rv
    | own ds' =>
      obtain ⟨p', xs', a1, a2, a3, a4, a5⟩ := rv
      refine ⟨p', xs', a1, a2, a3, ?_, dpa_ex eg' a5⟩
      rw [upd_ne fun z => h4 i _ e rfl (by rw [hv, a1, z])]
      exact a4
    | dic ks =>
      obtain ⟨p', xs', a1, a2, a3, a4, a5⟩ := rv
      refine ⟨p', xs', a1, a2, a3, ?_, paired_mapP a5 fun a b q => ⟨q.1, dp_ex eg' q.2⟩⟩
      rw [upd_ne fun z => h4 i _ e rfl (by rw [hv, a1, z])]
      exact a4
    | dit ks =>
      obtain ⟨p', xs', a1, a2, a3, a4, a5⟩ := rv
      refine ⟨p', xs', a1, a2, a3, ?_, paired_mapP a5 fun a b q => ⟨q.1, dp_ex eg' q.2⟩⟩
      rw [upd_ne fun z => h4 i _ e rfl (by rw [hv, a1, z])]
      exact a4
    | oth φ => exact Oth.step (φ := φ) rv eg' (Kept.refl C H')
    | dd ks =>
      obtain ⟨p', xs', a1, a2, a5⟩ := rv
      exact ⟨p', xs', a1, a2, paired_mapP a5 fun a b q => ⟨q.1, dp_ex eg' q.2⟩⟩
def wC (d : PyData) : WE := fun s Q => Q d s
theorem ie_c {v : V} {d : PyData} (h : ∀ G, Dp C.K G v d) : IE C (tC v) (wC d) := fun G σ H s Q Q' r q k => k v d s G H q r (Ex.refl G) Gs.refl (h G)
def wV (i : Nat) : WE := fun s Q => ∃ d, s.env[i]? = some (some (.d d)) ∧ Q d s
theorem ie_v {i : Nat} : IE C (tVar i) (wV i) := fun G σ H s Q Q' r q k => by
  obtain ⟨d, e, q⟩ := q
  obtain ⟨v, hv, rv⟩ := r.sl i _ e
  exact ⟨v, hv, k v d s G H q r (Ex.refl G) Gs.refl rv⟩
/-- a list of the def's own, from now on data -/
def wPub (i : Nat) : WE := fun s Q => ∃ ds, s.env[i]? = some (some (.own ds)) ∧ Q (.list ds) ⟨s.env.set i (some (.d (.list ds))), s.c⟩
theorem ie_pub {i : Nat} : IE C (tVar i) (wPub i) := fun G σ H s Q Q' r q k => by
  obtain ⟨ds, e, q⟩ := q
  obtain ⟨v, hv, p, xs, rfl, h1, h2, h3, h4⟩ := r.sl i _ e
  have eg : Ex G (upd G p (.lst xs)) := Ex.new h3
  have gh : Ex (upd G p (.lst xs)) H := fun b u e => by
    by_cases z : b = p
    · rw [z, upd_same] at e
      rw [z, h1]
      exact e
    · rw [upd_ne z] at e
      exact r.fin.gh b u e
  have hi : i < s.env.length := (List.getElem?_eq_some_iff.mp e).1
  have old : ∀ (j : Nat) x, (s.env.set i (some (.d (.list ds))))[j]? = some (some x) → (j = i ∧ x = .d (.list ds)) ∨ (j ≠ i ∧ s.env[j]? = some (some x)) := fun j x ej => by
    by_cases z : j = i
    · subst z
      rw [List.getElem?_set_self hi] at ej
      cases ej
      exact .inl ⟨rfl, rfl⟩
    · rw [List.getElem?_set_ne (Ne.symm z)] at ej
      exact .inr ⟨z, ej⟩
  refine ⟨.ref p, hv, k _ _ _ (upd G p (.lst xs)) H q ⟨⟨gh, r.fin.g0.trans eg, fun b hb => ?_, r.fin.hh, r.fin.ok, r.fin.obe eg (Ex.refl _), fun l hl => ⟨(r.fin.bx l hl).1, ?_, (r.fin.bx l hl).2.2⟩⟩, ?_, fun j x ej => ?_, fun j1 j2 x y p' hne e1 e2 m1 m2 => ?_⟩ eg ⟨Gr.refl C H, fun _ h => h, fun b _ h1 _ _ _ h3 => by rw [upd_ne (fun z => h3 i _ e rfl (by rw [z]; exact hv))]; exact h1, fun j x ej m => by
      rcases old j x ej with ⟨_, rfl⟩ | ⟨_, ej⟩
      · cases m
      · exact ⟨x, ej, m⟩⟩ (.lst upd_same (dpa_ex eg h4))⟩
  · by_cases z : b = p
    · exact .inr (.inl (by rw [z]; exact h2))
    · rw [upd_ne z] at hb
      exact r.fin.nw b hb
  · rw [upd_ne (fun z => (r.fin.nbx h2) (by rw [← z]; exact hl))]
    exact (r.fin.bx l hl).2.1
  · rw [List.length_set]
    exact r.len
  · rcases old j x ej with ⟨rfl, rfl⟩ | ⟨z, ej⟩
    · exact ⟨_, hv, .lst upd_same (dpa_ex eg h4)⟩
    · obtain ⟨v', hv', rv⟩ := r.sl j x ej
      refine ⟨v', hv', ?_⟩
      cases x with
      | d x => exact dp_ex eg rv
      | box => exact rv
      | ob _ => exact rv
      | obl _ => exact obl_ex eg rv
      | own ds' =>
        obtain ⟨p', xs', a1, a2, a3, a4, a5⟩ := rv
        refine ⟨p', xs', a1, a2, a3, ?_, dpa_ex eg a5⟩
        rw [upd_ne fun z' => r.dis i j _ _ p (Ne.symm z) e ej rfl rfl hv (by rw [hv', a1, z'])]
        exact a4
      | dic ks =>
        obtain ⟨p', xs', a1, a2, a3, a4, a5⟩ := rv
        refine ⟨p', xs', a1, a2, a3, ?_, paired_mapP a5 fun a b q => ⟨q.1, dp_ex eg q.2⟩⟩
        rw [upd_ne fun z' => r.dis i j _ _ p (Ne.symm z) e ej rfl rfl hv (by rw [hv', a1, z'])]
        exact a4
      | dit ks =>
        obtain ⟨p', xs', a1, a2, a3, a4, a5⟩ := rv
        refine ⟨p', xs', a1, a2, a3, ?_, paired_mapP a5 fun a b q => ⟨q.1, dp_ex eg q.2⟩⟩
        rw [upd_ne fun z' => r.dis i j _ _ p (Ne.symm z) e ej rfl rfl hv (by rw [hv', a1, z'])]
        exact a4
      | oth φ => exact Oth.step (φ := φ) rv eg (Kept.refl C H)
      | dd ks =>
        obtain ⟨p', xs', a1, a2, a5⟩ := rv
        exact ⟨p', xs', a1, a2, paired_mapP a5 fun a b q => ⟨q.1, dp_ex eg q.2⟩⟩
  · rcases old j1 x e1 with ⟨rfl, rfl⟩ | ⟨z1, e1⟩
    · cases m1
    · rcases old j2 y e2 with ⟨rfl, rfl⟩ | ⟨z2, e2⟩
      · cases m2
      · exact r.dis j1 j2 x y p' hne e1 e2 m1 m2
def DV.look : DV → Option PyData
  | .d x => some x
  | .own ds => some (.list ds)
  | _ => none
/-- a name that is only looked at -/
def wP (i : Nat) : WE := fun s Q => ∃ x d, s.env[i]? = some (some x) ∧ x.look = some d ∧ Q d s
theorem ip_v {i : Nat} : IP C (tVar i) (wP i) := fun G σ H s Q Q' r q k => by
  obtain ⟨x, d, e, hl, q⟩ := q
  obtain ⟨v, hv, rv⟩ := r.sl i _ e
  refine ⟨v, hv, k v d s G H q r (Ex.refl G) Gs.refl ?_⟩
  cases x with
  | d x => cases hl; exact .inl rv
  | own ds =>
    cases hl
    obtain ⟨p, xs, a1, a2, a3, a4, a5⟩ := rv
    exact .inr ⟨p, xs, ds, a1, rfl, a2, r.fin.nbx a3, a5⟩
  | dic _ => cases hl
  | dit _ => cases hl
  | dd _ => cases hl
  | oth _ => cases hl
  | box => cases hl
  | ob _ => cases hl
  | obl _ => cases hl
theorem ia_nil : IA C tNil (fun s Q => Q [] s) := fun G σ H s Q Q' r q k => k [] [] s G H q r (Ex.refl G) Gs.refl .nil
def wCons (w : WE) (wr : WA) : WA := fun s Q => w s fun d s1 => wr s1 fun ds s2 => Q (d :: ds) s2
theorem ia_cons {tr : TA} {wr : WA} (h : IE C t w) (hr : IA C tr wr) : IA C (tCons t tr) (wCons w wr) := fun G σ H s Q Q' r q k =>
  h G σ H s _ _ r q fun v d s1 G1 H1 q1 r1 eg1 eh1 p1 => hr G1 σ H1 s1 _ _ r1 q1 fun vs ds s2 G2 H2 q2 r2 eg2 eh2 p2 =>
    k (v :: vs) (d :: ds) s2 G2 H2 q2 r2 (eg1.trans eg2) (eh1.trans eh2) (.cons (dp_ex eg2 p1) p2)
def wTup (w : WA) : WE := fun s Q => w s fun ds s1 => ds.length ≤ 100000 ∧ Q (.tuple ds) s1
theorem ie_tup (h : IA C tA wA) : IE C (tTup tA) (wTup wA) := fun G σ H s Q Q' r q k =>
  h G σ H s _ _ r q fun vs ds s1 G1 H1 q1 r1 eg1 eh1 p1 => ⟨by rw [dpa_len p1]; exact sz_of q1.1, fun p hp => by
    obtain ⟨r2, eg2, eh2⟩ := r1.new (o := .tup vs) hp
    exact k (.ref p) _ s1 _ _ q1.2 r2 (eg1.trans eg2) (eh1.trans eh2) (.tup (.inl (.inl upd_same)) (dpa_ex eg2 p1))⟩
def wLst (w : WA) : WA := fun s Q => w s fun ds s1 => ds.length ≤ 100000 ∧ Q ds s1
/-- a new list, made at the end -/
theorem own_new {G σ H s G1 H1 s1} {Q : List PyData → Dt → Prop} {Q' : VK} {vs : List V} {ds : List PyData} (r : Rel C G σ H s) (q1 : Q ds s1) (r1 : Rel C G1 σ H1 s1) (eg1 : Ex G G1) (eh1 : Gs C σ G H s G1 H1 s1) (p1 : DpAll C.K G1 vs ds) {p : Addr} (hp : H1 p = none)
    (k : ∀ p xs ds s' G' H', Q ds s' → Rel C G' σ H' s' → Ex G G' → Gs C σ G H s G' H' s' → H p = none → H' p = some (.lst xs) → G' p = none → DpAll C.K G' xs ds → (∀ (i : Nat) x, s'.env[i]? = some (some x) → x.mut = true → σ[i]? ≠ some (some (.ref p))) → Q' (.ref p) H') : Q' (.ref p) (upd H1 p (.lst vs)) := by
  refine k p vs ds s1 G1 _ q1 (r1.aside (Ex.new hp)) eg1 (eh1.trans (.side (Ex.new hp))) ?_ upd_same (r1.gnone hp) p1 (r1.notslot hp)
  cases q : H p with
  | none => rfl
  | some o =>
    by_cases z : C.bx.has p
    · exact absurd hp (r1.fin.bx p z).1.ne
    · rw [eh1.gr p o z q] at hp
      cases hp
theorem io_lst (h : IA C tA wA) : IO C (tLst tA) (wLst wA) := fun G σ H s Q Q' r q k =>
  h G σ H s _ _ r q fun vs ds s1 G1 H1 q1 r1 eg1 eh1 p1 => ⟨by rw [dpa_len p1]; exact sz_of q1.1, fun p hp => own_new r q1.2 r1 eg1 eh1 p1 hp k⟩
def wI (C : Int → Int → Prop) (g : Int → Int → PyData) (wa wb : WE) : WE := fun s Q => wa s fun x s1 => wb s1 fun y s2 => ∃ i j, x = .int i ∧ y = .int j ∧ C i j ∧ Q (g i j) s2
theorem dp_int {K : PySem.W.Frag} {H : Hp} {v : V} {i : Int} (h : Dp K H v (.int i)) : v = .int i := by cases h; rfl
theorem dp_bl {K : PySem.W.Frag} {H : Hp} {v : V} {i : Bool} (h : Dp K H v (.bool i)) : v = .bl i := by cases h; rfl
theorem dp_str {K : PySem.W.Frag} {H : Hp} {v : V} {i : Str} (h : Dp K H v (.str i)) : v = .str i := by cases h; rfl
theorem ie_op2 {r2 : R2} {g : PyData → PyData → Dt → (PyData → Dt → Prop) → Prop} (hg : ∀ G σ H s x y d e Q Q', Rel C G σ H s → Pk C G H x d → Pk C G H y e → g d e s Q →
      (∀ v z s' G' H', Q z s' → Rel C G' σ H' s' → Ex G G' → Gs C σ G H s G' H' s' → Dp C.K G' v z → Q' v H') → r2 x y H Q') (ha : IP C ta wa) (hb : IP C tb wb) :
    IE C (tOp r2 ta tb) (fun s Q => wa s fun d s1 => wb s1 fun e s2 => g d e s2 Q) := fun G σ H s Q Q' r q k =>
  ha G σ H s _ _ r q fun v d s1 G1 H1 q1 r1 eg1 eh1 p1 => hb G1 σ H1 s1 _ _ r1 q1 fun v2 d2 s2 G2 H2 q2 rr eg2 eh2 p2 =>
    hg G2 σ H2 s2 v v2 d d2 Q Q' rr (p1.mono eg2 eh2.gr) p2 q2 fun v z s' G' H' q r' eg eh p => k v z s' G' H' q r' ((eg1.trans eg2).trans eg) ((eh1.trans eh2).trans eh) p
end
end Dw
namespace Dw
open PySem PySem.Spec PyProof.Rows L2 OgR Evl
structure DE (X : Cx) (C : Ct) (e : Expr) (t : TE) (w : WE) : Prop where
  pe : PE X e t
  ie : IE C t w
structure DP (X : Cx) (C : Ct) (e : Expr) (t : TE) (w : WE) : Prop where
  pe : PE X e t
  ip : IP C t w
structure DO (X : Cx) (C : Ct) (e : Expr) (t : TE) (w : WA) : Prop where
  pe : PE X e t
  io : IO C t w
structure DA (X : Cx) (C : Ct) (es : List Expr) (t : TA) (w : WA) : Prop where
  pa : PA X es t
  ia : IA C t w
structure DT (X : Cx) (C : Ct) (e : Expr) (t : TT) (w : WT) : Prop where
  pt : PT X e t
  it : IT C t w
structure DW (X : Cx) (C : Ct) (e : Expr) (t : TT) (w : WT) : Prop where
  pw : PW X e t
  it : IT C t w
/-- a list looked at whose place is known: fresh, or of the def's own -/
def IL (C : Ct) (t : TE) (w : WA) : Prop := ∀ G σ H s Q Q', Rel C G σ H s → w s Q →
  (∀ p xs ds s' G' H', Q ds s' → Rel C G' σ H' s' → Ex G G' → Gs C σ G H s G' H' s' → H' p = some (.lst xs) → ¬ C.bx.has p → DpAll C.K G' xs ds → Q' (.ref p) H') → t σ H Q'
structure DL (X : Cx) (C : Ct) (e : Expr) (t : TE) (w : WA) : Prop where
  pe : PE X e t
  il : IL C t w
section
variable {X : Cx} {C : Ct} {a b e : Expr} {es : List Expr} {pos : Pos} {t ta tb tc : TE} {w wa wb wc : WE} {tA : TA} {wA : WA}
theorem DE.p (h : DE X C e t w) : DP X C e t w := ⟨h.pe, ip_of h.ie⟩
theorem DO.d {w : WA} (h : DO X C e t w) : DE X C e t (wPubO w) := ⟨h.pe, ie_own h.io⟩
theorem DO.l {w : WA} (h : DO X C e t w) : DL X C e t w := ⟨h.pe, fun G σ H s Q Q' r q k => h.io G σ H s Q Q' r q fun p xs ds s' G' H' q' r' eg eh hp h1 h2 h3 h4 =>
  k p xs ds s' G' H' q' r' eg eh h1 (r'.fin.nbx (r.fin.h0 hp)) h3⟩
theorem DW.q {t : TT} {w : WT} (h : DW X C e t w) : DT X C e t w := ⟨h.pw.pt, h.it⟩
theorem de_int {i : Int} {j} : DE X C (.Constant (.int i) j pos) (tC (.int i)) (wC (.int i)) := ⟨pe_int, ie_c fun _ => .int i⟩
theorem de_str {i : Str} {j} : DE X C (.Constant (.str i) j pos) (tC (.str i)) (wC (.str i)) := ⟨pe_str, ie_c fun _ => .str i⟩
theorem de_bl {i : Bool} {j} : DE X C (.Constant (.bool i) j pos) (tC (.bl i)) (wC (.bool i)) := ⟨pe_bl, ie_c fun _ => .bl i⟩
theorem de_non {j} : DE X C (.Constant .none j pos) (tC .non) (wC .none) := ⟨pe_non, ie_c fun _ => .non⟩
theorem de_v (i : Nat) {x : Str} (hN : X.N[i]? = some x := by rfl) (hv : Vis X.env.scope x := by first | exact Or.inl rfl | exact Or.inr (Or.inl rfl) | exact Or.inr (Or.inr rfl)) (hd : (x == ("__debug__" : Str)) = false := by decide)
    (hcd : (x == ("__classdict__" : Str)) = false := by decide) : DE X C (.Name x pos) (tVar i) (wV i) := ⟨pe_var hN hv hd hcd, ie_v⟩
theorem de_pub (i : Nat) {x : Str} (hN : X.N[i]? = some x := by rfl) (hv : Vis X.env.scope x := by first | exact Or.inl rfl | exact Or.inr (Or.inl rfl) | exact Or.inr (Or.inr rfl)) (hd : (x == ("__debug__" : Str)) = false := by decide)
    (hcd : (x == ("__classdict__" : Str)) = false := by decide) : DE X C (.Name x pos) (tVar i) (wPub i) := ⟨pe_var hN hv hd hcd, ie_pub⟩
theorem dp_v (i : Nat) {x : Str} (hN : X.N[i]? = some x := by rfl) (hv : Vis X.env.scope x := by first | exact Or.inl rfl | exact Or.inr (Or.inl rfl) | exact Or.inr (Or.inr rfl)) (hd : (x == ("__debug__" : Str)) = false := by decide)
    (hcd : (x == ("__classdict__" : Str)) = false := by decide) : DP X C (.Name x pos) (tVar i) (wP i) := ⟨pe_var hN hv hd hcd, ip_v⟩
def wL (i : Nat) : WA := fun s Q => ∃ ds, s.env[i]? = some (some (.own ds)) ∧ Q ds s
theorem da_nil : DA X C [] tNil (fun s Q => Q [] s) := ⟨pa_nil, ia_nil⟩
theorem da_cons {tr : TA} {wr : WA} (h : DE X C e t w) (hr : DA X C es tr wr) (hs : starEach (e :: es) X.env = (false, eval e X.env) :: starEach es X.env := by rfl) : DA X C (e :: es) (tCons t tr) (wCons w wr) := ⟨pa_cons h.pe hr.pa hs, ia_cons h.ie hr.ia⟩
theorem de_tup {k} (h : DA X C es tA wA) : DE X C (.Tuple es k pos) (tTup tA) (wTup wA) := ⟨pe_tup h.pa, ie_tup h.ia⟩
theorem do_lst (h : DA X C es tA wA) : DO X C (.List es pos) (tLst tA) (wLst wA) := ⟨pe_lst h.pa, io_lst h.ia⟩
abbrev G2 := PyData → PyData → Dt → (PyData → Dt → Prop) → Prop
structure R2D (C : Ct) (r : R2) (g : G2) : Prop where
  run : ∀ G σ H s x y d e Q Q', Rel C G σ H s → Pk C G H x d → Pk C G H y e → g d e s Q → (∀ v z s' G' H', Q z s' → Rel C G' σ H' s' → Ex G G' → Gs C σ G H s G' H' s' → Dp C.K G' v z → Q' v H') → r x y H Q'
structure OpD (X : Cx) (C : Ct) (f : Value → Value → Sem Value) (r : R2) (g : G2) : Prop where
  op : OpR X f r
  rd : R2D C r g
def w2 (g : G2) (wa wb : WE) : WE := fun s Q => wa s fun d s1 => wb s1 fun e s2 => g d e s2 Q
theorem de_bin {op : Operator} {r : R2} {g : G2} (o : OpD X C (binaryOp op) r g) (ha : DP X C a ta wa) (hb : DP X C b tb wb) : DE X C (.BinOp a op b pos) (tOp r ta tb) (w2 g wa wb) := ⟨pe_op o.op ha.pe hb.pe, ie_op2 o.rd.run ha.ip hb.ip⟩
theorem de_cmp {op : CmpOp} {r : R2} {g : G2} (o : OpD X C (compareOp op) r g) (ha : DP X C a ta wa) (hb : DP X C b tb wb) (hm : behindInMarks op b = false := by first | exact nomark _ | rfl) : DE X C (.Compare a [op] [b] pos) (tOp r ta tb) (w2 g wa wb) := ⟨pe_cmpR o.op ha.pe hb.pe hm, ie_op2 o.rd.run ha.ip hb.ip⟩
/-- a value as a test -/
def wTest (w : WE) : WT := fun s Q => w s fun d s1 => ∃ k, d = .bool k ∧ Q k s1
theorem it_test (h : IE C t w) : IT C (tTest t) (wTest w) := fun G σ H s Q Q' r q k => h G σ H s _ _ r q fun v d s1 G1 H1 q1 r1 eg eh p => by
  obtain ⟨b, rfl, q2⟩ := q1
  exact ⟨b, dp_bl p, k b s1 G1 H1 q2 r1 eg eh⟩
theorem it_B (h : IE C t w) : IT C (tB t) (wTest w) := it_test h
theorem dt_cmp {op : CmpOp} {r : R2} {g : G2} (o : OpD X C (compareOp op) r g) (ha : DP X C a ta wa) (hb : DP X C b tb wb) (hm : behindInMarks op b = false := by first | exact nomark _ | rfl) : DT X C (.Compare a [op] [b] pos) (tTest (tOp r ta tb)) (wTest (w2 g wa wb)) :=
  ⟨pt_cmpR o.op ha.pe hb.pe hm, it_test (ie_op2 o.rd.run ha.ip hb.ip)⟩
theorem dt_val (h : DE X C e t w) (he : ∀ whole, isTrue e X.env whole = (do let v ← whole; standAt e.pos; holding [v] (truthy v)) := by intro _; rfl) : DT X C e (tB t) (wTest w) := ⟨pt_val h.pe he, it_B h.ie⟩
/-- a op b op' c -/
def wChain (g g' : G2) (wa wb wc : WE) : WE := fun s Q => wa s fun d s1 => wb s1 fun e s2 => g d e s2 fun z s3 => ∃ k, z = .bool k ∧ if k = true then wc s3 fun f s4 => g' e f s4 Q else Q (.bool false) s3
theorem ie_chain {r r' : R2} {g g' : G2} (hr : R2D C r g) (hr' : R2D C r' g') (ha : IP C ta wa) (hb : IP C tb wb) (hc : IP C tc wc) : IE C (tChain r r' ta tb tc) (wChain g g' wa wb wc) := fun G σ H s Q Q' r q k =>
  ha G σ H s _ _ r q fun v d s1 G1 H1 q1 r1 eg1 eh1 p1 => hb G1 σ H1 s1 _ _ r1 q1 fun v2 d2 s2 G2 H2 q2 rr eg2 eh2 p2 =>
    hr.run G2 σ H2 s2 v v2 d d2 _ _ rr (p1.mono eg2 eh2.gr) p2 q2 fun v3 z s3 G3 H3 q3 r3 eg3 eh3 p3 => by
      obtain ⟨kk, rfl, q3⟩ := q3
      refine ⟨kk, dp_bl p3, ?_⟩
      cases kk with
      | false =>
        refine iteF ?_
        rw [if_neg (by decide)] at q3
        exact k _ _ s3 G3 H3 q3 r3 ((eg1.trans eg2).trans eg3) ((eh1.trans eh2).trans eh3) (.bl _)
      | true =>
        refine iteT ?_
        rw [if_pos rfl] at q3
        exact hc G3 σ H3 s3 _ _ r3 q3 fun v4 f s4 G4 H4 q4 r4 eg4 eh4 p4 => hr'.run G4 σ H4 s4 v2 v4 d2 f _ _ r4 ((p2.mono eg3 eh3.gr).mono eg4 eh4.gr) p4 q4 fun v5 z s5 G5 H5 q5 r5 eg5 eh5 p5 =>
          k v5 z s5 G5 H5 q5 r5 ((((eg1.trans eg2).trans eg3).trans eg4).trans eg5) ((((eh1.trans eh2).trans eh3).trans eh4).trans eh5) p5
theorem dt_chain {c : Expr} {op op' : CmpOp} {r r' : R2} {g g' : G2} (o : OpD X C (compareOp op) r g) (o' : OpD X C (compareOp op') r' g') (ha : DP X C a ta wa) (hb : DP X C b tb wb) (hc : DP X C c tc wc) (hm : lastMarks [op, op'] [b, c] = false := by with_unfolding_all rfl) :
    DT X C (.Compare a [op, op'] [b, c] pos) (tTest (tChain r r' ta tb tc)) (wTest (wChain g g' wa wb wc)) := ⟨pt_chain o.op o'.op ha.pe hb.pe hc.pe hm, it_test (ie_chain o.rd o'.rd ha.ip hb.ip hc.ip)⟩
def wAnd (u v : WT) : WT := fun s Q => u s fun b s1 => if b = true then v s1 Q else Q false s1
def wOr (u v : WT) : WT := fun s Q => u s fun b s1 => if b = true then Q true s1 else v s1 Q
def wNot (u : WT) : WT := fun s Q => u s fun b s1 => Q (!b) s1
theorem it_and {t u : TT} {w v : WT} (h : IT C t w) (h2 : IT C u v) : IT C (tAnd t u) (wAnd w v) := fun G σ H s Q Q' r q k => h G σ H s _ _ r q fun b s1 G1 H1 q1 r1 eg eh => by
  cases b with
  | false =>
    rw [if_neg (by decide)] at q1
    exact iteF (k false s1 G1 H1 q1 r1 eg eh)
  | true =>
    rw [if_pos rfl] at q1
    exact iteT (h2 G1 σ H1 s1 _ _ r1 q1 fun b s2 G2 H2 q2 r2 eg2 eh2 => k b s2 G2 H2 q2 r2 (eg.trans eg2) (eh.trans eh2))
theorem it_or {t u : TT} {w v : WT} (h : IT C t w) (h2 : IT C u v) : IT C (tOr t u) (wOr w v) := fun G σ H s Q Q' r q k => h G σ H s _ _ r q fun b s1 G1 H1 q1 r1 eg eh => by
  cases b with
  | true =>
    rw [if_pos rfl] at q1
    exact iteT (k true s1 G1 H1 q1 r1 eg eh)
  | false =>
    rw [if_neg (by decide)] at q1
    exact iteF (h2 G1 σ H1 s1 _ _ r1 q1 fun b s2 G2 H2 q2 r2 eg2 eh2 => k b s2 G2 H2 q2 r2 (eg.trans eg2) (eh.trans eh2))
theorem it_not {t : TT} {w : WT} (h : IT C t w) : IT C (tNot t) (wNot w) := fun G σ H s Q Q' r q k => h G σ H s _ _ r q fun b s1 G1 H1 q1 r1 eg eh => k (!b) s1 G1 H1 q1 r1 eg eh
variable {rest : List Expr} {tA' tB' : TT} {wA' wB' : WT}
theorem dw_and1 (h : DT X C a tA' wA') : DW X C (.BoolOp .And [a] pos) tA' wA' := ⟨pw_and1 h.pt, h.it⟩
theorem dw_or1 (h : DT X C a tA' wA') : DW X C (.BoolOp .Or [a] pos) tA' wA' := ⟨pw_or1 h.pt, h.it⟩
theorem dw_and (h : DT X C a tA' wA') (h2 : DW X C (.BoolOp .And (b :: rest) pos) tB' wB') : DW X C (.BoolOp .And (a :: b :: rest) pos) (tAnd tA' tB') (wAnd wA' wB') := ⟨pw_and h.pt h2.pw, it_and h.it h2.it⟩
theorem dw_or (h : DT X C a tA' wA') (h2 : DW X C (.BoolOp .Or (b :: rest) pos) tB' wB') : DW X C (.BoolOp .Or (a :: b :: rest) pos) (tOr tA' tB') (wOr wA' wB') := ⟨pw_or h.pt h2.pw, it_or h.it h2.it⟩
theorem dt_not (h : DT X C a tA' wA') : DT X C (.UnaryOp .Not a pos) (tNot tA') (wNot wA') := ⟨pt_not h.pt, it_not h.it⟩
def wAndV (u v : WE) : WE := fun s Q => u s fun d s1 => ∃ b, d = .bool b ∧ if b = true then v s1 Q else Q (.bool false) s1
def wOrV (u v : WE) : WE := fun s Q => u s fun d s1 => ∃ b, d = .bool b ∧ if b = true then Q (.bool true) s1 else v s1 Q
def wNotV (u : WE) : WE := fun s Q => u s fun d s1 => ∃ b, d = .bool b ∧ Q (.bool (!b)) s1
theorem ie_andV (h : IE C ta wa) (h2 : IE C tb wb) : IE C (tAndV ta tb) (wAndV wa wb) := fun G σ H s Q Q' r q k => h G σ H s _ _ r q fun v d s1 G1 H1 q1 r1 eg eh p => by
  obtain ⟨b, rfl, q1⟩ := q1
  refine ⟨b, dp_bl p, ?_⟩
  cases b with
  | false =>
    rw [if_neg (by decide)] at q1
    exact iteF (k _ _ s1 G1 H1 q1 r1 eg eh (.bl _))
  | true =>
    rw [if_pos rfl] at q1
    exact iteT (h2 G1 σ H1 s1 _ _ r1 q1 fun v d s2 G2 H2 q2 r2 eg2 eh2 p2 => k v d s2 G2 H2 q2 r2 (eg.trans eg2) (eh.trans eh2) p2)
theorem ie_notV (h : IE C ta wa) : IE C (tNotV ta) (wNotV wa) := fun G σ H s Q Q' r q k => h G σ H s _ _ r q fun v d s1 G1 H1 q1 r1 eg eh p => by
  obtain ⟨b, rfl, q1⟩ := q1
  exact ⟨b, dp_bl p, k _ _ s1 G1 H1 q1 r1 eg eh (.bl _)⟩
theorem de_one {op} (h : DE X C a t w) : DE X C (.BoolOp op [a] pos) t w := ⟨pe_one h.pe, h.ie⟩
theorem de_and (h : DE X C a ta wa) (h2 : DE X C (.BoolOp .And (b :: rest) pos) tb wb) : DE X C (.BoolOp .And (a :: b :: rest) pos) (tAndV ta tb) (wAndV wa wb) := ⟨pe_and h.pe h2.pe, ie_andV h.ie h2.ie⟩
theorem de_not (h : DE X C a t w) : DE X C (.UnaryOp .Not a pos) (tNotV t) (wNotV w) := ⟨pe_not h.pe, ie_notV h.ie⟩
def wIf (c : WT) (u v : WE) : WE := fun s Q => c s fun b s1 => if b = true then u s1 Q else v s1 Q
theorem de_if {c : Expr} (hc : DT X C c tA' wA') (h : DE X C a ta wa) (h2 : DE X C b tb wb) : DE X C (.IfExp c a b pos) (tIf tA' ta tb) (wIf wA' wa wb) := ⟨pe_ifExp hc.pt h.pe h2.pe, fun G σ H s Q Q' r q k =>
  hc.it G σ H s _ _ r q fun bb s1 G1 H1 q1 r1 eg eh => by
    cases bb with
    | true =>
      rw [if_pos rfl] at q1
      exact iteT (h.ie G1 σ H1 s1 _ _ r1 q1 fun v d s2 G2 H2 q2 r2 eg2 eh2 p2 => k v d s2 G2 H2 q2 r2 (eg.trans eg2) (eh.trans eh2) p2)
    | false =>
      rw [if_neg (by decide)] at q1
      exact iteF (h2.ie G1 σ H1 s1 _ _ r1 q1 fun v d s2 G2 H2 q2 r2 eg2 eh2 p2 => k v d s2 G2 H2 q2 r2 (eg.trans eg2) (eh.trans eh2) p2)⟩
/-- truth of a list, tuple, text, int, None -/
def truD : PyData → Option Bool
  | .none => some false
  | .bool b => some b
  | .int i => some (i != 0)
  | .str y => if y.length ≤ 100000 then some ((y.length : Int) != 0) else none
  | .list ds => some (!ds.isEmpty)
  | .tuple ds => some (!ds.isEmpty)
  | .dict _ => none
theorem dpa_emp {K : PySem.W.Frag} {H : Hp} {xs : List V} {ds : List PyData} (h : DpAll K H xs ds) : xs.isEmpty = ds.isEmpty := by
  cases h <;> rfl
def wTru (w : WE) : WT := fun s Q => w s fun d s1 => ∃ k, truD d = some k ∧ Q k s1
theorem dt_tru (hK : X.K = C.K) (h : DP X C e t w) (he : ∀ whole, isTrue e X.env whole = (do let v ← whole; standAt e.pos; holding [v] (truthy v)) := by intro _; rfl) : DT X C e (fun σ H Q => t σ H fun x H' => ∃ k, TruV C.K x H' k ∧ Q k H') (wTru w) :=
  ⟨hK ▸ pt_truth h.pe he, fun G σ H s Q Q' r q k => h.ip G σ H s _ _ r q fun v d s1 G1 H1 q1 r1 eg eh p => by
    obtain ⟨b, hb, q1⟩ := q1
    refine ⟨b, ?_, k b s1 G1 H1 q1 r1 eg eh⟩
    have hd := p.dp r1.fin.gh
    cases d with
    | none => cases hd; cases hb; rfl
    | bool _ => cases hd; cases hb; rfl
    | int _ => cases hd; cases hb; rfl
    | str y =>
      cases hd
      have hb' : (if y.length ≤ 100000 then some ((y.length : Int) != 0) else none) = some b := hb
      split at hb'
      · rename_i hy
        cases hb'
        exact ⟨sz_of hy, rfl⟩
      · cases hb'
    | list ds =>
      cases hd with
      | lst h1 h2 =>
        cases hb
        exact .inl ⟨_, .inl (.inl h1), by rw [dpa_emp h2]⟩
    | tuple ds =>
      cases hd with
      | tup h1 h2 =>
        cases hb
        exact .inr (.inl ⟨_, h1, by rw [dpa_emp h2]⟩)
    | dict _ => cases hb⟩
end
def gI0 (f : Int → Int → PyData) : G2 := fun d e s Q => ∃ i j, d = .int i ∧ e = .int j ∧ Q (f i j) s
def gI (P : Int → Int → Prop) (f : Int → Int → PyData) : G2 := fun d e s Q => ∃ i j, d = .int i ∧ e = .int j ∧ P i j ∧ Q (f i j) s
section
variable {X : Cx} {C : Ct}
theorem pk_int {G H : Hp} {v : V} {i : Int} (h : Pk C G H v (.int i)) : v = .int i := by
  rcases h with h | ⟨_, _, _, _, h, _⟩
  · exact dp_int h
  · cases h
theorem r2_I0 {f : Int → Int → V} {g : Int → Int → PyData} (hg : ∀ G i j, Dp C.K G (f i j) (g i j)) : R2D C (rI0 f) (gI0 g) := ⟨fun G σ H s x y d e Q Q' r p1 p2 q k => by
  obtain ⟨i, j, rfl, rfl, q⟩ := q
  exact ⟨i, j, pk_int p1, pk_int p2, k _ _ s G H q r (Ex.refl G) Gs.refl (hg _ _ _)⟩⟩
theorem r2_I {P : Int → Int → Prop} {f : Int → Int → V} {g : Int → Int → PyData} (hg : ∀ G i j, Dp C.K G (f i j) (g i j)) : R2D C (rI P f) (gI P g) := ⟨fun G σ H s x y d e Q Q' r p1 p2 q k => by
  obtain ⟨i, j, rfl, rfl, hc, q⟩ := q
  exact ⟨i, j, pk_int p1, pk_int p2, hc, k _ _ s G H q r (Ex.refl G) Gs.refl (hg _ _ _)⟩⟩
theorem o_add : OpD X C (binaryOp .Add) (rI0 fun i j => .int (i + j)) (gI0 fun i j => .int (i + j)) := ⟨op_add, r2_I0 fun _ _ _ => .int _⟩
theorem o_sub : OpD X C (binaryOp .Sub) (rI0 fun i j => .int (i - j)) (gI0 fun i j => .int (i - j)) := ⟨op_sub, r2_I0 fun _ _ _ => .int _⟩
theorem o_mul : OpD X C (binaryOp .Mult) (rI CMul fun i j => .int (i * j)) (gI CMul fun i j => .int (i * j)) := ⟨op_mul, r2_I fun _ _ _ => .int _⟩
theorem o_fdiv : OpD X C (binaryOp .FloorDiv) (rI CDiv fun i j => .int (i / j)) (gI CDiv fun i j => .int (i / j)) := ⟨op_fdiv, r2_I fun _ _ _ => .int _⟩
theorem o_pow : OpD X C (binaryOp .Pow) (rI CPow fun i j => .int (i ^ j.toNat)) (gI CPow fun i j => .int (i ^ j.toNat)) := ⟨op_pow, r2_I fun _ _ _ => .int _⟩
theorem o_lt : OpD X C (compareOp .Lt) (rI0 fun i j => .bl (decide (i < j))) (gI0 fun i j => .bool (decide (i < j))) := ⟨op_lt, r2_I0 fun _ _ _ => .bl _⟩
theorem o_le : OpD X C (compareOp .LtE) (rI0 fun i j => .bl (decide (i ≤ j))) (gI0 fun i j => .bool (decide (i ≤ j))) := ⟨op_le, r2_I0 fun _ _ _ => .bl _⟩
theorem o_gt : OpD X C (compareOp .Gt) (rI0 fun i j => .bl (decide (j < i))) (gI0 fun i j => .bool (decide (j < i))) := ⟨op_gt, r2_I0 fun _ _ _ => .bl _⟩
/-- == and != of data -/
def Shp (d : PyData) : Prop := SeqAt.shaped d = true
def gEq : G2 := fun d e s Q => Shp d ∧ Shp e ∧ Q (.bool (PyData.eqv d e)) s
def gNe : G2 := fun d e s Q => Shp d ∧ Shp e ∧ Q (.bool (!PyData.eqv d e)) s
theorem o_eq (hK : X.K = C.K) (hu : X.A.units + 64 < cLine) : OpD X C (compareOp .Eq) (rEqD C.K) gEq := ⟨hK ▸ op_eqD hu, ⟨fun G σ H s x y d e Q Q' r p1 p2 q k => ⟨d, e, p1.dp r.fin.gh, p2.dp r.fin.gh, q.1, q.2.1, k _ _ s G H q.2.2 r (Ex.refl G) Gs.refl (.bl _)⟩⟩⟩
theorem o_ne (hK : X.K = C.K) (hu : X.A.units + 64 < cLine) : OpD X C (compareOp .NotEq) (rNeD C.K) gNe := ⟨hK ▸ op_neD hu, ⟨fun G σ H s x y d e Q Q' r p1 p2 q k => ⟨d, e, p1.dp r.fin.gh, p2.dp r.fin.gh, q.1, q.2.1, k _ _ s G H q.2.2 r (Ex.refl G) Gs.refl (.bl _)⟩⟩⟩
/-- in, not in a list or a tuple of data -/
def rInB (K : PySem.W.Frag) (neg : Bool) : R2 := fun x y H Q => ∃ d e, Dp K H x d ∧ Dp K H y e ∧ seqd e = true ∧ Shp d ∧ Shp e ∧ Q (.bl (neg ^^ (its e).any fun z => PyData.eqv z d)) H
theorem shp_room {d e : PyData} {A : Around} (hd : Shp d) (hu : A.units + 65 < cLine) (ds : List PyData) : A.units + 1 + min (PyData.depthAll ds) d.depth < cLine := by
  have h1 := SeqAt.depth_of_shaped hd
  have h2 : min (PyData.depthAll ds) d.depth ≤ d.depth := Nat.min_le_right _ _
  omega
theorem op_inB (hu : X.A.units + 65 < cLine) : OpR X (compareOp .In) (rInB X.K false) := by
  intro pins s σ H x y v u Q I rx ry h
  obtain ⟨d, e, hd, he, hs, sd, se, q⟩ := h
  obtain ⟨as, r1⟩ := Dp.reads I d x v hd rx
  obtain ⟨bs, r2⟩ := Dp.reads I e y u he ry
  rw [Bool.false_xor] at q
  cases e with
  | list ds => exact SeqAt.in_list_reads r2 r1 (SeqAt.canLay_of_shaped se) (SeqAt.canLay_of_shaped sd) (shp_room (e := d) sd hu ds) ⟨.bl _, H, I, rfl, q⟩
  | tuple ds => exact SeqAt.in_tuple_reads r2 r1 (SeqAt.canLay_of_shaped se) (SeqAt.canLay_of_shaped sd) (shp_room (e := d) sd hu ds) ⟨.bl _, H, I, rfl, q⟩
  | _ => cases hs
def gIn (neg : Bool) : G2 := fun d e s Q => seqd e = true ∧ Shp d ∧ Shp e ∧ Q (.bool (neg ^^ (its e).any fun z => PyData.eqv z d)) s
theorem r2_in {neg : Bool} : R2D C (rInB C.K neg) (gIn neg) := ⟨fun G σ H s x y d e Q Q' r p1 p2 q k => ⟨d, e, p1.dp r.fin.gh, p2.dp r.fin.gh, q.1, q.2.1, q.2.2.1, k _ _ s G H q.2.2.2 r (Ex.refl G) Gs.refl (.bl _)⟩⟩
theorem o_in (hK : X.K = C.K) (hu : X.A.units + 65 < cLine) : OpD X C (compareOp .In) (rInB C.K false) (gIn false) := ⟨hK ▸ op_inB hu, r2_in⟩
/-- is None, is not None, is of bools -/
def isNone : PyData → Bool
  | .none => true
  | _ => false
theorem pk_none {G H : Hp} {v : V} {d : PyData} (h : Pk C G H v d) : decide (v = .non) = isNone d := by
  rcases h with h | ⟨_, _, _, rfl, rfl, _⟩
  · cases h <;> rfl
  · rfl
def gIsN : G2 := fun d e s Q => e = .none ∧ Q (.bool (isNone d)) s
def gNotN : G2 := fun d e s Q => e = .none ∧ Q (.bool (!isNone d)) s
theorem pk_non {G H : Hp} {v : V} (h : Pk C G H v .none) : v = .non := by
  rcases h with h | ⟨_, _, _, _, h, _⟩
  · cases h; rfl
  · cases h
theorem o_isN : OpD X C (compareOp .Is) (fun x y H Q => y = .non ∧ Q (.bl (decide (x = .non))) H) gIsN := ⟨op_isN, ⟨fun G σ H s x y d e Q Q' r p1 p2 q k => by
  obtain ⟨rfl, q⟩ := q
  refine ⟨pk_non p2, ?_⟩
  rw [pk_none p1]
  exact k _ _ s G H q r (Ex.refl G) Gs.refl (.bl _)⟩⟩
theorem o_notN : OpD X C (compareOp .IsNot) (fun x y H Q => y = .non ∧ Q (.bl (!decide (x = .non))) H) gNotN := ⟨op_notN, ⟨fun G σ H s x y d e Q Q' r p1 p2 q k => by
  obtain ⟨rfl, q⟩ := q
  refine ⟨pk_non p2, ?_⟩
  rw [pk_none p1]
  exact k _ _ s G H q r (Ex.refl G) Gs.refl (.bl _)⟩⟩
def gIsB : G2 := fun d e s Q => ∃ a b, d = .bool a ∧ e = .bool b ∧ Q (.bool (decide (a = b))) s
def gNotB : G2 := fun d e s Q => ∃ a b, d = .bool a ∧ e = .bool b ∧ Q (.bool (!decide (a = b))) s
/-- tuple + tuple -/
def gCatT : G2 := fun d e s Q => ∃ ds es, d = .tuple ds ∧ e = .tuple es ∧ ds.length + es.length ≤ 100000 ∧ Q (.tuple (ds ++ es)) s
theorem pk_tup {G H : Hp} {v : V} {ds : List PyData} (h : Pk C G H v (.tuple ds)) : ∃ p xs, v = .ref p ∧ SqT C.K G p xs ∧ DpAll C.K G xs ds := by
  rcases h with h | ⟨_, _, _, _, h, _⟩
  · cases h with
    | tup h1 h2 => exact ⟨_, _, rfl, h1, h2⟩
  · cases h
theorem dpa_nil {K : PySem.W.Frag} {H : Hp} {ds : List PyData} (h : DpAll K H [] ds) : ds = [] := by cases h; rfl
/-- text + text -/
def gCatS : G2 := fun d e s Q => ∃ i j, d = .str i ∧ e = .str j ∧ i.length + j.length ≤ 100000 ∧ Q (.str (i ++ j)) s
/-- s[i], a list or a tuple -/
def gIx : G2 := fun d e s Q => ∃ i z, seqd d = true ∧ e = .int i ∧ atI (its d) i = some z ∧ Q z s
theorem r2_ix : R2D C (rIxB C.K) gIx := ⟨fun G σ H s x y d e Q Q' r p1 p2 q k => by
  obtain ⟨i, z, hs, rfl, ha, q⟩ := q
  obtain ⟨p, xs, rfl, h1, h2⟩ := p1.seq r.fin.gh hs
  obtain ⟨v, hv, pv⟩ := atI_dpa h2 ha
  exact ⟨isT d, p, xs, i, v, rfl, pk_int p2, h1, hv, k _ _ s G H q r (Ex.refl G) Gs.refl pv⟩⟩
variable {a b e : Expr} {es : List Expr} {pos : Pos} {t ta tb tc : TE} {w wa wb wc : WE} {tA : TA} {wA : WA}
theorem de_ix (hK : X.K = C.K) (ha : DP X C a ta wa) (hb : DP X C b tb wb) (hs : PlainIx b := by exact fun _ _ => rfl) : DE X C (.Subscript a b pos) (tOp (rIxB C.K) ta tb) (w2 gIx wa wb) := ⟨pe_ix (hK ▸ ix_B) ha.pe hb.pe hs, ie_op2 r2_ix.run ha.ip hb.ip⟩
def wCat (u v : WA) : WA := fun s Q => u s fun ds s1 => v s1 fun es s2 => ds.length + es.length ≤ 100000 ∧ Q (ds ++ es) s2
def wRep (u : WA) (v : WE) : WA := fun s Q => u s fun ds s1 => v s1 fun e s2 => ∃ k : Nat, e = .int k ∧ ds.length * k ≤ 100000 ∧ k ≤ 100000 ∧ Q (List.replicate k ds).flatten s2
theorem dpa_rep {K : PySem.W.Frag} {H : Hp} {xs : List V} {ds : List PyData} (h : DpAll K H xs ds) : ∀ k : Nat, DpAll K H (List.replicate k xs).flatten (List.replicate k ds).flatten
  | 0 => .nil
  | k + 1 => by
    rw [List.replicate_succ, List.replicate_succ, List.flatten_cons, List.flatten_cons]
    exact dpa_app h (dpa_rep h k)
theorem do_rep {u : WA} {v : WE} (ha : DL X C a ta u) (hb : DE X C b tb v) : DO X C (.BinOp a .Mult b pos) (tOp rRep ta tb) (wRep u v) := ⟨pe_op op_rep ha.pe hb.pe, fun G σ H s Q Q' r q k =>
  ha.il G σ H s _ _ r q fun p xs ds s1 G1 H1 q1 r1 eg1 eh1 h1 n1 d1 => hb.ie G1 σ H1 s1 _ _ r1 q1 fun v2 es s2 G2 H2 q2 r2 eg2 eh2 d2 => by
    obtain ⟨m, rfl, hm, hm2, q2⟩ := q2
    refine ⟨p, m, xs, rfl, dp_int d2, eh2.gr p _ n1 h1, by omega, by omega, sz_of (by rw [dpa_len d1]; simpa using hm), fun l hl => own_new r q2 r2 (eg1.trans eg2) (eh1.trans eh2) (by simpa using dpa_rep (dpa_ex eg2 d1) m) hl k⟩⟩
end
end Dw
namespace Dw
open PySem PySem.Spec PyProof.Rows L2 OgR Evl
abbrev G1 := PyData → Dt → (PyData → Dt → Prop) → Prop
structure R1D (C : Ct) (r : List V → Hp → VK → Prop) (g : G1) : Prop where
  run : ∀ G σ H s x d Q Q', Rel C G σ H s → Pk C G H x d → g d s Q → (∀ v z s' G' H', Q z s' → Rel C G' σ H' s' → Ex G G' → Gs C σ G H s G' H' s' → Dp C.K G' v z → Q' v H') → r [x] H Q'
/-- .. that give a new list -/
structure R1O (C : Ct) (r : List V → Hp → VK → Prop) (g : PyData → Dt → (List PyData → Dt → Prop) → Prop) : Prop where
  run : ∀ G σ H s x d Q Q', Rel C G σ H s → Pk C G H x d → g d s Q → (∀ vs ds p, Q ds s → DpAll C.K G vs ds → H p = none → Q' (.ref p) (upd H p (.lst vs))) → r [x] H Q'
def w1 (g : G1) (wa : WE) : WE := fun s Q => wa s fun d s1 => g d s1 Q
def w1O (g : PyData → Dt → (List PyData → Dt → Prop) → Prop) (wa : WE) : WA := fun s Q => wa s fun d s1 => g d s1 Q
section
variable {X : Cx} {C : Ct} {a b e : Expr} {es : List Expr} {pos p : Pos} {t ta tb tc : TE} {w wa wb wc : WE} {tA : TA} {wA : WA} {x : Str} {bid : String} {r : List V → Hp → VK → Prop} {g : G1} {gO : PyData → Dt → (List PyData → Dt → Prop) → Prop}
theorem ie_1 (hr : R1D C r g) (ha : IP C ta wa) : IE C (tCB r (tCons ta tNil)) (w1 g wa) := fun G σ H s Q Q' rr q k => ha G σ H s _ _ rr q fun v d s1 G1 H1 q1 r1 eg eh pk =>
  hr.run G1 σ H1 s1 v d _ _ r1 pk q1 fun v2 z s2 G2 H2 q2 r2 eg2 eh2 p2 => k v2 z s2 G2 H2 q2 r2 (eg.trans eg2) (eh.trans eh2) p2
theorem io_1 (hr : R1O C r gO) (ha : IP C ta wa) : IO C (tCB r (tCons ta tNil)) (w1O gO wa) := fun G σ H s Q Q' rr q k => ha G σ H s _ _ rr q fun v d s1 G1 H1 q1 r1 eg eh pk =>
  hr.run G1 σ H1 s1 v d _ _ r1 pk q1 fun vs ds p q2 hd hp => own_new rr q2 r1 eg eh hd hp k
theorem de_b1 (hc : CallR X (.builtin bid) r) (hr : R1D C r g) (hg : Gl X x) (hm : X.mg x = none) (hv : bootBuiltins x = some (.builtin bid)) (ha : DP X C a ta wa) (hn : x ≠ "__name__" := by decide) (hdb : (x == ("__debug__" : Str)) = false := by decide)
    (hs : starEach [a] X.env = (false, eval a X.env) :: starEach [] X.env := by rfl) : DE X C (.Call (.Name x p) [a] [] pos) (tCB r (tCons ta tNil)) (w1 g wa) := ⟨pe_callB hc hg hm hv (pa_cons ha.pe pa_nil hs) hn hdb hs, ie_1 hr ha.ip⟩
theorem de_t1 (hc : CallR X (.type bid) r) (hr : R1D C r g) (hg : Gl X x) (hm : X.mg x = none) (hv : bootBuiltins x = some (.type bid)) (ha : DP X C a ta wa) (hn : x ≠ "__name__" := by decide) (hdb : (x == ("__debug__" : Str)) = false := by decide)
    (hs : starEach [a] X.env = (false, eval a X.env) :: starEach [] X.env := by rfl) : DE X C (.Call (.Name x p) [a] [] pos) (tCB r (tCons ta tNil)) (w1 g wa) := ⟨pe_callTy hc hg hm hv (pa_cons ha.pe pa_nil hs) hn hdb hs, ie_1 hr ha.ip⟩
theorem do_b1 (hc : CallR X (.builtin bid) r) (hr : R1O C r gO) (hg : Gl X x) (hm : X.mg x = none) (hv : bootBuiltins x = some (.builtin bid)) (ha : DP X C a ta wa) (hn : x ≠ "__name__" := by decide) (hdb : (x == ("__debug__" : Str)) = false := by decide)
    (hs : starEach [a] X.env = (false, eval a X.env) :: starEach [] X.env := by rfl) : DO X C (.Call (.Name x p) [a] [] pos) (tCB r (tCons ta tNil)) (w1O gO wa) := ⟨pe_callB hc hg hm hv (pa_cons ha.pe pa_nil hs) hn hdb hs, io_1 hr ha.ip⟩
theorem do_t1 (hc : CallR X (.type bid) r) (hr : R1O C r gO) (hg : Gl X x) (hm : X.mg x = none) (hv : bootBuiltins x = some (.type bid)) (ha : DP X C a ta wa) (hn : x ≠ "__name__" := by decide) (hdb : (x == ("__debug__" : Str)) = false := by decide)
    (hs : starEach [a] X.env = (false, eval a X.env) :: starEach [] X.env := by rfl) : DO X C (.Call (.Name x p) [a] [] pos) (tCB r (tCons ta tNil)) (w1O gO wa) := ⟨pe_callTy hc hg hm hv (pa_cons ha.pe pa_nil hs) hn hdb hs, io_1 hr ha.ip⟩
def lenD : PyData → Option Nat
  | .list ds => some ds.length
  | .tuple ds => some ds.length
  | .str z => if z.length ≤ 100000 then some z.length else none
  | _ => none
def gLen : G1 := fun d s Q => ∃ n : Nat, lenD d = some n ∧ Q (.int n) s
theorem r1_len : R1D C (fun xs H Q => ∃ x n, xs = [x] ∧ LenV C.K x H n ∧ Q (.int n) H) gLen := ⟨fun G σ H s x d Q Q' r pk q k => by
  obtain ⟨n, hn, q⟩ := q
  refine ⟨x, n, rfl, ?_, k _ _ s G H q r (Ex.refl G) Gs.refl (.int _)⟩
  have hd := pk.dp r.fin.gh
  cases d with
  | list ds =>
    cases hd with
    | lst h1 h2 => cases hn; exact .inl ⟨_, .inl (.inl h1), (dpa_len h2).symm⟩
  | tuple ds =>
    cases hd with
    | tup h1 h2 => cases hn; exact .inr ⟨_, h1, (dpa_len h2).symm⟩
  | str z =>
    cases hd
    have hb' : (if z.length ≤ 100000 then some z.length else none) = some n := hn
    split at hb'
    · rename_i hy
      cases hb'
      exact ⟨sz_of hy, rfl⟩
    · cases hb'
  | none => cases hn
  | bool _ => cases hn
  | int _ => cases hn
  | dict _ => cases hn⟩
theorem de_len (hK : X.K = C.K) (hg : Gl X "len") (hm : X.mg "len" = none) (ha : DP X C a ta wa) (hs : starEach [a] X.env = (false, eval a X.env) :: starEach [] X.env := by rfl) :
    DE X C (.Call (.Name "len" p) [a] [] pos) (tCB (fun xs H Q => ∃ x n, xs = [x] ∧ LenV C.K x H n ∧ Q (.int n) H) (tCons ta tNil)) (w1 gLen wa) := de_b1 (hK ▸ call_len) r1_len hg hm PySem.boot_len ha (by decide) (by decide) hs
def gTupleOf : G1 := fun d s Q => seqd d = true ∧ Q (.tuple (its d)) s
def rTupleOf (K : PySem.W.Frag) : List V → Hp → VK → Prop := fun xs H Q => ∃ p ys, xs = [.ref p] ∧ ((SqL K H p ys ∧ ∀ l, H l = none → Q (.ref l) (upd H l (.tup ys))) ∨ (SqT K H p ys ∧ Q (.ref p) H))
theorem r1_tupleOf : R1D C (rTupleOf C.K) gTupleOf := ⟨fun G σ H s x d Q Q' r pk q k => by
  obtain ⟨hs, q⟩ := q
  obtain ⟨p, xs, rfl, h1, h2⟩ := pk.seq r.fin.gh hs
  refine ⟨p, xs, rfl, ?_⟩
  cases d with
  | list ds =>
    refine .inl ⟨h1, fun l hl => ?_⟩
    obtain ⟨r2, eg, eh⟩ := r.new (o := .tup xs) hl
    exact k _ _ s _ _ q r2 eg eh (.tup (.inl (.inl upd_same)) (dpa_ex eg h2))
  | tuple ds =>
    obtain ⟨p', xs', e, h3, h4⟩ := pk_tup pk
    cases e
    exact .inr ⟨h1, k _ _ s G H q r (Ex.refl G) Gs.refl (.tup h3 h4)⟩
  | _ => cases hs⟩
theorem de_tupleOf (hK : X.K = C.K) (hg : Gl X "tuple") (hm : X.mg "tuple" = none) (ha : DP X C a ta wa) (hs : starEach [a] X.env = (false, eval a X.env) :: starEach [] X.env := by rfl) :
    DE X C (.Call (.Name "tuple" p) [a] [] pos) (tCB (rTupleOf C.K) (tCons ta tNil)) (w1 gTupleOf wa) := de_t1 (hK ▸ call_tuple_of) r1_tupleOf hg hm (by decide +kernel) ha (by decide) (by decide) hs
def gListOf : PyData → Dt → (List PyData → Dt → Prop) → Prop := fun d s Q => seqd d = true ∧ Q (its d) s
def rListOf (K : PySem.W.Frag) : List V → Hp → VK → Prop := fun xs H Q => ∃ p ys, xs = [.ref p] ∧ (SqL K H p ys ∨ SqT K H p ys) ∧ ∀ l, H l = none → Q (.ref l) (upd H l (.lst ys))
theorem r1_listOf : R1O C (rListOf C.K) gListOf := ⟨fun G σ H s x d Q Q' r pk q k => by
  obtain ⟨hs, q⟩ := q
  obtain ⟨p, xs, rfl, h1, h2⟩ := pk.seq r.fin.gh hs
  refine ⟨p, xs, rfl, ?_, fun l hl => k xs _ l q h2 hl⟩
  cases d with
  | list ds => exact .inl h1
  | tuple ds => exact .inr h1
  | _ => cases hs⟩
theorem do_listOf (hK : X.K = C.K) (hg : Gl X "list") (hm : X.mg "list" = none) (ha : DP X C a ta wa) (hs : starEach [a] X.env = (false, eval a X.env) :: starEach [] X.env := by rfl) :
    DO X C (.Call (.Name "list" p) [a] [] pos) (tCB (rListOf C.K) (tCons ta tNil)) (w1O gListOf wa) := do_t1 (hK ▸ call_list_of) r1_listOf hg hm (by decide +kernel) ha (by decide) (by decide) hs
/-- list(range(n)) -/
def iotaD (a b : Int) : List PyData := (List.range (b - a).toNat).map fun (i : Nat) => .int (a + (i : Nat))
theorem dpa_iota {K : PySem.W.Frag} {H : Hp} (a b : Int) : DpAll K H (rgV a b) (iotaD a b) := by
  unfold rgV iotaD
  generalize List.range (b - a).toNat = l
  induction l with
  | nil => exact .nil
  | cons x l ih => exact .cons (.int _) ih
def wRg1 (wa : WE) : WA := fun s Q => wa s fun d s1 => ∃ n : Int, d = .int n ∧ 0 ≤ n ∧ n ≤ 100000 ∧ Q (iotaD 0 n) s1
theorem do_listRg {p2 pos2 : Pos} (hc : X.calm = true) (hg : Gl X "list") (hm : X.mg "list" = none) (hg2 : Gl X "range") (hm2 : X.mg "range" = none) (ha : DE X C a ta wa) (hs : starEach [a] X.env = (false, eval a X.env) :: starEach [] X.env := by rfl)
    (hs2 : starEach [.Call (.Name "range" p2) [a] [] pos2] X.env = (false, eval (.Call (.Name "range" p2) [a] [] pos2) X.env) :: starEach [] X.env := by rfl) :
    DO X C (.Call (.Name "list" p) [.Call (.Name "range" p2) [a] [] pos2] [] pos) (tLstRg (tRg1 ta)) (wRg1 wa) := ⟨pe_listRg hc hg hm (prg_1 hg2 hm2 ha.pe hs) hs2, fun G σ H s Q Q' r q k =>
  ha.ie G σ H s _ _ r q fun v d s1 G1 H1 q1 r1 eg eh p => by
    obtain ⟨n, rfl, h0, h1, q1⟩ := q1
    exact ⟨n, dp_int p, RgOk.of_le (by decide) (by omega) (by decide) h0, fun l hl => own_new r q1 r1 eg eh (dpa_iota 0 n) hl k⟩⟩
def gSum : G1 := fun d s Q => ∃ ns : List Int, d = .list (ns.map .int) ∧ Q (.int ns.sum) s
theorem pk_lst {G H : Hp} {v : V} {ds : List PyData} (h : Pk C G H v (.list ds)) (e : Ex G H) : ∃ p xs, v = .ref p ∧ SqL C.K H p xs ∧ DpAll C.K G xs ds := h.seq e rfl
theorem r1_sum : R1D C (rSum C.K) gSum := ⟨fun G σ H s x d Q Q' r pk q k => by
  obtain ⟨ns, rfl, q⟩ := q
  obtain ⟨p, xs, rfl, h1, h2⟩ := pk_lst pk r.fin.gh
  rw [ints_dpa h2] at h1
  exact ⟨p, ns, rfl, h1, k _ _ s G H q r (Ex.refl G) Gs.refl (.int _)⟩⟩
theorem de_sum (hK : X.K = C.K) (hc : X.calm = true) (hg : Gl X "sum") (hm : X.mg "sum" = none) (ha : DP X C a ta wa) (hs : starEach [a] X.env = (false, eval a X.env) :: starEach [] X.env := by rfl) :
    DE X C (.Call (.Name "sum" p) [a] [] pos) (tCB (rSum C.K) (tCons ta tNil)) (w1 gSum wa) := de_b1 (hK ▸ cr_sum hc) r1_sum hg hm (by decide +kernel) ha (by decide) (by decide) hs
theorem bls_dpa {K : PySem.W.Frag} {H : Hp} : ∀ {ns : List Bool} {xs : List V}, DpAll K H xs (ns.map PyData.bool) → xs = ns.map V.bl
  | [], _, .nil => rfl
  | _ :: _, _, .cons h t => by
    cases h
    rw [bls_dpa t]
    rfl
def gAll : G1 := fun d s Q => ∃ bs : List Bool, d = .list (bs.map .bool) ∧ Q (.bool (bs.all id)) s
theorem r1_all : R1D C (rAll C.K) gAll := ⟨fun G σ H s x d Q Q' r pk q k => by
  obtain ⟨ns, rfl, q⟩ := q
  obtain ⟨p, xs, rfl, h1, h2⟩ := pk_lst pk r.fin.gh
  rw [bls_dpa h2] at h1
  exact ⟨p, ns, rfl, h1, k _ _ s G H q r (Ex.refl G) Gs.refl (.bl _)⟩⟩
theorem de_all (hK : X.K = C.K) (hc : X.calm = true) (hg : Gl X "all") (hm : X.mg "all" = none) (ha : DP X C a ta wa) (hs : starEach [a] X.env = (false, eval a X.env) :: starEach [] X.env := by rfl) :
    DE X C (.Call (.Name "all" p) [a] [] pos) (tCB (rAll C.K) (tCons ta tNil)) (w1 gAll wa) := de_b1 (hK ▸ cr_all hc) r1_all hg hm (by decide +kernel) ha (by decide) (by decide) hs
def gInt : G1 := fun d s Q => (∃ i, d = .int i ∧ Q (.int i) s) ∨ ∃ b, d = .bool b ∧ Q (.int (if b then 1 else 0)) s
def gStr : G1 := fun d s Q => ∃ i : Int, d = .int i ∧ i.natAbs < 2 ^ 1000 ∧ Q (.str (toString i)) s
/-- max(a, b), min(a, b) of ints -/
def w2a (g : G2) (wa wb : WE) : WE := fun s Q => wa s fun d s1 => wb s1 fun e s2 => g d e s2 Q
theorem ie_2a {f : Int → Int → Int} (ha : IE C ta wa) (hb : IE C tb wb) : IE C (tCB (fun xs H Q => ∃ i j, xs = [.int i, .int j] ∧ Q (.int (f i j)) H) (tCons ta (tCons tb tNil))) (w2a (gI0 fun i j => .int (f i j)) wa wb) := fun G σ H s Q Q' r q k =>
  ha G σ H s _ _ r q fun v d s1 G1 H1 q1 r1 eg1 eh1 p1 => hb G1 σ H1 s1 _ _ r1 q1 fun v2 d2 s2 G2 H2 q2 r2 eg2 eh2 p2 => by
    obtain ⟨i, j, rfl, rfl, q3⟩ := q2
    exact ⟨i, j, by rw [dp_int p1, dp_int p2], k _ _ s2 G2 H2 q3 r2 (eg1.trans eg2) (eh1.trans eh2) (.int _)⟩
theorem de_max2 (hc : X.calm = true) (hg : Gl X "max") (hm : X.mg "max" = none) (ha : DE X C a ta wa) (hb : DE X C b tb wb) (hs : starEach [a, b] X.env = (false, eval a X.env) :: starEach [b] X.env := by rfl) (hs2 : starEach [b] X.env = (false, eval b X.env) :: starEach [] X.env := by rfl) (hpl : (backTo pos (starEach [b] X.env)).any (·.1) = false := by rfl) :
    DE X C (.Call (.Name "max" p) [a, b] [] pos) (tCB (fun xs H Q => ∃ i j, xs = [.int i, .int j] ∧ Q (.int (if j > i then j else i)) H) (tCons ta (tCons tb tNil))) (w2a (gI0 fun i j => .int (if j > i then j else i)) wa wb) :=
  ⟨pe_callB (call_max2 hc) hg hm (by decide +kernel) (pa_cons ha.pe (pa_cons hb.pe pa_nil hs2) hs) (by decide) (by decide) hs hpl, ie_2a ha.ie hb.ie⟩
theorem de_min2 (hc : X.calm = true) (hg : Gl X "min") (hm : X.mg "min" = none) (ha : DE X C a ta wa) (hb : DE X C b tb wb) (hs : starEach [a, b] X.env = (false, eval a X.env) :: starEach [b] X.env := by rfl) (hs2 : starEach [b] X.env = (false, eval b X.env) :: starEach [] X.env := by rfl) (hpl : (backTo pos (starEach [b] X.env)).any (·.1) = false := by rfl) :
    DE X C (.Call (.Name "min" p) [a, b] [] pos) (tCB (fun xs H Q => ∃ i j, xs = [.int i, .int j] ∧ Q (.int (if j < i then j else i)) H) (tCons ta (tCons tb tNil))) (w2a (gI0 fun i j => .int (if j < i then j else i)) wa wb) :=
  ⟨pe_callB (call_min2 hc) hg hm (by decide +kernel) (pa_cons ha.pe (pa_cons hb.pe pa_nil hs2) hs) (by decide) (by decide) hs hpl, ie_2a ha.ie hb.ie⟩
/-- sorted(s) of ints -/
def sortI (ns : List Int) : List Int := ns.mergeSort fun a b => decide (a ≤ b)
theorem perm_sorted_eq : ∀ {a b : List Int}, a.Perm b → a.Pairwise (· ≤ ·) → b.Pairwise (· ≤ ·) → a = b := by
  intro a b h ha hb
  exact h.eq_of_pairwise (le := (· ≤ ·)) (fun x y _ _ h1 h2 => Int.le_antisymm h1 h2) ha hb
theorem sortI_eq {ks ns : List Int} (h : ks.Perm ns) (hk : ks.Pairwise (· ≤ ·)) : ks = sortI ns := by
  refine perm_sorted_eq (h.trans (List.mergeSort_perm ns _).symm) hk ?_
  have := List.pairwise_mergeSort (le := fun a b : Int => decide (a ≤ b)) (fun a b c h1 h2 => by simp at *; omega) (fun a b => by simp; omega) ns
  exact this.imp fun h => by simpa using h
def gSorted : PyData → Dt → (List PyData → Dt → Prop) → Prop := fun d s Q => ∃ ns : List Int, seqd d = true ∧ its d = ns.map .int ∧ Q ((sortI ns).map .int) s
theorem r1_sorted : R1O C (rSrtB C.K) gSorted := ⟨fun G σ H s x d Q Q' r pk q k => by
  obtain ⟨ns, hs, he, q⟩ := q
  obtain ⟨p, xs, rfl, h1, h2⟩ := pk.seq r.fin.gh hs
  rw [he] at h2
  rw [ints_dpa h2] at h1
  refine ⟨isT d, p, ns, rfl, h1, fun ks l hp hk hl => ?_⟩
  rw [sortI_eq hp hk]
  exact k _ _ l q (dpa_ints _) hl⟩
theorem do_sorted (hK : X.K = C.K) (hg : Gl X "sorted") (hm : X.mg "sorted" = none) (ha : DP X C a ta wa) (hs : starEach [a] X.env = (false, eval a X.env) :: starEach [] X.env := by rfl) :
    DO X C (.Call (.Name "sorted" p) [a] [] pos) (tCB (rSrtB C.K) (tCons ta tNil)) (w1O gSorted wa) := do_b1 (hK ▸ cr_srtB) r1_sorted hg hm (by decide +kernel) ha (by decide) (by decide) hs
end
end Dw
namespace Dw
open PySem PySem.Spec PyProof.Rows L2 OgR Evl
theorem tyx_L {K : PySem.W.Frag} {H : Hp} {a : Addr} {xs : List V} (h : SqL K H a xs) : TyX K H (.ref a) (.type "list") := by
  rcases h with (h | ⟨o, h⟩) | ⟨o, _, _, hk, hc, _⟩
  · exact .base (.lst h)
  · exact .base (.frz h)
  · exact .kList hk hc
theorem tyx_T {K : PySem.W.Frag} {H : Hp} {a : Addr} {xs : List V} (h : SqT K H a xs) : TyX K H (.ref a) (.type "tuple") := by
  rcases h with (h | ⟨o, h⟩) | ⟨o, _, _, hk, hc, _⟩
  · exact .base (.tup h)
  · exact .fTuple h
  · exact .kTuple hk hc
def tyN : PyData → String
  | .none => "NoneType"
  | .bool _ => "bool"
  | .int _ => "int"
  | .str _ => "str"
  | .list _ => "list"
  | .tuple _ => "tuple"
  | .dict _ => "dict"
theorem tyx_D {K : PySem.W.Frag} {H : Hp} {v : V} {d : PyData} (h : Dp K H v d) : TyX K H v (.type (tyN d)) := by
  cases h with
  | non => exact .base .non
  | bl b => exact .base (.bl b)
  | int i => exact .base (.int i)
  | str x => exact .base (.str x)
  | lst h _ => exact tyx_L (.inl (.inl h))
  | tup h _ => exact tyx_T h
/-- whether data is of a built-in class -/
inductive Ty where
  | int | bool | str | list | tuple
def Ty.nm : Ty → String
  | .int => "int"
  | .bool => "bool"
  | .str => "str"
  | .list => "list"
  | .tuple => "tuple"
def isA : Ty → PyData → Bool
  | .int, .int _ => true
  | .int, .bool _ => true
  | .bool, .bool _ => true
  | .str, .str _ => true
  | .list, .list _ => true
  | .tuple, .tuple _ => true
  | _, _ => false
theorem kt (T : Ty) (d : PyData) : kitB (tyN d) T.nm = some (isA T d) := by
  cases T with
  | int =>
    cases d with
    | none => exact (show kitB "NoneType" "int" = some false by decide +kernel)
    | bool _ => exact (show kitB "bool" "int" = some true by decide +kernel)
    | int _ => exact (show kitB "int" "int" = some true by decide +kernel)
    | str _ => exact (show kitB "str" "int" = some false by decide +kernel)
    | list _ => exact (show kitB "list" "int" = some false by decide +kernel)
    | tuple _ => exact (show kitB "tuple" "int" = some false by decide +kernel)
    | dict _ => exact (show kitB "dict" "int" = some false by decide +kernel)
  | bool =>
    cases d with
    | none => exact (show kitB "NoneType" "bool" = some false by decide +kernel)
    | bool _ => exact (show kitB "bool" "bool" = some true by decide +kernel)
    | int _ => exact (show kitB "int" "bool" = some false by decide +kernel)
    | str _ => exact (show kitB "str" "bool" = some false by decide +kernel)
    | list _ => exact (show kitB "list" "bool" = some false by decide +kernel)
    | tuple _ => exact (show kitB "tuple" "bool" = some false by decide +kernel)
    | dict _ => exact (show kitB "dict" "bool" = some false by decide +kernel)
  | str =>
    cases d with
    | none => exact (show kitB "NoneType" "str" = some false by decide +kernel)
    | bool _ => exact (show kitB "bool" "str" = some false by decide +kernel)
    | int _ => exact (show kitB "int" "str" = some false by decide +kernel)
    | str _ => exact (show kitB "str" "str" = some true by decide +kernel)
    | list _ => exact (show kitB "list" "str" = some false by decide +kernel)
    | tuple _ => exact (show kitB "tuple" "str" = some false by decide +kernel)
    | dict _ => exact (show kitB "dict" "str" = some false by decide +kernel)
  | list =>
    cases d with
    | none => exact (show kitB "NoneType" "list" = some false by decide +kernel)
    | bool _ => exact (show kitB "bool" "list" = some false by decide +kernel)
    | int _ => exact (show kitB "int" "list" = some false by decide +kernel)
    | str _ => exact (show kitB "str" "list" = some false by decide +kernel)
    | list _ => exact (show kitB "list" "list" = some true by decide +kernel)
    | tuple _ => exact (show kitB "tuple" "list" = some false by decide +kernel)
    | dict _ => exact (show kitB "dict" "list" = some false by decide +kernel)
  | tuple =>
    cases d with
    | none => exact (show kitB "NoneType" "tuple" = some false by decide +kernel)
    | bool _ => exact (show kitB "bool" "tuple" = some false by decide +kernel)
    | int _ => exact (show kitB "int" "tuple" = some false by decide +kernel)
    | str _ => exact (show kitB "str" "tuple" = some false by decide +kernel)
    | list _ => exact (show kitB "list" "tuple" = some false by decide +kernel)
    | tuple _ => exact (show kitB "tuple" "tuple" = some true by decide +kernel)
    | dict _ => exact (show kitB "dict" "tuple" = some false by decide +kernel)
theorem kit2 {K : PySem.W.Frag} {x a b : String} {b1 b2 : Bool} (h1 : kitB x a = some b1) (h2 : kitB x b = some b2) : PySem.W.kitAny K (.type x) [.type a, .type b] = some (b1 || b2) := by
  cases b1 with
  | true => exact kitAny_cons (kit_ty h1) (fun e => nomatch e) (fun _ => rfl)
  | false =>
    cases b2 with
    | true => exact kitAny_cons (kit_ty h1) (fun _ => kitAny_cons (kit_ty h2) (fun e => nomatch e) (fun _ => rfl)) (fun e => nomatch e)
    | false => exact kitAny_cons (kit_ty h1) (fun _ => kitAny_cons (kit_ty h2) (fun _ => kitAny_nil) (fun e => nomatch e)) (fun e => nomatch e)
section
variable {X : Cx} {C : Ct} {a b e : Expr} {es : List Expr} {pos p : Pos} {t ta tb tc : TE} {w wa wb wc : WE} {tA : TA} {wA : WA} {x : Str}
def wIsi (T : Ty) (wa : WE) : WE := fun s Q => wa s fun d s1 => Q (.bool (isA T d)) s1
theorem ie_isi {T : Ty} (ha : IP C ta wa) : IE C (tCB (rIsi C.K) (tCons ta (tCons (tC (.ty T.nm)) tNil))) (wIsi T wa) := fun G σ H s Q Q' r q k =>
  ha G σ H s _ _ r q fun v d s1 G1 H1 q1 r1 eg eh pk => ⟨v, _, _, _, isA T d, rfl, .ty _, tyx_D (pk.dp r1.fin.gh), kit_ty (kt T d), k _ _ s1 G1 H1 q1 r1 eg eh (.bl _)⟩
theorem de_isi (T : Ty) {y : Str} {p2 : Pos} (hK : X.K = C.K) (hg : Gl X "isinstance") (hm : X.mg "isinstance" = none) (hg2 : Gl X y) (hm2 : X.mg y = none) (hb2 : bootBuiltins y = some (.type T.nm)) (ha : DP X C a ta wa)
    (hs : starEach [a, .Name y p2] X.env = (false, eval a X.env) :: starEach [.Name y p2] X.env := by rfl) (hpl : (backTo pos (starEach [.Name y p2] X.env)).any (·.1) = false := by rfl) (hny : y ≠ "__name__" := by decide) (hdy : (y == ("__debug__" : Str)) = false := by decide)
    (hs2 : starEach [.Name y p2] X.env = (false, eval (.Name y p2) X.env) :: starEach [] X.env := by rfl) :
    DE X C (.Call (.Name "isinstance" p) [a, .Name y p2] [] pos) (tCB (rIsi C.K) (tCons ta (tCons (tC (.ty T.nm)) tNil))) (wIsi T wa) :=
  ⟨pe_callB (hK ▸ call_isi) hg hm (by decide +kernel) (pa_cons ha.pe (pa_cons (pe_bltn (v := .ty T.nm) hg2 hm2 hb2 rfl hny hdy) pa_nil hs2) hs) (by decide) (by decide) hs hpl, ie_isi ha.ip⟩
def wIsi2 (T U : Ty) (wa : WE) : WE := fun s Q => wa s fun d s1 => Q (.bool (isA T d || isA U d)) s1
theorem de_isi2 (T U : Ty) {y z : Str} {p2 p3 p4 : Pos} {kk} (hK : X.K = C.K) (hg : Gl X "isinstance") (hm : X.mg "isinstance" = none) (hg2 : Gl X y) (hm2 : X.mg y = none) (hb2 : bootBuiltins y = some (.type T.nm))
    (hg3 : Gl X z) (hm3 : X.mg z = none) (hb3 : bootBuiltins z = some (.type U.nm)) (ha : DP X C a ta wa)
    (hs : starEach [a, .Tuple [.Name y p2, .Name z p3] kk p4] X.env = (false, eval a X.env) :: starEach [.Tuple [.Name y p2, .Name z p3] kk p4] X.env := by rfl) (hpl : (backTo pos (starEach [.Tuple [.Name y p2, .Name z p3] kk p4] X.env)).any (·.1) = false := by rfl)
    (hny : y ≠ "__name__" := by decide) (hdy : (y == ("__debug__" : Str)) = false := by decide) (hnz : z ≠ "__name__" := by decide) (hdz : (z == ("__debug__" : Str)) = false := by decide)
    (hs2 : starEach [.Tuple [.Name y p2, .Name z p3] kk p4] X.env = (false, eval (.Tuple [.Name y p2, .Name z p3] kk p4) X.env) :: starEach [] X.env := by rfl)
    (hs3 : starEach [.Name y p2, .Name z p3] X.env = (false, eval (.Name y p2) X.env) :: starEach [.Name z p3] X.env := by rfl) (hs4 : starEach [.Name z p3] X.env = (false, eval (.Name z p3) X.env) :: starEach [] X.env := by rfl) :
    DE X C (.Call (.Name "isinstance" p) [a, .Tuple [.Name y p2, .Name z p3] kk p4] [] pos) (tCB (rIsiT C.K) (tCons ta (tCons (tTup (tCons (tC (.ty T.nm)) (tCons (tC (.ty U.nm)) tNil))) tNil))) (wIsi2 T U wa) :=
  ⟨pe_callB (hK ▸ call_isiT) hg hm (by decide +kernel) (pa_cons ha.pe (pa_cons (pe_tup (pa_cons (pe_bltn (v := .ty T.nm) hg2 hm2 hb2 rfl hny hdy) (pa_cons (pe_bltn (v := .ty U.nm) hg3 hm3 hb3 rfl hnz hdz) pa_nil hs4) hs3)) pa_nil hs2) hs) (by decide) (by decide) hs hpl,
   fun G σ H s Q Q' r q k => ha.ip G σ H s _ _ r q fun v d s1 G1 H1 q1 r1 eg eh pk => ⟨(show 2 ≤ sizeLine by decide), fun tp htp => by
    have e : Ex H1 (upd H1 tp (.tup [.ty T.nm, .ty U.nm])) := Ex.new htp
    exact ⟨v, tp, _, _, _, isA T d || isA U d, rfl, upd_same, .cons (.ty _) (.cons (.ty _) .nil), tyx_D (dp_ex e (pk.dp r1.fin.gh)), kit2 (kt T d) (kt U d), k _ _ s1 G1 _ q1 (r1.aside e) eg (eh.trans (.side e)) (.bl _)⟩⟩⟩
def cutD (xs : List PyData) (lo hi : Option Int) : List PyData := (xs.drop (HT.sIx xs.length 0 lo)).take (HT.sIx xs.length xs.length hi - HT.sIx xs.length 0 lo)
theorem dpa_cut {K : PySem.W.Frag} {H : Hp} {xs : List V} {ds : List PyData} (h : DpAll K H xs ds) (lo hi : Option Int) : DpAll K H (cutV xs lo hi) (cutD ds lo hi) := by
  unfold cutV cutD
  rw [dpa_len h]
  exact dpa_take _ (dpa_drop _ h)
abbrev WO := Dt → (Option Int → Dt → Prop) → Prop
def IOp (C : Ct) (t : TO) (w : WO) : Prop := ∀ G σ H s Q Q', Rel C G σ H s → w s Q →
  (∀ o s' G' H', Q o s' → Rel C G' σ H' s' → Ex G G' → Gs C σ G H s G' H' s' → Q' o H') → t σ H Q'
structure DOp (X : Cx) (C : Ct) (e : Option Expr) (t : TO) (w : WO) : Prop where
  po : PO X e t
  io : IOp C t w
theorem do_none : DOp X C none tNoPart (fun s Q => Q none s) := ⟨po_none, fun G σ H s Q Q' r q k => k none s G H q r (Ex.refl G) Gs.refl⟩
theorem do_some (h : DE X C e t w) : DOp X C (some e) (tPart t) (fun s Q => w s fun d s1 => ∃ i, d = .int i ∧ Q (some i) s1) := ⟨po_some h.pe, fun G σ H s Q Q' r q k => h.ie G σ H s _ _ r q fun v d s1 G1 H1 q1 r1 eg eh p => by
  obtain ⟨i, rfl, q1⟩ := q1
  exact ⟨i, dp_int p, k (some i) s1 G1 H1 q1 r1 eg eh⟩⟩
variable {lo hi : Option Expr} {tl th : TO} {wl wh : WO} {p2 : Pos}
def wSlT (wa : WE) (wl wh : WO) : WE := fun s Q => wa s fun d s1 => wl s1 fun l s2 => wh s2 fun h s3 => ∃ ds, d = .tuple ds ∧ Q (.tuple (cutD ds l h)) s3
/-- t[lo:hi] -/
theorem de_slT (hK : X.K = C.K) (ha : DP X C a ta wa) (hl : DOp X C lo tl wl) (hh : DOp X C hi th wh) : DE X C (.Subscript a (.Slice lo hi none p2) pos) (tSl (rSlA C.K) ta tl th) (wSlT wa wl wh) := ⟨pe_slice (hK ▸ sl_tupA) ha.pe hl.po hh.po, fun G σ H s Q Q' r q k =>
  ha.ip G σ H s _ _ r q fun v d s1 G1 H1 q1 r1 eg1 eh1 pk => hl.io G1 σ H1 s1 _ _ r1 q1 fun l s2 G2 H2 q2 r2 eg2 eh2 => hh.io G2 σ H2 s2 _ _ r2 q2 fun h s3 G3 H3 q3 r3 eg3 eh3 => by
    obtain ⟨ds, rfl, q3⟩ := q3
    obtain ⟨p, xs, rfl, h1, h2⟩ := pk_tup pk
    have h1' := Evl.ex_t ((eg2.trans eg3).trans r3.fin.gh) h1
    have h2' := dpa_ex (eg2.trans eg3) h2
    refine ⟨p, xs, rfl, h1', fun hw => ?_, fun _ l hl => ?_⟩
    · have e : cutD ds l h = ds := by
        unfold cutD
        rw [dpa_len h2'] at hw
        rw [hw.1, hw.2, List.drop_zero, Nat.sub_zero, List.take_length]
      rw [e] at q3
      exact k _ _ s3 G3 H3 q3 r3 ((eg1.trans eg2).trans eg3) ((eh1.trans eh2).trans eh3) (.tup (Evl.ex_t (eg2.trans eg3) h1) h2')
    · obtain ⟨r4, eg, eh⟩ := r3.new (o := .tup (cutV xs _ _)) hl
      exact k _ _ s3 _ _ q3 r4 (((eg1.trans eg2).trans eg3).trans eg) (((eh1.trans eh2).trans eh3).trans eh) (.tup (.inl (.inl upd_same)) (dpa_ex eg (dpa_cut h2' _ _)))⟩
/-- xs[lo:hi], a new list -/
def wSlL (wa : WE) (wl wh : WO) : WA := fun s Q => wa s fun d s1 => wl s1 fun l s2 => wh s2 fun h s3 => ∃ ds, d = .list ds ∧ Q (cutD ds l h) s3
/-- s[lo:hi], a text -/
def wSlS (wa : WE) (wl wh : WO) : WE := fun s Q => wa s fun d s1 => wl s1 fun l s2 => wh s2 fun h s3 => ∃ z, d = .str z ∧ z.length ≤ 100000 ∧ Q (.str (cutS z l h)) s3
/-- t[::-1], a tuple -/
def wRevT (wa : WE) : WE := fun s Q => wa s fun d s1 => ∃ ds, d = .tuple ds ∧ Q (.tuple ds.reverse) s1
/-- -n -/
def wNeg (wa : WE) : WE := fun s Q => wa s fun d s1 => ∃ i, d = .int i ∧ Q (.int (-i)) s1
theorem de_neg (ha : DE X C a ta wa) : DE X C (.UnaryOp .USub a pos) (tUn (rU fun i => .int (-i)) ta) (wNeg wa) := ⟨pe_un un_neg ha.pe, fun G σ H s Q Q' r q k =>
  ha.ie G σ H s _ _ r q fun v d s1 G1 H1 q1 r1 eg1 eh1 p => by
    obtain ⟨i, rfl, q1⟩ := q1
    exact ⟨i, dp_int p, k _ _ s1 G1 H1 q1 r1 eg1 eh1 (.int _)⟩⟩
abbrev FP := List PyData → (PyData → Prop) → Prop
abbrev FB := List PyData → Int → (PyData → Int → Prop) → Prop
/-- a def that only reads and makes data -/
def spP (K : PySem.W.Frag) (F : FP) : Sp := fun vs H Q _ => ∃ G ds R, Ex G H ∧ DpAll K G vs ds ∧ F ds R ∧
  ∀ v d G' H', R d → Ex G G' → Ex H H' → Ex G' H' → Nw G G' H → Dp K G' v d → Q v H'
/-- a def that draws: the box is its first argument -/
def spB (K : PySem.W.Frag) (F : FB) : Sp := fun vs H Q _ => ∃ l vs' G ds c R, vs = .ref l :: vs' ∧ BoxAt H l c ∧ G l = none ∧ Ex G H ∧ DpAll K G vs' ds ∧ F ds c R ∧
  ∀ v d c' G' H', R d c' → Ex G G' → (∀ b o, b ≠ l → H b = some o → H' b = some o) → BoxAt H' l c' → Ex G' H' → Nw G G' H → Dp K G' v d → Q v H'
def wCall (F : FP) (wA : WA) : WE := fun s Q => wA s fun ds s1 => F ds fun d => Q d s1
theorem ie_call {F : FP} {E : XK} (h : IA C tA wA) : IE C (tCall (spP C.K F) [] E tA) (wCall F wA) := fun G σ H s Q Q' r q k =>
  h G σ H s _ _ r q fun vs ds s1 G1 H1 q1 r1 eg eh p => ⟨G1, ds, _, r1.fin.gh, by rw [List.append_nil]; exact p, q1, fun v d G2 H2 q2 eg2 eh2 gh nw pd =>
    k v d s1 G2 H2 q2 (r1.grow eg2 eh2 gh nw) (eg.trans eg2) (eh.trans (.grow eh2 nw)) pd⟩
/-- .. the box in slot i -/
def wCallB (i : Nat) (F : FB) (wA : WA) : WE := fun s Q => s.env[i]? = some (some .box) ∧ wA s fun ds s1 => F ds s1.c.n fun d c' => Q d ⟨s1.env, c', s1.c.o⟩
theorem ie_callB {F : FB} {E : XK} {i : Nat} (h : IA C tA wA) : IE C (tCall (spB C.K F) [] E (tCons (tVar i) tA)) (wCallB i F wA) := fun G σ H s Q Q' r q k => by
  obtain ⟨e, q⟩ := q
  obtain ⟨v, hv, l, hl, rfl⟩ := r.sl i _ e
  refine ⟨_, hv, h G σ H s _ _ r q fun vs ds s1 G1 H1 q1 r1 eg eh p => ⟨l, vs, G1, ds, s1.c.n, _, by rw [List.append_nil], r1.fin.boxAt hl, r1.fin.boxG hl, r1.fin.gh, p, q1, fun v d c' G2 H2 q2 eg2 eh2 hb gh nw pd => ?_⟩⟩
  have gr : Gr C H1 H2 := fun b o hn hb => eh2 b o (fun z => hn (by rw [z]; exact .ofb hl)) hb
  refine k v d _ G2 H2 q2 (r1.step (c' := ⟨c', s1.c.o⟩) eg2 gr gh nw (r1.fin.obx eg2 (.inl hl) eh2) (r1.fin.boxStep (c' := ⟨c', s1.c.o⟩) hl eh2 hb)) (eg.trans eg2) (eh.trans ⟨gr, fun b h z => ?_, fun b o h1 _ h2 hn _ => nw.out h1 h2 hn, fun i x e m => ⟨x, e, m⟩⟩) pd
  · by_cases hb2 : b = l
    · exact hb.ne (hb2 ▸ z)
    · cases q : H1 b with
      | none => exact h q
      | some o => rw [eh2 b o hb2 q] at z; cases z
end
end Dw
namespace Dw
open PySem PySem.Spec PyProof.Rows L2 OgR Evl
def Dt.set (s : Dt) (i : Nat) (x : DV) : Dt := ⟨s.env.set i (some x), s.c⟩
section
variable {C : Ct} {G G' H H' : Hp} {σ : L2.St} {s : Dt} {c c' : Cs}
theorem get_set {α : Type} {l : List (Option α)} {i j : Nat} {x y : α} (h : (l.set i (some x))[j]? = some (some y)) : (j = i ∧ y = x ∧ i < l.length) ∨ (j ≠ i ∧ l[j]? = some (some y)) := by
  by_cases z : j = i
  · subst z
    by_cases hl : j < l.length
    · rw [List.getElem?_set_self hl] at h
      cases h
      exact .inl ⟨rfl, rfl, hl⟩
    · rw [List.getElem?_eq_none (by rw [List.length_set]; omega)] at h
      cases h
  · rw [List.getElem?_set_ne (Ne.symm z)] at h
    exact .inr ⟨z, h⟩
theorem Rel.put (r : Rel C G σ H s) {i : Nat} {v : V} {x : DV} (rv : RV C G H v x) (hd : x.mut = true → ∀ (j : Nat) y p, s.env[j]? = some (some y) → y.mut = true → v = .ref p → σ[j]? ≠ some (some (.ref p))) : Rel C G (σ.set i (some v)) H (s.set i x) := by
  refine ⟨r.fin, by show (s.env.set i _).length = _; rw [List.length_set, List.length_set]; exact r.len, fun j y e => ?_, fun j k y z p hne e1 e2 m1 m2 hs => ?_⟩
  · rcases get_set e with ⟨rfl, rfl, hl⟩ | ⟨z, e⟩
    · exact ⟨v, List.getElem?_set_self (by rw [← r.len]; exact hl), rv⟩
    · obtain ⟨v', hv, rv'⟩ := r.sl j y e
      exact ⟨v', by rw [List.getElem?_set_ne (Ne.symm z)]; exact hv, rv'⟩
  · rcases get_set e1 with ⟨w1, w2, hl⟩ | ⟨z1, f1⟩
    · rcases get_set e2 with ⟨w3, _, _⟩ | ⟨z2, f2⟩
      · exact absurd (w1.trans w3.symm) hne
      · subst w1
        subst w2
        rw [List.getElem?_set_self (by rw [← r.len]; exact hl)] at hs
        cases hs
        rw [List.getElem?_set_ne (Ne.symm z2)]
        exact hd m1 k z p f2 m2 rfl
    · rw [List.getElem?_set_ne (Ne.symm z1)] at hs
      rcases get_set e2 with ⟨w1, w2, hl⟩ | ⟨z2, f2⟩
      · subst w1
        subst w2
        rw [List.getElem?_set_self (by rw [← r.len]; exact hl)]
        intro q
        cases q
        exact hd m2 j y p f1 m1 rfl hs
      · rw [List.getElem?_set_ne (Ne.symm z2)]
        exact r.dis j k y z p hne f1 f2 m1 m2 hs
theorem Rel.putd (r : Rel C G σ H s) {i : Nat} {v : V} {d : PyData} (rv : Dp C.K G v d) : Rel C G (σ.set i (some v)) H (s.set i (.d d)) := r.put (x := .d d) rv fun m => nomatch m
/-- a list of the def's own changes -/
theorem Rel.mutl (r : Rel C G σ H s) {i : Nat} {p : Addr} {ds ds' : List PyData} {xs' : List V} (e : s.env[i]? = some (some (.own ds))) (hs : σ[i]? = some (some (.ref p))) (hd : DpAll C.K G xs' ds') : Rel C G σ (upd H p (.lst xs')) (s.set i (.own ds')) := by
  obtain ⟨v, hv, p', xs, hvp, h1, h2, h3, h4⟩ := r.sl i _ e
  rw [hs] at hv
  cases hv
  cases hvp
  have gp : ∀ b, G b ≠ none → b ≠ p := fun b hb z => hb (by rw [z]; exact h3)
  refine ⟨⟨fun b o hb => ?_, r.fin.g0, r.fin.nw, fun b o n hb => ?_, r.fin.ok, r.fin.obu (Ex.refl G) h2 (fun b o n e => by rw [upd_ne n]; exact e), fun l hl => ?_⟩, by show (s.env.set i _).length = _; rw [List.length_set]; exact r.len, fun j y ej => ?_, fun j k y z q hne e1 e2 m1 m2 => ?_⟩
  · rw [upd_ne (gp b (by rw [hb]; exact Option.some_ne_none _))]
    exact r.fin.gh b o hb
  · rw [upd_ne (fun z => by rw [z, h2] at hb; cases hb)]
    exact r.fin.hh b o n hb
  · have hlp : l ≠ p := fun z => r.fin.nbx h2 (by rw [← z]; exact hl)
    exact ⟨(r.fin.bx l hl).1.updS h1 rfl hlp, (r.fin.bx l hl).2⟩
  · rcases get_set ej with ⟨rfl, rfl, hl⟩ | ⟨z, ej⟩
    · exact ⟨_, hs, p, xs', rfl, upd_same, h2, h3, hd⟩
    · obtain ⟨v', hv', rv⟩ := r.sl j y ej
      refine ⟨v', hv', ?_⟩
      cases y with
      | d x => exact rv
      | box => exact rv
      | ob _ => exact rv
      | obl _ => exact rv
      | own ds2 =>
        obtain ⟨p2, xs2, a1, a2, a3, a4, a5⟩ := rv
        exact ⟨p2, xs2, a1, by rw [upd_ne fun z' => r.dis i j _ _ p (Ne.symm z) e ej rfl rfl hs (by rw [hv', a1, z'])]; exact a2, a3, a4, a5⟩
      | dic ks =>
        obtain ⟨p2, xs2, a1, a2, a3, a4, a5⟩ := rv
        exact ⟨p2, xs2, a1, by rw [upd_ne fun z' => r.dis i j _ _ p (Ne.symm z) e ej rfl rfl hs (by rw [hv', a1, z'])]; exact a2, a3, a4, a5⟩
      | dit ks =>
        obtain ⟨p2, xs2, a1, a2, a3, a4, a5⟩ := rv
        exact ⟨p2, xs2, a1, by rw [upd_ne fun z' => r.dis i j _ _ p (Ne.symm z) e ej rfl rfl hs (by rw [hv', a1, z'])]; exact a2, a3, a4, a5⟩
      | oth φ => exact Oth.step (φ := φ) rv (Ex.refl G) (Kept.upd h1 rfl)
      | dd ks =>
        obtain ⟨p2, xs2, a1, a2, a5⟩ := rv
        exact ⟨p2, xs2, a1, a2.upd h1 h2 (fun _ _ z => by cases z), a5⟩
  · have go : ∀ (j : Nat) y, (s.set i (.own ds')).env[j]? = some (some y) → y.mut = true → ∃ y', s.env[j]? = some (some y') ∧ y'.mut = true := fun j y ej m => by
      rcases get_set ej with ⟨rfl, rfl, hl⟩ | ⟨z, ej⟩
      · exact ⟨_, e, rfl⟩
      · exact ⟨y, ej, m⟩
    obtain ⟨y', f1, n1⟩ := go j y e1 m1
    obtain ⟨z', f2, n2⟩ := go k z e2 m2
    exact r.dis j k y' z' q hne f1 f2 n1 n2
end
abbrev WG := PyData → Dt → (Dt → Prop) → Prop
abbrev WGs := List PyData → Dt → (Dt → Prop) → Prop
def IG (C : Ct) (g : TG) (ks : List Nat) (w : WG) : Prop := ∀ G σ H s v d Q Q', Rel C G σ H s → Dp C.K G v d → w d s Q →
  (∀ σ' s', Q s' → Rel C G σ' H s' → σ'.length = σ.length → (∀ j : Nat, j ∉ ks → σ'[j]? = σ[j]?) → Q' σ' H) → g v σ H Q'
def IGs (C : Ct) (g : TGs) (ks : List Nat) (w : WGs) : Prop := ∀ G σ H s vs ds Q Q', Rel C G σ H s → DpAll C.K G vs ds → w ds s Q →
  (∀ σ' s', Q s' → Rel C G σ' H s' → σ'.length = σ.length → (∀ j : Nat, j ∉ ks → σ'[j]? = σ[j]?) → Q' σ' H) → g vs σ H Q'
structure DG (X : Cx) (C : Ct) (e : Expr) (g : TG) (ks : List Nat) (w : WG) : Prop where
  pg : PG X e g
  ig : IG C g ks w
structure DGs (X : Cx) (C : Ct) (es : List Expr) (g : TGs) (ks : List Nat) (w : WGs) : Prop where
  pg : PGs X es g
  ig : IGs C g ks w
section
variable {X : Cx} {C : Ct} {a b e tg : Expr} {es : List Expr} {pos p : Pos} {t ta tb tc : TE} {w wa wb wc : WE} {tA : TA} {wA : WA} {x : Str}
def wName (i : Nat) : WG := fun d s Q => Q (s.set i (.d d))
theorem ig_name (i : Nat) : IG C (gName i) [i] (wName i) := fun G σ H s v d Q Q' r p q k =>
  k _ _ q (r.putd p) (List.length_set ..) fun j hj => List.getElem?_set_ne (fun z => hj (by simp [z]))
theorem dg_name (i : Nat) (hN : X.N.Nodup) (hi : X.N[i]? = some x := by rfl) (hx : Loc X.env.scope x := by first | exact .inl rfl | exact .inr rfl) (hf : X.fn x = true ∨ X.env.scope.names.lookup x = some .local := by first | exact .inl rfl | exact .inr rfl | assumption) : DG X C (.Name x pos) (gName i) [i] (wName i) :=
  ⟨pg_name hN hi hx hf, ig_name i⟩
def wGNil : WGs := fun ds s Q => ds = [] ∧ Q s
def wGCons (w : WG) (u : WGs) : WGs := fun ds s Q => ∃ d r, ds = d :: r ∧ w d s fun s' => u r s' Q
theorem dgs_nil : DGs X C [] gNil [] wGNil := ⟨pgs_nil, fun G σ H s vs ds Q Q' r p q k => by
  obtain ⟨rfl, q⟩ := q
  cases p
  exact ⟨rfl, k σ s q r rfl fun _ _ => rfl⟩⟩
theorem dgs_cons {g : TG} {gs : TGs} {k1 k2 : List Nat} {w : WG} {u : WGs} (h1 : DG X C e g k1 w) (h2 : DGs X C es gs k2 u) (hs : PGs X (e :: es) (gCons g gs) := by exact pgs_cons (DG.pg (by assumption)) (DGs.pg (by assumption))) : DGs X C (e :: es) (gCons g gs) (k1 ++ k2) (wGCons w u) := ⟨hs, fun G σ H s vs ds Q Q' r p q k => by
  obtain ⟨d, ds', rfl, q⟩ := q
  cases p with
  | @cons v vs' _ _ p1 p2 =>
    refine ⟨v, vs', rfl, h1.ig G σ H s v d _ _ r p1 q fun σ1 s1 q1 r1 l1 f1 => h2.ig G σ1 H s1 vs' ds' _ _ r1 p2 q1 fun σ2 s2 q2 r2 l2 f2 => k σ2 s2 q2 r2 (l2.trans l1) fun j hj => ?_⟩
    rw [List.mem_append, not_or] at hj
    rw [f2 j hj.2, f1 j hj.1]⟩
def wGTup (n : Nat) (u : WGs) : WG := fun d s Q => seqd d = true ∧ (its d).length = n ∧ u (its d) s Q
theorem ig_tup {n : Nat} {g : TGs} {ks : List Nat} {u : WGs} (h : IGs C g ks u) : IG C (gSeqB C.K n g) ks (wGTup n u) := fun G σ H s v d Q Q' r p q k => by
  obtain ⟨hs, hl, q⟩ := q
  obtain ⟨a, xs, rfl, h1, h2⟩ := (show Pk C G H v d from .inl p).seq r.fin.gh hs
  exact ⟨isT d, a, xs, rfl, h1, by rw [dpa_len h2]; exact hl, h G σ H s xs (its d) Q Q' r h2 q k⟩
theorem dg_tup {n : Nat} {g : TGs} {ks : List Nat} {u : WGs} {k : Nat} (hK : X.K = C.K) (hc : X.calm = true) (h : DGs X C es g ks u) (hn : (assignEach es X.env).length = n := by rfl) (hst : (assignEach es X.env).findIdx? (·.1) = none := by rfl) :
    DG X C (.Tuple es k pos) (gSeqB C.K n g) ks (wGTup n u) := ⟨hK ▸ pg_seqB hc h.pg hn hst, ig_tup h.ig⟩
def ItD (C : Ct) (G1 : Hp) (J : It) (ds : List PyData) : Prop := ∀ G2 H2, Ex G1 G2 → Ex G2 H2 → (∀ (i : Nat) d, ds[i]? = some d → J.go i H2 ∧ ∀ x H3, J.yld i H2 x H3 → ∃ G3, Ex G2 G3 ∧ Ex H2 H3 ∧ Ex G3 H3 ∧ Nw G2 G3 H2 ∧ Dp C.K G3 x d) ∧ J.stop ds.length H2
def II (C : Ct) (wi : TI) (w : WA) : Prop := ∀ G σ H s Q R, Rel C G σ H s → w s Q →
  (∀ J ds s' G' H', Q ds s' → Rel C G' σ H' s' → Ex G G' → Gs C σ G H s G' H' s' → ItD C G' J ds → R J H') → wi σ H R
structure DI (X : Cx) (C : Ct) (tg iter : Expr) (wi : TI) (w : WA) : Prop where
  pi : PI X tg iter wi
  ii : II C wi w
def wSeq (w : WE) : WA := fun s Q => w s fun d s1 => seqd d = true ∧ Q (its d) s1
theorem dp_seq {G H : Hp} {v : V} {d : PyData} (h : Dp C.K G v d) (hs : seqd d = true) : ∃ p xs, v = .ref p ∧ SqB C.K (isT d) G p xs ∧ DpAll C.K G xs (its d) := (show Pk C G G v d from .inl h).seq (Ex.refl G) hs
theorem itd_seq {G : Hp} {p : Addr} {b : Bool} {xs : List V} {ds : List PyData} (h1 : SqB C.K b G p xs) (h2 : DpAll C.K G xs ds) : ItD C G (ItsB C.K b p) ds := fun G2 H2 e1 e2 => by
  have h1' := SqB.ex (e1.trans e2) h1
  refine ⟨fun i d hd => ?_, xs, h1', by rw [dpa_len h2]; exact Nat.le_refl _⟩
  obtain ⟨v, hv, pv⟩ := dpa_back h2 hd
  refine ⟨⟨xs, v, h1', hv⟩, fun x H3 y => ?_⟩
  obtain ⟨rfl, hy⟩ := y
  have e := hy xs h1'
  rw [hv] at e
  cases e
  exact ⟨G2, Ex.refl _, Ex.refl _, e2, Nw.refl _ _, dp_ex e1 pv⟩
theorem di_seq (hK : X.K = C.K) (h : DE X C e t w) : DI X C tg e (iSeqB C.K t) (wSeq w) := ⟨hK ▸ pi_seqB h.pe, fun G σ H s Q R r q k => h.ie G σ H s _ _ r q fun v d s1 G1 H1 q1 r1 eg eh p => by
  obtain ⟨hs, q1⟩ := q1
  obtain ⟨a, xs, rfl, h1, h2⟩ := dp_seq (H := H1) p hs
  exact ⟨isT d, a, xs, rfl, SqB.ex r1.fin.gh h1, k _ _ s1 G1 H1 q1 r1 eg eh (itd_seq h1 h2)⟩⟩
def wRng1 (w : WE) : WA := fun s Q => w s fun d s1 => ∃ j : Int, d = .int j ∧ -(2 ^ 62) ≤ j ∧ j < 2 ^ 62 ∧ Q (iotaD 0 j) s1
theorem iota_get {a b : Int} {i : Nat} {d : PyData} (h : (iotaD a b)[i]? = some d) : i < (b - a).toNat ∧ d = .int (a + i) := by
  unfold iotaD at h
  rw [List.getElem?_map] at h
  cases q : (List.range (b - a).toNat)[i]? with
  | none => rw [q] at h; cases h
  | some m =>
    rw [q] at h
    have h1 := List.getElem?_eq_some_iff.mp q
    obtain ⟨h2, h3⟩ := h1
    rw [List.getElem_range] at h3
    rw [List.length_range] at h2
    subst h3
    exact ⟨h2, by simpa using h.symm⟩
theorem iota_len (a b : Int) : (iotaD a b).length = (b - a).toNat := by unfold iotaD; rw [List.length_map, List.length_range]
theorem itd_rng {G : Hp} {a b : Int} : ItD C G (Itr a (b - a).toNat) (iotaD a b) := fun G2 H2 e1 e2 => by
  refine ⟨fun i d hd => ?_, by rw [iota_len]; exact Nat.le_refl _⟩
  obtain ⟨h1, rfl⟩ := iota_get hd
  refine ⟨h1, fun x H3 y => ?_⟩
  obtain ⟨rfl, rfl⟩ := y
  exact ⟨G2, Ex.refl _, Ex.refl _, e2, Nw.refl _ _, .int _⟩
theorem di_rng1 (hg : Gl X "range") (hm : X.mg "range" = none) (h : DE X C a ta wa) (hs : starEach [a] X.env = [(false, eval a X.env)] := by rfl) (hs2 : starEach [a] X.env = (false, eval a X.env) :: starEach [] X.env := by rfl) :
    DI X C tg (.Call (.Name "range" p) [a] [] pos) (iRng1 (tCons ta tNil)) (wRng1 wa) := ⟨pi_range1 hg hm (pa_cons h.pe pa_nil hs2) hs, fun G σ H s Q R r q k => h.ie G σ H s _ _ r q fun v d s1 G1 H1 q1 r1 eg eh p => by
  obtain ⟨j, rfl, h1, h2, q1⟩ := q1
  refine ⟨j, by rw [dp_int p], h1, h2, ?_⟩
  have := itd_rng (C := C) (G := G1) (a := 0) (b := j)
  rw [Int.sub_zero] at this
  exact k _ _ s1 G1 H1 q1 r1 eg eh this⟩
/-- enumerate -/
def enumD (ds : List PyData) : List PyData := ds.mapIdx fun i d => .tuple [.int (i : Nat), d]
def wEnum (w : WE) : WA := fun s Q => w s fun d s1 => seqd d = true ∧ Q (enumD (its d)) s1
/-- zip of two -/
def zipD (ds es : List PyData) : List PyData := List.zipWith (fun d e => .tuple [d, e]) ds es
def wZip (w u : WE) : WA := fun s Q => w s fun d s1 => u s1 fun e s2 => seqd d = true ∧ seqd e = true ∧ Q (zipD (its d) (its e)) s2
theorem itd_zip {G : Hp} {p p' : Addr} {b b' : Bool} {xs xs' : List V} {ds ds' : List PyData} (h1 : SqB C.K b G p xs) (h2 : DpAll C.K G xs ds) (h1' : SqB C.K b' G p' xs') (h2' : DpAll C.K G xs' ds') : ItD C G (ItzB C.K b b' p p') (zipD ds ds') := fun G2 H2 e1 e2 => by
  have k1 := SqB.ex (e1.trans e2) h1
  have k2 := SqB.ex (e1.trans e2) h1'
  have l1 := dpa_len h2
  have l2 := dpa_len h2'
  refine ⟨fun i d hd => ?_, xs, xs', k1, k2, ?_, ?_, ?_⟩
  · unfold zipD at hd
    rw [List.getElem?_zipWith] at hd
    cases q : ds[i]? with
    | none => rw [q] at hd; cases hd
    | some z =>
      cases q' : ds'[i]? with
      | none => rw [q, q'] at hd; cases hd
      | some z' =>
        rw [q, q'] at hd
        cases hd
        obtain ⟨v, hv, pv⟩ := dpa_back h2 q
        obtain ⟨v', hv', pv'⟩ := dpa_back h2' q'
        refine ⟨⟨xs, xs', v, v', k1, k2, hv, hv'⟩, fun x H3 y => ?_⟩
        obtain ⟨T, u, u', rfl, hT, rfl, hy, hy'⟩ := y
        have e := hy xs k1
        rw [hv] at e
        cases e
        have e := hy' xs' k2
        rw [hv'] at e
        cases e
        have g1 : G2 T = none := fresh_back e2 hT
        exact ⟨upd G2 T (.tup [v, v']), Ex.new g1, Ex.new hT, Ex.both e2 hT, Nw.one hT, .tup (.inl (.inl upd_same)) (.cons (dp_ex (e1.trans (Ex.new g1)) pv) (.cons (dp_ex (e1.trans (Ex.new g1)) pv') .nil))⟩
  all_goals unfold zipD; rw [List.length_zipWith]; omega
theorem di_zip {elts : List Expr} {kk : Nat} {tpos : Pos} (hK : X.K = C.K) (hg : Gl X "zip") (hm : X.mg "zip" = none) (h : DE X C a ta wa) (h' : DE X C b tb wb) (hpi : PI X (.Tuple elts kk tpos) (.Call (.Name "zip" p) [a, b] [] pos) (iZipB X.K (tCons ta (tCons tb tNil)))) :
    DI X C (.Tuple elts kk tpos) (.Call (.Name "zip" p) [a, b] [] pos) (iZipB C.K (tCons ta (tCons tb tNil))) (wZip wa wb) := ⟨hK ▸ hpi, fun G σ H s Q R r q k => h.ie G σ H s _ _ r q fun v d s1 G1 H1 q1 r1 eg eh p =>
  h'.ie G1 σ H1 s1 _ _ r1 q1 fun v' d' s2 G2 H2 q2 r2 eg2 eh2 p' => by
  obtain ⟨hs, hs', q2⟩ := q2
  obtain ⟨a, xs, rfl, h1, h2⟩ := dp_seq (H := H1) (dp_ex eg2 p) hs
  obtain ⟨a', xs', rfl, h1', h2'⟩ := dp_seq (H := H2) p' hs'
  exact ⟨isT d, isT d', a, a', xs, xs', rfl, SqB.ex r2.fin.gh h1, SqB.ex r2.fin.gh h1', k _ _ s2 G2 H2 q2 r2 (eg.trans eg2) (eh.trans eh2) (itd_zip h1 h2 h1' h2')⟩⟩
end
structure DEnds where
  nx : Dt → Prop
  rt : PyData → Cs → Prop
  bk : Dt → Prop := fun _ => False
  ct : Dt → Prop := fun _ => False
abbrev WS := DEnds → Dt → Prop
structure Outs (C : Ct) (G : Hp) (D : Ends) (DD : DEnds) : Prop where
  nx : ∀ σ' H' s' G', DD.nx s' → Rel C G' σ' H' s' → Ex G G' → D.nx σ' H'
  bk : ∀ σ' H' s' G', DD.bk s' → Rel C G' σ' H' s' → Ex G G' → D.bk σ' H'
  ct : ∀ σ' H' s' G', DD.ct s' → Rel C G' σ' H' s' → Ex G G' → D.ct σ' H'
  rt : ∀ v d c' G' H', DD.rt d c' → Fin C G' H' c' → Ex G G' → Dp C.K G' v d → D.rt v H'
theorem Outs.mono {C : Ct} {G G1 : Hp} {D : Ends} {DD : DEnds} (o : Outs C G D DD) (e : Ex G G1) : Outs C G1 D DD :=
  ⟨fun σ H s G' a b c => o.nx σ H s G' a b (e.trans c), fun σ H s G' a b c => o.bk σ H s G' a b (e.trans c), fun σ H s G' a b c => o.ct σ H s G' a b (e.trans c), fun v d c' G' H' a b c p => o.rt v d c' G' H' a b (e.trans c) p⟩
def IS (C : Ct) (t : TS) (w : WS) : Prop := ∀ G σ H s D DD, Rel C G σ H s → w DD s → Outs C G D DD → t D σ H
structure DS (X : Cx) (C : Ct) (st : Stmt) (t : TS) (w : WS) : Prop where
  ps : PS X st t
  is : IS C t w
structure DSs (X : Cx) (C : Ct) (st : List Stmt) (t : TS) (w : WS) : Prop where
  ps : PSs X st t
  is : IS C t w
section
variable {X : Cx} {C : Ct} {a b e tg : Expr} {es : List Expr} {pos p : Pos} {t ta tb tc : TE} {w wa wb wc : WE} {tA : TA} {wA : WA} {x : Str} {st : Stmt} {sts : List Stmt} {u v : TS} {wu wv : WS}
def wNext : WS := fun DD s => DD.nx s
def wSq (w u : WS) : WS := fun DD s => w { DD with nx := u DD } s
theorem is_seq (h : IS C u wu) (h2 : IS C v wv) : IS C (tSeq u v) (wSq wu wv) := fun G σ H s D DD r q o =>
  h G σ H s _ _ r q ⟨fun σ' H' s' G' n r' e => h2 G' σ' H' s' D DD r' n (o.mono e), o.bk, o.ct, o.rt⟩
theorem dss_nil : DSs X C [] tNext wNext := ⟨pss_nil, fun G σ H s D DD r q o => o.nx σ H s G q r (Ex.refl G)⟩
theorem dss_cons (h : DS X C st u wu) (h2 : DSs X C sts v wv) : DSs X C (st :: sts) (tSeq u v) (wSq wu wv) := ⟨pss_cons h.ps h2.ps, is_seq h.is h2.is⟩
/-- a statement that several ways lead out of: what holds behind it, said once -/
def wSqC (w u : WS) : WS := fun DD s => ∃ P : Dt → Prop, w { DD with nx := P } s ∧ ∀ s', P s' → u DD s'
theorem dss_cut (h : DS X C st u wu) (h2 : DSs X C sts v wv) : DSs X C (st :: sts) (tSeq u v) (wSqC wu wv) := ⟨pss_cons h.ps h2.ps, fun G σ H s D DD r q o => by
  obtain ⟨P, q1, q2⟩ := q
  exact h.is G σ H s _ _ r q1 ⟨fun σ' H' s' G' n r' e => h2.is G' σ' H' s' D DD r' (q2 s' n) (o.mono e), o.bk, o.ct, o.rt⟩⟩
theorem dss_one (h : DS X C st u wu) : DSs X C [st] u wu := ⟨pss_one h.ps, h.is⟩
theorem ds_never : DS X C st tNever (fun _ _ => False) := ⟨ps_never, fun G σ H s D DD r q o => q.elim⟩
def wRet (w : WE) : WS := fun DD s => w s fun d s1 => DD.rt d s1.c
theorem ds_ret (h : DE X C e t w) : DS X C (.Return (some e) pos) (tRet t) (wRet w) := ⟨ps_ret h.pe, fun G σ H s D DD r q o => h.ie G σ H s _ _ r q fun v d s1 G1 H1 q1 r1 eg eh p => o.rt v d s1.c G1 H1 q1 r1.fin eg p⟩
def wIfS (c : WT) (u v : WS) : WS := fun DD s => c s fun b s1 => if b = true then u DD s1 else v DD s1
theorem ds_if {c : Expr} {l1 l2 : List Stmt} {tc : TT} {wc : WT} (hc : DT X C c tc wc) (h1 : DSs X C l1 u wu) (h2 : DSs X C l2 v wv) : DS X C (.If c l1 l2 pos) (tIfS tc u v) (wIfS wc wu wv) := ⟨ps_if hc.pt h1.ps h2.ps, fun G σ H s D DD r q o =>
  hc.it G σ H s _ _ r q fun b s1 G1 H1 q1 r1 eg eh => by
    cases b with
    | true =>
      rw [if_pos rfl] at q1
      exact iteT (h1.is G1 σ H1 s1 D DD r1 q1 (o.mono eg))
    | false =>
      rw [if_neg (by decide)] at q1
      exact iteF (h2.is G1 σ H1 s1 D DD r1 q1 (o.mono eg))⟩
def wDrop (w : WE) : WS := fun DD s => w s fun _ s1 => DD.nx s1
/-- target = e -/
def wAsg (w : WE) (g : WG) : WS := fun DD s => w s fun d s1 => g d s1 DD.nx
theorem is_asg {g : TG} {ks : List Nat} {wg : WG} (h : IE C t w) (hg : IG C g ks wg) : IS C (tAsg t g) (wAsg w wg) := fun G σ H s D DD r q o =>
  h G σ H s _ _ r q fun v d s1 G1 H1 q1 r1 eg eh p => hg G1 σ H1 s1 v d _ _ r1 p q1 fun σ' s' q2 r2 _ _ => o.nx σ' H1 s' G1 q2 r2 eg
theorem ds_asg {g : TG} {ks : List Nat} {wg : WG} (h : DE X C e t w) (hg : DG X C tg g ks wg) (hs : swapsWithSole [tg] e pos.line X.env = pure false := by rfl) (hw : swappedStores [tg] e X.env = pure none := by rfl)
    (h1 : (assignEach [tg] X.env).map (·.2) = [assign tg X.env] := by rfl) : DS X C (.Assign [tg] e pos) (tAsg t g) (wAsg w wg) := ⟨ps_asg h.pe hg.pg hs hw h1, is_asg h.ie hg.ig⟩
theorem ds_set (i : Nat) {pos' : Pos} (hN : X.N.Nodup) (h : DE X C e t w) (hi : X.N[i]? = some x := by rfl) (hx : Loc X.env.scope x := by first | exact .inl rfl | exact .inr rfl) (hs : swapsWith e (some (.Name x pos')) pos.line X.env = pure false := by rfl)
    (hf : X.fn x = true ∨ X.env.scope.names.lookup x = some .local := by first | exact .inl rfl | exact .inr rfl | assumption) : DS X C (.Assign [.Name x pos'] e pos) (tAsg t (gName i)) (wAsg w (wName i)) := ⟨ps_set hN hi hx h.pe hs hf, is_asg h.ie (ig_name i)⟩
/-- name = a new list of the def's own -/
def wOwn (i : Nat) (w : WA) : WS := fun DD s => w s fun ds s1 => DD.nx (s1.set i (.own ds))
theorem is_own {i : Nat} {w : WA} (h : IO C t w) : IS C (tAsg t (gName i)) (wOwn i w) := fun G σ H s D DD r q o =>
  h G σ H s _ _ r q fun p xs ds s1 G1 H1 q1 r1 eg eh hp h1 h2 h3 h4 => o.nx _ H1 _ G1 q1 (r1.put (x := .own ds) ⟨p, xs, rfl, h1, r.fin.h0 hp, h2, h3⟩ fun _ j y p' ej m z => by
    cases z
    exact h4 j y ej m) eg
theorem ds_own (i : Nat) {w : WA} {pos' : Pos} (hN : X.N.Nodup) (h : DO X C e t w) (hi : X.N[i]? = some x := by rfl) (hx : Loc X.env.scope x := by first | exact .inl rfl | exact .inr rfl) (hs : swapsWith e (some (.Name x pos')) pos.line X.env = pure false := by rfl)
    (hf : X.fn x = true ∨ X.env.scope.names.lookup x = some .local := by first | exact .inl rfl | exact .inr rfl | assumption) : DS X C (.Assign [.Name x pos'] e pos) (tAsg t (gName i)) (wOwn i w) := ⟨ps_set hN hi hx h.pe hs hf, is_own h.io⟩
/-- name += e -/
def wAug (i : Nat) (f : Int → Int → Int) (w : WE) : WS := fun DD s => ∃ m, s.env[i]? = some (some (.d (.int m))) ∧ w s fun d s1 => ∃ n, d = .int n ∧ DD.nx (s1.set i (.d (.int (f m n))))
theorem is_aug {i : Nat} {f : Int → Int → Int} (h : IE C t w) : IS C (tAug i t (ipI f)) (wAug i f w) := fun G σ H s D DD r q o => by
  obtain ⟨m, em, q⟩ := q
  obtain ⟨v, hv, rv⟩ := r.sl i _ em
  refine ⟨v, hv, h G σ H s _ _ r q fun y d s1 G1 H1 q1 r1 eg eh p => ?_⟩
  obtain ⟨n, rfl, q1⟩ := q1
  exact ⟨m, n, dp_int rv, dp_int p, o.nx _ H1 _ G1 q1 (r1.putd (.int _)) eg⟩
theorem ds_iadd (i : Nat) {pos' : Pos} (hN : X.N.Nodup) (h : DE X C e t w) (hi : X.N[i]? = some x := by rfl) (hx : Loc X.env.scope x := by first | exact .inl rfl | exact .inr rfl) (hf : X.fn x = true ∨ X.env.scope.names.lookup x = some .local := by first | exact .inl rfl | exact .inr rfl | assumption) :
    DS X C (.AugAssign (.Name x pos') .Add e pos) (tAug i t (ipI fun i j => i + j)) (wAug i (fun i j => i + j) w) := ⟨ps_aug hN hi hx h.pe ip_add hf, is_aug h.ie⟩
def wMeth (i : Nat) (wA : WA) (f : List PyData → List PyData → (PyData → List PyData → Prop) → Prop) : WE := fun s Q => (∃ ds0, s.env[i]? = some (some (.own ds0))) ∧ wA s fun as s1 => ∃ ds, s1.env[i]? = some (some (.own ds)) ∧ f ds as fun d ds' => Q d (s1.set i (.own ds'))
/-- such a method as a statement -/
theorem is_meth {i : Nat} {r : V → List V → Hp → VK → Prop} {f : List PyData → List PyData → (PyData → List PyData → Prop) → Prop}
    (hr : ∀ G H p xs vs ds as R Q', H p = some (.lst xs) → DpAll C.K G xs ds → DpAll C.K G vs as → f ds as R → (∀ v d xs' ds', R d ds' → DpAll C.K G xs' ds' → Dp C.K G v d → Q' v (upd H p (.lst xs'))) → r (.ref p) vs H Q') (h : IA C tA wA) :
    IS C (tDrop (tBM C.K "list" r (tVar i) tA)) (wDrop (wMeth i wA f)) := fun G σ H s D DD rr q o => by
  obtain ⟨⟨ds0, e0⟩, q⟩ := q
  obtain ⟨v, hv, p, xs0, rfl, b1, b2, b3, b4⟩ := rr.sl i _ e0
  refine ⟨_, hv, .inl ⟨rfl, _, .inl (.inl b1)⟩, h G σ H s _ _ rr q fun vs as s1 G1 H1 q1 r1 eg eh pa => ?_⟩
  obtain ⟨ds, e1, q1⟩ := q1
  obtain ⟨v', hv', p', xs, hvp, a1, a2, a3, a4⟩ := r1.sl i _ e1
  rw [hv] at hv'
  cases hv'
  cases hvp
  exact hr G1 H1 p xs vs ds as _ _ a1 a4 pa q1 fun v d xs' ds' q2 hd pd => o.nx σ _ _ G1 q2 (r1.mutl e1 hv hd) eg
def fAppend : List PyData → List PyData → (PyData → List PyData → Prop) → Prop := fun ds as Q => ∃ d, as = [d] ∧ ds.length < 100000 ∧ Q .none (ds ++ [d])
theorem ds_append (i : Nat) {apos cpos : Pos} (hK : X.K = C.K) (h : DE X C e t w) (hv : PE X (.Name x p) (tVar i) := by exact pv _) (hb : PE X (.Call (.Attribute (.Name x p) "append" apos) [e] [] cpos) (tBM X.K "list" rAppend (tVar i) (tCons t tNil)))
    (hs : swapsWith (.Call (.Attribute (.Name x p) "append" apos) [e] [] cpos) none pos.line X.env = pure false := by rfl) :
    DS X C (.Expr (.Call (.Attribute (.Name x p) "append" apos) [e] [] cpos) pos) (tDrop (tBM C.K "list" rAppend (tVar i) (tCons t tNil))) (wDrop (wMeth i (wCons w fun s Q => Q [] s) fAppend)) :=
  ⟨ps_expr (hK ▸ hb) hs, is_meth (fun G H p xs vs ds as R Q' h1 h2 h3 hf k => by
    obtain ⟨d, rfl, hl, hf⟩ := hf
    cases h3 with
    | cons p1 p2 =>
      cases p2
      exact ⟨p, xs, _, rfl, rfl, h1, sz_lt (by rw [dpa_len h2]; exact hl), k _ _ _ _ hf (dpa_app h2 (.cons p1 .nil)) .non⟩) (ia_cons h.ie ia_nil)⟩
end
end Dw
namespace Dw
open PySem PySem.Spec PyProof.Rows L2 OgR Evl
section
variable {X : Cx} {C : Ct} {a b e tg : Expr} {es : List Expr} {pos p : Pos} {t ta tb tc te : TE} {w wa wb wc we : WE} {tA : TA} {wA : WA} {x : Str} {st : Stmt} {sts : List Stmt} {u v : TS} {wu wv : WS}
def wFor (w : WA) (g : WG) (wb : WS) : WS := fun DD s => w s fun ds s1 => ∃ Inv : Nat → Dt → Prop, Inv 0 s1 ∧
  (∀ (i : Nat) d s2, ds[i]? = some d → Inv i s2 → g d s2 fun s3 => wb { nx := Inv (i + 1), rt := DD.rt, bk := DD.nx, ct := Inv (i + 1) } s3) ∧ ∀ s2, Inv ds.length s2 → DD.nx s2
theorem is_for {wi : TI} {wI : WA} {g : TG} {ks : List Nat} {wg : WG} {tb : TS} {wb : WS} (hi : II C wi wI) (hg : IG C g ks wg) (hb : IS C tb wb) : IS C (tFor wi g tb) (wFor wI wg wb) := fun G σ H s D DD r q o =>
  hi G σ H s _ _ r q fun J ds s1 G1 H1 q1 r1 eg eh itd => by
    obtain ⟨Inv, h0, hs, hd⟩ := q1
    refine ⟨fun i m σ' H' => m = ds.length - i ∧ i ≤ ds.length ∧ ∃ G' s', Ex G1 G' ∧ Rel C G' σ' H' s' ∧ Inv i s', ⟨ds.length, by simp, Nat.zero_le _, G1, s1, Ex.refl G1, r1, h0⟩, ?_⟩
    rintro i m σ' H' ⟨rfl, hi, G', s', e', r', inv⟩
    obtain ⟨go, stop⟩ := itd G' H' e' r'.fin.gh
    by_cases hlt : i < ds.length
    · have hd1 : ds[i]? = some ds[i] := List.getElem?_eq_getElem hlt
      obtain ⟨g1, g2⟩ := go i _ hd1
      refine .inr ⟨g1, fun σ2 H2 => ∃ G2 s2, Ex G1 G2 ∧ Rel C G2 σ2 H2 s2 ∧ Inv (i + 1) s2, fun σ2 H2 ⟨G2, s2, a1, a2, a3⟩ => ⟨ds.length - (i + 1), by omega, rfl, hlt, G2, s2, a1, a2, a3⟩, fun x H3 y => ?_⟩
      obtain ⟨G3, b1, b2, b3, b4, b5⟩ := g2 x H3 y
      have r3 := r'.grow b1 b2 b3 b4
      have e3 := e'.trans b1
      refine hg G3 σ' H3 s' x _ _ _ r3 b5 (hs i _ s' hd1 inv) fun σ4 s4 q4 r4 _ _ => hb G3 σ4 H3 s4 _ _ r4 q4 ⟨fun σ5 H5 s5 G5 q r e => ⟨G5, s5, e3.trans e, r, q⟩, fun σ5 H5 s5 G5 q r e => o.nx σ5 H5 s5 G5 q r ((eg.trans e3).trans e), fun σ5 H5 s5 G5 q r e => ⟨G5, s5, e3.trans e, r, q⟩, fun v d c' G5 H5 q f e p => o.rt v d c' G5 H5 q f ((eg.trans e3).trans e) p⟩
    · have e : i = ds.length := by omega
      subst e
      exact .inl ⟨stop, o.nx σ' H' s' G' (hd s' inv) r' (eg.trans e')⟩
theorem ds_for {iter : Expr} {wi : TI} {wI : WA} {g : TG} {ks : List Nat} {wg : WG} {tb : TS} {wb : WS} (hp : PassesOwn (model X.prog X.w) X.A X.env X.xe) (hc : X.calm = true) (hi : DI X C tg iter wi wI) (hg : DG X C tg g ks wg) (hb : DSs X C sts tb wb)
    (hs : ∀ x, foldedSetIterable iter X.env x = pure x := by intro _; rfl) : DS X C (.For tg iter sts [] pos) (tFor wi g tb) (wFor wI wg wb) := ⟨ps_for hp hc hi.pi hg.pg hb.ps hs, is_for hi.ii hg.ig hb.is⟩
def wWhile (c : WT) (wb : WS) : WS := fun DD s => ∃ Inv : Nat → Dt → Prop, (∃ m, Inv m s) ∧ ∀ m s, Inv m s → c s fun b s1 => if b = true then wb { nx := fun s2 => ∃ m', m' < m ∧ Inv m' s2, rt := DD.rt, bk := DD.nx, ct := fun s2 => ∃ m', m' < m ∧ Inv m' s2 } s1 else DD.nx s1
def wipeD (env : List (Option DV)) : List Nat → List (Option DV)
  | [] => env
  | v :: vs => (wipeD env vs).set v none
theorem wipeD_len (env : List (Option DV)) : ∀ vs : List Nat, (wipeD env vs).length = env.length
  | [] => rfl
  | v :: vs => by unfold wipeD; rw [List.length_set, wipeD_len env vs]
theorem wipeD_some {env : List (Option DV)} {i : Nat} {x : DV} : ∀ {vs : List Nat}, (wipeD env vs)[i]? = some (some x) → env[i]? = some (some x) ∧ i ∉ vs
  | [], h => ⟨h, by simp⟩
  | v :: vs, h => by
    unfold wipeD at h
    by_cases hi : v = i
    · subst hi
      by_cases hv : v < (wipeD env vs).length
      · rw [List.getElem?_set_self hv] at h; cases h
      · rw [List.getElem?_eq_none (by rw [List.length_set]; omega)] at h; cases h
    · rw [List.getElem?_set_ne hi] at h
      obtain ⟨h1, h2⟩ := wipeD_some h
      exact ⟨h1, by simp only [List.mem_cons, not_or]; exact ⟨fun e => hi e.symm, h2⟩⟩
theorem wipe_get (σ : L2.St) (j : Nat) : ∀ vs : List Nat, (wipe σ vs)[j]? = if j ∈ vs then (if j < σ.length then some none else none) else σ[j]?
  | [] => by simp [wipe]
  | v :: vs => by
    unfold wipe
    by_cases hv : v = j
    · subst hv
      rw [if_pos (by simp)]
      by_cases hl : v < σ.length
      · rw [List.getElem?_set_self (by rw [wipe_length]; exact hl), if_pos hl]
      · rw [List.getElem?_eq_none (by rw [List.length_set, wipe_length]; omega), if_neg hl]
    · rw [List.getElem?_set_ne hv, wipe_get σ j vs]
      by_cases hm : j ∈ vs
      · rw [if_pos hm, if_pos (show j ∈ v :: vs from List.mem_cons_of_mem _ hm)]
      · rw [if_neg hm, if_neg (show ¬ j ∈ v :: vs by simp only [List.mem_cons, not_or]; exact ⟨fun z => hv z.symm, hm⟩)]
theorem wipe_of {σ σ2 : L2.St} {vs ks : List Nat} (hl : σ2.length = (wipe σ vs).length) (h : ∀ j : Nat, j ∉ ks → σ2[j]? = (wipe σ vs)[j]?) (hk : ∀ k ∈ ks, k ∈ vs) : wipe σ2 vs = wipe σ vs := by
  refine List.ext_getElem? fun j => ?_
  rw [wipe_length] at hl
  rw [wipe_get, wipe_get]
  by_cases hj : j ∈ vs
  · rw [if_pos hj, if_pos hj, hl]
  · rw [if_neg hj, if_neg hj, h j fun z => hj (hk j z), wipe_get, if_neg hj]
theorem Rel.wipe {G H : Hp} {σ : L2.St} {s : Dt} (r : Rel C G σ H s) (vs : List Nat) : Rel C G (L2.wipe σ vs) H ⟨wipeD s.env vs, s.c⟩ := by
  have go : ∀ (i : Nat), i ∉ vs → (L2.wipe σ vs)[i]? = σ[i]? := fun i hi => by rw [wipe_get, if_neg hi]
  refine ⟨r.fin, by show (wipeD s.env vs).length = _; rw [wipeD_len, wipe_length]; exact r.len, fun i x e => ?_, fun i j x y p hne e1 e2 m1 m2 => ?_⟩
  · obtain ⟨e', hi⟩ := wipeD_some e
    obtain ⟨v, hv, rv⟩ := r.sl i x e'
    exact ⟨v, by rw [go i hi]; exact hv, rv⟩
  · obtain ⟨e1', h1⟩ := wipeD_some e1
    obtain ⟨e2', h2⟩ := wipeD_some e2
    rw [go i h1, go j h2]
    exact r.dis i j x y p hne e1' e2' m1 m2
/-- what is neither data nor the box stays so, where the slots keep their own lists -/
theorem Gs.keep {σ : L2.St} {G H G' H' : Hp} {s s' : Dt} (g : Gs C σ G H s G' H' s') (r : Rel C G σ H s) (r' : Rel C G' σ H' s') (he : s'.env = s.env) {b : Addr} {o : HO} (h1 : G b = none) (hb : ¬ C.bx.has b) (h2 : H b = some o) (hn : notTup o = true) : G' b = none := by
  by_cases hx : ∃ (i : Nat) (x : DV), s.env[i]? = some (some x) ∧ x.mut = true ∧ σ[i]? = some (some (.ref b))
  · obtain ⟨i, x, e, m, hs⟩ := hx
    rw [← he] at e
    obtain ⟨v, hv, rv⟩ := r'.sl i x e
    rw [hs] at hv
    cases hv
    cases x with
    | d _ => cases m
    | box => cases m
    | ob _ => cases m
    | obl _ => cases m
    | own ds =>
      obtain ⟨p', xs, a1, a2, a3, a4, a5⟩ := rv
      cases a1
      exact a4
    | dic ds =>
      obtain ⟨p', xs, a1, a2, a3, a4, a5⟩ := rv
      cases a1
      exact a4
    | dit ds =>
      obtain ⟨p', xs, a1, a2, a3, a4, a5⟩ := rv
      cases a1
      exact a4
    | dd _ => cases m
    | oth _ => cases m
  · exact g.nk b _ h1 hb h2 hn fun i x e m hs => hx ⟨i, x, e, m, hs⟩
theorem Rel.back {σ σ2 : L2.St} {G H G' H' : Hp} {env : List (Option DV)} {c : Cs} {s2 s' : Dt} (r : Rel C G σ H ⟨env, c⟩) (r2 : Rel C G σ2 H s2) (r' : Rel C G' σ2 H' s') (he : s'.env = s2.env) (eg : Ex G G') (g : Gs C σ2 G H s2 G' H' s') : Rel C G' σ H' ⟨env, s'.c⟩ := by
  refine ⟨r'.fin, r.len, fun i x e => ?_, r.dis⟩
  obtain ⟨v, hv, rv⟩ := r.sl i x e
  refine ⟨v, hv, ?_⟩
  cases x with
  | d _ => exact dp_ex eg rv
  | box => exact rv
  | ob _ => exact rv
  | obl _ => exact obl_ex eg rv
  | own ds =>
    obtain ⟨p', xs, a1, a2, a3, a4, a5⟩ := rv
    exact ⟨p', xs, a1, g.gr p' _ (r.fin.nbx a3) a2, a3, g.keep r2 r' he a4 (r.fin.nbx a3) a2 rfl, dpa_ex eg a5⟩
  | dic ds =>
    obtain ⟨p', xs, a1, a2, a3, a4, a5⟩ := rv
    exact ⟨p', xs, a1, g.gr p' _ (r.fin.nbx a3) a2, a3, g.keep r2 r' he a4 (r.fin.nbx a3) a2 rfl, paired_mapP a5 fun a b q => ⟨q.1, dp_ex eg q.2⟩⟩
  | dit ds =>
    obtain ⟨p', xs, a1, a2, a3, a4, a5⟩ := rv
    exact ⟨p', xs, a1, g.gr p' _ (r.fin.nbx a3) a2, a3, g.keep r2 r' he a4 (r.fin.nbx a3) a2 rfl, paired_mapP a5 fun a b q => ⟨q.1, dp_ex eg q.2⟩⟩
  | oth φ => exact Oth.step (φ := φ) rv eg (Kept.of g.gr)
  | dd ds =>
    obtain ⟨p', xs, a1, a2, a5⟩ := rv
    exact ⟨p', xs, a1, a2.gr g.gr, paired_mapP a5 fun a b q => ⟨q.1, dp_ex eg q.2⟩⟩
def wLc (w : WA) (g : WG) (tt : WT) (te : WE) (vs : List Nat) : WA := fun s Q => w s fun ds s1 => ∃ Inv : Nat → List PyData → Cs → Prop, Inv 0 [] s1.c ∧
  (∀ (i : Nat) d acc c, ds[i]? = some d → Inv i acc c → g d ⟨wipeD s1.env vs, c⟩ fun s2 => tt s2 fun b s3 => s3.env = s2.env ∧ if b = true then te s3 fun y s4 => s4.env = s2.env ∧ acc.length < 100000 ∧ Inv (i + 1) (acc ++ [y]) s4.c else Inv (i + 1) acc s3.c) ∧
  ∀ acc c, Inv ds.length acc c → Q acc ⟨s1.env, c⟩
theorem io_lc {wi : TI} {wI : WA} {g : TG} {ks vs : List Nat} {wg : WG} {tt : TT} {wt : WT} (hk : ∀ k ∈ ks, k ∈ vs) (hi : II C wi wI) (hg : IG C g ks wg) (ht : IT C tt wt) (he : IE C te we) : IO C (tLc wi g tt te vs) (wLc wI wg wt we vs) := fun G σ H s Q Q' r q k =>
  hi G σ H s _ _ r q fun J ds s1 G1 H1 q1 r1 eg eh itd D hD => by
    obtain ⟨Inv, h0, hs, hd⟩ := q1
    have hHD : H D = none := by
      cases z : H D with
      | none => rfl
      | some o => exact absurd hD (eh.dom D (by rw [z]; exact Option.some_ne_none _))
    refine ⟨fun i m H' => m = ds.length - i ∧ i ≤ ds.length ∧ ∃ G' acc xs c', Ex G1 G' ∧ Rel C G' σ H' ⟨s1.env, c'⟩ ∧ Gs C σ G1 H1 s1 G' H' ⟨s1.env, c'⟩ ∧ H' D = some (.lst xs) ∧ G' D = none ∧ DpAll C.K G' xs acc ∧ Inv i acc c', ⟨ds.length, by simp, Nat.zero_le _, G1, [], [], s1.c, Ex.refl G1, r1.aside (Ex.new hD), .side (Ex.new hD), upd_same, r1.gnone hD, .nil, h0⟩, ?_⟩
    rintro i m H' ⟨rfl, hi, G', acc, xs, c', e', r', g', hHd, hGd, dacc, inv⟩
    obtain ⟨go, stop⟩ := itd G' H' e' r'.fin.gh
    have nbD : ¬ C.bx.has D := r.fin.nbx (r.fin.h0 hHD)
    by_cases hlt : i < ds.length
    · have hd1 : ds[i]? = some ds[i] := List.getElem?_eq_getElem hlt
      obtain ⟨g1, g2⟩ := go i _ hd1
      refine .inr ⟨g1, fun H2 => ∃ G' acc xs c', Ex G1 G' ∧ Rel C G' σ H2 ⟨s1.env, c'⟩ ∧ Gs C σ G1 H1 s1 G' H2 ⟨s1.env, c'⟩ ∧ H2 D = some (.lst xs) ∧ G' D = none ∧ DpAll C.K G' xs acc ∧ Inv (i + 1) acc c', fun H2 ⟨G2, a1, a2, a3, a4, a5, a6, a7, a8, a9, a10⟩ => ⟨ds.length - (i + 1), by omega, rfl, hlt, G2, a1, a2, a3, a4, a5, a6, a7, a8, a9, a10⟩, fun x H3 y => ?_⟩
      obtain ⟨G3, b1, b2, b3, b4, b5⟩ := g2 x H3 y
      have r3 := r'.grow b1 b2 b3 b4
      have gs3 : Gs C σ G' H' ⟨s1.env, c'⟩ G3 H3 ⟨s1.env, c'⟩ := .grow b2 b4
      have e3 := e'.trans b1
      have hG3 : G3 D = none := gs3.nk D _ hGd nbD hHd rfl fun j y ej m z => by
        obtain ⟨v, hv, rv⟩ := r1.sl j y ej
        rw [z] at hv
        cases hv
        exact r1.notslot hD j y ej m z
      refine hg G3 (L2.wipe σ vs) H3 ⟨wipeD s1.env vs, c'⟩ x _ _ _ (r3.wipe vs) b5 (hs i _ acc c' hd1 inv) fun σ4 s4 q4 r4 l4 f4 => ⟨wipe_of l4 f4 hk, ht G3 σ4 H3 s4 _ _ r4 q4 fun bb s5 G5 H5 q5 r5 eg5 gs5 => ?_⟩
      obtain ⟨he5, q5⟩ := q5
      cases bb with
      | false =>
        rw [if_neg (by decide)] at q5
        have rr := r3.back r4 r5 he5 eg5 gs5
        refine iteF ⟨G5, acc, xs, s5.c, e3.trans eg5, rr, g'.trans (gs3.trans ⟨gs5.gr, gs5.dom, fun b o h1 hb h2 hn h3 => gs5.keep r4 r5 he5 h1 hb h2 hn, fun i x e m => ⟨x, e, m⟩⟩), gs5.gr D _ nbD (b2 D _ hHd), gs5.keep r4 r5 he5 hG3 nbD (b2 D _ hHd) rfl, dpa_ex (b1.trans eg5) dacc, q5⟩
      | true =>
        rw [if_pos rfl] at q5
        refine iteT (he G5 σ4 H5 s5 _ _ r5 q5 fun v y s6 G6 H6 q6 r6 eg6 gs6 pv => ?_)
        obtain ⟨he6, hl, q6⟩ := q6
        have gs7 := gs5.trans gs6
        have rr := r3.back r4 r6 he6 (eg5.trans eg6) gs7
        have hD6 : H6 D = some (.lst xs) := gs7.gr D _ nbD (b2 D _ hHd)
        have gD6 : G6 D = none := gs7.keep r4 r6 he6 hG3 nbD (b2 D _ hHd) rfl
        have hm : ∀ b, b ≠ D → upd H6 D (.lst (xs ++ [v])) b = H6 b := fun b hb => upd_ne hb
        refine ⟨xs, hD6, sz_lt (by rw [dpa_len dacc]; exact hl), G6, acc ++ [y], xs ++ [v], s6.c, e3.trans (eg5.trans eg6), ?_, ?_, upd_same, gD6, dpa_app (dpa_ex ((b1.trans eg5).trans eg6) dacc) (.cons pv .nil), q6⟩
        · -- D is no slot's and not data
          have h0D : C.H0 D = none := r.fin.h0 hHD
          refine ⟨⟨fun b o hb => ?_, rr.fin.g0, rr.fin.nw, fun b o n hb => ?_, rr.fin.ok, rr.fin.obu (Ex.refl _) h0D (fun b o n e => by rw [hm b n]; exact e), fun l hl => ?_⟩, rr.len, fun j y ej => ?_, rr.dis⟩
          · rw [hm b (fun z => by rw [z, gD6] at hb; cases hb)]
            exact rr.fin.gh b o hb
          · rw [hm b (fun z => by rw [z, h0D] at hb; cases hb)]
            exact rr.fin.hh b o n hb
          · exact ⟨(rr.fin.bx l hl).1.updS hD6 rfl (fun z => nbD (by rw [← z]; exact hl)), (rr.fin.bx l hl).2⟩
          · obtain ⟨v', hv', rv⟩ := rr.sl j y ej
            refine ⟨v', hv', ?_⟩
            cases y with
            | d _ => exact rv
            | box => exact rv
            | ob _ => exact rv
            | obl _ => exact rv
            | own ds2 =>
              obtain ⟨p2, xs2, a1, a2, a3, a4, a5⟩ := rv
              exact ⟨p2, xs2, a1, by rw [hm p2 (fun z => r1.notslot hD j _ ej rfl (by rw [hv', a1, z]))]; exact a2, a3, a4, a5⟩
            | dic ds2 =>
              obtain ⟨p2, xs2, a1, a2, a3, a4, a5⟩ := rv
              exact ⟨p2, xs2, a1, by rw [hm p2 (fun z => r1.notslot hD j _ ej rfl (by rw [hv', a1, z]))]; exact a2, a3, a4, a5⟩
            | dit ds2 =>
              obtain ⟨p2, xs2, a1, a2, a3, a4, a5⟩ := rv
              exact ⟨p2, xs2, a1, by rw [hm p2 (fun z => r1.notslot hD j _ ej rfl (by rw [hv', a1, z]))]; exact a2, a3, a4, a5⟩
            | oth φ => exact Oth.step (φ := φ) rv (Ex.refl G6) (Kept.upd hD6 rfl)
            | dd ds2 =>
              obtain ⟨p2, xs2, a1, a2, a5⟩ := rv
              exact ⟨p2, xs2, a1, a2.upd hD6 h0D (fun _ _ z => by cases z), a5⟩
        · have gg := g'.trans (gs3.trans (s2 := ⟨s1.env, s6.c⟩) ⟨gs7.gr, gs7.dom, fun b o h1 hb h2 hn h3 => gs7.keep r4 r6 he6 h1 hb h2 hn, fun i x e m => ⟨x, e, m⟩⟩)
          refine ⟨fun b o n hb => ?_, fun b hb => ?_, gg.nk, gg.ks⟩
          · rw [hm b (fun z => by rw [z, hD] at hb; cases hb)]
            exact gg.gr b o n hb
          · by_cases z : b = D
            · rw [z, upd_same]
              exact Option.some_ne_none _
            · rw [hm b z]
              exact gg.dom b hb
    · have e : i = ds.length := by omega
      subst e
      refine .inl ⟨stop, k D xs acc ⟨s1.env, c'⟩ G' H' (hd acc c' inv) r' (eg.trans e') (eh.trans g') hHD hHd hGd dacc fun j y ej m => r1.notslot hD j y ej m⟩
theorem do_lc {elt iter : Expr} {ifs : List Expr} {scope : Scope} {own : List (Str × Nat)} {wi : TI} {wI : WA} {g : TG} {ks : List Nat} {wg : WG} {tt : TT} {wt : WT} (hc : X.calm = true) (hN : X.N.Nodup) (hi : DI X C tg iter wi wI) (ok : BlkOk X.N X.env.scope scope own)
    (hg : ∀ (s : Shared) (H : Hp) (A : Addr) (cl : List (Str × Addr)) (fp : List Addr), DG (X.blk s H scope (compEnvC scope cl A X.env) fp) C tg g ks wg)
    (ht : (∀ (s : Shared) (H : Hp) (A : Addr) (cl : List (Str × Addr)) (fp : List Addr), PTs (X.blk s H scope (compEnvC scope cl A X.env) fp) ifs tt) ∧ IT C tt wt)
    (he : ∀ (s : Shared) (H : Hp) (A : Addr) (cl : List (Str × Addr)) (fp : List Addr), DE (X.blk s H scope (compEnvC scope cl A X.env) fp) C elt te we) (hk : ∀ k ∈ ks, k ∈ own.map (·.2) := by decide) (hs : ∀ x, foldedSetIterable iter X.env x = pure x := by intro _; rfl) :
    DO X C (.ListComp elt [⟨tg, iter, ifs, 0⟩] scope pos) (tLc wi g tt te (own.map (·.2))) (wLc wI wg wt we (own.map (·.2))) :=
  ⟨pe_lc hc hN hi.pi ok (fun s H A cl fp => (hg s H A cl fp).pg) ht.1 (fun s H A cl fp => (he s H A cl fp).pe) hs,
   io_lc hk hi.ii (hg {} (fun _ => none) 0 [] []).ig ht.2 (he {} (fun _ => none) 0 [] []).ie⟩
end
end Dw
namespace Dw
open PySem PySem.Spec PyProof.Rows L2 OgR Evl
section
variable {P : Program} {wd : World} {K : PySem.W.Frag} {mg : Str → Option Value} {base : Heap}
structure Fct (K : PySem.W.Frag) (mg : Str → Option Value) (x : Str) (st : Stmt) (ps : List Str) : Prop where
  ex : ∃ f fd, Fun K x x st f fd ∧ Binds K fd ps [] ∧ mg x = some (.ref f)
def perm {α : Type} (π : List Nat) (l : List α) : List α := π.filterMap fun i => l[i]?
/-- how names alone bind -/
def ByP (fd : FuncData) (ps ks : List Str) (π : List Nat) : Prop := ∀ (s : Shared) (ws : List Value), ws.length = ks.length → BindsTo s fd ⟨[], ks.zip ws⟩ (ps.zip (perm π ws))
structure Def (P : Program) (wd : World) (K : PySem.W.Frag) (mg : Str → Option Value) (base : Heap) (k : Nat) (x : Str) (st : Stmt) (ps : List Str) (sp : Sp) : Prop where
  ex : ∃ f fd, FnG P wd K mg base k f fd ps sp ∧ Fun K x x st f fd ∧ Binds K fd ps [] ∧ mg x = some (.ref f)
theorem Def.mono {j k : Nat} {x : Str} {st : Stmt} {ps : List Str} {sp : Sp} (D : Def P wd K mg base j x st ps sp) (h : j ≤ k) : Def P wd K mg base k x st ps sp := by
  obtain ⟨f, fd, G, F, b, m⟩ := D.ex
  exact ⟨f, fd, ⟨G.1, fun A outer s H args us vs Q E hG hr => G.2 A outer s H args us vs Q E hG (hr.mono h)⟩, F, b, m⟩
theorem Def.imp {k : Nat} {x : Str} {st : Stmt} {ps : List Str} {sp sp' : Sp} (D : Def P wd K mg base k x st ps sp) (h : ∀ vs H Q E, sp' vs H Q E → sp vs H Q E) : Def P wd K mg base k x st ps sp' := by
  obtain ⟨f, fd, G, F, b, m⟩ := D.ex
  exact ⟨f, fd, ⟨fun vs H Q E q => G.1 vs H Q E (h _ _ _ _ q), fun A outer s H args us vs Q E hG hr he hb hv hs => G.2 A outer s H args us vs Q E hG hr he hb hv (h _ _ _ _ hs)⟩, F, b, m⟩
/-- a promise that asks for what cannot be -/
theorem Def.no {k : Nat} {x : Str} {st : Stmt} {ps : List Str} {sp : Sp} (c : Fct K mg x st ps) (h : ∀ vs H Q E, ¬ sp vs H Q E) : Def P wd K mg base k x st ps sp := by
  obtain ⟨f, fd, F, b, m⟩ := c.ex
  exact ⟨f, fd, ⟨fun vs H Q E q => (h _ _ _ _ q).elim, fun A outer s H args us vs Q E hG hr he hb hv hs => (h _ _ _ _ hs).elim⟩, F, b, m⟩
def env0 (N : List Str) (xs : List DV) : List (Option DV) := xs.map some ++ List.replicate (N.length - xs.length) none
theorem env0_get {N : List Str} {xs : List DV} {i : Nat} {x : DV} (h : (env0 N xs)[i]? = some (some x)) : xs[i]? = some x := by
  unfold env0 at h
  by_cases hl : i < xs.length
  · rw [List.getElem?_append_left (by rw [List.length_map]; exact hl), List.getElem?_map, List.getElem?_eq_getElem hl] at h
    rw [List.getElem?_eq_getElem hl]
    simpa using h
  · rw [List.getElem?_append_right (by rw [List.length_map]; omega)] at h
    obtain ⟨_, h2⟩ := List.getElem?_eq_some_iff.mp h
    rw [List.getElem_replicate] at h2
    cases h2
theorem start_get {N : List Str} {vs : List V} {i : Nat} {v : V} (h : vs[i]? = some v) : (L2.start N vs)[i]? = some (some v) := by
  unfold L2.start
  have hl := (List.getElem?_eq_some_iff.mp h).1
  rw [List.getElem?_append_left (by rw [List.length_map]; exact hl), List.getElem?_map, h]
  rfl
theorem env0_len {N : List Str} {xs : List DV} {vs : List V} (h : xs.length = vs.length) : (env0 N xs).length = (L2.start N vs).length := by
  unfold env0 L2.start
  rw [List.length_append, List.length_append, List.length_map, List.length_map, List.length_replicate, List.length_replicate, h]
theorem Def.pure {k : Nat} {x : Str} {st : Stmt} {N ps : List Str} {F : FP} (c : Fct K mg x st ps) (S : FnScope N ps (defScope st)) (hl : ∀ ds R, F ds R → ds.length = ps.length)
    (body : ∀ (f : Addr) (cdv : Value) (A : Around) (outer : List Env) (s : Shared) (H G : Hp) (E : XK) (ds : List PyData) (R : PyData → Prop), A.guards = some [] → Room k (A.deeper (envOfC x (defScope st) s.heap.objs.size f cdv)) → F ds R →
      ∃ t w, DSs (cxOf CX0 P wd K mg base N x (defScope st) f cdv A outer s H E).nox ⟨K, b0, H, G⟩ (defBody st) t w ∧ w { nx := fun _ => R .none, rt := fun d _ => R d } ⟨env0 N (ds.map .d), 0, []⟩) : Def P wd K mg base (k + 1) x st ps (spP K F) := by
  obtain ⟨f, fd, Fn, b, m⟩ := c.ex
  refine ⟨f, fd, fnG_of Fn S (fun vs H Q E h => ?_) (fun cdv A outer s H vs Q E hG hr h => ?_), Fn, b, m⟩
  · obtain ⟨G, ds, R, _, p, hF, _⟩ := h
    rw [dpa_len p]
    exact hl ds R hF
  · obtain ⟨G, ds, R, gh, p, hF, kk⟩ := h
    obtain ⟨t, w, D, hw⟩ := body f cdv A outer s H G E ds R hG hr hF
    have rel : Rel ⟨K, b0, H, G⟩ G (L2.start N vs) H ⟨env0 N (ds.map .d), 0, []⟩ := by
      refine ⟨⟨gh, Ex.refl G, Nw.refl G H, Gr.refl _ H, Bx.ok0, .nil, fun l hl => nomatch hl⟩, env0_len (by rw [List.length_map, dpa_len p]), fun i x e => ?_, fun i j x y q _ e1 _ m1 => ?_⟩
      · have e' := env0_get e
        rw [List.getElem?_map] at e'
        cases q : ds[i]? with
        | none => rw [q] at e'; cases e'
        | some d =>
          rw [q] at e'
          cases e'
          obtain ⟨v, hv, pv⟩ := dpa_back p q
          exact ⟨v, start_get hv, pv⟩
      · have e' := env0_get e1
        rw [List.getElem?_map] at e'
        cases q : ds[i]? with
        | none => rw [q] at e'; cases e'
        | some d => rw [q] at e'; cases e'; cases m1
    refine ⟨t, D.ps, D.is G (L2.start N vs) H _ _ _ rel hw ⟨fun σ' H' s' G' hn r' e => ?_, fun _ _ _ _ h => h.elim, fun _ _ _ _ h => h.elim, fun v d c' G' H' hR f' e pv => ?_⟩⟩
    · exact kk .non .none G' H' hn e (fun b o hb => r'.fin.hh b o (fun z => nomatch z) hb) r'.fin.gh r'.fin.nw .non
    · exact kk v d G' H' hR e (fun b o hb => f'.hh b o (fun z => nomatch z) hb) f'.gh f'.nw pv
theorem Def.draws {k : Nat} {x : Str} {st : Stmt} {N ps : List Str} {F : FB} (c : Fct K mg x st ps) (S : FnScope N ps (defScope st)) (hl : ∀ ds c R, F ds c R → ds.length + 1 = ps.length)
    (body : ∀ (f : Addr) (cdv : Value) (A : Around) (outer : List Env) (s : Shared) (H G : Hp) (l : Addr) (E : XK) (ds : List PyData) (c : Int) (R : PyData → Int → Prop), A.guards = some [] → Room k (A.deeper (envOfC x (defScope st) s.heap.objs.size f cdv)) → F ds c R →
      ∃ t w, DSs (cxOf CX0 P wd K mg base N x (defScope st) f cdv A outer s H E).nox ⟨K, bB l, H, G⟩ (defBody st) t w ∧ w { nx := fun s => R .none s.c.n, rt := fun d c => R d c.n } ⟨env0 N (.box :: ds.map .d), c, []⟩) : Def P wd K mg base (k + 1) x st ps (spB K F) := by
  obtain ⟨f, fd, Fn, b, m⟩ := c.ex
  refine ⟨f, fd, fnG_of Fn S (fun vs H Q E h => ?_) (fun cdv A outer s H vs Q E hG hr h => ?_), Fn, b, m⟩
  · obtain ⟨l, vs', G, ds, c, R, rfl, _, _, _, p, hF, _⟩ := h
    rw [List.length_cons, dpa_len p]
    exact hl ds c R hF
  · obtain ⟨l, vs', G, ds, c, R, rfl, hB, hGl, gh, p, hF, kk⟩ := h
    obtain ⟨t, w, D, hw⟩ := body f cdv A outer s H G l E ds c R hG hr hF
    have rel : Rel ⟨K, bB l, H, G⟩ G (L2.start N (.ref l :: vs')) H ⟨env0 N (.box :: ds.map .d), c, []⟩ := by
      refine ⟨⟨gh, Ex.refl G, Nw.refl G H, Gr.refl _ H, Bx.ok0, .nil, fun l' hl' => ?_⟩, env0_len (by rw [List.length_cons, List.length_cons, List.length_map, dpa_len p]), fun i x e => ?_, fun i j x y q _ e1 _ m1 => ?_⟩
      · cases hl'
        exact ⟨.ofBox hB (fun z => nomatch z), hGl, hB.ne⟩
      · have e' := env0_get e
        cases i with
        | zero =>
          cases e'
          exact ⟨.ref l, start_get rfl, l, rfl, rfl⟩
        | succ i =>
          rw [List.getElem?_cons_succ, List.getElem?_map] at e'
          cases q : ds[i]? with
          | none => rw [q] at e'; cases e'
          | some d =>
            rw [q] at e'
            cases e'
            obtain ⟨v, hv, pv⟩ := dpa_back p q
            exact ⟨v, start_get (by rw [List.getElem?_cons_succ]; exact hv), pv⟩
      · have e' := env0_get e1
        cases i with
        | zero => cases e'; cases m1
        | succ i =>
          rw [List.getElem?_cons_succ, List.getElem?_map] at e'
          cases q : ds[i]? with
          | none => rw [q] at e'; cases e'
          | some d => rw [q] at e'; cases e'; cases m1
    refine ⟨t, D.ps, D.is G _ H _ _ _ rel hw ⟨fun σ' H' s' G' hn r' e => ?_, fun _ _ _ _ h => h.elim, fun _ _ _ _ h => h.elim, fun v d c' G' H' hR f' e pv => ?_⟩⟩
    · exact kk .non .none s'.c.n G' H' hn e (fun b o hb hx => r'.fin.hh b o (fun z => hb (by cases z; rfl)) hx) (r'.fin.boxAt rfl) r'.fin.gh r'.fin.nw .non
    · exact kk v d c'.n G' H' hR e (fun b o hb hx => f'.hh b o (fun z => hb (by cases z; rfl)) hx) (f'.boxAt rfl) f'.gh f'.nw pv
end
section
variable {X : Cx} {C : Ct} {a b e tg : Expr} {es : List Expr} {pos p : Pos} {t ta tb tc te : TE} {w wa wb wc we : WE} {tA : TA} {wA : WA} {x : Str} {st : Stmt} {sts : List Stmt} {ps : List Str} {k : Nat}
theorem de_c {F : FP} (D : Def X.prog X.w X.K X.mg X.base k x st ps (spP C.K F)) (hG : X.A.guards = some []) (hr : Room k X.A) (hg : Gl X x)
    (ha : DA X C (e :: es) tA wA) (hdb : (x == ("__debug__" : Str)) = false := by decide) (he : starEach (e :: es) X.env = (false, eval e X.env) :: starEach es X.env := by rfl) (hpl : (backTo pos (starEach es X.env)).any (·.1) = false := by rfl) :
    DE X C (.Call (.Name x p) (e :: es) [] pos) (tCall (spP C.K F) [] E0 tA) (wCall F wA) := by
  obtain ⟨f, fd, G, Fn, b, m⟩ := D.ex
  exact ⟨pe_callG G hG hr hg m Fn.kp b ha.pa hdb he hpl, ie_call ha.ia⟩
theorem de_cB (i : Nat) {F : FB} {y : Str} {p2 : Pos} (D : Def X.prog X.w X.K X.mg X.base k x st ps (spB C.K F)) (hG : X.A.guards = some []) (hr : Room k X.A) (hg : Gl X x)
    (ha : DA X C es tA wA) (hv : PE X (.Name y p2) (tVar i) := by exact pv _) (hdb : (x == ("__debug__" : Str)) = false := by decide) (he : starEach (.Name y p2 :: es) X.env = (false, eval (.Name y p2) X.env) :: starEach es X.env := by rfl) (hpl : (backTo pos (starEach es X.env)).any (·.1) = false := by rfl) :
    DE X C (.Call (.Name x p) (.Name y p2 :: es) [] pos) (tCall (spB C.K F) [] E0 (tCons (tVar i) tA)) (wCallB i F wA) := by
  obtain ⟨f, fd, G, Fn, b, m⟩ := D.ex
  exact ⟨pe_callG G hG hr hg m Fn.kp b (pa_cons hv ha.pa he) hdb he hpl, ie_callB ha.ia⟩
structure DKw (X : Cx) (C : Ct) (kws : List Keyword) (t : TA) (w : WA) : Prop where
  pk : PK X kws t
  ia : IA C t w
theorem dk_nil : DKw X C [] tNil (fun s Q => Q [] s) := ⟨pk_nil, ia_nil⟩
theorem dk_cons {kws : List Keyword} {nm : Option Str} {kpos : Pos} {tr : TA} {wr : WA} (h : DE X C e t w) (hr : DKw X C kws tr wr) : DKw X C (⟨nm, e, kpos⟩ :: kws) (tCons t tr) (wCons w wr) := ⟨pk_cons h.pe hr.pk, ia_cons h.ie hr.ia⟩
theorem vals_perm {π : List Nat} {zs : List V} {ws : List Value} (h : Vals zs ws) : Vals (perm π zs) (perm π ws) := by
  unfold perm
  induction π with
  | nil => exact .nil
  | cons i π ih =>
    rw [List.filterMap_cons, List.filterMap_cons]
    cases q : zs[i]? with
    | none => rw [h.none_of q]; exact ih
    | some v =>
      obtain ⟨u, hu, ru⟩ := h.get q
      rw [hu]
      exact .cons ru ih
theorem dpa_perm {K : PySem.W.Frag} {G : Hp} {π : List Nat} {zs : List V} {ds : List PyData} (h : DpAll K G zs ds) : DpAll K G (perm π zs) (perm π ds) := by
  unfold perm
  induction π with
  | nil => exact .nil
  | cons i π ih =>
    rw [List.filterMap_cons, List.filterMap_cons]
    cases q : zs[i]? with
    | none =>
      rw [List.getElem?_eq_none_iff.mpr (by rw [← dpa_len h]; exact List.getElem?_eq_none_iff.mp q)]
      exact ih
    | some v =>
      obtain ⟨u, hu, ru⟩ := dpa_get h q
      rw [hu]
      exact .cons ru ih
def wNm (F : FP) (n : Nat) (π : List Nat) (wA : WA) : WE := fun s Q => wA s fun ds s1 => ds.length = n ∧ F (perm π ds) fun d => Q d s1
theorem ds_setLc {elt iter : Expr} {ifs : List Expr} {scope : Scope} {own : List (Str × Nat)} {wi : TI} {wI : WA} {g : TG} {ks : List Nat} {wg : WG} {tt : TT} {wt : WT} (i : Nat) {y : Str} {py spos : Pos} (hc : X.calm = true) (hN : X.N.Nodup) (hy : X.N[i]? = some y) (hyl : X.env.scope.names.lookup y = some .local)
    (hsw : swapsWith (.ListComp elt [⟨tg, iter, ifs, 0⟩] scope pos) (some (.Name y py)) spos.line X.env = Pure.pure true) (hi : DI X C tg iter wi wI) (ok : BlkOk X.N X.env.scope scope own)
    (hg : ∀ (s : Shared) (H : Hp) (A : Addr) (cl : List (Str × Addr)) (fp : List Addr), DG (X.blk s H scope (compEnvC scope cl A X.env) fp) C tg g ks wg)
    (ht : (∀ (s : Shared) (H : Hp) (A : Addr) (cl : List (Str × Addr)) (fp : List Addr), PTs (X.blk s H scope (compEnvC scope cl A X.env) fp) ifs tt) ∧ IT C tt wt)
    (he : ∀ (s : Shared) (H : Hp) (A : Addr) (cl : List (Str × Addr)) (fp : List Addr), DE (X.blk s H scope (compEnvC scope cl A X.env) fp) C elt te we) (hk : ∀ k ∈ ks, k ∈ own.map (·.2) := by decide) (hs : ∀ x, foldedSetIterable iter X.env x = Pure.pure x := by intro _; rfl) :
    DS X C (.Assign [.Name y py] (.ListComp elt [⟨tg, iter, ifs, 0⟩] scope pos) spos) (tAsg (tLc wi g tt te (own.map (·.2))) (gName i)) (wAsg (wPubO (wLc wI wg wt we (own.map (·.2)))) (wName i)) :=
  ⟨ps_setLc hc hN hy hyl hsw hi.pi ok (fun s H A cl fp => (hg s H A cl fp).pg) ht.1 (fun s H A cl fp => (he s H A cl fp).pe) hs, is_asg (ie_own (io_lc hk hi.ii (hg {} (fun _ => none) 0 [] []).ig ht.2 (he {} (fun _ => none) 0 [] []).ie)) (ig_name i)⟩
theorem ts_one {c : Expr} {scope : Scope} {tt : TT} {wt : WT} (h : ∀ (s : Shared) (H : Hp) (A : Addr) (cl : List (Str × Addr)) (fp : List Addr), DT (X.blk s H scope (compEnvC scope cl A X.env) fp) C c tt wt) :
    (∀ (s : Shared) (H : Hp) (A : Addr) (cl : List (Str × Addr)) (fp : List Addr), PTs (X.blk s H scope (compEnvC scope cl A X.env) fp) [c] tt) ∧ IT C tt wt := ⟨fun s H A cl fp => pts_one (h s H A cl fp).pt, (h {} (fun _ => none) 0 [] []).it⟩
theorem ts_no {scope : Scope} : (∀ (s : Shared) (H : Hp) (A : Addr) (cl : List (Str × Addr)) (fp : List Addr), PTs (X.blk s H scope (compEnvC scope cl A X.env) fp) [] tYes) ∧ IT C tYes (fun s Q => Q true s) :=
  ⟨fun _ _ _ _ _ => pts_nil, fun G σ H s Q Q' r q k => k true s G H q r (Ex.refl G) Gs.refl⟩
abbrev WX := Dt → (DV → Dt → Prop) → Prop
abbrev WXs := Dt → (List DV → Dt → Prop) → Prop
def PV (C : Ct) (σ : L2.St) (G H : Hp) (s : Dt) (v : V) : DV → Prop
  | .d x => Dp C.K G v x
  | .own ds => ∃ p xs, v = .ref p ∧ H p = some (.lst xs) ∧ C.H0 p = none ∧ G p = none ∧ DpAll C.K G xs ds ∧ ∀ (i : Nat) x, s.env[i]? = some (some x) → x.mut = true → σ[i]? ≠ some (some (.ref p))
  | .dic ds => ∃ p xs, v = .ref p ∧ H p = some (.dK xs) ∧ C.H0 p = none ∧ G p = none ∧ Paired (fun a b => a.1 = b.1 ∧ Dp C.K G a.2 b.2) xs ds ∧ ∀ (i : Nat) x, s.env[i]? = some (some x) → x.mut = true → σ[i]? ≠ some (some (.ref p))
  | .dit ds => ∃ p xs, v = .ref p ∧ H p = some (.dT xs) ∧ C.H0 p = none ∧ G p = none ∧ Paired (fun a b => a.1 = b.1 ∧ Dp C.K G a.2 b.2) xs ds ∧ ∀ (i : Nat) x, s.env[i]? = some (some x) → x.mut = true → σ[i]? ≠ some (some (.ref p))
  | .oth φ => φ G H v ∧ ∀ G' H', Ex G G' → φ G' H' v
  | _ => False
theorem PV.mono {σ : L2.St} {G H G' H' : Hp} {s s' : Dt} {v : V} {x : DV} (h : PV C σ G H s v x) (r : Rel C G σ H s) (eg : Ex G G') (g : Gs C σ G H s G' H' s') : PV C σ G' H' s' v x := by
  cases x with
  | d _ => exact dp_ex eg h
  | own ds =>
    obtain ⟨p, xs, a1, a2, a3, a4, a5, a6⟩ := h
    refine ⟨p, xs, a1, g.gr p _ (r.fin.nbx a3) a2, a3, g.nk p _ a4 (r.fin.nbx a3) a2 rfl a6, dpa_ex eg a5, fun i y e m => ?_⟩
    obtain ⟨y', e', m'⟩ := g.ks i y e m
    exact a6 i y' e' m'
  | dic ds =>
    obtain ⟨p, xs, a1, a2, a3, a4, a5, a6⟩ := h
    refine ⟨p, xs, a1, g.gr p _ (r.fin.nbx a3) a2, a3, g.nk p _ a4 (r.fin.nbx a3) a2 rfl a6, paired_mapP a5 fun a b q => ⟨q.1, dp_ex eg q.2⟩, fun i y e m => ?_⟩
    obtain ⟨y', e', m'⟩ := g.ks i y e m
    exact a6 i y' e' m'
  | dit ds =>
    obtain ⟨p, xs, a1, a2, a3, a4, a5, a6⟩ := h
    refine ⟨p, xs, a1, g.gr p _ (r.fin.nbx a3) a2, a3, g.nk p _ a4 (r.fin.nbx a3) a2 rfl a6, paired_mapP a5 fun a b q => ⟨q.1, dp_ex eg q.2⟩, fun i y e m => ?_⟩
    obtain ⟨y', e', m'⟩ := g.ks i y e m
    exact a6 i y' e' m'
  | oth _ => exact ⟨h.2 _ _ eg, fun G2 H2 e => h.2 G2 H2 (eg.trans e)⟩
  | dd _ => exact h
  | box => exact h
  | ob _ => exact h
  | obl _ => exact h
theorem PV.rv {σ : L2.St} {G H : Hp} {s : Dt} {v : V} {x : DV} (h : PV C σ G H s v x) : RV C G H v x := by
  cases x with
  | d _ => exact h
  | own ds =>
    obtain ⟨p, xs, a1, a2, a3, a4, a5, a6⟩ := h
    exact ⟨p, xs, a1, a2, a3, a4, a5⟩
  | dic _ =>
    obtain ⟨p, xs, a1, a2, a3, a4, a5, a6⟩ := h
    exact ⟨p, xs, a1, a2, a3, a4, a5⟩
  | dit _ =>
    obtain ⟨p, xs, a1, a2, a3, a4, a5, a6⟩ := h
    exact ⟨p, xs, a1, a2, a3, a4, a5⟩
  | oth _ => exact ⟨h.1, fun G' H' e _ => h.2 G' H' e⟩
  | dd _ => exact h.elim
  | box => exact h.elim
  | ob _ => exact h.elim
  | obl _ => exact h.elim
/-- new places over H -/
def Frs (H : Hp) (vs : List V) (xs : List DV) : Prop := ∀ (i : Nat) x p, xs[i]? = some x → x.mut = true → vs[i]? = some (.ref p) → H p = none
def Dst (vs : List V) (xs : List DV) : Prop := ∀ (i j : Nat) x y p, i ≠ j → xs[i]? = some x → xs[j]? = some y → x.mut = true → y.mut = true → vs[i]? = some (.ref p) → vs[j]? ≠ some (.ref p)
inductive PVs (C : Ct) (σ : L2.St) (G H : Hp) (s : Dt) : List V → List DV → Prop
  | nil : PVs C σ G H s [] []
  | cons {v : V} {x : DV} {vs : List V} {xs : List DV} : PV C σ G H s v x → PVs C σ G H s vs xs → PVs C σ G H s (v :: vs) (x :: xs)
def IX (C : Ct) (t : TE) (w : WX) : Prop := ∀ G σ H s Q Q', Rel C G σ H s → w s Q →
  (∀ v x s' G' H', Q x s' → Rel C G' σ H' s' → Ex G G' → Gs C σ G H s G' H' s' → PV C σ G' H' s' v x → (∀ p, x.mut = true → v = .ref p → H p = none) → Q' v H') → t σ H Q'
def IXs (C : Ct) (t : TA) (w : WXs) : Prop := ∀ G σ H s Q Q', Rel C G σ H s → w s Q →
  (∀ vs xs s' G' H', Q xs s' → Rel C G' σ H' s' → Ex G G' → Gs C σ G H s G' H' s' → PVs C σ G' H' s' vs xs → Frs H vs xs → Dst vs xs → Q' vs H') → t σ H Q'
structure DX (X : Cx) (C : Ct) (e : Expr) (t : TE) (w : WX) : Prop where
  pe : PE X e t
  ix : IX C t w
structure DXs (X : Cx) (C : Ct) (es : List Expr) (t : TA) (w : WXs) : Prop where
  pa : PA X es t
  ix : IXs C t w
theorem DE.dx (h : DE X C e t w) : DX X C e t (fun s Q => w s fun d s1 => Q (.d d) s1) := ⟨h.pe, fun G σ H s Q Q' r q k => h.ie G σ H s _ _ r q fun v d s' G' H' q' r' eg g p => k v (.d d) s' G' H' q' r' eg g p fun _ m => nomatch m⟩
theorem DO.dx {w : WA} (h : DO X C e t w) : DX X C e t (fun s Q => w s fun ds s1 => Q (.own ds) s1) := ⟨h.pe, fun G σ H s Q Q' r q k => h.io G σ H s _ _ r q fun p xs ds s' G' H' q' r' eg g hp h1 h2 h3 h4 =>
  k (.ref p) (.own ds) s' G' H' q' r' eg g ⟨p, xs, rfl, h1, r.fin.h0 hp, h2, h3, h4⟩ fun p' _ z => by cases z; exact hp⟩
theorem dx_nil : DXs X C [] tNil (fun s Q => Q [] s) := ⟨pa_nil, fun G σ H s Q Q' r q k => k [] [] s G H q r (Ex.refl G) Gs.refl .nil (fun i x p e => by simp at e) fun i j x y p _ e => by simp at e⟩
theorem PVs.mono {σ : L2.St} {G H G' H' : Hp} {s s' : Dt} (r : Rel C G σ H s) (eg : Ex G G') (g : Gs C σ G H s G' H' s') : ∀ {vs : List V} {xs : List DV}, PVs C σ G H s vs xs → PVs C σ G' H' s' vs xs
  | _, _, .nil => .nil
  | _, _, .cons h t => .cons (h.mono r eg g) (PVs.mono r eg g t)
theorem dx_cons {tr : TA} {w : WX} {wr : WXs} (h : DX X C e t w) (hr : DXs X C es tr wr) (hs : starEach (e :: es) X.env = (false, eval e X.env) :: starEach es X.env := by rfl) : DXs X C (e :: es) (tCons t tr) (fun s Q => w s fun x s1 => wr s1 fun xs s2 => Q (x :: xs) s2) :=
  ⟨pa_cons h.pe hr.pa hs, fun G σ H s Q Q' r q k => h.ix G σ H s _ _ r q fun v x s1 G1 H1 q1 r1 eg1 g1 p1 f1 => hr.ix G1 σ H1 s1 _ _ r1 q1 fun vs xs s2 G2 H2 q2 r2 eg2 g2 p2 f2 d2 => by
    refine k (v :: vs) (x :: xs) s2 G2 H2 q2 r2 (eg1.trans eg2) (g1.trans g2) (.cons (p1.mono r1 eg2 g2) p2) (fun i y p ei m hv => ?_) fun i j y z p hne ei ej m1 m2 hv => ?_
    · cases i with
      | zero =>
        cases ei
        cases hv
        exact f1 p m rfl
      | succ i =>
        have := f2 i y p (by simpa using ei) m (by simpa using hv)
        cases q : H p with
        | none => rfl
        | some o => exact absurd this (g1.dom p (by rw [q]; exact Option.some_ne_none _))
    · have key : ∀ (n : Nat) (y z : DV) (p : Addr), y = x → xs[n]? = some z → y.mut = true → z.mut = true → v = .ref p → vs[n]? ≠ some (.ref p) := fun n y z p e1 e2 m1 m2 hv hn => by
        subst e1
        have hz := f2 n z p e2 m2 hn
        cases y with
        | own ds =>
          obtain ⟨p', xs', a1, a2, _⟩ := p1
          rw [hv] at a1
          cases a1
          rw [hz] at a2
          cases a2
        | dic ds =>
          obtain ⟨p', xs', a1, a2, _⟩ := p1
          rw [hv] at a1
          cases a1
          rw [hz] at a2
          cases a2
        | dit ds =>
          obtain ⟨p', xs', a1, a2, _⟩ := p1
          rw [hv] at a1
          cases a1
          rw [hz] at a2
          cases a2
        | dd _ => exact p1
        | oth _ => cases m1
        | d _ => cases m1
        | box => cases m1
        | ob _ => cases m1
        | obl _ => cases m1
      cases i with
      | zero =>
        cases j with
        | zero => exact absurd rfl hne
        | succ j =>
          cases ei
          cases hv
          simpa using key j x z p rfl (by simpa using ej) m1 m2 rfl
      | succ i =>
        cases j with
        | zero =>
          cases ej
          intro hn
          cases hn
          exact key i x y p rfl (by simpa using ei) m2 m1 rfl (by simpa using hv)
        | succ j => simpa using d2 i j y z p (fun e => hne (by rw [e])) (by simpa using ei) (by simpa using ej) m1 m2 (by simpa using hv)⟩
/-- names by slots, all different -/
def setS (σ : L2.St) : List Nat → List V → L2.St
  | k :: ks, v :: vs => setS (σ.set k (some v)) ks vs
  | _, _ => σ
def Dt.sets (s : Dt) : List Nat → List DV → Dt
  | k :: ks, x :: xs => (s.set k x).sets ks xs
  | _, _ => s
theorem rel_sets {G H : Hp} : ∀ {ks : List Nat} {vs : List V} {xs : List DV} {σ : L2.St} {s : Dt}, Rel C G σ H s → PVs C σ G H s vs xs → Dst vs xs → Rel C G (setS σ ks vs) H (s.sets ks xs)
  | [], _, _, _, _, r, _, _ => r
  | _ :: _, _, _, _, _, r, .nil, _ => r
  | k :: ks, _, _, σ, s, r, .cons (v := v) (x := x) (vs := vs) (xs := xs) h t, hd => by
    have r1 : Rel C G (σ.set k (some v)) H (s.set k x) := r.put h.rv fun m j y p ej mj hv => by
      cases x with
      | own ds =>
        obtain ⟨p', xs', a1, a2, a3, a4, a5, a6⟩ := h
        rw [hv] at a1
        cases a1
        exact a6 j y ej mj
      | d _ => cases m
      | box => cases m
      | ob _ => cases m
      | obl _ => cases m
      | dic ds =>
        obtain ⟨p', xs', a1, a2, a3, a4, a5, a6⟩ := h
        rw [hv] at a1
        cases a1
        exact a6 j y ej mj
      | dit ds =>
        obtain ⟨p', xs', a1, a2, a3, a4, a5, a6⟩ := h
        rw [hv] at a1
        cases a1
        exact a6 j y ej mj
      | dd _ => exact h.elim
      | oth _ => cases m
    refine rel_sets (ks := ks) r1 ?_ fun i j y z p hne ei ej m1 m2 hv => by
      simpa using hd (i + 1) (j + 1) y z p (fun e => hne (Nat.succ.inj e)) (by simpa using ei) (by simpa using ej) m1 m2 (by simpa using hv)
    -- the others stay no slot's
    have go : ∀ {vs' : List V} {xs' : List DV}, PVs C σ G H s vs' xs' → (∀ (n : Nat) z p, xs'[n]? = some z → z.mut = true → vs'[n]? = some (.ref p) → x.mut = true → v ≠ .ref p) → PVs C (σ.set k (some v)) G H (s.set k x) vs' xs' := by
      intro vs' xs' hp
      induction hp with
      | nil => exact fun _ => .nil
      | @cons v' x' vs' xs' h' t' ih =>
        intro hq
        refine .cons ?_ (ih fun n z p e m hv => hq (n + 1) z p (by simpa using e) m (by simpa using hv))
        cases x' with
        | d _ => exact h'
        | own ds' =>
          obtain ⟨p', xs'', a1, a2, a3, a4, a5, a6⟩ := h'
          refine ⟨p', xs'', a1, a2, a3, a4, a5, fun i y e m => ?_⟩
          rcases get_set e with ⟨rfl, rfl, hl⟩ | ⟨z, e⟩
          · intro hs
            rw [List.getElem?_set_self (by rw [← r.len]; exact hl)] at hs
            cases hs
            exact hq 0 _ p' rfl rfl (by rw [a1]; rfl) m rfl
          · rw [List.getElem?_set_ne (Ne.symm z)]
            exact a6 i y e m
        | dic ds' =>
          obtain ⟨p', xs'', a1, a2, a3, a4, a5, a6⟩ := h'
          refine ⟨p', xs'', a1, a2, a3, a4, a5, fun i y e m => ?_⟩
          rcases get_set e with ⟨rfl, rfl, hl⟩ | ⟨z, e⟩
          · intro hs
            rw [List.getElem?_set_self (by rw [← r.len]; exact hl)] at hs
            cases hs
            exact hq 0 _ p' rfl rfl (by rw [a1]; rfl) m rfl
          · rw [List.getElem?_set_ne (Ne.symm z)]
            exact a6 i y e m
        | dit ds' =>
          obtain ⟨p', xs'', a1, a2, a3, a4, a5, a6⟩ := h'
          refine ⟨p', xs'', a1, a2, a3, a4, a5, fun i y e m => ?_⟩
          rcases get_set e with ⟨rfl, rfl, hl⟩ | ⟨z, e⟩
          · intro hs
            rw [List.getElem?_set_self (by rw [← r.len]; exact hl)] at hs
            cases hs
            exact hq 0 _ p' rfl rfl (by rw [a1]; rfl) m rfl
          · rw [List.getElem?_set_ne (Ne.symm z)]
            exact a6 i y e m
        | dd _ => exact h'
        | oth _ => exact h'
        | box => exact h'
        | ob _ => exact h'
        | obl _ => exact h'
    exact go t fun n z p e m hv hx hvp => hd 0 (n + 1) x z p (by omega) rfl (by simpa using e) hx m (by rw [hvp]; rfl) (by simpa using hv)
def wPar (n : Nat) (ks : List Nat) (w : WXs) : WS := fun DD s => w s fun xs s1 => xs.length = n ∧ DD.nx (s1.sets ks xs)
theorem pvs_len {σ : L2.St} {G H : Hp} {s : Dt} : ∀ {vs : List V} {xs : List DV}, PVs C σ G H s vs xs → vs.length = xs.length
  | _, _, .nil => rfl
  | _, _, .cons _ t => by rw [List.length_cons, List.length_cons, pvs_len t]
theorem is_par2 {i j : Nat} {w : WXs} (h : IXs C tA w) : IS C (tPar i j tA) (wPar 2 [i, j] w) := fun G σ H s D DD r q o => h G σ H s _ _ r q fun vs xs s1 G1 H1 q1 r1 eg g p f d => by
  obtain ⟨hl, q1⟩ := q1
  have hv := pvs_len p
  match vs, hv with
  | [v, v'], _ => exact ⟨v, v', rfl, o.nx _ H1 _ G1 q1 (rel_sets (ks := [i, j]) r1 p d) eg⟩
  | [], hv => rw [hl] at hv; simp at hv
  | [_], hv => rw [hl] at hv; simp at hv
  | _ :: _ :: _ :: _, hv => rw [hl] at hv; simp at hv
theorem ds_par2 (i j : Nat) {xn yn : Str} {px py pt : Pos} {kt k2 pt2} {w : WXs} (hc : X.calm = true) (hN : X.N.Nodup) (h : DXs X C [a, b] tA w) (hi : X.N[i]? = some xn := by rfl) (hj : X.N[j]? = some yn := by rfl) (hij : i ≠ j := by decide)
    (hx : X.env.scope.names.lookup xn = some .local := by rfl) (hy : X.env.scope.names.lookup yn = some .local := by rfl)
    (hw : swappedStores [.Tuple [.Name xn px, .Name yn py] kt pt] (.Tuple [a, b] k2 pt2) X.env = Pure.pure (some [xn, yn]) := by rfl)
    (hs : swapsWithSole [.Tuple [.Name xn px, .Name yn py] kt pt] (.Tuple [a, b] k2 pt2) pos.line X.env = Pure.pure false := by rfl) :
    DS X C (.Assign [.Tuple [.Name xn px, .Name yn py] kt pt] (.Tuple [a, b] k2 pt2) pos) (tPar i j tA) (wPar 2 [i, j] w) := ⟨ps_par hc hN hi hj hij hx hy h.pa hw hs, is_par2 h.ix⟩
theorem is_par3 {i j l : Nat} {w : WXs} (h : IXs C tA w) : IS C (tPar3 i j l tA) (wPar 3 [i, j, l] w) := fun G σ H s D DD r q o => h G σ H s _ _ r q fun vs xs s1 G1 H1 q1 r1 eg g p f d => by
  obtain ⟨hl, q1⟩ := q1
  have hv := pvs_len p
  match vs, hv with
  | [v, v', v''], _ => exact ⟨v, v', v'', rfl, o.nx _ H1 _ G1 q1 (rel_sets (ks := [i, j, l]) r1 p d) eg⟩
  | [], hv => rw [hl] at hv; simp at hv
  | [_], hv => rw [hl] at hv; simp at hv
  | [_, _], hv => rw [hl] at hv; simp at hv
  | _ :: _ :: _ :: _ :: _, hv => rw [hl] at hv; simp at hv
def gNames : List Nat → TGs
  | [] => gNil
  | k :: ks => gCons (gName k) (gNames ks)
theorem ig_names {G H : Hp} {D : L2.St → Hp → Prop} : ∀ {ks : List Nat} {vs : List V} {σ : L2.St}, vs.length = ks.length → D (setS σ ks vs) H → gNames ks vs σ H D
  | [], [], _, _, h => ⟨rfl, h⟩
  | k :: ks, v :: vs, σ, hl, h => ⟨v, vs, rfl, ig_names (G := G) (ks := ks) (by simpa using hl) h⟩
theorem is_parT {n : Nat} {ks : List Nat} {w : WXs} (hn : ks.length = n) (hn2 : n ≤ 100 := by decide) (h : IXs C tA w) : IS C (tAsg (tTup tA) (gTup C.K n (gNames ks))) (wPar n ks w) := fun G σ H s D DD r q o => h G σ H s _ _ r q fun vs xs s1 G1 H1 q1 r1 eg g p f d => by
  obtain ⟨hl, q1⟩ := q1
  have hv := pvs_len p
  refine ⟨sz_of (by omega), fun T hT => ⟨T, vs, rfl, .inl (.inl upd_same), by omega, ig_names (G := G) (by omega) ?_⟩⟩
  have e : Ex H1 (upd H1 T (.tup vs)) := Ex.new hT
  exact o.nx _ _ _ G1 q1 (rel_sets (ks := ks) (r1.aside e) (p.mono r1 (Ex.refl G1) (.side e)) d) eg
theorem ds_parT {n : Nat} (ks : List Nat) {kk k2 : Nat} {es2 : List Expr} {pt pt2 : Pos} {w : WXs} (hK : X.K = C.K) (hpg : PG X (.Tuple es kk pt) (gTup X.K n (gNames ks))) (hn : ks.length = n) (h : DXs X C es2 tA w) (hn2 : n ≤ 100 := by decide)
    (hs : swapsWithSole [.Tuple es kk pt] (.Tuple es2 k2 pt2) pos.line X.env = Pure.pure false := by rfl) (hw : swappedStores [.Tuple es kk pt] (.Tuple es2 k2 pt2) X.env = Pure.pure none := by rfl) (h1 : (assignEach [.Tuple es kk pt] X.env).map (·.2) = [assign (.Tuple es kk pt) X.env] := by rfl) :
    DS X C (.Assign [.Tuple es kk pt] (.Tuple es2 k2 pt2) pos) (tAsg (tTup tA) (gTup C.K n (gNames ks))) (wPar n ks w) := ⟨ps_asg (pe_tup h.pa) (hK ▸ hpg) hs hw h1, is_parT hn hn2 h.ix⟩
end
end Dw
namespace Dw
open PySem PySem.Spec PyProof.Rows L2 OgR Evl
section
variable {X : Cx} {C : Ct} {a b e tg : Expr} {es : List Expr} {pos p : Pos} {t ta tb tc te ty : TE} {w wa wb wc we wy : WE} {tA : TA} {wA : WA} {x : Str} {st : Stmt} {sts : List Stmt} {ps : List Str} {k : Nat}
structure GC (K : PySem.W.Frag) (mg : Str → Option Value) (x : Str) (d : PyData) : Prop where
  ex : ∃ a, mg x = some (.ref a) ∧ ∀ G, Dp K G (.ref a) d
def tGl (mg : Str → Option Value) (x : Str) : TE := fun _ H Q => ∀ a, mg x = some (.ref a) → Q (.ref a) H
theorem de_gc {d : PyData} {mg : Str → Option Value} (c : GC C.K mg x d) (hg : Gl X x) (hmg : X.mg = mg := by rfl) (hd : (x == ("__debug__" : Str)) = false := by decide) : DE X C (.Name x pos) (tGl mg x) (wC d) := by
  subst hmg
  obtain ⟨a, hm, hD⟩ := c.ex
  refine ⟨⟨fun pins s σ H Q I h => (pe_glob (v := .ref a) hg hm rfl hd).run pins s σ H Q I (h a hm)⟩, fun G σ H s Q Q' r q k a' hm' => ?_⟩
  rw [hm] at hm'
  cases hm'
  exact k _ _ s G H q r (Ex.refl G) Gs.refl (hD G)
/-- an int of the module -/
theorem de_gi {i : Int} {tk : Tok} (hm : X.mg x = some (.int i tk)) (hg : Gl X x) (hd : (x == ("__debug__" : Str)) = false := by decide) : DE X C (.Name x pos) (tC (.int i)) (wC (.int i)) := ⟨pe_glob hg hm ⟨_, rfl⟩ hd, ie_c fun _ => .int _⟩
def vOf : PyData → V
  | .int i => .int i
  | .str z => .str z
  | .bool b => .bl b
  | _ => .non
def flt : PyData → Bool
  | .int _ | .str _ | .bool _ | .none => true
  | _ => false
theorem dp_flt {K : PySem.W.Frag} {G : Hp} {d : PyData} (h : flt d = true) : Dp K G (vOf d) d := by
  cases d with
  | none => exact .non
  | bool b => exact .bl b
  | int i => exact .int i
  | str z => exact .str z
  | list _ => cases h
  | tuple _ => cases h
  | dict _ => cases h
structure GD (wd : World) (K : PySem.W.Frag) (mg : Str → Option Value) (x : Str) (tbl : List (Str × PyData)) : Prop where
  ex : ∃ a, mg x = some (.ref a) ∧ ∀ z d, (z, d) ∈ tbl → ∃ v, KDct K wd a z v ∧ ∀ G, Dp K G v d
def wGix (tbl : List (Str × PyData)) (wy : WE) : WE := fun s Q => wy s fun y s1 => ∃ z d, y = .str z ∧ (z, d) ∈ tbl ∧ Q d s1
theorem de_gix {tbl : List (Str × PyData)} {p2 : Pos} {wd : World} {mg : Str → Option Value} (c : GD wd C.K mg x tbl) (hK : X.K = C.K) (hg : Gl X x) (hy : DE X C b ty wy) (hmg : X.mg = mg := by rfl) (hwd : X.w = wd := by rfl) (hs : PlainIx b := by exact fun _ _ => rfl) (hd : (x == ("__debug__" : Str)) = false := by decide) :
    DE X C (.Subscript (.Name x p2) b pos) (tOp (rIxD C.K wd) (tGl mg x) ty) (wGix tbl wy) := by
  subst hmg hwd
  obtain ⟨a, hm, hD⟩ := c.ex
  have hpe : PE X (.Name x p2) (tGl X.mg x) := ⟨fun pins s σ H Q I h => (pe_glob (v := .ref a) hg hm rfl hd).run pins s σ H Q I (h a hm)⟩
  refine ⟨pe_ix (hK ▸ ix_kdict) hpe hy.pe hs, fun G σ H s Q Q' r q k a' hm' => hy.ie G σ H s _ _ r q fun v d s1 G1 H1 q1 r1 eg g pd => ?_⟩
  rw [hm] at hm'
  cases hm'
  obtain ⟨z, dd, rfl, hz, q1⟩ := q1
  obtain ⟨w, kd, hf⟩ := hD z dd hz
  exact ⟨a, z, w, rfl, dp_str pd, kd, k _ _ s1 G1 H1 q1 r1 eg g (hf G1)⟩
/-- a displayed dict -/
def keyD : PyData → Option Key
  | .int i => some (.inl i)
  | .str z => some (.inr z)
  | _ => none
theorem key_v {K : PySem.W.Frag} {G : Hp} {v : V} {d : PyData} {k : Key} (h : Dp K G v d) (e : keyD d = some k) : v = kV k := by
  cases h with
  | int i => cases e; rfl
  | str z => cases e; rfl
  | _ => cases e
def kvsV (tbl : List (Key × PyData)) : List (Key × V) := tbl.map fun kd => (kd.1, vOf kd.2)
def lookD (tbl : List (Key × PyData)) (k : Key) : Option PyData := (tbl.find? fun kd => decide (kd.1 = k)).map (·.2)
def wDix (tbl : List (Key × PyData)) (wy : WE) : WE := fun s Q => wy s fun y s1 => ∃ k d, keyD y = some k ∧ lookD tbl k = some d ∧ Q d s1
theorem valV_of {tbl : List (Key × PyData)} {k : Key} {d : PyData} (h : lookD tbl k = some d) : valV (kvsV tbl) k = some (vOf d) := by
  unfold lookD at h
  unfold valV kvsV
  rw [List.find?_map]
  cases q : tbl.find? (fun kd => decide (kd.1 = k)) with
  | none => rw [q] at h; cases h
  | some kd =>
    rw [q] at h
    cases h
    have e : ((fun kv : Key × V => decide (kv.1 = k)) ∘ fun kd : Key × PyData => (kd.1, vOf kd.2)) = fun kd => decide (kd.1 = k) := rfl
    rw [e, q]
    rfl
theorem lookD_mem {tbl : List (Key × PyData)} {k : Key} {d : PyData} (h : lookD tbl k = some d) : (k, d) ∈ tbl := by
  unfold lookD at h
  cases q : tbl.find? (fun kd => decide (kd.1 = k)) with
  | none => rw [q] at h; cases h
  | some kd =>
    rw [q] at h
    cases h
    have h1 := List.find?_some q
    have h2 := List.mem_of_find?_eq_some q
    obtain ⟨k', d'⟩ := kd
    have e : k' = k := of_decide_eq_true h1
    subst e
    exact h2
theorem de_dix {keys : List (Option Expr)} {vals : List Expr} {trs : List (TE × TE)} {p2 : Pos} (tbl : List (Key × PyData)) (hu : X.A.units + 1 < cLine) (hp : PE X (.Dict keys vals p2) (tDisp trs)) (hc : ∀ σ H Q, Q ((kvsV tbl).map fun kv => (kV kv.1, kv.2)) H → tPairs trs σ H Q) (hy : DE X C b ty wy)
    (hm : mergeK [] (kvsV tbl) = kvsV tbl := by rfl) (hl : tbl.length ≤ 15 := by decide) (hf : ∀ kd ∈ tbl, flt kd.2 = true := by decide) (hs : NoSl b := by exact fun _ _ => rfl) :
    DE X C (.Subscript (.Dict keys vals p2) b pos) (tDGet (tDisp trs) ty) (wDix tbl wy) := ⟨pe_dget hu hp hy.pe hs, fun G σ H s Q Q' r q k pp hpp => hc _ _ _ ⟨upd_same, kvsV tbl, rfl, by unfold kvsV; rw [List.length_map]; exact hl, by
    have e1 : Ex H (upd (upd H pp (.dK [])) pp (.dK (mergeK [] (kvsV tbl)))) := by
      rw [upd_upd]
      exact Ex.new hpp
    refine hy.ie G σ _ s _ _ (r.aside e1) q fun v d s1 G1 H1 q1 r1 eg g pd => ?_
    obtain ⟨kk, dd, hk, hl2, q1⟩ := q1
    have hp1 : H1 pp = some (.dK (kvsV tbl)) := by
      rw [hm] at g
      exact g.gr pp _ (r.fin.nbx (r.fin.h0 hpp)) upd_same
    refine ⟨pp, vOf dd, rfl, ?_, k _ _ s1 G1 H1 q1 r1 eg ((Gs.side e1).trans g) (dp_flt (hf _ (lookD_mem hl2)))⟩
    rw [key_v pd hk, ← valV_of hl2]
    exact DGet.k hp1⟩⟩
def rCatL (K : PySem.W.Frag) : R2 := fun x y H Q => ∃ l m xs zs, x = .ref l ∧ y = .ref m ∧ SqL K H l xs ∧ SqL K H m zs ∧ xs.length + zs.length ≤ sizeLine ∧ ∀ p, H p = none → Q (.ref p) (upd H p (.lst (xs ++ zs)))
theorem op_catL : OpR X (binaryOp .Add) (rCatL X.K) := by
  intro pins s σ H x y v u Q I rx ry h
  obtain ⟨l, m, xs, zs, rfl, rfl, h1, h2, hz, q⟩ := h
  cases rx
  cases ry
  obtain ⟨its, r1, p1, _⟩ := I.list h1
  obtain ⟨js, r2, p2, _⟩ := I.list h2
  obtain ⟨⟨c1, d1, t1, s1⟩, n1, g1, e1, _, k1⟩ := p1
  obtain ⟨⟨c2, d2, t2, s2⟩, n2, g2, e2, _, k2⟩ := p2
  simp only at e1 k1 e2 k2
  subst e1 k1 e2 k2
  have hl : its.toArray.size + js.toArray.size ≤ sizeLine := by rw [List.size_toArray, List.size_toArray, ← r1.length, ← r2.length]; exact hz
  have hp := list_addW l m its.toArray js.toArray n1 n2 d1 d2 s1 s2 hl
  refine concat_meets ⟨_, g1, rfl⟩ ⟨_, g2, rfl⟩ noFill_list_add seq_list_add F.slot_list_add F.entry_list_add (F.args_list_add_2 _ _) hp ⟨g1, g2, ?_⟩
  rw [show its.toArray ++ js.toArray = (its ++ js).toArray by simp]
  exact ⟨.ref _, _, I.lnew (t' := s.toks) (r1.append r2) (by rw [List.length_append]; exact hz), rfl, q _ I.fresh⟩
def wCatP (u v : WE) : WA := fun s Q => u s fun d s1 => v s1 fun e s2 => ∃ ds es, d = .list ds ∧ e = .list es ∧ ds.length + es.length ≤ 100000 ∧ Q (ds ++ es) s2
theorem do_catP (hK : X.K = C.K) (ha : DP X C a ta wa) (hb : DP X C b tb wb) : DO X C (.BinOp a .Add b pos) (tOp (rCatL C.K) ta tb) (wCatP wa wb) := ⟨pe_op (hK ▸ op_catL) ha.pe hb.pe, fun G σ H s Q Q' r q k =>
  ha.ip G σ H s _ _ r q fun v d s1 G1 H1 q1 r1 eg1 g1 p1 => hb.ip G1 σ H1 s1 _ _ r1 q1 fun v2 d2 s2 G2 H2 q2 r2 eg2 g2 p2 => by
    obtain ⟨ds, es, rfl, rfl, hl, q2⟩ := q2
    obtain ⟨a, xs, rfl, h1, h2⟩ := pk_lst (p1.mono eg2 g2.gr) r2.fin.gh
    obtain ⟨b, ys, rfl, h3, h4⟩ := pk_lst p2 r2.fin.gh
    exact ⟨a, b, xs, ys, rfl, rfl, h1, h3, sz_of (by rw [dpa_len h2, dpa_len h4]; exact hl), fun l hl => own_new r q2 r2 (eg1.trans eg2) (g1.trans g2) (dpa_app h2 h4) hl k⟩⟩
/-- y = x.pop(), y = x.pop(i) -/
def wPopTo (j i : Nat) (wA : WA) (f : List PyData → List PyData → (PyData → List PyData → Prop) → Prop) : WS := fun DD s => (∃ ds0, s.env[i]? = some (some (.own ds0))) ∧ wA s fun as s1 => ∃ ds, s1.env[i]? = some (some (.own ds)) ∧ f ds as fun d ds' => DD.nx ((s1.set i (.own ds')).set j (.d d))
def fPop : List PyData → List PyData → (PyData → List PyData → Prop) → Prop := fun ds as Q => ∃ ds' d, as = [] ∧ ds = ds' ++ [d] ∧ Q d ds'
theorem dpa_snoc {K : PySem.W.Frag} {G : Hp} {xs : List V} {ds : List PyData} {d : PyData} (h : DpAll K G xs (ds ++ [d])) : ∃ ys y, xs = ys ++ [y] ∧ DpAll K G ys ds ∧ Dp K G y d := by
  have h1 := dpa_take ds.length h
  have h2 := dpa_drop ds.length h
  rw [List.take_left' rfl] at h1
  rw [List.drop_left' rfl] at h2
  have e := List.take_append_drop ds.length xs
  generalize List.drop ds.length xs = r at h2 e
  cases h2 with
  | cons p1 p2 =>
    cases p2
    exact ⟨_, _, e.symm, h1, p1⟩
/-- a list's method of no argument, its answer stored -/
theorem is_pop0 {i j : Nat} : IS C (tAsg (tBM0 C.K "list" rPop (tVar i)) (gName j)) (wPopTo j i (fun s Q => Q [] s) fPop) := fun G σ H s D DD rr q o => by
  obtain ⟨⟨ds0, e0⟩, ds, e1, ds', d, _, rfl, q⟩ := q
  obtain ⟨v, hv, p, xs, rfl, a1, a2, a3, a4⟩ := rr.sl i _ e1
  obtain ⟨ys, y, rfl, h1, h2⟩ := dpa_snoc a4
  refine ⟨_, hv, .inl ⟨rfl, _, .inl (.inl a1)⟩, p, ys ++ [y], y, rfl, rfl, a1, ?_, ?_⟩
  · rw [List.length_append, List.length_singleton, Nat.add_sub_cancel, List.getElem?_concat_length]
  · rw [List.dropLast_concat]
    exact o.nx _ _ _ G q ((rr.mutl e1 hv h1).putd h2) (Ex.refl G)
theorem ds_popTo (j i : Nat) {y : Str} {apos cpos py : Pos} (hK : X.K = C.K) (hN : X.N.Nodup) (hb : PE X (.Call (.Attribute (.Name x p) "pop" apos) [] [] cpos) (tBM0 X.K "list" rPop (tVar i)))
    (hi : X.N[j]? = some y := by rfl) (hx : Loc X.env.scope y := by first | exact .inl rfl | exact .inr rfl) (hs : swapsWith (.Call (.Attribute (.Name x p) "pop" apos) [] [] cpos) (some (.Name y py)) pos.line X.env = Pure.pure false := by rfl)
    (hf : X.fn y = true ∨ X.env.scope.names.lookup y = some .local := by first | exact .inl rfl | exact .inr rfl | assumption) :
    DS X C (.Assign [.Name y py] (.Call (.Attribute (.Name x p) "pop" apos) [] [] cpos) pos) (tAsg (tBM0 C.K "list" rPop (tVar i)) (gName j)) (wPopTo j i (fun s Q => Q [] s) fPop) := ⟨ps_set hN hi hx (hK ▸ hb) hs hf, is_pop0⟩
/-- x.pop(i), x.insert(i, y) as statements -/
def fPopAt : List PyData → List PyData → (PyData → List PyData → Prop) → Prop := fun ds as Q => ∃ (n : Nat) (d : PyData), as = [.int n] ∧ ds[n]? = some d ∧ n < 100000 ∧ Q d (ds.eraseIdx n)
def fIns : List PyData → List PyData → (PyData → List PyData → Prop) → Prop := fun ds as Q => ∃ (n : Nat) (d : PyData), as = [.int n, d] ∧ ds.length < 100000 ∧ n < 100000 ∧ Q .none (ds.take n ++ [d] ++ ds.drop n)
/-- x[i] = e -/
def wSetIx (i : Nat) (we wi : WE) : WS := fun DD s => we s fun d s1 => (∃ ds0, s1.env[i]? = some (some (.own ds0))) ∧ wi s1 fun k s2 => ∃ (n : Nat) (ds : List PyData), k = .int n ∧ s2.env[i]? = some (some (.own ds)) ∧ n < ds.length ∧ DD.nx (s2.set i (.own (ds.set n d)))
def RepOk (d : PyData) : Prop := d.showable = true ∧ d.hasDict = false ∧ d.depth ≤ 40 ∧ d.shown.length ≤ sizeLine
def gRepr : G1 := fun d s Q => RepOk d ∧ Q (.str d.shown) s
def gMinT : G1 := fun d s Q => ∃ (n : Int) (ns : List Int), d = .tuple ((n :: ns).map .int) ∧ Q (.int (ns.foldl min n)) s
end
end Dw
namespace Dw
open PySem PySem.Spec PyProof.Rows L2 OgR Evl
theorem u65 {k : Nat} {A : Around} (r : Room k A) : A.units + 65 < cLine := by have := r.un; omega
section
variable {X : Cx} {C : Ct} {a b c e tg : Expr} {es : List Expr} {pos p : Pos} {t ta tb tc te ty : TE} {w wa wb wc we wy : WE} {tA : TA} {wA : WA} {x : Str} {st : Stmt} {sts : List Stmt} {ps : List Str} {k : Nat}
theorem dgs_c {g : TG} {gs : TGs} {k1 k2 : List Nat} {w : WG} {u : WGs} (h1 : DG X C e g k1 w) (h2 : DGs X C es gs k2 u) (hs : (assignEach (e :: es) X.env).map (·.2) = assign e X.env :: (assignEach es X.env).map (·.2) := by rfl) :
    DGs X C (e :: es) (gCons g gs) (k1 ++ k2) (wGCons w u) := dgs_cons h1 h2 (pgs_cons h1.pg h2.pg hs)
theorem di_zip2 {elts : List Expr} {kk : Nat} {tpos : Pos} (hK : X.K = C.K) (hg : Gl X "zip") (hm : X.mg "zip" = none) (h : DE X C a ta wa) (h' : DE X C b tb wb) (hs : starEach [a, b] X.env = (false, eval a X.env) :: starEach [b] X.env := by rfl) (hs2 : starEach [b] X.env = (false, eval b X.env) :: starEach [] X.env := by rfl)
    (hpl : (backTo pos (starEach [b] X.env)).any (·.1) = false := by rfl) : DI X C (.Tuple elts kk tpos) (.Call (.Name "zip" p) [a, b] [] pos) (iZipB C.K (tCons ta (tCons tb tNil))) (wZip wa wb) :=
  di_zip hK hg hm h h' (pi_zipB hg hm (pa_cons h.pe (pa_cons h'.pe pa_nil hs2) hs) hs hpl)
theorem ds_par3 (i j l : Nat) {xn yn zn : Str} {px py pz pt : Pos} {kt k2 pt2} {w : WXs} (hc : X.calm = true) (hN : X.N.Nodup) (h : DXs X C [a, b, c] tA w) (hi : X.N[i]? = some xn := by rfl) (hj : X.N[j]? = some yn := by rfl) (hl : X.N[l]? = some zn := by rfl) (hij : i ≠ j := by decide) (hil : i ≠ l := by decide) (hjl : j ≠ l := by decide)
    (hx : X.env.scope.names.lookup xn = some .local := by rfl) (hy : X.env.scope.names.lookup yn = some .local := by rfl) (hz : X.env.scope.names.lookup zn = some .local := by rfl)
    (hw : swappedStores [.Tuple [.Name xn px, .Name yn py, .Name zn pz] kt pt] (.Tuple [a, b, c] k2 pt2) X.env = Pure.pure (some [xn, yn, zn]) := by rfl)
    (hs : swapsWithSole [.Tuple [.Name xn px, .Name yn py, .Name zn pz] kt pt] (.Tuple [a, b, c] k2 pt2) pos.line X.env = Pure.pure false := by rfl) :
    DS X C (.Assign [.Tuple [.Name xn px, .Name yn py, .Name zn pz] kt pt] (.Tuple [a, b, c] k2 pt2) pos) (tPar3 i j l tA) (wPar 3 [i, j, l] w) := ⟨ps_par3 hc hN hi hj hl hij hil hjl hx hy hz h.pa hw hs, is_par3 h.ix⟩
theorem ds_app (i : Nat) {apos cpos : Pos} (hK : X.K = C.K) (h : DE X C e t w) (hv : PE X (.Name x p) (tVar i) := by exact pv _) (hb0 : attributeBase (.Name x p) "append" X.env (eval (.Name x p) X.env) = eval (.Name x p) X.env := by rfl)
    (hfew : ((backTo cpos (starEach [e] X.env)).all (fun x => !x.1) && (backToKw cpos (keywordEach [] X.env)).all (fun x => x.1.isSome) && decide ([e].length + ([] : List Keyword).length + (if ([] : List Keyword).isEmpty then 0 else 1) < 30)) = true := by rfl)
    (hline : (apos.endLine == cpos.line) = true := by rfl) (hst : starEach [e] X.env = (false, eval e X.env) :: starEach [] X.env := by rfl) (hpl : (backTo cpos (starEach [] X.env)).any (·.1) = false := by rfl)
    (hs : swapsWith (.Call (.Attribute (.Name x p) "append" apos) [e] [] cpos) none pos.line X.env = Pure.pure false := by rfl) :
    DS X C (.Expr (.Call (.Attribute (.Name x p) "append" apos) [e] [] cpos) pos) (tDrop (tBM C.K "list" rAppend (tVar i) (tCons t tNil))) (wDrop (wMeth i (wCons w fun s Q => Q [] s) fAppend)) :=
  ds_append i hK h hv (pe_bm PySem.F.plainAttrs_list PySem.F.slot_list_append PySem.F.type_list_append mt_append hv (pa_cons h.pe pa_nil hst) hb0 hfew hline hst hpl) hs
end
theorem for_by {ds : List PyData} {g : WG} {wb : WS} {DD : DEnds} {s1 : Dt} (Inv : Nat → Dt → Prop) (h0 : Inv 0 s1)
    (hs : ∀ (i : Nat) d s2 (J : Dt → Prop), ds[i]? = some d → Inv i s2 → (∀ s, Inv (i + 1) s → J s) → g d s2 fun s3 => wb { nx := J, rt := DD.rt, bk := DD.nx, ct := J } s3) (hd : ∀ s2, Inv ds.length s2 → DD.nx s2) :
    ∃ Inv : Nat → Dt → Prop, Inv 0 s1 ∧ (∀ (i : Nat) d s2, ds[i]? = some d → Inv i s2 → g d s2 fun s3 => wb { nx := Inv (i + 1), rt := DD.rt, bk := DD.nx, ct := Inv (i + 1) } s3) ∧ ∀ s2, Inv ds.length s2 → DD.nx s2 :=
  ⟨Inv, h0, fun i d s2 e inv => hs i d s2 (Inv (i + 1)) e inv fun _ h => h, hd⟩
theorem lc_map {ds : List PyData} {g : WG} {te : WE} {vs : List Nat} {env : List (Option DV)} {c : Cs} {Q : List PyData → Dt → Prop} (f : PyData → PyData) (hl : ds.length ≤ 99999)
    (h : ∀ d ∈ ds, ∀ (acc : List PyData) (J : List PyData → Cs → Prop), acc.length < 100000 → J (acc ++ [f d]) c → g d ⟨wipeD env vs, c⟩ fun s2 => te s2 fun y s4 => s4.env = s2.env ∧ acc.length < 100000 ∧ J (acc ++ [y]) s4.c) (q : Q (ds.map f) ⟨env, c⟩) :
    ∃ Inv : Nat → List PyData → Cs → Prop, Inv 0 [] c ∧
      (∀ (i : Nat) d acc c', ds[i]? = some d → Inv i acc c' → g d ⟨wipeD env vs, c'⟩ fun s2 => (fun s (Q : Bool → Dt → Prop) => Q true s) s2 fun b s3 => s3.env = s2.env ∧ if b = true then te s3 fun y s4 => s4.env = s2.env ∧ acc.length < 100000 ∧ Inv (i + 1) (acc ++ [y]) s4.c else Inv (i + 1) acc s3.c) ∧
      ∀ acc c', Inv ds.length acc c' → Q acc ⟨env, c'⟩ := by
  refine ⟨fun i acc c' => c' = c ∧ acc = (ds.take i).map f, ⟨rfl, rfl⟩, fun i d acc c' hd inv => ?_, fun acc c' inv => ?_⟩
  · obtain ⟨rfl, rfl⟩ := inv
    have e : ds.take (i + 1) = ds.take i ++ [d] := by rw [List.take_add_one, hd]; rfl
    have := h d (List.mem_of_getElem? hd) ((ds.take i).map f) (fun acc c2 => c2 = c' ∧ acc = (ds.take (i + 1)).map f) (by rw [List.length_map, List.length_take]; omega) ⟨rfl, by rw [e, List.map_append]; rfl⟩
    simp only [if_true, true_and]
    exact this
  · obtain ⟨rfl, rfl⟩ := inv
    rw [List.take_length]
    exact q
end Dw
namespace Dw
open PySem PySem.Spec PyProof.Rows L2 OgR Evl
/-- data whose text is short -/
structure Shw (k m : Nat) (d : PyData) : Prop where
  sh : d.showable = true
  nd : d.hasDict = false
  dp : d.depth ≤ k
  ln : d.shown.length ≤ m
theorem Shw.up {k m k' m' : Nat} {d : PyData} (h : Shw k m d) (hk : k ≤ k') (hm : m ≤ m') : Shw k' m' d := ⟨h.sh, h.nd, Nat.le_trans h.dp hk, Nat.le_trans h.ln hm⟩
theorem tf_le {m : Nat} : ∀ (ts : List Str) (k : Nat) (acc : Str), (∀ t ∈ ts, t.length ≤ m) → (textFrom k acc ts).length ≤ acc.length + (m + 2) * ts.length
  | [], k, acc, _ => by show acc.length ≤ _; omega
  | t :: ts, k, acc, h => by
    have ih := tf_le ts (k + 1) (acc ++ (if k > 0 then ", " else "" : String) ++ t) fun x hx => h x (List.mem_cons_of_mem _ hx)
    have h1 := h t List.mem_cons_self
    rw [strLen_append, strLen_append] at ih
    have h2 : (Str.ofString (if k > 0 then ", " else "")).length ≤ 2 := by
      split <;> decide
    show (textFrom (k + 1) (acc ++ (if k > 0 then ", " else "" : String) ++ t) ts).length ≤ _
    rw [List.length_cons, Nat.mul_add]
    have e3 : (Str.ofString (if k > 0 then ", " else "")).length ≤ 2 := h2
    omega
theorem piled_le {m : Nat} : ∀ ts : List Str, (∀ t ∈ ts, t.length ≤ m) → piled ts ≤ (m + 2) * ts.length
  | [], _ => by rw [piled_nil]; omega
  | t :: ts, h => by
    rw [piled_cons, List.length_cons, Nat.mul_add]
    have := piled_le ts fun x hx => h x (List.mem_cons_of_mem _ hx)
    have := h t List.mem_cons_self
    omega
theorem lt_le {m : Nat} {ts : List Str} (h : ∀ t ∈ ts, t.length ≤ m) : (listText ts).length ≤ (m + 2) * ts.length + 4 := by
  have h1 := tf_le ts 0 "[" h
  show (textFrom 0 "[" ts ++ "]").length ≤ _
  rw [strLen_append]
  have e1 : (Str.ofString "[").length = 1 := by decide
  have e2 : (Str.ofString "]").length = 1 := by decide
  omega
theorem tt_le {m : Nat} {ts : List Str} (h : ∀ t ∈ ts, t.length ≤ m) : (tupleText ts).length ≤ (m + 2) * ts.length + 4 := by
  unfold tupleText
  rw [strLen_append, strLen_append]
  have e1 : (Str.ofString "(").length = 1 := by decide
  have e2 : (Str.ofString (if ts.length == 1 then ",)" else ")")).length ≤ 2 := by
    split <;> decide
  have h1 := piled_le ts h
  by_cases hn : ts = []
  · subst hn
    have e3 : ((Str.ofString ", ").join []).length = 0 := by decide
    rw [e3]
    omega
  · have h2 := join_length_add ts hn
    omega
theorem shownAll_map : ∀ ds : List PyData, PyData.shownAll ds = ds.map PyData.shown
  | [] => by simp only [PyData.shownAll, List.map_nil]
  | d :: ds => by simp only [PyData.shownAll, List.map_cons, shownAll_map ds]
theorem seq_facts {k m : Nat} : ∀ {ds : List PyData}, (∀ d ∈ ds, Shw k m d) → PyData.showableAll ds = true ∧ PyData.hasDictAll ds = false ∧ PyData.depthAll ds ≤ k
  | [], _ => ⟨by simp only [PyData.showableAll], by simp only [PyData.hasDictAll], by simp only [PyData.depthAll]; omega⟩
  | d :: ds, h => by
    obtain ⟨h1, h2, h3⟩ := seq_facts fun x hx => h x (List.mem_cons_of_mem _ hx)
    have h0 := h d List.mem_cons_self
    refine ⟨?_, ?_, ?_⟩
    · simp only [PyData.showableAll, h0.sh, h1, Bool.and_self]
    · simp only [PyData.hasDictAll, h0.nd, h2, Bool.or_self]
    · simp only [PyData.depthAll]
      exact Nat.max_le.mpr ⟨h0.dp, h3⟩
theorem shw_tup {k m n : Nat} {ds : List PyData} (h : ∀ d ∈ ds, Shw k m d) (hn : ds.length ≤ n) : Shw (k + 1) ((m + 2) * n + 4) (.tuple ds) := by
  obtain ⟨h1, h2, h3⟩ := seq_facts h
  refine ⟨by simpa only [PyData.showable] using h1, by simpa only [PyData.hasDict] using h2, by simp only [PyData.depth]; omega, ?_⟩
  simp only [PyData.shown]
  refine Nat.le_trans (tt_le (m := m) fun t ht => ?_) ?_
  · rw [shownAll_map] at ht
    obtain ⟨d, hd, rfl⟩ := List.mem_map.mp ht
    exact (h d hd).ln
  · rw [shownAll_map, List.length_map]
    exact Nat.add_le_add_right (Nat.mul_le_mul_left _ hn) 4
theorem shw_lst {k m n : Nat} {ds : List PyData} (h : ∀ d ∈ ds, Shw k m d) (hn : ds.length ≤ n) : Shw (k + 1) ((m + 2) * n + 4) (.list ds) := by
  obtain ⟨h1, h2, h3⟩ := seq_facts h
  refine ⟨by simpa only [PyData.showable] using h1, by simpa only [PyData.hasDict] using h2, by simp only [PyData.depth]; omega, ?_⟩
  simp only [PyData.shown]
  refine Nat.le_trans (lt_le (m := m) fun t ht => ?_) ?_
  · rw [shownAll_map] at ht
    obtain ⟨d, hd, rfl⟩ := List.mem_map.mp ht
    exact (h d hd).ln
  · rw [shownAll_map, List.length_map]
    exact Nat.add_le_add_right (Nat.mul_le_mul_left _ hn) 4
theorem shw_int {i : Int} (h : i.natAbs ≤ 10 ^ 30 + 1000) : Shw 0 400 (.int i) := by
  have h1 : i.natAbs < 10 ^ 31 := Nat.lt_of_le_of_lt h (by decide)
  have h2 := int_text_length_le10 (k := 31) (by decide) h1
  refine ⟨?_, rfl, Nat.le_refl _, ?_⟩
  · simp only [PyData.showable, decide_eq_true_eq]
    by_cases hz : i.natAbs = 0
    · rw [hz]
      decide
    · exact (Nat.log2_lt hz).mpr (Nat.lt_of_lt_of_le h1 (Nat.le_trans (show 10 ^ 31 ≤ 2 ^ 128 by decide) (Nat.pow_le_pow_right (by decide) (by decide))))
  · simp only [PyData.shown]
    rw [PySem.ofString_length]
    omega
theorem shw_none : Shw 0 400 .none := ⟨rfl, rfl, Nat.le_refl _, by decide⟩
theorem shw_bool (b : Bool) : Shw 0 400 (.bool b) := by cases b <;> exact ⟨rfl, rfl, Nat.le_refl _, by decide⟩
theorem shw_str {x : Str} (h : (reprText x).length ≤ 400) : Shw 0 400 (.str x) := ⟨rfl, rfl, Nat.le_refl _, h⟩
theorem sok (s : String) : PyData.strOk (Str.ofString s) = true := by
  unfold PyData.strOk
  rw [Array.all_eq_true_iff_forall_mem]
  intro c hc
  have : c ∈ s.toList.map Char.toNat := by
    rw [Str.ofString_eq_toList] at hc
    simpa using hc
  obtain ⟨ch, _, rfl⟩ := List.mem_map.mp this
  have h := ch.valid
  refine decide_eq_true ?_
  have : ch.val.toNat < 1114112 := by
    rcases h with h | h
    · exact Nat.lt_trans h (by decide)
    · exact h.2
  exact this
theorem eqv_str (x y : Str) : PyData.eqv (.str x) (.str y) = decide (x = y) := by
  simp only [PyData.eqv]
  by_cases h : x = y
  · subst h
    simp
  · rw [decide_eq_false h]
    exact beq_eq_false_iff_ne.mpr h
theorem eqv_int (x y : Int) : PyData.eqv (.int x) (.int y) = decide (x = y) := by
  simp only [PyData.eqv]
  by_cases h : x = y
  · subst h
    simp
  · rw [decide_eq_false h]
    exact beq_eq_false_iff_ne.mpr h
theorem eqv_bool (x y : Bool) : PyData.eqv (.bool x) (.bool y) = decide (x = y) := by
  cases x <;> cases y <;> rfl
def FlB : PyData → Prop
  | .none => True
  | .bool _ => True
  | .int i => i.natAbs ≤ 10 ^ 30 + 1000
  | .str z => PyData.strOk z = true ∧ (reprText z).length ≤ 400
  | _ => False
def Bd (w : Nat) : Nat → PyData → Prop
  | 0, d => FlB d
  | k + 1, d => FlB d ∨ ∃ ds, (d = .list ds ∨ d = .tuple ds) ∧ ds.length ≤ w ∧ ∀ x ∈ ds, Bd w k x
theorem Bd.flat {w k : Nat} {d : PyData} (h : FlB d) : Bd w k d := by
  cases k with
  | zero => exact h
  | succ k => exact .inl h
theorem Bd.up {w w' : Nat} (hw : w ≤ w') : ∀ {k k' : Nat} {d : PyData}, k ≤ k' → Bd w k d → Bd w' k' d
  | 0, _, _, _, h => .flat h
  | k + 1, 0, _, hk, _ => absurd hk (by omega)
  | k + 1, k' + 1, d, hk, h => by
    rcases h with h | ⟨ds, e, hl, hd⟩
    · exact .inl h
    · exact .inr ⟨ds, e, Nat.le_trans hl hw, fun x hx => Bd.up hw (by omega) (hd x hx)⟩
theorem bd_tup {w k : Nat} {ds : List PyData} (hl : ds.length ≤ w) (h : ∀ x ∈ ds, Bd w k x) : Bd w (k + 1) (.tuple ds) := .inr ⟨ds, .inr rfl, hl, h⟩
theorem canAll : ∀ {ds : List PyData}, (∀ d ∈ ds, PyData.canLay0 d = true) → PyData.canLayAll0 ds = true
  | [], _ => by simp only [PyData.canLayAll0]
  | d :: ds, h => by simp only [PyData.canLayAll0, h d List.mem_cons_self, canAll fun x hx => h x (List.mem_cons_of_mem _ hx), Bool.and_self]
theorem depAll {n : Nat} : ∀ {ds : List PyData}, (∀ d ∈ ds, PyData.depth d ≤ n) → PyData.depthAll ds ≤ n
  | [], _ => by simp only [PyData.depthAll]; omega
  | d :: ds, h => by
    simp only [PyData.depthAll]
    exact Nat.max_le.mpr ⟨h d List.mem_cons_self, depAll fun x hx => h x (List.mem_cons_of_mem _ hx)⟩
theorem FlB.can {d : PyData} (h : FlB d) : PyData.canLay0 d = true ∧ PyData.depth d = 0 := by
  cases d with
  | none => exact ⟨by simp only [PyData.canLay0], by simp only [PyData.depth]⟩
  | bool _ => exact ⟨by simp only [PyData.canLay0], by simp only [PyData.depth]⟩
  | int _ => exact ⟨by simp only [PyData.canLay0], by simp only [PyData.depth]⟩
  | str z => exact ⟨by simp only [PyData.canLay0]; exact h.1, by simp only [PyData.depth]⟩
  | list _ => exact h.elim
  | tuple _ => exact h.elim
  | dict _ => exact h.elim
theorem Bd.can {w : Nat} : ∀ {k : Nat} {d : PyData}, Bd w k d → PyData.canLay0 d = true ∧ PyData.depth d ≤ k
  | 0, d, h => ⟨(FlB.can h).1, by rw [(FlB.can h).2]; exact Nat.le_refl _⟩
  | k + 1, d, h => by
    rcases h with h | ⟨ds, rfl | rfl, hl, hd⟩
    · exact ⟨h.can.1, by rw [h.can.2]; omega⟩
    · refine ⟨by simp only [PyData.canLay0]; exact canAll fun x hx => (Bd.can (hd x hx)).1, ?_⟩
      simp only [PyData.depth]
      exact Nat.succ_le_succ (depAll fun x hx => (Bd.can (hd x hx)).2)
    · refine ⟨by simp only [PyData.canLay0]; exact canAll fun x hx => (Bd.can (hd x hx)).1, ?_⟩
      simp only [PyData.depth]
      exact Nat.succ_le_succ (depAll fun x hx => (Bd.can (hd x hx)).2)
theorem Bd.shp {w k : Nat} {d : PyData} (h : Bd w k d) (hk : k ≤ 64) : Shp d := by
  obtain ⟨h1, h2⟩ := h.can
  exact Bool.and_eq_true_iff.mpr ⟨h1, decide_eq_true (Nat.le_trans h2 hk)⟩
theorem shp_int (i : Int) : Shp (.int i) := rfl
theorem shp_z {z : Str} (h : PyData.strOk z = true) : Shp (.str z) := by
  show SeqAt.shaped (.str z) = true
  simp [SeqAt.shaped, PyData.canLay0, PyData.depth, h]
theorem shp_str (s : String) : Shp (.str (Str.ofString s)) := shp_z (sok s)
/-- how long the text of bounded data is -/
def lenB (w : Nat) : Nat → Nat
  | 0 => 400
  | k + 1 => (lenB w k + 2) * w + 404
theorem FlB.shw {d : PyData} (h : FlB d) : Shw 0 400 d := by
  cases d with
  | none => exact shw_none
  | bool _ => exact shw_bool _
  | int _ => exact shw_int h
  | str z => exact shw_str h.2
  | list _ => exact h.elim
  | tuple _ => exact h.elim
  | dict _ => exact h.elim
theorem lenB_400 (w : Nat) : ∀ k, 400 ≤ lenB w k
  | 0 => Nat.le_refl _
  | k + 1 => by show 400 ≤ (lenB w k + 2) * w + 404; omega
theorem Bd.shw {w : Nat} : ∀ {k : Nat} {d : PyData}, Bd w k d → Shw k (lenB w k) d
  | 0, d, h => FlB.shw h
  | k + 1, d, h => by
    rcases h with h | ⟨ds, rfl | rfl, hl, hd⟩
    · exact h.shw.up (Nat.zero_le _) (lenB_400 w (k + 1))
    · exact (shw_lst (fun x hx => Bd.shw (hd x hx)) hl).up (Nat.le_refl _) (by show _ ≤ (lenB w k + 2) * w + 404; omega)
    · exact (shw_tup (fun x hx => Bd.shw (hd x hx)) hl).up (Nat.le_refl _) (by show _ ≤ (lenB w k + 2) * w + 404; omega)
theorem Bd.rep {w k : Nat} {d : PyData} (h : Bd w k d) (hk : k ≤ 40) (hl : lenB w k ≤ sizeLine) : RepOk d := by
  have s := h.shw
  exact ⟨s.sh, s.nd, Nat.le_trans s.dp hk, Nat.le_trans s.ln hl⟩
end Dw
namespace Dw
open PySem PySem.Spec PyProof.Rows L2 OgR Evl
def Lf (b : Nat) : PyData → Prop
  | .none => True
  | .bool _ => True
  | .int i => i.natAbs ≤ 10 ^ 30 + b
  | .str z => PyData.strOk z = true ∧ (reprText z).length ≤ 400
  | _ => False
theorem Lf.fl {b : Nat} (hb : b ≤ 1000) {d : PyData} (h : Lf b d) : FlB d := by
  cases d with
  | int i => exact Nat.le_trans (h : i.natAbs ≤ 10 ^ 30 + b) (by omega)
  | _ => exact h
theorem Lf.up {b b' : Nat} (hb : b ≤ b') {d : PyData} (h : Lf b d) : Lf b' d := by
  cases d with
  | int i => exact Nat.le_trans (h : i.natAbs ≤ 10 ^ 30 + b) (by omega)
  | _ => exact h
def Lv (b w : Nat) : Nat → PyData → Prop
  | 0, d => Lf b d
  | k + 1, d => Lf b d ∨ ∃ ds, (d = .list ds ∨ d = .tuple ds) ∧ ds.length ≤ w ∧ ∀ x ∈ ds, Lv b w k x
theorem Lv.flat {b w k : Nat} {d : PyData} (h : Lf b d) : Lv b w k d := by
  cases k with
  | zero => exact h
  | succ k => exact .inl h
theorem Lv.up {b b' w w' : Nat} (hb : b ≤ b') (hw : w ≤ w') : ∀ {k k' : Nat} {d : PyData}, k ≤ k' → Lv b w k d → Lv b' w' k' d
  | 0, _, _, _, h => .flat (Lf.up hb h)
  | k + 1, 0, _, hk, _ => absurd hk (by omega)
  | k + 1, k' + 1, d, hk, h => by
    rcases h with h | ⟨ds, e, hl, hd⟩
    · exact .inl (h.up hb)
    · exact .inr ⟨ds, e, Nat.le_trans hl hw, fun x hx => Lv.up hb hw (by omega) (hd x hx)⟩
theorem Lv.bd {b w : Nat} (hb : b ≤ 1000) : ∀ {k : Nat} {d : PyData}, Lv b w k d → Bd w k d
  | 0, _, h => Lf.fl hb h
  | k + 1, d, h => by
    rcases h with h | ⟨ds, e, hl, hd⟩
    · exact .inl (h.fl hb)
    · exact .inr ⟨ds, e, hl, fun x hx => Lv.bd hb (hd x hx)⟩
mutual
def Tw : PyData → Nat
  | .list ds => TwA ds + 4
  | .tuple ds => TwA ds + 4
  | _ => 400
def TwA : List PyData → Nat
  | [] => 0
  | d :: ds => Tw d + 2 + TwA ds
end
theorem tf_le2 : ∀ (ts : List Str) (k : Nat) (acc : Str), (textFrom k acc ts).length ≤ acc.length + piled ts
  | [], k, acc => by rw [piled_nil]; exact Nat.le_refl _
  | t :: ts, k, acc => by
    have ih := tf_le2 ts (k + 1) (acc ++ (if k > 0 then ", " else "" : String) ++ t)
    rw [strLen_append, strLen_append] at ih
    have e3 : (Str.ofString (if k > 0 then ", " else "")).length ≤ 2 := by
      split <;> decide
    show (textFrom (k + 1) (acc ++ (if k > 0 then ", " else "" : String) ++ t) ts).length ≤ _
    rw [piled_cons]
    omega
theorem lt_le2 (ts : List Str) : (listText ts).length ≤ piled ts + 4 := by
  have h1 := tf_le2 ts 0 "["
  show (textFrom 0 "[" ts ++ "]").length ≤ _
  rw [strLen_append]
  have e1 : (Str.ofString "[").length = 1 := by decide
  have e2 : (Str.ofString "]").length = 1 := by decide
  omega
theorem tt_le2 (ts : List Str) : (tupleText ts).length ≤ piled ts + 4 := by
  unfold tupleText
  rw [strLen_append, strLen_append]
  have e1 : (Str.ofString "(").length = 1 := by decide
  have e2 : (Str.ofString (if ts.length == 1 then ",)" else ")")).length ≤ 2 := by
    split <;> decide
  by_cases hn : ts = []
  · subst hn
    have e3 : ((Str.ofString ", ").join []).length = 0 := by decide
    rw [e3]
    omega
  · have h2 := join_length_add ts hn
    omega
theorem piled_tw : ∀ {ds : List PyData}, (∀ d ∈ ds, d.shown.length ≤ Tw d) → piled (PyData.shownAll ds) ≤ TwA ds
  | [], _ => by simp only [PyData.shownAll, TwA, piled_nil]; exact Nat.le_refl _
  | d :: ds, h => by
    have h1 := h d List.mem_cons_self
    have h2 := piled_tw fun x hx => h x (List.mem_cons_of_mem _ hx)
    simp only [PyData.shownAll, TwA, piled_cons]
    omega
theorem FlB.tw {d : PyData} (h : FlB d) : Tw d = 400 := by
  cases d with
  | list _ => exact h.elim
  | tuple _ => exact h.elim
  | dict _ => exact h.elim
  | _ => simp only [Tw]
theorem Bd.tw {w : Nat} : ∀ {k : Nat} {d : PyData}, Bd w k d → d.shown.length ≤ Tw d
  | 0, d, h => by rw [FlB.tw h]; exact (FlB.shw h).ln
  | k + 1, d, h => by
    rcases h with h | ⟨ds, rfl | rfl, hl, hd⟩
    · rw [FlB.tw h]
      exact (FlB.shw h).ln
    · have := piled_tw fun x hx => Bd.tw (hd x hx)
      have h2 := lt_le2 (PyData.shownAll ds)
      simp only [PyData.shown, Tw]
      omega
    · have := piled_tw fun x hx => Bd.tw (hd x hx)
      have h2 := tt_le2 (PyData.shownAll ds)
      simp only [PyData.shown, Tw]
      omega
structure Sm (b w k L : Nat) (d : PyData) : Prop where
  lv : Lv b w k d
  tw : Tw d ≤ L
theorem Sm.up {b w k L b' w' k' L' : Nat} {d : PyData} (h : Sm b w k L d) (hb : b ≤ b') (hw : w ≤ w') (hk : k ≤ k') (hL : L ≤ L') : Sm b' w' k' L' d := ⟨h.lv.up hb hw hk, Nat.le_trans h.tw hL⟩
theorem Sm.bd {b w k L : Nat} {d : PyData} (h : Sm b w k L d) (hb : b ≤ 1000) : Bd w k d := h.lv.bd hb
theorem Sm.rep {b w k L : Nat} {d : PyData} (h : Sm b w k L d) (hb : b ≤ 1000) (hk : k ≤ 40) (hL : L ≤ sizeLine) : RepOk d := by
  have s := (h.bd hb).shw
  exact ⟨s.sh, s.nd, Nat.le_trans s.dp hk, Nat.le_trans (h.bd hb).tw (Nat.le_trans h.tw hL)⟩
theorem Lf.tw {b : Nat} {d : PyData} (h : Lf b d) : Tw d = 400 := by
  cases d with
  | list _ => exact h.elim
  | tuple _ => exact h.elim
  | dict _ => exact h.elim
  | _ => simp only [Tw]
theorem Sm.tup {b w k L : Nat} {ds : List PyData} (h : ∀ x ∈ ds, Lv b w k x) (hw : ds.length ≤ w) (hL : TwA ds + 4 ≤ L) : Sm b w (k + 1) L (.tuple ds) := ⟨.inr ⟨ds, .inr rfl, hw, h⟩, by simp only [Tw]; exact hL⟩
theorem Sm.lst {b w k L : Nat} {ds : List PyData} (h : ∀ x ∈ ds, Lv b w k x) (hw : ds.length ≤ w) (hL : TwA ds + 4 ≤ L) : Sm b w (k + 1) L (.list ds) := ⟨.inr ⟨ds, .inl rfl, hw, h⟩, by simp only [Tw]; exact hL⟩
end Dw
namespace Dw
open PySem PySem.Spec PyProof.Rows L2 OgR Evl
theorem tuple_mul1 (l : Addr) (items : Array Value) (n : Nat) (dd : Option Addr) (sl : Array (Option Value)) (u : Tok) :
    Meets (Builtin.«tuple.__mul__» ⟨[.ref l, .int 1 u], []⟩) (fun _ R s => s.heap.get? l = some { cls := .type "tuple", dict := dd, data := .seq items n, slots := sl } ∧
      R (.ok (.ret (Value.ref l))) s) :=
  .of_wp fun prog w A R s h => by
    obtain ⟨hp, g, d, tk, os⟩ := s
    obtain ⟨hl, h⟩ := h
    have f1 := AutoSeq1.idx_int
    have c1 : (items.isEmpty || (1 : Int) == 1) = true := by rw [show ((1 : Int) == 1) = true by decide, Bool.or_true]
    wp_walk using wpAny_loadPart' hl
    repeat (first
      | (refine wpAny_ite_true (decide_eq_true c1) ?_; wp_walk using wpAny_loadPart' hl))
    exact ⟨_, rfl, h⟩
theorem tuple_mul0 (l : Addr) (items : Array Value) (n : Nat) (dd : Option Addr) (sl : Array (Option Value)) (x : Int) (u : Tok) (c0 : (decide (x < -(2 ^ 63)) || decide (x ≥ 2 ^ 63)) = false) (c1 : (items.isEmpty || x == 1) = false) (c2 : (decide (x ≤ 0) || items.isEmpty) = true) :
    Meets (Builtin.«tuple.__mul__» ⟨[.ref l, .int x u], []⟩) (fun _ R s => s.heap.get? l = some { cls := .type "tuple", dict := dd, data := .seq items n, slots := sl } ∧
      R (.ok (.ret (Value.ref s.heap.objs.size))) { s with heap := s.heap.push { cls := Value.type "tuple", data := Data.seq #[] }, toks := s.toks }) :=
  .of_wp fun prog w A R s h => by
    obtain ⟨hp, g, d, tk, os⟩ := s
    obtain ⟨hl, h⟩ := h
    have f1 := AutoSeq1.idx_int
    wp_walk using wpAny_loadPart' hl
    repeat (first
      | (refine wpAny_ite_false (decide_eq_false (by rw [c0]; exact Bool.false_ne_true)) ?_; wp_walk using wpAny_loadPart' hl)
      | (refine wpAny_ite_false (decide_eq_false (by rw [c1]; exact Bool.false_ne_true)) ?_; wp_walk using wpAny_loadPart' hl)
      | (refine wpAny_ite_true (decide_eq_true c2) ?_; wp_walk using wpAny_loadPart' hl))
    exact ⟨_, rfl, h⟩
/-- a tuple that is not empty, times a number -/
def rRepN (K : PySem.W.Frag) : R2 := fun x y H Q => ∃ l k xs, x = .ref l ∧ y = .int k ∧ SqT K H l xs ∧ xs ≠ [] ∧ -1000 ≤ k ∧ k ≤ 1000 ∧ xs.length ≤ 1000 ∧ (k = 1 → Q (.ref l) H) ∧ (k ≠ 1 → ∀ p, H p = none → Q (.ref p) (upd H p (.tup (List.replicate k.toNat xs).flatten)))
section
variable {X : Cx}
theorem op_repN : OpR X (binaryOp .Mult) (rRepN X.K) := by
  intro pins s σ H x y v u Q I rx ry h
  obtain ⟨l, k, xs, rfl, rfl, hT, hne, h1, h2, hz, q1, q2⟩ := h
  by_cases hk2 : 2 ≤ k
  · exact op_repT pins s σ H _ _ v u Q I rx ry ⟨l, k, xs, rfl, rfl, hT, hne, hk2, h2, hz, q2 (by omega)⟩
  cases rx
  obtain ⟨t, rfl⟩ := ry
  obtain ⟨its, r, ⟨⟨cls, dd, data, sl⟩, ho, hc, n, hd⟩, hs⟩ := I.tuple hT
  simp only at hc hd
  subst hc hd
  have hle : its.length = xs.length := r.length.symm
  have hn : its ≠ [] := fun e => hne (by
    rw [e] at hle
    exact List.eq_nil_of_length_eq_zero hle.symm)
  have hi : its.toArray.isEmpty = false := by
    cases its with
    | nil => exact absurd rfl hn
    | cons a b => rfl
  by_cases hk1 : k = 1
  · subst hk1
    refine wpAny_binaryOp_repeat_ref (T := "tuple") (U := "int") (by decide) ⟨_, ho, rfl⟩ (fun s' => typeIs_int s' 1 t) noFill_tuple_mul F.fills_int_mul F.slot_int_rmul repeat_tuple F.slot_int_index.lookup
      (call_meets F.slot_int_rmul (typeIs_int s 1 t) F.entry_int_rmul (F.args_int_rmul_2 _ _) (int_rmul_tuple 1 t l its.toArray n dd sl)
        ⟨ho, rfl, ⟨_, ho, rfl⟩, call_meets F.slot_tuple_mul ⟨_, ho, rfl⟩ F.entry_tuple_mul (F.args_tuple_mul_2 _ _) (tuple_mul1 l its.toArray n dd sl t) ⟨ho, ?_⟩⟩)
    exact ⟨.ref l, H, I, rfl, q1 rfl⟩
  · have c0 : (decide (k < -(2 ^ 63)) || decide (k ≥ 2 ^ 63)) = false := by
      rw [decide_eq_false (by omega), decide_eq_false (by omega)] <;> rfl
    have c1 : (its.toArray.isEmpty || k == 1) = false := by
      rw [hi, Bool.false_or]
      exact beq_eq_false_iff_ne.mpr hk1
    have c2 : (decide (k ≤ 0) || its.toArray.isEmpty) = true := by
      rw [decide_eq_true (by omega)]
      rfl
    refine wpAny_binaryOp_repeat_ref (T := "tuple") (U := "int") (by decide) ⟨_, ho, rfl⟩ (fun s' => typeIs_int s' k t) noFill_tuple_mul F.fills_int_mul F.slot_int_rmul repeat_tuple F.slot_int_index.lookup
      (call_meets F.slot_int_rmul (typeIs_int s k t) F.entry_int_rmul (F.args_int_rmul_2 _ _) (int_rmul_tuple k t l its.toArray n dd sl)
        ⟨ho, rfl, ⟨_, ho, rfl⟩, call_meets F.slot_tuple_mul ⟨_, ho, rfl⟩ F.entry_tuple_mul (F.args_tuple_mul_2 _ _) (tuple_mul0 l its.toArray n dd sl k t c0 c1 c2) ⟨ho, ?_⟩⟩)
    have e0 : k.toNat = 0 := by omega
    have q := q2 hk1
    rw [e0] at q
    refine ⟨.ref s.heap.objs.size, _, I.laid (t' := s.toks) (o := .tup (List.replicate 0 xs).flatten) (fun b ob q => Heap.get?_push_of_some _ q) (Nat.le_refl _) ?_, rfl, q _ (I.hok.fresh (Nat.le_refl _))⟩
    have r0 := r.rep 0
    exact ⟨Nat.zero_le _, _, r0, IsTup.new _ _⟩
end
section
variable {X : Cx} {C : Ct}
/-- != of texts -/
def gNeS : G2 := fun d e s Q => ∃ x y, d = .str x ∧ e = .str y ∧ Q (.bool (!decide (x = y))) s
def repD (k : Int) (ds : List PyData) : List PyData := (List.replicate k.toNat ds).flatten
def gRepN : G2 := fun d e s Q => ∃ (ds : List PyData) (k : Int), d = .tuple ds ∧ e = .int k ∧ ds ≠ [] ∧ -1000 ≤ k ∧ k ≤ 1000 ∧ ds.length ≤ 1000 ∧ Q (.tuple (repD k ds)) s
theorem dpa_repN {K : PySem.W.Frag} {G : Hp} {xs : List V} {ds : List PyData} (h : DpAll K G xs ds) : ∀ n, DpAll K G (List.replicate n xs).flatten (List.replicate n ds).flatten
  | 0 => .nil
  | n + 1 => by
    rw [List.replicate_succ, List.replicate_succ, List.flatten_cons, List.flatten_cons]
    exact dpa_app h (dpa_repN h n)
theorem o_repT (hK : X.K = C.K) : OpD X C (binaryOp .Mult) (rRepN C.K) gRepN := ⟨hK ▸ op_repN, ⟨fun G σ H s x y d e Q Q' r p1 p2 q k => by
  obtain ⟨ds, n, rfl, rfl, hne, h1, h2, hl, q⟩ := q
  obtain ⟨a, xs, rfl, h3, h4⟩ := pk_tup p1
  have hy : y = .int n := by
    rcases p2 with h | ⟨_, _, _, _, h, _⟩
    · exact dp_int h
    · cases h
  subst hy
  refine ⟨a, n, xs, rfl, rfl, Evl.ex_t r.fin.gh h3, fun e => hne ?_, h1, h2, by rw [dpa_len h4]; exact hl, fun e => ?_, fun e p hp => ?_⟩
  · subst e
    exact dpa_nil h4
  · subst e
    have e1 : repD 1 ds = ds := by
      unfold repD
      show (List.replicate 1 ds).flatten = ds
      simp
    rw [e1] at q
    exact k _ _ s G H q r (Ex.refl G) Gs.refl (.tup h3 h4)
  · obtain ⟨r2, eg, eh⟩ := r.new (o := .tup (List.replicate n.toNat xs).flatten) hp
    exact k _ _ s _ _ q r2 eg eh (.tup (.inl (.inl upd_same)) (dpa_ex eg (dpa_repN h4 _)))⟩⟩
end
end Dw
namespace Dw
open PySem PySem.Spec PyProof.Rows L2 OgR Evl
def ExB (l : Addr) (H H' : Hp) : Prop := ∀ a o, a ≠ l → H a = some o → H' a = some o
theorem ExB.of {l : Addr} {H H' : Hp} (e : Ex H H') : ExB l H H' := fun a o _ h => e a o h
theorem ExB.trans {l : Addr} {H H1 H2 : Hp} (a : ExB l H H1) (b : ExB l H1 H2) : ExB l H H2 := fun x o n h => b x o n (a x o n h)
theorem ExB.mut {l p : Addr} {H H' : Hp} {o : HO} (e : ExB l H H') (h : H p = none) : ExB l H (upd H' p o) := fun x u n hx => by
  rw [upd_ne (fun z => by rw [z, h] at hx; cases hx)]
  exact e x u n hx
theorem BoxAt.ex {H H' : Hp} {l : Addr} {c : Int} (h : BoxAt H l c) (e : Ex H H') : BoxAt H' l c := h.keep fun o q => e l o q
theorem BoxAt.upd {H : Hp} {l p : Addr} {c : Int} {o : HO} (h : BoxAt H l c) (n : l ≠ p) : BoxAt (upd H p o) l c := h.keep fun u q => by
  rw [upd_ne n]
  exact q
theorem repT_snoc (n : Nat) : List.replicate (n + 1) true = List.replicate n true ++ [true] := by
  rw [List.replicate_succ']
theorem repT_all (n : Nat) : (List.replicate n true).all id = true := by
  rw [List.all_eq_true]
  intro x hx
  rw [(List.mem_replicate.mp hx).2]
  rfl
theorem box01 (b : Bool) : -(2 ^ 64) < (if b = true then (1 : Int) else 0) ∧ (if b = true then (1 : Int) else 0) < 2 ^ 64 := by
  cases b <;> decide
/-- promises of _law_cell_at, _law_box, _law_right, law -/
def spCel (K : PySem.W.Frag) : Sp := fun vs H Q _ => ∃ (a : Addr) (ns : List Int) (k : Nat), vs = [.ref a, .int k] ∧ SqL K H a (ns.map V.int) ∧ Q (.int (ns.getD k 0)) H
def spBox (K : PySem.W.Frag) : Sp := fun vs H Q _ => ∃ (a : Addr) (ns : List Int) (k : Nat), vs = [.ref a, .int k] ∧ SqL K H a (ns.map V.int) ∧ k ≤ 1000 ∧
  ∀ l x y, H l = none → 0 ≤ x → 0 ≤ y → y < 2 ^ 62 → Q (.ref l) (upd H l (.lst [.int x, .int y, .int 0]))
def spRight : Sp := fun vs H Q _ => ∃ (l : Addr) (c : Int), vs = [.ref l] ∧ BoxAt H l c ∧ c ≤ 800000 ∧ ∀ H' c', ExB l H H' → BoxAt H' l c' → c' ≤ c + 1000 → Q (.bl true) H'
def spLaw (K : PySem.W.Frag) : Sp := fun vs H Q _ => ∃ (s : Addr) (ns : List Int), vs = [.ref s] ∧ SqL K H s (ns.map V.int) ∧ ns.length ≤ 63 ∧ ∀ H', Q (.bl true) H'
/-- what a law's _law_right promises -/
def fRight : FB := fun ds c R => ds = [] ∧ c ≤ 800000 ∧ ∀ c', c' ≤ c + 1000 → R (.bool true) c'
theorem right_of {P : Program} {wd : World} {K : PySem.W.Frag} {mg : Str → Option Value} {base : Heap} {k : Nat} {x : Str} {st : Stmt} {ps : List Str} (D : Def P wd K mg base k x st ps (spB K fRight)) : Def P wd K mg base k x st ps spRight :=
  D.imp fun vs H Q E h => by
    obtain ⟨l, c, rfl, hB, hc, q⟩ := h
    refine ⟨l, [], fun _ => none, [], c, fun d c' => d = .bool true ∧ c' ≤ c + 1000, rfl, hB, rfl, (fun b o h => by cases h), .nil, ⟨rfl, hc, fun c' h => ⟨rfl, h⟩⟩, fun v d c' G' H' hR eg eh hB' gh nw pd => ?_⟩
    obtain ⟨rfl, h2⟩ := hR
    rw [dp_bl pd]
    exact q H' c' (fun a o n h => eh a o n h) hB' h2
end Dw
namespace Dw
open PySem PySem.Spec PyProof.Rows L2 OgR Evl
section
variable {κ : Type} [DecidableEq κ]
def lookG (tbl : List (κ × PyData)) (k : κ) : Option PyData := (tbl.find? fun kd => decide (kd.1 = k)).map (·.2)
def putG (tbl : List (κ × PyData)) (k : κ) (d : PyData) : List (κ × PyData) :=
  if (tbl.any fun kd => decide (kd.1 = k)) = true then tbl.map (fun kd => if kd.1 = k then (kd.1, d) else kd) else tbl ++ [(k, d)]
abbrev PK2 (K : PySem.W.Frag) (G : Hp) (ks : List (κ × V)) (kvs : List (κ × PyData)) : Prop := Paired (fun a b => a.1 = b.1 ∧ Dp K G a.2 b.2) ks kvs
theorem look_pair {K : PySem.W.Frag} {G : Hp} (k : κ) {ks : List (κ × V)} {kvs : List (κ × PyData)} (h : PK2 K G ks kvs) :
    (valV ks k = none ∧ lookG kvs k = none) ∨ ∃ v d, valV ks k = some v ∧ lookG kvs k = some d ∧ Dp K G v d := by
  unfold valV lookG
  induction h with
  | nil => exact .inl ⟨rfl, rfl⟩
  | @cons a b l1 l2 h t ih =>
    by_cases e : a.1 = k
    · refine .inr ⟨a.2, b.2, ?_, ?_, h.2⟩
      · rw [List.find?_cons_of_pos (by simpa using e)]
        rfl
      · rw [List.find?_cons_of_pos (by rw [← h.1]; simpa using e)]
        rfl
    · rw [List.find?_cons_of_neg (by simpa using e), List.find?_cons_of_neg (by rw [← h.1]; simpa using e)]
      exact ih
theorem any_pair {K : PySem.W.Frag} {G : Hp} (k : κ) {ks : List (κ × V)} {kvs : List (κ × PyData)} (h : PK2 K G ks kvs) : (ks.any fun kd => decide (kd.1 = k)) = (kvs.any fun kd => decide (kd.1 = k)) := by
  induction h with
  | nil => rfl
  | cons h t ih => rw [List.any_cons, List.any_cons, ih, h.1]
theorem map_pair {K : PySem.W.Frag} {G : Hp} (k : κ) {v : V} {d : PyData} (hv : Dp K G v d) {ks : List (κ × V)} {kvs : List (κ × PyData)} (h : PK2 K G ks kvs) : PK2 K G (ks.map fun kv => if kv.1 = k then (kv.1, v) else kv) (kvs.map fun kv => if kv.1 = k then (kv.1, d) else kv) := by
  induction h with
  | nil => exact .nil
  | @cons a b l1 l2 h t ih =>
    refine .cons ?_ ih
    show (if a.1 = k then (a.1, v) else a).1 = (if b.1 = k then (b.1, d) else b).1 ∧ Dp K G (if a.1 = k then (a.1, v) else a).2 (if b.1 = k then (b.1, d) else b).2
    rw [← h.1]
    by_cases e : a.1 = k
    · rw [if_pos e, if_pos e]
      exact ⟨rfl, hv⟩
    · rw [if_neg e, if_neg e]
      exact h
theorem snoc_pair {K : PySem.W.Frag} {G : Hp} (k : κ) {v : V} {d : PyData} (hv : Dp K G v d) {ks : List (κ × V)} {kvs : List (κ × PyData)} (h : PK2 K G ks kvs) : PK2 K G (ks ++ [(k, v)]) (kvs ++ [(k, d)]) := by
  induction h with
  | nil => exact .cons ⟨rfl, hv⟩ .nil
  | cons h t ih => exact .cons h ih
theorem put_pair {K : PySem.W.Frag} {G : Hp} (k : κ) {v : V} {d : PyData} (hv : Dp K G v d) {ks : List (κ × V)} {kvs : List (κ × PyData)} (h : PK2 K G ks kvs) : PK2 K G (putK ks k v) (putG kvs k d) := by
  unfold putK putG
  rw [any_pair k h]
  split
  · exact map_pair k hv h
  · exact snoc_pair k hv h
theorem len_pair {K : PySem.W.Frag} {G : Hp} {ks : List (κ × V)} {kvs : List (κ × PyData)} (h : PK2 K G ks kvs) : ks.length = kvs.length := by
  induction h with
  | nil => rfl
  | cons h t ih => rw [List.length_cons, List.length_cons, ih]
end
section
variable {X : Cx} {C : Ct} {a b e f tg : Expr} {es : List Expr} {pos p : Pos} {t ta tb tc te ty tx : TE} {w wa wb wc we wy wx : WE} {tA : TA} {wA : WA} {x : Str} {st : Stmt} {sts : List Stmt} {ps : List Str} {k : Nat}
/-- d.get(e, f), int and text keys -/
def wDGet2 (i : Nat) (we wf : WE) : WE := fun s Q => (∃ kvs0, s.env[i]? = some (some (.dic kvs0))) ∧ we s fun kd s1 => wf s1 fun fd s2 => ∃ kvs k, s2.env[i]? = some (some (.dic kvs)) ∧ keyD kd = some k ∧ Q ((lookG kvs k).getD fd) s2
/-- d[k] = e, int and text keys -/
def wDPut (i : Nat) (we wy : WE) : WS := fun DD s => we s fun d s1 => (∃ kvs0, s1.env[i]? = some (some (.dic kvs0))) ∧ wy s1 fun kd s2 => ∃ kvs k, s2.env[i]? = some (some (.dic kvs)) ∧ keyD kd = some k ∧ kvs.length < 100000 ∧ DD.nx (s2.set i (.dic (putG kvs k d)))
def keysD : List PyData → Option (List Key)
  | [] => some []
  | d :: ds => match keyD d, keysD ds with
    | some k, some ks => some (k :: ks)
    | _, _ => none
theorem keys_v {K : PySem.W.Frag} {G : Hp} : ∀ {ds : List PyData} {vs : List V} {ks : List Key}, DpAll K G vs ds → keysD ds = some ks → vs = ks.map kV
  | _, _, _, .nil, e => by cases e; rfl
  | d :: ds, _, _, .cons h t, e => by
    unfold keysD at e
    split at e
    · rename_i k ks h1 h2
      cases e
      rw [key_v h h1, keys_v t h2]
      rfl
    · cases e
/-- d[(a, b)] = e -/
def wTPut (i : Nat) (we : WE) (wA : WA) : WS := fun DD s => we s fun d s1 => (∃ kvs0, s1.env[i]? = some (some (.dit kvs0))) ∧ wA s1 fun kd s2 => ∃ kvs k, s2.env[i]? = some (some (.dit kvs)) ∧ keysD kd = some k ∧ kd.length ≤ 100000 ∧ kvs.length < 100000 ∧ DD.nx (s2.set i (.dit (putG kvs k d)))
/-- d[(a, b)], the dict only read -/
def wTGet (i : Nat) (wA : WA) : WE := fun s Q => (∃ kvs0, s.env[i]? = some (some (.dd kvs0))) ∧ wA s fun kd s1 => ∃ kvs k d, s1.env[i]? = some (some (.dd kvs)) ∧ keysD kd = some k ∧ kd.length ≤ 100000 ∧ lookG kvs k = some d ∧ Q d s1
theorem RdD.rd {H : Hp} {p : Addr} {ks : List (List Key × V)} (h : RdD C H p ks) : Rd H p (.dT ks) := by
  obtain ⟨(⟨od, h⟩ | ⟨h, h0⟩), n⟩ := h
  · exact .inr ⟨od, h⟩
  · exact .inl h
end
end Dw
namespace Dw
open PySem PySem.Spec PyProof.Rows L2 OgR Evl
end Dw
namespace Dw
open PySem PySem.Spec PyProof.Rows L2 OgR Evl
def hdD : PyData → PyData
  | .tuple (a :: b :: _) => .tuple [a, b]
  | d => d
/-- (int, text) or (int, text, something flat) -/
def RowD (d : PyData) : Prop := ∃ i z r, d = .tuple (.int i :: .str z :: r) ∧ PySem.W.alikeAll r r = true ∧ PyData.depthAll r = 0
structure RowsOk (ds : List PyData) : Prop where
  row : ∀ d ∈ ds, RowD d
  uni : ∀ d ∈ ds, ∀ e ∈ ds, hdD d = hdD e → d = e
def hdLe (a b : PyData) : Bool := !PySem.W.dataLt (hdD b) (hdD a)
def srtR (ds : List PyData) : List PyData := ds.mergeSort hdLe
section
variable {X : Cx} {C : Ct} {a b e : Expr} {pos p : Pos} {t ta tb : TE} {w wa wb : WE}
def gSrtR : PyData → Dt → (List PyData → Dt → Prop) → Prop := fun d s Q => seqd d = true ∧ RowsOk (its d) ∧ Q (srtR (its d)) s
/-- d < e, tuples of an int and a text -/
def PairD (d : PyData) : Prop := ∃ i z, d = .tuple [.int i, .str z]
def gLtP : G2 := fun d e s Q => PairD d ∧ PairD e ∧ Q (.bool (PySem.W.dataLt d e)) s
end
end Dw
namespace Gx
open PySem PySem.Spec PyProof.Rows L2
structure XC (K : PySem.W.Frag) (C : Addr) (B newId initId : String) (bmB : List Value) : Prop where
  fb : ExcBaseFacts B newId initId bmB
  sf : StoreFacts B bmB "object.__setattr__" "object"
  ini : PySem.W.excInitIn K C bmB newId = true
  ovr : PySem.W.excOver K C bmB = true
  dct : PySem.W.hasDictIn K C = true
  sa : PySem.W.findIn K (.ref C) "__setattr__" = some (some (.builtin "object.__setattr__"))
  ga : PySem.W.findIn K (.ref C) "__getattribute__" = some (some (.builtin "BaseException.__getattribute__"))
  gg : PySem.W.findIn K (.ref C) "__getattr__" = some none
  sub : PySem.W.subIn K (.ref C) (.type "BaseException") = some true
  cls : PySem.W.findIn K (.ref C) "__class__" = some (some (.builtin "object.__class__"))
  kp : PySem.W.keepIn K (.ref C) = true
  cin : (PySem.W.clsIn K C).isSome = true
  mro : PySem.W.mroIn K C (.type "object") = some true
  spc : PySem.W.specialIn K (.builtin "object.__class__") "__get__" = some (some (.builtin "getset_descriptor.__get__"))
  tks : PySem.W.takesIn K (.builtin "object.__class__") = some true
section
variable {prog : Program} {w : World} {A : Around} {E : Value → Shared → Prop} {s : Shared} {K : PySem.W.Frag} {C x t : Addr} {B newId initId : String} {bmB : List Value}
/-- x.name = v, the first field -/
theorem osaG {name : Str} {tk : Tok} {v : Value} {R : Result → Shared → Prop} (T : XC K C B newId initId bmB) (ok : K.In s.heap) (hx : s.heap.get? x = some (PySem.W.excObj C t none .none)) (ht : PySem.W.takerIn K C name = some none)
    (hq : ∀ h' tk' dx, (∀ b o, b ≠ x → s.heap.get? b = some o → h'.get? b = some o) → s.heap.objs.size ≤ dx → dx ≠ x → h'.get? x = some (PySem.W.excObj C t (some dx) .none) →
      h'.Ns1 dx (fun y => if y = name then some v else none) → R (.ok (.ret .none)) { s with heap := h', toks := tk' }) :
    codeAny (model prog w) A (.call (.builtin "object.__setattr__") ⟨[.ref x, .str name tk, v], []⟩) R s := by
  obtain ⟨cd, c1, c2⟩ := PySem.W.any_some T.dct
  have hlt := Heap.lt_size hx
  refine PySem.W.osa_openX (od := none) T.sf ok ⟨hx, rfl, rfl, trivial⟩ T.ovr ht fun bb => ?_
  refine wpAny_bind (wpAny_pure (wpAny_bind (PySem.W.instanceDict_exc hx (PySem.W.looks_clsIn ok c1) c2 ?_)))
  obtain ⟨hp, g, dr, tk0, os⟩ := s
  show wpAny _ _ (Builtin.ObjectAttr.storeInDict hp.objs.size (.str name tk) name v) _ _ _
  refine HandSPX.store_in_new ⟨_, #[], _, (Heap.get?_update_ne _ _ _ _ (Nat.ne_of_gt hlt)).trans (Heap.get?_push_at rfl rfl), rfl, fun e he => absurd he (by simp), fun _ => rfl⟩ fun h1 tk1 ns sb => ?_
  have up : (hp.push (PySem.W.dictOf [] 0)).get? x = some (PySem.W.excObj C t none .none) := Heap.get?_push_of_some _ hx
  refine hq h1 tk1 hp.objs.size (fun b o nb hb => ?_) (Nat.le_refl _) (Nat.ne_of_gt hlt) ?_ ns
  · rw [sb.2 b (Nat.ne_of_lt (Heap.lt_size hb)), Heap.get?_update_ne _ _ _ _ nb]
    exact Heap.get?_push_of_some _ hb
  · rw [sb.2 x (Nat.ne_of_lt hlt)]
    exact Heap.get?_update_self _ up rfl
end
section
variable {X : Cx} {pins : List (Addr × Obj)} {σ : L2.St} {H : Hp} {s : Shared} {a C dx : Addr} {f : Str} {y : V} {u : Value} {A : Around} {E : Value → Shared → Prop} {B newId initId : String} {bmB : List Value}
/-- the same over the tracked heap -/
theorem storeG {Q : Unit → Shared → Prop} (T : XC X.K C B newId initId bmB) (I : Inv X pins σ H s) (he : H a = some (exo a C none)) (ht : PySem.W.takerIn X.K C f = some none) (ry : RelV y u)
    (h : ∀ dx s', H dx = none → dx ≠ a → Inv X pins σ (upd (upd H dx (exd dx [(f, y)])) a (exo a C (some dx))) s' → Q () s') : wpAny (model X.prog X.w) A (setAttr (.ref a) f u) Q E s := by
  obtain ⟨t1, ho⟩ := exo_at I.hok he
  refine PySem.W.set_plain I.kIn (od := none) ⟨ho, rfl, rfl, trivial⟩ T.sa ?_
  refine osaG (s := { s with toks := s.toks + 1 }) (t := t1) T I.kIn ho ht fun h1 tk1 dx kk sz nx hx ns => ?_
  have free : H dx = none := I.hok.fresh sz
  have young : ∀ {b : Addr} {o : Obj}, s.heap.get? b = some o → b ≠ dx := fun {b o} z e => by
    rw [e] at z
    exact absurd (Heap.lt_size z) (Nat.not_lt.mpr sz)
  have nota : ∀ {b : Addr}, H b = none → b ≠ a := fun {b} n z => by
    rw [z, he] at n
    cases n
  have far : ∀ {b : Addr} {o : HO}, H b = some o → o ≠ exo a C none → upd (upd H dx (exd dx [(f, y)])) a (exo a C (some dx)) b = some o := fun {b o} z ne => by
    have b1 : b ≠ a := fun z1 => by
      rw [z1, he] at z
      exact ne (Option.some.inj z).symm
    have b2 : b ≠ dx := fun z1 => by
      rw [z1, free] at z
      cases z
    rw [upd_ne b1, upd_ne b2]
    exact z
  have un : Un X.fs [] H (upd (upd H dx (exd dx [(f, y)])) a (exo a C (some dx))) s.heap h1 := by
    refine ⟨fun b o z n _ _ => kk b o (nota n) z, fun b o z n _ _ => ⟨o.slots, kk b o (nota n) z⟩, fun b o z n _ => ?_, fun b o z _ => ?_, fun b xs z => far z fun e => exo_tup e.symm, fun b o v z => far z fun e => exo_frz e.symm, fun b ps z => ⟨#[], ?_⟩⟩
    · rw [upd_ne (nota n), upd_ne (young z)]
      exact n
    · by_cases ab : b = a
      · exact ⟨_, ab ▸ hx⟩
      · exact ⟨o, kk b o ab z⟩
    · rw [far z fun e => exo_tbl e.symm, Array.append_empty]
  refine h dx _ free nx (I.un (t' := tk1) un fun b o z => ?_)
  by_cases ab : b = a
  · rw [ab, upd_same] at z
    cases z
    rw [ab]
    exact exo_ok hx
  · rw [upd_ne ab] at z
    by_cases bd : b = dx
    · rw [bd, upd_same] at z
      cases z
      rw [bd]
      exact exd_ok ns (relO_put (fs := []) ry fun _ => trivial)
    · rw [upd_ne bd] at z
      refine (I.hok b o z).stay (fun c v hc zz => kk c v ?_ zz) (fun c hc => far hc fun e => exo_own e.symm) fun c xs hc => far hc fun e => exo_tup e.symm
      rcases hc with hc | hc
      · exact hc ▸ ab
      · exact fun z1 => by
          rw [z1, he] at hc
          exact exo_own (Option.some.inj hc)
end
section
variable {X : Cx} {o e : Expr} {es : List Expr} {to te : TE} {ta : TA} {f : Str} {p p' pos : Pos} {C : Addr} {B newId initId : String} {bmB : List Value}
/-- self.f = e, as the first and only field -/
def tFld (C : Addr) (f : Str) (to te : TE) : TS := fun D σ H => te σ H fun y H1 => to σ H1 fun x H2 => ∃ a : Addr, x = .ref a ∧ H2 a = some (exo a C none) ∧ ∀ dx, H2 dx = none → dx ≠ a → D.nx σ (upd (upd H2 dx (exd dx [(f, y)])) a (exo a C (some dx)))
theorem ps_fld (T : XC X.K C B newId initId bmB) (ht : PySem.W.takerIn X.K C f = some none) (ho : PE X o to) (he : PE X e te) (hs : swapsWith e (some (.Attribute o f p')) pos.line X.env = pure false := by rfl) : PS X (.Assign [.Attribute o f p'] e pos) (tFld C f to te) := by
  refine ⟨fun pins s σ H D I h => plainObj_wpAny_Assign_Attribute (thn (he.run pins s σ H _ I h) fun v s1 g1 => ?_) hs⟩
  obtain ⟨y, H1, I1, ry, q1⟩ := g1
  refine thn (ho.run pins s1 σ H1 _ I1 q1) fun u s2 g2 => ?_
  obtain ⟨x, H2, I2, rx, a, e1, ha, q⟩ := g2
  subst e1
  cases (show u = Value.ref a from rx)
  exact storeG T I2 ha ht ry fun dx s3 n ne J => ⟨σ, _, J, q dx n ne⟩
end
end Gx
namespace PySem.GxK
open PySem.W PySem.Calls PyProof.Rows
end PySem.GxK
namespace Gx
open PySem PySem.Spec PyProof.Rows L2
def XCx (K : PySem.W.Frag) (C : Addr) : Prop := ∃ B n i bm, XC K C B n i bm
/-- at a: an exception of the class at C, with the fields fs -/
def XAt (H : Hp) (a C : Addr) (fs : List (Str × V)) : Prop := ∃ d, H a = some (exo a C (some d)) ∧ H d = some (exd d fs)
theorem XAt.mono {H H' : Hp} {a C : Addr} {fs : List (Str × V)} (h : XAt H a C fs) (e : ∀ b o, H b = some o → H' b = some o) : XAt H' a C fs := by
  obtain ⟨d, h1, h2⟩ := h
  exact ⟨d, e _ _ h1, e _ _ h2⟩
end Gx
namespace Gx
open PySem PySem.Spec PyProof.Rows L2
theorem fly_keep {B h h' : Heap} {l : List Env} {e : Addr} {Z : Obj → Prop} (x : HandSPX.FlyingZ B l e Z h) (k : ∀ b o, h.get? b = some o → h'.get? b = some o) : HandSPX.FlyingZ B l e Z h' := by
  obtain ⟨f1, f2, f3, oe, vs, T, oT, ts, he, hz, hd, h1, h2, h3, h4, h5⟩ := x
  exact ⟨fun b o q => k b o (f1 b o q), f2, f3.of_keeps fun b o q _ => ⟨o, k b o q, rfl⟩, oe, vs, T, oT, ts, k _ _ he, hz, hd, h1, h2, h3, k _ _ h4, h5⟩
/-- at a: an exception of the class cls, its dict at d -/
def exg (a : Addr) (cls : Value) (d : Option Addr) : HO := .ext fun h => ∃ (oe : Obj) (vs : Array Value), h.get? a = some oe ∧ Zc cls d oe ∧ oe.data = .fields vs
theorem exg_ok {P : Program} {w : World} {H : Hp} {h : Heap} {a : Addr} {cls : Value} {d : Option Addr} {oe : Obj} {vs : Array Value} (e : h.get? a = some oe) (z : Zc cls d oe) (hd : oe.data = .fields vs) : ObjOk P w H h a (exg a cls d) :=
  ⟨⟨oe, vs, e, z, hd⟩, ⟨oe, e⟩, fun _ _ g k => by
    obtain ⟨o, v, q, r⟩ := g
    exact ⟨o, v, k o q, r⟩⟩
section
variable {X : Cx} {pins : List (Addr × Obj)} {σ : L2.St} {H : Hp} {s : Shared} {a : Addr} {cls : Value} {d : Option Addr} {oe : Obj} {vs : Array Value}
theorem track (I : Inv X pins σ H s) (ha : s.heap.get? a = some oe) (hz : Zc cls d oe) (hd : oe.data = .fields vs) (na : H a = none) (n0 : X.s_0.heap.get? a = none) (nL : a ≠ X.env.locals) (nP : ∀ p ∈ X.pn ++ pins, p.1 ≠ a) : Inv X pins σ (upd H a (exg a cls d)) s := by
  have oth : ∀ {b : Addr} {o : HO}, H b = some o → upd H a (exg a cls d) b = some o := fun {b o} e => by
    rw [upd_ne (fun z => by rw [z, na] at e; cases e)]
    exact e
  have non : ∀ {b : Addr}, b ≠ a → H b = none → upd H a (exg a cls d) b = none := fun {b} n e => by
    rw [upd_ne n]
    exact e
  refine ⟨I.ok, I.os, I.bare, ⟨I.base.keep, I.base.slot, fun b o e n hx => non (fun z => by rw [z, n0] at e; cases e) (I.base.free b o e n hx), I.base.there, fun b xs e => oth (I.base.tups b xs e), fun b o u e => oth (I.base.frzs b o u e), fun b ps e => ?_⟩, I.loc, I.cell, non (Ne.symm nL) I.free, fun x c e => non (fun z => ?_) (I.freeC x c e), fun p hp => ?_, fun b o e => ?_, I.len⟩
  · obtain ⟨m, q⟩ := I.base.tbls b ps e
    exact ⟨m, oth q⟩
  · obtain ⟨v, ob, ho, hv⟩ := I.cell x c e
    rw [z, ha] at ho
    cases ho
    rw [hd] at hv
    cases hv
  · obtain ⟨e1, e2, e3⟩ := I.pin p hp
    exact ⟨e1, non (nP p hp) e2, e3⟩
  · by_cases z : b = a
    · rw [z, upd_same] at e
      cases e
      rw [z]
      exact exg_ok ha hz hd
    · rw [upd_ne z] at e
      exact (I.hok b o e).stay (fun _ _ _ q => q) (fun c q => oth q) fun c xs q => oth q
end
/-- what 'except (..) as n: m = n' wishes of an exception of the body -/
def wKeep (K : PySem.W.Frag) (cs : List Value) (i j : Nat) (Wout : WX) (D : Ends) : WX := fun cls d σ H => ∃ b, PySem.W.exmAny K cls cs = some b ∧
  (b = true → ∀ a, H a = none → D.nx (((σ.set i (some (.ref a))).set j (some (.ref a))).set i none) (upd H a (exg a cls d))) ∧ (b = false → Wout cls d σ H)
section
variable {X : Cx} {e : Expr} {es : List Expr} {ta : TA} {p pos : Pos} {x : Str} {C fI : Addr} {k : Nat} {fd : FuncData} {ps : List Str} {sp : Sp} {B newId initId : String} {bmB : List Value}
@[irreducible] def tMkX (C : Addr) (sp : Sp) (ta : TA) : L2.St → Hp → XK → Prop := fun σ H Q => ta σ H fun vs H1 => vs.length ≤ 1000 ∧ ∀ a, H1 a = none → sp (.ref a :: vs) (upd H1 a (exo a C none))
  (fun v H2 => v = .non ∧ ∃ (d : Addr) (fs : List (Str × V)), H2 a = some (exo a C (some d)) ∧ H2 d = some (exd d fs) ∧ H1 d = none ∧ Q (.ref C) (some d) (upd (del H2 a) d (.xd fs))) E0
theorem pmkG {CX : CXT} (T : XC X.K C B newId initId bmB) (tyC : PySem.W.typeIn X.K (.ref C) = some (.type "type")) (iC : PySem.W.findIn X.K (.ref C) "__init__" = some (some (.ref fI))) (tI : PySem.W.typeIn X.K (.ref fI) = some (.type "function")) (F1 : FnOk X.prog X.w X.K X.mg X.base CX0 k fI fd ps sp) (hr : Room (k + 1) X.A) (hb : Binds X.K fd ps [])
    (hg : Gl X x) (hm : X.mg x = some (.ref C)) (ha : PA X (e :: es) ta) (hdb : (x == ("__debug__" : Str)) = false := by decide) (he : starEach (e :: es) X.env = (false, eval e X.env) :: starEach es X.env := by rfl) (hpl : (backTo pos (starEach es X.env)).any (·.1) = false := by rfl) :
    PMk X (.Call (.Name x p) (e :: es) [] pos) (tMkX C sp ta) := by
  intro pins s σ H Q I h
  unfold tMkX at h
  refine wpAny_Call_Name_kw (ld_glob I hg hm ?_ hdb)
  refine PySem.W.callWith_K (h₀ := X.base) I.ok.mod.kin T.kp (thn (ha.run pos pins s σ H _ I h) fun us s1 g => ?_) he hpl
  obtain ⟨vs, H1, I1, r1, hz, q1⟩ := g
  refine ⟨I1.kIn, ?_⟩
  show wpAny _ _ (call (.ref C) us) _ _ _
  obtain ⟨nm, N, qn, bs, bm, hdct, sn, sub, ab, col, dd, k0, k1, k2, k3, k5, hC, hT⟩ := PySem.W.excInit_of I1.kIn T.ini
  obtain ⟨hp, g, dr, tk, os⟩ := s1
  have sz : hp.objs.size ≤ hp.objs.size + 1 := Nat.le_succ _
  have fr : H1 (hp.objs.size + 1) = none := I1.hok.fresh sz
  have q2 := q1 (hp.objs.size + 1) fr
  have up : ∀ b o, hp.get? b = some o → ((hp.push (PySem.W.kdv_tup us)).push (HandSPX.excO C hp.objs.size)).get? b = some o := fun b o z => Heap.get?_push_of_some _ (Heap.get?_push_of_some _ z)
  have new : ((hp.push (PySem.W.kdv_tup us)).push (HandSPX.excO C hp.objs.size)).get? (hp.objs.size + 1) = some (HandSPX.excO C hp.objs.size) := by heap_get
  have I2 : Inv X pins σ (upd H1 (hp.objs.size + 1) (exo (hp.objs.size + 1) C none)) ⟨(hp.push (PySem.W.kdv_tup us)).push (HandSPX.excO C hp.objs.size), g, dr, tk, os⟩ :=
    I1.laid (t' := tk) (a := hp.objs.size + 1) (o := exo (hp.objs.size + 1) C none) (h' := (hp.push (PySem.W.kdv_tup us)).push (HandSPX.excO C hp.objs.size)) up sz (exo_ok new)
  have r2 : Vals (V.ref (hp.objs.size + 1) :: vs) (Value.ref (hp.objs.size + 1) :: us) := .cons rfl r1
  have hl : (Value.ref (hp.objs.size + 1) :: us).length = ps.length := by rw [← r2.length, F1.len _ _ _ _ q2]
  have hus : us.length ≤ sizeLine := by
    rw [← r1.length, sizeLine_eq]
    omega
  have hbb := hb ⟨(hp.push (PySem.W.kdv_tup us)).push (HandSPX.excO C hp.objs.size), g, dr, tk, os⟩ (Value.ref (hp.objs.size + 1) :: us) I2.kIn (by rw [List.append_nil]; exact hl)
  rw [List.append_nil] at hbb
  refine wpAny_call (HandSPX.call_own T.fb hT hC (PySem.W.looks_findIn I1.kIn iC) (fun self => PySem.W.bind_fn I1.kIn self tI) hus
    (codeAny_mono (F1.run _ X.stack _ _ _ _ _ _ E0 (hr.make C us []) (I2.env0.make C us []) hbb r2 q2) fun r s' w => ?_))
  rcases r with er | (_ | _ | _ | u)
  case ok.ret =>
    obtain ⟨v, H2, os2, bare2, un2, hok2, rv, ev, d, fs, ea, ed, hd1, q3⟩ := w
    subst ev
    obtain ⟨h2, g2, d2, t2, os'⟩ := s'
    exact ⟨rv, mk_end (raises_own T.sub tyC) I1 sz up un2 hok2 os2 bare2 ea ed hd1 q3⟩
  all_goals exact False.elim w
/-- what is read of a caught one -/
def XAg (H : Hp) (a C : Addr) (fs : List (Str × V)) : Prop := ∃ d, H a = some (exg a (.ref C) (some d)) ∧ H d = some (.xd fs)
end
end Gx
namespace Dw
open PySem PySem.Spec PyProof.Rows L2 OgR Evl Gx
section
variable {X : Cx} {C : Ct} {a b e : Expr} {es : List Expr} {pos p p2 : Pos} {t ta tb te : TE} {w wa wb we : WE} {tA : TA} {wA : WA} {lo hi : Option Expr} {tl th : TO} {wl wh : WO}
def cutSq (d : PyData) (lo hi : Option Int) : PyData := match d with
  | .tuple ds => .tuple (cutD ds lo hi)
  | .list ds => .list (cutD ds lo hi)
  | d => d
def wSlB (wa : WE) (wl wh : WO) : WE := fun s Q => wa s fun d s1 => wl s1 fun l s2 => wh s2 fun h s3 => seqd d = true ∧ Q (cutSq d l h) s3
def wStar (w : WE) (wr : WA) : WA := fun s Q => w s fun d s1 => seqd d = true ∧ wr s1 fun ds s2 => Q (its d ++ ds) s2
end
inductive Oc where
  | ok (d : PyData)
  | ex (nm fld : Str) (d : PyData)
abbrev FX := List PyData → (Oc → Prop) → Prop
/-- what is to be had of an exception: its class by name, its one field -/
def Exk (K : PySem.W.Frag) (mg : Str → Option Value) (G H : Hp) (R : Oc → Prop) (E : XK) : Prop := ∀ (nm fld : Str) (d : PyData) (C dx : Addr) (u : V) (G' H' : Hp), R (.ex nm fld d) → mg nm = some (.ref C) → Ex G G' → Ex H H' → Ex G' H' → Nw G G' H → H dx = none → H' dx = some (.xd [(fld, u)]) → Dp K G' u d → E (.ref C) (some dx) H'
def spX (K : PySem.W.Frag) (mg : Str → Option Value) (F : FX) : Sp := fun vs H Q E => ∃ G ds R, Ex G H ∧ DpAll K G vs ds ∧ F ds R ∧ (∀ v d G' H', R (.ok d) → Ex G G' → Ex H H' → Ex G' H' → Nw G G' H → Dp K G' v d → Q v H') ∧ Exk K mg G H R E
section
variable {P : Program} {wd : World} {K : PySem.W.Frag} {mg : Str → Option Value} {base : Heap}
def FnGX (P : Program) (w : World) (K : PySem.W.Frag) (mg : Str → Option Value) (base : Heap) (k : Nat) (f : Addr) (fd : FuncData) (ps : List Str) (sp : Sp) : Prop :=
  (∀ vs H Q E, sp vs H Q E → vs.length = ps.length) ∧
  ∀ (A : Around) (outer : List Env) (s : Shared) (H : Hp) (args : Args) (us : List Value) (vs : List V) (Q : VK) (E : XK), A.guards = some [] → Room k A → Env0 P w K mg base A outer s H → BindsTo s fd args (ps.zip us) → Vals vs us →
    sp vs H Q E → codeAny (model P w) A (.call (.ref f) args) (CR (L2.CX P w) outer P w H s Q E) s
theorem fnGX_of {x qual : Str} {st : Stmt} {f : Addr} {fd : FuncData} {N ps : List Str} {k : Nat} {sp : Sp} (F : Fun K x qual st f fd) (S : FnScope N ps (defScope st)) (hl : ∀ vs H Q E, sp vs H Q E → vs.length = ps.length)
    (body : ∀ (cdv : Value) (A : Around) (outer : List Env) (s : Shared) (H : Hp) (vs : List V) (Q : VK) (E : XK), A.guards = some [] → Room k (A.deeper (envOfC qual (defScope st) s.heap.objs.size f cdv)) → sp vs H Q E →
      ∃ t, PSs (cxOf (L2.CX P wd) P wd K mg base N qual (defScope st) f cdv A outer s H E) (defBody st) t ∧ t { nx := fun _ H' => Q .non H', rt := Q } (start N vs) H) : FnGX P wd K mg base (k + 1) f fd ps sp := by
  obtain ⟨oc, od, kV, doc, pm, an, cdv, ct, osl, rfl, lk, hcd⟩ := F.ex
  refine ⟨hl, fun A outer s H args us vs Q E hG hr e0 hb r hsp => ?_⟩
  have here : ∀ b o, base.get? b = some o → s.heap.get? b = some o := fun b o e => (e0.bs b o e).1
  have KX : K.In s.heap := e0.mod.kin.keeps here
  refine codeAny_call_function hr.depth (KX _ _ lk) rfl S.co S.gen rfl (PySem.W.codeRec_of KX hcd) (hb _ _ _ _ (wpAny_newFunctionEnv_cells S.kind ?_ fun env he s1 y => ?_))
  · rintro ⟨n, v⟩ hy
    exact (S.par n (List.of_mem_zip hy).1).imp id fun q => ⟨q, PySem.W.cellsFrom_some _ _ _ (.inl q)⟩
  · subst he
    obtain ⟨t, ht, hq⟩ := body cdv A outer s H vs Q E hG (hr.deeper _) hsp
    have I := inv_start (CX := L2.CX P wd) (E := E) S hr.hd e0 (hl _ _ _ _ hsp) r y
    refine ⟨(e0.mod.nolimit.keeps here).keeps y.toInCall.keep, codeAny_func (wpAny_mono (ht.run [] s1 (start N vs) H _ I hq) ?_ fun e s' hs => hs)⟩
    rintro (_ | _ | _ | u) s' hs
    all_goals first
      | (obtain ⟨v, σ', H', J, rv, q⟩ := hs; exact ⟨v, H', J.os, J.bare, J.base, J.hok, rv, q⟩)
      | (obtain ⟨σ', H', J, q⟩ := hs; exact ⟨V.non, H', J.os, J.bare, J.base, J.hok, rfl, q⟩)
      | (obtain ⟨_, _, _, q⟩ := hs; exact q.elim)
structure DefX (P : Program) (wd : World) (K : PySem.W.Frag) (mg : Str → Option Value) (base : Heap) (k : Nat) (x : Str) (st : Stmt) (ps : List Str) (sp : Sp) : Prop where
  ex : ∃ f fd, FnGX P wd K mg base k f fd ps sp ∧ Fun K x x st f fd ∧ Binds K fd ps [] ∧ mg x = some (.ref f)
theorem DefX.make {k : Nat} {x : Str} {st : Stmt} {N ps : List Str} {F : FX} (c : Fct K mg x st ps) (S : FnScope N ps (defScope st)) (hl : ∀ ds R, F ds R → ds.length = ps.length)
    (body : ∀ (f : Addr) (cdv : Value) (A : Around) (outer : List Env) (s : Shared) (H G : Hp) (E : XK) (ds : List PyData) (R : Oc → Prop), A.guards = some [] → Room k (A.deeper (envOfC x (defScope st) s.heap.objs.size f cdv)) → F ds R → Exk K mg G H R E →
      ∃ t w, DSs (cxOf (L2.CX P wd) P wd K mg base N x (defScope st) f cdv A outer s H E) ⟨K, b0, H, G⟩ (defBody st) t w ∧ w { nx := fun _ => R (.ok .none), rt := fun d _ => R (.ok d) } ⟨env0 N (ds.map .d), 0, []⟩) : DefX P wd K mg base (k + 1) x st ps (spX K mg F) := by
  obtain ⟨f, fd, Fn, b, m⟩ := c.ex
  refine ⟨f, fd, fnGX_of Fn S (fun vs H Q E h => ?_) (fun cdv A outer s H vs Q E hG hr h => ?_), Fn, b, m⟩
  · obtain ⟨G, ds, R, _, p, hF, _⟩ := h
    rw [dpa_len p]
    exact hl ds R hF
  · obtain ⟨G, ds, R, gh, p, hF, kk, kx⟩ := h
    obtain ⟨t, w, D, hw⟩ := body f cdv A outer s H G E ds R hG hr hF kx
    have rel : Rel ⟨K, b0, H, G⟩ G (L2.start N vs) H ⟨env0 N (ds.map .d), 0, []⟩ := by
      refine ⟨⟨gh, Ex.refl G, Nw.refl G H, Gr.refl _ H, Bx.ok0, .nil, fun l hl => nomatch hl⟩, env0_len (by rw [List.length_map, dpa_len p]), fun i x e => ?_, fun i j x y q _ e1 _ m1 => ?_⟩
      · have e' := env0_get e
        rw [List.getElem?_map] at e'
        cases q : ds[i]? with
        | none => rw [q] at e'; cases e'
        | some d =>
          rw [q] at e'
          cases e'
          obtain ⟨v, hv, pv⟩ := dpa_back p q
          exact ⟨v, start_get hv, pv⟩
      · have e' := env0_get e1
        rw [List.getElem?_map] at e'
        cases q : ds[i]? with
        | none => rw [q] at e'; cases e'
        | some d => rw [q] at e'; cases e'; cases m1
    refine ⟨t, D.ps, D.is G (L2.start N vs) H _ _ _ rel hw ⟨fun σ' H' s' G' hn r' e => ?_, fun _ _ _ _ h => h.elim, fun _ _ _ _ h => h.elim, fun v d c' G' H' hR f' e pv => ?_⟩⟩
    · exact kk .non .none G' H' hn e (fun b o hb => r'.fin.hh b o (fun z => nomatch z) hb) r'.fin.gh r'.fin.nw .non
    · exact kk v d G' H' hR e (fun b o hb => f'.hh b o (fun z => nomatch z) hb) f'.gh f'.nw pv
end
def spIni (C : Addr) (f : Str) (P : V → Hp → Prop) : Sp := fun vs H Q _ => ∃ (a : Addr) (y : V), vs = [.ref a, y] ∧ H a = some (exo a C none) ∧ P y H ∧ ∀ dx, H dx = none → dx ≠ a → Q .non (upd (upd H dx (exd dx [(f, y)])) a (exo a C (some dx)))
def IsTp (K : PySem.W.Frag) : V → Hp → Prop := fun y H => ∃ p xs, y = .ref p ∧ SqT K H p xs
/-- which data a field takes -/
def okF (tup : Bool) (d : PyData) : Bool := !tup || isT d
structure MkD (P : Program) (wd : World) (K : PySem.W.Frag) (mg : Str → Option Value) (base : Heap) (x f : Str) (tup : Bool) (C : Addr) : Prop where
  here : mg x = some (.ref C)
  ex : ∃ B n i bm fI fd, XC K C B n i bm ∧ PySem.W.typeIn K (.ref C) = some (.type "type") ∧ PySem.W.findIn K (.ref C) "__init__" = some (some (.ref fI)) ∧ PySem.W.typeIn K (.ref fI) = some (.type "function") ∧ FnOk P wd K mg base CX0 2 fI fd ["self", f] (spIni C f fun y H => tup = true → IsTp K y H) ∧ Binds K fd ["self", f] []
section
variable {X : Cx} {C : Ct} {e : Expr} {p pos pos' : Pos} {te : TE} {we : WE} {x fld : Str} {tup : Bool} {Cc : Addr} {R : Oc → Prop} {E : XK}
/-- raise C(e) -/
def wRaise (R : Oc → Prop) (x fld : Str) (tup : Bool) (we : WE) : WS := fun _ s => we s fun d _ => okF tup d = true ∧ R (.ex x fld d)
theorem ds_raise (M : MkD X.prog X.w X.K X.mg X.base x fld tup Cc) (hK : X.K = C.K) (hx : Exk C.K X.mg C.G0 C.H0 R E) (hc : X.calm = true) (tk : Takes X (fun cls d _ H => E cls d H)) (hb : C.bx = b0) (hr : Room 3 X.A) (hg : Gl X x) (he : DE X C e te we)
    (hdb : (x == ("__debug__" : Str)) = false := by decide) (hs : starEach [e] X.env = (false, eval e X.env) :: starEach [] X.env := by rfl) :
    DS X C (.Raise (some (.Call (.Name x p) [e] [] pos)) none pos') (fun _ σ H => tMkX Cc (spIni Cc fld fun y H => tup = true → IsTp X.K y H) (tCons te tNil) σ H fun cls d H' => E cls d H') (wRaise R x fld tup we) := by
  obtain ⟨B, n, i, bm, fI, fd, T, tyC, iC, tI, F1, bnd⟩ := M.ex
  refine ⟨ps_raise hc tk (pmkG (CX := CX0) T tyC iC tI F1 hr bnd hg M.here (pa_cons he.pe pa_nil hs) hdb hs), fun G σ H s D DD r q o => ?_⟩
  show tMkX _ _ _ _ _ _
  unfold tMkX
  refine he.ie G σ H s _ _ r q fun v d s1 G1 H1 q1 r1 eg g pd => ⟨(by show 1 ≤ 1000; decide), fun a ha => ?_⟩
  obtain ⟨ht, q1⟩ := q1
  refine ⟨a, v, rfl, upd_same, fun tp => ?_, fun dx hdx hne => ⟨rfl, dx, [(fld, v)], upd_same, by rw [upd_ne hne, upd_same], ?_, ?_⟩⟩
  · subst tp
    cases d with
    | tuple ds =>
      cases pd with
      | tup h1 h2 => exact ⟨_, _, rfl, by rw [hK]; exact Evl.ex_t (r1.fin.gh.trans (Ex.new ha)) h1⟩
    | _ => cases ht
  · rw [upd_ne hne] at hdx
    exact hdx
  · rw [upd_ne hne] at hdx
    have e1 : Ex H1 (upd (del (upd (upd (upd H1 a (exo a Cc none)) dx (exd dx [(fld, v)])) a (exo a Cc (some dx))) a) dx (.xd [(fld, v)])) := fun b o hb' => by
      have n1 : b ≠ dx := fun z => by rw [z, hdx] at hb'; cases hb'
      have n2 : b ≠ a := fun z => by rw [z, ha] at hb'; cases hb'
      rw [upd_ne n1, del_ne n2, upd_ne n2, upd_ne n1, upd_ne n2]
      exact hb'
    have e0 : Ex C.H0 H1 := fun b o hb' => r1.fin.hh b o (by rw [hb]; exact fun z => nomatch z) hb'
    exact hx x fld d Cc dx v G1 _ q1 M.here r1.fin.g0 (e0.trans e1) (r1.fin.gh.trans e1) r1.fin.nw (r1.fin.h0 hdx) upd_same pd
end
abbrev WY := Dt → (PyData → Dt → Prop) → (Str → Str → PyData → Dt → Prop) → Prop
structure DEX (X : Cx) (C : Ct) (e : Expr) (t : L2.WX → TE) (w : WY) : Prop where
  pe : ∀ (W : L2.WX) (pn : List (Addr × Obj)) (xe : Value → Shared → Prop), Takes (X.tr pn xe) W → PE (X.tr pn xe) e (t W)
  ie : ∀ (W : L2.WX) G σ H s Q QX Q', Rel C G σ H s → w s Q QX →
    (∀ v d s' G' H', Q d s' → Rel C G' σ H' s' → Ex G G' → Gs C σ G H s G' H' s' → Dp C.K G' v d → Q' v H') →
    (∀ (nm fld : Str) d s' G' H' (Cc dx : Addr) u, QX nm fld d s' → X.mg nm = some (.ref Cc) → Rel C G' σ H' s' → Ex G G' → Gs C σ G H s G' H' s' → C.H0 dx = none → H' dx = some (.xd [(fld, u)]) → Dp C.K G' u d → W (.ref Cc) (some dx) σ H') → t W σ H Q'
section
variable {X : Cx} {C : Ct} {a b c e : Expr} {pos p : Pos} {ta tb : L2.WX → TE} {wa wb : WY} {tc : TT} {wc : WT} {x : Str} {st : Stmt} {ps : List Str} {k : Nat}
theorem dex_if (hc : ∀ pn xe, DT (X.tr pn xe) C c tc wc) (h1 : DEX X C a ta wa) (h2 : DEX X C b tb wb) : DEX X C (.IfExp c a b pos) (fun W => tIf tc (ta W) (tb W)) (fun s Q QX => wc s fun b s1 => if b = true then wa s1 Q QX else wb s1 Q QX) :=
  ⟨fun W pn xe tk => pe_ifExp (hc pn xe).pt (h1.pe W pn xe tk) (h2.pe W pn xe tk), fun W G σ H s Q QX Q' r q k kx => (hc [] fun _ _ => False).it G σ H s _ _ r q fun bb s1 G1 H1 q1 r1 eg g => by
    cases bb with
    | true =>
      rw [if_pos rfl] at q1
      exact iteT (h1.ie W G1 σ H1 s1 Q QX Q' r1 q1 (fun v d s' G' H' a1 a2 a3 a4 a5 => k v d s' G' H' a1 a2 (eg.trans a3) (g.trans a4) a5) fun nm fld d s' G' H' Cc dx u b1 b2 b3 b4 b5 b6 b7 b8 => kx nm fld d s' G' H' Cc dx u b1 b2 b3 (eg.trans b4) (g.trans b5) b6 b7 b8)
    | false =>
      rw [if_neg (by decide)] at q1
      exact iteF (h2.ie W G1 σ H1 s1 Q QX Q' r1 q1 (fun v d s' G' H' a1 a2 a3 a4 a5 => k v d s' G' H' a1 a2 (eg.trans a3) (g.trans a4) a5) fun nm fld d s' G' H' Cc dx u b1 b2 b3 b4 b5 b6 b7 b8 => kx nm fld d s' G' H' Cc dx u b1 b2 b3 (eg.trans b4) (g.trans b5) b6 b7 b8)⟩
def tNmX (sp : Sp) (n : Nat) (π : List Nat) (tk : TA) (W : L2.WX) : TE := fun σ H Q => tk σ H fun zs H1 => zs.length = n ∧ sp (perm π zs) H1 Q (L2.WE W σ)
theorem pe_nmX {n : Nat} {f : Addr} {fd : FuncData} {ks : List Str} {sp : Sp} {kws : List Keyword} {tk : TA} {π : List Nat} {W : L2.WX} (F : FnGX X.prog X.w X.K X.mg X.base k f fd ps sp) (hG : X.A.guards = some []) (tks : Takes X W) (hr : Room k X.A) (hg : Gl X x) (hm : X.mg x = some (.ref f)) (hk : PySem.W.keepIn X.K (.ref f) = true) (hb : ByP fd ps ks π) (hn : ks.length = n) (hkw : PK X kws tk)
    (hall : (backToKw pos (keywordEach kws X.env)).all (·.1.isSome) = true := by rfl) (hks : (backToKw pos (keywordEach kws X.env)).filterMap (·.1) = ks := by rfl) (hdb : (x == ("__debug__" : Str)) = false := by decide)
    (hpl : ((backTo pos (starEach [] X.env)).any (·.1) || (backToKw pos (keywordEach kws X.env)).any (·.1.isNone)) = false := by rfl) :
    PE X (.Call (.Name x p) [] kws pos) (tNmX sp n π tk W) := by
  refine ⟨fun pins s σ H Q I h => wpAny_Call_Name_kw (ld_glob I hg hm ?_ hdb)⟩
  refine PySem.W.callWith_KW0 (h₀ := X.base) I.ok.mod.kin hk hall (thn (hkw.run pos pins s σ H _ I h) fun ws s1 ⟨zs, H1, I1, rz, hl, q⟩ => ⟨I1.kIn, ?_⟩) hpl
  rw [hks]
  have hwl : ws.length = ks.length := by rw [← rz.length, hl, hn]
  refine wpAny_call (codeAny_mono (F.2 X.A X.stack s1 H1 ⟨[], ks.zip ws⟩ (perm π ws) (perm π zs) Q (L2.WE W σ) hG hr I1.env0 (hb s1 ws hwl) (vals_perm rz) q) fun r s' hq => ?_)
  cases r with
  | error e => exact passAt tks σ pins H1 s1 e s' I1 hq
  | ok fl =>
    cases fl with
    | ret u => exact I1.after hq
    | next => exact False.elim hq
    | brk => exact False.elim hq
    | cont => exact False.elim hq
def wNmX (F : FX) (n : Nat) (π : List Nat) (wA : WA) : WY := fun s Q QX => wA s fun ds s1 => ds.length = n ∧ F (perm π ds) fun o => match o with
  | .ok d => Q d s1
  | .ex nm fld d => QX nm fld d s1
theorem dex_nm {F : FX} {ks : List Str} {kws : List Keyword} {tk : TA} {wk : WA} (π : List Nat) (D : DefX X.prog X.w X.K X.mg X.base k x st ps (spX C.K X.mg F)) (hG : X.A.guards = some []) (hr : Room k X.A) (hg : Gl X x)
    (hby : ∀ (kV doc pm : Value) (an : Option Addr) (cdv ct : Value) (ws : List Value), ws.length = ks.length → bindArgs (PySem.W.fnOf x x (defArgs st) (defBody st) (defScope st) .none kV doc pm an cdv ct) ⟨[], ks.zip ws⟩ = Pure.pure (ps.zip (perm π ws))) (hkw : ∀ pn xe, DKw (X.tr pn xe) C kws tk wk)
    (hall : (backToKw pos (keywordEach kws X.env)).all (·.1.isSome) = true := by rfl) (hks : (backToKw pos (keywordEach kws X.env)).filterMap (·.1) = ks := by rfl) (hdb : (x == ("__debug__" : Str)) = false := by decide)
    (hpl : ((backTo pos (starEach [] X.env)).any (·.1) || (backToKw pos (keywordEach kws X.env)).any (·.1.isNone)) = false := by rfl) :
    DEX X C (.Call (.Name x p) [] kws pos) (tNmX (spX C.K X.mg F) ks.length π tk) (wNmX F ks.length π wk) := by
  obtain ⟨f, fd, G, Fn, b, m⟩ := D.ex
  refine ⟨fun W pn xe tks => ?_, fun W G σ H s Q QX Q' r q k kx => ?_⟩
  · obtain ⟨oc, od, kV, doc, pm, an, cdv, ct, osl, rfl, lk, hcd⟩ := Fn.ex
    exact pe_nmX (X := X.tr pn xe) G hG tks hr hg m Fn.kp (fun s ws hl => .of_eq (hby kV doc pm an cdv ct ws hl)) rfl (hkw pn xe).pk hall hks hdb hpl
  · refine (hkw [] fun _ _ => False).ia G σ H s _ _ r q fun vs ds s1 G1 H1 q1 r1 eg eh p => ⟨by rw [dpa_len p]; exact q1.1, G1, perm π ds, _, r1.fin.gh, dpa_perm p, q1.2, fun v d G2 H2 q2 eg2 eh2 gh nw pd => ?_, fun nm fld d Cc dx u G2 H2 q2 hm eg2 eh2 gh nw hdx hd2 pd => ?_⟩
    · exact k v d s1 G2 H2 q2 (r1.grow eg2 eh2 gh nw) (eg.trans eg2) (eh.trans (.grow eh2 nw)) pd
    · refine kx nm fld d s1 G2 H2 Cc dx u q2 hm (r1.grow eg2 eh2 gh nw) (eg.trans eg2) (eh.trans (.grow eh2 nw)) (r1.fin.h0 hdx) hd2 pd
end
/-- a caught exception in a slot -/
def xcV (K : PySem.W.Frag) (mg : Str → Option Value) (bx : Bx) (nm fld : Str) (d : PyData) : Hp → Hp → V → Prop := fun G H v => ∃ (a Cc dx : Addr) (u : V), v = .ref a ∧ mg nm = some (.ref Cc) ∧ ¬ bx.has a ∧ ¬ bx.has dx ∧ H a = some (exg a (.ref Cc) (some dx)) ∧ H dx = some (.xd [(fld, u)]) ∧ Dp K G u d
theorem xcV_oth {C : Ct} {mg : Str → Option Value} {nm fld : Str} {d : PyData} {G H : Hp} {v : V} (h : xcV C.K mg C.bx nm fld d G H v) : Oth C (xcV C.K mg C.bx nm fld d) G H v := ⟨h, fun G' H' eg eh => by
  obtain ⟨a, Cc, dx, u, h1, h2, h3, h4, h5, h6, h7⟩ := h
  exact ⟨a, Cc, dx, u, h1, h2, h3, h4, eh a _ h3 h5 rfl, eh dx _ h4 h6 rfl, dp_ex eg h7⟩⟩
theorem Rel.hole {C : Ct} {G H : Hp} {σ : L2.St} {s : Dt} (r : Rel C G σ H s) (i : Nat) (y : Option V) : Rel C G (σ.set i y) H ⟨s.env.set i none, s.c⟩ := by
  have go : ∀ (j : Nat) x, (s.env.set i none)[j]? = some (some x) → j ≠ i ∧ s.env[j]? = some (some x) := fun j x e => by
    by_cases z : j = i
    · subst z
      by_cases hl : j < s.env.length
      · rw [List.getElem?_set_self hl] at e
        cases e
      · rw [List.getElem?_eq_none (by rw [List.length_set]; omega)] at e
        cases e
    · rw [List.getElem?_set_ne (Ne.symm z)] at e
      exact ⟨z, e⟩
  refine ⟨r.fin, by show (s.env.set i none).length = _; rw [List.length_set, List.length_set]; exact r.len, fun j x e => ?_, fun j k x z q hne e1 e2 m1 m2 => ?_⟩
  · obtain ⟨z, e⟩ := go j x e
    obtain ⟨v, hv, rv⟩ := r.sl j x e
    exact ⟨v, by rw [List.getElem?_set_ne (Ne.symm z)]; exact hv, rv⟩
  · obtain ⟨z1, e1⟩ := go j x e1
    obtain ⟨z2, e2⟩ := go k z e2
    rw [List.getElem?_set_ne (Ne.symm z1), List.getElem?_set_ne (Ne.symm z2)]
    exact r.dis j k x z q hne e1 e2 m1 m2
end Dw
namespace Gx
open PySem PySem.Spec PyProof.Rows L2
section
variable {X : Cx} {pins : List (Addr × Obj)} {σ : L2.St} {H : Hp} {s : Shared} {a C : Addr} {fs : List (Str × V)}
theorem xag_inst (I : Inv X pins σ H s) (h : XAg H a C fs) : ∃ ox od, PySem.W.InstAt s.heap a ox C (some od) ∧ ∀ f, RelO (fs.lookup f) ((PySem.W.lookIn f od).getD none) ∧ (PySem.W.lookIn f od).isSome = true := by
  obtain ⟨d, h1, h2⟩ := h
  obtain ⟨⟨oe, vs, ho, hz, hd⟩, _⟩ := (show ObjOk X.prog X.w H s.heap a (.ext fun h => ∃ (oe : Obj) (vs : Array Value), h.get? a = some oe ∧ Zc (.ref C) (some d) oe ∧ oe.data = .fields vs) from I.hok _ _ h1)
  obtain ⟨mA, hns, rel⟩ := I.hok _ _ h2
  obtain ⟨od, hod, hl⟩ := lookIn_ns hns
  refine ⟨oe, od, ⟨ho, hz.1, by unfold PySem.W.notCls; rw [hd], by rw [hz.2]; exact hod⟩, fun f => ⟨by rw [hl]; exact rel f, by rw [hl]; rfl⟩⟩
end
section
variable {X : Cx} {o e : Expr} {es : List Expr} {to te : TE} {ta : TA} {f n : Str} {p p' pos : Pos}
@[irreducible] def tGetG (K : PySem.W.Frag) (n : Str) (te : TE) : TE := fun σ H Q => te σ H fun x H1 => ∃ a C fs v, x = .ref a ∧ XAg H1 a C fs ∧ XCx K C ∧ PySem.W.findIn K (.ref C) n = some none ∧ fs.lookup n = some v ∧ Q v H1
theorem pe_getG (he : PE X e te) (hb : attributeBase e n X.env (eval e X.env) = eval e X.env := by rfl) : PE X (.Attribute e n pos) (tGetG X.K n te) := by
  refine ⟨fun pins s σ H Q I h => ?_⟩
  unfold tGetG at h
  refine attr_of hb (thn (he.run pins s σ H _ I h) fun u s1 g => ?_)
  obtain ⟨x, H1, I1, rx, a, C, fs, v, ex, ha, ⟨B, nn, ii, bm, T⟩, hno, l, q⟩ := g
  subst ex
  cases (show u = Value.ref a from rx)
  obtain ⟨ox, od, J, hl⟩ := xag_inst I1 ha
  obtain ⟨r1, r2⟩ := hl n
  rw [l] at r1
  obtain ⟨z, hz⟩ := Option.isSome_iff_exists.mp r2
  rw [hz] at r1
  obtain ⟨u2, hu, ru⟩ := RelO.some_of r1
  have hz2 : z = some u2 := hu
  subst hz2
  exact HandSPX.exc_get I1.kIn J T.ga T.gg T.sub (PySem.W.findObj_own T.dct hno rfl hz) (handed_of ru) ⟨v, H1, I1.tok _, ru, q⟩
def rIsG (K : PySem.W.Frag) : List V → Hp → VK → Prop := fun xs H Q => ∃ (a C : Addr) (fs : List (Str × V)) (c : V) (cv : Value) (b : Bool), xs = [.ref a, c] ∧ XAg H a C fs ∧ XCx K C ∧ (∀ u, RelV c u → u = cv) ∧ PySem.W.kitOne K (.ref C) cv = some b ∧ Q (.bl b) H
theorem call_isG : CallR X (.builtin "isinstance") (rIsG X.K) := by
  intro pins s σ H xs us Q I r h
  obtain ⟨a, C, fs, c, cv, b, rfl, ha, ⟨B, n, i, bm, T⟩, hcv, e, q⟩ := h
  cases r with
  | cons rx rr =>
    cases rr with
    | cons rt rr =>
      cases rr
      cases rx
      have ec := hcv _ rt
      subst ec
      obtain ⟨ox, od, J, _⟩ := xag_inst I ha
      exact PySem.W.kia_one (PySem.W.kitx_exc T.cin T.ga T.gg T.sub T.cls T.spc T.tks T.mro) I.kIn J e (fun z => nomatch z) fun tk => ⟨.bl b, H, I.kept (t' := tk) fun _ _ z => z, rfl, q⟩
end
end Gx
namespace Dw
open PySem PySem.Spec PyProof.Rows L2 OgR Evl Gx
section
variable {X : Cx} {C : Ct} {c c' : Expr} {pos p p2 : Pos} {x n : Str} {cV cV' : V} {cv cv' : Value}
/-- what is known of a class by its name -/
def KitN (K : PySem.W.Frag) (mg : Str → Option Value) (nm : Str) (cvs : List Value) (b : Bool) : Prop := ∀ Cc, mg nm = some (.ref Cc) → XCx K Cc ∧ PySem.W.kitAny K (.ref Cc) cvs = some b
def FldN (K : PySem.W.Frag) (mg : Str → Option Value) (nm fld : Str) : Prop := ∀ Cc, mg nm = some (.ref Cc) → XCx K Cc ∧ PySem.W.findIn K (.ref Cc) fld = some none
def wXat (K : PySem.W.Frag) (mg : Str → Option Value) (bx : Bx) (i : Nat) (n : Str) : WE := fun s Q => ∃ nm d, s.env[i]? = some (some (.oth (xcV K mg bx nm n d))) ∧ FldN K mg nm n ∧ Q d s
theorem de_xat (i : Nat) (hK : X.K = C.K) (hv : PE X (.Name x p) (tVar i) := by exact pv _) (hb : attributeBase (.Name x p) n X.env (eval (.Name x p) X.env) = eval (.Name x p) X.env := by rfl) : DE X C (.Attribute (.Name x p) n pos) (tGetG C.K n (tVar i)) (wXat C.K X.mg C.bx i n) := ⟨hK ▸ pe_getG hv hb, fun G σ H s Q Q' r q k => by
  obtain ⟨nm, d, e, hf, q⟩ := q
  obtain ⟨v, hv, ⟨a, Cc, dx, u, rfl, hm, b1, b2, h1, h2, h3⟩, _⟩ := r.sl i _ e
  unfold tGetG
  exact ⟨_, hv, a, Cc, _, u, rfl, ⟨dx, h1, h2⟩, (hf Cc hm).1, (hf Cc hm).2, by simp [List.lookup], k u d s G H q r (Ex.refl G) Gs.refl h3⟩⟩
def wXis (K : PySem.W.Frag) (mg : Str → Option Value) (bx : Bx) (i : Nat) (cvs : List Value) : WE := fun s Q => ∃ nm fld d b, s.env[i]? = some (some (.oth (xcV K mg bx nm fld d))) ∧ KitN K mg nm cvs b ∧ Q (.bool b) s
theorem kit_one {K : PySem.W.Frag} {t c : Value} {b : Bool} (h : PySem.W.kitAny K t [c] = some b) : PySem.W.kitOne K t c = some b := by
  unfold PySem.W.kitAny at h
  split at h
  · rename_i e
    rw [e, h]
  · rename_i e
    rw [e]
    exact h
  · cases h
theorem de_xis (i : Nat) (hK : X.K = C.K) (hg : Gl X "isinstance") (hm : X.mg "isinstance" = none) (hp : PE X c (tC cV)) (hcv : ∀ u, RelV cV u → u = cv) (hv : PE X (.Name x p2) (tVar i) := by exact pv _)
    (hs : starEach [.Name x p2, c] X.env = (false, eval (.Name x p2) X.env) :: starEach [c] X.env := by rfl) (hpl : (backTo pos (starEach [c] X.env)).any (·.1) = false := by rfl) (hs2 : starEach [c] X.env = (false, eval c X.env) :: starEach [] X.env := by rfl) :
    DE X C (.Call (.Name "isinstance" p) [.Name x p2, c] [] pos) (tCB (rIsG C.K) (tCons (tVar i) (tCons (tC cV) tNil))) (wXis C.K X.mg C.bx i [cv]) :=
  ⟨pe_callB (hK ▸ call_isG) hg hm (by decide +kernel) (pa_cons hv (pa_cons hp pa_nil hs2) hs) (by decide) (by decide) hs hpl, fun G σ H s Q Q' r q k => by
    obtain ⟨nm, fld, d, b, e, hk, q⟩ := q
    obtain ⟨v, hv, ⟨a, Cc, dx, u, rfl, hm, b1, b2, h1, h2, h3⟩, _⟩ := r.sl i _ e
    exact ⟨_, hv, a, Cc, _, cV, cv, b, rfl, ⟨dx, h1, h2⟩, (hk Cc hm).1, hcv, kit_one (hk Cc hm).2, k _ _ s G H q r (Ex.refl G) Gs.refl (.bl b)⟩⟩
/-- is None, of a slot with data or a caught exception -/
def wXnon (K : PySem.W.Frag) (mg : Str → Option Value) (bx : Bx) (i : Nat) : WT := fun s Q => (∃ d, s.env[i]? = some (some (.d d)) ∧ Q (isNone d) s) ∨ ∃ nm fld d, s.env[i]? = some (some (.oth (xcV K mg bx nm fld d))) ∧ Q false s
theorem dt_xnon (i : Nat) {j : Nat} (hv : PE X (.Name x p) (tVar i) := by exact pv _) : DT X C (.Compare (.Name x p) [.Is] [.Constant .none j p2] pos) (tTest (tOp (fun x y H Q => y = .non ∧ Q (.bl (decide (x = .non))) H) (tVar i) (tC .non))) (wXnon C.K X.mg C.bx i) :=
  ⟨pt_cmpR op_isN hv pe_non (nomark _), fun G σ H s Q Q' r q k => by
    rcases q with ⟨d, e, q⟩ | ⟨nm, fld, d, e, q⟩
    · obtain ⟨v, hv, rv⟩ := r.sl i _ e
      refine ⟨v, hv, rfl, _, rfl, ?_⟩
      rw [pk_none (C := C) (H := H) (.inl rv)]
      exact k _ s G H q r (Ex.refl G) Gs.refl
    · obtain ⟨v, hv, ⟨a, Cc, dx, u, rfl, hm, b1, b2, h1, h2, h3⟩, _⟩ := r.sl i _ e
      refine ⟨_, hv, rfl, _, rfl, ?_⟩
      exact k _ s G H q r (Ex.refl G) Gs.refl⟩
end
end Dw
namespace Dw
open PySem PySem.Spec PyProof.Rows L2 OgR Evl Gx
section
variable {X : Cx} {C : Ct}
/-- == of texts -/
def gEqS : G2 := fun d e s Q => ∃ x y, d = .str x ∧ e = .str y ∧ Q (.bool (decide (x = y))) s
end
structure Cls (K : PySem.W.Frag) (mg : Str → Option Value) (x f q : Str) (B n i : String) (bm : List Value) (st : Stmt) (C : Addr) : Prop where
  xc : XC K C B n i bm
  here : mg x = some (.ref C)
  fld : PySem.W.findIn K (.ref C) f = some none
  ty : PySem.W.typeIn K (.ref C) = some (.type "type")
  ini : ∃ fI fd, PySem.W.findIn K (.ref C) "__init__" = some (some (.ref fI)) ∧ PySem.W.typeIn K (.ref fI) = some (.type "function") ∧ Fun K "__init__" q st fI fd ∧ Binds K fd ["self", f] []
theorem taker {K : PySem.W.Frag} {C : Addr} {f : Str} (h : PySem.W.findIn K (.ref C) f = some none) : PySem.W.takerIn K C f = some none := by
  unfold PySem.W.takerIn
  rw [h]
  rfl
abbrev bVE : List Value := [.type "ValueError", .type "Exception", .type "BaseException", .type "object"]
abbrev bLE : List Value := [.type "LookupError", .type "Exception", .type "BaseException", .type "object"]
abbrev bOE : List Value := [.type "OverflowError", .type "ArithmeticError", .type "Exception", .type "BaseException", .type "object"]
theorem kitN {K : PySem.W.Frag} {mg : Str → Option Value} {nm : Str} {cvs : List Value} {b : Bool} {C : Addr} (hm : mg nm = some (.ref C)) (x : XCx K C) (h : PySem.W.kitAny K (.ref C) cvs = some b) : KitN K mg nm cvs b := fun C' hm' => by
  rw [hm] at hm'
  cases hm'
  exact ⟨x, h⟩
theorem fldN {K : PySem.W.Frag} {mg : Str → Option Value} {nm fld : Str} {C : Addr} (hm : mg nm = some (.ref C)) (x : XCx K C) (h : PySem.W.findIn K (.ref C) fld = some none) : FldN K mg nm fld := fun C' hm' => by
  rw [hm] at hm'
  cases hm'
  exact ⟨x, h⟩
theorem kit_1 {K : PySem.W.Frag} {t c : Value} {b : Bool} (h : PySem.W.kitOne K t c = some b) : PySem.W.kitAny K t [c] = some b := by
  unfold PySem.W.kitAny
  rw [h]
  cases b <;> rfl
end Dw
namespace Dw
open PySem PySem.Spec PyProof.Rows L2 OgR Evl
theorem fnG_ok {P : Program} {w : World} {K : PySem.W.Frag} {mg : Str → Option Value} {base : Heap} {k : Nat} {f : Addr} {fd : FuncData} {ps : List Str} {sp : Sp} (F : FnOk P w K mg base CX0 k f fd ps sp) : FnG P w K mg base k f fd ps sp :=
  ⟨F.len, fun A outer s H args us vs Q E _ hr => F.run A outer s H args us vs Q E hr⟩
/-- what is new becomes data -/
def nwG (G H H' : Hp) : Hp := fun b => match H b with
  | none => H' b
  | some _ => G b
section
variable {G H H' : Hp}
theorem nwG_at {b : Addr} (h : H b = none) : nwG G H H' b = H' b := by
  unfold nwG
  rw [h]
theorem nwG_old {b : Addr} {o : HO} (h : H b = some o) : nwG G H H' b = G b := by
  unfold nwG
  rw [h]
theorem nwG_up (gh : Ex G H) : Ex G (nwG G H H') := fun b o e => by
  rw [nwG_old (gh b o e)]
  exact e
theorem nwG_in (gh : Ex G H) (eh : Ex H H') : Ex (nwG G H H') H' := fun b o e => by
  cases q : H b with
  | none => rw [nwG_at q] at e; exact e
  | some u => rw [nwG_old q] at e; exact eh b o (gh b o e)
theorem nwG_nw : Nw G (nwG G H H') H := fun b hb => by
  cases q : H b with
  | none => exact .inr (.inl rfl)
  | some u => rw [nwG_old q] at hb; exact .inl hb
end
theorem dpa_one {K : PySem.W.Frag} {G : Hp} {vs : List V} {d : PyData} (h : DpAll K G vs [d]) : ∃ v, vs = [v] ∧ Dp K G v d := by
  cases h with
  | cons a b => cases b; exact ⟨_, rfl, a⟩
theorem dp_sq {K : PySem.W.Frag} {G : Hp} {v : V} {d : PyData} (h : Dp K G v d) (hs : seqd d = true) : ∃ p xs, v = .ref p ∧ SqB K (isT d) G p xs ∧ DpAll K G xs (its d) := by
  cases h with
  | lst h t => exact ⟨_, _, rfl, .inl (.inl h), t⟩
  | tup h t => exact ⟨_, _, rfl, h, t⟩
  | _ => cases hs
/-- a row of ints, given as a tuple or a list -/
def IsR (d : PyData) (ns : List Int) : Prop := d = .tuple (ns.map .int) ∨ d = .list (ns.map .int)
theorem IsR.sq {d : PyData} {ns : List Int} (h : IsR d ns) : seqd d = true ∧ its d = ns.map .int := by
  rcases h with rfl | rfl <;> exact ⟨rfl, rfl⟩
theorem dp_row {K : PySem.W.Frag} {G H : Hp} {v : V} {d : PyData} {ns : List Int} (gh : Ex G H) (h : Dp K G v d) (r : IsR d ns) : ∃ b p, v = .ref p ∧ SqB K b H p (ns.map V.int) := by
  obtain ⟨p, xs, rfl, h1, h2⟩ := dp_sq h r.sq.1
  rw [r.sq.2] at h2
  rw [ints_dpa h2] at h1
  exact ⟨_, p, rfl, h1.ex gh⟩
end Dw
namespace Dw
open PySem PySem.Spec PyProof.Rows L2 OgR Evl
def ForD (ds : List PyData) (g : WG) (wb : WS) (DD : DEnds) (s1 : Dt) : Prop := ∃ Inv : Nat → Dt → Prop, Inv 0 s1 ∧
  (∀ (i : Nat) d s2, ds[i]? = some d → Inv i s2 → g d s2 fun s3 => wb { nx := Inv (i + 1), rt := DD.rt, bk := DD.nx, ct := Inv (i + 1) } s3) ∧ ∀ s2, Inv ds.length s2 → DD.nx s2
theorem wFor_eq {w : WA} {g : WG} {wb : WS} {DD : DEnds} {s : Dt} : wFor w g wb DD s = w s fun ds s1 => ForD ds g wb DD s1 := rfl
theorem forD_by {ds : List PyData} {g : WG} {wb : WS} {DD : DEnds} {s1 : Dt} (Inv : Nat → Dt → Prop) (h0 : Inv 0 s1)
    (hs : ∀ (i : Nat) d s2 (J : Dt → Prop), ds[i]? = some d → Inv i s2 → (∀ s, Inv (i + 1) s → J s) → g d s2 fun s3 => wb { nx := J, rt := DD.rt, bk := DD.nx, ct := J } s3) (hd : ∀ s2, Inv ds.length s2 → DD.nx s2) : ForD ds g wb DD s1 :=
  for_by Inv h0 hs hd
def WhileD (c : WT) (wb : WS) (DD : DEnds) (s : Dt) : Prop := wWhile c wb DD s
theorem wWhile_eq {c : WT} {wb : WS} {DD : DEnds} {s : Dt} : wWhile c wb DD s = WhileD c wb DD s := rfl
def LcD (ds : List PyData) (g : WG) (tt : WT) (te : WE) (vs : List Nat) (s1 : Dt) (Q : List PyData → Dt → Prop) : Prop := ∃ Inv : Nat → List PyData → Cs → Prop, Inv 0 [] s1.c ∧
  (∀ (i : Nat) d acc c, ds[i]? = some d → Inv i acc c → g d ⟨wipeD s1.env vs, c⟩ fun s2 => tt s2 fun b s3 => s3.env = s2.env ∧ if b = true then te s3 fun y s4 => s4.env = s2.env ∧ acc.length < 100000 ∧ Inv (i + 1) (acc ++ [y]) s4.c else Inv (i + 1) acc s3.c) ∧
  ∀ acc c, Inv ds.length acc c → Q acc ⟨s1.env, c⟩
theorem wLc_eq {w : WA} {g : WG} {tt : WT} {te : WE} {vs : List Nat} {s : Dt} {Q : List PyData → Dt → Prop} : wLc w g tt te vs s Q = w s fun ds s1 => LcD ds g tt te vs s1 Q := rfl
theorem look_d (x : PyData) : (DV.d x).look = some x := rfl
theorem look_own (x : List PyData) : (DV.own x).look = some (.list x) := rfl
theorem shpI (i : Int) : Shp (.int i) = True := eq_true rfl
theorem shpB (i : Bool) : Shp (.bool i) = True := eq_true rfl
theorem shpN : Shp .none = True := eq_true rfl
theorem shpS (s : String) : Shp (.str (Str.ofString s)) = True := eq_true (shp_str s)
theorem seqT (ds : List PyData) : seqd (.tuple ds) = true := rfl
theorem seqL (ds : List PyData) : seqd (.list ds) = true := rfl
theorem itsT (ds : List PyData) : its (.tuple ds) = ds := rfl
theorem itsL (ds : List PyData) : its (.list ds) = ds := rfl
theorem lenT (ds : List PyData) : lenD (.tuple ds) = some ds.length := rfl
theorem lenL (ds : List PyData) : lenD (.list ds) = some ds.length := rfl
theorem okFF (d : PyData) : okF false d = true := rfl
theorem at_nat {l : List PyData} {i : Nat} (h : i < l.length) : atI l (i : Int) = l[i]? := by
  unfold atI ixN
  rw [if_pos (by omega), if_pos (by omega)]
  rfl
theorem wGCons_c {w : WG} {u : WGs} {d : PyData} {r : List PyData} {s : Dt} {Q : Dt → Prop} : wGCons w u (d :: r) s Q = w d s fun s' => u r s' Q := by
  refine propext ⟨fun ⟨d', r', e, h⟩ => ?_, fun h => ⟨d, r, rfl, h⟩⟩
  cases e
  exact h
theorem wGNil_n {s : Dt} {Q : Dt → Prop} : wGNil [] s Q = Q s := propext ⟨fun h => h.2, fun h => ⟨rfl, h⟩⟩
end Dw
namespace Dw
open PySem PySem.Spec PyProof.Rows L2 OgR Evl
def AV (K : PySem.W.Frag) (bx : Bx) (G H : Hp) (v : V) : DV → Prop
  | .d x => Dp K G v x
  | .dd kvs => ∃ p ks, v = .ref p ∧ Rd H p (.dT ks) ∧ ¬ bx.has p ∧ Paired (fun a b => a.1 = b.1 ∧ Dp K G a.2 b.2) ks kvs
  | .oth φ => φ G H v ∧ ∀ G' H', Ex G G' → (∀ b o, ¬ bx.has b → H b = some o → soft o = false → H' b = some o) → φ G' H' v
  | _ => False
inductive AVs (K : PySem.W.Frag) (bx : Bx) (G H : Hp) : List V → List DV → Prop
  | nil : AVs K bx G H [] []
  | cons {v x vs xs} (h : AV K bx G H v x) (t : AVs K bx G H vs xs) : AVs K bx G H (v :: vs) (x :: xs)
section
variable {C : Ct} {K : PySem.W.Frag} {bx : Bx} {G H G' H' : Hp} {σ : L2.St}
theorem rd_gr {p : Addr} {o : HO} (h : Rd H p o) (n : ¬ C.bx.has p) (e : Gr C H H') : Rd H' p o := by
  rcases h with h | ⟨od, h⟩
  · exact .inl (e p _ n h)
  · exact .inr ⟨od, e p _ n h⟩
theorem AV.mono {v : V} : ∀ {x : DV}, AV C.K C.bx G H v x → Ex G G' → Gr C H H' → AV C.K C.bx G' H' v x
  | .d x, h, eg, _ => dp_ex eg h
  | .dd kvs, ⟨p, ks, h1, h2, h3, h4⟩, eg, eh => ⟨p, ks, h1, rd_gr h2 h3 eh, h3, paired_mapP h4 fun a b q => ⟨q.1, dp_ex eg q.2⟩⟩
  | .oth φ, h, eg, eh => ⟨h.2 _ _ eg (Kept.of eh), fun G2 H2 e k => h.2 G2 H2 (eg.trans e) ((Kept.of (C := C) eh).trans k)⟩
  | .own _, h, _, _ => h.elim
  | .dic _, h, _, _ => h.elim
  | .dit _, h, _, _ => h.elim
  | .box, h, _, _ => h.elim
  | .ob _, h, _, _ => h.elim
  | .obl _, h, _, _ => h.elim
theorem AVs.mono {vs : List V} {xs : List DV} (h : AVs C.K C.bx G H vs xs) (eg : Ex G G') (eh : Gr C H H') : AVs C.K C.bx G' H' vs xs := by
  induction h with
  | nil => exact .nil
  | cons h _ ih => exact .cons (h.mono eg eh) ih
theorem AVs.len {vs : List V} {xs : List DV} (h : AVs K bx G H vs xs) : vs.length = xs.length := by
  induction h with
  | nil => rfl
  | cons _ _ ih => rw [List.length_cons, List.length_cons, ih]
theorem AVs.at {vs : List V} {xs : List DV} (h : AVs K bx G H vs xs) : ∀ {i : Nat} {x : DV}, xs[i]? = some x → ∃ v, vs[i]? = some v ∧ AV K bx G H v x := by
  induction h with
  | nil => intro i x e; simp at e
  | cons h _ ih =>
    intro i x e
    cases i with
    | zero => cases e; exact ⟨_, rfl, h⟩
    | succ i => rw [List.getElem?_cons_succ] at e ⊢; exact ih e
theorem AV.none {v : V} : ∀ {x : DV}, AV K bx G H v x → AV K b0 G H v x
  | .d x, h => h
  | .dd kvs, ⟨p, ks, h1, h2, h3, h4⟩ => ⟨p, ks, h1, h2, (fun z => nomatch z), h4⟩
  | .oth φ, h => ⟨h.1, fun G' H' e k => h.2 G' H' e fun b o _ hb hs => k b o (fun z => nomatch z) hb hs⟩
  | .own _, h => h.elim
  | .dic _, h => h.elim
  | .dit _, h => h.elim
  | .box, h => h.elim
  | .ob _, h => h.elim
  | .obl _, h => h.elim
theorem AVs.none {vs : List V} {xs : List DV} (h : AVs K bx G H vs xs) : AVs K b0 G H vs xs := by
  induction h with
  | nil => exact .nil
  | cons h _ ih => exact .cons h.none ih
def IY (C : Ct) (t : TA) (w : WXs) : Prop := ∀ G σ H s Q Q', Rel C G σ H s → w s Q →
  (∀ vs xs s' G' H', Q xs s' → Rel C G' σ H' s' → Ex G G' → Gs C σ G H s G' H' s' → AVs C.K C.bx G' H' vs xs → Q' vs H') → t σ H Q'
structure DYs (X : Cx) (C : Ct) (es : List Expr) (t : TA) (w : WXs) : Prop where
  pa : PA X es t
  iy : IY C t w
end
section
variable {X : Cx} {C : Ct} {a b e : Expr} {es : List Expr} {pos p : Pos} {t te : TE} {w we : WE} {tr tA : TA} {wr wA : WXs} {x : Str}
theorem dy_nil : DYs X C [] tNil (fun s Q => Q [] s) := ⟨pa_nil, fun G σ H s Q Q' r q k => k [] [] s G H q r (Ex.refl G) Gs.refl .nil⟩
def wYd (w : WE) (wr : WXs) : WXs := fun s Q => w s fun d s1 => wr s1 fun xs s2 => Q (.d d :: xs) s2
theorem dy_d (h : DE X C e t w) (hr : DYs X C es tr wr) (hs : starEach (e :: es) X.env = (false, eval e X.env) :: starEach es X.env := by rfl) : DYs X C (e :: es) (tCons t tr) (wYd w wr) :=
  ⟨pa_cons h.pe hr.pa hs, fun G σ H s Q Q' r q k => h.ie G σ H s _ _ r q fun v d s1 G1 H1 q1 r1 eg1 g1 p1 => hr.iy G1 σ H1 s1 _ _ r1 q1 fun vs xs s2 G2 H2 q2 r2 eg2 g2 p2 =>
    k (v :: vs) (.d d :: xs) s2 G2 H2 q2 r2 (eg1.trans eg2) (g1.trans g2) (.cons (dp_ex eg2 p1) p2)⟩
/-- a dict that a slot holds -/
def dicAt (s : Dt) (i : Nat) (kvs : List (List Key × PyData)) : Prop := s.env[i]? = some (some (.dit kvs)) ∨ s.env[i]? = some (some (.dd kvs))
theorem dic_av {C : Ct} {G H : Hp} {σ : L2.St} {s : Dt} {i : Nat} {kvs : List (List Key × PyData)} (r : Rel C G σ H s) (h : dicAt s i kvs) : ∃ v, σ[i]? = some (some v) ∧ AV C.K C.bx G H v (.dd kvs) := by
  rcases h with h | h
  · obtain ⟨v, hv, p, ks, rfl, h1, h2, h3, h4⟩ := r.sl i _ h
    exact ⟨_, hv, p, ks, rfl, .inl h1, r.fin.nbx h2, h4⟩
  · obtain ⟨v, hv, p, ks, rfl, h1, h2⟩ := r.sl i _ h
    refine ⟨_, hv, p, ks, rfl, ?_, h1.2, h2⟩
    obtain ⟨(⟨od, h⟩ | ⟨h, _⟩), n⟩ := h1
    · exact .inr ⟨od, h⟩
    · exact .inl h
def wYdic (i : Nat) (wr : WXs) : WXs := fun s Q => ∃ kvs, dicAt s i kvs ∧ wr s fun xs s2 => Q (.dd kvs :: xs) s2
theorem dy_dic (i : Nat) (hr : DYs X C es tr wr) (hv : PE X (.Name x p) (tVar i) := by exact pv _) (hs : starEach (.Name x p :: es) X.env = (false, eval (.Name x p) X.env) :: starEach es X.env := by rfl) : DYs X C (.Name x p :: es) (tCons (tVar i) tr) (wYdic i wr) :=
  ⟨pa_cons hv hr.pa hs, fun G σ H s Q Q' r q k => by
    obtain ⟨kvs, hd, q⟩ := q
    obtain ⟨v, hv, av⟩ := dic_av r hd
    exact ⟨v, hv, hr.iy G σ H s _ _ r q fun vs xs s2 G2 H2 q2 r2 eg2 g2 p2 => k (v :: vs) (.dd kvs :: xs) s2 G2 H2 q2 r2 eg2 g2 (.cons (av.mono eg2 g2.gr) p2)⟩⟩
/-- a function that a slot holds -/
def fnV (P : Program) (wd : World) (K : PySem.W.Frag) (mg : Str → Option Value) (base : Heap) (k : Nat) (g : FP) : Hp → Hp → V → Prop := fun _ _ v => ∃ f fd ps, v = .ref f ∧ FnG P wd K mg base k f fd ps (spP K g) ∧ PySem.W.keepIn K (.ref f) = true ∧ Binds K fd ps []
def wYfn (i : Nat) (φ : Hp → Hp → V → Prop) (wr : WXs) : WXs := fun s Q => s.env[i]? = some (some (.oth φ)) ∧ wr s fun xs s2 => Q (.oth φ :: xs) s2
/-- a def named -/
def wYg (φ : Hp → Hp → V → Prop) (wr : WXs) : WXs := fun s Q => wr s fun xs s2 => Q (.oth φ :: xs) s2
theorem dy_g {k : Nat} {st : Stmt} {ps : List Str} {g : FP} (D : Def X.prog X.w X.K X.mg X.base k x st ps (spP X.K g)) (hg : Gl X x) (hr : DYs X C es tr wr) (hd : (x == ("__debug__" : Str)) = false := by decide) (hs : starEach (.Name x p :: es) X.env = (false, eval (.Name x p) X.env) :: starEach es X.env := by rfl) :
    DYs X C (.Name x p :: es) (tCons (tGl X.mg x) tr) (wYg (fnV X.prog X.w X.K X.mg X.base k g) wr) := by
  obtain ⟨f, fd, G, Fn, b, m⟩ := D.ex
  refine ⟨pa_cons ⟨fun pins s σ H Q I h => (pe_glob (v := .ref f) hg m rfl hd).run pins s σ H Q I (h f m)⟩ hr.pa hs, fun G' σ H s Q Q' r q k a ha => ?_⟩
  rw [m] at ha
  cases ha
  exact hr.iy G' σ H s _ _ r q fun vs xs s2 G2 H2 q2 r2 eg2 g2 p2 => k (.ref f :: vs) (.oth _ :: xs) s2 G2 H2 q2 r2 eg2 g2 (.cons ⟨⟨f, fd, ps, rfl, G, Fn.kp, b⟩, fun _ _ _ _ => ⟨f, fd, ps, rfl, G, Fn.kp, b⟩⟩ p2)
end
abbrev FD := List DV → (PyData → Prop) → Prop
def spD (K : PySem.W.Frag) (F : FD) : Sp := fun vs H Q _ => ∃ G xs R, Ex G H ∧ AVs K b0 G H vs xs ∧ F xs R ∧
  ∀ v d G' H', R d → Ex G G' → Ex H H' → Ex G' H' → Nw G G' H → Dp K G' v d → Q v H'
def wCallD (F : FD) (wA : WXs) : WE := fun s Q => wA s fun xs s1 => F xs fun d => Q d s1
section
variable {P : Program} {wd : World} {K : PySem.W.Frag} {mg : Str → Option Value} {base : Heap}
theorem rel_av {G H : Hp} {N : List Str} {vs : List V} {xs : List DV} (gh : Ex G H) (p : AVs K b0 G H vs xs) : Rel ⟨K, b0, H, G⟩ G (L2.start N vs) H ⟨env0 N xs, 0, []⟩ := by
  refine ⟨⟨gh, Ex.refl G, Nw.refl G H, Gr.refl _ H, Bx.ok0, .nil, fun l hl => nomatch hl⟩, env0_len p.len.symm, fun i x e => ?_, fun i j x y q _ e1 _ m1 => ?_⟩
  · have e' := env0_get e
    obtain ⟨v, hv, av⟩ := p.at e'
    refine ⟨v, start_get hv, ?_⟩
    cases x with
    | d x => exact av
    | dd kvs =>
      obtain ⟨p, ks, rfl, h1, h2, h3⟩ := av
      refine ⟨p, ks, rfl, ⟨?_, h2⟩, h3⟩
      rcases h1 with h1 | ⟨od, h1⟩
      · exact .inr ⟨h1, by show H p ≠ none; rw [h1]; exact Option.some_ne_none _⟩
      · exact .inl ⟨od, h1⟩
    | oth φ => exact ⟨av.1, fun G' H' e k => av.2 G' H' e k⟩
    | own _ => exact av.elim
    | dic _ => exact av.elim
    | dit _ => exact av.elim
    | box => exact av.elim
    | ob _ => exact av.elim
    | obl _ => exact av.elim
  · have e' := env0_get e1
    obtain ⟨v, hv, av⟩ := p.at e'
    cases x with
    | d x => cases m1
    | dd kvs => cases m1
    | oth φ => cases m1
    | own _ => exact av.elim
    | dic _ => exact av.elim
    | dit _ => exact av.elim
    | box => exact av.elim
    | ob _ => exact av.elim
    | obl _ => exact av.elim
theorem Def.byD {k : Nat} {x : Str} {st : Stmt} {N ps : List Str} {F : FD} (c : Fct K mg x st ps) (S : FnScope N ps (defScope st)) (hl : ∀ xs R, F xs R → xs.length = ps.length)
    (body : ∀ (f : Addr) (cdv : Value) (A : Around) (outer : List Env) (s : Shared) (H G : Hp) (E : XK) (xs : List DV) (R : PyData → Prop), A.guards = some [] → Room k (A.deeper (envOfC x (defScope st) s.heap.objs.size f cdv)) → F xs R →
      ∃ t w, DSs (cxOf CX0 P wd K mg base N x (defScope st) f cdv A outer s H E).nox ⟨K, b0, H, G⟩ (defBody st) t w ∧ w { nx := fun _ => R .none, rt := fun d _ => R d } ⟨env0 N xs, 0, []⟩) : Def P wd K mg base (k + 1) x st ps (spD K F) := by
  obtain ⟨f, fd, Fn, b, m⟩ := c.ex
  refine ⟨f, fd, fnG_of Fn S (fun vs H Q E h => ?_) (fun cdv A outer s H vs Q E hG hr h => ?_), Fn, b, m⟩
  · obtain ⟨G, xs, R, _, p, hF, _⟩ := h
    rw [p.len]
    exact hl xs R hF
  · obtain ⟨G, xs, R, gh, p, hF, kk⟩ := h
    obtain ⟨t, w, D, hw⟩ := body f cdv A outer s H G E xs R hG hr hF
    refine ⟨t, D.ps, D.is G (L2.start N vs) H _ _ _ (rel_av gh p) hw ⟨fun σ' H' s' G' hn r' e => ?_, fun _ _ _ _ h => h.elim, fun _ _ _ _ h => h.elim, fun v d c' G' H' hR f' e pv => ?_⟩⟩
    · exact kk .non .none G' H' hn e (fun b o hb => r'.fin.hh b o (fun z => nomatch z) hb) r'.fin.gh r'.fin.nw .non
    · exact kk v d G' H' hR e (fun b o hb => f'.hh b o (fun z => nomatch z) hb) f'.gh f'.nw pv
end
section
variable {X : Cx} {C : Ct} {e : Expr} {es : List Expr} {pos p : Pos} {tA : TA} {wA : WXs} {x : Str} {st : Stmt} {ps : List Str} {k : Nat}
theorem ie_callD {F : FD} (h : IY C tA wA) : IE C (tCall (spD C.K F) [] E0 tA) (wCallD F wA) := fun G σ H s Q Q' r q k =>
  h G σ H s _ _ r q fun vs xs s1 G1 H1 q1 r1 eg eh p => ⟨G1, xs, _, r1.fin.gh, by rw [List.append_nil]; exact p.none, q1, fun v d G2 H2 q2 eg2 eh2 gh nw pd =>
    k v d s1 G2 H2 q2 (r1.grow eg2 eh2 gh nw) (eg.trans eg2) (eh.trans (.grow eh2 nw)) pd⟩
theorem de_cD {F : FD} (D : Def X.prog X.w X.K X.mg X.base k x st ps (spD C.K F)) (hG : X.A.guards = some []) (hr : Room k X.A) (hg : Gl X x)
    (ha : DYs X C (e :: es) tA wA) (hdb : (x == ("__debug__" : Str)) = false := by decide) (he : starEach (e :: es) X.env = (false, eval e X.env) :: starEach es X.env := by rfl) (hpl : (backTo pos (starEach es X.env)).any (·.1) = false := by rfl) :
    DE X C (.Call (.Name x p) (e :: es) [] pos) (tCall (spD C.K F) [] E0 tA) (wCallD F wA) := by
  obtain ⟨f, fd, G, Fn, b, m⟩ := D.ex
  exact ⟨pe_callG G hG hr hg m Fn.kp b ha.pa hdb he hpl, ie_callD ha.iy⟩
def tCallV (P : Program) (wd : World) (K : PySem.W.Frag) (mg : Str → Option Value) (base : Heap) (k : Nat) (g : FP) (i : Nat) (t : TA) : TE := fun σ H Q => ∃ f fd ps, σ[i]? = some (some (.ref f)) ∧ FnG P wd K mg base k f fd ps (spP K g) ∧ PySem.W.keepIn K (.ref f) = true ∧ Binds K fd ps [] ∧ t σ H fun vs H1 => spP K g vs H1 Q E0
theorem pe_callV {i : Nat} {g : FP} (hG : X.A.guards = some []) (hr : Room k X.A) (hN : X.N[i]? = some x) (hv : Vis X.env.scope x) (ha : PA X (e :: es) tA)
    (hdb : (x == ("__debug__" : Str)) = false := by decide) (hcd : (x == ("__classdict__" : Str)) = false := by decide)
    (he : starEach (e :: es) X.env = (false, eval e X.env) :: starEach es X.env := by rfl) (hpl : (backTo pos (starEach es X.env)).any (·.1) = false := by rfl) :
    PE X (.Call (.Name x p) (e :: es) [] pos) (tCallV X.prog X.w X.K X.mg X.base k g i tA) := by
  refine ⟨fun pins s σ H Q I h => ?_⟩
  obtain ⟨f, fd, ps, hs, F, hk, hb, ht⟩ := h
  refine wpAny_Call_Name_kw (thn ((pe_var (pos := p) hN hv hdb hcd).run pins s σ H (fun v H1 => v = .ref f ∧ H1 = H) I ⟨.ref f, hs, rfl, rfl⟩) fun u s1 ⟨v, H1, I1, r1, q1⟩ => ?_)
  obtain ⟨rfl, rfl⟩ := q1
  cases r1
  refine PySem.W.callWith_K (h₀ := X.base) I.ok.mod.kin hk (thn (ha.run pos pins s1 σ _ _ I1 ht) fun us s2 ⟨vs, H2, I2, r, q⟩ => ⟨I2.kIn, ?_⟩) he hpl
  have hl : us.length = ps.length := by rw [← r.length]; exact F.1 _ _ _ _ q
  have hb' := hb s2 us I2.kIn (by rw [List.append_nil]; exact hl)
  rw [List.append_nil] at hb'
  refine wpAny_call (codeAny_mono (F.2 X.A X.stack s2 H2 ⟨us, []⟩ us vs Q E0 hG hr I2.env0 hb' r q) ?_)
  rintro (e | _ | _ | _ | u) s' hq
  all_goals first
    | exact I2.after hq
    | exact False.elim hq
def wCallV (i : Nat) (φ : Hp → Hp → V → Prop) (g : FP) (wA : WA) : WE := fun s Q => s.env[i]? = some (some (.oth φ)) ∧ wA s fun ds s1 => g ds fun d => Q d s1
theorem de_callV (i : Nat) {g : FP} {tA : TA} {wA : WA} (k : Nat) {P : Program} {wd : World} {mg : Str → Option Value} {base : Heap} (hK : X.K = C.K) (hG : X.A.guards = some []) (hr : Room k X.A) (ha : DA X C (e :: es) tA wA) (hP : X.prog = P := by rfl) (hw : X.w = wd := by rfl) (hmg : X.mg = mg := by rfl) (hba : X.base = base := by rfl) (hN : X.N[i]? = some x := by rfl) (hv : Vis X.env.scope x := by first | exact Or.inl rfl | exact Or.inr (Or.inl rfl) | exact Or.inr (Or.inr rfl))
    (hdb : (x == ("__debug__" : Str)) = false := by decide) (hcd : (x == ("__classdict__" : Str)) = false := by decide)
    (he : starEach (e :: es) X.env = (false, eval e X.env) :: starEach es X.env := by rfl) (hpl : (backTo pos (starEach es X.env)).any (·.1) = false := by rfl) :
    DE X C (.Call (.Name x p) (e :: es) [] pos) (tCallV P wd C.K mg base k g i tA) (wCallV i (fnV P wd C.K mg base k g) g wA) := by
  subst hP hw hmg hba
  exact ⟨hK ▸ pe_callV hG hr hN hv ha.pa hdb hcd he hpl, fun G σ H s Q Q' r q kk => by
    obtain ⟨hd, q⟩ := q
    obtain ⟨v, hv, av⟩ := r.sl i _ hd
    obtain ⟨f, fd, ps, rfl, F, hk, hb⟩ := av.now
    exact ⟨f, fd, ps, hv, F, hk, hb, ha.ia G σ H s _ _ r q fun vs ds s1 G1 H1 q1 r1 eg eh p => ⟨G1, ds, _, r1.fin.gh, p, q1, fun v d G2 H2 q2 eg2 eh2 gh nw pd =>
      kk v d s1 G2 H2 q2 (r1.grow eg2 eh2 gh nw) (eg.trans eg2) (eh.trans (.grow eh2 nw)) pd⟩⟩⟩
end
end Dw
namespace Dw
open PySem PySem.Spec PyProof.Rows L2 OgR Evl
section
variable {X : Cx}
/-- the store of a comprehension, keys of either kind -/
theorem dset {pins : List (Addr × Obj)} {σ : L2.St} {H H' : Hp} {s : Shared} {a : Addr} {y v : V} {u r : Value} {E : Value → Shared → Prop} {Q : Unit → Shared → Prop}
    (room : X.A.units < cLine) (I : Inv X pins σ H s) (g : DPut H a y v H') (ry : RelV y u) (rv : RelV v r) (go : ∀ s', Inv X pins σ H' s' → Q () s') : wpAny (model X.prog X.w) X.A (dictSet a u r) Q E s := by
  rcases g with ⟨kvs, k, at_, rfl, small, rfl⟩ | ⟨kvs, k, b, at_, rfl, key, small, rfl⟩
  · exact d_dictSet I at_ small ry rv go
  · obtain rfl : u = Value.ref b := ry
    obtain ⟨z, nm, xs, rel, dd⟩ := dt_of I.hok at_
    have more := length_putK kvs k v
    refine wpAny_dictSet_heap (hsz := by rw [← Paired.length rel]; exact z) room (key_of I.hok key) dd fun h' dd' same => go _ ?_
    obtain ⟨q, es, ep, c1, c2, c3, c4, _, c5⟩ := dd'
    refine d_write I (by rw [at_]; exact True.intro) same ⟨q, c1⟩ ⟨by omega, nm, _, (rel.put k key rv).keeps fun c ys ec => ?_, q, es, ep, c1, c2, c3, c4, c5⟩
    rw [upd_ne (ne_of ec at_ fun z => nomatch z)]
    exact ec
/-- the loop of the block, where the i-th item is next -/
structure Wait (Y : Cx) (σ : L2.St) (fp : List Addr) (tn : Nat → Heap → Prop) (i : Nat) (H : Hp) (s : Shared) : Prop where
  inv : Inv Y [] σ H s
  now : tn i s.heap
  out : ∀ b ∈ fp, H b = none
def tDcT (wi : TI) (g : TG) (tk tv : TE) (vs : List Nat) : TE := fun σ H Q => wi σ H fun J H1 => ∀ D, H1 D = none → ∃ W : Nat → Nat → Hp → Prop, (∃ m, W 0 m (upd H1 D (.dT []))) ∧ ∀ i m H2, W i m H2 →
  (J.stop i H2 ∧ Q (.ref D) H2) ∨ (J.go i H2 ∧ ∀ x H3, J.yld i H2 x H3 → g x (wipe σ vs) H3 fun σ4 H4 => wipe σ4 vs = wipe σ vs ∧ tk σ4 H4 fun y H5 => tv σ4 H5 fun z H6 => ∃ H7 m', DPut H6 D y z H7 ∧ m' < m ∧ W (i + 1) m' H7)
variable {s0 : Shared} {H0 : Hp} {scope : Scope} {ce : Env} {fp : List Addr} {it D : Addr} {tn : Nat → Heap → Prop} {J : It} {own : List (Str × Nat)} {σ : L2.St} {kx vx tg iter : Expr} {pos : Pos} {g : TG} {tk tv : TE} {Q : VK}
theorem Wait.fpok {i : Nat} {H : Hp} {s : Shared} {σ : L2.St} (a : Wait (X.blk s0 H0 scope ce fp) σ fp tn i H s) : ∀ b ∈ fp, FpOk (X.blk s0 H0 scope ce fp) [] H b := fun b hb =>
  ⟨a.out b hb, (a.inv.ok.exf b hb).1, a.inv.ok.exfs b hb, .inl hb, (a.inv.ok.exf b hb).2, fun p hp => nomatch (show p ∈ ([] : List (Addr × Obj)) from hp)⟩
theorem block_loop (calm : X.calm = true) (room : X.A.units < cLine) (T : Turn X.prog X.w X.K tg J fp it tn) (pg : PG (X.blk s0 H0 scope ce fp) tg g) (pk : PE (X.blk s0 H0 scope ce fp) kx tk) (pv : PE (X.blk s0 H0 scope ce fp) vx tv)
    {W : Nat → Nat → Hp → Prop} (turn : ∀ i m H2, W i m H2 → (J.stop i H2 ∧ Q (.ref D) H2) ∨ (J.go i H2 ∧ ∀ x H3, J.yld i H2 x H3 → g x (wipe σ (own.map (·.2))) H3 fun σ4 H4 => wipe σ4 (own.map (·.2)) = wipe σ (own.map (·.2)) ∧ tk σ4 H4 fun y H5 => tv σ4 H5 fun z H6 => ∃ H7 m', DPut H6 D y z H7 ∧ m' < m ∧ W (i + 1) m' H7))
    {R : Result → Shared → Prop} (last : ∀ H s, Inv (X.blk s0 H0 scope ce fp) [] (wipe σ (own.map (·.2))) H s → Q (.ref D) H → R (.ok .next) s)
    {m : Nat} {H : Hp} {s : Shared} (a : Wait (X.blk s0 H0 scope ce fp) (wipe σ (own.map (·.2))) fp tn 0 H s) (w : W 0 m H) :
    codeAny (model X.prog X.w) X.A (.compLoop (.DictComp kx vx [⟨tg, iter, [], 0⟩] scope pos) 0 (.ref it) (.ref D) ce) R s := by
  refine compLoop_anyD (fun n s' => ∃ i H', Wait (X.blk s0 H0 scope ce fp) (wipe σ (own.map (·.2))) fp tn i H' s' ∧ W i n H') (fun n s1 ⟨i, H1, a1, w1⟩ => ?_) m ⟨0, H, a, w⟩
  rcases turn i n H1 w1 with ⟨ends, fin⟩ | ⟨goes, each⟩
  · exact thnF (T.done (X.blk s0 H0 scope ce fp) rfl rfl rfl calm i [] s1 _ H1 _ a1.inv a1.fpok a1.now ends) fun r s2 ⟨no, I2⟩ => by
      subst no
      exact last H1 s2 I2 fin
  · refine thnF (T.item (X.blk s0 H0 scope ce fp) rfl rfl rfl calm i [] s1 _ H1 _ a1.inv a1.fpok a1.now goes) fun r s2 ⟨u, yes, more⟩ => ?_
    subst yes
    refine thnF more fun _ s3 ⟨x, H3, I3, rx, yd, now3, out3⟩ => ?_
    have a3 : Wait (X.blk s0 H0 scope ce fp) (wipe σ (own.map (·.2))) fp tn (i + 1) H3 s3 := ⟨I3, now3, out3⟩
    have P3 := I3.pinned a3.fpok (T.obj _ _ now3)
    refine thnF (pg.run _ s3 _ H3 x u _ P3 rx (each x H3 yd)) fun _ s4 ⟨σ4, H4, I4, same, q4⟩ => ?_
    refine wpAny_tests_nil ?_
    rw [if_pos rfl]
    refine thnF (pk.run _ s4 σ4 H4 _ I4 q4) fun ky s5 ⟨y, H5, I5, ry, q5⟩ => ?_
    refine thnF (pv.run _ s5 σ4 H5 _ I5 q5) fun vy s6 ⟨z, H6, I6, rz, H7, m', put, less, w7⟩ => ?_
    refine dset (X := X.blk s0 H0 scope ce fp) room I6 put ry rz fun s7 I7 => ⟨m', less, i + 1, H7, ?_, w7⟩
    have held : ∀ b ∈ fp, ∀ o, s3.heap.get? b = some o → s7.heap.get? b = some o ∧ H7 b = none := fun b hb o e => by
      have z := I7.pin (b, o) (List.mem_append_right _ (List.mem_append_right _ (mem_pinsAt hb e)))
      exact ⟨z.1, z.2.1⟩
    refine ⟨(I7.unpinned (pins := [])).weak (by rw [← same, wipe_length]) fun j v e => ?_, T.keep _ _ _ now3 fun b hb o e => (held b hb o e).1, fun b hb => ?_⟩
    · rw [← same] at e
      exact (wipe_some e).1
    · obtain ⟨o, e, _⟩ := T.obj _ _ now3 b hb
      exact (held b hb o e).2
/-- the whole comprehension -/
theorem pe_dcT {wi : TI} (calm : X.calm = true) (nd : X.N.Nodup) (room : X.A.units < cLine) (pi : PI X tg iter wi) (ok : BlkOk X.N X.env.scope scope own)
    (pg : ∀ s H C cl fp, PG (X.blk s H scope (compEnvC scope cl C X.env) fp) tg g) (pk : ∀ s H C cl fp, PE (X.blk s H scope (compEnvC scope cl C X.env) fp) kx tk) (pv : ∀ s H C cl fp, PE (X.blk s H scope (compEnvC scope cl C X.env) fp) vx tv)
    (fold : ∀ x, foldedSetIterable iter X.env x = pure x := by intro _; rfl) : PE X (.DictComp kx vx [⟨tg, iter, [], 0⟩] scope pos) (tDcT wi g tk tv (own.map (·.2))) := by
  refine ⟨fun pins s σ H Q I h => ?_⟩
  have clo := closure_ok (scope := scope) (env := X.env) fun y hy e => (ok.free y hy e).elim (fun k => I.ok.has _ (.inl k)) fun k => I.ok.has _ (.inr k)
  rw [arm_eval_DictComp]
  refine wpAny_comprehension_free (use := none) rfl fold clo ok.kind (fun y hy e => (ok.uniq y hy).trans (congrArg some e)) (thn (pi.run pins s σ H _ I h) fun _ _ came => thn came fun itv s2 ⟨it, fp, tn, J, H2, e, I2, T, now, far, q⟩ => ?_)
  subst e
  obtain ⟨W, ⟨m, w0⟩, turn⟩ := q s2.heap.objs.size (I2.hok.fresh (Nat.le_refl _))
  refine wpAny_newObj_type (newEnv_comp ?_)
  have I3 := I2.laid (a := s2.heap.objs.size) (o := .dT []) (t' := s2.toks) (fun b o e => Heap.get?_push_of_some { cls := .type "dict", data := .dict #[] } e) (Nat.le_refl _) (dt_empty s2.heap I2.big)
  have old : ∀ b ∈ fp, b < s2.heap.objs.size := fun b hb => let ⟨_, e, _⟩ := T.obj _ _ now b hb; Heap.lt_size e
  have grows : s2.heap.objs.size < (s2.heap.push ({ cls := .type "dict", data := .dict #[] } : Obj)).objs.size := by rw [Heap.size_push]; exact Nat.lt_succ_self _
  have far3 : ∀ b ∈ fp, FpOk X pins (upd H2 s2.heap.objs.size (.dT [])) b ∧ b < (s2.heap.push ({ cls := .type "dict", data := .dict #[] } : Obj)).objs.size := fun b hb =>
    ⟨⟨by rw [upd_ne (Nat.ne_of_lt (old b hb))]; exact (far b hb).1, (far b hb).2⟩, Nat.lt_trans (old b hb) grows⟩
  have now3 : tn 0 (s2.heap.push { cls := .type "dict", data := .dict #[] }) := T.keep _ _ _ now fun b _ o e => Heap.get?_push_of_some _ e
  generalize eH : upd H2 s2.heap.objs.size (.dT []) = H3 at I3 far3 w0
  generalize eh : s2.heap.push ({ cls := .type "dict", data := .dict #[] } : Obj) = h3 at I3 far3 now3 ⊢
  have B := block_start I3 ok nd far3
  have now4 : tn 0 (pushCells (h3.push { cls := .type "dict", data := .dict #[] }) scope.names) := T.keep _ _ _ now3 fun b _ o e => pushCells_keeps _ _ _ _ (Heap.get?_push_of_some _ e)
  have done := block_loop (iter := iter) (pos := pos) (Q := Q) calm room T (pg _ _ _ _ _) (pk _ _ _ _ _) (pv _ _ _ _ _) turn
    (R := compPost (model X.prog X.w) X.A X.xe none (EP X pins σ Q) (.ref s2.heap.objs.size) h3.objs.size) (fun H5 s5 I5 fin => ?_) ⟨B, now4, fun b hb => (far3 b hb).1.1⟩ w0
  · exact codeAny_compStart_dict done (T.self X.A 0 _ _ _ now4 done)
  · have back : Inv X pins σ H5 s5 := I3.call' (ch := fp) I5.os I5.base I5.hok I5.bare fun b hb => ⟨(far3 b hb).1.2.2.2.1, (far3 b hb).1.2.1, (far3 b hb).1.2.2.2.2.1, (far3 b hb).1.2.2.2.2.2⟩
    obtain ⟨mm, names, _⟩ := I5.loc
    obtain ⟨f0, f1, f2, f3, f4, f5⟩ := I3.fpOk (b := h3.objs.size) (H' := H5) (Nat.le_refl _) I5.free
    exact ⟨mm, names, fun h' sb => ⟨.ref s2.heap.objs.size, H5, back.turned (t' := s5.toks) (fun b o hb e => (sb.2 b hb).trans e) f0 f1 f3 f4 f5, rfl, fin⟩⟩
end
end Dw
namespace Dw
open PySem PySem.Spec PyProof.Rows L2 OgR Evl
abbrev KVs := List (List Key × PyData)
section
variable {C : Ct} {G H : Hp} {σ : L2.St} {s : Dt}
/-- an object that no slot holds, and that is no data, is changed -/
theorem Rel.upd_out (r : Rel C G σ H s) {D : Addr} {u o : HO} (gD : G D = none) (h0D : C.H0 D = none) (hD : H D = some u) (su : soft u = true) (nf : ∀ od w, u ≠ .frz od w) (ns : ∀ (i : Nat) x, s.env[i]? = some (some x) → x.mut = true → σ[i]? ≠ some (some (.ref D))) :
    Rel C G σ (upd H D o) s := by
  have nbD : ¬ C.bx.has D := r.fin.nbx h0D
  have hm : ∀ b, b ≠ D → upd H D o b = H b := fun b hb => upd_ne hb
  refine ⟨⟨fun b w hb => ?_, r.fin.g0, r.fin.nw, fun b w n hb => ?_, r.fin.ok, r.fin.obu (Ex.refl _) h0D (fun b o n e => by rw [hm b n]; exact e), fun l hl => ?_⟩, r.len, fun j y ej => ?_, r.dis⟩
  · rw [hm b (fun z => by rw [z, gD] at hb; cases hb)]
    exact r.fin.gh b w hb
  · rw [hm b (fun z => by rw [z, h0D] at hb; cases hb)]
    exact r.fin.hh b w n hb
  · exact ⟨(r.fin.bx l hl).1.updS hD su (fun z => nbD (by rw [← z]; exact hl)), (r.fin.bx l hl).2⟩
  · obtain ⟨v', hv', rv⟩ := r.sl j y ej
    refine ⟨v', hv', ?_⟩
    cases y with
    | d _ => exact rv
    | box => exact rv
    | ob _ => exact rv
    | obl _ => exact rv
    | own ds2 =>
      obtain ⟨p2, xs2, a1, a2, a3, a4, a5⟩ := rv
      exact ⟨p2, xs2, a1, by rw [hm p2 (fun z => ns j _ ej rfl (by rw [hv', a1, z]))]; exact a2, a3, a4, a5⟩
    | dic ds2 =>
      obtain ⟨p2, xs2, a1, a2, a3, a4, a5⟩ := rv
      exact ⟨p2, xs2, a1, by rw [hm p2 (fun z => ns j _ ej rfl (by rw [hv', a1, z]))]; exact a2, a3, a4, a5⟩
    | dit ds2 =>
      obtain ⟨p2, xs2, a1, a2, a3, a4, a5⟩ := rv
      exact ⟨p2, xs2, a1, by rw [hm p2 (fun z => ns j _ ej rfl (by rw [hv', a1, z]))]; exact a2, a3, a4, a5⟩
    | oth φ => exact Oth.step (φ := φ) rv (Ex.refl G) (Kept.upd hD su)
    | dd ds2 =>
      obtain ⟨p2, xs2, a1, a2, a5⟩ := rv
      exact ⟨p2, xs2, a1, a2.upd hD h0D nf, a5⟩
end
abbrev WN := Dt → (KVs → Dt → Prop) → Prop
def IN (C : Ct) (t : TE) (w : WN) : Prop := ∀ G σ H s Q Q', Rel C G σ H s → w s Q →
  (∀ p ks kvs s' G' H', Q kvs s' → Rel C G' σ H' s' → Ex G G' → Gs C σ G H s G' H' s' → H p = none → H' p = some (.dT ks) → G' p = none → PK2 C.K G' ks kvs → (∀ (i : Nat) x, s'.env[i]? = some (some x) → x.mut = true → σ[i]? ≠ some (some (.ref p))) → Q' (.ref p) H') → t σ H Q'
structure DN (X : Cx) (C : Ct) (e : Expr) (t : TE) (w : WN) : Prop where
  pe : PE X e t
  iN : IN C t w
def DcD (ds : List PyData) (g : WG) (wA : WA) (wv : WE) (vs : List Nat) (s1 : Dt) (Q : KVs → Dt → Prop) : Prop := ∃ Inv : Nat → KVs → Cs → Prop, Inv 0 [] s1.c ∧
  (∀ (i : Nat) d kvs c, ds[i]? = some d → Inv i kvs c → g d ⟨wipeD s1.env vs, c⟩ fun s2 => wA s2 fun kd s3 => kd.length ≤ 100000 ∧ wv s3 fun y s4 => s4.env = s2.env ∧ ∃ k, keysD kd = some k ∧ kvs.length < 100000 ∧ Inv (i + 1) (putG kvs k y) s4.c) ∧
  ∀ kvs c, Inv ds.length kvs c → Q kvs ⟨s1.env, c⟩
def wDcT (wI : WA) (g : WG) (wA : WA) (wv : WE) (vs : List Nat) : WN := fun s Q => wI s fun ds s1 => DcD ds g wA wv vs s1 Q
section
variable {X : Cx} {C : Ct}
theorem in_dc {wi : TI} {wI : WA} {g : TG} {ks vs : List Nat} {wg : WG} {tA : TA} {wA : WA} {tv : TE} {wv : WE} (hk : ∀ k ∈ ks, k ∈ vs) (hi : II C wi wI) (hg : IG C g ks wg) (hA : IA C tA wA) (he : IE C tv wv) : IN C (tDcT wi g (tTup tA) tv vs) (wDcT wI wg wA wv vs) := fun G σ H s Q Q' r q k =>
  hi G σ H s _ _ r q fun J ds s1 G1 H1 q1 r1 eg eh itd D hD => by
    obtain ⟨Inv, h0, hs, hd⟩ := q1
    have hHD : H D = none := by
      cases z : H D with
      | none => rfl
      | some o => exact absurd hD (eh.dom D (by rw [z]; exact Option.some_ne_none _))
    have h0D : C.H0 D = none := r.fin.h0 hHD
    have nbD : ¬ C.bx.has D := r.fin.nbx h0D
    refine ⟨fun i m H' => m = ds.length - i ∧ i ≤ ds.length ∧ ∃ G' acc xs c', Ex G1 G' ∧ Rel C G' σ H' ⟨s1.env, c'⟩ ∧ Gs C σ G1 H1 s1 G' H' ⟨s1.env, c'⟩ ∧ H' D = some (.dT xs) ∧ G' D = none ∧ PK2 C.K G' xs acc ∧ Inv i acc c', ⟨ds.length, by simp, Nat.zero_le _, G1, [], [], s1.c, Ex.refl G1, r1.aside (Ex.new hD), .side (Ex.new hD), upd_same, r1.gnone hD, .nil, h0⟩, ?_⟩
    rintro i m H' ⟨rfl, hi, G', acc, xs, c', e', r', g', hHd, hGd, dacc, inv⟩
    obtain ⟨go, stop⟩ := itd G' H' e' r'.fin.gh
    by_cases hlt : i < ds.length
    · have hd1 : ds[i]? = some ds[i] := List.getElem?_eq_getElem hlt
      obtain ⟨g1, g2⟩ := go i _ hd1
      refine .inr ⟨g1, fun x H3 y => ?_⟩
      obtain ⟨G3, b1, b2, b3, b4, b5⟩ := g2 x H3 y
      have r3 := r'.grow b1 b2 b3 b4
      have gs3 : Gs C σ G' H' ⟨s1.env, c'⟩ G3 H3 ⟨s1.env, c'⟩ := .grow b2 b4
      have e3 := e'.trans b1
      have nslot : ∀ (j : Nat) y, s1.env[j]? = some (some y) → y.mut = true → σ[j]? ≠ some (some (.ref D)) := fun j y ej m => r1.notslot hD j y ej m
      have hG3 : G3 D = none := gs3.nk D _ hGd nbD hHd rfl nslot
      refine hg G3 (L2.wipe σ vs) H3 ⟨wipeD s1.env vs, c'⟩ x _ _ _ (r3.wipe vs) b5 (hs i _ acc c' hd1 inv) fun σ4 s4 q4 r4 l4 f4 => ⟨wipe_of l4 f4 hk, hA G3 σ4 H3 s4 _ _ r4 q4 fun kvs5 kd s5 G5 H5 q5 r5 eg5 gs5 pk5 => ?_⟩
      refine ⟨by rw [dpa_len pk5]; exact sz_of q5.1, fun T hT => ?_⟩
      have rT := r5.aside (Ex.new (o := .tup kvs5) hT)
      refine he G5 σ4 _ s5 _ _ rT q5.2 fun v y s6 G6 H6 q6 r6 eg6 gs6 pv => ?_
      obtain ⟨he6, kk, hk6, hl, q6⟩ := q6
      have gsT : Gs C σ4 G3 H3 s4 G5 (upd H5 T (.tup kvs5)) s5 := gs5.trans (.side (Ex.new hT))
      have gs7 := gsT.trans gs6
      have eg7 := eg5.trans eg6
      have rr := r3.back r4 r6 he6 eg7 gs7
      have hD6 : H6 D = some (.dT xs) := gs7.gr D _ nbD (b2 D _ hHd)
      have gD6 : G6 D = none := gs7.keep r4 r6 he6 hG3 nbD (b2 D _ hHd) rfl
      have nbT : ¬ C.bx.has T := rT.fin.nbx (r5.fin.h0 hT)
      have hT6 : H6 T = some (.tup (kk.map kV)) := by
        rw [← keys_v pk5 hk6]
        exact gs6.gr T _ nbT upd_same
      have dacc6 := paired_mapP dacc fun a b q => (⟨q.1, dp_ex (b1.trans eg7) q.2⟩ : a.1 = b.1 ∧ Dp C.K G6 a.2 b.2)
      refine ⟨_, ds.length - (i + 1), DPut.t hD6 hT6 (sz_lt (by rw [len_pair dacc6]; exact hl)), by omega, rfl, hlt, G6, putG acc kk y, putK xs kk v, s6.c, e3.trans eg7, ?_, ?_, upd_same, gD6, put_pair kk pv dacc6, q6⟩
      · exact rr.upd_out gD6 h0D hD6 rfl (fun _ _ z => by cases z) nslot
      · have gg := g'.trans (gs3.trans (s2 := ⟨s1.env, s6.c⟩) ⟨gs7.gr, gs7.dom, fun b o h1 hb h2 hn h3 => gs7.keep r4 r6 he6 h1 hb h2 hn, fun i x e m => ⟨x, e, m⟩⟩)
        refine ⟨fun b o n hb => ?_, fun b hb => ?_, gg.nk, gg.ks⟩
        · rw [upd_ne (fun z => by rw [z, hD] at hb; cases hb)]
          exact gg.gr b o n hb
        · by_cases z : b = D
          · rw [z, upd_same]
            exact Option.some_ne_none _
          · rw [upd_ne z]
            exact gg.dom b hb
    · have e : i = ds.length := by omega
      subst e
      exact .inl ⟨stop, k D xs acc ⟨s1.env, c'⟩ G' H' (hd acc c' inv) r' (eg.trans e') (eh.trans g') hHD hHd hGd dacc fun j y ej m => r1.notslot hD j y ej m⟩
variable {vx tg iter : Expr} {es : List Expr} {kk : Nat} {p2 pos : Pos} {scope : Scope} {own : List (Str × Nat)} {wi : TI} {wI : WA} {g : TG} {ks : List Nat} {wg : WG} {tA : TA} {wA : WA} {tv : TE} {wv : WE}
theorem dn_dc (hc : X.calm = true) (hN : X.N.Nodup) (hu : X.A.units < cLine) (hi : DI X C tg iter wi wI) (ok : BlkOk X.N X.env.scope scope own)
    (hg : ∀ (s : Shared) (H : Hp) (A : Addr) (cl : List (Str × Addr)) (fp : List Addr), DG (X.blk s H scope (compEnvC scope cl A X.env) fp) C tg g ks wg)
    (hA : ∀ (s : Shared) (H : Hp) (A : Addr) (cl : List (Str × Addr)) (fp : List Addr), DA (X.blk s H scope (compEnvC scope cl A X.env) fp) C es tA wA)
    (he : ∀ (s : Shared) (H : Hp) (A : Addr) (cl : List (Str × Addr)) (fp : List Addr), DE (X.blk s H scope (compEnvC scope cl A X.env) fp) C vx tv wv) (hk : ∀ k ∈ ks, k ∈ own.map (·.2) := by decide) (hs : ∀ x, foldedSetIterable iter X.env x = Pure.pure x := by intro _; rfl) :
    DN X C (.DictComp (.Tuple es kk p2) vx [⟨tg, iter, [], 0⟩] scope pos) (tDcT wi g (tTup tA) tv (own.map (·.2))) (wDcT wI wg wA wv (own.map (·.2))) :=
  ⟨pe_dcT hc hN hu hi.pi ok (fun s H A cl fp => (hg s H A cl fp).pg) (fun s H A cl fp => pe_tup (hA s H A cl fp).pa) (fun s H A cl fp => (he s H A cl fp).pe) hs, in_dc hk hi.ii (hg {} (fun _ => none) 0 [] []).ig (hA {} (fun _ => none) 0 [] []).ia (he {} (fun _ => none) 0 [] []).ie⟩
end
abbrev FN := List DV → (KVs → Prop) → Prop
def spN (K : PySem.W.Frag) (F : FN) : Sp := fun vs H Q _ => ∃ G xs R, Ex G H ∧ AVs K b0 G H vs xs ∧ F xs R ∧
  ∀ p ks kvs G' H', R kvs → Ex G G' → Ex H H' → Ex G' H' → Nw G G' H → H p = none → H' p = some (.dT ks) → G' p = none → PK2 K G' ks kvs → Q (.ref p) H'
theorem Def.newD {P : Program} {wd : World} {K : PySem.W.Frag} {mg : Str → Option Value} {base : Heap} {k : Nat} {x : Str} {st : Stmt} {N ps : List Str} {F : FN} (c : Fct K mg x st ps) (S : FnScope N ps (defScope st)) {e : Expr} {pos : Pos} (hb : defBody st = [.Return (some e) pos]) (hl : ∀ xs R, F xs R → xs.length = ps.length)
    (body : ∀ (f : Addr) (cdv : Value) (A : Around) (outer : List Env) (s : Shared) (H G : Hp) (E : XK) (xs : List DV) (R : KVs → Prop), A.guards = some [] → Room k (A.deeper (envOfC x (defScope st) s.heap.objs.size f cdv)) → F xs R →
      ∃ t w, DN (cxOf CX0 P wd K mg base N x (defScope st) f cdv A outer s H E).nox ⟨K, b0, H, G⟩ e t w ∧ w ⟨env0 N xs, 0, []⟩ fun kvs _ => R kvs) : Def P wd K mg base (k + 1) x st ps (spN K F) := by
  obtain ⟨f, fd, Fn, b, m⟩ := c.ex
  refine ⟨f, fd, fnG_of Fn S (fun vs H Q E h => ?_) (fun cdv A outer s H vs Q E hG hr h => ?_), Fn, b, m⟩
  · obtain ⟨G, xs, R, _, p, hF, _⟩ := h
    rw [p.len]
    exact hl xs R hF
  · obtain ⟨G, xs, R, gh, p, hF, kk⟩ := h
    obtain ⟨t, w, D, hw⟩ := body f cdv A outer s H G E xs R hG hr hF
    rw [hb]
    refine ⟨_, pss_one (ps_ret D.pe), D.iN G (L2.start N vs) H _ _ _ (rel_av gh p) hw fun p ks kvs s' G' H' hR r' e g h1 h2 h3 h4 h5 => ?_⟩
    exact kk p ks kvs G' H' hR e (fun b o hb => r'.fin.hh b o (fun z => nomatch z) hb) r'.fin.gh r'.fin.nw h1 h2 h3 h4
/-- name = f(..), f a def that returns a new dict -/
def wSetN (i : Nat) (F : FN) (wA : WXs) : WS := fun DD s => wA s fun xs s1 => F xs fun kvs => DD.nx (s1.set i (.dit kvs))
section
variable {X : Cx} {C : Ct} {e : Expr} {es : List Expr} {pos p cpos py : Pos} {tA : TA} {wA : WXs} {x y : Str} {st : Stmt} {ps : List Str} {k : Nat}
theorem is_setN (i : Nat) {F : FN} (h : IY C tA wA) : IS C (tAsg (tCall (spN C.K F) [] E0 tA) (gName i)) (wSetN i F wA) := fun G σ H s D DD r q o =>
  h G σ H s _ _ r q fun vs xs s1 G1 H1 q1 r1 eg eh p => ⟨G1, xs, _, r1.fin.gh, by rw [List.append_nil]; exact p.none, q1, fun p ks kvs G2 H2 q2 eg2 eh2 gh nw h1 h2 h3 h4 => by
    have r2 := r1.grow eg2 eh2 gh nw
    exact o.nx _ _ _ G2 q2 (r2.put (x := .dit kvs) ⟨p, ks, rfl, h2, r1.fin.h0 h1, h3, h4⟩ fun _ j y p' ej m z => by cases z; exact r1.notslot h1 j y ej m) (eg.trans eg2)⟩
theorem ds_setN (i : Nat) {F : FN} (D : Def X.prog X.w X.K X.mg X.base k x st ps (spN C.K F)) (hN : X.N.Nodup) (hG : X.A.guards = some []) (hr : Room k X.A) (hg : Gl X x) (ha : DYs X C (e :: es) tA wA)
    (hi : X.N[i]? = some y := by rfl) (hx : Loc X.env.scope y := by first | exact .inl rfl | exact .inr rfl) (hs : swapsWith (.Call (.Name x p) (e :: es) [] cpos) (some (.Name y py)) pos.line X.env = Pure.pure false := by rfl)
    (hf : X.fn y = true ∨ X.env.scope.names.lookup y = some .local := by first | exact .inl rfl | exact .inr rfl | assumption)
    (hdb : (x == ("__debug__" : Str)) = false := by decide) (he : starEach (e :: es) X.env = (false, eval e X.env) :: starEach es X.env := by rfl) (hpl : (backTo cpos (starEach es X.env)).any (·.1) = false := by rfl) :
    DS X C (.Assign [.Name y py] (.Call (.Name x p) (e :: es) [] cpos) pos) (tAsg (tCall (spN C.K F) [] E0 tA) (gName i)) (wSetN i F wA) := by
  obtain ⟨f, fd, G, Fn, b, m⟩ := D.ex
  exact ⟨ps_set (i := i) hN hi hx (pe_callG G hG hr hg m Fn.kp b ha.pa hdb he hpl) (hf := hf) (hs := hs), is_setN i ha.iy⟩
def wTGet2 (i : Nat) (wA : WA) (wf : WE) : WE := fun s Q => (∃ kvs0, dicAt s i kvs0) ∧ wA s fun kd s1 => kd.length ≤ 100000 ∧ wf s1 fun fd s2 => ∃ kvs k, dicAt s2 i kvs ∧ keysD kd = some k ∧ Q ((lookG kvs k).getD fd) s2
def wTGet1 (i : Nat) (wA : WA) : WE := fun s Q => (∃ kvs0, dicAt s i kvs0) ∧ wA s fun kd s1 => kd.length ≤ 100000 ∧ ∃ kvs k, dicAt s1 i kvs ∧ keysD kd = some k ∧ Q ((lookG kvs k).getD .none) s1
theorem de_tget2 (i : Nat) {f : Expr} {apos : Pos} {kk : Nat} {p3 : Pos} {tA : TA} {wA : WA} {tx : TE} {wx : WE} (hu : X.A.units + 1 < cLine) (hA : DA X C es tA wA) (hf : DE X C f tx wx) (hv : PE X (.Name x p) (tVar i) := by exact pv _) (m : M2 X (.Name x p) "get" apos (.Tuple es kk p3) f cpos := by exact ⟨rfl, rfl, rfl, rfl⟩) :
    DE X C (.Call (.Attribute (.Name x p) "get" apos) [.Tuple es kk p3, f] [] cpos) (tDGet2 (tVar i) (tTup tA) tx) (wTGet2 i wA wx) := ⟨pe_dget2 hu hv (pe_tup hA.pa) hf.pe m, fun G σ H s Q Q' r q k => by
  obtain ⟨⟨kvs0, e0⟩, q⟩ := q
  obtain ⟨v, hv, p, ks, rfl, a1, a2, a3⟩ := dic_av r e0
  refine ⟨_, hv, p, rfl, .inr ⟨ks, a1⟩, hA.ia G σ H s _ _ r q fun vs1 ds1 s1 G1 H1 q1 r1 eg1 g1 p1 => ⟨by rw [dpa_len p1]; exact sz_of q1.1, fun T hT => ?_⟩⟩
  refine hf.ie G1 σ _ s1 _ _ (r1.aside (Ex.new (o := .tup vs1) hT)) q1.2 fun v2 d2 s2 G2 H2 q2 r2 eg2 g2 p2 => ?_
  obtain ⟨kvs, kk, e2, hk, q2⟩ := q2
  obtain ⟨v', hv', p', ks', hp', b1, b2, b3⟩ := dic_av r2 e2
  rw [hv] at hv'
  cases hv'
  cases hp'
  have nbT : ¬ C.bx.has T := r1.fin.nbx (r1.fin.h0 hT)
  have gT : Gs C σ G H s G2 H2 s2 := (g1.trans (.side (Ex.new hT))).trans g2
  have hT2 : H2 T = some (.tup (kk.map kV)) := by
    rw [← keys_v p1 hk]
    exact g2.gr T _ nbT upd_same
  refine ⟨valV ks' kk, .inr ⟨ks', kk, T, b1, rfl, hT2, rfl⟩, ?_⟩
  rcases look_pair kk b3 with ⟨z1, z2⟩ | ⟨v3, d3, z1, z2, z3⟩
  · rw [z2] at q2
    rw [z1]
    exact k _ _ s2 G2 H2 q2 r2 (eg1.trans eg2) gT p2
  · rw [z2] at q2
    rw [z1]
    exact k _ _ s2 G2 H2 q2 r2 (eg1.trans eg2) gT z3⟩
theorem de_tget1 (i : Nat) {apos : Pos} {kk : Nat} {p3 : Pos} {tA : TA} {wA : WA} (hu : X.A.units + 1 < cLine) (hA : DA X C es tA wA) (hv : PE X (.Name x p) (tVar i) := by exact pv _) (m : M1 X (.Name x p) "get" apos (.Tuple es kk p3) cpos := by exact ⟨rfl, rfl, rfl, rfl⟩) :
    DE X C (.Call (.Attribute (.Name x p) "get" apos) [.Tuple es kk p3] [] cpos) (tDGet1 (tVar i) (tTup tA)) (wTGet1 i wA) := ⟨pe_dget1 hu hv (pe_tup hA.pa) m, fun G σ H s Q Q' r q k => by
  obtain ⟨⟨kvs0, e0⟩, q⟩ := q
  obtain ⟨v, hv, p, ks, rfl, a1, a2, a3⟩ := dic_av r e0
  refine ⟨_, hv, p, rfl, .inr ⟨ks, a1⟩, hA.ia G σ H s _ _ r q fun vs1 ds1 s1 G1 H1 q1 r1 eg1 g1 p1 => ⟨by rw [dpa_len p1]; exact sz_of q1.1, fun T hT => ?_⟩⟩
  obtain ⟨_, kvs, kk, e2, hk, q2⟩ := q1
  have r2 := r1.aside (Ex.new (o := .tup vs1) hT)
  obtain ⟨v', hv', p', ks', hp', b1, b2, b3⟩ := dic_av r2 e2
  rw [hv] at hv'
  cases hv'
  cases hp'
  have gT : Gs C σ G H s G1 (upd H1 T (.tup vs1)) s1 := g1.trans (.side (Ex.new hT))
  have hT2 : (upd H1 T (.tup vs1)) T = some (.tup (kk.map kV)) := by
    rw [← keys_v p1 hk]
    exact upd_same
  refine ⟨valV ks' kk, .inr ⟨ks', kk, T, b1, rfl, hT2, rfl⟩, ?_⟩
  rcases look_pair kk b3 with ⟨z1, z2⟩ | ⟨v3, d3, z1, z2, z3⟩
  · rw [z2] at q2
    rw [z1]
    exact k _ _ s1 G1 _ q2 r2 eg1 gT .non
  · rw [z2] at q2
    rw [z1]
    exact k _ _ s1 G1 _ q2 r2 eg1 gT z3⟩
end
end Dw
namespace Dw
open PySem PySem.Spec PyProof.Rows L2 OgR Evl
section
variable {X : Cx} {C : Ct} {a b c e tg : Expr} {es : List Expr} {pos p p2 : Pos} {t ta tb tc te ty : TE} {w wa wb wc we wy : WE} {x : Str}
def wRng2 (wa wb : WE) : WA := fun s Q => wa s fun d s1 => wb s1 fun e s2 => ∃ i j : Int, d = .int i ∧ e = .int j ∧ -(2 ^ 62) ≤ i ∧ i < 2 ^ 62 ∧ -(2 ^ 62) ≤ j ∧ j < 2 ^ 62 ∧ Q (iotaD i j) s2
theorem di_rng2 (hg : Gl X "range") (hm : X.mg "range" = none) (h : DE X C a ta wa) (h2 : DE X C b tb wb) (hs : starEach [a, b] X.env = [(false, eval a X.env), (false, eval b X.env)] := by rfl) (hs2 : starEach [b] X.env = [(false, eval b X.env)] := by rfl)
    (hs3 : starEach [a, b] X.env = (false, eval a X.env) :: starEach [b] X.env := by rfl) (hs4 : starEach [b] X.env = (false, eval b X.env) :: starEach [] X.env := by rfl) :
    DI X C tg (.Call (.Name "range" p) [a, b] [] pos) (iRng2 (tCons ta (tCons tb tNil))) (wRng2 wa wb) := ⟨pi_range2 hg hm (pa_cons h.pe (pa_cons h2.pe pa_nil hs4) hs3) hs hs2, fun G σ H s Q R r q k => h.ie G σ H s _ _ r q fun v d s1 G1 H1 q1 r1 eg1 g1 p1 => h2.ie G1 σ H1 s1 _ _ r1 q1 fun v2 d2 s2 G2 H2 q2 r2 eg2 g2 p2 => by
  obtain ⟨i, j, rfl, rfl, h1, h2, h3, h4, q2⟩ := q2
  refine ⟨i, j, by rw [dp_int p1, dp_int p2], ⟨h1, h2, h3, h4⟩, ?_⟩
  exact k _ _ s2 G2 H2 q2 r2 (eg1.trans eg2) (g1.trans g2) (itd_rng (C := C) (G := G2) (a := i) (b := j))⟩
/-- i, i - 1, .., j + 1 -/
def downD (i j : Int) : List PyData := (List.range (i - j).toNat).map fun k => .int (i - (k : Nat))
theorem down_get {i j : Int} {k : Nat} {d : PyData} (h : (downD i j)[k]? = some d) : k < (i - j).toNat ∧ d = .int (i - k) := by
  unfold downD at h
  rw [List.getElem?_map] at h
  obtain ⟨n, hn, rfl⟩ := Option.map_eq_some_iff.mp h
  obtain ⟨h1, h2⟩ := List.getElem?_eq_some_iff.mp hn
  rw [List.length_range] at h1
  rw [List.getElem_range] at h2
  subst h2
  exact ⟨h1, rfl⟩
theorem down_len (i j : Int) : (downD i j).length = (i - j).toNat := by unfold downD; rw [List.length_map, List.length_range]
theorem itd_down {G : Hp} {lo j : Int} : ItD C G (Itc lo (-1) (lo - j).toNat) (downD lo j) := fun G2 H2 e1 e2 => by
  refine ⟨fun i d hd => ?_, ?_⟩
  · obtain ⟨h1, rfl⟩ := down_get hd
    refine ⟨h1, fun x H3 y => ?_⟩
    obtain ⟨rfl, rfl⟩ := y
    refine ⟨G2, Ex.refl G2, Ex.refl _, e2, Nw.refl _ _, ?_⟩
    rw [show lo + (i : Nat) * (-1 : Int) = lo - (i : Nat) by omega]
    exact .int _
  · rw [down_len]
    exact Nat.le_refl _
def wRngD (wa wb : WE) : WA := fun s Q => wa s fun d s1 => wb s1 fun e s2 => ∃ i j : Int, d = .int i ∧ e = .int j ∧ -(2 ^ 62) ≤ i ∧ i < 2 ^ 62 ∧ -(2 ^ 62) ≤ j ∧ j < 2 ^ 62 ∧ Q (downD i j) s2
def wRevR (wa : WE) : WA := fun s Q => wa s fun d s1 => ∃ j : Int, d = .int j ∧ -(2 ^ 62) ≤ j ∧ j < 2 ^ 62 ∧ Q (downD (j - 1) (-1)) s1
theorem di_revR (hg : Gl X "reversed") (hm : X.mg "reversed" = none) (hg2 : Gl X "range") (hm2 : X.mg "range" = none) (h : DE X C a ta wa) (hs : starEach [.Call (.Name "range" p2) [a] [] p] X.env = (false, eval (.Call (.Name "range" p2) [a] [] p) X.env) :: starEach [] X.env := by rfl)
    (hs2 : starEach [a] X.env = (false, eval a X.env) :: starEach [] X.env := by rfl) {p5 : Pos} :
    DI X C tg (.Call (.Name "reversed" p5) [.Call (.Name "range" p2) [a] [] p] [] pos) (iRevR (tRg1 ta)) (wRevR wa) :=
  ⟨pi_revR hg hm (prg_1 hg2 hm2 h.pe hs2) hs, fun G σ H s Q R r q k => h.ie G σ H s _ _ r q fun v d s1 G1 H1 q1 r1 eg1 g1 p1 => by
    obtain ⟨j, rfl, h1, h2, q1⟩ := q1
    refine ⟨j, dp_int p1, by decide, by decide, h1, h2, ?_⟩
    have e : (0 : Int) + (((j - 0).toNat : Nat) : Int) - 1 = (if 0 ≤ j then j - 1 else -1) := by split <;> omega
    by_cases h0 : 0 ≤ j
    · have := itd_down (C := C) (G := G1) (lo := j - 1) (j := -1)
      rw [show (j - 1 - -1).toNat = (j - 0).toNat by omega] at this
      rw [show (0 : Int) + (((j - 0).toNat : Nat) : Int) - 1 = j - 1 by omega]
      exact k _ _ s1 G1 H1 q1 r1 eg1 g1 this
    · have e2 : downD (j - 1) (-1) = [] := by unfold downD; rw [show (j - 1 - -1).toNat = 0 by omega]; rfl
      rw [e2] at q1
      refine k _ _ s1 G1 H1 q1 r1 eg1 g1 fun G2 H2 _ _ => ⟨fun i d hd => by simp at hd, ?_⟩
      show (j - 0).toNat ≤ 0
      omega⟩
def gRevL : PyData → Dt → (List PyData → Dt → Prop) → Prop := fun d s Q => ∃ ds, d = .list ds ∧ Q ds.reverse s
theorem do_revL {k : Nat} {p1 p3 : Pos} (hK : X.K = C.K) (ha : DP X C a ta wa) : DO X C (.Subscript a (.Slice none none (some (.UnaryOp .USub (.Constant (.int 1) k p1) p2)) p3) pos) (tRevL C.K ta) (w1O gRevL wa) := ⟨hK ▸ pe_revL ha.pe, fun G σ H s Q Q' r q k => ha.ip G σ H s _ _ r q fun v d s1 G1 H1 q1 r1 eg1 g1 pk => by
  obtain ⟨ds, rfl, q1⟩ := q1
  obtain ⟨p, xs, rfl, h1, h2⟩ := pk.seq r1.fin.gh rfl
  exact ⟨p, xs, rfl, h1, fun u hu => own_new r q1 r1 eg1 g1 (dpa_rev h2) hu k⟩⟩
def wAugIx (i : Nat) (wy we : WE) : WS := fun DD s => (∃ ds0, s.env[i]? = some (some (.own ds0))) ∧ wy s fun kd s1 => ∃ (n : Nat) (ds : List PyData) (m : Int), kd = .int n ∧ s1.env[i]? = some (some (.own ds)) ∧ ds[n]? = some (.int m) ∧ we s1 fun d s2 => ∃ (j : Int) (ds2 : List PyData), d = .int j ∧ s2.env[i]? = some (some (.own ds2)) ∧ n < ds2.length ∧ DD.nx (s2.set i (.own (ds2.set n (.int (m + j)))))
def gMinL : G1 := fun d s Q => ∃ ns : List Int, d = .list (ns.map .int) ∧ 0 < ns.length ∧ ∀ m, m ∈ ns → (∀ y ∈ ns, m ≤ y) → Q (.int m) s
theorem r1_minL : R1D C (rMin C.K) gMinL := ⟨fun G σ H s x d Q Q' r pk q k => by
  obtain ⟨ns, rfl, h0, q⟩ := q
  obtain ⟨p, xs, rfl, h1, h2⟩ := pk.seq r.fin.gh rfl
  rw [show its (PyData.list (ns.map .int)) = ns.map .int from rfl] at h2
  rw [ints_dpa h2] at h1
  exact ⟨p, ns, rfl, h1, h0, fun m hm hy => k _ _ s G H (q m hm hy) r (Ex.refl G) Gs.refl (.int m)⟩⟩
theorem de_minL (hK : X.K = C.K) (hc : X.calm = true) (hg : Gl X "min") (hm : X.mg "min" = none) (ha : DP X C a ta wa) (hs : starEach [a] X.env = (false, eval a X.env) :: starEach [] X.env := by rfl) :
    DE X C (.Call (.Name "min" p) [a] [] pos) (tCB (rMin C.K) (tCons ta tNil)) (w1 gMinL wa) := de_b1 (hK ▸ cr_min hc) r1_minL hg hm (by decide +kernel) ha (by decide) (by decide) hs
end
end Dw
namespace Dw
open PySem PySem.Spec PyProof.Rows L2 OgR Evl
theorem hu_of1 {k : Nat} {A : Around} (r : Room k A) : A.units < cLine := by have := r.un; omega
end Dw
namespace Dw
open PySem PySem.Spec PyProof.Rows L2 OgR Evl
theorem lcD_enc {α : Type} {g : WG} {tt : WT} {te : WE} {vs : List Nat} {env : List (Option DV)} {c : Cs} {Q : List PyData → Dt → Prop} (l : List α) (enc : α → PyData) (f : α → Option PyData) (hl : l.length ≤ 99999)
    (h : ∀ a ∈ l, ∀ (acc : List PyData) (J : List PyData → Cs → Prop), acc.length < 100000 → (∀ y, f a = some y → J (acc ++ [y]) c) → (f a = none → J acc c) →
      g (enc a) ⟨wipeD env vs, c⟩ fun s2 => tt s2 fun b s3 => s3.env = s2.env ∧ if b = true then te s3 fun y s4 => s4.env = s2.env ∧ acc.length < 100000 ∧ J (acc ++ [y]) s4.c else J acc s3.c) (q : Q (l.filterMap f) ⟨env, c⟩) : LcD (l.map enc) g tt te vs ⟨env, c⟩ Q := by
  refine ⟨fun i acc c' => c' = c ∧ acc = (l.take i).filterMap f, ⟨rfl, rfl⟩, fun i d acc c' hd inv => ?_, fun acc c' inv => ?_⟩
  · obtain ⟨rfl, rfl⟩ := inv
    rw [List.getElem?_map] at hd
    obtain ⟨a, ha, rfl⟩ := Option.map_eq_some_iff.mp hd
    have hi := (List.getElem?_eq_some_iff.mp ha).1
    refine h a (List.mem_of_getElem? ha) _ (fun acc' c'' => c'' = c' ∧ acc' = (l.take (i + 1)).filterMap f) ?_ (fun y hy => ⟨rfl, ?_⟩) (fun hy => ⟨rfl, ?_⟩)
    · have := List.length_filterMap_le f (l.take i)
      rw [List.length_take] at this
      omega
    · rw [List.take_add_one, ha, List.filterMap_append]
      simp [hy]
    · rw [List.take_add_one, ha, List.filterMap_append]
      simp [hy]
  · obtain ⟨rfl, rfl⟩ := inv
    rw [List.length_map, List.take_length]
    exact q
theorem lcD_encM {α : Type} {g : WG} {te : WE} {vs : List Nat} {env : List (Option DV)} {c : Cs} {Q : List PyData → Dt → Prop} (l : List α) (enc : α → PyData) (f : α → PyData) (hl : l.length ≤ 99999)
    (h : ∀ a ∈ l, ∀ (acc : List PyData) (J : List PyData → Cs → Prop), acc.length < 100000 → J (acc ++ [f a]) c → g (enc a) ⟨wipeD env vs, c⟩ fun s2 => te s2 fun y s4 => s4.env = s2.env ∧ acc.length < 100000 ∧ J (acc ++ [y]) s4.c) (q : Q (l.map f) ⟨env, c⟩) : LcD (l.map enc) g (fun s Q => Q true s) te vs ⟨env, c⟩ Q := by
  refine lcD_enc l enc (fun a => some (f a)) hl (fun a ha acc J hacc h1 h0 => ?_) (by rw [List.filterMap_eq_map']; exact q)
  have := h a ha acc J hacc (h1 _ rfl)
  simpa using this
theorem sum_cast : ∀ ns : List Nat, (ns.map fun (n : Nat) => (n : Int)).sum = ((ns.sum : Nat) : Int)
  | [] => rfl
  | a :: l => by
    simp only [List.map_cons, List.sum_cons, sum_cast l]
    omega
theorem gSum_nat {ns : List Nat} {s : Dt} {Q : PyData → Dt → Prop} (h : Q (.int (ns.sum : Nat)) s) : gSum (.list (ns.map fun n => .int (n : Nat))) s Q := by
  refine ⟨ns.map fun (n : Nat) => (n : Int), ?_, ?_⟩
  · rw [List.map_map]
    rfl
  · rw [sum_cast]
    exact h
end Dw
namespace Dw
open PySem PySem.Spec PyProof.Rows L2 OgR Evl
theorem iota_nat (n : Nat) : iotaD 0 (n : Nat) = (List.range n).map fun (i : Nat) => .int (i : Nat) := by
  unfold iotaD
  rw [show ((n : Int) - 0).toNat = n by omega]
  exact List.map_congr_left fun i _ => by rw [Int.zero_add]
theorem iota_nat1 (n : Nat) : iotaD 0 ((n : Int) + 1) = (List.range (n + 1)).map fun (i : Nat) => .int (i : Nat) := by
  rw [show (n : Int) + 1 = ((n + 1 : Nat) : Int) by omega, iota_nat]
end Dw
namespace Dw
open PySem PySem.Spec PyProof.Rows L2 OgR Evl
end Dw
namespace Dw
open PySem PySem.Spec PyProof.Rows L2 OgR Evl
def gSumT : G1 := fun d s Q => ∃ ns : List Int, d = .tuple (ns.map .int) ∧ Q (.int ns.sum) s
end Dw
namespace Dw
open PySem PySem.Spec PyProof.Rows L2 OgR Evl
section
variable {X : Cx} {C : Ct} {b e : Expr} {pos p : Pos} {ty te : TE} {wy we : WE} {x : Str}
def wKGet (i : Nat) (wy : WE) : WE := fun s Q => (∃ kvs0, s.env[i]? = some (some (.dic kvs0))) ∧ wy s fun kd s1 => ∃ kvs k d, s1.env[i]? = some (some (.dic kvs)) ∧ keyD kd = some k ∧ lookG kvs k = some d ∧ Q d s1
def wKAug (i : Nat) (wy we : WE) : WS := fun DD s => (∃ kvs0, s.env[i]? = some (some (.dic kvs0))) ∧ wy s fun kd s1 => ∃ kvs k, ∃ m : Int, s1.env[i]? = some (some (.dic kvs)) ∧ keyD kd = some k ∧ lookG kvs k = some (.int m) ∧
  we s1 fun d s2 => ∃ (n : Int) (kvs2 : _), d = .int n ∧ s2.env[i]? = some (some (.dic kvs2)) ∧ kvs2.length < 100000 ∧ DD.nx (s2.set i (.dic (putG kvs2 k (.int (m + n)))))
end
abbrev KVK := List (Key × PyData)
def DcK (ds : List PyData) (g : WG) (wk wv : WE) (vs : List Nat) (s1 : Dt) (Q : KVK → Dt → Prop) : Prop := ∃ Inv : Nat → KVK → Cs → Prop, Inv 0 [] s1.c ∧
  (∀ (i : Nat) d kvs c, ds[i]? = some d → Inv i kvs c → g d ⟨wipeD s1.env vs, c⟩ fun s2 => wk s2 fun kd s3 => wv s3 fun y s4 => s4.env = s2.env ∧ ∃ k, keyD kd = some k ∧ kvs.length < 100000 ∧ Inv (i + 1) (putG kvs k y) s4.c) ∧
  ∀ kvs c, Inv ds.length kvs c → Q kvs ⟨s1.env, c⟩
def wDcK (j : Nat) (wI : WA) (g : WG) (wk wv : WE) (vs : List Nat) : WS := fun DD s => wI s fun ds s1 => DcK ds g wk wv vs s1 fun kvs s2 => DD.nx (s2.set j (.dic kvs))
end Dw
namespace Dw
open PySem PySem.Spec PyProof.Rows L2 OgR Evl
section
variable {X : Cx} {C : Ct} {o e a f : Expr} {pos p apos cpos : Pos} {to te : TE} {wo we : WE}
def wLIdx (wo we : WE) : WE := fun s Q => wo s fun d s1 => ∃ ds, d = .list ds ∧ we s1 fun y s2 => Shp d ∧ Shp y ∧ ∃ (j : Nat) (z : PyData), ds[j]? = some z ∧ z.eqv y = true ∧ (∀ (m : Nat) (z' : PyData), m < j → ds[m]? = some z' → z'.eqv y = false) ∧ Q (.int (j : Nat)) s2
theorem de_lidx (hK : X.K = C.K) (hu : X.A.units + 65 < cLine) (ho : DE X C o to wo) (he : DE X C e te we)
    (hbase : attributeBase o "index" X.env (eval o X.env) = eval o X.env := by rfl)
    (hfew : ((backTo cpos (starEach (e :: []) X.env)).all (fun x => !x.1) && (backToKw cpos (keywordEach [] X.env)).all (fun x => x.1.isSome)
      && decide ((e :: []).length + ([] : List Keyword).length + (if ([] : List Keyword).isEmpty then 0 else 1) < 30)) = true := by rfl)
    (hline : (apos.endLine == cpos.line) = true := by rfl) (hs : starEach (e :: []) X.env = (false, eval e X.env) :: starEach [] X.env := by rfl) (hplain : (backTo cpos (starEach [] X.env)).any (·.1) = false := by rfl) :
    DE X C (.Call (.Attribute o "index" apos) [e] [] cpos) (tBM C.K "list" (rIndexD C.K) to (tCons te tNil)) (wLIdx wo we) :=
  ⟨hK ▸ pe_bm PySem.F.plainAttrs_list PySem.F.slot_list_index PySem.F.type_list_index (mt_indexD hu) ho.pe (pa_cons he.pe pa_nil hs) hbase hfew hline hs hplain, fun G σ H s Q Q' r q k => ho.ie G σ H s _ _ r q fun v d s1 G1 H1 q1 r1 eg1 g1 p1 => by
    obtain ⟨ds, rfl, q1⟩ := q1
    obtain ⟨b, xs, rfl, sq, da⟩ := dp_seq (H := H1) p1 rfl
    refine ⟨.inl ⟨rfl, xs, Evl.ex_l r1.fin.gh sq⟩, he.ie G1 σ H1 s1 _ _ r1 q1 fun v2 y s2 G2 H2 q2 r2 eg2 g2 p2 => ?_⟩
    obtain ⟨h1, h2, j, z, hz, hzj, hno, q2⟩ := q2
    exact ⟨b, v2, y, ds, j, z, rfl, rfl, dp_ex r2.fin.gh (dp_ex eg2 p1), dp_ex r2.fin.gh p2, h1, h2, hz, hzj, hno, k _ _ s2 G2 H2 q2 r2 (eg1.trans eg2) (g1.trans g2) (.int _)⟩⟩
end
def prI (q : Int × PyData) : PyData := .tuple [.int q.1, q.2]
section
variable {X : Cx} {C : Ct} {o e a f : Expr} {pos p apos cpos : Pos} {ta te tf : TE} {wa we wf : WE}
def wDPGet (wa we wf : WE) : WE := fun s Q => wa s fun d s1 => ∃ ps : List (Int × PyData), d = .list (ps.map prI) ∧ (ps.map (·.1)).Nodup ∧ we s1 fun y s2 => ∃ i : Int, y = .int i ∧ wf s2 fun z s3 => Q ((lookG (ps.map fun q => ((Sum.inl q.1 : Key), q.2)) (.inl i)).getD z) s3
end
end Dw
namespace Dw
open PySem PySem.Spec PyProof.Rows L2 OgR Evl
section
variable {X : Cx} {C : Ct} {a b : Expr} {pos p : Pos} {ta tb : TE} {wa wb : WE}
def wRg2 (wa wb : WE) : WA := fun s Q => wa s fun d s1 => wb s1 fun e s2 => ∃ i j : Int, d = .int i ∧ e = .int j ∧ 0 ≤ i ∧ i ≤ 100000 ∧ 0 ≤ j ∧ j ≤ 100000 ∧ Q (iotaD i j) s2
end
end Dw
namespace Gx
open PySem PySem.Spec PyProof.Rows L2
end Gx
namespace Dw
open PySem PySem.Spec PyProof.Rows L2 OgR Evl Gx
section
variable {X : Cx} {C : Ct} {e : Expr} {es : List Expr} {pos pos' p : Pos} {x : Str} {st : Stmt} {ps : List Str} {k : Nat} {f : Addr} {fd : FuncData} {sp : Sp} {t tA : TA} {wA : WA} {W : L2.WX} {R : Oc → Prop} {E : XK}
def tCX (sp : Sp) (t : TA) (W : L2.WX) : TE := fun σ H Q => t σ H fun zs H1 => sp zs H1 Q (L2.WE W σ)
theorem pe_callX (F : FnGX X.prog X.w X.K X.mg X.base k f fd ps sp) (hG : X.A.guards = some []) (tks : Takes X W) (hr : Room k X.A) (hg : Gl X x) (hm : X.mg x = some (.ref f)) (hk : PySem.W.keepIn X.K (.ref f) = true) (hb : Binds X.K fd ps [])
    (ha : PA X (e :: es) t) (hdb : (x == ("__debug__" : Str)) = false := by decide) (he : starEach (e :: es) X.env = (false, eval e X.env) :: starEach es X.env := by rfl) (hpl : (backTo pos (starEach es X.env)).any (·.1) = false := by rfl) :
    PE X (.Call (.Name x p) (e :: es) [] pos) (tCX sp t W) := by
  refine ⟨fun pins s σ H Q I h => wpAny_Call_Name_kw (ld_glob I hg hm ?_ hdb)⟩
  refine PySem.W.callWith_K (h₀ := X.base) I.ok.mod.kin hk (thn (ha.run pos pins s σ H _ I h) fun us s1 ⟨vs, H1, I1, r, q⟩ => ⟨I1.kIn, ?_⟩) he hpl
  have hl : us.length = ps.length := by rw [← r.length]; exact F.1 _ _ _ _ q
  have hb' := hb s1 us I1.kIn (by rw [List.append_nil]; exact hl)
  rw [List.append_nil] at hb'
  refine wpAny_call (codeAny_mono (F.2 X.A X.stack s1 H1 ⟨us, []⟩ us vs Q (L2.WE W σ) hG hr I1.env0 hb' r q) fun r s' hq => ?_)
  cases r with
  | error e => exact passAt tks σ pins H1 s1 e s' I1 hq
  | ok fl =>
    cases fl with
    | ret u => exact I1.after hq
    | next => exact False.elim hq
    | brk => exact False.elim hq
    | cont => exact False.elim hq
def wExprX (R : Oc → Prop) (F : FX) (wA : WA) : WS := fun DD s => wA s fun ds s1 => F ds fun o => match o with
  | .ok _ => DD.nx s1
  | .ex nm fld d => R (.ex nm fld d)
theorem ds_exprX {F : FX} (D : DefX X.prog X.w X.K X.mg X.base k x st ps (spX C.K X.mg F)) (hK : X.K = C.K) (hx : Exk C.K X.mg C.G0 C.H0 R E) (tk : Takes X (fun cls d _ H => E cls d H)) (hb : C.bx = b0) (hG : X.A.guards = some []) (hr : Room k X.A) (hg : Gl X x)
    (ha : DA X C (e :: es) tA wA) (hdb : (x == ("__debug__" : Str)) = false := by decide) (he : starEach (e :: es) X.env = (false, eval e X.env) :: starEach es X.env := by rfl) (hpl : (backTo pos (starEach es X.env)).any (·.1) = false := by rfl)
    (hs : swapsWith (.Call (.Name x p) (e :: es) [] pos) none pos'.line X.env = pure false := by rfl) :
    DS X C (.Expr (.Call (.Name x p) (e :: es) [] pos) pos') (tDrop (tCX (spX C.K X.mg F) tA (fun cls d _ H => E cls d H))) (wExprX R F wA) := by
  obtain ⟨f, fd, G, Fn, b, m⟩ := D.ex
  refine ⟨ps_expr (pe_callX G hG tk hr hg m Fn.kp b ha.pa hdb he hpl) hs, fun G σ H s D DD r q o => ?_⟩
  refine ha.ia G σ H s _ _ r q fun vs ds s1 G1 H1 q1 r1 eg eh p => ⟨G1, ds, _, r1.fin.gh, p, q1, fun v d G2 H2 q2 eg2 eh2 gh nw pd => ?_, fun nm fld d Cc dx u G2 H2 q2 hm eg2 eh2 gh nw hdx hd2 pd => ?_⟩
  · exact o.nx σ H2 s1 G2 q2 (r1.grow eg2 eh2 gh nw) (eg.trans eg2)
  · have r2 := r1.grow eg2 eh2 gh nw
    have e0 : Ex C.H0 H2 := fun b o hb' => r2.fin.hh b o (by rw [hb]; exact fun z => nomatch z) hb'
    exact hx nm fld d Cc dx u G2 H2 q2 hm r2.fin.g0 e0 gh r2.fin.nw (r1.fin.h0 hdx) hd2 pd
end
end Dw
namespace Dw
open PySem PySem.Spec PyProof.Rows L2 OgR Evl Gx
theorem obs_get {K : PySem.W.Frag} {G H : Hp} : ∀ {os : List Ob} {xs : List Ov}, ObsAt K os G H xs → ∀ {k : Nat} {o : Ob}, os[k]? = some o → ∃ x, xs[k]? = some x ∧ ObAt K G H o x
  | _, _, .nil, k, o, e => by simp at e
  | _, _, .cons h t, 0, o, e => by
    cases e
    exact ⟨_, rfl, h⟩
  | _, _, .cons h t, k + 1, o, e => obs_get t (by simpa using e)
theorem obs_at {K : PySem.W.Frag} {G H : Hp} {os : List Ob} {xs : List Ov} (h : ObsAt K os G H xs) {k : Nat} {o : Ob} {x : Ov} (e : os[k]? = some o) (ex : xs[k]? = some x) : ObAt K G H o x := by
  obtain ⟨y, e2, h2⟩ := obs_get h e
  rw [ex] at e2
  cases e2
  exact h2
/-- one of them is another now, the others stay -/
theorem obs_set {K : PySem.W.Frag} {G H G' H' : Hp} (eg : Ex G G') : ∀ {os : List Ob} {xs : List Ov}, ObsAt K os G H xs → (os.Pairwise fun o o' => ∀ b, o.has b → ¬ o'.has b) → ∀ {k : Nat} {o : Ob} {x : Ov}, os[k]? = some o → (∀ b w, ¬ o.has b → H b = some w → H' b = some w) → ObAt K G' H' o x → ObsAt K os G' H' (xs.set k x)
  | _, _, .nil, _, k, o, x, e, _, _ => by simp at e
  | _, _, .cons (a := o1) h t, nd, 0, o, x, e, fr, n => by
    cases e
    obtain ⟨n1, n2⟩ := List.pairwise_cons.mp nd
    exact .cons n (ObsAt.keep eg t fun o2 m b w hb q => fr b w (fun z => n1 o2 m b z hb) q)
  | _, _, .cons (a := o1) h t, nd, k + 1, o, x, e, fr, n => by
    obtain ⟨n1, n2⟩ := List.pairwise_cons.mp nd
    have e' := (by simpa using e : _)
    refine .cons (h.keep eg fun b w hb q => fr b w (fun z => n1 o (List.mem_of_getElem? e') b hb z) q) (obs_set eg t n2 e' fr n)
section
variable {C : Ct} {G G' H H' : Hp} {σ : L2.St} {s : Dt} {c c' : Cs}
/-- one object changes: nothing else does -/
theorem Rel.obj (r : Rel C G σ H s) {k : Nat} {o : Ob} {x : Ov} (ho : C.bx.obs[k]? = some o) (eg : Ex G G') (fr : ∀ b w, ¬ o.has b → H b = some w → H' b = some w) (n : ObAt C.K G' H' o x) (gh : Ex G' H') (nw : Nw G G' H) :
    Rel C G' σ H' ⟨s.env, s.c.n, s.c.o.set k x⟩ ∧ Gs C σ G H s G' H' ⟨s.env, s.c.n, s.c.o.set k x⟩ := by
  have hm := List.mem_of_getElem? ho
  have gr : Gr C H H' := fun b w nb q => fr b w (fun z => nb (.ofo hm z)) q
  have dom : ∀ b, H b ≠ none → H' b ≠ none := fun b hb z => by
    by_cases q : o.has b
    · obtain ⟨w, e, _⟩ := n.cell q
      rw [z] at e
      cases e
    · cases e : H b with
      | none => exact hb e
      | some w =>
        rw [fr b w q e] at z
        cases z
  refine ⟨r.step (c' := ⟨s.c.n, s.c.o.set k x⟩) eg gr gh nw (obs_set eg r.fin.ob r.fin.ok.nd ho fr n) fun l hl => ?_, gr, dom, fun b w h1 _ h2 hn _ => nw.out h1 h2 hn, fun i y e m => ⟨y, e, m⟩⟩
  obtain ⟨b1, b2, b3, b4⟩ := (r.fin.bx l hl).1
  by_cases q : o.has l
  · obtain ⟨w, e, nt⟩ := n.cell q
    refine ⟨fun z => absurd q (r.fin.ok.nb l (.inl z) o hm), fun z => absurd q (r.fin.ok.nb l (.inr z) o hm), by rw [e]; exact Option.some_ne_none _, fun w2 e2 => ?_⟩
    rw [e] at e2
    cases e2
    exact nt
  · cases e : H l with
    | none => exact absurd e b3
    | some w =>
      have e2 := fr l w q e
      refine ⟨fun z => (b1 z).keep fun w2 q2 => by rw [e] at q2; cases q2; exact e2, fun z => ?_, by rw [e2]; exact Option.some_ne_none _, fun w2 q2 => ?_⟩
      · obtain ⟨ps, h1, h2, h3⟩ := b2 z
        refine ⟨ps, fr l _ q h1, h2, fun pos cv hc => ?_⟩
        obtain ⟨cc, e3, e4⟩ := h3 pos cv hc
        refine ⟨cc, e3, fr cc _ (fun z2 => ?_) e4⟩
        obtain ⟨x0, _, ox⟩ := obs_get r.fin.ob ho
        obtain ⟨w3, e5, e6⟩ := ox.soft z2
        rw [e4] at e5
        cases e5
        cases e6
      · rw [e2] at q2
        cases q2
        exact b4 w e
end
abbrev FM := Sd → List PyData → (Oc → Sd → Prop) → Prop
/-- what is to be had of an exception of a method -/
def Exm (K : PySem.W.Frag) (mg : Str → Option Value) (o : Ob) (G H : Hp) (R : Oc → Sd → Prop) (E : XK) : Prop := ∀ (nm fld : Str) (d : PyData) (S' : Sd) (C dx : Addr) (u : V) (G' H' : Hp), R (.ex nm fld d) S' → mg nm = some (.ref C) → Ex G G' → (∀ b w, ¬ o.has b → H b = some w → H' b = some w) → ObAt K G' H' o (.st S') → Ex G' H' → Nw G G' H → H dx = none → H' dx = some (.xd [(fld, u)]) → Dp K G' u d → E (.ref C) (some dx) H'
def spM (K : PySem.W.Frag) (mg : Str → Option Value) (cS : Addr) (F : FM) : Sp := fun vs H Q E => ∃ (a dx ps pt : Addr) (S : Sd) (vs' : List V) (G : Hp) (ds : List PyData) (R : Oc → Sd → Prop), vs = .ref a :: vs' ∧ ObAt K G H (.st cS a dx ps pt) (.st S) ∧ (∀ b, (Ob.st cS a dx ps pt).has b → G b = none) ∧ Ex G H ∧ DpAll K G vs' ds ∧ F S ds R ∧
  (∀ v d S' G' H', R (.ok d) S' → Ex G G' → (∀ b w, ¬ (Ob.st cS a dx ps pt).has b → H b = some w → H' b = some w) → ObAt K G' H' (.st cS a dx ps pt) (.st S') → Ex G' H' → Nw G G' H → Dp K G' v d → Q v H') ∧ Exm K mg (.st cS a dx ps pt) G H R E
structure FctM (K : PySem.W.Frag) (cS : Addr) (m qual : Str) (st : Stmt) (ps : List Str) : Prop where
  ex : ∃ f fd, Fun K m qual st f fd ∧ Binds K fd ps [] ∧ Meth K cS m f
structure DefM (P : Program) (wd : World) (K : PySem.W.Frag) (mg : Str → Option Value) (base : Heap) (k : Nat) (cS : Addr) (m : Str) (ps : List Str) (sp : Sp) : Prop where
  ex : ∃ f fd, FnGX P wd K mg base k f fd ps sp ∧ Binds K fd ps [] ∧ Meth K cS m f
section
variable {P : Program} {wd : World} {K : PySem.W.Frag} {mg : Str → Option Value} {base : Heap}
/-- where an exception leaves a def -/
def Xt (C : Ct) (mg : Str → Option Value) (E : XK) (RX : Str → Str → PyData → Cs → Prop) : Prop := ∀ (nm fld : Str) (d : PyData) (c : Cs) (Cc dx : Addr) (u : V) (G' H' : Hp), RX nm fld d c → mg nm = some (.ref Cc) → Fin C G' H' c → C.H0 dx = none → H' dx = some (.xd [(fld, u)]) → Dp C.K G' u d → E (.ref Cc) (some dx) H'
theorem ob_nd {cS a dx ps pt : Addr} {b t : Option Addr} (nb : ∀ l, b = some l ∨ t = some l → ¬ (Ob.st cS a dx ps pt).has l) : Bx.ok ⟨b, t, [.st cS a dx ps pt]⟩ := ⟨fun l hl o m => by rw [List.mem_singleton.mp m]; exact nb l hl, List.pairwise_singleton _ _⟩
theorem ob_bxs {x : Bx} {G H : Hp} {o : Ob} {v : Ov} {c : Cs} (h : ObAt K G H o v) {l : Addr} (hl : o.has l) (n1 : x.box ≠ some l) (n2 : x.tab ≠ some l) : Bxs x H l c := by
  obtain ⟨w, e, nt⟩ := h.cell hl
  exact ⟨fun z => absurd z n1, fun z => absurd z n2, by rw [e]; exact Option.some_ne_none _, fun w2 e2 => by rw [e] at e2; cases e2; exact nt⟩
theorem DefM.make {k : Nat} {m qual : Str} {cS : Addr} {st : Stmt} {N ps : List Str} {F : FM} (c : FctM K cS m qual st ps) (S : FnScope N ps (defScope st)) (hl : ∀ T ds R, F T ds R → ds.length + 1 = ps.length)
    (body : ∀ (f : Addr) (cdv : Value) (A : Around) (outer : List Env) (s : Shared) (H G : Hp) (E : XK) (a dx pS pT : Addr) (T : Sd) (ds : List PyData) (R : Oc → Sd → Prop), A.guards = some [] → Room k (A.deeper (envOfC qual (defScope st) s.heap.objs.size f cdv)) → F T ds R →
      Xt ⟨K, ⟨none, none, [.st cS a dx pS pT]⟩, H, G⟩ mg E (fun nm fld d c => ∃ T', c.o = [.st T'] ∧ R (.ex nm fld d) T') →
      ∃ t w, DSs (cxOf (L2.CX P wd) P wd K mg base N qual (defScope st) f cdv A outer s H E) ⟨K, ⟨none, none, [.st cS a dx pS pT]⟩, H, G⟩ (defBody st) t w ∧
        w { nx := fun s => ∃ T', s.c.o = [.st T'] ∧ R (.ok .none) T', rt := fun d c => ∃ T', c.o = [.st T'] ∧ R (.ok d) T' } ⟨env0 N (.ob 0 :: ds.map .d), 0, [.st T]⟩) : DefM P wd K mg base (k + 1) cS m ps (spM K mg cS F) := by
  obtain ⟨f, fd, Fn, b, mt⟩ := c.ex
  refine ⟨f, fd, fnGX_of Fn S (fun vs H Q E h => ?_) (fun cdv A outer s H vs Q E hG hr h => ?_), b, mt⟩
  · obtain ⟨a, dx, pS, pT, T, vs', G, ds, R, rfl, _, _, _, p, hF, _⟩ := h
    rw [List.length_cons, dpa_len p]
    exact hl T ds R hF
  · obtain ⟨a, dx, pS, pT, T, vs', G, ds, R, rfl, hO, hg, gh, p, hF, kk, kx⟩ := h
    have hx : Xt ⟨K, ⟨none, none, [.st cS a dx pS pT]⟩, H, G⟩ mg E (fun nm fld d c => ∃ T', c.o = [.st T'] ∧ R (.ex nm fld d) T') := fun nm fld d c Cc dy u G' H' hR hm f' h0 hd pd => by
      obtain ⟨T', e, hR⟩ := hR
      have ob' := f'.ob
      rw [e] at ob'
      exact kx nm fld d T' Cc dy u G' H' hR hm f'.g0 (fun b w nb q => f'.hh b w (fun z => by cases z with | ob1 z => exact nb z | ob2 z => nomatch z) q) (obs_at ob' (k := 0) rfl rfl) f'.gh f'.nw h0 hd pd
    obtain ⟨t, w, D, hw⟩ := body f cdv A outer s H G E a dx pS pT T ds R hG hr hF hx
    have rel : Rel ⟨K, ⟨none, none, [.st cS a dx pS pT]⟩, H, G⟩ G (L2.start N (.ref a :: vs')) H ⟨env0 N (.ob 0 :: ds.map .d), 0, [.st T]⟩ := by
      refine ⟨⟨gh, Ex.refl G, Nw.refl G H, Gr.refl _ H, ob_nd (fun l hl => by rcases hl with z | z <;> cases z), .cons hO .nil, fun l hl => ?_⟩, env0_len (by rw [List.length_cons, List.length_cons, List.length_map, dpa_len p]), fun i x e => ?_, fun i j x y q _ e1 _ m1 => ?_⟩
      · have hl' : (Ob.st cS a dx pS pT).has l := by cases hl with | ob1 z => exact z | ob2 z => nomatch z
        refine ⟨ob_bxs hO hl' (fun z => nomatch z) (fun z => nomatch z), hg l hl', ?_⟩
        obtain ⟨w, e, _⟩ := hO.cell hl'
        show H l ≠ none
        rw [e]
        exact Option.some_ne_none _
      · have e' := env0_get e
        cases i with
        | zero =>
          cases e'
          exact ⟨.ref a, start_get rfl, _, rfl, rfl⟩
        | succ i =>
          rw [List.getElem?_cons_succ, List.getElem?_map] at e'
          cases q : ds[i]? with
          | none => rw [q] at e'; cases e'
          | some d =>
            rw [q] at e'
            cases e'
            obtain ⟨v, hv, pv⟩ := dpa_back p q
            exact ⟨v, start_get (by rw [List.getElem?_cons_succ]; exact hv), pv⟩
      · have e' := env0_get e1
        cases i with
        | zero => cases e'; cases m1
        | succ i =>
          rw [List.getElem?_cons_succ, List.getElem?_map] at e'
          cases q : ds[i]? with
          | none => rw [q] at e'; cases e'
          | some d => rw [q] at e'; cases e'; cases m1
    refine ⟨t, D.ps, D.is G _ H _ _ _ rel hw ⟨fun σ' H' s' G' hn r' e => ?_, fun _ _ _ _ h => h.elim, fun _ _ _ _ h => h.elim, fun v d c' G' H' hR f' e pv => ?_⟩⟩
    · obtain ⟨T', ec, hn⟩ := hn
      have ob' := r'.fin.ob
      rw [ec] at ob'
      exact kk .non .none T' G' H' hn e (fun b w nb q => r'.fin.hh b w (fun z => by cases z with | ob1 z => exact nb z | ob2 z => nomatch z) q) (obs_at ob' (k := 0) rfl rfl) r'.fin.gh r'.fin.nw .non
    · obtain ⟨T', ec, hR⟩ := hR
      have ob' := f'.ob
      rw [ec] at ob'
      exact kk v d T' G' H' hR e (fun b w nb q => f'.hh b w (fun z => by cases z with | ob1 z => exact nb z | ob2 z => nomatch z) q) (obs_at ob' (k := 0) rfl rfl) f'.gh f'.nw pv
end
end Dw
namespace Dw
open PySem PySem.Spec PyProof.Rows L2 OgR Evl Gx
def Ob.of (cS : Addr) : Ob → Prop
  | .st cl _ _ _ _ => cl = cS
  | .ls _ => True
def OfS (cS : Addr) (os : List Ob) : Prop := ∀ o ∈ os, o.of cS
def Bx.hd (x : Bx) : List V := (x.box.map V.ref).toList ++ x.obs.map fun o => V.ref o.adr
structure InO (K : PySem.W.Frag) (x : Bx) (G H : Hp) (c : Cs) : Prop where
  ok : x.ok
  ob : ObsAt K x.obs G H c.o
  bx : ∀ l, x.has l → Bxs x H l c ∧ G l = none
structure OutO (K : PySem.W.Frag) (x : Bx) (G H G' H' : Hp) (c' : Cs) : Prop where
  eg : Ex G G'
  fr : ∀ b w, ¬ x.has b → H b = some w → H' b = some w
  ob : ObsAt K x.obs G' H' c'.o
  box : ∀ l, x.box = some l → BoxAt H' l c'.n
  gh : Ex G' H'
  nw : Nw G G' H
abbrev FOb := Cs → List PyData → (Oc → Cs → Prop) → Prop
def ExO (K : PySem.W.Frag) (mg : Str → Option Value) (x : Bx) (G H : Hp) (R : Oc → Cs → Prop) (E : XK) : Prop := ∀ (nm fld : Str) (d : PyData) (c' : Cs) (Cc dx : Addr) (u : V) (G' H' : Hp), R (.ex nm fld d) c' → mg nm = some (.ref Cc) → OutO K x G H G' H' c' → H dx = none → H' dx = some (.xd [(fld, u)]) → Dp K G' u d → E (.ref Cc) (some dx) H'
def spObj (K : PySem.W.Frag) (mg : Str → Option Value) (cS : Addr) (wb : Bool) (F : FOb) : Sp := fun vs H Q E => ∃ (x : Bx) (c : Cs) (vs' : List V) (G : Hp) (ds : List PyData) (R : Oc → Cs → Prop), vs = x.hd ++ vs' ∧ x.tab = none ∧ x.box.isSome = wb ∧ OfS cS x.obs ∧ InO K x G H c ∧ Ex G H ∧ DpAll K G vs' ds ∧ F c ds R ∧
  (∀ v d c' G' H', R (.ok d) c' → OutO K x G H G' H' c' → Dp K G' v d → Q v H') ∧ ExO K mg x G H R E
/-- what is picked out of a list by numbers; put back -/
def selV : List Ov → List Nat → Option (List Ov)
  | _, [] => some []
  | o, j :: js => match o[j]?, selV o js with
    | some x, some xs => some (x :: xs)
    | _, _ => none
def putO : List Ov → List Nat → List Ov → List Ov
  | o, j :: js, x :: xs => putO (o.set j x) js xs
  | o, _, _ => o
/-- what a call hands on, of what a def may change -/
structure SubX (C : Ct) (wb : Bool) (js : List Nat) (x : Bx) : Prop where
  tab : x.tab = none
  wbx : x.box.isSome = wb
  box : ∀ l, x.box = some l → C.bx.box = some l
  obs : Paired (fun j o => C.bx.obs[j]? = some o) js x.obs
theorem paired_mem {α β : Type} {F : α → β → Prop} {l : List α} {m : List β} (h : Paired F l m) {y : β} (hy : y ∈ m) : ∃ x ∈ l, F x y := by
  induction h with
  | nil => cases hy
  | cons f _ ih =>
    rcases List.mem_cons.mp hy with rfl | hy
    · exact ⟨_, List.mem_cons_self, f⟩
    · obtain ⟨x, hx, fx⟩ := ih hy
      exact ⟨x, List.mem_cons_of_mem _ hx, fx⟩
section
variable {C : Ct} {G G' H H' : Hp} {σ : L2.St} {s : Dt} {wb : Bool} {js : List Nat} {x : Bx}
theorem SubX.mem (h : SubX C wb js x) {o : Ob} (m : o ∈ x.obs) : ∃ j ∈ js, C.bx.obs[j]? = some o := paired_mem h.obs m
theorem SubX.has (h : SubX C wb js x) {l : Addr} (hl : x.has l) : C.bx.has l := by
  rcases hl.of with z | z | ⟨o, m, z⟩
  · exact .ofb (h.box l z)
  · rw [h.tab] at z
    cases z
  · obtain ⟨j, _, e⟩ := h.mem m
    exact .ofo (List.mem_of_getElem? e) z
end
abbrev WH := Dt → (Bool → List Nat → List PyData → Dt → Prop) → Prop
section
variable {X : Cx} {C : Ct} {e : Expr} {es : List Expr} {pos p : Pos} {t tA : TA} {w : WH} {wA : WA} {y : Str}
def wHOb (i : Nat) (w : WH) : WH := fun s Q => ∃ j, s.env[i]? = some (some (.ob j)) ∧ w s fun wb js ds s1 => wb = false ∧ Q false (j :: js) ds s1
def wHBox (i : Nat) (w : WH) : WH := fun s Q => s.env[i]? = some (some .box) ∧ w s fun wb js ds s1 => wb = false ∧ Q true js ds s1
end
section
variable {P : Program} {wd : World} {K : PySem.W.Frag} {mg : Str → Option Value} {base : Heap}
structure DefO (P : Program) (wd : World) (K : PySem.W.Frag) (mg : Str → Option Value) (base : Heap) (k : Nat) (x : Str) (st : Stmt) (ps : List Str) (cS : Addr) (wb : Bool) (F : FOb) : Prop where
  ex : ∃ f fd, FnG P wd K mg base k f fd ps (spObj K mg cS wb F) ∧ Fun K x x st f fd ∧ Binds K fd ps [] ∧ mg x = some (.ref f)
structure MetO (P : Program) (wd : World) (K : PySem.W.Frag) (mg : Str → Option Value) (base : Heap) (k : Nat) (cS : Addr) (m : Str) (ps : List Str) (F : FOb) : Prop where
  ex : ∃ f fd, FnGX P wd K mg base k f fd ps (spObj K mg cS false F) ∧ Binds K fd ps [] ∧ Meth K cS m f
def hdO (wb : Bool) (m : Nat) : List DV := (if wb = true then [.box] else []) ++ (List.range m).map .ob
theorem hdO_len (wb : Bool) (m : Nat) : (hdO wb m).length = m + if wb = true then 1 else 0 := by
  unfold hdO
  cases wb <;> simp
theorem hd_len {x : Bx} {wb : Bool} (h : x.box.isSome = wb) : x.hd.length = x.obs.length + if wb = true then 1 else 0 := by
  unfold Bx.hd
  cases z : x.box with
  | none =>
    rw [z] at h
    subst h
    simp
  | some l =>
    rw [z] at h
    subst h
    simp
theorem obsAt_len {K : PySem.W.Frag} {G H : Hp} : ∀ {os : List Ob} {cs : List Ov}, ObsAt K os G H cs → os.length = cs.length
  | _, _, .nil => rfl
  | _, _, .cons _ t => by rw [List.length_cons, List.length_cons, obsAt_len t]
/-- the state at the beginning -/
theorem rel0 {x : Bx} {c : Cs} {G H : Hp} {vs' : List V} {ds : List PyData} {wb : Bool} {N : List Str} (ht : x.tab = none) (hb : x.box.isSome = wb) (i : InO K x G H c) (gh : Ex G H) (p : DpAll K G vs' ds) :
    Rel ⟨K, x, H, G⟩ G (L2.start N (x.hd ++ vs')) H ⟨env0 N (hdO wb c.o.length ++ ds.map .d), c⟩ := by
  have hl : (hdO wb c.o.length).length = x.hd.length := by rw [hdO_len, hd_len hb, obsAt_len i.ob]
  have look : ∀ {j : Nat} {y : DV}, (hdO wb c.o.length)[j]? = some y → y.mut = false ∧ ∃ v, x.hd[j]? = some v ∧ RV ⟨K, x, H, G⟩ G H v y := fun {j y} e => by
    unfold hdO at e
    unfold Bx.hd
    have key : ∀ {m : Nat} {y : DV}, ((List.range c.o.length).map DV.ob)[m]? = some y → y.mut = false ∧ ∃ v, (x.obs.map fun o => V.ref o.adr)[m]? = some v ∧ RV ⟨K, x, H, G⟩ G H v y := fun {m y} e => by
      rw [List.getElem?_map] at e
      cases q : (List.range c.o.length)[m]? with
      | none => rw [q] at e; cases e
      | some n =>
        rw [q] at e
        cases e
        obtain ⟨h1, h2⟩ := List.getElem?_eq_some_iff.mp q
        rw [List.getElem_range] at h2
        subst h2
        rw [List.length_range] at h1
        have h3 : m < x.obs.length := by rw [obsAt_len i.ob]; exact h1
        refine ⟨rfl, V.ref x.obs[m].adr, by rw [List.getElem?_map, List.getElem?_eq_getElem h3]; rfl, x.obs[m], List.getElem?_eq_getElem h3, rfl⟩
    cases wb with
    | false =>
      have hn : x.box = none := by
        cases z : x.box with
        | none => rfl
        | some l => rw [z] at hb; cases hb
      rw [hn]
      exact key e
    | true =>
      cases z : x.box with
      | none => rw [z] at hb; cases hb
      | some l =>
        cases j with
        | zero =>
          cases e
          exact ⟨rfl, V.ref l, rfl, l, z, rfl⟩
        | succ j => exact key (by simpa using e)
  have get : ∀ {j : Nat} {y : DV}, (env0 N (hdO wb c.o.length ++ ds.map .d))[j]? = some (some y) → y.mut = false ∧ ∃ v, (L2.start N (x.hd ++ vs'))[j]? = some (some v) ∧ RV ⟨K, x, H, G⟩ G H v y := fun {j y} e => by
    have e' := env0_get e
    by_cases hj : j < (hdO wb c.o.length).length
    · rw [List.getElem?_append_left hj] at e'
      obtain ⟨a1, v, hv, rv⟩ := look e'
      exact ⟨a1, v, start_get (by rw [List.getElem?_append_left (by rw [← hl]; exact hj)]; exact hv), rv⟩
    · rw [List.getElem?_append_right (by omega), List.getElem?_map] at e'
      cases q : ds[j - (hdO wb c.o.length).length]? with
      | none => rw [q] at e'; cases e'
      | some d =>
        rw [q] at e'
        cases e'
        obtain ⟨v, hv, pv⟩ := dpa_back p q
        exact ⟨rfl, v, start_get (by rw [List.getElem?_append_right (by omega), ← hl]; exact hv), pv⟩
  refine ⟨⟨gh, Ex.refl G, Nw.refl G H, Gr.refl _ H, i.ok, i.ob, fun l hl => ⟨(i.bx l hl).1, (i.bx l hl).2, (i.bx l hl).1.ne⟩⟩, env0_len (by rw [List.length_append, List.length_append, List.length_map, hl, dpa_len p]), fun j y e => (get e).2, fun i j y z q _ e1 _ m1 => ?_⟩
  rw [(get e1).1] at m1
  cases m1
theorem Fin.outO {x : Bx} {G H G' H' : Hp} {c' : Cs} (f : Fin ⟨K, x, H, G⟩ G' H' c') : OutO K x G H G' H' c' := ⟨f.g0, fun b w nb q => f.hh b w nb q, f.ob, fun l hl => f.boxAt hl, f.gh, f.nw⟩
theorem MetO.make {k : Nat} {m qual : Str} {cS : Addr} {st : Stmt} {N ps : List Str} {F : FOb} (c : FctM K cS m qual st ps) (S : FnScope N ps (defScope st)) (hl : ∀ c ds R, F c ds R → c.o.length + ds.length = ps.length)
    (body : ∀ (f : Addr) (cdv : Value) (A : Around) (outer : List Env) (s : Shared) (H G : Hp) (E : XK) (x : Bx) (c : Cs) (ds : List PyData) (R : Oc → Cs → Prop), A.guards = some [] → Room k (A.deeper (envOfC qual (defScope st) s.heap.objs.size f cdv)) → x.tab = none → OfS cS x.obs → F c ds R →
      Xt ⟨K, x, H, G⟩ mg E (fun nm fld d c => R (.ex nm fld d) c) →
      ∃ t w, DSs (cxOf (L2.CX P wd) P wd K mg base N qual (defScope st) f cdv A outer s H E) ⟨K, x, H, G⟩ (defBody st) t w ∧
        w { nx := fun s => R (.ok .none) s.c, rt := fun d c => R (.ok d) c } ⟨env0 N (hdO false c.o.length ++ ds.map .d), c⟩) : MetO P wd K mg base (k + 1) cS m ps F := by
  obtain ⟨f, fd, Fn, b, mt⟩ := c.ex
  refine ⟨f, fd, fnGX_of Fn S (fun vs H Q E h => ?_) (fun cdv A outer s H vs Q E hG hr h => ?_), b, mt⟩
  · obtain ⟨x, c, vs', G, ds, R, rfl, _, hb, _, i, _, p, hF, _⟩ := h
    rw [List.length_append, hd_len hb, dpa_len p, obsAt_len i.ob]
    exact hl c ds R hF
  · obtain ⟨x, c, vs', G, ds, R, rfl, ht, hb, hS, i, gh, p, hF, kk, kx⟩ := h
    obtain ⟨t, w, D, hw⟩ := body f cdv A outer s H G E x c ds R hG hr ht hS hF fun nm fld d c Cc dx u G' H' hR hm f' h0 hd pd => kx nm fld d c Cc dx u G' H' hR hm f'.outO h0 hd pd
    exact ⟨t, D.ps, D.is G _ H _ _ _ (rel0 ht hb i gh p) hw ⟨fun σ' H' s' G' hn r' e => kk .non .none _ G' H' hn r'.fin.outO .non, fun _ _ _ _ h => h.elim, fun _ _ _ _ h => h.elim, fun v d c' G' H' hR f' e pv => kk v d c' G' H' hR f'.outO pv⟩⟩
theorem DefO.make {k : Nat} {y : Str} {cS : Addr} {wb : Bool} {st : Stmt} {N ps : List Str} {F : FOb} (c : Fct K mg y st ps) (S : FnScope N ps (defScope st)) (hl : ∀ c ds R, F c ds R → (hdO wb c.o.length).length + ds.length = ps.length)
    (body : ∀ (f : Addr) (cdv : Value) (A : Around) (outer : List Env) (s : Shared) (H G : Hp) (E : XK) (x : Bx) (c : Cs) (ds : List PyData) (R : Oc → Cs → Prop), A.guards = some [] → Room k (A.deeper (envOfC y (defScope st) s.heap.objs.size f cdv)) → x.tab = none → OfS cS x.obs → F c ds R →
      ∃ t w, DSs (cxOf CX0 P wd K mg base N y (defScope st) f cdv A outer s H E).nox ⟨K, x, H, G⟩ (defBody st) t w ∧
        w { nx := fun s => R (.ok .none) s.c, rt := fun d c => R (.ok d) c } ⟨env0 N (hdO wb c.o.length ++ ds.map .d), c⟩) : DefO P wd K mg base (k + 1) y st ps cS wb F := by
  obtain ⟨f, fd, Fn, b, m⟩ := c.ex
  refine ⟨f, fd, fnG_of Fn S (fun vs H Q E h => ?_) (fun cdv A outer s H vs Q E hG hr h => ?_), Fn, b, m⟩
  · obtain ⟨x, c, vs', G, ds, R, rfl, _, hb, _, i, _, p, hF, _⟩ := h
    have := hl c ds R hF
    rw [hdO_len] at this
    rw [List.length_append, hd_len hb, dpa_len p, obsAt_len i.ob]
    exact this
  · obtain ⟨x, c, vs', G, ds, R, rfl, ht, hb, hS, i, gh, p, hF, kk, kx⟩ := h
    obtain ⟨t, w, D, hw⟩ := body f cdv A outer s H G E x c ds R hG hr ht hS hF
    exact ⟨t, D.ps, D.is G _ H _ _ _ (rel0 ht hb i gh p) hw ⟨fun σ' H' s' G' hn r' e => kk .non .none _ G' H' hn r'.fin.outO .non, fun _ _ _ _ h => h.elim, fun _ _ _ _ h => h.elim, fun v d c' G' H' hR f' e pv => kk v d c' G' H' hR f'.outO pv⟩⟩
end
end Dw
namespace Dw
open PySem PySem.Spec PyProof.Rows L2 OgR Evl Gx
abbrev QXd := Str → Str → PyData → Dt → Prop
def wNX (w : WY) : WE := fun s Q => w s Q fun _ _ _ _ => False
section
variable {X : Cx} {C : Ct} {e o : Expr} {es : List Expr} {pos p apos : Pos} {t : L2.WX → TE} {w : WY} {m x y : Str} {ps : List Str} {k : Nat} {f cS : Addr} {fd : FuncData} {sp : Sp} {tA : TA} {ta : TE} {W : L2.WX} {wh : WH} {F : FOb} {st : Stmt} {wb : Bool}
/-- what a call asks, and where it leads -/
def CallsO (F : FOb) (wb0 wb : Bool) (js : List Nat) (ds : List PyData) (s : Dt) (Q : PyData → Dt → Prop) (QX : QXd) : Prop := wb = wb0 ∧ js.Nodup ∧ ∃ xs, selV s.c.o js = some xs ∧ F ⟨if wb0 = true then s.c.n else 0, xs⟩ ds fun o c' => match o with
  | .ok d => Q d ⟨s.env, ⟨if wb0 = true then c'.n else s.c.n, putO s.c.o js c'.o⟩⟩
  | .ex nm fld d => QX nm fld d ⟨s.env, ⟨if wb0 = true then c'.n else s.c.n, putO s.c.o js c'.o⟩⟩
def wCO (F : FOb) (wb0 : Bool) (wh : WH) : WY := fun s Q QX => wh s fun wb js ds s1 => CallsO F wb0 wb js ds s1 Q QX
def wMX (i : Nat) (F : FOb) (wh : WH) : WY := fun s Q QX => ∃ j S, s.env[i]? = some (some (.ob j)) ∧ s.c.o[j]? = some (.st S) ∧ wh s fun wb js ds s1 => wb = false ∧ CallsO F false false (j :: js) ds s1 Q QX
end
end Dw
namespace Dw
open PySem PySem.Spec PyProof.Rows L2 OgR Evl Gx
inductive SF where
  | states | told
def SF.nm : SF → Str
  | .states => "states"
  | .told => "told"
def Sd.fld (S : Sd) : SF → List PyData
  | .states => S.states
  | .told => S.told
def Sd.put (S : Sd) : SF → List PyData → Sd
  | .states, ds => ⟨S.plots, ds, S.told⟩
  | .told, ds => ⟨S.plots, S.states, ds⟩
section
variable {X : Cx} {C : Ct} {e : Expr} {es : List Expr} {pos p apos cpos yp : Pos} {t ty te : TE} {w wy we : WE} {y : Str} {cS : Addr}
def wPlots (i : Nat) : WE := fun s Q => ∃ j S, s.env[i]? = some (some (.ob j)) ∧ s.c.o[j]? = some (.st S) ∧ Q (.int S.plots) s
/-- self.f[e] -/
def wFldIx (f : SF) (i : Nat) (we : WE) : WE := fun s Q => ∃ j S0, s.env[i]? = some (some (.ob j)) ∧ s.c.o[j]? = some (.st S0) ∧ we s fun d s1 => ∃ n S z, d = .int n ∧ s1.c.o[j]? = some (.st S) ∧ atI (S.fld f) n = some z ∧ Q z s1
/-- len(self.f) -/
def wFldLen (f : SF) (i : Nat) : WE := fun s Q => ∃ j S, s.env[i]? = some (some (.ob j)) ∧ s.c.o[j]? = some (.st S) ∧ Q (.int (S.fld f).length) s
/-- list(self.f) -/
def wFldList (f : SF) (i : Nat) : WA := fun s Q => ∃ j S, s.env[i]? = some (some (.ob j)) ∧ s.c.o[j]? = some (.st S) ∧ Q (S.fld f) s
/-- self.f.append(e) -/
def wFldApp (f : SF) (i : Nat) (we : WE) : WS := fun DD s => ∃ j S0, s.env[i]? = some (some (.ob j)) ∧ s.c.o[j]? = some (.st S0) ∧ we s fun d s1 => ∃ S, s1.c.o[j]? = some (.st S) ∧ NoL d = true ∧ (S.fld f).length < 100000 ∧ DD.nx ⟨s1.env, ⟨s1.c.n, s1.c.o.set j (.st (S.put f (S.fld f ++ [d])))⟩⟩
/-- self.f.pop() -/
def wFldPop (f : SF) (i : Nat) : WS := fun DD s => ∃ j S, s.env[i]? = some (some (.ob j)) ∧ s.c.o[j]? = some (.st S) ∧ S.fld f ≠ [] ∧ DD.nx ⟨s.env, ⟨s.c.n, s.c.o.set j (.st (S.put f (S.fld f).dropLast))⟩⟩
end
end Dw
namespace Dw
open PySem PySem.Spec PyProof.Rows L2 OgR Evl Gx
section
variable {X : Cx} {C : Ct} {G G' H H' : Hp} {σ : L2.St} {s : Dt} {e : Expr} {es : List Expr} {pos pos' p rp : Pos} {t : L2.WX → TE} {w : WY} {te : TE} {we : WE} {tA : TA} {wA : WA} {E : XK} {RX : Str → Str → PyData → Cs → Prop} {x fld : Str} {st : Stmt} {ps : List Str} {k : Nat} {tup : Bool} {Cc : Addr}
/-- what an exception holds becomes data of the heap -/
theorem Rel.pin (r : Rel C G σ H s) {dx : Addr} {l : List (Str × V)} (hd : H dx = some (.xd l)) (h0 : C.H0 dx = none) : Rel C (upd G dx (.xd l)) σ H s ∧ Ex G (upd G dx (.xd l)) := by
  have eg : Ex G (upd G dx (.xd l)) := fun b o hb => by
    by_cases z : b = dx
    · subst z
      have := r.fin.gh _ _ hb
      rw [hd] at this
      cases this
      exact upd_same
    · rw [upd_ne z]
      exact hb
  have nd : ∀ {p : Addr} {o : HO}, H p = some o → (∀ l, o ≠ .xd l) → p ≠ dx := fun h n z => by
    rw [z, hd] at h
    cases h
    exact n _ rfl
  refine ⟨⟨⟨fun b o hb => ?_, r.fin.g0.trans eg, fun b hb => ?_, r.fin.hh, r.fin.ok, r.fin.obe eg (Ex.refl H), fun l' hl => ⟨(r.fin.bx l' hl).1, ?_, (r.fin.bx l' hl).2.2⟩⟩, r.len, fun i y ey => ?_, r.dis⟩, eg⟩
  · by_cases z : b = dx
    · subst z
      rw [upd_same] at hb
      cases hb
      exact hd
    · rw [upd_ne z] at hb
      exact r.fin.gh b o hb
  · by_cases z : b = dx
    · exact .inr (.inl (by rw [z]; exact h0))
    · rw [upd_ne z] at hb
      exact r.fin.nw b hb
  · rw [upd_ne fun z => r.fin.nbx h0 (by rw [← z]; exact hl)]
    exact (r.fin.bx l' hl).2.1
  · obtain ⟨v, hv, rv⟩ := r.sl i y ey
    refine ⟨v, hv, ?_⟩
    cases y with
    | d x => exact dp_ex eg rv
    | box => exact rv
    | ob _ => exact rv
    | obl _ => exact obl_ex eg rv
    | own ds =>
      obtain ⟨p, xs, a1, a2, a3, a4, a5⟩ := rv
      exact ⟨p, xs, a1, a2, a3, by rw [upd_ne (nd a2 fun _ z => by cases z)]; exact a4, dpa_ex eg a5⟩
    | dic ks =>
      obtain ⟨p, xs, a1, a2, a3, a4, a5⟩ := rv
      exact ⟨p, xs, a1, a2, a3, by rw [upd_ne (nd a2 fun _ z => by cases z)]; exact a4, paired_mapP a5 fun a b q => ⟨q.1, dp_ex eg q.2⟩⟩
    | dit ks =>
      obtain ⟨p, xs, a1, a2, a3, a4, a5⟩ := rv
      exact ⟨p, xs, a1, a2, a3, by rw [upd_ne (nd a2 fun _ z => by cases z)]; exact a4, paired_mapP a5 fun a b q => ⟨q.1, dp_ex eg q.2⟩⟩
    | oth φ => exact Oth.step (φ := φ) rv eg (Kept.refl C H)
    | dd ks =>
      obtain ⟨p, xs, a1, a2, a5⟩ := rv
      exact ⟨p, xs, a1, a2, paired_mapP a5 fun a b q => ⟨q.1, dp_ex eg q.2⟩⟩
/-- a def that may raise -/
def wCX (F : FX) (wA : WA) : WY := fun s Q QX => wA s fun ds s1 => F ds fun o => match o with
  | .ok d => Q d s1
  | .ex nm fld d => QX nm fld d s1
/-- raise C(e), in a method -/
def wRaiseO (RX : Str → Str → PyData → Cs → Prop) (x fld : Str) (tup : Bool) (we : WE) : WS := fun _ s => we s fun d s1 => okF tup d = true ∧ RX x fld d s1.c
def wRetFin (RX : Str → Str → PyData → Cs → Prop) (w : WY) (wf : WS) : WS := fun DD s => w s (fun d s1 => wf { nx := fun s2 => DD.rt d s2.c, rt := fun _ _ => False } s1) fun nm fld d s1 => wf { nx := fun s2 => RX nm fld d s2.c, rt := fun _ _ => False } s1
end
end Dw
namespace Dw
open PySem PySem.Spec PyProof.Rows L2 OgR Evl Gx
section
variable {X : Cx} {C : Ct} {e : Expr} {s1 s2 f0 : Stmt} {fs : List Stmt} {pos rp : Pos} {t1 t2 tf : TS} {w1 w2 wf : WS} {te : TE} {we : WE} {E : XK} {RX : Str → Str → PyData → Cs → Prop} {Wout : L2.WX}
def wRetFin3 (w1 w2 wf : WS) (we : WE) : WS := fun DD s => w1 { nx := fun z1 => w2 { nx := fun z2 => we z2 fun d z3 => wf { nx := fun z4 => DD.rt d z4.c, rt := fun _ _ => False } z3, rt := fun _ _ => False } z1, rt := fun _ _ => False } s
end
end Dw
namespace Dw
open PySem PySem.Spec PyProof.Rows L2 OgR Evl Gx
structure MoreO (C : Ct) (o : Ob) (C' : Ct) : Prop where
  k : C'.K = C.K
  bx : C'.bx = ⟨C.bx.box, C.bx.tab, C.bx.obs ++ [o]⟩
  g0 : C'.G0 = C.G0
  f1 : ∀ b, o.has b → C.H0 b = none
  f2 : ∀ b, o.has b → C'.H0 b ≠ none
  f3 : ∀ b, ¬ o.has b → C'.H0 b = C.H0 b
/-- what is let go at the end -/
def lowV (m : Nat) : Option DV → Option DV
  | some (.ob k) => if k < m then some (.ob k) else none
  | some (.obl ks) => if ks.all (fun k => decide (k < m)) = true then some (.obl ks) else none
  | x => x
def Dt.low (m : Nat) (s : Dt) : Dt := ⟨s.env.map (lowV m), ⟨s.c.n, s.c.o.take m⟩⟩
def DEnds.low (m : Nat) (DD : DEnds) : DEnds := { nx := fun s => DD.nx (s.low m), rt := fun d c => DD.rt d ⟨c.n, c.o.take m⟩, bk := fun s => DD.bk (s.low m), ct := fun s => DD.ct (s.low m) }
section
variable {C C' : Ct} {G G1 G2 H H1 H2 : Hp} {σ : L2.St} {s : Dt} {o : Ob} {v : Ov} {c : Cs}
theorem MoreO.has (m : MoreO C o C') {l : Addr} : C'.bx.has l ↔ C.bx.has l ∨ o.has l := by
  rw [m.bx]
  constructor
  · intro h
    rcases h.of with z | z | ⟨o2, m2, z⟩
    · exact .inl (.ofb z)
    · exact .inl (.oft z)
    · rcases List.mem_append.mp m2 with q | q
      · exact .inl (.ofo q z)
      · rw [List.mem_singleton.mp q] at z
        exact .inr z
  · rintro (h | h)
    · rcases h.of with z | z | ⟨o2, m2, z⟩
      · exact .ofb z
      · exact .oft z
      · exact .ofo (List.mem_append_left _ m2) z
    · exact .ofo (List.mem_append_right _ List.mem_cons_self) h
theorem Bxs.as {x x' : Bx} {l : Addr} {c' : Cs} (h : Bxs x H l c) (e1 : x'.box = x.box) (e2 : x'.tab = x.tab) (e3 : c'.n = c.n) : Bxs x' H l c' := ⟨fun z => by rw [e3]; exact h.box (e1 ▸ z), fun z => h.tab (e2 ▸ z), h.ne, h.nt'⟩
end
/-- an expression that makes a street -/
abbrev WNs := Dt → (Sd → Dt → Prop) → Prop
structure NewS (C : Ct) (cS : Addr) (G1 H1 G2 H2 : Hp) (o : Ob) (S : Sd) : Prop where
  eg : Ex G1 G2
  eh : Ex H1 H2
  gh : Ex G2 H2
  nw : Nw G1 G2 H1
  of : ∃ a dx ps pt, o = .st cS a dx ps pt
  ob : ObAt C.K G2 H2 o (.st S)
  fr : ∀ b, o.has b → H1 b = none ∧ G2 b = none
section
variable {X : Cx} {C : Ct} {e : Expr} {es : List Expr} {sts : List Stmt} {pos p yp : Pos} {te : TE} {we : WE} {t tb : TS} {wb : WS} {tn : TE} {wn : WNs} {y : Str} {cS : Addr} {G1 G2 H1 H2 : Hp} {o : Ob} {S : Sd} {σ : L2.St} {s : Dt} {k : Nat}
theorem OfS.push {C' : Ct} (hC : OfS cS C.bx.obs) (n : ∃ a dx ps pt, o = Ob.st cS a dx ps pt) (m : MoreO C o C') : OfS cS C'.bx.obs := by
  rw [m.bx]
  intro o2 h
  rcases List.mem_append.mp h with q | q
  · exact hC o2 q
  · rw [List.mem_singleton.mp q]
    obtain ⟨a, dx, ps, pt, rfl⟩ := n
    exact rfl
/-- x = a new street; the rest -/
def wNewO (i : Nat) (wn : WNs) (wb : WS) : WS := fun DD s => wn s fun S s1 => wb (DD.low s1.c.o.length) ⟨s1.env.set i (some (.ob s1.c.o.length)), ⟨s1.c.n, s1.c.o ++ [.st S]⟩⟩
end
end Dw
namespace Dw
open PySem PySem.Spec PyProof.Rows L2 OgR Evl Gx
def initS (n : Int) : Sd := ⟨n, [.tuple [.tuple [], .tuple []]], []⟩
section
variable {X : Cx} {C : Ct} {e : Expr} {es : List Expr} {pos p yp zp : Pos} {te : TE} {we : WE} {y z : Str} {cS : Addr} {k : Nat}
def wMk (we : WE) : WNs := fun s Q => we s fun d s1 => ∃ n, d = .int n ∧ Q (initS n) s1
end
end Dw
namespace Dw
open PySem PySem.Spec PyProof.Rows L2 OgR Evl Gx
section
variable {X : Cx} {C : Ct} {e : Expr} {es : List Expr} {pos p yp zp : Pos} {te : TE} {we : WE} {y z : Str} {cS : Addr} {k : Nat} {f : Addr} {fd : FuncData} {ps : List Str} {sp : Sp} {F : FOb}
def wLenO (i : Nat) (F : FOb) : WE := fun s Q => ∃ j S, s.env[i]? = some (some (.ob j)) ∧ s.c.o[j]? = some (.st S) ∧ CallsO F false false [j] [] s (fun d s1 => ∃ n : Int, d = .int n ∧ 0 ≤ n ∧ n < 2 ^ 63 ∧ Q d s1) fun _ _ _ _ => False
/-- isinstance(x, Street) -/
def wIsiO (i : Nat) : WE := fun s Q => ∃ x, s.env[i]? = some (some x) ∧ ((∃ j S, x = .ob j ∧ s.c.o[j]? = some (.st S) ∧ Q (.bool true) s) ∨ ∃ d, x = .d d ∧ Q (.bool false) s)
def wEqO (i l : Nat) (F : FOb) : WE := fun s Q => ∃ j S j' S', s.env[i]? = some (some (.ob j)) ∧ s.env[l]? = some (some (.ob j')) ∧ s.c.o[j]? = some (.st S) ∧ s.c.o[j']? = some (.st S') ∧ CallsO F false false [j, j'] [] s (fun d s1 => ∃ t, d = .bool t ∧ Q d s1) fun _ _ _ _ => False
end
end Dw
namespace Dw
open PySem PySem.Spec PyProof.Rows L2 OgR Evl Gx
theorem hdO_1 : hdO false 1 = [.ob 0] := rfl
theorem hdO_2 : hdO false 2 = [.ob 0, .ob 1] := rfl
theorem hdO_b0 : hdO true 0 = [.box] := rfl
theorem hdO_b1 : hdO true 1 = [.box, .ob 0] := rfl
theorem hdO_b2 : hdO true 2 = [.box, .ob 0, .ob 1] := rfl
theorem selV_nil (o : List Ov) : selV o [] = some [] := rfl
theorem sel0 (x : Ov) (r : List Ov) : selV (x :: r) [0] = some [x] := rfl
theorem sel1 (x y : Ov) (r : List Ov) : selV (x :: y :: r) [1] = some [y] := rfl
theorem sel2 (x y z : Ov) (r : List Ov) : selV (x :: y :: z :: r) [2] = some [z] := rfl
theorem sel01 (x y : Ov) (r : List Ov) : selV (x :: y :: r) [0, 1] = some [x, y] := rfl
theorem sel10 (x y : Ov) (r : List Ov) : selV (x :: y :: r) [1, 0] = some [y, x] := rfl
theorem put0 (x y : Ov) (r : List Ov) : putO (x :: r) [0] [y] = y :: r := rfl
theorem put1 (x x' y : Ov) (r : List Ov) : putO (x :: x' :: r) [1] [y] = x :: y :: r := rfl
theorem put2 (x x' x'' y : Ov) (r : List Ov) : putO (x :: x' :: x'' :: r) [2] [y] = x :: x' :: y :: r := rfl
theorem put01 (x x' y y' : Ov) (r : List Ov) : putO (x :: x' :: r) [0, 1] [y, y'] = y :: y' :: r := rfl
theorem put10 (x x' y y' : Ov) (r : List Ov) : putO (x :: x' :: r) [1, 0] [y, y'] = y' :: y :: r := rfl
theorem putN (o : List Ov) : putO o [] [] = o := rfl
theorem tk0 (r : List Ov) : r.take 0 = [] := rfl
theorem tk1 (x : Ov) (r : List Ov) : (x :: r).take 1 = [x] := rfl
theorem tk2 (x y : Ov) (r : List Ov) : (x :: y :: r).take 2 = [x, y] := rfl
theorem nd1 (j : Nat) : [j].Nodup = True := by simp
theorem nd01 : [0, 1].Nodup = True := by simp
theorem nd10 : [1, 0].Nodup = True := by simp
theorem ndN : ([] : List Nat).Nodup = True := by simp
theorem low_box (m : Nat) : lowV m (some .box) = some .box := rfl
theorem low_d (m : Nat) (d : PyData) : lowV m (some (.d d)) = some (.d d) := rfl
theorem low_own (m : Nat) (d : List PyData) : lowV m (some (.own d)) = some (.own d) := rfl
theorem low_none (m : Nat) : lowV m none = none := rfl
theorem low_ob (m k : Nat) : lowV m (some (.ob k)) = if k < m then some (.ob k) else none := rfl
theorem sd_states (p : Int) (a b : List PyData) : Sd.fld ⟨p, a, b⟩ .states = a := rfl
theorem sd_told (p : Int) (a b : List PyData) : Sd.fld ⟨p, a, b⟩ .told = b := rfl
theorem sd_put1 (p : Int) (a b c : List PyData) : Sd.put ⟨p, a, b⟩ .states c = ⟨p, c, b⟩ := rfl
theorem sd_put2 (p : Int) (a b c : List PyData) : Sd.put ⟨p, a, b⟩ .told c = ⟨p, a, c⟩ := rfl
theorem noL_int (i : Int) : NoL (.int i) = true := rfl
theorem noL_str (i : Str) : NoL (.str i) = true := rfl
theorem noL_tup (ds : List PyData) : NoL (.tuple ds) = NoLA ds := by unfold NoL; rfl
theorem noLA_cons (d : PyData) (ds : List PyData) : NoLA (d :: ds) = (NoL d && NoLA ds) := by
  rw [NoLA]
theorem noLA_nil : NoLA [] = true := rfl
theorem noLA_ints (l : List Int) : NoLA (l.map .int) = true := NoLA.of fun x hx => by
  obtain ⟨i, _, rfl⟩ := List.mem_map.mp hx
  rfl
end Dw
namespace Dw
open PySem PySem.Spec PyProof.Rows L2 OgR Evl Gx
structure FunD (K : PySem.W.Frag) (m qual : Str) (st : Stmt) (a : Addr) (fd : FuncData) : Prop where
  at_ : ∃ (dv kv : Value) (u1 u2 : Value) (an : Option Addr) (cd ct oc : Value) (od : Option Addr) (sl : Array (Option Value)),
    K.lookup a = some ⟨oc, od, .func fd, sl⟩ ∧ PySem.W.codeIn K cd qual = true ∧ fd = PySem.W.fnOf m qual (defArgs st) (defBody st) (defScope st) dv kv u1 u2 an cd ct
theorem FunD.run {P : Program} {w : World} {K : PySem.W.Frag} {mg : Str → Option Value} {base : Heap} {m qual : Str} {st : Stmt} {a : Addr} {fd : FuncData} {N ps : List Str} {k : Nat} {sp : Sp} (F : FunD K m qual st a fd) (S : FnScope N ps (defScope st)) (hl : ∀ vs H Q E, sp vs H Q E → vs.length = ps.length)
    (body : ∀ (cd : Value) (A : Around) (out : List Env) (s : Shared) (H : Hp) (vs : List V) (Q : VK) (E : XK), Room k (A.deeper (envOfC qual (defScope st) s.heap.objs.size a cd)) → sp vs H Q E →
      ∃ t, PSs (cxOf L2.CX0 P w K mg base N qual (defScope st) a cd A out s H E).nox (defBody st) t ∧ t { nx := fun _ H' => Q .non H', rt := Q } (start N vs) H) : FnOk P w K mg base L2.CX0 (k + 1) a fd ps sp := by
  obtain ⟨dv, kv, u1, u2, an, cd, ct, oc, od, sl, l, c, rfl⟩ := F.at_
  exact fn_of l c S hl fun A out s H vs Q E hr h => by
    obtain ⟨t, p, q⟩ := body cd A out s H vs Q E hr h
    exact ⟨t, p.nox, q⟩
end Dw
namespace Gx
open PySem PySem.Spec PyProof.Rows L2
section
variable {M : Model} {A : Around} {s : Shared} {E : Value → Shared → Prop}
theorem each_on {α β : Type} {f : α → β → Sem (ForInStep β)} {b : β} {Q : β → Shared → Prop} : ∀ {cs : List α}, (∀ c ∈ cs, ∀ R : ForInStep β → Shared → Prop, R (.yield b) s → wpAny M A (f c b) R E s) → Q b s → wpAny M A (forIn cs b f) Q E s
  | [], _, q => by
    simp only [List.forIn_nil]
    exact wpAny_pure q
  | c :: cs, h, q => by
    simp only [List.forIn_cons]
    exact wpAny_bind (h c List.mem_cons_self _ (each_on (fun c' hc => h c' (List.mem_cons_of_mem _ hc)) q))
theorem each_any {α β : Type} {f : α → β → Sem (ForInStep β)} {b b1 : β} {p : α → Bool} {Q : β → Shared → Prop} : ∀ {cs : List α}, (∀ c ∈ cs, ∀ R : ForInStep β → Shared → Prop, R (if p c = true then .done b1 else .yield b) s → wpAny M A (f c b) R E s) → Q (if cs.any p = true then b1 else b) s → wpAny M A (forIn cs b f) Q E s
  | [], _, q => by
    simp only [List.forIn_nil]
    exact wpAny_pure q
  | c :: cs, h, q => by
    simp only [List.forIn_cons]
    refine wpAny_bind (h c List.mem_cons_self _ ?_)
    rw [List.any_cons] at q
    cases hp : p c with
    | true =>
      rw [hp] at q
      exact wpAny_pure q
    | false =>
      rw [hp, Bool.false_or] at q
      exact each_any (fun c' hc => h c' (List.mem_cons_of_mem _ hc)) q
end
section
variable {M : Model} {K : PySem.W.Frag}
def exOn (K : PySem.W.Frag) (cls c : Value) : Bool := (PySem.W.exmOne K cls c).getD false
theorem exm_some {cls : Value} : ∀ {cs : List Value} {b : Bool}, PySem.W.exmAny K cls cs = some b → (∀ c ∈ cs, PySem.W.exmOne K cls c = some (exOn K cls c)) ∧ b = cs.any (exOn K cls)
  | [], b, h => ⟨fun _ z => (nomatch z), (Option.some.inj h).symm⟩
  | c :: cs, b, h => by
    obtain ⟨b1, d1, h1, h2, e⟩ := PySem.W.exmAny_cons h
    obtain ⟨h3, h4⟩ := exm_some h2
    have e1 : exOn K cls c = b1 := by unfold exOn; rw [h1]; rfl
    refine ⟨fun c' hc => ?_, ?_⟩
    · rcases List.mem_cons.mp hc with rfl | hc
      · rw [h1, e1]
      · exact h3 c' hc
    · rw [List.any_cons, e1, e, h4]
theorem exm_all {cs : List Value} {cls : Value} {tp e : Addr} {b : Bool} {h : Heap} (hI : K.In h) (LT : PySem.W.Looks M h (typeOf (.ref e)) cls) (hp : h.get? tp = some { cls := .type "tuple", data := .seq cs.toArray }) (hx : PySem.W.exmAny K cls cs = some b) :
    PySem.W.Looks M h (excMatches (.ref e) (.ref tp)) b := by
  obtain ⟨h1, rfl⟩ := exm_some hx
  intro A Q E s k q
  have isT : PySem.W.Looks M h (isInstance (.ref tp) (.type "tuple")) true := ((PySem.W.Looks.ld hp).andThen .now).andThen (PySem.W.Looks.of_pure isSubtype_tuple_tuple)
  obtain ⟨hh, g, d, tk, os⟩ := s
  have hp' := k _ _ hp
  unfold excMatches
  refine wpAny_bind ((isT.keeps k).at ?_)
  dsimp only
  rw [if_pos rfl]
  first
    | refine wpAny_bind (wpAny_seqItems hp' rfl ?_)
    | refine wpAny_bind (wpAny_bind (wpAny_seqItems hp' rfl (wpAny_pure ?_)))
  dsimp only [Option.getD_some, Option.getD]
  first
    | refine wpAny_bind (wpAny_pure ?_)
    | skip
  refine wpAny_bind (each_on (fun c hc R r => ?_) ?_)
  · refine wpAny_bind (((PySem.W.exm_cls (M := M) hI (h1 c hc)).1.keeps k).at ?_)
    simp only [Bool.not_true, Bool.false_eq_true, if_false]
    exact wpAny_pure r
  · refine wpAny_bind ((LT.keeps k).at ?_)
    refine wpAny_bind (each_any (p := exOn K cls) (b1 := (some true, ())) (fun c hc R r => ?_) ?_)
    · refine wpAny_bind (((PySem.W.exm_cls (M := M) hI (h1 c hc)).2.keeps k).at ?_)
      cases z : exOn K cls c with
      | true => rw [z] at r; exact wpAny_pure r
      | false => rw [z] at r; exact wpAny_pure r
    · cases z : cs.any (exOn K cls) with
      | true => rw [z] at q; exact wpAny_pure q
      | false => rw [z] at q; exact wpAny_pure q
end
section
inductive NmsT (X : Cx) : List Expr → List Value → Prop
  | nil : NmsT X [] []
  | cons {x : Str} {q : Pos} {c : Value} {es : List Expr} {cs : List Value} (h : Names X x c) (r : NmsT X es cs) : NmsT X (.Name x q :: es) (c :: cs)
variable {X : Cx} {es : List Expr} {cs : List Value} {n m : Str} {i j : Nat} {body : List Stmt} {tp mp np ap pos pos' : Pos} {kk : Nat} {tb : WX → TS} {Wout : WX}
theorem ps_try_keepN (hex : X.ex = []) (hs : X.stack = X.env :: X.outer) (hf : X.env.frame = some X.env.locals) (hN : X.N.Nodup) (hi : X.N[i]? = some n) (hln : X.env.kindOf n = some .local) (hj : X.N[j]? = some m) (hlm : X.env.kindOf m = some .local)
    (nms : NmsT X es cs) (hcs : cs.length ≤ 100) (tk : Takes X Wout)
    (hb : ∀ (W : WX) (pn : List (Addr × Obj)) (xe : Value → Shared → Prop), Takes (X.tr pn xe) W → PassesOwn (model X.prog X.w) X.A X.env xe → PSs (X.tr pn xe) body (tb W))
    (hsu : ∀ (a : Addr) (oe : Obj) (pn : List (Addr × Obj)), PSs (X.suite a ((a, oe) :: pn)) [.Assign [.Name m mp] (.Name n np) ap] (tAsg (tVar i) (gName j))) :
    PS X (.Try body [.ExceptHandler (some (.Tuple es kk tp)) (some n) [.Assign [.Name m mp] (.Name n np) ap] pos'] [] [] pos) (fun D σ H => tb (wKeep X.K cs i j Wout D) D σ H) := by
  refine ⟨fun pins s σ H D I h => ?_⟩
  have ok := I.ok
  have fr : X.A.frames = some (X.env :: X.outer) := by rw [ok.frames, hs]
  refine wpAny_Try_except ?_
  refine wpAny_mono ((hb (wKeep X.K cs i j Wout D) (X.pn ++ pins) (fun e s1 => wpAny (model X.prog X.w) X.A (noteFrame e X.env) (fun _ s2 => wpAny (model X.prog X.w) X.A (setFlight e none) (fun _ s3 =>
    wpAny (model X.prog X.w) X.A (handleBy e X.env [.ExceptHandler (some (.Tuple es kk tp)) (some n) [.Assign [.Name m mp] (.Name n np) ap] pos']) (SP X pins D) X.xe s3) X.xe s2) X.xe s1) (fun u s' xx => ?_) PassesOwn.looking).run [] s σ H D (I.toTry _) h) (fun fl s1 hsp => ?_) (fun _ _ he => he)
  · obtain ⟨a, B, sI, pins', σ', H', cls, d, rfl, J', nb, up, sky, na, os, ag, b, hb1, yes, no⟩ := xx
    have J : Inv X pins σ' H' sI := J'.ofTry ok
    have sky1 : Sky B (X.env :: X.outer) a (Zc cls d) X.env.locals s'.heap := hs ▸ sky
    show wpAny (model X.prog X.w) X.A (noteFrame (.ref a) X.env) _ _ _
    refine Sky.land Zc.steady fr hf sky1 fun h3 fl3 up3 => ?_
    obtain ⟨oe3, vs3, he3, hz3, hd3⟩ := fl3.there
    have Ba : B.get? a = none := fl3.2.1
    have nfr : a ∉ frs (X.env :: X.outer) := fun hm => by
      obtain ⟨_, o1, e1, hnf⟩ := fl3.2.2.1.mem hm
      rw [he3] at e1
      cases e1
      exact hnf _ hd3
    have nL : a ≠ X.env.locals := fun z => nfr (List.mem_filterMap.mpr ⟨X.env, List.mem_cons_self, by rw [hf, z]⟩)
    have nF : a ∉ X.fs := fun hm => by
      obtain ⟨e, he, q⟩ := List.mem_filterMap.mp hm
      exact nfr (List.mem_filterMap.mpr ⟨e, List.mem_cons_of_mem _ he, q⟩)
    have notI : ∀ o, sI.heap.get? a ≠ some o := fun o e => by
      rw [nb a o e (by rw [hs]; exact nfr)] at Ba
      cases Ba
    have n0 : X.s_0.heap.get? a = none := by
      cases z : X.s_0.heap.get? a with
      | none => rfl
      | some o =>
        obtain ⟨o1, e1⟩ := J.base.there a o z (by rw [hex]; exact fun z => nomatch z)
        exact absurd e1 (notI o1)
    have nP : ∀ p ∈ X.pn ++ pins, p.1 ≠ a := fun p hp z => by
      have := (J.pin p hp).1
      rw [z] at this
      exact notI _ this
    have J3 : Inv X pins σ' H' { s' with heap := h3 } := J.landed nb fl3.1 (up.trans up3) os ag
    have S3 := J3.suite he3 hd3 na nL nF
    have look : ∀ {x : Str} {c : Value} {q : Pos} {Q : Value → Shared → Prop} {E : Value → Shared → Prop}, Names X x c → Q c { s' with heap := h3 } → wpAny (model X.prog X.w) (X.A.mark (some (.ref a))) (eval (.Name x q) X.env) Q E { s' with heap := h3 } := fun {x c q Q E} hc w => by
      obtain ⟨hg, hdb, hm | ⟨hm, hv, hnn⟩⟩ := hc
      · exact ld_glob (X := X.suite a ((a, oe3) :: (X.pn ++ pins))) S3 hg hm w hdb
      · exact ld_blt (X := X.suite a ((a, oe3) :: (X.pn ++ pins))) S3 hg hm hv w hnn hdb
    refine wpAny_handleBy_cons (codeAny_handlers_test ?_) (by intro z; cases z)
    have LT : PySem.W.Looks (model X.prog X.w) h3 (typeOf (.ref a)) cls := fun A Q E s k w => wpAny_typeOf_ref (k _ _ he3) (by rw [hz3.1]; exact w)
    have kp : ∀ b o, h3.get? b = some o → (h3.push { cls := .type "tuple", data := .seq cs.toArray }).get? b = some o := fun _ _ z => Heap.get?_push_of_some _ z
    have items : ∀ {es : List Expr} {cs : List Value} {tq : Pos} {Q : List Value → Shared → Prop} {E : Value → Shared → Prop}, NmsT X es cs → Q cs { s' with heap := h3 } → wpAny (model X.prog X.w) (X.A.mark (some (.ref a))) (spliced (backTo tq (starEach es X.env))) Q E { s' with heap := h3 } := fun {es cs tq Q E} hn => by
      intro w
      induction hn generalizing Q with
      | nil => exact wpAny_items_nil w
      | cons hc _ ih => exact wpAny_items_cons (look hc (ih w))
    refine wpAny_Tuple (items nms ⟨Nat.le_trans hcs (by decide), ?_⟩)
    refine (exm_all (M := model X.prog X.w) (J3.kIn.keeps kp) (LT.keeps kp) (Heap.get?_push_size h3 rfl) hb1).here ?_
    have fl5 := fly_keep fl3 kp
    have up5 : sI.heap.UpToSlots (h3.push { cls := .type "tuple", data := .seq cs.toArray }) := (up.trans up3).trans (Heap.UpToSlots.of_keeps kp)
    cases b with
    | true =>
      refine codeAny_handlers_suite_as ?_
      refine HandSPX.lands_againZ fl5 fun h4 fl4 up4 => ?_
      have J4 : Inv X pins σ' H' { s' with heap := h4 } := J.landed nb fl4.1 (up5.trans up4) os ag
      obtain ⟨oe4, vs4, he4, hz4, hd4⟩ := fl4.there
      have S4 := J4.suite he4 hd4 na nL nF
      refine store_ok (X := X.suite a ((a, oe4) :: (X.pn ++ pins))) (v := .ref a) S4 hN hi (.inl hln) rfl (fun s5 S5 => ?_) (.inr hln)
      have iσ : i < σ'.length := by rw [J.len]; exact (List.getElem?_eq_some_iff.mp hi).1
      refine wpAny_mono ((hsu a oe4 (X.pn ++ pins)).run [] s5 _ H' ⟨fun σ6 H6 => σ6 = (σ'.set i (some (.ref a))).set j (some (.ref a)) ∧ H6 = H', fun _ _ => False, fun _ _ => False, fun _ _ => False⟩ S5 ⟨_, List.getElem?_set_self iσ, rfl, rfl⟩) (fun fl s6 hsp => ?_) (fun _ _ z => False.elim z)
      cases fl with
      | next =>
        obtain ⟨σ6, H6, S6, rfl, rfl⟩ := hsp
        obtain ⟨z1, _⟩ := S6.pin (a, oe4) (List.mem_append_left _ List.mem_cons_self)
        exact gone_ok (track (S6.unsuite ok) z1 hz4 hd4 na n0 nL nP) hN hi hln fun s7 J7 => ⟨_, _, J7, yes rfl a na⟩
      | brk =>
        obtain ⟨_, _, _, z⟩ := hsp
        exact z.elim
      | cont =>
        obtain ⟨_, _, _, z⟩ := hsp
        exact z.elim
      | ret u =>
        obtain ⟨_, _, _, _, _, z⟩ := hsp
        exact z.elim
    | false =>
      show wpAny _ X.A (handleBy (.ref a) X.env []) _ _ _
      refine wpAny_handleBy_nil ?_
      obtain ⟨k1, k2, k3, oe, ws, T, oT, ts, he, hz, hd, h1, hr⟩ := id fl5
      unfold PySem.passOn
      refine wpAny_bind (wpAny_field he hd h1 ?_)
      rw [if_neg (show ¬ ((Value.ref T == Value.none) = true) from by simp)]
      have fin : wpAny (model X.prog X.w) X.A (setFlight (.ref a) X.env.frame) (fun _ s4 => wpAny (model X.prog X.w) X.A (throw (.ref a) : Sem Flow) (SP X pins D) X.xe s4) X.xe { s' with heap := h3.push { cls := .type "tuple", data := .seq cs.toArray } } := by
        rw [hf]
        refine HandSPX.setFlight_upZ fl5 fun h4 hh4 up4 => wpAny_throw (tk _ _ ?_)
        exact ⟨a, B, sI, pins, σ', H', cls, d, rfl, J, nb, up5.trans up4, .inr (.inr (by rw [hs]; exact hh4)), na, os, ag, no rfl⟩
      first
        | exact wpAny_bind (wpAny_pure (wpAny_bind fin))
        | exact wpAny_bind fin
  · cases fl with
    | next =>
      obtain ⟨σ2, H2, J2, w⟩ := hsp
      exact wpAny_execs_nil ⟨σ2, H2, J2.ofTry ok, w⟩
    | brk =>
      obtain ⟨σ2, H2, J2, w⟩ := hsp
      exact ⟨σ2, H2, J2.ofTry ok, w⟩
    | cont =>
      obtain ⟨σ2, H2, J2, w⟩ := hsp
      exact ⟨σ2, H2, J2.ofTry ok, w⟩
    | ret u =>
      obtain ⟨v, σ2, H2, J2, r, w⟩ := hsp
      exact ⟨v, σ2, H2, J2.ofTry ok, r, w⟩
end
end Gx
namespace Dw
open PySem PySem.Spec PyProof.Rows L2 OgR Evl Gx
abbrev QXt := Str → Str → PyData → Dt → Prop
abbrev WTy := DEnds → QXt → Dt → Prop
def XoD (C : Ct) (mg : Str → Option Value) (G : Hp) (W : L2.WX) (QX : QXt) : Prop := ∀ (nm fld : Str) (d : PyData) (s' : Dt) (σ' : L2.St) (G' H' : Hp) (Cc dx : Addr) (u : V), QX nm fld d s' → mg nm = some (.ref Cc) → Rel C G' σ' H' s' → Ex G G' → C.H0 dx = none → H' dx = some (.xd [(fld, u)]) → Dp C.K G' u d → W (.ref Cc) (some dx) σ' H'
theorem XoD.mono {C : Ct} {mg : Str → Option Value} {G G1 : Hp} {W : L2.WX} {QX : QXt} (o : XoD C mg G W QX) (e : Ex G G1) : XoD C mg G1 W QX := fun nm fld d s' σ' G' H' Cc dx u q hm r eg h0 hd pd => o nm fld d s' σ' G' H' Cc dx u q hm r (e.trans eg) h0 hd pd
structure DTy (X : Cx) (C : Ct) (st : Stmt) (t : L2.WX → TS) (w : WTy) : Prop where
  ps : ∀ (W : L2.WX) (pn : List (Addr × Obj)) (xe : Value → Shared → Prop), Takes (X.tr pn xe) W → PassesOwn (model X.prog X.w) X.A X.env xe → PS (X.tr pn xe) st (t W)
  is : ∀ (W : L2.WX) G σ H s D DD QX, Rel C G σ H s → w DD QX s → Outs C G D DD → XoD C X.mg G W QX → t W D σ H
structure DTys (X : Cx) (C : Ct) (st : List Stmt) (t : L2.WX → TS) (w : WTy) : Prop where
  ps : ∀ (W : L2.WX) (pn : List (Addr × Obj)) (xe : Value → Shared → Prop), Takes (X.tr pn xe) W → PassesOwn (model X.prog X.w) X.A X.env xe → PSs (X.tr pn xe) st (t W)
  is : ∀ (W : L2.WX) G σ H s D DD QX, Rel C G σ H s → w DD QX s → Outs C G D DD → XoD C X.mg G W QX → t W D σ H
section
variable {X : Cx} {C : Ct} {e c : Expr} {st : Stmt} {sts l1 l2 : List Stmt} {t u v : L2.WX → TS} {w wu wv : WTy} {te : L2.WX → TE} {we : WY} {tc : TT} {wc : WT} {tS : TS} {wS : WS} {x : Str} {pos : Pos}
def wTySet (i : Nat) (we : WY) : WTy := fun DD QX s => we s (fun d s1 => DD.nx (s1.set i (.d d))) QX
theorem dty_set (i : Nat) {pos' : Pos} (hN : X.N.Nodup) (h : DEX X C e te we) (hi : X.N[i]? = some x := by rfl) (hx : Loc X.env.scope x := by first | exact .inl rfl | exact .inr rfl) (hs : swapsWith e (some (.Name x pos')) pos.line X.env = pure false := by rfl)
    (hf : X.fn x = true ∨ X.env.scope.names.lookup x = some .local := by first | exact .inl rfl | exact .inr rfl | assumption) : DTy X C (.Assign [.Name x pos'] e pos) (fun W => tAsg (te W) (gName i)) (wTySet i we) :=
  ⟨fun W pn xe tk po => ps_set (X := X.tr pn xe) hN hi hx (h.pe W pn xe tk) hs hf, fun W G σ H s D DD QX r q o ox => h.ie W G σ H s _ _ _ r q (fun v d s1 G1 H1 q1 r1 eg g pd => o.nx _ H1 _ G1 q1 (r1.putd pd) eg) fun nm fld d s1 G1 H1 Cc dx u q1 hm r1 eg g h0 hd pd => ox nm fld d s1 _ G1 H1 Cc dx u q1 hm r1 eg h0 hd pd⟩
def wTyExpr (we : WY) : WTy := fun DD QX s => we s (fun _ s1 => DD.nx s1) QX
theorem dtys_one (h : DTy X C st t w) : DTys X C [st] t w := ⟨fun W pn xe tk po => pss_one (h.ps W pn xe tk po), h.is⟩
def wTySq (wu wv : WTy) : WTy := fun DD QX s => wu { DD with nx := wv DD QX } QX s
theorem dtys_cons (h : DTy X C st u wu) (h2 : DTys X C sts v wv) : DTys X C (st :: sts) (fun W => tSeq (u W) (v W)) (wTySq wu wv) :=
  ⟨fun W pn xe tk po => pss_cons (h.ps W pn xe tk po) (h2.ps W pn xe tk po), fun W G σ H s D DD QX r q o ox => h.is W G σ H s _ { DD with nx := wv DD QX } QX r q ⟨fun σ1 H1 s1 G1 q1 r1 eg => h2.is W G1 σ1 H1 s1 _ DD QX r1 q1 (o.mono eg) (ox.mono eg), o.bk, o.ct, o.rt⟩ ox⟩
def wTyIf (wc : WT) (wu wv : WTy) : WTy := fun DD QX s => wc s fun b s1 => if b = true then wu DD QX s1 else wv DD QX s1
theorem dty_if (hc : ∀ pn xe, DT (X.tr pn xe) C c tc wc) (h1 : DTys X C l1 u wu) (h2 : DTys X C l2 v wv) : DTy X C (.If c l1 l2 pos) (fun W => tIfS tc (u W) (v W)) (wTyIf wc wu wv) :=
  ⟨fun W pn xe tk po => ps_if (hc pn xe).pt (h1.ps W pn xe tk po) (h2.ps W pn xe tk po), fun W G σ H s D DD QX r q o ox => (hc [] fun _ _ => True).it G σ H s _ _ r q fun b s1 G1 H1 q1 r1 eg _ => by
    cases b with
    | true => exact h1.is W G1 σ H1 s1 D DD QX r1 q1 (o.mono eg) (ox.mono eg)
    | false => exact h2.is W G1 σ H1 s1 D DD QX r1 q1 (o.mono eg) (ox.mono eg)⟩
end
section
variable {X : Cx} {C : Ct} {n m : Str} {cs : List Value} {es : List Expr} {tp mp np ap pos pos' : Pos} {kk : Nat} {body : List Stmt} {t : L2.WX → TS} {w : WTy}
/-- try: .. except (A, ..) as n: m = n -/
def wTryN (K : PySem.W.Frag) (mg : Str → Option Value) (bx : Bx) (cs : List Value) (i j : Nat) (w : WTy) : WS := fun DD s => w DD (fun nm fld d s1 => (∀ Cc, mg nm = some (.ref Cc) → PySem.W.exmAny K (.ref Cc) cs = some true) ∧ DD.nx ⟨(s1.env.set j (some (.oth (xcV K mg bx nm fld d)))).set i none, s1.c⟩) s
theorem ds_tryN (i j : Nat) (hK : X.K = C.K) (hex : X.ex = []) (hs : X.stack = X.env :: X.outer) (hf : X.env.frame = some X.env.locals) (hN : X.N.Nodup) (nms : NmsT X es cs) (h : DTys X C body t w) (hcs : cs.length ≤ 100 := by exact Nat.le_of_ble_eq_true rfl)
    (hi : X.N[i]? = some n := by rfl) (hln : X.env.kindOf n = some .local := by rfl) (hj : X.N[j]? = some m := by rfl) (hlm : X.env.kindOf m = some .local := by rfl)
    (hsu : ∀ (a : Addr) (oe : Obj) (pn : List (Addr × Obj)), PSs (X.suite a ((a, oe) :: pn)) [.Assign [.Name m mp] (.Name n np) ap] (tAsg (tVar i) (gName j))) :
    DS X C (.Try body [.ExceptHandler (some (.Tuple es kk tp)) (some n) [.Assign [.Name m mp] (.Name n np) ap] pos'] [] [] pos)
      (fun D σ H => t (wKeep X.K cs i j (fun _ _ _ _ => False) D) D σ H) (wTryN C.K X.mg C.bx cs i j w) :=
  ⟨ps_try_keepN (tb := t) (Wout := fun _ _ _ _ => False) hex hs hf hN hi hln hj hlm nms hcs takes0 (fun W pn xe tk po => h.ps W pn xe tk po) hsu, fun G σ H s D DD r q o => by
    refine h.is _ G σ H s D DD _ r q o fun nm fld d s1 σ1 G1 H1 Cc dx u q1 hm r1 eg hbx hdx pd => ?_
    obtain ⟨hex, q1⟩ := q1
    refine ⟨true, by rw [hK]; exact hex Cc hm, fun _ a ha => ?_, fun z => nomatch z⟩
    have e1 : Ex H1 (upd H1 a (exg a (.ref Cc) (some dx))) := Ex.new ha
    have na : ¬ C.bx.has a := fun z => (r1.fin.bx a z).1.ne ha
    have nd : dx ≠ a := fun z => by rw [z, ha] at hdx; cases hdx
    have r2 : Rel C G1 ((σ1.set i (some (.ref a))).set j (some (.ref a))) (upd H1 a (exg a (.ref Cc) (some dx))) ((⟨s1.env.set i none, s1.c⟩ : Dt).set j (.oth (xcV C.K X.mg C.bx nm fld d))) := ((r1.aside e1).hole i (some (.ref a))).put (x := .oth (xcV C.K X.mg C.bx nm fld d)) (xcV_oth ⟨a, Cc, dx, u, rfl, hm, na, r1.fin.nbx hbx, upd_same, by rw [upd_ne nd]; exact hdx, pd⟩) fun mm => nomatch mm
    have r3 := r2.hole i none
    refine o.nx _ _ _ G1 q1 ?_ eg
    have e2 : ((s1.env.set i none).set j (some (.oth (xcV C.K X.mg C.bx nm fld d)))).set i none = (s1.env.set j (some (.oth (xcV C.K X.mg C.bx nm fld d)))).set i none := by
      by_cases z : i = j
      · subst z
        rw [List.set_set, List.set_set, List.set_set]
      · rw [List.set_comm _ _ z, List.set_set]
    have r4 : Rel C G1 _ _ ⟨(s1.env.set j (some (.oth (xcV C.K X.mg C.bx nm fld d)))).set i none, s1.c⟩ := e2 ▸ r3
    exact r4⟩
end
section
variable {X : Cx} {C : Ct} {es : List Expr} {p : Pos} {tr : TA} {wr : WXs} {x : Str}
def wYxc (K : PySem.W.Frag) (mg : Str → Option Value) (bx : Bx) (i : Nat) (wr : WXs) : WXs := fun s Q => ∃ nm fld d, s.env[i]? = some (some (.oth (xcV K mg bx nm fld d))) ∧ wr s fun xs s2 => Q (.oth (xcV K mg b0 nm fld d) :: xs) s2
end
end Dw
namespace Dw
open PySem PySem.Spec PyProof.Rows L2 OgR Evl
section
variable {C : Ct} {G H : Hp} {σ : L2.St} {s : Dt}
/-- a list of the def's own, taken for data -/
theorem Rel.pub (r : Rel C G σ H s) {i : Nat} {ds : List PyData} (e : s.env[i]? = some (some (.own ds))) :
    ∃ v G1, σ[i]? = some (some v) ∧ Rel C G1 σ H ⟨s.env.set i (some (.d (.list ds))), s.c⟩ ∧ Ex G G1 ∧ Dp C.K G1 v (.list ds) := by
  have h := ie_pub (C := C) (i := i) G σ H s (fun d s' => d = .list ds ∧ s' = ⟨s.env.set i (some (.d (.list ds))), s.c⟩)
    (fun v H' => ∃ G1, Rel C G1 σ H' ⟨s.env.set i (some (.d (.list ds))), s.c⟩ ∧ Ex G G1 ∧ Dp C.K G1 v (.list ds)) r ⟨ds, e, rfl, rfl⟩ fun v d s' G' H' q r' eg _ p => by
      obtain ⟨rfl, rfl⟩ := q
      exact ⟨G', r', eg, p⟩
  obtain ⟨v, hv, G1, h1, h2, h3⟩ := h
  exact ⟨v, G1, hv, h1, h2, h3⟩
theorem dpa_numb {K : PySem.W.Frag} {G G' : Hp} : ∀ {xs : List V} {ds : List PyData}, DpAll K G xs ds → (∀ d ∈ ds, ∃ n, d = .int n) → DpAll K G' xs ds
  | _, _, .nil, _ => .nil
  | _, _, .cons h t, q => by
    obtain ⟨n, rfl⟩ := q _ (List.mem_cons_self ..)
    rw [dp_int h]
    exact .cons (.int n) (dpa_numb t fun d hd => q d (List.mem_cons_of_mem _ hd))
/-- a new list of numbers, made while a list of the def's own is taken for data -/
def wPeekO (i : Nat) (w : WA) : WA := fun s Q => ∃ ds, s.env[i]? = some (some (.own ds)) ∧ w ⟨s.env.set i (some (.d (.list ds))), s.c⟩ fun rs s1 => (∀ r ∈ rs, ∃ n, r = .int n) ∧ Q rs ⟨s.env, s1.c⟩
theorem io_peek {t : TE} {w : WA} (i : Nat) (h : IO C t w) : IO C t (wPeekO i w) := fun G σ H s Q Q' r q k => by
  obtain ⟨ds, e, q⟩ := q
  obtain ⟨v, G1, hv, r1, eg, pd⟩ := r.pub e
  refine h G1 σ H _ _ _ r1 q fun p xs rs s2 G2 H2 q2 r2 eg2 g2 hp h1 h2 h3 h4 => ?_
  have rb : Rel C (rollG G G2) σ H2 ⟨s.env, s2.c⟩ := r.roll (eg.trans eg2) r2.fin g2.gr
  exact k p xs rs ⟨s.env, s2.c⟩ (rollG G G2) H2 q2.2 rb roll_old ⟨g2.gr, g2.dom, fun b o hb nb hHb hn _ => roll_lst (eg.trans eg2) r2.fin.gh hb (g2.gr b o nb hHb) hn, fun j x ej m => ⟨x, ej, m⟩⟩ hp h1 (roll_lst (eg.trans eg2) r2.fin.gh (r.gnone hp) h1 rfl) (dpa_numb h3 q2.1) (fun j x ej m => r.notslot hp j x ej m)
def wPick2 (i j l m : Nat) (F : FB) (wc : WT) : WS := fun DD s => wc s fun b s1 => ∃ ds, ((b = true ∧ s1.env[i]? = some (some (.d (.list ds)))) ∨ (b = false ∧ s1.env[j]? = some (some (.own ds)))) ∧ s1.env[l]? = some (some .box) ∧ i < s1.env.length ∧ ∃ fs, s1.env[m]? = some (some (.own fs)) ∧ fs.length < 100000 ∧
  F [.list ds] s1.c.n fun d c' => ∃ n, d = .int n ∧ DD.nx ⟨(s1.env.set i none).set m (some (.own (fs ++ [.int n]))), c', s1.c.o⟩
theorem is_pick2 {i j l m : Nat} {F : FB} {tc : TT} {wc : WT} (hil : i ≠ l) (him : i ≠ m) (hc : IT C tc wc) :
    IS C (tSeq (tAsg (tIf tc (tVar i) (tVar j)) (gName i)) (tDrop (tBM C.K "list" rAppend (tVar m) (tCons (tCall (spB C.K F) [] E0 (tCons (tVar l) (tCons (tVar i) tNil))) tNil)))) (wPick2 i j l m F wc) := fun G σ H s D DD r q o => by
  refine hc G σ H s _ _ r q fun b s1 G1 H1 q1 r1 eg eh => ?_
  obtain ⟨ds, hb, hl, hi0, fs, hm, hf, q1⟩ := q1
  rw [r1.len] at hi0
  obtain ⟨vl, hvl, bl, hbl, rfl⟩ := r1.sl l _ hl
  obtain ⟨vm, hvm, pm, xm, rfl, m1, m2, m3, m4⟩ := r1.sl m _ hm
  have key : ∀ v G2 c2, Dp C.K G2 v (.list ds) → Fin C G2 H1 c2 → i < σ.length → tDrop (tBM C.K "list" rAppend (tVar m) (tCons (tCall (spB C.K F) [] E0 (tCons (tVar l) (tCons (tVar i) tNil))) tNil)) D (σ.set i (some v)) H1 := fun v G2 c2 pd f2 hi => by
    have sm : (σ.set i (some v))[m]? = some (some (.ref pm)) := by rw [List.getElem?_set_ne him]; exact hvm
    have slb : (σ.set i (some v))[l]? = some (some (.ref bl)) := by rw [List.getElem?_set_ne hil]; exact hvl
    refine ⟨.ref pm, sm, .inl ⟨rfl, _, .inl (.inl m1)⟩, .ref bl, slb, v, List.getElem?_set_self hi, bl, [v], G2, [.list ds], s1.c.n, _, rfl, r1.fin.boxAt hbl, f2.boxG hbl, f2.gh, .cons pd .nil, q1, fun v2 d c' G3 H3 q2 eg3 eh3 hbx gh nw pd2 => ?_⟩
    obtain ⟨n, rfl, q2⟩ := q2
    have gr : Gr C H1 H3 := fun b o hn hb => eh3 b o (fun z => hn (by rw [z]; exact .ofb hbl)) hb
    have g13 : Ex G1 H3 := fun b o hb => by
      refine eh3 b o (fun z => ?_) (r1.fin.gh b o hb)
      rw [z, r1.fin.boxG hbl] at hb
      cases hb
    have rb : Rel C G1 σ H3 ⟨s1.env, c', s1.c.o⟩ := r1.step (c' := ⟨c', s1.c.o⟩) (Ex.refl G1) gr g13 (Nw.refl G1 H1) (r1.fin.obx (Ex.refl _) (.inl hbl) eh3) (r1.fin.boxStep (c' := ⟨c', s1.c.o⟩) hbl eh3 hbx)
    have rh := rb.hole i (some v)
    have em : (⟨s1.env.set i none, c', s1.c.o⟩ : Dt).env[m]? = some (some (.own fs)) := by
      show (s1.env.set i none)[m]? = _
      rw [List.getElem?_set_ne him]
      exact hm
    have hpm : H3 pm = some (.lst xm) := gr pm _ (r1.fin.nbx m2) m1
    rw [dp_int pd2]
    exact ⟨pm, xm, .int n, rfl, rfl, hpm, sz_lt (by rw [dpa_len m4]; exact hf), o.nx _ _ _ G1 q2 (rh.mutl em sm (dpa_app m4 (.cons (.int n) .nil))) eg⟩
  rcases hb with ⟨rfl, hi⟩ | ⟨rfl, hj⟩
  · obtain ⟨v, hv, pv⟩ := r1.sl i _ hi
    exact iteT ⟨v, hv, key v G1 _ pv r1.fin (List.getElem?_eq_some_iff.mp hv).1⟩
  · obtain ⟨v, G2, hv, r2, eg2, pd⟩ := r1.pub hj
    exact iteF ⟨v, hv, key v G2 _ pd r2.fin hi0⟩
end
section
variable {X : Cx} {C : Ct} {a b e tg : Expr} {es : List Expr} {pos p : Pos} {t ta tb te : TE} {w wa wb we : WE} {tA : TA} {wA : WA} {x : Str} {st st1 st2 : Stmt} {sts : List Stmt} {v : TS} {w1 w2 wv : WS}
theorem dss_pick {i j l m : Nat} {F : FB} {c : Expr} {tc : TT} {wc : WT} (hc : DT X C c tc wc) (h1 : DS X C (.Assign [tg] (.IfExp c a b p) pos) (tAsg (tIf tc (tVar i) (tVar j)) (gName i)) w1)
    (h2 : DS X C st2 (tDrop (tBM C.K "list" rAppend (tVar m) (tCons (tCall (spB C.K F) [] E0 (tCons (tVar l) (tCons (tVar i) tNil))) tNil))) w2) (h3 : DSs X C sts v wv) (hil : i ≠ l := by decide) (him : i ≠ m := by decide) :
    DSs X C (.Assign [tg] (.IfExp c a b p) pos :: st2 :: sts) (tSeq (tAsg (tIf tc (tVar i) (tVar j)) (gName i)) (tSeq (tDrop (tBM C.K "list" rAppend (tVar m) (tCons (tCall (spB C.K F) [] E0 (tCons (tVar l) (tCons (tVar i) tNil))) tNil))) v)) (wSq (wPick2 i j l m F wc) wv) :=
  ⟨pss_cons h1.ps (pss_cons h2.ps h3.ps), fun G σ H s D DD r q o => is_seq (is_pick2 hil him hc.it) h3.is G σ H s D DD r q o⟩
/-- name = [.. for .. in xs], xs a list of the def's own that stays so -/
theorem ds_setLcP {elt iter : Expr} {ifs : List Expr} {scope : Scope} {own : List (Str × Nat)} {wi : TI} {wI : WA} {g : TG} {ks : List Nat} {wg : WG} {tt : TT} {wt : WT} (i j : Nat) {y : Str} {py spos : Pos} (hc : X.calm = true) (hN : X.N.Nodup) (hy : X.N[i]? = some y) (hyl : X.env.scope.names.lookup y = some .local)
    (hsw : swapsWith (.ListComp elt [⟨tg, iter, ifs, 0⟩] scope pos) (some (.Name y py)) spos.line X.env = Pure.pure true) (hi : DI X C tg iter wi wI) (ok : BlkOk X.N X.env.scope scope own)
    (hg : ∀ (s : Shared) (H : Hp) (A : Addr) (cl : List (Str × Addr)) (fp : List Addr), DG (X.blk s H scope (compEnvC scope cl A X.env) fp) C tg g ks wg)
    (ht : (∀ (s : Shared) (H : Hp) (A : Addr) (cl : List (Str × Addr)) (fp : List Addr), PTs (X.blk s H scope (compEnvC scope cl A X.env) fp) ifs tt) ∧ IT C tt wt)
    (he : ∀ (s : Shared) (H : Hp) (A : Addr) (cl : List (Str × Addr)) (fp : List Addr), DE (X.blk s H scope (compEnvC scope cl A X.env) fp) C elt te we) (hk : ∀ k ∈ ks, k ∈ own.map (·.2) := by decide) (hs : ∀ x, foldedSetIterable iter X.env x = Pure.pure x := by intro _; rfl) :
    DS X C (.Assign [.Name y py] (.ListComp elt [⟨tg, iter, ifs, 0⟩] scope pos) spos) (tAsg (tLc wi g tt te (own.map (·.2))) (gName i)) (wAsg (wPubO (wPeekO j (wLc wI wg wt we (own.map (·.2))))) (wName i)) :=
  ⟨(ds_setLc i hc hN hy hyl hsw hi ok hg ht he hk hs).ps, is_asg (ie_own (io_peek j (io_lc hk hi.ii (hg {} (fun _ => none) 0 [] []).ig ht.2 (he {} (fun _ => none) 0 [] []).ie))) (ig_name i)⟩
theorem dpa_mapI {K : PySem.W.Frag} {G : Hp} : ∀ {ns : List Int} {xs : List V}, DpAll K G xs (ns.map .int) → xs = ns.map .int
  | [], _, .nil => rfl
  | n :: ns, _, .cons h t => by rw [dp_int h, dpa_mapI t]; rfl
theorem dpa_ofI {K : PySem.W.Frag} {G : Hp} : ∀ (ns : List Int), DpAll K G (ns.map .int) (ns.map .int)
  | [] => .nil
  | n :: ns => .cons (.int n) (dpa_ofI ns)
theorem rem_at {k : Int} : ∀ {ns : List Int}, ns.Nodup → k ∈ ns → ∃ j : Nat, ns[j]? = some k ∧ (∀ m : Nat, m < j → ns[m]? ≠ some k) ∧ ns.eraseIdx j = ns.filter fun y => decide (y ≠ k)
  | [], _, h => by simp at h
  | n :: ns, hn, h => by
    rw [List.nodup_cons] at hn
    by_cases e : n = k
    · subst e
      refine ⟨0, rfl, fun m hm => by omega, ?_⟩
      have : ns.filter (fun z => decide (z ≠ n)) = ns := List.filter_eq_self.mpr fun z hz => decide_eq_true fun e => hn.1 (e ▸ hz)
      rw [List.filter_cons_of_neg (by simp), this]
      rfl
    · obtain ⟨j, h1, h2, h3⟩ := rem_at hn.2 ((List.mem_cons.mp h).resolve_left fun z => e z.symm)
      refine ⟨j + 1, by simpa using h1, fun m hm => ?_, by rw [List.filter_cons_of_pos (by simp [e]), List.eraseIdx_cons_succ, h3]⟩
      cases m with
      | zero => intro z; rw [List.getElem?_cons_zero] at z; exact e (Option.some.inj z)
      | succ m => rw [List.getElem?_cons_succ]; exact h2 m (by omega)
def fRem : List PyData → List PyData → (PyData → List PyData → Prop) → Prop := fun ds as Q => ∃ (ns : List Int) (k : Int), as = [.int k] ∧ ds = ns.map .int ∧ ns.Nodup ∧ k ∈ ns ∧ Q .none ((ns.filter fun y => decide (y ≠ k)).map .int)
theorem ds_remA (i : Nat) {apos cpos : Pos} (hK : X.K = C.K) (h : DE X C e t w) (hv : PE X (.Name x p) (tVar i) := by exact pv _) (hb0 : attributeBase (.Name x p) "remove" X.env (eval (.Name x p) X.env) = eval (.Name x p) X.env := by rfl)
    (hfew : ((backTo cpos (starEach [e] X.env)).all (fun x => !x.1) && (backToKw cpos (keywordEach [] X.env)).all (fun x => x.1.isSome) && decide ([e].length + ([] : List Keyword).length + (if ([] : List Keyword).isEmpty then 0 else 1) < 30)) = true := by rfl)
    (hline : (apos.endLine == cpos.line) = true := by rfl) (hst : starEach [e] X.env = (false, eval e X.env) :: starEach [] X.env := by rfl) (hpl : (backTo cpos (starEach [] X.env)).any (·.1) = false := by rfl)
    (hs : swapsWith (.Call (.Attribute (.Name x p) "remove" apos) [e] [] cpos) none pos.line X.env = Pure.pure false := by rfl) :
    DS X C (.Expr (.Call (.Attribute (.Name x p) "remove" apos) [e] [] cpos) pos) (tDrop (tBM C.K "list" rRemI (tVar i) (tCons t tNil))) (wDrop (wMeth i (wCons w fun s Q => Q [] s) fRem)) :=
  ⟨ps_expr (hK ▸ pe_bm PySem.F.plainAttrs_list PySem.F.slot_list_remove PySem.F.type_list_remove mt_remove hv (pa_cons h.pe pa_nil hst) hb0 hfew hline hst hpl) hs, is_meth (fun G H p xs vs ds as R Q' h1 h2 h3 hf k => by
    obtain ⟨ns, n, rfl, rfl, hn, hm, hf⟩ := hf
    cases h3 with
    | cons p1 p2 =>
      cases p2
      obtain ⟨j, j1, j2, j3⟩ := rem_at hn hm
      rw [dpa_mapI h2] at h1
      rw [← j3] at hf
      exact ⟨p, ns, n, j, rfl, by rw [dp_int p1], h1, j1, j2, k _ _ _ _ hf (dpa_ofI _) .non⟩) (ia_cons h.ie ia_nil)⟩
def wExt (i : Nat) (w : WA) : WS := fun DD s => (∃ ds0, s.env[i]? = some (some (.own ds0))) ∧ w s fun es s1 => ∃ ds, s1.env[i]? = some (some (.own ds)) ∧ ds.length + es.length < 100000 ∧ DD.nx (s1.set i (.own (ds ++ es)))
end
end Dw
namespace Dw
open PySem PySem.Spec PyProof.Rows L2 OgR Evl
end Dw
namespace Dw
open PySem PySem.Spec PyProof.Rows L2 OgR Evl Gx
/-- what each of them is -/
def CanX (P : Program) (wd : World) (K : PySem.W.Frag) (mg : Str → Option Value) (base : Heap) (k : Nat) (F : FX) (ks : List Str) (π : List Nat) (v : V) : Prop :=
  ∃ f fd ps, v = .ref f ∧ FnGX P wd K mg base k f fd ps (spX K mg F) ∧ PySem.W.keepIn K (.ref f) = true ∧ ByP fd ps ks π
/-- the list of them -/
def flV (P : Program) (wd : World) (K : PySem.W.Frag) (mg : Str → Option Value) (base : Heap) (k : Nat) (F : FX) (ks : List Str) (π : List Nat) (n : Nat) : Hp → Hp → V → Prop := fun G _ v =>
  ∃ a vs, v = .ref a ∧ G a = some (.lst vs) ∧ vs.length = n ∧ ∀ u ∈ vs, CanX P wd K mg base k F ks π u
section
variable {X : Cx} {C : Ct} {e b : Expr} {es : List Expr} {pos p sp lp : Pos} {te : TE} {we : WE} {t tk : TA} {wk : WA} {x y : Str} {st : Stmt} {ps ks : List Str} {k n : Nat} {F : FX} {π : List Nat} {kws : List Keyword}
structure DFs (X : Cx) (k : Nat) (F : FX) (ks : List Str) (π : List Nat) (es : List Expr) (t : TA) (n : Nat) : Prop where
  pa : ∀ pn xe, PA (X.tr pn xe) es t
  ex : ∃ vs : List V, (∀ σ H Q, Q vs H → t σ H Q) ∧ vs.length = n ∧ ∀ u ∈ vs, CanX X.prog X.w X.K X.mg X.base k F ks π u
theorem dfs_nil : DFs X k F ks π [] tNil 0 := ⟨fun _ _ => pa_nil, [], fun _ _ _ q => q, rfl, fun _ h => nomatch h⟩
theorem dfs_cons (D : DefX X.prog X.w X.K X.mg X.base k x st ps (spX X.K X.mg F)) (hg : Gl X x) (hr : DFs X k F ks π es t n)
    (hby : ∀ (kV doc pm : Value) (an : Option Addr) (cdv ct : Value) (ws : List Value), ws.length = ks.length → bindArgs (PySem.W.fnOf x x (defArgs st) (defBody st) (defScope st) .none kV doc pm an cdv ct) ⟨[], ks.zip ws⟩ = Pure.pure (ps.zip (perm π ws)))
    (hd : (x == ("__debug__" : Str)) = false := by decide) (hs : starEach (.Name x p :: es) X.env = (false, eval (.Name x p) X.env) :: starEach es X.env := by rfl) :
    DFs X k F ks π (.Name x p :: es) (tCons (tGl X.mg x) t) (n + 1) := by
  obtain ⟨f, fd, G, Fn, b, m⟩ := D.ex
  obtain ⟨vs, h1, h2, h3⟩ := hr.ex
  obtain ⟨oc, od, kV, doc, pm, an, cdv, ct, osl, rfl, lk, hcd⟩ := Fn.ex
  refine ⟨fun pn xe => pa_cons ⟨fun pins s σ H Q I h => (pe_glob (X := X.tr pn xe) (v := .ref f) hg m rfl hd).run pins s σ H Q I (h f m)⟩ (hr.pa pn xe) hs, .ref f :: vs, fun σ H Q q => fun a ha => ?_, by rw [List.length_cons, h2], fun u hu => ?_⟩
  · rw [m] at ha
    cases ha
    exact h1 σ H _ q
  · rcases List.mem_cons.mp hu with rfl | hu
    · exact ⟨f, _, ps, rfl, G, Fn.kp, fun s ws hl => .of_eq (hby kV doc pm an cdv ct ws hl)⟩
    · exact h3 u hu
/-- x = [f, g, ..] -/
theorem dty_setFl (i : Nat) (hN : X.N.Nodup) (hK : X.K = C.K) (h : DFs X k F ks π es t n) (hn : n ≤ 1000 := by exact Nat.le_of_ble_eq_true rfl)
    (hi : X.N[i]? = some y := by rfl) (hx : Loc X.env.scope y := by first | exact .inl rfl | exact .inr rfl) (hs : swapsWith (.List es lp) (some (.Name y p)) pos.line X.env = pure false := by rfl) (hf : X.fn y = true ∨ X.env.scope.names.lookup y = some .local := by first | exact .inl rfl | exact .inr rfl | assumption) :
    DTy X C (.Assign [.Name y p] (.List es lp) pos) (fun _ => tAsg (tLst t) (gName i)) (fun DD _ s => DD.nx (s.set i (.oth (flV X.prog X.w X.K X.mg X.base k F ks π n)))) := ⟨fun W pn xe tk po => ps_set (X := X.tr pn xe) hN hi hx (pe_lst (h.pa pn xe)) hs hf, fun W G σ H s D DD QX r q o ox => by
  obtain ⟨vs, h1, h2, h3⟩ := h.ex
  refine h1 σ H _ ⟨sz_of (by omega), fun a ha => ?_⟩
  obtain ⟨r6, e6, _⟩ := r.new (o := .lst vs) ha
  have ht : flV X.prog X.w X.K X.mg X.base k F ks π n (upd G a (.lst vs)) (upd H a (.lst vs)) (.ref a) := ⟨a, vs, rfl, upd_same, h2, h3⟩
  have r5 := r6.put (i := i) (v := .ref a) (x := .oth (flV X.prog X.w X.K X.mg X.base k F ks π n)) ⟨ht, fun G' H' eg _ => ⟨a, vs, rfl, eg _ _ upd_same, h2, h3⟩⟩ fun z => nomatch z
  exact o.nx _ _ _ _ q r5 e6⟩
def tNmE (P : Program) (wd : World) (K : PySem.W.Frag) (mg : Str → Option Value) (base : Heap) (k : Nat) (F : FX) (ks : List Str) (π : List Nat) (tc : TE) (n : Nat) (tk : TA) (W : L2.WX) : TE := fun σ H Q => tc σ H fun v H1 => CanX P wd K mg base k F ks π v ∧ tk σ H1 fun zs H2 => zs.length = n ∧ spX K mg F (perm π zs) H2 Q (L2.WE W σ)
theorem pe_nmE {cal : Expr} {tc : TE} {W : L2.WX} (hcal : PE X cal tc) (hG : X.A.guards = some []) (tks : Takes X W) (hr : Room k X.A) (hn : ks.length = n) (hkw : PK X kws tk)
    (hc : eval (.Call cal [] kws pos) X.env = (do callWith pos (← eval cal X.env) [] (backTo pos (starEach [] X.env)) (backToKw pos (keywordEach kws X.env))))
    (hall : (backToKw pos (keywordEach kws X.env)).all (·.1.isSome) = true) (hks : (backToKw pos (keywordEach kws X.env)).filterMap (·.1) = ks)
    (hpl : ((backTo pos (starEach [] X.env)).any (·.1) || (backToKw pos (keywordEach kws X.env)).any (·.1.isNone)) = false) :
    PE X (.Call cal [] kws pos) (tNmE X.prog X.w X.K X.mg X.base k F ks π tc n tk W) := by
  refine ⟨fun pins s σ H Q I h => ?_⟩
  rw [hc]
  refine wpAny_bind (thn (hcal.run pins s σ H _ I h) fun u s1 ⟨v, H1, I1, r1, q1⟩ => ?_)
  obtain ⟨⟨f, fd, ps, rfl, Fn, hk, hb⟩, q1⟩ := q1
  cases r1
  refine PySem.W.callWith_KW0 (h₀ := X.base) I1.ok.mod.kin hk hall (thn (hkw.run pos pins s1 σ H1 _ I1 q1) fun ws s2 ⟨zs, H2, I2, rz, hl, q⟩ => ⟨I2.kIn, ?_⟩) hpl
  rw [hks]
  have hwl : ws.length = ks.length := by rw [← rz.length, hl, hn]
  refine wpAny_call (codeAny_mono (Fn.2 X.A X.stack s2 H2 ⟨[], ks.zip ws⟩ (perm π ws) (perm π zs) Q (L2.WE W σ) hG hr I2.env0 (hb s2 ws hwl) (vals_perm rz) q) fun r s' hq => ?_)
  cases r with
  | error e => exact passAt tks σ pins H2 s2 e s' I2 hq
  | ok fl =>
    cases fl with
    | ret u => exact I2.after hq
    | next => exact False.elim hq
    | brk => exact False.elim hq
    | cont => exact False.elim hq
theorem at_lt {vs : List V} {j : Nat} {v : V} (h : vs[j]? = some v) : atI vs (j : Int) = some v := by
  have hl := (List.getElem?_eq_some_iff.mp h).1
  unfold atI ixN
  rw [if_pos (by omega), if_pos (by omega), Int.toNat_natCast]
  exact h
/-- x[e](k=..), x such a list -/
def wFlIx (i : Nat) (φ : Hp → Hp → V → Prop) (n : Nat) (we : WE) (w : WY) : WY := fun s Q QX => s.env[i]? = some (some (.oth φ)) ∧ we s fun d s1 => ∃ j : Nat, d = .int (j : Nat) ∧ j < n ∧ w s1 Q QX
theorem dex_flIx (i : Nat) {nn : Nat} {P : Program} {wd : World} {mg : Str → Option Value} {base : Heap} (hK : X.K = C.K) (hG : X.A.guards = some []) (hr : Room k X.A) (he : ∀ pn xe, DE (X.tr pn xe) C b te we) (hkw : ∀ pn xe, DKw (X.tr pn xe) C kws tk wk)
    (hP : X.prog = P := by rfl) (hw : X.w = wd := by rfl) (hmg : X.mg = mg := by rfl) (hba : X.base = base := by rfl)
    (hv : ∀ pn xe, PE (X.tr pn xe) (.Name y p) (tVar i) := by exact fun _ _ => pv _) (hp : PlainIx b := by exact fun _ _ => rfl)
    (hc : eval (.Call (.Subscript (.Name y p) b sp) [] kws pos) X.env = (do callWith pos (← eval (.Subscript (.Name y p) b sp) X.env) [] (backTo pos (starEach [] X.env)) (backToKw pos (keywordEach kws X.env))) := by rfl)
    (hall : (backToKw pos (keywordEach kws X.env)).all (·.1.isSome) = true := by rfl) (hks : (backToKw pos (keywordEach kws X.env)).filterMap (·.1) = ks := by rfl)
    (hpl : ((backTo pos (starEach [] X.env)).any (·.1) || (backToKw pos (keywordEach kws X.env)).any (·.1.isNone)) = false := by rfl) :
    DEX X C (.Call (.Subscript (.Name y p) b sp) [] kws pos) (fun W => tNmE P wd C.K mg base k F ks π (tOp (rIxB C.K) (tVar i) te) ks.length tk W) (wFlIx i (flV P wd C.K mg base k F ks π nn) nn we (wNmX F ks.length π wk)) := by
  subst hP hw hmg hba
  refine ⟨fun W pn xe tks => ?_, fun W G σ H s Q QX Q' r q kk kx => ?_⟩
  · exact hK ▸ pe_nmE (X := X.tr pn xe) (pe_ix ix_B (hv pn xe) ((he pn xe).pe) hp) hG tks hr rfl (hkw pn xe).pk hc hall hks hpl
  · obtain ⟨e, q⟩ := q
    obtain ⟨v, hv', av⟩ := r.sl i _ e
    obtain ⟨a, vs, rfl, ha, hl, hcan⟩ := av.now
    refine ⟨_, hv', (he [] fun _ _ => False).ie G σ H s _ _ r q fun u d s1 G1 H1 q1 r1 eg1 g1 p1 => ?_⟩
    obtain ⟨j, rfl, hj, q1⟩ := q1
    have hj' : vs[j]? = some vs[j] := List.getElem?_eq_getElem (by omega)
    refine ⟨false, a, vs, (j : Int), vs[j], rfl, dp_int p1, .inl (.inl (r1.fin.gh _ _ (eg1 _ _ ha))), at_lt hj', hcan _ (List.getElem_mem _), ?_⟩
    refine (hkw [] fun _ _ => False).ia G1 σ H1 s1 _ _ r1 q1 fun vs2 ds s2 G2 H2 q2 r2 eg eh p => ⟨by rw [dpa_len p]; exact q2.1, G2, perm π ds, _, r2.fin.gh, dpa_perm p, q2.2, fun v d G3 H3 q3 eg2 eh2 gh nw pd => ?_, fun nm fld d Cc dx u G3 H3 q3 hm eg2 eh2 gh nw hdx hd2 pd => ?_⟩
    · exact kk v d s2 G3 H3 q3 (r2.grow eg2 eh2 gh nw) (eg1.trans (eg.trans eg2)) (g1.trans (eh.trans (.grow eh2 nw))) pd
    · refine kx nm fld d s2 G3 H3 Cc dx u q3 hm (r2.grow eg2 eh2 gh nw) (eg1.trans (eg.trans eg2)) (g1.trans (eh.trans (.grow eh2 nw))) (r2.fin.h0 hdx) hd2 pd
/-- [f, g, ..][e](k=..) -/
def wFlLs (n : Nat) (we : WE) (w : WY) : WY := fun s Q QX => we s fun d s1 => ∃ j : Nat, d = .int (j : Nat) ∧ j < n ∧ w s1 Q QX
theorem dex_flLs {nn : Nat} (hK : X.K = C.K) (hG : X.A.guards = some []) (hr : Room k X.A) (hfs : DFs X k F ks π es t nn) (he : ∀ pn xe, DE (X.tr pn xe) C b te we) (hkw : ∀ pn xe, DKw (X.tr pn xe) C kws tk wk) (hn : nn ≤ 1000 := by exact Nat.le_of_ble_eq_true rfl)
    (hp : PlainIx b := by exact fun _ _ => rfl)
    (hc : eval (.Call (.Subscript (.List es lp) b sp) [] kws pos) X.env = (do callWith pos (← eval (.Subscript (.List es lp) b sp) X.env) [] (backTo pos (starEach [] X.env)) (backToKw pos (keywordEach kws X.env))) := by rfl)
    (hall : (backToKw pos (keywordEach kws X.env)).all (·.1.isSome) = true := by rfl) (hks : (backToKw pos (keywordEach kws X.env)).filterMap (·.1) = ks := by rfl)
    (hpl : ((backTo pos (starEach [] X.env)).any (·.1) || (backToKw pos (keywordEach kws X.env)).any (·.1.isNone)) = false := by rfl) :
    DEX X C (.Call (.Subscript (.List es lp) b sp) [] kws pos) (fun W => tNmE X.prog X.w C.K X.mg X.base k F ks π (tOp (rIxB C.K) (tLst t) te) ks.length tk W) (wFlLs nn we (wNmX F ks.length π wk)) := by
  refine ⟨fun W pn xe tks => ?_, fun W G σ H s Q QX Q' r q kk kx => ?_⟩
  · exact hK ▸ pe_nmE (X := X.tr pn xe) (pe_ix (ix_B) (pe_lst (hfs.pa pn xe)) ((he pn xe).pe) hp) hG tks hr rfl (hkw pn xe).pk hc hall hks hpl
  · obtain ⟨vs, h1, hl, hcan⟩ := hfs.ex
    refine h1 σ H _ ⟨sz_of (by omega), fun a ha => ?_⟩
    obtain ⟨r0, eg0, g0⟩ := r.new (o := .lst vs) ha
    refine (he [] fun _ _ => False).ie _ σ _ s _ _ r0 q fun u d s1 G1 H1 q1 r1 eg1 g1 p1 => ?_
    obtain ⟨j, rfl, hj, q1⟩ := q1
    have hj' : vs[j]? = some vs[j] := List.getElem?_eq_getElem (by omega)
    refine ⟨false, a, vs, (j : Int), vs[j], rfl, dp_int p1, .inl (.inl (r1.fin.gh _ _ (eg1 _ _ upd_same))), at_lt hj', hK ▸ hcan _ (List.getElem_mem _), ?_⟩
    refine (hkw [] fun _ _ => False).ia G1 σ H1 s1 _ _ r1 q1 fun vs2 ds s2 G2 H2 q2 r2 eg eh p => ⟨by rw [dpa_len p]; exact q2.1, G2, perm π ds, _, r2.fin.gh, dpa_perm p, q2.2, fun v d G3 H3 q3 eg2 eh2 gh nw pd => ?_, fun nm fld d Cc dx u G3 H3 q3 hm eg2 eh2 gh nw hdx hd2 pd => ?_⟩
    · exact kk v d s2 G3 H3 q3 (r2.grow eg2 eh2 gh nw) (eg0.trans (eg1.trans (eg.trans eg2))) (g0.trans (g1.trans (eh.trans (.grow eh2 nw)))) pd
    · refine kx nm fld d s2 G3 H3 Cc dx u q3 hm (r2.grow eg2 eh2 gh nw) (eg0.trans (eg1.trans (eg.trans eg2))) (g0.trans (g1.trans (eh.trans (.grow eh2 nw)))) (r2.fin.h0 hdx) hd2 pd
/-- tuple(range(e)) -/
def wTupRg (wa : WE) : WE := fun s Q => wa s fun d s1 => ∃ n : Int, d = .int n ∧ 0 ≤ n ∧ n ≤ 100000 ∧ Q (.tuple (iotaD 0 n)) s1
theorem de_tupRg {a : Expr} {ta : TE} {wa : WE} {p2 pos2 : Pos} (hc : X.calm = true) (hg : Gl X "tuple") (hm : X.mg "tuple" = none) (hg2 : Gl X "range") (hm2 : X.mg "range" = none) (ha : DE X C a ta wa) (hs : starEach [a] X.env = (false, eval a X.env) :: starEach [] X.env := by rfl)
    (hs2 : starEach [.Call (.Name "range" p2) [a] [] pos2] X.env = (false, eval (.Call (.Name "range" p2) [a] [] pos2) X.env) :: starEach [] X.env := by rfl) :
    DE X C (.Call (.Name "tuple" p) [.Call (.Name "range" p2) [a] [] pos2] [] pos) (tTupRg (tRg1 ta)) (wTupRg wa) := ⟨pe_tupRg hc hg hm (prg_1 hg2 hm2 ha.pe hs) hs2, fun G σ H s Q Q' r q k =>
  ha.ie G σ H s _ _ r q fun v d s1 G1 H1 q1 r1 eg eh p => by
    obtain ⟨n, rfl, h0, h1, q1⟩ := q1
    refine ⟨n, dp_int p, RgOk.of_le (by decide) (by omega) (by decide) h0, fun l hl => ?_⟩
    obtain ⟨r2, eg2, eh2⟩ := r1.new (o := .tup (rgV 0 n)) hl
    exact k _ _ s1 _ _ q1 r2 (eg.trans eg2) (eh.trans eh2) (.tup (.inl (.inl upd_same)) (dpa_ex eg2 (dpa_iota 0 n)))⟩
end
end Dw
namespace Dw
open PySem PySem.Spec PyProof.Rows L2 OgR Evl
def wNotT (w : WE) : WE := fun s Q => w s fun d s1 => ∃ k, truD d = some k ∧ Q (.bool (!k)) s1
end Dw
namespace Dw
open PySem PySem.Spec PyProof.Rows L2 OgR Evl
section
variable {P : Program} {w : World} {A : Around} {E : Value → Shared → Prop} {s : Shared}
def emp (w : World) : Obj := { cls := .type "set", dict := none, data := .set #[] 0 (.fresh 0 0 (!w.params.followText "set-order")) }
/-- what is known once the ints are in -/
def Filled (w : World) (s : Shared) (ns : List Int) (h : Heap) (c : Nat) : Prop := SetR w h s.heap.objs.size (fun j => decide (j ∈ ns)) c ∧ c ≤ ns.length ∧ ∀ b o, s.heap.get? b = some o → h.get? b = some o
set_option maxRecDepth 100000 in
set_option maxHeartbeats 3200000 in
theorem set_ofList {l : Addr} {xs : Array Value} (ns : List Int) {Q : Value → Shared → Prop} (nh : A.handled = none) (lst : s.heap.IsList l xs) (iA : IntsAre xs.toList ns) (few : ns.length + 1 < scanBound)
    (k : ∀ (h' : Heap) (tk c : Nat), Filled w s ns h' c → Q (.ref s.heap.objs.size) { s with heap := h', toks := tk }) : wpAny (model P w) A (call (.type "set") [.ref l]) Q E s := by
  have many : xs.size = ns.length := by rw [← Array.length_toList]; exact IntsAre.length iA
  obtain ⟨c, tl, m1⟩ := F.called_set.mro
  have m2 := F.called_set.made
  have m3 := F.called_set.sub
  refine wpAny_call (codeAny_of_tree ?_)
  show wpAny _ _ (callAny (.type "set") _) _ _ _
  refine wpAny_pure ⟨Code.quiet_builtin _ (by decide +kernel), codeAny_builtin F.entry_type_call ?_⟩
  rw [Around.under_plain (weight_type_call_type "set" [.ref l] []) rfl]
  have m4 := F.called_set.notType
  have m5 := F.called_set.canCreate
  have m6 := F.typeCall_set_1 (.ref l)
  repeat (any_goals (first | assumption | wp_step))
  refine codeAny_mono (code_set_led1 (.ref l) (E := E) (Q₁ := fun o z => o = .ref s.heap.objs.size ∧ z = { s with heap := s.heap.push (emp w) }) ⟨rfl, rfl⟩) fun r z hz => ?_
  cases r with
  | error e => exact hz
  | ok fl =>
    cases fl with
    | ret o =>
      obtain ⟨rfl, rfl⟩ := hz
      have here : (s.heap.push (emp w)).get? s.heap.objs.size = some (emp w) := Heap.get?_push_size _ rfl
      have ty : Shared.TypeIs { s with heap := s.heap.push (emp w) } (.ref s.heap.objs.size) "set" := ⟨_, here, rfl⟩
      have i1 := F.called_set.init.lookup
      have i2 := F.called_set.init.bind (.ref s.heap.objs.size)
      repeat (any_goals (first | assumption | wp_step))
      refine codeAny_mono (codeAny_call_builtin (R := wants (fun r z => r = .none ∧ ∃ h' tk c, z = { s with heap := h', toks := tk } ∧ Filled w s ns h' c) E) F.called_set.init.plain F.entry_set_init (check_set_init_1 ty ?_)) fun r2 z2 hz2 => ?_
      · obtain ⟨ol, g1, g2, nl, g3⟩ := lst
        obtain ⟨o1, o2, o3, o4⟩ := ol
        simp only at g2 g3
        subst g2; subst g3
        have g4 : (s.heap.push (emp w)).get? l = some { cls := .type "list", dict := o2, data := .seq xs nl, slots := o4 } := Heap.get?_push_of_some _ g1
        have n1 : isSubtype (.type "list") (.type "set") = pure false := by rw [isSubtype_type]; kernel_rfl
        have n2 : isSubtype (.type "list") (.type "frozenset") = pure false := by rw [isSubtype_type]; kernel_rfl
        have n3 : (Value.type "list" == Value.type "dict") = false := by decide
        have li : (s.heap.push (emp w)).IsList l xs := ⟨_, g4, rfl, nl, rfl⟩
        unfold Builtin.«set.__init__» noKeywords Builtin.Frozenset.updateFrom
        generalize hPI : pyIter = PI
        wp_walk
        subst hPI
        refine wpAny_pyIter_list li ?_
        refine wpAny_bind (wpAny_runValue ?_)
        have low : l < s.heap.objs.size := Heap.lt_size g1
        have size : (s.heap.push (emp w)).objs.size = s.heap.objs.size + 1 := Heap.size_push ..
        have apart : l ≠ (s.heap.push (emp w)).objs.size := fun e => Nat.lt_irrefl _ (Nat.lt_of_lt_of_eq (Nat.lt_succ_of_lt low) (e.trans size).symm)
        have out : s.heap.objs.size ∉ [(s.heap.push (emp w)).objs.size, l] := by
          simp only [List.mem_cons, List.not_mem_nil, or_false, not_or]
          exact ⟨fun e => absurd (e.trans size) (Nat.ne_of_lt (Nat.lt_succ_self _)), (Nat.ne_of_lt low).symm⟩
        have vals : ∀ (i : Nat) (v : Value), xs[i]? = some v → ∃ z t, ns[i]? = some z ∧ v = .int z t := fun i v hv => by
          have hi : i < ns.length := by rw [← many]; exact (Array.getElem?_eq_some_iff.mp hv).1
          obtain ⟨t, e⟩ := PyProof.Rows.IntsAre.int_at iA i v (by rw [Array.getElem?_toList]; exact hv)
          exact ⟨ns[i], t, List.getElem?_eq_getElem hi, by rw [e, List.getD_eq_getElem?_getD, List.getElem?_eq_getElem hi] <;> rfl⟩
        refine set_update_ints ((Walks.list (by simp [nh]) _ l apart xs).toS) s.heap.objs.size out ns many few vals (xs.size - 0) 0 _ (by omega) (Nat.zero_le _) ⟨⟨_, Heap.get?_push_size _ rfl, rfl, rfl⟩, (li.push _)⟩ ⟨0, Nat.le_refl 0, setR_new_at (Heap.get?_push_of_some _ here)⟩ fun z c hm hc hS => ?_
        obtain ⟨h', z1, z2, tk, z3⟩ := z
        have e1 : z1 = s.gens := hm.gens
        have e2 : z2 = s.drawn := hm.drawn
        have e3 : z3 = s.os := hm.os
        subst e1; subst e2; subst e3
        show wpAny _ _ _ _ _ _
        refine wpAny_pure ?_
        show wpAny _ _ (ret Value.none) _ _ _
        rw [many] at hc
        refine wpAny_pure ⟨rfl, h', tk, c, rfl, hS, hc, fun b o e => ?_⟩
        have lb : b < s.heap.objs.size := Heap.lt_size e
        refine hm.heap b o ?_ (Heap.get?_push_of_some _ (Heap.get?_push_of_some _ e))
        simp only [List.mem_cons, List.not_mem_nil, or_false, not_or]
        exact ⟨Nat.ne_of_lt lb, fun e => absurd (e.trans size) (Nat.ne_of_lt (Nat.lt_succ_of_lt lb))⟩
      · cases r2 with
        | error e => exact hz2
        | ok fl2 =>
          cases fl2 with
          | ret r =>
            obtain ⟨rfl, h', tk, c, rfl, hF⟩ := hz2
            repeat (any_goals (first | assumption | wp_step))
            exact k _ _ _ hF
          | _ => exact hz2.elim
    | _ => exact hz.elim
end
section
variable {X : Cx} {C : Ct}
def rSetL (K : PySem.W.Frag) (w : World) : List V → Hp → VK → Prop := fun vs H Q => ∃ (p : Addr) (ns : List Int), vs = [V.ref p] ∧ SqL K H p (ns.map V.int) ∧ ns.length ≤ 1000 ∧ ∀ l c, H l = none → c ≤ ns.length → Q (.ref l) (upd H l (SetO w l (fun j => decide (j ∈ ns)) c))
theorem cr_setL (hc : X.calm = true) : CallR X (.type "set") (rSetL X.K X.w) := by
  intro pins s σ H vs us Q I r h
  obtain ⟨p, ns, rfl, hq, hl, q⟩ := h
  rw [Vals.ref1 r]
  obtain ⟨its, rv, pt, hz⟩ := I.list hq
  obtain ⟨o, n, p1, p2, _, p3⟩ := pt
  refine set_ofList ns (I.ok.hd hc) (show s.heap.IsList p its.toArray from ⟨o, p1, p2, n, p3⟩) (by simpa using ints_of_vals rv) (by unfold scanBound; omega) fun h' tk c hF => ?_
  exact ⟨.ref _, _, I.laid (t' := tk) (fun b u e => hF.2.2 b u e) (Nat.le_refl _) (setO_new hF.1), rfl, q _ _ (I.hok.fresh (Nat.le_refl _)) hF.2.1⟩
def gSrtSet (d : PyData) (s : Dt) (Q : List PyData → Dt → Prop) : Prop := ∃ ns : List Int, d = .list (ns.map .int) ∧ ns.length ≤ 60 ∧ ∀ ks : List Int, ks.Pairwise (· < ·) → (∀ k, k ∈ ks ↔ k ∈ ns) → Q (ks.map .int) s
theorem do_srtSet {a : Expr} {ta : TE} {wa : WE} {p p2 q pos : Pos} (hK : X.K = C.K) (hc : X.calm = true) (hg : Gl X "sorted") (hm : X.mg "sorted" = none) (hg2 : Gl X "set") (hm2 : X.mg "set" = none) (ha : DP X C a ta wa)
    (hs : starEach [a] X.env = (false, eval a X.env) :: starEach [] X.env := by rfl) (hs2 : starEach [.Call (.Name "set" p2) [a] [] q] X.env = (false, eval (.Call (.Name "set" p2) [a] [] q) X.env) :: starEach [] X.env := by rfl) :
    DO X C (.Call (.Name "sorted" p) [.Call (.Name "set" p2) [a] [] q] [] pos) (tCB (rSortedSet X.w) (tCons (tCB (rSetL X.K X.w) (tCons ta tNil)) tNil)) (w1O gSrtSet wa) :=
  ⟨pe_callB (cr_sortedSet hc) hg hm (by decide +kernel) (pa_cons (pe_callTy (cr_setL hc) hg2 hm2 PyProof.Rows.boot_set (pa_cons ha.pe pa_nil hs) (by decide) (by decide) hs) pa_nil hs2) (by decide) (by decide) hs2,
   fun G σ H s Q Q' rr h k => ha.ip G σ H s _ _ rr h fun v d s1 G1 H1 h1 r1 eg eh pk => by
    obtain ⟨ns, rfl, hl, h2⟩ := h1
    obtain ⟨p, xs, rfl, e1, e2⟩ := pk_lst pk r1.fin.gh
    rw [ints_dpa e2] at e1
    refine ⟨p, ns, rfl, hK ▸ e1, by omega, fun l c hl2 hc2 => ?_⟩
    obtain ⟨r2, eg2, eh2⟩ := r1.new (o := SetO X.w l (fun j => decide (j ∈ ns)) c) hl2
    refine ⟨l, _, c, rfl, upd_same, by omega, fun ks p2 hs hm hlen hn => ?_⟩
    refine own_new rr (h2 ks hs fun k => by rw [hm k]; simp) r2 (eg.trans eg2) (eh.trans eh2) ?_ hn k
    clear hs hm hlen
    induction ks with
    | nil => exact .nil
    | cons z l ih => exact .cons (.int _) ih⟩
end
end Dw
namespace Dw
open PySem PySem.Spec PyProof.Rows L2 OgR Evl
def rCountD (K : PySem.W.Frag) : V → List V → Hp → VK → Prop := fun x xs H Q => ∃ (a : Addr) (y : V) (d : PyData) (ds : List PyData), x = V.ref a ∧ xs = [y] ∧ Dp K H (V.ref a) (.list ds) ∧ Dp K H y d ∧
  PyData.plainAll ds = true ∧ d.plain = true ∧ PyData.depthAll ds ≤ 40 ∧ Q (.int (ds.countP fun z => PyData.eqv z d : Nat)) H
section
variable {X : Cx} {C : Ct} {o e a f : Expr} {pos p apos cpos : Pos} {to te : TE} {wo we : WE}
theorem mt_countD (hu : X.A.units + 65 < cLine) : MtR X "list.count" (rCountD X.K) := by
  intro pins s σ H x xs v us Q I rx rxs h
  obtain ⟨a, y, d, ds, rfl, rfl, hl, hy, h1, h2, h3, q⟩ := h
  cases rx
  cases rxs with
  | cons ry rt =>
    rename_i uy ut
    cases rt
    obtain ⟨bs, r1⟩ := Dp.reads I d y uy hy ry
    cases hl with
    | lst hs ha =>
      obtain ⟨its, rv, pl, hlen⟩ := I.list (.inl (.inl hs))
      obtain ⟨as, ra⟩ := Dp.readsAll I ds _ its ha rv
      refine SeqAt.count_list_data pl.isList (by simpa using ra) r1 h1 h2 (by have : min (PyData.depthAll ds) d.depth ≤ 40 := Nat.le_trans (Nat.min_le_left _ _) h3; omega) ?_
      exact ⟨.int _, H, I.tok _, ⟨_, rfl⟩, q⟩
def wCount (wo we : WE) : WE := fun s Q => wo s fun d s1 => ∃ ds, d = .list ds ∧ we s1 fun y s2 => PyData.plainAll ds = true ∧ y.plain = true ∧ PyData.depthAll ds ≤ 40 ∧ Q (.int (ds.countP fun z => PyData.eqv z y : Nat)) s2
theorem de_count (hK : X.K = C.K) (hu : X.A.units + 65 < cLine) (ho : DE X C o to wo) (he : DE X C e te we)
    (hbase : attributeBase o "count" X.env (eval o X.env) = eval o X.env := by rfl)
    (hfew : ((backTo cpos (starEach (e :: []) X.env)).all (fun x => !x.1) && (backToKw cpos (keywordEach [] X.env)).all (fun x => x.1.isSome)
      && decide ((e :: []).length + ([] : List Keyword).length + (if ([] : List Keyword).isEmpty then 0 else 1) < 30)) = true := by rfl)
    (hline : (apos.endLine == cpos.line) = true := by rfl) (hs : starEach (e :: []) X.env = (false, eval e X.env) :: starEach [] X.env := by rfl) (hplain : (backTo cpos (starEach [] X.env)).any (·.1) = false := by rfl) :
    DE X C (.Call (.Attribute o "count" apos) [e] [] cpos) (tBM C.K "list" (rCountD C.K) to (tCons te tNil)) (wCount wo we) :=
  ⟨hK ▸ pe_bm PySem.F.plainAttrs_list PySem.F.slot_list_count PySem.F.type_list_count (mt_countD hu) ho.pe (pa_cons he.pe pa_nil hs) hbase hfew hline hs hplain, fun G σ H s Q Q' r q k => ho.ie G σ H s _ _ r q fun v d s1 G1 H1 q1 r1 eg1 g1 p1 => by
    obtain ⟨ds, rfl, q1⟩ := q1
    obtain ⟨b, xs, rfl, sq, da⟩ := dp_seq (H := H1) p1 rfl
    refine ⟨.inl ⟨rfl, xs, Evl.ex_l r1.fin.gh sq⟩, he.ie G1 σ H1 s1 _ _ r1 q1 fun v2 y s2 G2 H2 q2 r2 eg2 g2 p2 => ?_⟩
    obtain ⟨h1, h2, h3, q2⟩ := q2
    exact ⟨b, v2, y, ds, rfl, rfl, dp_ex r2.fin.gh (dp_ex eg2 p1), dp_ex r2.fin.gh p2, h1, h2, h3, k _ _ s2 G2 H2 q2 r2 (eg1.trans eg2) (g1.trans g2) (.int _)⟩⟩
end
end Dw
namespace Dw
open PySem PySem.Spec PyProof.Rows L2 OgR Evl Gx
theorem NewS.as {C C' : Ct} {cS : Addr} {G1 H1 G2 H2 : Hp} {o : Ob} {S : Sd} (h : NewS C cS G1 H1 G2 H2 o S) (e : C'.K = C.K) : NewS C' cS G1 H1 G2 H2 o S := ⟨h.eg, h.eh, h.gh, h.nw, h.of, e ▸ h.ob, h.fr⟩
abbrev FNw := Cs → List PyData → (Sd → Cs → Prop) → (Str → Str → PyData → Cs → Prop) → Prop
def spNew (K : PySem.W.Frag) (mg : Str → Option Value) (cS : Addr) (F : FNw) : Sp := fun vs H Q E => ∃ (x : Bx) (c : Cs) (vs' : List V) (G : Hp) (ds : List PyData) (R : Sd → Cs → Prop) (RX : Str → Str → PyData → Cs → Prop), vs = x.hd ++ vs' ∧ x.tab = none ∧ x.box.isSome = false ∧ OfS cS x.obs ∧ InO K x G H c ∧ Ex G H ∧ DpAll K G vs' ds ∧ F c ds R RX ∧
  (∀ o S' c' G1 H1 G2 H2, R S' c' → OutO K x G H G1 H1 c' → NewS ⟨K, b0, H, G⟩ cS G1 H1 G2 H2 o S' → Q (.ref o.adr) H2) ∧ ExO K mg x G H (fun o c' => match o with | .ok _ => False | .ex nm fld d => RX nm fld d c') E
structure MetN (P : Program) (wd : World) (K : PySem.W.Frag) (mg : Str → Option Value) (base : Heap) (k : Nat) (cS : Addr) (m qual : Str) (st : Stmt) (ps : List Str) (F : FNw) : Prop where
  ex : ∃ f fd, FnGX P wd K mg base k f fd ps (spNew K mg cS F) ∧ Binds K fd ps [] ∧ Meth K cS m f ∧ Fun K m qual st f fd
section
variable {P : Program} {wd : World} {K : PySem.W.Frag} {mg : Str → Option Value} {base : Heap}
/-- what follows the first statements, by hand -/
theorem MetN.make {k : Nat} {m qual : Str} {cS : Addr} {st : Stmt} {N ps : List Str} {F : FNw} (c : FctM K cS m qual st ps) (S : FnScope N ps (defScope st)) (hl : ∀ c ds R RX, F c ds R RX → c.o.length + ds.length = ps.length)
    (body : ∀ (f : Addr) (cdv : Value) (A : Around) (outer : List Env) (s : Shared) (H G : Hp) (Q : VK) (E : XK) (x : Bx) (c : Cs) (ds : List PyData) (R : Sd → Cs → Prop) (RX : Str → Str → PyData → Cs → Prop), A.guards = some [] → Room k (A.deeper (envOfC qual (defScope st) s.heap.objs.size f cdv)) → x.tab = none → OfS cS x.obs → F c ds R RX →
      Xt ⟨K, x, H, G⟩ mg E RX →
      ∃ t, PSs (cxOf (L2.CX P wd) P wd K mg base N qual (defScope st) f cdv A outer s H E) (defBody st) t ∧
        ∀ σ, Rel ⟨K, x, H, G⟩ G σ H ⟨env0 N (hdO false c.o.length ++ ds.map .d), c⟩ → (∀ o S' c' σ1 G1 H1 G2 H2 env, R S' c' → Rel ⟨K, x, H, G⟩ G1 σ1 H1 ⟨env, c'⟩ → Ex G G1 → NewS ⟨K, x, H, G⟩ cS G1 H1 G2 H2 o S' → Q (.ref o.adr) H2) → t { nx := fun _ H' => Q .non H', rt := Q } σ H) : MetN P wd K mg base (k + 1) cS m qual st ps F := by
  obtain ⟨f, fd, Fn, b, mt⟩ := c.ex
  refine ⟨f, fd, fnGX_of Fn S (fun vs H Q E h => ?_) (fun cdv A outer s H vs Q E hG hr h => ?_), b, mt, Fn⟩
  · obtain ⟨x, c, vs', G, ds, R, RX, rfl, _, hb, _, i, _, p, hF, _⟩ := h
    rw [List.length_append, hd_len hb, dpa_len p, obsAt_len i.ob]
    exact hl c ds R RX hF
  · obtain ⟨x, c, vs', G, ds, R, RX, rfl, ht, hb, hS, i, gh, p, hF, kk, kx⟩ := h
    obtain ⟨t, D, hw⟩ := body f cdv A outer s H G Q E x c ds R RX hG hr ht hS hF fun nm fld d c Cc dx u G' H' hR hm f' h0 hd pd => kx nm fld d c Cc dx u G' H' hR hm f'.outO h0 hd pd
    exact ⟨t, D, hw _ (rel0 ht hb i gh p) fun o S' c' σ1 G1 H1 G2 H2 env hR r1 eg n => kk o S' c' G1 H1 G2 H2 hR r1.fin.outO (n.as rfl)⟩
end
end Dw
namespace Dw
open PySem PySem.Spec PyProof.Rows L2 OgR Evl Gx
structure MetK (P : Program) (wd : World) (K : PySem.W.Frag) (mg : Str → Option Value) (base : Heap) (k : Nat) (cS : Addr) (m qual : Str) (st : Stmt) (ps : List Str) (F : FOb) : Prop where
  ex : ∃ f fd, FnGX P wd K mg base k f fd ps (spObj K mg cS false F) ∧ Binds K fd ps [] ∧ Meth K cS m f ∧ Fun K m qual st f fd
section
variable {P : Program} {wd : World} {K : PySem.W.Frag} {mg : Str → Option Value} {base : Heap}
theorem MetK.o {k : Nat} {cS : Addr} {m qual : Str} {st : Stmt} {ps : List Str} {F : FOb} (D : MetK P wd K mg base k cS m qual st ps F) : MetO P wd K mg base k cS m ps F := by
  obtain ⟨f, fd, a, b, c, _⟩ := D.ex
  exact ⟨f, fd, a, b, c⟩
theorem MetK.make {k : Nat} {m qual : Str} {cS : Addr} {st : Stmt} {N ps : List Str} {F : FOb} (c : FctM K cS m qual st ps) (S : FnScope N ps (defScope st)) (hl : ∀ c ds R, F c ds R → c.o.length + ds.length = ps.length)
    (body : ∀ (f : Addr) (cdv : Value) (A : Around) (outer : List Env) (s : Shared) (H G : Hp) (E : XK) (x : Bx) (c : Cs) (ds : List PyData) (R : Oc → Cs → Prop), A.guards = some [] → Room k (A.deeper (envOfC qual (defScope st) s.heap.objs.size f cdv)) → x.tab = none → OfS cS x.obs → F c ds R →
      Xt ⟨K, x, H, G⟩ mg E (fun nm fld d c => R (.ex nm fld d) c) →
      ∃ t w, DSs (cxOf (L2.CX P wd) P wd K mg base N qual (defScope st) f cdv A outer s H E) ⟨K, x, H, G⟩ (defBody st) t w ∧
        w { nx := fun s => R (.ok .none) s.c, rt := fun d c => R (.ok d) c } ⟨env0 N (hdO false c.o.length ++ ds.map .d), c⟩) : MetK P wd K mg base (k + 1) cS m qual st ps F := by
  obtain ⟨f, fd, Fn, b, mt⟩ := c.ex
  refine ⟨f, fd, fnGX_of Fn S (fun vs H Q E h => ?_) (fun cdv A outer s H vs Q E hG hr h => ?_), b, mt, Fn⟩
  · obtain ⟨x, c, vs', G, ds, R, rfl, _, hb, _, i, _, p, hF, _⟩ := h
    rw [List.length_append, hd_len hb, dpa_len p, obsAt_len i.ob]
    exact hl c ds R hF
  · obtain ⟨x, c, vs', G, ds, R, rfl, ht, hb, hS, i, gh, p, hF, kk, kx⟩ := h
    obtain ⟨t, w, D, hw⟩ := body f cdv A outer s H G E x c ds R hG hr ht hS hF fun nm fld d c Cc dx u G' H' hR hm f' h0 hd pd => kx nm fld d c Cc dx u G' H' hR hm f'.outO h0 hd pd
    exact ⟨t, D.ps, D.is G _ H _ _ _ (rel0 ht hb i gh p) hw ⟨fun σ' H' s' G' hn r' e => kk .non .none _ G' H' hn r'.fin.outO .non, fun _ _ _ _ h => h.elim, fun _ _ _ _ h => h.elim, fun v d c' G' H' hR f' e pv => kk v d c' G' H' hR f'.outO pv⟩⟩
end
section
variable {X : Cx} {C : Ct} {e o : Expr} {es : List Expr} {kws : List Keyword} {pos p apos yp : Pos} {m x y qual : Str} {ps ks : List Str} {k n : Nat} {π : List Nat} {f cS : Addr} {fd : FuncData} {sp : Sp} {tA tk : TA} {ta : TE} {W : L2.WX} {wA : WA} {F : FOb} {FN : FNw} {st : Stmt}
def wMK (i : Nat) (F : FOb) (n : Nat) (π : List Nat) (wA : WA) : WY := fun s Q QX => ∃ j S, s.env[i]? = some (some (.ob j)) ∧ s.c.o[j]? = some (.st S) ∧ wA s fun ds s1 => ds.length = n ∧ CallsO F false false [j] (perm π ds) s1 Q QX
end
end Dw
namespace Dw
open PySem PySem.Spec PyProof.Rows L2 OgR Evl Gx
section
variable {X : Cx} {C : Ct} {G G' H H' G1 H1 G2 H2 : Hp} {σ : L2.St} {s s1 : Dt} {e o' : Expr} {es : List Expr} {kws : List Keyword} {pos p apos yp : Pos} {m x y qual : Str} {ps ks : List Str} {k n : Nat} {π : List Nat} {f cS : Addr} {fd : FuncData} {sp : Sp} {tA tk : TA} {ta tn : TE} {W : L2.WX} {wA : WA} {wn : WNs} {F : FOb} {FN : FNw} {st : Stmt} {o : Ob} {S : Sd}
abbrev WNX := Dt → (Sd → Dt → Prop) → QXd → Prop
def wMN (i : Nat) (F : FNw) (wA : WA) : WNX := fun s Q QX => ∃ j S, s.env[i]? = some (some (.ob j)) ∧ s.c.o[j]? = some (.st S) ∧ wA s fun ds s1 => ∃ z, s1.c.o[j]? = some z ∧ F ⟨0, [z]⟩ ds (fun S' c' => Q S' ⟨s1.env, ⟨s1.c.n, putO s1.c.o [j] c'.o⟩⟩) (fun nm fld d c' => QX nm fld d ⟨s1.env, ⟨s1.c.n, putO s1.c.o [j] c'.o⟩⟩)
def wMNK (i : Nat) (F : FNw) (n : Nat) (π : List Nat) (wA : WA) : WNX := fun s Q QX => ∃ j S, s.env[i]? = some (some (.ob j)) ∧ s.c.o[j]? = some (.st S) ∧ wA s fun ds s1 => ds.length = n ∧ ∃ z, s1.c.o[j]? = some z ∧ F ⟨0, [z]⟩ (perm π ds) (fun S' c' => Q S' ⟨s1.env, ⟨s1.c.n, putO s1.c.o [j] c'.o⟩⟩) (fun nm fld d c' => QX nm fld d ⟨s1.env, ⟨s1.c.n, putO s1.c.o [j] c'.o⟩⟩)
end
end Dw
namespace Dw
open PySem PySem.Spec PyProof.Rows L2 OgR Evl Gx
section
variable {X : Cx} {C : Ct} {G G' H H' G1 H1 G2 H2 : Hp} {σ : L2.St} {s s1 : Dt} {e a b o' : Expr} {es : List Expr} {pos p apos yp : Pos} {m x y qual : Str} {ps : List Str} {k n : Nat} {f cS : Addr} {fd : FuncData} {sp : Sp} {tA : TA} {ta tn tn' : TE} {W : L2.WX} {wA : WA} {wn wn' : WNs} {F : FOb} {st : Stmt} {o : Ob} {S : Sd}
/-- what a call of it asks -/
def CallT (F : FOb) (js : List Nat) (ds : List PyData) (S : Sd) (s1 : Dt) (Q : PyData → Dt → Prop) : Prop := CallsO F false false (js ++ [s1.c.o.length]) ds ⟨s1.env, ⟨s1.c.n, s1.c.o ++ [.st S]⟩⟩ (fun d s2 => s2.env = s1.env ∧ Q d ⟨s1.env, ⟨s2.c.n, s2.c.o.take s1.c.o.length⟩⟩) fun _ _ _ _ => False
def wTm (wn : WNs) (F : FOb) : WE := fun s Q => wn s fun S s1 => CallT F [] [] S s1 Q
end
section
variable {X : Cx} {C : Ct} {e a b : Expr} {es : List Expr} {pos p py zp yp : Pos} {x y z : Str} {ps : List Str} {k : Nat} {cS : Addr} {tn te : TE} {we : WE} {wn : WNs} {F : FOb} {ts : List TE}
def wNeO (i l : Nat) (F : FOb) : WE := fun s Q => ∃ j S j' S', s.env[i]? = some (some (.ob j)) ∧ s.env[l]? = some (some (.ob j')) ∧ s.c.o[j]? = some (.st S) ∧ s.c.o[j']? = some (.st S') ∧ CallsO F false false [j, j'] [] s (fun d s1 => ∃ t, d = .bool t ∧ Q (.bool (!t)) s1) fun _ _ _ _ => False
def wEqT (neg : Bool) (i : Nat) (wn : WNs) (F : FOb) : WE := fun s Q => ∃ j S0, s.env[i]? = some (some (.ob j)) ∧ s.c.o[j]? = some (.st S0) ∧ wn s fun S s1 => (∃ S1, s1.c.o[j]? = some (.st S1)) ∧ CallT F [j] [] S s1 fun d s2 => ∃ t, d = .bool t ∧ Q (.bool (neg ^^ t)) s2
def wReprO (i : Nat) (F : FOb) : WE := fun s Q => ∃ j S, s.env[i]? = some (some (.ob j)) ∧ s.c.o[j]? = some (.st S) ∧ CallsO F false false [j] [] s (fun d s1 => ∃ z : Str, d = .str z ∧ Q d s1) fun _ _ _ _ => False
abbrev WJ := Str → Dt → (Str → Dt → Prop) → Prop
def wJ (we : WE) (w : WJ) : WJ := fun acc s Q => we s fun d s1 => ∃ y : Str, d = .str y ∧ (acc ++ y).length ≤ 100000 ∧ w (acc ++ y) s1 Q
def wFmt (we : WE) : WE := fun s Q => we s fun d s1 => (∃ y : Str, d = .str y ∧ y.length ≤ 100000 ∧ Q (.str y) s1) ∨ ∃ i : Int, d = .int i ∧ i.natAbs < 2 ^ 1000 ∧ Q (.str (toString i)) s1
def wJoined (w : WJ) : WE := fun s Q => w Str.empty s fun z s1 => Q (.str z) s1
end
end Dw
namespace Dw
open PySem PySem.Spec PyProof.Rows L2 OgR Evl Gx
section
variable {X : Cx} {C : Ct} {e : Expr} {es : List Expr} {kws : List Keyword} {pos p p2 p4 : Pos} {x y : Str} {k kk : Nat} {cS : Addr} {te tk : TE} {we : WE} {tA : TA} {wA : WA} {cVs : List V} {cvs : List Value}
def tCs : List V → TA
  | [] => tNil
  | v :: vs => tCons (tC v) (tCs vs)
inductive ClT (X : Cx) : List Expr → List V → List Value → Prop
  | nil : ClT X [] [] []
  | cons {e : Expr} {es : List Expr} {cV : V} {cVs : List V} {cv : Value} {cvs : List Value} (h : PE X e (tC cV)) (hc : ∀ u, RelV cV u → u = cv) (r : ClT X es cVs cvs) (hs : starEach (e :: es) X.env = (false, eval e X.env) :: starEach es X.env := by rfl) : ClT X (e :: es) (cV :: cVs) (cv :: cvs)
theorem ClT.pa (h : ClT X es cVs cvs) : PA X es (tCs cVs) := by
  induction h with
  | nil => exact pa_nil
  | cons h _ _ hs ih => exact pa_cons h ih hs
def wMkK (wA : WA) : WNs := fun s Q => wA s fun ds s1 => ∃ n : Int, ds = [.int n] ∧ Q (initS n) s1
end
end Dw
namespace OgM
abbrev Seg := Int × Nat
def Ok : Int → List Seg → Prop
  | _, [] => True
  | lo, x :: r => lo < x.1 ∧ Ok (x.1 + x.2 + 1) r
def Mem (p : Int) (g : List Seg) : Prop := ∃ x ∈ g, x.1 ≤ p ∧ p ≤ x.1 + x.2
theorem mem_cons {p : Int} {x : Seg} {g : List Seg} : Mem p (x :: g) ↔ (x.1 ≤ p ∧ p ≤ x.1 + x.2) ∨ Mem p g := by
  simp [Mem]
theorem mem_nil {p : Int} : ¬ Mem p [] := by simp [Mem]
theorem ok_lt : ∀ {g : List Seg} {lo p : Int}, Ok lo g → Mem p g → lo < p
  | [], _, _, _, h => absurd h mem_nil
  | x :: r, lo, p, h, m => by
    rcases mem_cons.mp m with m | m
    · have := h.1; omega
    · have := ok_lt h.2 m; have := h.1; omega
theorem ok_mono : ∀ {g : List Seg} {lo lo' : Int}, lo' ≤ lo → Ok lo g → Ok lo' g
  | [], _, _, _, _ => trivial
  | x :: r, lo, lo', h, k => ⟨by have := k.1; omega, k.2⟩
/-- one more plot -/
def add (p : Int) : List Seg → List Seg
  | [] => [(p, 0)]
  | (s, n) :: r =>
    if p < s - 1 then (p, 0) :: (s, n) :: r
    else if p = s - 1 then (p, n + 1) :: r
    else if p = s + n + 1 then
      match r with
      | [] => [(s, n + 1)]
      | (s', n') :: r' => if s' = p + 1 then (s, n + n' + 2) :: r' else (s, n + 1) :: (s', n') :: r'
    else (s, n) :: add p r
theorem ok_add : ∀ {g : List Seg} {lo p : Int}, Ok lo g → ¬ Mem p g → lo < p → Ok lo (add p g)
  | [], lo, p, _, _, h => ⟨h, trivial⟩
  | (s, n) :: r, lo, p, k, nm, h => by
    have k1 : lo < s := k.1
    have k2 : Ok (s + n + 1) r := k.2
    have nm1 : ¬ (s ≤ p ∧ p ≤ s + n) := fun e => nm (mem_cons.mpr (.inl e))
    have nm2 : ¬ Mem p r := fun e => nm (mem_cons.mpr (.inr e))
    unfold add
    split
    · exact ⟨h, by show p + ((0 : Nat) : Int) + 1 < s; omega, k2⟩
    · split
      · refine ⟨h, ?_⟩
        refine ok_mono ?_ k2
        show p + ((n + 1 : Nat) : Int) + 1 ≤ _
        omega
      · split
        · cases r with
          | nil => exact ⟨k1, trivial⟩
          | cons y r' =>
            obtain ⟨s', n'⟩ := y
            have k3 : s + n + 1 < s' := k2.1
            have k4 : Ok (s' + n' + 1) r' := k2.2
            show Ok lo (if s' = p + 1 then (s, n + n' + 2) :: r' else (s, n + 1) :: (s', n') :: r')
            split
            · refine ⟨k1, ok_mono ?_ k4⟩
              show s + ((n + n' + 2 : Nat) : Int) + 1 ≤ _
              omega
            · refine ⟨k1, ?_, k4⟩
              show s + ((n + 1 : Nat) : Int) + 1 < s'
              omega
        · exact ⟨k1, ok_add k2 nm2 (by show s + (n : Int) + 1 < p; omega)⟩
theorem mem_add : ∀ {g : List Seg} {lo p q : Int}, Ok lo g → (Mem q (add p g) ↔ q = p ∨ Mem q g)
  | [], lo, p, q, _ => by
    show Mem q [(p, 0)] ↔ _
    rw [mem_cons]
    simp only [mem_nil, or_false]
    constructor
    · intro h; have : p ≤ q ∧ q ≤ p + ((0 : Nat) : Int) := h; omega
    · intro h; exact ⟨by show p ≤ q; omega, by show q ≤ p + ((0 : Nat) : Int); omega⟩
  | (s, n) :: r, lo, p, q, k => by
    have k2 : Ok (s + n + 1) r := k.2
    unfold add
    split
    · rw [mem_cons]
      constructor
      · rintro (h | h)
        · have : p ≤ q ∧ q ≤ p + ((0 : Nat) : Int) := h
          exact .inl (by omega)
        · exact .inr h
      · rintro (h | h)
        · exact .inl ⟨by show p ≤ q; omega, by show q ≤ p + ((0 : Nat) : Int); omega⟩
        · exact .inr h
    · split
      · rename_i h1 h2
        rw [mem_cons, mem_cons]
        constructor
        · rintro (h | h)
          · have : p ≤ q ∧ q ≤ p + ((n + 1 : Nat) : Int) := h
            by_cases e : q = p
            · exact .inl e
            · exact .inr (.inl ⟨by show s ≤ q; omega, by show q ≤ s + (n : Int); omega⟩)
          · exact .inr (.inr h)
        · rintro (h | h | h)
          · exact .inl ⟨by show p ≤ q; omega, by show q ≤ p + ((n + 1 : Nat) : Int); omega⟩
          · have : s ≤ q ∧ q ≤ s + (n : Int) := h
            exact .inl ⟨by show p ≤ q; omega, by show q ≤ p + ((n + 1 : Nat) : Int); omega⟩
          · exact .inr h
      · split
        · rename_i h1 h2 h3
          cases r with
          | nil =>
            show Mem q [(s, n + 1)] ↔ _
            rw [mem_cons, mem_cons]
            constructor
            · rintro (h | h)
              · have : s ≤ q ∧ q ≤ s + ((n + 1 : Nat) : Int) := h
                by_cases e : q = p
                · exact .inl e
                · exact .inr (.inl ⟨by show s ≤ q; omega, by show q ≤ s + (n : Int); omega⟩)
              · exact .inr (.inr h)
            · rintro (h | h | h)
              · exact .inl ⟨by show s ≤ q; omega, by show q ≤ s + ((n + 1 : Nat) : Int); omega⟩
              · have : s ≤ q ∧ q ≤ s + (n : Int) := h
                exact .inl ⟨by show s ≤ q; omega, by show q ≤ s + ((n + 1 : Nat) : Int); omega⟩
              · exact .inr h
          | cons y r' =>
            obtain ⟨s', n'⟩ := y
            show Mem q (if s' = p + 1 then (s, n + n' + 2) :: r' else (s, n + 1) :: (s', n') :: r') ↔ _
            split
            · rename_i h4
              rw [mem_cons, mem_cons, mem_cons]
              constructor
              · rintro (h | h)
                · have : s ≤ q ∧ q ≤ s + ((n + n' + 2 : Nat) : Int) := h
                  by_cases e : q = p
                  · exact .inl e
                  · by_cases e2 : q < p
                    · exact .inr (.inl ⟨by show s ≤ q; omega, by show q ≤ s + (n : Int); omega⟩)
                    · exact .inr (.inr (.inl ⟨by show s' ≤ q; omega, by show q ≤ s' + (n' : Int); omega⟩))
                · exact .inr (.inr (.inr h))
              · rintro (h | h | h | h)
                · exact .inl ⟨by show s ≤ q; omega, by show q ≤ s + ((n + n' + 2 : Nat) : Int); omega⟩
                · have : s ≤ q ∧ q ≤ s + (n : Int) := h
                  exact .inl ⟨by show s ≤ q; omega, by show q ≤ s + ((n + n' + 2 : Nat) : Int); omega⟩
                · have : s' ≤ q ∧ q ≤ s' + (n' : Int) := h
                  exact .inl ⟨by show s ≤ q; omega, by show q ≤ s + ((n + n' + 2 : Nat) : Int); omega⟩
                · exact .inr h
            · rw [mem_cons (x := (s, n + 1)), mem_cons (x := (s, n))]
              constructor
              · rintro (h | h)
                · have : s ≤ q ∧ q ≤ s + ((n + 1 : Nat) : Int) := h
                  by_cases e : q = p
                  · exact .inl e
                  · exact .inr (.inl ⟨by show s ≤ q; omega, by show q ≤ s + (n : Int); omega⟩)
                · exact .inr (.inr h)
              · rintro (h | h | h)
                · exact .inl ⟨by show s ≤ q; omega, by show q ≤ s + ((n + 1 : Nat) : Int); omega⟩
                · have : s ≤ q ∧ q ≤ s + (n : Int) := h
                  exact .inl ⟨by show s ≤ q; omega, by show q ≤ s + ((n + 1 : Nat) : Int); omega⟩
                · exact .inr h
        · rw [mem_cons, mem_cons, mem_add k2]
          constructor
          · rintro (h | h | h)
            · exact .inr (.inl h)
            · exact .inl h
            · exact .inr (.inr h)
          · rintro (h | h | h)
            · exact .inr (.inl h)
            · exact .inl h
            · exact .inr (.inr h)
/-- segments are told by their members -/
theorem ok_ext : ∀ {g g' : List Seg} {lo lo' : Int}, Ok lo g → Ok lo' g' → (∀ q, Mem q g ↔ Mem q g') → g = g'
  | [], [], _, _, _, _, _ => rfl
  | [], (s, n) :: r, _, _, _, _, h => absurd ((h s).mpr (mem_cons.mpr (.inl ⟨Int.le_refl _, by show s ≤ s + (n : Int); omega⟩))) mem_nil
  | (s, n) :: r, [], _, _, _, _, h => absurd ((h s).mp (mem_cons.mpr (.inl ⟨Int.le_refl _, by show s ≤ s + (n : Int); omega⟩))) mem_nil
  | (s, n) :: r, (s', n') :: r', lo, lo', k, k', h => by
    have k2 : Ok (s + n + 1) r := k.2
    have k2' : Ok (s' + n' + 1) r' := k'.2
    have in1 : ∀ q, s ≤ q → q ≤ s + n → Mem q ((s', n') :: r') := fun q a b => (h q).mp (mem_cons.mpr (.inl ⟨a, b⟩))
    have in2 : ∀ q, s' ≤ q → q ≤ s' + n' → Mem q ((s, n) :: r) := fun q a b => (h q).mpr (mem_cons.mpr (.inl ⟨a, b⟩))
    have lo1 : ∀ {q}, Mem q ((s', n') :: r') → s' ≤ q := fun {q} m => by
      rcases mem_cons.mp m with m | m
      · exact m.1
      · have := ok_lt k2' m; omega
    have lo2 : ∀ {q}, Mem q ((s, n) :: r) → s ≤ q := fun {q} m => by
      rcases mem_cons.mp m with m | m
      · exact m.1
      · have := ok_lt k2 m; omega
    have es : s = s' := by
      have a := lo1 (in1 s (Int.le_refl _) (by omega))
      have b := lo2 (in2 s' (Int.le_refl _) (by omega))
      omega
    subst es
    have en : n = n' := by
      by_cases e1 : n < n'
      · have m := in2 (s + n + 1) (by omega) (by omega)
        rcases mem_cons.mp m with m | m
        · have := m.2; simp only at this; omega
        · have := ok_lt k2 m; omega
      · by_cases e2 : n' < n
        · have m := in1 (s + n' + 1) (by omega) (by omega)
          rcases mem_cons.mp m with m | m
          · have := m.2; simp only at this; omega
          · have := ok_lt k2' m; omega
        · omega
    subst en
    have er : r = r' := ok_ext k2 k2' fun q => by
      constructor
      · intro m
        have lt := ok_lt k2 m
        rcases mem_cons.mp ((h q).mp (mem_cons.mpr (.inr m))) with a | a
        · have := a.2; simp only at this; omega
        · exact a
      · intro m
        have lt := ok_lt k2' m
        rcases mem_cons.mp ((h q).mpr (mem_cons.mpr (.inr m))) with a | a
        · have := a.2; simp only at this; omega
        · exact a
    rw [er]
/-- the segments of a list of plots -/
def segs : List Int → List Seg := List.foldl (fun g p => add p g) []
theorem segs_snoc (l : List Int) (p : Int) : segs (l ++ [p]) = add p (segs l) := by
  unfold segs
  rw [List.foldl_append]
  rfl
theorem lower : ∀ l : List Int, ∃ lo : Int, ∀ p ∈ l, lo < p
  | [] => ⟨0, fun p h => absurd h (by simp)⟩
  | x :: r => by
    obtain ⟨lo, h⟩ := lower r
    refine ⟨min lo (x - 1), fun p hp => ?_⟩
    rcases List.mem_cons.mp hp with e | hp
    · subst e; omega
    · have := h p hp; omega
theorem snoc_ind {α : Type} {P : List α → Prop} (h0 : P []) (h1 : ∀ l x, P l → P (l ++ [x])) (l : List α) : P l := by
  have h : ∀ l : List α, P l.reverse := fun l => by
    induction l with
    | nil => exact h0
    | cons x r ih =>
      rw [List.reverse_cons]
      exact h1 _ _ ih
  have := h l.reverse
  rwa [List.reverse_reverse] at this
theorem segs_ok : ∀ {l : List Int} {lo : Int}, l.Nodup → (∀ p ∈ l, lo < p) → Ok lo (segs l) ∧ ∀ q, Mem q (segs l) ↔ q ∈ l := by
  intro l
  induction l using snoc_ind with
  | h0 => exact fun _ _ => ⟨trivial, fun q => by simp [segs, Mem]⟩
  | h1 l p ih => 
    intro lo hn hl
    have hn' : l.Nodup ∧ p ∉ l := by
      rw [List.nodup_append] at hn
      exact ⟨hn.1, fun h => hn.2.2 p h p (by simp) rfl⟩
    obtain ⟨a, b⟩ := ih hn'.1 fun q hq => hl q (by simp [hq])
    rw [segs_snoc]
    refine ⟨ok_add a (fun m => hn'.2 ((b p).mp m)) (hl p (by simp)), fun q => ?_⟩
    rw [mem_add a, b q]
    simp [or_comm]
theorem segs_eq {l l' : List Int} (h : l.Nodup) (h' : l'.Nodup) (e : ∀ q, q ∈ l ↔ q ∈ l') : segs l = segs l' := by
  obtain ⟨lo, hl⟩ := lower l
  obtain ⟨lo', hl'⟩ := lower l'
  obtain ⟨a, b⟩ := segs_ok h hl
  obtain ⟨a', b'⟩ := segs_ok h' hl'
  exact ok_ext a a' fun q => by rw [b q, b' q, e q]
end OgM
namespace OgM
inductive Wd where
  | new | beside | between
  deriving DecidableEq
def Wd.step : Wd → Int
  | .new => 1
  | .beside => 0
  | .between => -1
abbrev Ch := Wd × Nat
def shift : Ch → Ch
  | (.new, k) => (.new, k + 1)
  | (.beside, k) => (.beside, k + 2)
  | (.between, k) => (.between, k + 1)
def pick (p : Int) : List Seg → Ch
  | [] => (.new, 0)
  | (s, n) :: r =>
    if p < s - 1 then (.new, 0)
    else if p = s - 1 then (.beside, 0)
    else if p = s + n + 1 then
      match r with
      | [] => (.beside, 1)
      | (s', _) :: _ => if s' = p + 1 then (.between, 0) else (.beside, 1)
    else shift (pick p r)
theorem shift_word (c : Ch) : (shift c).1 = c.1 := by
  obtain ⟨w, k⟩ := c
  cases w <;> rfl
/-- the four places of a new plot beside the first segment -/
theorem places {P : Prop} {s : Int} {n : Nat} {p : Int} {r : List Seg} (nm : ¬ (s ≤ p ∧ p ≤ s + n)) (h1 : p < s - 1 → P) (h2 : p = s - 1 → P) (h3 : p = s + n + 1 → P) (h4 : s + n + 1 < p → P) : P := by
  by_cases e1 : p < s - 1
  · exact h1 e1
  · by_cases e2 : p = s - 1
    · exact h2 e2
    · by_cases e3 : p = s + n + 1
      · exact h3 e3
      · exact h4 (by omega)
theorem pick_1 {p s : Int} {n : Nat} {r : List Seg} (h : p < s - 1) : pick p ((s, n) :: r) = (.new, 0) ∧ add p ((s, n) :: r) = (p, 0) :: (s, n) :: r := by
  unfold pick add
  rw [if_pos h, if_pos h]
  exact ⟨rfl, rfl⟩
theorem pick_2 {p s : Int} {n : Nat} {r : List Seg} (h : p = s - 1) : pick p ((s, n) :: r) = (.beside, 0) ∧ add p ((s, n) :: r) = (p, n + 1) :: r := by
  unfold pick add
  rw [if_neg (by omega), if_pos h, if_neg (by omega), if_pos h]
  exact ⟨rfl, rfl⟩
theorem pick_30 {p s : Int} {n : Nat} (h : p = s + n + 1) : pick p [(s, n)] = (.beside, 1) ∧ add p [(s, n)] = [(s, n + 1)] := by
  unfold pick add
  rw [if_neg (by omega), if_neg (by omega), if_pos h, if_neg (by omega), if_neg (by omega), if_pos h]
  exact ⟨rfl, rfl⟩
theorem pick_31 {p s s' : Int} {n n' : Nat} {r : List Seg} (h : p = s + n + 1) (h' : s' = p + 1) : pick p ((s, n) :: (s', n') :: r) = (.between, 0) ∧ add p ((s, n) :: (s', n') :: r) = (s, n + n' + 2) :: r := by
  unfold pick add
  rw [if_neg (by omega), if_neg (by omega), if_pos h, if_neg (by omega), if_neg (by omega), if_pos h]
  show (if s' = p + 1 then (Wd.between, 0) else (Wd.beside, 1)) = _ ∧ (if s' = p + 1 then (s, n + n' + 2) :: r else (s, n + 1) :: (s', n') :: r) = _
  rw [if_pos h', if_pos h']
  exact ⟨rfl, rfl⟩
theorem pick_32 {p s s' : Int} {n n' : Nat} {r : List Seg} (h : p = s + n + 1) (h' : s' ≠ p + 1) : pick p ((s, n) :: (s', n') :: r) = (.beside, 1) ∧ add p ((s, n) :: (s', n') :: r) = (s, n + 1) :: (s', n') :: r := by
  unfold pick add
  rw [if_neg (by omega), if_neg (by omega), if_pos h, if_neg (by omega), if_neg (by omega), if_pos h]
  show (if s' = p + 1 then (Wd.between, 0) else (Wd.beside, 1)) = _ ∧ (if s' = p + 1 then (s, n + n' + 2) :: r else (s, n + 1) :: (s', n') :: r) = _
  rw [if_neg h', if_neg h']
  exact ⟨rfl, rfl⟩
theorem pick_4 {p s : Int} {n : Nat} {r : List Seg} (h : s + n + 1 < p) : pick p ((s, n) :: r) = shift (pick p r) ∧ add p ((s, n) :: r) = (s, n) :: add p r := by
  constructor
  · conv => lhs; unfold pick
    rw [if_neg (by omega), if_neg (by omega), if_neg (by omega)]
  · conv => lhs; unfold add
    rw [if_neg (by omega), if_neg (by omega), if_neg (by omega)]
/-- a way through: the six cases at the first segment -/
theorem way {C : List Seg → Prop} {p : Int} (h0 : C []) (h1 : ∀ (s : Int) (n : Nat) (r : List Seg), p < s - 1 → Ok (s + n + 1) r → C ((s, n) :: r)) (h2 : ∀ (s : Int) (n : Nat) (r : List Seg), p = s - 1 → Ok (s + n + 1) r → C ((s, n) :: r))
    (h30 : ∀ (s : Int) (n : Nat), p = s + n + 1 → C [(s, n)]) (h31 : ∀ (s : Int) (n : Nat) (s' : Int) (n' : Nat) (r : List Seg), p = s + n + 1 → s' = p + 1 → Ok (s' + n' + 1) r → C ((s, n) :: (s', n') :: r))
    (h32 : ∀ (s : Int) (n : Nat) (s' : Int) (n' : Nat) (r : List Seg), p = s + n + 1 → p + 1 < s' → Ok (s' + n' + 1) r → C ((s, n) :: (s', n') :: r))
    (h4 : ∀ (s : Int) (n : Nat) (r : List Seg), s + n + 1 < p → Ok (s + n + 1) r → ¬ Mem p r → C r → C ((s, n) :: r)) : ∀ {g : List Seg} {lo : Int}, Ok lo g → ¬ Mem p g → C g
  | [], _, _, _ => h0
  | (s, n) :: r, lo, k, nm => by
    have k2 : Ok (s + n + 1) r := k.2
    have nm1 : ¬ (s ≤ p ∧ p ≤ s + n) := fun e => nm (mem_cons.mpr (.inl e))
    have nm2 : ¬ Mem p r := fun e => nm (mem_cons.mpr (.inr e))
    refine places (r := r) nm1 (fun e => h1 s n r e k2) (fun e => h2 s n r e k2) (fun e => ?_) (fun e => h4 s n r e k2 nm2 (way h0 h1 h2 h30 h31 h32 h4 k2 nm2))
    cases r with
    | nil => exact h30 s n e
    | cons y r' =>
      obtain ⟨s', n'⟩ := y
      have k3 : s + n + 1 < s' := k2.1
      by_cases e' : s' = p + 1
      · exact h31 s n s' n' r' e e' k2.2
      · exact h32 s n s' n' r' e (by omega) k2.2
def left (p : Int) (g : List Seg) : Nat := (g.filter fun x => decide (x.1 + x.2 < p)).length
theorem left_0 : ∀ {g : List Seg} {lo p : Int}, Ok lo g → p ≤ lo + 1 → left p g = 0
  | [], _, _, _, _ => rfl
  | (s, n) :: r, lo, p, k, h => by
    have k1 : lo < s := k.1
    have k2 : Ok (s + n + 1) r := k.2
    unfold left
    rw [List.filter_cons, if_neg (by simp; omega)]
    exact left_0 k2 (by omega)
theorem left_yes {p s : Int} {n : Nat} {r : List Seg} (h : s + n < p) : left p ((s, n) :: r) = left p r + 1 := by
  unfold left
  rw [List.filter_cons, if_pos (by simp; omega)]
  rfl
theorem left_no {p s : Int} {n : Nat} {r : List Seg} (h : ¬ s + n < p) : left p ((s, n) :: r) = left p r := by
  unfold left
  rw [List.filter_cons, if_neg (by simp; omega)]
theorem nmem {g : List Seg} {lo p : Int} (k : Ok lo g) (h : p ≤ lo) : ¬ Mem p g := fun m => by
  have := ok_lt k m
  omega
/-- what a choice says -/
structure Says (p : Int) (g : List Seg) (c : Ch) : Prop where
  new : c.1 = .new ↔ ¬ Mem (p - 1) g ∧ ¬ Mem (p + 1) g
  btw : c.1 = .between ↔ Mem (p - 1) g ∧ Mem (p + 1) g
  n1 : c.1 = .new → c.2 = left p g ∧ c.2 ≤ g.length
  n2 : c.1 = .between → c.2 + 1 = left p g ∧ c.2 + 1 < g.length
  n3 : c.1 = .beside → Mem (p - 1) g → c.2 + 1 = 2 * left p g ∧ c.2 < 2 * g.length
  n4 : c.1 = .beside → ¬ Mem (p - 1) g → c.2 = 2 * left p g ∧ c.2 < 2 * g.length
  len : ((add p g).length : Int) = g.length + c.1.step
theorem says {g : List Seg} {lo p : Int} (k : Ok lo g) (nm : ¬ Mem p g) : Says p g (pick p g) := by
  refine way (C := fun g => Says p g (pick p g)) ?_ ?_ ?_ ?_ ?_ ?_ ?_ k nm
  · refine ⟨?_, ?_, ?_, ?_, ?_, ?_, rfl⟩
    · simp [pick, mem_nil]
    · simp [pick, mem_nil]
    · simp [pick, left]
    · simp [pick]
    · simp [pick]
    · simp [pick]
  · intro s n r h kr
    rw [(pick_1 h).1]
    have a1 : ¬ Mem (p - 1) ((s, n) :: r) := fun m => by
      rcases mem_cons.mp m with m | m
      · have := m.1; simp only at this; omega
      · have := ok_lt kr m; omega
    have a2 : ¬ Mem (p + 1) ((s, n) :: r) := fun m => by
      rcases mem_cons.mp m with m | m
      · have := m.1; simp only at this; omega
      · have := ok_lt kr m; omega
    refine ⟨by simp [a1, a2], by simp [a1], fun _ => ⟨?_, Nat.zero_le _⟩, by simp, by simp, by simp, ?_⟩
    · rw [left_no (by omega), left_0 kr (by omega)]
    · rw [(pick_1 h).2]
      simp [Wd.step]
  · intro s n r h kr
    rw [(pick_2 h).1]
    have a1 : ¬ Mem (p - 1) ((s, n) :: r) := fun m => by
      rcases mem_cons.mp m with m | m
      · have := m.1; simp only at this; omega
      · have := ok_lt kr m; omega
    have a2 : Mem (p + 1) ((s, n) :: r) := mem_cons.mpr (.inl ⟨by show s ≤ p + 1; omega, by show p + 1 ≤ s + (n : Int); omega⟩)
    refine ⟨by simp [a2], by simp [a1], by simp, by simp, fun _ m => absurd m a1, fun _ _ => ⟨?_, by simp⟩, ?_⟩
    · rw [left_no (by omega), left_0 kr (by omega)]
    · rw [(pick_2 h).2]
      simp [Wd.step]
  · intro s n h
    rw [(pick_30 h).1]
    have a1 : Mem (p - 1) [(s, n)] := mem_cons.mpr (.inl ⟨by show s ≤ p - 1; omega, by show p - 1 ≤ s + (n : Int); omega⟩)
    have a2 : ¬ Mem (p + 1) [(s, n)] := fun m => by
      rcases mem_cons.mp m with m | m
      · have := m.2; simp only at this; omega
      · exact mem_nil m
    refine ⟨by simp [a1], by simp [a2], by simp, by simp, fun _ _ => ⟨?_, by simp⟩, fun _ m => absurd a1 m, ?_⟩
    · rw [left_yes (by omega)]
      rfl
    · rw [(pick_30 h).2]
      simp [Wd.step]
  · intro s n s' n' r h h' kr
    rw [(pick_31 h h').1]
    have a1 : Mem (p - 1) ((s, n) :: (s', n') :: r) := mem_cons.mpr (.inl ⟨by show s ≤ p - 1; omega, by show p - 1 ≤ s + (n : Int); omega⟩)
    have a2 : Mem (p + 1) ((s, n) :: (s', n') :: r) := mem_cons.mpr (.inr (mem_cons.mpr (.inl ⟨by show s' ≤ p + 1; omega, by show p + 1 ≤ s' + (n' : Int); omega⟩)))
    refine ⟨by simp [a1], by simp [a1, a2], by simp, fun _ => ⟨?_, by simp⟩, by simp, by simp, ?_⟩
    · rw [left_yes (by omega), left_no (by omega), left_0 kr (by omega)]
    · rw [(pick_31 h h').2]
      simp [Wd.step]
      omega
  · intro s n s' n' r h h' kr
    rw [(pick_32 h (by omega)).1]
    have a1 : Mem (p - 1) ((s, n) :: (s', n') :: r) := mem_cons.mpr (.inl ⟨by show s ≤ p - 1; omega, by show p - 1 ≤ s + (n : Int); omega⟩)
    have a2 : ¬ Mem (p + 1) ((s, n) :: (s', n') :: r) := fun m => by
      rcases mem_cons.mp m with m | m
      · have := m.2; simp only at this; omega
      · rcases mem_cons.mp m with m | m
        · have := m.1; simp only at this; omega
        · have := ok_lt kr m; omega
    refine ⟨by simp [a1], by simp [a2], by simp, by simp, fun _ _ => ⟨?_, by simp; omega⟩, fun _ m => absurd a1 m, ?_⟩
    · rw [left_yes (by omega), left_no (by omega), left_0 kr (by omega)]
    · rw [(pick_32 h (by omega)).2]
      simp [Wd.step]
  · intro s n r h kr nmr ih
    rw [(pick_4 h).1]
    have b1 : Mem (p - 1) ((s, n) :: r) ↔ Mem (p - 1) r := by
      rw [mem_cons]
      exact ⟨fun m => m.elim (fun m => by have := m.2; simp only at this; omega) id, .inr⟩
    have b2 : Mem (p + 1) ((s, n) :: r) ↔ Mem (p + 1) r := by
      rw [mem_cons]
      exact ⟨fun m => m.elim (fun m => by have := m.2; simp only at this; omega) id, .inr⟩
    have bl : left p ((s, n) :: r) = left p r + 1 := left_yes (by omega)
    have ad := (pick_4 (r := r) h).2
    have hl := ih.len
    generalize hc : pick p r = c at ih
    obtain ⟨w, m⟩ := c
    have e1 := ih.new
    have e2 := ih.btw
    have e3 := ih.n1
    have e4 := ih.n2
    have e5 := ih.n3
    have e6 := ih.n4
    have e7 := ih.len
    have hlen : ((add p ((s, n) :: r)).length : Int) = ((s, n) :: r).length + w.step := by
      rw [ad, List.length_cons, List.length_cons]
      have : ((add p r).length : Int) = r.length + w.step := e7
      omega
    have hw : (shift (w, m)).1 = w := shift_word _
    refine ⟨?_, ?_, ?_, ?_, ?_, ?_, ?_⟩
    · rw [hw, b1, b2]; exact e1
    · rw [hw, b1, b2]; exact e2
    · intro e
      rw [hw] at e
      subst e
      obtain ⟨f1, f2⟩ := e3 rfl
      rw [bl, List.length_cons]
      exact ⟨by show m + 1 = _; simp only at f1; omega, by show m + 1 ≤ _; simp only at f2; omega⟩
    · intro e
      rw [hw] at e
      subst e
      obtain ⟨f1, f2⟩ := e4 rfl
      rw [bl, List.length_cons]
      exact ⟨by show m + 1 + 1 = _; simp only at f1; omega, by show m + 1 + 1 < _; simp only at f2; omega⟩
    · intro e z
      rw [hw] at e
      subst e
      obtain ⟨f1, f2⟩ := e5 rfl (b1.mp z)
      rw [bl, List.length_cons]
      exact ⟨by show m + 2 + 1 = _; simp only at f1; omega, by show m + 2 < _; simp only at f2; omega⟩
    · intro e z
      rw [hw] at e
      subst e
      obtain ⟨f1, f2⟩ := e6 rfl (fun q => z (b1.mpr q))
      rw [bl, List.length_cons]
      exact ⟨by show m + 2 = _; simp only at f1; omega, by show m + 2 < _; simp only at f2; omega⟩
    · rw [hw]; exact hlen
end OgM
namespace OgM
def runStep (g : List Seg) (p : Int) : List Seg :=
  match g.getLast? with
  | none => [(p, 0)]
  | some (s, n) => if s + n = p - 1 then g.dropLast ++ [(s, n + 1)] else g ++ [(p, 0)]
theorem add_last : ∀ {g : List Seg} {lo p : Int}, Ok lo g → (∀ q, Mem q g → q < p) → add p g = runStep g p
  | [], _, _, _, _ => rfl
  | [(s, n)], lo, p, k, h => by
    have e : s + n < p := h _ (mem_cons.mpr (.inl ⟨by show s ≤ s + (n : Int); omega, Int.le_refl _⟩))
    show add p [(s, n)] = if s + n = p - 1 then [] ++ [(s, n + 1)] else [(s, n)] ++ [(p, 0)]
    by_cases e2 : s + n = p - 1
    · rw [if_pos e2, (pick_30 (by omega)).2]
      rfl
    · rw [if_neg e2, (pick_4 (by omega)).2]
      rfl
  | (s, n) :: y :: r, lo, p, k, h => by
    have k2 : Ok (s + n + 1) (y :: r) := k.2
    have e : y.1 + y.2 < p := h _ (mem_cons.mpr (.inr (mem_cons.mpr (.inl ⟨by show y.1 ≤ y.1 + (y.2 : Int); omega, Int.le_refl _⟩))))
    have k3 : s + n + 1 < y.1 := k2.1
    rw [(pick_4 (by omega)).2, add_last k2 fun q m => h q (mem_cons.mpr (.inr m))]
    unfold runStep
    rw [List.getLast?_cons_cons]
    have ed : ((s, n) :: y :: r).dropLast = (s, n) :: (y :: r).dropLast := rfl
    rw [ed]
    split
    · rename_i e0
      exact absurd (List.getLast?_eq_none_iff.mp e0) (by simp)
    · split <;> rfl
theorem segs_rise {l : List Int} {p : Int} (h : l.Pairwise (· < ·)) (hp : ∀ q ∈ l, q < p) : segs (l ++ [p]) = runStep (segs l) p := by
  have nd : l.Nodup := h.imp fun {a b} (x : a < b) => Int.ne_of_lt x
  obtain ⟨lo, hl⟩ := lower l
  obtain ⟨a, b⟩ := segs_ok nd hl
  rw [segs_snoc]
  exact add_last a fun q m => hp q ((b q).mp m)
def sgi (x : Seg) : List Int := (List.range (x.2 + 1)).map fun (i : Nat) => x.1 + (i : Int)
theorem sgi_snoc (s : Int) (n : Nat) : sgi (s, n) ++ [s + n + 1] = sgi (s, n + 1) := by
  unfold sgi
  show _ = (List.range (n + 1 + 1)).map _
  rw [List.range_succ (n := n + 1), List.map_append]
  simp
  omega
theorem sgi_cons (s : Int) (n : Nat) : s :: sgi (s + 1, n) = sgi (s, n + 1) := by
  unfold sgi
  show _ = (List.range (n + 1 + 1)).map _
  rw [List.range_succ_eq_map (n := n + 1), List.map_cons, List.map_map]
  congr 1
  · simp
  · refine List.map_congr_left fun a _ => ?_
    show s + 1 + (a : Int) = s + ((a + 1 : Nat) : Int)
    omega
theorem sgi_join (s : Int) (n n' : Nat) : sgi (s, n) ++ [s + n + 1] ++ sgi (s + n + 2, n') = sgi (s, n + n' + 2) := by
  induction n' with
  | zero =>
    rw [sgi_snoc]
    have : sgi (s + n + 2, 0) = [s + ((n + 1 : Nat) : Int) + 1] := by
      unfold sgi
      simp
      omega
    rw [this, sgi_snoc]
  | succ k ih =>
    rw [← sgi_snoc, ← List.append_assoc, ih]
    have : s + n + 2 + k + 1 = s + ((n + k + 2 : Nat) : Int) + 1 := by omega
    rw [this, sgi_snoc]
    rfl
theorem sgi_len (x : Seg) : (sgi x).length = x.2 + 1 := by simp [sgi]
theorem sgi_last (x : Seg) : (sgi x).getLast? = some (x.1 + x.2) := by
  unfold sgi
  rw [List.range_succ, List.map_append]
  simp
theorem sgi_head (x : Seg) : (sgi x).head? = some x.1 := by
  unfold sgi
  rw [List.range_succ_eq_map, List.map_cons]
  simp
def applyC (t : Nat) (c : Ch) (st : List (List Nat)) : List (List Nat) :=
  match c.1 with
  | .new => st.take c.2 ++ [[t]] ++ st.drop c.2
  | .between => st.take c.2 ++ [(st.getD c.2 []) ++ [t] ++ (st.getD (c.2 + 1) [])] ++ st.drop (c.2 + 2)
  | .beside => if c.2 % 2 = 0 then st.set (c.2 / 2) (t :: st.getD (c.2 / 2) []) else st.set (c.2 / 2) (st.getD (c.2 / 2) [] ++ [t])
theorem applyC_shift (t : Nat) (c : Ch) (a : List Nat) (st : List (List Nat)) : applyC t (shift c) (a :: st) = a :: applyC t c st := by
  obtain ⟨w, k⟩ := c
  cases w with
  | new => simp [applyC, shift]
  | between =>
    show (a :: st).take (k + 1) ++ [((a :: st).getD (k + 1) []) ++ [t] ++ ((a :: st).getD (k + 1 + 1) [])] ++ (a :: st).drop (k + 1 + 2) = _
    simp [applyC]
  | beside =>
    show (if (k + 2) % 2 = 0 then (a :: st).set ((k + 2) / 2) (t :: (a :: st).getD ((k + 2) / 2) []) else (a :: st).set ((k + 2) / 2) ((a :: st).getD ((k + 2) / 2) [] ++ [t])) = a :: (if k % 2 = 0 then st.set (k / 2) (t :: st.getD (k / 2) []) else st.set (k / 2) (st.getD (k / 2) [] ++ [t]))
    have e1 : (k + 2) / 2 = k / 2 + 1 := by omega
    have e2 : (k + 2) % 2 = k % 2 := by omega
    rw [e1, e2]
    split <;> simp
/-- st are the times of the segments g, told by f -/
def Told (f : Nat → Int) (st : List (List Nat)) (g : List Seg) : Prop := st.map (·.map f) = g.map sgi
theorem told_cons {f : Nat → Int} {st : List (List Nat)} {x : Seg} {g : List Seg} (h : Told f st (x :: g)) : ∃ a st', st = a :: st' ∧ a.map f = sgi x ∧ Told f st' g := by
  cases st with
  | nil => exact absurd h (by simp [Told])
  | cons a st' =>
    have q : a.map f :: st'.map (·.map f) = sgi x :: g.map sgi := h
    injection q with q1 q2
    exact ⟨a, st', rfl, q1, q2⟩
theorem told_add {f : Nat → Int} {t : Nat} {p : Int} (ft : f t = p) {g : List Seg} {lo : Int} (k : Ok lo g) (nm : ¬ Mem p g) :
    ∀ st, Told f st g → Told f (applyC t (pick p g) st) (add p g) ∧ ∀ x, x ∈ (applyC t (pick p g) st).flatten ↔ x = t ∨ x ∈ st.flatten := by
  refine way (C := fun g => ∀ st, Told f st g → Told f (applyC t (pick p g) st) (add p g) ∧ ∀ x, x ∈ (applyC t (pick p g) st).flatten ↔ x = t ∨ x ∈ st.flatten) ?_ ?_ ?_ ?_ ?_ ?_ ?_ k nm
  · intro st h
    have e : st = [] := by simpa [Told] using h
    subst e
    refine ⟨?_, fun x => by simp [applyC, pick]⟩
    simp [Told, applyC, pick, add, sgi, ft]
  · intro s n r h kr st ht
    rw [(pick_1 h).1, (pick_1 h).2]
    refine ⟨?_, fun x => by simp [applyC]⟩
    show ([[t]] ++ st).map (·.map f) = _
    rw [List.map_append, ht]
    simp [sgi, ft]
  · intro s n r h kr st ht
    rw [(pick_2 h).1, (pick_2 h).2]
    obtain ⟨a, st', rfl, ha, ht'⟩ := told_cons ht
    refine ⟨?_, fun x => by simp [applyC, or_assoc]⟩
    show (t :: a).map f :: st'.map (·.map f) = sgi (p, n + 1) :: r.map sgi
    rw [ht', List.map_cons, ha, ft, ← sgi_cons]
    have : p + 1 = s := by omega
    rw [this]
  · intro s n h st ht
    rw [(pick_30 h).1, (pick_30 h).2]
    obtain ⟨a, st', rfl, ha, ht'⟩ := told_cons ht
    refine ⟨?_, fun x => by simp [applyC, or_assoc, or_left_comm]⟩
    show (a ++ [t]).map f :: st'.map (·.map f) = sgi (s, n + 1) :: [].map sgi
    rw [ht', List.map_append, ha, ← sgi_snoc]
    simp [ft, h]
  · intro s n s' n' r h h' kr st ht
    rw [(pick_31 h h').1, (pick_31 h h').2]
    obtain ⟨a, st', rfl, ha, ht'⟩ := told_cons ht
    obtain ⟨b, st'', rfl, hb, ht''⟩ := told_cons ht'
    refine ⟨?_, fun x => by simp [applyC, or_assoc, or_left_comm]⟩
    show (a ++ [t] ++ b).map f :: st''.map (·.map f) = sgi (s, n + n' + 2) :: r.map sgi
    rw [ht'', List.map_append, List.map_append, ha, hb, ← sgi_join]
    have : s' = s + n + 2 := by omega
    simp [ft, h, this]
  · intro s n s' n' r h h' kr st ht
    rw [(pick_32 h (by omega)).1, (pick_32 h (by omega)).2]
    obtain ⟨a, st', rfl, ha, ht'⟩ := told_cons ht
    refine ⟨?_, fun x => by simp [applyC, or_assoc, or_left_comm]⟩
    show (a ++ [t]).map f :: st'.map (·.map f) = sgi (s, n + 1) :: ((s', n') :: r).map sgi
    rw [ht', List.map_append, ha, ← sgi_snoc]
    simp [ft, h]
  · intro s n r h kr nmr ih st ht
    rw [(pick_4 h).1, (pick_4 h).2]
    obtain ⟨a, st', rfl, ha, ht'⟩ := told_cons ht
    obtain ⟨i1, i2⟩ := ih st' ht'
    rw [applyC_shift]
    refine ⟨?_, fun x => ?_⟩
    · show a.map f :: (applyC t (pick p r) st').map (·.map f) = sgi (s, n) :: (add p r).map sgi
      rw [ha, i1]
    · rw [List.flatten_cons, List.flatten_cons, List.mem_append, List.mem_append, i2 x, or_left_comm]
end OgM
namespace OgM
def holesI : Int → List Seg → List Int
  | _, [] => []
  | b, x :: r => (x.1 - b) :: holesI (x.1 + x.2 + 1) r
def endB : Int → List Seg → Int
  | b, [] => b
  | _, x :: r => endB (x.1 + x.2 + 1) r
theorem holesI_len : ∀ (b : Int) (g : List Seg), (holesI b g).length = g.length
  | _, [] => rfl
  | _, x :: r => by
    show (holesI _ r).length + 1 = r.length + 1
    rw [holesI_len]
theorem holesI_pos : ∀ {g : List Seg} {b : Int}, Ok b g → ∀ x ∈ holesI b g, 1 ≤ x
  | [], _, _, x, h => absurd h (by simp [holesI])
  | y :: r, b, k, x, h => by
    have k1 := k.1
    rcases List.mem_cons.mp h with e | h
    · omega
    · exact holesI_pos k.2 x h
theorem endB_le : ∀ {g : List Seg} {b c : Int}, b ≤ c → (∀ q, Mem q g → q < c) → endB b g ≤ c
  | [], b, c, h, _ => h
  | x :: r, b, c, h, k => by
    have q : x.1 + x.2 < c := k _ (mem_cons.mpr (.inl ⟨by omega, Int.le_refl _⟩))
    exact endB_le (b := x.1 + x.2 + 1) (by omega) fun q m => k q (mem_cons.mpr (.inr m))
theorem getLast_snoc {α : Type} (l : List α) (x : α) : (l ++ [x]).getLast? = some x := by simp
theorem rise_of {l k : List Int} (hn : l.Nodup) (hp : k.Perm l) (hs : k.Pairwise (· ≤ ·)) : k.Pairwise (· < ·) := by
  have nk : k.Nodup := hp.nodup_iff.mpr hn
  exact (hs.and nk).imp fun {a b} h => by have := h.1; have := h.2; omega
theorem add_len : ∀ (p : Int) (g : List Seg), (add p g).length ≤ g.length + 1
  | p, [] => by simp [add]
  | p, (s, n) :: r => by
    unfold add
    split
    · simp
    · split
      · simp
      · split
        · cases r with
          | nil => simp
          | cons y r' =>
            obtain ⟨s', n'⟩ := y
            show (if s' = p + 1 then (s, n + n' + 2) :: r' else (s, n + 1) :: (s', n') :: r').length ≤ _
            split <;> simp <;> omega
        · have := add_len p r
          simp
          omega
theorem segs_len (l : List Int) : (segs l).length ≤ l.length := by
  induction l using snoc_ind with
  | h0 => simp [segs]
  | h1 l p ih =>
    rw [segs_snoc, List.length_append]
    have := add_len p (segs l)
    simp
    omega
def size : List Seg → Nat
  | [] => 0
  | x :: r => x.2 + 1 + size r
theorem size_add : ∀ (p : Int) (g : List Seg), size (add p g) = size g + 1
  | p, [] => rfl
  | p, (s, n) :: r => by
    unfold add
    split
    · show 0 + 1 + (n + 1 + size r) = n + 1 + size r + 1
      omega
    · split
      · show n + 1 + 1 + size r = n + 1 + size r + 1
        omega
      · split
        · cases r with
          | nil => rfl
          | cons y r' =>
            obtain ⟨s', n'⟩ := y
            show size (if s' = p + 1 then (s, n + n' + 2) :: r' else (s, n + 1) :: (s', n') :: r') = n + 1 + (n' + 1 + size r') + 1
            split
            · show n + n' + 2 + 1 + size r' = _
              omega
            · show n + 1 + 1 + (n' + 1 + size r') = _
              omega
        · show n + 1 + size (add p r) = n + 1 + size r + 1
          rw [size_add p r]
          omega
theorem segs_size (l : List Int) : size (segs l) = l.length := by
  induction l using snoc_ind with
  | h0 => rfl
  | h1 l p ih =>
    rw [segs_snoc, size_add, ih]
    simp
theorem size_mem : ∀ {g : List Seg} {x : Seg}, x ∈ g → x.2 + 1 ≤ size g
  | y :: r, x, h => by
    rcases List.mem_cons.mp h with e | h
    · subst e
      show x.2 + 1 ≤ x.2 + 1 + size r
      omega
    · have := size_mem h
      show x.2 + 1 ≤ y.2 + 1 + size r
      omega
def picks (row : List Int) : List Ch := (List.range row.length).map fun i => pick (row.getD i 0) (segs (row.take i))
theorem picks_len (row : List Int) : (picks row).length = row.length := by simp [picks]
structure Row (n : Int) (row : List Int) : Prop where
  nd : row.Nodup
  lo : ∀ p ∈ row, 0 ≤ p
  hi : ∀ p ∈ row, p < n
theorem Row.take {n : Int} {row : List Int} (h : Row n row) (i : Nat) : Row n (row.take i) :=
  ⟨h.nd.sublist (List.take_sublist _ _), fun p q => h.lo p (List.mem_of_mem_take q), fun p q => h.hi p (List.mem_of_mem_take q)⟩
theorem Row.ok {n : Int} {row : List Int} (h : Row n row) : Ok (-1) (segs row) ∧ ∀ q, Mem q (segs row) ↔ q ∈ row :=
  segs_ok h.nd fun p hp => by have := h.lo p hp; omega
theorem Row.fresh {n : Int} {row : List Int} (h : Row n row) {i : Nat} {p : Int} (e : row[i]? = some p) : p ∉ row.take i := by
  intro m
  obtain ⟨j, hj⟩ := List.getElem?_of_mem m
  rw [List.getElem?_take] at hj
  split at hj
  · rename_i lt
    obtain ⟨a, ea⟩ := List.getElem?_eq_some_iff.mp e
    obtain ⟨b, eb⟩ := List.getElem?_eq_some_iff.mp hj
    have := (List.getElem_inj h.nd).mp (eb.trans ea.symm)
    omega
  · cases hj
theorem take_snoc {row : List Int} {i : Nat} {p : Int} (e : row[i]? = some p) : row.take (i + 1) = row.take i ++ [p] := by
  rw [List.take_add_one, e]
  rfl
theorem Row.says {n : Int} {row : List Int} (h : Row n row) {i : Nat} {p : Int} (e : row[i]? = some p) : Says p (segs (row.take i)) (pick p (segs (row.take i))) :=
  OgM.says (h.take i).ok.1 fun m => h.fresh e (((h.take i).ok.2 p).mp m)
theorem Row.segs {n : Int} {row : List Int} (h : Row n row) {i : Nat} {p : Int} (e : row[i]? = some p) : segs (row.take (i + 1)) = add p (segs (row.take i)) := by
  rw [take_snoc e, segs_snoc]
theorem picks_get {row : List Int} {i : Nat} {p : Int} (e : row[i]? = some p) : (picks row)[i]? = some (pick p (segs (row.take i))) := by
  have hi := (List.getElem?_eq_some_iff.mp e).1
  unfold picks
  rw [List.getElem?_map, List.getElem?_range hi]
  show some (pick (row.getD i 0) _) = some _
  rw [List.getD_eq_getElem?_getD, e]
  rfl
end OgM
namespace OgM
def nearB (p : Int) (x : Seg) : Bool := decide (p - 1 = x.1 + x.2) || decide (p + 1 = x.1)
def near (p : Int) (g : List Seg) : List Nat := (List.range g.length).filter fun i => nearB p (g.getD i (0, 0))
theorem filter_ne_len {l : List Int} (h : l.Nodup) {z : Int} (m : z ∈ l) : (l.filter (· != z)).length + 1 = l.length := by
  rw [← h.erase_eq_filter, List.length_erase_of_mem m]
  have := List.length_pos_of_mem m
  omega
def Wd.ix : Wd → Nat
  | .new => 0
  | .beside => 1
  | .between => 2
def b1 (c : Bool) : Nat := if c then 1 else 0
theorem nb_pick {l : List Int} (hn : l.Nodup) {p : Int} (hp : p ∉ l) : b1 (decide (p - 1 ∈ l)) + b1 (decide (p + 1 ∈ l)) = (pick p (segs l)).1.ix := by
  obtain ⟨lo, hl⟩ := lower l
  obtain ⟨k, km⟩ := segs_ok hn hl
  have S := says k (p := p) fun m => hp ((km p).mp m)
  have e1 := S.new
  have e2 := S.btw
  rw [km, km] at e1 e2
  by_cases a : p - 1 ∈ l <;> by_cases b : p + 1 ∈ l
  · rw [e2.mpr ⟨a, b⟩, decide_eq_true a, decide_eq_true b]
    rfl
  · have : (pick p (segs l)).1 = .beside := by
      cases h : (pick p (segs l)).1 with
      | new => exact absurd a (e1.mp h).1
      | beside => rfl
      | between => exact absurd (e2.mp h).2 b
    rw [this, decide_eq_true a, decide_eq_false b]
    rfl
  · have : (pick p (segs l)).1 = .beside := by
      cases h : (pick p (segs l)).1 with
      | new => exact absurd b (e1.mp h).2
      | beside => rfl
      | between => exact absurd (e2.mp h).1 a
    rw [this, decide_eq_false a, decide_eq_true b]
    rfl
  · rw [e1.mpr ⟨a, b⟩, decide_eq_false a, decide_eq_false b]
    rfl
end OgM
namespace OgM
def Valid (c : Ch) (n : Nat) : Prop :=
  match c.1 with
  | .new => c.2 ≤ n
  | .beside => c.2 < 2 * n
  | .between => c.2 + 1 < n
def stAt (cs : List Ch) : Nat → List (List Nat)
  | 0 => []
  | i + 1 => applyC i (cs.getD i (.new, 0)) (stAt cs i)
def VCh (cs : List Ch) : Prop := ∀ i c, cs[i]? = some c → Valid c (stAt cs i).length
theorem flat_cut (st : List (List Nat)) (k : Nat) : (st.take k).flatten.length + (st.drop k).flatten.length = st.flatten.length := by
  rw [← List.length_append, ← List.flatten_append, List.take_append_drop]
theorem getD_at {α : Type} {l : List α} {j : Nat} {x d : α} (h : l[j]? = some x) : l.getD j d = x := by
  rw [List.getD_eq_getElem?_getD, h]
  rfl
theorem drop_at {α : Type} {l : List α} {j : Nat} {x : α} (h : l[j]? = some x) : l.drop j = x :: l.drop (j + 1) := by
  obtain ⟨a, e⟩ := List.getElem?_eq_some_iff.mp h
  rw [← e]
  exact List.drop_eq_getElem_cons a
theorem apply_size {c : Ch} {st : List (List Nat)} (t : Nat) (h : Valid c st.length) : (applyC t c st).flatten.length = st.flatten.length + 1 ∧ ((applyC t c st).length : Int) = st.length + c.1.step := by
  obtain ⟨w, k⟩ := c
  cases w with
  | new =>
    have h' : k ≤ st.length := h
    have e := flat_cut st k
    constructor
    · show (st.take k ++ [[t]] ++ st.drop k).flatten.length = _
      simp only [List.flatten_append, List.length_append, List.flatten_cons, List.flatten_nil, List.length_cons, List.length_nil]
      omega
    · show ((st.take k ++ [[t]] ++ st.drop k).length : Int) = st.length + 1
      simp only [List.length_append, List.length_take, List.length_drop, List.length_cons, List.length_nil]
      omega
  | between =>
    have h' : k + 1 < st.length := h
    have e := flat_cut st k
    have a1 : st[k]? = some (st[k]'(by omega)) := List.getElem?_eq_getElem _
    have a2 : st[k + 1]? = some (st[k + 1]'h') := List.getElem?_eq_getElem _
    rw [drop_at a1, drop_at a2, show k + 1 + 1 = k + 2 from rfl] at e
    simp only [List.flatten_cons, List.length_append] at e
    constructor
    · show (st.take k ++ [(st.getD k []) ++ [t] ++ (st.getD (k + 1) [])] ++ st.drop (k + 2)).flatten.length = _
      rw [getD_at a1, getD_at a2]
      simp only [List.flatten_append, List.length_append, List.flatten_cons, List.flatten_nil, List.length_cons, List.length_nil]
      omega
    · show ((st.take k ++ [(st.getD k []) ++ [t] ++ (st.getD (k + 1) [])] ++ st.drop (k + 2)).length : Int) = st.length + -1
      simp only [List.length_append, List.length_take, List.length_drop, List.length_cons, List.length_nil]
      omega
  | beside =>
    have h' : k < 2 * st.length := h
    have hj : k / 2 < st.length := by omega
    have e := flat_cut st (k / 2)
    have a1 : st[k / 2]? = some (st[k / 2]'hj) := List.getElem?_eq_getElem _
    rw [drop_at a1] at e
    simp only [List.flatten_cons, List.length_append] at e
    show (if k % 2 = 0 then st.set (k / 2) (t :: st.getD (k / 2) []) else st.set (k / 2) (st.getD (k / 2) [] ++ [t])).flatten.length = _ ∧ ((if k % 2 = 0 then st.set (k / 2) (t :: st.getD (k / 2) []) else st.set (k / 2) (st.getD (k / 2) [] ++ [t])).length : Int) = st.length + 0
    rw [getD_at a1]
    split
    · rw [List.length_set, List.set_eq_take_append_cons_drop, if_pos hj]
      simp only [List.flatten_append, List.length_append, List.flatten_cons, List.length_cons]
      omega
    · rw [List.length_set, List.set_eq_take_append_cons_drop, if_pos hj]
      simp only [List.flatten_append, List.length_append, List.flatten_cons, List.length_cons, List.length_nil]
      omega
/-- a row's choices are valid, and their groups are its segments -/
theorem picks_told {n : Int} {row : List Int} (h : Row n row) : ∀ i, i ≤ row.length → Told (fun t => row.getD t 0) (stAt (picks row) i) (OgM.segs (row.take i)) ∧ ∀ x, x ∈ (stAt (picks row) i).flatten ↔ x < i
  | 0, _ => ⟨by simp [Told, stAt, OgM.segs], fun x => by simp [stAt]⟩
  | i + 1, hi => by
    obtain ⟨h1, h2⟩ := picks_told h i (by omega)
    have e : row[i]? = some (row[i]'hi) := List.getElem?_eq_getElem _
    have q := told_add (f := fun t => row.getD t 0) (t := i) (p := row[i]'hi) (getD_at e) (h.take i).ok.1 (fun m => h.fresh e (((h.take i).ok.2 _).mp m)) _ h1
    show Told _ (applyC i ((picks row).getD i (.new, 0)) (stAt (picks row) i)) _ ∧ ∀ x, x ∈ (applyC i ((picks row).getD i (.new, 0)) (stAt (picks row) i)).flatten ↔ x < i + 1
    rw [getD_at (picks_get e), h.segs e]
    refine ⟨q.1, fun x => ?_⟩
    rw [q.2 x, h2 x]
    omega
theorem picks_valid {n : Int} {row : List Int} (h : Row n row) : VCh (picks row) := by
  intro i c e
  have hi := (List.getElem?_eq_some_iff.mp e).1
  rw [picks_len] at hi
  have er : row[i]? = some (row[i]'hi) := List.getElem?_eq_getElem _
  rw [picks_get er] at e
  have ec := Option.some.inj e
  obtain ⟨h1, _⟩ := picks_told h i (by omega)
  have hl : (stAt (picks row) i).length = (OgM.segs (row.take i)).length := by
    have := congrArg List.length h1
    simpa using this
  rw [hl]
  have S := h.says er
  rw [ec] at S
  obtain ⟨w, k⟩ := c
  cases w with
  | new => exact (S.n1 rfl).2
  | between => exact (S.n2 rfl).2
  | beside =>
    by_cases m : Mem (row[i]'hi - 1) (OgM.segs (row.take i))
    · exact (S.n3 rfl m).2
    · exact (S.n4 rfl m).2
theorem apply_mem {c : Ch} {st : List (List Nat)} (t : Nat) (h : Valid c st.length) (x : Nat) : x ∈ (applyC t c st).flatten ↔ x = t ∨ x ∈ st.flatten := by
  have cut : ∀ k, x ∈ st.flatten ↔ x ∈ (st.take k).flatten ∨ x ∈ (st.drop k).flatten := fun k => by
    rw [← List.mem_append, ← List.flatten_append, List.take_append_drop]
  obtain ⟨w, k⟩ := c
  cases w with
  | new =>
    show x ∈ (st.take k ++ [[t]] ++ st.drop k).flatten ↔ _
    rw [cut k]
    simp only [List.flatten_append, List.mem_append, List.flatten_cons, List.flatten_nil, List.mem_singleton, List.append_nil]
    constructor
    · rintro ((a | a) | a)
      · exact .inr (.inl a)
      · exact .inl a
      · exact .inr (.inr a)
    · rintro (a | a | a)
      · exact .inl (.inr a)
      · exact .inl (.inl a)
      · exact .inr a
  | between =>
    have h' : k + 1 < st.length := h
    have a1 : st[k]? = some (st[k]'(by omega)) := List.getElem?_eq_getElem _
    have a2 : st[k + 1]? = some (st[k + 1]'h') := List.getElem?_eq_getElem _
    show x ∈ (st.take k ++ [(st.getD k []) ++ [t] ++ (st.getD (k + 1) [])] ++ st.drop (k + 2)).flatten ↔ _
    rw [cut k, drop_at a1, drop_at a2, show k + 1 + 1 = k + 2 from rfl, getD_at a1, getD_at a2]
    simp only [List.flatten_append, List.mem_append, List.flatten_cons, List.flatten_nil, List.mem_singleton, List.append_nil]
    constructor
    · rintro ((a | ((a | a) | a)) | a)
      · exact .inr (.inl a)
      · exact .inr (.inr (.inl a))
      · exact .inl a
      · exact .inr (.inr (.inr (.inl a)))
      · exact .inr (.inr (.inr (.inr a)))
    · rintro (a | a | a | a | a)
      · exact .inl (.inr (.inl (.inr a)))
      · exact .inl (.inl a)
      · exact .inl (.inr (.inl (.inl a)))
      · exact .inl (.inr (.inr a))
      · exact .inr a
  | beside =>
    have h' : k < 2 * st.length := h
    have hj : k / 2 < st.length := by omega
    have a1 : st[k / 2]? = some (st[k / 2]'hj) := List.getElem?_eq_getElem _
    show x ∈ (if k % 2 = 0 then st.set (k / 2) (t :: st.getD (k / 2) []) else st.set (k / 2) (st.getD (k / 2) [] ++ [t])).flatten ↔ _
    rw [cut (k / 2), drop_at a1, getD_at a1]
    split
    · rw [List.set_eq_take_append_cons_drop, if_pos hj]
      simp only [List.flatten_append, List.mem_append, List.flatten_cons, List.mem_cons]
      constructor
      · rintro (a | (a | a) | a)
        · exact .inr (.inl a)
        · exact .inl a
        · exact .inr (.inr (.inl a))
        · exact .inr (.inr (.inr a))
      · rintro (a | a | a | a)
        · exact .inr (.inl (.inl a))
        · exact .inl a
        · exact .inr (.inl (.inr a))
        · exact .inr (.inr a)
    · rw [List.set_eq_take_append_cons_drop, if_pos hj]
      simp only [List.flatten_append, List.mem_append, List.flatten_cons, List.mem_singleton]
      constructor
      · rintro (a | (a | a) | a)
        · exact .inr (.inl a)
        · exact .inr (.inr (.inl a))
        · exact .inl a
        · exact .inr (.inr (.inr a))
      · rintro (a | a | a | a)
        · exact .inr (.inl (.inr a))
        · exact .inl a
        · exact .inr (.inl (.inl a))
        · exact .inr (.inr a)
theorem st_mem {cs : List Ch} (v : VCh cs) : ∀ i, i ≤ cs.length → ∀ x, x ∈ (stAt cs i).flatten ↔ x < i
  | 0, _, x => by simp [stAt]
  | i + 1, h, x => by
    have e : cs[i]? = some (cs[i]'h) := List.getElem?_eq_getElem _
    show x ∈ (applyC i (cs.getD i (.new, 0)) (stAt cs i)).flatten ↔ _
    rw [getD_at e, apply_mem i (v i _ e), st_mem v i (by omega) x]
    omega
theorem steps_sum {cs : List Ch} (v : VCh cs) : ∀ i, i ≤ cs.length → (((cs.take i).map fun c => c.1.step).sum : Int) = (stAt cs i).length
  | 0, _ => rfl
  | i + 1, h => by
    have e : cs[i]? = some (cs[i]'h) := List.getElem?_eq_getElem _
    have q := (apply_size i (v i _ e)).2
    have ih := steps_sum v i (by omega)
    show _ = ((applyC i (cs.getD i (.new, 0)) (stAt cs i)).length : Int)
    rw [getD_at e, List.take_add_one, e, List.map_append, List.sum_append]
    show _ + ((cs[i]'h).1.step + 0) = _
    omega
end OgM
namespace OgM
theorem sgi_inj {x y : Seg} (h : sgi x = sgi y) : x = y := by
  have h1 : (sgi x).length = (sgi y).length := by rw [h]
  have h2 : (sgi x).head? = (sgi y).head? := by rw [h]
  rw [sgi_len, sgi_len] at h1
  rw [sgi_head, sgi_head] at h2
  obtain ⟨a, b⟩ := x
  obtain ⟨c, d⟩ := y
  have e1 : a = c := Option.some.inj h2
  have e2 : b = d := by simpa using h1
  rw [e1, e2]
theorem told_cons' {f : Nat → Int} {a : List Nat} {st : List (List Nat)} {g : List Seg} (h : Told f (a :: st) g) : ∃ x g', g = x :: g' ∧ a.map f = sgi x ∧ Told f st g' := by
  cases g with
  | nil => exact absurd h (by simp [Told])
  | cons x g' =>
    have q : a.map f :: st.map (·.map f) = sgi x :: g'.map sgi := h
    injection q with q1 q2
    exact ⟨x, g', rfl, q1, q2⟩
/-- parts of a segment -/
theorem sgi_pre {l : List Int} {p : Int} {x : Seg} (h : p :: l = sgi x) (hl : l ≠ []) : ∃ n, x = (p, n + 1) ∧ l = sgi (p + 1, n) := by
  obtain ⟨s, m⟩ := x
  cases m with
  | zero =>
    have : (p :: l).length = 1 := by rw [h, sgi_len]
    simp at this
    exact absurd this hl
  | succ n =>
    rw [← sgi_cons] at h
    injection h with h1 h2
    exact ⟨n, by rw [h1], by rw [h1]; exact h2⟩
theorem sgi_suf {l : List Int} {p : Int} {x : Seg} (h : l ++ [p] = sgi x) (hl : l ≠ []) : ∃ s n, x = (s, n + 1) ∧ l = sgi (s, n) ∧ p = s + n + 1 := by
  obtain ⟨s, m⟩ := x
  cases m with
  | zero =>
    have : (l ++ [p]).length = 1 := by rw [h, sgi_len]
    simp at this
    exact absurd this hl
  | succ n =>
    rw [← sgi_snoc] at h
    have h1 := List.append_inj' h rfl
    exact ⟨s, n, rfl, h1.1, by simpa using h1.2⟩
theorem sgi_mid {l r : List Int} {p : Int} {x : Seg} (h : l ++ [p] ++ r = sgi x) (hl : l ≠ []) (hr : r ≠ []) : ∃ s n n', x = (s, n + n' + 2) ∧ l = sgi (s, n) ∧ p = s + n + 1 ∧ r = sgi (s + n + 2, n') := by
  obtain ⟨s, m⟩ := x
  have len : l.length + 1 + r.length = m + 1 := by
    have := congrArg List.length h
    rw [sgi_len, List.length_append, List.length_append, List.length_singleton] at this
    exact this
  obtain ⟨n, hn⟩ : ∃ n, l.length = n + 1 := ⟨l.length - 1, by have := List.length_pos_iff.mpr hl; omega⟩
  obtain ⟨n', hn'⟩ : ∃ n, r.length = n + 1 := ⟨r.length - 1, by have := List.length_pos_iff.mpr hr; omega⟩
  have e : m = n + n' + 2 := by omega
  subst e
  rw [← sgi_join] at h
  have h1 := List.append_inj' h (by rw [sgi_len]; exact hn')
  have h2 := List.append_inj' h1.1 rfl
  exact ⟨s, n, n', rfl, h2.1, by simpa using h2.2, h1.2⟩
/-- all groups have houses -/
def Full (st : List (List Nat)) : Prop := ∀ a ∈ st, a ≠ []
theorem valid_shift {c : Ch} {n : Nat} (h : Valid c (n + 1)) : (∃ c', c = shift c' ∧ Valid c' n) ∨ (c = (.new, 0) ∨ c = (.beside, 0) ∨ c = (.beside, 1) ∨ c = (.between, 0)) := by
  obtain ⟨w, k⟩ := c
  cases w with
  | new =>
    cases k with
    | zero => exact .inr (.inl rfl)
    | succ k => exact .inl ⟨(.new, k), rfl, by have h : k + 1 ≤ n + 1 := h; show k ≤ n; omega⟩
  | between =>
    cases k with
    | zero => exact .inr (.inr (.inr (.inr rfl)))
    | succ k => exact .inl ⟨(.between, k), rfl, by have h : k + 1 + 1 < n + 1 := h; show k + 1 < n; omega⟩
  | beside =>
    match k, h with
    | 0, _ => exact .inr (.inr (.inl rfl))
    | 1, _ => exact .inr (.inr (.inr (.inl rfl)))
    | k + 2, h => exact .inl ⟨(.beside, k), rfl, by have h : k + 2 < 2 * (n + 1) := h; show k < 2 * n; omega⟩
theorem un_apply {f : Nat → Int} {t : Nat} : ∀ {st : List (List Nat)} {c : Ch} {g' : List Seg} {lo : Int}, Valid c st.length → Full st → Told f (applyC t c st) g' → Ok lo g' →
    ∃ g, Told f st g ∧ Ok lo g ∧ ¬ Mem (f t) g ∧ add (f t) g = g' ∧ pick (f t) g = c ∧ lo < f t
  | [], c, g', lo, hv, hF, ht, ok => by
    obtain ⟨w, k⟩ := c
    cases w with
    | beside => exact absurd (show k < 2 * 0 from hv) (by omega)
    | between => exact absurd (show k + 1 < 0 from hv) (by omega)
    | new =>
      have hk : k = 0 := by have h : k ≤ 0 := hv; omega
      subst hk
      have e : applyC t (.new, 0) [] = [[t]] := rfl
      rw [e] at ht
      obtain ⟨x, r, rfl, h1, h2⟩ := told_cons' ht
      have hr : r = [] := by simpa [Told] using h2
      subst hr
      have hx : x = (f t, 0) := sgi_inj (by rw [← h1]; simp [sgi])
      subst hx
      exact ⟨[], rfl, trivial, mem_nil, rfl, rfl, ok.1⟩
  | a :: st, c, g', lo, hv, hF, ht, ok => by
    have ha : a ≠ [] := hF a List.mem_cons_self
    have hF' : Full st := fun b hb => hF b (List.mem_cons_of_mem _ hb)
    rcases valid_shift (n := st.length) hv with ⟨c', rfl, hv'⟩ | rfl | rfl | rfl | rfl
    · rw [applyC_shift] at ht
      obtain ⟨⟨s, n⟩, r, rfl, h1, h2⟩ := told_cons' ht
      obtain ⟨g, t1, t2, t3, t4, t5, t6⟩ := un_apply hv' hF' h2 ok.2
      have h4 : s + n + 1 < f t := t6
      refine ⟨(s, n) :: g, ?_, ⟨ok.1, t2⟩, fun m => ?_, ?_, ?_, ?_⟩
      · show a.map f :: st.map (·.map f) = sgi (s, n) :: g.map sgi
        rw [h1, t1]
      · rcases mem_cons.mp m with m | m
        · have m : s ≤ f t ∧ f t ≤ s + n := m
          omega
        · exact t3 m
      · rw [(pick_4 h4).2, t4]
      · rw [(pick_4 h4).1, t5]
      · have := ok.1
        show lo < f t
        have q : lo < s := this
        omega
    · -- new, at the left
      have e : applyC t (.new, 0) (a :: st) = [t] :: a :: st := rfl
      rw [e] at ht
      obtain ⟨x, r, rfl, h1, h2⟩ := told_cons' ht
      have hx : x = (f t, 0) := sgi_inj (by rw [← h1]; simp [sgi])
      subst hx
      obtain ⟨⟨s, n⟩, r2, rfl, h3, h4⟩ := told_cons' h2
      have o1 : lo < f t := ok.1
      have o2 : f t + (0 : Nat) + 1 < s := ok.2.1
      have hp : f t < s - 1 := by omega
      refine ⟨(s, n) :: r2, h2, ⟨by show lo < s; omega, ok.2.2⟩, nmem (lo := f t) ⟨by show f t < s; omega, ok.2.2⟩ (Int.le_refl _), (pick_1 hp).2, (pick_1 hp).1, o1⟩
    · have e : applyC t (.beside, 0) (a :: st) = (t :: a) :: st := rfl
      rw [e] at ht
      obtain ⟨x, r, rfl, h1, h2⟩ := told_cons' ht
      obtain ⟨n, rfl, h3⟩ := sgi_pre (l := a.map f) (by rw [← h1]; rfl) (by simpa using ha)
      have o1 : lo < f t := ok.1
      have o2 : Ok (f t + ((n + 1 : Nat) : Int) + 1) r := ok.2
      have hp : f t = (f t + 1) - 1 := by omega
      have o3 : Ok (f t + 1 + (n : Int) + 1) r := by
        have : f t + 1 + (n : Int) + 1 = f t + ((n + 1 : Nat) : Int) + 1 := by omega
        rw [this]; exact o2
      refine ⟨(f t + 1, n) :: r, ?_, ⟨by show lo < f t + 1; omega, o3⟩, nmem (lo := f t) ⟨by show f t < f t + 1; omega, o3⟩ (Int.le_refl _), (pick_2 hp).2, (pick_2 hp).1, o1⟩
      show a.map f :: st.map (·.map f) = sgi (f t + 1, n) :: r.map sgi
      rw [h3, h2]
    · have e : applyC t (.beside, 1) (a :: st) = (a ++ [t]) :: st := rfl
      rw [e] at ht
      obtain ⟨x, r, rfl, h1, h2⟩ := told_cons' ht
      obtain ⟨s, n, rfl, h3, h4⟩ := sgi_suf (l := a.map f) (p := f t) (by rw [← h1]; simp) (by simpa using ha)
      have o1 : lo < s := ok.1
      have o2 : Ok (s + ((n + 1 : Nat) : Int) + 1) r := ok.2
      have o3 : Ok (s + (n : Int) + 1) r := ok_mono (by omega) o2
      have tld : Told f (a :: st) ((s, n) :: r) := by
        show a.map f :: st.map (·.map f) = sgi (s, n) :: r.map sgi
        rw [h3, h2]
      have nm : ¬ Mem (f t) ((s, n) :: r) := fun m => by
        rcases mem_cons.mp m with m | m
        · have m : s ≤ f t ∧ f t ≤ s + n := m
          omega
        · have := ok_lt o2 m
          omega
      cases r with
      | nil => exact ⟨_, tld, ⟨o1, o3⟩, nm, (pick_30 h4).2, (pick_30 h4).1, by omega⟩
      | cons y r =>
        obtain ⟨s', n'⟩ := y
        have o4 : s + ((n + 1 : Nat) : Int) + 1 < s' := o2.1
        have hne : s' ≠ f t + 1 := by omega
        exact ⟨_, tld, ⟨o1, o3⟩, nm, (pick_32 h4 hne).2, (pick_32 h4 hne).1, by omega⟩
    · cases st with
      | nil => exact absurd (show 0 + 1 < 1 from hv) (by omega)
      | cons b st =>
        have hb : b ≠ [] := hF' b List.mem_cons_self
        have e : applyC t (.between, 0) (a :: b :: st) = (a ++ [t] ++ b) :: st := rfl
        rw [e] at ht
        obtain ⟨x, r, rfl, h1, h2⟩ := told_cons' ht
        obtain ⟨s, n, n', rfl, h3, h4, h5⟩ := sgi_mid (l := a.map f) (p := f t) (r := b.map f) (by rw [← h1]; simp) (by simpa using ha) (by simpa using hb)
        have o1 : lo < s := ok.1
        have o2 : Ok (s + ((n + n' + 2 : Nat) : Int) + 1) r := ok.2
        have o3 : Ok (s + n + 2 + (n' : Int) + 1) r := by
          have : s + n + 2 + (n' : Int) + 1 = s + ((n + n' + 2 : Nat) : Int) + 1 := by omega
          rw [this]; exact o2
        have hp : s + (n : Int) + 2 = f t + 1 := by omega
        refine ⟨(s, n) :: (s + n + 2, n') :: r, ?_, ⟨o1, by show s + (n : Int) + 1 < s + n + 2; omega, o3⟩, fun m => ?_, (pick_31 h4 hp).2, (pick_31 h4 hp).1, by omega⟩
        · show a.map f :: b.map f :: st.map (·.map f) = sgi (s, n) :: sgi (s + n + 2, n') :: r.map sgi
          rw [h3, h5, h2]
        · rcases mem_cons.mp m with m | m
          · have m : s ≤ f t ∧ f t ≤ s + n := m
            omega
          · rcases mem_cons.mp m with m | m
            · have m : s + n + 2 ≤ f t ∧ f t ≤ s + n + 2 + n' := m
              omega
            · have := ok_lt o2 m
              omega
end OgM
namespace OgM
theorem apply_facts {t : Nat} : ∀ {st : List (List Nat)} {c : Ch}, Valid c st.length → Full st → Full (applyC t c st) ∧ (applyC t c st).flatten.Perm (t :: st.flatten)
  | [], c, hv, hF => by
    obtain ⟨w, k⟩ := c
    cases w with
    | beside => exact absurd (show k < 2 * 0 from hv) (by omega)
    | between => exact absurd (show k + 1 < 0 from hv) (by omega)
    | new =>
      have hk : k = 0 := by have h : k ≤ 0 := hv; omega
      subst hk
      exact ⟨fun a ha => by rw [List.mem_singleton.mp (show a ∈ [[t]] from ha)]; simp, List.Perm.refl _⟩
  | a :: st, c, hv, hF => by
    have ha : a ≠ [] := hF a List.mem_cons_self
    have hF' : Full st := fun b hb => hF b (List.mem_cons_of_mem _ hb)
    rcases valid_shift (n := st.length) hv with ⟨c', rfl, hv'⟩ | rfl | rfl | rfl | rfl
    · rw [applyC_shift]
      obtain ⟨h1, h2⟩ := apply_facts (t := t) hv' hF'
      refine ⟨fun b hb => ?_, ?_⟩
      · rcases List.mem_cons.mp hb with rfl | hb
        · exact ha
        · exact h1 b hb
      · show (a ++ (applyC t c' st).flatten).Perm (t :: (a ++ st.flatten))
        exact (List.Perm.append_left a h2).trans List.perm_middle
    · have e : applyC t (.new, 0) (a :: st) = [t] :: a :: st := rfl
      rw [e]
      refine ⟨fun b hb => ?_, List.Perm.refl _⟩
      rcases List.mem_cons.mp hb with rfl | hb
      · simp
      · exact hF b hb
    · have e : applyC t (.beside, 0) (a :: st) = (t :: a) :: st := rfl
      rw [e]
      refine ⟨fun b hb => ?_, List.Perm.refl _⟩
      rcases List.mem_cons.mp hb with rfl | hb
      · simp
      · exact hF' b hb
    · have e : applyC t (.beside, 1) (a :: st) = (a ++ [t]) :: st := rfl
      rw [e]
      refine ⟨fun b hb => ?_, ?_⟩
      · rcases List.mem_cons.mp hb with rfl | hb
        · simp
        · exact hF' b hb
      · show ((a ++ [t]) ++ st.flatten).Perm (t :: (a ++ st.flatten))
        rw [List.append_assoc]
        exact List.perm_middle
    · cases st with
      | nil => exact absurd (show 0 + 1 < 1 from hv) (by omega)
      | cons b st =>
        have e : applyC t (.between, 0) (a :: b :: st) = (a ++ [t] ++ b) :: st := rfl
        rw [e]
        refine ⟨fun x hx => ?_, ?_⟩
        · rcases List.mem_cons.mp hx with rfl | hx
          · simp
          · exact hF' x (List.mem_cons_of_mem _ hx)
        · show ((a ++ [t] ++ b) ++ st.flatten).Perm (t :: (a ++ (b ++ st.flatten)))
          rw [List.append_assoc, List.append_assoc]
          exact List.perm_middle
theorem st_facts {cs : List Ch} (v : VCh cs) : ∀ i, i ≤ cs.length → Full (stAt cs i) ∧ (stAt cs i).flatten.Nodup
  | 0, _ => ⟨fun a ha => absurd ha (by simp [stAt]), List.nodup_nil⟩
  | i + 1, h => by
    obtain ⟨h1, h2⟩ := st_facts v i (by omega)
    have e : cs[i]? = some (cs[i]'h) := List.getElem?_eq_getElem _
    have q := apply_facts (t := i) (v i _ e) h1
    show Full (applyC i (cs.getD i (.new, 0)) (stAt cs i)) ∧ (applyC i (cs.getD i (.new, 0)) (stAt cs i)).flatten.Nodup
    rw [getD_at e]
    refine ⟨q.1, q.2.nodup_iff.mpr (List.nodup_cons.mpr ⟨fun m => ?_, h2⟩)⟩
    have := (st_mem v i (by omega) i).mp m
    omega
section
variable {cs : List Ch} {f : Nat → Int} {g : List Seg} {lo : Int}
theorem down (v : VCh cs) (ht : Told f (stAt cs cs.length) g) (ok : Ok lo g) : ∀ k, k ≤ cs.length → ∃ g', Told f (stAt cs (cs.length - k)) g' ∧ Ok lo g'
  | 0, _ => ⟨g, ht, ok⟩
  | k + 1, hk => by
    obtain ⟨g', h1, h2⟩ := down v ht ok k (by omega)
    have hi : cs.length - (k + 1) < cs.length := by omega
    have e : cs[cs.length - (k + 1)]? = some (cs[cs.length - (k + 1)]'hi) := List.getElem?_eq_getElem _
    have e2 : cs.length - k = cs.length - (k + 1) + 1 := by omega
    rw [e2] at h1
    have h1 : Told f (applyC (cs.length - (k + 1)) (cs.getD (cs.length - (k + 1)) (.new, 0)) (stAt cs (cs.length - (k + 1)))) g' := h1
    rw [getD_at e] at h1
    obtain ⟨g0, t1, t2, _⟩ := un_apply (v _ _ e) (st_facts v _ (by omega)).1 h1 h2
    exact ⟨g0, t1, t2⟩
theorem turn (v : VCh cs) (ht : Told f (stAt cs cs.length) g) (ok : Ok lo g) {i : Nat} (hi : i < cs.length) : ∃ g0 g1, Told f (stAt cs i) g0 ∧ Told f (stAt cs (i + 1)) g1 ∧ Ok lo g0 ∧ ¬ Mem (f i) g0 ∧ add (f i) g0 = g1 ∧ pick (f i) g0 = cs[i]'hi ∧ lo < f i := by
  obtain ⟨g1, h1, h2⟩ := down v ht ok (cs.length - (i + 1)) (by omega)
  have e2 : cs.length - (cs.length - (i + 1)) = i + 1 := by omega
  rw [e2] at h1
  have e : cs[i]? = some (cs[i]'hi) := List.getElem?_eq_getElem _
  have h1' : Told f (applyC i (cs.getD i (.new, 0)) (stAt cs i)) g1 := h1
  rw [getD_at e] at h1'
  obtain ⟨g0, t1, t2, t3, t4, t5, t6⟩ := un_apply (v _ _ e) (st_facts v _ (by omega)).1 h1' h2
  exact ⟨g0, g1, t1, h1, t2, t3, t4, t5, t6⟩
end
theorem fn_of : ∀ (l : List Nat) (ys : List Int), l.Nodup → l.length = ys.length → ∃ f : Nat → Int, l.map f = ys
  | [], [], _, _ => ⟨fun _ => 0, rfl⟩
  | [], _ :: _, _, h => by simp at h
  | _ :: _, [], _, h => by simp at h
  | t :: l, y :: ys, hn, h => by
    rw [List.nodup_cons] at hn
    obtain ⟨f, hf⟩ := fn_of l ys hn.2 (by simpa using h)
    refine ⟨fun u => if u = t then y else f u, ?_⟩
    rw [List.map_cons, if_pos rfl]
    congr 1
    rw [← hf]
    refine List.map_congr_left fun u hu => if_neg (show ¬ (u = t) from fun e => hn.1 (e ▸ hu))
theorem holes_sum : ∀ (b : Int) (g : List Seg), (holesI b g).sum + (size g : Int) = endB b g - b
  | b, [] => by show (0 : Int) + 0 = b - b; omega
  | b, x :: r => by
    have ih := holes_sum (x.1 + x.2 + 1) r
    show (x.1 - b) + (holesI (x.1 + x.2 + 1) r).sum + ((x.2 + 1 + size r : Nat) : Int) = endB (x.1 + x.2 + 1) r - b
    omega
end OgM
namespace OgM
/-- how many groups there are, by the choices -/
theorem segs_steps {n : Int} {row : List Int} (h : Row n row) {i : Nat} (hi : i ≤ row.length) : ((segs (row.take i)).length : Int) = (((picks row).take i).map fun c => c.1.step).sum := by
  obtain ⟨t, _⟩ := picks_told h i hi
  have e := congrArg List.length (show _ = _ from t)
  rw [List.length_map, List.length_map] at e
  rw [steps_sum (picks_valid h) i (by rw [picks_len]; exact hi), e]
/-- the number of groups before -/
theorem st_segs {n : Int} {row : List Int} (h : Row n row) {i : Nat} (hi : i ≤ row.length) : (stAt (picks row) i).length = (segs (row.take i)).length := by
  obtain ⟨t, _⟩ := picks_told h i hi
  have e := congrArg List.length (show _ = _ from t)
  rw [List.length_map, List.length_map] at e
  exact e
end OgM
namespace OgM
def cho : Nat → Nat → Nat
  | _, 0 => 1
  | 0, _ + 1 => 0
  | n + 1, k + 1 => cho n k + cho n (k + 1)
theorem choose_0 (n : Nat) : cho n 0 = 1 := by cases n <;> rfl
theorem choose_gt : ∀ {n k : Nat}, n < k → cho n k = 0
  | _, 0, h => by omega
  | 0, _ + 1, _ => rfl
  | n + 1, k + 1, h => by
    show cho n k + cho n (k + 1) = 0
    rw [choose_gt (by omega), choose_gt (by omega)]
theorem choose_succ : ∀ n k : Nat, (n + 1) * cho n k = cho (n + 1) (k + 1) * (k + 1)
  | 0, 0 => rfl
  | 0, k + 1 => by
    show 1 * 0 = (cho 0 (k + 1) + cho 0 (k + 2)) * (k + 2)
    rw [show cho 0 (k + 1) = 0 from rfl, show cho 0 (k + 2) = 0 from rfl]
    omega
  | n + 1, 0 => by
    have h : (n + 1) * cho n 0 = cho (n + 1) 1 * (0 + 1) := choose_succ n 0
    rw [choose_0] at h ⊢
    show _ = (cho (n + 1) 0 + cho (n + 1) 1) * 1
    rw [choose_0]
    omega
  | n + 1, k + 1 => by
    have h1 : (n + 1) * cho n k = (cho n k + cho n (k + 1)) * (k + 1) := choose_succ n k
    have h2 : (n + 1) * cho n (k + 1) = cho (n + 1) (k + 2) * (k + 2) := choose_succ n (k + 1)
    show (n + 2) * (cho n k + cho n (k + 1)) = ((cho n k + cho n (k + 1)) + cho (n + 1) (k + 2)) * (k + 2)
    generalize cho n k = a at *
    generalize cho n (k + 1) = b at *
    generalize cho (n + 1) (k + 2) = p at *
    have e1 : (a + b + p) * (k + 2) = (a + b) * (k + 1) + (a + b) + p * (k + 2) := by rw [Nat.add_mul, show k + 2 = k + 1 + 1 from rfl, Nat.mul_add (a + b) (k + 1) 1]; omega
    have e2 : (n + 2) * (a + b) = (n + 1) * a + (n + 1) * b + (a + b) := by rw [show n + 2 = n + 1 + 1 from rfl, Nat.add_mul (n + 1) 1, Nat.mul_add (n + 1)]; omega
    rw [e1, e2, ← h1, ← h2]
    omega
theorem choose_step (n k : Nat) : cho n k * (n - k) = cho n (k + 1) * (k + 1) := by
  by_cases h : n < k
  · rw [choose_gt h, choose_gt (by omega)]
    omega
  · have h1 : (n + 1) * cho n k = (cho n k + cho n (k + 1)) * (k + 1) := choose_succ n k
    rw [Nat.add_mul (cho n k)] at h1
    have e2 : cho n k * (n - k) + cho n k * (k + 1) = (n + 1) * cho n k := by
      rw [← Nat.mul_add, show n - k + (k + 1) = n + 1 by omega, Nat.mul_comm]
    omega
theorem choose_int (n j : Nat) : (cho n j : Int) * ((n : Int) - (j : Int)) / ((j : Int) + 1) = (cho n (j + 1) : Int) := by
  by_cases h : n < j
  · rw [choose_gt h, choose_gt (by omega)]
    simp
  · have e := choose_step n j
    have e2 : (cho n j : Int) * ((n : Int) - (j : Int)) = (cho n (j + 1) : Int) * ((j : Int) + 1) := by
      rw [show (n : Int) - (j : Int) = ((n - j : Nat) : Int) by omega, show (j : Int) + 1 = ((j + 1 : Nat) : Int) by omega, ← Int.natCast_mul, ← Int.natCast_mul, e]
    rw [e2]
    exact Int.mul_ediv_cancel _ (by omega)
inductive NV where
  | g (n : Nat)
  | h (w : Wd)
deriving DecidableEq
structure Nt where
  t : Nat
  v : NV
deriving DecidableEq
def NV.g? : NV → Option Nat
  | .g n => some n
  | .h _ => none
def NV.h? : NV → Option Wd
  | .g _ => none
  | .h w => some w
/-- the number of groups noted for a time; of several the last -/
def gAt : List Nt → Nat → Option Nat
  | [], _ => none
  | n :: ns, t => (gAt ns t).or (if n.t = t then n.v.g? else none)
def hAt : List Nt → Nat → Option Wd
  | [], _ => none
  | n :: ns, t => (hAt ns t).or (if n.t = t then n.v.h? else none)
def waysN (w : Wd) (m : Nat) : Nat := match w with
  | .new => m + 1
  | .beside => 2 * m
  | .between => m - 1
theorem valid_ways {w : Wd} {k m : Nat} : Valid (w, k) m ↔ k < waysN w m := by
  cases w
  · show k ≤ m ↔ k < m + 1
    omega
  · exact Iff.rfl
  · show k + 1 < m ↔ k < m - 1
    omega
/-- the number of groups after such a house -/
def nextM (m : Nat) : Wd → Nat
  | .new => m + 1
  | .beside => m
  | .between => m - 1
theorem nextM_step {m : Nat} {w : Wd} (h : waysN w m ≠ 0) : (nextM m w : Int) = m + w.step := by
  cases w
  · rfl
  · show (m : Int) = m + 0
    omega
  · have h : m - 1 ≠ 0 := h
    show ((m - 1 : Nat) : Int) = m + -1
    omega
def wOk (ns : List Nt) (t m : Nat) (w : Wd) : Bool := decide (waysN w m ≠ 0) && ((hAt ns t).getD w == w && (gAt ns t).getD (nextM m w) == nextM m w)
def asc : List Wd := [.beside, .between, .new]
def wordsAt (ns : List Nt) (t m : Nat) : List Wd := asc.filter (wOk ns t m)
/-- how many ways lead on from m groups with k houses to come; e empty plots at last -/
def FW (φ : List Nat → Nat) (ns : List Nt) (e T : Nat) : Nat → Nat → Nat
  | 0, m => cho (e + 1) m
  | k + 1, m => φ ((wordsAt ns (T - (k + 1)) m).map fun w => waysN w m * FW φ ns e T k (nextM m w))
/-- the words, the numbers of choices, the ways on -/
def blocksAt (ns : List Nt) (f : Nat → Nat) (t m : Nat) : List (Wd × Nat × Nat) := (wordsAt ns t m).map fun w => (w, waysN w m, f (nextM m w))
end OgM
namespace OgM
end OgM
namespace OgM
end OgM
namespace OgM
end OgM
namespace OgM
def mFold (m : Nat) (cs : List Ch) : Nat := cs.foldl (fun m c => nextM m c.1) m
/-- each choice is one for the groups that it finds -/
def VM (m : Nat) (cs : List Ch) : Prop := ∀ (i : Nat) c, cs[i]? = some c → Valid c (mFold m (cs.take i))
theorem VM.tail {m : Nat} {c : Ch} {cs : List Ch} (h : VM m (c :: cs)) : Valid c m ∧ VM (nextM m c.1) cs := ⟨h 0 c rfl, fun i d hd => h (i + 1) d (by rw [List.getElem?_cons_succ]; exact hd)⟩
theorem VM.cons {m : Nat} {c : Ch} {cs : List Ch} (h1 : Valid c m) (h2 : VM (nextM m c.1) cs) : VM m (c :: cs) := fun i d hd => by
  cases i with
  | zero => cases hd; exact h1
  | succ i => rw [List.getElem?_cons_succ] at hd; exact h2 i d hd
end OgM
namespace OgM
structure Agr (ns : List Nt) (row : List Int) : Prop where
  g : ∀ t x, t < row.length → gAt ns t = some x → x = (segs (row.take (t + 1))).length
  h : ∀ t w, t < row.length → hAt ns t = some w → ∃ c, (picks row)[t]? = some (w, c)
theorem picks_next {n : Int} {row : List Int} (h : Row n row) {i : Nat} {w : Wd} {c : Nat} (hc : (picks row)[i]? = some (w, c)) : (segs (row.take (i + 1))).length = nextM (segs (row.take i)).length w ∧ c < waysN w (segs (row.take i)).length := by
  have hi : i < row.length := by
    have := (List.getElem?_eq_some_iff.mp hc).1
    rw [picks_len] at this
    exact this
  have hv := picks_valid h i _ hc
  rw [st_segs h (by omega)] at hv
  have hlt := valid_ways.mp hv
  refine ⟨?_, hlt⟩
  have a := segs_steps h (show i + 1 ≤ row.length by omega)
  have b := segs_steps h (show i ≤ row.length by omega)
  rw [List.take_add_one (l := picks row), hc, List.map_append, List.sum_append] at a
  have c' : ((some (w, c) : Option Ch).toList.map fun c => c.1.step).sum = w.step := by simp
  rw [c'] at a
  have := nextM_step (w := w) (m := (segs (row.take i)).length) (by omega)
  omega
end OgM
namespace OgM
/-- n (n - 1) .. of k factors -/
def fal (n : Nat) : Nat → Nat
  | 0 => 1
  | k + 1 => fal n k * (n - k)
/-- how many choices the house of a time has -/
def pw (row : List Int) (i : Nat) : Nat := waysN ((picks row)[i]?.getD (.new, 0)).1 (segs (row.take i)).length
def prodW (row : List Int) : Nat → Nat
  | 0 => 1
  | i + 1 => prodW row i * pw row i
end OgM
namespace OgM
theorem fal_succ (n : Nat) : ∀ k, fal (n + 1) (k + 1) = (n + 1) * fal n k
  | 0 => by
    show 1 * (n + 1 - 0) = (n + 1) * 1
    omega
  | k + 1 => by
    show fal (n + 1) (k + 1) * (n + 1 - (k + 1)) = (n + 1) * (fal n k * (n - k))
    rw [fal_succ n k, Nat.mul_assoc, show n + 1 - (k + 1) = n - k by omega]
/-- all choices of a house, each with the ways to choose the gaps -/
theorem cho_words (N m : Nat) : waysN .beside m * cho N (nextM m .beside) + (waysN .between m * cho N (nextM m .between) + waysN .new m * cho N (nextM m .new)) = N * cho (N + 1) m := by
  show 2 * m * cho N m + ((m - 1) * cho N (m - 1) + (m + 1) * cho N (m + 1)) = N * cho (N + 1) m
  have s1 := choose_step N m
  cases m with
  | zero =>
    rw [choose_0, choose_0]
    rw [choose_0] at s1
    simp only [Nat.mul_zero, Nat.zero_mul, Nat.zero_add, Nat.zero_sub]
    simp only [Nat.zero_add, Nat.sub_zero] at s1
    omega
  | succ m =>
    have s2 := choose_step N m
    show 2 * (m + 1) * cho N (m + 1) + (m * cho N m + (m + 2) * cho N (m + 2)) = N * (cho N m + cho N (m + 1))
    have s1 : cho N (m + 1) * (N - (m + 1)) = cho N (m + 2) * (m + 2) := s1
    by_cases h : N < m + 1
    · rw [choose_gt (show N < m + 2 by omega), choose_gt h]
      by_cases h2 : N < m
      · rw [choose_gt h2]
        omega
      · rw [show N = m by omega]
        simp
    · obtain ⟨d, rfl⟩ : ∃ d, N = m + 1 + d := ⟨N - (m + 1), by omega⟩
      rw [show m + 1 + d - (m + 1) = d by omega] at s1
      rw [show m + 1 + d - m = d + 1 by omega] at s2
      generalize cho (m + 1 + d) m = a at *
      generalize cho (m + 1 + d) (m + 1) = b at *
      generalize cho (m + 1 + d) (m + 2) = c at *
      have e1 : (m + 2) * c = b * d := by rw [Nat.mul_comm]; exact s1.symm
      rw [e1]
      have e2 : (m + 1 + d) * (a + b) = m * a + a * (d + 1) + (m * b + b + b * d) := by
        rw [Nat.mul_add, Nat.add_mul (m + 1) d a, Nat.add_mul (m + 1) d b, Nat.add_mul m 1 a, Nat.add_mul m 1 b, Nat.mul_add a d 1, Nat.mul_comm d a, Nat.mul_comm d b]
        omega
      have e3 : 2 * (m + 1) * b = m * b + b + b * (m + 1) := by
        rw [Nat.mul_assoc, Nat.two_mul, Nat.mul_comm b (m + 1), Nat.add_mul m 1 b]
        omega
      rw [e2, s2, e3]
      omega
/-- without notes: the plots of the groups so far, then those of the houses to come -/
theorem FW_none (e T : Nat) : ∀ k m : Nat, FW List.sum [] e T k m = cho (e + k + 1) m * fal (e + k) k
  | 0, m => by show cho (e + 1) m = cho (e + 1) m * 1; omega
  | k + 1, m => by
    show ((wordsAt [] (T - (k + 1)) m).map fun w => waysN w m * FW List.sum [] e T k (nextM m w)).sum = _
    have ih : ∀ w, waysN w m * FW List.sum [] e T k (nextM m w) = waysN w m * cho (e + k + 1) (nextM m w) * fal (e + k) k := fun w => by rw [FW_none e T k, Nat.mul_assoc]
    have hw : ∀ w, wOk [] (T - (k + 1)) m w = decide (waysN w m ≠ 0) := fun w => by
      unfold wOk
      show (decide (waysN w m ≠ 0) && ((none.getD w == w) && (none.getD (nextM m w) == nextM m w))) = _
      simp
    have key : ∀ (g : Wd → Nat), (∀ w, waysN w m = 0 → g w = 0) → ((wordsAt [] (T - (k + 1)) m).map g).sum = g .beside + (g .between + g .new) := fun g hg => by
      unfold wordsAt asc
      simp only [List.filter_cons, List.filter_nil, hw]
      by_cases h1 : waysN .beside m = 0 <;> by_cases h2 : waysN .between m = 0 <;> by_cases h3 : waysN .new m = 0 <;> simp [h1, h2, h3, hg]
    rw [key _ fun w h => by rw [h, Nat.zero_mul], ih, ih, ih, ← Nat.add_mul, ← Nat.add_mul, cho_words, show e + (k + 1) = e + k + 1 by omega, fal_succ, Nat.mul_comm (e + k + 1) (cho _ _), Nat.mul_assoc]
theorem FW_mono (ns : List Nt) (e T : Nat) : ∀ k m : Nat, FW List.sum ns e T k m ≤ FW List.sum [] e T k m
  | 0, m => Nat.le_refl _
  | k + 1, m => by
    show ((wordsAt ns (T - (k + 1)) m).map fun w => waysN w m * FW List.sum ns e T k (nextM m w)).sum ≤ ((wordsAt [] (T - (k + 1)) m).map fun w => waysN w m * FW List.sum [] e T k (nextM m w)).sum
    have hw : ∀ w, wOk ns (T - (k + 1)) m w = true → wOk [] (T - (k + 1)) m w = true := fun w h => by
      unfold wOk at h ⊢
      rw [Bool.and_eq_true] at h
      rw [h.1]
      show (none.getD w == w && none.getD (nextM m w) == nextM m w) = true
      simp
    unfold wordsAt
    generalize asc = l
    induction l with
    | nil => exact Nat.le_refl _
    | cons w l ih =>
      rw [List.filter_cons, List.filter_cons]
      by_cases h : wOk ns (T - (k + 1)) m w = true
      · rw [if_pos h, if_pos (hw w h), List.map_cons, List.map_cons, List.sum_cons, List.sum_cons]
        exact Nat.add_le_add (Nat.mul_le_mul_left _ (FW_mono ns e T k _)) ih
      · rw [if_neg h]
        by_cases h2 : wOk [] (T - (k + 1)) m w = true
        · rw [if_pos h2, List.map_cons, List.sum_cons]
          exact Nat.le_trans ih (Nat.le_add_left _ _)
        · rw [if_neg h2]
          exact ih
theorem FW_fal (ns : List Nt) (e T : Nat) : FW List.sum ns e T T 0 ≤ fal (e + T) T := by
  have h1 := FW_mono ns e T T 0
  rw [FW_none, choose_0] at h1
  omega
end OgM
namespace OgM
inductive Ev where
  | ok
  | stuck (t : Int)
  | room (n : Int)
deriving DecidableEq
def mx (a b : Int) : Int := if b > a then b else a
def mn (a b : Int) : Int := if b < a then b else a
def leastF : Wd → Int
  | .new => 0
  | .beside => 1
  | .between => 2
def aFree (lo hi k : Int) : Int × Int := if k = 0 then (lo, hi) else (mx (lo - k) 1, hi + k)
def aNoted (lo hi : Int) : Option Wd → Int × Int
  | none => aFree lo hi 1
  | some w => (mx lo (leastF w) + w.step, hi + w.step)
def aWith (lo hi : Int) : Option Nat → Int × Int
  | none => (lo, hi)
  | some v => (mx lo v, mn hi v)
def evStep (ns : List Nt) (lo hi built t : Int) : Int × Int :=
  aWith (aNoted (aFree lo hi (t - built)).1 (aFree lo hi (t - built)).2 (hAt ns t.toNat)).1 (aNoted (aFree lo hi (t - built)).1 (aFree lo hi (t - built)).2 (hAt ns t.toNat)).2 (gAt ns t.toNat)
def evGo (ns : List Nt) (p T : Nat) : List Int → Int → Int → Int → Ev
  | [], lo, hi, built => if (aFree lo hi ((T : Int) - built)).1 > (p : Int) - (T : Int) + 1 then .room (aFree lo hi ((T : Int) - built)).1 else .ok
  | t :: ts, lo, hi, built => if (evStep ns lo hi built t).1 > (evStep ns lo hi built t).2 then .stuck t else evGo ns p T ts (evStep ns lo hi built t).1 (evStep ns lo hi built t).2 (t + 1)
section
variable {n : Int} {row : List Int}
theorem step_ab (w : Wd) : w.step ≤ 1 ∧ -1 ≤ w.step ∧ 1 ≤ leastF w + w.step := by cases w <;> decide
end
end OgM
namespace OgM
inductive Grow : List Int → Int → Int → Prop
  | one (a : Int) : Grow [a] a a
  | low {q : List Int} {lo hi : Int} : Grow q lo hi → Grow (q ++ [lo - 1]) (lo - 1) hi
  | high {q : List Int} {lo hi : Int} : Grow q lo hi → Grow (q ++ [hi + 1]) lo (hi + 1)
theorem Grow.mem {q : List Int} {lo hi : Int} (h : Grow q lo hi) : lo ≤ hi ∧ (∀ x, x ∈ q ↔ lo ≤ x ∧ x ≤ hi) ∧ q.Nodup ∧ (q.length : Int) = hi - lo + 1 := by
  induction h with
  | one a => exact ⟨by omega, fun x => by simp; omega, by simp, by simp⟩
  | @low q lo hi h ih =>
    obtain ⟨h1, h2, h3, h4⟩ := ih
    refine ⟨by omega, fun x => ?_, ?_, ?_⟩
    · rw [List.mem_append, h2, List.mem_singleton]
      omega
    · refine List.nodup_append.mpr ⟨h3, by simp, fun a ha b hb => ?_⟩
      have := (h2 a).mp ha
      rw [List.mem_singleton.mp hb]
      omega
    · rw [List.length_append]
      simp only [List.length_cons, List.length_nil]
      omega
  | @high q lo hi h ih =>
    obtain ⟨h1, h2, h3, h4⟩ := ih
    refine ⟨by omega, fun x => ?_, ?_, ?_⟩
    · rw [List.mem_append, h2, List.mem_singleton]
      omega
    · refine List.nodup_append.mpr ⟨h3, by simp, fun a ha b hb => ?_⟩
      have := (h2 a).mp ha
      rw [List.mem_singleton.mp hb]
      omega
    · rw [List.length_append]
      simp only [List.length_cons, List.length_nil]
      omega
end OgM
namespace OgM
end OgM
namespace OgM
end OgM
namespace OgM
end OgM
namespace OgM
/-- ms says no more than ns -/
structure Less (ms ns : List Nt) : Prop where
  h : ∀ t w, hAt ms t = some w → hAt ns t = some w
  g : ∀ t x, gAt ms t = some x → gAt ns t = some x
theorem Less.ok {ms ns : List Nt} (l : Less ms ns) {t m : Nat} {w : Wd} (h : wOk ns t m w = true) : wOk ms t m w = true := by
  unfold wOk at h ⊢
  rw [Bool.and_eq_true, Bool.and_eq_true] at h ⊢
  refine ⟨h.1, ?_, ?_⟩
  · cases hm : hAt ms t with
    | none => simp
    | some v =>
      have := l.h t v hm
      rw [this] at h
      exact h.2.1
  · cases hm : gAt ms t with
    | none => simp
    | some v =>
      have := l.g t v hm
      rw [this] at h
      exact h.2.2
def stp (ns : List Nt) (t : Nat) (x : Int × Int) : Int × Int := aWith (aNoted x.1 x.2 (hAt ns t)).1 (aNoted x.1 x.2 (hAt ns t)).2 (gAt ns t)
def Iv (ns : List Nt) : Nat → Int × Int
  | 0 => (0, 0)
  | t + 1 => stp ns t (Iv ns t)
theorem aFree_add (lo hi : Int) (a b : Nat) : aFree (aFree lo hi a).1 (aFree lo hi a).2 b = aFree lo hi ((a + b : Nat) : Int) := by
  unfold aFree
  by_cases ha : (a : Int) = 0
  · rw [if_pos ha, show ((a + b : Nat) : Int) = (b : Int) by omega]
  · rw [if_neg ha, if_neg (show ¬ ((a + b : Nat) : Int) = 0 by omega)]
    by_cases hb : (b : Int) = 0
    · rw [if_pos hb, show ((a + b : Nat) : Int) = (a : Int) by omega]
    · rw [if_neg hb]
      show (mx (mx (lo - a) 1 - b) 1, hi + a + b) = (mx (lo - ((a + b : Nat) : Int)) 1, hi + ((a + b : Nat) : Int))
      have e1 : mx (mx (lo - a) 1 - b) 1 = mx (lo - ((a + b : Nat) : Int)) 1 := by
        unfold mx
        split <;> split <;> (try split) <;> omega
      rw [e1, show hi + (a : Int) + (b : Int) = hi + ((a + b : Nat) : Int) by omega]
/-- without notes from i to i + k -/
theorem Iv_free {ns : List Nt} {i : Nat} : ∀ k, (∀ t, i ≤ t → t < i + k → hAt ns t = none ∧ gAt ns t = none) → Iv ns (i + k) = aFree (Iv ns i).1 (Iv ns i).2 (k : Int)
  | 0, _ => by
    unfold aFree
    rw [if_pos (show ((0 : Nat) : Int) = 0 from rfl)]
    rfl
  | k + 1, h => by
    have ih := Iv_free k fun t h1 h2 => h t h1 (by omega)
    show stp ns (i + k) (Iv ns (i + k)) = _
    unfold stp
    rw [(h (i + k) (by omega) (by omega)).1, (h (i + k) (by omega) (by omega)).2, ih]
    show aFree (aFree (Iv ns i).1 (Iv ns i).2 (k : Int)).1 (aFree (Iv ns i).1 (Iv ns i).2 (k : Int)).2 ((1 : Nat) : Int) = _
    rw [aFree_add]
theorem ev_step {ns : List Nt} {i t : Nat} (hit : i ≤ t) (h : ∀ s, i ≤ s → s < t → hAt ns s = none ∧ gAt ns s = none) : evStep ns (Iv ns i).1 (Iv ns i).2 (i : Int) (t : Int) = Iv ns (t + 1) := by
  have := Iv_free (ns := ns) (i := i) (t - i) fun s h1 h2 => h s h1 (by omega)
  rw [show i + (t - i) = t by omega] at this
  unfold evStep
  rw [Int.toNat_natCast, show (t : Int) - (i : Int) = ((t - i : Nat) : Int) by omega, ← this]
  rfl
end OgM
namespace OgM
def Ne (x : Int × Int) : Prop := x.1 ≤ x.2
theorem Iv_lo (ns : List Nt) : ∀ t, 0 ≤ (Iv ns t).1 ∧ (1 ≤ t → 1 ≤ (Iv ns t).1)
  | 0 => ⟨Int.le_refl _, fun h => by omega⟩
  | t + 1 => by
    have ih := (Iv_lo ns t).1
    have key : 1 ≤ (aNoted (Iv ns t).1 (Iv ns t).2 (hAt ns t)).1 := by
      cases hAt ns t with
      | none =>
        show 1 ≤ mx _ 1
        unfold mx
        split <;> omega
      | some w =>
        show 1 ≤ mx _ _ + _
        obtain ⟨a1, a2, a3⟩ := step_ab w
        unfold mx
        split <;> omega
    have : 1 ≤ (Iv ns (t + 1)).1 := by
      show 1 ≤ (stp ns t (Iv ns t)).1
      unfold stp
      cases gAt ns t with
      | none => exact key
      | some v =>
        show 1 ≤ mx _ _
        unfold mx
        split <;> omega
    exact ⟨by omega, fun _ => this⟩
theorem free_ne {ns : List Nt} {t : Nat} (h : Ne (Iv ns t)) (hh : hAt ns t = none) (hg : gAt ns t = none) : Ne (Iv ns (t + 1)) := by
  have h0 := (Iv_lo ns t).1
  have h : (Iv ns t).1 ≤ (Iv ns t).2 := h
  show (stp ns t (Iv ns t)).1 ≤ (stp ns t (Iv ns t)).2
  unfold stp
  rw [hh, hg]
  show mx _ 1 ≤ _ + 1
  unfold mx
  split <;> omega
/-- what the evidence says from time i on -/
inductive EvIs (ns : List Nt) (p T i : Nat) : Ev → Prop
  | ok (h : ∀ s, i ≤ s → s < T → Ne (Iv ns (s + 1))) (hr : (Iv ns T).1 ≤ (p : Int) - (T : Int) + 1) : EvIs ns p T i .ok
  | stuck (t : Nat) (h1 : i ≤ t) (h2 : t < T) (h : ∀ s, i ≤ s → s < t → Ne (Iv ns (s + 1))) (hn : ¬ Ne (Iv ns (t + 1))) : EvIs ns p T i (.stuck (t : Int))
  | room (h : ∀ s, i ≤ s → s < T → Ne (Iv ns (s + 1))) (hr : (p : Int) - (T : Int) + 1 < (Iv ns T).1) : EvIs ns p T i (.room (Iv ns T).1)
theorem evGo_is {ns : List Nt} {p T : Nat} : ∀ (ks : List Int) (i : Nat), ks.Pairwise (· < ·) → (∀ k ∈ ks, (i : Int) ≤ k ∧ k < (T : Int)) → (∀ t : Nat, i ≤ t → t < T → (t : Int) ∉ ks → hAt ns t = none ∧ gAt ns t = none) → i ≤ T → Ne (Iv ns i) → EvIs ns p T i (evGo ns p T ks (Iv ns i).1 (Iv ns i).2 (i : Int))
  | [], i, _, _, hf, hi, hne => by
    have hfree : ∀ k, i + k ≤ T → Ne (Iv ns (i + k)) := fun k => by
      induction k with
      | zero => exact fun _ => hne
      | succ k ih =>
        intro hk
        have := hf (i + k) (by omega) (by omega) (by simp)
        exact free_ne (ih (by omega)) this.1 this.2
    have hall : ∀ s, i ≤ s → s < T → Ne (Iv ns (s + 1)) := fun s h1 h2 => by
      have := hfree (s + 1 - i) (by omega)
      rw [show i + (s + 1 - i) = s + 1 by omega] at this
      exact this
    have hT := Iv_free (ns := ns) (i := i) (T - i) fun t h1 h2 => hf t h1 (by omega) (by simp)
    rw [show i + (T - i) = T by omega] at hT
    show EvIs ns p T i (if (aFree (Iv ns i).1 (Iv ns i).2 ((T : Int) - (i : Int))).1 > (p : Int) - (T : Int) + 1 then .room (aFree (Iv ns i).1 (Iv ns i).2 ((T : Int) - (i : Int))).1 else .ok)
    rw [show (T : Int) - (i : Int) = ((T - i : Nat) : Int) by omega, ← hT]
    by_cases hr : (Iv ns T).1 > (p : Int) - (T : Int) + 1
    · rw [if_pos hr]
      exact .room hall hr
    · rw [if_neg hr]
      exact .ok hall (by omega)
  | k :: ks, i, hp, hb, hf, hi, hne => by
    obtain ⟨b1, b2⟩ := hb k List.mem_cons_self
    obtain ⟨t, rfl⟩ : ∃ t : Nat, k = t := ⟨k.toNat, by omega⟩
    obtain ⟨p1, p2⟩ := List.pairwise_cons.mp hp
    have hbf : ∀ s : Nat, i ≤ s → s < t → hAt ns s = none ∧ gAt ns s = none := fun s h1 h2 => hf s h1 (by omega) fun hm => by
      rcases List.mem_cons.mp hm with h | h
      · omega
      · have := p1 _ h
        omega
    have hfree : ∀ k, i + k ≤ t → Ne (Iv ns (i + k)) := fun k => by
      induction k with
      | zero => exact fun _ => hne
      | succ k ih =>
        intro hk
        have := hbf (i + k) (by omega) (by omega)
        exact free_ne (ih (by omega)) this.1 this.2
    have hall : ∀ s, i ≤ s → s < t → Ne (Iv ns (s + 1)) := fun s h1 h2 => by
      have := hfree (s + 1 - i) (by omega)
      rw [show i + (s + 1 - i) = s + 1 by omega] at this
      exact this
    show EvIs ns p T i (if (evStep ns (Iv ns i).1 (Iv ns i).2 (i : Int) (t : Int)).1 > (evStep ns (Iv ns i).1 (Iv ns i).2 (i : Int) (t : Int)).2 then .stuck (t : Int) else evGo ns p T ks (evStep ns (Iv ns i).1 (Iv ns i).2 (i : Int) (t : Int)).1 (evStep ns (Iv ns i).1 (Iv ns i).2 (i : Int) (t : Int)).2 ((t : Int) + 1))
    rw [ev_step (by omega) hbf]
    by_cases hs : (Iv ns (t + 1)).1 > (Iv ns (t + 1)).2
    · rw [if_pos hs]
      exact .stuck t (by omega) (by omega) hall (by unfold Ne; omega)
    · rw [if_neg hs]
      have hne2 : Ne (Iv ns (t + 1)) := by unfold Ne; omega
      have ih := evGo_is (ns := ns) (p := p) (T := T) ks (t + 1) p2 (fun k hk => ⟨by have := p1 k hk; omega, (hb k (List.mem_cons_of_mem _ hk)).2⟩) (fun s h1 h2 h3 => hf s (by omega) h2 fun hm => by
        rcases List.mem_cons.mp hm with h | h
        · omega
        · exact h3 h) (by omega) hne2
      rw [show ((t + 1 : Nat) : Int) = (t : Int) + 1 by omega] at ih
      have hall2 : ∀ s, i ≤ s → s < t + 1 → Ne (Iv ns (s + 1)) := fun s h1 h2 => by
        by_cases h3 : s = t
        · rw [h3]
          exact hne2
        · exact hall s h1 (by omega)
      have mix : ∀ {m : Nat}, (∀ s, t + 1 ≤ s → s < m → Ne (Iv ns (s + 1))) → ∀ s, i ≤ s → s < m → Ne (Iv ns (s + 1)) := fun {m} h s h1 h2 => by
        by_cases h3 : s < t + 1
        · exact hall2 s h1 h3
        · exact h s (by omega) h2
      generalize evGo ns p T ks (Iv ns (t + 1)).1 (Iv ns (t + 1)).2 ((t : Int) + 1) = ev at ih
      cases ih with
      | ok h hr => exact .ok (mix h) hr
      | stuck u h1 h2 h hn => exact .stuck u (by omega) h2 (mix h) hn
      | room h hr => exact .room (mix h) hr
theorem none_of {ns : List Nt} {t : Nat} (h : ∀ x ∈ ns, x.t ≠ t) : hAt ns t = none ∧ gAt ns t = none := by
  induction ns with
  | nil => exact ⟨rfl, rfl⟩
  | cons x l ih =>
    obtain ⟨h1, h2⟩ := ih fun y hy => h y (List.mem_cons_of_mem _ hy)
    have hx := h x List.mem_cons_self
    refine ⟨?_, ?_⟩
    · show (hAt l t).or (if x.t = t then _ else none) = none
      rw [h1, if_neg hx]
      rfl
    · show (gAt l t).or (if x.t = t then _ else none) = none
      rw [h2, if_neg hx]
      rfl
/-- the evidence of a journal -/
theorem ev_is {ns : List Nt} {p T : Nat} {ks : List Int} (ht : ∀ x ∈ ns, x.t < T) (h1 : ks.Pairwise (· < ·)) (h2 : ∀ k : Int, k ∈ ks ↔ ∃ x ∈ ns, (x.t : Int) = k) : EvIs ns p T 0 (evGo ns p T ks 0 0 0) := by
  refine evGo_is ks 0 h1 (fun k hk => ?_) (fun t _ _ hn => none_of fun x hx e => hn ((h2 _).mpr ⟨x, hx, by omega⟩)) (Nat.zero_le _) (Int.le_refl _)
  obtain ⟨x, hx, rfl⟩ := (h2 k).mp hk
  have := ht x hx
  omega
theorem stp_back {ns : List Nt} {t : Nat} {m' : Nat} (h0 : Ne (Iv ns t)) (h1 : (Iv ns (t + 1)).1 ≤ (m' : Int)) (h2 : (m' : Int) ≤ (Iv ns (t + 1)).2) :
    ∃ m w, (Iv ns t).1 ≤ ((m : Nat) : Int) ∧ ((m : Nat) : Int) ≤ (Iv ns t).2 ∧ w ∈ wordsAt ns t m ∧ nextM m w = m' := by
  have hlo := (Iv_lo ns t).1
  have hm1 := (Iv_lo ns (t + 1)).2 (by omega)
  have h0 : (Iv ns t).1 ≤ (Iv ns t).2 := h0
  change (stp ns t (Iv ns t)).1 ≤ _ at h1
  change _ ≤ (stp ns t (Iv ns t)).2 at h2
  unfold stp at h1 h2
  generalize Iv ns t = x at *
  have hg : ∀ v, gAt ns t = some v → v = m' := fun v hv => by
    rw [hv] at h1 h2
    have h1 : mx _ (v : Int) ≤ (m' : Int) := h1
    have h2 : (m' : Int) ≤ mn _ (v : Int) := h2
    unfold mx at h1
    unfold mn at h2
    split at h1 <;> split at h2 <;> omega
  have hb : (aNoted x.1 x.2 (hAt ns t)).1 ≤ (m' : Int) ∧ (m' : Int) ≤ (aNoted x.1 x.2 (hAt ns t)).2 := by
    cases hv : gAt ns t with
    | none =>
      rw [hv] at h1 h2
      exact ⟨h1, h2⟩
    | some v =>
      rw [hv] at h1 h2
      have h1 : mx (aNoted x.1 x.2 (hAt ns t)).1 (v : Int) ≤ (m' : Int) := h1
      have h2 : (m' : Int) ≤ mn (aNoted x.1 x.2 (hAt ns t)).2 (v : Int) := h2
      unfold mx at h1
      unfold mn at h2
      split at h1 <;> split at h2 <;> omega
  have mk : ∀ (m : Nat) (w : Wd), waysN w m ≠ 0 → (∀ v, hAt ns t = some v → v = w) → nextM m w = m' → w ∈ wordsAt ns t m := fun m w hw hh hn => by
    unfold wordsAt
    refine List.mem_filter.mpr ⟨by cases w <;> decide, ?_⟩
    unfold wOk
    rw [decide_eq_true hw]
    have e1 : (hAt ns t).getD w = w := by
      cases hq : hAt ns t with
      | none => rfl
      | some v => exact hh v hq
    have e2 : (gAt ns t).getD (nextM m w) = nextM m w := by
      cases hq : gAt ns t with
      | none => rfl
      | some v =>
        show v = _
        rw [hg v hq, hn]
    rw [e1, e2]
    simp
  cases hw : hAt ns t with
  | some w =>
    rw [hw] at hb
    obtain ⟨b1, b2⟩ := hb
    have b1 : mx x.1 (leastF w) + w.step ≤ (m' : Int) := b1
    have b2 : (m' : Int) ≤ x.2 + w.step := b2
    obtain ⟨m, hm⟩ : ∃ m : Nat, (m : Int) = (m' : Int) - w.step := ⟨((m' : Int) - w.step).toNat, by
      have : 0 ≤ mx x.1 (leastF w) := by unfold mx; split <;> omega
      omega⟩
    have hge : x.1 ≤ (m : Int) ∧ leastF w ≤ (m : Int) := by
      unfold mx at b1
      split at b1 <;> omega
    have hw0 : waysN w m ≠ 0 := by
      cases w
      · show m + 1 ≠ 0
        omega
      · have := hge.2
        have : (1 : Int) ≤ (m : Int) := this
        show 2 * m ≠ 0
        omega
      · have := hge.2
        have : (2 : Int) ≤ (m : Int) := this
        show m - 1 ≠ 0
        omega
    have hnx : nextM m w = m' := by
      have := nextM_step hw0
      omega
    exact ⟨m, w, hge.1, by omega, mk m w hw0 (fun v hv => by rw [hw] at hv; cases hv; rfl) hnx, hnx⟩
  | none =>
    rw [hw] at hb
    obtain ⟨b1, b2⟩ := hb
    have b1 : mx (x.1 - 1) 1 ≤ (m' : Int) := b1
    have b2 : (m' : Int) ≤ x.2 + 1 := b2
    have b3 : x.1 - 1 ≤ (m' : Int) ∧ 1 ≤ (m' : Int) := by
      unfold mx at b1
      split at b1 <;> omega
    have noh : ∀ w v, hAt ns t = some v → v = w := fun w v hv => by rw [hw] at hv; cases hv
    by_cases c1 : (m' : Int) < x.1
    · have hw0 : waysN .between (m' + 1) ≠ 0 := by show m' + 1 - 1 ≠ 0; omega
      exact ⟨m' + 1, .between, by omega, by omega, mk _ _ hw0 (noh _) rfl, rfl⟩
    · by_cases c2 : (m' : Int) ≤ x.2
      · have hw0 : waysN .beside m' ≠ 0 := by show 2 * m' ≠ 0; omega
        exact ⟨m', .beside, by omega, by omega, mk _ _ hw0 (noh _) rfl, rfl⟩
      · obtain ⟨m, rfl⟩ : ∃ m, m' = m + 1 := ⟨m' - 1, by omega⟩
        have hw0 : waysN .new m ≠ 0 := by show m + 1 ≠ 0; omega
        exact ⟨m, .new, by omega, by omega, mk _ _ hw0 (noh _) rfl, rfl⟩
theorem sum_pos_of_mem : ∀ {l : List Nat} {x : Nat}, x ∈ l → 0 < x → 0 < l.sum
  | a :: l, x, h, hx => by
    rw [List.sum_cons]
    rcases List.mem_cons.mp h with rfl | h
    · omega
    · have := sum_pos_of_mem h hx
      omega
theorem cho_pos : ∀ {n k : Nat}, k ≤ n → 0 < cho n k
  | n, 0, _ => by rw [choose_0]; omega
  | 0, k + 1, h => by omega
  | n + 1, k + 1, h => by
    show 0 < cho n k + cho n (k + 1)
    have := cho_pos (n := n) (k := k) (by omega)
    omega
/-- no evidence: there is an order -/
theorem FW_pos {ns : List Nt} {e T : Nat} (h : ∀ s, s < T → Ne (Iv ns (s + 1))) (hr : (Iv ns T).1 ≤ (e : Int) + 1) : 0 < FW List.sum ns e T T 0 := by
  have hne : ∀ t, t ≤ T → Ne (Iv ns t) := fun t ht => by
    cases t with
    | zero => exact Int.le_refl _
    | succ t => exact h t (by omega)
  have down : ∀ k, k ≤ T → ∃ m : Nat, (Iv ns (T - k)).1 ≤ (m : Int) ∧ (m : Int) ≤ (Iv ns (T - k)).2 ∧ 0 < FW List.sum ns e T k m := fun k => by
    induction k with
    | zero =>
      intro _
      have h0 := (Iv_lo ns T).1
      have h1 := hne T (Nat.le_refl _)
      refine ⟨(Iv ns T).1.toNat, by rw [Nat.sub_zero]; omega, by rw [Nat.sub_zero]; unfold Ne at h1; omega, ?_⟩
      exact cho_pos (by omega)
    | succ k ih =>
      intro hk
      obtain ⟨m', a1, a2, a3⟩ := ih (by omega)
      rw [show T - k = T - (k + 1) + 1 by omega] at a1 a2
      obtain ⟨m, w, b1, b2, b3, b4⟩ := stp_back (hne _ (by omega)) a1 a2
      refine ⟨m, b1, b2, ?_⟩
      show 0 < ((wordsAt ns (T - (k + 1)) m).map fun w => waysN w m * FW List.sum ns e T k (nextM m w)).sum
      refine sum_pos_of_mem (List.mem_map.mpr ⟨w, b3, rfl⟩) ?_
      have hw0 : waysN w m ≠ 0 := by
        intro hz
        have := (List.mem_filter.mp b3).2
        unfold wOk at this
        simp [hz] at this
      rw [b4]
      exact Nat.mul_pos (by omega) a3
  obtain ⟨m, a1, a2, a3⟩ := down T (Nat.le_refl _)
  rw [Nat.sub_self] at a1 a2
  have a1 : (0 : Int) ≤ (m : Int) := a1
  have a2 : (m : Int) ≤ 0 := a2
  have : m = 0 := by omega
  subst this
  exact a3
end OgM
namespace OgM
end OgM
namespace OgM
theorem sumL_pos {α : Type} {f : α → Nat} : ∀ {l : List α}, 0 < (l.map f).sum → ∃ a ∈ l, 0 < f a
  | [], h => by cases h
  | a :: l, h => by
    rw [List.map_cons, List.sum_cons] at h
    by_cases ha : 0 < f a
    · exact ⟨a, List.mem_cons_self, ha⟩
    · obtain ⟨b, hb, e⟩ := sumL_pos (l := l) (f := f) (by omega)
      exact ⟨b, List.mem_cons_of_mem _ hb, e⟩
theorem word_ways {ns : List Nt} {t m : Nat} {w : Wd} (h : w ∈ wordsAt ns t m) : waysN w m ≠ 0 ∧ (∀ v, hAt ns t = some v → v = w) ∧ ∀ v, gAt ns t = some v → v = nextM m w := by
  have h := (List.mem_filter.mp h).2
  unfold wOk at h
  rw [Bool.and_eq_true, Bool.and_eq_true] at h
  refine ⟨of_decide_eq_true h.1, fun v hv => ?_, fun v hv => ?_⟩
  · have := h.2.1
    rw [hv] at this
    exact eq_of_beq this
  · have := h.2.2
    rw [hv] at this
    exact eq_of_beq this
theorem next_pos {m : Nat} {w : Wd} (h : waysN w m ≠ 0) : 1 ≤ nextM m w := by
  cases w
  · show 1 ≤ m + 1
    omega
  · have h : 2 * m ≠ 0 := h
    show 1 ≤ m
    omega
  · have h : m - 1 ≠ 0 := h
    show 1 ≤ m - 1
    omega
theorem stp_in {ns : List Nt} {t m : Nat} {w : Wd} (h1 : (Iv ns t).1 ≤ (m : Int)) (h2 : (m : Int) ≤ (Iv ns t).2) (hw : w ∈ wordsAt ns t m) : (Iv ns (t + 1)).1 ≤ (nextM m w : Int) ∧ (nextM m w : Int) ≤ (Iv ns (t + 1)).2 := by
  obtain ⟨a1, a2, a3⟩ := word_ways hw
  have hn := nextM_step a1
  have hp := next_pos a1
  show (stp ns t (Iv ns t)).1 ≤ _ ∧ _ ≤ (stp ns t (Iv ns t)).2
  unfold stp
  generalize Iv ns t = x at *
  have hs := step_ab w
  have hb : (aNoted x.1 x.2 (hAt ns t)).1 ≤ (nextM m w : Int) ∧ (nextM m w : Int) ≤ (aNoted x.1 x.2 (hAt ns t)).2 := by
    cases hv : hAt ns t with
    | none =>
      show (aFree x.1 x.2 1).1 ≤ _ ∧ _ ≤ (aFree x.1 x.2 1).2
      unfold aFree
      rw [if_neg (by decide)]
      show mx (x.1 - 1) 1 ≤ _ ∧ _ ≤ x.2 + 1
      unfold mx
      split <;> omega
    | some v =>
      have := a2 v hv
      subst this
      show mx x.1 (leastF v) + v.step ≤ _ ∧ _ ≤ x.2 + v.step
      have hl : leastF v ≤ (m : Int) := by
        cases v
        · show (0 : Int) ≤ m
          omega
        · have a1 : 2 * m ≠ 0 := a1
          show (1 : Int) ≤ m
          omega
        · have a1 : m - 1 ≠ 0 := a1
          show (2 : Int) ≤ m
          omega
      unfold mx
      split <;> omega
  cases hv : gAt ns t with
  | none => exact hb
  | some v =>
    have := a3 v hv
    subst this
    show mx _ ((nextM m w : Nat) : Int) ≤ _ ∧ _ ≤ mn _ ((nextM m w : Nat) : Int)
    unfold mx mn
    constructor <;> split <;> omega
/-- where an order is, no time is stuck, and there is room -/
theorem FW_in {ns : List Nt} {e T : Nat} : ∀ k m : Nat, k ≤ T → (Iv ns (T - k)).1 ≤ (m : Int) → (m : Int) ≤ (Iv ns (T - k)).2 → 0 < FW List.sum ns e T k m → (∀ s, T - k ≤ s → s < T → Ne (Iv ns (s + 1))) ∧ (Iv ns T).1 ≤ (e : Int) + 1
  | 0, m, _, h1, h2, hp => ⟨fun s a b => by omega, by
    have : m ≤ e + 1 := Nat.le_of_not_lt fun hc => by
      have : FW List.sum ns e T 0 m = 0 := choose_gt hc
      omega
    have h1 : (Iv ns T).1 ≤ (m : Int) := h1
    omega⟩
  | k + 1, m, hk, h1, h2, hp => by
    obtain ⟨w, hw, hq⟩ := sumL_pos (l := wordsAt ns (T - (k + 1)) m) hp
    have h3 : 0 < FW List.sum ns e T k (nextM m w) := Nat.pos_of_ne_zero fun z => by rw [z] at hq; omega
    obtain ⟨b1, b2⟩ := stp_in h1 h2 hw
    have et : T - (k + 1) + 1 = T - k := by omega
    rw [et] at b1 b2
    obtain ⟨c1, c2⟩ := FW_in k _ (by omega) b1 b2 h3
    refine ⟨fun s a b => ?_, c2⟩
    by_cases hs : T - k ≤ s
    · exact c1 s hs b
    · rw [show s + 1 = T - k by omega]
      exact Int.le_trans b1 b2
theorem FW_iff {ns : List Nt} {p T : Nat} {a : Ev} (hT : T ≤ p) (h : EvIs ns p T 0 a) : 0 < FW List.sum ns (p - T) T T 0 ↔ a = .ok := by
  have e0 : T - T = 0 := by omega
  constructor
  · intro hp
    obtain ⟨c1, c2⟩ := FW_in (e := p - T) T 0 (Nat.le_refl _) (by rw [e0]; exact Int.le_refl _) (by rw [e0]; exact Int.le_refl _) hp
    cases h with
    | ok => rfl
    | stuck t h1 h2 h hn => exact absurd (c1 t (by omega) h2) hn
    | room h hr => omega
  · rintro rfl
    cases h with
    | ok h hr => exact FW_pos (fun s hs => h s (Nat.zero_le _) hs) (by omega)
end OgM
namespace Dw
open PySem PySem.Spec PyProof.Rows L2 OgR Evl
def leA (a b : PyData) : Bool := !PySem.W.dataLt b a
def srtA (ds : List PyData) : List PyData := ds.mergeSort leA
structure SrtOk (ds : List PyData) : Prop where
  al : PySem.W.AllAlike ds
  so : PySem.W.Sortable ds
  dp : ∀ d ∈ ds, d.depth ≤ 60
section
variable {X : Cx} {C : Ct} {a b e : Expr} {pos p : Pos} {t ta tb : TE} {w wa wb : WE}
def gSrtA : PyData → Dt → (List PyData → Dt → Prop) → Prop := fun d s Q => ∃ ds, d = .list ds ∧ SrtOk ds ∧ Q (srtA ds) s
end
end Dw
namespace Dw
open PySem PySem.Spec PyProof.Rows L2 OgR Evl
end Dw
namespace OgM
end OgM
namespace Dw
open PySem PySem.Spec PyProof.Rows L2 OgR Evl
def wAppPop (i j : Nat) (w : WE) : WS := fun DD s => (∃ d0, s.env[i]? = some (some (.own d0))) ∧ (∃ e0, s.env[j]? = some (some (.own e0))) ∧ w s fun a s1 => ∃ (n : Nat) (ds es : List PyData) (d : PyData), a = .int (n : Nat) ∧ s1.env[i]? = some (some (.own ds)) ∧ s1.env[j]? = some (some (.own es)) ∧ es[n]? = some d ∧ n < 100000 ∧ ds.length < 100000 ∧
  DD.nx ((s1.set j (.own (es.eraseIdx n))).set i (.own (ds ++ [d])))
end Dw
namespace Dw
open PySem PySem.Spec PyProof.Rows L2 OgR Evl
section
variable {X : Cx} {C : Ct}
def gLenSetL : G1 := fun d s Q => ∃ ns : List Int, d = .list (ns.map .int) ∧ ns.length ≤ 1000 ∧ ∀ ks : List Int, ks.Nodup → (∀ k, k ∈ ks ↔ k ∈ ns) → Q (.int (ks.length : Nat)) s
end
end Dw
namespace Dw
open PySem PySem.Spec PyProof.Rows L2 OgR Evl
section
variable {X : Cx} {C : Ct} {e : Expr} {pos : Pos} {t : TE} {w : WE} {x : Str}
def wAugM (i : Nat) (w : WE) : WS := fun DD s => ∃ m, s.env[i]? = some (some (.d (.int m))) ∧ w s fun d s1 => ∃ n, d = .int n ∧ CMul m n ∧ DD.nx (s1.set i (.d (.int (m * n))))
end
end Dw
namespace Dw
open PySem PySem.Spec PyProof.Rows L2 OgR Evl
end Dw
namespace Og
open PySem PySem.Spec PyProof.Rows L2 OgR Evl
def topS (i : Nat) : Stmt := PySem.Challenge.pw_onlygroups_k23_errors_in_their_order.main.body.getD i (.Pass ⟨0, 0, 0, 0⟩)
section
variable {P : Program} {w : World} {K : PySem.W.Frag} {mg : Str → Option Value} {base : Heap}
def BoxAt (H : Hp) (l : Addr) (c : Int) : Prop := ∃ a b : Int, H l = some (.lst [.int a, .int b, .int c]) ∧ 0 ≤ a ∧ 0 ≤ b ∧ b < 2 ^ 62 ∧ 0 ≤ c ∧ c ≤ 1000000
end
end Og
namespace Og
open PySem PySem.Spec PyProof.Rows L2 OgR Evl OgM
def dInts (l : List Int) : List PyData := l.map PyData.int
theorem dp_ints {K : PySem.W.Frag} {H : Hp} : ∀ l : List Int, DpAll K H (l.map V.int) (dInts l)
  | [] => .nil
  | i :: l => .cons (.int i) (dp_ints l)
def dLL (g : List Seg) : List PyData := g.map fun x => PyData.list (dInts (sgi x))
def PR (H0 H : Hp) (q : Addr) (x : Seg) : Prop := H0 q = none ∧ H q = some (.lst ((sgi x).map V.int))
structure LL (H0 H : Hp) (p : Addr) (g : List Seg) : Prop where
  new : H0 p = none
  ex : ∃ qs : List Addr, H p = some (.lst (qs.map V.ref)) ∧ Paired (PR H0 H) qs g ∧ p ∉ qs
theorem paired_mem {α β : Type} {F : α → β → Prop} : ∀ {l : List α} {g : List β}, Paired F l g → ∀ a ∈ l, ∃ b ∈ g, F a b
  | _, _, .nil, a, h => absurd h (by simp)
  | _, _, .cons r t, a, h => by
    rcases List.mem_cons.mp h with e | h
    · subst e
      exact ⟨_, by simp, r⟩
    · obtain ⟨b, hb, q⟩ := paired_mem t a h
      exact ⟨b, by simp [hb], q⟩
/-- the runs are kept where their lists are -/
theorem PR.keep {H0 H H' : Hp} {qs : List Addr} {g : List Seg} (h : Paired (PR H0 H) qs g) (k : ∀ q ∈ qs, ∀ o, H q = some o → H' q = some o) : Paired (PR H0 H') qs g := by
  induction h with
  | nil => exact .nil
  | cons r t ih =>
    exact .cons ⟨r.1, k _ (by simp) _ r.2⟩ (ih fun q hq o e => k q (by simp [hq]) o e)
theorem LL.len {H0 H : Hp} {p : Addr} {g : List Seg} (h : LL H0 H p g) : ∃ qs : List Addr, H p = some (.lst (qs.map V.ref)) ∧ qs.length = g.length := by
  obtain ⟨qs, e, r, _⟩ := h.ex
  exact ⟨qs, e, r.length⟩
theorem LL.keep {H0 H H' : Hp} {p : Addr} {g : List Seg} (h : LL H0 H p g) (e : Ex H H') : LL H0 H' p g := by
  obtain ⟨qs, e1, r, np⟩ := h.ex
  exact ⟨h.new, qs, e _ _ e1, PR.keep r (fun q _ o x => e q o x), np⟩
theorem pr_dp {K : PySem.W.Frag} {H0 H : Hp} : ∀ {qs : List Addr} {g : List Seg}, Paired (PR H0 H) qs g → DpAll K H (qs.map V.ref) (dLL g)
  | _, _, .nil => .nil
  | _, _, .cons a t => .cons (.lst (.inl (.inl a.2)) (dp_ints _)) (pr_dp t)
theorem LL.dp {K : PySem.W.Frag} {H0 H : Hp} {p : Addr} {g : List Seg} (h : LL H0 H p g) : Dp K H (.ref p) (.list (dLL g)) := by
  obtain ⟨qs, e1, r, _⟩ := h.ex
  exact .lst (.inl (.inl e1)) (pr_dp r)
end Og
namespace Og
open PySem PySem.Spec PyProof.Rows L2 OgR Evl OgM
theorem take_next {α : Type} {g : List α} {i : Nat} {x : α} (e : g[i]? = some x) : g.take (i + 1) = g.take i ++ [x] := by
  rw [List.take_add_one, e]
  rfl
end Og
namespace Og
open PySem PySem.Spec PyProof.Rows L2 OgR Evl OgM
def wstr : Wd → Str
  | .new => "new"
  | .beside => "beside"
  | .between => "between"
theorem Cw.new {H H' : Hp} {f : Nat → Bool} {v : Nat → V} {D T : Addr} {i : Nat} {o : HO} (h : Cw H f v D i H') (hT : H' T = none) : Cw H f v D i (upd H' T o) := by
  obtain ⟨h1, h2, h3⟩ := h
  exact ⟨h1, h2.trans (Ex.new hT), by rw [upd_ne (ne_of_none h3 hT)]; exact h3⟩
end Og
namespace Og
open PySem PySem.Spec PyProof.Rows L2 OgR Evl OgM
/-- choices, as a list or tuple (b) of lists or tuples (b') -/
def chV (c : Ch) : List V := [.str (wstr c.1), .int (c.2 : Nat)]
def ChIs (K : PySem.W.Frag) (b b' : Bool) (H : Hp) (a : Addr) (cs : List Ch) : Prop := ∃ ts : List Addr, SqB K b H a (ts.map V.ref) ∧ Paired (fun t c => SqB K b' H t (chV c)) ts cs
theorem ChIs.ex {K : PySem.W.Frag} {b b' : Bool} {H H' : Hp} {a : Addr} {cs : List Ch} (e : Ex H H') (h : ChIs K b b' H a cs) : ChIs K b b' H' a cs := by
  obtain ⟨ts, h1, h2⟩ := h
  exact ⟨ts, h1.ex e, h2.mono fun _ _ x => x.ex e⟩
section
variable {P : Program} {w : World} {K : PySem.W.Frag} {mg : Str → Option Value} {base : Heap}
theorem nodup_fresh {row : List Int} (h : row.Nodup) {i : Nat} {p : Int} (e : row[i]? = some p) : p ∉ row.take i := by
  intro m
  obtain ⟨j, hj⟩ := List.getElem?_of_mem m
  rw [List.getElem?_take] at hj
  split at hj
  · rename_i lt
    obtain ⟨a, ea⟩ := List.getElem?_eq_some_iff.mp e
    obtain ⟨b, eb⟩ := List.getElem?_eq_some_iff.mp hj
    have := (List.getElem_inj h).mp (eb.trans ea.symm)
    omega
  · cases hj
end
end Og
namespace Og
open PySem PySem.Spec PyProof.Rows L2 OgR Evl OgM
/-- all but l as it was -/
def ExB (l : Addr) (H H' : Hp) : Prop := ∀ a o, a ≠ l → H a = some o → H' a = some o
theorem ExB.of {l : Addr} {H H' : Hp} (e : Ex H H') : ExB l H H' := fun a o _ h => e a o h
theorem ExB.trans {l : Addr} {H H1 H2 : Hp} (a : ExB l H H1) (b : ExB l H1 H2) : ExB l H H2 := fun x o n h => b x o n (a x o n h)
theorem ExB.box {l : Addr} {H : Hp} {o : HO} : ExB l H (upd H l o) := fun x u n h => by
  rw [upd_ne n]
  exact h
theorem ExB.mut {l p : Addr} {H H' : Hp} {o : HO} (e : ExB l H H') (h : H p = none) : ExB l H (upd H' p o) := fun x u n hx => by
  rw [upd_ne (ne_of_none hx h)]
  exact e x u n hx
theorem BoxAt.ex {H H' : Hp} {l : Addr} {c : Int} (h : BoxAt H l c) (e : Ex H H') : BoxAt H' l c := by
  obtain ⟨a, b, h1, h2⟩ := h
  exact ⟨a, b, e _ _ h1, h2⟩
theorem BoxAt.at {H : Hp} {l : Addr} {c : Int} (h : BoxAt H l c) : ∃ xs, H l = some (.lst xs) := by
  obtain ⟨a, b, h1, _⟩ := h
  exact ⟨_, h1⟩
theorem BoxAt.upd {H : Hp} {l p : Addr} {c : Int} {o : HO} (h : BoxAt H l c) (n : l ≠ p) : BoxAt (upd H p o) l c := by
  obtain ⟨a, b, h1, h2⟩ := h
  exact ⟨a, b, by rw [upd_ne n]; exact h1, h2⟩
section
variable {P : Program} {w : World} {K : PySem.W.Frag} {mg : Str → Option Value} {base : Heap}
structure QInv (H : Hp) (l lf fo : Addr) (B : Int) (n i : Nat) (H3 : Hp) (c3 : Int) (lft row : List Int) : Prop where
  ex : ExB l H H3
  box : BoxAt H3 l c3
  hc : c3 ≤ B
  atL : H3 lf = some (.lst (lft.map V.int))
  atF : H3 fo = some (.lst (row.map V.int))
  nlf : lf ≠ l
  nfo : fo ≠ l
  nlo : lf ≠ fo
  fof : H fo = none
  rok : OgM.Row n row
  len : row.length = i
  nd : lft.Nodup
  mem : ∀ p, p ∈ lft ↔ (0 ≤ p ∧ p < n) ∧ p ∉ row
  cnt : lft.length + i = n
section
variable {H : Hp} {l lf fo : Addr} {B : Int} {n i : Nat} {H3 : Hp} {c3 : Int} {lft row : List Int}
theorem QInv.step {D : Addr} {z B' : Int} (h : QInv H l lf fo B n i H3 c3 lft row) (hb : c3 ≤ B') (hz : z ∈ lft) (hD : (upd H3 fo (.lst ((row ++ [z]).map V.int))) D = none) {H4 : Hp}
    (e : Ex (upd H3 fo (.lst ((row ++ [z]).map V.int))) H4) (at4 : H4 D = some (.lst ((lft.filter (· != z)).map V.int))) : QInv H l D fo B' n (i + 1) H4 c3 (lft.filter (· != z)) (row ++ [z]) := by
  have hz' := (h.mem z).mp hz
  obtain ⟨xs, hxl⟩ := h.box.at
  have b5 : BoxAt (upd H3 fo (.lst ((row ++ [z]).map V.int))) l c3 := h.box.upd (Ne.symm h.nfo)
  obtain ⟨xs5, hx5⟩ := b5.at
  refine ⟨(h.ex.mut h.fof).trans (.of e), b5.ex e, hb, at4, e _ _ upd_same, Ne.symm (ne_of_none hx5 hD), h.nfo, Ne.symm (ne_of_none upd_same hD), h.fof, ⟨?_, ?_, ?_⟩, ?_, h.nd.filter _, fun p => ?_, ?_⟩
  · rw [List.nodup_append]
    refine ⟨h.rok.nd, by simp, fun a ha b hb' e' => ?_⟩
    rw [List.mem_singleton.mp hb'] at e'
    subst e'
    exact hz'.2 ha
  · intro p hp
    rcases List.mem_append.mp hp with hp | hp
    · exact h.rok.lo p hp
    · rw [List.mem_singleton.mp hp]
      exact hz'.1.1
  · intro p hp
    rcases List.mem_append.mp hp with hp | hp
    · exact h.rok.hi p hp
    · rw [List.mem_singleton.mp hp]
      exact hz'.1.2
  · rw [List.length_append, h.len]
    rfl
  · rw [List.mem_filter, h.mem p]
    simp
    exact ⟨fun ⟨⟨a, b⟩, c⟩ => ⟨a, b, c⟩, fun ⟨a, b, c⟩ => ⟨⟨a, b⟩, c⟩⟩
  · have := filter_ne_len h.nd hz
    have := h.cnt
    omega
end
end
end Og
namespace Og
open PySem PySem.Spec PyProof.Rows L2 OgR Evl OgM
theorem ixT (K : PySem.W.Frag) {X : Cx} (h : X.K = K := by rfl) : IxR X (rIxT K) := by
  subst h
  exact ix_tup
def dk (v : V) (l : List Int) : List (Key × V) := l.map fun p => ((Sum.inl p : Key), v)
theorem dk_val (v : V) (k : Int) : ∀ l : List Int, valV (dk v l) (Sum.inl k) = if k ∈ l then some v else none
  | [] => by simp [dk, valV]
  | x :: r => by
    show valV ((Sum.inl x, v) :: dk v r) (Sum.inl k) = _
    by_cases e : x = k
    · rw [valV_pos (by rw [e])]
      simp [e]
    · rw [valV_neg (fun z => e (Sum.inl.inj z)), dk_val v k r]
      have : ¬ k = x := fun z => e z.symm
      simp [this]
theorem dk_some (v : V) (k : Int) (l : List Int) : (valV (dk v l) (Sum.inl k)).isSome = decide (k ∈ l) := by
  rw [dk_val]
  by_cases h : k ∈ l <;> simp [h]
theorem dk_put {v : V} {k : Int} {l : List Int} (h : k ∉ l) : putK (dk v l) (Sum.inl k) v = dk v (l ++ [k]) := by
  unfold putK
  have : ((dk v l).any fun kv => decide (kv.1 = Sum.inl k)) = false := by
    rw [valV_any, dk_some]
    simp [h]
  rw [this]
  simp [dk]
theorem dk_len (v : V) (l : List Int) : (dk v l).length = l.length := by simp [dk]
abbrev sNb : Stmt := topS 11
theorem scNb : FnScope ["row", "found", "built", "plot"] ["row"] (defScope sNb) := ⟨rfl, rfl, rfl, by decide +kernel, rfl, by decide +kernel, by decide +kernel⟩
abbrev sHouses : Stmt := topS 13
theorem scHouses : FnScope ["row", "beside"] ["row"] (defScope sHouses) := ⟨rfl, rfl, rfl, by decide +kernel, rfl, by decide +kernel, by decide +kernel⟩
def wordsV : List V := [.str (wstr .new), .str (wstr .beside), .str (wstr .between)]
section
variable {P : Program} {w : World} {K : PySem.W.Frag} {mg : Str → Option Value} {base : Heap}
def spNb (K : PySem.W.Frag) : Sp := fun vs H Q _ => ∃ (b : Bool) (a : Addr) (ns : List Int), vs = [.ref a] ∧ SqB K b H a (ns.map V.int) ∧ ns.Nodup ∧ ns.length ≤ 900 ∧
  ∀ H' p, Ex H H' → H p = none → H' p = some (.lst ((picks ns).map fun c => V.int (c.1.ix : Nat))) → Q (.ref p) H'
theorem b1_val (v : V) (k : Int) (l : List Int) : (valV (dk (.int 1) l) (Sum.inl k)).getD (.int 0) = .int (b1 (decide (k ∈ l)) : Nat) := by
  rw [dk_val]
  by_cases h : k ∈ l <;> simp [h, b1]
theorem ok_nb {f : Addr} {fd : FuncData} {k : Nat} (F : Fun K "neighbours" "neighbours" sNb f fd) : FnOk P w K mg base CX0 (k + 1) f fd ["row"] (spNb K) := by
  refine F.ok scNb (fun vs H Q E h => ?_) (fun cdv A outer s H vs Q E hr h => ?_)
  · obtain ⟨_, _, _, rfl, _⟩ := h
    rfl
  · obtain ⟨b, a, ns, rfl, hS, hnd, hlen, q⟩ := h
    have hu := hu_of hr
    refine ⟨_, pss_cons (ps_set (i := 1) scNb.nd rfl (.inl rfl) (pe_lst pa_nil)) (pss_cons (ps_set (i := 2) scNb.nd rfl (.inl rfl) pe_dnewK)
      (pss_cons (ps_for PassesOwn.never rfl (pi_seqB (pv 0)) (pg_name (i := 3) scNb.nd rfl (.inl rfl))
        (pss_cons (ps_expr (pe_bm PySem.F.plainAttrs_list PySem.F.slot_list_append PySem.F.type_list_append mt_append (pv 1) (pa_cons (pe_op op_add (pe_dget2 hu (pv 2) (pe_op op_sub (pv 3) pe_int) pe_int ⟨rfl, rfl, rfl, rfl⟩) (pe_dget2 hu (pv 2) (pe_op op_add (pv 3) pe_int) pe_int ⟨rfl, rfl, rfl, rfl⟩)) pa_nil)))
        (pss_one (ps_dput hu (pv 2) (pv 3) pe_int rfl))))
      (pss_one (ps_ret (pv 1))))), ?_⟩
    refine ⟨Nat.zero_le _, fun fo hfo d hd => ?_⟩
    have x1 : Ex H (upd H fo (.lst [])) := Ex.new hfo
    have x2 := x1.trans (Ex.new (o := .dK []) hd)
    have hd0 : H d = none := fresh_back x1 hd
    have nfd : fo ≠ d := ne_of_none upd_same hd
    refine ⟨_, rfl, b, a, _, rfl, hS.ex x2, for_it (walk_seqB (K := K) (b := b) (a := a) (xs := ns.map V.int)) (fun i σ H3 => ∃ y3, σ = [some (.ref a), some (.ref fo), some (.ref d), y3] ∧ Ex H H3 ∧ H3 fo = some (.lst (((picks ns).take i).map fun c => V.int (c.1.ix : Nat))) ∧ H3 d = some (.dK (dk (.int 1) (ns.take i)))) ?_ ?_ ?_ ?_⟩
    · refine ⟨none, rfl, x2, ?_, upd_same⟩
      rw [upd_ne nfd, upd_same]
      rfl
    · rintro i σ H3 _ ⟨_, _, e3, _⟩
      exact hS.ex e3
    · rintro i x σ H3 H3' hi ⟨y3, rfl, e3, hf3, hd3⟩ ⟨rfl, hx⟩
      rw [List.getElem?_map] at hx
      obtain ⟨p, hp, rfl⟩ := Option.map_eq_some_iff.mp hx
      have hfr := nodup_fresh hnd hp
      have hnb := nb_pick (hnd.sublist (List.take_sublist i ns)) hfr
      have hil := (List.getElem?_eq_some_iff.mp hp).1
      refine ⟨_, rfl, .inl ⟨rfl, _, .inl (.inl hf3)⟩, _, rfl, d, rfl, .inl ⟨_, .inl hd3⟩, _, rfl, _, _, rfl, rfl, _, DGet.k (k := Sum.inl (p - 1)) hd3, _, rfl, d, rfl, .inl ⟨_, .inl hd3⟩, _, rfl, _, _, rfl, rfl, _, DGet.k (k := Sum.inl (p + 1)) hd3, ?_⟩
      rw [b1_val (.int 1), b1_val (.int 1)]
      refine ⟨_, _, rfl, rfl, fo, _, _, rfl, rfl, hf3, ?_, ?_⟩
      · rw [List.length_map, List.length_take, picks_len]
        exact small1000 (by omega)
      · refine ⟨_, rfl, _, rfl, d, _, rfl, DPut.k (k := Sum.inl p) (kvs := dk (.int 1) (ns.take i)) ?_ ?_, _, rfl, Ex.mut (Ex.mut e3 hfo) hd0, ?_, ?_⟩
        · rw [upd_ne (Ne.symm nfd)]
          exact hd3
        · rw [dk_len, List.length_take]
          exact small1000 (by omega)
        · rw [upd_ne nfd, upd_same, take_next (picks_get hp), List.map_append]
          have e7 : (b1 (decide (p - 1 ∈ ns.take i)) : Int) + (b1 (decide (p + 1 ∈ ns.take i)) : Int) = ((pick p (segs (ns.take i))).1.ix : Int) := by
            rw [← hnb]
            omega
          show some (HO.lst (_ ++ [V.int ((b1 (decide (p - 1 ∈ ns.take i)) : Int) + (b1 (decide (p + 1 ∈ ns.take i)) : Int))])) = _
          rw [e7]
          rfl
        · rw [upd_same, dk_put hfr, take_next hp]
    · rintro σ H3 ⟨y3, rfl, e3, hf3, hd3⟩
      rw [List.take_of_length_le (by rw [picks_len, List.length_map]; exact Nat.le_refl _)] at hf3
      exact ⟨_, rfl, q H3 fo e3 hfo hf3⟩
def spHouses (K : PySem.W.Frag) : Sp := fun vs H Q _ => ∃ (b : Bool) (a : Addr) (ns : List Int), vs = [.ref a] ∧ SqB K b H a (ns.map V.int) ∧ ns.Nodup ∧ ns.length ≤ 900 ∧
  ∀ H' p, Ex H H' → H p = none → H' p = some (.tup ((picks ns).map fun c => V.str (wstr c.1))) → Q (.ref p) H'
theorem ok_houses {f fN aW : Addr} {fd fdN : FuncData} {k : Nat} (F : Fun K "houses" "houses" sHouses f fd) (FN : Fun K "neighbours" "neighbours" sNb fN fdN) (bN : Binds K fdN ["row"] []) (gN : mg "neighbours" = some (.ref fN))
    (gW : mg "WORDS" = some (.ref aW)) (sW : ∀ H, SqT K H aW wordsV) (mt : mg "tuple" = none) : FnOk P w K mg base CX0 (k + 2) f fd ["row"] (spHouses K) := by
  have GN : FnOk P w K mg base CX0 (k + 1) fN fdN ["row"] (spNb K) := ok_nb FN
  refine F.ok scHouses (fun vs H Q E h => ?_) (fun cdv A outer s H vs Q E hr h => ?_)
  · obtain ⟨_, _, _, rfl, _⟩ := h
    rfl
  · obtain ⟨b, a, ns, rfl, hS, hnd, hlen, q⟩ := h
    refine ⟨_, pss_one (ps_ret (pe_callTy call_tuple_of (by rfl) mt (by decide +kernel) (pa_cons
        (pe_lc (own := [("beside", 1)]) (g := gName 1) (by rfl) scHouses.nd (pi_list (pe_call GN hr (by rfl) gN FN.kp bN .nil pass0 (pa_cons (pv 0) pa_nil)))
          (blkOk_by (own := [("beside", 1)]) (N := ["row", "beside"]) (sc := defScope sHouses) (by decide +kernel))
          (fun _ _ _ _ _ => pg_name (i := 1) scHouses.nd rfl (Or.inl rfl) (hf := Or.inr rfl))
          (fun _ _ _ _ _ => pts_nil)
          (fun _ _ _ _ _ => pe_ix (ixT K) (pe_glob (v := .ref aW) rfl gW rfl) (pv 1) (fun _ _ => rfl))) pa_nil))), ?_⟩
    refine ⟨_, rfl, b, a, ns, rfl, hS, hnd, hlen, fun H1 fo e1 hfo hf1 => ⟨fo, rfl, ⟨_, .inl (.inl hf1)⟩, fun D hD => lc_list (xs := (picks ns).map fun c => V.int (c.1.ix : Nat)) (fun i H' => Ex H1 H' ∧ H' D = some (.lst (((picks ns).take i).map fun c => V.str (wstr c.1)))) ⟨Ex.new hD, upd_same⟩ (fun i H' _ c => .inl (.inl (c.1 _ _ hf1))) (fun i x H' hx c => ?_) (fun H2 c => ?_)⟩⟩
    · rw [List.getElem?_map] at hx
      obtain ⟨ch, hch, rfl⟩ := Option.map_eq_some_iff.mp hx
      have hil := (List.getElem?_eq_some_iff.mp hch).1
      rw [picks_len] at hil
      have hw : atI wordsV ((ch.1.ix : Nat) : Int) = some (.str (wstr ch.1)) := by
        refine atI_nat ?_
        cases ch.1 <;> rfl
      refine ⟨rfl, _, rfl, aW, wordsV, _, _, rfl, rfl, sW _, hw, _, c.2, ?_, Ex.mut c.1 hD, ?_⟩
      · rw [List.length_map, List.length_take, picks_len]
        exact small1000 (by omega)
      · rw [upd_same, take_next hch, List.map_append]
        rfl
    · rw [List.take_of_length_le (by rw [List.length_map]; exact Nat.le_refl _)] at c
      exact ⟨D, _, rfl, .inl ⟨.inl (.inl c.2), fun t ht => q _ t ((e1.trans c.1).trans (Ex.new ht)) (fresh_back (e1.trans c.1) ht) upd_same⟩⟩
end
end Og
namespace Og
open PySem PySem.Spec PyProof.Rows L2 OgR Evl OgM
def tv (n : Nat) : V := .int (n : Int)
def PTm (H0 H : Hp) (q : Addr) (ts : List Nat) : Prop := H0 q = none ∧ H q = some (.lst (ts.map tv))
structure TL (H0 H : Hp) (p : Addr) (qs : List Addr) (st : List (List Nat)) : Prop where
  new : H0 p = none
  ex : Ex H0 H
  atP : H p = some (.lst (qs.map V.ref))
  pr : Paired (PTm H0 H) qs st
  np : p ∉ qs
  nd : qs.Nodup
section
variable {H0 H : Hp} {p : Addr} {qs : List Addr} {st : List (List Nat)}
theorem TL.mem {q : Addr} (h : TL H0 H p qs st) (m : q ∈ qs) : ∃ ts, H q = some (.lst ts) ∧ H0 q = none := by
  obtain ⟨b, _, x⟩ := paired_mem h.pr q m
  exact ⟨_, x.2, x.1⟩
end
end Og
namespace OgM
def cA (ns : List Nt) (t : Nat) (c : Nat → Nat) (l j : Nat) : Nat := ((List.range l).map fun m => ((wordsAt ns t m).map fun w => if nextM m w = j then c m * waysN w m else 0).sum).sum
def St (ns : List Nt) : Nat → Nat → Nat
  | 0, m => if m = 0 then 1 else 0
  | t + 1, j => cA ns t (St ns t) (t + 1) j
end OgM
namespace OgM
end OgM
namespace OgM
/-- one order more -/
theorem FW_path {n : Int} {row : List Int} {ns : List Nt} (h : Row n row) (e : Nat) (hw : ∀ i w c, (picks row)[i]? = some (w, c) → w ∈ wordsAt ns i (segs (row.take i)).length) : ∀ (k i : Nat), i + k = row.length →
    prodW row row.length * cho (e + 1) (segs row).length ≤ prodW row i * FW List.sum ns e row.length k (segs (row.take i)).length
  | 0, i, hi => by
    have hi : i = row.length := hi
    rw [hi, List.take_length]
    exact Nat.le_refl _
  | k + 1, i, hi => by
    have hil : i < (picks row).length := by rw [picks_len]; omega
    have hc : (picks row)[i]? = some (picks row)[i] := List.getElem?_eq_getElem hil
    generalize (picks row)[i] = c at hc
    obtain ⟨w, c⟩ := c
    have ih := FW_path h e hw k (i + 1) (by omega)
    refine Nat.le_trans ih ?_
    show prodW row i * pw row i * _ ≤ prodW row i * (((wordsAt ns (row.length - (k + 1)) (segs (row.take i)).length).map fun w => waysN w (segs (row.take i)).length * FW List.sum ns e row.length k (nextM (segs (row.take i)).length w)).sum)
    rw [show row.length - (k + 1) = i by omega, (picks_next h hc).1, Nat.mul_assoc]
    have : pw row i = waysN w (segs (row.take i)).length := by unfold pw; rw [hc]; rfl
    rw [this]
    refine Nat.mul_le_mul_left _ ?_
    have hm := hw i w c hc
    generalize wordsAt ns i (segs (row.take i)).length = l at hm
    induction l with
    | nil => cases hm
    | cons a l ih2 =>
      rw [List.map_cons, List.sum_cons]
      rcases List.mem_cons.mp hm with rfl | hm
      · omega
      · have := ih2 hm
        omega
theorem agr_words {n : Int} {row : List Int} {ns : List Nt} (h : Row n row) (ha : Agr ns row) : ∀ i w c, (picks row)[i]? = some (w, c) → w ∈ wordsAt ns i (segs (row.take i)).length := fun i w c hc => by
  obtain ⟨h1, h2⟩ := picks_next h hc
  have hi : i < row.length := by
    have := (List.getElem?_eq_some_iff.mp hc).1
    rw [picks_len] at this
    exact this
  refine List.mem_filter.mpr ⟨by cases w <;> decide, ?_⟩
  unfold wOk
  rw [Bool.and_eq_true, Bool.and_eq_true]
  refine ⟨decide_eq_true (by omega), ?_, ?_⟩
  · cases e : hAt ns i with
    | none => simp
    | some v =>
      obtain ⟨c', hc'⟩ := ha.h i v hi e
      rw [hc] at hc'
      simp at hc'
      simp [hc'.1]
  · cases e : gAt ns i with
    | none => simp
    | some v =>
      have := ha.g i v hi e
      rw [this, h1]
      simp
theorem prodW_pos {n : Int} {row : List Int} (h : Row n row) : ∀ j, j ≤ row.length → 0 < prodW row j
  | 0, _ => Nat.one_pos
  | j + 1, hj => by
    have a1 := prodW_pos h j (by omega)
    refine Nat.mul_pos a1 ?_
    have hjl : j < (picks row).length := by rw [picks_len]; omega
    have hc : (picks row)[j]? = some (picks row)[j] := List.getElem?_eq_getElem hjl
    generalize (picks row)[j] = z at hc
    have h2 := (picks_next h (w := z.1) (c := z.2) hc).2
    unfold pw
    rw [hc]
    show 0 < waysN z.1 _
    omega
/-- so many orders at least go the walk of an order -/
theorem FW_ge {n : Int} {row : List Int} {ns : List Nt} {T : Nat} (h : Row n row) (hl : row.length = T) (e : Nat) (ha : Agr ns row) : prodW row T * cho (e + 1) (segs row).length ≤ FW List.sum ns e T T 0 := by
  have := FW_path h e (agr_words h ha) row.length 0 (by omega)
  rw [hl, List.take_zero] at this
  have e0 : prodW row 0 = 1 := rfl
  rw [e0, Nat.one_mul] at this
  exact this
theorem FW_some {n : Int} {row : List Int} {ns : List Nt} {e T : Nat} (h : Row n row) (hl : row.length = T) (ha : Agr ns row) (hf : (segs row).length ≤ e + 1) : 0 < FW List.sum ns e T T 0 := by
  have h1 := FW_ge h hl e ha
  have h2 := Nat.mul_pos (prodW_pos h T (by omega)) (cho_pos hf)
  omega
end OgM
namespace Dw
open PySem PySem.Spec PyProof.Rows L2 OgR Evl
section
variable {X : Cx} {pins : List (Addr × Obj)} {σ : L2.St} {H : Hp} {s : Shared}
/-- what the making leaves: all but the table -/
def ExP (P : Addr) (H H' : Hp) : Prop := ∀ b o, b ≠ P → H b = some o → H' b = some o
end
end Dw
namespace Dw
open PySem PySem.Spec PyProof.Rows L2 OgR Evl
/-- a context that may write the table -/
theorem Fin.tabAt {C : Ct} {G H : Hp} {c : Cs} (f : Fin C G H c) {P : Addr} (hP : C.bx.tab = some P) : TabL H P := (f.bx P (.oft hP)).1.tab hP
theorem Fin.tabG {C : Ct} {G H : Hp} {c : Cs} (f : Fin C G H c) {P : Addr} (hP : C.bx.tab = some P) : G P = none := (f.bx P (.oft hP)).2.1
/-- the table grows, new things are tracked -/
theorem Fin.tabStep {C : Ct} {G H H' : Hp} {c : Cs} (f : Fin C G H c) {P : Addr} (hP : C.bx.tab = some P) (e : ExP P H H') (hT : TabL H' P) : ∀ l, C.bx.has l → Bxs C.bx H' l c := fun l hl => by
  have hb := (f.bx l hl).1
  have hnP : ∀ b, (∃ o, H b = some o ∧ ∀ ps, o ≠ .tbl ps) → b ≠ P := fun b ⟨o, h1, h2⟩ z => by
    obtain ⟨ps, h3⟩ := (f.tabAt hP).ne
    rw [z, h3] at h1
    exact h2 ps (Option.some.inj h1).symm
  by_cases z : l = P
  · refine .ofTab (by rw [z]; exact hT) fun q => ?_
    obtain ⟨a, b, h1, _⟩ := hb.box q
    exact absurd z (hnP l ⟨_, h1, fun ps w => by cases w⟩)
  · obtain ⟨w, hw, nw⟩ := hb.nt hl
    refine ⟨fun q => (hb.box q).keep fun o ho => e l o z ho, fun q => ?_, ?_, fun o q => ?_⟩
    · rw [hP] at q
      exact absurd (Option.some.inj q).symm z
    · rw [e l _ z hw]
      exact Option.some_ne_none _
    · rw [e l _ z hw] at q
      cases q
      exact nw
theorem Rel.tab {C : Ct} {G H H' : Hp} {σ : L2.St} {s : Dt} (r : Rel C G σ H s) {P : Addr} (hP : C.bx.tab = some P) (e : ExP P H H') (hT : TabL H' P) : Rel C G σ H' s ∧ Gs C σ G H s G H' s := by
  have gr : Gr C H H' := fun b o n hb => e b o (fun z => n (by rw [z]; exact .oft hP)) hb
  refine ⟨r.step (Ex.refl G) gr (fun b o hb => e b o (fun z => by rw [z, r.fin.tabG hP] at hb; cases hb) (r.fin.gh b o hb)) (Nw.refl G H) (r.fin.obx (Ex.refl G) (.inr hP) e) (r.fin.tabStep hP e hT), gr, fun b hb => ?_, fun b o h1 _ _ _ _ => h1, fun i x e m => ⟨x, e, m⟩⟩
  by_cases z : b = P
  · obtain ⟨ps, h⟩ := hT.ne
    rw [z, h]
    exact Option.some_ne_none _
  · cases q : H b with
    | none => exact absurd q hb
    | some o => rw [e b o z q]; exact Option.some_ne_none _
end Dw
namespace Dw
open PySem PySem.Spec PyProof.Rows L2 OgR Evl
end Dw
namespace Dw
open PySem PySem.Spec PyProof.Rows L2 OgR
def tabH (Pt : Addr) (H : Hp) : Hp := fun b => if b = Pt then some (.tbl #[]) else H b
theorem tabH_at {Pt : Addr} {H : Hp} : tabH Pt H Pt = some (.tbl #[]) := if_pos rfl
theorem tabH_ne {Pt b : Addr} {H : Hp} (h : b ≠ Pt) : tabH Pt H b = H b := if_neg h
theorem law_runGT {P : Program} {w : World} {K : PySem.W.Frag} {mg mb : Str → Option Value} {k : Nat} {fa a ct Pt : Addr} {fd : FuncData} {x : Str} {sp : Sp} {s : Shared} {vs : List Value} {ns : List Int}
    (KX : K.In s.heap) (gl : s.heap.Ns mainGlobals mg) (bl : s.heap.Ns builtinsNs mb) (blt : ∀ x : Str, x ≠ "__name__" → mb x = bootBuiltins x) (lim : s.heap.NoLimit) (gn : s.gens = #[])
    (tP : s.heap.get? Pt = some { cls := .none, data := .fields #[] }) (nP : K.lookup Pt = none) (cP : PySem.W.codeHdIn K ct Pt = true)
    (mB : ∃ (m : Addr) (o : Obj), mg "__builtins__" = some (.ref m) ∧ m ≠ builtinsNs ∧ s.heap.get? m = some o ∧ o.cls = .type "module" ∧ o.dict = some builtinsNs ∧ o.data = .plain)
    (ha : s.heap.get? a = some { cls := .type "list", data := .seq vs.toArray }) (hi : IntsAre vs ns) (hl : ns.length ≤ sizeLine) (hr : Room k callerA)
    (F : ∀ base : Heap, K.In base → base.Ns mainGlobals mg → LamX.TabB base mg ct Pt → FnG P w K mg base k fa fd [x] sp) (bind : ∀ (s : Shared) (u : Value), BindsTo s fd ⟨[u], []⟩ [(x, u)])
    (hsp : ∀ H : Hp, H Pt = some (.tbl #[]) → SqL K H a (ns.map V.int) → sp [.ref a] H (fun v _ => v = .bl true) fun _ _ _ => False) :
    codeAny (model P w) callerA (.call (.ref fa) ⟨[.ref a], []⟩) (fun r s' => r = .ok (.ret (.bool true)) ∧ OldK s.heap s'.heap ∧ s'.os = s.os ∧ AllBare s'.gens) s := by
  have rv := vals_ints hi
  have hz : (ns.map V.int).length ≤ sizeLine := by rw [List.length_map]; exact hl
  have aP : a ≠ Pt := fun z => by
    rw [z, tP] at ha
    cases ha
  generalize hS0 : scriptH K a { cls := .type "list", data := .seq vs.toArray } ns = S0
  have tr : ∀ {b : Addr} {u : HO}, S0 b = some u → b = a ∧ K.lookup a = none ∧ u = .frz { cls := .type "list", data := .seq vs.toArray } (.lst (ns.map V.int)) := fun {b u} e => by
    rw [← hS0] at e
    exact scriptH_some e
  generalize hH : tabH Pt S0 = H
  have hHP : H Pt = some (.tbl #[]) := by rw [← hH]; exact tabH_at
  have hHn : ∀ b, b ≠ Pt → H b = S0 b := fun b n => by rw [← hH]; exact tabH_ne n
  have seq : SqL K H a (ns.map V.int) := by
    cases hk : K.lookup a with
    | none => exact .inl (.inr ⟨_, by rw [hHn a aP, ← hS0]; exact if_pos ⟨rfl, hk⟩⟩)
    | some o =>
      have e := KX a o hk
      rw [ha] at e
      cases e
      exact .inr ⟨_, vs.toArray, _, hk, rfl, rfl, rfl, by rw [List.size_toArray, hi.length]; exact hl, by simpa using rv⟩
  have hok : HOk P w H s.heap := fun b u e => by
    by_cases q : b = Pt
    · subst q
      rw [hHP] at e
      cases e
      exact tP
    · rw [hHn b q] at e
      obtain ⟨rfl, -, rfl⟩ := tr e
      exact ⟨ha, hz, vs, _, rv, ha⟩
  have seen : ∀ {b : Addr} {o : Obj}, s.heap.get? b = some o → b ≠ Pt → (b = a → K.lookup a = none → False) → (hidT s.heap H).get? b = some o := fun {b o} e n1 n2 => hidT_get e (by
    rw [hHn b n1]
    cases q : S0 b with
    | none => rfl
    | some u =>
      obtain ⟨z1, z2, -⟩ := tr q
      exact (n2 z1 z2).elim)
  have kept : ∀ {b : Addr} {m : Str → Option Value}, s.heap.Ns b m → (hidT s.heap H).Ns b m := fun {b m} ⟨o, es, ep, e, d, r⟩ => ⟨o, es, ep, seen e (fun z => by
    rw [z, tP] at e
    cases e
    cases d) (fun z _ => by
    rw [z, ha] at e
    cases e
    cases d), d, r⟩
  have KB : K.In (hidT s.heap H) := fun b o e => seen (KX b o e) (fun z => by rw [z, nP] at e; cases e) (fun z n => by rw [z, n] at e; cases e)
  have M : Mod K mg (hidT s.heap H) := ⟨KB, kept gl, ⟨mb, kept bl, blt⟩, let ⟨mc, h1, h2⟩ := lim; ⟨mc, kept h1, h2⟩⟩
  have gP : mainGlobals ≠ Pt := fun z => by
    obtain ⟨o, es, ep, e, d, _⟩ := gl
    rw [z, tP] at e
    cases e
    cases d
  have BM : (hidT s.heap H).BuiltinsAt mg Pt := by
    obtain ⟨m, o, m1, m2, m3, m4, m5, m6⟩ := mB
    refine ⟨m, o, m1, m2, fun z => ?_, fun z => ?_, seen m3 (fun z => ?_) (fun z _ => ?_), m4, m5, m6⟩
    · obtain ⟨o', es, ep, e, d, _⟩ := gl
      rw [z, e] at m3
      cases m3
      rw [d] at m6
      cases m6
    · rw [z, tP] at m3
      cases m3
      cases m6
    · rw [z, tP] at m3
      cases m3
      cases m6
    · rw [z, ha] at m3
      cases m3
      cases m6
  have nofr : ∀ b : Addr, b ∉ frs [] := fun b hb => absurd (show b ∈ ([] : List Addr) from hb) (by simp)
  have e0 : Env0 P w K mg (hidT s.heap H) callerA [] s H := ⟨rfl, M, fun b o e => of_hidT e, Nat.le_of_eq (hidT_size _ _), trivial, fun b hb => absurd hb (nofr b), hok, .of_eq gn⟩
  refine codeAny_mono ((F _ KB (kept gl) (NdefX.tabB_of_K KB cP BM gP)).2 callerA [] s H ⟨[.ref a], []⟩ [.ref a] [.ref a] _ _ rfl hr e0 (bind s (.ref a)) (.cons rfl .nil) (hsp H hHP seq)) ?_
  rintro (e | _ | _ | _ | u) s' h
  all_goals first
    | exact False.elim h
    | skip
  obtain ⟨v, H', os, bare, un, hok', r', q⟩ := h
  have q' : v = .bl true := q
  subst q'
  obtain rfl : u = Value.bool true := r'
  obtain ⟨more, hmore⟩ := un.tbls Pt #[] hHP
  have tP' := hok' Pt _ hmore
  have stay : ∀ b o, b ≠ Pt → s.heap.get? b = some o → s'.heap.get? b = some o := fun b o n e => by
    cases q2 : H b with
    | none => exact un.keep b o e q2 (nofr b) (by simp)
    | some u =>
      have q3 := q2
      rw [hHn b n] at q3
      obtain ⟨rfl, -, rfl⟩ := tr q3
      rw [ha] at e
      cases e
      exact (hok' _ _ (un.frzs _ _ _ q2)).1
  refine ⟨rfl, ⟨fun b o e => ?_, fun b o e => ?_⟩, os, bare⟩
  · by_cases n : b = Pt
    · subst n
      rw [tP] at e
      cases e
      have tQ : s'.heap.get? b = some { cls := .none, data := .fields (#[] ++ more) } := tP'
      exact .inr (.inl ⟨((PySem.W.codeHd_of_K KX cP).tab tP).isCodeTable, rfl, #[], more, rfl, tQ⟩)
    · exact .inl (stay b o n e)
  · by_cases n : b = Pt
    · subst n
      exact ⟨_, tP'⟩
    · exact ⟨o, stay b o n e⟩
theorem TabL.upd {H : Hp} {P D : Addr} {o : HO} (h : TabL H P) (hD : H D = none ∨ ∃ xs, H D = some (.lst xs)) : TabL (L2.upd H D o) P := by
  have ne : ∀ b u, H b = some u → (∀ xs, u ≠ .lst xs) → b ≠ D := fun b u e n z => by
    rw [z] at e
    rcases hD with hD | ⟨xs, hD⟩
    · rw [hD] at e; cases e
    · rw [hD] at e; cases e; exact n xs rfl
  obtain ⟨ps, h1, h2, h3⟩ := h
  refine ⟨ps, by rw [upd_ne (ne _ _ h1 fun xs z => by cases z)]; exact h1, h2, fun pos cv hc => ?_⟩
  obtain ⟨c, e1, e2⟩ := h3 pos cv hc
  exact ⟨c, e1, by rw [upd_ne (ne _ _ e2 fun xs z => by unfold LamX.CodeO at z; cases z)]; exact e2⟩
def spLawT (K : PySem.W.Frag) (P : Addr) : Sp := fun vs H Q _ => ∃ (s : Addr) (ns : List Int), vs = [.ref s] ∧ H P = some (.tbl #[]) ∧ SqL K H s (ns.map V.int) ∧ ns.length ≤ 63 ∧ ∀ H', Q (.bl true) H'
theorem ExP.trans {P : Addr} {H H1 H2 : Hp} (a : ExP P H H1) (b : ExP P H1 H2) : ExP P H H2 := fun x o n h => b x o n (a x o n h)
theorem walk_GT {l : PySem.W.OpenLaw} {n k : Nat} {q : Program} {loose : List Str} {XP : (Str → Option Value) → Heap → Prop} {YP : World → Heap → Prop} {d : DefRec} {K : Params → PySem.W.Frag} {x : Str} {ct Pt : Addr}
    (hn : l.most = some n) (hn2 : n ≤ sizeLine) (hdf : d.params.defaults = []) (hr : Room k callerA) (hY : ∀ (w : World) (h : Heap), YP w h → (K w.params).In h)
    (F : ∀ (w : World) (mg : Str → Option Value) (fa : Addr) (h : Heap), YP w h → (K w.params).In h → h.Ns mainGlobals mg → mg d.name = some (.ref fa) →
      h.get? Pt = some { cls := .none, data := .fields #[] } ∧ (K w.params).lookup Pt = none ∧ PySem.W.codeHdIn (K w.params) ct Pt = true ∧
      ∃ fd : FuncData, (∀ (s : Shared) (u : Value), BindsTo s fd ⟨[u], []⟩ [(x, u)]) ∧ ∀ base : Heap, (K w.params).In base → base.Ns mainGlobals mg → LamX.TabB base mg ct Pt → FnG l.prog w (K w.params) mg base k fa fd [x] (spLawT (K w.params) Pt)) (h63 : n ≤ 63) :
    PySem.W.WalkO q loose XP YP l.row.toRowW d [] (fun f vs => PySem.call f vs) := by
  refine Att.attach_call hn hdf fun w s₀ s₁ mg mb fa o pm cd doc a vs ns G Y ho hd hcd hmg hobj hints hlen hg => ?_
  obtain ⟨h1, h2, h3, fd, hb, hF⟩ := F w mg fa _ Y (hY w _ Y) G.T.g hmg
  exact law_runGT (hY w _ Y) G.T.g G.T.b G.T.builtins G.T.nolimit hg h1 h2 h3 G.T.bmain hobj hints (Nat.le_trans hlen hn2) hr hF hb fun H hP hS => ⟨a, ns, rfl, hP, hS, Nat.le_trans hlen h63, fun _ => rfl⟩
end Dw
namespace Og23
open PySem PySem.Spec PyProof.Rows L2 OgR Evl Dw
def topS (i : Nat) : Stmt := PySem.Challenge.pw_onlygroups_k23_errors_in_their_order.main.body.getD i (.Pass ⟨0, 0, 0, 0⟩)
abbrev s_tuple_for_list : Stmt := topS 1
theorem sc_tuple_for_list : FnScope ["value"] ["value"] (defScope s_tuple_for_list) := ⟨rfl, rfl, rfl, by decide +kernel, rfl, by decide +kernel, by decide +kernel⟩
abbrev s_neighbours : Stmt := topS 11
abbrev s_groups : Stmt := topS 12
theorem sc_groups : FnScope ["row", "after", "many", "beside"] ["row"] (defScope s_groups) := ⟨rfl, rfl, rfl, by decide +kernel, rfl, by decide +kernel, by decide +kernel⟩
abbrev s_houses : Stmt := topS 13
abbrev s_many_choices : Stmt := topS 16
theorem sc_many_choices : FnScope ["word", "many"] ["word", "many"] (defScope s_many_choices) := ⟨rfl, rfl, rfl, by decide +kernel, rfl, by decide +kernel, by decide +kernel⟩
abbrev s_groups_left_of : Stmt := topS 17
abbrev s_number_of_choice : Stmt := topS 18
abbrev s_choices_of : Stmt := topS 19
abbrev s_gaps_of : Stmt := topS 20
abbrev s_times_in_groups : Stmt := topS 21
abbrev s_row_of : Stmt := topS 22
abbrev s_true_value : Stmt := topS 24
theorem sc_true_value : FnScope ["row", "time", "sort"] ["row", "time", "sort"] (defScope s_true_value) := ⟨rfl, rfl, rfl, by decide +kernel, rfl, by decide +kernel, by decide +kernel⟩
abbrev s_untrue_times : Stmt := topS 25
theorem sc_untrue_times : FnScope ["notes", "row", "time", "sort", "value"] ["notes", "row"] (defScope s_untrue_times) := ⟨rfl, rfl, rfl, by decide +kernel, rfl, by decide +kernel, by decide +kernel⟩
abbrev s_ways_to_choose : Stmt := topS 29
theorem sc_ways_to_choose : FnScope ["many", "things", "ways", "chosen"] ["many", "things"] (defScope s_ways_to_choose) := ⟨rfl, rfl, rfl, by decide +kernel, rfl, by decide +kernel, by decide +kernel⟩
abbrev s_noted_values : Stmt := topS 30
theorem sc_noted_values : FnScope ["notes", "time", "sort", "value"] ["notes"] (defScope s_noted_values) := ⟨rfl, rfl, rfl, by decide +kernel, rfl, by decide +kernel, by decide +kernel⟩
abbrev s_is_word_then : Stmt := topS 31
theorem sc_is_word_then : FnScope ["noted", "time", "many", "word", "after"] ["noted", "time", "many", "word"] (defScope s_is_word_then) := ⟨rfl, rfl, rfl, by decide +kernel, rfl, by decide +kernel, by decide +kernel⟩
abbrev s_words_then : Stmt := topS 32
theorem sc_words_then : FnScope ["noted", "time", "many", "word"] ["noted", "time", "many"] (defScope s_words_then) := ⟨rfl, rfl, rfl, by decide +kernel, rfl, by decide +kernel, by decide +kernel⟩
abbrev s_blocks_then : Stmt := topS 33
theorem sc_blocks_then : FnScope ["noted", "ways", "time", "many", "words", "word"] ["noted", "ways", "time", "many"] (defScope s_blocks_then) := ⟨rfl, rfl, rfl, by decide +kernel, rfl, by decide +kernel, by decide +kernel⟩
abbrev s_folded_ways : Stmt := topS 34
theorem sc_folded_ways : FnScope ["journal", "fold", "plots", "times", "notes", "noted", "ways", "found", "time", "rows", "many", "blocks", "word", "choices", "block"] ["journal", "fold"] (defScope s_folded_ways) := ⟨rfl, rfl, rfl, by decide +kernel, rfl, by decide +kernel, by decide +kernel⟩
abbrev s_in_all : Stmt := topS 35
theorem sc_in_all : FnScope ["parts"] ["parts"] (defScope s_in_all) := ⟨rfl, rfl, rfl, by decide +kernel, rfl, by decide +kernel, by decide +kernel⟩
abbrev s_all_ways : Stmt := topS 36
theorem sc_all_ways : FnScope ["journal"] ["journal"] (defScope s_all_ways) := ⟨rfl, rfl, rfl, by decide +kernel, rfl, by decide +kernel, by decide +kernel⟩
abbrev s_counts_after : Stmt := topS 37
abbrev s_all_starts : Stmt := topS 38
abbrev s_count_orders : Stmt := topS 39
theorem sc_count_orders : FnScope ["journal"] ["journal"] (defScope s_count_orders) := ⟨rfl, rfl, rfl, by decide +kernel, rfl, by decide +kernel, by decide +kernel⟩
abbrev s_smaller_gaps : Stmt := topS 40
abbrev s_gap_at : Stmt := topS 41
abbrev s_gaps_at : Stmt := topS 42
abbrev s_number_of_gaps : Stmt := topS 43
abbrev s_choice_at : Stmt := topS 44
abbrev s_ways_before : Stmt := topS 45
abbrev s_numbered_order : Stmt := topS 46
abbrev s_order_at : Stmt := topS 47
theorem sc_order_at : FnScope ["journal", "number", "ways"] ["journal", "number"] (defScope s_order_at) := ⟨rfl, rfl, rfl, by decide +kernel, rfl, by decide +kernel, by decide +kernel⟩
abbrev s_number_of : Stmt := topS 48
theorem sc_number_of : FnScope ["journal", "order", "plots", "times", "notes", "untrue", "noted", "ways", "number", "many", "time", "choice"] ["journal", "order"] (defScope s_number_of) := ⟨rfl, rfl, rfl, by decide +kernel, rfl, by decide +kernel, by decide +kernel⟩
abbrev s_all_orders : Stmt := topS 49
theorem sc_all_orders : FnScope ["journal", "ways", "many", "number"] ["journal"] (defScope s_all_orders) := ⟨rfl, rfl, rfl, by decide +kernel, rfl, by decide +kernel, by decide +kernel⟩
abbrev s_after_free_houses : Stmt := topS 52
theorem sc_after_free_houses : FnScope ["low", "high", "many"] ["low", "high", "many"] (defScope s_after_free_houses) := ⟨rfl, rfl, rfl, by decide +kernel, rfl, by decide +kernel, by decide +kernel⟩
abbrev s_after_noted_house : Stmt := topS 53
theorem sc_after_noted_house : FnScope ["low", "high", "word"] ["low", "high", "word"] (defScope s_after_noted_house) := ⟨rfl, rfl, rfl, by decide +kernel, rfl, by decide +kernel, by decide +kernel⟩
abbrev s_within_note : Stmt := topS 54
theorem sc_within_note : FnScope ["low", "high", "value"] ["low", "high", "value"] (defScope s_within_note) := ⟨rfl, rfl, rfl, by decide +kernel, rfl, by decide +kernel, by decide +kernel⟩
abbrev s_evidence : Stmt := topS 55
theorem sc_evidence : FnScope ["journal", "plots", "times", "notes", "noted", "low", "high", "built", "time", "note"] ["journal"] (defScope s_evidence) := ⟨rfl, rfl, rfl, by decide +kernel, rfl, by decide +kernel, by decide +kernel⟩
abbrev s_check_possible : Stmt := topS 56
theorem sc_check_possible : FnScope ["journal", "why"] ["journal"] (defScope s_check_possible) := ⟨rfl, rfl, rfl, by decide +kernel, rfl, by decide +kernel, by decide +kernel⟩
abbrev s_orders_by_groups : Stmt := topS 58
abbrev s_possible_groups : Stmt := topS 59
theorem sc_possible_groups : FnScope ["journal", "row", "many", "orders"] ["journal"] (defScope s_possible_groups) := ⟨rfl, rfl, rfl, by decide +kernel, rfl, by decide +kernel, by decide +kernel⟩
abbrev s_one_way : Stmt := topS 60
abbrev s_count_walks : Stmt := topS 61
theorem sc_count_walks : FnScope ["journal", "plots", "times", "notes", "noted", "counts", "time"] ["journal"] (defScope s_count_walks) := ⟨rfl, rfl, rfl, by decide +kernel, rfl, by decide +kernel, by decide +kernel⟩
abbrev s_ways_of_step : Stmt := topS 62
abbrev s_orders_with : Stmt := topS 63
theorem sc_orders_with : FnScope ["journal", "walk", "plots", "times", "notes", "noted", "orders", "many", "time", "after"] ["journal", "walk"] (defScope s_orders_with) := ⟨rfl, rfl, rfl, by decide +kernel, rfl, by decide +kernel, by decide +kernel⟩
abbrev s_greatest : Stmt := topS 64
abbrev s_likeliest : Stmt := topS 65
theorem sc_likeliest : FnScope ["journal", "noted", "most", "walk", "many", "time", "blocks", "word", "choices", "block"] ["journal"] (defScope s_likeliest) := ⟨rfl, rfl, rfl, by decide +kernel, rfl, by decide +kernel, by decide +kernel⟩
abbrev s_fraction : Stmt := topS 68
abbrev s_check_time : Stmt := topS 69
theorem sc_check_time : FnScope ["journal", "time"] ["journal", "time"] (defScope s_check_time) := ⟨rfl, rfl, rfl, by decide +kernel, rfl, by decide +kernel, by decide +kernel⟩
abbrev s_group_chances : Stmt := topS 70
theorem sc_group_chances : FnScope ["journal", "time", "found", "many", "orders"] ["journal", "time"] (defScope s_group_chances) := ⟨rfl, rfl, rfl, by decide +kernel, rfl, by decide +kernel, by decide +kernel⟩
abbrev s_mean_groups : Stmt := topS 71
theorem sc_mean_groups : FnScope ["journal", "time", "found", "many", "orders"] ["journal", "time"] (defScope s_mean_groups) := ⟨rfl, rfl, rfl, by decide +kernel, rfl, by decide +kernel, by decide +kernel⟩
abbrev s_house_chances : Stmt := topS 72
theorem sc_house_chances : FnScope ["journal", "time", "noted", "ways", "word", "orders", "many", "start", "choices", "block"] ["journal", "time"] (defScope s_house_chances) := ⟨rfl, rfl, rfl, by decide +kernel, rfl, by decide +kernel, by decide +kernel⟩
abbrev s_add_ways : Stmt := topS 73
abbrev s_ways_on_side : Stmt := topS 74
abbrev s_places_after : Stmt := topS 75
abbrev s_places_built_on : Stmt := topS 76
abbrev s_places_of_house : Stmt := topS 77
abbrev s_plot_chances : Stmt := topS 78
theorem sc_plot_chances : FnScope ["journal", "time", "plots", "empty", "orders", "left", "right", "houses", "ways", "before", "gaps", "part"] ["journal", "time"] (defScope s_plot_chances) := ⟨rfl, rfl, rfl, by decide +kernel, rfl, by decide +kernel, by decide +kernel⟩
abbrev s_marking_ways : Stmt := topS 79
abbrev s_ways_beside_marks : Stmt := topS 80
abbrev s_apart_orders : Stmt := topS 81
abbrev s_together_chance : Stmt := topS 82
theorem sc_together_chance : FnScope ["journal", "one", "other", "orders"] ["journal", "one", "other"] (defScope s_together_chance) := ⟨rfl, rfl, rfl, by decide +kernel, rfl, by decide +kernel, by decide +kernel⟩
abbrev s_l_cell_at : Stmt := topS 84
theorem sc_l_cell_at : FnScope ["_law_script", "_law_k"] ["_law_script", "_law_k"] (defScope s_l_cell_at) := ⟨rfl, rfl, rfl, by decide +kernel, rfl, by decide +kernel, by decide +kernel⟩
abbrev s_l_box : Stmt := topS 85
theorem sc_l_box : FnScope ["_law_script", "_law_k", "_law_core"] ["_law_script", "_law_k"] (defScope s_l_box) := ⟨rfl, rfl, rfl, by decide +kernel, rfl, by decide +kernel, by decide +kernel⟩
abbrev s_l_take : Stmt := topS 86
theorem sc_l_take : FnScope ["_law_box_here", "_law_below", "_law_found", "_law_once", "_law_twice"] ["_law_box_here", "_law_below"] (defScope s_l_take) := ⟨rfl, rfl, rfl, by decide +kernel, rfl, by decide +kernel, by decide +kernel⟩
abbrev s_l_of : Stmt := topS 87
theorem sc_l_of : FnScope ["_law_box_here", "_law_some"] ["_law_box_here", "_law_some"] (defScope s_l_of) := ⟨rfl, rfl, rfl, by decide +kernel, rfl, by decide +kernel, by decide +kernel⟩
abbrev s_l_same : Stmt := topS 88
theorem sc_l_same : FnScope ["_law_found", "_law_due", "_law_a", "_law_b"] ["_law_found", "_law_due"] (defScope s_l_same) := ⟨rfl, rfl, rfl, by decide +kernel, rfl, by decide +kernel, by decide +kernel⟩
abbrev s_l_runs : Stmt := topS 89
theorem sc_l_runs : FnScope ["_law_there", "_law_found", "_law_plot", "_law_some"] ["_law_there"] (defScope s_l_runs) := ⟨rfl, rfl, rfl, by decide +kernel, rfl, by decide +kernel, by decide +kernel⟩
abbrev s_l_seen : Stmt := topS 90
theorem sc_l_seen : FnScope ["_law_queue_here", "_law_counts", "_law_words", "_law_before", "_law_spot"] ["_law_queue_here"] (defScope s_l_seen) := ⟨rfl, rfl, rfl, by decide +kernel, rfl, by decide +kernel, by decide +kernel⟩
abbrev s_l_queue : Stmt := topS 91
theorem sc_l_queue : FnScope ["_law_box_here", "_law_count", "_law_size", "_law_left", "_law_found", "_law_near", "_law_spot", "_law_some", "_law_plot"] ["_law_box_here", "_law_count", "_law_size"] (defScope s_l_queue) := ⟨rfl, rfl, rfl, by decide +kernel, rfl, by decide +kernel, by decide +kernel⟩
abbrev s_l_notes : Stmt := topS 92
theorem sc_l_notes : FnScope ["_law_box_here", "_law_queue_here", "_law_found", "_law_dense", "_law_counts", "_law_words", "_law_spot"] ["_law_box_here", "_law_queue_here"] (defScope s_l_notes) := ⟨rfl, rfl, rfl, by decide +kernel, rfl, by decide +kernel, by decide +kernel⟩
abbrev s_l_lists : Stmt := topS 93
theorem sc_l_lists : FnScope ["_law_part", "_law_piece"] ["_law_part"] (defScope s_l_lists) := ⟨rfl, rfl, rfl, by decide +kernel, rfl, by decide +kernel, by decide +kernel⟩
abbrev s_l_false : Stmt := topS 94
theorem sc_l_false : FnScope ["_law_book", "_law_queue_here", "_law_counts", "_law_words", "_law_found", "_law_spot", "_law_kind", "_law_value"] ["_law_book", "_law_queue_here"] (defScope s_l_false) := ⟨rfl, rfl, rfl, by decide +kernel, rfl, by decide +kernel, by decide +kernel⟩
abbrev s_l_told : Stmt := topS 95
theorem sc_l_told : FnScope ["_law_kind", "_law_book", "_law_first", "_law_last", "_law_caught", "_law_found", "_law_doors", "error", "_law_flags", "_law_at"] ["_law_kind", "_law_book", "_law_first", "_law_last"] (defScope s_l_told) := ⟨rfl, rfl, rfl, by decide +kernel, rfl, by decide +kernel, by decide +kernel⟩
abbrev s_l_hard_right : Stmt := topS 96
theorem sc_l_hard_right : FnScope ["_law_box_here", "_law_book", "_law_proof", "_law_queue_here", "_law_odd", "_law_some", "_law_told_here", "_law_kind"] ["_law_box_here", "_law_book"] (defScope s_l_hard_right) := ⟨rfl, rfl, rfl, by decide +kernel, rfl, by decide +kernel, by decide +kernel⟩
abbrev s_l_right : Stmt := topS 97
theorem sc_l_right : FnScope ["_law_box_here", "_law_count", "_law_queue_here", "_law_size", "_law_book", "_law_odd", "_law_told_here", "_law_full", "_law_turn", "_law_there", "_law_wrong", "_law_soft", "_law_hard", "_law_kind"] ["_law_box_here"] (defScope s_l_right) := ⟨rfl, rfl, rfl, by decide +kernel, rfl, by decide +kernel, by decide +kernel⟩
abbrev s_law : Stmt := topS 98
theorem sc_law : FnScope ["_law_script", "_law_k"] ["_law_script"] (defScope s_law) := ⟨rfl, rfl, rfl, by decide +kernel, rfl, by decide +kernel, by decide +kernel⟩
structure Top (wd : World) (K : PySem.W.Frag) (mg : Str → Option Value) : Prop where
  d_tuple_for_list : Fct K mg "tuple_for_list" s_tuple_for_list ["value"]
  d_neighbours : Fct K mg "neighbours" s_neighbours ["row"]
  d_groups : Fct K mg "groups" s_groups ["row"]
  d_houses : Fct K mg "houses" s_houses ["row"]
  d_many_choices : Fct K mg "many_choices" s_many_choices ["word", "many"]
  d_groups_left_of : Fct K mg "groups_left_of" s_groups_left_of ["built", "plot"]
  d_number_of_choice : Fct K mg "number_of_choice" s_number_of_choice ["built", "plot", "word"]
  d_choices_of : Fct K mg "choices_of" s_choices_of ["row"]
  d_gaps_of : Fct K mg "gaps_of" s_gaps_of ["plots", "row"]
  d_times_in_groups : Fct K mg "times_in_groups" s_times_in_groups ["choices"]
  d_row_of : Fct K mg "row_of" s_row_of ["choices", "gaps"]
  d_true_value : Fct K mg "true_value" s_true_value ["row", "time", "sort"]
  d_untrue_times : Fct K mg "untrue_times" s_untrue_times ["notes", "row"]
  d_ways_to_choose : Fct K mg "ways_to_choose" s_ways_to_choose ["many", "things"]
  d_noted_values : Fct K mg "noted_values" s_noted_values ["notes"]
  d_is_word_then : Fct K mg "is_word_then" s_is_word_then ["noted", "time", "many", "word"]
  d_words_then : Fct K mg "words_then" s_words_then ["noted", "time", "many"]
  d_blocks_then : Fct K mg "blocks_then" s_blocks_then ["noted", "ways", "time", "many"]
  d_folded_ways : Fct K mg "folded_ways" s_folded_ways ["journal", "fold"]
  d_in_all : Fct K mg "in_all" s_in_all ["parts"]
  d_all_ways : Fct K mg "all_ways" s_all_ways ["journal"]
  d_counts_after : Fct K mg "counts_after" s_counts_after ["noted", "counts", "time", "ways_with"]
  d_all_starts : Fct K mg "all_starts" s_all_starts ["journal"]
  d_count_orders : Fct K mg "count_orders" s_count_orders ["journal"]
  d_smaller_gaps : Fct K mg "smaller_gaps" s_smaller_gaps ["least", "empty", "many", "gap"]
  d_gap_at : Fct K mg "gap_at" s_gap_at ["least", "empty", "many", "number"]
  d_gaps_at : Fct K mg "gaps_at" s_gaps_at ["empty", "many", "number"]
  d_number_of_gaps : Fct K mg "number_of_gaps" s_number_of_gaps ["gaps"]
  d_choice_at : Fct K mg "choice_at" s_choice_at ["blocks", "number"]
  d_ways_before : Fct K mg "ways_before" s_ways_before ["blocks", "choice"]
  d_numbered_order : Fct K mg "numbered_order" s_numbered_order ["journal", "ways", "number"]
  d_order_at : Fct K mg "order_at" s_order_at ["journal", "number"]
  d_number_of : Fct K mg "number_of" s_number_of ["journal", "order"]
  d_all_orders : Fct K mg "all_orders" s_all_orders ["journal"]
  d_after_free_houses : Fct K mg "after_free_houses" s_after_free_houses ["low", "high", "many"]
  d_after_noted_house : Fct K mg "after_noted_house" s_after_noted_house ["low", "high", "word"]
  d_within_note : Fct K mg "within_note" s_within_note ["low", "high", "value"]
  d_evidence : Fct K mg "evidence" s_evidence ["journal"]
  d_check_possible : Fct K mg "check_possible" s_check_possible ["journal"]
  d_orders_by_groups : Fct K mg "orders_by_groups" s_orders_by_groups ["journal"]
  d_possible_groups : Fct K mg "possible_groups" s_possible_groups ["journal"]
  d_one_way : Fct K mg "one_way" s_one_way ["word", "many"]
  d_count_walks : Fct K mg "count_walks" s_count_walks ["journal"]
  d_ways_of_step : Fct K mg "ways_of_step" s_ways_of_step ["noted", "time", "many", "after"]
  d_orders_with : Fct K mg "orders_with" s_orders_with ["journal", "walk"]
  d_greatest : Fct K mg "greatest" s_greatest ["parts"]
  d_likeliest : Fct K mg "likeliest" s_likeliest ["journal"]
  d_fraction : Fct K mg "fraction" s_fraction ["part", "whole"]
  d_check_time : Fct K mg "check_time" s_check_time ["journal", "time"]
  d_group_chances : Fct K mg "group_chances" s_group_chances ["journal", "time"]
  d_mean_groups : Fct K mg "mean_groups" s_mean_groups ["journal", "time"]
  d_house_chances : Fct K mg "house_chances" s_house_chances ["journal", "time"]
  d_add_ways : Fct K mg "add_ways" s_add_ways ["found", "place", "ways"]
  d_ways_on_side : Fct K mg "ways_on_side" s_ways_on_side ["word", "many", "own"]
  d_places_after : Fct K mg "places_after" s_places_after ["noted", "places", "time", "own"]
  d_places_built_on : Fct K mg "places_built_on" s_places_built_on ["noted", "places", "time"]
  d_places_of_house : Fct K mg "places_of_house" s_places_of_house ["journal", "time"]
  d_plot_chances : Fct K mg "plot_chances" s_plot_chances ["journal", "time"]
  d_marking_ways : Fct K mg "marking_ways" s_marking_ways ["word", "many"]
  d_ways_beside_marks : Fct K mg "ways_beside_marks" s_ways_beside_marks ["word", "many", "marks"]
  d_apart_orders : Fct K mg "apart_orders" s_apart_orders ["journal", "one", "other"]
  d_together_chance : Fct K mg "together_chance" s_together_chance ["journal", "one", "other"]
  d_l_cell_at : Fct K mg "_law_cell_at" s_l_cell_at ["_law_script", "_law_k"]
  d_l_box : Fct K mg "_law_box" s_l_box ["_law_script", "_law_k"]
  d_l_take : Fct K mg "_law_take" s_l_take ["_law_box_here", "_law_below"]
  d_l_of : Fct K mg "_law_of" s_l_of ["_law_box_here", "_law_some"]
  d_l_same : Fct K mg "_law_same" s_l_same ["_law_found", "_law_due"]
  d_l_runs : Fct K mg "_law_runs" s_l_runs ["_law_there"]
  d_l_seen : Fct K mg "_law_seen" s_l_seen ["_law_queue_here"]
  d_l_queue : Fct K mg "_law_queue" s_l_queue ["_law_box_here", "_law_count", "_law_size"]
  d_l_notes : Fct K mg "_law_notes" s_l_notes ["_law_box_here", "_law_queue_here"]
  d_l_lists : Fct K mg "_law_lists" s_l_lists ["_law_part"]
  d_l_false : Fct K mg "_law_false" s_l_false ["_law_book", "_law_queue_here"]
  d_l_told : Fct K mg "_law_told" s_l_told ["_law_kind", "_law_book", "_law_first", "_law_last"]
  d_l_hard_right : Fct K mg "_law_hard_right" s_l_hard_right ["_law_box_here", "_law_book"]
  d_l_right : Fct K mg "_law_right" s_l_right ["_law_box_here"]
  c_WORDS : GC K mg "WORDS" (.tuple [.str "new", .str "beside", .str "between"])
  c_STEPS : GD wd K mg "STEPS" [("new", .int (1)), ("beside", .int (0)), ("between", .int (-1))]
  c_MOST : ∃ tk, mg "MOST" = some (.int 300 tk)
  c_ASCENDING_WORDS : GC K mg "ASCENDING_WORDS" (.tuple [.str "beside", .str "between", .str "new"])
  c_LEAST_FOUND : GD wd K mg "LEAST_FOUND" [("new", .int (0)), ("beside", .int (1)), ("between", .int (2))]
  c_TOUCHED : GD wd K mg "TOUCHED" [("new", .tuple [.tuple [.int (0), .int (0)]]), ("beside", .tuple [.tuple [.int (1), .int (0)], .tuple [.int (0), .int (1)]]), ("between", .tuple [.tuple [.int (1), .int (1)]])]
  b_abs : mg "abs" = none
  b_all : mg "all" = none
  b_bool : mg "bool" = none
  b_enumerate : mg "enumerate" = none
  b_int : mg "int" = none
  b_isinstance : mg "isinstance" = none
  b_len : mg "len" = none
  b_list : mg "list" = none
  b_max : mg "max" = none
  b_min : mg "min" = none
  b_range : mg "range" = none
  b_reversed : mg "reversed" = none
  b_set : mg "set" = none
  b_sorted : mg "sorted" = none
  b_str : mg "str" = none
  b_sum : mg "sum" = none
  b_tuple : mg "tuple" = none
  b_zip : mg "zip" = none
open PySem PySem.Spec PyProof.Rows L2 OgR Evl Dw OgM
def wstr : Wd → Str
  | .new => "new"
  | .beside => "beside"
  | .between => "between"
theorem sok_w (w : Wd) : PyData.strOk (wstr w) = true := by cases w <;> exact sok _
theorem shp_w (w : Wd) : Shp (.str (wstr w)) = True := eq_true (shp_z (sok_w w))
theorem wstr_inj {w v : Wd} : (wstr w = wstr v) = (w = v) := by
  refine propext ⟨fun h => ?_, fun h => by rw [h]⟩
  cases w <;> cases v <;> first | rfl | exact absurd h (by decide +kernel)
def chT (c : Ch) : PyData := .tuple [.str (wstr c.1), .int (c.2 : Nat)]
theorem step_mem (w : Wd) : (wstr w, PyData.int w.step) ∈ ([("new", .int 1), ("beside", .int 0), ("between", .int (-1))] : List (Str × PyData)) := by
  cases w
  · exact .head _
  · exact .tail _ (.head _)
  · exact .tail _ (.tail _ (.head _))
def sortS : NV → Str
  | .g _ => "groups"
  | .h _ => "house"
def valD : NV → PyData
  | .g n => .int (n : Nat)
  | .h w => .str (wstr w)
def ntD (n : Nt) : PyData := .tuple [.int (n.t : Nat), .str (sortS n.v), valD n.v]
def ntL (n : Nt) : PyData := .list [.int (n.t : Nat), .str (sortS n.v), valD n.v]
def IsNts (d : PyData) (ns : List Nt) : Prop := d = .tuple (ns.map ntD) ∨ d = .list (ns.map ntL)
def IsBook (d : PyData) (p t : Nat) (ns : List Nt) : Prop := ∃ e, IsNts e ns ∧ (d = .tuple [.int (p : Nat), .int (t : Nat), e] ∨ d = .list [.int (p : Nat), .int (t : Nat), e])
theorem IsBook.sq {d : PyData} {p t : Nat} {ns : List Nt} (h : IsBook d p t ns) : ∃ e, IsNts e ns ∧ seqd d = true ∧ its d = [.int (p : Nat), .int (t : Nat), e] := by
  obtain ⟨e, he, rfl | rfl⟩ := h <;> exact ⟨e, he, rfl, rfl⟩
def keyN (n : Nt) : List Key := [.inl (n.t : Int), .inr (sortS n.v)]
def kvsOf (ns : List Nt) : KVs := ns.foldl (fun kvs n => putG kvs (keyN n) (valD n.v)) []
theorem lookG_put {κ : Type} [DecidableEq κ] (tbl : List (κ × PyData)) (k k' : κ) (d : PyData) : lookG (putG tbl k d) k' = if k = k' then some d else lookG tbl k' := by
  unfold lookG putG
  split
  · rename_i h
    induction tbl with
    | nil => simp at h
    | cons a l ih =>
      simp only [List.map_cons, List.find?_cons]
      by_cases ha : a.1 = k
      · rw [if_pos ha]
        by_cases hk : k = k'
        · simp [ha, hk]
        · have : ¬ a.1 = k' := fun z => hk (ha ▸ z)
          simp only [this, hk, decide_false, if_false]
          by_cases h2 : (l.any fun kd => decide (kd.1 = k)) = true
          · have := ih h2
            rw [if_neg hk] at this
            exact this
          · have e : l.map (fun kv => if kv.1 = k then (kv.1, d) else kv) = l := by
              conv => rhs; rw [← List.map_id l]
              refine List.map_congr_left fun x hx => ?_
              by_cases hx2 : x.1 = k
              · exact absurd (List.any_eq_true.mpr ⟨x, hx, decide_eq_true hx2⟩) h2
              · rw [if_neg hx2]; rfl
            rw [e]
      · rw [if_neg ha]
        have h2 : (l.any fun kd => decide (kd.1 = k)) = true := by
          rw [List.any_cons] at h
          simpa [ha] using h
        by_cases hk : a.1 = k'
        · have : ¬ k = k' := fun z => ha (hk.trans z.symm)
          simp [hk, this]
        · simp only [hk, decide_false]
          exact ih h2
  · rename_i h
    rw [List.find?_append]
    by_cases hk : k = k'
    · subst hk
      have : tbl.find? (fun kd => decide (kd.1 = k)) = none := by
        rw [List.find?_eq_none]
        intro x hx z
        exact h (List.any_eq_true.mpr ⟨x, hx, z⟩)
      rw [this]
      simp
    · rw [if_neg hk]
      cases q : tbl.find? (fun kd => decide (kd.1 = k')) with
      | some x => simp
      | none => simp [hk]
theorem kvs_look (ns : List Nt) : ∀ tbl : KVs, ∀ t : Nat, lookG (ns.foldl (fun kvs n => putG kvs (keyN n) (valD n.v)) tbl) [.inl (t : Int), .inr "groups"] = ((gAt ns t).map fun n => PyData.int (n : Nat)).or (lookG tbl [.inl (t : Int), .inr "groups"])
    ∧ lookG (ns.foldl (fun kvs n => putG kvs (keyN n) (valD n.v)) tbl) [.inl (t : Int), .inr "house"] = ((hAt ns t).map fun w => PyData.str (wstr w)).or (lookG tbl [.inl (t : Int), .inr "house"]) := by
  induction ns with
  | nil => intro tbl t; exact ⟨by simp [gAt], by simp [hAt]⟩
  | cons n ns ih =>
    intro tbl t
    have gh : ¬ (Str.ofString "house" = Str.ofString "groups") := by decide +kernel
    obtain ⟨a, b⟩ := ih (putG tbl (keyN n) (valD n.v)) t
    rw [List.foldl_cons, a, b, lookG_put, lookG_put]
    have g1 : gAt (n :: ns) t = (gAt ns t).or (if n.t = t then n.v.g? else none) := rfl
    have h1 : hAt (n :: ns) t = (hAt ns t).or (if n.t = t then n.v.h? else none) := rfl
    rw [g1, h1]
    obtain ⟨nt, nv⟩ := n
    have e1 : ∀ z : Str, ((keyN ⟨nt, nv⟩) = [.inl (t : Int), .inr z]) ↔ (nt = t ∧ sortS nv = z) := fun z => by
      unfold keyN
      simp only [List.cons.injEq, Sum.inl.injEq, Sum.inr.injEq, and_true]
      exact ⟨fun h => ⟨by have := h.1; omega, h.2⟩, fun h => ⟨by have := h.1; omega, h.2⟩⟩
    cases nv with
    | g x =>
      refine ⟨?_, ?_⟩
      · by_cases h : nt = t
        · rw [if_pos ((e1 "groups").mpr ⟨h, rfl⟩), if_pos h]
          cases gAt ns t <;> rfl
        · rw [if_neg fun z => h ((e1 "groups").mp z).1, if_neg h]
          cases gAt ns t <;> rfl
      · rw [if_neg fun z => gh ((e1 "house").mp z).2.symm]
        by_cases h : nt = t
        · rw [if_pos h]
          cases hAt ns t <;> rfl
        · rw [if_neg h]
          cases hAt ns t <;> rfl
    | h x =>
      refine ⟨?_, ?_⟩
      · rw [if_neg fun z => gh ((e1 "groups").mp z).2]
        by_cases h : nt = t
        · rw [if_pos h]
          cases gAt ns t <;> rfl
        · rw [if_neg h]
          cases gAt ns t <;> rfl
      · by_cases h : nt = t
        · rw [if_pos ((e1 "house").mpr ⟨h, rfl⟩), if_pos h]
          cases hAt ns t <;> rfl
        · rw [if_neg fun z => h ((e1 "house").mp z).1, if_neg h]
          cases hAt ns t <;> rfl
theorem look_g (ns : List Nt) (t : Nat) : lookG (kvsOf ns) [.inl (t : Int), .inr "groups"] = (gAt ns t).map fun n => PyData.int (n : Nat) := by
  have := (kvs_look ns [] t).1
  rw [show lookG ([] : KVs) [.inl (t : Int), .inr "groups"] = none from rfl, Option.or_none] at this
  exact this
theorem look_h (ns : List Nt) (t : Nat) : lookG (kvsOf ns) [.inl (t : Int), .inr "house"] = (hAt ns t).map fun w => PyData.str (wstr w) := by
  have := (kvs_look ns [] t).2
  rw [show lookG ([] : KVs) [.inl (t : Int), .inr "house"] = none from rfl, Option.or_none] at this
  exact this
local macro_rules | `(tactic| walk_at "s1") => `(tactic| simp only [wPubO, wC, wV, wPub, wP, wCons, wTup, wLst, wL, w2, wTest, wChain, wAnd, wOr, Dw.wNot, wAndV, wOrV, wNotV, wIf, Dw.wTru, truD, gI0, gI, gEq, gNe, gIn, gIsN, gNotN, gIsB, gNotB, gCatT, gCatS, gIx, wCat, wRep, w1, w1O, gLen, gTupleOf, gListOf, wRg1, gInt, gStr, w2a, wSlT, wSlL, wSlS, wRevT, wNeg, wCall, wCallB, wName, wGNil_n, wGCons_c, wGTup, wSeq, wRng1, wEnum, wZip, wNext, wSq, wRet, wIfS, wDrop, wAsg, wOwn, wAug, wMeth, fAppend, wFor_eq, wWhile_eq, wipeD, wLc_eq, Dw.wNm, wPar, wGix, wDix, wCatP, wPopTo, fPop, fPopAt, fIns, wSetIx, gRepr, gMinT, gNeS, gRepN, wDGet2, wDPut, wTPut, wTGet, gSrtR, gLtP, wSlB, wStar, wRaise, wNmX, wXat, wXis, gEqS, wYd, wYdic, wYfn, wYg, wCallD, wCallV, wSetN, wDcT, wTGet2, wTGet1, dicAt, wRng2, wRngD, wRevR, gRevL, wAugIx, look_d, look_own, shpI, shpB, shpN, shpS, seqT, seqL, itsT, itsL, lenT, lenL, okFF, eqv_str, eqv_int, eqv_bool, isNone, perm, Dt.set, Dt.sets, env0, List.map_cons, List.map_nil, List.cons_append, List.nil_append, List.getElem?_cons_zero, List.getElem?_cons_succ, List.set_cons_succ, List.set_cons_zero, List.filterMap_cons, List.filterMap_nil, Option.some.injEq, DV.d.injEq, DV.own.injEq, DV.dit.injEq, DV.dd.injEq, DV.oth.injEq, reduceCtorEq, false_or, or_false, false_and, and_false, exists_false, PyData.int.injEq, PyData.bool.injEq, PyData.str.injEq, PyData.tuple.injEq, PyData.list.injEq, List.cons.injEq, exists_eq_left, exists_eq_left', exists_eq_right, exists_eq_right', exists_and_left, exists_eq', exists_eq, and_true, true_and, and_self, and_assoc, List.length_cons, List.length_nil, List.replicate, Nat.reduceAdd, Nat.reduceSub, Nat.reduceLeDiff, Nat.zero_le, decide_eq_true_eq, Bool.not_eq_true', decide_eq_false_iff_not, ite_true, ite_false, if_true, if_false, Bool.false_eq_true, Bool.true_eq_false, eq_self, List.reduceReplicate, Bool.not_true, Bool.not_false, reduceIte])
section
variable {P : Program} {wd : World} {K : PySem.W.Frag} {mg : Str → Option Value} {base : Heap}
theorem w_new : ("new" : Str) = wstr .new := rfl
theorem w_bes : ("beside" : Str) = wstr .beside := rfl
def f_many_choices : FP := fun ds R => ∃ (w : Wd) (m : Nat), ds = [.str (wstr w), .int (m : Nat)] ∧ R (.int (waysN w m : Nat))
theorem ok_many_choices (T : Top wd K mg) : Def P wd K mg base 1 "many_choices" s_many_choices ["word", "many"] (spP K f_many_choices) := by
  refine Def.pure T.d_many_choices sc_many_choices (fun ds R h => by obtain ⟨_, _, rfl, _⟩ := h; rfl) (fun f cdv A outer s H G E ds R hG hr h => ?_)
  obtain ⟨w, m, rfl, q⟩ := h
  refine ⟨_, _, (dss_cons (ds_if (dt_cmp (o_eq rfl hr.units) (dp_v 0) (DE.p de_str)) (dss_one (ds_ret (de_bin o_add (dp_v 1) (DE.p de_int)))) dss_nil)
      (dss_cons (ds_if (dt_cmp (o_eq rfl hr.units) (dp_v 0) (DE.p de_str)) (dss_one (ds_ret (de_bin o_mul (DE.p de_int) (dp_v 1)))) dss_nil)
      (dss_one (ds_ret (de_max2 (by rfl) (by rfl) T.b_max (de_bin o_sub (dp_v 1) (DE.p de_int)) de_int))))), ?_⟩
  walk_at "s1"
  simp only [w_new, w_bes, wstr_inj, shp_w, true_and]
  cases w
  · exact (if_pos rfl).mpr q
  · exact (if_neg (by decide)).mpr ((if_pos rfl).mpr ⟨.inl ⟨by decide, by decide⟩, q⟩)
  · refine (if_neg (by decide)).mpr ((if_neg (by decide)).mpr ?_)
    have e : (if (0 : Int) > (m : Int) - 1 then (0 : Int) else (m : Int) - 1) = ((m - 1 : Nat) : Int) := by split <;> omega
    rw [e]
    exact q
def f_ways_to_choose : FP := fun ds R => ∃ m n : Nat, ds = [.int (m : Nat), .int (n : Nat)] ∧ m ≤ 1000000 ∧ n < 2 ^ 63 ∧ R (.int (cho n m : Nat))
theorem ok_ways_to_choose (T : Top wd K mg) : Def P wd K mg base 1 "ways_to_choose" s_ways_to_choose ["many", "things"] (spP K f_ways_to_choose) := by
  refine Def.pure T.d_ways_to_choose sc_ways_to_choose (fun ds R h => by obtain ⟨_, _, rfl, _⟩ := h; rfl) (fun f cdv A outer s H G E ds R hG hr h => ?_)
  obtain ⟨m, n, rfl, hm, hn, q⟩ := h
  refine ⟨_, _, (dss_cons (ds_set 2 sc_ways_to_choose.nd de_int)
      (dss_cons (ds_for PassesOwn.never (by rfl) (di_rng1 (by rfl) T.b_range (de_v 0)) (dg_name 3 sc_ways_to_choose.nd)
        (dss_one (ds_set 2 sc_ways_to_choose.nd (de_bin o_fdiv (DE.p (de_bin o_mul (dp_v 2) (DE.p (de_bin o_sub (dp_v 1) (dp_v 3))))) (DE.p (de_bin o_add (dp_v 3) (DE.p de_int)))))))
      (dss_one (ds_ret (de_v 2))))), ?_⟩
  walk_at "s1"
  refine ⟨by omega, by omega, forD_by (fun i s2 => ∃ y3, s2 = ⟨[some (.d (.int (m : Nat))), some (.d (.int (n : Nat))), some (.d (.int (cho n i : Nat))), y3], 0, []⟩) ⟨none, by rw [choose_0]; rfl⟩ (fun i d s2 J e inv hJ => ?_) (fun s2 inv => ?_)⟩
  · obtain ⟨y3, rfl⟩ := inv
    obtain ⟨hi, rfl⟩ := iota_get e
    walk_at "s1"
    refine ⟨.inr ⟨by omega, by omega⟩, ⟨by omega, by omega⟩, hJ _ ⟨some (.d (.int (0 + (i : Int)))), ?_⟩⟩
    rw [Int.zero_add, choose_int]
  · obtain ⟨y3, rfl⟩ := inv
    walk_at "s1"
    rw [iota_len, show ((m : Int) - 0).toNat = m by omega]
    exact q
def f_noted : FN := fun xs R => ∃ d ns, xs = [.d d] ∧ IsNts d ns ∧ ns.length ≤ 10000 ∧ R (kvsOf ns)
theorem kvs_len : ∀ ns : List Nt, ∀ tbl : KVs, (ns.foldl (fun kvs n => putG kvs (keyN n) (valD n.v)) tbl).length ≤ tbl.length + ns.length
  | [], tbl => Nat.le_refl _
  | n :: ns, tbl => by
    rw [List.foldl_cons]
    have h1 := kvs_len ns (putG tbl (keyN n) (valD n.v))
    have h2 : (putG tbl (keyN n) (valD n.v)).length ≤ tbl.length + 1 := by
      unfold putG
      split
      · rw [List.length_map]; omega
      · rw [List.length_append]; exact Nat.le_refl _
    rw [List.length_cons]
    omega
theorem kvsOf_len (ns : List Nt) : (kvsOf ns).length ≤ ns.length := by
  have h := kvs_len ns []
  rw [List.length_nil, Nat.zero_add] at h
  exact h
theorem foldl_snoc {α β : Type} (f : α → β → α) (a : α) (l : List β) (b : β) : (l ++ [b]).foldl f a = f (l.foldl f a) b := by rw [List.foldl_append]; rfl
theorem ok_noted_values (T : Top wd K mg) : Def P wd K mg base 1 "noted_values" s_noted_values ["notes"] (spN K f_noted) := by
  refine Def.newD T.d_noted_values sc_noted_values rfl (fun xs R h => by obtain ⟨_, _, rfl, _⟩ := h; rfl) (fun f cdv A outer s H G E xs R hG hr h => ?_)
  obtain ⟨d, ns, rfl, hd, hl, q⟩ := h
  refine ⟨_, _, (dn_dc (own := [("time", 1), ("sort", 2), ("value", 3)]) (by rfl) sc_noted_values.nd (hu_of1 hr) (di_seq rfl (de_v 0)) (blkOk_by (own := [("time", 1), ("sort", 2), ("value", 3)]) (N := ["notes", "time", "sort", "value"]) (sc := defScope s_noted_values) (by decide +kernel)) (fun _ _ _ _ _ => (dg_tup (n := 3) rfl (by rfl) (dgs_c (dg_name 1 sc_noted_values.nd (hf := by first | exact Or.inr rfl | exact Or.inl rfl)) (dgs_c (dg_name 2 sc_noted_values.nd (hf := by first | exact Or.inr rfl | exact Or.inl rfl)) (dgs_c (dg_name 3 sc_noted_values.nd (hf := by first | exact Or.inr rfl | exact Or.inl rfl)) dgs_nil))))) (fun _ _ _ _ _ => (da_cons (de_v 1) (da_cons (de_v 2) da_nil))) (fun _ _ _ _ _ => (de_v 3))), ?_⟩
  have hs : seqd d = true ∧ (its d).length = ns.length ∧ ∀ (i : Nat) e, (its d)[i]? = some e → ∃ n, ns[i]? = some n ∧ (e = ntD n ∨ e = ntL n) := by
    rcases hd with rfl | rfl
    · refine ⟨rfl, List.length_map .., fun i e he => ?_⟩
      have he : (ns.map ntD)[i]? = some e := he
      rw [List.getElem?_map] at he
      obtain ⟨n, h1, rfl⟩ := Option.map_eq_some_iff.mp he
      exact ⟨n, h1, .inl rfl⟩
    · refine ⟨rfl, List.length_map .., fun i e he => ?_⟩
      have he : (ns.map ntL)[i]? = some e := he
      rw [List.getElem?_map] at he
      obtain ⟨n, h1, rfl⟩ := Option.map_eq_some_iff.mp he
      exact ⟨n, h1, .inr rfl⟩
  walk_at "s1"
  refine ⟨hs.1, fun i kvs c => kvs = kvsOf (ns.take i), rfl, fun i e kvs c he inv => ?_, fun kvs c inv => ?_⟩
  · obtain ⟨n, hn, hen⟩ := hs.2.2 i e he
    subst inv
    have hin := (List.getElem?_eq_some_iff.mp hn).1
    have e1 : kvsOf (ns.take (i + 1)) = putG (kvsOf (ns.take i)) (keyN n) (valD n.v) := by
      unfold kvsOf
      rw [List.take_add_one, hn]
      exact foldl_snoc ..
    have e2 : (kvsOf (ns.take i)).length < 100000 := by
      have := kvsOf_len (ns.take i)
      rw [List.length_take] at this
      omega
    rcases hen with rfl | rfl
    · unfold ntD
      walk_at "s1"
      exact ⟨keyN n, rfl, e2, e1.symm⟩
    · unfold ntL
      walk_at "s1"
      exact ⟨keyN n, rfl, e2, e1.symm⟩
  · subst inv
    rw [hs.2.1, List.take_length]
    exact q
def f_iwt : FD := fun xs R => ∃ ns t m w, xs = [.dd (kvsOf ns), .d (.int (t : Nat)), .d (.int (m : Nat)), .d (.str (wstr w))] ∧ R (.bool (wOk ns t m w))
theorem ok_is_word_then (T : Top wd K mg) : Def P wd K mg base 2 "is_word_then" s_is_word_then ["noted", "time", "many", "word"] (spD K f_iwt) := by
  have g_many_choices := ok_many_choices (P := P) (base := base) T
  refine Def.byD T.d_is_word_then sc_is_word_then (fun xs R h => by obtain ⟨_, _, _, _, rfl, _⟩ := h; rfl) (fun f cdv A outer s H G E xs R hG hr h => ?_)
  obtain ⟨ns, t, m, w, rfl, q⟩ := h
  refine ⟨_, _, (dss_cons (ds_set 4 sc_is_word_then.nd (de_bin o_add (dp_v 2) (DE.p (de_gix T.c_STEPS rfl (by rfl) (de_v 3)))))
      (dss_cons (ds_if (dt_cmp (o_eq rfl hr.units) (DE.p (de_c g_many_choices hG (hr.mono (by omega)) (by rfl) (da_cons (de_v 3) (da_cons (de_v 2) da_nil)))) (DE.p de_int)) (dss_one (ds_ret de_bl)) dss_nil)
      (dss_one (ds_ret (de_and (de_cmp (o_eq rfl hr.units) (DE.p (de_tget2 0 (hu_of hr) (da_cons (de_v 1) (da_cons de_str da_nil)) (de_v 3))) (dp_v 3)) (de_one (de_cmp (o_eq rfl hr.units) (DE.p (de_tget2 0 (hu_of hr) (da_cons (de_v 1) (da_cons de_str da_nil)) (de_v 4))) (dp_v 4)))))))), ?_⟩
  walk_at "s1"
  have k1 : keysD [.int (t : Nat), .str "house"] = some [.inl (t : Int), .inr "house"] := rfl
  have k2 : keysD [.int (t : Nat), .str "groups"] = some [.inl (t : Int), .inr "groups"] := rfl
  refine ⟨_, step_mem w, _, rfl, w, m, rfl, ?_⟩
  walk_at "s1"
  unfold wOk at q
  by_cases h0 : waysN w m = 0
  · rw [if_pos (by omega)]
    rw [h0] at q
    exact q
  rw [if_neg (by omega)]
  rw [decide_eq_true h0, Bool.true_and] at q
  refine ⟨_, k1, ?_⟩
  rw [look_h]
  have e1 : ((hAt ns t).map fun w => PyData.str (wstr w)).getD (.str (wstr w)) = .str (wstr ((hAt ns t).getD w)) := by cases hAt ns t <;> rfl
  rw [e1]
  simp only [shp_w, true_and, eqv_str, wstr_inj, decide_eq_true_eq]
  by_cases h1 : (hAt ns t).getD w = w
  case neg =>
    rw [if_neg h1]
    rw [show ((hAt ns t).getD w == w) = false from beq_eq_false_iff_ne.mpr h1] at q
    exact q
  rw [if_pos h1]
  rw [show ((hAt ns t).getD w == w) = true from beq_iff_eq.mpr h1, Bool.true_and] at q
  refine ⟨_, k2, ?_⟩
  rw [look_g, ← nextM_step h0]
  have e2 : ((gAt ns t).map fun n => PyData.int (n : Nat)).getD (.int (nextM m w : Nat)) = .int (((gAt ns t).getD (nextM m w) : Nat) : Int) := by cases gAt ns t <;> rfl
  rw [e2]
  walk_at "s1"
  have e3 : decide ((((gAt ns t).getD (nextM m w) : Nat) : Int) = (nextM m w : Nat)) = ((gAt ns t).getD (nextM m w) == nextM m w) := by
    by_cases h : (gAt ns t).getD (nextM m w) = nextM m w
    · rw [h, decide_eq_true rfl, beq_self_eq_true]
    · rw [decide_eq_false (by omega), beq_eq_false_iff_ne.mpr h]
  rw [e3]
  exact q
end
section
variable {P : Program} {wd : World} {K : PySem.W.Frag} {mg : Str → Option Value} {base : Heap}
def wdsT (ws : List Wd) : List PyData := ws.map fun w => .str (wstr w)
def f_words : FD := fun xs R => ∃ ns t m, xs = [.dd (kvsOf ns), .d (.int (t : Nat)), .d (.int (m : Nat))] ∧ R (.list (wdsT (wordsAt ns t m)))
theorem ok_words_then (T : Top wd K mg) : Def P wd K mg base 3 "words_then" s_words_then ["noted", "time", "many"] (spD K f_words) := by
  have g_is_word_then := ok_is_word_then (P := P) (base := base) T
  refine Def.byD T.d_words_then sc_words_then (fun xs R h => by obtain ⟨_, _, _, rfl, _⟩ := h; rfl) (fun f cdv A outer s H G E xs R hG hr h => ?_)
  obtain ⟨ns, t, m, rfl, q⟩ := h
  refine ⟨_, _, (dss_one (ds_ret (DO.d (do_lc (own := [("word", 3)]) (by rfl) sc_words_then.nd (di_seq rfl (de_gc T.c_ASCENDING_WORDS (by rfl))) (blkOk_by (own := [("word", 3)]) (N := ["noted", "time", "many", "word"]) (sc := defScope s_words_then) (by decide +kernel)) (fun _ _ _ _ _ => (dg_name 3 sc_words_then.nd (hf := by first | exact Or.inr rfl | exact Or.inl rfl))) (ts_one fun _ _ _ _ _ => (dt_val (de_cD g_is_word_then hG (hr.mono (by omega)) (by rfl) (dy_dic 0 (dy_d (de_v 1) (dy_d (de_v 2) (dy_d (de_v 3) dy_nil))))))) (fun _ _ _ _ _ => (de_v 3)))))), ?_⟩
  walk_at "s1"
  refine lcD_enc asc (fun w => .str (wstr w)) (fun w => if wOk ns t m w = true then some (.str (wstr w)) else none) (by decide) (fun w hw acc J hacc h1 h0 => ?_) ?_
  · walk_at "s1"
    refine ⟨ns, t, m, w, rfl, _, rfl, ?_⟩
    cases hq : wOk ns t m w with
    | true => exact iteT ⟨hacc, h1 _ (by rw [hq]; rfl)⟩
    | false => exact iteF (h0 (by rw [hq]; rfl))
  · have e : asc.filterMap (fun w => if wOk ns t m w = true then some (PyData.str (wstr w)) else none) = wdsT (wordsAt ns t m) := by
      unfold wdsT wordsAt
      generalize asc = l
      induction l with
      | nil => rfl
      | cons w l ih =>
        rw [List.filterMap_cons, List.filter_cons, ih]
        cases wOk ns t m w <;> rfl
    rw [e]
    exact q
def blkT (b : Wd × Nat × Nat) : PyData := .tuple [.str (wstr b.1), .int (b.2.1 : Nat), .int (b.2.2 : Nat)]
def f_blocks : FD := fun xs R => ∃ ns t m f l, xs = [.dd (kvsOf ns), .d (.list ((List.range l).map fun i => .int (f i : Nat))), .d (.int (t : Nat)), .d (.int (m : Nat))] ∧ m + 1 < l ∧ R (.list ((blocksAt ns f t m).map blkT))
theorem ok_blocks_then (T : Top wd K mg) : Def P wd K mg base 4 "blocks_then" s_blocks_then ["noted", "ways", "time", "many"] (spD K f_blocks) := by
  have g_words_then := ok_words_then (P := P) (base := base) T
  have g_many_choices := ok_many_choices (P := P) (base := base) T
  refine Def.byD T.d_blocks_then sc_blocks_then (fun xs R h => by obtain ⟨_, _, _, _, _, rfl, _⟩ := h; rfl) (fun f cdv A outer s H G E xs R hG hr h => ?_)
  obtain ⟨ns, t, m, fn, l, rfl, hl, q⟩ := h
  refine ⟨_, _, (dss_cons (ds_set 4 sc_blocks_then.nd (de_cD g_words_then hG (hr.mono (by omega)) (by rfl) (dy_dic 0 (dy_d (de_v 2) (dy_d (de_v 3) dy_nil)))))
      (dss_one (ds_ret (DO.d (do_lc (own := [("word", 5)]) (by rfl) sc_blocks_then.nd (di_seq rfl (de_v 4)) (blkOk_by (own := [("word", 5)]) (N := ["noted", "ways", "time", "many", "words", "word"]) (sc := defScope s_blocks_then) (by decide +kernel)) (fun _ _ _ _ _ => (dg_name 5 sc_blocks_then.nd (hf := by first | exact Or.inr rfl | exact Or.inl rfl))) ts_no (fun _ _ _ _ _ => (de_tup (da_cons (de_v 5) (da_cons (de_c g_many_choices hG (hr.mono (by omega)) (by rfl) (da_cons (de_v 5) (da_cons (de_v 3) da_nil))) (da_cons (de_ix rfl (dp_v 1) (DE.p (de_bin o_add (dp_v 3) (DE.p (de_gix T.c_STEPS rfl (by rfl) (de_v 5)))))) da_nil)))))))))), ?_⟩
  walk_at "s1"
  refine ⟨ns, t, m, rfl, rfl, lcD_encM (wordsAt ns t m) (fun w => .str (wstr w)) (fun w => blkT (w, waysN w m, fn (nextM m w))) (Nat.le_trans (List.length_filter_le _ _) (by decide)) (fun w hw acc J hacc hJ => ?_) ?_⟩
  · have h0 : waysN w m ≠ 0 := by
      have := (List.mem_filter.mp hw).2
      unfold wOk at this
      simp only [Bool.and_eq_true, decide_eq_true_eq] at this
      exact this.1
    have hn : nextM m w < l := by
      cases w
      · exact hl
      · show m < l; omega
      · show m - 1 < l; omega
    walk_at "s1"
    refine ⟨w, m, rfl, _, step_mem w, _, rfl, _, ?_, hacc, hJ⟩
    rw [← nextM_step h0, at_nat (by rw [List.length_map, List.length_range]; exact hn), List.getElem?_map, List.getElem?_eq_getElem (by rw [List.length_range]; exact hn), List.getElem_range]
    rfl
  · unfold blocksAt at q
    rw [List.map_map] at q
    exact q
def f_fold (φ : List Nat → Nat) : FP := fun ds R => ∃ ns : List Nat, ds = [.list (ns.map fun n => .int (n : Nat))] ∧ ns.length ≤ 10000 ∧ R (.int (φ ns : Nat))
theorem ok_in_all (T : Top wd K mg) : Def P wd K mg base 1 "in_all" s_in_all ["parts"] (spP K (f_fold List.sum)) := by
  refine Def.pure T.d_in_all sc_in_all (fun ds R h => by obtain ⟨_, rfl, _⟩ := h; rfl) (fun f cdv A outer s H G E ds R hG hr h => ?_)
  obtain ⟨ns, rfl, hl, q⟩ := h
  refine ⟨_, _, (dss_one (ds_ret (de_sum rfl (by rfl) (by rfl) T.b_sum (dp_v 0)))), ?_⟩
  walk_at "s1"
  exact gSum_nat q
end
def fwRow (φ : List Nat → Nat) (ns : List Nt) (e T i : Nat) : PyData := .list ((List.range (i + 1)).map fun m => .int (FW φ ns e T (T - i) m : Nat))
def fwAll (φ : List Nat → Nat) (ns : List Nt) (e T : Nat) : PyData := .list ((List.range (T + 1)).map fun i => fwRow φ ns e T i)
theorem rev_range {α : Type} (f : Nat → α) (n : Nat) : ((List.range (n + 1)).map fun k => f (n - k)).reverse = (List.range (n + 1)).map f := by
  refine List.ext_getElem? fun i => ?_
  by_cases h : i < n + 1
  · rw [List.getElem?_reverse (by rw [List.length_map, List.length_range]; exact h), List.length_map, List.length_range, List.getElem?_map, List.getElem?_map, List.getElem?_eq_getElem (by rw [List.length_range]; omega), List.getElem?_eq_getElem (by rw [List.length_range]; exact h), List.getElem_range, List.getElem_range]
    show some (f (n - (n + 1 - 1 - i))) = some (f i)
    rw [show n - (n + 1 - 1 - i) = i by omega]
  · rw [List.getElem?_eq_none (by rw [List.length_reverse, List.length_map, List.length_range]; omega), List.getElem?_eq_none (by rw [List.length_map, List.length_range]; omega)]
section
variable {P : Program} {wd : World} {K : PySem.W.Frag} {mg : Str → Option Value} {base : Heap}
def f_folded (P : Program) (wd : World) (K : PySem.W.Frag) (mg : Str → Option Value) (base : Heap) : FD := fun xs R => ∃ d p T ns φ, xs = [.d d, .oth (fnV P wd K mg base 1 (f_fold φ))] ∧ IsBook d p T ns ∧ T ≤ p ∧ p < 2 ^ 62 ∧ T ≤ 1000 ∧ ns.length ≤ 10000 ∧ R (fwAll φ ns (p - T) T)
theorem ok_folded_ways (T : Top wd K mg) : Def P wd K mg base 5 "folded_ways" s_folded_ways ["journal", "fold"] (spD K (f_folded P wd K mg base)) := by
  have g_noted_values := ok_noted_values (P := P) (base := base) T
  have g_ways_to_choose := ok_ways_to_choose (P := P) (base := base) T
  have g_blocks_then := ok_blocks_then (P := P) (base := base) T
  refine Def.byD T.d_folded_ways sc_folded_ways (fun xs R h => by obtain ⟨_, _, _, _, _, rfl, _⟩ := h; rfl) (fun f cdv A outer s H G E xs R hG hr h => ?_)
  obtain ⟨d, p, n, ns, φ, rfl, hd, hTp, hp, hT, hns, q⟩ := h
  obtain ⟨e, he, hs1, hs2⟩ := hd.sq
  refine ⟨_, _, (dss_cons (ds_asg (de_v 0) (dg_tup (n := 3) rfl (by rfl) (dgs_c (dg_name 2 sc_folded_ways.nd) (dgs_c (dg_name 3 sc_folded_ways.nd) (dgs_c (dg_name 4 sc_folded_ways.nd) dgs_nil)))))
      (dss_cons (ds_setN 5 g_noted_values sc_folded_ways.nd hG (hr.mono (by omega)) (by rfl) (dy_d (de_v 4) dy_nil))
      (dss_cons (ds_set 6 sc_folded_ways.nd (DO.d (do_lc (own := [("many", 10)]) (by rfl) sc_folded_ways.nd (di_rng1 (by rfl) T.b_range (de_bin o_add (dp_v 3) (DE.p de_int))) (blkOk_by (own := [("many", 10)]) (N := ["journal", "fold", "plots", "times", "notes", "noted", "ways", "found", "time", "rows", "many", "blocks", "word", "choices", "block"]) (sc := defScope s_folded_ways) (by decide +kernel)) (fun _ _ _ _ _ => (dg_name 10 sc_folded_ways.nd (hf := by first | exact Or.inr rfl | exact Or.inl rfl))) ts_no (fun _ _ _ _ _ => (de_c g_ways_to_choose hG (hr.mono (by omega)) (by rfl) (da_cons (de_v 10) (da_cons (de_bin o_add (DE.p (de_bin o_sub (dp_v 2) (dp_v 3))) (DE.p de_int)) da_nil)))))))
      (dss_cons (ds_own 7 sc_folded_ways.nd (do_lst (da_cons (de_v 6) da_nil)))
      (dss_cons (ds_for PassesOwn.never (by rfl) (di_revR (by rfl) T.b_reversed (by rfl) T.b_range (de_v 3)) (dg_name 8 sc_folded_ways.nd)
        (dss_cons (ds_setLc 9 (own := [("many", 10)]) (by rfl) sc_folded_ways.nd rfl rfl (sw_true rfl rfl rfl (by decide +kernel)) (di_rng1 (by rfl) T.b_range (de_bin o_add (dp_v 8) (DE.p de_int))) (blkOk_by (own := [("many", 10)]) (N := ["journal", "fold", "plots", "times", "notes", "noted", "ways", "found", "time", "rows", "many", "blocks", "word", "choices", "block"]) (sc := defScope s_folded_ways) (by decide +kernel)) (fun _ _ _ _ _ => (dg_name 10 sc_folded_ways.nd (hf := by first | exact Or.inr rfl | exact Or.inl rfl))) ts_no (fun _ _ _ _ _ => (de_cD g_blocks_then hG (hr.mono (by omega)) (by rfl) (dy_dic 5 (dy_d (de_v 6) (dy_d (de_v 8) (dy_d (de_v 10) dy_nil)))))))
        (dss_cons (ds_set 6 sc_folded_ways.nd (DO.d (do_lc (own := [("blocks", 11)]) (by rfl) sc_folded_ways.nd (di_seq rfl (de_v 9)) (blkOk_by (own := [("blocks", 11)]) (N := ["journal", "fold", "plots", "times", "notes", "noted", "ways", "found", "time", "rows", "many", "blocks", "word", "choices", "block"]) (sc := defScope s_folded_ways) (by decide +kernel)) (fun _ _ _ _ _ => (dg_name 11 sc_folded_ways.nd (hf := by first | exact Or.inr rfl | exact Or.inl rfl))) ts_no (fun _ _ _ _ _ => (de_callV (g := (f_fold φ)) (P := P) (wd := wd) (mg := mg) (base := base) 1 1 rfl hG (hr.mono (by omega)) (da_cons (DO.d (do_lc (own := [("word", 12), ("choices", 13), ("block", 14)]) (by rfl) sc_folded_ways.nd (di_seq rfl (de_v 11)) (blkOk_by (own := [("word", 12), ("choices", 13), ("block", 14)]) (by first | rfl | decide +kernel)) (fun _ _ _ _ _ => (dg_tup (n := 3) rfl (by rfl) (dgs_c (dg_name 12 sc_folded_ways.nd (hf := by first | exact Or.inr rfl | exact Or.inl rfl)) (dgs_c (dg_name 13 sc_folded_ways.nd (hf := by first | exact Or.inr rfl | exact Or.inl rfl)) (dgs_c (dg_name 14 sc_folded_ways.nd (hf := by first | exact Or.inr rfl | exact Or.inl rfl)) dgs_nil))))) ts_no (fun _ _ _ _ _ => (de_bin o_mul (dp_v 13) (dp_v 14))))) da_nil))))))
        (dss_one (ds_app 7 rfl (de_v 6))))))
      (dss_one (ds_ret (DO.d (do_revL rfl (dp_v 7)))))))))), ?_⟩
  walk_at "s1"
  simp only [hs1, hs2]
  walk_at "s1"
  refine ⟨e, ns, rfl, he, hns, by omega, by omega, ?_⟩
  rw [iota_nat1]
  refine lcD_encM (List.range (n + 1)) (fun (i : Nat) => .int (i : Nat)) (fun m => .int (cho (p - n + 1) m : Nat)) (by rw [List.length_range]; omega) (fun m hm acc J hacc hJ => ?_) ?_
  · have hm := List.mem_range.mp hm
    walk_at "s1"
    refine ⟨m, p - n + 1, ?_, by omega, by omega, hacc, hJ⟩
    rw [show (p : Int) - (n : Int) + 1 = ((p - n + 1 : Nat) : Int) by omega]
  walk_at "s1"
  refine ⟨by omega, by omega, ?_⟩
  have row0 : PyData.list ((List.range (n + 1)).map fun m => .int (cho (p - n + 1) m : Nat)) = fwRow φ ns (p - n) n n := by
    unfold fwRow
    rw [Nat.sub_self]
    rfl
  rw [row0]
  refine forD_by (fun j s2 => ∃ y8 y9, j ≤ n ∧ s2 = ⟨[some (.d d), some (.oth (fnV P wd K mg base 1 (f_fold φ))), some (.d (.int (p : Nat))), some (.d (.int (n : Nat))), some (.d e), some (.dit (kvsOf ns)), some (.d (fwRow φ ns (p - n) n (n - j))), some (.own ((List.range (j + 1)).map fun k => fwRow φ ns (p - n) n (n - k))), y8, y9, none, none, none, none, none], 0, []⟩) ⟨none, none, Nat.zero_le _, rfl⟩ (fun j d1 s2 J e2 inv hJ => ?_) (fun s2 inv => ?_)
  · obtain ⟨y8, y9, hj, rfl⟩ := inv
    obtain ⟨hj2, rfl⟩ := down_get e2
    have hj2 : j < n := by omega
    obtain ⟨i, hi⟩ : ∃ i : Nat, n = i + j + 1 := ⟨n - j - 1, by omega⟩
    have e3 : (n : Int) - 1 - (j : Int) = (i : Nat) := by omega
    rw [e3]
    walk_at "s1"
    refine ⟨by omega, by omega, ?_⟩
    rw [iota_nat1]
    refine lcD_encM (List.range (i + 1)) (fun (i : Nat) => .int (i : Nat)) (fun m => .list ((blocksAt ns (fun m => FW φ ns (p - n) n j m) i m).map blkT)) (by rw [List.length_range]; omega) (fun m hm acc J' hacc hJ' => ?_) ?_
    · have hm := List.mem_range.mp hm
      walk_at "s1"
      refine ⟨ns, i, m, fun m => FW φ ns (p - n) n j m, i + 2, ?_, by omega, hacc, hJ'⟩
      unfold fwRow
      rw [show n - j = i + 1 by omega, show n - (i + 1) = j by omega]
    walk_at "s1"
    refine lcD_encM (List.range (i + 1)) (fun m => .list ((blocksAt ns (fun m => FW φ ns (p - n) n j m) i m).map blkT)) (fun m => .int (FW φ ns (p - n) n (j + 1) m : Nat)) (by rw [List.length_range]; omega) (fun m hm acc J' hacc hJ' => ?_) ?_
    · have hb : (blocksAt ns (fun m => FW φ ns (p - n) n j m) i m).length ≤ 3 := by
        unfold blocksAt
        rw [List.length_map]
        exact List.length_filter_le _ _
      have hm := List.mem_range.mp hm
      walk_at "s1"
      refine lcD_encM (blocksAt ns (fun m => FW φ ns (p - n) n j m) i m) blkT (fun b => .int (b.2.1 * b.2.2 : Nat)) (by omega) (fun b hb acc2 J2 hacc2 hJ2 => ?_) ?_
      · unfold blkT
        walk_at "s1"
        have hw : b.2.1 ≤ 2 * m + 1 := by
          unfold blocksAt at hb
          obtain ⟨w, _, rfl⟩ := List.mem_map.mp hb
          cases w
          · show m + 1 ≤ _; omega
          · show 2 * m ≤ _; omega
          · show m - 1 ≤ _; omega
        rw [Int.natCast_mul] at hJ2
        exact ⟨.inl ⟨by omega, by omega⟩, hacc2, hJ2⟩
      · refine ⟨(blocksAt ns (fun m => FW φ ns (p - n) n j m) i m).map fun b => b.2.1 * b.2.2, by rw [List.map_map]; rfl, by rw [List.length_map]; omega, rfl, hacc, ?_⟩
        have e4 : (blocksAt ns (fun m => FW φ ns (p - n) n j m) i m).map (fun b => b.2.1 * b.2.2) = (wordsAt ns (n - (j + 1)) m).map fun w => waysN w m * FW φ ns (p - n) n j (nextM m w) := by
          unfold blocksAt
          rw [List.map_map, show n - (j + 1) = i by omega]
          rfl
        rw [e4]
        exact hJ'
    · walk_at "s1"
      have e5 : PyData.list ((List.range (i + 1)).map fun m => .int (FW φ ns (p - n) n (j + 1) m : Nat)) = fwRow φ ns (p - n) n (n - (j + 1)) := by
        unfold fwRow
        rw [show n - (j + 1) = i by omega, show n - i = j + 1 by omega]
      have e6 : (List.range (j + 1)).map (fun k => fwRow φ ns (p - n) n (n - k)) ++ [fwRow φ ns (p - n) n (n - (j + 1))] = (List.range (j + 1 + 1)).map fun k => fwRow φ ns (p - n) n (n - k) := by
        rw [List.range_succ (n := j + 1), List.map_append]
        rfl
      rw [e5, e6]
      exact ⟨by rw [List.length_map, List.length_range]; omega, hJ _ ⟨_, _, hj2, rfl⟩⟩
  · obtain ⟨y8, y9, hj, rfl⟩ := inv
    walk_at "s1"
    rw [down_len, show ((n : Int) - 1 - -1).toNat = n by omega, rev_range]
    exact q
end
section
variable {P : Program} {wd : World} {K : PySem.W.Frag} {mg : Str → Option Value} {base : Heap}
def Bk (d : PyData) (p T : Nat) (ns : List Nt) : Prop := IsBook d p T ns ∧ T ≤ p ∧ p < 2 ^ 62 ∧ T ≤ 1000 ∧ ns.length ≤ 10000
def f_all_ways : FP := fun ds R => ∃ d p T ns, ds = [d] ∧ Bk d p T ns ∧ R (fwAll List.sum ns (p - T) T)
theorem ok_all_ways (T : Top wd K mg) : Def P wd K mg base 6 "all_ways" s_all_ways ["journal"] (spP K f_all_ways) := by
  have g_folded_ways := ok_folded_ways (P := P) (base := base) T
  have g_in_all := ok_in_all (P := P) (base := base) T
  refine Def.pure T.d_all_ways sc_all_ways (fun ds R h => by obtain ⟨_, _, _, _, rfl, _⟩ := h; rfl) (fun f cdv A outer s H G E ds R hG hr h => ?_)
  obtain ⟨d, p, n, ns, rfl, hB, q⟩ := h
  refine ⟨_, _, (dss_one (ds_ret (de_cD g_folded_ways hG (hr.mono (by omega)) (by rfl) (dy_d (de_v 0) (dy_g g_in_all (by rfl) dy_nil))))), ?_⟩
  walk_at "s1"
  exact ⟨d, p, n, ns, List.sum, rfl, hB.1, hB.2.1, hB.2.2.1, hB.2.2.2.1, hB.2.2.2.2, q⟩
theorem fw_at {φ : List Nat → Nat} {ns : List Nt} {e T i : Nat} (h : i ≤ T) : atI (its (fwAll φ ns e T)) (i : Int) = some (fwRow φ ns e T i) := by
  show atI ((List.range (T + 1)).map fun i => fwRow φ ns e T i) (i : Int) = _
  rw [at_nat (by rw [List.length_map, List.length_range]; omega), List.getElem?_map, List.getElem?_eq_getElem (by rw [List.length_range]; omega), List.getElem_range]
  rfl
theorem fr_at {φ : List Nat → Nat} {ns : List Nt} {e T i m : Nat} (h : m ≤ i) : atI (its (fwRow φ ns e T i)) (m : Int) = some (.int (FW φ ns e T (T - i) m : Nat)) := by
  show atI ((List.range (i + 1)).map fun m => PyData.int (FW φ ns e T (T - i) m : Nat)) (m : Int) = _
  rw [at_nat (by rw [List.length_map, List.length_range]; omega), List.getElem?_map, List.getElem?_eq_getElem (by rw [List.length_range]; omega), List.getElem_range]
  rfl
def f_count : FP := fun ds R => ∃ d p T ns, ds = [d] ∧ Bk d p T ns ∧ R (.int (FW List.sum ns (p - T) T T 0 : Nat))
theorem ok_count_orders (T : Top wd K mg) : Def P wd K mg base 7 "count_orders" s_count_orders ["journal"] (spP K f_count) := by
  have g_all_ways := ok_all_ways (P := P) (base := base) T
  refine Def.pure T.d_count_orders sc_count_orders (fun ds R h => by obtain ⟨_, _, _, _, rfl, _⟩ := h; rfl) (fun f cdv A outer s H G E ds R hG hr h => ?_)
  obtain ⟨d, p, n, ns, rfl, hB, q⟩ := h
  refine ⟨_, _, (dss_one (ds_ret (de_ix rfl (DE.p (de_ix rfl (DE.p (de_c g_all_ways hG (hr.mono (by omega)) (by rfl) (da_cons (de_v 0) da_nil))) (DE.p de_int))) (DE.p de_int)))), ?_⟩
  walk_at "s1"
  exact ⟨d, p, n, ns, rfl, hB, rfl, _, fw_at (i := 0) (by omega), rfl, _, fr_at (m := 0) (by omega), q⟩
end
theorem ws (w : Wd) : Og.wstr w = wstr w := by cases w <;> rfl
section
variable {P : Program} {wd : World} {K : PySem.W.Frag} {mg : Str → Option Value} {base : Heap}
def wdsD (row : List Int) : List PyData := (picks row).map fun c => .str (wstr c.1)
theorem words_at {aW : Addr} (h : ∀ G, Dw.Dp K G (.ref aW) (.tuple [.str "new", .str "beside", .str "between"])) : ∀ H, SqT K H aW Og.wordsV := fun H => by
  cases h H with
  | tup h t =>
    cases t with
    | cons a t =>
      cases t with
      | cons b t =>
        cases t with
        | cons c t =>
          cases t
          cases a
          cases b
          cases c
          exact h
def f_houses : FP := fun ds R => ∃ d row, ds = [d] ∧ IsR d row ∧ row.Nodup ∧ row.length ≤ 900 ∧ R (.tuple (wdsD row))
theorem ok_houses (T : Top wd K mg) : Def P wd K mg base 2 "houses" s_houses ["row"] (spP K f_houses) := by
  obtain ⟨f, fd, F, b, m⟩ := T.d_houses.ex
  obtain ⟨fN, fdN, FN, bN, gN⟩ := T.d_neighbours.ex
  obtain ⟨aW, gW, hW⟩ := T.c_WORDS.ex
  refine ⟨f, fd, fnG_ok ((Og.ok_houses (k := 0) F FN bN gN gW (words_at hW) T.b_tuple).imp fun vs H Q E h => ?_), F, b, m⟩
  obtain ⟨G, ds, R, gh, hd, ⟨d, row, rfl, hr, hn, hl, q⟩, k⟩ := h
  obtain ⟨v, rfl, hv⟩ := dpa_one hd
  obtain ⟨bb, p, rfl, hs⟩ := dp_row gh hv hr
  refine ⟨bb, p, row, rfl, hs, hn, hl, fun H' t eh ht ht' => k _ _ (nwG G H H') H' q (nwG_up gh) eh (nwG_in gh eh) nwG_nw (.tup (.inl (.inl (by rw [nwG_at ht]; exact ht'))) ?_)⟩
  unfold wdsD
  induction picks row with
  | nil => exact .nil
  | cons c cs ih => exact .cons (by show Dw.Dp K _ (.str (Og.wstr c.1)) (.str (wstr c.1)); rw [ws]; exact .str _) ih
def IsC (d : PyData) (cs : List Ch) : Prop := d = .tuple (cs.map chT) ∨ d = .list (cs.map chT)
theorem IsC.sq {d : PyData} {cs : List Ch} (h : IsC d cs) : seqd d = true ∧ its d = cs.map chT := by
  rcases h with rfl | rfl <;> exact ⟨rfl, rfl⟩
end
open PySem PySem.Spec PyProof.Rows L2 OgR Evl Dw Gx
def iniS (i : Nat) : Stmt := match topS i with
  | .ClassDef _ _ _ b _ _ _ _ _ _ _ => b.getD 0 (.Pass ⟨0, 0, 0, 0⟩)
  | _ => .Pass ⟨0, 0, 0, 0⟩
section
variable {P : Program} {wd : World} {K : PySem.W.Frag} {mg : Str → Option Value} {base : Heap}
structure TopX (K : PySem.W.Frag) (mg : Str → Option Value) (c : Nat → Addr) : Prop where
  x0 : Cls K mg "Impossible" "evidence" "Impossible.__init__" "ValueError" "ValueError.__new__" "ValueError.__init__" bVE (iniS 3) (c 0)
  x1 : Cls K mg "Misfit" "time" "Misfit.__init__" "ValueError" "ValueError.__new__" "ValueError.__init__" bVE (iniS 4) (c 1)
  x2 : Cls K mg "NoTime" "time" "NoTime.__init__" "LookupError" "LookupError.__new__" "LookupError.__init__" bLE (iniS 5) (c 2)
  x3 : Cls K mg "NoChoice" "number" "NoChoice.__init__" "LookupError" "LookupError.__new__" "LookupError.__init__" bLE (iniS 6) (c 3)
  x4 : Cls K mg "NoNumber" "number" "NoNumber.__init__" "LookupError" "LookupError.__new__" "LookupError.__init__" bLE (iniS 7) (c 4)
  x5 : Cls K mg "TooMany" "many" "TooMany.__init__" "OverflowError" "OverflowError.__new__" "OverflowError.__init__" bOE (iniS 8) (c 5)
  kit : ((List.range 6).all fun i => (List.range 6).all fun j => PySem.W.kitOne K (.ref (c i)) (.ref (c j)) == some (decide (i = j))) = true
  k_ValueError : ((List.range 6).all fun i => PySem.W.kitOne K (.ref (c i)) (.type "ValueError") == some (decide (i ∈ [0, 1]))) = true
  b_ValueError : mg "ValueError" = none
  k_LookupError : ((List.range 6).all fun i => PySem.W.kitOne K (.ref (c i)) (.type "LookupError") == some (decide (i ∈ [2, 3, 4]))) = true
  b_LookupError : mg "LookupError" = none
  exm : ((List.range 6).all fun i => PySem.W.exmAny K (.ref (c i)) [.ref (c 0), .ref (c 1), .ref (c 3), .ref (c 4), .ref (c 2)] == some (decide (i ∈ [0, 1, 3, 4, 2]))) = true
variable {c : Nat → Addr}
theorem TopX.h_Impossible (Y : TopX K mg c) : mg "Impossible" = some (.ref (c 0)) := Y.x0.here
theorem TopX.h_Misfit (Y : TopX K mg c) : mg "Misfit" = some (.ref (c 1)) := Y.x1.here
theorem TopX.h_NoTime (Y : TopX K mg c) : mg "NoTime" = some (.ref (c 2)) := Y.x2.here
theorem TopX.h_NoChoice (Y : TopX K mg c) : mg "NoChoice" = some (.ref (c 3)) := Y.x3.here
theorem TopX.h_NoNumber (Y : TopX K mg c) : mg "NoNumber" = some (.ref (c 4)) := Y.x4.here
theorem all_lt {n : Nat} {f : Nat → Bool} (h : (List.range n).all f = true) {i : Nat} (hi : i < n) : f i = true := List.all_eq_true.mp h i (List.mem_range.mpr hi)
theorem TopX.kt (Y : TopX K mg c) {i j : Nat} (hi : i < 6) (hj : j < 6) : PySem.W.kitOne K (.ref (c i)) (.ref (c j)) = some (decide (i = j)) := eq_of_beq (all_lt (all_lt Y.kit hi) hj)
theorem TopX.kt_ValueError (Y : TopX K mg c) {i : Nat} (hi : i < 6) : PySem.W.kitOne K (.ref (c i)) (.type "ValueError") = some (decide (i ∈ [0, 1])) := eq_of_beq (all_lt Y.k_ValueError hi)
theorem TopX.kt_LookupError (Y : TopX K mg c) {i : Nat} (hi : i < 6) : PySem.W.kitOne K (.ref (c i)) (.type "LookupError") = some (decide (i ∈ [2, 3, 4])) := eq_of_beq (all_lt Y.k_LookupError hi)
theorem TopX.ex (Y : TopX K mg c) {i : Nat} (hi : i < 6) : PySem.W.exmAny K (.ref (c i)) [.ref (c 0), .ref (c 1), .ref (c 3), .ref (c 4), .ref (c 2)] = some (decide (i ∈ [0, 1, 3, 4, 2])) := eq_of_beq (all_lt Y.exm hi)
def spTfl (K : PySem.W.Frag) : Sp := fun vs H Q _ => ∃ p xs, vs = [.ref p] ∧ SqT K H p xs ∧ Q (.ref p) H
theorem ok_tfl (T : Top wd K mg) : ∃ f fd, FnOk P wd K mg base CX0 1 f fd ["value"] (spTfl K) ∧ Fun K "tuple_for_list" "tuple_for_list" s_tuple_for_list f fd ∧ Binds K fd ["value"] [] ∧ mg "tuple_for_list" = some (.ref f) := by
  obtain ⟨f, fd, F, b, m⟩ := T.d_tuple_for_list.ex
  refine ⟨f, fd, F.ok sc_tuple_for_list (fun vs H Q E h => ?_) (fun cdv A outer s H vs Q E hr h => ?_), F, b, m⟩
  · obtain ⟨p, xs, rfl, _⟩ := h
    rfl
  · obtain ⟨p, xs, rfl, hS, q⟩ := h
    refine ⟨_, pss_cons (ps_if (pt_val (pe_callB call_isi (by rfl) T.b_isinstance (by decide +kernel) (pa_cons (pv 0) (pa_cons (pe_bltn (v := .ty "list") (by rfl) T.b_list (by decide +kernel) rfl) pa_nil)))) (pss_one ps_never) pss_nil) (pss_one (ps_ret (pv 0))), ?_⟩
    refine ⟨_, rfl, .ref p, .ty "list", _, _, false, rfl, .ty _, tyx_T hS, kit_ty (show kitB "tuple" "list" = some false by decide +kernel), ?_⟩
    exact ⟨false, rfl, iteF ⟨_, rfl, q⟩⟩
theorem si_0 : FnScope ["self", "evidence"] ["self", "evidence"] (defScope (iniS 3)) := ⟨rfl, rfl, rfl, by decide +kernel, rfl, by decide +kernel, by decide +kernel⟩
theorem mk_Impossible (T : Top wd K mg) (Y : TopX K mg c) : MkD P wd K mg base "Impossible" "evidence" true (c 0) := by
  obtain ⟨fI, fd, h1, h2, F, b⟩ := Y.x0.ini
  obtain ⟨fT, fdT, GT, FT, bT, gT⟩ := ok_tfl (P := P) (base := base) T
  refine ⟨Y.x0.here, _, _, _, _, fI, fd, Y.x0.xc, Y.x0.ty, h1, h2, (F.ok (k := 1) si_0 (fun vs H Q E h => ?_) (fun cdv A outer s H vs Q E hr h => ?_)), b⟩
  · obtain ⟨a, y, rfl, _⟩ := h
    rfl
  · obtain ⟨a, y, rfl, ha, hp, q⟩ := h
    obtain ⟨p, xs, rfl, hS⟩ := hp rfl
    exact ⟨_, pss_one (ps_fld Y.x0.xc (taker Y.x0.fld) (pv 0) (pe_call GT hr (by rfl) gT FT.kp bT .nil pass0 (pa_cons (pv 1) pa_nil))), _, rfl, p, xs, rfl, hS, _, rfl, a, rfl, ha, fun dx hd ne => q dx hd ne⟩
theorem names_Impossible {X : Cx} (hm : X.mg "Impossible" = some (.ref (c 0))) (hg : Gl X "Impossible" := by rfl) : Names X "Impossible" (.ref (c 0)) := ⟨hg, by decide, .inl hm⟩
theorem si_1 : FnScope ["self", "time"] ["self", "time"] (defScope (iniS 4)) := ⟨rfl, rfl, rfl, by decide +kernel, rfl, by decide +kernel, by decide +kernel⟩
theorem mk_Misfit (Y : TopX K mg c) : MkD P wd K mg base "Misfit" "time" false (c 1) := by
  obtain ⟨fI, fd, h1, h2, F, b⟩ := Y.x1.ini
  refine ⟨Y.x1.here, _, _, _, _, fI, fd, Y.x1.xc, Y.x1.ty, h1, h2, (F.ok (k := 1) si_1 (fun vs H Q E h => ?_) (fun cdv A outer s H vs Q E hr h => ?_)), b⟩
  · obtain ⟨a, y, rfl, _⟩ := h
    rfl
  · obtain ⟨a, y, rfl, ha, _, q⟩ := h
    exact ⟨_, pss_one (ps_fld Y.x1.xc (taker Y.x1.fld) (pv 0) (pv 1)), _, rfl, _, rfl, a, rfl, ha, fun dx hd ne => q dx hd ne⟩
theorem names_Misfit {X : Cx} (hm : X.mg "Misfit" = some (.ref (c 1))) (hg : Gl X "Misfit" := by rfl) : Names X "Misfit" (.ref (c 1)) := ⟨hg, by decide, .inl hm⟩
theorem si_2 : FnScope ["self", "time"] ["self", "time"] (defScope (iniS 5)) := ⟨rfl, rfl, rfl, by decide +kernel, rfl, by decide +kernel, by decide +kernel⟩
theorem mk_NoTime (Y : TopX K mg c) : MkD P wd K mg base "NoTime" "time" false (c 2) := by
  obtain ⟨fI, fd, h1, h2, F, b⟩ := Y.x2.ini
  refine ⟨Y.x2.here, _, _, _, _, fI, fd, Y.x2.xc, Y.x2.ty, h1, h2, (F.ok (k := 1) si_2 (fun vs H Q E h => ?_) (fun cdv A outer s H vs Q E hr h => ?_)), b⟩
  · obtain ⟨a, y, rfl, _⟩ := h
    rfl
  · obtain ⟨a, y, rfl, ha, _, q⟩ := h
    exact ⟨_, pss_one (ps_fld Y.x2.xc (taker Y.x2.fld) (pv 0) (pv 1)), _, rfl, _, rfl, a, rfl, ha, fun dx hd ne => q dx hd ne⟩
theorem names_NoTime {X : Cx} (hm : X.mg "NoTime" = some (.ref (c 2))) (hg : Gl X "NoTime" := by rfl) : Names X "NoTime" (.ref (c 2)) := ⟨hg, by decide, .inl hm⟩
theorem names_NoChoice {X : Cx} (hm : X.mg "NoChoice" = some (.ref (c 3))) (hg : Gl X "NoChoice" := by rfl) : Names X "NoChoice" (.ref (c 3)) := ⟨hg, by decide, .inl hm⟩
theorem si_4 : FnScope ["self", "number"] ["self", "number"] (defScope (iniS 7)) := ⟨rfl, rfl, rfl, by decide +kernel, rfl, by decide +kernel, by decide +kernel⟩
theorem mk_NoNumber (Y : TopX K mg c) : MkD P wd K mg base "NoNumber" "number" false (c 4) := by
  obtain ⟨fI, fd, h1, h2, F, b⟩ := Y.x4.ini
  refine ⟨Y.x4.here, _, _, _, _, fI, fd, Y.x4.xc, Y.x4.ty, h1, h2, (F.ok (k := 1) si_4 (fun vs H Q E h => ?_) (fun cdv A outer s H vs Q E hr h => ?_)), b⟩
  · obtain ⟨a, y, rfl, _⟩ := h
    rfl
  · obtain ⟨a, y, rfl, ha, _, q⟩ := h
    exact ⟨_, pss_one (ps_fld Y.x4.xc (taker Y.x4.fld) (pv 0) (pv 1)), _, rfl, _, rfl, a, rfl, ha, fun dx hd ne => q dx hd ne⟩
theorem names_NoNumber {X : Cx} (hm : X.mg "NoNumber" = some (.ref (c 4))) (hg : Gl X "NoNumber" := by rfl) : Names X "NoNumber" (.ref (c 4)) := ⟨hg, by decide, .inl hm⟩
end
open PySem PySem.Spec PyProof.Rows L2 OgR Evl Dw OgM Gx
def rowT (row : List Int) : PyData := .tuple (row.map .int)
def cntT (row : List Int) : List PyData := (List.range row.length).map fun i => .int ((segs (row.take (i + 1))).length : Nat)
theorem ix_step (w : Wd) : (1 : Int) - ((w.ix : Nat) : Int) = w.step := by cases w <;> rfl
section
variable {P : Program} {wd : World} {K : PySem.W.Frag} {mg : Str → Option Value} {base : Heap} {c : Nat → Addr}
def f_nb : FP := fun ds R => ∃ d row, ds = [d] ∧ IsR d row ∧ row.Nodup ∧ row.length ≤ 900 ∧ R (.list ((picks row).map fun c => .int (c.1.ix : Nat)))
theorem ok_neighbours (T : Top wd K mg) : Def P wd K mg base 1 "neighbours" s_neighbours ["row"] (spP K f_nb) := by
  obtain ⟨f, fd, F, b, m⟩ := T.d_neighbours.ex
  refine ⟨f, fd, fnG_ok ((Og.ok_nb (k := 0) F).imp fun vs H Q E h => ?_), F, b, m⟩
  obtain ⟨G, ds, R, gh, hd, ⟨d, row, rfl, hr, hn, hl, q⟩, k⟩ := h
  obtain ⟨v, rfl, hv⟩ := dpa_one hd
  obtain ⟨bb, p, rfl, hs⟩ := dp_row gh hv hr
  refine ⟨bb, p, row, rfl, hs, hn, hl, fun H' t eh ht ht' => k _ _ (nwG G H H') H' q (nwG_up gh) eh (nwG_in gh eh) nwG_nw (.lst (by rw [nwG_at ht]; exact ht') ?_)⟩
  induction picks row with
  | nil => exact .nil
  | cons c cs ih => exact .cons (.int _) ih
def f_groups : FP := fun ds R => ∃ d row, ∃ n : Nat, ds = [d] ∧ IsR d row ∧ OgM.Row (n : Nat) row ∧ row.length ≤ 900 ∧ R (.tuple (cntT row))
theorem ok_groups (T : Top wd K mg) : Def P wd K mg base 2 "groups" s_groups ["row"] (spP K f_groups) := by
  have g_neighbours := ok_neighbours (P := P) (base := base) T
  refine Def.pure T.d_groups sc_groups (fun ds R h => by obtain ⟨_, _, _, rfl, _⟩ := h; rfl) (fun f cdv A outer s H G E ds R hG hr h => ?_)
  obtain ⟨d, row, n, rfl, hd, hR, hl, q⟩ := h
  refine ⟨_, _, (dss_cons (ds_own 1 sc_groups.nd (do_lst da_nil))
      (dss_cons (ds_set 2 sc_groups.nd de_int)
      (dss_cons (ds_for PassesOwn.never (by rfl) (di_seq rfl (de_c g_neighbours hG (hr.mono (by omega)) (by rfl) (da_cons (de_v 0) da_nil))) (dg_name 3 sc_groups.nd)
        (dss_cons (ds_iadd 2 sc_groups.nd (de_bin o_sub (DE.p de_int) (dp_v 3)))
        (dss_one (ds_app 1 rfl (de_v 2)))))
      (dss_one (ds_ret (de_tupleOf rfl (by rfl) T.b_tuple (dp_v 1))))))), ?_⟩
  walk_at "s1"
  refine ⟨d, row, rfl, hd, hR.nd, hl, rfl, ?_⟩
  refine forD_by (fun i s2 => ∃ y3, i ≤ row.length ∧ s2 = ⟨[some (.d d), some (.own ((List.range i).map fun j => .int ((segs (row.take (j + 1))).length : Nat))), some (.d (.int ((segs (row.take i)).length : Nat))), y3], 0, []⟩) ⟨none, Nat.zero_le _, rfl⟩ (fun i d1 s2 J e2 inv hJ => ?_) (fun s2 inv => ?_)
  · obtain ⟨y3, hi, rfl⟩ := inv
    have e2 : ((picks row).map fun c => PyData.int (c.1.ix : Nat))[i]? = some d1 := e2
    rw [List.getElem?_map] at e2
    obtain ⟨⟨w, k⟩, hc, rfl⟩ := Option.map_eq_some_iff.mp e2
    have hi2 : i < row.length := by
      have := (List.getElem?_eq_some_iff.mp hc).1
      rw [picks_len] at this
      exact this
    obtain ⟨n1, n2⟩ := picks_next hR hc
    walk_at "s1"
    have e3 : ((segs (row.take i)).length : Int) + (1 - ((w.ix : Nat) : Int)) = ((segs (row.take (i + 1))).length : Nat) := by
      rw [ix_step, n1]
      exact (nextM_step (by omega)).symm
    have e4 : ∀ x : Int, ((segs (row.take i)).length : Int) + 1 - x = ((segs (row.take i)).length : Int) + (1 - x) := fun x => by omega
    first | rw [e3] | (rw [e4, e3])
    have e5 : (List.range i).map (fun j => PyData.int ((segs (row.take (j + 1))).length : Nat)) ++ [PyData.int ((segs (row.take (i + 1))).length : Nat)] = (List.range (i + 1)).map fun j => PyData.int ((segs (row.take (j + 1))).length : Nat) := by
      rw [List.range_succ, List.map_append]
      rfl
    rw [e5]
    exact ⟨by rw [List.length_map, List.length_range]; omega, hJ _ ⟨_, hi2, rfl⟩⟩
  · obtain ⟨y3, hi, rfl⟩ := inv
    walk_at "s1"
    rw [List.length_map, picks_len]
    exact q
def truV (row : List Int) (t : Nat) : NV → NV
  | .g _ => .g (segs (row.take (t + 1))).length
  | .h _ => .h ((picks row)[t]?.getD (.new, 0)).1
theorem shp_val (v : NV) : Shp (valD v) := by
  cases v
  · exact rfl
  · exact shp_z (sok_w _)
theorem eqv_val (row : List Int) (t : Nat) (v : NV) : (valD (truV row t v)).eqv (valD v) = decide (truV row t v = v) := by
  cases v with
  | g x =>
    show PyData.eqv (.int _) (.int _) = decide (NV.g _ = NV.g x)
    rw [eqv_int]
    simp only [NV.g.injEq]
    by_cases h : (segs (row.take (t + 1))).length = x
    · rw [decide_eq_true h, decide_eq_true (by omega)]
    · rw [decide_eq_false h, decide_eq_false (by omega)]
  | h x =>
    show PyData.eqv (.str _) (.str _) = decide (NV.h _ = NV.h x)
    rw [eqv_str]
    simp only [NV.h.injEq, wstr_inj]
def f_true : FP := fun ds R => ∃ d row, ∃ n t : Nat, ∃ v : NV, ds = [d, .int (t : Nat), .str (sortS v)] ∧ IsR d row ∧ OgM.Row (n : Nat) row ∧ row.length ≤ 900 ∧ t < row.length ∧ R (valD (truV row t v))
theorem ok_true_value (T : Top wd K mg) : Def P wd K mg base 3 "true_value" s_true_value ["row", "time", "sort"] (spP K f_true) := by
  have g_groups := ok_groups (P := P) (base := base) T
  have g_houses := ok_houses (P := P) (base := base) T
  refine Def.pure T.d_true_value sc_true_value (fun ds R h => by obtain ⟨_, _, _, _, _, rfl, _⟩ := h; rfl) (fun f cdv A outer s H G E ds R hG hr h => ?_)
  obtain ⟨d, row, n, t, v, rfl, hd, hR, hl, ht, q⟩ := h
  refine ⟨_, _, (dss_cons (ds_if (dt_cmp (o_eq rfl hr.units) (dp_v 2) (DE.p de_str)) (dss_one (ds_ret (de_ix rfl (DE.p (de_c g_groups hG (hr.mono (by omega)) (by rfl) (da_cons (de_v 0) da_nil))) (dp_v 1)))) dss_nil)
      (dss_one (ds_ret (de_ix rfl (DE.p (de_c g_houses hG (hr.mono (by omega)) (by rfl) (da_cons (de_v 0) da_nil))) (dp_v 1))))), ?_⟩
  walk_at "s1"
  cases v with
  | g x =>
    refine ⟨shp_str _, (if_pos rfl).mpr ⟨d, row, n, rfl, hd, hR, hl, rfl, _, ?_, q⟩⟩
    show atI (cntT row) (t : Int) = _
    unfold cntT
    rw [at_nat (by rw [List.length_map, List.length_range]; exact ht), List.getElem?_map, List.getElem?_eq_getElem (by rw [List.length_range]; exact ht), List.getElem_range]
    rfl
  | h x =>
    refine ⟨shp_str _, (if_neg (show ¬ (Str.ofString "house" = Str.ofString "groups") by decide +kernel)).mpr ⟨d, row, rfl, hd, hR.nd, hl, rfl, _, ?_, q⟩⟩
    show atI (wdsD row) (t : Int) = _
    unfold wdsD truV
    rw [at_nat (by rw [List.length_map, picks_len]; exact ht), List.getElem?_map, List.getElem?_eq_getElem (by rw [picks_len]; exact ht)]
    rfl
def f_untrue : FP := fun ds R => ∃ e d row, ∃ n : Nat, ∃ ns : List Nt, ds = [e, d] ∧ IsNts e ns ∧ IsR d row ∧ OgM.Row (n : Nat) row ∧ row.length ≤ 900 ∧ ns.length ≤ 10000 ∧ (∀ x ∈ ns, x.t < row.length) ∧ R (.list ((ns.filter fun x => decide (truV row x.t x.v ≠ x.v)).map fun x => .int (x.t : Nat)))
theorem ok_untrue_times (T : Top wd K mg) : Def P wd K mg base 4 "untrue_times" s_untrue_times ["notes", "row"] (spP K f_untrue) := by
  have g_true_value := ok_true_value (P := P) (base := base) T
  refine Def.pure T.d_untrue_times sc_untrue_times (fun ds R h => by obtain ⟨_, _, _, _, _, rfl, _⟩ := h; rfl) (fun f cdv A outer s H G E ds R hG hr h => ?_)
  obtain ⟨e, d, row, n, ns, rfl, he, hd, hR, hl, hns, ht, q⟩ := h
  refine ⟨_, _, (dss_one (ds_ret (DO.d (do_lc (own := [("time", 2), ("sort", 3), ("value", 4)]) (by rfl) sc_untrue_times.nd (di_seq rfl (de_v 0)) (blkOk_by (own := [("time", 2), ("sort", 3), ("value", 4)]) (N := ["notes", "row", "time", "sort", "value"]) (sc := defScope s_untrue_times) (by decide +kernel)) (fun _ _ _ _ _ => (dg_tup (n := 3) rfl (by rfl) (dgs_c (dg_name 2 sc_untrue_times.nd (hf := by first | exact Or.inr rfl | exact Or.inl rfl)) (dgs_c (dg_name 3 sc_untrue_times.nd (hf := by first | exact Or.inr rfl | exact Or.inl rfl)) (dgs_c (dg_name 4 sc_untrue_times.nd (hf := by first | exact Or.inr rfl | exact Or.inl rfl)) dgs_nil))))) (ts_one fun _ _ _ _ _ => (dt_cmp (o_ne rfl hr.units) (DE.p (de_c g_true_value hG (hr.mono (by omega)) (by rfl) (da_cons (de_v 1) (da_cons (de_v 2) (da_cons (de_v 3) da_nil))))) (dp_v 4))) (fun _ _ _ _ _ => (de_v 2)))))), ?_⟩
  walk_at "s1"
  have one : ∀ (x : Nt), x ∈ ns → ∀ (acc : List PyData) (J : List PyData → Cs → Prop), acc.length < 100000 → (∀ y, (if truV row x.t x.v = x.v then none else some (PyData.int (x.t : Nat))) = some y → J (acc ++ [y]) ⟨0, []⟩) → ((if truV row x.t x.v = x.v then none else some (PyData.int (x.t : Nat))) = none → J acc ⟨0, []⟩) →
      f_true [d, .int (x.t : Nat), .str (sortS x.v)] fun d_1 => Shp d_1 ∧ Shp (valD x.v) ∧ if d_1.eqv (valD x.v) = false then acc.length < 100000 ∧ J (acc ++ [.int (x.t : Nat)]) ⟨0, []⟩ else J acc ⟨0, []⟩ := fun x hx acc J hacc h1 h0 => by
    refine ⟨d, row, n, x.t, x.v, rfl, hd, hR, hl, ht x hx, shp_val _, shp_val _, ?_⟩
    rw [eqv_val]
    by_cases hq : truV row x.t x.v = x.v
    · rw [if_neg (by rw [decide_eq_true hq]; decide)]
      exact h0 (if_pos hq)
    · rw [if_pos (by rw [decide_eq_false hq])]
      exact ⟨hacc, h1 _ (if_neg hq)⟩
  have efm : ns.filterMap (fun x => if truV row x.t x.v = x.v then none else some (PyData.int (x.t : Nat))) = (ns.filter fun x => decide (truV row x.t x.v ≠ x.v)).map fun x => .int (x.t : Nat) := by
    clear one ht q hns he
    induction ns with
    | nil => rfl
    | cons x l ih =>
      rw [List.filterMap_cons, List.filter_cons, ih]
      by_cases hq : truV row x.t x.v = x.v
      · rw [if_pos hq, if_neg (by simp [hq])]
      · rw [if_neg hq, if_pos (by simp [hq])]
        rfl
  rw [← efm] at q
  rcases he with rfl | rfl
  · refine ⟨rfl, lcD_enc ns ntD _ (by omega) (fun x hx acc J hacc h1 h0 => ?_) q⟩
    simp only [ntD]
    walk_at "s1"
    exact one x hx acc J hacc h1 h0
  · refine ⟨rfl, lcD_enc ns ntL _ (by omega) (fun x hx acc J hacc h1 h0 => ?_) q⟩
    simp only [ntL]
    walk_at "s1"
    exact one x hx acc J hacc h1 h0
end
local macro_rules | `(tactic| walk_at "s2") => `(tactic| simp only [wPubO, wC, wV, wPub, wP, wCons, wTup, wLst, wL, w2, wTest, wChain, wAnd, wOr, Dw.wNot, wAndV, wOrV, wNotV, wIf, Dw.wTru, truD, gI0, gI, gEq, gNe, gIn, gIsN, gNotN, gIsB, gNotB, gCatT, gCatS, gIx, wCat, wRep, w1, w1O, gLen, gTupleOf, gListOf, wRg1, gInt, gStr, w2a, wSlT, wSlL, wSlS, wRevT, wNeg, wCall, wCallB, wName, wGNil_n, wGCons_c, wGTup, wSeq, wRng1, wEnum, wZip, wNext, wSq, wRet, wIfS, wDrop, wAsg, wOwn, wAug, wMeth, fAppend, wFor_eq, wWhile_eq, wipeD, wLc_eq, Dw.wNm, wPar, wGix, wDix, wCatP, wPopTo, fPop, fPopAt, fIns, wSetIx, gRepr, gMinT, gNeS, gRepN, wDGet2, wDPut, wTPut, wTGet, gSrtR, gSrtA, gLtP, wSlB, wStar, wRaise, wNmX, wXat, wXis, gEqS, wYd, wYdic, wYfn, wYg, wCallD, wCallV, wSetN, wDcT, wTGet2, wTGet1, dicAt, wRng2, wRngD, wRevR, gRevL, wIsi, wNotT, wAugIx, wPeekO, wPick2, wExt, fRem, look_d, look_own, shpI, shpB, shpN, shpS, seqT, seqL, itsT, itsL, lenT, lenL, okFF, eqv_str, eqv_int, eqv_bool, isNone, perm, Dt.set, Dt.sets, env0, List.map_cons, List.map_nil, List.cons_append, List.nil_append, List.getElem?_cons_zero, List.getElem?_cons_succ, List.set_cons_succ, List.set_cons_zero, List.filterMap_cons, List.filterMap_nil, Option.some.injEq, DV.d.injEq, DV.own.injEq, DV.dit.injEq, DV.dd.injEq, DV.oth.injEq, reduceCtorEq, false_or, or_false, false_and, and_false, exists_false, PyData.int.injEq, PyData.bool.injEq, PyData.str.injEq, PyData.tuple.injEq, PyData.list.injEq, List.cons.injEq, exists_eq_left, exists_eq_left', exists_eq_right, exists_eq_right', exists_and_left, exists_eq', exists_eq, and_true, true_and, and_self, and_assoc, List.length_cons, List.length_nil, List.replicate, Nat.reduceAdd, Nat.reduceSub, Nat.reduceLeDiff, Nat.zero_le, decide_eq_true_eq, Bool.not_eq_true', decide_eq_false_iff_not, ite_true, ite_false, if_true, if_false, Bool.false_eq_true, Bool.true_eq_false, eq_self, List.reduceReplicate, Bool.not_true, Bool.not_false, reduceIte])
def prI (x : Int × Int) : PyData := .tuple [.int x.1, .int x.2]
def optW : Option Wd → PyData
  | none => .none
  | some w => .str (wstr w)
def optN : Option Nat → PyData
  | none => .none
  | some n => .int (n : Nat)
def evD : Ev → PyData
  | .ok => .none
  | .stuck t => .tuple [.str "stuck", .int t]
  | .room n => .tuple [.str "room", .int n]
theorem least_mem (w : Wd) : (wstr w, PyData.int (leastF w)) ∈ ([("new", .int 0), ("beside", .int 1), ("between", .int 2)] : List (Str × PyData)) := by
  cases w
  · exact List.mem_cons_self
  · exact List.mem_cons_of_mem _ List.mem_cons_self
  · exact List.mem_cons_of_mem _ (List.mem_cons_of_mem _ List.mem_cons_self)
section
variable {P : Program} {wd : World} {K : PySem.W.Frag} {mg : Str → Option Value} {base : Heap} {c : Nat → Addr}
def f_free : FP := fun ds R => ∃ lo hi k : Int, ds = [.int lo, .int hi, .int k] ∧ R (prI (aFree lo hi k))
theorem ok_after_free_houses (T : Top wd K mg) : Def P wd K mg base 1 "after_free_houses" s_after_free_houses ["low", "high", "many"] (spP K f_free) := by
  refine Def.pure T.d_after_free_houses sc_after_free_houses (fun ds R h => by obtain ⟨_, _, _, rfl, _⟩ := h; rfl) (fun f cdv A outer s H G E ds R hG hr h => ?_)
  obtain ⟨lo, hi, k, rfl, q⟩ := h
  refine ⟨_, _, (dss_cons (ds_if (dt_cmp (o_eq rfl hr.units) (dp_v 2) (DE.p de_int)) (dss_one (ds_ret (de_tup (da_cons (de_v 0) (da_cons (de_v 1) da_nil))))) dss_nil)
      (dss_one (ds_ret (de_tup (da_cons (de_max2 (by rfl) (by rfl) T.b_max (de_bin o_sub (dp_v 0) (dp_v 2)) de_int) (da_cons (de_bin o_add (dp_v 1) (dp_v 2)) da_nil)))))), ?_⟩
  walk_at "s2"
  unfold aFree at q
  by_cases hk : k = 0
  · rw [if_pos hk] at q
    rw [if_pos hk]
    exact q
  · rw [if_neg hk] at q
    rw [if_neg hk]
    exact q
def f_anoted : FP := fun ds R => ∃ lo hi : Int, ∃ o : Option Wd, ds = [.int lo, .int hi, optW o] ∧ R (prI (aNoted lo hi o))
theorem ok_after_noted_house (T : Top wd K mg) : Def P wd K mg base 2 "after_noted_house" s_after_noted_house ["low", "high", "word"] (spP K f_anoted) := by
  have g_after_free_houses := ok_after_free_houses (P := P) (base := base) T
  refine Def.pure T.d_after_noted_house sc_after_noted_house (fun ds R h => by obtain ⟨_, _, _, rfl, _⟩ := h; rfl) (fun f cdv A outer s H G E ds R hG hr h => ?_)
  obtain ⟨lo, hi, o, rfl, q⟩ := h
  refine ⟨_, _, (dss_cons (ds_if (dt_cmp o_isN (dp_v 2) (DE.p de_non)) (dss_one (ds_ret (de_c g_after_free_houses hG (hr.mono (by omega)) (by rfl) (da_cons (de_v 0) (da_cons (de_v 1) (da_cons de_int da_nil)))))) dss_nil)
      (dss_one (ds_ret (de_tup (da_cons (de_bin o_add (DE.p (de_max2 (by rfl) (by rfl) T.b_max (de_v 0) (de_gix T.c_LEAST_FOUND rfl (by rfl) (de_v 2)))) (DE.p (de_gix T.c_STEPS rfl (by rfl) (de_v 2)))) (da_cons (de_bin o_add (dp_v 1) (DE.p (de_gix T.c_STEPS rfl (by rfl) (de_v 2)))) da_nil)))))), ?_⟩
  cases o with
  | none =>
    simp only [optW]
    walk_at "s2"
    exact ⟨lo, hi, 1, rfl, q⟩
  | some w =>
    simp only [optW]
    walk_at "s2"
    exact ⟨_, least_mem w, _, rfl, _, step_mem w, _, rfl, _, step_mem w, _, rfl, q⟩
def f_within : FP := fun ds R => ∃ lo hi : Int, ∃ o : Option Nat, ds = [.int lo, .int hi, optN o] ∧ R (prI (aWith lo hi o))
theorem ok_within_note (T : Top wd K mg) : Def P wd K mg base 1 "within_note" s_within_note ["low", "high", "value"] (spP K f_within) := by
  refine Def.pure T.d_within_note sc_within_note (fun ds R h => by obtain ⟨_, _, _, rfl, _⟩ := h; rfl) (fun f cdv A outer s H G E ds R hG hr h => ?_)
  obtain ⟨lo, hi, o, rfl, q⟩ := h
  refine ⟨_, _, (dss_cons (ds_if (dt_cmp o_isN (dp_v 2) (DE.p de_non)) (dss_one (ds_ret (de_tup (da_cons (de_v 0) (da_cons (de_v 1) da_nil))))) dss_nil)
      (dss_one (ds_ret (de_tup (da_cons (de_max2 (by rfl) (by rfl) T.b_max (de_v 0) (de_v 2)) (da_cons (de_min2 (by rfl) (by rfl) T.b_min (de_v 1) (de_v 2)) da_nil)))))), ?_⟩
  cases o with
  | none =>
    simp only [optN]
    walk_at "s2"
    exact q
  | some w =>
    simp only [optN]
    walk_at "s2"
    exact q
def f_evid : FP := fun ds R => ∃ d p T ns, ds = [d] ∧ Bk d p T ns ∧ ns.length ≤ 60 ∧ ∀ ks : List Int, ks.Pairwise (· < ·) → (∀ k : Int, k ∈ ks ↔ ∃ x ∈ ns, (x.t : Int) = k) → R (evD (evGo ns p T ks 0 0 0))
theorem ok_evidence (T : Top wd K mg) : Def P wd K mg base 3 "evidence" s_evidence ["journal"] (spP K f_evid) := by
  have g_after_free_houses := ok_after_free_houses (P := P) (base := base) T
  have g_after_noted_house := ok_after_noted_house (P := P) (base := base) T
  have g_within_note := ok_within_note (P := P) (base := base) T
  have g_noted_values := ok_noted_values (P := P) (base := base) T
  refine Def.pure T.d_evidence sc_evidence (fun ds R h => by obtain ⟨_, _, _, _, rfl, _⟩ := h; rfl) (fun f cdv A outer s H G E ds R hG hr h => ?_)
  obtain ⟨d, p, n, ns, rfl, hB, hl, q⟩ := h
  obtain ⟨e, he, hs1, hs2⟩ := hB.1.sq
  refine ⟨_, _, (dss_cons (ds_asg (de_v 0) (dg_tup (n := 3) rfl (by rfl) (dgs_c (dg_name 1 sc_evidence.nd) (dgs_c (dg_name 2 sc_evidence.nd) (dgs_c (dg_name 3 sc_evidence.nd) dgs_nil)))))
      (dss_cons (ds_setN 4 g_noted_values sc_evidence.nd hG (hr.mono (by omega)) (by rfl) (dy_d (de_v 3) dy_nil))
      (dss_cons (ds_parT [5, 6, 7] rfl (pg_tup rfl (pgs_cons (pg_name (i := 5) sc_evidence.nd rfl (.inl rfl)) (pgs_cons (pg_name (i := 6) sc_evidence.nd rfl (.inl rfl)) (pgs_cons (pg_name (i := 7) sc_evidence.nd rfl (.inl rfl)) pgs_nil)))) rfl (dx_cons (DE.dx de_int) (dx_cons (DE.dx de_int) (dx_cons (DE.dx de_int) dx_nil))))
      (dss_cons (ds_for PassesOwn.never (by rfl) (di_seq rfl (DO.d (do_srtSet rfl (by rfl) (by rfl) T.b_sorted (by rfl) T.b_set (DE.p (DO.d (do_lc (own := [("note", 9)]) (by rfl) sc_evidence.nd (di_seq rfl (de_v 3)) (blkOk_by (own := [("note", 9)]) (N := ["journal", "plots", "times", "notes", "noted", "low", "high", "built", "time", "note"]) (sc := defScope s_evidence) (by decide +kernel)) (fun _ _ _ _ _ => (dg_name 9 sc_evidence.nd (hf := by first | exact Or.inr rfl | exact Or.inl rfl))) ts_no (fun _ _ _ _ _ => (de_ix rfl (dp_v 9) (DE.p de_int))))))))) (dg_name 8 sc_evidence.nd)
        (dss_cons (ds_asg (de_c g_after_free_houses hG (hr.mono (by omega)) (by rfl) (da_cons (de_v 5) (da_cons (de_v 6) (da_cons (de_bin o_sub (dp_v 8) (dp_v 7)) da_nil)))) (dg_tup (n := 2) rfl (by rfl) (dgs_c (dg_name 5 sc_evidence.nd) (dgs_c (dg_name 6 sc_evidence.nd) dgs_nil))))
        (dss_cons (ds_asg (de_c g_after_noted_house hG (hr.mono (by omega)) (by rfl) (da_cons (de_v 5) (da_cons (de_v 6) (da_cons (de_tget1 4 (hu_of hr) (da_cons (de_v 8) (da_cons de_str da_nil))) da_nil)))) (dg_tup (n := 2) rfl (by rfl) (dgs_c (dg_name 5 sc_evidence.nd) (dgs_c (dg_name 6 sc_evidence.nd) dgs_nil))))
        (dss_cons (ds_asg (de_c g_within_note hG (hr.mono (by omega)) (by rfl) (da_cons (de_v 5) (da_cons (de_v 6) (da_cons (de_tget1 4 (hu_of hr) (da_cons (de_v 8) (da_cons de_str da_nil))) da_nil)))) (dg_tup (n := 2) rfl (by rfl) (dgs_c (dg_name 5 sc_evidence.nd) (dgs_c (dg_name 6 sc_evidence.nd) dgs_nil))))
        (dss_cons (ds_if (dt_cmp o_gt (dp_v 5) (dp_v 6)) (dss_one (ds_ret (de_tup (da_cons de_str (da_cons (de_v 8) da_nil))))) dss_nil)
        (dss_one (ds_set 7 sc_evidence.nd (de_bin o_add (dp_v 8) (DE.p de_int)))))))))
      (dss_cons (ds_asg (de_c g_after_free_houses hG (hr.mono (by omega)) (by rfl) (da_cons (de_v 5) (da_cons (de_v 6) (da_cons (de_bin o_sub (dp_v 2) (dp_v 7)) da_nil)))) (dg_tup (n := 2) rfl (by rfl) (dgs_c (dg_name 5 sc_evidence.nd) (dgs_c (dg_name 6 sc_evidence.nd) dgs_nil))))
      (dss_cons (ds_if (dt_cmp o_gt (dp_v 5) (DE.p (de_bin o_add (DE.p (de_bin o_sub (dp_v 1) (dp_v 2))) (DE.p de_int)))) (dss_one (ds_ret (de_tup (da_cons de_str (da_cons (de_v 5) da_nil))))) dss_nil)
      (dss_one (ds_ret de_non)))))))), ?_⟩
  walk_at "s2"
  simp only [hs1, hs2]
  walk_at "s2"
  refine ⟨e, ns, rfl, he, by omega, ?_⟩
  obtain ⟨enc, hse, hie, henc⟩ : ∃ enc : Nt → PyData, seqd e = true ∧ its e = ns.map enc ∧ ∀ x, seqd (enc x) = true ∧ its (enc x) = [.int (x.t : Nat), .str (sortS x.v), valD x.v] := by
    rcases he with rfl | rfl
    · exact ⟨ntD, rfl, rfl, fun x => ⟨rfl, rfl⟩⟩
    · exact ⟨ntL, rfl, rfl, fun x => ⟨rfl, rfl⟩⟩
  refine ⟨hse, ?_⟩
  rw [hie]
  refine lcD_encM ns enc (fun x => .int (x.t : Nat)) (by omega) (fun x hx acc J hacc hJ => ?_) ?_
  · walk_at "s2"
    exact ⟨(henc x).1, _, by rw [(henc x).2]; rfl, hacc, hJ⟩
  refine ⟨ns.map fun x => (x.t : Int), by rw [List.map_map]; rfl, by rw [List.length_map]; omega, fun ks hks hkm => ?_⟩
  have hkm2 : ∀ k : Int, k ∈ ks ↔ ∃ x ∈ ns, (x.t : Int) = k := fun k => by rw [hkm k, List.mem_map]
  have hq := q ks hks hkm2
  have hk0 : ∀ k ∈ ks, 0 ≤ k := fun k hk => by
    obtain ⟨x, _, rfl⟩ := (hkm2 k).mp hk
    omega
  clear q hks hkm hkm2
  generalize hev : evGo ns p n ks 0 0 0 = ev at hq
  refine forD_by (fun i s2 => ∃ lo hi built : Int, ∃ y8, s2 = ⟨[some (.d d), some (.d (.int (p : Nat))), some (.d (.int (n : Nat))), some (.d e), some (.dit (kvsOf ns)), some (.d (.int lo)), some (.d (.int hi)), some (.d (.int built)), y8, none], 0, []⟩ ∧ evGo ns p n (ks.drop i) lo hi built = ev) ⟨0, 0, 0, none, rfl, hev⟩ (fun i d1 s2 J e2 inv hJ => ?_) (fun s2 inv => ?_)
  · obtain ⟨lo, hi, built, y8, rfl, hgo⟩ := inv
    rw [List.getElem?_map] at e2
    obtain ⟨t, ht, rfl⟩ := Option.map_eq_some_iff.mp e2
    obtain ⟨t, rfl⟩ : ∃ z : Nat, t = z := ⟨t.toNat, by have := hk0 t (List.mem_of_getElem? ht); omega⟩
    rw [drop_at ht] at hgo
    have hgo : (if (evStep ns lo hi built (t : Int)).1 > (evStep ns lo hi built (t : Int)).2 then Ev.stuck (t : Int) else evGo ns p n (ks.drop (i + 1)) (evStep ns lo hi built (t : Int)).1 (evStep ns lo hi built (t : Int)).2 ((t : Int) + 1)) = ev := hgo
    walk_at "s2"
    refine ⟨_, _, _, rfl, ?_⟩
    simp only [prI]
    walk_at "s2"
    have eh : (lookG (kvsOf ns) [.inl (t : Int), .inr "house"]).getD .none = optW (hAt ns t) := by
      rw [look_h]
      cases hAt ns t <;> rfl
    have eg : (lookG (kvsOf ns) [.inl (t : Int), .inr "groups"]).getD .none = optN (gAt ns t) := by
      rw [look_g]
      cases gAt ns t <;> rfl
    refine ⟨_, rfl, ?_⟩
    rw [eh]
    refine ⟨_, _, _, rfl, ?_⟩
    simp only [prI]
    walk_at "s2"
    refine ⟨_, rfl, ?_⟩
    rw [eg]
    refine ⟨_, _, _, rfl, ?_⟩
    simp only [prI]
    walk_at "s2"
    have es : evStep ns lo hi built (t : Int) = aWith (aNoted (aFree lo hi ((t : Int) - built)).1 (aFree lo hi ((t : Int) - built)).2 (hAt ns t)).1 (aNoted (aFree lo hi ((t : Int) - built)).1 (aFree lo hi ((t : Int) - built)).2 (hAt ns t)).2 (gAt ns t) := by
      unfold evStep
      rw [Int.toNat_natCast]
    rw [← es]
    by_cases hc : (evStep ns lo hi built (t : Int)).1 > (evStep ns lo hi built (t : Int)).2
    · rw [if_pos hc] at hgo
      rw [if_pos (by omega)]
      rw [← hgo] at hq
      exact hq
    · rw [if_neg hc] at hgo
      rw [if_neg (by omega)]
      exact hJ _ ⟨_, _, _, _, rfl, hgo⟩
  · obtain ⟨lo, hi, built, y8, rfl, hgo⟩ := inv
    rw [List.drop_eq_nil_of_le (by rw [List.length_map]; exact Nat.le_refl _)] at hgo
    walk_at "s2"
    refine ⟨_, _, _, rfl, ?_⟩
    simp only [prI]
    walk_at "s2"
    have hgo : (if (aFree lo hi ((n : Int) - built)).1 > (p : Int) - (n : Int) + 1 then Ev.room (aFree lo hi ((n : Int) - built)).1 else .ok) = ev := hgo
    by_cases hc : (aFree lo hi ((n : Int) - built)).1 > (p : Int) - (n : Int) + 1
    · rw [if_pos hc] at hgo
      rw [if_pos (by omega)]
      rw [← hgo] at hq
      exact hq
    · rw [if_neg hc] at hgo
      rw [if_neg (by omega)]
      rw [← hgo] at hq
      exact hq
end
local macro_rules | `(tactic| walk_at "d") => `(tactic| first
  | refine ⟨_, rfl, ?_⟩ | refine ⟨_, _, rfl, rfl, ?_⟩ | refine iteT ?_ | refine iteF ?_ | refine ⟨_, _, rfl, rfl, rfl, ?_⟩)
local macro_rules | `(tactic| walk_at "s3") => `(tactic| simp only [wPubO, wC, wV, wPub, wP, wCons, wTup, wLst, wL, w2, wTest, wChain, wAnd, wOr, Dw.wNot, wAndV, wOrV, wNotV, wIf, Dw.wTru, truD, gI0, gI, gEq, gNe, gIn, gIsN, gNotN, gIsB, gNotB, gCatT, gCatS, gIx, wCat, wRep, w1, w1O, gLen, gTupleOf, gListOf, wRg1, gInt, gStr, w2a, wSlT, wSlL, wSlS, wRevT, wNeg, wCall, wCallB, wName, wGNil_n, wGCons_c, wGTup, wSeq, wRng1, wEnum, wZip, wNext, wSq, wRet, wIfS, wDrop, wAsg, wOwn, wAug, wMeth, fAppend, wFor_eq, wWhile_eq, wipeD, wLc_eq, Dw.wNm, wPar, wGix, wDix, wCatP, wPopTo, fPop, fPopAt, fIns, wSetIx, gRepr, gMinT, gNeS, gRepN, wDGet2, wDPut, wTPut, wTGet, gSrtR, gSrtA, gLtP, wSlB, wStar, wRaise, wNmX, wXat, wXis, gEqS, wYd, wYdic, wYfn, wYg, wCallD, wCallV, wSetN, wDcT, wTGet2, wTGet1, dicAt, wRng2, wRngD, wRevR, gRevL, wAppPop, gSrtSet, wIsi, wNotT, wAugIx, wPeekO, wPick2, wExt, fRem, look_d, look_own, shpI, shpB, shpN, shpS, seqT, seqL, itsT, itsL, lenT, lenL, okFF, eqv_str, eqv_int, eqv_bool, isNone, perm, Dt.set, Dt.sets, env0, List.map_cons, List.map_nil, List.cons_append, List.nil_append, List.getElem?_cons_zero, List.getElem?_cons_succ, List.set_cons_succ, List.set_cons_zero, List.filterMap_cons, List.filterMap_nil, Option.some.injEq, DV.d.injEq, DV.own.injEq, DV.dit.injEq, DV.dd.injEq, DV.oth.injEq, reduceCtorEq, false_or, or_false, false_and, and_false, exists_false, PyData.int.injEq, PyData.bool.injEq, PyData.str.injEq, PyData.tuple.injEq, PyData.list.injEq, List.cons.injEq, exists_eq_left, exists_eq_left', exists_eq_right, exists_eq_right', exists_and_left, exists_eq', exists_eq, and_true, true_and, and_self, and_assoc, List.length_cons, List.length_nil, List.replicate, Nat.reduceAdd, Nat.reduceSub, Nat.reduceLeDiff, Nat.zero_le, decide_eq_true_eq, Bool.not_eq_true', decide_eq_false_iff_not, ite_true, ite_false, if_true, if_false, Bool.false_eq_true, Bool.true_eq_false, eq_self, List.reduceReplicate, Bool.not_true, Bool.not_false, reduceIte])
local macro_rules | `(tactic| walk_at "d") => `(tactic| first
  | refine ⟨_, rfl, ?_⟩ | refine ⟨_, _, rfl, rfl, ?_⟩ | refine iteT ?_ | refine iteF ?_ | refine ⟨_, _, rfl, rfl, rfl, ?_⟩)
section
variable {P : Program} {wd : World} {K : PySem.W.Frag} {mg : Str → Option Value} {base : Heap}
def spTake : Sp := fun vs H Q _ => ∃ (l : Addr) (c n : Int), vs = [.ref l, .int n] ∧ Dw.BoxAt H l c ∧ 1 ≤ n ∧ n ≤ 10000000 ∧ c < 1000000 ∧
  ∀ r xs c', 0 ≤ r → r < n → Dw.BoxAt (upd H l (.lst xs)) l c' → c' ≤ c + 1 → Q (.int r) (upd H l (.lst xs))
theorem raw_take {f : Addr} {fd : FuncData} {k : Nat} (F : Fun K "_law_take" "_law_take" s_l_take f fd) : FnG P wd K mg base (k + 1) f fd ["_law_box_here", "_law_below"] spTake := by
  refine fnG_of F sc_l_take (fun vs H Q E h => ?_) (fun cdv A outer s H vs Q E hG hr h => ?_)
  · obtain ⟨l, c, n, rfl, _⟩ := h
    rfl
  · obtain ⟨l, c, n, rfl, ⟨a, b, hl, ha, hb, hb2, hc, hc2⟩, hn, hn2, hc3, q⟩ := h
    have hL : SqL K H l [.int a, .int b, .int c] := .inl (.inl hl)
    have X0 : ∀ {X : Cx} {j : Int} {p p1 p2 : Pos} {k : Nat} (hv : PE X (.Name "_law_box_here" p1) (tVar 0)), PE X (.Subscript (.Name "_law_box_here" p1) (.Constant (.int j) k p2) p) (tOp (rIxL X.K) (tVar 0) (fun _ H Q => Q (.int j) H)) := fun hv => pe_ix ix_list hv pe_int (fun _ _ => rfl)
    refine ⟨_, pss_cons (ps_if (pt_cmpR op_gt (X0 (pv 0)) pe_int (nomark _))
        (pss_cons (ps_set (i := 2) sc_l_take.nd rfl (.inl rfl) (pe_op op_mod (X0 (pv 0)) (pv 1)))
          (pss_cons (ps_asg (pe_op op_fdiv (X0 (pv 0)) (pv 1)) (pg_sub (pv 0) pe_int set_list))
          (pss_one (ps_ret (pv 2))))) pss_nil)
      (pss_cons (ps_if (pt_cmpR op_gt (pv 1) (pe_op op_pow pe_int pe_int) (nomark _)) (pss_one ps_never) pss_nil)
      (pss_cons (ps_asg (pe_op op_add (X0 (pv 0)) pe_int) (pg_sub (pv 0) pe_int set_list))
      (pss_cons (ps_set (i := 3) sc_l_take.nd rfl (.inl rfl) (pe_op op_mod (pe_op op_mul (pe_op op_add (X0 (pv 0)) (pe_op op_mul pe_int (X0 (pv 0)))) (pe_op op_add pe_int (X0 (pv 0)))) pe_int))
      (pss_cons (ps_set (i := 4) sc_l_take.nd rfl (.inl rfl) (pe_op op_mod (pe_op op_mul (pe_op op_add (pe_op op_add (pv 3) (X0 (pv 0))) (pe_op op_fdiv (X0 (pv 0)) pe_int)) (pe_op op_add (pe_op op_mod (pv 3) pe_int) pe_int)) pe_int))
      (pss_one (ps_ret (pe_op op_mod (pe_op op_fdiv (pe_op op_mod (pe_op op_add (pe_op op_mul (pv 4) pe_int) (pv 3)) pe_int) pe_int) (pv 1)))))))), ?_⟩
    refine ⟨_, rfl, l, _, 0, _, rfl, rfl, hL, rfl, _, _, rfl, rfl, _, rfl, ite2 (fun e => ?_) (fun e => ?_)⟩
    · have h1 := of_decide_eq_true e
      refine ⟨_, rfl, l, _, 0, _, rfl, rfl, hL, rfl, _, rfl, _, _, rfl, rfl, by omega, ?_⟩
      refine ⟨_, rfl, l, _, 0, _, rfl, rfl, hL, rfl, _, rfl, _, _, rfl, rfl, ⟨by omega, by omega⟩, _, rfl, l, _, 0, 0, rfl, rfl, hl, rfl, ?_⟩
      refine ⟨_, rfl, ?_⟩
      refine q _ _ c (Int.emod_nonneg _ (by omega)) (Int.emod_lt_of_pos _ (by omega)) ⟨_, _, upd_same, Int.ediv_nonneg ha (by omega), hb, hb2, hc, hc2⟩ (by omega)
    · refine ⟨_, rfl, _, _, rfl, rfl, ⟨by decide, by decide, by decide⟩, _, _, rfl, rfl, _, rfl, ite2 (fun e2 => ?_) (fun e2 => ?_)⟩
      · have h2 := of_decide_eq_true e2
        exact absurd h2 (by show ¬ ((10 : Int) ^ 7 < n); omega)
      · refine ⟨_, rfl, l, _, 2, _, rfl, rfl, hL, rfl, _, _, rfl, rfl, _, rfl, l, _, 2, 2, rfl, rfl, hl, rfl, ?_⟩
        have hl2 : upd H l (.lst [.int a, .int b, .int (c + 1)]) l = some (.lst [.int a, .int b, .int (c + 1)]) := upd_same
        have hL2 : SqL K (upd H l (.lst [.int a, .int b, .int (c + 1)])) l [.int a, .int b, .int (c + 1)] := .inl (.inl hl2)
        show tSeq _ _ _ _ (upd H l (.lst [.int a, .int b, .int (c + 1)]))
        refine ⟨_, rfl, l, _, 1, _, rfl, rfl, hL2, rfl, _, rfl, l, _, 2, _, rfl, rfl, hL2, rfl, _, _, rfl, rfl, .inl ⟨by decide, by decide⟩, _, _, rfl, rfl, _, rfl, l, _, 2, _, rfl, rfl, hL2, rfl, _, _, rfl, rfl, _, _, rfl, rfl, .inl ⟨by omega, by omega⟩, _, _, rfl, rfl, by omega, ?_⟩
        refine ⟨_, rfl, _, rfl, l, _, 2, _, rfl, rfl, hL2, rfl, _, _, rfl, rfl, _, rfl, l, _, 1, _, rfl, rfl, hL2, rfl, _, _, rfl, rfl, ⟨by decide, by decide⟩, _, _, rfl, rfl, _, rfl, _, _, rfl, rfl, by omega, _, _, rfl, rfl, _, _, rfl, rfl, .inr ⟨?_, ?_⟩, _, _, rfl, rfl, by omega, ?_⟩
        · have := Int.emod_nonneg ((b + 48271 * (c + 1)) * (39373 + (c + 1)) % 2147483647) (show (40009 : Int) ≠ 0 by decide); omega
        · have := Int.emod_lt_of_pos ((b + 48271 * (c + 1)) * (39373 + (c + 1)) % 2147483647) (show (0 : Int) < 40009 by decide); omega
        · refine ⟨_, rfl, _, _, rfl, rfl, .inr ⟨by decide, by decide⟩, _, rfl, _, _, rfl, rfl, _, _, rfl, rfl, by omega, _, _, rfl, rfl, ⟨by decide, by decide⟩, _, rfl, _, _, rfl, rfl, by omega, ?_⟩
          exact q _ _ (c + 1) (Int.emod_nonneg _ (by omega)) (Int.emod_lt_of_pos _ (by omega)) ⟨_, _, upd_same, ha, hb, hb2, by omega, by omega⟩ (by omega)
def f_take : FB := fun ds c R => ∃ n : Int, ds = [.int n] ∧ 1 ≤ n ∧ n ≤ 10000000 ∧ c < 1000000 ∧ ∀ r c', 0 ≤ r → r < n → c' ≤ c + 1 → R (.int r) c'
theorem ok_l_take (T : Top wd K mg) : Def P wd K mg base 1 "_law_take" s_l_take ["_law_box_here", "_law_below"] (spB K f_take) := by
  obtain ⟨f, fd, F, b, m⟩ := T.d_l_take.ex
  refine Def.imp (sp := spTake) ⟨f, fd, raw_take F, F, b, m⟩ fun vs H Q E h => ?_
  obtain ⟨l, vs', G, ds, c, R, rfl, hB, hGl, gh, p, ⟨n, rfl, h1, h2, h3, hR⟩, kk⟩ := h
  cases p with
  | cons p1 p2 =>
    cases p2
    refine ⟨l, c, n, by rw [dp_int p1], hB, h1, h2, h3, fun r xs c' r0 r1 hB' hc' => kk (.int r) (.int r) c' G _ (hR r c' r0 r1 hc') (Ex.refl G) (fun b o hb h => by rw [upd_ne hb]; exact h) hB' (fun b o h => ?_) (Nw.refl G H) (.int r)⟩
    rw [upd_ne (fun z => by rw [z, hGl] at h; cases h)]
    exact gh b o h
def f_of : FB := fun ds c R => ∃ x, ds = [x] ∧ seqd x = true ∧ 1 ≤ (its x).length ∧ (its x).length ≤ 1000 ∧ c < 1000000 ∧ ∀ d c', d ∈ its x → c' ≤ c + 1 → R d c'
theorem ok_l_of (T : Top wd K mg) : Def P wd K mg base 2 "_law_of" s_l_of ["_law_box_here", "_law_some"] (spB K f_of) := by
  have g_l_take := ok_l_take (P := P) (base := base) T
  refine Def.draws T.d_l_of sc_l_of (fun ds c R h => by obtain ⟨x, rfl, _⟩ := h; rfl) (fun f cdv A outer s H G l E ds c R hG hr h => ?_)
  obtain ⟨x, rfl, hs, h1, h2, hc, q⟩ := h
  refine ⟨_, _, (dss_one (ds_ret (de_ix rfl (dp_v 1) (DE.p (de_cB 0 g_l_take hG (hr.mono (by omega)) (by rfl) (da_cons (de_len rfl (by rfl) T.b_len (dp_v 1)) da_nil)))))), ?_⟩
  have hl : lenD x = some (its x).length := by cases x <;> first | rfl | cases hs
  refine ⟨_, x, rfl, rfl, rfl, _, x, rfl, rfl, (its x).length, hl, _, rfl, by omega, by omega, hc, fun r c' r0 r1 hc' => ?_⟩
  have hr2 : r.toNat < (its x).length := by omega
  refine ⟨r, _, hs, rfl, ?_, q _ c' (List.getElem_mem hr2) hc'⟩
  unfold atI ixN
  rw [if_pos r0, if_pos r1]
  exact List.getElem?_eq_getElem hr2
end
local macro_rules | `(tactic| walk_at "d") => `(tactic| first
  | refine ⟨_, rfl, ?_⟩ | refine ⟨_, _, rfl, rfl, ?_⟩ | refine iteT ?_ | refine iteF ?_ | refine ⟨_, _, rfl, rfl, rfl, ?_⟩ | refine ⟨rfl, ?_⟩)
def OnB (w : Nat) (C : PyData → Prop) (d : PyData) : Prop := FlB d ∨ ∃ es, (d = .list es ∨ d = .tuple es) ∧ es.length ≤ w ∧ ∀ x ∈ es, C x
theorem FlB.shp {d : PyData} (h : FlB d) : Shp d := Bd.shp (w := 0) (k := 0) h (by decide)
theorem zip_self {es : List PyData} {x : PyData} (h : x ∈ zipD es es) : ∃ d ∈ es, x = .tuple [d, d] := by
  unfold zipD at h
  induction es with
  | nil => simp at h
  | cons e es ih =>
    rw [List.zipWith_cons_cons] at h
    rcases List.mem_cons.mp h with rfl | h
    · exact ⟨e, List.mem_cons_self, rfl⟩
    · obtain ⟨d, hd, r⟩ := ih h
      exact ⟨d, List.mem_cons_of_mem _ hd, r⟩
theorem zip_len (es : List PyData) : (zipD es es).length = es.length := by unfold zipD; rw [List.length_zipWith]; omega
theorem all_true {l : List PyData} : ((l.map fun _ => true).all id) = true := by rw [List.all_map]; simp
section
variable {P : Program} {wd : World} {K : PySem.W.Frag} {mg : Str → Option Value} {base : Heap}
def f_same (C : PyData → Prop) : FP := fun ds R => ∃ d, ds = [d, d] ∧ C d ∧ R (.bool true)
def softK : Nat → PyData → PyData
  | 0, d => d
  | k + 1, d => if seqd d = true then .list ((its d).map (softK k)) else d
def f_lists (C : PyData → Prop) (g : PyData → PyData) : FP := fun ds R => ∃ d, ds = [d] ∧ C d ∧ R (g d)
theorem lists_step (T : Top wd K mg) {m w : Nat} {C : PyData → Prop} {g : PyData → PyData} (hw : w ≤ 1000) (g_l_lists : Def P wd K mg base m "_law_lists" s_l_lists ["_law_part"] (spP K (f_lists C g))) :
    Def P wd K mg base (m + 1) "_law_lists" s_l_lists ["_law_part"] (spP K (f_lists (OnB w C) fun d => if seqd d = true then .list ((its d).map g) else d)) := by
  refine Def.pure T.d_l_lists sc_l_lists (fun ds R h => by obtain ⟨d, rfl, _⟩ := h; rfl) (fun f cdv A outer s H G E ds R hG hr h => ?_)
  obtain ⟨d, rfl, hd, q⟩ := h
  refine ⟨_, _, (dss_one (ds_ret (de_if (dt_val (de_isi2 .list .tuple rfl (by rfl) T.b_isinstance (by rfl) T.b_list (by decide +kernel) (by rfl) T.b_tuple (by decide +kernel) (dp_v 0))) (DO.d (do_lc (own := [("_law_piece", 1)]) (by rfl) sc_l_lists.nd (di_seq rfl (de_v 0)) (blkOk_by (own := [("_law_piece", 1)]) (N := ["_law_part", "_law_piece"]) (sc := defScope s_l_lists) (by decide +kernel)) (fun _ _ _ _ _ => (dg_name 1 sc_l_lists.nd (hf := by first | exact Or.inr rfl | exact Or.inl rfl))) ts_no (fun _ _ _ _ _ => (de_c g_l_lists hG (hr.mono (by omega)) (by rfl) (da_cons (de_v 1) da_nil))))) (de_v 0)))), ?_⟩
  rcases hd with hf | ⟨es, he, hl, hC⟩
  · cases d with
    | list _ => exact hf.elim
    | tuple _ => exact hf.elim
    | dict _ => exact hf.elim
    | _ =>
      repeat walk_at "d"
      exact q
  · rcases he with rfl | rfl
    all_goals
      repeat walk_at "d"
      refine lc_map g (show es.length ≤ 99999 by omega) (fun x hx acc J hacc hJ => ⟨x, rfl, x, rfl, hC x hx, rfl, hacc, hJ⟩) q
theorem ok_l_lists (T : Top wd K mg) {w : Nat} (hw : w ≤ 1000) : ∀ k : Nat, Def P wd K mg base (k + 1) "_law_lists" s_l_lists ["_law_part"] (spP K (f_lists (Bd w k) (softK k)))
  | 0 => by
    have h0 : Def P wd K mg base 0 "_law_lists" s_l_lists ["_law_part"] (spP K (f_lists (fun _ => False) id)) := Def.no T.d_l_lists fun vs H Q E h => by
      obtain ⟨_, _, _, _, _, ⟨_, _, h, _⟩, _⟩ := h
      exact h
    refine (lists_step T hw h0).imp fun vs H Q E h => ?_
    obtain ⟨G, ds, R, h1, h2, ⟨d, h3, h4, h5⟩, h6⟩ := h
    refine ⟨G, ds, R, h1, h2, ⟨d, h3, .inl h4, ?_⟩, h6⟩
    have e : seqd d = false := by cases d <;> first | rfl | exact (h4 : False).elim
    simp only [e]
    exact h5
  | k + 1 => lists_step T hw (ok_l_lists T hw k)
end
local macro_rules | `(tactic| walk_at "d") => `(tactic| first
  | refine ⟨_, rfl, ?_⟩ | refine ⟨_, _, rfl, rfl, ?_⟩ | refine iteT ?_ | refine iteF ?_ | refine ⟨_, _, rfl, rfl, rfl, ?_⟩ | refine ⟨rfl, ?_⟩)
theorem sortI_perm (ns : List Int) : (sortI ns).Perm ns := List.mergeSort_perm ns _
theorem sortI_le (ns : List Int) : (sortI ns).Pairwise (· ≤ ·) := by
  have := List.pairwise_mergeSort (le := fun a b : Int => decide (a ≤ b)) (fun a b c h1 h2 => by simp at *; omega) (fun a b => by simp; omega) ns
  exact this.imp fun h => by simpa using h
def runD (x : Seg) : PyData := .list ((sgi x).map .int)
def runsD (g : List Seg) : List PyData := g.map runD
theorem at_last {α : Type} (l : List α) (x : α) : atI (l ++ [x]) (-1) = some x := by
  unfold atI ixN
  rw [if_neg (by decide), if_pos (by rw [List.length_append]; simp; omega), List.length_append]
  show (l ++ [x])[((-1 : Int) + ((l.length + 1 : Nat) : Int)).toNat]? = some x
  rw [show ((-1 : Int) + ((l.length + 1 : Nat) : Int)).toNat = l.length by omega, List.getElem?_concat_length]
theorem run_last (x : Seg) : atI ((sgi x).map PyData.int) (-1) = some (.int (x.1 + x.2)) := by
  obtain ⟨l0, hl0⟩ := List.getLast?_eq_some_iff.mp (sgi_last x)
  rw [hl0, List.map_append]
  exact at_last _ _
theorem eqv_nilR (g : List Seg) : PyData.eqv (.list (runsD g)) (.list []) = g.isEmpty := by
  cases g <;> simp [runsD, PyData.eqv, PyData.eqvAll]
theorem can_ints (l : List Int) : PyData.canLayAll0 (l.map PyData.int) = true := canAll fun d h => by
  obtain ⟨i, _, rfl⟩ := List.mem_map.mp h
  simp only [PyData.canLay0]
theorem dep_ints (l : List Int) : PyData.depthAll (l.map PyData.int) ≤ 0 := depAll fun d h => by
  obtain ⟨i, _, rfl⟩ := List.mem_map.mp h
  simp only [PyData.depth]
  exact Nat.le_refl _
theorem shp_ints (l : List Int) : Shp (.list (l.map .int)) := Bool.and_eq_true_iff.mpr ⟨by simp only [PyData.canLay0]; exact can_ints l, decide_eq_true (by simp only [PyData.depth]; have := dep_ints l; omega)⟩
theorem shp_runs (g : List Seg) : Shp (.list (runsD g)) := by
  refine Bool.and_eq_true_iff.mpr ⟨?_, decide_eq_true ?_⟩
  · simp only [PyData.canLay0]
    refine canAll fun d h => ?_
    obtain ⟨x, _, rfl⟩ := List.mem_map.mp h
    simp only [runD, PyData.canLay0]
    exact can_ints _
  · simp only [PyData.depth]
    have : PyData.depthAll (runsD g) ≤ 1 := depAll fun d h => by
      obtain ⟨x, _, rfl⟩ := List.mem_map.mp h
      simp only [runD, PyData.depth]
      have := dep_ints (sgi x)
      omega
    omega
section
variable {P : Program} {wd : World} {K : PySem.W.Frag} {mg : Str → Option Value} {base : Heap}
def f_runs : FP := fun ds R => ∃ b ns, ds = [b] ∧ seqd b = true ∧ its b = ns.map .int ∧ ns.Nodup ∧ ns.length ≤ 1000 ∧ R (.list (runsD (segs ns)))
theorem ok_l_runs (T : Top wd K mg) : Def P wd K mg base 1 "_law_runs" s_l_runs ["_law_there"] (spP K f_runs) := by
  refine Def.pure T.d_l_runs sc_l_runs (fun ds R h => by obtain ⟨_, _, rfl, _⟩ := h; rfl) (fun f cdv A outer s H G E ds R hG hr h => ?_)
  obtain ⟨b, ns, rfl, hs, he, hnd, hl, q⟩ := h
  refine ⟨_, _, (dss_cons (ds_own 1 sc_l_runs.nd (do_lst da_nil))
      (dss_cons (ds_for PassesOwn.never (by rfl) (di_seq rfl (DO.d (do_sorted rfl (by rfl) T.b_sorted (dp_v 0)))) (dg_name 2 sc_l_runs.nd)
        (dss_one (ds_if (DW.q (dw_and (dt_cmp (o_ne rfl hr.units) (dp_v 1) (DE.p (DO.d (do_lst da_nil)))) (dw_and1 (dt_cmp (o_eq rfl hr.units) (DE.p (de_ix rfl (DE.p (de_ix rfl (dp_v 1) (DE.p (de_neg de_int)))) (DE.p (de_neg de_int)))) (DE.p (de_bin o_sub (dp_v 2) (DE.p de_int))))))) (dss_cons (ds_popTo 3 1 rfl sc_l_runs.nd (pe_bm0 PySem.F.plainAttrs_list PySem.F.slot_list_pop PySem.F.type_list_pop mt_pop (pv 1)))
          (dss_one (ds_app 1 rfl (DO.d (do_catP rfl (dp_v 3) (DE.p (DO.d (do_lst (da_cons (de_v 2) da_nil))))))))) (dss_one (ds_app 1 rfl (DO.d (do_lst (da_cons (de_v 2) da_nil))))))))
      (dss_one (ds_ret (de_pub 1))))), ?_⟩
  have hperm := sortI_perm ns
  have rise := rise_of hnd hperm (sortI_le ns)
  have hseg : segs (sortI ns) = segs ns := segs_eq (hperm.nodup_iff.mpr hnd) hnd fun q => hperm.mem_iff
  have hlk : (sortI ns).length ≤ 1000 := by rw [hperm.length_eq]; exact hl
  generalize hk : sortI ns = ks at *
  refine ⟨Nat.zero_le _, _, b, rfl, rfl, ns, hs, he, rfl, for_by (fun i s2 => ∃ y2 y3, s2 = ⟨[some (.d b), some (.own (runsD (segs (ks.take i)))), y2, y3], 0, []⟩) ⟨none, none, rfl⟩ (fun i d s2 J hi inv hJ => ?_) (fun s2 inv => ?_)⟩
  · obtain ⟨y2, y3, rfl⟩ := inv
    have hi : ((sortI ns).map PyData.int)[i]? = some d := hi
    rw [hk, List.getElem?_map] at hi
    obtain ⟨z, hz, rfl⟩ := Option.map_eq_some_iff.mp hi
    have hstep : segs (ks.take (i + 1)) = runStep (segs (ks.take i)) z := by
      rw [take_snoc hz]
      refine segs_rise (rise.sublist (List.take_sublist _ _)) fun q hq => ?_
      have hh := rise.sublist (List.take_sublist (i + 1) ks)
      rw [take_snoc hz, List.pairwise_append] at hh
      exact hh.2.2 q hq z (by simp)
    rw [hstep] at hJ
    have hlq : (segs (ks.take i)).length ≤ 1000 := by
      have q1 := segs_len (ks.take i)
      rw [List.length_take] at q1
      omega
    have hsz : ∀ x ∈ segs (ks.take i), x.2 + 1 ≤ 1000 := fun x hx => by
      have h7 := size_mem hx
      rw [segs_size, List.length_take] at h7
      omega
    generalize segs (ks.take i) = g at hlq hsz hJ
    repeat walk_at "d"
    refine ⟨Nat.zero_le _, shp_runs _, rfl, _, rfl, ?_⟩
    rw [eqv_nilR]
    rcases List.eq_nil_or_concat g with rfl | ⟨g', x, hg⟩
    · refine iteF (iteF ?_)
      refine ⟨⟨_, rfl⟩, .int z, rfl, (show 1 ≤ 100000 by decide), _, rfl, .list [.int z], rfl, (show 0 < 100000 by decide), ?_⟩
      refine hJ _ ⟨some (.d (.int z)), y3, ?_⟩
      have e2 : runsD (runStep [] z) = [.list [.int z]] := by
        unfold runsD runD runStep
        simp [sgi]
      rw [e2]
      rfl
    · rw [List.concat_eq_append] at hg
      subst hg
      obtain ⟨s0, n0⟩ := x
      have hne : (g' ++ [(s0, n0)]).isEmpty = false := by simp
      rw [hne]
      refine iteT ?_
      have e1 : runsD (g' ++ [(s0, n0)]) = runsD g' ++ [runD (s0, n0)] := by unfold runsD; rw [List.map_append]; rfl
      rw [e1]
      have hlg : (runsD g').length < 1000 := by
        unfold runsD
        rw [List.length_map]
        rw [List.length_append] at hlq
        simp at hlq
        omega
      refine ⟨_, _, rfl, rfl, 1, rfl, -1, _, rfl, rfl, at_last _ _, 1, rfl, -1, _, rfl, rfl, run_last _, _, _, rfl, rfl, _, _, rfl, rfl, shp_int _, shp_int _, _, rfl, ?_⟩
      rw [eqv_int]
      refine ite2 (fun hc => ?_) (fun hc => ?_)
      · have hc' : s0 + (n0 : Int) = z - 1 := of_decide_eq_true hc
        refine ⟨⟨_, rfl⟩, _, rfl, runsD g', runD (s0, n0), rfl, rfl, ?_⟩
        have hn := hsz (s0, n0) (by simp)
        refine ⟨⟨_, rfl⟩, _, _, rfl, rfl, .int z, rfl, (show 1 ≤ 100000 by decide), (sgi (s0, n0)).map .int, [.int z], rfl, rfl, ?_, _, rfl, _, rfl, by omega, ?_⟩
        · rw [List.length_map, sgi_len]
          show n0 + 1 + 1 ≤ 100000
          have : n0 + 1 ≤ 1000 := hn
          omega
        · refine hJ _ ⟨some (.d (.int z)), some (.d (runD (s0, n0))), ?_⟩
          have e3 : runStep (g' ++ [(s0, n0)]) z = g' ++ [(s0, n0 + 1)] := by
            unfold runStep
            rw [getLast_snoc]
            show (if s0 + (n0 : Int) = z - 1 then _ else _) = _
            rw [if_pos hc', List.dropLast_concat]
          have e9 := sgi_snoc s0 n0
          rw [show s0 + (n0 : Int) + 1 = z by omega] at e9
          have e2 : runsD (g' ++ [(s0, n0 + 1)]) = runsD g' ++ [.list ((sgi (s0, n0)).map .int ++ [.int z])] := by
            have e4 : runD (s0, n0 + 1) = .list ((sgi (s0, n0)).map .int ++ [.int z]) := by
              unfold runD
              rw [← e9, List.map_append]
              rfl
            unfold runsD
            rw [List.map_append, ← e4]
            rfl
          rw [e3, e2]
          rfl
      · have hc' : ¬ s0 + (n0 : Int) = z - 1 := fun h => hc (decide_eq_true h)
        refine ⟨⟨_, rfl⟩, .int z, rfl, (show 1 ≤ 100000 by decide), _, rfl, .list [.int z], rfl, ?_, ?_⟩
        · rw [List.length_append]
          simp
          omega
        · refine hJ _ ⟨some (.d (.int z)), y3, ?_⟩
          have e3 : runStep (g' ++ [(s0, n0)]) z = g' ++ [(s0, n0)] ++ [(z, 0)] := by
            unfold runStep
            rw [getLast_snoc]
            show (if s0 + (n0 : Int) = z - 1 then _ else _) = _
            rw [if_neg hc']
          have e2 : runsD (g' ++ [(s0, n0)] ++ [(z, 0)]) = runsD g' ++ [runD (s0, n0)] ++ [.list [.int z]] := by
            unfold runsD runD
            rw [List.map_append, List.map_append]
            simp [sgi]
          rw [e3, e2]
          rfl
  · obtain ⟨y2, y3, rfl⟩ := inv
    have hlen : (its (PyData.list ((sortI ns).map .int))).length = ks.length := by
      show ((sortI ns).map PyData.int).length = _
      rw [hk, List.length_map]
    refine ⟨_, rfl, ?_⟩
    have e3 : ks.take (its (PyData.list ((sortI ns).map .int))).length = ks := by rw [hlen, List.take_length]
    show R (.list (runsD (segs (ks.take _))))
    rw [e3, hseg]
    exact q
end
local macro_rules | `(tactic| walk_at "s4") => `(tactic| simp only [wPubO, wC, wV, wPub, wP, wCons, wTup, wLst, wL, w2, wTest, wChain, wAnd, wOr, Dw.wNot, wAndV, wOrV, wNotV, wIf, Dw.wTru, truD, gI0, gI, gEq, gNe, gIn, gIsN, gNotN, gIsB, gNotB, gCatT, gCatS, gIx, wCat, wRep, w1, w1O, gLen, gTupleOf, gListOf, wRg1, gInt, gStr, w2a, wSlT, wSlL, wSlS, wRevT, wNeg, wCall, wCallB, wName, wGNil_n, wGCons_c, wGTup, wSeq, wRng1, wEnum, wZip, wNext, wSq, wRet, wIfS, wDrop, wAsg, wOwn, wAug, wMeth, fAppend, wFor_eq, wWhile_eq, wipeD, wLc_eq, Dw.wNm, wPar, wGix, wDix, wCatP, wPopTo, fPop, fPopAt, fIns, wSetIx, gRepr, gMinT, gNeS, gRepN, wDGet2, wDPut, wTPut, wTGet, gSrtR, gLtP, wSlB, wStar, wRaise, wNmX, wXat, wXis, gEqS, wYd, wYdic, wYfn, wYg, wCallD, wCallV, wSetN, wDcT, wTGet2, wTGet1, dicAt, wRng2, wRngD, wRevR, gRevL, wAugIx, wPeekO, wPick2, wExt, fRem, look_d, look_own, shpI, shpB, shpN, shpS, seqT, seqL, itsT, itsL, lenT, lenL, okFF, eqv_str, eqv_int, eqv_bool, isNone, perm, Dt.set, Dt.sets, env0, List.map_cons, List.map_nil, List.cons_append, List.nil_append, List.getElem?_cons_zero, List.getElem?_cons_succ, List.set_cons_succ, List.set_cons_zero, List.filterMap_cons, List.filterMap_nil, Option.some.injEq, DV.d.injEq, DV.own.injEq, DV.dit.injEq, DV.dd.injEq, DV.oth.injEq, reduceCtorEq, false_or, or_false, false_and, and_false, exists_false, PyData.int.injEq, PyData.bool.injEq, PyData.str.injEq, PyData.tuple.injEq, PyData.list.injEq, List.cons.injEq, exists_eq_left, exists_eq_left', exists_eq_right, exists_eq_right', exists_and_left, exists_eq', exists_eq, and_true, true_and, and_self, and_assoc, List.length_cons, List.length_nil, List.replicate, Nat.reduceAdd, Nat.reduceSub, Nat.reduceLeDiff, Nat.zero_le, decide_eq_true_eq, Bool.not_eq_true', decide_eq_false_iff_not, ite_true, ite_false, if_true, if_false, Bool.false_eq_true, Bool.true_eq_false, eq_self, List.reduceReplicate, Bool.not_true, Bool.not_false, reduceIte])
theorem eqv_nilL (ds : List PyData) : PyData.eqv (.list ds) (.list []) = ds.isEmpty := by
  cases ds <;> simp [PyData.eqv, PyData.eqvAll]
theorem len_erase : ∀ {l : List Int} {x : Int}, l.Nodup → x ∈ l → (l.filter fun y => decide (y ≠ x)).length + 1 = l.length
  | [], x, _, h => by simp at h
  | y :: l, x, hn, h => by
    rw [List.nodup_cons] at hn
    by_cases e : y = x
    · subst e
      rw [List.filter_cons_of_neg (by simp)]
      have : l.filter (fun z => decide (z ≠ y)) = l := List.filter_eq_self.mpr fun z hz => decide_eq_true fun e => hn.1 (e ▸ hz)
      rw [this]
      rfl
    · rw [List.filter_cons_of_pos (by simp [e])]
      rcases List.mem_cons.mp h with h | h
      · exact absurd h.symm e
      · have := len_erase hn.2 h
        simp only [List.length_cons]
        omega
structure QInv (n i : Nat) (left row : List Int) : Prop where
  nl : left.Nodup
  nr : row.Nodup
  len : left.length + row.length = n
  rl : row.length = i
  dis : ∀ x ∈ left, x ∉ row
  bl : ∀ x ∈ left, 0 ≤ x ∧ x < n
  br : ∀ x ∈ row, 0 ≤ x ∧ x < n
theorem QInv.step {n i : Nat} {left row : List Int} (h : QInv n i left row) {x : Int} (hx : x ∈ left) : QInv n (i + 1) (left.filter fun y => decide (y ≠ x)) (row ++ [x]) := by
  have hl := len_erase h.nl hx
  refine ⟨h.nl.filter _, ?_, ?_, by rw [List.length_append, h.rl]; rfl, fun y hy => ?_, fun y hy => h.bl y ((List.mem_filter.mp hy).1), fun y hy => ?_⟩
  · rw [List.nodup_append]
    refine ⟨h.nr, by simp, fun a ha b hb e => ?_⟩
    rw [List.mem_singleton] at hb
    subst hb
    subst e
    exact h.dis a hx ha
  · have := h.len
    rw [List.length_append, List.length_singleton]
    omega
  · obtain ⟨h1, h2⟩ := List.mem_filter.mp hy
    have : y ≠ x := of_decide_eq_true h2
    rw [List.mem_append, List.mem_singleton, not_or]
    exact ⟨h.dis y h1, this⟩
  · rcases List.mem_append.mp hy with h1 | h1
    · exact h.br y h1
    · rw [List.mem_singleton.mp h1]
      exact h.bl x hx
theorem iota_ints (n : Nat) : iotaD 0 (n : Int) = ((List.range n).map fun (i : Nat) => (i : Int)).map PyData.int := by
  unfold iotaD
  rw [List.map_map, Int.sub_zero, Int.toNat_natCast]
  refine List.map_congr_left fun i _ => ?_
  show PyData.int (0 + (i : Int)) = PyData.int (i : Int)
  rw [Int.zero_add]
theorem QInv.start (n : Nat) : QInv n 0 ((List.range n).map fun (i : Nat) => (i : Int)) [] := by
  refine ⟨?_, List.nodup_nil, by simp, rfl, fun x _ => by simp, fun x hx => ?_, fun x hx => by simp at hx⟩
  · refine List.pairwise_map.mpr (List.nodup_range.imp fun {a b} h e => h ?_)
    exact Int.ofNat.inj e
  · obtain ⟨i, hi, rfl⟩ := List.mem_map.mp hx
    rw [List.mem_range] at hi
    omega
def inR (row : List Int) (y : Int) : Bool := (row.map PyData.int).any fun z => PyData.eqv z (.int y)
section
variable {P : Program} {wd : World} {K : PySem.W.Frag} {mg : Str → Option Value} {base : Heap}
def f_queue : FB := fun ds c R => ∃ n m : Nat, ds = [.int n, .int m] ∧ n ≤ 100 ∧ m ≤ n ∧ c ≤ 900000 ∧ ∀ (row : List Int) c', row.Nodup → row.length = m → (∀ x ∈ row, 0 ≤ x ∧ x < n) → c' ≤ c + 1 + 2 * m → R (rowT row) c'
theorem ok_l_queue (T : Top wd K mg) : Def P wd K mg base 3 "_law_queue" s_l_queue ["_law_box_here", "_law_count", "_law_size"] (spB K f_queue) := by
  have g_l_take := ok_l_take (P := P) (base := base) T
  have g_l_of := ok_l_of (P := P) (base := base) T
  refine Def.draws T.d_l_queue sc_l_queue (fun ds c R h => by obtain ⟨_, _, rfl, _⟩ := h; rfl) (fun f cdv A outer s H G l E ds c R hG hr h => ?_)
  obtain ⟨n, m, rfl, hn, hm, hc, q⟩ := h
  refine ⟨_, _, (dss_cons (ds_parT [3, 4, 5] rfl (pg_tup rfl (pgs_cons (pg_name (i := 3) sc_l_queue.nd rfl (.inl rfl)) (pgs_cons (pg_name (i := 4) sc_l_queue.nd rfl (.inr rfl)) (pgs_cons (pg_name (i := 5) sc_l_queue.nd rfl (.inl rfl)) pgs_nil)))) rfl (dx_cons (DO.dx (do_listRg (by rfl) (by rfl) T.b_list (by rfl) T.b_range (de_v 1))) (dx_cons (DO.dx (do_lst da_nil)) (dx_cons (DE.dx (de_cB 0 g_l_take hG (hr.mono (by omega)) (by rfl) (da_cons de_int da_nil))) dx_nil))))
      (dss_cons (ds_for PassesOwn.never (by rfl) (di_rng1 (by rfl) T.b_range (de_v 2)) (dg_name 6 sc_l_queue.nd)
        (dss_cons (ds_setLcP 7 3 (own := [("_law_plot", 8)]) (by rfl) sc_l_queue.nd rfl rfl (sw_true rfl rfl rfl (by decide +kernel)) (di_seq rfl (de_v 3)) (blkOk_by (own := [("_law_plot", 8)]) (N := ["_law_box_here", "_law_count", "_law_size", "_law_left", "_law_found", "_law_near", "_law_spot", "_law_some", "_law_plot"]) (sc := defScope s_l_queue) (by decide +kernel)) (fun _ _ _ _ _ => (dg_name 8 sc_l_queue.nd (hf := by first | exact Or.inr rfl | exact Or.inl rfl))) (ts_one fun _ _ _ _ _ => (DW.q (dw_or (dt_cmp (o_in rfl (u65 hr)) (DE.p (de_bin o_sub (dp_v 8) (DE.p de_int))) (dp_v 4)) (dw_or1 (dt_cmp (o_in rfl (u65 hr)) (DE.p (de_bin o_add (dp_v 8) (DE.p de_int))) (dp_v 4)))))) (fun _ _ _ _ _ => (de_v 8)))
        (dss_pick (DW.q (dw_and (dt_cmp (o_eq rfl hr.units) (dp_v 5) (DE.p de_int)) (dw_and (dt_cmp (o_ne rfl hr.units) (dp_v 7) (DE.p (DO.d (do_lst da_nil)))) (dw_and1 (dt_cmp o_gt (DE.p (de_cB 0 g_l_take hG (hr.mono (by omega)) (by rfl) (da_cons de_int da_nil))) (DE.p de_int)))))) (ds_set 7 sc_l_queue.nd (de_if (DW.q (dw_and (dt_cmp (o_eq rfl hr.units) (dp_v 5) (DE.p de_int)) (dw_and (dt_cmp (o_ne rfl hr.units) (dp_v 7) (DE.p (DO.d (do_lst da_nil)))) (dw_and1 (dt_cmp o_gt (DE.p (de_cB 0 g_l_take hG (hr.mono (by omega)) (by rfl) (da_cons de_int da_nil))) (DE.p de_int)))))) (de_v 7) (de_pub 3)))
          (ds_app 4 rfl (de_cB 0 g_l_of hG (hr.mono (by omega)) (by rfl) (da_cons (de_v 7) da_nil)))
        (dss_one (ds_remA 3 rfl (de_ix rfl (dp_v 4) (DE.p (de_neg de_int))))))))
      (dss_one (ds_ret (de_tupleOf rfl (by rfl) T.b_tuple (dp_v 4)))))), ?_⟩
  walk_at "s4"
  refine ⟨by omega, by omega, 3, rfl, by decide, by decide, (show c < 1000000 by omega), fun near c1 _ _ hc1 => ⟨by omega, by omega, ?_⟩⟩
  refine forD_by (fun i s2 => ∃ left row y6 y7 y8 c2, s2 = ⟨[some .box, some (.d (.int n)), some (.d (.int m)), some (.own (left.map .int)), some (.own (row.map .int)), some (.d (.int near)), y6, y7, y8], c2, []⟩ ∧ QInv n i left row ∧ c2 ≤ c + 1 + 2 * i) ?_ (fun i d s2 J hi inv hJ => ?_) (fun s2 inv => ?_)
  · exact ⟨_, [], none, none, none, c1, by rw [← iota_ints]; rfl, QInv.start n, by omega⟩
  · obtain ⟨left, row, y6, y7, y8, c2, rfl, Qi, hc2⟩ := inv
    obtain ⟨him, rfl⟩ := iota_get hi
    rw [Int.sub_zero, Int.toNat_natCast] at him
    have hll : 1 ≤ left.length := by have := Qi.len; have := Qi.rl; omega
    have hll2 : left.length ≤ 100 := by have := Qi.len; omega
    walk_at "s4"
    refine lcD_enc left .int (fun x => if (inR row (x - 1) || inR row (x + 1)) = true then some (.int x) else none) (by omega) (fun x hx acc J' hacc h1 h0 => ?_) ?_
    · walk_at "s4"
      refine ⟨shp_ints _, ?_⟩
      show if (false ^^ inR row (x - 1)) = true then _ else Shp _ ∧ if (false ^^ inR row (x + 1)) = true then _ else _
      rw [Bool.false_xor, Bool.false_xor]
      cases b1 : inR row (x - 1) with
      | true => exact iteT ⟨hacc, h1 _ (by rw [b1]; rfl)⟩
      | false =>
        refine iteF ⟨shp_ints _, ?_⟩
        cases b2 : inR row (x + 1) with
        | true => exact iteT ⟨hacc, h1 _ (by rw [b1, b2]; rfl)⟩
        | false => exact iteF (h0 (by rw [b1, b2]; rfl))
    · generalize hso : List.filterMap (fun x => if (inR row (x - 1) || inR row (x + 1)) = true then some (PyData.int x) else none) left = some1
      have hsome : ∀ d ∈ some1, ∃ x ∈ left, d = .int x := fun d hd => by
        rw [← hso] at hd
        obtain ⟨x, hx, h⟩ := List.mem_filterMap.mp hd
        refine ⟨x, hx, ?_⟩
        split at h
        · cases h; rfl
        · cases h
      have hlen : some1.length ≤ left.length := by rw [← hso]; exact List.length_filterMap_le _ _
      have hint : ∀ d ∈ some1, ∃ x, d = .int x := fun d hd => by obtain ⟨x, _, h⟩ := hsome d hd; exact ⟨x, h⟩
      have hshp : Shp (.list some1) := by
        refine Bool.and_eq_true_iff.mpr ⟨?_, decide_eq_true ?_⟩
        · simp only [PyData.canLay0]
          refine canAll fun d hd => ?_
          obtain ⟨x, rfl⟩ := hint d hd
          simp only [PyData.canLay0]
        · simp only [PyData.depth]
          have := depAll (n := 0) fun d hd => by
            obtain ⟨x, rfl⟩ := hint d hd
            simp only [PyData.depth]
            exact Nat.le_refl _
          omega
      have hleft : ∀ d ∈ left.map PyData.int, ∃ x ∈ left, d = .int x := fun d hd => by
        obtain ⟨x, hx, rfl⟩ := List.mem_map.mp hd
        exact ⟨x, hx, rfl⟩
      have hrl : (row.map PyData.int).length < 100000 := by have := Qi.len; rw [List.length_map]; omega
      have fin : ∀ ds c3, (∀ d ∈ ds, ∃ x ∈ left, d = .int x) → 1 ≤ ds.length → ds.length ≤ 1000 → c3 ≤ c2 + 1 → f_of [.list ds] c3 fun d c' => ∃ n_1, d = PyData.int n_1 ∧ ∃ x, atI (List.map PyData.int row ++ [PyData.int n_1]) (-1) = some x ∧ ∃ ns k, x = PyData.int k ∧ List.map PyData.int left = List.map PyData.int ns ∧ ns.Nodup ∧ k ∈ ns ∧
          J ⟨[some DV.box, some (DV.d (PyData.int ↑n)), some (DV.d (PyData.int ↑m)), some (DV.own (List.map PyData.int (List.filter (fun y => decide (y ≠ k)) ns))), some (DV.own (List.map PyData.int row ++ [PyData.int n_1])), some (DV.d (PyData.int near)), some (DV.d (PyData.int (0 + ↑i))), none, y8], c', []⟩ := fun ds c3 q1 q2 q3 q4 =>
        ⟨_, rfl, rfl, q2, q3, (show c3 < 1000000 by omega), fun d c4 hd hc4 => by
          obtain ⟨x, hx, rfl⟩ := q1 d hd
          refine ⟨x, rfl, .int x, at_last _ _, left, x, rfl, rfl, Qi.nl, hx, hJ _ ⟨left.filter (fun y => decide (y ≠ x)), row ++ [x], some (.d (.int (0 + i))), none, y8, c4, ?_, Qi.step hx, ?_⟩⟩
          · rw [List.map_append]
            rfl
          · have : ((i + 1 : Nat) : Int) = (i : Int) + 1 := by omega
            have : c4 ≤ c3 + 1 := hc4
            omega⟩
      have finL : ∀ c3, c3 ≤ c2 + 1 → _ := fun c3 h3 => fin (left.map .int) c3 hleft (by rw [List.length_map]; exact hll) (by rw [List.length_map]; omega) h3
      walk_at "s4"
      refine ⟨hint, ?_⟩
      by_cases hne : near = 0
      · rw [if_pos hne, eqv_nilL]
        refine ⟨hshp, rfl, ?_⟩
        cases hem : some1.isEmpty with
        | true =>
          rw [if_neg (by decide)]
          exact ⟨by decide, hrl, finL c2 (by omega)⟩
        | false =>
          rw [if_pos rfl]
          refine ⟨4, rfl, by decide, by decide, (show c2 < 1000000 by omega), fun r c3 r0 r1 hc3 => ⟨r, rfl, ?_⟩⟩
          have hs1 : 1 ≤ some1.length := by
            cases some1 with
            | nil => cases hem
            | cons _ _ => simp
          by_cases hr0 : 0 < r
          · exact ⟨_, .inl ⟨hr0, rfl⟩, by decide, hrl, fin some1 c3 hsome hs1 (by omega) hc3⟩
          · exact ⟨_, .inr ⟨hr0, rfl⟩, by decide, hrl, finL c3 hc3⟩
      · rw [if_neg hne]
        exact ⟨by decide, hrl, finL c2 (by omega)⟩
  · obtain ⟨left, row, y6, y7, y8, c2, rfl, Qi, hc2⟩ := inv
    have hlen : (iotaD 0 (m : Int)).length = m := by rw [iota_len, Int.sub_zero, Int.toNat_natCast]
    rw [hlen] at Qi hc2
    walk_at "s4"
    exact q row c2 Qi.nr Qi.rl Qi.br hc2
end
local macro_rules | `(tactic| walk_at "d") => `(tactic| first
  | refine ⟨_, rfl, ?_⟩ | refine ⟨_, _, rfl, rfl, ?_⟩ | refine iteT ?_ | refine iteF ?_ | refine ⟨_, _, rfl, rfl, rfl, ?_⟩ | refine ⟨rfl, ?_⟩)
def cntsD (row : List Int) (i : Nat) : List PyData := (List.range i).map fun j => .int ((segs (row.take (j + 1))).length : Nat)
def wrdsD (row : List Int) (i : Nat) : List PyData := (List.range i).map fun j => .str (wstr (pick (row.getD j 0) (segs (row.take j))).1)
section
variable {P : Program} {wd : World} {K : PySem.W.Frag} {mg : Str → Option Value} {base : Heap}
def f_seen : FP := fun ds R => ∃ row, ds = [rowT row] ∧ row.Nodup ∧ row.length ≤ 900 ∧ R (.tuple [.list (cntsD row row.length), .list (wrdsD row row.length)])
theorem ok_l_seen (T : Top wd K mg) : Def P wd K mg base 2 "_law_seen" s_l_seen ["_law_queue_here"] (spP K f_seen) := by
  have g_l_runs := ok_l_runs (P := P) (base := base) T
  refine Def.pure T.d_l_seen sc_l_seen (fun ds R h => by obtain ⟨_, rfl, _⟩ := h; rfl) (fun f cdv A outer s H G E ds R hG hr h => ?_)
  obtain ⟨row, rfl, hnd, hl, q⟩ := h
  refine ⟨_, _, (dss_cons (ds_par3 1 2 3 (by rfl) sc_l_seen.nd (dx_cons (DO.dx (do_lst da_nil)) (dx_cons (DO.dx (do_lst da_nil)) (dx_cons (DE.dx de_int) dx_nil))))
      (dss_cons (ds_for PassesOwn.never (by rfl) (di_rng1 (by rfl) T.b_range (de_len rfl (by rfl) T.b_len (dp_v 0))) (dg_name 4 sc_l_seen.nd)
        (dss_cons (ds_app 1 rfl (de_len rfl (by rfl) T.b_len (DE.p (de_c g_l_runs hG (hr.mono (by omega)) (by rfl) (da_cons (de_slT rfl (dp_v 0) do_none (do_some (de_bin o_add (dp_v 4) (DE.p de_int)))) da_nil)))))
        (dss_cons (ds_app 2 rfl (de_dix [(.inl (1), .str "new"), (.inl (0), .str "beside"), (.inl (-1), .str "between")] (hu_of hr) (pe_disp (pps_cons pe_int pe_str (pps_cons pe_int pe_str (pps_cons (pe_un un_neg pe_int) pe_str pps_nil))) (by rfl) (by rfl) (fun z => by cases z) (by decide)) (fun _ _ _ q => ⟨_, rfl, q⟩) (de_bin o_sub (DE.p (de_ix rfl (dp_v 1) (DE.p (de_neg de_int)))) (dp_v 3))))
        (dss_one (ds_set 3 sc_l_seen.nd (de_ix rfl (dp_v 1) (DE.p (de_neg de_int))))))))
      (dss_one (ds_ret (de_tup (da_cons (de_pub 1) (da_cons (de_pub 2) da_nil))))))), ?_⟩
  refine ⟨Nat.zero_le _, Nat.zero_le _, rfl, ?_⟩
  have hlen : (its (rowT row)).length = row.length := by show (row.map PyData.int).length = _; rw [List.length_map]
  refine ⟨_, _, rfl, rfl, row.length, by show some (row.map PyData.int).length = _; rw [List.length_map], _, rfl, by omega, by omega, for_by (fun i s2 => ∃ y4, s2 = ⟨[some (.d (rowT row)), some (.own (cntsD row i)), some (.own (wrdsD row i)), some (.d (.int ((segs (row.take i)).length : Nat))), y4], 0, []⟩) ⟨none, rfl⟩ (fun i d s2 J hi inv hJ => ?_) (fun s2 inv => ?_)⟩
  · obtain ⟨y4, rfl⟩ := inv
    obtain ⟨hi2, rfl⟩ := iota_get hi
    have hi2 : i < row.length := by
      have : i < ((row.length : Int) - 0).toNat := hi2
      omega
    have e3 : row[i]? = some row[i] := List.getElem?_eq_getElem hi2
    have e2 : Dw.cutD (row.map PyData.int) none (some ((0 : Int) + (i : Int) + 1)) = (row.take (i + 1)).map .int := by
      unfold Dw.cutD
      rw [show (0 : Int) + (i : Int) + 1 = ((i + 1 : Nat) : Int) by omega, HT.sIx_none, HT.sIx_nat, List.drop_zero, Nat.sub_zero, List.length_map, Nat.min_eq_left (by omega), List.map_take]
    have ec : cntsD row (i + 1) = cntsD row i ++ [.int ((segs (row.take (i + 1))).length : Nat)] := by
      unfold cntsD
      rw [List.range_succ, List.map_append]
      rfl
    have ew : wrdsD row (i + 1) = wrdsD row i ++ [.str (wstr (pick row[i] (segs (row.take i))).1)] := by
      unfold wrdsD
      rw [List.range_succ, List.map_append]
      have e5 : row.getD i 0 = row[i] := by rw [List.getD_eq_getElem?_getD, e3]; rfl
      simp only [List.map_cons, List.map_nil, e5]
    have hni := hnd.sublist (List.take_sublist (i + 1) row)
    rw [take_snoc e3, List.nodup_append] at hni
    have hp : row[i] ∉ row.take i := fun h => hni.2.2 _ h _ (by simp) rfl
    obtain ⟨lo, hlo⟩ := lower (row.take i)
    obtain ⟨hok, hmem⟩ := segs_ok hni.1 hlo
    have sy := (says hok (fun m => hp ((hmem _).mp m))).len
    have es : segs (row.take (i + 1)) = add row[i] (segs (row.take i)) := by rw [take_snoc e3, segs_snoc]
    rw [← es] at sy
    rw [ec, ew] at hJ
    have hrl : (cntsD row i).length = i := by unfold cntsD; rw [List.length_map, List.length_range]
    have hwl : (wrdsD row i).length = i := by unfold wrdsD; rw [List.length_map, List.length_range]
    refine ⟨⟨_, rfl⟩, _, _, rfl, rfl, _, _, rfl, rfl, _, 1, rfl, rfl, _, rfl, row.map .int, rfl, ?_⟩
    rw [e2]
    refine ⟨_, row.take (i + 1), rfl, rfl, rfl, hnd.sublist (List.take_sublist _ _), by rw [List.length_take]; omega, (segs (row.take (i + 1))).length, by show some (runsD (segs (row.take (i + 1)))).length = _; unfold runsD; rw [List.length_map], _, rfl, _, rfl, (show (cntsD row i).length < 100000 by omega), ?_⟩
    generalize pick row[i] (segs (row.take i)) = ch at sy hJ
    have hlook : lookD [(.inl 1, .str "new"), (.inl 0, .str "beside"), (.inl (-1), .str "between")] (.inl ((((segs (row.take (i + 1))).length : Nat) : Int) - ((segs (row.take i)).length : Nat))) = some (.str (wstr ch.1)) := by
      have : (((segs (row.take (i + 1))).length : Nat) : Int) - ((segs (row.take i)).length : Nat) = ch.1.step := by omega
      rw [this]
      cases ch.1 <;> rfl
    refine ⟨⟨_, rfl⟩, _, _, rfl, rfl, 1, rfl, -1, _, rfl, rfl, at_last _ _, _, _, rfl, rfl, _, _, rfl, rfl, _, _, rfl, hlook, _, rfl, _, rfl, (show (wrdsD row i).length < 100000 by omega), ?_⟩
    exact ⟨_, _, rfl, rfl, 1, rfl, -1, _, rfl, rfl, at_last _ _, hJ _ ⟨_, rfl⟩⟩
  · obtain ⟨y4, rfl⟩ := inv
    have e1 : (iotaD 0 ((row.length : Nat) : Int)).length = row.length := by
      unfold iotaD
      rw [List.length_map, List.length_range]
      omega
    rw [e1]
    exact ⟨_, rfl, _, rfl, (show 2 ≤ 100000 by decide), q⟩
end
local macro_rules | `(tactic| walk_at "s5") => `(tactic| simp only [wPubO, wC, wV, wPub, wP, wCons, wTup, wLst, wL, w2, wTest, wChain, wAnd, wOr, Dw.wNot, wAndV, wOrV, wNotV, wIf, Dw.wTru, truD, gI0, gI, gEq, gNe, gIn, gIsN, gNotN, gIsB, gNotB, gCatT, gCatS, gIx, wCat, wRep, w1, w1O, gLen, gTupleOf, gListOf, wRg1, gInt, gStr, w2a, wSlT, wSlL, wSlS, wRevT, wNeg, wCall, wCallB, wName, wGNil_n, wGCons_c, wGTup, wSeq, wRng1, wEnum, wZip, wNext, wSq, wRet, wIfS, wDrop, wAsg, wOwn, wAug, wMeth, fAppend, wFor_eq, wWhile_eq, wipeD, wLc_eq, Dw.wNm, wPar, wGix, wDix, wCatP, wPopTo, fPop, fPopAt, fIns, wSetIx, gRepr, gMinT, gNeS, gRepN, wDGet2, wDPut, wTPut, wTGet, gSrtR, gSrtA, gLtP, wSlB, wStar, wRaise, wNmX, wXat, wXis, gEqS, wYd, wYdic, wYfn, wYg, wCallD, wCallV, wSetN, wDcT, wTGet2, wTGet1, dicAt, wRng2, wRngD, wRevR, gRevL, wAugIx, wPeekO, wPick2, wExt, fRem, look_d, look_own, shpI, shpB, shpN, shpS, seqT, seqL, itsT, itsL, lenT, lenL, okFF, eqv_str, eqv_int, eqv_bool, isNone, perm, Dt.set, Dt.sets, env0, List.map_cons, List.map_nil, List.cons_append, List.nil_append, List.getElem?_cons_zero, List.getElem?_cons_succ, List.set_cons_succ, List.set_cons_zero, List.filterMap_cons, List.filterMap_nil, Option.some.injEq, DV.d.injEq, DV.own.injEq, DV.dit.injEq, DV.dd.injEq, DV.oth.injEq, reduceCtorEq, false_or, or_false, false_and, and_false, exists_false, PyData.int.injEq, PyData.bool.injEq, PyData.str.injEq, PyData.tuple.injEq, PyData.list.injEq, List.cons.injEq, exists_eq_left, exists_eq_left', exists_eq_right, exists_eq_right', exists_and_left, exists_eq', exists_eq, and_true, true_and, and_self, and_assoc, List.length_cons, List.length_nil, List.replicate, Nat.reduceAdd, Nat.reduceSub, Nat.reduceLeDiff, Nat.zero_le, decide_eq_true_eq, Bool.not_eq_true', decide_eq_false_iff_not, ite_true, ite_false, if_true, if_false, Bool.false_eq_true, Bool.true_eq_false, eq_self, List.reduceReplicate, Bool.not_true, Bool.not_false, reduceIte])
def vOrd : NV → Nat
  | .g _ => 0
  | .h _ => 1
def nLt (x y : Nt) : Prop := x.t < y.t ∨ (x.t = y.t ∧ vOrd x.v < vOrd y.v)
/-- notes that are true for a row, as they ascend -/
structure Sn (row : List Int) (k : Nat) (xs : List Nt) : Prop where
  tru : ∀ x ∈ xs, x.t < k ∧ truV row x.t x.v = x.v
  rise : xs.Pairwise nLt
  len : xs.length ≤ 2 * k
theorem cnts_at {row : List Int} {t : Nat} (h : t < row.length) : atI (cntsD row row.length) (t : Int) = some (.int ((segs (row.take (t + 1))).length : Nat)) := by
  unfold cntsD
  rw [at_nat (by rw [List.length_map, List.length_range]; exact h), List.getElem?_map, List.getElem?_eq_getElem (by rw [List.length_range]; exact h), List.getElem_range]
  rfl
theorem wrds_at {row : List Int} {t : Nat} (h : t < row.length) : atI (wrdsD row row.length) (t : Int) = some (.str (wstr ((picks row)[t]?.getD (.new, 0)).1)) := by
  unfold wrdsD
  rw [at_nat (by rw [List.length_map, List.length_range]; exact h), List.getElem?_map, List.getElem?_eq_getElem (by rw [List.length_range]; exact h), List.getElem_range, picks_get (List.getElem?_eq_getElem h)]
  show some (PyData.str (wstr (pick (row.getD t 0) (segs (row.take t))).1)) = _
  rw [List.getD_eq_getElem?_getD, List.getElem?_eq_getElem h]
  rfl
theorem snoc_rise {xs : List Nt} {x : Nt} (h : xs.Pairwise nLt) (hx : ∀ y ∈ xs, nLt y x) : (xs ++ [x]).Pairwise nLt :=
  List.pairwise_append.mpr ⟨h, List.pairwise_singleton _ _, fun a ha b hb => by rw [List.mem_singleton.mp hb]; exact hx a ha⟩
section
variable {P : Program} {wd : World} {K : PySem.W.Frag} {mg : Str → Option Value} {base : Heap}
def f_notes : FB := fun ds c R => ∃ row, ds = [rowT row] ∧ row.Nodup ∧ row.length ≤ 20 ∧ c ≤ 900000 ∧ ∀ (xs : List Nt) c', Sn row row.length xs → c' ≤ c + 1 + 2 * row.length → R (.tuple (xs.map ntD)) c'
theorem ok_l_notes (T : Top wd K mg) : Def P wd K mg base 3 "_law_notes" s_l_notes ["_law_box_here", "_law_queue_here"] (spB K f_notes) := by
  have g_l_take := ok_l_take (P := P) (base := base) T
  have g_l_seen := ok_l_seen (P := P) (base := base) T
  refine Def.draws T.d_l_notes sc_l_notes (fun ds c R h => by obtain ⟨_, rfl, _⟩ := h; rfl) (fun f cdv A outer s H G l E ds c R hG hr h => ?_)
  obtain ⟨row, rfl, hnd, hl, hc, q⟩ := h
  refine ⟨_, _, (dss_cons (ds_par2 2 3 (by rfl) sc_l_notes.nd (dx_cons (DO.dx (do_lst da_nil)) (dx_cons (DE.dx (de_bin o_add (DE.p de_int) (DE.p (de_cB 0 g_l_take hG (hr.mono (by omega)) (by rfl) (da_cons de_int da_nil))))) dx_nil)))
      (dss_cons (ds_asg (de_c g_l_seen hG (hr.mono (by omega)) (by rfl) (da_cons (de_v 1) da_nil)) (dg_tup (n := 2) rfl (by rfl) (dgs_c (dg_name 4 sc_l_notes.nd) (dgs_c (dg_name 5 sc_l_notes.nd) dgs_nil))))
      (dss_cons (ds_for PassesOwn.never (by rfl) (di_rng1 (by rfl) T.b_range (de_len rfl (by rfl) T.b_len (dp_v 1))) (dg_name 6 sc_l_notes.nd)
        (dss_cut (ds_if (dt_cmp o_lt (DE.p (de_cB 0 g_l_take hG (hr.mono (by omega)) (by rfl) (da_cons de_int da_nil))) (dp_v 3)) (dss_one (ds_app 2 rfl (de_tup (da_cons (de_v 6) (da_cons de_str (da_cons (de_ix rfl (dp_v 4) (dp_v 6)) da_nil)))))) dss_nil)
        (dss_one (ds_if (dt_cmp (o_eq rfl hr.units) (DE.p (de_cB 0 g_l_take hG (hr.mono (by omega)) (by rfl) (da_cons de_int da_nil))) (DE.p de_int)) (dss_one (ds_app 2 rfl (de_tup (da_cons (de_v 6) (da_cons de_str (da_cons (de_ix rfl (dp_v 5) (dp_v 6)) da_nil)))))) dss_nil))))
      (dss_one (ds_ret (de_tupleOf rfl (by rfl) T.b_tuple (dp_v 2))))))), ?_⟩
  walk_at "s5"
  refine ⟨4, rfl, by decide, by decide, (show c < 1000000 by omega), fun r c1 _ _ hc1 => ?_⟩
  have hc1 : c1 ≤ c + 1 := hc1
  walk_at "s5"
  refine ⟨row, rfl, hnd, by omega, ?_⟩
  walk_at "s5"
  have hlr : lenD (rowT row) = some row.length := by show some (row.map PyData.int).length = _; rw [List.length_map]
  refine ⟨row.length, hlr, by omega, by omega, ?_⟩
  refine forD_by (fun i s2 => ∃ xs y6 c2, s2 = ⟨[some .box, some (.d (rowT row)), some (.own (xs.map ntD)), some (.d (.int (1 + r))), some (.d (.list (cntsD row row.length))), some (.d (.list (wrdsD row row.length))), y6], c2, []⟩ ∧ Sn row i xs ∧ c2 ≤ c + 1 + 2 * (i : Nat)) ⟨[], none, c1, rfl, ⟨fun x h => by simp at h, .nil, by simp⟩, by omega⟩ (fun i d s2 J hi inv hJ => ?_) (fun s2 inv => ?_)
  · obtain ⟨xs, y6, c2, rfl, hS, hc2⟩ := inv
    obtain ⟨hi2, rfl⟩ := iota_get hi
    have hi2 : i < row.length := by
      have : i < ((row.length : Int) - 0).toNat := hi2
      omega
    have ec := cnts_at hi2
    have ew := wrds_at hi2
    have hxl := hS.len
    rw [Int.zero_add]
    refine ⟨fun s3 => ∃ xs : List Nt, ∃ c3, s3 = ⟨[some .box, some (.d (rowT row)), some (.own (xs.map ntD)), some (.d (.int (1 + r))), some (.d (.list (cntsD row row.length))), some (.d (.list (wrdsD row row.length))), some (.d (.int (i : Int)))], c3, []⟩ ∧ (∀ x ∈ xs, (x.t < i ∨ x.t = i ∧ vOrd x.v = 0) ∧ truV row x.t x.v = x.v) ∧ xs.Pairwise nLt ∧ xs.length ≤ 2 * i + 1 ∧ c3 ≤ c + 1 + 2 * (i : Nat) + 1, ?_, ?_⟩
    · walk_at "s5"
      refine ⟨5, rfl, by decide, by decide, (show c2 < 1000000 by omega), fun r2 c3 _ _ hc3 => ?_⟩
      have hc3 : c3 ≤ c2 + 1 := hc3
      walk_at "s5"
      by_cases hd : r2 < 1 + r
      · rw [if_pos hd]
        refine ⟨_, ec, (show (xs.map ntD).length < 100000 by rw [List.length_map]; omega), ?_⟩
        refine ⟨xs ++ [⟨i, .g (segs (row.take (i + 1))).length⟩], c3, by rw [List.map_append]; rfl, fun x hx => ?_, snoc_rise hS.rise fun y hy => .inl (hS.tru y hy).1, by rw [List.length_append]; show xs.length + 1 ≤ _; omega, by omega⟩
        rcases List.mem_append.mp hx with hx | hx
        · exact ⟨.inl (hS.tru x hx).1, (hS.tru x hx).2⟩
        · rw [List.mem_singleton.mp hx]
          exact ⟨.inr ⟨rfl, rfl⟩, rfl⟩
      · rw [if_neg hd]
        exact ⟨xs, c3, rfl, fun x hx => ⟨.inl (hS.tru x hx).1, (hS.tru x hx).2⟩, hS.rise, by omega, by omega⟩
    · rintro s3 ⟨xs, c3, rfl, ht, hri, hxl, hc3⟩
      walk_at "s5"
      refine ⟨6, rfl, by decide, by decide, (show c3 < 1000000 by omega), fun r2 c4 _ _ hc4 => ?_⟩
      have hc4 : c4 ≤ c3 + 1 := hc4
      walk_at "s5"
      by_cases hd : r2 = 0
      · rw [if_pos hd]
        refine ⟨_, ew, (show (xs.map ntD).length < 100000 by rw [List.length_map]; omega), hJ _ ⟨xs ++ [⟨i, .h ((picks row)[i]?.getD (.new, 0)).1⟩], _, c4, by rw [List.map_append]; rfl, ⟨fun x hx => ?_, snoc_rise hri fun y hy => ?_, by rw [List.length_append]; show xs.length + 1 ≤ _; omega⟩, by omega⟩⟩
        · rcases List.mem_append.mp hx with hx | hx
          · exact ⟨by rcases (ht x hx).1 with h | h <;> omega, (ht x hx).2⟩
          · rw [List.mem_singleton.mp hx]
            exact ⟨Nat.lt_succ_self i, rfl⟩
        · rcases (ht y hy).1 with h | h
          · exact .inl h
          · exact .inr ⟨h.1, by rw [h.2]; exact Nat.zero_lt_one⟩
      · rw [if_neg hd]
        exact hJ _ ⟨xs, _, c4, rfl, ⟨fun x hx => ⟨by rcases (ht x hx).1 with h | h <;> omega, (ht x hx).2⟩, hri, by omega⟩, by omega⟩
  · obtain ⟨xs, y6, c2, rfl, hS, hc2⟩ := inv
    have e1 : (iotaD 0 ((row.length : Nat) : Int)).length = row.length := by
      unfold iotaD
      rw [List.length_map, List.length_range]
      omega
    rw [e1] at hS hc2
    walk_at "s5"
    exact q xs c2 hS hc2
def bkT (p T : Nat) (xs : List Nt) : PyData := .tuple [.int (p : Nat), .int (T : Nat), .tuple (xs.map ntD)]
end
/-- there is room for the groups -/
theorem segs_fit {n : Nat} {row : List Int} (h : OgM.Row (n : Nat) row) : (segs row).length ≤ n - row.length + 1 := by
  obtain ⟨ok, mem⟩ := h.ok
  have h0 : 0 ≤ (n : Int) := by omega
  have he : endB 0 (segs row) ≤ n := endB_le h0 fun q hq => h.hi q ((mem q).mp hq)
  have hs := holes_sum 0 (segs row)
  rw [segs_size] at hs
  have key : ∀ (g : List Seg) (b : Int), Ok b g → (g.length : Int) ≤ (holesI b g).sum := fun g b hg => by
    have := holesI_pos hg
    have e := holesI_len b g
    generalize holesI b g = l at this e
    rw [← e]
    clear e
    induction l with
    | nil => simp
    | cons a l ih =>
      have h1 := this a List.mem_cons_self
      have h2 := ih fun x hx => this x (List.mem_cons_of_mem _ hx)
      simp only [List.sum_cons, List.length_cons]
      omega
  cases hg : segs row with
  | nil => simp
  | cons x g =>
    rw [hg] at hs ok he
    have k1 := key g (x.1 + x.2 + 1) ok.2
    have k2 : (holesI 0 (x :: g)).sum = (x.1 - 0) + (holesI (x.1 + x.2 + 1) g).sum := by
      show ((x.1 - 0) :: holesI (x.1 + x.2 + 1) g).sum = _
      rw [List.sum_cons]
    have k3 := ok.1
    simp only [List.length_cons]
    omega
def bkL (p T : Nat) (xs : List Nt) : PyData := .list [.int (p : Nat), .int (T : Nat), .list (xs.map ntL)]
theorem flb_nat {n : Nat} (h : n ≤ 1000) : FlB (.int n) := by show (n : Int).natAbs ≤ _; omega
theorem flb_wd (w : Wd) : FlB (.str (wstr w)) := by cases w <;> exact ⟨sok _, by decide +kernel⟩
theorem flb_sort (v : NV) : FlB (.str (sortS v)) := by
  cases v
  · exact ⟨sok "groups", (show (reprText "groups").length ≤ 400 by decide +kernel)⟩
  · exact ⟨sok "house", (show (reprText "house").length ≤ 400 by decide +kernel)⟩
/-- times and numbers are small -/
structure NSm (xs : List Nt) : Prop where
  t : ∀ x ∈ xs, x.t ≤ 1000
  v : ∀ x ∈ xs, FlB (valD x.v)
  l : xs.length ≤ 100
theorem NSm.flb {xs : List Nt} (h : NSm xs) {x : Nt} (hx : x ∈ xs) : FlB (valD x.v) := h.v x hx
theorem bd_bkT {n k : Nat} {xs : List Nt} (hn : n ≤ 1000) (hk : k ≤ 1000) (h : NSm xs) : Bd 100 3 (bkT n k xs) := bd_tup (show 3 ≤ 100 by decide) fun x hx => by
  simp only [List.mem_cons, List.not_mem_nil, or_false] at hx
  rcases hx with rfl | rfl | rfl
  · exact .flat (flb_nat hn)
  · exact .flat (flb_nat hk)
  · refine bd_tup (by rw [List.length_map]; exact h.l) fun x hx => ?_
    obtain ⟨m, hm, rfl⟩ := List.mem_map.mp hx
    refine bd_tup (show 3 ≤ 100 by decide) fun x hx => ?_
    simp only [List.mem_cons, List.not_mem_nil, or_false] at hx
    rcases hx with rfl | rfl | rfl
    · exact .flat (flb_nat (h.t m hm))
    · exact .flat (flb_sort _)
    · exact .flat (h.flb hm)
theorem sn_small {row : List Int} {k : Nat} {xs : List Nt} (h : Sn row k xs) (hk : k ≤ 40) (hl : row.length = k) : NSm xs := by
  refine ⟨fun x hx => by have := (h.tru x hx).1; omega, fun x hx => ?_, by have := h.len; omega⟩
  cases hv : x.v with
  | h w => exact flb_wd w
  | g n =>
    have h1 := (h.tru x hx).2
    rw [hv] at h1
    have h1 : NV.g (segs (row.take (x.t + 1))).length = NV.g n := h1
    injection h1 with h1
    have := segs_len (row.take (x.t + 1))
    rw [List.length_take] at this
    exact flb_nat (by omega)
local macro_rules | `(tactic| walk_at "s6") => `(tactic| simp only [wFlIx, wFlLs, wPubO, wC, wV, wPub, wP, wCons, wTup, wLst, wL, w2, wTest, wChain, wAnd, wOr, Dw.wNot, wAndV, wOrV, wNotV, wIf, Dw.wTru, truD, gI0, gI, gEq, gNe, gIn, gIsN, gNotN, gIsB, gNotB, gCatT, gCatS, gIx, wCat, wRep, w1, w1O, gLen, gTupleOf, gListOf, wRg1, gInt, gStr, w2a, wSlT, wSlL, wSlS, wRevT, wNeg, wCall, wCallB, wName, wGNil_n, wGCons_c, wGTup, wSeq, wRng1, wEnum, wZip, wNext, wSq, wRet, wIfS, wDrop, wAsg, wOwn, wAug, wMeth, fAppend, wFor_eq, wWhile_eq, wipeD, wLc_eq, Dw.wNm, wPar, wGix, wDix, wCatP, wPopTo, fPop, fPopAt, fIns, wSetIx, gRepr, gMinT, gNeS, gRepN, wDGet2, wKGet, wLIdx, wDPGet, wKAug, wDcK, wDPut, wTPut, wTGet, gSrtR, gSrtA, gLtP, wSlB, wStar, wRaise, wNmX, wXat, wXis, gEqS, wYd, wYdic, wYfn, wYg, wCallD, wCallV, wSetN, wDcT, wTGet2, wTGet1, dicAt, wRng2, wRg2, wRngD, wRevR, gRevL, wAugM, gLenSetL, wAppPop, gSrtSet, wIsi, wNotT, wAugIx, wPeekO, wPick2, wExt, fRem, look_d, look_own, shpI, shpB, shpN, shpS, seqT, seqL, itsT, itsL, lenT, lenL, okFF, eqv_str, eqv_int, eqv_bool, isNone, perm, Dt.set, Dt.sets, env0, List.map_cons, List.map_nil, List.cons_append, List.nil_append, List.getElem?_cons_zero, List.getElem?_cons_succ, List.set_cons_succ, List.set_cons_zero, List.filterMap_cons, List.filterMap_nil, Option.some.injEq, DV.d.injEq, DV.own.injEq, DV.dit.injEq, DV.dd.injEq, DV.oth.injEq, reduceCtorEq, false_or, or_false, false_and, and_false, exists_false, PyData.int.injEq, PyData.bool.injEq, PyData.str.injEq, PyData.tuple.injEq, PyData.list.injEq, List.cons.injEq, exists_eq_left, exists_eq_left', exists_eq_right, exists_eq_right', exists_and_left, exists_eq', exists_eq, and_true, true_and, and_self, and_assoc, List.length_cons, List.length_nil, List.replicate, Nat.reduceAdd, Nat.reduceSub, Nat.reduceLeDiff, Nat.zero_le, decide_eq_true_eq, Bool.not_eq_true', decide_eq_false_iff_not, ite_true, ite_false, if_true, if_false, Bool.false_eq_true, Bool.true_eq_false, eq_self, List.reduceReplicate, Bool.not_true, Bool.not_false, reduceIte])
theorem ev_uniq {ns : List Nt} {p T : Nat} {a b : Ev} (ha : EvIs ns p T 0 a) (hb : EvIs ns p T 0 b) : a = b := by
  cases ha with
  | ok h hr => cases hb with
    | ok => rfl
    | stuck t h1 h2 h3 hn => exact (hn (h t h1 h2)).elim
    | room h3 hr2 => omega
  | stuck t h1 h2 h hn => cases hb with
    | ok h3 hr => exact (hn (h3 t h1 h2)).elim
    | room h3 hr => exact (hn (h3 t h1 h2)).elim
    | stuck t' h1' h2' h' hn' =>
      rcases Nat.lt_trichotomy t t' with g | g | g
      · exact (hn (h' t h1 g)).elim
      · rw [g]
      · exact (hn' (h t' h1' g)).elim
  | room h hr => cases hb with
    | ok h3 hr2 => omega
    | room => rfl
    | stuck t h1 h2 h3 hn => exact (hn (h t h1 h2)).elim
/-- statements that are never come to -/
theorem dss_fls {X : Cx} {C : Ct} {sts : List Stmt} : DSs X C sts (fun _ _ _ => False) (fun _ _ => False) := ⟨⟨fun _ _ _ _ _ _ h => h.elim⟩, fun _ _ _ _ _ _ _ q _ => q⟩
theorem at0z (a : PyData) (l : List PyData) : atI (a :: l) 0 = some a := by
  unfold atI ixN
  rw [if_pos (by decide), if_pos (by simp)]
  rfl
theorem evD_ok {e : OgM.Ev} (h : e ≠ .ok) : okF true (evD e) = true ∧ evD e ≠ .none := by
  cases e with
  | ok => exact (h rfl).elim
  | stuck t => exact ⟨rfl, fun z => nomatch z⟩
  | room t => exact ⟨rfl, fun z => nomatch z⟩
/-- a book and its evidence -/
structure BkE (d : PyData) (p T : Nat) (ns : List Nt) (e : OgM.Ev) : Prop where
  b : Bk d p T ns
  l : ns.length ≤ 60
  t : ∀ x ∈ ns, x.t < T
  e : EvIs ns p T 0 e
def impO (e : OgM.Ev) : Oc := .ex "Impossible" "evidence" (evD e)
def timO (x : Int) : Oc := .ex "NoTime" "time" (.int x)
section
variable {P : Program} {wd : World} {K : PySem.W.Frag} {mg : Str → Option Value} {base : Heap} {c : Nat → Addr}
def f_checkX : FX := fun ds R => ∃ d p T ns e, ds = [d] ∧ BkE d p T ns e ∧ R (if e = .ok then .ok .none else impO e)
theorem ok_checkX (T : Top wd K mg) (Y : TopX K mg c) : DefX P wd K mg base 4 "check_possible" s_check_possible ["journal"] (spX K mg f_checkX) := by
  have g_evidence := ok_evidence (P := P) (base := base) T
  have M_Impossible := mk_Impossible (P := P) (base := base) T Y
  refine DefX.make T.d_check_possible sc_check_possible (fun ds R h => by obtain ⟨_, _, _, _, _, rfl, _⟩ := h; rfl) (fun f cdv A outer s H G E ds R hG hr h hx => ?_)
  obtain ⟨d, p, n, ns, e, rfl, hB, q⟩ := h
  refine ⟨_, _, (dss_cons (ds_set 1 sc_check_possible.nd (de_c g_evidence hG (hr.mono (by omega)) (by rfl) (da_cons (de_v 0) da_nil)))
      (dss_one (ds_if (dt_cmp o_notN (dp_v 1) (DE.p de_non)) (dss_one (ds_raise M_Impossible rfl hx (by rfl) (takes_of rfl rfl rfl rfl) rfl (hr.mono (by omega)) (by rfl) (de_v 1))) dss_nil))), ?_⟩
  walk_at "s6"
  refine ⟨d, p, n, ns, rfl, hB.b, hB.l, fun ks h1 h2 => ?_⟩
  rw [ev_uniq (ev_is (p := p) (T := n) hB.t h1 h2) hB.e]
  walk_at "s6"
  by_cases h : e = .ok
  · rw [if_pos h] at q
    subst h
    exact (if_neg (by simp [evD])).mpr q
  · rw [if_neg h] at q
    refine (if_pos ?_).mpr ⟨(evD_ok h).1, q⟩
    cases e with
    | ok => exact (h rfl).elim
    | stuck t => rfl
    | room t => rfl
def f_ckT : FX := fun ds R => ∃ d p T ns x, ds = [d, .int x] ∧ IsBook d p T ns ∧ R (if 0 ≤ x ∧ x < (T : Int) then .ok .none else timO x)
theorem ok_check_timeX (T : Top wd K mg) (Y : TopX K mg c) : DefX P wd K mg base 4 "check_time" s_check_time ["journal", "time"] (spX K mg f_ckT) := by
  have M_NoTime := mk_NoTime (P := P) (wd := wd) (base := base) Y
  refine DefX.make T.d_check_time sc_check_time (fun ds R h => by obtain ⟨_, _, _, _, _, rfl, _⟩ := h; rfl) (fun f cdv A outer s H G E ds R hG hr h hx => ?_)
  obtain ⟨d, p, n, ns, x, rfl, hB, q⟩ := h
  obtain ⟨e, he, hs1, hs2⟩ := hB.sq
  refine ⟨_, _, (dss_one (ds_if (dt_not (dt_chain o_le o_lt (DE.p de_int) (dp_v 1) (DE.p (de_ix rfl (dp_v 0) (DE.p de_int))))) (dss_one (ds_raise M_NoTime rfl hx (by rfl) (takes_of rfl rfl rfl rfl) rfl (hr.mono (by omega)) (by rfl) (de_v 1))) dss_nil)), ?_⟩
  walk_at "s6"
  rw [hs2]
  by_cases h0 : 0 ≤ x
  · rw [if_pos h0]
    refine ⟨hs1, _, rfl, _, rfl, ?_⟩
    by_cases h1 : x < (n : Int)
    · rw [if_neg fun z => z h1]
      rw [if_pos ⟨h0, h1⟩] at q
      exact q
    · rw [if_pos h1]
      rw [if_neg fun z => h1 z.2] at q
      exact q
  · rw [if_neg h0]
    rw [if_neg fun z => h0 z.1] at q
    exact q
def f_imp1 : FX := fun ds R => ∃ d p T ns e, ds = [d] ∧ BkE d p T ns e ∧ e ≠ .ok ∧ R (impO e)
def f_imp2 : FX := fun ds R => ∃ d p T ns e x, ds = [d, .int x] ∧ BkE d p T ns e ∧ (e = .ok → ¬ (0 ≤ x ∧ x < (T : Int))) ∧ R (if e = .ok then timO x else impO e)
def f_togX : FX := fun ds R => ∃ d p T ns e x y, ds = [d, .int x, .int y] ∧ BkE d p T ns e ∧ (e = .ok → ¬ ((0 ≤ x ∧ x < (T : Int)) ∧ (0 ≤ y ∧ y < (T : Int)))) ∧ R (if e = .ok then (if 0 ≤ x ∧ x < (T : Int) then timO y else timO x) else impO e)
def f_owX : FX := fun ds R => ∃ d w p T ns e, ds = [d, w] ∧ BkE d p T ns e ∧ e ≠ .ok ∧ R (impO e)
def f_oaX : FX := fun ds R => ∃ d p T ns x, ds = [d, .int x] ∧ Bk d p T ns ∧ ¬ (0 ≤ x ∧ x < ((FW List.sum ns (p - T) T T 0 : Nat) : Int)) ∧ R (.ex "NoNumber" "number" (.int x))
def f_noX : FX := fun ds R => ∃ d o p T ns row y ys, ds = [d, o] ∧ Bk d p T ns ∧ IsR o row ∧ OgM.Row (p : Nat) row ∧ row.length ≤ 900 ∧ (∀ x ∈ ns, x.t < row.length) ∧ (ns.filter fun x => decide (truV row x.t x.v ≠ x.v)) = y :: ys ∧ R (.ex "Misfit" "time" (.int (y.t : Nat)))
theorem ok_possible_groupsX (T : Top wd K mg) (Y : TopX K mg c) : DefX P wd K mg base 5 "possible_groups" s_possible_groups ["journal"] (spX K mg f_imp1) := by
  have g_check_possible := ok_checkX (P := P) (wd := wd) (base := base) T Y
  refine DefX.make T.d_possible_groups sc_possible_groups (fun ds R h => by obtain ⟨_, _, _, _, _, rfl, _⟩ := h; rfl) (fun f cdv A outer s H G E ds R hG hr h hx => ?_)
  obtain ⟨d, p, n, ns, e, rfl, hB, hne, q⟩ := h
  refine ⟨_, _, dss_cons (ds_exprX g_check_possible rfl hx (takes_of rfl rfl rfl rfl) rfl hG (hr.mono (by omega)) (by rfl) (da_cons (de_v 0) da_nil)) dss_fls, ?_⟩
  walk_at "s6"
  refine ⟨_, rfl, d, p, n, ns, e, rfl, hB, ?_⟩
  rw [if_neg hne]
  exact q
theorem ok_count_walksX (T : Top wd K mg) (Y : TopX K mg c) : DefX P wd K mg base 5 "count_walks" s_count_walks ["journal"] (spX K mg f_imp1) := by
  have g_check_possible := ok_checkX (P := P) (wd := wd) (base := base) T Y
  refine DefX.make T.d_count_walks sc_count_walks (fun ds R h => by obtain ⟨_, _, _, _, _, rfl, _⟩ := h; rfl) (fun f cdv A outer s H G E ds R hG hr h hx => ?_)
  obtain ⟨d, p, n, ns, e, rfl, hB, hne, q⟩ := h
  refine ⟨_, _, dss_cons (ds_exprX g_check_possible rfl hx (takes_of rfl rfl rfl rfl) rfl hG (hr.mono (by omega)) (by rfl) (da_cons (de_v 0) da_nil)) dss_fls, ?_⟩
  walk_at "s6"
  refine ⟨_, rfl, d, p, n, ns, e, rfl, hB, ?_⟩
  rw [if_neg hne]
  exact q
theorem ok_likeliestX (T : Top wd K mg) (Y : TopX K mg c) : DefX P wd K mg base 5 "likeliest" s_likeliest ["journal"] (spX K mg f_imp1) := by
  have g_check_possible := ok_checkX (P := P) (wd := wd) (base := base) T Y
  refine DefX.make T.d_likeliest sc_likeliest (fun ds R h => by obtain ⟨_, _, _, _, _, rfl, _⟩ := h; rfl) (fun f cdv A outer s H G E ds R hG hr h hx => ?_)
  obtain ⟨d, p, n, ns, e, rfl, hB, hne, q⟩ := h
  refine ⟨_, _, dss_cons (ds_exprX g_check_possible rfl hx (takes_of rfl rfl rfl rfl) rfl hG (hr.mono (by omega)) (by rfl) (da_cons (de_v 0) da_nil)) dss_fls, ?_⟩
  walk_at "s6"
  refine ⟨_, rfl, d, p, n, ns, e, rfl, hB, ?_⟩
  rw [if_neg hne]
  exact q
theorem ok_group_chancesX (T : Top wd K mg) (Y : TopX K mg c) : DefX P wd K mg base 5 "group_chances" s_group_chances ["journal", "time"] (spX K mg f_imp2) := by
  have g_check_possible := ok_checkX (P := P) (wd := wd) (base := base) T Y
  have g_check_time := ok_check_timeX (P := P) (wd := wd) (base := base) T Y
  refine DefX.make T.d_group_chances sc_group_chances (fun ds R h => by obtain ⟨_, _, _, _, _, _, rfl, _⟩ := h; rfl) (fun f cdv A outer s H G E ds R hG hr h hx => ?_)
  obtain ⟨d, p, n, ns, e, x, rfl, hB, hne, q⟩ := h
  refine ⟨_, _, dss_cons (ds_exprX g_check_possible rfl hx (takes_of rfl rfl rfl rfl) rfl hG (hr.mono (by omega)) (by rfl) (da_cons (de_v 0) da_nil)) (dss_cons (ds_exprX g_check_time rfl hx (takes_of rfl rfl rfl rfl) rfl hG (hr.mono (by omega)) (by rfl) (da_cons (de_v 0) (da_cons (de_v 1) da_nil))) dss_fls), ?_⟩
  walk_at "s6"
  refine ⟨_, rfl, d, p, n, ns, e, rfl, hB, ?_⟩
  by_cases he : e = .ok
  · rw [if_pos he] at q ⊢
    walk_at "s6"
    refine ⟨_, rfl, _, rfl, d, p, n, ns, x, rfl, hB.b.1, ?_⟩
    rw [if_neg (hne he)]
    exact q
  · rw [if_neg he] at q ⊢
    exact q
theorem ok_mean_groupsX (T : Top wd K mg) (Y : TopX K mg c) : DefX P wd K mg base 5 "mean_groups" s_mean_groups ["journal", "time"] (spX K mg f_imp2) := by
  have g_check_possible := ok_checkX (P := P) (wd := wd) (base := base) T Y
  have g_check_time := ok_check_timeX (P := P) (wd := wd) (base := base) T Y
  refine DefX.make T.d_mean_groups sc_mean_groups (fun ds R h => by obtain ⟨_, _, _, _, _, _, rfl, _⟩ := h; rfl) (fun f cdv A outer s H G E ds R hG hr h hx => ?_)
  obtain ⟨d, p, n, ns, e, x, rfl, hB, hne, q⟩ := h
  refine ⟨_, _, dss_cons (ds_exprX g_check_possible rfl hx (takes_of rfl rfl rfl rfl) rfl hG (hr.mono (by omega)) (by rfl) (da_cons (de_v 0) da_nil)) (dss_cons (ds_exprX g_check_time rfl hx (takes_of rfl rfl rfl rfl) rfl hG (hr.mono (by omega)) (by rfl) (da_cons (de_v 0) (da_cons (de_v 1) da_nil))) dss_fls), ?_⟩
  walk_at "s6"
  refine ⟨_, rfl, d, p, n, ns, e, rfl, hB, ?_⟩
  by_cases he : e = .ok
  · rw [if_pos he] at q ⊢
    walk_at "s6"
    refine ⟨_, rfl, _, rfl, d, p, n, ns, x, rfl, hB.b.1, ?_⟩
    rw [if_neg (hne he)]
    exact q
  · rw [if_neg he] at q ⊢
    exact q
theorem ok_house_chancesX (T : Top wd K mg) (Y : TopX K mg c) : DefX P wd K mg base 5 "house_chances" s_house_chances ["journal", "time"] (spX K mg f_imp2) := by
  have g_check_possible := ok_checkX (P := P) (wd := wd) (base := base) T Y
  have g_check_time := ok_check_timeX (P := P) (wd := wd) (base := base) T Y
  refine DefX.make T.d_house_chances sc_house_chances (fun ds R h => by obtain ⟨_, _, _, _, _, _, rfl, _⟩ := h; rfl) (fun f cdv A outer s H G E ds R hG hr h hx => ?_)
  obtain ⟨d, p, n, ns, e, x, rfl, hB, hne, q⟩ := h
  refine ⟨_, _, dss_cons (ds_exprX g_check_possible rfl hx (takes_of rfl rfl rfl rfl) rfl hG (hr.mono (by omega)) (by rfl) (da_cons (de_v 0) da_nil)) (dss_cons (ds_exprX g_check_time rfl hx (takes_of rfl rfl rfl rfl) rfl hG (hr.mono (by omega)) (by rfl) (da_cons (de_v 0) (da_cons (de_v 1) da_nil))) dss_fls), ?_⟩
  walk_at "s6"
  refine ⟨_, rfl, d, p, n, ns, e, rfl, hB, ?_⟩
  by_cases he : e = .ok
  · rw [if_pos he] at q ⊢
    walk_at "s6"
    refine ⟨_, rfl, _, rfl, d, p, n, ns, x, rfl, hB.b.1, ?_⟩
    rw [if_neg (hne he)]
    exact q
  · rw [if_neg he] at q ⊢
    exact q
theorem ok_plot_chancesX (T : Top wd K mg) (Y : TopX K mg c) : DefX P wd K mg base 5 "plot_chances" s_plot_chances ["journal", "time"] (spX K mg f_imp2) := by
  have g_check_possible := ok_checkX (P := P) (wd := wd) (base := base) T Y
  have g_check_time := ok_check_timeX (P := P) (wd := wd) (base := base) T Y
  refine DefX.make T.d_plot_chances sc_plot_chances (fun ds R h => by obtain ⟨_, _, _, _, _, _, rfl, _⟩ := h; rfl) (fun f cdv A outer s H G E ds R hG hr h hx => ?_)
  obtain ⟨d, p, n, ns, e, x, rfl, hB, hne, q⟩ := h
  refine ⟨_, _, dss_cons (ds_exprX g_check_possible rfl hx (takes_of rfl rfl rfl rfl) rfl hG (hr.mono (by omega)) (by rfl) (da_cons (de_v 0) da_nil)) (dss_cons (ds_exprX g_check_time rfl hx (takes_of rfl rfl rfl rfl) rfl hG (hr.mono (by omega)) (by rfl) (da_cons (de_v 0) (da_cons (de_v 1) da_nil))) dss_fls), ?_⟩
  walk_at "s6"
  refine ⟨_, rfl, d, p, n, ns, e, rfl, hB, ?_⟩
  by_cases he : e = .ok
  · rw [if_pos he] at q ⊢
    walk_at "s6"
    refine ⟨_, rfl, _, rfl, d, p, n, ns, x, rfl, hB.b.1, ?_⟩
    rw [if_neg (hne he)]
    exact q
  · rw [if_neg he] at q ⊢
    exact q
theorem ok_together_chanceX (T : Top wd K mg) (Y : TopX K mg c) : DefX P wd K mg base 5 "together_chance" s_together_chance ["journal", "one", "other"] (spX K mg f_togX) := by
  have g_check_possible := ok_checkX (P := P) (wd := wd) (base := base) T Y
  have g_check_time := ok_check_timeX (P := P) (wd := wd) (base := base) T Y
  refine DefX.make T.d_together_chance sc_together_chance (fun ds R h => by obtain ⟨_, _, _, _, _, _, _, rfl, _⟩ := h; rfl) (fun f cdv A outer s H G E ds R hG hr h hx => ?_)
  obtain ⟨d, p, n, ns, e, x, y, rfl, hB, hne, q⟩ := h
  refine ⟨_, _, dss_cons (ds_exprX g_check_possible rfl hx (takes_of rfl rfl rfl rfl) rfl hG (hr.mono (by omega)) (by rfl) (da_cons (de_v 0) da_nil)) (dss_cons (ds_exprX g_check_time rfl hx (takes_of rfl rfl rfl rfl) rfl hG (hr.mono (by omega)) (by rfl) (da_cons (de_v 0) (da_cons (de_v 1) da_nil))) (dss_cons (ds_exprX g_check_time rfl hx (takes_of rfl rfl rfl rfl) rfl hG (hr.mono (by omega)) (by rfl) (da_cons (de_v 0) (da_cons (de_v 2) da_nil))) dss_fls)), ?_⟩
  walk_at "s6"
  refine ⟨_, rfl, d, p, n, ns, e, rfl, hB, ?_⟩
  by_cases he : e = .ok
  · rw [if_pos he] at q ⊢
    walk_at "s6"
    refine ⟨_, rfl, _, rfl, d, p, n, ns, x, rfl, hB.b.1, ?_⟩
    by_cases hx0 : 0 ≤ x ∧ x < (n : Int)
    · rw [if_pos hx0] at q ⊢
      walk_at "s6"
      refine ⟨_, rfl, _, rfl, d, p, n, ns, y, rfl, hB.b.1, ?_⟩
      rw [if_neg fun z => hne he ⟨hx0, z⟩]
      exact q
    · rw [if_neg hx0] at q ⊢
      exact q
  · rw [if_neg he] at q ⊢
    exact q
theorem ok_orders_withX (T : Top wd K mg) (Y : TopX K mg c) : DefX P wd K mg base 5 "orders_with" s_orders_with ["journal", "walk"] (spX K mg f_owX) := by
  have g_check_possible := ok_checkX (P := P) (wd := wd) (base := base) T Y
  refine DefX.make T.d_orders_with sc_orders_with (fun ds R h => by obtain ⟨_, _, _, _, _, _, rfl, _⟩ := h; rfl) (fun f cdv A outer s H G E ds R hG hr h hx => ?_)
  obtain ⟨d, w, p, n, ns, e, rfl, hB, hne, q⟩ := h
  refine ⟨_, _, dss_cons (ds_exprX g_check_possible rfl hx (takes_of rfl rfl rfl rfl) rfl hG (hr.mono (by omega)) (by rfl) (da_cons (de_v 0) da_nil)) dss_fls, ?_⟩
  walk_at "s6"
  refine ⟨_, rfl, d, p, n, ns, e, rfl, hB, ?_⟩
  rw [if_neg hne]
  exact q
theorem ok_order_atX (T : Top wd K mg) (Y : TopX K mg c) : DefX P wd K mg base 7 "order_at" s_order_at ["journal", "number"] (spX K mg f_oaX) := by
  have g_all_ways := ok_all_ways (P := P) (base := base) T
  have M_NoNumber := mk_NoNumber (P := P) (wd := wd) (base := base) Y
  refine DefX.make T.d_order_at sc_order_at (fun ds R h => by obtain ⟨_, _, _, _, _, rfl, _⟩ := h; rfl) (fun f cdv A outer s H G E ds R hG hr h hx => ?_)
  obtain ⟨d, p, n, ns, x, rfl, hB, hno, q⟩ := h
  refine ⟨_, _, dss_cons (ds_set 2 sc_order_at.nd (de_c g_all_ways hG (hr.mono (by omega)) (by rfl) (da_cons (de_v 0) da_nil)))
        (dss_cons (ds_if (dt_not (dt_chain o_le o_lt (DE.p de_int) (dp_v 1) (DE.p (de_ix rfl (DE.p (de_ix rfl (dp_v 2) (DE.p de_int))) (DE.p de_int))))) (dss_one (ds_raise M_NoNumber rfl hx (by rfl) (takes_of rfl rfl rfl rfl) rfl (hr.mono (by omega)) (by rfl) (de_v 1))) dss_nil) dss_fls), ?_⟩
  have e1 : FW List.sum ns (p - n) n (n - 0) 0 = FW List.sum ns (p - n) n n 0 := by rw [Nat.sub_zero]
  walk_at "s6"
  refine ⟨d, p, n, ns, rfl, hB, ?_⟩
  walk_at "s6"
  by_cases h0 : 0 ≤ x
  · rw [if_pos h0]
    refine ⟨rfl, _, fw_at (i := 0) (by omega), rfl, _, fr_at (m := 0) (by omega), _, rfl, ?_⟩
    rw [e1]
    rw [if_pos fun z => hno ⟨h0, z⟩]
    exact q
  · rw [if_neg h0]
    exact q
theorem ok_number_ofX (T : Top wd K mg) (Y : TopX K mg c) : DefX P wd K mg base 6 "number_of" s_number_of ["journal", "order"] (spX K mg f_noX) := by
  have g_untrue_times := ok_untrue_times (P := P) (base := base) T
  have M_Misfit := mk_Misfit (P := P) (wd := wd) (base := base) Y
  refine DefX.make T.d_number_of sc_number_of (fun ds R h => by obtain ⟨_, _, _, _, _, _, _, _, rfl, _⟩ := h; rfl) (fun f cdv A outer s H G E ds R hG hr h hx => ?_)
  obtain ⟨d, o, p, n, ns, row, y, ys, rfl, hB, hd, hR, hl, ht, hf, q⟩ := h
  obtain ⟨e, he, hs1, hs2⟩ := hB.1.sq
  refine ⟨_, _, dss_cons (ds_asg (de_v 0) (dg_tup (n := 3) rfl (by rfl) (dgs_c (dg_name 2 sc_number_of.nd) (dgs_c (dg_name 3 sc_number_of.nd) (dgs_c (dg_name 4 sc_number_of.nd) dgs_nil)))))
        (dss_cons (ds_set 5 sc_number_of.nd (de_c g_untrue_times hG (hr.mono (by omega)) (by rfl) (da_cons (de_v 4) (da_cons (de_v 1) da_nil))))
        (dss_cons (ds_if (dt_tru rfl (dp_v 5)) (dss_one (ds_raise M_Misfit rfl hx (by rfl) (takes_of rfl rfl rfl rfl) rfl (hr.mono (by omega)) (by rfl) (de_ix rfl (dp_v 5) (DE.p de_int)))) dss_nil) dss_fls)), ?_⟩
  walk_at "s6"
  simp only [hs1, hs2]
  walk_at "s6"
  refine ⟨e, o, row, p, ns, rfl, he, hd, hR, hl, hB.2.2.2.2, ht, ?_⟩
  rw [hf]
  walk_at "s6"
  exact (if_pos rfl).mpr ⟨_, at0z _ _, q⟩
end
local macro_rules | `(tactic| walk_at "s7") => `(tactic| simp only [wFlIx, wFlLs, wTryN, wTySet, wTyIf, wTySq, wTyExpr, wYxc, wMK, wMN, wMNK, wTm, CallT, wNeO, wEqT, wReprO, wJ, wFmt, wJoined, wMkK, gSumT, wPlots, wFldIx, wFldLen, wFldList, wFldApp, wFldPop, wNX, wMX, wHOb, wHBox, wCO, CallsO, wRetFin, wRetFin3, wRaiseO, wCX, wNewO, wMk, wLenO, wIsiO, wEqO, hdO_1, hdO_2, hdO_b0, hdO_b1, hdO_b2, selV_nil, sel0, sel1, sel2, sel01, sel10, put0, put1, put2, put01, put10, putN, tk0, tk1, tk2, nd1, nd01, nd10, ndN, DEnds.low, Dt.low, low_box, low_d, low_own, low_none, low_ob, initS, sd_states, sd_told, sd_put1, sd_put2, noL_int, noL_str, noL_tup, noLA_cons, noLA_nil, noLA_ints, L2.atI_last, DV.ob.injEq, Ov.st.injEq, Bool.and_true, Bool.true_and, wCount, wPubO, wC, wV, wPub, wP, wCons, wTup, wLst, wL, w2, wTest, wChain, wAnd, wOr, Dw.wNot, wAndV, wOrV, wNotV, wIf, Dw.wTru, truD, gI0, gI, gEq, gNe, gIn, gIsN, gNotN, gIsB, gNotB, gCatT, gCatS, gIx, wCat, wRep, w1, w1O, gLen, gTupleOf, gListOf, wRg1, gInt, gStr, w2a, wSlT, wSlL, wSlS, wRevT, wNeg, wCall, wCallB, wName, wGNil_n, wGCons_c, wGTup, wSeq, wRng1, wEnum, wZip, wNext, wSq, wRet, wIfS, wDrop, wAsg, wOwn, wAug, wMeth, fAppend, wFor_eq, wWhile_eq, wipeD, wLc_eq, Dw.wNm, wPar, wGix, wDix, wCatP, wPopTo, fPop, fPopAt, fIns, wSetIx, gRepr, gMinT, gNeS, gRepN, wDGet2, wKGet, wLIdx, wDPGet, wKAug, wDcK, wDPut, wTPut, wTGet, gSrtR, gSrtA, gLtP, wSlB, wStar, wRaise, wNmX, wXat, wXis, gEqS, wYd, wYdic, wYfn, wYg, wCallD, wCallV, wSetN, wDcT, wTGet2, wTGet1, dicAt, wRng2, wRg2, wRngD, wRevR, gRevL, wAugM, gLenSetL, wAppPop, gSrtSet, wIsi, wNotT, wAugIx, wPeekO, wPick2, wExt, fRem, look_d, look_own, shpI, shpB, shpN, shpS, seqT, seqL, itsT, itsL, lenT, lenL, okFF, eqv_str, eqv_int, eqv_bool, isNone, perm, Dt.set, Dt.sets, env0, List.map_cons, List.map_nil, List.cons_append, List.nil_append, List.getElem?_cons_zero, List.getElem?_cons_succ, List.set_cons_succ, List.set_cons_zero, List.filterMap_cons, List.filterMap_nil, Option.some.injEq, DV.d.injEq, DV.own.injEq, DV.dit.injEq, DV.dd.injEq, DV.oth.injEq, reduceCtorEq, false_or, or_false, false_and, and_false, exists_false, PyData.int.injEq, PyData.bool.injEq, PyData.str.injEq, PyData.tuple.injEq, PyData.list.injEq, List.cons.injEq, exists_eq_left, exists_eq_left', exists_eq_right, exists_eq_right', exists_and_left, exists_eq', exists_eq, and_true, true_and, and_self, and_assoc, List.length_cons, List.length_nil, List.replicate, Nat.reduceAdd, Nat.reduceSub, Nat.reduceLeDiff, Nat.zero_le, decide_eq_true_eq, Bool.not_eq_true', decide_eq_false_iff_not, ite_true, ite_false, if_true, if_false, Bool.false_eq_true, Bool.true_eq_false, eq_self, List.reduceReplicate, Bool.not_true, Bool.not_false, reduceIte])
theorem kf1 {K : PySem.W.Frag} {mg : Str → Option Value} {c : Nat → Addr} (Y : TopX K mg c) {i : Nat} (hi : i < 6) {nm : Str} (hm : mg nm = some (.ref (c i))) (x : XCx K (c i)) {j : Nat} (hj : j < 6) : KitN K mg nm [.ref (c j)] (decide (i = j)) := kitN hm x (kit_1 (Y.kt hi hj))
theorem xcx {K : PySem.W.Frag} {mg : Str → Option Value} {c : Nat → Addr} (Y : TopX K mg c) : ∀ i, i < 5 → XCx K (c i)
  | 0, _ => ⟨_, _, _, _, Y.x0.xc⟩
  | 1, _ => ⟨_, _, _, _, Y.x1.xc⟩
  | 2, _ => ⟨_, _, _, _, Y.x2.xc⟩
  | 3, _ => ⟨_, _, _, _, Y.x3.xc⟩
  | 4, _ => ⟨_, _, _, _, Y.x4.xc⟩
def Er (nm fld txt : Str) : Prop := (nm = "Impossible" ∧ fld = "evidence" ∧ txt = "impossible") ∨ (nm = "Misfit" ∧ fld = "time" ∧ txt = "misfit") ∨ (nm = "NoNumber" ∧ fld = "number" ∧ txt = "no number") ∨ (nm = "NoTime" ∧ fld = "time" ∧ txt = "no time")
/-- what a call leads to -/
inductive Tl : Nat → PyData → PyData → PyData → Str → PyData → Prop
  | i1 {k : Nat} {b x y : PyData} {p T : Nat} {ns : List Nt} {e : OgM.Ev} (hk : k < 3) (h : BkE b p T ns e) (ne : e ≠ .ok) : Tl k b x y "impossible" (evD e)
  | i2 {k : Nat} {b y : PyData} {x : Int} {p T : Nat} {ns : List Nt} {e : OgM.Ev} (h1 : 3 ≤ k) (h2 : k < 7) (h : BkE b p T ns e) (ne : e ≠ .ok) : Tl k b (.int x) y "impossible" (evD e)
  | t2 {k : Nat} {b y : PyData} {x : Int} {p T : Nat} {ns : List Nt} (h1 : 3 ≤ k) (h2 : k < 7) (h : BkE b p T ns .ok) (hx : ¬ (0 ≤ x ∧ x < (T : Int))) : Tl k b (.int x) y "no time" (.int x)
  | i7 {b : PyData} {x y : Int} {p T : Nat} {ns : List Nt} {e : OgM.Ev} (h : BkE b p T ns e) (ne : e ≠ .ok) : Tl 7 b (.int x) (.int y) "impossible" (evD e)
  | t7 {b : PyData} {x y : Int} {p T : Nat} {ns : List Nt} (h : BkE b p T ns .ok) (hx : ¬ ((0 ≤ x ∧ x < (T : Int)) ∧ (0 ≤ y ∧ y < (T : Int)))) : Tl 7 b (.int x) (.int y) "no time" (.int (if 0 ≤ x ∧ x < (T : Int) then y else x))
  | i8 {b x y : PyData} {p T : Nat} {ns : List Nt} {e : OgM.Ev} (h : BkE b p T ns e) (ne : e ≠ .ok) : Tl 8 b x y "impossible" (evD e)
  | n9 {b y : PyData} {x : Int} {p T : Nat} {ns : List Nt} (h : Bk b p T ns) (hx : ¬ (0 ≤ x ∧ x < ((FW List.sum ns (p - T) T T 0 : Nat) : Int))) : Tl 9 b (.int x) y "no number" (.int x)
  | m10 {b x o : PyData} {p T : Nat} {ns ys : List Nt} {row : List Int} {y : Nt} (h : Bk b p T ns) (ho : IsR o row) (hR : OgM.Row (p : Nat) row) (hl : row.length ≤ 900) (ht : ∀ x ∈ ns, x.t < row.length) (hf : (ns.filter fun x => decide (truV row x.t x.v ≠ x.v)) = y :: ys) : Tl 10 b x o "misfit" (.int (y.t : Nat))
section
variable {P : Program} {wd : World} {K : PySem.W.Frag} {mg : Str → Option Value} {base : Heap} {c : Nat → Addr}
def f_told : FP := fun ds R => ∃ (k : Nat) (b x y : PyData) (txt : Str) (d : PyData), ds = [.int (k : Nat), b, x, y] ∧ Tl k b x y txt d ∧ R (.tuple [.str txt, d])
theorem ok_l_told (T : Top wd K mg) (Y : TopX K mg c) : Def P wd K mg base 8 "_law_told" s_l_told ["_law_kind", "_law_book", "_law_first", "_law_last"] (spP K f_told) := by
  have g_possible_groups := ok_possible_groupsX (P := P) (wd := wd) (base := base) T Y
  have g_count_walks := ok_count_walksX (P := P) (wd := wd) (base := base) T Y
  have g_likeliest := ok_likeliestX (P := P) (wd := wd) (base := base) T Y
  have g_group_chances := ok_group_chancesX (P := P) (wd := wd) (base := base) T Y
  have g_mean_groups := ok_mean_groupsX (P := P) (wd := wd) (base := base) T Y
  have g_house_chances := ok_house_chancesX (P := P) (wd := wd) (base := base) T Y
  have g_plot_chances := ok_plot_chancesX (P := P) (wd := wd) (base := base) T Y
  have g_together_chance := ok_together_chanceX (P := P) (wd := wd) (base := base) T Y
  have g_orders_with := ok_orders_withX (P := P) (wd := wd) (base := base) T Y
  have g_order_at := ok_order_atX (P := P) (wd := wd) (base := base) T Y
  have g_number_of := ok_number_ofX (P := P) (wd := wd) (base := base) T Y
  refine Def.pure T.d_l_told sc_l_told (fun ds R h => by obtain ⟨_, _, _, _, _, _, rfl, _⟩ := h; rfl) (fun f cdv A outer s H G E ds R hG hr h => ?_)
  obtain ⟨k, b, x, y, txt, d, rfl, hT, q⟩ := h
  have n_Impossible := names_Impossible (X := (cxOf CX0 P wd K mg base ["_law_kind", "_law_book", "_law_first", "_law_last", "_law_caught", "_law_found", "_law_doors", "error", "_law_flags", "_law_at"] "_law_told" (defScope s_l_told) f cdv A outer s H E).nox) Y.h_Impossible
  have n_Misfit := names_Misfit (X := (cxOf CX0 P wd K mg base ["_law_kind", "_law_book", "_law_first", "_law_last", "_law_caught", "_law_found", "_law_doors", "error", "_law_flags", "_law_at"] "_law_told" (defScope s_l_told) f cdv A outer s H E).nox) Y.h_Misfit
  have n_NoChoice := names_NoChoice (X := (cxOf CX0 P wd K mg base ["_law_kind", "_law_book", "_law_first", "_law_last", "_law_caught", "_law_found", "_law_doors", "error", "_law_flags", "_law_at"] "_law_told" (defScope s_l_told) f cdv A outer s H E).nox) Y.h_NoChoice
  have n_NoNumber := names_NoNumber (X := (cxOf CX0 P wd K mg base ["_law_kind", "_law_book", "_law_first", "_law_last", "_law_caught", "_law_found", "_law_doors", "error", "_law_flags", "_law_at"] "_law_told" (defScope s_l_told) f cdv A outer s H E).nox) Y.h_NoNumber
  have n_NoTime := names_NoTime (X := (cxOf CX0 P wd K mg base ["_law_kind", "_law_book", "_law_first", "_law_last", "_law_caught", "_law_found", "_law_doors", "error", "_law_flags", "_law_at"] "_law_told" (defScope s_l_told) f cdv A outer s H E).nox) Y.h_NoTime
  refine ⟨_, _, (dss_cons (ds_parT [4, 5] rfl (pg_tup rfl (pgs_cons (pg_name (i := 4) sc_l_told.nd rfl (.inl rfl)) (pgs_cons (pg_name (i := 5) sc_l_told.nd rfl (.inl rfl)) pgs_nil))) rfl (dx_cons (DE.dx de_non) (dx_cons (DE.dx de_non) dx_nil)))
      (dss_cut (ds_tryN 7 4 rfl rfl rfl rfl sc_l_told.nd (.cons n_Impossible (.cons n_Misfit (.cons n_NoChoice (.cons n_NoNumber (.cons n_NoTime .nil))))) (dtys_one (dty_if (fun _ _ => (dt_cmp o_lt (dp_v 0) (DE.p de_int))) (dtys_one (dty_set 5 sc_l_told.nd (dex_flLs (ks := ["journal"]) (π := [0]) rfl hG (hr.mono (by omega)) (dfs_cons (ks := ["journal"]) (π := [0]) g_possible_groups (by rfl) (dfs_cons (ks := ["journal"]) (π := [0]) g_count_walks (by rfl) (dfs_cons (ks := ["journal"]) (π := [0]) g_likeliest (by rfl) dfs_nil (fun _ _ _ _ _ _ ws hl => match ws, hl with | [_], _ => rfl)) (fun _ _ _ _ _ _ ws hl => match ws, hl with | [_], _ => rfl)) (fun _ _ _ _ _ _ ws hl => match ws, hl with | [_], _ => rfl)) (fun _ _ => (de_v 0)) (fun _ _ => (dk_cons (de_v 1) dk_nil)))))
          (dtys_one (dty_if (fun _ _ => (dt_cmp o_lt (dp_v 0) (DE.p de_int))) (dtys_cons (dty_setFl (ks := ["time", "journal"]) (π := [1, 0]) 6 sc_l_told.nd rfl (dfs_cons (ks := ["time", "journal"]) (π := [1, 0]) g_group_chances (by rfl) (dfs_cons (ks := ["time", "journal"]) (π := [1, 0]) g_mean_groups (by rfl) (dfs_cons (ks := ["time", "journal"]) (π := [1, 0]) g_house_chances (by rfl) (dfs_cons (ks := ["time", "journal"]) (π := [1, 0]) g_plot_chances (by rfl) dfs_nil (fun _ _ _ _ _ _ ws hl => match ws, hl with | [_, _], _ => rfl)) (fun _ _ _ _ _ _ ws hl => match ws, hl with | [_, _], _ => rfl)) (fun _ _ _ _ _ _ ws hl => match ws, hl with | [_, _], _ => rfl)) (fun _ _ _ _ _ _ ws hl => match ws, hl with | [_, _], _ => rfl))) (dtys_one (dty_set 5 sc_l_told.nd (dex_flIx (k := 5) (F := f_imp2) (nn := 4) (ks := ["time", "journal"]) (π := [1, 0]) 6 rfl hG (hr.mono (by omega)) (fun _ _ => (de_bin o_sub (dp_v 0) (DE.p de_int))) (fun _ _ => (dk_cons (de_v 2) (dk_cons (de_v 1) dk_nil)))))))
          (dtys_one (dty_if (fun _ _ => (dt_cmp (o_eq rfl hr.units) (dp_v 0) (DE.p de_int))) (dtys_one (dty_set 5 sc_l_told.nd (dex_nm (ks := ["other", "one", "journal"]) [2, 1, 0] g_together_chance hG (hr.mono (by omega)) (by rfl) (fun _ _ _ _ _ _ ws hl => match ws, hl with | [_, _, _], _ => rfl) (fun _ _ => (dk_cons (de_v 3) (dk_cons (de_v 2) (dk_cons (de_v 1) dk_nil)))))))
          (dtys_one (dty_if (fun _ _ => (dt_cmp (o_eq rfl hr.units) (dp_v 0) (DE.p de_int))) (dtys_one (dty_set 5 sc_l_told.nd (dex_nm (ks := ["walk", "journal"]) [1, 0] g_orders_with hG (hr.mono (by omega)) (by rfl) (fun _ _ _ _ _ _ ws hl => match ws, hl with | [_, _], _ => rfl) (fun _ _ => (dk_cons (de_v 3) (dk_cons (de_v 1) dk_nil))))))
          (dtys_one (dty_set 5 sc_l_told.nd (dex_if (fun _ _ => (dt_cmp (o_eq rfl hr.units) (dp_v 0) (DE.p de_int))) (dex_nm (ks := ["number", "journal"]) [1, 0] g_order_at hG (hr.mono (by omega)) (by rfl) (fun _ _ _ _ _ _ ws hl => match ws, hl with | [_, _], _ => rfl) (fun _ _ => (dk_cons (de_v 2) (dk_cons (de_v 1) dk_nil)))) (dex_nm (ks := ["order", "journal"]) [1, 0] g_number_of hG (hr.mono (by omega)) (by rfl) (fun _ _ _ _ _ _ ws hl => match ws, hl with | [_, _], _ => rfl) (fun _ _ => (dk_cons (de_v 3) (dk_cons (de_v 1) dk_nil))))))))))))))) (hsu := fun _ _ _ => pss_one (ps_set (i := 4) sc_l_told.nd rfl (.inl rfl) (pv 7))))
      (dss_cons (ds_if (dt_xnon 4) (dss_one (ds_ret (de_v 5))) dss_nil)
      (dss_cons (ds_set 8 sc_l_told.nd (DO.d (do_lst (da_cons (de_xis 4 rfl (by rfl) T.b_isinstance (pe_glob (v := .ref _) (by rfl) Y.h_Impossible rfl) (fun _ h => h)) (da_cons (de_xis 4 rfl (by rfl) T.b_isinstance (pe_glob (v := .ref _) (by rfl) Y.h_Misfit rfl) (fun _ h => h)) (da_cons (de_xis 4 rfl (by rfl) T.b_isinstance (pe_glob (v := .ref _) (by rfl) Y.h_NoNumber rfl) (fun _ h => h)) da_nil))))))
      (dss_cons (ds_set 8 sc_l_told.nd (DO.d (do_catP rfl (dp_v 8) (DE.p (DO.d (do_lst (da_cons (de_xis 4 rfl (by rfl) T.b_isinstance (pe_glob (v := .ref _) (by rfl) Y.h_NoTime rfl) (fun _ h => h)) (da_cons (de_xis 4 rfl (by rfl) T.b_isinstance (pe_glob (v := .ref _) (by rfl) Y.h_NoChoice rfl) (fun _ h => h)) da_nil))))))))
      (dss_cons (ds_if (DW.q (dw_or (dt_cmp (o_ne rfl hr.units) (DE.p (de_count rfl (u65 hr) (de_v 8) de_bl)) (DE.p de_int)) (dw_or1 (dt_tru rfl (DE.p (de_ix rfl (dp_v 8) (DE.p de_int))))))) (dss_one (ds_ret de_str)) dss_nil)
      (dss_cons (ds_set 9 sc_l_told.nd (de_lidx rfl (u65 hr) (de_v 8) de_bl))
      (dss_cons (ds_if (dt_cmp (o_ne rfl hr.units) (DE.p (DO.d (do_lst (da_cons (de_xis 4 rfl (by rfl) T.b_isinstance (pe_bltn (v := .ty "ValueError") (by rfl) Y.b_ValueError (by decide +kernel) rfl) (fun _ h => h)) (da_cons (de_xis 4 rfl (by rfl) T.b_isinstance (pe_bltn (v := .ty "LookupError") (by rfl) Y.b_LookupError (by decide +kernel) rfl) (fun _ h => h)) da_nil))))) (DE.p (DO.d (do_lst (da_cons (de_cmp o_lt (dp_v 9) (DE.p de_int)) (da_cons (de_cmp o_gt (dp_v 9) (DE.p de_int)) da_nil)))))) (dss_one (ds_ret de_str)) dss_nil)
      (dss_cons (ds_if (dt_cmp o_lt (dp_v 9) (DE.p de_int)) (dss_one (ds_ret (de_if (dt_cmp (o_eq rfl hr.units) (dp_v 9) (DE.p de_int)) (de_tup (da_cons de_str (da_cons (de_xat 4 rfl) da_nil))) (de_tup (da_cons de_str (da_cons (de_xat 4 rfl) da_nil)))))) dss_nil)
      (dss_one (ds_ret (de_if (dt_cmp (o_eq rfl hr.units) (dp_v 9) (DE.p de_int)) (de_tup (da_cons de_str (da_cons (de_xat 4 rfl) da_nil))) (de_tup (da_cons de_str (da_cons (de_xat 4 rfl) da_nil))))))))))))))), ?_⟩
  walk_at "s7"
  refine ⟨fun s2 => ∃ (nm fld : Str) (y6 : Option DV), Er nm fld txt ∧ s2 = ⟨[some (.d (.int (k : Nat))), some (.d b), some (.d x), some (.d y), some (.oth (xcV K mg b0 nm fld d)), some (.d .none), y6, none, none, none], 0, []⟩, ?_, fun s2 hs2 => ?_⟩
  · walk_at "s7"
    have hI : ∀ Cc : Addr, mg "Impossible" = some (.ref Cc) → PySem.W.exmAny K (.ref Cc) [.ref (c 0), .ref (c 1), .ref (c 3), .ref (c 4), .ref (c 2)] = some true := fun Cc hm => by
      rw [Y.h_Impossible] at hm
      cases hm
      exact Y.ex (i := 0) (by decide)
    have hM : ∀ Cc : Addr, mg "Misfit" = some (.ref Cc) → PySem.W.exmAny K (.ref Cc) [.ref (c 0), .ref (c 1), .ref (c 3), .ref (c 4), .ref (c 2)] = some true := fun Cc hm => by
      rw [Y.h_Misfit] at hm
      cases hm
      exact Y.ex (i := 1) (by decide)
    have hN : ∀ Cc : Addr, mg "NoNumber" = some (.ref Cc) → PySem.W.exmAny K (.ref Cc) [.ref (c 0), .ref (c 1), .ref (c 3), .ref (c 4), .ref (c 2)] = some true := fun Cc hm => by
      rw [Y.h_NoNumber] at hm
      cases hm
      exact Y.ex (i := 4) (by decide)
    have hL : ∀ Cc : Addr, mg "NoTime" = some (.ref Cc) → PySem.W.exmAny K (.ref Cc) [.ref (c 0), .ref (c 1), .ref (c 3), .ref (c 4), .ref (c 2)] = some true := fun Cc hm => by
      rw [Y.h_NoTime] at hm
      cases hm
      exact Y.ex (i := 2) (by decide)
    have eI : Er "Impossible" "evidence" "impossible" := .inl ⟨rfl, rfl, rfl⟩
    have eM : Er "Misfit" "time" "misfit" := .inr (.inl ⟨rfl, rfl, rfl⟩)
    have eN : Er "NoNumber" "number" "no number" := .inr (.inr (.inl ⟨rfl, rfl, rfl⟩))
    have eL : Er "NoTime" "time" "no time" := .inr (.inr (.inr ⟨rfl, rfl, rfl⟩))
    cases hT with
    | i1 hk h ne =>
      rw [if_pos (by omega)]
      exact ⟨k, rfl, hk, b, _, _, _, _, rfl, h, ne, hI, _, _, eI, _, rfl⟩
    | i2 h1 h2 h ne =>
      rw [if_neg (by omega), if_pos (by omega)]
      refine ⟨rfl, k - 3, by omega, by omega, b, _, _, _, _, _, rfl, h, fun z => absurd z ne, ?_⟩
      rw [if_neg ne]
      exact ⟨hI, _, _, eI, _, rfl⟩
    | t2 h1 h2 h hx =>
      rw [if_neg (by omega), if_pos (by omega)]
      refine ⟨rfl, k - 3, by omega, by omega, b, _, _, _, _, _, rfl, h, fun _ => hx, ?_⟩
      rw [if_pos rfl]
      exact ⟨hL, _, _, eL, _, rfl⟩
    | i7 h ne =>
      rw [if_neg (by decide), if_neg (by decide), if_pos (by decide)]
      refine ⟨b, _, _, _, _, _, _, rfl, h, fun z => absurd z ne, ?_⟩
      rw [if_neg ne]
      exact ⟨hI, _, _, eI, _, rfl⟩
    | t7 h hx =>
      rw [if_neg (by decide), if_neg (by decide), if_pos (by decide)]
      refine ⟨b, _, _, _, _, _, _, rfl, h, fun _ => hx, ?_⟩
      rw [if_pos rfl]
      split
      · exact ⟨hL, _, _, eL, _, rfl⟩
      · exact ⟨hL, _, _, eL, _, rfl⟩
    | i8 h ne =>
      rw [if_neg (by decide), if_neg (by decide), if_neg (by decide), if_pos (by decide)]
      exact ⟨b, _, _, _, _, _, rfl, h, ne, hI, _, _, eI, _, rfl⟩
    | n9 h hx =>
      rw [if_neg (by decide), if_neg (by decide), if_neg (by decide), if_neg (by decide), if_pos (by decide)]
      exact ⟨b, _, _, _, _, rfl, h, hx, hN, _, _, eN, _, rfl⟩
    | m10 h ho hR hl ht hf =>
      rw [if_neg (by decide), if_neg (by decide), if_neg (by decide), if_neg (by decide), if_neg (by decide)]
      exact ⟨b, _, _, _, _, _, _, _, rfl, h, ho, hR, hl, ht, hf, hM, _, _, eM, _, rfl⟩
  · obtain ⟨nm, fld, y6, he, rfl⟩ := hs2
    walk_at "s7"
    refine .inr ⟨_, _, _, rfl, ?_⟩
    walk_at "s7"
    rcases he with ⟨rfl, rfl, rfl⟩ | ⟨rfl, rfl, rfl⟩ | ⟨rfl, rfl, rfl⟩ | ⟨rfl, rfl, rfl⟩
    · have x := xcx Y 0 (by decide)
      have hm := Y.h_Impossible
      have a := fun {j : Nat} (hj : j < 6) => kf1 Y (i := 0) (by decide) hm x hj
      have v := kitN hm x (kit_1 (Y.kt_ValueError (i := 0) (by decide)))
      have l := kitN hm x (kit_1 (Y.kt_LookupError (i := 0) (by decide)))
      have fl := fldN hm x Y.x0.fld
      refine ⟨_, _, _, rfl, _, a (by decide), _, _, _, rfl, _, a (by decide), _, _, _, rfl, _, a (by decide), _, _, _, rfl, _, a (by decide), _, _, _, rfl, _, a (by decide), ?_⟩
      simp only [Nat.reduceEqDiff, decide_true, decide_false, List.mem_cons, List.mem_singleton, List.not_mem_nil, or_false, false_or, or_true, true_or, reduceCtorEq]
      refine ⟨rfl, rfl, by decide, ?_⟩
      rw [if_neg (by decide)]
      refine ⟨_, rfl, _, rfl, ?_⟩
      rw [if_neg (by decide)]
      refine ⟨by rfl, 0, _, rfl, rfl, fun m z' h e => ?_, _, _, _, rfl, _, v, _, _, _, rfl, _, l, by rfl, by rfl, ?_⟩
      · have : m = 0 ∨ m = 1 ∨ m = 2 := by omega
        rcases this with rfl | rfl | rfl <;> first | omega | (cases e; rfl)
      rw [if_neg (by decide)]
      rw [if_pos (by decide), if_pos (by decide)]
      exact ⟨_, _, rfl, fl, q⟩
    · have x := xcx Y 1 (by decide)
      have hm := Y.h_Misfit
      have a := fun {j : Nat} (hj : j < 6) => kf1 Y (i := 1) (by decide) hm x hj
      have v := kitN hm x (kit_1 (Y.kt_ValueError (i := 1) (by decide)))
      have l := kitN hm x (kit_1 (Y.kt_LookupError (i := 1) (by decide)))
      have fl := fldN hm x Y.x1.fld
      refine ⟨_, _, _, rfl, _, a (by decide), _, _, _, rfl, _, a (by decide), _, _, _, rfl, _, a (by decide), _, _, _, rfl, _, a (by decide), _, _, _, rfl, _, a (by decide), ?_⟩
      simp only [Nat.reduceEqDiff, decide_true, decide_false, List.mem_cons, List.mem_singleton, List.not_mem_nil, or_false, false_or, or_true, true_or, reduceCtorEq]
      refine ⟨rfl, rfl, by decide, ?_⟩
      rw [if_neg (by decide)]
      refine ⟨_, rfl, _, rfl, ?_⟩
      rw [if_neg (by decide)]
      refine ⟨by rfl, 1, _, rfl, rfl, fun m z' h e => ?_, _, _, _, rfl, _, v, _, _, _, rfl, _, l, by rfl, by rfl, ?_⟩
      · have : m = 0 ∨ m = 1 ∨ m = 2 := by omega
        rcases this with rfl | rfl | rfl <;> first | omega | (cases e; rfl)
      rw [if_neg (by decide)]
      rw [if_pos (by decide), if_neg (by decide)]
      exact ⟨_, _, rfl, fl, q⟩
    · have x := xcx Y 4 (by decide)
      have hm := Y.h_NoNumber
      have a := fun {j : Nat} (hj : j < 6) => kf1 Y (i := 4) (by decide) hm x hj
      have v := kitN hm x (kit_1 (Y.kt_ValueError (i := 4) (by decide)))
      have l := kitN hm x (kit_1 (Y.kt_LookupError (i := 4) (by decide)))
      have fl := fldN hm x Y.x4.fld
      refine ⟨_, _, _, rfl, _, a (by decide), _, _, _, rfl, _, a (by decide), _, _, _, rfl, _, a (by decide), _, _, _, rfl, _, a (by decide), _, _, _, rfl, _, a (by decide), ?_⟩
      simp only [Nat.reduceEqDiff, decide_true, decide_false, List.mem_cons, List.mem_singleton, List.not_mem_nil, or_false, false_or, or_true, true_or, reduceCtorEq]
      refine ⟨rfl, rfl, by decide, ?_⟩
      rw [if_neg (by decide)]
      refine ⟨_, rfl, _, rfl, ?_⟩
      rw [if_neg (by decide)]
      refine ⟨by rfl, 2, _, rfl, rfl, fun m z' h e => ?_, _, _, _, rfl, _, v, _, _, _, rfl, _, l, by rfl, by rfl, ?_⟩
      · have : m = 0 ∨ m = 1 ∨ m = 2 := by omega
        rcases this with rfl | rfl | rfl <;> first | omega | (cases e; rfl)
      rw [if_neg (by decide)]
      rw [if_neg (by decide), if_pos (by decide)]
      exact ⟨_, _, rfl, fl, q⟩
    · have x := xcx Y 2 (by decide)
      have hm := Y.h_NoTime
      have a := fun {j : Nat} (hj : j < 6) => kf1 Y (i := 2) (by decide) hm x hj
      have v := kitN hm x (kit_1 (Y.kt_ValueError (i := 2) (by decide)))
      have l := kitN hm x (kit_1 (Y.kt_LookupError (i := 2) (by decide)))
      have fl := fldN hm x Y.x2.fld
      refine ⟨_, _, _, rfl, _, a (by decide), _, _, _, rfl, _, a (by decide), _, _, _, rfl, _, a (by decide), _, _, _, rfl, _, a (by decide), _, _, _, rfl, _, a (by decide), ?_⟩
      simp only [Nat.reduceEqDiff, decide_true, decide_false, List.mem_cons, List.mem_singleton, List.not_mem_nil, or_false, false_or, or_true, true_or, reduceCtorEq]
      refine ⟨rfl, rfl, by decide, ?_⟩
      rw [if_neg (by decide)]
      refine ⟨_, rfl, _, rfl, ?_⟩
      rw [if_neg (by decide)]
      refine ⟨by rfl, 3, _, rfl, rfl, fun m z' h e => ?_, _, _, _, rfl, _, v, _, _, _, rfl, _, l, by rfl, by rfl, ?_⟩
      · have : m = 0 ∨ m = 1 ∨ m = 2 := by omega
        rcases this with rfl | rfl | rfl <;> first | omega | (cases e; rfl)
      rw [if_neg (by decide)]
      rw [if_neg (by decide), if_neg (by decide)]
      exact ⟨_, _, rfl, fl, q⟩
end
theorem eqv_val' (row : List Int) (t : Nat) (v : NV) : (valD v).eqv (valD (truV row t v)) = decide (truV row t v = v) := by
  cases v with
  | g x =>
    show PyData.eqv (.int _) (.int _) = decide (NV.g _ = NV.g x)
    rw [eqv_int]
    simp only [NV.g.injEq]
    by_cases h : (segs (row.take (t + 1))).length = x
    · rw [decide_eq_true h, decide_eq_true (by omega)]
    · rw [decide_eq_false h, decide_eq_false (by omega)]
  | h x =>
    show PyData.eqv (.str _) (.str _) = decide (NV.h _ = NV.h x)
    rw [eqv_str]
    simp only [NV.h.injEq, wstr_inj]
    by_cases h : ((picks row)[t]?.getD (.new, 0)).1 = x
    · rw [decide_eq_true h, decide_eq_true h.symm]
    · rw [decide_eq_false h, decide_eq_false (Ne.symm h)]
section
variable {P : Program} {wd : World} {K : PySem.W.Frag} {mg : Str → Option Value} {base : Heap}
def falD (xs : List Nt) (row : List Int) : List PyData := (xs.filter fun x => decide (truV row x.t x.v ≠ x.v)).map fun x => .int (x.t : Nat)
def f_false : FP := fun ds R => ∃ p T xs row, ds = [bkT p T xs, rowT row] ∧ row.Nodup ∧ row.length ≤ 900 ∧ xs.length ≤ 1000 ∧ (∀ x ∈ xs, x.t < row.length) ∧ R (.list (falD xs row))
theorem ok_l_false (T : Top wd K mg) : Def P wd K mg base 3 "_law_false" s_l_false ["_law_book", "_law_queue_here"] (spP K f_false) := by
  have g_l_seen := ok_l_seen (P := P) (base := base) T
  refine Def.pure T.d_l_false sc_l_false (fun ds R h => by obtain ⟨_, _, _, _, rfl, _⟩ := h; rfl) (fun f cdv A outer s H G E ds R hG hr h => ?_)
  obtain ⟨p, n, xs, row, rfl, hn, hl, hx, ht, q⟩ := h
  refine ⟨_, _, (dss_cons (ds_asg (de_c g_l_seen hG (hr.mono (by omega)) (by rfl) (da_cons (de_v 1) da_nil)) (dg_tup (n := 2) rfl (by rfl) (dgs_c (dg_name 2 sc_l_false.nd) (dgs_c (dg_name 3 sc_l_false.nd) dgs_nil))))
      (dss_cons (ds_own 4 sc_l_false.nd (do_lst da_nil))
      (dss_cons (ds_for PassesOwn.never (by rfl) (di_seq rfl (de_ix rfl (dp_v 0) (DE.p de_int))) (dg_tup (n := 3) rfl (by rfl) (dgs_c (dg_name 5 sc_l_false.nd) (dgs_c (dg_name 6 sc_l_false.nd) (dgs_c (dg_name 7 sc_l_false.nd) dgs_nil))))
        (dss_one (ds_if (dt_cmp (o_ne rfl hr.units) (dp_v 7) (DE.p (de_if (dt_cmp (o_eq rfl hr.units) (dp_v 6) (DE.p de_str)) (de_ix rfl (dp_v 2) (dp_v 5)) (de_ix rfl (dp_v 3) (dp_v 5))))) (dss_one (ds_app 4 rfl (de_v 5))) dss_nil)))
      (dss_one (ds_ret (de_pub 4)))))), ?_⟩
  simp only [bkT]
  walk_at "s4"
  refine ⟨row, rfl, hn, hl, ?_⟩
  walk_at "s4"
  refine ⟨_, rfl, rfl, ?_⟩
  refine forD_by (fun i s2 => ∃ y5 y6 y7, s2 = ⟨[some (.d (bkT p n xs)), some (.d (rowT row)), some (.d (.list (cntsD row row.length))), some (.d (.list (wrdsD row row.length))), some (.own (falD (xs.take i) row)), y5, y6, y7], 0, []⟩) ⟨none, none, none, rfl⟩ (fun i d s2 J e2 inv hJ => ?_) (fun s2 inv => ?_)
  · obtain ⟨y5, y6, y7, rfl⟩ := inv
    have e2 : (xs.map ntD)[i]? = some d := e2
    rw [List.getElem?_map] at e2
    obtain ⟨x, hx2, rfl⟩ := Option.map_eq_some_iff.mp e2
    have hxt := ht x (List.mem_of_getElem? hx2)
    have hi := (List.getElem?_eq_some_iff.mp hx2).1
    have hstep : falD (xs.take (i + 1)) row = if truV row x.t x.v ≠ x.v then falD (xs.take i) row ++ [.int (x.t : Nat)] else falD (xs.take i) row := by
      unfold falD
      rw [List.take_add_one, hx2, List.filter_append, List.map_append]
      by_cases z : truV row x.t x.v = x.v <;> simp [z]
    have hlen : (falD (xs.take i) row).length < 100000 := by
      unfold falD
      rw [List.length_map]
      have := List.length_filter_le (fun x => decide (truV row x.t x.v ≠ x.v)) (xs.take i)
      rw [List.length_take] at this
      omega
    have fin : Shp (valD x.v) ∧ Shp (valD (truV row x.t x.v)) ∧ if (valD x.v).eqv (valD (truV row x.t x.v)) = false then (falD (xs.take i) row).length < 100000 ∧ J ⟨[some (.d (bkT p n xs)), some (.d (rowT row)), some (.d (.list (cntsD row row.length))), some (.d (.list (wrdsD row row.length))), some (.own (falD (xs.take i) row ++ [.int (x.t : Nat)])), some (.d (.int (x.t : Nat))), some (.d (.str (sortS x.v))), some (.d (valD x.v))], 0, []⟩
        else J ⟨[some (.d (bkT p n xs)), some (.d (rowT row)), some (.d (.list (cntsD row row.length))), some (.d (.list (wrdsD row row.length))), some (.own (falD (xs.take i) row)), some (.d (.int (x.t : Nat))), some (.d (.str (sortS x.v))), some (.d (valD x.v))], 0, []⟩ := by
      refine ⟨shp_val _, shp_val _, ?_⟩
      rw [eqv_val']
      by_cases z : truV row x.t x.v = x.v
      · rw [if_neg (by simp [z])]
        refine hJ _ ⟨some (.d (.int (x.t : Nat))), some (.d (.str (sortS x.v))), some (.d (valD x.v)), ?_⟩
        rw [hstep, if_neg (by simp [z])]
      · rw [if_pos (by simp [z])]
        refine ⟨hlen, hJ _ ⟨some (.d (.int (x.t : Nat))), some (.d (.str (sortS x.v))), some (.d (valD x.v)), ?_⟩⟩
        rw [hstep, if_pos z]
    simp only [ntD]
    walk_at "s4"
    obtain ⟨t, v⟩ := x
    cases v with
    | g x => exact ⟨shp_str _, (if_pos rfl).mpr ⟨_, cnts_at hxt, fin⟩⟩
    | h x => exact ⟨shp_str _, (if_neg (show ¬ (Str.ofString "house" = Str.ofString "groups") by decide +kernel)).mpr ⟨_, wrds_at hxt, fin⟩⟩
  · obtain ⟨y5, y6, y7, rfl⟩ := inv
    have hle : (xs.map ntD).length = xs.length := List.length_map ..
    rw [show (its (PyData.tuple (xs.map ntD))).length = xs.length from hle, List.take_length]
    walk_at "s4"
    exact q
end
local macro_rules | `(tactic| walk_at "s8") => `(tactic| simp only [wFlIx, wFlLs, wTupRg, wPubO, wC, wV, wPub, wP, wCons, wTup, wLst, wL, w2, wTest, wChain, wAnd, wOr, Dw.wNot, wAndV, wOrV, wNotV, wIf, Dw.wTru, truD, gI0, gI, gEq, gNe, gIn, gIsN, gNotN, gIsB, gNotB, gCatT, gCatS, gIx, wCat, wRep, w1, w1O, gLen, gTupleOf, gListOf, wRg1, gInt, gStr, w2a, wSlT, wSlL, wSlS, wRevT, wNeg, wCall, wCallB, wName, wGNil_n, wGCons_c, wGTup, wSeq, wRng1, wEnum, wZip, wNext, wSq, wRet, wIfS, wDrop, wAsg, wOwn, wAug, wMeth, fAppend, wFor_eq, wWhile_eq, wipeD, wLc_eq, Dw.wNm, wPar, wGix, wDix, wCatP, wPopTo, fPop, fPopAt, fIns, wSetIx, gRepr, gMinT, gNeS, gRepN, wDGet2, wKGet, wLIdx, wDPGet, wKAug, wDcK, wDPut, wTPut, wTGet, gSrtR, gSrtA, gLtP, wSlB, wStar, wRaise, wNmX, wXat, wXis, gEqS, wYd, wYdic, wYfn, wYg, wCallD, wCallV, wSetN, wDcT, wTGet2, wTGet1, dicAt, wRng2, wRg2, wRngD, wRevR, gRevL, wAugM, gLenSetL, wAppPop, gSrtSet, wIsi, wNotT, wAugIx, wPeekO, wPick2, wExt, fRem, look_d, look_own, shpI, shpB, shpN, shpS, seqT, seqL, itsT, itsL, lenT, lenL, okFF, eqv_str, eqv_int, eqv_bool, isNone, perm, Dt.set, Dt.sets, env0, List.map_cons, List.map_nil, List.cons_append, List.nil_append, List.getElem?_cons_zero, List.getElem?_cons_succ, List.set_cons_succ, List.set_cons_zero, List.filterMap_cons, List.filterMap_nil, Option.some.injEq, DV.d.injEq, DV.own.injEq, DV.dit.injEq, DV.dd.injEq, DV.oth.injEq, reduceCtorEq, false_or, or_false, false_and, and_false, exists_false, PyData.int.injEq, PyData.bool.injEq, PyData.str.injEq, PyData.tuple.injEq, PyData.list.injEq, List.cons.injEq, exists_eq_left, exists_eq_left', exists_eq_right, exists_eq_right', exists_and_left, exists_eq', exists_eq, and_true, true_and, and_self, and_assoc, List.length_cons, List.length_nil, List.replicate, Nat.reduceAdd, Nat.reduceSub, Nat.reduceLeDiff, Nat.zero_le, decide_eq_true_eq, Bool.not_eq_true', decide_eq_false_iff_not, ite_true, ite_false, if_true, if_false, Bool.false_eq_true, Bool.true_eq_false, eq_self, List.reduceReplicate, Bool.not_true, Bool.not_false, reduceIte])
local macro_rules | `(tactic| walk_at "d") => `(tactic| first
  | refine ⟨_, rfl, ?_⟩ | refine ⟨_, _, rfl, rfl, ?_⟩ | refine iteT ?_ | refine iteF ?_ | refine ⟨_, _, rfl, rfl, rfl, ?_⟩ | refine ⟨rfl, ?_⟩)
theorem iota_rg (k : Nat) : iotaD 0 (k : Int) = (List.range k).map fun i => PyData.int (i : Nat) := by
  refine List.ext_getElem? fun i => ?_
  rw [List.getElem?_map]
  by_cases hi : i < k
  · rw [List.getElem?_range hi]
    have hl : i < (iotaD 0 (k : Int)).length := by rw [iota_len]; omega
    have := (iota_get (List.getElem?_eq_getElem hl)).2
    rw [List.getElem?_eq_getElem hl, this, Int.zero_add]
    rfl
  · rw [List.getElem?_eq_none (by rw [iota_len]; omega), List.getElem?_eq_none (by rw [List.length_range]; omega)]
    rfl
def FlI : PyData → Prop
  | .int _ => True
  | d => FlB d
def OnBI (w : Nat) (C : PyData → Prop) (d : PyData) : Prop := FlI d ∨ ∃ es, (d = .list es ∨ d = .tuple es) ∧ es.length ≤ w ∧ ∀ x ∈ es, C x
def BdI (w : Nat) : Nat → PyData → Prop
  | 0, d => FlI d
  | k + 1, d => OnBI w (BdI w k) d
theorem BdI.int {w k : Nat} (i : Int) : BdI w k (.int i) := by
  cases k with
  | zero => trivial
  | succ k => exact .inl trivial
theorem BdI.flat {w k : Nat} {d : PyData} (h : FlI d) : BdI w k d := by
  cases k with
  | zero => exact h
  | succ k => exact .inl h
theorem BdI.lst {w k : Nat} {ds : List PyData} (hl : ds.length ≤ w) (h : ∀ x ∈ ds, BdI w k x) : BdI w (k + 1) (.list ds) := .inr ⟨ds, .inl rfl, hl, h⟩
theorem BdI.tup {w k : Nat} {ds : List PyData} (hl : ds.length ≤ w) (h : ∀ x ∈ ds, BdI w k x) : BdI w (k + 1) (.tuple ds) := .inr ⟨ds, .inr rfl, hl, h⟩
theorem bdI_pair {s : Str} {d : PyData} {k : Nat} (hs : FlB (.str s)) (hd : BdI 100 k d) : BdI 100 (k + 1) (.tuple [.str s, d]) := .tup (show 2 ≤ 100 by decide) fun x hx => by
  simp only [List.mem_cons, List.not_mem_nil, or_false] at hx
  rcases hx with rfl | rfl
  · exact .flat hs
  · exact hd
theorem flb_lit (s : String) (h : (reprText (Str.ofString s)).length ≤ 400) : FlB (.str (Str.ofString s)) := ⟨sok s, h⟩
theorem bdI_ev (e : OgM.Ev) {k : Nat} : BdI 100 (k + 1) (evD e) := by
  cases e with
  | ok => exact .flat trivial
  | stuck t => exact bdI_pair (flb_lit "stuck" (by decide +kernel)) (.int _)
  | room t => exact bdI_pair (flb_lit "room" (by decide +kernel)) (.int _)
theorem flb_imp : FlB (.str "impossible") := flb_lit "impossible" (by decide +kernel)
theorem flb_time : FlB (.str "no time") := flb_lit "no time" (by decide +kernel)
theorem flb_num : FlB (.str "no number") := flb_lit "no number" (by decide +kernel)
theorem flb_mis : FlB (.str "misfit") := flb_lit "misfit" (by decide +kernel)
theorem soft_bkT (n k : Nat) (xs : List Nt) : softK 3 (bkT n k xs) = bkL n k xs := by
  show PyData.list [.int n, .int k, .list ((xs.map ntD).map (softK 1))] = PyData.list [.int n, .int k, .list (xs.map ntL)]
  rw [List.map_map]
  have : xs.map (softK 1 ∘ ntD) = xs.map ntL := List.map_congr_left fun m _ => by
    obtain ⟨t, v⟩ := m
    cases v <;> rfl
  rw [this]
section
variable {P : Program} {wd : World} {K : PySem.W.Frag} {mg : Str → Option Value} {base : Heap} {c : Nat → Addr}
theorem same_stepI (T : Top wd K mg) {m w : Nat} {C : PyData → Prop} (hw : w ≤ 1000) (g_l_same : Def P wd K mg base m "_law_same" s_l_same ["_law_found", "_law_due"] (spP K (f_same C))) :
    Def P wd K mg base (m + 1) "_law_same" s_l_same ["_law_found", "_law_due"] (spP K (f_same (OnBI w C))) := by
  refine Def.pure T.d_l_same sc_l_same (fun ds R h => by obtain ⟨d, rfl, _⟩ := h; rfl) (fun f cdv A outer s H G E ds R hG hr h => ?_)
  obtain ⟨d, rfl, hd, q⟩ := h
  refine ⟨_, _, (dss_cons (ds_if (dt_val (de_isi2 .list .tuple rfl (by rfl) T.b_isinstance (by rfl) T.b_list (by decide +kernel) (by rfl) T.b_tuple (by decide +kernel) (dp_v 1))) (dss_cons (ds_if (DW.q (dw_or (dt_cmp (o_ne rfl hr.units) (DE.p (de_isi .list rfl (by rfl) T.b_isinstance (by rfl) T.b_list (by decide +kernel) (dp_v 0))) (DE.p (de_isi .list rfl (by rfl) T.b_isinstance (by rfl) T.b_list (by decide +kernel) (dp_v 1)))) (dw_or1 (dt_cmp (o_ne rfl hr.units) (DE.p (de_isi .tuple rfl (by rfl) T.b_isinstance (by rfl) T.b_tuple (by decide +kernel) (dp_v 0))) (DE.p (de_isi .tuple rfl (by rfl) T.b_isinstance (by rfl) T.b_tuple (by decide +kernel) (dp_v 1))))))) (dss_one (ds_ret de_bl)) dss_nil)
        (dss_one (ds_ret (de_and (de_cmp (o_eq rfl hr.units) (DE.p (de_len rfl (by rfl) T.b_len (dp_v 0))) (DE.p (de_len rfl (by rfl) T.b_len (dp_v 1)))) (de_one (de_all rfl (by rfl) (by rfl) T.b_all (DE.p (DO.d (do_lc (own := [("_law_a", 2), ("_law_b", 3)]) (by rfl) sc_l_same.nd (di_zip2 rfl (by rfl) T.b_zip (de_v 0) (de_v 1)) (blkOk_by (own := [("_law_a", 2), ("_law_b", 3)]) (N := ["_law_found", "_law_due", "_law_a", "_law_b"]) (sc := defScope s_l_same) (by decide +kernel)) (fun _ _ _ _ _ => (dg_tup (n := 2) rfl (by rfl) (dgs_c (dg_name 2 sc_l_same.nd (hf := by first | exact Or.inr rfl | exact Or.inl rfl)) (dgs_c (dg_name 3 sc_l_same.nd (hf := by first | exact Or.inr rfl | exact Or.inl rfl)) dgs_nil)))) ts_no (fun _ _ _ _ _ => (de_c g_l_same hG (hr.mono (by omega)) (by rfl) (da_cons (de_v 2) (da_cons (de_v 3) da_nil))))))))))))) dss_nil)
      (dss_cons (ds_if (DW.q (dw_or (dt_cmp o_isN (dp_v 1) (DE.p de_non)) (dw_or1 (dt_val (de_isi2 .bool .str rfl (by rfl) T.b_isinstance (by rfl) T.b_bool (by decide +kernel) (by rfl) T.b_str (by decide +kernel) (dp_v 1)))))) (dss_one (ds_ret (de_and (de_cmp (o_eq rfl hr.units) (dp_v 0) (dp_v 1)) (de_and (de_cmp (o_eq rfl hr.units) (DE.p (de_isi .bool rfl (by rfl) T.b_isinstance (by rfl) T.b_bool (by decide +kernel) (dp_v 0))) (DE.p (de_isi .bool rfl (by rfl) T.b_isinstance (by rfl) T.b_bool (by decide +kernel) (dp_v 1)))) (de_one (de_cmp (o_eq rfl hr.units) (DE.p (de_cmp o_isN (dp_v 0) (DE.p de_non))) (DE.p (de_cmp o_isN (dp_v 1) (DE.p de_non))))))))) dss_nil)
      (dss_one (ds_ret (de_and (de_isi .int rfl (by rfl) T.b_isinstance (by rfl) T.b_int (by decide +kernel) (dp_v 0)) (de_and (de_not (de_isi .bool rfl (by rfl) T.b_isinstance (by rfl) T.b_bool (by decide +kernel) (dp_v 0))) (de_one (de_cmp (o_eq rfl hr.units) (dp_v 0) (dp_v 1))))))))), ?_⟩
  have flat : ∀ z : Str, FlI (.str z) → Shp (.str z) := fun z h => FlB.shp h
  rcases hd with hf | ⟨es, he, hl, hC⟩
  · cases d with
    | none =>
      repeat walk_at "d"
      exact q
    | bool b =>
      repeat walk_at "d"
      rw [eqv_bool, decide_eq_true rfl]
      repeat walk_at "d"
      exact q
    | int i =>
      repeat walk_at "d"
      rw [eqv_int, decide_eq_true rfl]
      exact q
    | str z =>
      repeat walk_at "d"
      refine ⟨flat _ hf, flat _ hf, ?_⟩
      rw [eqv_str, decide_eq_true rfl]
      repeat walk_at "d"
      exact q
    | list _ => exact hf.elim
    | tuple _ => exact hf.elim
    | dict _ => exact hf.elim
  · rcases he with rfl | rfl
    all_goals
      repeat walk_at "d"
      rw [eqv_int, decide_eq_true rfl]
      repeat walk_at "d"
      refine lc_map (fun _ => .bool true) (by show (zipD es es).length ≤ _; rw [zip_len]; omega) (fun x hx acc J hacc hJ => ?_) ⟨(zipD es es).map fun _ => true, by rw [List.map_map]; rfl, ?_⟩
      · obtain ⟨y, hy, rfl⟩ := zip_self hx
        exact ⟨rfl, rfl, y, [y], rfl, y, [], rfl, rfl, y, rfl, y, rfl, y, rfl, hC y hy, rfl, hacc, hJ⟩
      · rw [all_true]
        exact q
theorem ok_l_sameI (T : Top wd K mg) {w : Nat} (hw : w ≤ 1000) : ∀ k : Nat, Def P wd K mg base (k + 1) "_law_same" s_l_same ["_law_found", "_law_due"] (spP K (f_same (BdI w k)))
  | 0 => by
    have h0 : Def P wd K mg base 0 "_law_same" s_l_same ["_law_found", "_law_due"] (spP K (f_same fun _ => False)) := Def.no T.d_l_same fun vs H Q E h => by
      obtain ⟨_, _, _, _, _, ⟨_, _, h, _⟩, _⟩ := h
      exact h
    refine (same_stepI T hw h0).imp fun vs H Q E h => ?_
    obtain ⟨G, ds, R, h1, h2, ⟨d, h3, h4, h5⟩, h6⟩ := h
    exact ⟨G, ds, R, h1, h2, ⟨d, h3, .inl h4, h5⟩, h6⟩
  | k + 1 => same_stepI T hw (ok_l_sameI T hw k)
def f_none : FP := fun ds R => ∃ d p T ns, ds = [d] ∧ Bk d p T ns ∧ FW List.sum ns (p - T) T T 0 = 0 ∧ R (.list [])
theorem ok_all_none (T : Top wd K mg) : Def P wd K mg base 7 "all_orders" s_all_orders ["journal"] (spP K f_none) := by
  have g_all_ways := ok_all_ways (P := P) (base := base) T
  have g_numbered_order : Def P wd K mg base 0 "numbered_order" s_numbered_order ["journal", "ways", "number"] (spP K fun _ _ => False) := Def.no T.d_numbered_order fun vs H Q E h => by
    obtain ⟨_, _, _, _, _, h, _⟩ := h
    exact h
  refine Def.pure T.d_all_orders sc_all_orders (fun ds R h => by obtain ⟨_, _, _, _, rfl, _⟩ := h; rfl) (fun f cdv A outer s H G E ds R hG hr h => ?_)
  obtain ⟨d, p, n, ns, rfl, hB, h0, q⟩ := h
  refine ⟨_, _, (dss_cons (ds_set 1 sc_all_orders.nd (de_c g_all_ways hG (hr.mono (by omega)) (by rfl) (da_cons (de_v 0) da_nil)))
      (dss_cons (ds_set 2 sc_all_orders.nd (de_ix rfl (DE.p (de_ix rfl (dp_v 1) (DE.p de_int))) (DE.p de_int)))
      (dss_cons (ds_if (dt_cmp o_gt (dp_v 2) (DE.p (de_gi T.c_MOST.choose_spec (by rfl)))) (dss_one ds_never) dss_nil)
      (dss_one (ds_ret (DO.d (do_lc (own := [("number", 3)]) (by rfl) sc_all_orders.nd (di_rng1 (by rfl) T.b_range (de_v 2)) (blkOk_by (own := [("number", 3)]) (N := ["journal", "ways", "many", "number"]) (sc := defScope s_all_orders) (by decide +kernel)) (fun _ _ _ _ _ => (dg_name 3 sc_all_orders.nd (hf := by first | exact Or.inr rfl | exact Or.inl rfl))) ts_no (fun _ _ _ _ _ => (de_c g_numbered_order hG (hr.mono (by omega)) (by rfl) (da_cons (de_v 0) (da_cons (de_v 1) (da_cons (de_v 3) da_nil)))))))))))), ?_⟩
  have e1 : FW List.sum ns (p - n) n (n - 0) 0 = 0 := by rw [Nat.sub_zero]; exact h0
  walk_at "s8"
  refine ⟨d, p, n, ns, rfl, hB, ?_⟩
  walk_at "s8"
  refine ⟨rfl, _, fw_at (i := 0) (by omega), rfl, _, fr_at (m := 0) (by omega), ?_⟩
  rw [e1]
  refine ⟨_, rfl, ?_⟩
  rw [if_neg (by decide)]
  refine ⟨_, rfl, by decide, by decide, ?_⟩
  refine lcD_encM ([] : List Nat) (fun i => PyData.int (i : Nat)) (fun _ => PyData.none) (by decide) (fun i hi acc J' hacc h1 => nomatch hi) ?_
  exact q
def f_hard : FB := fun ds c R => ∃ p T xs e y, ds = [bkT p T xs] ∧ T ≤ p ∧ p ≤ 20 ∧ xs.length ≤ 20 ∧ (∀ x ∈ xs, x.t < T) ∧ NSm xs ∧ EvIs xs p T 0 e ∧ e ≠ .ok ∧
  (xs.filter fun x => decide (truV ((List.range T).map fun (i : Nat) => (i : Int)) x.t x.v ≠ x.v)) = [y] ∧ c ≤ 850000 ∧ ∀ c', c' ≤ c + 1 → R (.bool true) c'
theorem ok_l_hard_right (T : Top wd K mg) (Y : TopX K mg c) : Def P wd K mg base 9 "_law_hard_right" s_l_hard_right ["_law_box_here", "_law_book"] (spB K f_hard) := by
  have g_l_of := ok_l_of (P := P) (base := base) T
  have g_l_told := ok_l_told (P := P) (wd := wd) (base := base) T Y
  have g_l_lists := ok_l_lists (P := P) (base := base) T (w := 100) (by decide) 3
  have g_l_same := (ok_l_sameI (P := P) (base := base) T (w := 100) (by decide) 4).imp (sp' := spP K (f_same (BdI 100 4))) fun _ _ _ _ h => h
  have g_l_false := ok_l_false (P := P) (base := base) T
  have g_evidence := ok_evidence (P := P) (base := base) T
  have g_count_orders := ok_count_orders (P := P) (base := base) T
  have g_all_orders := ok_all_none (P := P) (base := base) T
  refine Def.draws T.d_l_hard_right sc_l_hard_right (fun ds c R h => by obtain ⟨_, _, _, _, _, rfl, _⟩ := h; rfl) (fun f cdv A outer s H G l E ds c0 R hG hr h => ?_)
  obtain ⟨p, n, xs, e, y, rfl, hn, hp, hxl, ht, hS, he, hne, hf, hc, q⟩ := h
  refine ⟨_, _, (dss_cons (ds_par2 2 3 (by rfl) sc_l_hard_right.nd (dx_cons (DE.dx (de_c g_evidence hG (hr.mono (by omega)) (by rfl) (da_cons (de_v 1) da_nil))) (dx_cons (DE.dx (de_tupRg rfl (by rfl) T.b_tuple (by rfl) T.b_range (de_ix rfl (dp_v 1) (DE.p de_int)))) dx_nil)))
      (dss_cons (ds_if (dt_cmp o_isN (dp_v 2) (DE.p de_non)) (dss_one (ds_ret de_bl)) dss_nil)
      (dss_cons (ds_set 4 sc_l_hard_right.nd (de_cB 0 g_l_of hG (hr.mono (by omega)) (by rfl) (da_cons (DO.d (do_lst (da_cons (de_neg de_int) (da_cons de_int (da_cons de_int da_nil))))) da_nil)))
      (dss_cons (ds_for PassesOwn.never (by rfl) (di_seq rfl (de_tup (da_cons (de_v 1) (da_cons (de_c g_l_lists hG (hr.mono (by omega)) (by rfl) (da_cons (de_v 1) da_nil)) da_nil)))) (dg_name 5 sc_l_hard_right.nd)
        (dss_cons (ds_setLc 6 (own := [("_law_kind", 7)]) (by rfl) sc_l_hard_right.nd rfl rfl (sw_true rfl rfl rfl (by decide +kernel)) (di_rng1 (by rfl) T.b_range de_int) (blkOk_by (own := [("_law_kind", 7)]) (N := ["_law_box_here", "_law_book", "_law_proof", "_law_queue_here", "_law_odd", "_law_some", "_law_told_here", "_law_kind"]) (sc := defScope s_l_hard_right) (by decide +kernel)) (fun _ _ _ _ _ => (dg_name 7 sc_l_hard_right.nd (hf := by first | exact Or.inr rfl | exact Or.inl rfl))) ts_no (fun _ _ _ _ _ => (de_c g_l_told hG (hr.mono (by omega)) (by rfl) (da_cons (de_v 7) (da_cons (de_v 5) (da_cons (de_v 4) (da_cons (de_bin o_add (dp_v 4) (DE.p de_int)) da_nil)))))))
        (dss_cons (ds_if (dt_not (dt_val (de_c g_l_same hG (hr.mono (by omega)) (by rfl) (da_cons (DO.d (do_catP rfl (dp_v 6) (DE.p (DO.d (do_lst (da_cons (de_c g_l_told hG (hr.mono (by omega)) (by rfl) (da_cons de_int (da_cons (de_v 5) (da_cons de_int (da_cons (de_bin (o_repT rfl) (DE.p (de_tup (da_cons de_int da_nil))) (DE.p (de_ix rfl (dp_v 1) (DE.p de_int)))) da_nil))))) da_nil)))))) (da_cons (DO.d (do_rep (DO.l (do_lst (da_cons (de_tup (da_cons de_str (da_cons (de_v 2) da_nil))) da_nil))) de_int)) da_nil))))) (dss_one (ds_ret de_bl)) dss_nil)
        (dss_cons (ds_set 6 sc_l_hard_right.nd (DO.d (do_lst (da_cons (de_c g_l_told hG (hr.mono (by omega)) (by rfl) (da_cons de_int (da_cons (de_v 5) (da_cons de_int (da_cons de_non da_nil))))) (da_cons (de_c g_count_orders hG (hr.mono (by omega)) (by rfl) (da_cons (de_v 5) da_nil)) (da_cons (de_c g_all_orders hG (hr.mono (by omega)) (by rfl) (da_cons (de_v 5) da_nil)) da_nil))))))
        (dss_one (ds_if (dt_not (dt_val (de_c g_l_same hG (hr.mono (by omega)) (by rfl) (da_cons (de_v 6) (da_cons (DO.d (do_lst (da_cons (de_tup (da_cons de_str (da_cons de_int da_nil))) (da_cons de_int (da_cons (DO.d (do_lst da_nil)) da_nil))))) da_nil))))) (dss_one (ds_ret de_bl)) dss_nil))))))
      (dss_one (ds_ret (de_c g_l_same hG (hr.mono (by omega)) (by rfl) (da_cons (de_c g_l_told hG (hr.mono (by omega)) (by rfl) (da_cons de_int (da_cons (de_v 1) (da_cons de_int (da_cons (de_v 3) da_nil))))) (da_cons (de_tup (da_cons de_str (da_cons (de_minL rfl (by rfl) (by rfl) T.b_min (DE.p (de_c g_l_false hG (hr.mono (by omega)) (by rfl) (da_cons (de_v 1) (da_cons (de_v 3) da_nil))))) da_nil))) da_nil))))))))), ?_⟩
  walk_at "s8"
  have hB : Bk (bkT p n xs) p n xs := ⟨⟨_, .inl rfl, .inl rfl⟩, hn, by omega, by omega, by omega⟩
  have hBL : Bk (bkL p n xs) p n xs := ⟨⟨_, .inr rfl, .inr rfl⟩, hn, by omega, by omega, by omega⟩
  have hE : ∀ b, Bk b p n xs → BkE b p n xs e := fun b h => ⟨h, by omega, ht, he⟩
  have h0 : FW List.sum xs (p - n) n n 0 = 0 := by
    rcases Nat.eq_zero_or_pos (FW List.sum xs (p - n) n n 0) with z | z
    · exact z
    · exact absurd ((FW_iff hn he).mp z) hne
  refine ⟨_, p, n, xs, rfl, hB, by omega, fun ks h1 h2 => ?_⟩
  rw [ev_uniq (ev_is (p := p) (T := n) ht h1 h2) he]
  refine ⟨rfl, _, rfl, _, rfl, by omega, by omega, ?_⟩
  rw [if_neg (by cases e <;> first | exact absurd rfl hne | exact Bool.false_ne_true)]
  refine ⟨_, rfl, rfl, (show 1 ≤ 3 by decide), (show 3 ≤ 1000 by decide), by omega, fun od c1 hod hc1 => ?_⟩
  have hod : ∃ z : Int, od = .int z := by
    have hod : od ∈ [PyData.int (-1), .int 0, .int 99] := hod
    simp only [List.mem_cons, List.not_mem_nil, or_false] at hod
    rcases hod with h | h | h <;> exact ⟨_, h⟩
  obtain ⟨z, rfl⟩ := hod
  refine ⟨_, rfl, bd_bkT (by omega) (by omega) hS, ?_⟩
  rw [soft_bkT]
  refine forD_by (fun i s2 => ∃ y5 y6 : Option DV, s2 = ⟨[some .box, some (.d (bkT p n xs)), some (.d (evD e)), some (.d (.tuple (iotaD 0 (n : Int)))), some (.d (.int z)), y5, y6, none], c1, []⟩) ⟨_, _, rfl⟩ (fun i b s2 J e2 inv hJ' => ?_) (fun s2 inv => ?_)
  · obtain ⟨y5, y6, rfl⟩ := inv
    have hb : Bk b p n xs := by
      have := List.mem_of_getElem? e2
      simp only [List.mem_cons, List.not_mem_nil, or_false] at this
      rcases this with rfl | rfl
      · exact hB
      · exact hBL
    walk_at "s8"
    refine ⟨by decide, by decide, ?_⟩
    have e8 : iotaD 0 8 = (List.range 8).map fun (i : Nat) => PyData.int (i : Nat) := iota_rg 8
    rw [e8]
    refine lcD_encM (List.range 8) (fun (i : Nat) => PyData.int (i : Nat)) (fun _ => .tuple [.str "impossible", evD e]) (by decide) (fun i hi acc J' hacc h1 => ?_) ?_
    · have hi := List.mem_range.mp hi
      walk_at "s8"
      by_cases h3 : i < 3
      · exact ⟨i, b, _, _, _, _, rfl, .i1 h3 (hE b hb) hne, hacc, h1⟩
      by_cases h7 : i < 7
      · exact ⟨i, b, _, _, _, _, rfl, .i2 (by omega) h7 (hE b hb) hne, hacc, h1⟩
      obtain rfl : i = 7 := by omega
      exact ⟨7, b, _, _, _, _, rfl, .i7 (hE b hb) hne, hacc, h1⟩
    · walk_at "s8"
      refine ⟨rfl, _, rfl, (n : Int), rfl, List.cons_ne_nil _ _, by omega, by omega, 8, b, _, _, _, _, rfl, .i8 (hE b hb) hne, (by rw [List.length_map, List.length_range]; decide), 9, rfl, by decide, by decide, ?_⟩
      refine ⟨_, rfl, .lst (k := 3) (by rw [List.length_append, List.length_map, List.length_range]; show 8 + 1 ≤ 100; decide) fun x hx => ?_, true, rfl, ?_⟩
      · have hx : x = .tuple [.str "impossible", evD e] := by
          rcases List.mem_append.mp hx with h | h
          · obtain ⟨_, _, rfl⟩ := List.mem_map.mp h
            rfl
          · exact List.mem_singleton.mp h
        rw [hx]
        exact bdI_pair (k := 2) flb_imp (bdI_ev e)
      rw [if_neg (by decide)]
      refine ⟨9, b, _, _, _, _, rfl, .n9 hb (fun z => by rw [h0] at z; omega), b, p, n, xs, rfl, hb, b, p, n, xs, rfl, hb, h0, ?_⟩
      rw [h0]
      refine ⟨_, rfl, .lst (k := 3) (show 3 ≤ 100 by decide) fun x hx => ?_, true, rfl, ?_⟩
      · simp only [List.mem_cons, List.not_mem_nil, or_false] at hx
        rcases hx with rfl | rfl | rfl
        · exact bdI_pair (k := 2) flb_num (.int _)
        · exact .int _
        · exact .lst (k := 2) (Nat.zero_le _) fun x hx => nomatch hx
      rw [if_neg (by decide)]
      exact hJ' _ ⟨_, _, rfl⟩
  · obtain ⟨y5, y6, rfl⟩ := inv
    walk_at "s8"
    have hq : PyData.tuple (iotaD 0 (n : Int)) = rowT ((List.range n).map fun (i : Nat) => (i : Int)) := by
      rw [iota_rg]
      unfold rowT
      rw [List.map_map]
      rfl
    have hR : OgM.Row (p : Nat) ((List.range n).map fun (i : Nat) => (i : Int)) := ⟨List.pairwise_map.mpr (List.nodup_range.imp fun h z => h (by omega)), fun x hx => by
      obtain ⟨i, _, rfl⟩ := List.mem_map.mp hx
      omega, fun x hx => by
      obtain ⟨i, hi, rfl⟩ := List.mem_map.mp hx
      have := List.mem_range.mp hi
      omega⟩
    have hrl : ((List.range n).map fun (i : Nat) => (i : Int)).length = n := by rw [List.length_map, List.length_range]
    rw [hq]
    generalize (List.range n).map (fun (i : Nat) => (i : Int)) = rz at hf hR hrl
    refine ⟨10, _, _, _, _, _, rfl, .m10 hB (.inl rfl) hR (by omega) (fun x hx => by rw [hrl]; exact ht x hx) hf, p, n, xs, rz, rfl, hR.nd, by omega, by omega, fun x hx => by rw [hrl]; exact ht x hx, ?_⟩
    unfold falD
    rw [hf]
    refine ⟨[(y.t : Int)], rfl, Nat.zero_lt_one, fun m hm _ => ?_⟩
    rw [List.mem_singleton.mp hm]
    refine ⟨_, rfl, bdI_pair (k := 3) flb_mis (.int _), q c1 hc1⟩
end
def Tru (xs : List Nt) (row : List Int) : Prop := ∀ x ∈ xs, truV row x.t x.v = x.v
theorem gAt_mem : ∀ {ns : List Nt} {t n : Nat}, gAt ns t = some n → ⟨t, .g n⟩ ∈ ns
  | [], t, n, h => by cases h
  | ⟨s, v⟩ :: ns, t, n, h => by
    have h2 : (gAt ns t).or (if s = t then v.g? else none) = some n := h
    clear h
    cases e : gAt ns t with
    | some m =>
      rw [e] at h2
      cases h2
      exact List.mem_cons_of_mem _ (gAt_mem e)
    | none =>
      rw [e, Option.none_or] at h2
      split at h2
      · subst s
        cases v with
        | g m => cases h2; exact List.mem_cons_self ..
        | h w => cases h2
      · cases h2
theorem hAt_mem : ∀ {ns : List Nt} {t : Nat} {w : Wd}, hAt ns t = some w → ⟨t, .h w⟩ ∈ ns
  | [], t, n, h => by cases h
  | ⟨s, v⟩ :: ns, t, n, h => by
    have h2 : (hAt ns t).or (if s = t then v.h? else none) = some n := h
    clear h
    cases e : hAt ns t with
    | some m =>
      rw [e] at h2
      cases h2
      exact List.mem_cons_of_mem _ (hAt_mem e)
    | none =>
      rw [e, Option.none_or] at h2
      split at h2
      · subst s
        cases v with
        | g m => cases h2
        | h w => cases h2; exact List.mem_cons_self ..
      · cases h2
theorem agr_of {xs : List Nt} {row : List Int} (h : Tru xs row) : Agr xs row := by
  refine ⟨fun t x ht e => ?_, fun t w ht e => ?_⟩
  · have := h _ (gAt_mem e)
    have this : NV.g (segs (row.take (t + 1))).length = NV.g x := this
    injection this with this
    exact this.symm
  · have := h _ (hAt_mem e)
    have this : NV.h ((picks row)[t]?.getD (.new, 0)).1 = NV.h w := this
    injection this with this
    have hp : t < (picks row).length := by rw [picks_len]; exact ht
    rw [List.getElem?_eq_getElem hp] at this ⊢
    refine ⟨((picks row)[t]).2, ?_⟩
    rw [← this]
    rfl
theorem ev_ex {ns : List Nt} {T : Nat} (p : Nat) (ht : ∀ x ∈ ns, x.t < T) : ∃ e, EvIs ns p T 0 e := by
  have h1 : (((List.range T).filter fun t => ns.any fun x => decide (x.t = t)).map fun (t : Nat) => (t : Int)).Pairwise (· < ·) := List.pairwise_map.mpr ((List.Pairwise.filter _ List.pairwise_lt_range).imp fun h => by omega)
  refine ⟨_, ev_is (p := p) ht h1 fun k => ?_⟩
  constructor
  · intro h
    obtain ⟨t, h2, rfl⟩ := List.mem_map.mp h
    obtain ⟨x, hx, e⟩ := List.any_eq_true.mp (List.mem_filter.mp h2).2
    exact ⟨x, hx, by rw [of_decide_eq_true e]⟩
  · rintro ⟨x, hx, rfl⟩
    exact List.mem_map.mpr ⟨x.t, List.mem_filter.mpr ⟨List.mem_range.mpr (ht x hx), List.any_eq_true.mpr ⟨x, hx, decide_eq_true rfl⟩⟩, rfl⟩
theorem hardA : ∀ T, T < 9 → 0 < T → (([⟨0, .h .beside⟩] : List Nt).filter fun x => decide (truV ((List.range T).map fun (i : Nat) => (i : Int)) x.t x.v ≠ x.v)) = [⟨0, .h .beside⟩] ∧ (([⟨0, .h .between⟩] : List Nt).filter fun x => decide (truV ((List.range T).map fun (i : Nat) => (i : Int)) x.t x.v ≠ x.v)) = [⟨0, .h .between⟩] := by decide +kernel
theorem hardB : ∀ T, T < 9 → 0 < T → (([⟨T, .g 2⟩] : List Nt).filter fun x => decide (truV ((List.range (T + 1)).map fun (i : Nat) => (i : Int)) x.t x.v ≠ x.v)) = [⟨T, .g 2⟩] := by decide +kernel
theorem hardI : ∀ T, T < 9 → 0 < T → (∀ s, s < T + 1 → (Iv [⟨T, .g 2⟩] (s + 1)).1 ≤ (Iv [⟨T, .g 2⟩] (s + 1)).2) ∧ (Iv [⟨T, .g 2⟩] (T + 1)).1 = 2 := by decide +kernel
theorem hard_one {p n : Nat} (w : Wd) (hw : w = .beside ∨ w = .between) (hn : 0 < n) (h9 : n < 9) : EvIs [⟨0, .h w⟩] p n 0 (.stuck ((0 : Nat) : Int)) ∧ (([⟨0, .h w⟩] : List Nt).filter fun x => decide (truV ((List.range n).map fun (i : Nat) => (i : Int)) x.t x.v ≠ x.v)) = [⟨0, .h w⟩] := by
  have h := hardA n h9 hn
  rcases hw with rfl | rfl
  · exact ⟨.stuck 0 (Nat.zero_le _) hn (fun s _ h => by omega) (show ¬ ((Iv [⟨0, .h .beside⟩] 1).1 ≤ (Iv [⟨0, .h .beside⟩] 1).2) by decide +kernel), h.1⟩
  · exact ⟨.stuck 0 (Nat.zero_le _) hn (fun s _ h => by omega) (show ¬ ((Iv [⟨0, .h .between⟩] 1).1 ≤ (Iv [⟨0, .h .between⟩] 1).2) by decide +kernel), h.2⟩
theorem hard_two {n : Nat} (hn : 0 < n) (h9 : n < 9) : EvIs [⟨n, .g 2⟩] (n + 1) (n + 1) 0 (.room 2) := by
  obtain ⟨h1, h2⟩ := hardI n h9 hn
  have := EvIs.room (ns := [⟨n, .g 2⟩]) (p := n + 1) (T := n + 1) (i := 0) (fun s _ h => h1 s h) (by rw [h2]; omega)
  rw [h2] at this
  exact this
theorem nsm_one {x : Nt} (h1 : x.t ≤ 1000) (h2 : FlB (valD x.v)) : NSm [x] := ⟨fun y hy => by rw [List.mem_singleton.mp hy]; exact h1, fun y hy => by rw [List.mem_singleton.mp hy]; exact h2, (show 1 ≤ 100 by decide)⟩
theorem fal8 : ∀ p < 9, ∀ T < p + 1, fal p T ≤ 40320 := by decide +kernel
theorem FW_8 (ns : List Nt) {p T : Nat} (hp : p ≤ 8) (ht : T ≤ p) : FW List.sum ns (p - T) T T 0 ≤ 40320 := by
  have h := FW_fal ns (p - T) T
  rw [show p - T + T = p by omega] at h
  exact Nat.le_trans h (fal8 p (by omega) T (by omega))
section
variable {P : Program} {wd : World} {K : PySem.W.Frag} {mg : Str → Option Value} {base : Heap} {c : Nat → Addr}
theorem ok_l_right (T : Top wd K mg) (Y : TopX K mg c) : Def P wd K mg base 10 "_law_right" s_l_right ["_law_box_here"] (spB K fRight) := by
  have g_l_take := ok_l_take (P := P) (base := base) T
  have g_l_of := ok_l_of (P := P) (base := base) T
  have g_l_queue := ok_l_queue (P := P) (base := base) T
  have g_l_notes := ok_l_notes (P := P) (base := base) T
  have g_l_told := ok_l_told (P := P) (wd := wd) (base := base) T Y
  have g_l_hard_right := ok_l_hard_right (P := P) (wd := wd) (base := base) T Y
  have g_l_lists := ok_l_lists (P := P) (base := base) T (w := 100) (by decide) 3
  have g_l_same := (ok_l_sameI (P := P) (base := base) T (w := 100) (by decide) 4).imp (sp' := spP K (f_same (BdI 100 4))) fun _ _ _ _ h => h
  have g_l_false := ok_l_false (P := P) (base := base) T
  have g_count_orders := ok_count_orders (P := P) (base := base) T
  refine Def.draws T.d_l_right sc_l_right (fun ds c R h => by obtain ⟨rfl, _⟩ := h; rfl) (fun f cdv A outer s H G l E ds c0 R hG hr h => ?_)
  obtain ⟨rfl, hc, q⟩ := h
  refine ⟨_, _, (dss_cons (ds_set 1 sc_l_right.nd (de_bin o_add (DE.p de_int) (DE.p (de_cB 0 g_l_take hG (hr.mono (by omega)) (by rfl) (da_cons de_int da_nil)))))
      (dss_cons (ds_set 2 sc_l_right.nd (de_cB 0 g_l_queue hG (hr.mono (by omega)) (by rfl) (da_cons (de_v 1) (da_cons (de_bin o_add (DE.p de_int) (DE.p (de_cB 0 g_l_take hG (hr.mono (by omega)) (by rfl) (da_cons (de_v 1) da_nil)))) da_nil))))
      (dss_cons (ds_set 3 sc_l_right.nd (de_len rfl (by rfl) T.b_len (dp_v 2)))
      (dss_cons (ds_set 4 sc_l_right.nd (de_tup (da_cons (de_v 1) (da_cons (de_v 3) (da_cons (de_cB 0 g_l_notes hG (hr.mono (by omega)) (by rfl) (da_cons (de_v 2) da_nil)) da_nil)))))
      (dss_cons (ds_for PassesOwn.never (by rfl) (di_seq rfl (de_tup (da_cons (de_neg de_int) (da_cons (de_v 3) (da_cons (de_bin o_add (dp_v 3) (DE.p de_int)) (da_cons (de_bin o_pow (DE.p de_int) (DE.p de_int)) da_nil)))))) (dg_name 5 sc_l_right.nd)
        (dss_cons (ds_if (dt_not (dt_val (de_c g_l_same hG (hr.mono (by omega)) (by rfl) (da_cons (DO.d (do_lc (own := [("_law_kind", 13)]) (by rfl) sc_l_right.nd (di_rng2 (by rfl) T.b_range de_int de_int) (blkOk_by (own := [("_law_kind", 13)]) (N := ["_law_box_here", "_law_count", "_law_queue_here", "_law_size", "_law_book", "_law_odd", "_law_told_here", "_law_full", "_law_turn", "_law_there", "_law_wrong", "_law_soft", "_law_hard", "_law_kind"]) (sc := defScope s_l_right) (by decide +kernel)) (fun _ _ _ _ _ => (dg_name 13 sc_l_right.nd (hf := by first | exact Or.inr rfl | exact Or.inl rfl))) ts_no (fun _ _ _ _ _ => (de_c g_l_told hG (hr.mono (by omega)) (by rfl) (da_cons (de_v 13) (da_cons (de_v 4) (da_cons (de_v 5) (da_cons de_non da_nil)))))))) (da_cons (DO.d (do_rep (DO.l (do_lst (da_cons (de_tup (da_cons de_str (da_cons (de_v 5) da_nil))) da_nil))) de_int)) da_nil))))) (dss_one (ds_ret de_bl)) dss_nil)
        (dss_cons (ds_set 6 sc_l_right.nd (DO.d (do_lst (da_cons (de_c g_l_told hG (hr.mono (by omega)) (by rfl) (da_cons de_int (da_cons (de_v 4) (da_cons (de_v 5) (da_cons (de_bin o_add (dp_v 5) (DE.p de_int)) da_nil))))) (da_cons (de_c g_l_told hG (hr.mono (by omega)) (by rfl) (da_cons de_int (da_cons (de_v 4) (da_cons (de_min2 (by rfl) (by rfl) T.b_min de_int (de_v 5)) (da_cons (de_max2 (by rfl) (by rfl) T.b_max de_int (de_v 5)) da_nil))))) da_nil)))))
        (dss_one (ds_if (dt_not (dt_val (de_c g_l_same hG (hr.mono (by omega)) (by rfl) (da_cons (de_v 6) (da_cons (DO.d (do_rep (DO.l (do_lst (da_cons (de_tup (da_cons de_str (da_cons (de_v 5) da_nil))) da_nil))) de_int)) da_nil))))) (dss_one (ds_ret de_bl)) dss_nil)))))
      (dss_cons (ds_set 7 sc_l_right.nd (de_c g_count_orders hG (hr.mono (by omega)) (by rfl) (da_cons (de_v 4) da_nil)))
      (dss_cons (ds_for PassesOwn.never (by rfl) (di_seq rfl (de_tup (da_cons (de_neg de_int) (da_cons (de_v 7) (da_cons (de_bin o_add (DE.p (de_bin o_add (dp_v 7) (DE.p de_int))) (DE.p (de_cB 0 g_l_take hG (hr.mono (by omega)) (by rfl) (da_cons de_int da_nil)))) (da_cons (de_bin o_pow (DE.p de_int) (DE.p de_int)) da_nil)))))) (dg_name 5 sc_l_right.nd)
        (dss_one (ds_if (dt_not (dt_val (de_c g_l_same hG (hr.mono (by omega)) (by rfl) (da_cons (de_c g_l_told hG (hr.mono (by omega)) (by rfl) (da_cons de_int (da_cons (de_c g_l_lists hG (hr.mono (by omega)) (by rfl) (da_cons (de_v 4) da_nil)) (da_cons (de_v 5) (da_cons de_non da_nil))))) (da_cons (de_tup (da_cons de_str (da_cons (de_v 5) da_nil))) da_nil))))) (dss_one (ds_ret de_bl)) dss_nil)))
      (dss_cons (ds_for PassesOwn.never (by rfl) (di_rng1 (by rfl) T.b_range de_int) (dg_name 8 sc_l_right.nd)
        (dss_cons (ds_set 9 sc_l_right.nd (de_cB 0 g_l_queue hG (hr.mono (by omega)) (by rfl) (da_cons (de_v 1) (da_cons (de_v 3) da_nil))))
        (dss_cons (ds_par2 10 11 (by rfl) sc_l_right.nd (dx_cons (DE.dx (de_c g_l_false hG (hr.mono (by omega)) (by rfl) (da_cons (de_v 4) (da_cons (de_v 9) da_nil)))) (dx_cons (DE.dx (de_c g_l_lists hG (hr.mono (by omega)) (by rfl) (da_cons (de_v 4) da_nil))) dx_nil)))
        (dss_one (ds_if (DW.q (dw_and (dt_cmp (o_ne rfl hr.units) (dp_v 10) (DE.p (DO.d (do_lst da_nil)))) (dw_and1 (dt_not (dt_val (de_c g_l_same hG (hr.mono (by omega)) (by rfl) (da_cons (de_c g_l_told hG (hr.mono (by omega)) (by rfl) (da_cons de_int (da_cons (de_v 11) (da_cons de_int (da_cons (DO.d (do_listOf rfl (by rfl) T.b_list (dp_v 9))) da_nil))))) (da_cons (de_tup (da_cons de_str (da_cons (de_minL rfl (by rfl) (by rfl) T.b_min (dp_v 10)) da_nil))) da_nil)))))))) (dss_one (ds_ret de_bl)) dss_nil)))))
      (dss_cons (ds_set 12 sc_l_right.nd (de_tup (da_cons (de_v 1) (da_cons (de_v 3) (da_cons (de_tup (da_cons (de_tup (da_cons de_int (da_cons de_str (da_cons (de_cB 0 g_l_of hG (hr.mono (by omega)) (by rfl) (da_cons (DO.d (do_lst (da_cons de_str (da_cons de_str da_nil)))) da_nil)) da_nil)))) da_nil)) da_nil)))))
      (dss_cons (ds_if (dt_not (dt_val (de_cB 0 g_l_hard_right hG (hr.mono (by omega)) (by rfl) (da_cons (de_v 12) da_nil)))) (dss_one (ds_ret de_bl)) dss_nil)
      (dss_one (ds_ret (de_cB 0 g_l_hard_right hG (hr.mono (by omega)) (by rfl) (da_cons (de_tup (da_cons (de_bin o_add (dp_v 3) (DE.p de_int)) (da_cons (de_bin o_add (dp_v 3) (DE.p de_int)) (da_cons (de_tup (da_cons (de_tup (da_cons (de_v 3) (da_cons de_str (da_cons de_int da_nil)))) da_nil)) da_nil)))) da_nil)))))))))))))), ?_⟩
  walk_at "s8"
  refine ⟨8, rfl, by decide, by decide, by omega, fun p0 c1 h1 h2 hc1 => ?_⟩
  have hc1 : c1 ≤ c0 + 1 := hc1
  obtain ⟨p1, rfl⟩ := Int.eq_ofNat_of_zero_le h1
  refine ⟨_, rfl, _, rfl, by omega, by omega, by omega, fun t0 c2 h3 h4 hc2 => ?_⟩
  have hc2 : c2 ≤ c1 + 1 := hc2
  obtain ⟨t1, rfl⟩ := Int.eq_ofNat_of_zero_le h3
  obtain ⟨p, hp⟩ : ∃ p : Nat, p = 1 + p1 := ⟨_, rfl⟩
  obtain ⟨n, hn⟩ : ∃ n : Nat, n = 1 + t1 := ⟨_, rfl⟩
  have ep : (1 : Int) + (p1 : Nat) = (p : Nat) := by omega
  have en : (1 : Int) + (t1 : Nat) = (n : Nat) := by omega
  refine ⟨_, rfl, ?_⟩
  rw [ep, en]
  refine ⟨p, n, rfl, by omega, by omega, by omega, fun row c3 hnd hrl hrb hc3 => ?_⟩
  have hc3 : c3 ≤ c2 + 1 + 2 * n := hc3
  have hR : OgM.Row (p : Nat) row := ⟨hnd, fun x hx => (hrb x hx).1, fun x hx => (hrb x hx).2⟩
  refine ⟨n, by show some (row.map PyData.int).length = _; rw [List.length_map, hrl], row, rfl, hnd, by omega, by omega, fun xs c4 hS hc4 => ?_⟩
  have hc4 : c4 ≤ c3 + 1 + 2 * row.length := hc4
  rw [hrl] at hS hc4
  have hxl := hS.len
  have ht : ∀ x ∈ xs, x.t < n := fun x hx => (hS.tru x hx).1
  have hTr : ∀ x ∈ xs, truV row x.t x.v = x.v := fun x hx => (hS.tru x hx).2
  have hsm := sn_small hS (by omega) hrl
  obtain ⟨e, he⟩ := ev_ex p ht
  have hfw : 0 < FW List.sum xs (p - n) n n 0 := by
    have hf := segs_fit hR
    rw [hrl] at hf
    exact FW_some hR hrl (agr_of hTr) hf
  obtain rfl : e = .ok := (FW_iff (by omega) he).mp hfw
  have h8 := FW_8 xs (p := p) (T := n) (by omega) (by omega)
  have hB : Bk (bkT p n xs) p n xs := ⟨⟨_, .inl rfl, .inl rfl⟩, by omega, by omega, by omega, by omega⟩
  have hBL : Bk (bkL p n xs) p n xs := ⟨⟨_, .inr rfl, .inr rfl⟩, by omega, by omega, by omega, by omega⟩
  have hE : BkE (bkT p n xs) p n xs .ok := ⟨hB, by omega, ht, he⟩
  have ebk : PyData.tuple [.int (p : Nat), .int (n : Nat), .tuple (xs.map ntD)] = bkT p n xs := rfl
  refine ⟨⟨by decide, by decide, by decide⟩, ?_⟩
  refine forD_by (fun i s2 => ∃ y5 y6 : Option DV, s2 = ⟨[some .box, some (.d (.int (p : Nat))), some (.d (rowT row)), some (.d (.int (n : Nat))), some (.d (bkT p n xs)), y5, y6, none, none, none, none, none, none, none], c4, []⟩) ⟨_, _, rfl⟩ (fun i d s2 J e2 inv hJ' => ?_) (fun s2 inv => ?_)
  · obtain ⟨y5, y6, rfl⟩ := inv
    have hd : ∃ z : Int, d = .int z ∧ ¬ (0 ≤ z ∧ z < (n : Int)) := by
      have := List.mem_of_getElem? e2
      simp only [List.mem_cons, List.not_mem_nil, or_false] at this
      rcases this with rfl | rfl | rfl | rfl
      · exact ⟨-1, rfl, by omega⟩
      · exact ⟨_, rfl, by omega⟩
      · exact ⟨_, rfl, by omega⟩
      · refine ⟨_, rfl, fun z => ?_⟩
        have : (10 : Int) ^ Int.toNat 20 = 100000000000000000000 := by decide
        rw [this] at z
        omega
    obtain ⟨z, rfl, hz⟩ := hd
    walk_at "s8"
    refine ⟨by decide, by decide, by decide, by decide, ?_⟩
    have e37 : iotaD 3 7 = [PyData.int (3 : Nat), .int (4 : Nat), .int (5 : Nat), .int (6 : Nat)] := rfl
    rw [e37]
    refine lcD_encM [3, 4, 5, 6] (fun (i : Nat) => PyData.int (i : Nat)) (fun _ => .tuple [.str "no time", .int z]) (by decide) (fun i hi acc J' hacc h1 => ?_) ?_
    · have hi : 3 ≤ i ∧ i < 7 := by
        simp only [List.mem_cons, List.not_mem_nil, or_false] at hi
        omega
      walk_at "s8"
      exact ⟨i, _, _, _, _, _, rfl, .t2 hi.1 hi.2 hE hz, hacc, h1⟩
    walk_at "s8"
    have bN : ∀ m, m ≤ 100 → ∀ l : List PyData, l.length ≤ m → (∀ x ∈ l, x = PyData.tuple [.str "no time", .int z]) → BdI 100 4 (.list l) := fun m hm l hl h => .lst (k := 3) (by omega) fun x hx => by
      rw [h x hx]
      exact bdI_pair (k := 2) flb_time (.int _)
    refine ⟨4, rfl, by decide, by decide, _, rfl, bN 4 (by decide) _ (show 4 ≤ 4 by decide) fun x hx => ?_, true, rfl, ?_⟩
    · simp only [List.mem_cons, List.not_mem_nil, or_false, or_self] at hx
      exact hx
    rw [if_neg (by decide)]
    have c7 : (if 0 ≤ z ∧ z < (n : Int) then z + 1 else z) = z := if_neg hz
    have d7 : (if 0 ≤ (if z < 0 then z else 0) ∧ (if z < 0 then z else 0) < (n : Int) then (if z > 0 then z else 0) else (if z < 0 then z else 0)) = z := by
      by_cases hz0 : z < 0
      · rw [if_pos hz0, if_neg (by omega)]
      · rw [if_neg hz0, if_pos (by omega), if_pos (by omega)]
    refine ⟨7, bkT p n xs, _, _, "no time", .int z, rfl, ?_, 7, bkT p n xs, _, _, "no time", .int z, rfl, ?_, 2, rfl, by decide, by decide, _, rfl, bN 2 (by decide) _ (show 2 ≤ 2 by decide) fun x hx => ?_, true, rfl, ?_⟩
    · have := Tl.t7 (x := z) (y := z + 1) hE (fun h => hz h.1)
      rw [c7] at this
      exact this
    · have := Tl.t7 (x := if z < 0 then z else 0) (y := if z > 0 then z else 0) hE (fun h => by
        obtain ⟨h1, h2⟩ := h
        split at h1 <;> split at h2 <;> omega)
      rw [d7] at this
      exact this
    · simp only [List.mem_cons, List.not_mem_nil, or_false, or_self] at hx
      exact hx
    rw [if_neg (by decide)]
    exact hJ' _ ⟨_, _, rfl⟩
  obtain ⟨y5, y6, rfl⟩ := inv
  walk_at "s8"
  refine ⟨_, p, n, xs, rfl, hB, _, rfl, 99, rfl, by decide, by decide, by omega, fun x5 c5 h5 h6 hc5 => ⟨_, rfl, ⟨by decide, by decide, by decide⟩, ?_⟩⟩
  have hc5 : c5 ≤ c4 + 1 := hc5
  refine forD_by (fun i s2 => ∃ y5 : Option DV, s2 = ⟨[some .box, some (.d (.int (p : Nat))), some (.d (rowT row)), some (.d (.int (n : Nat))), some (.d (bkT p n xs)), y5, y6, some (.d (.int (FW List.sum xs (p - n) n n 0 : Nat))), none, none, none, none, none, none], c5, []⟩) ⟨_, rfl⟩ (fun i d s2 J e2 inv hJ' => ?_) (fun s2 inv => ?_)
  · obtain ⟨y5, rfl⟩ := inv
    have hd : ∃ z : Int, d = .int z ∧ ¬ (0 ≤ z ∧ z < ((FW List.sum xs (p - n) n n 0 : Nat) : Int)) := by
      have := List.mem_of_getElem? e2
      simp only [List.mem_cons, List.not_mem_nil, or_false] at this
      rcases this with rfl | rfl | rfl | rfl
      · exact ⟨-1, rfl, by omega⟩
      · exact ⟨_, rfl, by omega⟩
      · exact ⟨_, rfl, by omega⟩
      · refine ⟨_, rfl, fun z => ?_⟩
        have : (10 : Int) ^ Int.toNat 40 = 10000000000000000000000000000000000000000 := by decide
        rw [this] at z
        omega
    obtain ⟨z, rfl, hz⟩ := hd
    walk_at "s8"
    refine ⟨_, rfl, bd_bkT (by omega) (by omega) hsm, ?_⟩
    rw [soft_bkT]
    refine ⟨9, _, _, _, _, _, rfl, .n9 hBL hz, _, rfl, bdI_pair (k := 3) flb_num (.int _), true, rfl, ?_⟩
    rw [if_neg (by decide)]
    exact hJ' _ ⟨_, rfl⟩
  obtain ⟨y5, rfl⟩ := inv
  walk_at "s8"
  refine ⟨by decide, by decide, ?_⟩
  refine forD_by (fun i s2 => ∃ (y8 y9 y10 y11 : Option DV) (c6 : Int), s2 = ⟨[some .box, some (.d (.int (p : Nat))), some (.d (rowT row)), some (.d (.int (n : Nat))), some (.d (bkT p n xs)), y5, y6, some (.d (.int (FW List.sum xs (p - n) n n 0 : Nat))), y8, y9, y10, y11, none, none], c6, []⟩ ∧ c6 ≤ c5 + 30 * i ∧ i ≤ 4) ⟨_, _, _, _, c5, rfl, by omega, by omega⟩ (fun i d s2 J e2 inv hJ' => ?_) (fun s2 inv => ?_)
  · obtain ⟨y8, y9, y10, y11, c6, rfl, hc6, hi4⟩ := inv
    obtain ⟨him, rfl⟩ := iota_get e2
    have him : i < 4 := him
    walk_at "s8"
    refine ⟨p, n, rfl, by omega, by omega, by omega, fun r c7 hnd2 hl2 hb2 hc7 => ?_⟩
    have hR2 : OgM.Row (p : Nat) r := ⟨hnd2, fun x hx => (hb2 x hx).1, fun x hx => (hb2 x hx).2⟩
    have hc7 : c7 ≤ c6 + 1 + 2 * n := hc7
    refine ⟨p, n, xs, r, rfl, hnd2, by omega, by omega, fun x hx => by rw [hl2]; exact ht x hx, ?_⟩
    refine ⟨_, rfl, bd_bkT (by omega) (by omega) hsm, ?_⟩
    rw [soft_bkT]
    have hmp : ∀ l : List Nt, (l.map fun x => PyData.int (x.t : Nat)) = (l.map fun x => (x.t : Int)).map .int := fun l => by
      rw [List.map_map]
      rfl
    unfold falD
    cases hf : xs.filter (fun x => decide (truV r x.t x.v ≠ x.v)) with
    | nil =>
      refine ⟨rfl, rfl, ?_⟩
      rw [if_neg (by decide)]
      exact hJ' _ ⟨_, _, _, _, c7, rfl, by omega, by omega⟩
    | cons y ys =>
      refine ⟨by rw [hmp]; exact shp_ints _, rfl, ?_⟩
      refine (if_pos (by rfl)).mpr ?_
      refine ⟨rfl, 10, _, _, _, _, _, rfl, .m10 hBL (.inr rfl) hR2 (by omega) (fun x hx => by rw [hl2]; exact ht x hx) hf, (y :: ys).map fun x => (x.t : Int), by rw [hmp], by simp, fun m hm hle => ?_⟩
      have hpw : (y :: ys).Pairwise nLt := by
        rw [← hf]
        exact hS.rise.sublist List.filter_sublist
      have hmy : m = (y.t : Int) := by
        have h1 := hle (y.t : Int) (List.mem_map.mpr ⟨y, List.mem_cons_self, rfl⟩)
        obtain ⟨x, hx, rfl⟩ := List.mem_map.mp hm
        rcases List.mem_cons.mp hx with rfl | hx
        · rfl
        · have := (List.pairwise_cons.mp hpw).1 x hx
          rcases this with h | h
          · omega
          · omega
      rw [hmy]
      refine ⟨_, rfl, bdI_pair (k := 3) flb_mis (.int _), true, rfl, ?_⟩
      rw [if_neg (by decide)]
      exact hJ' _ ⟨_, _, _, _, c7, rfl, by omega, by omega⟩
  obtain ⟨y8, y9, y10, y11, c6, rfl, hc6, hi4⟩ := inv
  walk_at "s8"
  have hc6 : c6 ≤ c0 + 500 := by
    have : (iotaD 0 4).length = 4 := by decide
    omega
  refine ⟨_, rfl, rfl, (show 1 ≤ 2 by decide), (show 2 ≤ 1000 by decide), by omega, fun d c7 hd hc7 => ?_⟩
  have hc7 : c7 ≤ c6 + 1 := hc7
  obtain ⟨w, rfl, hw⟩ : ∃ w : Wd, d = .str (wstr w) ∧ (w = .beside ∨ w = .between) := by
    have hd : d ∈ [PyData.str "beside", .str "between"] := hd
    simp only [List.mem_cons, List.not_mem_nil, or_false] at hd
    rcases hd with rfl | rfl
    · exact ⟨.beside, rfl, .inl rfl⟩
    · exact ⟨.between, rfl, .inr rfl⟩
  obtain ⟨hv1, hf1⟩ := hard_one (p := p) (n := n) w hw (by omega) (by omega)
  refine ⟨p, n, [⟨0, .h w⟩], _, _, rfl, by omega, by omega, (show 1 ≤ 20 by decide), fun x hx => by rw [List.mem_singleton.mp hx]; show 0 < n; omega, nsm_one (show 0 ≤ 1000 by decide) (flb_wd w), hv1, (fun z => nomatch z), hf1, by omega, fun c8 hc8 => ⟨true, rfl, ?_⟩⟩
  rw [if_neg (by decide)]
  refine ⟨n + 1, n + 1, [⟨n, .g 2⟩], _, _, rfl, Nat.le_refl _, by omega, (show 1 ≤ 20 by decide), fun x hx => by rw [List.mem_singleton.mp hx]; show n < n + 1; omega, nsm_one (show n ≤ 1000 by omega) (flb_nat (by decide)), hard_two (by omega) (by omega), (fun z => nomatch z), hardB n (by omega) (by omega), by omega, fun c9 hc9 => q c9 (by show c9 ≤ _; omega)⟩
end
section
variable {P : Program} {wd : World} {K : PySem.W.Frag} {mg : Str → Option Value} {base : Heap}
theorem ok_l_cell_at (T : Top wd K mg) : Def P wd K mg base 1 "_law_cell_at" s_l_cell_at ["_law_script", "_law_k"] (spCel K) := by
  obtain ⟨f, fd, F, b, m⟩ := T.d_l_cell_at.ex
  refine ⟨f, fd, fnG_of F sc_l_cell_at (fun vs H Q E h => ?_) (fun cdv A outer s H vs Q E hG hr h => ?_), F, b, m⟩
  · obtain ⟨a, ns, k, rfl, _⟩ := h
    rfl
  · obtain ⟨a, ns, j, rfl, hS, q⟩ := h
    refine ⟨_, pss_cons (ps_if (pt_cmpR op_lt (pv 1) (pe_callB call_len_seq (by rfl) T.b_len PySem.boot_len (pa_cons (pv 0) pa_nil)) (nomark _))
        (pss_one (ps_ret (pe_ix ix_list (pv 0) (pv 1) (fun _ _ => rfl)))) pss_nil)
      (pss_one (ps_ret pe_int)), ?_⟩
    refine ⟨_, rfl, _, rfl, a, _, rfl, .inl hS, _, _, rfl, rfl, _, rfl, ite2 (fun e => ?_) (fun e => ?_)⟩
    · have h1 := of_decide_eq_true e
      rw [List.length_map] at h1
      have hj : j < ns.length := by omega
      refine ⟨_, rfl, _, rfl, a, _, _, _, rfl, rfl, hS, atI_nat (j := j) (v := .int ns[j]) ?_, ?_⟩
      · rw [List.getElem?_map, List.getElem?_eq_getElem hj]; rfl
      · rw [List.getD_eq_getElem?_getD, List.getElem?_eq_getElem hj] at q
        exact q
    · have hj : ¬ j < ns.length := fun z => e (decide_eq_true (by rw [List.length_map]; omega))
      rw [List.getD_eq_getElem?_getD, List.getElem?_eq_none (by omega)] at q
      exact q
theorem ok_l_box (T : Top wd K mg) : Def P wd K mg base 2 "_law_box" s_l_box ["_law_script", "_law_k"] (spBox K) := by
  obtain ⟨fC, fdC, GC, FC, bC, gC⟩ := (ok_l_cell_at (P := P) (base := base) T).ex
  obtain ⟨f, fd, F, b, m⟩ := T.d_l_box.ex
  refine ⟨f, fd, fnG_of F sc_l_box (fun vs H Q E h => ?_) (fun cdv A outer s H vs Q E hG hr h => ?_), F, b, m⟩
  · obtain ⟨a, ns, k, rfl, _⟩ := h
    rfl
  · obtain ⟨a, ns, j, rfl, hS, hj, q⟩ := h
    refine ⟨_, pss_cons (ps_set (i := 2) sc_l_box.nd rfl (.inl rfl) (pe_callG (E := E0) GC hG hr (by rfl) gC FC.kp bC (pa_cons (pv 0) (pa_cons (pv 1) pa_nil))))
      (pss_one (ps_ret (pe_lst (pa_cons (pe_op op_mul (pe_callB call_abs (by rfl) T.b_abs (by decide +kernel) (pa_cons (pv 2) pa_nil))
            (pe_callTy call_int1 (by rfl) T.b_int (by decide +kernel) (pa_cons (pe_cmpR op_ge (pe_callB call_abs (by rfl) T.b_abs (by decide +kernel) (pa_cons (pv 2) pa_nil)) (pe_op op_pow pe_int pe_int) (nomark _)) pa_nil)))
          (pa_cons (pe_op op_add (pe_op op_add (pe_op op_mod (pv 2) pe_int) (pe_op op_mul pe_int (pv 1))) pe_int) (pa_cons pe_int pa_nil)))))), ?_⟩
    refine ⟨_, rfl, _, rfl, a, ns, j, rfl, hS, ?_⟩
    generalize ns.getD j 0 = c
    refine ⟨_, rfl, _, rfl, _, rfl, _, rfl, _, _, rfl, rfl, ⟨by decide, by decide, by decide⟩, _, _, rfl, rfl, .inr ⟨_, rfl, _, _, rfl, rfl, .inr ?_, ?_⟩⟩
    · exact box01 _
    · refine ⟨_, rfl, _, _, rfl, rfl, (show (0 : Int) < 2305843009213693951 by decide), _, rfl, _, _, rfl, rfl, .inl ⟨by decide, by decide⟩, _, _, rfl, rfl, _, _, rfl, rfl, (show 3 ≤ sizeLine by decide), fun l hl => ?_⟩
      refine q l _ _ hl ?_ ?_ ?_
      · split <;> split <;> simp <;> omega
      · have := Int.emod_nonneg c (show (2305843009213693951 : Int) ≠ 0 by decide); omega
      · have := Int.emod_lt_of_pos c (show (0 : Int) < 2305843009213693951 by decide); omega
theorem ok_law {c : Nat → Addr} {f : Addr} {fd : FuncData} (F : Fun K "law" "law" s_law f fd) (T : Top wd K mg) (Y : TopX K mg c) : FnG P wd K mg base 11 f fd ["_law_script"] (spLaw K) := by
  obtain ⟨fB, fdB, GB, FB, bB, gB⟩ := ((ok_l_box (P := P) (base := base) T).mono (show 2 ≤ 10 by decide)).ex
  obtain ⟨fR, fdR, GR, FR, bR, gR⟩ := (right_of (ok_l_right (P := P) (wd := wd) (base := base) T Y)).ex
  refine fnG_of F sc_law (fun vs H Q E h => ?_) (fun cdv A outer s H vs Q E hG hr h => ?_)
  · obtain ⟨_, _, rfl, _⟩ := h
    rfl
  · obtain ⟨sc, ns, rfl, hS, hlen, q⟩ := h
    refine ⟨_, pss_one (ps_ret (pe_callB (cr_all (by rfl)) (by rfl) T.b_all (by decide +kernel) (pa_cons
          (pe_lc (own := [("_law_k", 1)]) (g := gName 1) (by rfl) sc_law.nd (pi_range1 rfl T.b_range (pa_cons (pe_op op_add pe_int (pe_callB (call_min2 (by rfl)) (by rfl) T.b_min (by decide +kernel) (pa_cons pe_int (pa_cons (pe_callB call_len_seq (by rfl) T.b_len PySem.boot_len (pa_cons (pv 0) pa_nil)) pa_nil)))) pa_nil))
            (blkOk_by (own := [("_law_k", 1)]) (N := ["_law_script", "_law_k"]) (sc := defScope s_law) (by decide +kernel))
            (fun _ _ _ _ _ => pg_name (i := 1) sc_law.nd rfl (Or.inl rfl) (hf := Or.inr rfl))
            (fun _ _ _ _ _ => pts_nil)
            (fun _ _ _ _ _ => pe_callG (E := E0) GR hG hr (by rfl) gR FR.kp bR (pa_cons (pe_callG (E := E0) GB hG hr (by rfl) gB FB.kp bB (pa_cons (pv 0) (pa_cons (pv 1) pa_nil))) pa_nil))) pa_nil))), ?_⟩
    have hmin : ∀ j : Int, 0 ≤ j → (0 : Int) ≤ (if j < 3 then j else 3) ∧ (if j < 3 then j else 3) ≤ 3 := fun j h => by split <;> omega
    have hm := hmin ((ns.map V.int).length : Int) (by omega)
    refine ⟨_, rfl, sc, _, rfl, .inl hS, _, _, rfl, _, _, rfl, rfl, _, rfl, by omega, by omega, fun D hD => ?_⟩
    have keep : ∀ {H' : Hp} {o : HO}, Ex H H' → Ex H (upd H' D o) := fun {H' o} e b u hb => by
      rw [upd_ne (fun z => by rw [z, hD] at hb; cases hb)]
      exact e b u hb
    refine lc_range (lo := 0) (fun j H' => Ex H H' ∧ H' D = some (.lst ((List.replicate j true).map V.bl))) ⟨Ex.new hD, upd_same⟩ (fun j H' hj c => ?_) (fun H5 c => ?_)
    · obtain ⟨c1, c2⟩ := c
      have hj4 : j ≤ 1000 := by omega
      rw [Int.zero_add]
      refine ⟨rfl, _, rfl, _, rfl, sc, ns, j, rfl, ex_l c1 hS, hj4, fun l x y hl hx hy hy2 => ?_⟩
      have hB0 : Dw.BoxAt (upd H' l (.lst [.int x, .int y, .int 0])) l 0 := ⟨x, y, upd_same, hx, hy, hy2, by omega, by omega⟩
      have e0 : Ex H' (upd H' l (.lst [.int x, .int y, .int 0])) := Ex.new hl
      generalize (upd H' l (.lst [.int x, .int y, .int 0])) = H4 at hB0 e0
      refine ⟨l, 0, rfl, hB0, by omega, fun H6 c6 e6 hB6 hc6 => ?_⟩
      have e7 : Ex H' H6 := fun b o hb => e6 b o (fun z => by rw [z, hl] at hb; cases hb) (e0 b o hb)
      refine ⟨_, e7 _ _ c2, ?_, keep (c1.trans e7), ?_⟩
      · rw [List.length_map, List.length_replicate, sizeLine_eq]
        omega
      · rw [upd_same, repT_snoc, List.map_append]
        rfl
    · obtain ⟨c1, c2⟩ := c
      refine ⟨D, _, rfl, .inl (.inl c2), ?_⟩
      rw [repT_all]
      exact q _
end
theorem lawT_of {P : Program} {w : World} {K : PySem.W.Frag} {mg : Str → Option Value} {fa ct Pt : Addr} {k : Nat} (h : ∃ fd : FuncData, (∀ (s : Shared) (v : Value), BindsTo s fd ⟨[v], []⟩ [("_law_script", v)]) ∧ ∀ base : Heap, K.In base → base.Ns mainGlobals mg → FnG P w K mg base k fa fd ["_law_script"] (Dw.spLaw K)) :
    ∃ fd : FuncData, (∀ (s : Shared) (v : Value), BindsTo s fd ⟨[v], []⟩ [("_law_script", v)]) ∧ ∀ base : Heap, K.In base → base.Ns mainGlobals mg → LamX.TabB base mg ct Pt → FnG P w K mg base k fa fd ["_law_script"] (Dw.spLawT K Pt) := by
  obtain ⟨fd, hb, h⟩ := h
  have im : ∀ vs H Q E, Dw.spLawT K Pt vs H Q E → Dw.spLaw K vs H Q E := fun vs H Q E ⟨s, ns, h1, _, h2, h3, h4⟩ => ⟨s, ns, h1, h2, h3, h4⟩
  refine ⟨fd, hb, fun base b1 b2 _ => ?_⟩
  obtain ⟨a1, a2⟩ := h base b1 b2
  exact ⟨fun vs H Q E z => a1 vs H Q E (im vs H Q E z), fun A outer s H args us vs Q E g1 g2 g3 g4 g5 z => a2 A outer s H args us vs Q E g1 g2 g3 g4 g5 (im vs H Q E z)⟩
theorem all_mk {l : PySem.W.OpenLaw} {w : World} {K : PySem.W.Frag} {h : Heap} {mg : Str → Option Value} {fa : Addr} (X : K.In h) (G : h.Ns mainGlobals mg) (hfa : mg "law" = some (.ref fa))
    {f0 f1 f2 f3 f4 f5 f6 f7 f8 f9 f10 f11 f12 f13 f14 f15 f16 f17 f18 f19 f20 f21 f22 f23 f24 f25 f26 f27 f28 f29 f30 f31 f32 f33 f34 f35 f36 f37 f38 f39 f40 f41 f42 f43 f44 f45 f46 f47 f48 f49 f50 f51 f52 f53 f54 f55 f56 f57 f58 f59 f60 f61 f62 f63 f64 f65 f66 f67 f68 f69 f70 f71 f72 f73 f74 f75 f76 : Addr} {od0 an0 od1 an1 od2 an2 od3 an3 od4 an4 od5 an5 od6 an6 od7 an7 od8 an8 od9 an9 od10 an10 od11 an11 od12 an12 od13 an13 od14 an14 od15 an15 od16 an16 od17 an17 od18 an18 od19 an19 od20 an20 od21 an21 od22 an22 od23 an23 od24 an24 od25 an25 od26 an26 od27 an27 od28 an28 od29 an29 od30 an30 od31 an31 od32 an32 od33 an33 od34 an34 od35 an35 od36 an36 od37 an37 od38 an38 od39 an39 od40 an40 od41 an41 od42 an42 od43 an43 od44 an44 od45 an45 od46 an46 od47 an47 od48 an48 od49 an49 od50 an50 od51 an51 od52 an52 od53 an53 od54 an54 od55 an55 od56 an56 od57 an57 od58 an58 od59 an59 od60 an60 od61 an61 od62 an62 od63 an63 od64 an64 od65 an65 od66 an66 od67 an67 od68 an68 od69 an69 od70 an70 od71 an71 od72 an72 od73 an73 od74 an74 od75 an75 od76 an76 : Option Addr} {sl0 sl1 sl2 sl3 sl4 sl5 sl6 sl7 sl8 sl9 sl10 sl11 sl12 sl13 sl14 sl15 sl16 sl17 sl18 sl19 sl20 sl21 sl22 sl23 sl24 sl25 sl26 sl27 sl28 sl29 sl30 sl31 sl32 sl33 sl34 sl35 sl36 sl37 sl38 sl39 sl40 sl41 sl42 sl43 sl44 sl45 sl46 sl47 sl48 sl49 sl50 sl51 sl52 sl53 sl54 sl55 sl56 sl57 sl58 sl59 sl60 sl61 sl62 sl63 sl64 sl65 sl66 sl67 sl68 sl69 sl70 sl71 sl72 sl73 sl74 sl75 sl76 : Array (Option Value)} {oc0 kV0 dc0 pm0 cd0 ct0 oc1 kV1 dc1 pm1 cd1 ct1 oc2 kV2 dc2 pm2 cd2 ct2 oc3 kV3 dc3 pm3 cd3 ct3 oc4 kV4 dc4 pm4 cd4 ct4 oc5 kV5 dc5 pm5 cd5 ct5 oc6 kV6 dc6 pm6 cd6 ct6 oc7 kV7 dc7 pm7 cd7 ct7 oc8 kV8 dc8 pm8 cd8 ct8 oc9 kV9 dc9 pm9 cd9 ct9 oc10 kV10 dc10 pm10 cd10 ct10 oc11 kV11 dc11 pm11 cd11 ct11 oc12 kV12 dc12 pm12 cd12 ct12 oc13 kV13 dc13 pm13 cd13 ct13 oc14 kV14 dc14 pm14 cd14 ct14 oc15 kV15 dc15 pm15 cd15 ct15 oc16 kV16 dc16 pm16 cd16 ct16 oc17 kV17 dc17 pm17 cd17 ct17 oc18 kV18 dc18 pm18 cd18 ct18 oc19 kV19 dc19 pm19 cd19 ct19 oc20 kV20 dc20 pm20 cd20 ct20 oc21 kV21 dc21 pm21 cd21 ct21 oc22 kV22 dc22 pm22 cd22 ct22 oc23 kV23 dc23 pm23 cd23 ct23 oc24 kV24 dc24 pm24 cd24 ct24 oc25 kV25 dc25 pm25 cd25 ct25 oc26 kV26 dc26 pm26 cd26 ct26 oc27 kV27 dc27 pm27 cd27 ct27 oc28 kV28 dc28 pm28 cd28 ct28 oc29 kV29 dc29 pm29 cd29 ct29 oc30 kV30 dc30 pm30 cd30 ct30 oc31 kV31 dc31 pm31 cd31 ct31 oc32 kV32 dc32 pm32 cd32 ct32 oc33 kV33 dc33 pm33 cd33 ct33 oc34 kV34 dc34 pm34 cd34 ct34 oc35 kV35 dc35 pm35 cd35 ct35 oc36 kV36 dc36 pm36 cd36 ct36 oc37 kV37 dc37 pm37 cd37 ct37 oc38 kV38 dc38 pm38 cd38 ct38 oc39 kV39 dc39 pm39 cd39 ct39 oc40 kV40 dc40 pm40 cd40 ct40 oc41 kV41 dc41 pm41 cd41 ct41 oc42 kV42 dc42 pm42 cd42 ct42 oc43 kV43 dc43 pm43 cd43 ct43 oc44 kV44 dc44 pm44 cd44 ct44 oc45 kV45 dc45 pm45 cd45 ct45 oc46 kV46 dc46 pm46 cd46 ct46 oc47 kV47 dc47 pm47 cd47 ct47 oc48 kV48 dc48 pm48 cd48 ct48 oc49 kV49 dc49 pm49 cd49 ct49 oc50 kV50 dc50 pm50 cd50 ct50 oc51 kV51 dc51 pm51 cd51 ct51 oc52 kV52 dc52 pm52 cd52 ct52 oc53 kV53 dc53 pm53 cd53 ct53 oc54 kV54 dc54 pm54 cd54 ct54 oc55 kV55 dc55 pm55 cd55 ct55 oc56 kV56 dc56 pm56 cd56 ct56 oc57 kV57 dc57 pm57 cd57 ct57 oc58 kV58 dc58 pm58 cd58 ct58 oc59 kV59 dc59 pm59 cd59 ct59 oc60 kV60 dc60 pm60 cd60 ct60 oc61 kV61 dc61 pm61 cd61 ct61 oc62 kV62 dc62 pm62 cd62 ct62 oc63 kV63 dc63 pm63 cd63 ct63 oc64 kV64 dc64 pm64 cd64 ct64 oc65 kV65 dc65 pm65 cd65 ct65 oc66 kV66 dc66 pm66 cd66 ct66 oc67 kV67 dc67 pm67 cd67 ct67 oc68 kV68 dc68 pm68 cd68 ct68 oc69 kV69 dc69 pm69 cd69 ct69 oc70 kV70 dc70 pm70 cd70 ct70 oc71 kV71 dc71 pm71 cd71 ct71 oc72 kV72 dc72 pm72 cd72 ct72 oc73 kV73 dc73 pm73 cd73 ct73 oc74 kV74 dc74 pm74 cd74 ct74 oc75 kV75 dc75 pm75 cd75 ct75 oc76 kV76 dc76 pm76 cd76 ct76 : Value}
    (a0 : PySem.W.nsIn K mainGlobals "tuple_for_list" = some (some (.ref f0)))
    (l0 : K.lookup f0 = some ⟨oc0, od0, .func (PySem.W.fnOf "tuple_for_list" "tuple_for_list" (defArgs s_tuple_for_list) (defBody s_tuple_for_list) (defScope s_tuple_for_list) .none kV0 dc0 pm0 an0 cd0 ct0), sl0⟩)
    (c0 : PySem.W.codeIn K cd0 "tuple_for_list" = true) (k0 : PySem.W.keepIn K (.ref f0) = true)
    (a1 : PySem.W.nsIn K mainGlobals "neighbours" = some (some (.ref f1)))
    (l1 : K.lookup f1 = some ⟨oc1, od1, .func (PySem.W.fnOf "neighbours" "neighbours" (defArgs s_neighbours) (defBody s_neighbours) (defScope s_neighbours) .none kV1 dc1 pm1 an1 cd1 ct1), sl1⟩)
    (c1 : PySem.W.codeIn K cd1 "neighbours" = true) (k1 : PySem.W.keepIn K (.ref f1) = true)
    (a2 : PySem.W.nsIn K mainGlobals "groups" = some (some (.ref f2)))
    (l2 : K.lookup f2 = some ⟨oc2, od2, .func (PySem.W.fnOf "groups" "groups" (defArgs s_groups) (defBody s_groups) (defScope s_groups) .none kV2 dc2 pm2 an2 cd2 ct2), sl2⟩)
    (c2 : PySem.W.codeIn K cd2 "groups" = true) (k2 : PySem.W.keepIn K (.ref f2) = true)
    (a3 : PySem.W.nsIn K mainGlobals "houses" = some (some (.ref f3)))
    (l3 : K.lookup f3 = some ⟨oc3, od3, .func (PySem.W.fnOf "houses" "houses" (defArgs s_houses) (defBody s_houses) (defScope s_houses) .none kV3 dc3 pm3 an3 cd3 ct3), sl3⟩)
    (c3 : PySem.W.codeIn K cd3 "houses" = true) (k3 : PySem.W.keepIn K (.ref f3) = true)
    (a4 : PySem.W.nsIn K mainGlobals "many_choices" = some (some (.ref f4)))
    (l4 : K.lookup f4 = some ⟨oc4, od4, .func (PySem.W.fnOf "many_choices" "many_choices" (defArgs s_many_choices) (defBody s_many_choices) (defScope s_many_choices) .none kV4 dc4 pm4 an4 cd4 ct4), sl4⟩)
    (c4 : PySem.W.codeIn K cd4 "many_choices" = true) (k4 : PySem.W.keepIn K (.ref f4) = true)
    (a5 : PySem.W.nsIn K mainGlobals "groups_left_of" = some (some (.ref f5)))
    (l5 : K.lookup f5 = some ⟨oc5, od5, .func (PySem.W.fnOf "groups_left_of" "groups_left_of" (defArgs s_groups_left_of) (defBody s_groups_left_of) (defScope s_groups_left_of) .none kV5 dc5 pm5 an5 cd5 ct5), sl5⟩)
    (c5 : PySem.W.codeIn K cd5 "groups_left_of" = true) (k5 : PySem.W.keepIn K (.ref f5) = true)
    (a6 : PySem.W.nsIn K mainGlobals "number_of_choice" = some (some (.ref f6)))
    (l6 : K.lookup f6 = some ⟨oc6, od6, .func (PySem.W.fnOf "number_of_choice" "number_of_choice" (defArgs s_number_of_choice) (defBody s_number_of_choice) (defScope s_number_of_choice) .none kV6 dc6 pm6 an6 cd6 ct6), sl6⟩)
    (c6 : PySem.W.codeIn K cd6 "number_of_choice" = true) (k6 : PySem.W.keepIn K (.ref f6) = true)
    (a7 : PySem.W.nsIn K mainGlobals "choices_of" = some (some (.ref f7)))
    (l7 : K.lookup f7 = some ⟨oc7, od7, .func (PySem.W.fnOf "choices_of" "choices_of" (defArgs s_choices_of) (defBody s_choices_of) (defScope s_choices_of) .none kV7 dc7 pm7 an7 cd7 ct7), sl7⟩)
    (c7 : PySem.W.codeIn K cd7 "choices_of" = true) (k7 : PySem.W.keepIn K (.ref f7) = true)
    (a8 : PySem.W.nsIn K mainGlobals "gaps_of" = some (some (.ref f8)))
    (l8 : K.lookup f8 = some ⟨oc8, od8, .func (PySem.W.fnOf "gaps_of" "gaps_of" (defArgs s_gaps_of) (defBody s_gaps_of) (defScope s_gaps_of) .none kV8 dc8 pm8 an8 cd8 ct8), sl8⟩)
    (c8 : PySem.W.codeIn K cd8 "gaps_of" = true) (k8 : PySem.W.keepIn K (.ref f8) = true)
    (a9 : PySem.W.nsIn K mainGlobals "times_in_groups" = some (some (.ref f9)))
    (l9 : K.lookup f9 = some ⟨oc9, od9, .func (PySem.W.fnOf "times_in_groups" "times_in_groups" (defArgs s_times_in_groups) (defBody s_times_in_groups) (defScope s_times_in_groups) .none kV9 dc9 pm9 an9 cd9 ct9), sl9⟩)
    (c9 : PySem.W.codeIn K cd9 "times_in_groups" = true) (k9 : PySem.W.keepIn K (.ref f9) = true)
    (a10 : PySem.W.nsIn K mainGlobals "row_of" = some (some (.ref f10)))
    (l10 : K.lookup f10 = some ⟨oc10, od10, .func (PySem.W.fnOf "row_of" "row_of" (defArgs s_row_of) (defBody s_row_of) (defScope s_row_of) .none kV10 dc10 pm10 an10 cd10 ct10), sl10⟩)
    (c10 : PySem.W.codeIn K cd10 "row_of" = true) (k10 : PySem.W.keepIn K (.ref f10) = true)
    (a11 : PySem.W.nsIn K mainGlobals "true_value" = some (some (.ref f11)))
    (l11 : K.lookup f11 = some ⟨oc11, od11, .func (PySem.W.fnOf "true_value" "true_value" (defArgs s_true_value) (defBody s_true_value) (defScope s_true_value) .none kV11 dc11 pm11 an11 cd11 ct11), sl11⟩)
    (c11 : PySem.W.codeIn K cd11 "true_value" = true) (k11 : PySem.W.keepIn K (.ref f11) = true)
    (a12 : PySem.W.nsIn K mainGlobals "untrue_times" = some (some (.ref f12)))
    (l12 : K.lookup f12 = some ⟨oc12, od12, .func (PySem.W.fnOf "untrue_times" "untrue_times" (defArgs s_untrue_times) (defBody s_untrue_times) (defScope s_untrue_times) .none kV12 dc12 pm12 an12 cd12 ct12), sl12⟩)
    (c12 : PySem.W.codeIn K cd12 "untrue_times" = true) (k12 : PySem.W.keepIn K (.ref f12) = true)
    (a13 : PySem.W.nsIn K mainGlobals "ways_to_choose" = some (some (.ref f13)))
    (l13 : K.lookup f13 = some ⟨oc13, od13, .func (PySem.W.fnOf "ways_to_choose" "ways_to_choose" (defArgs s_ways_to_choose) (defBody s_ways_to_choose) (defScope s_ways_to_choose) .none kV13 dc13 pm13 an13 cd13 ct13), sl13⟩)
    (c13 : PySem.W.codeIn K cd13 "ways_to_choose" = true) (k13 : PySem.W.keepIn K (.ref f13) = true)
    (a14 : PySem.W.nsIn K mainGlobals "noted_values" = some (some (.ref f14)))
    (l14 : K.lookup f14 = some ⟨oc14, od14, .func (PySem.W.fnOf "noted_values" "noted_values" (defArgs s_noted_values) (defBody s_noted_values) (defScope s_noted_values) .none kV14 dc14 pm14 an14 cd14 ct14), sl14⟩)
    (c14 : PySem.W.codeIn K cd14 "noted_values" = true) (k14 : PySem.W.keepIn K (.ref f14) = true)
    (a15 : PySem.W.nsIn K mainGlobals "is_word_then" = some (some (.ref f15)))
    (l15 : K.lookup f15 = some ⟨oc15, od15, .func (PySem.W.fnOf "is_word_then" "is_word_then" (defArgs s_is_word_then) (defBody s_is_word_then) (defScope s_is_word_then) .none kV15 dc15 pm15 an15 cd15 ct15), sl15⟩)
    (c15 : PySem.W.codeIn K cd15 "is_word_then" = true) (k15 : PySem.W.keepIn K (.ref f15) = true)
    (a16 : PySem.W.nsIn K mainGlobals "words_then" = some (some (.ref f16)))
    (l16 : K.lookup f16 = some ⟨oc16, od16, .func (PySem.W.fnOf "words_then" "words_then" (defArgs s_words_then) (defBody s_words_then) (defScope s_words_then) .none kV16 dc16 pm16 an16 cd16 ct16), sl16⟩)
    (c16 : PySem.W.codeIn K cd16 "words_then" = true) (k16 : PySem.W.keepIn K (.ref f16) = true)
    (a17 : PySem.W.nsIn K mainGlobals "blocks_then" = some (some (.ref f17)))
    (l17 : K.lookup f17 = some ⟨oc17, od17, .func (PySem.W.fnOf "blocks_then" "blocks_then" (defArgs s_blocks_then) (defBody s_blocks_then) (defScope s_blocks_then) .none kV17 dc17 pm17 an17 cd17 ct17), sl17⟩)
    (c17 : PySem.W.codeIn K cd17 "blocks_then" = true) (k17 : PySem.W.keepIn K (.ref f17) = true)
    (a18 : PySem.W.nsIn K mainGlobals "folded_ways" = some (some (.ref f18)))
    (l18 : K.lookup f18 = some ⟨oc18, od18, .func (PySem.W.fnOf "folded_ways" "folded_ways" (defArgs s_folded_ways) (defBody s_folded_ways) (defScope s_folded_ways) .none kV18 dc18 pm18 an18 cd18 ct18), sl18⟩)
    (c18 : PySem.W.codeIn K cd18 "folded_ways" = true) (k18 : PySem.W.keepIn K (.ref f18) = true)
    (a19 : PySem.W.nsIn K mainGlobals "in_all" = some (some (.ref f19)))
    (l19 : K.lookup f19 = some ⟨oc19, od19, .func (PySem.W.fnOf "in_all" "in_all" (defArgs s_in_all) (defBody s_in_all) (defScope s_in_all) .none kV19 dc19 pm19 an19 cd19 ct19), sl19⟩)
    (c19 : PySem.W.codeIn K cd19 "in_all" = true) (k19 : PySem.W.keepIn K (.ref f19) = true)
    (a20 : PySem.W.nsIn K mainGlobals "all_ways" = some (some (.ref f20)))
    (l20 : K.lookup f20 = some ⟨oc20, od20, .func (PySem.W.fnOf "all_ways" "all_ways" (defArgs s_all_ways) (defBody s_all_ways) (defScope s_all_ways) .none kV20 dc20 pm20 an20 cd20 ct20), sl20⟩)
    (c20 : PySem.W.codeIn K cd20 "all_ways" = true) (k20 : PySem.W.keepIn K (.ref f20) = true)
    (a21 : PySem.W.nsIn K mainGlobals "counts_after" = some (some (.ref f21)))
    (l21 : K.lookup f21 = some ⟨oc21, od21, .func (PySem.W.fnOf "counts_after" "counts_after" (defArgs s_counts_after) (defBody s_counts_after) (defScope s_counts_after) .none kV21 dc21 pm21 an21 cd21 ct21), sl21⟩)
    (c21 : PySem.W.codeIn K cd21 "counts_after" = true) (k21 : PySem.W.keepIn K (.ref f21) = true)
    (a22 : PySem.W.nsIn K mainGlobals "all_starts" = some (some (.ref f22)))
    (l22 : K.lookup f22 = some ⟨oc22, od22, .func (PySem.W.fnOf "all_starts" "all_starts" (defArgs s_all_starts) (defBody s_all_starts) (defScope s_all_starts) .none kV22 dc22 pm22 an22 cd22 ct22), sl22⟩)
    (c22 : PySem.W.codeIn K cd22 "all_starts" = true) (k22 : PySem.W.keepIn K (.ref f22) = true)
    (a23 : PySem.W.nsIn K mainGlobals "count_orders" = some (some (.ref f23)))
    (l23 : K.lookup f23 = some ⟨oc23, od23, .func (PySem.W.fnOf "count_orders" "count_orders" (defArgs s_count_orders) (defBody s_count_orders) (defScope s_count_orders) .none kV23 dc23 pm23 an23 cd23 ct23), sl23⟩)
    (c23 : PySem.W.codeIn K cd23 "count_orders" = true) (k23 : PySem.W.keepIn K (.ref f23) = true)
    (a24 : PySem.W.nsIn K mainGlobals "smaller_gaps" = some (some (.ref f24)))
    (l24 : K.lookup f24 = some ⟨oc24, od24, .func (PySem.W.fnOf "smaller_gaps" "smaller_gaps" (defArgs s_smaller_gaps) (defBody s_smaller_gaps) (defScope s_smaller_gaps) .none kV24 dc24 pm24 an24 cd24 ct24), sl24⟩)
    (c24 : PySem.W.codeIn K cd24 "smaller_gaps" = true) (k24 : PySem.W.keepIn K (.ref f24) = true)
    (a25 : PySem.W.nsIn K mainGlobals "gap_at" = some (some (.ref f25)))
    (l25 : K.lookup f25 = some ⟨oc25, od25, .func (PySem.W.fnOf "gap_at" "gap_at" (defArgs s_gap_at) (defBody s_gap_at) (defScope s_gap_at) .none kV25 dc25 pm25 an25 cd25 ct25), sl25⟩)
    (c25 : PySem.W.codeIn K cd25 "gap_at" = true) (k25 : PySem.W.keepIn K (.ref f25) = true)
    (a26 : PySem.W.nsIn K mainGlobals "gaps_at" = some (some (.ref f26)))
    (l26 : K.lookup f26 = some ⟨oc26, od26, .func (PySem.W.fnOf "gaps_at" "gaps_at" (defArgs s_gaps_at) (defBody s_gaps_at) (defScope s_gaps_at) .none kV26 dc26 pm26 an26 cd26 ct26), sl26⟩)
    (c26 : PySem.W.codeIn K cd26 "gaps_at" = true) (k26 : PySem.W.keepIn K (.ref f26) = true)
    (a27 : PySem.W.nsIn K mainGlobals "number_of_gaps" = some (some (.ref f27)))
    (l27 : K.lookup f27 = some ⟨oc27, od27, .func (PySem.W.fnOf "number_of_gaps" "number_of_gaps" (defArgs s_number_of_gaps) (defBody s_number_of_gaps) (defScope s_number_of_gaps) .none kV27 dc27 pm27 an27 cd27 ct27), sl27⟩)
    (c27 : PySem.W.codeIn K cd27 "number_of_gaps" = true) (k27 : PySem.W.keepIn K (.ref f27) = true)
    (a28 : PySem.W.nsIn K mainGlobals "choice_at" = some (some (.ref f28)))
    (l28 : K.lookup f28 = some ⟨oc28, od28, .func (PySem.W.fnOf "choice_at" "choice_at" (defArgs s_choice_at) (defBody s_choice_at) (defScope s_choice_at) .none kV28 dc28 pm28 an28 cd28 ct28), sl28⟩)
    (c28 : PySem.W.codeIn K cd28 "choice_at" = true) (k28 : PySem.W.keepIn K (.ref f28) = true)
    (a29 : PySem.W.nsIn K mainGlobals "ways_before" = some (some (.ref f29)))
    (l29 : K.lookup f29 = some ⟨oc29, od29, .func (PySem.W.fnOf "ways_before" "ways_before" (defArgs s_ways_before) (defBody s_ways_before) (defScope s_ways_before) .none kV29 dc29 pm29 an29 cd29 ct29), sl29⟩)
    (c29 : PySem.W.codeIn K cd29 "ways_before" = true) (k29 : PySem.W.keepIn K (.ref f29) = true)
    (a30 : PySem.W.nsIn K mainGlobals "numbered_order" = some (some (.ref f30)))
    (l30 : K.lookup f30 = some ⟨oc30, od30, .func (PySem.W.fnOf "numbered_order" "numbered_order" (defArgs s_numbered_order) (defBody s_numbered_order) (defScope s_numbered_order) .none kV30 dc30 pm30 an30 cd30 ct30), sl30⟩)
    (c30 : PySem.W.codeIn K cd30 "numbered_order" = true) (k30 : PySem.W.keepIn K (.ref f30) = true)
    (a31 : PySem.W.nsIn K mainGlobals "order_at" = some (some (.ref f31)))
    (l31 : K.lookup f31 = some ⟨oc31, od31, .func (PySem.W.fnOf "order_at" "order_at" (defArgs s_order_at) (defBody s_order_at) (defScope s_order_at) .none kV31 dc31 pm31 an31 cd31 ct31), sl31⟩)
    (c31 : PySem.W.codeIn K cd31 "order_at" = true) (k31 : PySem.W.keepIn K (.ref f31) = true)
    (a32 : PySem.W.nsIn K mainGlobals "number_of" = some (some (.ref f32)))
    (l32 : K.lookup f32 = some ⟨oc32, od32, .func (PySem.W.fnOf "number_of" "number_of" (defArgs s_number_of) (defBody s_number_of) (defScope s_number_of) .none kV32 dc32 pm32 an32 cd32 ct32), sl32⟩)
    (c32 : PySem.W.codeIn K cd32 "number_of" = true) (k32 : PySem.W.keepIn K (.ref f32) = true)
    (a33 : PySem.W.nsIn K mainGlobals "all_orders" = some (some (.ref f33)))
    (l33 : K.lookup f33 = some ⟨oc33, od33, .func (PySem.W.fnOf "all_orders" "all_orders" (defArgs s_all_orders) (defBody s_all_orders) (defScope s_all_orders) .none kV33 dc33 pm33 an33 cd33 ct33), sl33⟩)
    (c33 : PySem.W.codeIn K cd33 "all_orders" = true) (k33 : PySem.W.keepIn K (.ref f33) = true)
    (a34 : PySem.W.nsIn K mainGlobals "after_free_houses" = some (some (.ref f34)))
    (l34 : K.lookup f34 = some ⟨oc34, od34, .func (PySem.W.fnOf "after_free_houses" "after_free_houses" (defArgs s_after_free_houses) (defBody s_after_free_houses) (defScope s_after_free_houses) .none kV34 dc34 pm34 an34 cd34 ct34), sl34⟩)
    (c34 : PySem.W.codeIn K cd34 "after_free_houses" = true) (k34 : PySem.W.keepIn K (.ref f34) = true)
    (a35 : PySem.W.nsIn K mainGlobals "after_noted_house" = some (some (.ref f35)))
    (l35 : K.lookup f35 = some ⟨oc35, od35, .func (PySem.W.fnOf "after_noted_house" "after_noted_house" (defArgs s_after_noted_house) (defBody s_after_noted_house) (defScope s_after_noted_house) .none kV35 dc35 pm35 an35 cd35 ct35), sl35⟩)
    (c35 : PySem.W.codeIn K cd35 "after_noted_house" = true) (k35 : PySem.W.keepIn K (.ref f35) = true)
    (a36 : PySem.W.nsIn K mainGlobals "within_note" = some (some (.ref f36)))
    (l36 : K.lookup f36 = some ⟨oc36, od36, .func (PySem.W.fnOf "within_note" "within_note" (defArgs s_within_note) (defBody s_within_note) (defScope s_within_note) .none kV36 dc36 pm36 an36 cd36 ct36), sl36⟩)
    (c36 : PySem.W.codeIn K cd36 "within_note" = true) (k36 : PySem.W.keepIn K (.ref f36) = true)
    (a37 : PySem.W.nsIn K mainGlobals "evidence" = some (some (.ref f37)))
    (l37 : K.lookup f37 = some ⟨oc37, od37, .func (PySem.W.fnOf "evidence" "evidence" (defArgs s_evidence) (defBody s_evidence) (defScope s_evidence) .none kV37 dc37 pm37 an37 cd37 ct37), sl37⟩)
    (c37 : PySem.W.codeIn K cd37 "evidence" = true) (k37 : PySem.W.keepIn K (.ref f37) = true)
    (a38 : PySem.W.nsIn K mainGlobals "check_possible" = some (some (.ref f38)))
    (l38 : K.lookup f38 = some ⟨oc38, od38, .func (PySem.W.fnOf "check_possible" "check_possible" (defArgs s_check_possible) (defBody s_check_possible) (defScope s_check_possible) .none kV38 dc38 pm38 an38 cd38 ct38), sl38⟩)
    (c38 : PySem.W.codeIn K cd38 "check_possible" = true) (k38 : PySem.W.keepIn K (.ref f38) = true)
    (a39 : PySem.W.nsIn K mainGlobals "orders_by_groups" = some (some (.ref f39)))
    (l39 : K.lookup f39 = some ⟨oc39, od39, .func (PySem.W.fnOf "orders_by_groups" "orders_by_groups" (defArgs s_orders_by_groups) (defBody s_orders_by_groups) (defScope s_orders_by_groups) .none kV39 dc39 pm39 an39 cd39 ct39), sl39⟩)
    (c39 : PySem.W.codeIn K cd39 "orders_by_groups" = true) (k39 : PySem.W.keepIn K (.ref f39) = true)
    (a40 : PySem.W.nsIn K mainGlobals "possible_groups" = some (some (.ref f40)))
    (l40 : K.lookup f40 = some ⟨oc40, od40, .func (PySem.W.fnOf "possible_groups" "possible_groups" (defArgs s_possible_groups) (defBody s_possible_groups) (defScope s_possible_groups) .none kV40 dc40 pm40 an40 cd40 ct40), sl40⟩)
    (c40 : PySem.W.codeIn K cd40 "possible_groups" = true) (k40 : PySem.W.keepIn K (.ref f40) = true)
    (a41 : PySem.W.nsIn K mainGlobals "one_way" = some (some (.ref f41)))
    (l41 : K.lookup f41 = some ⟨oc41, od41, .func (PySem.W.fnOf "one_way" "one_way" (defArgs s_one_way) (defBody s_one_way) (defScope s_one_way) .none kV41 dc41 pm41 an41 cd41 ct41), sl41⟩)
    (c41 : PySem.W.codeIn K cd41 "one_way" = true) (k41 : PySem.W.keepIn K (.ref f41) = true)
    (a42 : PySem.W.nsIn K mainGlobals "count_walks" = some (some (.ref f42)))
    (l42 : K.lookup f42 = some ⟨oc42, od42, .func (PySem.W.fnOf "count_walks" "count_walks" (defArgs s_count_walks) (defBody s_count_walks) (defScope s_count_walks) .none kV42 dc42 pm42 an42 cd42 ct42), sl42⟩)
    (c42 : PySem.W.codeIn K cd42 "count_walks" = true) (k42 : PySem.W.keepIn K (.ref f42) = true)
    (a43 : PySem.W.nsIn K mainGlobals "ways_of_step" = some (some (.ref f43)))
    (l43 : K.lookup f43 = some ⟨oc43, od43, .func (PySem.W.fnOf "ways_of_step" "ways_of_step" (defArgs s_ways_of_step) (defBody s_ways_of_step) (defScope s_ways_of_step) .none kV43 dc43 pm43 an43 cd43 ct43), sl43⟩)
    (c43 : PySem.W.codeIn K cd43 "ways_of_step" = true) (k43 : PySem.W.keepIn K (.ref f43) = true)
    (a44 : PySem.W.nsIn K mainGlobals "orders_with" = some (some (.ref f44)))
    (l44 : K.lookup f44 = some ⟨oc44, od44, .func (PySem.W.fnOf "orders_with" "orders_with" (defArgs s_orders_with) (defBody s_orders_with) (defScope s_orders_with) .none kV44 dc44 pm44 an44 cd44 ct44), sl44⟩)
    (c44 : PySem.W.codeIn K cd44 "orders_with" = true) (k44 : PySem.W.keepIn K (.ref f44) = true)
    (a45 : PySem.W.nsIn K mainGlobals "greatest" = some (some (.ref f45)))
    (l45 : K.lookup f45 = some ⟨oc45, od45, .func (PySem.W.fnOf "greatest" "greatest" (defArgs s_greatest) (defBody s_greatest) (defScope s_greatest) .none kV45 dc45 pm45 an45 cd45 ct45), sl45⟩)
    (c45 : PySem.W.codeIn K cd45 "greatest" = true) (k45 : PySem.W.keepIn K (.ref f45) = true)
    (a46 : PySem.W.nsIn K mainGlobals "likeliest" = some (some (.ref f46)))
    (l46 : K.lookup f46 = some ⟨oc46, od46, .func (PySem.W.fnOf "likeliest" "likeliest" (defArgs s_likeliest) (defBody s_likeliest) (defScope s_likeliest) .none kV46 dc46 pm46 an46 cd46 ct46), sl46⟩)
    (c46 : PySem.W.codeIn K cd46 "likeliest" = true) (k46 : PySem.W.keepIn K (.ref f46) = true)
    (a47 : PySem.W.nsIn K mainGlobals "fraction" = some (some (.ref f47)))
    (l47 : K.lookup f47 = some ⟨oc47, od47, .func (PySem.W.fnOf "fraction" "fraction" (defArgs s_fraction) (defBody s_fraction) (defScope s_fraction) .none kV47 dc47 pm47 an47 cd47 ct47), sl47⟩)
    (c47 : PySem.W.codeIn K cd47 "fraction" = true) (k47 : PySem.W.keepIn K (.ref f47) = true)
    (a48 : PySem.W.nsIn K mainGlobals "check_time" = some (some (.ref f48)))
    (l48 : K.lookup f48 = some ⟨oc48, od48, .func (PySem.W.fnOf "check_time" "check_time" (defArgs s_check_time) (defBody s_check_time) (defScope s_check_time) .none kV48 dc48 pm48 an48 cd48 ct48), sl48⟩)
    (c48 : PySem.W.codeIn K cd48 "check_time" = true) (k48 : PySem.W.keepIn K (.ref f48) = true)
    (a49 : PySem.W.nsIn K mainGlobals "group_chances" = some (some (.ref f49)))
    (l49 : K.lookup f49 = some ⟨oc49, od49, .func (PySem.W.fnOf "group_chances" "group_chances" (defArgs s_group_chances) (defBody s_group_chances) (defScope s_group_chances) .none kV49 dc49 pm49 an49 cd49 ct49), sl49⟩)
    (c49 : PySem.W.codeIn K cd49 "group_chances" = true) (k49 : PySem.W.keepIn K (.ref f49) = true)
    (a50 : PySem.W.nsIn K mainGlobals "mean_groups" = some (some (.ref f50)))
    (l50 : K.lookup f50 = some ⟨oc50, od50, .func (PySem.W.fnOf "mean_groups" "mean_groups" (defArgs s_mean_groups) (defBody s_mean_groups) (defScope s_mean_groups) .none kV50 dc50 pm50 an50 cd50 ct50), sl50⟩)
    (c50 : PySem.W.codeIn K cd50 "mean_groups" = true) (k50 : PySem.W.keepIn K (.ref f50) = true)
    (a51 : PySem.W.nsIn K mainGlobals "house_chances" = some (some (.ref f51)))
    (l51 : K.lookup f51 = some ⟨oc51, od51, .func (PySem.W.fnOf "house_chances" "house_chances" (defArgs s_house_chances) (defBody s_house_chances) (defScope s_house_chances) .none kV51 dc51 pm51 an51 cd51 ct51), sl51⟩)
    (c51 : PySem.W.codeIn K cd51 "house_chances" = true) (k51 : PySem.W.keepIn K (.ref f51) = true)
    (a52 : PySem.W.nsIn K mainGlobals "add_ways" = some (some (.ref f52)))
    (l52 : K.lookup f52 = some ⟨oc52, od52, .func (PySem.W.fnOf "add_ways" "add_ways" (defArgs s_add_ways) (defBody s_add_ways) (defScope s_add_ways) .none kV52 dc52 pm52 an52 cd52 ct52), sl52⟩)
    (c52 : PySem.W.codeIn K cd52 "add_ways" = true) (k52 : PySem.W.keepIn K (.ref f52) = true)
    (a53 : PySem.W.nsIn K mainGlobals "ways_on_side" = some (some (.ref f53)))
    (l53 : K.lookup f53 = some ⟨oc53, od53, .func (PySem.W.fnOf "ways_on_side" "ways_on_side" (defArgs s_ways_on_side) (defBody s_ways_on_side) (defScope s_ways_on_side) .none kV53 dc53 pm53 an53 cd53 ct53), sl53⟩)
    (c53 : PySem.W.codeIn K cd53 "ways_on_side" = true) (k53 : PySem.W.keepIn K (.ref f53) = true)
    (a54 : PySem.W.nsIn K mainGlobals "places_after" = some (some (.ref f54)))
    (l54 : K.lookup f54 = some ⟨oc54, od54, .func (PySem.W.fnOf "places_after" "places_after" (defArgs s_places_after) (defBody s_places_after) (defScope s_places_after) .none kV54 dc54 pm54 an54 cd54 ct54), sl54⟩)
    (c54 : PySem.W.codeIn K cd54 "places_after" = true) (k54 : PySem.W.keepIn K (.ref f54) = true)
    (a55 : PySem.W.nsIn K mainGlobals "places_built_on" = some (some (.ref f55)))
    (l55 : K.lookup f55 = some ⟨oc55, od55, .func (PySem.W.fnOf "places_built_on" "places_built_on" (defArgs s_places_built_on) (defBody s_places_built_on) (defScope s_places_built_on) .none kV55 dc55 pm55 an55 cd55 ct55), sl55⟩)
    (c55 : PySem.W.codeIn K cd55 "places_built_on" = true) (k55 : PySem.W.keepIn K (.ref f55) = true)
    (a56 : PySem.W.nsIn K mainGlobals "places_of_house" = some (some (.ref f56)))
    (l56 : K.lookup f56 = some ⟨oc56, od56, .func (PySem.W.fnOf "places_of_house" "places_of_house" (defArgs s_places_of_house) (defBody s_places_of_house) (defScope s_places_of_house) .none kV56 dc56 pm56 an56 cd56 ct56), sl56⟩)
    (c56 : PySem.W.codeIn K cd56 "places_of_house" = true) (k56 : PySem.W.keepIn K (.ref f56) = true)
    (a57 : PySem.W.nsIn K mainGlobals "plot_chances" = some (some (.ref f57)))
    (l57 : K.lookup f57 = some ⟨oc57, od57, .func (PySem.W.fnOf "plot_chances" "plot_chances" (defArgs s_plot_chances) (defBody s_plot_chances) (defScope s_plot_chances) .none kV57 dc57 pm57 an57 cd57 ct57), sl57⟩)
    (c57 : PySem.W.codeIn K cd57 "plot_chances" = true) (k57 : PySem.W.keepIn K (.ref f57) = true)
    (a58 : PySem.W.nsIn K mainGlobals "marking_ways" = some (some (.ref f58)))
    (l58 : K.lookup f58 = some ⟨oc58, od58, .func (PySem.W.fnOf "marking_ways" "marking_ways" (defArgs s_marking_ways) (defBody s_marking_ways) (defScope s_marking_ways) .none kV58 dc58 pm58 an58 cd58 ct58), sl58⟩)
    (c58 : PySem.W.codeIn K cd58 "marking_ways" = true) (k58 : PySem.W.keepIn K (.ref f58) = true)
    (a59 : PySem.W.nsIn K mainGlobals "ways_beside_marks" = some (some (.ref f59)))
    (l59 : K.lookup f59 = some ⟨oc59, od59, .func (PySem.W.fnOf "ways_beside_marks" "ways_beside_marks" (defArgs s_ways_beside_marks) (defBody s_ways_beside_marks) (defScope s_ways_beside_marks) .none kV59 dc59 pm59 an59 cd59 ct59), sl59⟩)
    (c59 : PySem.W.codeIn K cd59 "ways_beside_marks" = true) (k59 : PySem.W.keepIn K (.ref f59) = true)
    (a60 : PySem.W.nsIn K mainGlobals "apart_orders" = some (some (.ref f60)))
    (l60 : K.lookup f60 = some ⟨oc60, od60, .func (PySem.W.fnOf "apart_orders" "apart_orders" (defArgs s_apart_orders) (defBody s_apart_orders) (defScope s_apart_orders) .none kV60 dc60 pm60 an60 cd60 ct60), sl60⟩)
    (c60 : PySem.W.codeIn K cd60 "apart_orders" = true) (k60 : PySem.W.keepIn K (.ref f60) = true)
    (a61 : PySem.W.nsIn K mainGlobals "together_chance" = some (some (.ref f61)))
    (l61 : K.lookup f61 = some ⟨oc61, od61, .func (PySem.W.fnOf "together_chance" "together_chance" (defArgs s_together_chance) (defBody s_together_chance) (defScope s_together_chance) .none kV61 dc61 pm61 an61 cd61 ct61), sl61⟩)
    (c61 : PySem.W.codeIn K cd61 "together_chance" = true) (k61 : PySem.W.keepIn K (.ref f61) = true)
    (a62 : PySem.W.nsIn K mainGlobals "_law_cell_at" = some (some (.ref f62)))
    (l62 : K.lookup f62 = some ⟨oc62, od62, .func (PySem.W.fnOf "_law_cell_at" "_law_cell_at" (defArgs s_l_cell_at) (defBody s_l_cell_at) (defScope s_l_cell_at) .none kV62 dc62 pm62 an62 cd62 ct62), sl62⟩)
    (c62 : PySem.W.codeIn K cd62 "_law_cell_at" = true) (k62 : PySem.W.keepIn K (.ref f62) = true)
    (a63 : PySem.W.nsIn K mainGlobals "_law_box" = some (some (.ref f63)))
    (l63 : K.lookup f63 = some ⟨oc63, od63, .func (PySem.W.fnOf "_law_box" "_law_box" (defArgs s_l_box) (defBody s_l_box) (defScope s_l_box) .none kV63 dc63 pm63 an63 cd63 ct63), sl63⟩)
    (c63 : PySem.W.codeIn K cd63 "_law_box" = true) (k63 : PySem.W.keepIn K (.ref f63) = true)
    (a64 : PySem.W.nsIn K mainGlobals "_law_take" = some (some (.ref f64)))
    (l64 : K.lookup f64 = some ⟨oc64, od64, .func (PySem.W.fnOf "_law_take" "_law_take" (defArgs s_l_take) (defBody s_l_take) (defScope s_l_take) .none kV64 dc64 pm64 an64 cd64 ct64), sl64⟩)
    (c64 : PySem.W.codeIn K cd64 "_law_take" = true) (k64 : PySem.W.keepIn K (.ref f64) = true)
    (a65 : PySem.W.nsIn K mainGlobals "_law_of" = some (some (.ref f65)))
    (l65 : K.lookup f65 = some ⟨oc65, od65, .func (PySem.W.fnOf "_law_of" "_law_of" (defArgs s_l_of) (defBody s_l_of) (defScope s_l_of) .none kV65 dc65 pm65 an65 cd65 ct65), sl65⟩)
    (c65 : PySem.W.codeIn K cd65 "_law_of" = true) (k65 : PySem.W.keepIn K (.ref f65) = true)
    (a66 : PySem.W.nsIn K mainGlobals "_law_same" = some (some (.ref f66)))
    (l66 : K.lookup f66 = some ⟨oc66, od66, .func (PySem.W.fnOf "_law_same" "_law_same" (defArgs s_l_same) (defBody s_l_same) (defScope s_l_same) .none kV66 dc66 pm66 an66 cd66 ct66), sl66⟩)
    (c66 : PySem.W.codeIn K cd66 "_law_same" = true) (k66 : PySem.W.keepIn K (.ref f66) = true)
    (a67 : PySem.W.nsIn K mainGlobals "_law_runs" = some (some (.ref f67)))
    (l67 : K.lookup f67 = some ⟨oc67, od67, .func (PySem.W.fnOf "_law_runs" "_law_runs" (defArgs s_l_runs) (defBody s_l_runs) (defScope s_l_runs) .none kV67 dc67 pm67 an67 cd67 ct67), sl67⟩)
    (c67 : PySem.W.codeIn K cd67 "_law_runs" = true) (k67 : PySem.W.keepIn K (.ref f67) = true)
    (a68 : PySem.W.nsIn K mainGlobals "_law_seen" = some (some (.ref f68)))
    (l68 : K.lookup f68 = some ⟨oc68, od68, .func (PySem.W.fnOf "_law_seen" "_law_seen" (defArgs s_l_seen) (defBody s_l_seen) (defScope s_l_seen) .none kV68 dc68 pm68 an68 cd68 ct68), sl68⟩)
    (c68 : PySem.W.codeIn K cd68 "_law_seen" = true) (k68 : PySem.W.keepIn K (.ref f68) = true)
    (a69 : PySem.W.nsIn K mainGlobals "_law_queue" = some (some (.ref f69)))
    (l69 : K.lookup f69 = some ⟨oc69, od69, .func (PySem.W.fnOf "_law_queue" "_law_queue" (defArgs s_l_queue) (defBody s_l_queue) (defScope s_l_queue) .none kV69 dc69 pm69 an69 cd69 ct69), sl69⟩)
    (c69 : PySem.W.codeIn K cd69 "_law_queue" = true) (k69 : PySem.W.keepIn K (.ref f69) = true)
    (a70 : PySem.W.nsIn K mainGlobals "_law_notes" = some (some (.ref f70)))
    (l70 : K.lookup f70 = some ⟨oc70, od70, .func (PySem.W.fnOf "_law_notes" "_law_notes" (defArgs s_l_notes) (defBody s_l_notes) (defScope s_l_notes) .none kV70 dc70 pm70 an70 cd70 ct70), sl70⟩)
    (c70 : PySem.W.codeIn K cd70 "_law_notes" = true) (k70 : PySem.W.keepIn K (.ref f70) = true)
    (a71 : PySem.W.nsIn K mainGlobals "_law_lists" = some (some (.ref f71)))
    (l71 : K.lookup f71 = some ⟨oc71, od71, .func (PySem.W.fnOf "_law_lists" "_law_lists" (defArgs s_l_lists) (defBody s_l_lists) (defScope s_l_lists) .none kV71 dc71 pm71 an71 cd71 ct71), sl71⟩)
    (c71 : PySem.W.codeIn K cd71 "_law_lists" = true) (k71 : PySem.W.keepIn K (.ref f71) = true)
    (a72 : PySem.W.nsIn K mainGlobals "_law_false" = some (some (.ref f72)))
    (l72 : K.lookup f72 = some ⟨oc72, od72, .func (PySem.W.fnOf "_law_false" "_law_false" (defArgs s_l_false) (defBody s_l_false) (defScope s_l_false) .none kV72 dc72 pm72 an72 cd72 ct72), sl72⟩)
    (c72 : PySem.W.codeIn K cd72 "_law_false" = true) (k72 : PySem.W.keepIn K (.ref f72) = true)
    (a73 : PySem.W.nsIn K mainGlobals "_law_told" = some (some (.ref f73)))
    (l73 : K.lookup f73 = some ⟨oc73, od73, .func (PySem.W.fnOf "_law_told" "_law_told" (defArgs s_l_told) (defBody s_l_told) (defScope s_l_told) .none kV73 dc73 pm73 an73 cd73 ct73), sl73⟩)
    (c73 : PySem.W.codeIn K cd73 "_law_told" = true) (k73 : PySem.W.keepIn K (.ref f73) = true)
    (a74 : PySem.W.nsIn K mainGlobals "_law_hard_right" = some (some (.ref f74)))
    (l74 : K.lookup f74 = some ⟨oc74, od74, .func (PySem.W.fnOf "_law_hard_right" "_law_hard_right" (defArgs s_l_hard_right) (defBody s_l_hard_right) (defScope s_l_hard_right) .none kV74 dc74 pm74 an74 cd74 ct74), sl74⟩)
    (c74 : PySem.W.codeIn K cd74 "_law_hard_right" = true) (k74 : PySem.W.keepIn K (.ref f74) = true)
    (a75 : PySem.W.nsIn K mainGlobals "_law_right" = some (some (.ref f75)))
    (l75 : K.lookup f75 = some ⟨oc75, od75, .func (PySem.W.fnOf "_law_right" "_law_right" (defArgs s_l_right) (defBody s_l_right) (defScope s_l_right) .none kV75 dc75 pm75 an75 cd75 ct75), sl75⟩)
    (c75 : PySem.W.codeIn K cd75 "_law_right" = true) (k75 : PySem.W.keepIn K (.ref f75) = true)
    (a76 : PySem.W.nsIn K mainGlobals "law" = some (some (.ref f76)))
    (l76 : K.lookup f76 = some ⟨oc76, od76, .func (PySem.W.fnOf "law" "law" (defArgs s_law) (defBody s_law) (defScope s_law) .none kV76 dc76 pm76 an76 cd76 ct76), sl76⟩)
    (c76 : PySem.W.codeIn K cd76 "law" = true) (k76 : PySem.W.keepIn K (.ref f76) = true)
    {aD0 : Addr} {dd0 : Option Addr} {nn0 : Nat} {ss0 : Array (Option Value)} {t0_0 t0_1 t0_2 : Tok} (e0 : PySem.W.nsIn K mainGlobals "WORDS" = some (some (.ref aD0))) (lk0 : K.lookup aD0 = some ⟨.type "tuple", dd0, .seq #[.str "new" t0_0, .str "beside" t0_1, .str "between" t0_2] nn0, ss0⟩)
    {aD1 : Addr} (e1 : PySem.W.nsIn K mainGlobals "STEPS" = some (some (.ref aD1)))
    (q1_0 : KDct K w aD1 "new" (.int (1)))
    (q1_1 : KDct K w aD1 "beside" (.int (0)))
    (q1_2 : KDct K w aD1 "between" (.int (-1)))
    {tk2 : Tok} (e2 : PySem.W.nsIn K mainGlobals "MOST" = some (some (.int 300 tk2)))
    {aD3 : Addr} {dd3 : Option Addr} {nn3 : Nat} {ss3 : Array (Option Value)} {t3_0 t3_1 t3_2 : Tok} (e3 : PySem.W.nsIn K mainGlobals "ASCENDING_WORDS" = some (some (.ref aD3))) (lk3 : K.lookup aD3 = some ⟨.type "tuple", dd3, .seq #[.str "beside" t3_0, .str "between" t3_1, .str "new" t3_2] nn3, ss3⟩)
    {aD4 : Addr} (e4 : PySem.W.nsIn K mainGlobals "LEAST_FOUND" = some (some (.ref aD4)))
    (q4_0 : KDct K w aD4 "new" (.int (0)))
    (q4_1 : KDct K w aD4 "beside" (.int (1)))
    (q4_2 : KDct K w aD4 "between" (.int (2)))
    {aD5 : Addr} (e5 : PySem.W.nsIn K mainGlobals "TOUCHED" = some (some (.ref aD5)))
    {x5_0_0 : Addr} {dd5_0_0 : Option Addr} {nn5_0_0 : Nat} {ss5_0_0 : Array (Option Value)} {tk5_0_0_0 tk5_0_0_1 : Tok}
    {x5_0 : Addr} {dd5_0 : Option Addr} {nn5_0 : Nat} {ss5_0 : Array (Option Value)}
    (q5_0 : KDct K w aD5 "new" (.ref x5_0))
    (m5_0 : K.lookup x5_0 = some ⟨.type "tuple", dd5_0, .seq #[.ref x5_0_0] nn5_0, ss5_0⟩)
    (m5_0_0 : K.lookup x5_0_0 = some ⟨.type "tuple", dd5_0_0, .seq #[.int (0) tk5_0_0_0, .int (0) tk5_0_0_1] nn5_0_0, ss5_0_0⟩)
    {x5_1_0 : Addr} {dd5_1_0 : Option Addr} {nn5_1_0 : Nat} {ss5_1_0 : Array (Option Value)} {tk5_1_0_0 tk5_1_0_1 : Tok}
    {x5_1_1 : Addr} {dd5_1_1 : Option Addr} {nn5_1_1 : Nat} {ss5_1_1 : Array (Option Value)} {tk5_1_1_0 tk5_1_1_1 : Tok}
    {x5_1 : Addr} {dd5_1 : Option Addr} {nn5_1 : Nat} {ss5_1 : Array (Option Value)}
    (q5_1 : KDct K w aD5 "beside" (.ref x5_1))
    (m5_1 : K.lookup x5_1 = some ⟨.type "tuple", dd5_1, .seq #[.ref x5_1_0, .ref x5_1_1] nn5_1, ss5_1⟩)
    (m5_1_0 : K.lookup x5_1_0 = some ⟨.type "tuple", dd5_1_0, .seq #[.int (1) tk5_1_0_0, .int (0) tk5_1_0_1] nn5_1_0, ss5_1_0⟩)
    (m5_1_1 : K.lookup x5_1_1 = some ⟨.type "tuple", dd5_1_1, .seq #[.int (0) tk5_1_1_0, .int (1) tk5_1_1_1] nn5_1_1, ss5_1_1⟩)
    {x5_2_0 : Addr} {dd5_2_0 : Option Addr} {nn5_2_0 : Nat} {ss5_2_0 : Array (Option Value)} {tk5_2_0_0 tk5_2_0_1 : Tok}
    {x5_2 : Addr} {dd5_2 : Option Addr} {nn5_2 : Nat} {ss5_2 : Array (Option Value)}
    (q5_2 : KDct K w aD5 "between" (.ref x5_2))
    (m5_2 : K.lookup x5_2 = some ⟨.type "tuple", dd5_2, .seq #[.ref x5_2_0] nn5_2, ss5_2⟩)
    (m5_2_0 : K.lookup x5_2_0 = some ⟨.type "tuple", dd5_2_0, .seq #[.int (1) tk5_2_0_0, .int (1) tk5_2_0_1] nn5_2_0, ss5_2_0⟩)
    (z_abs : PySem.W.nsIn K mainGlobals "abs" = some none)
    (z_all : PySem.W.nsIn K mainGlobals "all" = some none)
    (z_bool : PySem.W.nsIn K mainGlobals "bool" = some none)
    (z_enumerate : PySem.W.nsIn K mainGlobals "enumerate" = some none)
    (z_int : PySem.W.nsIn K mainGlobals "int" = some none)
    (z_isinstance : PySem.W.nsIn K mainGlobals "isinstance" = some none)
    (z_len : PySem.W.nsIn K mainGlobals "len" = some none)
    (z_list : PySem.W.nsIn K mainGlobals "list" = some none)
    (z_max : PySem.W.nsIn K mainGlobals "max" = some none)
    (z_min : PySem.W.nsIn K mainGlobals "min" = some none)
    (z_range : PySem.W.nsIn K mainGlobals "range" = some none)
    (z_reversed : PySem.W.nsIn K mainGlobals "reversed" = some none)
    (z_set : PySem.W.nsIn K mainGlobals "set" = some none)
    (z_sorted : PySem.W.nsIn K mainGlobals "sorted" = some none)
    (z_str : PySem.W.nsIn K mainGlobals "str" = some none)
    (z_sum : PySem.W.nsIn K mainGlobals "sum" = some none)
    (z_tuple : PySem.W.nsIn K mainGlobals "tuple" = some none)
    (z_zip : PySem.W.nsIn K mainGlobals "zip" = some none)
    (spc : PySem.W.specialIn K (.builtin "object.__class__") "__get__" = some (some (.builtin "getset_descriptor.__get__"))) (tks : PySem.W.takesIn K (.builtin "object.__class__") = some true)
    {C0 fI0 : Addr} {odI0 anI0 : Option Addr} {slI0 : Array (Option Value)} {ocI0 kVI0 dcI0 pmI0 cdI0 ctI0 : Value}
    (vcn0 : PySem.W.nsIn K mainGlobals "Impossible" = some (some (.ref C0)))
    (vxi0 : PySem.W.excInitIn K C0 bVE "ValueError.__new__" = true)
    (vxo0 : PySem.W.excOver K C0 bVE = true)
    (vxd0 : PySem.W.hasDictIn K C0 = true)
    (vxs0 : PySem.W.findIn K (.ref C0) "__setattr__" = some (some (.builtin "object.__setattr__")))
    (vxg0 : PySem.W.findIn K (.ref C0) "__getattribute__" = some (some (.builtin "BaseException.__getattribute__")))
    (vxh0 : PySem.W.findIn K (.ref C0) "__getattr__" = some none)
    (vxb0 : PySem.W.subIn K (.ref C0) (.type "BaseException") = some true)
    (vxc0 : PySem.W.findIn K (.ref C0) "__class__" = some (some (.builtin "object.__class__")))
    (vxk0 : PySem.W.keepIn K (.ref C0) = true)
    (vxn0 : (PySem.W.clsIn K C0).isSome = true)
    (vxm0 : PySem.W.mroIn K C0 (.type "object") = some true)
    (vxf0 : PySem.W.findIn K (.ref C0) "evidence" = some none)
    (vxt0 : PySem.W.typeIn K (.ref C0) = some (.type "type"))
    (vin0 : PySem.W.findIn K (.ref C0) "__init__" = some (some (.ref fI0)))
    (vty0 : PySem.W.typeIn K (.ref fI0) = some (.type "function"))
    (vlI0 : K.lookup fI0 = some ⟨ocI0, odI0, .func (PySem.W.fnOf "__init__" "Impossible.__init__" (defArgs (iniS 3)) (defBody (iniS 3)) (defScope (iniS 3)) .none kVI0 dcI0 pmI0 anI0 cdI0 ctI0), slI0⟩)
    (vcI0 : PySem.W.codeIn K cdI0 "Impossible.__init__" = true)
    (vkI0 : PySem.W.keepIn K (.ref fI0) = true)
    {C1 fI1 : Addr} {odI1 anI1 : Option Addr} {slI1 : Array (Option Value)} {ocI1 kVI1 dcI1 pmI1 cdI1 ctI1 : Value}
    (vcn1 : PySem.W.nsIn K mainGlobals "Misfit" = some (some (.ref C1)))
    (vxi1 : PySem.W.excInitIn K C1 bVE "ValueError.__new__" = true)
    (vxo1 : PySem.W.excOver K C1 bVE = true)
    (vxd1 : PySem.W.hasDictIn K C1 = true)
    (vxs1 : PySem.W.findIn K (.ref C1) "__setattr__" = some (some (.builtin "object.__setattr__")))
    (vxg1 : PySem.W.findIn K (.ref C1) "__getattribute__" = some (some (.builtin "BaseException.__getattribute__")))
    (vxh1 : PySem.W.findIn K (.ref C1) "__getattr__" = some none)
    (vxb1 : PySem.W.subIn K (.ref C1) (.type "BaseException") = some true)
    (vxc1 : PySem.W.findIn K (.ref C1) "__class__" = some (some (.builtin "object.__class__")))
    (vxk1 : PySem.W.keepIn K (.ref C1) = true)
    (vxn1 : (PySem.W.clsIn K C1).isSome = true)
    (vxm1 : PySem.W.mroIn K C1 (.type "object") = some true)
    (vxf1 : PySem.W.findIn K (.ref C1) "time" = some none)
    (vxt1 : PySem.W.typeIn K (.ref C1) = some (.type "type"))
    (vin1 : PySem.W.findIn K (.ref C1) "__init__" = some (some (.ref fI1)))
    (vty1 : PySem.W.typeIn K (.ref fI1) = some (.type "function"))
    (vlI1 : K.lookup fI1 = some ⟨ocI1, odI1, .func (PySem.W.fnOf "__init__" "Misfit.__init__" (defArgs (iniS 4)) (defBody (iniS 4)) (defScope (iniS 4)) .none kVI1 dcI1 pmI1 anI1 cdI1 ctI1), slI1⟩)
    (vcI1 : PySem.W.codeIn K cdI1 "Misfit.__init__" = true)
    (vkI1 : PySem.W.keepIn K (.ref fI1) = true)
    {C2 fI2 : Addr} {odI2 anI2 : Option Addr} {slI2 : Array (Option Value)} {ocI2 kVI2 dcI2 pmI2 cdI2 ctI2 : Value}
    (vcn2 : PySem.W.nsIn K mainGlobals "NoTime" = some (some (.ref C2)))
    (vxi2 : PySem.W.excInitIn K C2 bLE "LookupError.__new__" = true)
    (vxo2 : PySem.W.excOver K C2 bLE = true)
    (vxd2 : PySem.W.hasDictIn K C2 = true)
    (vxs2 : PySem.W.findIn K (.ref C2) "__setattr__" = some (some (.builtin "object.__setattr__")))
    (vxg2 : PySem.W.findIn K (.ref C2) "__getattribute__" = some (some (.builtin "BaseException.__getattribute__")))
    (vxh2 : PySem.W.findIn K (.ref C2) "__getattr__" = some none)
    (vxb2 : PySem.W.subIn K (.ref C2) (.type "BaseException") = some true)
    (vxc2 : PySem.W.findIn K (.ref C2) "__class__" = some (some (.builtin "object.__class__")))
    (vxk2 : PySem.W.keepIn K (.ref C2) = true)
    (vxn2 : (PySem.W.clsIn K C2).isSome = true)
    (vxm2 : PySem.W.mroIn K C2 (.type "object") = some true)
    (vxf2 : PySem.W.findIn K (.ref C2) "time" = some none)
    (vxt2 : PySem.W.typeIn K (.ref C2) = some (.type "type"))
    (vin2 : PySem.W.findIn K (.ref C2) "__init__" = some (some (.ref fI2)))
    (vty2 : PySem.W.typeIn K (.ref fI2) = some (.type "function"))
    (vlI2 : K.lookup fI2 = some ⟨ocI2, odI2, .func (PySem.W.fnOf "__init__" "NoTime.__init__" (defArgs (iniS 5)) (defBody (iniS 5)) (defScope (iniS 5)) .none kVI2 dcI2 pmI2 anI2 cdI2 ctI2), slI2⟩)
    (vcI2 : PySem.W.codeIn K cdI2 "NoTime.__init__" = true)
    (vkI2 : PySem.W.keepIn K (.ref fI2) = true)
    {C3 fI3 : Addr} {odI3 anI3 : Option Addr} {slI3 : Array (Option Value)} {ocI3 kVI3 dcI3 pmI3 cdI3 ctI3 : Value}
    (vcn3 : PySem.W.nsIn K mainGlobals "NoChoice" = some (some (.ref C3)))
    (vxi3 : PySem.W.excInitIn K C3 bLE "LookupError.__new__" = true)
    (vxo3 : PySem.W.excOver K C3 bLE = true)
    (vxd3 : PySem.W.hasDictIn K C3 = true)
    (vxs3 : PySem.W.findIn K (.ref C3) "__setattr__" = some (some (.builtin "object.__setattr__")))
    (vxg3 : PySem.W.findIn K (.ref C3) "__getattribute__" = some (some (.builtin "BaseException.__getattribute__")))
    (vxh3 : PySem.W.findIn K (.ref C3) "__getattr__" = some none)
    (vxb3 : PySem.W.subIn K (.ref C3) (.type "BaseException") = some true)
    (vxc3 : PySem.W.findIn K (.ref C3) "__class__" = some (some (.builtin "object.__class__")))
    (vxk3 : PySem.W.keepIn K (.ref C3) = true)
    (vxn3 : (PySem.W.clsIn K C3).isSome = true)
    (vxm3 : PySem.W.mroIn K C3 (.type "object") = some true)
    (vxf3 : PySem.W.findIn K (.ref C3) "number" = some none)
    (vxt3 : PySem.W.typeIn K (.ref C3) = some (.type "type"))
    (vin3 : PySem.W.findIn K (.ref C3) "__init__" = some (some (.ref fI3)))
    (vty3 : PySem.W.typeIn K (.ref fI3) = some (.type "function"))
    (vlI3 : K.lookup fI3 = some ⟨ocI3, odI3, .func (PySem.W.fnOf "__init__" "NoChoice.__init__" (defArgs (iniS 6)) (defBody (iniS 6)) (defScope (iniS 6)) .none kVI3 dcI3 pmI3 anI3 cdI3 ctI3), slI3⟩)
    (vcI3 : PySem.W.codeIn K cdI3 "NoChoice.__init__" = true)
    (vkI3 : PySem.W.keepIn K (.ref fI3) = true)
    {C4 fI4 : Addr} {odI4 anI4 : Option Addr} {slI4 : Array (Option Value)} {ocI4 kVI4 dcI4 pmI4 cdI4 ctI4 : Value}
    (vcn4 : PySem.W.nsIn K mainGlobals "NoNumber" = some (some (.ref C4)))
    (vxi4 : PySem.W.excInitIn K C4 bLE "LookupError.__new__" = true)
    (vxo4 : PySem.W.excOver K C4 bLE = true)
    (vxd4 : PySem.W.hasDictIn K C4 = true)
    (vxs4 : PySem.W.findIn K (.ref C4) "__setattr__" = some (some (.builtin "object.__setattr__")))
    (vxg4 : PySem.W.findIn K (.ref C4) "__getattribute__" = some (some (.builtin "BaseException.__getattribute__")))
    (vxh4 : PySem.W.findIn K (.ref C4) "__getattr__" = some none)
    (vxb4 : PySem.W.subIn K (.ref C4) (.type "BaseException") = some true)
    (vxc4 : PySem.W.findIn K (.ref C4) "__class__" = some (some (.builtin "object.__class__")))
    (vxk4 : PySem.W.keepIn K (.ref C4) = true)
    (vxn4 : (PySem.W.clsIn K C4).isSome = true)
    (vxm4 : PySem.W.mroIn K C4 (.type "object") = some true)
    (vxf4 : PySem.W.findIn K (.ref C4) "number" = some none)
    (vxt4 : PySem.W.typeIn K (.ref C4) = some (.type "type"))
    (vin4 : PySem.W.findIn K (.ref C4) "__init__" = some (some (.ref fI4)))
    (vty4 : PySem.W.typeIn K (.ref fI4) = some (.type "function"))
    (vlI4 : K.lookup fI4 = some ⟨ocI4, odI4, .func (PySem.W.fnOf "__init__" "NoNumber.__init__" (defArgs (iniS 7)) (defBody (iniS 7)) (defScope (iniS 7)) .none kVI4 dcI4 pmI4 anI4 cdI4 ctI4), slI4⟩)
    (vcI4 : PySem.W.codeIn K cdI4 "NoNumber.__init__" = true)
    (vkI4 : PySem.W.keepIn K (.ref fI4) = true)
    {C5 fI5 : Addr} {odI5 anI5 : Option Addr} {slI5 : Array (Option Value)} {ocI5 kVI5 dcI5 pmI5 cdI5 ctI5 : Value}
    (vcn5 : PySem.W.nsIn K mainGlobals "TooMany" = some (some (.ref C5)))
    (vxi5 : PySem.W.excInitIn K C5 bOE "OverflowError.__new__" = true)
    (vxo5 : PySem.W.excOver K C5 bOE = true)
    (vxd5 : PySem.W.hasDictIn K C5 = true)
    (vxs5 : PySem.W.findIn K (.ref C5) "__setattr__" = some (some (.builtin "object.__setattr__")))
    (vxg5 : PySem.W.findIn K (.ref C5) "__getattribute__" = some (some (.builtin "BaseException.__getattribute__")))
    (vxh5 : PySem.W.findIn K (.ref C5) "__getattr__" = some none)
    (vxb5 : PySem.W.subIn K (.ref C5) (.type "BaseException") = some true)
    (vxc5 : PySem.W.findIn K (.ref C5) "__class__" = some (some (.builtin "object.__class__")))
    (vxk5 : PySem.W.keepIn K (.ref C5) = true)
    (vxn5 : (PySem.W.clsIn K C5).isSome = true)
    (vxm5 : PySem.W.mroIn K C5 (.type "object") = some true)
    (vxf5 : PySem.W.findIn K (.ref C5) "many" = some none)
    (vxt5 : PySem.W.typeIn K (.ref C5) = some (.type "type"))
    (vin5 : PySem.W.findIn K (.ref C5) "__init__" = some (some (.ref fI5)))
    (vty5 : PySem.W.typeIn K (.ref fI5) = some (.type "function"))
    (vlI5 : K.lookup fI5 = some ⟨ocI5, odI5, .func (PySem.W.fnOf "__init__" "TooMany.__init__" (defArgs (iniS 8)) (defBody (iniS 8)) (defScope (iniS 8)) .none kVI5 dcI5 pmI5 anI5 cdI5 ctI5), slI5⟩)
    (vcI5 : PySem.W.codeIn K cdI5 "TooMany.__init__" = true)
    (vkI5 : PySem.W.keepIn K (.ref fI5) = true)
    (vkit : ((List.range 6).all fun i => (List.range 6).all fun j => PySem.W.kitOne K (.ref ((fun j => [C0, C1, C2, C3, C4, C5].getD j 0 : Nat → Addr) i)) (.ref ((fun j => [C0, C1, C2, C3, C4, C5].getD j 0 : Nat → Addr) j)) == some (decide (i = j))) = true)
    (vk_ValueError : ((List.range 6).all fun i => PySem.W.kitOne K (.ref ((fun j => [C0, C1, C2, C3, C4, C5].getD j 0 : Nat → Addr) i)) (.type "ValueError") == some (decide (i ∈ [0, 1]))) = true)
    (y_ValueError : PySem.W.nsIn K mainGlobals "ValueError" = some none)
    (vk_LookupError : ((List.range 6).all fun i => PySem.W.kitOne K (.ref ((fun j => [C0, C1, C2, C3, C4, C5].getD j 0 : Nat → Addr) i)) (.type "LookupError") == some (decide (i ∈ [2, 3, 4]))) = true)
    (y_LookupError : PySem.W.nsIn K mainGlobals "LookupError" = some none)
    (vexm : ((List.range 6).all fun i => PySem.W.exmAny K (.ref ((fun j => [C0, C1, C2, C3, C4, C5].getD j 0 : Nat → Addr) i)) [.ref ((fun j => [C0, C1, C2, C3, C4, C5].getD j 0 : Nat → Addr) 0), .ref ((fun j => [C0, C1, C2, C3, C4, C5].getD j 0 : Nat → Addr) 1), .ref ((fun j => [C0, C1, C2, C3, C4, C5].getD j 0 : Nat → Addr) 3), .ref ((fun j => [C0, C1, C2, C3, C4, C5].getD j 0 : Nat → Addr) 4), .ref ((fun j => [C0, C1, C2, C3, C4, C5].getD j 0 : Nat → Addr) 2)] == some (decide (i ∈ [0, 1, 3, 4, 2]))) = true)
    {ct Pt : Addr} (hcd : cd60 = .ref ct) :
    ∃ fd : FuncData, (∀ (s : Shared) (v : Value), BindsTo s fd ⟨[v], []⟩ [("_law_script", v)]) ∧ ∀ base : Heap, K.In base → base.Ns mainGlobals mg → LamX.TabB base mg ct Pt → FnG l.prog w K mg base 11 fa fd ["_law_script"] (Dw.spLawT K Pt) := by
  have e := hfa.symm.trans (PySem.W.mg_of X G a76)
  cases e
  have F0 := fun_mk (st := s_tuple_for_list) l0 c0 k0
  have b0 := F0.binds (ps := ["value"]) fun _ _ _ _ _ _ us hl => match us, hl with | [_], _ => rfl
  have F1 := fun_mk (st := s_neighbours) l1 c1 k1
  have b1 := F1.binds (ps := ["row"]) fun _ _ _ _ _ _ us hl => match us, hl with | [_], _ => rfl
  have F2 := fun_mk (st := s_groups) l2 c2 k2
  have b2 := F2.binds (ps := ["row"]) fun _ _ _ _ _ _ us hl => match us, hl with | [_], _ => rfl
  have F3 := fun_mk (st := s_houses) l3 c3 k3
  have b3 := F3.binds (ps := ["row"]) fun _ _ _ _ _ _ us hl => match us, hl with | [_], _ => rfl
  have F4 := fun_mk (st := s_many_choices) l4 c4 k4
  have b4 := F4.binds (ps := ["word", "many"]) fun _ _ _ _ _ _ us hl => match us, hl with | [_, _], _ => rfl
  have F5 := fun_mk (st := s_groups_left_of) l5 c5 k5
  have b5 := F5.binds (ps := ["built", "plot"]) fun _ _ _ _ _ _ us hl => match us, hl with | [_, _], _ => rfl
  have F6 := fun_mk (st := s_number_of_choice) l6 c6 k6
  have b6 := F6.binds (ps := ["built", "plot", "word"]) fun _ _ _ _ _ _ us hl => match us, hl with | [_, _, _], _ => rfl
  have F7 := fun_mk (st := s_choices_of) l7 c7 k7
  have b7 := F7.binds (ps := ["row"]) fun _ _ _ _ _ _ us hl => match us, hl with | [_], _ => rfl
  have F8 := fun_mk (st := s_gaps_of) l8 c8 k8
  have b8 := F8.binds (ps := ["plots", "row"]) fun _ _ _ _ _ _ us hl => match us, hl with | [_, _], _ => rfl
  have F9 := fun_mk (st := s_times_in_groups) l9 c9 k9
  have b9 := F9.binds (ps := ["choices"]) fun _ _ _ _ _ _ us hl => match us, hl with | [_], _ => rfl
  have F10 := fun_mk (st := s_row_of) l10 c10 k10
  have b10 := F10.binds (ps := ["choices", "gaps"]) fun _ _ _ _ _ _ us hl => match us, hl with | [_, _], _ => rfl
  have F11 := fun_mk (st := s_true_value) l11 c11 k11
  have b11 := F11.binds (ps := ["row", "time", "sort"]) fun _ _ _ _ _ _ us hl => match us, hl with | [_, _, _], _ => rfl
  have F12 := fun_mk (st := s_untrue_times) l12 c12 k12
  have b12 := F12.binds (ps := ["notes", "row"]) fun _ _ _ _ _ _ us hl => match us, hl with | [_, _], _ => rfl
  have F13 := fun_mk (st := s_ways_to_choose) l13 c13 k13
  have b13 := F13.binds (ps := ["many", "things"]) fun _ _ _ _ _ _ us hl => match us, hl with | [_, _], _ => rfl
  have F14 := fun_mk (st := s_noted_values) l14 c14 k14
  have b14 := F14.binds (ps := ["notes"]) fun _ _ _ _ _ _ us hl => match us, hl with | [_], _ => rfl
  have F15 := fun_mk (st := s_is_word_then) l15 c15 k15
  have b15 := F15.binds (ps := ["noted", "time", "many", "word"]) fun _ _ _ _ _ _ us hl => match us, hl with | [_, _, _, _], _ => rfl
  have F16 := fun_mk (st := s_words_then) l16 c16 k16
  have b16 := F16.binds (ps := ["noted", "time", "many"]) fun _ _ _ _ _ _ us hl => match us, hl with | [_, _, _], _ => rfl
  have F17 := fun_mk (st := s_blocks_then) l17 c17 k17
  have b17 := F17.binds (ps := ["noted", "ways", "time", "many"]) fun _ _ _ _ _ _ us hl => match us, hl with | [_, _, _, _], _ => rfl
  have F18 := fun_mk (st := s_folded_ways) l18 c18 k18
  have b18 := F18.binds (ps := ["journal", "fold"]) fun _ _ _ _ _ _ us hl => match us, hl with | [_, _], _ => rfl
  have F19 := fun_mk (st := s_in_all) l19 c19 k19
  have b19 := F19.binds (ps := ["parts"]) fun _ _ _ _ _ _ us hl => match us, hl with | [_], _ => rfl
  have F20 := fun_mk (st := s_all_ways) l20 c20 k20
  have b20 := F20.binds (ps := ["journal"]) fun _ _ _ _ _ _ us hl => match us, hl with | [_], _ => rfl
  have F21 := fun_mk (st := s_counts_after) l21 c21 k21
  have b21 := F21.binds (ps := ["noted", "counts", "time", "ways_with"]) fun _ _ _ _ _ _ us hl => match us, hl with | [_, _, _, _], _ => rfl
  have F22 := fun_mk (st := s_all_starts) l22 c22 k22
  have b22 := F22.binds (ps := ["journal"]) fun _ _ _ _ _ _ us hl => match us, hl with | [_], _ => rfl
  have F23 := fun_mk (st := s_count_orders) l23 c23 k23
  have b23 := F23.binds (ps := ["journal"]) fun _ _ _ _ _ _ us hl => match us, hl with | [_], _ => rfl
  have F24 := fun_mk (st := s_smaller_gaps) l24 c24 k24
  have b24 := F24.binds (ps := ["least", "empty", "many", "gap"]) fun _ _ _ _ _ _ us hl => match us, hl with | [_, _, _, _], _ => rfl
  have F25 := fun_mk (st := s_gap_at) l25 c25 k25
  have b25 := F25.binds (ps := ["least", "empty", "many", "number"]) fun _ _ _ _ _ _ us hl => match us, hl with | [_, _, _, _], _ => rfl
  have F26 := fun_mk (st := s_gaps_at) l26 c26 k26
  have b26 := F26.binds (ps := ["empty", "many", "number"]) fun _ _ _ _ _ _ us hl => match us, hl with | [_, _, _], _ => rfl
  have F27 := fun_mk (st := s_number_of_gaps) l27 c27 k27
  have b27 := F27.binds (ps := ["gaps"]) fun _ _ _ _ _ _ us hl => match us, hl with | [_], _ => rfl
  have F28 := fun_mk (st := s_choice_at) l28 c28 k28
  have b28 := F28.binds (ps := ["blocks", "number"]) fun _ _ _ _ _ _ us hl => match us, hl with | [_, _], _ => rfl
  have F29 := fun_mk (st := s_ways_before) l29 c29 k29
  have b29 := F29.binds (ps := ["blocks", "choice"]) fun _ _ _ _ _ _ us hl => match us, hl with | [_, _], _ => rfl
  have F30 := fun_mk (st := s_numbered_order) l30 c30 k30
  have b30 := F30.binds (ps := ["journal", "ways", "number"]) fun _ _ _ _ _ _ us hl => match us, hl with | [_, _, _], _ => rfl
  have F31 := fun_mk (st := s_order_at) l31 c31 k31
  have b31 := F31.binds (ps := ["journal", "number"]) fun _ _ _ _ _ _ us hl => match us, hl with | [_, _], _ => rfl
  have F32 := fun_mk (st := s_number_of) l32 c32 k32
  have b32 := F32.binds (ps := ["journal", "order"]) fun _ _ _ _ _ _ us hl => match us, hl with | [_, _], _ => rfl
  have F33 := fun_mk (st := s_all_orders) l33 c33 k33
  have b33 := F33.binds (ps := ["journal"]) fun _ _ _ _ _ _ us hl => match us, hl with | [_], _ => rfl
  have F34 := fun_mk (st := s_after_free_houses) l34 c34 k34
  have b34 := F34.binds (ps := ["low", "high", "many"]) fun _ _ _ _ _ _ us hl => match us, hl with | [_, _, _], _ => rfl
  have F35 := fun_mk (st := s_after_noted_house) l35 c35 k35
  have b35 := F35.binds (ps := ["low", "high", "word"]) fun _ _ _ _ _ _ us hl => match us, hl with | [_, _, _], _ => rfl
  have F36 := fun_mk (st := s_within_note) l36 c36 k36
  have b36 := F36.binds (ps := ["low", "high", "value"]) fun _ _ _ _ _ _ us hl => match us, hl with | [_, _, _], _ => rfl
  have F37 := fun_mk (st := s_evidence) l37 c37 k37
  have b37 := F37.binds (ps := ["journal"]) fun _ _ _ _ _ _ us hl => match us, hl with | [_], _ => rfl
  have F38 := fun_mk (st := s_check_possible) l38 c38 k38
  have b38 := F38.binds (ps := ["journal"]) fun _ _ _ _ _ _ us hl => match us, hl with | [_], _ => rfl
  have F39 := fun_mk (st := s_orders_by_groups) l39 c39 k39
  have b39 := F39.binds (ps := ["journal"]) fun _ _ _ _ _ _ us hl => match us, hl with | [_], _ => rfl
  have F40 := fun_mk (st := s_possible_groups) l40 c40 k40
  have b40 := F40.binds (ps := ["journal"]) fun _ _ _ _ _ _ us hl => match us, hl with | [_], _ => rfl
  have F41 := fun_mk (st := s_one_way) l41 c41 k41
  have b41 := F41.binds (ps := ["word", "many"]) fun _ _ _ _ _ _ us hl => match us, hl with | [_, _], _ => rfl
  have F42 := fun_mk (st := s_count_walks) l42 c42 k42
  have b42 := F42.binds (ps := ["journal"]) fun _ _ _ _ _ _ us hl => match us, hl with | [_], _ => rfl
  have F43 := fun_mk (st := s_ways_of_step) l43 c43 k43
  have b43 := F43.binds (ps := ["noted", "time", "many", "after"]) fun _ _ _ _ _ _ us hl => match us, hl with | [_, _, _, _], _ => rfl
  have F44 := fun_mk (st := s_orders_with) l44 c44 k44
  have b44 := F44.binds (ps := ["journal", "walk"]) fun _ _ _ _ _ _ us hl => match us, hl with | [_, _], _ => rfl
  have F45 := fun_mk (st := s_greatest) l45 c45 k45
  have b45 := F45.binds (ps := ["parts"]) fun _ _ _ _ _ _ us hl => match us, hl with | [_], _ => rfl
  have F46 := fun_mk (st := s_likeliest) l46 c46 k46
  have b46 := F46.binds (ps := ["journal"]) fun _ _ _ _ _ _ us hl => match us, hl with | [_], _ => rfl
  have F47 := fun_mk (st := s_fraction) l47 c47 k47
  have b47 := F47.binds (ps := ["part", "whole"]) fun _ _ _ _ _ _ us hl => match us, hl with | [_, _], _ => rfl
  have F48 := fun_mk (st := s_check_time) l48 c48 k48
  have b48 := F48.binds (ps := ["journal", "time"]) fun _ _ _ _ _ _ us hl => match us, hl with | [_, _], _ => rfl
  have F49 := fun_mk (st := s_group_chances) l49 c49 k49
  have b49 := F49.binds (ps := ["journal", "time"]) fun _ _ _ _ _ _ us hl => match us, hl with | [_, _], _ => rfl
  have F50 := fun_mk (st := s_mean_groups) l50 c50 k50
  have b50 := F50.binds (ps := ["journal", "time"]) fun _ _ _ _ _ _ us hl => match us, hl with | [_, _], _ => rfl
  have F51 := fun_mk (st := s_house_chances) l51 c51 k51
  have b51 := F51.binds (ps := ["journal", "time"]) fun _ _ _ _ _ _ us hl => match us, hl with | [_, _], _ => rfl
  have F52 := fun_mk (st := s_add_ways) l52 c52 k52
  have b52 := F52.binds (ps := ["found", "place", "ways"]) fun _ _ _ _ _ _ us hl => match us, hl with | [_, _, _], _ => rfl
  have F53 := fun_mk (st := s_ways_on_side) l53 c53 k53
  have b53 := F53.binds (ps := ["word", "many", "own"]) fun _ _ _ _ _ _ us hl => match us, hl with | [_, _, _], _ => rfl
  have F54 := fun_mk (st := s_places_after) l54 c54 k54
  have b54 := F54.binds (ps := ["noted", "places", "time", "own"]) fun _ _ _ _ _ _ us hl => match us, hl with | [_, _, _, _], _ => rfl
  have F55 := fun_mk (st := s_places_built_on) l55 c55 k55
  have b55 := F55.binds (ps := ["noted", "places", "time"]) fun _ _ _ _ _ _ us hl => match us, hl with | [_, _, _], _ => rfl
  have F56 := fun_mk (st := s_places_of_house) l56 c56 k56
  have b56 := F56.binds (ps := ["journal", "time"]) fun _ _ _ _ _ _ us hl => match us, hl with | [_, _], _ => rfl
  have F57 := fun_mk (st := s_plot_chances) l57 c57 k57
  have b57 := F57.binds (ps := ["journal", "time"]) fun _ _ _ _ _ _ us hl => match us, hl with | [_, _], _ => rfl
  have F58 := fun_mk (st := s_marking_ways) l58 c58 k58
  have b58 := F58.binds (ps := ["word", "many"]) fun _ _ _ _ _ _ us hl => match us, hl with | [_, _], _ => rfl
  have F59 := fun_mk (st := s_ways_beside_marks) l59 c59 k59
  have b59 := F59.binds (ps := ["word", "many", "marks"]) fun _ _ _ _ _ _ us hl => match us, hl with | [_, _, _], _ => rfl
  have F60 := fun_mk (st := s_apart_orders) l60 c60 k60
  have b60 := F60.binds (ps := ["journal", "one", "other"]) fun _ _ _ _ _ _ us hl => match us, hl with | [_, _, _], _ => rfl
  have F61 := fun_mk (st := s_together_chance) l61 c61 k61
  have b61 := F61.binds (ps := ["journal", "one", "other"]) fun _ _ _ _ _ _ us hl => match us, hl with | [_, _, _], _ => rfl
  have F62 := fun_mk (st := s_l_cell_at) l62 c62 k62
  have b62 := F62.binds (ps := ["_law_script", "_law_k"]) fun _ _ _ _ _ _ us hl => match us, hl with | [_, _], _ => rfl
  have F63 := fun_mk (st := s_l_box) l63 c63 k63
  have b63 := F63.binds (ps := ["_law_script", "_law_k"]) fun _ _ _ _ _ _ us hl => match us, hl with | [_, _], _ => rfl
  have F64 := fun_mk (st := s_l_take) l64 c64 k64
  have b64 := F64.binds (ps := ["_law_box_here", "_law_below"]) fun _ _ _ _ _ _ us hl => match us, hl with | [_, _], _ => rfl
  have F65 := fun_mk (st := s_l_of) l65 c65 k65
  have b65 := F65.binds (ps := ["_law_box_here", "_law_some"]) fun _ _ _ _ _ _ us hl => match us, hl with | [_, _], _ => rfl
  have F66 := fun_mk (st := s_l_same) l66 c66 k66
  have b66 := F66.binds (ps := ["_law_found", "_law_due"]) fun _ _ _ _ _ _ us hl => match us, hl with | [_, _], _ => rfl
  have F67 := fun_mk (st := s_l_runs) l67 c67 k67
  have b67 := F67.binds (ps := ["_law_there"]) fun _ _ _ _ _ _ us hl => match us, hl with | [_], _ => rfl
  have F68 := fun_mk (st := s_l_seen) l68 c68 k68
  have b68 := F68.binds (ps := ["_law_queue_here"]) fun _ _ _ _ _ _ us hl => match us, hl with | [_], _ => rfl
  have F69 := fun_mk (st := s_l_queue) l69 c69 k69
  have b69 := F69.binds (ps := ["_law_box_here", "_law_count", "_law_size"]) fun _ _ _ _ _ _ us hl => match us, hl with | [_, _, _], _ => rfl
  have F70 := fun_mk (st := s_l_notes) l70 c70 k70
  have b70 := F70.binds (ps := ["_law_box_here", "_law_queue_here"]) fun _ _ _ _ _ _ us hl => match us, hl with | [_, _], _ => rfl
  have F71 := fun_mk (st := s_l_lists) l71 c71 k71
  have b71 := F71.binds (ps := ["_law_part"]) fun _ _ _ _ _ _ us hl => match us, hl with | [_], _ => rfl
  have F72 := fun_mk (st := s_l_false) l72 c72 k72
  have b72 := F72.binds (ps := ["_law_book", "_law_queue_here"]) fun _ _ _ _ _ _ us hl => match us, hl with | [_, _], _ => rfl
  have F73 := fun_mk (st := s_l_told) l73 c73 k73
  have b73 := F73.binds (ps := ["_law_kind", "_law_book", "_law_first", "_law_last"]) fun _ _ _ _ _ _ us hl => match us, hl with | [_, _, _, _], _ => rfl
  have F74 := fun_mk (st := s_l_hard_right) l74 c74 k74
  have b74 := F74.binds (ps := ["_law_box_here", "_law_book"]) fun _ _ _ _ _ _ us hl => match us, hl with | [_, _], _ => rfl
  have F75 := fun_mk (st := s_l_right) l75 c75 k75
  have b75 := F75.binds (ps := ["_law_box_here"]) fun _ _ _ _ _ _ us hl => match us, hl with | [_], _ => rfl
  have F76 := fun_mk (st := s_law) l76 c76 k76
  have T : Top w K mg := ⟨⟨⟨f0, _, F0, b0, PySem.W.mg_of X G a0⟩⟩, ⟨⟨f1, _, F1, b1, PySem.W.mg_of X G a1⟩⟩, ⟨⟨f2, _, F2, b2, PySem.W.mg_of X G a2⟩⟩, ⟨⟨f3, _, F3, b3, PySem.W.mg_of X G a3⟩⟩, ⟨⟨f4, _, F4, b4, PySem.W.mg_of X G a4⟩⟩, ⟨⟨f5, _, F5, b5, PySem.W.mg_of X G a5⟩⟩, ⟨⟨f6, _, F6, b6, PySem.W.mg_of X G a6⟩⟩, ⟨⟨f7, _, F7, b7, PySem.W.mg_of X G a7⟩⟩, ⟨⟨f8, _, F8, b8, PySem.W.mg_of X G a8⟩⟩, ⟨⟨f9, _, F9, b9, PySem.W.mg_of X G a9⟩⟩, ⟨⟨f10, _, F10, b10, PySem.W.mg_of X G a10⟩⟩, ⟨⟨f11, _, F11, b11, PySem.W.mg_of X G a11⟩⟩, ⟨⟨f12, _, F12, b12, PySem.W.mg_of X G a12⟩⟩, ⟨⟨f13, _, F13, b13, PySem.W.mg_of X G a13⟩⟩, ⟨⟨f14, _, F14, b14, PySem.W.mg_of X G a14⟩⟩, ⟨⟨f15, _, F15, b15, PySem.W.mg_of X G a15⟩⟩, ⟨⟨f16, _, F16, b16, PySem.W.mg_of X G a16⟩⟩, ⟨⟨f17, _, F17, b17, PySem.W.mg_of X G a17⟩⟩, ⟨⟨f18, _, F18, b18, PySem.W.mg_of X G a18⟩⟩, ⟨⟨f19, _, F19, b19, PySem.W.mg_of X G a19⟩⟩, ⟨⟨f20, _, F20, b20, PySem.W.mg_of X G a20⟩⟩, ⟨⟨f21, _, F21, b21, PySem.W.mg_of X G a21⟩⟩, ⟨⟨f22, _, F22, b22, PySem.W.mg_of X G a22⟩⟩, ⟨⟨f23, _, F23, b23, PySem.W.mg_of X G a23⟩⟩, ⟨⟨f24, _, F24, b24, PySem.W.mg_of X G a24⟩⟩, ⟨⟨f25, _, F25, b25, PySem.W.mg_of X G a25⟩⟩, ⟨⟨f26, _, F26, b26, PySem.W.mg_of X G a26⟩⟩, ⟨⟨f27, _, F27, b27, PySem.W.mg_of X G a27⟩⟩, ⟨⟨f28, _, F28, b28, PySem.W.mg_of X G a28⟩⟩, ⟨⟨f29, _, F29, b29, PySem.W.mg_of X G a29⟩⟩, ⟨⟨f30, _, F30, b30, PySem.W.mg_of X G a30⟩⟩, ⟨⟨f31, _, F31, b31, PySem.W.mg_of X G a31⟩⟩, ⟨⟨f32, _, F32, b32, PySem.W.mg_of X G a32⟩⟩, ⟨⟨f33, _, F33, b33, PySem.W.mg_of X G a33⟩⟩, ⟨⟨f34, _, F34, b34, PySem.W.mg_of X G a34⟩⟩, ⟨⟨f35, _, F35, b35, PySem.W.mg_of X G a35⟩⟩, ⟨⟨f36, _, F36, b36, PySem.W.mg_of X G a36⟩⟩, ⟨⟨f37, _, F37, b37, PySem.W.mg_of X G a37⟩⟩, ⟨⟨f38, _, F38, b38, PySem.W.mg_of X G a38⟩⟩, ⟨⟨f39, _, F39, b39, PySem.W.mg_of X G a39⟩⟩, ⟨⟨f40, _, F40, b40, PySem.W.mg_of X G a40⟩⟩, ⟨⟨f41, _, F41, b41, PySem.W.mg_of X G a41⟩⟩, ⟨⟨f42, _, F42, b42, PySem.W.mg_of X G a42⟩⟩, ⟨⟨f43, _, F43, b43, PySem.W.mg_of X G a43⟩⟩, ⟨⟨f44, _, F44, b44, PySem.W.mg_of X G a44⟩⟩, ⟨⟨f45, _, F45, b45, PySem.W.mg_of X G a45⟩⟩, ⟨⟨f46, _, F46, b46, PySem.W.mg_of X G a46⟩⟩, ⟨⟨f47, _, F47, b47, PySem.W.mg_of X G a47⟩⟩, ⟨⟨f48, _, F48, b48, PySem.W.mg_of X G a48⟩⟩, ⟨⟨f49, _, F49, b49, PySem.W.mg_of X G a49⟩⟩, ⟨⟨f50, _, F50, b50, PySem.W.mg_of X G a50⟩⟩, ⟨⟨f51, _, F51, b51, PySem.W.mg_of X G a51⟩⟩, ⟨⟨f52, _, F52, b52, PySem.W.mg_of X G a52⟩⟩, ⟨⟨f53, _, F53, b53, PySem.W.mg_of X G a53⟩⟩, ⟨⟨f54, _, F54, b54, PySem.W.mg_of X G a54⟩⟩, ⟨⟨f55, _, F55, b55, PySem.W.mg_of X G a55⟩⟩, ⟨⟨f56, _, F56, b56, PySem.W.mg_of X G a56⟩⟩, ⟨⟨f57, _, F57, b57, PySem.W.mg_of X G a57⟩⟩, ⟨⟨f58, _, F58, b58, PySem.W.mg_of X G a58⟩⟩, ⟨⟨f59, _, F59, b59, PySem.W.mg_of X G a59⟩⟩, ⟨⟨f60, _, F60, b60, PySem.W.mg_of X G a60⟩⟩, ⟨⟨f61, _, F61, b61, PySem.W.mg_of X G a61⟩⟩, ⟨⟨f62, _, F62, b62, PySem.W.mg_of X G a62⟩⟩, ⟨⟨f63, _, F63, b63, PySem.W.mg_of X G a63⟩⟩, ⟨⟨f64, _, F64, b64, PySem.W.mg_of X G a64⟩⟩, ⟨⟨f65, _, F65, b65, PySem.W.mg_of X G a65⟩⟩, ⟨⟨f66, _, F66, b66, PySem.W.mg_of X G a66⟩⟩, ⟨⟨f67, _, F67, b67, PySem.W.mg_of X G a67⟩⟩, ⟨⟨f68, _, F68, b68, PySem.W.mg_of X G a68⟩⟩, ⟨⟨f69, _, F69, b69, PySem.W.mg_of X G a69⟩⟩, ⟨⟨f70, _, F70, b70, PySem.W.mg_of X G a70⟩⟩, ⟨⟨f71, _, F71, b71, PySem.W.mg_of X G a71⟩⟩, ⟨⟨f72, _, F72, b72, PySem.W.mg_of X G a72⟩⟩, ⟨⟨f73, _, F73, b73, PySem.W.mg_of X G a73⟩⟩, ⟨⟨f74, _, F74, b74, PySem.W.mg_of X G a74⟩⟩, ⟨⟨f75, _, F75, b75, PySem.W.mg_of X G a75⟩⟩, ⟨⟨aD0, PySem.W.mg_of X G e0, fun G0 => .tup (xs := [.str "new", .str "beside", .str "between"]) (.inr ⟨_, _, _, lk0, rfl, rfl, (show 3 ≤ sizeLine by decide), (.cons ⟨_, rfl⟩ (.cons ⟨_, rfl⟩ (.cons ⟨_, rfl⟩ .nil)))⟩) (.cons (.str _) (.cons (.str _) (.cons (.str _) .nil)))⟩⟩, ⟨⟨aD1, PySem.W.mg_of X G e1, fun z d h => by simp only [List.mem_cons, Prod.mk.injEq, List.not_mem_nil, or_false] at h; rcases h with ⟨rfl, rfl⟩ | ⟨rfl, rfl⟩ | ⟨rfl, rfl⟩; { exact ⟨.int (1), q1_0, fun _ => .int _⟩ }; { exact ⟨.int (0), q1_1, fun _ => .int _⟩ }; { exact ⟨.int (-1), q1_2, fun _ => .int _⟩ }⟩⟩, ⟨tk2, PySem.W.mg_of X G e2⟩, ⟨⟨aD3, PySem.W.mg_of X G e3, fun G0 => .tup (xs := [.str "beside", .str "between", .str "new"]) (.inr ⟨_, _, _, lk3, rfl, rfl, (show 3 ≤ sizeLine by decide), (.cons ⟨_, rfl⟩ (.cons ⟨_, rfl⟩ (.cons ⟨_, rfl⟩ .nil)))⟩) (.cons (.str _) (.cons (.str _) (.cons (.str _) .nil)))⟩⟩, ⟨⟨aD4, PySem.W.mg_of X G e4, fun z d h => by simp only [List.mem_cons, Prod.mk.injEq, List.not_mem_nil, or_false] at h; rcases h with ⟨rfl, rfl⟩ | ⟨rfl, rfl⟩ | ⟨rfl, rfl⟩; { exact ⟨.int (0), q4_0, fun _ => .int _⟩ }; { exact ⟨.int (1), q4_1, fun _ => .int _⟩ }; { exact ⟨.int (2), q4_2, fun _ => .int _⟩ }⟩⟩, ⟨⟨aD5, PySem.W.mg_of X G e5, fun z d h => by simp only [List.mem_cons, Prod.mk.injEq, List.not_mem_nil, or_false] at h; rcases h with ⟨rfl, rfl⟩ | ⟨rfl, rfl⟩ | ⟨rfl, rfl⟩; { exact ⟨.ref x5_0, q5_0, fun _ => (.tup (xs := [.ref x5_0_0]) (.inr ⟨_, _, _, m5_0, rfl, rfl, (show 1 ≤ sizeLine by decide), (.cons rfl .nil)⟩) (.cons (.tup (xs := [.int (0), .int (0)]) (.inr ⟨_, _, _, m5_0_0, rfl, rfl, (show 2 ≤ sizeLine by decide), (.cons ⟨_, rfl⟩ (.cons ⟨_, rfl⟩ .nil))⟩) (.cons (.int _) (.cons (.int _) .nil))) .nil))⟩ }; { exact ⟨.ref x5_1, q5_1, fun _ => (.tup (xs := [.ref x5_1_0, .ref x5_1_1]) (.inr ⟨_, _, _, m5_1, rfl, rfl, (show 2 ≤ sizeLine by decide), (.cons rfl (.cons rfl .nil))⟩) (.cons (.tup (xs := [.int (1), .int (0)]) (.inr ⟨_, _, _, m5_1_0, rfl, rfl, (show 2 ≤ sizeLine by decide), (.cons ⟨_, rfl⟩ (.cons ⟨_, rfl⟩ .nil))⟩) (.cons (.int _) (.cons (.int _) .nil))) (.cons (.tup (xs := [.int (0), .int (1)]) (.inr ⟨_, _, _, m5_1_1, rfl, rfl, (show 2 ≤ sizeLine by decide), (.cons ⟨_, rfl⟩ (.cons ⟨_, rfl⟩ .nil))⟩) (.cons (.int _) (.cons (.int _) .nil))) .nil)))⟩ }; { exact ⟨.ref x5_2, q5_2, fun _ => (.tup (xs := [.ref x5_2_0]) (.inr ⟨_, _, _, m5_2, rfl, rfl, (show 1 ≤ sizeLine by decide), (.cons rfl .nil)⟩) (.cons (.tup (xs := [.int (1), .int (1)]) (.inr ⟨_, _, _, m5_2_0, rfl, rfl, (show 2 ≤ sizeLine by decide), (.cons ⟨_, rfl⟩ (.cons ⟨_, rfl⟩ .nil))⟩) (.cons (.int _) (.cons (.int _) .nil))) .nil))⟩ }⟩⟩, PySem.W.mg_none_of X G z_abs, PySem.W.mg_none_of X G z_all, PySem.W.mg_none_of X G z_bool, PySem.W.mg_none_of X G z_enumerate, PySem.W.mg_none_of X G z_int, PySem.W.mg_none_of X G z_isinstance, PySem.W.mg_none_of X G z_len, PySem.W.mg_none_of X G z_list, PySem.W.mg_none_of X G z_max, PySem.W.mg_none_of X G z_min, PySem.W.mg_none_of X G z_range, PySem.W.mg_none_of X G z_reversed, PySem.W.mg_none_of X G z_set, PySem.W.mg_none_of X G z_sorted, PySem.W.mg_none_of X G z_str, PySem.W.mg_none_of X G z_sum, PySem.W.mg_none_of X G z_tuple, PySem.W.mg_none_of X G z_zip⟩
  have X0 : XC K C0 "ValueError" "ValueError.__new__" "ValueError.__init__" bVE := ⟨PySem.F.excBase_ValueError, PySem.F.store_ValueError, vxi0, vxo0, vxd0, vxs0, vxg0, vxh0, vxb0, vxc0, vxk0, vxn0, vxm0, spc, tks⟩
  have FI0 := fun_mk (st := iniS 3) vlI0 vcI0 vkI0
  have Y0 : Cls K mg "Impossible" "evidence" "Impossible.__init__" "ValueError" "ValueError.__new__" "ValueError.__init__" bVE (iniS 3) C0 := ⟨X0, PySem.W.mg_of X G vcn0, vxf0, vxt0, ⟨fI0, _, vin0, vty0, FI0, FI0.binds (ps := ["self", "evidence"]) (fun _ _ _ _ _ _ us hl => match us, hl with | [_, _], _ => rfl)⟩⟩
  have X1 : XC K C1 "ValueError" "ValueError.__new__" "ValueError.__init__" bVE := ⟨PySem.F.excBase_ValueError, PySem.F.store_ValueError, vxi1, vxo1, vxd1, vxs1, vxg1, vxh1, vxb1, vxc1, vxk1, vxn1, vxm1, spc, tks⟩
  have FI1 := fun_mk (st := iniS 4) vlI1 vcI1 vkI1
  have Y1 : Cls K mg "Misfit" "time" "Misfit.__init__" "ValueError" "ValueError.__new__" "ValueError.__init__" bVE (iniS 4) C1 := ⟨X1, PySem.W.mg_of X G vcn1, vxf1, vxt1, ⟨fI1, _, vin1, vty1, FI1, FI1.binds (ps := ["self", "time"]) (fun _ _ _ _ _ _ us hl => match us, hl with | [_, _], _ => rfl)⟩⟩
  have X2 : XC K C2 "LookupError" "LookupError.__new__" "LookupError.__init__" bLE := ⟨PySem.F.excBase_LookupError, PySem.F.store_LookupError, vxi2, vxo2, vxd2, vxs2, vxg2, vxh2, vxb2, vxc2, vxk2, vxn2, vxm2, spc, tks⟩
  have FI2 := fun_mk (st := iniS 5) vlI2 vcI2 vkI2
  have Y2 : Cls K mg "NoTime" "time" "NoTime.__init__" "LookupError" "LookupError.__new__" "LookupError.__init__" bLE (iniS 5) C2 := ⟨X2, PySem.W.mg_of X G vcn2, vxf2, vxt2, ⟨fI2, _, vin2, vty2, FI2, FI2.binds (ps := ["self", "time"]) (fun _ _ _ _ _ _ us hl => match us, hl with | [_, _], _ => rfl)⟩⟩
  have X3 : XC K C3 "LookupError" "LookupError.__new__" "LookupError.__init__" bLE := ⟨PySem.F.excBase_LookupError, PySem.F.store_LookupError, vxi3, vxo3, vxd3, vxs3, vxg3, vxh3, vxb3, vxc3, vxk3, vxn3, vxm3, spc, tks⟩
  have FI3 := fun_mk (st := iniS 6) vlI3 vcI3 vkI3
  have Y3 : Cls K mg "NoChoice" "number" "NoChoice.__init__" "LookupError" "LookupError.__new__" "LookupError.__init__" bLE (iniS 6) C3 := ⟨X3, PySem.W.mg_of X G vcn3, vxf3, vxt3, ⟨fI3, _, vin3, vty3, FI3, FI3.binds (ps := ["self", "number"]) (fun _ _ _ _ _ _ us hl => match us, hl with | [_, _], _ => rfl)⟩⟩
  have X4 : XC K C4 "LookupError" "LookupError.__new__" "LookupError.__init__" bLE := ⟨PySem.F.excBase_LookupError, PySem.F.store_LookupError, vxi4, vxo4, vxd4, vxs4, vxg4, vxh4, vxb4, vxc4, vxk4, vxn4, vxm4, spc, tks⟩
  have FI4 := fun_mk (st := iniS 7) vlI4 vcI4 vkI4
  have Y4 : Cls K mg "NoNumber" "number" "NoNumber.__init__" "LookupError" "LookupError.__new__" "LookupError.__init__" bLE (iniS 7) C4 := ⟨X4, PySem.W.mg_of X G vcn4, vxf4, vxt4, ⟨fI4, _, vin4, vty4, FI4, FI4.binds (ps := ["self", "number"]) (fun _ _ _ _ _ _ us hl => match us, hl with | [_, _], _ => rfl)⟩⟩
  have X5 : XC K C5 "OverflowError" "OverflowError.__new__" "OverflowError.__init__" bOE := ⟨PySem.F.excBase_OverflowError, PySem.F.store_OverflowError, vxi5, vxo5, vxd5, vxs5, vxg5, vxh5, vxb5, vxc5, vxk5, vxn5, vxm5, spc, tks⟩
  have FI5 := fun_mk (st := iniS 8) vlI5 vcI5 vkI5
  have Y5 : Cls K mg "TooMany" "many" "TooMany.__init__" "OverflowError" "OverflowError.__new__" "OverflowError.__init__" bOE (iniS 8) C5 := ⟨X5, PySem.W.mg_of X G vcn5, vxf5, vxt5, ⟨fI5, _, vin5, vty5, FI5, FI5.binds (ps := ["self", "many"]) (fun _ _ _ _ _ _ us hl => match us, hl with | [_, _], _ => rfl)⟩⟩
  have TY : TopX K mg (fun j => [C0, C1, C2, C3, C4, C5].getD j 0 : Nat → Addr) := ⟨Y0, Y1, Y2, Y3, Y4, Y5, vkit, vk_ValueError, PySem.W.mg_none_of X G y_ValueError, vk_LookupError, PySem.W.mg_none_of X G y_LookupError, vexm⟩
  exact lawT_of ⟨_, fun s v => .of_eq rfl, fun base _ _ => ok_law F76 T TY⟩
end Og23
open PySem PySem.W PyProof.Rows
set_option maxHeartbeats 0 in
theorem PySem.Challenge.cw_onlygroups_k23_errors_in_their_order_holds : PySem.Challenge.rw_onlygroups_k23_errors_in_their_order.Holds := by
  w_on; o_law; k_head; (case hw => w_witness2)
  k_fill
  refine' Dw.walk_GT (l := PySem.Challenge.rw_onlygroups_k23_errors_in_their_order) (n := 63) (k := 11) (x := "_law_script") rfl (by decide) rfl ⟨rfl, by decide, by decide⟩ (fun w h Y => PySem.W.km_in_of Y) ?F (by decide)
  case F =>
    intro w mg fa h Y KX G hmg
    refine' ⟨PySem.W.km_tabs_of Y _ (List.mem_singleton.mpr rfl), ?nP, ?cP, ?big⟩
    case big =>
      refine' Og23.all_mk KX G hmg ?a0 ?l0 ?c0 ?k0 ?a1 ?l1 ?c1 ?k1 ?a2 ?l2 ?c2 ?k2 ?a3 ?l3 ?c3 ?k3 ?a4 ?l4 ?c4 ?k4 ?a5 ?l5 ?c5 ?k5 ?a6 ?l6 ?c6 ?k6 ?a7 ?l7 ?c7 ?k7 ?a8 ?l8 ?c8 ?k8 ?a9 ?l9 ?c9 ?k9 ?a10 ?l10 ?c10 ?k10 ?a11 ?l11 ?c11 ?k11 ?a12 ?l12 ?c12 ?k12 ?a13 ?l13 ?c13 ?k13 ?a14 ?l14 ?c14 ?k14 ?a15 ?l15 ?c15 ?k15 ?a16 ?l16 ?c16 ?k16 ?a17 ?l17 ?c17 ?k17 ?a18 ?l18 ?c18 ?k18 ?a19 ?l19 ?c19 ?k19 ?a20 ?l20 ?c20 ?k20 ?a21 ?l21 ?c21 ?k21 ?a22 ?l22 ?c22 ?k22 ?a23 ?l23 ?c23 ?k23 ?a24 ?l24 ?c24 ?k24 ?a25 ?l25 ?c25 ?k25 ?a26 ?l26 ?c26 ?k26 ?a27 ?l27 ?c27 ?k27 ?a28 ?l28 ?c28 ?k28 ?a29 ?l29 ?c29 ?k29 ?a30 ?l30 ?c30 ?k30 ?a31 ?l31 ?c31 ?k31 ?a32 ?l32 ?c32 ?k32 ?a33 ?l33 ?c33 ?k33 ?a34 ?l34 ?c34 ?k34 ?a35 ?l35 ?c35 ?k35 ?a36 ?l36 ?c36 ?k36 ?a37 ?l37 ?c37 ?k37 ?a38 ?l38 ?c38 ?k38 ?a39 ?l39 ?c39 ?k39 ?a40 ?l40 ?c40 ?k40 ?a41 ?l41 ?c41 ?k41 ?a42 ?l42 ?c42 ?k42 ?a43 ?l43 ?c43 ?k43 ?a44 ?l44 ?c44 ?k44 ?a45 ?l45 ?c45 ?k45 ?a46 ?l46 ?c46 ?k46 ?a47 ?l47 ?c47 ?k47 ?a48 ?l48 ?c48 ?k48 ?a49 ?l49 ?c49 ?k49 ?a50 ?l50 ?c50 ?k50 ?a51 ?l51 ?c51 ?k51 ?a52 ?l52 ?c52 ?k52 ?a53 ?l53 ?c53 ?k53 ?a54 ?l54 ?c54 ?k54 ?a55 ?l55 ?c55 ?k55 ?a56 ?l56 ?c56 ?k56 ?a57 ?l57 ?c57 ?k57 ?a58 ?l58 ?c58 ?k58 ?a59 ?l59 ?c59 ?k59 ?a60 ?l60 ?c60 ?k60 ?a61 ?l61 ?c61 ?k61 ?a62 ?l62 ?c62 ?k62 ?a63 ?l63 ?c63 ?k63 ?a64 ?l64 ?c64 ?k64 ?a65 ?l65 ?c65 ?k65 ?a66 ?l66 ?c66 ?k66 ?a67 ?l67 ?c67 ?k67 ?a68 ?l68 ?c68 ?k68 ?a69 ?l69 ?c69 ?k69 ?a70 ?l70 ?c70 ?k70 ?a71 ?l71 ?c71 ?k71 ?a72 ?l72 ?c72 ?k72 ?a73 ?l73 ?c73 ?k73 ?a74 ?l74 ?c74 ?k74 ?a75 ?l75 ?c75 ?k75 ?a76 ?l76 ?c76 ?k76 ?e0 ?lk0 ?e1 ?q1_0 ?q1_1 ?q1_2 ?e2 ?e3 ?lk3 ?e4 ?q4_0 ?q4_1 ?q4_2 ?e5 ?q5_0 ?m5_0 ?m5_0_0 ?q5_1 ?m5_1 ?m5_1_0 ?m5_1_1 ?q5_2 ?m5_2 ?m5_2_0 ?z_abs ?z_all ?z_bool ?z_enumerate ?z_int ?z_isinstance ?z_len ?z_list ?z_max ?z_min ?z_range ?z_reversed ?z_set ?z_sorted ?z_str ?z_sum ?z_tuple ?z_zip ?spc ?tks ?vcn0 ?vxi0 ?vxo0 ?vxd0 ?vxs0 ?vxg0 ?vxh0 ?vxb0 ?vxc0 ?vxk0 ?vxn0 ?vxm0 ?vxf0 ?vxt0 ?vin0 ?vty0 ?vlI0 ?vcI0 ?vkI0 ?vcn1 ?vxi1 ?vxo1 ?vxd1 ?vxs1 ?vxg1 ?vxh1 ?vxb1 ?vxc1 ?vxk1 ?vxn1 ?vxm1 ?vxf1 ?vxt1 ?vin1 ?vty1 ?vlI1 ?vcI1 ?vkI1 ?vcn2 ?vxi2 ?vxo2 ?vxd2 ?vxs2 ?vxg2 ?vxh2 ?vxb2 ?vxc2 ?vxk2 ?vxn2 ?vxm2 ?vxf2 ?vxt2 ?vin2 ?vty2 ?vlI2 ?vcI2 ?vkI2 ?vcn3 ?vxi3 ?vxo3 ?vxd3 ?vxs3 ?vxg3 ?vxh3 ?vxb3 ?vxc3 ?vxk3 ?vxn3 ?vxm3 ?vxf3 ?vxt3 ?vin3 ?vty3 ?vlI3 ?vcI3 ?vkI3 ?vcn4 ?vxi4 ?vxo4 ?vxd4 ?vxs4 ?vxg4 ?vxh4 ?vxb4 ?vxc4 ?vxk4 ?vxn4 ?vxm4 ?vxf4 ?vxt4 ?vin4 ?vty4 ?vlI4 ?vcI4 ?vkI4 ?vcn5 ?vxi5 ?vxo5 ?vxd5 ?vxs5 ?vxg5 ?vxh5 ?vxb5 ?vxc5 ?vxk5 ?vxn5 ?vxm5 ?vxf5 ?vxt5 ?vin5 ?vty5 ?vlI5 ?vcI5 ?vkI5 ?vkit ?vk_ValueError ?y_ValueError ?vk_LookupError ?y_LookupError ?vexm ?hcd
      (case a0 => k_is)
      (case l0 => k_is)
      (case c0 => k_is)
      (case k0 => k_is)
      (case a1 => k_is)
      (case l1 => k_is)
      (case c1 => k_is)
      (case k1 => k_is)
      (case a2 => k_is)
      (case l2 => k_is)
      (case c2 => k_is)
      (case k2 => k_is)
      (case a3 => k_is)
      (case l3 => k_is)
      (case c3 => k_is)
      (case k3 => k_is)
      (case a4 => k_is)
      (case l4 => k_is)
      (case c4 => k_is)
      (case k4 => k_is)
      (case a5 => k_is)
      (case l5 => k_is)
      (case c5 => k_is)
      (case k5 => k_is)
      (case a6 => k_is)
      (case l6 => k_is)
      (case c6 => k_is)
      (case k6 => k_is)
      (case a7 => k_is)
      (case l7 => k_is)
      (case c7 => k_is)
      (case k7 => k_is)
      (case a8 => k_is)
      (case l8 => k_is)
      (case c8 => k_is)
      (case k8 => k_is)
      (case a9 => k_is)
      (case l9 => k_is)
      (case c9 => k_is)
      (case k9 => k_is)
      (case a10 => k_is)
      (case l10 => k_is)
      (case c10 => k_is)
      (case k10 => k_is)
      (case a11 => k_is)
      (case l11 => k_is)
      (case c11 => k_is)
      (case k11 => k_is)
      (case a12 => k_is)
      (case l12 => k_is)
      (case c12 => k_is)
      (case k12 => k_is)
      (case a13 => k_is)
      (case l13 => k_is)
      (case c13 => k_is)
      (case k13 => k_is)
      (case a14 => k_is)
      (case l14 => k_is)
      (case c14 => k_is)
      (case k14 => k_is)
      (case a15 => k_is)
      (case l15 => k_is)
      (case c15 => k_is)
      (case k15 => k_is)
      (case a16 => k_is)
      (case l16 => k_is)
      (case c16 => k_is)
      (case k16 => k_is)
      (case a17 => k_is)
      (case l17 => k_is)
      (case c17 => k_is)
      (case k17 => k_is)
      (case a18 => k_is)
      (case l18 => k_is)
      (case c18 => k_is)
      (case k18 => k_is)
      (case a19 => k_is)
      (case l19 => k_is)
      (case c19 => k_is)
      (case k19 => k_is)
      (case a20 => k_is)
      (case l20 => k_is)
      (case c20 => k_is)
      (case k20 => k_is)
      (case a21 => k_is)
      (case l21 => k_is)
      (case c21 => k_is)
      (case k21 => k_is)
      (case a22 => k_is)
      (case l22 => k_is)
      (case c22 => k_is)
      (case k22 => k_is)
      (case a23 => k_is)
      (case l23 => k_is)
      (case c23 => k_is)
      (case k23 => k_is)
      (case a24 => k_is)
      (case l24 => k_is)
      (case c24 => k_is)
      (case k24 => k_is)
      (case a25 => k_is)
      (case l25 => k_is)
      (case c25 => k_is)
      (case k25 => k_is)
      (case a26 => k_is)
      (case l26 => k_is)
      (case c26 => k_is)
      (case k26 => k_is)
      (case a27 => k_is)
      (case l27 => k_is)
      (case c27 => k_is)
      (case k27 => k_is)
      (case a28 => k_is)
      (case l28 => k_is)
      (case c28 => k_is)
      (case k28 => k_is)
      (case a29 => k_is)
      (case l29 => k_is)
      (case c29 => k_is)
      (case k29 => k_is)
      (case a30 => k_is)
      (case l30 => k_is)
      (case c30 => k_is)
      (case k30 => k_is)
      (case a31 => k_is)
      (case l31 => k_is)
      (case c31 => k_is)
      (case k31 => k_is)
      (case a32 => k_is)
      (case l32 => k_is)
      (case c32 => k_is)
      (case k32 => k_is)
      (case a33 => k_is)
      (case l33 => k_is)
      (case c33 => k_is)
      (case k33 => k_is)
      (case a34 => k_is)
      (case l34 => k_is)
      (case c34 => k_is)
      (case k34 => k_is)
      (case a35 => k_is)
      (case l35 => k_is)
      (case c35 => k_is)
      (case k35 => k_is)
      (case a36 => k_is)
      (case l36 => k_is)
      (case c36 => k_is)
      (case k36 => k_is)
      (case a37 => k_is)
      (case l37 => k_is)
      (case c37 => k_is)
      (case k37 => k_is)
      (case a38 => k_is)
      (case l38 => k_is)
      (case c38 => k_is)
      (case k38 => k_is)
      (case a39 => k_is)
      (case l39 => k_is)
      (case c39 => k_is)
      (case k39 => k_is)
      (case a40 => k_is)
      (case l40 => k_is)
      (case c40 => k_is)
      (case k40 => k_is)
      (case a41 => k_is)
      (case l41 => k_is)
      (case c41 => k_is)
      (case k41 => k_is)
      (case a42 => k_is)
      (case l42 => k_is)
      (case c42 => k_is)
      (case k42 => k_is)
      (case a43 => k_is)
      (case l43 => k_is)
      (case c43 => k_is)
      (case k43 => k_is)
      (case a44 => k_is)
      (case l44 => k_is)
      (case c44 => k_is)
      (case k44 => k_is)
      (case a45 => k_is)
      (case l45 => k_is)
      (case c45 => k_is)
      (case k45 => k_is)
      (case a46 => k_is)
      (case l46 => k_is)
      (case c46 => k_is)
      (case k46 => k_is)
      (case a47 => k_is)
      (case l47 => k_is)
      (case c47 => k_is)
      (case k47 => k_is)
      (case a48 => k_is)
      (case l48 => k_is)
      (case c48 => k_is)
      (case k48 => k_is)
      (case a49 => k_is)
      (case l49 => k_is)
      (case c49 => k_is)
      (case k49 => k_is)
      (case a50 => k_is)
      (case l50 => k_is)
      (case c50 => k_is)
      (case k50 => k_is)
      (case a51 => k_is)
      (case l51 => k_is)
      (case c51 => k_is)
      (case k51 => k_is)
      (case a52 => k_is)
      (case l52 => k_is)
      (case c52 => k_is)
      (case k52 => k_is)
      (case a53 => k_is)
      (case l53 => k_is)
      (case c53 => k_is)
      (case k53 => k_is)
      (case a54 => k_is)
      (case l54 => k_is)
      (case c54 => k_is)
      (case k54 => k_is)
      (case a55 => k_is)
      (case l55 => k_is)
      (case c55 => k_is)
      (case k55 => k_is)
      (case a56 => k_is)
      (case l56 => k_is)
      (case c56 => k_is)
      (case k56 => k_is)
      (case a57 => k_is)
      (case l57 => k_is)
      (case c57 => k_is)
      (case k57 => k_is)
      (case a58 => k_is)
      (case l58 => k_is)
      (case c58 => k_is)
      (case k58 => k_is)
      (case a59 => k_is)
      (case l59 => k_is)
      (case c59 => k_is)
      (case k59 => k_is)
      (case a60 => k_is)
      (case l60 => k_is)
      (case c60 => k_is)
      (case k60 => k_is)
      (case a61 => k_is)
      (case l61 => k_is)
      (case c61 => k_is)
      (case k61 => k_is)
      (case a62 => k_is)
      (case l62 => k_is)
      (case c62 => k_is)
      (case k62 => k_is)
      (case a63 => k_is)
      (case l63 => k_is)
      (case c63 => k_is)
      (case k63 => k_is)
      (case a64 => k_is)
      (case l64 => k_is)
      (case c64 => k_is)
      (case k64 => k_is)
      (case a65 => k_is)
      (case l65 => k_is)
      (case c65 => k_is)
      (case k65 => k_is)
      (case a66 => k_is)
      (case l66 => k_is)
      (case c66 => k_is)
      (case k66 => k_is)
      (case a67 => k_is)
      (case l67 => k_is)
      (case c67 => k_is)
      (case k67 => k_is)
      (case a68 => k_is)
      (case l68 => k_is)
      (case c68 => k_is)
      (case k68 => k_is)
      (case a69 => k_is)
      (case l69 => k_is)
      (case c69 => k_is)
      (case k69 => k_is)
      (case a70 => k_is)
      (case l70 => k_is)
      (case c70 => k_is)
      (case k70 => k_is)
      (case a71 => k_is)
      (case l71 => k_is)
      (case c71 => k_is)
      (case k71 => k_is)
      (case a72 => k_is)
      (case l72 => k_is)
      (case c72 => k_is)
      (case k72 => k_is)
      (case a73 => k_is)
      (case l73 => k_is)
      (case c73 => k_is)
      (case k73 => k_is)
      (case a74 => k_is)
      (case l74 => k_is)
      (case c74 => k_is)
      (case k74 => k_is)
      (case a75 => k_is)
      (case l75 => k_is)
      (case c75 => k_is)
      (case k75 => k_is)
      (case a76 => k_is)
      (case l76 => k_is)
      (case c76 => k_is)
      (case k76 => k_is)
      (case e0 => k_is)
      (case lk0 => k_is)
      (case e1 => k_is)
      (case q1_0 =>
        refine' ⟨?es1211, ?nn1211, ?uu1211, ?l1211, ?k1211, ?n1211, ?r1211⟩
        (case l1211 => exact rfl)
        (case k1211 => exact ⟨⟨_, _, rfl, rfl⟩, ⟨_, _, rfl, rfl⟩, ⟨_, _, rfl, rfl⟩, trivial⟩)
        (case n1211 => exact rfl)
        (case r1211 => exact ⟨_, rfl⟩))
      (case q1_1 =>
        refine' ⟨?es1212, ?nn1212, ?uu1212, ?l1212, ?k1212, ?n1212, ?r1212⟩
        (case l1212 => exact rfl)
        (case k1212 => exact ⟨⟨_, _, rfl, rfl⟩, ⟨_, _, rfl, rfl⟩, ⟨_, _, rfl, rfl⟩, trivial⟩)
        (case n1212 => exact rfl)
        (case r1212 => exact ⟨_, rfl⟩))
      (case q1_2 =>
        refine' ⟨?es1213, ?nn1213, ?uu1213, ?l1213, ?k1213, ?n1213, ?r1213⟩
        (case l1213 => exact rfl)
        (case k1213 => exact ⟨⟨_, _, rfl, rfl⟩, ⟨_, _, rfl, rfl⟩, ⟨_, _, rfl, rfl⟩, trivial⟩)
        (case n1213 => exact rfl)
        (case r1213 => exact ⟨_, rfl⟩))
      (case e2 => k_is)
      (case e3 => k_is)
      (case lk3 => k_is)
      (case e4 => k_is)
      (case q4_0 =>
        refine' ⟨?es1218, ?nn1218, ?uu1218, ?l1218, ?k1218, ?n1218, ?r1218⟩
        (case l1218 => exact rfl)
        (case k1218 => exact ⟨⟨_, _, rfl, rfl⟩, ⟨_, _, rfl, rfl⟩, ⟨_, _, rfl, rfl⟩, trivial⟩)
        (case n1218 => exact rfl)
        (case r1218 => exact ⟨_, rfl⟩))
      (case q4_1 =>
        refine' ⟨?es1219, ?nn1219, ?uu1219, ?l1219, ?k1219, ?n1219, ?r1219⟩
        (case l1219 => exact rfl)
        (case k1219 => exact ⟨⟨_, _, rfl, rfl⟩, ⟨_, _, rfl, rfl⟩, ⟨_, _, rfl, rfl⟩, trivial⟩)
        (case n1219 => exact rfl)
        (case r1219 => exact ⟨_, rfl⟩))
      (case q4_2 =>
        refine' ⟨?es1220, ?nn1220, ?uu1220, ?l1220, ?k1220, ?n1220, ?r1220⟩
        (case l1220 => exact rfl)
        (case k1220 => exact ⟨⟨_, _, rfl, rfl⟩, ⟨_, _, rfl, rfl⟩, ⟨_, _, rfl, rfl⟩, trivial⟩)
        (case n1220 => exact rfl)
        (case r1220 => exact ⟨_, rfl⟩))
      (case e5 => k_is)
      (case q5_0 =>
        refine' ⟨?es1222, ?nn1222, ?uu1222, ?l1222, ?k1222, ?n1222, ?r1222⟩
        (case l1222 => exact rfl)
        (case k1222 => exact ⟨⟨_, _, rfl, rfl⟩, ⟨_, _, rfl, rfl⟩, ⟨_, _, rfl, rfl⟩, trivial⟩)
        (case n1222 => exact rfl)
        (case r1222 => exact rfl))
      (case m5_0 => k_is)
      (case m5_0_0 => k_is)
      (case q5_1 =>
        refine' ⟨?es1225, ?nn1225, ?uu1225, ?l1225, ?k1225, ?n1225, ?r1225⟩
        (case l1225 => exact rfl)
        (case k1225 => exact ⟨⟨_, _, rfl, rfl⟩, ⟨_, _, rfl, rfl⟩, ⟨_, _, rfl, rfl⟩, trivial⟩)
        (case n1225 => exact rfl)
        (case r1225 => exact rfl))
      (case m5_1 => k_is)
      (case m5_1_0 => k_is)
      (case m5_1_1 => k_is)
      (case q5_2 =>
        refine' ⟨?es1229, ?nn1229, ?uu1229, ?l1229, ?k1229, ?n1229, ?r1229⟩
        (case l1229 => exact rfl)
        (case k1229 => exact ⟨⟨_, _, rfl, rfl⟩, ⟨_, _, rfl, rfl⟩, ⟨_, _, rfl, rfl⟩, trivial⟩)
        (case n1229 => exact rfl)
        (case r1229 => exact rfl))
      (case m5_2 => k_is)
      (case m5_2_0 => k_is)
      (case z_abs => k_is)
      (case z_all => k_is)
      (case z_bool => k_is)
      (case z_enumerate => k_is)
      (case z_int => k_is)
      (case z_isinstance => k_is)
      (case z_len => k_is)
      (case z_list => k_is)
      (case z_max => k_is)
      (case z_min => k_is)
      (case z_range => k_is)
      (case z_reversed => k_is)
      (case z_set => k_is)
      (case z_sorted => k_is)
      (case z_str => k_is)
      (case z_sum => k_is)
      (case z_tuple => k_is)
      (case z_zip => k_is)
      (case spc => k_is)
      (case tks => k_is)
      (case vcn0 => k_is)
      (case vxi0 => first | exact rfl | decide +kernel | k_is)
      (case vxo0 => first | exact rfl | decide +kernel | k_is)
      (case vxd0 => k_is)
      (case vxs0 => k_is)
      (case vxg0 => k_is)
      (case vxh0 => k_is)
      (case vxb0 => k_is)
      (case vxc0 => k_is)
      (case vxk0 => k_is)
      (case vxn0 => first | exact rfl | decide +kernel | k_is)
      (case vxm0 => k_is)
      (case vxf0 => k_is)
      (case vxt0 => k_is)
      (case vin0 => k_is)
      (case vty0 => k_is)
      (case vlI0 => k_is)
      (case vcI0 => k_is)
      (case vkI0 => k_is)
      (case vcn1 => k_is)
      (case vxi1 => first | exact rfl | decide +kernel | k_is)
      (case vxo1 => first | exact rfl | decide +kernel | k_is)
      (case vxd1 => k_is)
      (case vxs1 => k_is)
      (case vxg1 => k_is)
      (case vxh1 => k_is)
      (case vxb1 => k_is)
      (case vxc1 => k_is)
      (case vxk1 => k_is)
      (case vxn1 => first | exact rfl | decide +kernel | k_is)
      (case vxm1 => k_is)
      (case vxf1 => k_is)
      (case vxt1 => k_is)
      (case vin1 => k_is)
      (case vty1 => k_is)
      (case vlI1 => k_is)
      (case vcI1 => k_is)
      (case vkI1 => k_is)
      (case vcn2 => k_is)
      (case vxi2 => first | exact rfl | decide +kernel | k_is)
      (case vxo2 => first | exact rfl | decide +kernel | k_is)
      (case vxd2 => k_is)
      (case vxs2 => k_is)
      (case vxg2 => k_is)
      (case vxh2 => k_is)
      (case vxb2 => k_is)
      (case vxc2 => k_is)
      (case vxk2 => k_is)
      (case vxn2 => first | exact rfl | decide +kernel | k_is)
      (case vxm2 => k_is)
      (case vxf2 => k_is)
      (case vxt2 => k_is)
      (case vin2 => k_is)
      (case vty2 => k_is)
      (case vlI2 => k_is)
      (case vcI2 => k_is)
      (case vkI2 => k_is)
      (case vcn3 => k_is)
      (case vxi3 => first | exact rfl | decide +kernel | k_is)
      (case vxo3 => first | exact rfl | decide +kernel | k_is)
      (case vxd3 => k_is)
      (case vxs3 => k_is)
      (case vxg3 => k_is)
      (case vxh3 => k_is)
      (case vxb3 => k_is)
      (case vxc3 => k_is)
      (case vxk3 => k_is)
      (case vxn3 => first | exact rfl | decide +kernel | k_is)
      (case vxm3 => k_is)
      (case vxf3 => k_is)
      (case vxt3 => k_is)
      (case vin3 => k_is)
      (case vty3 => k_is)
      (case vlI3 => k_is)
      (case vcI3 => k_is)
      (case vkI3 => k_is)
      (case vcn4 => k_is)
      (case vxi4 => first | exact rfl | decide +kernel | k_is)
      (case vxo4 => first | exact rfl | decide +kernel | k_is)
      (case vxd4 => k_is)
      (case vxs4 => k_is)
      (case vxg4 => k_is)
      (case vxh4 => k_is)
      (case vxb4 => k_is)
      (case vxc4 => k_is)
      (case vxk4 => k_is)
      (case vxn4 => first | exact rfl | decide +kernel | k_is)
      (case vxm4 => k_is)
      (case vxf4 => k_is)
      (case vxt4 => k_is)
      (case vin4 => k_is)
      (case vty4 => k_is)
      (case vlI4 => k_is)
      (case vcI4 => k_is)
      (case vkI4 => k_is)
      (case vcn5 => k_is)
      (case vxi5 => first | exact rfl | decide +kernel | k_is)
      (case vxo5 => first | exact rfl | decide +kernel | k_is)
      (case vxd5 => k_is)
      (case vxs5 => k_is)
      (case vxg5 => k_is)
      (case vxh5 => k_is)
      (case vxb5 => k_is)
      (case vxc5 => k_is)
      (case vxk5 => k_is)
      (case vxn5 => first | exact rfl | decide +kernel | k_is)
      (case vxm5 => k_is)
      (case vxf5 => k_is)
      (case vxt5 => k_is)
      (case vin5 => k_is)
      (case vty5 => k_is)
      (case vlI5 => k_is)
      (case vcI5 => k_is)
      (case vkI5 => k_is)
      (case vkit => first | exact rfl | decide +kernel | k_is)
      (case vk_ValueError => first | exact rfl | decide +kernel | k_is)
      (case y_ValueError => k_is)
      (case vk_LookupError => first | exact rfl | decide +kernel | k_is)
      (case y_LookupError => k_is)
      (case vexm => first | exact rfl | decide +kernel | k_is)
      (case hcd => exact rfl)
    (case nP => first | exact rfl | k_is | decide +kernel)
    (case cP => first | exact rfl | k_is | decide +kernel)
