import PyProof.Rows.All
import Wide.All
import OpenK.AllK
import Wide.FinOn
import HandS.ForMost
import HandS.Evl
import HandS.IsInst
import HandS.Style
import HandS.Zip
import HandS.SortInts
import HandS.Conv
import HandS.More
import KE.GoesEnum
import HandS.Walk
import HandS.NoneIn
import HandS.SetFor
import HandS.Deep
import HandS.RaiseMore
import PyProof.ReprReads
import HandS.TupAny
import HandS.Ends
import HandS.Codes
import HandS.Words
import HandS.DeepEq
import HandS.WrittenGet
import HandS.Star
import HandS.TupLe
import HandS.Nested
import KE.DataMinMax
import HandS.TupMul
import HandS.Dict
import HandS.Iter
import KE.SortData
import KE.DataCmp
import HandS.ExcInit
import HandS.ExcField
import KE.KExcInit
import KE.KExcIs
import KE.KTryMore
import HandS.WordsExc
import HandS.DictComp
import HandS.RevRange
import HandS.Wide
import KE.KTupSum
import HandS.Flow
import HandS.Strs
import KE.DataFind
import HandS.TupSets
import HandS.Finally
import OpenK.KOps
import KE.SortLaws
import HandS.MakeKwOnly
import HandS.FStr
import PySem.Challenge.RW_onlygroups_k80_whole_a_street_made_anew
set_option Elab.async false
set_option linter.all false
set_option maxRecDepth 100000
set_option maxHeartbeats 4000000
namespace OgR
open PySem PySem.Spec PyProof.Rows L2
section
variable {prog : Program} {w : World} {A : Around} {E : Value → Shared → Prop} {s : Shared}
/-- the items of a tuple, collected in a new list at the heap's end -/
theorem gather_tup {Q : List Value → Shared → Prop} {t : Addr} {o : Obj} {xs : Array Value} {m : Nat} (got : s.heap.get? t = some o) (cl : o.cls = .type "tuple")
    (dt : o.data = .seq xs m) (fits : xs.size ≤ sizeLine)
    (fin : Q xs.toList { s with heap := (s.heap.push (seqObj "list" #[] 0)).update s.heap.objs.size (Obj.mapSeq (· ++ xs)) }) :
    wpAny (model prog w) A (collect (.ref t)) Q E s := by
  have new1 : (s.heap.push (seqObj "list" #[] 0)).get? s.heap.objs.size = some (seqObj "list" #[] 0) := Heap.get?_push_size _ rfl
  have new2 := Heap.get?_update_self (Obj.mapSeq (· ++ xs)) new1 rfl
  unfold collect
  refine wpAny_bind (wpAny_runValue (codeAny_builtin F.entry_proto_collect ?_))
  rw [Around.under_plainId F.plain_proto_collect _]
  refine wpAny_bind (wpAny_newObj_type (wpAny_pure ⟨plainId_quiet F.plain_list_iadd _, codeAny_builtin F.entry_list_iadd ?_⟩))
  rw [Around.under_plainId F.plain_list_iadd _]
  refine wpAny_mono (wpAny_extend_seq (hsz := fits) (A := A) (R := fun r s' => r = .ok (.ret (.ref s.heap.objs.size)) ∧
      s' = { s with heap := (s.heap.push (seqObj "list" #[] 0)).update s.heap.objs.size (Obj.mapSeq (· ++ xs)) })
    (s := { s with heap := s.heap.push (seqObj "list" #[] 0) }) _ t _ 0 (.inr rfl) new1 (Heap.get?_push_of_some _ got) cl dt ⟨rfl, rfl⟩) (fun f s' g => ?_) (fun e s' g => absurd g.1 (by simp))
  have last : wpAny (model prog w) A (do
      match (← load s.heap.objs.size).data with
        | Data.seq ys _ => pure ys.toList
        | _ => unsupported "internal:collect") Q E { s with heap := (s.heap.push (seqObj "list" #[] 0)).update s.heap.objs.size (Obj.mapSeq (· ++ xs)) } := by
    refine wpAny_bind (wpAny_load new2 (wpAny_pure ?_))
    have e0 : ((#[] : Array Value) ++ xs).toList = xs.toList := by simp
    show Q ((#[] : Array Value) ++ xs).toList _
    rw [e0]
    exact fin
  cases f with
  | done r =>
    obtain ⟨e1, rfl⟩ := g
    cases e1
    exact last
  | again c => exact ⟨g.1, codeAny_mono g.2 fun r s2 gr => by
      obtain ⟨rfl, rfl⟩ := gr
      exact last⟩
end
def SqB (K : PySem.W.Frag) : Bool → Hp → Addr → List V → Prop
  | true, H, a, xs => SqT K H a xs
  | false, H, a, xs => SqL K H a xs
def SeqIs : Bool → Heap → Addr → Array Value → Prop
  | true, h, a, xs => h.IsTuple a xs
  | false, h, a, xs => h.IsList a xs
def ItIs : Bool → Heap → Addr → Addr → Nat → Prop
  | true, h, i, a, n => h.IsTupleIter i a n
  | false, h, i, a, n => h.IsListIter i a n
def itObj (b : Bool) (a : Addr) : Obj := { cls := .type (if b then "tuple_iterator" else "list_iterator"), data := .fields #[.ref a, .int 0 0] }
theorem seqB {X : Cx} {pins : List (Addr × Obj)} {σ : L2.St} {H : Hp} {s : Shared} {a : Addr} {xs : List V} {b : Bool} (I : Inv X pins σ H s) (h : SqB X.K b H a xs) :
    ∃ its : List Value, Vals xs its ∧ SeqIs b s.heap a its.toArray ∧ a < s.heap.objs.size := by
  cases b with
  | true =>
    obtain ⟨its, r, p, _⟩ := I.tuple h
    exact ⟨its, r, p, p.lt⟩
  | false =>
    obtain ⟨its, r, p, _⟩ := I.list h
    exact ⟨its, r, p.isList, p.lt⟩
theorem seqB_inj {X : Cx} {pins : List (Addr × Obj)} {σ : L2.St} {H : Hp} {s : Shared} {a : Addr} {xs ys : List V} {b : Bool} (I : Inv X pins σ H s) (h : SqB X.K b H a xs) (h' : SqB X.K b H a ys) : xs = ys := by
  cases b with
  | true => exact I.tuple_inj h h'
  | false => exact I.list_inj h h'
theorem drawsB {prog : Program} {w : World} {A : Around} (hh : A.handled = none) (b : Bool) (it a : Addr) (hne : a ≠ it) (items : Array Value) :
    Draws prog w A it [it, a] items.size (fun i v => items[i]? = some v) (fun i h => ItIs b h it a i ∧ SeqIs b h a items) := by
  cases b with
  | true => exact Draws.tuple hh it a hne items
  | false => exact Draws.list hh it a hne items
theorem beginsB (b : Bool) (a : Addr) (items : Array Value) : Begins (.ref a) (itObj b a) fun h => SeqIs b h a items := by
  cases b with
  | true => exact begins_tuple a items
  | false => exact begins_list a items
theorem itIs0 {b : Bool} {h : Heap} {i a : Addr} (e : h.get? i = some (itObj b a)) : ItIs b h i a 0 := by
  cases b with
  | true => exact ⟨_, e, rfl, rfl⟩
  | false => exact ⟨_, e, rfl, rfl⟩
theorem ItIs.obj {b : Bool} {h : Heap} {i a : Addr} {n : Nat} (x : ItIs b h i a n) : ∃ o, h.get? i = some o ∧ ∀ v, o.data ≠ .cell v := by
  cases b with
  | true =>
    obtain ⟨o, e, _, d⟩ := x
    exact ⟨o, e, fun v q => by rw [d] at q; cases q⟩
  | false =>
    obtain ⟨o, e, _, d⟩ := x
    exact ⟨o, e, fun v q => by rw [d] at q; cases q⟩
theorem ItIs.keep {b : Bool} {h h' : Heap} {i a : Addr} {n : Nat} (x : ItIs b h i a n) (k : ∀ o, h.get? i = some o → h'.get? i = some o) : ItIs b h' i a n := by
  cases b with
  | true => exact Heap.IsTupleIter.at x k
  | false => exact Heap.IsListIter.at x k
end OgR
namespace OgR
open PySem PySem.Spec PyProof.Rows L2
def ItzB (K : PySem.W.Frag) (b1 b2 : Bool) (a1 a2 : Addr) : It where
  go := fun i H => ∃ (xs ys : List V) (x y : V), SqB K b1 H a1 xs ∧ SqB K b2 H a2 ys ∧ xs[i]? = some x ∧ ys[i]? = some y
  yld := fun i H v H' => ∃ T x y, v = .ref T ∧ H T = none ∧ H' = upd H T (.tup [x, y]) ∧ (∀ xs, SqB K b1 H a1 xs → xs[i]? = some x) ∧ ∀ ys, SqB K b2 H a2 ys → ys[i]? = some y
  stop := fun i H => ∃ xs ys : List V, SqB K b1 H a1 xs ∧ SqB K b2 H a2 ys ∧ i ≤ xs.length ∧ i ≤ ys.length ∧ (i = xs.length ∨ i = ys.length)
theorem turn_zipB {P : Program} {w : World} {K : PySem.W.Frag} {elts : List Expr} {kk : Nat} {tpos : Pos} {b1 b2 : Bool} {a1 a2 z TI TO i1 i2 : Addr} (S : ZipSep2 z TI TO i1 i2 [i1, a1] [i2, a2]) (n1 : a1 ≠ i1) (n2 : a2 ≠ i2) :
    Turn P w K (.Tuple elts kk tpos) (ItzB K b1 b2 a1 a2) [z, TI, TO, i1, i2] z
      (fun i h => IsZip h z TI TO .none ∧ IsTupOf2 h TI (.ref i1) (.ref i2) ∧ (∃ x y, IsTupOf2 h TO x y) ∧ ItIs b1 h i1 a1 i ∧ ItIs b2 h i2 a2 i) where
  mem := List.mem_cons_self ..
  obj := fun i h st c hc => by
    obtain ⟨hz, hTI, ⟨x, y, hTO⟩, h1, h2⟩ := st
    have q : c = z ∨ c = TI ∨ c = TO ∨ c = i1 ∨ c = i2 := by simpa using hc
    rcases q with rfl | rfl | rfl | rfl | rfl
    · exact ⟨_, hz, fun v q => nomatch q⟩
    · exact ⟨_, hTI, fun v q => nomatch q⟩
    · exact ⟨_, hTO, fun v q => nomatch q⟩
    · exact h1.obj
    · exact h2.obj
  keep := fun i h h' st k => by
    obtain ⟨hz, hTI, ⟨x, y, hTO⟩, h1, h2⟩ := st
    exact ⟨k z (by simp) _ hz, k TI (by simp) _ hTI, ⟨x, y, k TO (by simp) _ hTO⟩, h1.keep (k i1 (by simp)), h2.keep (k i2 (by simp))⟩
  item := by
    intro X hP hw hK hc i pins s σ H E I hf st hg
    subst hP hw hK
    obtain ⟨hz, hTI, ⟨x0, y0, hTO⟩, h1, h2⟩ := st
    obtain ⟨xs, ys, x, y, qx, qy, hx, hy⟩ := hg
    obtain ⟨us1, rv1, sq1, _⟩ := seqB I qx
    obtain ⟨us2, rv2, sq2, _⟩ := seqB I qy
    obtain ⟨u1, e1, r1⟩ := rv1.get hx
    obtain ⟨u2, e2, r2⟩ := rv2.get hy
    have ltz : z < s.heap.objs.size := Heap.lt_size hz
    have lt1 : i < us1.toArray.size := by
      have q := (List.getElem?_eq_some_iff.mp e1).1
      simpa using q
    have lt2 : i < us2.toArray.size := by
      have q := (List.getElem?_eq_some_iff.mp e2).1
      simpa using q
    refine wpAny_pyNext_zipD2_item S (drawsB (by exact I.ok.hd hc) b1 i1 a1 n1 us1.toArray) (drawsB (by exact I.ok.hd hc) b2 i2 a2 n2 us2.toArray) hz hTI hTO ⟨h1, sq1⟩ ⟨h2, sq2⟩ lt1 lt2
      fun v1 v2 h' tk p1 p2 z' TO' st1 st2 hT hsz hk => ?_
    have ev1 : v1 = u1 := by
      have q : us1[i]? = some v1 := by simpa using p1
      rw [e1] at q
      exact (Option.some.inj q).symm
    have ev2 : v2 = u2 := by
      have q : us2[i]? = some v2 := by simpa using p2
      rw [e2] at q
      exact (Option.some.inj q).symm
    subst ev1 ev2
    refine ⟨_, rfl, wpAny_letOwnedTupleGo_zip (s := { s with heap := h', toks := tk }) z' fun h2' z2 sb => ?_⟩
    have atT : h2'.get? s.heap.objs.size = some { cls := .type "tuple", data := .seq #[v1, v2] } := (sb.2 _ (Nat.ne_of_gt ltz)).trans hT
    have I1 : Inv X pins σ (upd H s.heap.objs.size (.tup [x, y])) { s with heap := h2', toks := tk } := by
      refine I.turnedNew (ch := [z, TI, TO, i1, i2]) (fun c oc hcn q => ?_) hf (Nat.le_refl _) ⟨by show 2 ≤ sizeLine; decide, [v1, v2], .cons r1 (.cons r2 .nil), ⟨_, atT, rfl, _, rfl⟩⟩
      have g : ∀ d, d ∈ [z, TI, TO, i1, i2] → c ≠ d := fun d hd e => hcn (e ▸ hd)
      exact (sb.2 c (g z (by simp))).trans (hk c oc (g z (by simp)) (g TO (by simp)) (g i1 (by simp)) (g i2 (by simp)) q)
    refine ⟨.ref s.heap.objs.size, _, I1, rfl, ⟨_, x, y, rfl, I.hok.fresh (Nat.le_refl _), rfl, fun l hl => by rw [seqB_inj I hl qx]; exact hx, fun l hl => by rw [seqB_inj I hl qy]; exact hy⟩, ⟨z2, ?_, ⟨v1, v2, ?_⟩, ?_, ?_⟩, fun c hcm => ?_⟩
    · exact (sb.2 _ S.TIz).trans (hk _ _ S.TIz S.TITO S.TIi1 S.TIi2 hTI)
    · exact (sb.2 _ S.TOz).trans TO'
    · exact st1.1.keep fun o q => (sb.2 _ (Ne.symm S.zi1)).trans q
    · exact st2.1.keep fun o q => (sb.2 _ (Ne.symm S.zi2)).trans q
    · have ltc : c < s.heap.objs.size := by
        have q : c = z ∨ c = TI ∨ c = TO ∨ c = i1 ∨ c = i2 := by simpa using hcm
        rcases q with rfl | rfl | rfl | rfl | rfl
        · exact ltz
        · exact Heap.lt_size hTI
        · exact Heap.lt_size hTO
        · obtain ⟨_, q, _⟩ := h1.obj
          exact Heap.lt_size q
        · obtain ⟨_, q, _⟩ := h2.obj
          exact Heap.lt_size q
      rw [upd_ne (Nat.ne_of_lt ltc)]
      exact (hf c hcm).1
  done := by
    intro X hP hw hK hc i pins s σ H E I hf st hg
    subst hP hw hK
    obtain ⟨hz, hTI, ⟨x0, y0, hTO⟩, h1, h2⟩ := st
    obtain ⟨xs, ys, qx, qy, l1, l2, hend⟩ := hg
    obtain ⟨us1, rv1, sq1, _⟩ := seqB I qx
    obtain ⟨us2, rv2, sq2, _⟩ := seqB I qy
    have m1 : xs.length = us1.toArray.size := by
      have q := rv1.length
      simpa using q
    have m2 : ys.length = us2.toArray.size := by
      have q := rv2.length
      simpa using q
    refine wpAny_pyNext_zipD2_end S (drawsB (by exact I.ok.hd hc) b1 i1 a1 n1 us1.toArray) (drawsB (by exact I.ok.hd hc) b2 i2 a2 n2 us2.toArray) hz hTI hTO ⟨h1, sq1⟩ ⟨h2, sq2⟩ (by omega) (by omega) (by omega) fun h' tk hk => ⟨rfl, ?_⟩
    refine I.turnedL (t' := tk) (ch := [z, TI, TO, i1, i2]) (fun c oc hcn q => ?_) hf
    have g : ∀ d, d ∈ [z, TI, TO, i1, i2] → c ≠ d := fun d hd e => hcn (e ▸ hd)
    exact hk c oc (g z (by simp)) (g TO (by simp)) (g i1 (by simp)) (g i2 (by simp)) q
  self := fun A i s Q E st h => wpAny_pyIter_zip st.1 h
def iZipB (K : PySem.W.Frag) (ta : TA) : TI := fun σ H R => ta σ H fun vs H1 => ∃ b1 b2 a1 a2 xs ys, vs = [.ref a1, .ref a2] ∧ SqB K b1 H1 a1 xs ∧ SqB K b2 H1 a2 ys ∧ R (ItzB K b1 b2 a1 a2) H1
theorem pi_zipB {X : Cx} {e e2 : Expr} {ta : TA} {p pos tpos : Pos} {elts : List Expr} {kk : Nat} (hg : Gl X "zip") (hm : X.mg "zip" = none) (ha : PA X [e, e2] ta)
    (hs : starEach [e, e2] X.env = (false, eval e X.env) :: starEach [e2] X.env := by rfl) (hpl : (backTo pos (starEach [e2] X.env)).any (·.1) = false := by rfl) :
    PI X (.Tuple elts kk tpos) (.Call (.Name "zip" p) [e, e2] [] pos) (iZipB X.K ta) := by
  refine ⟨fun pins s σ H R I h => ?_⟩
  refine Call_ (ld_blt I hg hm boot_zip (callWith_type1 (thn (ha.run pos pins s σ H _ I h) fun us s1 ⟨vs, H1, I1, r1, g⟩ => ?_) hs hpl))
  obtain ⟨b1, b2, a1, a2, xs, ys, ex, qx, qy, q⟩ := g
  subst ex
  obtain ⟨u, w', eus, ru, rw'⟩ := vals2 r1
  subst eus
  cases ru
  cases rw'
  obtain ⟨us1, rv1, sq1, lt1⟩ := seqB I1 qx
  obtain ⟨us2, rv2, sq2, lt2⟩ := seqB I1 qy
  refine zip_begins2 (beginsB b1 a1 us1.toArray) (beginsB b2 a2 us2.toArray) sq1 sq2 fun h' hz hTI hTO g1 g2 hsz hk => wpAny_pyIter_zip hz ?_
  have S := zip_sep2 (N := s1.heap.objs.size) (fp1 := [a1]) (fp2 := [a2]) (fun b hb => by rw [List.mem_singleton.mp hb]; exact lt1) (fun b hb => by rw [List.mem_singleton.mp hb]; exact lt2)
  refine ⟨s1.heap.objs.size + 4, [s1.heap.objs.size + 4, s1.heap.objs.size + 2, s1.heap.objs.size + 3, s1.heap.objs.size, s1.heap.objs.size + 1], _, _, H1, rfl, I1.kept (t' := s1.toks) hk,
    turn_zipB S (Nat.ne_of_lt lt1) (Nat.ne_of_lt (Nat.lt_succ_of_lt lt2)), ⟨hz, hTI, ⟨_, _, hTO⟩, itIs0 g1, itIs0 g2⟩, fun c hcm => ?_, q⟩
  have hle : s1.heap.objs.size ≤ c := by
    have e' : c = s1.heap.objs.size + 4 ∨ c = s1.heap.objs.size + 2 ∨ c = s1.heap.objs.size + 3 ∨ c = s1.heap.objs.size ∨ c = s1.heap.objs.size + 1 := by simpa using hcm
    rcases e' with q | q | q | q | q <;> rw [q] <;> first | exact Nat.le_add_right _ _ | exact Nat.le_refl _
  exact I1.fpOk hle (I1.hok.fresh hle)
theorem SqB.ex {K : PySem.W.Frag} {b : Bool} {H H' : Hp} {a : Addr} {xs : List V} (e : Evl.Ex H H') (h : SqB K b H a xs) : SqB K b H' a xs := by
  cases b with
  | true => exact Evl.ex_t e h
  | false => exact Evl.ex_l e h
def ItsB (K : PySem.W.Frag) (b : Bool) (a : Addr) : It where
  go := fun i H => ∃ xs x, SqB K b H a xs ∧ xs[i]? = some x
  yld := fun i H x H' => H' = H ∧ ∀ xs, SqB K b H a xs → xs[i]? = some x
  stop := fun i H => ∃ xs, SqB K b H a xs ∧ xs.length ≤ i
theorem turn_seqB {P : Program} {w : World} {K : PySem.W.Frag} {tg : Expr} (b : Bool) (a it : Addr) : Turn P w K tg (ItsB K b a) [it] it (fun i h => ItIs b h it a i) := by
  cases b with
  | true => exact turn_tuple a it
  | false => exact turn_list a it
def iSeqB (K : PySem.W.Frag) (tl : TE) : TI := fun σ H R => tl σ H fun x H1 => ∃ b a xs, x = .ref a ∧ SqB K b H1 a xs ∧ R (ItsB K b a) H1
theorem pi_seqB {X : Cx} {tg l : Expr} {tl : TE} (hl : PE X l tl) : PI X tg l (iSeqB X.K tl) := by
  refine ⟨fun pins s σ H R I h => thn (hl.run pins s σ H _ I h) fun v s1 ⟨x, H1, I1, r1, g⟩ => ?_⟩
  obtain ⟨b, a, xs, e, hq, q⟩ := g
  subst e
  cases r1
  obtain ⟨its, rv, hsq, lt⟩ := seqB I1 hq
  refine (beginsB b a its.toArray).iter _ _ _ _ _ _ hsq ?_
  refine ⟨s1.heap.objs.size, [s1.heap.objs.size], _, _, H1, rfl, I1.kept (t' := s1.toks) fun c o e => Heap.get?_push_of_some _ e, turn_seqB b a _, itIs0 (Heap.get?_push_size _ (beginsB b a its.toArray).free), fun c hc => ?_, q⟩
  rw [List.mem_singleton.mp hc]
  exact I1.fpOk (Nat.le_refl _) (I1.hok.fresh (Nat.le_refl _))
theorem walk_seqB {K : PySem.W.Frag} {b : Bool} {a : Addr} {xs : List V} : Walk (ItsB K b a) xs.length (fun H => SqB K b H a xs) (fun i H v H' => H' = H ∧ xs[i]? = some v) where
  goes := fun i H hi h => ⟨xs, xs[i], h, List.getElem?_eq_getElem hi⟩
  stops := fun H h => ⟨xs, h, Nat.le_refl _⟩
  yields := fun i H v H' hi h y => ⟨y.1, y.2 xs h⟩
theorem PG.or {X : Cx} {e : Expr} {g1 g2 : TG} (h1 : PG X e g1) (h2 : PG X e g2) : PG X e (fun v σ H Q => g1 v σ H Q ∨ g2 v σ H Q) :=
  ⟨fun pins s σ H v u Q I r h => by
    rcases h with h | h
    · exact h1.run pins s σ H v u Q I r h
    · exact h2.run pins s σ H v u Q I r h⟩
theorem CallR.or {X : Cx} {f : Value} {r1 r2 : List V → Hp → VK → Prop} (h1 : CallR X f r1) (h2 : CallR X f r2) : CallR X f (fun vs H Q => r1 vs H Q ∨ r2 vs H Q) := by
  intro pins s σ H vs us Q I r h
  rcases h with h | h
  · exact h1 pins s σ H vs us Q I r h
  · exact h2 pins s σ H vs us Q I r h
/-- unpacking a pair: a tuple or a list of n items -/
def gSeqB (K : PySem.W.Frag) (n : Nat) (t : TGs) : TG := fun v σ H Q => ∃ b a xs, v = .ref a ∧ SqB K b H a xs ∧ xs.length = n ∧ t xs σ H Q
theorem pg_seqB {X : Cx} {es : List Expr} {k : Nat} {pos : Pos} {t : TGs} {n : Nat} (hc : X.calm = true) (h : PGs X es t)
    (hn : (assignEach es X.env).length = n := by rfl) (hst : (assignEach es X.env).findIdx? (·.1) = none := by rfl) : PG X (.Tuple es k pos) (gSeqB X.K n t) :=
  ⟨fun pins s σ H v u Q I r hw => by
    obtain ⟨b, a, xs, e1, hq, hl, hw⟩ := hw
    cases b with
    | true => exact (pg_tup hc h hn hst).run pins s σ H v u Q I r ⟨a, xs, e1, hq, hl, hw⟩
    | false => exact (pg_unl hc h hn hst).run pins s σ H v u Q I r ⟨a, xs, e1, hq, hl, hw⟩⟩
/-- s[i], s a list or a tuple -/
def rIxB (K : PySem.W.Frag) : R2 := fun x y H Q => ∃ (b : Bool) (p : Addr) (xs : List V) (i : Int) (v : V), x = .ref p ∧ y = .int i ∧ SqB K b H p xs ∧ atI xs i = some v ∧ Q v H
theorem ix_B {X : Cx} : IxR X (rIxB X.K) := by
  have h : IxR X (rIx X.K) := ix_seq
  refine fun va sl pins s σ H x y u w Q I rx ry g hp => h va sl pins s σ H x y u w Q I rx ry ?_ hp
  obtain ⟨b, p, xs, i, v, e1, e2, hq, ha, q⟩ := g
  cases b with
  | true => exact .inr (.inl ⟨p, xs, i, v, e1, e2, hq, ha, q⟩)
  | false => exact .inl ⟨p, xs, i, v, e1, e2, hq, ha, q⟩
end OgR
namespace OgR
open PySem PySem.Spec PyProof.Rows L2
end OgR
namespace OgR
open PySem PySem.Spec PyProof.Rows L2
end OgR
namespace OgR
open PySem PySem.Spec PyProof.Rows L2
end OgR
namespace OgR
open PySem PySem.Spec PyProof.Rows L2
section
variable {P : Program} {w : World} {K : PySem.W.Frag} {mg : Str → Option Value} {base : Heap}
/-- the promise of a def for callers of whom no repr is under way -/
def FnG (P : Program) (w : World) (K : PySem.W.Frag) (mg : Str → Option Value) (base : Heap) (k : Nat) (f : Addr) (fd : FuncData) (ps : List Str) (sp : Sp) : Prop :=
  (∀ vs H Q E, sp vs H Q E → vs.length = ps.length) ∧
  ∀ (A : Around) (outer : List Env) (s : Shared) (H : Hp) (args : Args) (us : List Value) (vs : List V) (Q : VK) (E : XK), A.guards = some [] → Room k A → Env0 P w K mg base A outer s H → BindsTo s fd args (ps.zip us) → Vals vs us →
    sp vs H Q E → codeAny (model P w) A (.call (.ref f) args) (CR CX0 outer P w H s Q E) s
theorem fnG_of {x qual : Str} {st : Stmt} {f : Addr} {fd : FuncData} {N ps : List Str} {k : Nat} {sp : Sp} (F : Fun K x qual st f fd) (S : FnScope N ps (defScope st)) (hl : ∀ vs H Q E, sp vs H Q E → vs.length = ps.length)
    (body : ∀ (cdv : Value) (A : Around) (outer : List Env) (s : Shared) (H : Hp) (vs : List V) (Q : VK) (E : XK), A.guards = some [] → Room k (A.deeper (envOfC qual (defScope st) s.heap.objs.size f cdv)) → sp vs H Q E →
      ∃ t, PSs (cxOf CX0 P w K mg base N qual (defScope st) f cdv A outer s H E).nox (defBody st) t ∧ t { nx := fun _ H' => Q .non H', rt := Q } (start N vs) H) : FnG P w K mg base (k + 1) f fd ps sp := by
  obtain ⟨oc, od, kV, doc, pm, an, cdv, ct, osl, rfl, lk, hcd⟩ := F.ex
  refine ⟨hl, fun A outer s H args us vs Q E hG hr e0 hb r hsp => ?_⟩
  have here : ∀ b o, base.get? b = some o → s.heap.get? b = some o := fun b o e => (e0.bs b o e).1
  have KX : K.In s.heap := e0.mod.kin.keeps here
  refine codeAny_call_function hr.depth (KX _ _ lk) rfl S.co S.gen rfl (PySem.W.codeRec_of KX hcd) (hb _ _ _ _ (wpAny_newFunctionEnv_cells S.kind ?_ fun env he s1 y => ?_))
  · rintro ⟨n, v⟩ hy
    exact (S.par n (List.of_mem_zip hy).1).imp id fun q => ⟨q, PySem.W.cellsFrom_some _ _ _ (.inl q)⟩
  · subst he
    obtain ⟨t, ht, hq⟩ := body cdv A outer s H vs Q E hG (hr.deeper _) hsp
    have I := inv_start (CX := CX0) (E := E) S hr.hd e0 (hl _ _ _ _ hsp) r y
    refine ⟨(e0.mod.nolimit.keeps here).keeps y.toInCall.keep, codeAny_func (wpAny_mono (ht.nox.run [] s1 (start N vs) H _ I hq) ?_ fun e s' hs => hs)⟩
    rintro (_ | _ | _ | u) s' hs
    all_goals first
      | (obtain ⟨v, σ', H', J, rv, q⟩ := hs; exact ⟨v, H', J.os, J.bare, J.base, J.hok, rv, q⟩)
      | (obtain ⟨σ', H', J, q⟩ := hs; exact ⟨V.non, H', J.os, J.bare, J.base, J.hok, rfl, q⟩)
      | (obtain ⟨_, _, _, q⟩ := hs; exact q.elim)
end
section
variable {X : Cx} {k : Nat} {f : Addr} {fd : FuncData} {ps : List Str} {sp : Sp} {E : XK} {x : Str} {p pos : Pos} {e : Expr} {es : List Expr} {t : TA}
theorem pe_callG (F : FnG X.prog X.w X.K X.mg X.base k f fd ps sp) (hG : X.A.guards = some []) (hr : Room k X.A) (hg : Gl X x) (hm : X.mg x = some (.ref f)) (hk : PySem.W.keepIn X.K (.ref f) = true) (hb : Binds X.K fd ps [])
    (ha : PA X (e :: es) t) (hdb : (x == ("__debug__" : Str)) = false := by decide) (he : starEach (e :: es) X.env = (false, eval e X.env) :: starEach es X.env := by rfl) (hpl : (backTo pos (starEach es X.env)).any (·.1) = false := by rfl) :
    PE X (.Call (.Name x p) (e :: es) [] pos) (tCall sp [] E t) := by
  refine ⟨fun pins s σ H Q I h => wpAny_Call_Name_kw (ld_glob I hg hm ?_ hdb)⟩
  refine PySem.W.callWith_K (h₀ := X.base) I.ok.mod.kin hk (thn (ha.run pos pins s σ H _ I h) fun us s1 ⟨vs, H1, I1, r, q⟩ => ⟨I1.kIn, ?_⟩) he hpl
  have q' : sp (vs ++ []) H1 Q E := q
  rw [List.append_nil] at q'
  have hl : us.length = ps.length := by rw [← r.length]; exact F.1 _ _ _ _ q'
  have hb' := hb s1 us I1.kIn (by rw [List.append_nil]; exact hl)
  rw [List.append_nil] at hb'
  refine wpAny_call (codeAny_mono (F.2 X.A X.stack s1 H1 ⟨us, []⟩ us vs Q E hG hr I1.env0 hb' r q') ?_)
  rintro (e | _ | _ | _ | u) s' hq
  all_goals first
    | exact I1.after hq
    | exact False.elim hq
end
end OgR
namespace OgR
open PySem PySem.Spec PyProof.Rows L2
def scriptH (K : PySem.W.Frag) (a : Addr) (ob : Obj) (ns : List Int) : Hp := fun b => if b = a ∧ K.lookup a = none then some (.frz ob (.lst (ns.map V.int))) else none
theorem scriptH_some {K : PySem.W.Frag} {a b : Addr} {ob : Obj} {ns : List Int} {u : HO} (h : scriptH K a ob ns b = some u) : b = a ∧ K.lookup a = none ∧ u = .frz ob (.lst (ns.map V.int)) := by
  unfold scriptH at h
  split at h
  · rename_i c
    exact ⟨c.1, c.2, (Option.some.inj h).symm⟩
  · cases h
theorem law_runG {P : Program} {w : World} {K : PySem.W.Frag} {mg mb : Str → Option Value} {k : Nat} {fa a : Addr} {fd : FuncData} {x : Str} {sp : Sp} {s : Shared} {vs : List Value} {ns : List Int}
    (KX : K.In s.heap) (gl : s.heap.Ns mainGlobals mg) (bl : s.heap.Ns builtinsNs mb) (blt : ∀ x : Str, x ≠ "__name__" → mb x = bootBuiltins x) (lim : s.heap.NoLimit) (gn : s.gens = #[])
    (ha : s.heap.get? a = some { cls := .type "list", data := .seq vs.toArray }) (hi : IntsAre vs ns) (hl : ns.length ≤ sizeLine) (hr : Room k callerA)
    (F : ∀ base : Heap, K.In base → base.Ns mainGlobals mg → FnG P w K mg base k fa fd [x] sp) (bind : ∀ (s : Shared) (u : Value), BindsTo s fd ⟨[u], []⟩ [(x, u)])
    (hsp : ∀ H : Hp, SqL K H a (ns.map V.int) → sp [.ref a] H (fun v _ => v = .bl true) fun _ _ _ => False) :
    codeAny (model P w) callerA (.call (.ref fa) ⟨[.ref a], []⟩) (fun r s' => r = .ok (.ret (.bool true)) ∧ OldK s.heap s'.heap ∧ s'.os = s.os ∧ AllBare s'.gens) s := by
  have rv := vals_ints hi
  have hz : (ns.map V.int).length ≤ sizeLine := by rw [List.length_map]; exact hl
  generalize hH : scriptH K a { cls := .type "list", data := .seq vs.toArray } ns = H
  have tr : ∀ {b : Addr} {u : HO}, H b = some u → b = a ∧ K.lookup a = none ∧ u = .frz { cls := .type "list", data := .seq vs.toArray } (.lst (ns.map V.int)) := fun {b u} e => by
    rw [← hH] at e
    exact scriptH_some e
  have seq : SqL K H a (ns.map V.int) := by
    cases hk : K.lookup a with
    | none => exact .inl (.inr ⟨_, by rw [← hH]; exact if_pos ⟨rfl, hk⟩⟩)
    | some o =>
      have e := KX a o hk
      rw [ha] at e
      cases e
      exact .inr ⟨_, vs.toArray, _, hk, rfl, rfl, rfl, by rw [List.size_toArray, hi.length]; exact hl, by simpa using rv⟩
  have hok : HOk P w H s.heap := fun b u e => by
    obtain ⟨rfl, -, rfl⟩ := tr e
    exact ⟨ha, hz, vs, _, rv, ha⟩
  have kept : ∀ {b : Addr} {m : Str → Option Value}, s.heap.Ns b m → (hidT s.heap H).Ns b m := fun {b m} ⟨o, es, ep, e, d, r⟩ => ⟨o, es, ep, hidT_get e (by
    cases q : H b with
    | none => rfl
    | some u =>
      obtain ⟨rfl, -, -⟩ := tr q
      rw [ha] at e
      cases e
      cases d), d, r⟩
  have KB : K.In (hidT s.heap H) := fun b o e => hidT_get (KX b o e) (by
    cases q : H b with
    | none => rfl
    | some u =>
      obtain ⟨rfl, n, -⟩ := tr q
      rw [n] at e
      cases e)
  have M : Mod K mg (hidT s.heap H) := ⟨KB, kept gl, ⟨mb, kept bl, blt⟩, let ⟨mc, h1, h2⟩ := lim; ⟨mc, kept h1, h2⟩⟩
  have nofr : ∀ b : Addr, b ∉ frs [] := fun b hb => absurd (show b ∈ ([] : List Addr) from hb) (by simp)
  have e0 : Env0 P w K mg (hidT s.heap H) callerA [] s H := ⟨rfl, M, fun b o e => of_hidT e, Nat.le_of_eq (hidT_size _ _), trivial, fun b hb => absurd hb (nofr b), hok, .of_eq gn⟩
  refine codeAny_mono ((F _ KB (kept gl)).2 callerA [] s H ⟨[.ref a], []⟩ [.ref a] [.ref a] _ _ rfl hr e0 (bind s (.ref a)) (.cons rfl .nil) (hsp H seq)) ?_
  rintro (e | _ | _ | _ | u) s' h
  all_goals first
    | exact False.elim h
    | skip
  obtain ⟨v, H', os, bare, un, hok', r', q⟩ := h
  have q' : v = .bl true := q
  subst q'
  obtain rfl : u = Value.bool true := r'
  refine ⟨rfl, OldK.of_keep fun b o e => ?_, os, bare⟩
  cases q2 : H b with
  | none => exact un.keep b o e q2 (nofr b) (by simp)
  | some u =>
    obtain ⟨rfl, -, rfl⟩ := tr q2
    rw [ha] at e
    cases e
    exact (hok' _ _ (un.frzs _ _ _ q2)).1
theorem walk_G {l : PySem.W.OpenLaw} {n k : Nat} {q : Program} {loose : List Str} {XP : (Str → Option Value) → Heap → Prop} {YP : World → Heap → Prop} {d : DefRec} {K : Params → PySem.W.Frag} {sp : World → Sp} {x : Str}
    (hn : l.most = some n) (hn2 : n ≤ sizeLine) (hdf : d.params.defaults = []) (hr : Room k callerA) (hY : ∀ (w : World) (h : Heap), YP w h → (K w.params).In h)
    (F : ∀ (w : World) (mg : Str → Option Value) (fa : Addr) (h : Heap), (K w.params).In h → h.Ns mainGlobals mg → mg d.name = some (.ref fa) →
      ∃ fd : FuncData, (∀ (s : Shared) (u : Value), BindsTo s fd ⟨[u], []⟩ [(x, u)]) ∧ ∀ base : Heap, (K w.params).In base → base.Ns mainGlobals mg → FnG l.prog w (K w.params) mg base k fa fd [x] (sp w))
    (hsp : ∀ (w : World) (H : Hp) (a : Addr) (ns : List Int), ns.length ≤ n → SqL (K w.params) H a (ns.map V.int) → sp w [.ref a] H (fun v _ => v = .bl true) fun _ _ _ => False) :
    PySem.W.WalkO q loose XP YP l.row.toRowW d [] (fun f vs => PySem.call f vs) := by
  refine Att.attach_call hn hdf fun w s₀ s₁ mg mb fa o pm cd doc a vs ns G Y ho hd hcd hmg hobj hints hlen hg => ?_
  obtain ⟨fd, hb, hF⟩ := F w mg fa _ (hY w _ Y) G.T.g hmg
  exact law_runG (hY w _ Y) G.T.g G.T.b G.T.builtins G.T.nolimit hg hobj hints (Nat.le_trans hlen hn2) hr hF hb fun H hS => hsp w H a ns hlen hS
end OgR
namespace Dw
open PySem PySem.Spec PyProof.Rows L2 OgR Evl
mutual
inductive Dp (K : PySem.W.Frag) (G : Hp) : V → PyData → Prop
  | non : Dp K G .non .none
  | bl (b : Bool) : Dp K G (.bl b) (.bool b)
  | int (i : Int) : Dp K G (.int i) (.int i)
  | str (x : Str) : Dp K G (.str x) (.str x)
  | lst {a : Addr} {xs : List V} {ds : List PyData} (h : G a = some (.lst xs)) (t : DpAll K G xs ds) : Dp K G (.ref a) (.list ds)
  | tup {a : Addr} {xs : List V} {ds : List PyData} (h : SqT K G a xs) (t : DpAll K G xs ds) : Dp K G (.ref a) (.tuple ds)
inductive DpAll (K : PySem.W.Frag) (G : Hp) : List V → List PyData → Prop
  | nil : DpAll K G [] []
  | cons {v : V} {vs : List V} {d : PyData} {ds : List PyData} (h : Dp K G v d) (t : DpAll K G vs ds) : DpAll K G (v :: vs) (d :: ds)
end
mutual
theorem Dp.up {K : PySem.W.Frag} {G : Hp} : ∀ {d : PyData} {v : V}, Dp K G v d → L2.Dp K G v d
  | _, _, .non => .non
  | _, _, .bl b => .bl b
  | _, _, .int i => .int i
  | _, _, .str x => .str x
  | _, _, .lst h t => .lst (.inl (.inl h)) t.up
  | _, _, .tup h t => .tup h t.up
theorem DpAll.up {K : PySem.W.Frag} {G : Hp} : ∀ {ds : List PyData} {vs : List V}, DpAll K G vs ds → L2.DpAll K G vs ds
  | _, _, .nil => .nil
  | _, _, .cons h t => .cons h.up t.up
end
instance {K : PySem.W.Frag} {G : Hp} {v : V} {d : PyData} : Coe (Dp K G v d) (L2.Dp K G v d) := ⟨Dp.up⟩
instance {K : PySem.W.Frag} {G : Hp} {vs : List V} {ds : List PyData} : Coe (DpAll K G vs ds) (L2.DpAll K G vs ds) := ⟨DpAll.up⟩
theorem Dp.reads {X : Cx} {pins : List (Addr × Obj)} {σ : L2.St} {H : Hp} {s : Shared} (I : Inv X pins σ H s) (d : PyData) (v : V) (u : Value) (h : Dp X.K H v d) (r : RelV v u) : ∃ as, Reads s.heap u d as := L2.Dp.reads I d v u h.up r
theorem Dp.readsAll {X : Cx} {pins : List (Addr × Obj)} {σ : L2.St} {H : Hp} {s : Shared} (I : Inv X pins σ H s) (ds : List PyData) (vs : List V) (us : List Value) (h : DpAll X.K H vs ds) (r : Vals vs us) : ∃ as, ReadsAll s.heap us ds as := L2.Dp.readsAll I ds vs us h.up r
mutual
theorem dp_ex {K : PySem.W.Frag} {H H' : Hp} (e : Ex H H') : ∀ {d : PyData} {v : V}, Dp K H v d → Dp K H' v d
  | _, _, .non => .non
  | _, _, .bl b => .bl b
  | _, _, .int i => .int i
  | _, _, .str x => .str x
  | _, _, .lst h t => .lst (e _ _ h) (dpa_ex e t)
  | _, _, .tup h t => .tup (ex_t e h) (dpa_ex e t)
theorem dpa_ex {K : PySem.W.Frag} {H H' : Hp} (e : Ex H H') : ∀ {ds : List PyData} {vs : List V}, DpAll K H vs ds → DpAll K H' vs ds
  | _, _, .nil => .nil
  | _, _, .cons h t => .cons (dp_ex e h) (dpa_ex e t)
end
theorem dpa_get {K : PySem.W.Frag} {H : Hp} : ∀ {ds : List PyData} {vs : List V} {i : Nat} {v : V}, DpAll K H vs ds → vs[i]? = some v → ∃ d, ds[i]? = some d ∧ Dp K H v d
  | _, _, _, _, .nil, e => by simp at e
  | _, _, 0, _, .cons h _, e => by
    simp at e
    subst e
    exact ⟨_, rfl, h⟩
  | _, _, i + 1, _, .cons _ t, e => dpa_get (i := i) t (by simpa using e)
theorem dpa_back {K : PySem.W.Frag} {H : Hp} : ∀ {ds : List PyData} {vs : List V} {i : Nat} {d : PyData}, DpAll K H vs ds → ds[i]? = some d → ∃ v, vs[i]? = some v ∧ Dp K H v d
  | _, _, _, _, .nil, e => by simp at e
  | _, _, 0, _, .cons h _, e => by
    simp at e
    subst e
    exact ⟨_, rfl, h⟩
  | _, _, i + 1, _, .cons _ t, e => dpa_back (i := i) t (by simpa using e)
theorem dpa_len {K : PySem.W.Frag} {H : Hp} : ∀ {ds : List PyData} {vs : List V}, DpAll K H vs ds → vs.length = ds.length
  | _, _, .nil => rfl
  | _, _, .cons _ t => by rw [List.length_cons, List.length_cons, dpa_len t]
theorem dpa_app {K : PySem.W.Frag} {H : Hp} : ∀ {xs ys : List V} {ds es : List PyData}, DpAll K H xs ds → DpAll K H ys es → DpAll K H (xs ++ ys) (ds ++ es)
  | _, _, _, _, .nil, h => h
  | _, _, _, _, .cons a b, h => .cons a (dpa_app b h)
theorem dpa_take {K : PySem.W.Frag} {H : Hp} : ∀ {xs : List V} {ds : List PyData} (j : Nat), DpAll K H xs ds → DpAll K H (xs.take j) (ds.take j)
  | _, _, 0, _ => by simp only [List.take_zero]; exact .nil
  | _, _, _ + 1, .nil => by simp only [List.take_nil]; exact .nil
  | _, _, j + 1, .cons h t => .cons h (dpa_take j t)
theorem dpa_drop {K : PySem.W.Frag} {H : Hp} : ∀ {xs : List V} {ds : List PyData} (j : Nat), DpAll K H xs ds → DpAll K H (xs.drop j) (ds.drop j)
  | _, _, 0, h => h
  | _, _, _ + 1, .nil => by simp only [List.drop_nil]; exact .nil
  | _, _, j + 1, .cons h t => dpa_drop j t
theorem dpa_rev {K : PySem.W.Frag} {H : Hp} : ∀ {xs : List V} {ds : List PyData}, DpAll K H xs ds → DpAll K H xs.reverse ds.reverse
  | _, _, .nil => .nil
  | _, _, .cons h t => by
    rw [List.reverse_cons, List.reverse_cons]
    exact dpa_app (dpa_rev t) (.cons h .nil)
theorem ints_dpa {K : PySem.W.Frag} {H : Hp} : ∀ {ns : List Int} {xs : List V}, DpAll K H xs (ns.map PyData.int) → xs = ns.map V.int
  | [], _, .nil => rfl
  | _ :: _, _, .cons h t => by
    cases h
    rw [ints_dpa t]
    rfl
theorem atI_dpa {K : PySem.W.Frag} {H : Hp} {xs : List V} {ds : List PyData} {i : Int} {d : PyData} (h : DpAll K H xs ds) (e : atI ds i = some d) : ∃ v, atI xs i = some v ∧ Dp K H v d := by
  unfold atI at e ⊢
  rw [dpa_len h]
  cases q : ixN ds.length i with
  | none => rw [q] at e; cases e
  | some j =>
    rw [q] at e
    exact dpa_back h e
mutual
def NoL : PyData → Bool
  | .list _ => false
  | .tuple ds => NoLA ds
  | .dict _ => false
  | _ => true
def NoLA : List PyData → Bool
  | [] => true
  | d :: ds => NoL d && NoLA ds
end
theorem NoLA.app : ∀ {xs ys : List PyData}, NoLA xs = true → NoLA ys = true → NoLA (xs ++ ys) = true
  | [], _, _, h => h
  | x :: xs, ys, h, h2 => by
    unfold NoLA at h
    rw [Bool.and_eq_true] at h
    show (NoL x && NoLA (xs ++ ys)) = true
    rw [h.1, NoLA.app h.2 h2]
    rfl
theorem NoLA.mem : ∀ {xs : List PyData}, NoLA xs = true → ∀ x ∈ xs, NoL x = true
  | _ :: _, h, _, .head _ => by
    unfold NoLA at h
    rw [Bool.and_eq_true] at h
    exact h.1
  | _ :: xs, h, x, .tail _ m => by
    unfold NoLA at h
    rw [Bool.and_eq_true] at h
    exact NoLA.mem h.2 x m
theorem NoLA.of : ∀ {xs : List PyData}, (∀ x ∈ xs, NoL x = true) → NoLA xs = true
  | [], _ => rfl
  | x :: xs, h => by
    show (NoL x && NoLA xs) = true
    rw [h x List.mem_cons_self, NoLA.of fun y hy => h y (List.mem_cons_of_mem _ hy)]
    rfl
def notTup : HO → Bool
  | .tup _ => false
  | .frz _ (.tup _) => false
  | _ => true
def BoxAt (H : Hp) (l : Addr) (c : Int) : Prop := ∃ a b : Int, H l = some (.lst [.int a, .int b, .int c]) ∧ 0 ≤ a ∧ 0 ≤ b ∧ b < 2 ^ 62 ∧ 0 ≤ c ∧ c ≤ 1000000
theorem BoxAt.keep {H H' : Hp} {l : Addr} {c : Int} (h : BoxAt H l c) (e : ∀ o, H l = some o → H' l = some o) : BoxAt H' l c := by
  obtain ⟨a, b, h1, h2⟩ := h
  exact ⟨a, b, e _ h1, h2⟩
theorem BoxAt.ne {H : Hp} {l : Addr} {c : Int} (h : BoxAt H l c) : H l ≠ none := by
  obtain ⟨a, b, h1, _⟩ := h
  rw [h1]
  exact Option.some_ne_none _
/-- an object that a def may change: a street (its class, itself, its own dict, its list of states, its list of lines), a list -/
inductive Ob where
  | st (cl a dx ps pt : Addr)
  | ls (p : Addr)
def Ob.adr : Ob → Addr
  | .st _ a _ _ _ => a
  | .ls p => p
inductive Ob.has : Ob → Addr → Prop
  | sa {cl a dx ps pt : Addr} : Ob.has (.st cl a dx ps pt) a
  | sd {cl a dx ps pt : Addr} : Ob.has (.st cl a dx ps pt) dx
  | ss {cl a dx ps pt : Addr} : Ob.has (.st cl a dx ps pt) ps
  | sl {cl a dx ps pt : Addr} : Ob.has (.st cl a dx ps pt) pt
  | l {p : Addr} : Ob.has (.ls p) p
structure Bx where
  box : Option Addr
  tab : Option Addr
  obs : List Ob
abbrev b0 : Bx := ⟨none, none, []⟩
abbrev bB (l : Addr) : Bx := ⟨some l, none, []⟩
abbrev bT (P : Addr) : Bx := ⟨none, some P, []⟩
inductive Bx.has : Bx → Addr → Prop
  | box {l : Addr} {t : Option Addr} {os : List Ob} : Bx.has ⟨some l, t, os⟩ l
  | tab {b : Option Addr} {P : Addr} {os : List Ob} : Bx.has ⟨b, some P, os⟩ P
  | ob1 {b t : Option Addr} {o : Ob} {os : List Ob} {l : Addr} (h : o.has l) : Bx.has ⟨b, t, o :: os⟩ l
  | ob2 {b t : Option Addr} {o : Ob} {os : List Ob} {l : Addr} (h : Bx.has ⟨none, none, os⟩ l) : Bx.has ⟨b, t, o :: os⟩ l
theorem Bx.has.obs {l : Addr} : ∀ {os : List Ob}, Bx.has ⟨none, none, os⟩ l → ∃ o ∈ os, o.has l
  | _, .ob1 h => ⟨_, List.mem_cons_self, h⟩
  | _, .ob2 h => let ⟨o, a, b⟩ := Bx.has.obs h; ⟨o, List.mem_cons_of_mem _ a, b⟩
theorem Bx.has.obs2 {l : Addr} {o : Ob} (h : o.has l) : ∀ {os : List Ob} {b t : Option Addr}, o ∈ os → Bx.has ⟨b, t, os⟩ l
  | _, _, _, .head _ => .ob1 h
  | _, _, _, .tail _ m => .ob2 (Bx.has.obs2 h m)
theorem Bx.has.of {x : Bx} {l : Addr} (h : x.has l) : x.box = some l ∨ x.tab = some l ∨ ∃ o ∈ x.obs, o.has l := by
  cases h with
  | box => exact .inl rfl
  | tab => exact .inr (.inl rfl)
  | ob1 h => exact .inr (.inr ⟨_, List.mem_cons_self, h⟩)
  | ob2 h =>
    obtain ⟨o, a, b⟩ := Bx.has.obs h
    exact .inr (.inr ⟨o, List.mem_cons_of_mem _ a, b⟩)
theorem Bx.has.ofb {x : Bx} {l : Addr} (h : x.box = some l) : x.has l := by
  obtain ⟨a, b, os⟩ := x
  cases (show a = some l from h)
  exact .box
theorem Bx.has.oft {x : Bx} {l : Addr} (h : x.tab = some l) : x.has l := by
  obtain ⟨a, b, os⟩ := x
  cases (show b = some l from h)
  exact .tab
theorem Bx.has.ofo {x : Bx} {l : Addr} {o : Ob} (h : o ∈ x.obs) (h2 : o.has l) : x.has l := Bx.has.obs2 h2 h
/-- they do not meet -/
structure Bx.ok (x : Bx) : Prop where
  nb : ∀ l, x.box = some l ∨ x.tab = some l → ∀ o ∈ x.obs, ¬ o.has l
  nd : x.obs.Pairwise fun o o' => ∀ b, o.has b → ¬ o'.has b
theorem Bx.ok0 {b t : Option Addr} : Bx.ok ⟨b, t, []⟩ := ⟨fun _ _ o h => absurd h List.not_mem_nil, .nil⟩
/-- what a street knows: its plots, its states, its lines -/
structure Sd where
  plots : Int
  states : List PyData
  told : List PyData
inductive Ov where
  | st (S : Sd)
  | ls (ds : List PyData)
/-- how many draws there were; what the objects hold -/
structure Cs where
  n : Int
  o : List Ov
inductive ObAt (K : PySem.W.Frag) (G H : Hp) : Ob → Ov → Prop
  | st {cl a dx ps pt : Addr} {S : Sd} {xs ys : List V} (ha : H a = some (.ins cl dx [("plots", .int S.plots), ("states", .ref ps), ("told", .ref pt)])) (hd : H dx = some (.own a)) (hs : H ps = some (.lst xs)) (ht : H pt = some (.lst ys)) (ne : ps ≠ pt)
      (ds : DpAll K G xs S.states) (dt : DpAll K G ys S.told) (ls : NoLA S.states = true) (lt : NoLA S.told = true) : ObAt K G H (.st cl a dx ps pt) (.st S)
  | ls {p : Addr} {ds : List PyData} {xs : List V} (hp : H p = some (.lst xs)) (hd : DpAll K G xs ds) (lf : NoLA ds = true) : ObAt K G H (.ls p) (.ls ds)
theorem ObAt.keep {K : PySem.W.Frag} {G H G' H' : Hp} {o : Ob} {x : Ov} (h : ObAt K G H o x) (eg : Ex G G') (e : ∀ b w, o.has b → H b = some w → H' b = some w) : ObAt K G' H' o x := by
  cases h with
  | st ha hd hs ht ne ds dt ls lt => exact .st (e _ _ .sa ha) (e _ _ .sd hd) (e _ _ .ss hs) (e _ _ .sl ht) ne (dpa_ex eg ds) (dpa_ex eg dt) ls lt
  | ls hp hd lf => exact .ls (e _ _ .l hp) (dpa_ex eg hd) lf
theorem ObAt.cell {K : PySem.W.Frag} {G H : Hp} {o : Ob} {x : Ov} (h : ObAt K G H o x) {b : Addr} (hb : o.has b) : ∃ w, H b = some w ∧ notTup w = true := by
  cases h with
  | st ha hd hs ht ne ds dt ls lt => cases hb <;> exact ⟨_, by assumption, rfl⟩
  | ls hp hd lf => cases hb; exact ⟨_, hp, rfl⟩
def ObsAt (K : PySem.W.Frag) (os : List Ob) (G H : Hp) (xs : List Ov) : Prop := Paired (ObAt K G H) os xs
theorem ObsAt.keep {K : PySem.W.Frag} {G H G' H' : Hp} (eg : Ex G G') : ∀ {os : List Ob} {xs : List Ov}, ObsAt K os G H xs → (∀ o ∈ os, ∀ b w, o.has b → H b = some w → H' b = some w) → ObsAt K os G' H' xs
  | _, _, .nil, _ => .nil
  | _, _, .cons h t, e => .cons (h.keep eg (e _ List.mem_cons_self)) (ObsAt.keep eg t fun o ho => e o (List.mem_cons_of_mem _ ho))
/-- the name of the one lambda that the program makes -/
def lamQ : Str := "apart_orders" ++ ".<locals>." ++ "<lambda>"
abbrev TabL (H : Hp) (P : Addr) : Prop := LamX.TabS H P lamQ
theorem TabL.ne {H : Hp} {P : Addr} (h : TabL H P) : ∃ ps, H P = some (.tbl ps) := by
  obtain ⟨ps, h1, _⟩ := h
  exact ⟨ps, h1⟩
def isExt : HO → Bool
  | .ext _ => true
  | _ => false
/-- what lies at an address of these -/
structure Bxs (x : Bx) (H : Hp) (l : Addr) (c : Cs) : Prop where
  box : x.box = some l → BoxAt H l c.n
  tab : x.tab = some l → TabL H l
  ne : H l ≠ none
  nt' : ∀ o, H l = some o → notTup o = true
theorem Bxs.keep {x : Bx} {H H' : Hp} {l : Addr} {c : Cs} (h : Bxs x H l c) (e : ∀ b o, (b = l ∨ isExt o = true) → H b = some o → H' b = some o) : Bxs x H' l c := by
  refine ⟨fun z => (h.box z).keep fun o => e l o (.inl rfl), fun z => ?_, ?_, fun o2 z => ?_⟩
  · obtain ⟨ps, h1, h2, h3⟩ := h.tab z
    refine ⟨ps, e l _ (.inl rfl) h1, h2, fun pos cv hc => ?_⟩
    obtain ⟨c, e1, e2⟩ := h3 pos cv hc
    exact ⟨c, e1, e c _ (.inr rfl) e2⟩
  · cases q : H l with
    | none => exact absurd q h.ne
    | some o => rw [e l o (.inl rfl) q]; exact Option.some_ne_none _
  · cases q : H l with
    | none => exact absurd q h.ne
    | some o =>
      rw [e l o (.inl rfl) q] at z
      exact h.nt' o2 (q.trans z)
theorem Bxs.ex {x : Bx} {H H' : Hp} {l : Addr} {c : Cs} (h : Bxs x H l c) (e : Ex H H') : Bxs x H' l c := h.keep fun b o _ => e b o
theorem Bxs.nt {x : Bx} {H : Hp} {l : Addr} {c : Cs} (_ : x.has l) (h : Bxs x H l c) : ∃ o, H l = some o ∧ notTup o = true := by
  cases q : H l with
  | none => exact absurd q h.ne
  | some o => exact ⟨o, rfl, h.nt' o q⟩
theorem Bxs.ofBox {x : Bx} {H : Hp} {l : Addr} {c : Cs} (hb : BoxAt H l c.n) (ht : x.tab ≠ some l) : Bxs x H l c := ⟨fun _ => hb, fun z => absurd z ht, hb.ne, fun o z => by
  obtain ⟨a, b, h1, _⟩ := hb
  rw [h1] at z
  cases z
  rfl⟩
theorem ObAt.soft {K : PySem.W.Frag} {G H : Hp} {o : Ob} {x : Ov} (h : ObAt K G H o x) {b : Addr} (hb : o.has b) : ∃ w, H b = some w ∧ isExt w = false := by
  cases h with
  | st ha hd hs ht ne ds dt ls lt => cases hb <;> exact ⟨_, by assumption, rfl⟩
  | ls hp hd lf => cases hb; exact ⟨_, hp, rfl⟩
theorem ObsAt.soft {K : PySem.W.Frag} {G H : Hp} {b : Addr} : ∀ {os : List Ob} {xs : List Ov}, ObsAt K os G H xs → ∀ o ∈ os, o.has b → ∃ w, H b = some w ∧ isExt w = false
  | _, _, .cons h t, o, m, hb => by
    rcases List.mem_cons.mp m with rfl | m
    · exact h.soft hb
    · exact ObsAt.soft t o m hb
inductive DV where
  | d (x : PyData)
  | own (ds : List PyData)
  | dic (kvs : List (Key × PyData))
  | dit (kvs : List (List Key × PyData))
  | dd (kvs : List (List Key × PyData))
  | oth (φ : Hp → Hp → V → Prop)
  | box
  | ob (k : Nat)
def DV.mut : DV → Bool
  | .own _ => true
  | .dic _ => true
  | .dit _ => true
  | _ => false
structure Dt where
  env : List (Option DV)
  c : Cs
structure Ct where
  K : PySem.W.Frag
  bx : Bx
  H0 : Hp
  G0 : Hp
/-- all but the box as it was -/
def Gr (C : Ct) (H H' : Hp) : Prop := ∀ b o, ¬ C.bx.has b → H b = some o → H' b = some o
theorem Gr.refl (C : Ct) (H : Hp) : Gr C H H := fun _ _ _ h => h
theorem Gr.trans {C : Ct} {H H1 H2 : Hp} (a : Gr C H H1) (b : Gr C H1 H2) : Gr C H H2 := fun x o n h => b x o n (a x o n h)
theorem Gr.of {C : Ct} {H H' : Hp} (e : Ex H H') : Gr C H H' := fun b o _ h => e b o h
/-- what is in G' is in G or new over H -/
def Nw (G G' H : Hp) : Prop := ∀ b, G' b ≠ none → G b ≠ none ∨ H b = none ∨ ∃ xs, H b = some (.tup xs)
theorem Nw.refl (G H : Hp) : Nw G G H := fun _ h => .inl h
theorem Nw.out {G G' H : Hp} (h : Nw G G' H) {b : Addr} {o : HO} (g : G b = none) (e : H b = some o) (n : notTup o = true) : G' b = none := by
  cases q : G' b with
  | none => rfl
  | some w =>
    rcases h b (by rw [q]; exact Option.some_ne_none _) with z | z | ⟨xs, z⟩
    · exact absurd g z
    · rw [e] at z; cases z
    · rw [e] at z; cases z; cases n
structure Fin (C : Ct) (G H : Hp) (c : Cs) : Prop where
  gh : Ex G H
  g0 : Ex C.G0 G
  nw : Nw C.G0 G C.H0
  hh : Gr C C.H0 H
  ok : C.bx.ok
  ob : ObsAt C.K C.bx.obs G H c.o
  bx : ∀ l, C.bx.has l → Bxs C.bx H l c ∧ G l = none ∧ C.H0 l ≠ none
/-- a dict that is only read: locked, or older than the call -/
def RdD (C : Ct) (H : Hp) (p : Addr) (ks : List (List Key × V)) : Prop := ((∃ od, H p = some (.frz od (.dT ks))) ∨ (H p = some (.dT ks) ∧ C.H0 p ≠ none)) ∧ ¬ C.bx.has p
theorem RdD.gr {C : Ct} {H H' : Hp} {p : Addr} {ks : List (List Key × V)} (h : RdD C H p ks) (e : Gr C H H') : RdD C H' p ks := by
  obtain ⟨(⟨od, h⟩ | ⟨h, h0⟩), n⟩ := h
  · exact ⟨.inl ⟨od, e p _ n h⟩, n⟩
  · exact ⟨.inr ⟨e p _ n h, h0⟩, n⟩
theorem RdD.upd {C : Ct} {H : Hp} {p q : Addr} {ks : List (List Key × V)} {u o : HO} (h : RdD C H p ks) (hq : H q = some u) (h0 : C.H0 q = none) (hn : ∀ od w, u ≠ .frz od w) : RdD C (upd H q o) p ks := by
  have hne : p ≠ q := fun z => by
    subst z
    obtain ⟨(⟨od, h⟩ | ⟨h, h1⟩), n⟩ := h
    · rw [hq] at h
      cases h
      exact hn _ _ rfl
    · exact h1 h0
  unfold RdD
  rw [upd_ne hne]
  exact h
/-- what no def changes: all but lists and dicts -/
def soft : HO → Bool
  | .lst _ => true
  | .dK _ => true
  | .dT _ => true
  | .frz _ _ => true
  | _ => false
theorem Bxs.updS {x : Bx} {H : Hp} {l p : Addr} {c : Cs} {u o : HO} (h : Bxs x H l c) (hp : H p = some u) (s : soft u = true) (hlp : l ≠ p) : Bxs x (upd H p o) l c := h.keep fun b w hb q => by
  by_cases z : b = p
  · subst z
    rcases hb with hb | hb
    · exact absurd hb.symm hlp
    · rw [hp] at q
      cases q
      cases u <;> first | (simp [soft] at s; done) | (simp [isExt] at hb; done)
  · rw [upd_ne z]
    exact q
def Kept (C : Ct) (H H' : Hp) : Prop := ∀ b o, ¬ C.bx.has b → H b = some o → soft o = false → H' b = some o
theorem Kept.refl (C : Ct) (H : Hp) : Kept C H H := fun _ _ _ h _ => h
theorem Kept.trans {C : Ct} {H H1 H2 : Hp} (a : Kept C H H1) (b : Kept C H1 H2) : Kept C H H2 := fun x o n h s => b x o n (a x o n h s) s
theorem Kept.of {C : Ct} {H H' : Hp} (e : Gr C H H') : Kept C H H' := fun b o n h _ => e b o n h
theorem Kept.upd {C : Ct} {H : Hp} {p : Addr} {u o : HO} (h : H p = some u) (s : soft u = true) : Kept C H (upd H p o) := fun b w n hb hs => by
  by_cases z : b = p
  · subst z
    rw [h] at hb
    cases hb
    rw [s] at hs
    cases hs
  · rw [upd_ne z]
    exact hb
/-- anything else that stays -/
structure Oth (C : Ct) (φ : Hp → Hp → V → Prop) (G H : Hp) (v : V) : Prop where
  now : φ G H v
  keep : ∀ G' H', Ex G G' → Kept C H H' → φ G' H' v
theorem Oth.step {C : Ct} {φ : Hp → Hp → V → Prop} {G H G' H' : Hp} {v : V} (h : Oth C φ G H v) (eg : Ex G G') (eh : Kept C H H') : Oth C φ G' H' v := ⟨h.keep G' H' eg eh, fun G2 H2 e k => h.keep G2 H2 (eg.trans e) (eh.trans k)⟩
def RV (C : Ct) (G H : Hp) (v : V) : DV → Prop
  | .oth φ => Oth C φ G H v
  | .d x => Dp C.K G v x
  | .own ds => ∃ p xs, v = .ref p ∧ H p = some (.lst xs) ∧ C.H0 p = none ∧ G p = none ∧ DpAll C.K G xs ds
  | .dic kvs => ∃ p ks, v = .ref p ∧ H p = some (.dK ks) ∧ C.H0 p = none ∧ G p = none ∧ Paired (fun a b => a.1 = b.1 ∧ Dp C.K G a.2 b.2) ks kvs
  | .dit kvs => ∃ p ks, v = .ref p ∧ H p = some (.dT ks) ∧ C.H0 p = none ∧ G p = none ∧ Paired (fun a b => a.1 = b.1 ∧ Dp C.K G a.2 b.2) ks kvs
  | .dd kvs => ∃ p ks, v = .ref p ∧ RdD C H p ks ∧ Paired (fun a b => a.1 = b.1 ∧ Dp C.K G a.2 b.2) ks kvs
  | .box => ∃ l, C.bx.box = some l ∧ v = .ref l
  | .ob k => ∃ o, C.bx.obs[k]? = some o ∧ v = .ref o.adr
structure Rel (C : Ct) (G : Hp) (σ : L2.St) (H : Hp) (s : Dt) : Prop where
  fin : Fin C G H s.c
  len : s.env.length = σ.length
  sl : ∀ (i : Nat) x, s.env[i]? = some (some x) → ∃ v, σ[i]? = some (some v) ∧ RV C G H v x
  dis : ∀ (i j : Nat) x y p, i ≠ j → s.env[i]? = some (some x) → s.env[j]? = some (some y) → x.mut = true → y.mut = true → σ[i]? = some (some (.ref p)) → σ[j]? ≠ some (some (.ref p))
theorem paired_mapP {α β : Type} {F G : α → β → Prop} {l₁ : List α} {l₂ : List β} (h : Paired F l₁ l₂) (k : ∀ a b, F a b → G a b) : Paired G l₁ l₂ := Paired.mapP h k
/-- a step: all but the box stays, what was neither data nor a slot's does not become data, no slot becomes the def's own -/
structure Gs (C : Ct) (σ : L2.St) (G H : Hp) (s : Dt) (G' H' : Hp) (s' : Dt) : Prop where
  gr : Gr C H H'
  dom : ∀ b, H b ≠ none → H' b ≠ none
  nk : ∀ b o, G b = none → ¬ C.bx.has b → H b = some o → notTup o = true → (∀ (i : Nat) x, s.env[i]? = some (some x) → x.mut = true → σ[i]? ≠ some (some (.ref b))) → G' b = none
  ks : ∀ (i : Nat) x, s'.env[i]? = some (some x) → x.mut = true → ∃ x', s.env[i]? = some (some x') ∧ x'.mut = true
theorem Gs.refl {C : Ct} {σ : L2.St} {G H : Hp} {s : Dt} : Gs C σ G H s G H s := ⟨Gr.refl C H, fun _ h => h, fun _ _ h _ _ _ _ => h, fun i x h m => ⟨x, h, m⟩⟩
theorem Gs.trans {C : Ct} {σ : L2.St} {G H G1 H1 G2 H2 : Hp} {s s1 s2 : Dt} (a : Gs C σ G H s G1 H1 s1) (b : Gs C σ G1 H1 s1 G2 H2 s2) : Gs C σ G H s G2 H2 s2 :=
  ⟨a.gr.trans b.gr, fun x h => b.dom x (a.dom x h), fun x o h1 hb h2 hn h3 => b.nk x o (a.nk x o h1 hb h2 hn h3) hb (a.gr x o hb h2) hn fun i y e m => by
    obtain ⟨y', e', m'⟩ := a.ks i y e m
    exact h3 i y' e' m', fun i x e m => by
    obtain ⟨y, e', m'⟩ := b.ks i x e m
    exact a.ks i y e' m'⟩
section
variable {C : Ct} {G G' H H' : Hp} {σ : L2.St} {s : Dt} {c c' : Cs}
theorem Gs.grow (eh : Ex H H') (nw : Nw G G' H) : Gs C σ G H s G' H' s := ⟨Gr.of eh, fun b h z => h (fresh_back eh z), fun b o h1 _ h2 hn _ => nw.out h1 h2 hn, fun i x e m => ⟨x, e, m⟩⟩
theorem Gs.side (eh : Ex H H') : Gs C σ G H s G H' s := .grow eh (Nw.refl G H)
theorem Fin.h0 (h : Fin C G H c) {b : Addr} (e : H b = none) : C.H0 b = none := by
  cases q : C.H0 b with
  | none => rfl
  | some o =>
    by_cases z : C.bx.has b
    · exact absurd e (h.bx b z).1.ne
    · rw [h.hh b o z q] at e
      cases e
theorem Fin.step (h : Fin C G H c) (eg : Ex G G') (eh : Gr C H H') (gh : Ex G' H') (nw : Nw G G' H) (ob : ObsAt C.K C.bx.obs G' H' c'.o) (bx : ∀ l, C.bx.has l → Bxs C.bx H' l c') : Fin C G' H' c' := by
  refine ⟨gh, h.g0.trans eg, fun b hb => ?_, h.hh.trans eh, h.ok, ob, fun l hl => ⟨bx l hl, ?_, (h.bx l hl).2.2⟩⟩
  · rcases nw b hb with q | q | ⟨xs, q⟩
    · exact h.nw b q
    · exact .inr (.inl (h.h0 q))
    · cases z : C.H0 b with
      | none => exact .inr (.inl rfl)
      | some o =>
        by_cases hbx : C.bx.has b
        · obtain ⟨u, u3, un⟩ := (h.bx b hbx).1.nt hbx
          rw [q] at u3
          cases u3
          cases un
        · have := h.hh b o hbx z
          rw [q] at this
          cases this
          exact .inr (.inr ⟨xs, rfl⟩)
  · obtain ⟨u, u3, un⟩ := (h.bx l hl).1.nt hl
    exact nw.out (h.bx l hl).2.1 u3 un
/-- the objects stay where a step changes the box or the table alone -/
theorem Fin.obx (h : Fin C G H c) (eg : Ex G G') {l : Addr} (hl : C.bx.box = some l ∨ C.bx.tab = some l) (e : ∀ b o, b ≠ l → H b = some o → H' b = some o) : ObsAt C.K C.bx.obs G' H' c.o :=
  h.ob.keep eg fun o ho b w hb q => e b w (fun z => h.ok.nb l hl o ho (by rw [← z]; exact hb)) q
theorem Fin.obe (h : Fin C G H c) (eg : Ex G G') (e : Ex H H') : ObsAt C.K C.bx.obs G' H' c.o := h.ob.keep eg fun _ _ b w _ q => e b w q
/-- nor where something changes that is new since the call -/
theorem Fin.obu (h : Fin C G H c) (eg : Ex G G') {p : Addr} (h0 : C.H0 p = none) (e : ∀ b o, b ≠ p → H b = some o → H' b = some o) : ObsAt C.K C.bx.obs G' H' c.o :=
  h.ob.keep eg fun o ho b w hb q => e b w (fun z => (h.bx b (.ofo ho hb)).2.2 (by rw [z]; exact h0)) q
theorem Fin.boxAt (h : Fin C G H c) {l : Addr} (hl : C.bx.box = some l) : BoxAt H l c.n := (h.bx l (.ofb hl)).1.box hl
theorem Fin.boxG (h : Fin C G H c) {l : Addr} (hl : C.bx.box = some l) : G l = none := (h.bx l (.ofb hl)).2.1
/-- the box alone changes -/
theorem Fin.boxStep (h : Fin C G H c) {l : Addr} (hl : C.bx.box = some l) (e : ∀ b o, b ≠ l → H b = some o → H' b = some o) (hb : BoxAt H' l c'.n) : ∀ l', C.bx.has l' → Bxs C.bx H' l' c' := fun l' hl' => by
  obtain ⟨a, b, ha, _⟩ := h.boxAt hl
  by_cases z : l' = l
  · subst z
    refine .ofBox hb fun q => ?_
    obtain ⟨ps, h2⟩ := ((h.bx l' hl').1.tab q).ne
    rw [ha] at h2
    cases h2
  · refine ⟨fun q => ?_, fun q => ?_, ?_, fun o2 q => ?_⟩
    · rw [hl] at q
      exact absurd (Option.some.inj q).symm z
    · obtain ⟨ps, h1, h2, h3⟩ := (h.bx l' hl').1.tab q
      refine ⟨ps, e l' _ z h1, h2, fun pos cv hc => ?_⟩
      obtain ⟨c, e1, e2⟩ := h3 pos cv hc
      exact ⟨c, e1, e c _ (fun w => by rw [w, ha] at e2; cases e2) e2⟩
    · have := (h.bx l' hl').1.ne
      cases q : H l' with
      | none => exact absurd q this
      | some o => rw [e l' o z q]; exact Option.some_ne_none _
    · cases w : H l' with
      | none => exact absurd w (h.bx l' hl').1.ne
      | some o =>
        rw [e l' o z w] at q
        exact (h.bx l' hl').1.nt' o2 (w.trans q)
theorem Fin.nbx (h : Fin C G H c) {p : Addr} (e : C.H0 p = none) : ¬ C.bx.has p := fun z => (h.bx p z).2.2 e
theorem RV.step (f : Fin C G H c) (eg : Ex G G') (eh : Gr C H H') (nw : Nw G G' H) {v : V} : ∀ {x : DV}, RV C G H v x → RV C G' H' v x
  | .d x, h => dp_ex eg h
  | .own ds, ⟨p, xs, h1, h2, h3, h4, h5⟩ => by
    refine ⟨p, xs, h1, eh p _ (f.nbx h3) h2, h3, ?_, dpa_ex eg h5⟩
    exact nw.out h4 h2 rfl
  | .dic ks, ⟨p, xs, h1, h2, h3, h4, h5⟩ => by
    refine ⟨p, xs, h1, eh p _ (f.nbx h3) h2, h3, ?_, paired_mapP h5 fun a b q => ⟨q.1, dp_ex eg q.2⟩⟩
    exact nw.out h4 h2 rfl
  | .dit ks, ⟨p, xs, h1, h2, h3, h4, h5⟩ => by
    refine ⟨p, xs, h1, eh p _ (f.nbx h3) h2, h3, ?_, paired_mapP h5 fun a b q => ⟨q.1, dp_ex eg q.2⟩⟩
    exact nw.out h4 h2 rfl
  | .oth φ, h => Oth.step (φ := φ) h eg (Kept.of eh)
  | .dd ks, ⟨p, xs, h1, h2, h5⟩ => ⟨p, xs, h1, h2.gr eh, paired_mapP h5 fun a b q => ⟨q.1, dp_ex eg q.2⟩⟩
  | .box, h => h
  | .ob _, h => h
theorem Rel.step (h : Rel C G σ H s) (eg : Ex G G') (eh : Gr C H H') (gh : Ex G' H') (nw : Nw G G' H) (ob : ObsAt C.K C.bx.obs G' H' c'.o) (bx : ∀ l, C.bx.has l → Bxs C.bx H' l c') : Rel C G' σ H' ⟨s.env, c'⟩ := by
  refine ⟨h.fin.step eg eh gh nw ob bx, h.len, fun i x e => ?_, h.dis⟩
  obtain ⟨v, hv, r⟩ := h.sl i x e
  exact ⟨v, hv, r.step h.fin eg eh nw⟩
theorem Rel.grow (h : Rel C G σ H s) (eg : Ex G G') (eh : Ex H H') (gh : Ex G' H') (nw : Nw G G' H) : Rel C G' σ H' s :=
  h.step eg (Gr.of eh) gh nw (h.fin.obe eg eh) fun l hl => (h.fin.bx l hl).1.ex eh
/-- a new object of data -/
theorem Ex.both {p : Addr} {o : HO} (gh : Ex G H) (hp : H p = none) : Ex (upd G p o) (upd H p o) := fun b u e => by
  by_cases z : b = p
  · rw [z, upd_same] at e ⊢
    exact e
  · rw [upd_ne z] at e ⊢
    exact gh b u e
theorem Nw.one {p : Addr} {o : HO} (hp : H p = none) : Nw G (upd G p o) H := fun b hb => by
  by_cases z : b = p
  · exact .inr (.inl (by rw [z]; exact hp))
  · rw [upd_ne z] at hb
    exact .inl hb
theorem Nw.trans {G1 G2 H1 : Hp} (a : Nw G G1 H) (b : Nw G1 G2 H1) (e : Ex H H1) : Nw G G2 H := fun x hx => by
  rcases b x hx with q | q | ⟨xs, q⟩
  · exact a x q
  · exact .inr (.inl (fresh_back e q))
  · cases z : H x with
    | none => exact .inr (.inl rfl)
    | some o =>
      have := e x o z
      rw [q] at this
      cases this
      exact .inr (.inr ⟨xs, rfl⟩)
theorem Rel.new (h : Rel C G σ H s) {p : Addr} {o : HO} (hp : H p = none) : Rel C (upd G p o) σ (upd H p o) s ∧ Ex G (upd G p o) ∧ Gs C σ G H s (upd G p o) (upd H p o) s := by
  have g1 : G p = none := by
    cases q : G p with
    | none => rfl
    | some u => rw [h.fin.gh p u q] at hp; cases hp
  exact ⟨h.grow (Ex.new g1) (Ex.new hp) (Ex.both h.fin.gh hp) (Nw.one hp), Ex.new g1, .grow (Ex.new hp) (Nw.one hp)⟩
theorem Rel.notslot (h : Rel C G σ H s) {p : Addr} (hp : H p = none) (i : Nat) (x : DV) (e : s.env[i]? = some (some x)) (m : x.mut = true) : σ[i]? ≠ some (some (.ref p)) := fun q => by
  obtain ⟨v, hv, r⟩ := h.sl i x e
  rw [hv] at q
  cases q
  cases x with
  | d _ => cases m
  | box => cases m
  | ob _ => cases m
  | own ds =>
    obtain ⟨p', xs, a1, a2, _⟩ := r
    cases a1
    rw [hp] at a2
    cases a2
  | dic ds =>
    obtain ⟨p', xs, a1, a2, _⟩ := r
    cases a1
    rw [hp] at a2
    cases a2
  | dit ds =>
    obtain ⟨p', xs, a1, a2, _⟩ := r
    cases a1
    rw [hp] at a2
    cases a2
  | dd _ => cases m
  | oth _ => cases m
theorem Rel.gnone (h : Rel C G σ H s) {p : Addr} (hp : H p = none) : G p = none := by
  cases q : G p with
  | none => rfl
  | some u => rw [h.fin.gh p u q] at hp; cases hp
/-- a new object that is not (yet) data -/
theorem Rel.aside (h : Rel C G σ H s) (e : Ex H H') : Rel C G σ H' s := h.grow (Ex.refl G) e (h.fin.gh.trans e) (Nw.refl G H)
end
abbrev WE := Dt → (PyData → Dt → Prop) → Prop
abbrev WA := Dt → (List PyData → Dt → Prop) → Prop
abbrev WT := Dt → (Bool → Dt → Prop) → Prop
def IE (C : Ct) (t : TE) (w : WE) : Prop := ∀ G σ H s Q Q', Rel C G σ H s → w s Q →
  (∀ v d s' G' H', Q d s' → Rel C G' σ H' s' → Ex G G' → Gs C σ G H s G' H' s' → Dp C.K G' v d → Q' v H') → t σ H Q'
def IA (C : Ct) (t : TA) (w : WA) : Prop := ∀ G σ H s Q Q', Rel C G σ H s → w s Q →
  (∀ vs ds s' G' H', Q ds s' → Rel C G' σ H' s' → Ex G G' → Gs C σ G H s G' H' s' → DpAll C.K G' vs ds → Q' vs H') → t σ H Q'
def IT (C : Ct) (t : TT) (w : WT) : Prop := ∀ G σ H s Q Q', Rel C G σ H s → w s Q →
  (∀ b s' G' H', Q b s' → Rel C G' σ H' s' → Ex G G' → Gs C σ G H s G' H' s' → Q' b H') → t σ H Q'
/-- a new list of the def's own -/
def IO (C : Ct) (t : TE) (w : WA) : Prop := ∀ G σ H s Q Q', Rel C G σ H s → w s Q →
  (∀ p xs ds s' G' H', Q ds s' → Rel C G' σ H' s' → Ex G G' → Gs C σ G H s G' H' s' → H p = none → H' p = some (.lst xs) → G' p = none → DpAll C.K G' xs ds → (∀ (i : Nat) x, s'.env[i]? = some (some x) → x.mut = true → σ[i]? ≠ some (some (.ref p))) → Q' (.ref p) H') → t σ H Q'
/-- a value that is only looked at: data, or a list of the def's own -/
def Pk (C : Ct) (G H : Hp) (v : V) (d : PyData) : Prop := Dp C.K G v d ∨ ∃ p xs ds, v = .ref p ∧ d = .list ds ∧ H p = some (.lst xs) ∧ ¬ C.bx.has p ∧ DpAll C.K G xs ds
def IP (C : Ct) (t : TE) (w : WE) : Prop := ∀ G σ H s Q Q', Rel C G σ H s → w s Q →
  (∀ v d s' G' H', Q d s' → Rel C G' σ H' s' → Ex G G' → Gs C σ G H s G' H' s' → Pk C G' H' v d → Q' v H') → t σ H Q'
section
variable {C : Ct} {G G' H H' : Hp} {v : V} {d : PyData}
theorem Pk.mono (h : Pk C G H v d) (eg : Ex G G') (eh : Gr C H H') : Pk C G' H' v d := by
  rcases h with h | ⟨p, xs, ds, h1, h2, h3, h4, h5⟩
  · exact .inl (dp_ex eg h)
  · exact .inr ⟨p, xs, ds, h1, h2, eh p _ h4 h3, h4, dpa_ex eg h5⟩
theorem Pk.dp (h : Pk C G H v d) (e : Ex G H) : Dp C.K H v d := by
  rcases h with h | ⟨p, xs, ds, rfl, rfl, h3, h4, h5⟩
  · exact dp_ex e h
  · exact .lst h3 (dpa_ex e h5)
def isT : PyData → Bool
  | .tuple _ => true
  | _ => false
def its : PyData → List PyData
  | .tuple ds => ds
  | .list ds => ds
  | _ => []
def seqd : PyData → Bool
  | .tuple _ => true
  | .list _ => true
  | _ => false
theorem Pk.seq (h : Pk C G H v d) (e : Ex G H) (hs : seqd d = true) : ∃ p xs, v = .ref p ∧ SqB C.K (isT d) H p xs ∧ DpAll C.K G xs (its d) := by
  rcases h with h | ⟨p, xs, ds, rfl, rfl, h3, h4, h5⟩
  · cases h with
    | lst h t => exact ⟨_, _, rfl, .inl (.inl (e _ _ h)), t⟩
    | tup h t => exact ⟨_, _, rfl, Evl.ex_t e h, t⟩
    | _ => cases hs
  · exact ⟨p, xs, rfl, .inl (.inl h3), h5⟩
end
section
variable {C : Ct} {t ta tb tc : TE} {w wa wb : WE} {tA : TA} {wA : WA}
theorem ip_of (h : IE C t w) : IP C t w := fun G σ H s Q Q' r q k => h G σ H s Q Q' r q fun v d s' G' H' q' r' eg eh p => k v d s' G' H' q' r' eg eh (.inl p)
/-- a list of the def's own becomes data -/
def wPubO (w : WA) : WE := fun s Q => w s fun ds s' => Q (.list ds) s'
theorem ie_own {w : WA} (h : IO C t w) : IE C t (wPubO w) := fun G σ H s Q Q' r q k => h G σ H s _ Q' r q fun p xs ds s' G' H' q' r' eg eh hp h1 h2 h3 h4 => by
  have eh' : Ex (upd G' p (.lst xs)) H' := fun b u e => by
    by_cases z : b = p
    · rw [z, upd_same] at e
      rw [z, h1]
      exact e
    · rw [upd_ne z] at e
      exact r'.fin.gh b u e
  have eg' : Ex G' (upd G' p (.lst xs)) := Ex.new h2
  have nw : ∀ b, (upd G' p (.lst xs)) b ≠ none → G' b ≠ none ∨ b = p := fun b hb => by
    by_cases z : b = p
    · exact .inr z
    · rw [upd_ne z] at hb
      exact .inl hb
  have h0 : C.H0 p = none := r.fin.h0 hp
  refine k (.ref p) _ s' (upd G' p (.lst xs)) H' q' ⟨⟨eh', r'.fin.g0.trans eg', fun b hb => ?_, r'.fin.hh, r'.fin.ok, r'.fin.obe eg' (Ex.refl _), fun l hl => ⟨(r'.fin.bx l hl).1, ?_, (r'.fin.bx l hl).2.2⟩⟩, r'.len, fun i x e => ?_, r'.dis⟩ (eg.trans eg') ⟨eh.gr, eh.dom, fun b o h1 hb h2 hn h3 => by rw [upd_ne (fun z => by rw [z, hp] at h2; cases h2)]; exact eh.nk b o h1 hb h2 hn h3, eh.ks⟩ (.lst upd_same (dpa_ex eg' h3))
  · rcases nw b hb with z | z
    · exact r'.fin.nw b z
    · exact .inr (.inl (by rw [z]; exact h0))
  · rw [upd_ne (fun z => (r.fin.nbx h0) (by rw [← z]; exact hl))]
    exact (r'.fin.bx l hl).2.1
  · obtain ⟨v, hv, rv⟩ := r'.sl i x e
    refine ⟨v, hv, ?_⟩
    cases x with
    | d x => exact dp_ex eg' rv
    | box => exact rv
    | ob _ => exact rv
    | own ds' =>
      obtain ⟨p', xs', a1, a2, a3, a4, a5⟩ := rv
      refine ⟨p', xs', a1, a2, a3, ?_, dpa_ex eg' a5⟩
      rw [upd_ne fun z => h4 i _ e rfl (by rw [hv, a1, z])]
      exact a4
    | dic ks =>
      obtain ⟨p', xs', a1, a2, a3, a4, a5⟩ := rv
      refine ⟨p', xs', a1, a2, a3, ?_, paired_mapP a5 fun a b q => ⟨q.1, dp_ex eg' q.2⟩⟩
      rw [upd_ne fun z => h4 i _ e rfl (by rw [hv, a1, z])]
      exact a4
    | dit ks =>
      obtain ⟨p', xs', a1, a2, a3, a4, a5⟩ := rv
      refine ⟨p', xs', a1, a2, a3, ?_, paired_mapP a5 fun a b q => ⟨q.1, dp_ex eg' q.2⟩⟩
      rw [upd_ne fun z => h4 i _ e rfl (by rw [hv, a1, z])]
      exact a4
    | oth φ => exact Oth.step (φ := φ) rv eg' (Kept.refl C H')
    | dd ks =>
      obtain ⟨p', xs', a1, a2, a5⟩ := rv
      exact ⟨p', xs', a1, a2, paired_mapP a5 fun a b q => ⟨q.1, dp_ex eg' q.2⟩⟩
def wC (d : PyData) : WE := fun s Q => Q d s
theorem ie_c {v : V} {d : PyData} (h : ∀ G, Dp C.K G v d) : IE C (tC v) (wC d) := fun G σ H s Q Q' r q k => k v d s G H q r (Ex.refl G) Gs.refl (h G)
def wV (i : Nat) : WE := fun s Q => ∃ d, s.env[i]? = some (some (.d d)) ∧ Q d s
theorem ie_v {i : Nat} : IE C (tVar i) (wV i) := fun G σ H s Q Q' r q k => by
  obtain ⟨d, e, q⟩ := q
  obtain ⟨v, hv, rv⟩ := r.sl i _ e
  exact ⟨v, hv, k v d s G H q r (Ex.refl G) Gs.refl rv⟩
/-- a list of the def's own, from now on data -/
def wPub (i : Nat) : WE := fun s Q => ∃ ds, s.env[i]? = some (some (.own ds)) ∧ Q (.list ds) ⟨s.env.set i (some (.d (.list ds))), s.c⟩
theorem ie_pub {i : Nat} : IE C (tVar i) (wPub i) := fun G σ H s Q Q' r q k => by
  obtain ⟨ds, e, q⟩ := q
  obtain ⟨v, hv, p, xs, rfl, h1, h2, h3, h4⟩ := r.sl i _ e
  have eg : Ex G (upd G p (.lst xs)) := Ex.new h3
  have gh : Ex (upd G p (.lst xs)) H := fun b u e => by
    by_cases z : b = p
    · rw [z, upd_same] at e
      rw [z, h1]
      exact e
    · rw [upd_ne z] at e
      exact r.fin.gh b u e
  have hi : i < s.env.length := (List.getElem?_eq_some_iff.mp e).1
  have old : ∀ (j : Nat) x, (s.env.set i (some (.d (.list ds))))[j]? = some (some x) → (j = i ∧ x = .d (.list ds)) ∨ (j ≠ i ∧ s.env[j]? = some (some x)) := fun j x ej => by
    by_cases z : j = i
    · subst z
      rw [List.getElem?_set_self hi] at ej
      cases ej
      exact .inl ⟨rfl, rfl⟩
    · rw [List.getElem?_set_ne (Ne.symm z)] at ej
      exact .inr ⟨z, ej⟩
  refine ⟨.ref p, hv, k _ _ _ (upd G p (.lst xs)) H q ⟨⟨gh, r.fin.g0.trans eg, fun b hb => ?_, r.fin.hh, r.fin.ok, r.fin.obe eg (Ex.refl _), fun l hl => ⟨(r.fin.bx l hl).1, ?_, (r.fin.bx l hl).2.2⟩⟩, ?_, fun j x ej => ?_, fun j1 j2 x y p' hne e1 e2 m1 m2 => ?_⟩ eg ⟨Gr.refl C H, fun _ h => h, fun b _ h1 _ _ _ h3 => by rw [upd_ne (fun z => h3 i _ e rfl (by rw [z]; exact hv))]; exact h1, fun j x ej m => by
      rcases old j x ej with ⟨_, rfl⟩ | ⟨_, ej⟩
      · cases m
      · exact ⟨x, ej, m⟩⟩ (.lst upd_same (dpa_ex eg h4))⟩
  · by_cases z : b = p
    · exact .inr (.inl (by rw [z]; exact h2))
    · rw [upd_ne z] at hb
      exact r.fin.nw b hb
  · rw [upd_ne (fun z => (r.fin.nbx h2) (by rw [← z]; exact hl))]
    exact (r.fin.bx l hl).2.1
  · rw [List.length_set]
    exact r.len
  · rcases old j x ej with ⟨rfl, rfl⟩ | ⟨z, ej⟩
    · exact ⟨_, hv, .lst upd_same (dpa_ex eg h4)⟩
    · obtain ⟨v', hv', rv⟩ := r.sl j x ej
      refine ⟨v', hv', ?_⟩
      cases x with
      | d x => exact dp_ex eg rv
      | box => exact rv
      | ob _ => exact rv
      | own ds' =>
        obtain ⟨p', xs', a1, a2, a3, a4, a5⟩ := rv
        refine ⟨p', xs', a1, a2, a3, ?_, dpa_ex eg a5⟩
        rw [upd_ne fun z' => r.dis i j _ _ p (Ne.symm z) e ej rfl rfl hv (by rw [hv', a1, z'])]
        exact a4
      | dic ks =>
        obtain ⟨p', xs', a1, a2, a3, a4, a5⟩ := rv
        refine ⟨p', xs', a1, a2, a3, ?_, paired_mapP a5 fun a b q => ⟨q.1, dp_ex eg q.2⟩⟩
        rw [upd_ne fun z' => r.dis i j _ _ p (Ne.symm z) e ej rfl rfl hv (by rw [hv', a1, z'])]
        exact a4
      | dit ks =>
        obtain ⟨p', xs', a1, a2, a3, a4, a5⟩ := rv
        refine ⟨p', xs', a1, a2, a3, ?_, paired_mapP a5 fun a b q => ⟨q.1, dp_ex eg q.2⟩⟩
        rw [upd_ne fun z' => r.dis i j _ _ p (Ne.symm z) e ej rfl rfl hv (by rw [hv', a1, z'])]
        exact a4
      | oth φ => exact Oth.step (φ := φ) rv eg (Kept.refl C H)
      | dd ks =>
        obtain ⟨p', xs', a1, a2, a5⟩ := rv
        exact ⟨p', xs', a1, a2, paired_mapP a5 fun a b q => ⟨q.1, dp_ex eg q.2⟩⟩
  · rcases old j1 x e1 with ⟨rfl, rfl⟩ | ⟨z1, e1⟩
    · cases m1
    · rcases old j2 y e2 with ⟨rfl, rfl⟩ | ⟨z2, e2⟩
      · cases m2
      · exact r.dis j1 j2 x y p' hne e1 e2 m1 m2
def DV.look : DV → Option PyData
  | .d x => some x
  | .own ds => some (.list ds)
  | _ => none
/-- a name that is only looked at -/
def wP (i : Nat) : WE := fun s Q => ∃ x d, s.env[i]? = some (some x) ∧ x.look = some d ∧ Q d s
theorem ip_v {i : Nat} : IP C (tVar i) (wP i) := fun G σ H s Q Q' r q k => by
  obtain ⟨x, d, e, hl, q⟩ := q
  obtain ⟨v, hv, rv⟩ := r.sl i _ e
  refine ⟨v, hv, k v d s G H q r (Ex.refl G) Gs.refl ?_⟩
  cases x with
  | d x => cases hl; exact .inl rv
  | own ds =>
    cases hl
    obtain ⟨p, xs, a1, a2, a3, a4, a5⟩ := rv
    exact .inr ⟨p, xs, ds, a1, rfl, a2, r.fin.nbx a3, a5⟩
  | dic _ => cases hl
  | dit _ => cases hl
  | dd _ => cases hl
  | oth _ => cases hl
  | box => cases hl
  | ob _ => cases hl
theorem ia_nil : IA C tNil (fun s Q => Q [] s) := fun G σ H s Q Q' r q k => k [] [] s G H q r (Ex.refl G) Gs.refl .nil
def wCons (w : WE) (wr : WA) : WA := fun s Q => w s fun d s1 => wr s1 fun ds s2 => Q (d :: ds) s2
theorem ia_cons {tr : TA} {wr : WA} (h : IE C t w) (hr : IA C tr wr) : IA C (tCons t tr) (wCons w wr) := fun G σ H s Q Q' r q k =>
  h G σ H s _ _ r q fun v d s1 G1 H1 q1 r1 eg1 eh1 p1 => hr G1 σ H1 s1 _ _ r1 q1 fun vs ds s2 G2 H2 q2 r2 eg2 eh2 p2 =>
    k (v :: vs) (d :: ds) s2 G2 H2 q2 r2 (eg1.trans eg2) (eh1.trans eh2) (.cons (dp_ex eg2 p1) p2)
def wTup (w : WA) : WE := fun s Q => w s fun ds s1 => ds.length ≤ 100000 ∧ Q (.tuple ds) s1
theorem ie_tup (h : IA C tA wA) : IE C (tTup tA) (wTup wA) := fun G σ H s Q Q' r q k =>
  h G σ H s _ _ r q fun vs ds s1 G1 H1 q1 r1 eg1 eh1 p1 => ⟨by rw [dpa_len p1]; exact sz_of q1.1, fun p hp => by
    obtain ⟨r2, eg2, eh2⟩ := r1.new (o := .tup vs) hp
    exact k (.ref p) _ s1 _ _ q1.2 r2 (eg1.trans eg2) (eh1.trans eh2) (.tup (.inl (.inl upd_same)) (dpa_ex eg2 p1))⟩
def wLst (w : WA) : WA := fun s Q => w s fun ds s1 => ds.length ≤ 100000 ∧ Q ds s1
/-- a new list, made at the end -/
theorem own_new {G σ H s G1 H1 s1} {Q : List PyData → Dt → Prop} {Q' : VK} {vs : List V} {ds : List PyData} (r : Rel C G σ H s) (q1 : Q ds s1) (r1 : Rel C G1 σ H1 s1) (eg1 : Ex G G1) (eh1 : Gs C σ G H s G1 H1 s1) (p1 : DpAll C.K G1 vs ds) {p : Addr} (hp : H1 p = none)
    (k : ∀ p xs ds s' G' H', Q ds s' → Rel C G' σ H' s' → Ex G G' → Gs C σ G H s G' H' s' → H p = none → H' p = some (.lst xs) → G' p = none → DpAll C.K G' xs ds → (∀ (i : Nat) x, s'.env[i]? = some (some x) → x.mut = true → σ[i]? ≠ some (some (.ref p))) → Q' (.ref p) H') : Q' (.ref p) (upd H1 p (.lst vs)) := by
  refine k p vs ds s1 G1 _ q1 (r1.aside (Ex.new hp)) eg1 (eh1.trans (.side (Ex.new hp))) ?_ upd_same (r1.gnone hp) p1 (r1.notslot hp)
  cases q : H p with
  | none => rfl
  | some o =>
    by_cases z : C.bx.has p
    · exact absurd hp (r1.fin.bx p z).1.ne
    · rw [eh1.gr p o z q] at hp
      cases hp
theorem io_lst (h : IA C tA wA) : IO C (tLst tA) (wLst wA) := fun G σ H s Q Q' r q k =>
  h G σ H s _ _ r q fun vs ds s1 G1 H1 q1 r1 eg1 eh1 p1 => ⟨by rw [dpa_len p1]; exact sz_of q1.1, fun p hp => own_new r q1.2 r1 eg1 eh1 p1 hp k⟩
def wI (C : Int → Int → Prop) (g : Int → Int → PyData) (wa wb : WE) : WE := fun s Q => wa s fun x s1 => wb s1 fun y s2 => ∃ i j, x = .int i ∧ y = .int j ∧ C i j ∧ Q (g i j) s2
theorem dp_int {K : PySem.W.Frag} {H : Hp} {v : V} {i : Int} (h : Dp K H v (.int i)) : v = .int i := by cases h; rfl
theorem dp_bl {K : PySem.W.Frag} {H : Hp} {v : V} {i : Bool} (h : Dp K H v (.bool i)) : v = .bl i := by cases h; rfl
theorem dp_str {K : PySem.W.Frag} {H : Hp} {v : V} {i : Str} (h : Dp K H v (.str i)) : v = .str i := by cases h; rfl
theorem ie_op2 {r2 : R2} {g : PyData → PyData → Dt → (PyData → Dt → Prop) → Prop} (hg : ∀ G σ H s x y d e Q Q', Rel C G σ H s → Pk C G H x d → Pk C G H y e → g d e s Q →
      (∀ v z s' G' H', Q z s' → Rel C G' σ H' s' → Ex G G' → Gs C σ G H s G' H' s' → Dp C.K G' v z → Q' v H') → r2 x y H Q') (ha : IP C ta wa) (hb : IP C tb wb) :
    IE C (tOp r2 ta tb) (fun s Q => wa s fun d s1 => wb s1 fun e s2 => g d e s2 Q) := fun G σ H s Q Q' r q k =>
  ha G σ H s _ _ r q fun v d s1 G1 H1 q1 r1 eg1 eh1 p1 => hb G1 σ H1 s1 _ _ r1 q1 fun v2 d2 s2 G2 H2 q2 rr eg2 eh2 p2 =>
    hg G2 σ H2 s2 v v2 d d2 Q Q' rr (p1.mono eg2 eh2.gr) p2 q2 fun v z s' G' H' q r' eg eh p => k v z s' G' H' q r' ((eg1.trans eg2).trans eg) ((eh1.trans eh2).trans eh) p
end
end Dw
namespace Dw
open PySem PySem.Spec PyProof.Rows L2 OgR Evl
structure DE (X : Cx) (C : Ct) (e : Expr) (t : TE) (w : WE) : Prop where
  pe : PE X e t
  ie : IE C t w
structure DP (X : Cx) (C : Ct) (e : Expr) (t : TE) (w : WE) : Prop where
  pe : PE X e t
  ip : IP C t w
structure DO (X : Cx) (C : Ct) (e : Expr) (t : TE) (w : WA) : Prop where
  pe : PE X e t
  io : IO C t w
structure DA (X : Cx) (C : Ct) (es : List Expr) (t : TA) (w : WA) : Prop where
  pa : PA X es t
  ia : IA C t w
structure DT (X : Cx) (C : Ct) (e : Expr) (t : TT) (w : WT) : Prop where
  pt : PT X e t
  it : IT C t w
structure DW (X : Cx) (C : Ct) (e : Expr) (t : TT) (w : WT) : Prop where
  pw : PW X e t
  it : IT C t w
/-- a list looked at whose place is known: fresh, or of the def's own -/
def IL (C : Ct) (t : TE) (w : WA) : Prop := ∀ G σ H s Q Q', Rel C G σ H s → w s Q →
  (∀ p xs ds s' G' H', Q ds s' → Rel C G' σ H' s' → Ex G G' → Gs C σ G H s G' H' s' → H' p = some (.lst xs) → ¬ C.bx.has p → DpAll C.K G' xs ds → Q' (.ref p) H') → t σ H Q'
structure DL (X : Cx) (C : Ct) (e : Expr) (t : TE) (w : WA) : Prop where
  pe : PE X e t
  il : IL C t w
section
variable {X : Cx} {C : Ct} {a b e : Expr} {es : List Expr} {pos : Pos} {t ta tb tc : TE} {w wa wb wc : WE} {tA : TA} {wA : WA}
theorem DE.p (h : DE X C e t w) : DP X C e t w := ⟨h.pe, ip_of h.ie⟩
theorem DO.d {w : WA} (h : DO X C e t w) : DE X C e t (wPubO w) := ⟨h.pe, ie_own h.io⟩
theorem DO.l {w : WA} (h : DO X C e t w) : DL X C e t w := ⟨h.pe, fun G σ H s Q Q' r q k => h.io G σ H s Q Q' r q fun p xs ds s' G' H' q' r' eg eh hp h1 h2 h3 h4 =>
  k p xs ds s' G' H' q' r' eg eh h1 (r'.fin.nbx (r.fin.h0 hp)) h3⟩
theorem DW.q {t : TT} {w : WT} (h : DW X C e t w) : DT X C e t w := ⟨h.pw.pt, h.it⟩
theorem de_int {i : Int} {j} : DE X C (.Constant (.int i) j pos) (tC (.int i)) (wC (.int i)) := ⟨pe_int, ie_c fun _ => .int i⟩
theorem de_str {i : Str} {j} : DE X C (.Constant (.str i) j pos) (tC (.str i)) (wC (.str i)) := ⟨pe_str, ie_c fun _ => .str i⟩
theorem de_bl {i : Bool} {j} : DE X C (.Constant (.bool i) j pos) (tC (.bl i)) (wC (.bool i)) := ⟨pe_bl, ie_c fun _ => .bl i⟩
theorem de_non {j} : DE X C (.Constant .none j pos) (tC .non) (wC .none) := ⟨pe_non, ie_c fun _ => .non⟩
theorem de_v (i : Nat) {x : Str} (hN : X.N[i]? = some x := by rfl) (hv : Vis X.env.scope x := by first | exact Or.inl rfl | exact Or.inr (Or.inl rfl) | exact Or.inr (Or.inr rfl)) (hd : (x == ("__debug__" : Str)) = false := by decide)
    (hcd : (x == ("__classdict__" : Str)) = false := by decide) : DE X C (.Name x pos) (tVar i) (wV i) := ⟨pe_var hN hv hd hcd, ie_v⟩
theorem de_pub (i : Nat) {x : Str} (hN : X.N[i]? = some x := by rfl) (hv : Vis X.env.scope x := by first | exact Or.inl rfl | exact Or.inr (Or.inl rfl) | exact Or.inr (Or.inr rfl)) (hd : (x == ("__debug__" : Str)) = false := by decide)
    (hcd : (x == ("__classdict__" : Str)) = false := by decide) : DE X C (.Name x pos) (tVar i) (wPub i) := ⟨pe_var hN hv hd hcd, ie_pub⟩
theorem dp_v (i : Nat) {x : Str} (hN : X.N[i]? = some x := by rfl) (hv : Vis X.env.scope x := by first | exact Or.inl rfl | exact Or.inr (Or.inl rfl) | exact Or.inr (Or.inr rfl)) (hd : (x == ("__debug__" : Str)) = false := by decide)
    (hcd : (x == ("__classdict__" : Str)) = false := by decide) : DP X C (.Name x pos) (tVar i) (wP i) := ⟨pe_var hN hv hd hcd, ip_v⟩
def wL (i : Nat) : WA := fun s Q => ∃ ds, s.env[i]? = some (some (.own ds)) ∧ Q ds s
theorem da_nil : DA X C [] tNil (fun s Q => Q [] s) := ⟨pa_nil, ia_nil⟩
theorem da_cons {tr : TA} {wr : WA} (h : DE X C e t w) (hr : DA X C es tr wr) (hs : starEach (e :: es) X.env = (false, eval e X.env) :: starEach es X.env := by rfl) : DA X C (e :: es) (tCons t tr) (wCons w wr) := ⟨pa_cons h.pe hr.pa hs, ia_cons h.ie hr.ia⟩
theorem de_tup {k} (h : DA X C es tA wA) : DE X C (.Tuple es k pos) (tTup tA) (wTup wA) := ⟨pe_tup h.pa, ie_tup h.ia⟩
theorem do_lst (h : DA X C es tA wA) : DO X C (.List es pos) (tLst tA) (wLst wA) := ⟨pe_lst h.pa, io_lst h.ia⟩
abbrev G2 := PyData → PyData → Dt → (PyData → Dt → Prop) → Prop
structure R2D (C : Ct) (r : R2) (g : G2) : Prop where
  run : ∀ G σ H s x y d e Q Q', Rel C G σ H s → Pk C G H x d → Pk C G H y e → g d e s Q → (∀ v z s' G' H', Q z s' → Rel C G' σ H' s' → Ex G G' → Gs C σ G H s G' H' s' → Dp C.K G' v z → Q' v H') → r x y H Q'
structure OpD (X : Cx) (C : Ct) (f : Value → Value → Sem Value) (r : R2) (g : G2) : Prop where
  op : OpR X f r
  rd : R2D C r g
def w2 (g : G2) (wa wb : WE) : WE := fun s Q => wa s fun d s1 => wb s1 fun e s2 => g d e s2 Q
theorem de_bin {op : Operator} {r : R2} {g : G2} (o : OpD X C (binaryOp op) r g) (ha : DP X C a ta wa) (hb : DP X C b tb wb) : DE X C (.BinOp a op b pos) (tOp r ta tb) (w2 g wa wb) := ⟨pe_op o.op ha.pe hb.pe, ie_op2 o.rd.run ha.ip hb.ip⟩
theorem de_cmp {op : CmpOp} {r : R2} {g : G2} (o : OpD X C (compareOp op) r g) (ha : DP X C a ta wa) (hb : DP X C b tb wb) (hm : behindInMarks op b = false := by first | exact nomark _ | rfl) : DE X C (.Compare a [op] [b] pos) (tOp r ta tb) (w2 g wa wb) := ⟨pe_cmpR o.op ha.pe hb.pe hm, ie_op2 o.rd.run ha.ip hb.ip⟩
/-- a value as a test -/
def wTest (w : WE) : WT := fun s Q => w s fun d s1 => ∃ k, d = .bool k ∧ Q k s1
theorem it_test (h : IE C t w) : IT C (tTest t) (wTest w) := fun G σ H s Q Q' r q k => h G σ H s _ _ r q fun v d s1 G1 H1 q1 r1 eg eh p => by
  obtain ⟨b, rfl, q2⟩ := q1
  exact ⟨b, dp_bl p, k b s1 G1 H1 q2 r1 eg eh⟩
theorem it_B (h : IE C t w) : IT C (tB t) (wTest w) := it_test h
theorem dt_cmp {op : CmpOp} {r : R2} {g : G2} (o : OpD X C (compareOp op) r g) (ha : DP X C a ta wa) (hb : DP X C b tb wb) (hm : behindInMarks op b = false := by first | exact nomark _ | rfl) : DT X C (.Compare a [op] [b] pos) (tTest (tOp r ta tb)) (wTest (w2 g wa wb)) :=
  ⟨pt_cmpR o.op ha.pe hb.pe hm, it_test (ie_op2 o.rd.run ha.ip hb.ip)⟩
theorem dt_val (h : DE X C e t w) (he : ∀ whole, isTrue e X.env whole = (do let v ← whole; standAt e.pos; holding [v] (truthy v)) := by intro _; rfl) : DT X C e (tB t) (wTest w) := ⟨pt_val h.pe he, it_B h.ie⟩
/-- a op b op' c -/
def wChain (g g' : G2) (wa wb wc : WE) : WE := fun s Q => wa s fun d s1 => wb s1 fun e s2 => g d e s2 fun z s3 => ∃ k, z = .bool k ∧ if k = true then wc s3 fun f s4 => g' e f s4 Q else Q (.bool false) s3
theorem ie_chain {r r' : R2} {g g' : G2} (hr : R2D C r g) (hr' : R2D C r' g') (ha : IP C ta wa) (hb : IP C tb wb) (hc : IP C tc wc) : IE C (tChain r r' ta tb tc) (wChain g g' wa wb wc) := fun G σ H s Q Q' r q k =>
  ha G σ H s _ _ r q fun v d s1 G1 H1 q1 r1 eg1 eh1 p1 => hb G1 σ H1 s1 _ _ r1 q1 fun v2 d2 s2 G2 H2 q2 rr eg2 eh2 p2 =>
    hr.run G2 σ H2 s2 v v2 d d2 _ _ rr (p1.mono eg2 eh2.gr) p2 q2 fun v3 z s3 G3 H3 q3 r3 eg3 eh3 p3 => by
      obtain ⟨kk, rfl, q3⟩ := q3
      refine ⟨kk, dp_bl p3, ?_⟩
      cases kk with
      | false =>
        refine iteF ?_
        rw [if_neg (by decide)] at q3
        exact k _ _ s3 G3 H3 q3 r3 ((eg1.trans eg2).trans eg3) ((eh1.trans eh2).trans eh3) (.bl _)
      | true =>
        refine iteT ?_
        rw [if_pos rfl] at q3
        exact hc G3 σ H3 s3 _ _ r3 q3 fun v4 f s4 G4 H4 q4 r4 eg4 eh4 p4 => hr'.run G4 σ H4 s4 v2 v4 d2 f _ _ r4 ((p2.mono eg3 eh3.gr).mono eg4 eh4.gr) p4 q4 fun v5 z s5 G5 H5 q5 r5 eg5 eh5 p5 =>
          k v5 z s5 G5 H5 q5 r5 ((((eg1.trans eg2).trans eg3).trans eg4).trans eg5) ((((eh1.trans eh2).trans eh3).trans eh4).trans eh5) p5
theorem dt_chain {c : Expr} {op op' : CmpOp} {r r' : R2} {g g' : G2} (o : OpD X C (compareOp op) r g) (o' : OpD X C (compareOp op') r' g') (ha : DP X C a ta wa) (hb : DP X C b tb wb) (hc : DP X C c tc wc) (hm : lastMarks [op, op'] [b, c] = false := by with_unfolding_all rfl) :
    DT X C (.Compare a [op, op'] [b, c] pos) (tTest (tChain r r' ta tb tc)) (wTest (wChain g g' wa wb wc)) := ⟨pt_chain o.op o'.op ha.pe hb.pe hc.pe hm, it_test (ie_chain o.rd o'.rd ha.ip hb.ip hc.ip)⟩
def wAnd (u v : WT) : WT := fun s Q => u s fun b s1 => if b = true then v s1 Q else Q false s1
def wOr (u v : WT) : WT := fun s Q => u s fun b s1 => if b = true then Q true s1 else v s1 Q
def wNot (u : WT) : WT := fun s Q => u s fun b s1 => Q (!b) s1
theorem it_and {t u : TT} {w v : WT} (h : IT C t w) (h2 : IT C u v) : IT C (tAnd t u) (wAnd w v) := fun G σ H s Q Q' r q k => h G σ H s _ _ r q fun b s1 G1 H1 q1 r1 eg eh => by
  cases b with
  | false =>
    rw [if_neg (by decide)] at q1
    exact iteF (k false s1 G1 H1 q1 r1 eg eh)
  | true =>
    rw [if_pos rfl] at q1
    exact iteT (h2 G1 σ H1 s1 _ _ r1 q1 fun b s2 G2 H2 q2 r2 eg2 eh2 => k b s2 G2 H2 q2 r2 (eg.trans eg2) (eh.trans eh2))
theorem it_or {t u : TT} {w v : WT} (h : IT C t w) (h2 : IT C u v) : IT C (tOr t u) (wOr w v) := fun G σ H s Q Q' r q k => h G σ H s _ _ r q fun b s1 G1 H1 q1 r1 eg eh => by
  cases b with
  | true =>
    rw [if_pos rfl] at q1
    exact iteT (k true s1 G1 H1 q1 r1 eg eh)
  | false =>
    rw [if_neg (by decide)] at q1
    exact iteF (h2 G1 σ H1 s1 _ _ r1 q1 fun b s2 G2 H2 q2 r2 eg2 eh2 => k b s2 G2 H2 q2 r2 (eg.trans eg2) (eh.trans eh2))
theorem it_not {t : TT} {w : WT} (h : IT C t w) : IT C (tNot t) (wNot w) := fun G σ H s Q Q' r q k => h G σ H s _ _ r q fun b s1 G1 H1 q1 r1 eg eh => k (!b) s1 G1 H1 q1 r1 eg eh
variable {rest : List Expr} {tA' tB' : TT} {wA' wB' : WT}
theorem dw_and1 (h : DT X C a tA' wA') : DW X C (.BoolOp .And [a] pos) tA' wA' := ⟨pw_and1 h.pt, h.it⟩
theorem dw_or1 (h : DT X C a tA' wA') : DW X C (.BoolOp .Or [a] pos) tA' wA' := ⟨pw_or1 h.pt, h.it⟩
theorem dw_and (h : DT X C a tA' wA') (h2 : DW X C (.BoolOp .And (b :: rest) pos) tB' wB') : DW X C (.BoolOp .And (a :: b :: rest) pos) (tAnd tA' tB') (wAnd wA' wB') := ⟨pw_and h.pt h2.pw, it_and h.it h2.it⟩
theorem dw_or (h : DT X C a tA' wA') (h2 : DW X C (.BoolOp .Or (b :: rest) pos) tB' wB') : DW X C (.BoolOp .Or (a :: b :: rest) pos) (tOr tA' tB') (wOr wA' wB') := ⟨pw_or h.pt h2.pw, it_or h.it h2.it⟩
theorem dt_not (h : DT X C a tA' wA') : DT X C (.UnaryOp .Not a pos) (tNot tA') (wNot wA') := ⟨pt_not h.pt, it_not h.it⟩
def wAndV (u v : WE) : WE := fun s Q => u s fun d s1 => ∃ b, d = .bool b ∧ if b = true then v s1 Q else Q (.bool false) s1
def wOrV (u v : WE) : WE := fun s Q => u s fun d s1 => ∃ b, d = .bool b ∧ if b = true then Q (.bool true) s1 else v s1 Q
def wNotV (u : WE) : WE := fun s Q => u s fun d s1 => ∃ b, d = .bool b ∧ Q (.bool (!b)) s1
theorem ie_andV (h : IE C ta wa) (h2 : IE C tb wb) : IE C (tAndV ta tb) (wAndV wa wb) := fun G σ H s Q Q' r q k => h G σ H s _ _ r q fun v d s1 G1 H1 q1 r1 eg eh p => by
  obtain ⟨b, rfl, q1⟩ := q1
  refine ⟨b, dp_bl p, ?_⟩
  cases b with
  | false =>
    rw [if_neg (by decide)] at q1
    exact iteF (k _ _ s1 G1 H1 q1 r1 eg eh (.bl _))
  | true =>
    rw [if_pos rfl] at q1
    exact iteT (h2 G1 σ H1 s1 _ _ r1 q1 fun v d s2 G2 H2 q2 r2 eg2 eh2 p2 => k v d s2 G2 H2 q2 r2 (eg.trans eg2) (eh.trans eh2) p2)
theorem ie_orV (h : IE C ta wa) (h2 : IE C tb wb) : IE C (tOrV ta tb) (wOrV wa wb) := fun G σ H s Q Q' r q k => h G σ H s _ _ r q fun v d s1 G1 H1 q1 r1 eg eh p => by
  obtain ⟨b, rfl, q1⟩ := q1
  refine ⟨b, dp_bl p, ?_⟩
  cases b with
  | true =>
    rw [if_pos rfl] at q1
    exact iteT (k _ _ s1 G1 H1 q1 r1 eg eh (.bl _))
  | false =>
    rw [if_neg (by decide)] at q1
    exact iteF (h2 G1 σ H1 s1 _ _ r1 q1 fun v d s2 G2 H2 q2 r2 eg2 eh2 p2 => k v d s2 G2 H2 q2 r2 (eg.trans eg2) (eh.trans eh2) p2)
theorem ie_notV (h : IE C ta wa) : IE C (tNotV ta) (wNotV wa) := fun G σ H s Q Q' r q k => h G σ H s _ _ r q fun v d s1 G1 H1 q1 r1 eg eh p => by
  obtain ⟨b, rfl, q1⟩ := q1
  exact ⟨b, dp_bl p, k _ _ s1 G1 H1 q1 r1 eg eh (.bl _)⟩
theorem de_one {op} (h : DE X C a t w) : DE X C (.BoolOp op [a] pos) t w := ⟨pe_one h.pe, h.ie⟩
theorem de_and (h : DE X C a ta wa) (h2 : DE X C (.BoolOp .And (b :: rest) pos) tb wb) : DE X C (.BoolOp .And (a :: b :: rest) pos) (tAndV ta tb) (wAndV wa wb) := ⟨pe_and h.pe h2.pe, ie_andV h.ie h2.ie⟩
theorem de_or (h : DE X C a ta wa) (h2 : DE X C (.BoolOp .Or (b :: rest) pos) tb wb) : DE X C (.BoolOp .Or (a :: b :: rest) pos) (tOrV ta tb) (wOrV wa wb) := ⟨pe_or h.pe h2.pe, ie_orV h.ie h2.ie⟩
theorem de_not (h : DE X C a t w) : DE X C (.UnaryOp .Not a pos) (tNotV t) (wNotV w) := ⟨pe_not h.pe, ie_notV h.ie⟩
def wIf (c : WT) (u v : WE) : WE := fun s Q => c s fun b s1 => if b = true then u s1 Q else v s1 Q
theorem de_if {c : Expr} (hc : DT X C c tA' wA') (h : DE X C a ta wa) (h2 : DE X C b tb wb) : DE X C (.IfExp c a b pos) (tIf tA' ta tb) (wIf wA' wa wb) := ⟨pe_ifExp hc.pt h.pe h2.pe, fun G σ H s Q Q' r q k =>
  hc.it G σ H s _ _ r q fun bb s1 G1 H1 q1 r1 eg eh => by
    cases bb with
    | true =>
      rw [if_pos rfl] at q1
      exact iteT (h.ie G1 σ H1 s1 _ _ r1 q1 fun v d s2 G2 H2 q2 r2 eg2 eh2 p2 => k v d s2 G2 H2 q2 r2 (eg.trans eg2) (eh.trans eh2) p2)
    | false =>
      rw [if_neg (by decide)] at q1
      exact iteF (h2.ie G1 σ H1 s1 _ _ r1 q1 fun v d s2 G2 H2 q2 r2 eg2 eh2 p2 => k v d s2 G2 H2 q2 r2 (eg.trans eg2) (eh.trans eh2) p2)⟩
/-- truth of a list, tuple, text, int, None -/
def truD : PyData → Option Bool
  | .none => some false
  | .bool b => some b
  | .int i => some (i != 0)
  | .str y => if y.length ≤ 100000 then some ((y.length : Int) != 0) else none
  | .list ds => some (!ds.isEmpty)
  | .tuple ds => some (!ds.isEmpty)
  | .dict _ => none
theorem dpa_emp {K : PySem.W.Frag} {H : Hp} {xs : List V} {ds : List PyData} (h : DpAll K H xs ds) : xs.isEmpty = ds.isEmpty := by
  cases h <;> rfl
def wTru (w : WE) : WT := fun s Q => w s fun d s1 => ∃ k, truD d = some k ∧ Q k s1
theorem dt_tru (hK : X.K = C.K) (h : DP X C e t w) (he : ∀ whole, isTrue e X.env whole = (do let v ← whole; standAt e.pos; holding [v] (truthy v)) := by intro _; rfl) : DT X C e (fun σ H Q => t σ H fun x H' => ∃ k, TruV C.K x H' k ∧ Q k H') (wTru w) :=
  ⟨hK ▸ pt_truth h.pe he, fun G σ H s Q Q' r q k => h.ip G σ H s _ _ r q fun v d s1 G1 H1 q1 r1 eg eh p => by
    obtain ⟨b, hb, q1⟩ := q1
    refine ⟨b, ?_, k b s1 G1 H1 q1 r1 eg eh⟩
    have hd := p.dp r1.fin.gh
    cases d with
    | none => cases hd; cases hb; rfl
    | bool _ => cases hd; cases hb; rfl
    | int _ => cases hd; cases hb; rfl
    | str y =>
      cases hd
      have hb' : (if y.length ≤ 100000 then some ((y.length : Int) != 0) else none) = some b := hb
      split at hb'
      · rename_i hy
        cases hb'
        exact ⟨sz_of hy, rfl⟩
      · cases hb'
    | list ds =>
      cases hd with
      | lst h1 h2 =>
        cases hb
        exact .inl ⟨_, .inl (.inl h1), by rw [dpa_emp h2]⟩
    | tuple ds =>
      cases hd with
      | tup h1 h2 =>
        cases hb
        exact .inr (.inl ⟨_, h1, by rw [dpa_emp h2]⟩)
    | dict _ => cases hb⟩
end
def gI0 (f : Int → Int → PyData) : G2 := fun d e s Q => ∃ i j, d = .int i ∧ e = .int j ∧ Q (f i j) s
def gI (P : Int → Int → Prop) (f : Int → Int → PyData) : G2 := fun d e s Q => ∃ i j, d = .int i ∧ e = .int j ∧ P i j ∧ Q (f i j) s
section
variable {X : Cx} {C : Ct}
theorem pk_int {G H : Hp} {v : V} {i : Int} (h : Pk C G H v (.int i)) : v = .int i := by
  rcases h with h | ⟨_, _, _, _, h, _⟩
  · exact dp_int h
  · cases h
theorem pk_bl {G H : Hp} {v : V} {i : Bool} (h : Pk C G H v (.bool i)) : v = .bl i := by
  rcases h with h | ⟨_, _, _, _, h, _⟩
  · exact dp_bl h
  · cases h
theorem r2_I0 {f : Int → Int → V} {g : Int → Int → PyData} (hg : ∀ G i j, Dp C.K G (f i j) (g i j)) : R2D C (rI0 f) (gI0 g) := ⟨fun G σ H s x y d e Q Q' r p1 p2 q k => by
  obtain ⟨i, j, rfl, rfl, q⟩ := q
  exact ⟨i, j, pk_int p1, pk_int p2, k _ _ s G H q r (Ex.refl G) Gs.refl (hg _ _ _)⟩⟩
theorem r2_I {P : Int → Int → Prop} {f : Int → Int → V} {g : Int → Int → PyData} (hg : ∀ G i j, Dp C.K G (f i j) (g i j)) : R2D C (rI P f) (gI P g) := ⟨fun G σ H s x y d e Q Q' r p1 p2 q k => by
  obtain ⟨i, j, rfl, rfl, hc, q⟩ := q
  exact ⟨i, j, pk_int p1, pk_int p2, hc, k _ _ s G H q r (Ex.refl G) Gs.refl (hg _ _ _)⟩⟩
theorem o_add : OpD X C (binaryOp .Add) (rI0 fun i j => .int (i + j)) (gI0 fun i j => .int (i + j)) := ⟨op_add, r2_I0 fun _ _ _ => .int _⟩
theorem o_sub : OpD X C (binaryOp .Sub) (rI0 fun i j => .int (i - j)) (gI0 fun i j => .int (i - j)) := ⟨op_sub, r2_I0 fun _ _ _ => .int _⟩
theorem o_mul : OpD X C (binaryOp .Mult) (rI CMul fun i j => .int (i * j)) (gI CMul fun i j => .int (i * j)) := ⟨op_mul, r2_I fun _ _ _ => .int _⟩
theorem o_fdiv : OpD X C (binaryOp .FloorDiv) (rI CDiv fun i j => .int (i / j)) (gI CDiv fun i j => .int (i / j)) := ⟨op_fdiv, r2_I fun _ _ _ => .int _⟩
theorem o_lt : OpD X C (compareOp .Lt) (rI0 fun i j => .bl (decide (i < j))) (gI0 fun i j => .bool (decide (i < j))) := ⟨op_lt, r2_I0 fun _ _ _ => .bl _⟩
theorem o_le : OpD X C (compareOp .LtE) (rI0 fun i j => .bl (decide (i ≤ j))) (gI0 fun i j => .bool (decide (i ≤ j))) := ⟨op_le, r2_I0 fun _ _ _ => .bl _⟩
theorem o_gt : OpD X C (compareOp .Gt) (rI0 fun i j => .bl (decide (j < i))) (gI0 fun i j => .bool (decide (j < i))) := ⟨op_gt, r2_I0 fun _ _ _ => .bl _⟩
/-- == and != of data -/
def Shp (d : PyData) : Prop := SeqAt.shaped d = true
def gEq : G2 := fun d e s Q => Shp d ∧ Shp e ∧ Q (.bool (PyData.eqv d e)) s
def gNe : G2 := fun d e s Q => Shp d ∧ Shp e ∧ Q (.bool (!PyData.eqv d e)) s
theorem o_eq (hK : X.K = C.K) (hu : X.A.units + 64 < cLine) : OpD X C (compareOp .Eq) (rEqD C.K) gEq := ⟨hK ▸ op_eqD hu, ⟨fun G σ H s x y d e Q Q' r p1 p2 q k => ⟨d, e, p1.dp r.fin.gh, p2.dp r.fin.gh, q.1, q.2.1, k _ _ s G H q.2.2 r (Ex.refl G) Gs.refl (.bl _)⟩⟩⟩
theorem o_ne (hK : X.K = C.K) (hu : X.A.units + 64 < cLine) : OpD X C (compareOp .NotEq) (rNeD C.K) gNe := ⟨hK ▸ op_neD hu, ⟨fun G σ H s x y d e Q Q' r p1 p2 q k => ⟨d, e, p1.dp r.fin.gh, p2.dp r.fin.gh, q.1, q.2.1, k _ _ s G H q.2.2 r (Ex.refl G) Gs.refl (.bl _)⟩⟩⟩
/-- in, not in a list or a tuple of data -/
def rInB (K : PySem.W.Frag) (neg : Bool) : R2 := fun x y H Q => ∃ d e, Dp K H x d ∧ Dp K H y e ∧ seqd e = true ∧ Shp d ∧ Shp e ∧ Q (.bl (neg ^^ (its e).any fun z => PyData.eqv z d)) H
theorem shp_room {d e : PyData} {A : Around} (hd : Shp d) (hu : A.units + 65 < cLine) (ds : List PyData) : A.units + 1 + min (PyData.depthAll ds) d.depth < cLine := by
  have h1 := SeqAt.depth_of_shaped hd
  have h2 : min (PyData.depthAll ds) d.depth ≤ d.depth := Nat.min_le_right _ _
  omega
theorem op_inB (hu : X.A.units + 65 < cLine) : OpR X (compareOp .In) (rInB X.K false) := by
  intro pins s σ H x y v u Q I rx ry h
  obtain ⟨d, e, hd, he, hs, sd, se, q⟩ := h
  obtain ⟨as, r1⟩ := Dp.reads I d x v hd rx
  obtain ⟨bs, r2⟩ := Dp.reads I e y u he ry
  rw [Bool.false_xor] at q
  cases e with
  | list ds => exact SeqAt.in_list_reads r2 r1 (SeqAt.canLay_of_shaped se) (SeqAt.canLay_of_shaped sd) (shp_room (e := d) sd hu ds) ⟨.bl _, H, I, rfl, q⟩
  | tuple ds => exact SeqAt.in_tuple_reads r2 r1 (SeqAt.canLay_of_shaped se) (SeqAt.canLay_of_shaped sd) (shp_room (e := d) sd hu ds) ⟨.bl _, H, I, rfl, q⟩
  | _ => cases hs
theorem op_notInB (hu : X.A.units + 65 < cLine) : OpR X (compareOp .NotIn) (rInB X.K true) := by
  intro pins s σ H x y v u Q I rx ry h
  obtain ⟨d, e, hd, he, hs, sd, se, q⟩ := h
  obtain ⟨as, r1⟩ := Dp.reads I d x v hd rx
  obtain ⟨bs, r2⟩ := Dp.reads I e y u he ry
  rw [Bool.true_xor] at q
  cases e with
  | list ds => exact SeqAt.notIn_list_reads r2 r1 (SeqAt.canLay_of_shaped se) (SeqAt.canLay_of_shaped sd) (shp_room (e := d) sd hu ds) ⟨.bl _, H, I, rfl, q⟩
  | tuple ds => exact SeqAt.notIn_tuple_reads r2 r1 (SeqAt.canLay_of_shaped se) (SeqAt.canLay_of_shaped sd) (shp_room (e := d) sd hu ds) ⟨.bl _, H, I, rfl, q⟩
  | _ => cases hs
def gIn (neg : Bool) : G2 := fun d e s Q => seqd e = true ∧ Shp d ∧ Shp e ∧ Q (.bool (neg ^^ (its e).any fun z => PyData.eqv z d)) s
theorem r2_in {neg : Bool} : R2D C (rInB C.K neg) (gIn neg) := ⟨fun G σ H s x y d e Q Q' r p1 p2 q k => ⟨d, e, p1.dp r.fin.gh, p2.dp r.fin.gh, q.1, q.2.1, q.2.2.1, k _ _ s G H q.2.2.2 r (Ex.refl G) Gs.refl (.bl _)⟩⟩
theorem o_in (hK : X.K = C.K) (hu : X.A.units + 65 < cLine) : OpD X C (compareOp .In) (rInB C.K false) (gIn false) := ⟨hK ▸ op_inB hu, r2_in⟩
theorem o_notin (hK : X.K = C.K) (hu : X.A.units + 65 < cLine) : OpD X C (compareOp .NotIn) (rInB C.K true) (gIn true) := ⟨hK ▸ op_notInB hu, r2_in⟩
/-- is None, is not None, is of bools -/
def isNone : PyData → Bool
  | .none => true
  | _ => false
theorem pk_none {G H : Hp} {v : V} {d : PyData} (h : Pk C G H v d) : decide (v = .non) = isNone d := by
  rcases h with h | ⟨_, _, _, rfl, rfl, _⟩
  · cases h <;> rfl
  · rfl
def gIsN : G2 := fun d e s Q => e = .none ∧ Q (.bool (isNone d)) s
def gNotN : G2 := fun d e s Q => e = .none ∧ Q (.bool (!isNone d)) s
theorem pk_non {G H : Hp} {v : V} (h : Pk C G H v .none) : v = .non := by
  rcases h with h | ⟨_, _, _, _, h, _⟩
  · cases h; rfl
  · cases h
theorem o_isN : OpD X C (compareOp .Is) (fun x y H Q => y = .non ∧ Q (.bl (decide (x = .non))) H) gIsN := ⟨op_isN, ⟨fun G σ H s x y d e Q Q' r p1 p2 q k => by
  obtain ⟨rfl, q⟩ := q
  refine ⟨pk_non p2, ?_⟩
  rw [pk_none p1]
  exact k _ _ s G H q r (Ex.refl G) Gs.refl (.bl _)⟩⟩
def gIsB : G2 := fun d e s Q => ∃ a b, d = .bool a ∧ e = .bool b ∧ Q (.bool (decide (a = b))) s
def gNotB : G2 := fun d e s Q => ∃ a b, d = .bool a ∧ e = .bool b ∧ Q (.bool (!decide (a = b))) s
theorem o_isB : OpD X C (compareOp .Is) rIsB gIsB := ⟨op_isBl, ⟨fun G σ H s x y d e Q Q' r p1 p2 q k => by
  obtain ⟨a, b, rfl, rfl, q⟩ := q
  exact ⟨a, b, pk_bl p1, pk_bl p2, k _ _ s G H q r (Ex.refl G) Gs.refl (.bl _)⟩⟩⟩
theorem o_notB : OpD X C (compareOp .IsNot) rNotB gNotB := ⟨op_notBl, ⟨fun G σ H s x y d e Q Q' r p1 p2 q k => by
  obtain ⟨a, b, rfl, rfl, q⟩ := q
  exact ⟨a, b, pk_bl p1, pk_bl p2, k _ _ s G H q r (Ex.refl G) Gs.refl (.bl _)⟩⟩⟩
/-- tuple + tuple -/
def gCatT : G2 := fun d e s Q => ∃ ds es, d = .tuple ds ∧ e = .tuple es ∧ ds.length + es.length ≤ 100000 ∧ Q (.tuple (ds ++ es)) s
theorem pk_tup {G H : Hp} {v : V} {ds : List PyData} (h : Pk C G H v (.tuple ds)) : ∃ p xs, v = .ref p ∧ SqT C.K G p xs ∧ DpAll C.K G xs ds := by
  rcases h with h | ⟨_, _, _, _, h, _⟩
  · cases h with
    | tup h1 h2 => exact ⟨_, _, rfl, h1, h2⟩
  · cases h
/-- text + text -/
def gCatS : G2 := fun d e s Q => ∃ i j, d = .str i ∧ e = .str j ∧ i.length + j.length ≤ 100000 ∧ Q (.str (i ++ j)) s
/-- s[i], a list or a tuple -/
def gIx : G2 := fun d e s Q => ∃ i z, seqd d = true ∧ e = .int i ∧ atI (its d) i = some z ∧ Q z s
theorem r2_ix : R2D C (rIxB C.K) gIx := ⟨fun G σ H s x y d e Q Q' r p1 p2 q k => by
  obtain ⟨i, z, hs, rfl, ha, q⟩ := q
  obtain ⟨p, xs, rfl, h1, h2⟩ := p1.seq r.fin.gh hs
  obtain ⟨v, hv, pv⟩ := atI_dpa h2 ha
  exact ⟨isT d, p, xs, i, v, rfl, pk_int p2, h1, hv, k _ _ s G H q r (Ex.refl G) Gs.refl pv⟩⟩
variable {a b e : Expr} {es : List Expr} {pos : Pos} {t ta tb tc : TE} {w wa wb wc : WE} {tA : TA} {wA : WA}
theorem de_ix (hK : X.K = C.K) (ha : DP X C a ta wa) (hb : DP X C b tb wb) (hs : PlainIx b := by exact fun _ _ => rfl) : DE X C (.Subscript a b pos) (tOp (rIxB C.K) ta tb) (w2 gIx wa wb) := ⟨pe_ix (hK ▸ ix_B) ha.pe hb.pe hs, ie_op2 r2_ix.run ha.ip hb.ip⟩
def wCat (u v : WA) : WA := fun s Q => u s fun ds s1 => v s1 fun es s2 => ds.length + es.length ≤ 100000 ∧ Q (ds ++ es) s2
def wRep (u : WA) (v : WE) : WA := fun s Q => u s fun ds s1 => v s1 fun e s2 => ∃ k : Nat, e = .int k ∧ ds.length * k ≤ 100000 ∧ k ≤ 100000 ∧ Q (List.replicate k ds).flatten s2
theorem dpa_rep {K : PySem.W.Frag} {H : Hp} {xs : List V} {ds : List PyData} (h : DpAll K H xs ds) : ∀ k : Nat, DpAll K H (List.replicate k xs).flatten (List.replicate k ds).flatten
  | 0 => .nil
  | k + 1 => by
    rw [List.replicate_succ, List.replicate_succ, List.flatten_cons, List.flatten_cons]
    exact dpa_app h (dpa_rep h k)
theorem do_rep {u : WA} {v : WE} (ha : DL X C a ta u) (hb : DE X C b tb v) : DO X C (.BinOp a .Mult b pos) (tOp rRep ta tb) (wRep u v) := ⟨pe_op op_rep ha.pe hb.pe, fun G σ H s Q Q' r q k =>
  ha.il G σ H s _ _ r q fun p xs ds s1 G1 H1 q1 r1 eg1 eh1 h1 n1 d1 => hb.ie G1 σ H1 s1 _ _ r1 q1 fun v2 es s2 G2 H2 q2 r2 eg2 eh2 d2 => by
    obtain ⟨m, rfl, hm, hm2, q2⟩ := q2
    refine ⟨p, m, xs, rfl, dp_int d2, eh2.gr p _ n1 h1, by omega, by omega, sz_of (by rw [dpa_len d1]; simpa using hm), fun l hl => own_new r q2 r2 (eg1.trans eg2) (eh1.trans eh2) (by simpa using dpa_rep (dpa_ex eg2 d1) m) hl k⟩⟩
end
end Dw
namespace Dw
open PySem PySem.Spec PyProof.Rows L2 OgR Evl
abbrev G1 := PyData → Dt → (PyData → Dt → Prop) → Prop
structure R1D (C : Ct) (r : List V → Hp → VK → Prop) (g : G1) : Prop where
  run : ∀ G σ H s x d Q Q', Rel C G σ H s → Pk C G H x d → g d s Q → (∀ v z s' G' H', Q z s' → Rel C G' σ H' s' → Ex G G' → Gs C σ G H s G' H' s' → Dp C.K G' v z → Q' v H') → r [x] H Q'
/-- .. that give a new list -/
structure R1O (C : Ct) (r : List V → Hp → VK → Prop) (g : PyData → Dt → (List PyData → Dt → Prop) → Prop) : Prop where
  run : ∀ G σ H s x d Q Q', Rel C G σ H s → Pk C G H x d → g d s Q → (∀ vs ds p, Q ds s → DpAll C.K G vs ds → H p = none → Q' (.ref p) (upd H p (.lst vs))) → r [x] H Q'
def w1 (g : G1) (wa : WE) : WE := fun s Q => wa s fun d s1 => g d s1 Q
def w1O (g : PyData → Dt → (List PyData → Dt → Prop) → Prop) (wa : WE) : WA := fun s Q => wa s fun d s1 => g d s1 Q
section
variable {X : Cx} {C : Ct} {a b e : Expr} {es : List Expr} {pos p : Pos} {t ta tb tc : TE} {w wa wb wc : WE} {tA : TA} {wA : WA} {x : Str} {bid : String} {r : List V → Hp → VK → Prop} {g : G1} {gO : PyData → Dt → (List PyData → Dt → Prop) → Prop}
theorem ie_1 (hr : R1D C r g) (ha : IP C ta wa) : IE C (tCB r (tCons ta tNil)) (w1 g wa) := fun G σ H s Q Q' rr q k => ha G σ H s _ _ rr q fun v d s1 G1 H1 q1 r1 eg eh pk =>
  hr.run G1 σ H1 s1 v d _ _ r1 pk q1 fun v2 z s2 G2 H2 q2 r2 eg2 eh2 p2 => k v2 z s2 G2 H2 q2 r2 (eg.trans eg2) (eh.trans eh2) p2
theorem io_1 (hr : R1O C r gO) (ha : IP C ta wa) : IO C (tCB r (tCons ta tNil)) (w1O gO wa) := fun G σ H s Q Q' rr q k => ha G σ H s _ _ rr q fun v d s1 G1 H1 q1 r1 eg eh pk =>
  hr.run G1 σ H1 s1 v d _ _ r1 pk q1 fun vs ds p q2 hd hp => own_new rr q2 r1 eg eh hd hp k
theorem de_b1 (hc : CallR X (.builtin bid) r) (hr : R1D C r g) (hg : Gl X x) (hm : X.mg x = none) (hv : bootBuiltins x = some (.builtin bid)) (ha : DP X C a ta wa) (hn : x ≠ "__name__" := by decide) (hdb : (x == ("__debug__" : Str)) = false := by decide)
    (hs : starEach [a] X.env = (false, eval a X.env) :: starEach [] X.env := by rfl) : DE X C (.Call (.Name x p) [a] [] pos) (tCB r (tCons ta tNil)) (w1 g wa) := ⟨pe_callB hc hg hm hv (pa_cons ha.pe pa_nil hs) hn hdb hs, ie_1 hr ha.ip⟩
theorem de_t1 (hc : CallR X (.type bid) r) (hr : R1D C r g) (hg : Gl X x) (hm : X.mg x = none) (hv : bootBuiltins x = some (.type bid)) (ha : DP X C a ta wa) (hn : x ≠ "__name__" := by decide) (hdb : (x == ("__debug__" : Str)) = false := by decide)
    (hs : starEach [a] X.env = (false, eval a X.env) :: starEach [] X.env := by rfl) : DE X C (.Call (.Name x p) [a] [] pos) (tCB r (tCons ta tNil)) (w1 g wa) := ⟨pe_callTy hc hg hm hv (pa_cons ha.pe pa_nil hs) hn hdb hs, ie_1 hr ha.ip⟩
theorem do_b1 (hc : CallR X (.builtin bid) r) (hr : R1O C r gO) (hg : Gl X x) (hm : X.mg x = none) (hv : bootBuiltins x = some (.builtin bid)) (ha : DP X C a ta wa) (hn : x ≠ "__name__" := by decide) (hdb : (x == ("__debug__" : Str)) = false := by decide)
    (hs : starEach [a] X.env = (false, eval a X.env) :: starEach [] X.env := by rfl) : DO X C (.Call (.Name x p) [a] [] pos) (tCB r (tCons ta tNil)) (w1O gO wa) := ⟨pe_callB hc hg hm hv (pa_cons ha.pe pa_nil hs) hn hdb hs, io_1 hr ha.ip⟩
theorem do_t1 (hc : CallR X (.type bid) r) (hr : R1O C r gO) (hg : Gl X x) (hm : X.mg x = none) (hv : bootBuiltins x = some (.type bid)) (ha : DP X C a ta wa) (hn : x ≠ "__name__" := by decide) (hdb : (x == ("__debug__" : Str)) = false := by decide)
    (hs : starEach [a] X.env = (false, eval a X.env) :: starEach [] X.env := by rfl) : DO X C (.Call (.Name x p) [a] [] pos) (tCB r (tCons ta tNil)) (w1O gO wa) := ⟨pe_callTy hc hg hm hv (pa_cons ha.pe pa_nil hs) hn hdb hs, io_1 hr ha.ip⟩
def lenD : PyData → Option Nat
  | .list ds => some ds.length
  | .tuple ds => some ds.length
  | .str z => if z.length ≤ 100000 then some z.length else none
  | _ => none
def gLen : G1 := fun d s Q => ∃ n : Nat, lenD d = some n ∧ Q (.int n) s
theorem r1_len : R1D C (fun xs H Q => ∃ x n, xs = [x] ∧ LenV C.K x H n ∧ Q (.int n) H) gLen := ⟨fun G σ H s x d Q Q' r pk q k => by
  obtain ⟨n, hn, q⟩ := q
  refine ⟨x, n, rfl, ?_, k _ _ s G H q r (Ex.refl G) Gs.refl (.int _)⟩
  have hd := pk.dp r.fin.gh
  cases d with
  | list ds =>
    cases hd with
    | lst h1 h2 => cases hn; exact .inl ⟨_, .inl (.inl h1), (dpa_len h2).symm⟩
  | tuple ds =>
    cases hd with
    | tup h1 h2 => cases hn; exact .inr ⟨_, h1, (dpa_len h2).symm⟩
  | str z =>
    cases hd
    have hb' : (if z.length ≤ 100000 then some z.length else none) = some n := hn
    split at hb'
    · rename_i hy
      cases hb'
      exact ⟨sz_of hy, rfl⟩
    · cases hb'
  | none => cases hn
  | bool _ => cases hn
  | int _ => cases hn
  | dict _ => cases hn⟩
theorem de_len (hK : X.K = C.K) (hg : Gl X "len") (hm : X.mg "len" = none) (ha : DP X C a ta wa) (hs : starEach [a] X.env = (false, eval a X.env) :: starEach [] X.env := by rfl) :
    DE X C (.Call (.Name "len" p) [a] [] pos) (tCB (fun xs H Q => ∃ x n, xs = [x] ∧ LenV C.K x H n ∧ Q (.int n) H) (tCons ta tNil)) (w1 gLen wa) := de_b1 (hK ▸ call_len) r1_len hg hm PySem.boot_len ha (by decide) (by decide) hs
def gTupleOf : G1 := fun d s Q => seqd d = true ∧ Q (.tuple (its d)) s
def rTupleOf (K : PySem.W.Frag) : List V → Hp → VK → Prop := fun xs H Q => ∃ p ys, xs = [.ref p] ∧ ((SqL K H p ys ∧ ∀ l, H l = none → Q (.ref l) (upd H l (.tup ys))) ∨ (SqT K H p ys ∧ Q (.ref p) H))
theorem r1_tupleOf : R1D C (rTupleOf C.K) gTupleOf := ⟨fun G σ H s x d Q Q' r pk q k => by
  obtain ⟨hs, q⟩ := q
  obtain ⟨p, xs, rfl, h1, h2⟩ := pk.seq r.fin.gh hs
  refine ⟨p, xs, rfl, ?_⟩
  cases d with
  | list ds =>
    refine .inl ⟨h1, fun l hl => ?_⟩
    obtain ⟨r2, eg, eh⟩ := r.new (o := .tup xs) hl
    exact k _ _ s _ _ q r2 eg eh (.tup (.inl (.inl upd_same)) (dpa_ex eg h2))
  | tuple ds =>
    obtain ⟨p', xs', e, h3, h4⟩ := pk_tup pk
    cases e
    exact .inr ⟨h1, k _ _ s G H q r (Ex.refl G) Gs.refl (.tup h3 h4)⟩
  | _ => cases hs⟩
theorem de_tupleOf (hK : X.K = C.K) (hg : Gl X "tuple") (hm : X.mg "tuple" = none) (ha : DP X C a ta wa) (hs : starEach [a] X.env = (false, eval a X.env) :: starEach [] X.env := by rfl) :
    DE X C (.Call (.Name "tuple" p) [a] [] pos) (tCB (rTupleOf C.K) (tCons ta tNil)) (w1 gTupleOf wa) := de_t1 (hK ▸ call_tuple_of) r1_tupleOf hg hm (by decide +kernel) ha (by decide) (by decide) hs
def gListOf : PyData → Dt → (List PyData → Dt → Prop) → Prop := fun d s Q => seqd d = true ∧ Q (its d) s
def rListOf (K : PySem.W.Frag) : List V → Hp → VK → Prop := fun xs H Q => ∃ p ys, xs = [.ref p] ∧ (SqL K H p ys ∨ SqT K H p ys) ∧ ∀ l, H l = none → Q (.ref l) (upd H l (.lst ys))
theorem r1_listOf : R1O C (rListOf C.K) gListOf := ⟨fun G σ H s x d Q Q' r pk q k => by
  obtain ⟨hs, q⟩ := q
  obtain ⟨p, xs, rfl, h1, h2⟩ := pk.seq r.fin.gh hs
  refine ⟨p, xs, rfl, ?_, fun l hl => k xs _ l q h2 hl⟩
  cases d with
  | list ds => exact .inl h1
  | tuple ds => exact .inr h1
  | _ => cases hs⟩
theorem do_listOf (hK : X.K = C.K) (hg : Gl X "list") (hm : X.mg "list" = none) (ha : DP X C a ta wa) (hs : starEach [a] X.env = (false, eval a X.env) :: starEach [] X.env := by rfl) :
    DO X C (.Call (.Name "list" p) [a] [] pos) (tCB (rListOf C.K) (tCons ta tNil)) (w1O gListOf wa) := do_t1 (hK ▸ call_list_of) r1_listOf hg hm (by decide +kernel) ha (by decide) (by decide) hs
/-- list(range(n)) -/
def iotaD (a b : Int) : List PyData := (List.range (b - a).toNat).map fun (i : Nat) => .int (a + (i : Nat))
def wRg1 (wa : WE) : WA := fun s Q => wa s fun d s1 => ∃ n : Int, d = .int n ∧ 0 ≤ n ∧ n ≤ 100000 ∧ Q (iotaD 0 n) s1
def gSum : G1 := fun d s Q => ∃ ns : List Int, d = .list (ns.map .int) ∧ Q (.int ns.sum) s
theorem pk_lst {G H : Hp} {v : V} {ds : List PyData} (h : Pk C G H v (.list ds)) (e : Ex G H) : ∃ p xs, v = .ref p ∧ SqL C.K H p xs ∧ DpAll C.K G xs ds := h.seq e rfl
theorem r1_sum : R1D C (rSum C.K) gSum := ⟨fun G σ H s x d Q Q' r pk q k => by
  obtain ⟨ns, rfl, q⟩ := q
  obtain ⟨p, xs, rfl, h1, h2⟩ := pk_lst pk r.fin.gh
  rw [ints_dpa h2] at h1
  exact ⟨p, ns, rfl, h1, k _ _ s G H q r (Ex.refl G) Gs.refl (.int _)⟩⟩
theorem de_sum (hK : X.K = C.K) (hc : X.calm = true) (hg : Gl X "sum") (hm : X.mg "sum" = none) (ha : DP X C a ta wa) (hs : starEach [a] X.env = (false, eval a X.env) :: starEach [] X.env := by rfl) :
    DE X C (.Call (.Name "sum" p) [a] [] pos) (tCB (rSum C.K) (tCons ta tNil)) (w1 gSum wa) := de_b1 (hK ▸ cr_sum hc) r1_sum hg hm (by decide +kernel) ha (by decide) (by decide) hs
theorem bls_dpa {K : PySem.W.Frag} {H : Hp} : ∀ {ns : List Bool} {xs : List V}, DpAll K H xs (ns.map PyData.bool) → xs = ns.map V.bl
  | [], _, .nil => rfl
  | _ :: _, _, .cons h t => by
    cases h
    rw [bls_dpa t]
    rfl
def gAll : G1 := fun d s Q => ∃ bs : List Bool, d = .list (bs.map .bool) ∧ Q (.bool (bs.all id)) s
theorem r1_all : R1D C (rAll C.K) gAll := ⟨fun G σ H s x d Q Q' r pk q k => by
  obtain ⟨ns, rfl, q⟩ := q
  obtain ⟨p, xs, rfl, h1, h2⟩ := pk_lst pk r.fin.gh
  rw [bls_dpa h2] at h1
  exact ⟨p, ns, rfl, h1, k _ _ s G H q r (Ex.refl G) Gs.refl (.bl _)⟩⟩
theorem de_all (hK : X.K = C.K) (hc : X.calm = true) (hg : Gl X "all") (hm : X.mg "all" = none) (ha : DP X C a ta wa) (hs : starEach [a] X.env = (false, eval a X.env) :: starEach [] X.env := by rfl) :
    DE X C (.Call (.Name "all" p) [a] [] pos) (tCB (rAll C.K) (tCons ta tNil)) (w1 gAll wa) := de_b1 (hK ▸ cr_all hc) r1_all hg hm (by decide +kernel) ha (by decide) (by decide) hs
def gInt : G1 := fun d s Q => (∃ i, d = .int i ∧ Q (.int i) s) ∨ ∃ b, d = .bool b ∧ Q (.int (if b then 1 else 0)) s
theorem r1_int : R1D C (fun xs H Q => (∃ i, xs = [.int i] ∧ Q (.int i) H) ∨ ∃ k, xs = [.bl k] ∧ Q (.int (if k then 1 else 0)) H) gInt := ⟨fun G σ H s x d Q Q' r pk q k => by
  rcases q with ⟨i, rfl, q⟩ | ⟨b, rfl, q⟩
  · exact .inl ⟨i, by rw [pk_int pk], k _ _ s G H q r (Ex.refl G) Gs.refl (.int _)⟩
  · exact .inr ⟨b, by rw [pk_bl pk], k _ _ s G H q r (Ex.refl G) Gs.refl (.int _)⟩⟩
theorem de_toInt (hg : Gl X "int") (hm : X.mg "int" = none) (ha : DP X C a ta wa) (hs : starEach [a] X.env = (false, eval a X.env) :: starEach [] X.env := by rfl) :
    DE X C (.Call (.Name "int" p) [a] [] pos) (tCB (fun xs H Q => (∃ i, xs = [.int i] ∧ Q (.int i) H) ∨ ∃ k, xs = [.bl k] ∧ Q (.int (if k then 1 else 0)) H) (tCons ta tNil)) (w1 gInt wa) := de_t1 call_int1 r1_int hg hm (by decide +kernel) ha (by decide) (by decide) hs
def gStr : G1 := fun d s Q => ∃ i : Int, d = .int i ∧ i.natAbs < 2 ^ 1000 ∧ Q (.str (toString i)) s
/-- max(a, b), min(a, b) of ints -/
def w2a (g : G2) (wa wb : WE) : WE := fun s Q => wa s fun d s1 => wb s1 fun e s2 => g d e s2 Q
theorem ie_2a {f : Int → Int → Int} (ha : IE C ta wa) (hb : IE C tb wb) : IE C (tCB (fun xs H Q => ∃ i j, xs = [.int i, .int j] ∧ Q (.int (f i j)) H) (tCons ta (tCons tb tNil))) (w2a (gI0 fun i j => .int (f i j)) wa wb) := fun G σ H s Q Q' r q k =>
  ha G σ H s _ _ r q fun v d s1 G1 H1 q1 r1 eg1 eh1 p1 => hb G1 σ H1 s1 _ _ r1 q1 fun v2 d2 s2 G2 H2 q2 r2 eg2 eh2 p2 => by
    obtain ⟨i, j, rfl, rfl, q3⟩ := q2
    exact ⟨i, j, by rw [dp_int p1, dp_int p2], k _ _ s2 G2 H2 q3 r2 (eg1.trans eg2) (eh1.trans eh2) (.int _)⟩
theorem de_max2 (hc : X.calm = true) (hg : Gl X "max") (hm : X.mg "max" = none) (ha : DE X C a ta wa) (hb : DE X C b tb wb) (hs : starEach [a, b] X.env = (false, eval a X.env) :: starEach [b] X.env := by rfl) (hs2 : starEach [b] X.env = (false, eval b X.env) :: starEach [] X.env := by rfl) (hpl : (backTo pos (starEach [b] X.env)).any (·.1) = false := by rfl) :
    DE X C (.Call (.Name "max" p) [a, b] [] pos) (tCB (fun xs H Q => ∃ i j, xs = [.int i, .int j] ∧ Q (.int (if j > i then j else i)) H) (tCons ta (tCons tb tNil))) (w2a (gI0 fun i j => .int (if j > i then j else i)) wa wb) :=
  ⟨pe_callB (call_max2 hc) hg hm (by decide +kernel) (pa_cons ha.pe (pa_cons hb.pe pa_nil hs2) hs) (by decide) (by decide) hs hpl, ie_2a ha.ie hb.ie⟩
end
end Dw
namespace Dw
open PySem PySem.Spec PyProof.Rows L2 OgR Evl
theorem tyx_L {K : PySem.W.Frag} {H : Hp} {a : Addr} {xs : List V} (h : SqL K H a xs) : TyX K H (.ref a) (.type "list") := by
  rcases h with (h | ⟨o, h⟩) | ⟨o, _, _, hk, hc, _⟩
  · exact .base (.lst h)
  · exact .base (.frz h)
  · exact .kList hk hc
theorem tyx_T {K : PySem.W.Frag} {H : Hp} {a : Addr} {xs : List V} (h : SqT K H a xs) : TyX K H (.ref a) (.type "tuple") := by
  rcases h with (h | ⟨o, h⟩) | ⟨o, _, _, hk, hc, _⟩
  · exact .base (.tup h)
  · exact .fTuple h
  · exact .kTuple hk hc
def tyN : PyData → String
  | .none => "NoneType"
  | .bool _ => "bool"
  | .int _ => "int"
  | .str _ => "str"
  | .list _ => "list"
  | .tuple _ => "tuple"
  | .dict _ => "dict"
theorem tyx_D {K : PySem.W.Frag} {H : Hp} {v : V} {d : PyData} (h : Dp K H v d) : TyX K H v (.type (tyN d)) := by
  cases h with
  | non => exact .base .non
  | bl b => exact .base (.bl b)
  | int i => exact .base (.int i)
  | str x => exact .base (.str x)
  | lst h _ => exact tyx_L (.inl (.inl h))
  | tup h _ => exact tyx_T h
/-- whether data is of a built-in class -/
inductive Ty where
  | int | bool | str | list | tuple
def Ty.nm : Ty → String
  | .int => "int"
  | .bool => "bool"
  | .str => "str"
  | .list => "list"
  | .tuple => "tuple"
def isA : Ty → PyData → Bool
  | .int, .int _ => true
  | .int, .bool _ => true
  | .bool, .bool _ => true
  | .str, .str _ => true
  | .list, .list _ => true
  | .tuple, .tuple _ => true
  | _, _ => false
theorem kt (T : Ty) (d : PyData) : kitB (tyN d) T.nm = some (isA T d) := by
  cases T with
  | int =>
    cases d with
    | none => exact (show kitB "NoneType" "int" = some false by decide +kernel)
    | bool _ => exact (show kitB "bool" "int" = some true by decide +kernel)
    | int _ => exact (show kitB "int" "int" = some true by decide +kernel)
    | str _ => exact (show kitB "str" "int" = some false by decide +kernel)
    | list _ => exact (show kitB "list" "int" = some false by decide +kernel)
    | tuple _ => exact (show kitB "tuple" "int" = some false by decide +kernel)
    | dict _ => exact (show kitB "dict" "int" = some false by decide +kernel)
  | bool =>
    cases d with
    | none => exact (show kitB "NoneType" "bool" = some false by decide +kernel)
    | bool _ => exact (show kitB "bool" "bool" = some true by decide +kernel)
    | int _ => exact (show kitB "int" "bool" = some false by decide +kernel)
    | str _ => exact (show kitB "str" "bool" = some false by decide +kernel)
    | list _ => exact (show kitB "list" "bool" = some false by decide +kernel)
    | tuple _ => exact (show kitB "tuple" "bool" = some false by decide +kernel)
    | dict _ => exact (show kitB "dict" "bool" = some false by decide +kernel)
  | str =>
    cases d with
    | none => exact (show kitB "NoneType" "str" = some false by decide +kernel)
    | bool _ => exact (show kitB "bool" "str" = some false by decide +kernel)
    | int _ => exact (show kitB "int" "str" = some false by decide +kernel)
    | str _ => exact (show kitB "str" "str" = some true by decide +kernel)
    | list _ => exact (show kitB "list" "str" = some false by decide +kernel)
    | tuple _ => exact (show kitB "tuple" "str" = some false by decide +kernel)
    | dict _ => exact (show kitB "dict" "str" = some false by decide +kernel)
  | list =>
    cases d with
    | none => exact (show kitB "NoneType" "list" = some false by decide +kernel)
    | bool _ => exact (show kitB "bool" "list" = some false by decide +kernel)
    | int _ => exact (show kitB "int" "list" = some false by decide +kernel)
    | str _ => exact (show kitB "str" "list" = some false by decide +kernel)
    | list _ => exact (show kitB "list" "list" = some true by decide +kernel)
    | tuple _ => exact (show kitB "tuple" "list" = some false by decide +kernel)
    | dict _ => exact (show kitB "dict" "list" = some false by decide +kernel)
  | tuple =>
    cases d with
    | none => exact (show kitB "NoneType" "tuple" = some false by decide +kernel)
    | bool _ => exact (show kitB "bool" "tuple" = some false by decide +kernel)
    | int _ => exact (show kitB "int" "tuple" = some false by decide +kernel)
    | str _ => exact (show kitB "str" "tuple" = some false by decide +kernel)
    | list _ => exact (show kitB "list" "tuple" = some false by decide +kernel)
    | tuple _ => exact (show kitB "tuple" "tuple" = some true by decide +kernel)
    | dict _ => exact (show kitB "dict" "tuple" = some false by decide +kernel)
theorem kit2 {K : PySem.W.Frag} {x a b : String} {b1 b2 : Bool} (h1 : kitB x a = some b1) (h2 : kitB x b = some b2) : PySem.W.kitAny K (.type x) [.type a, .type b] = some (b1 || b2) := by
  cases b1 with
  | true => exact kitAny_cons (kit_ty h1) (fun e => nomatch e) (fun _ => rfl)
  | false =>
    cases b2 with
    | true => exact kitAny_cons (kit_ty h1) (fun _ => kitAny_cons (kit_ty h2) (fun e => nomatch e) (fun _ => rfl)) (fun e => nomatch e)
    | false => exact kitAny_cons (kit_ty h1) (fun _ => kitAny_cons (kit_ty h2) (fun _ => kitAny_nil) (fun e => nomatch e)) (fun e => nomatch e)
section
variable {X : Cx} {C : Ct} {a b e : Expr} {es : List Expr} {pos p : Pos} {t ta tb tc : TE} {w wa wb wc : WE} {tA : TA} {wA : WA} {x : Str}
def wIsi (T : Ty) (wa : WE) : WE := fun s Q => wa s fun d s1 => Q (.bool (isA T d)) s1
theorem ie_isi {T : Ty} (ha : IP C ta wa) : IE C (tCB (rIsi C.K) (tCons ta (tCons (tC (.ty T.nm)) tNil))) (wIsi T wa) := fun G σ H s Q Q' r q k =>
  ha G σ H s _ _ r q fun v d s1 G1 H1 q1 r1 eg eh pk => ⟨v, _, _, _, isA T d, rfl, .ty _, tyx_D (pk.dp r1.fin.gh), kit_ty (kt T d), k _ _ s1 G1 H1 q1 r1 eg eh (.bl _)⟩
theorem de_isi (T : Ty) {y : Str} {p2 : Pos} (hK : X.K = C.K) (hg : Gl X "isinstance") (hm : X.mg "isinstance" = none) (hg2 : Gl X y) (hm2 : X.mg y = none) (hb2 : bootBuiltins y = some (.type T.nm)) (ha : DP X C a ta wa)
    (hs : starEach [a, .Name y p2] X.env = (false, eval a X.env) :: starEach [.Name y p2] X.env := by rfl) (hpl : (backTo pos (starEach [.Name y p2] X.env)).any (·.1) = false := by rfl) (hny : y ≠ "__name__" := by decide) (hdy : (y == ("__debug__" : Str)) = false := by decide)
    (hs2 : starEach [.Name y p2] X.env = (false, eval (.Name y p2) X.env) :: starEach [] X.env := by rfl) :
    DE X C (.Call (.Name "isinstance" p) [a, .Name y p2] [] pos) (tCB (rIsi C.K) (tCons ta (tCons (tC (.ty T.nm)) tNil))) (wIsi T wa) :=
  ⟨pe_callB (hK ▸ call_isi) hg hm (by decide +kernel) (pa_cons ha.pe (pa_cons (pe_bltn (v := .ty T.nm) hg2 hm2 hb2 rfl hny hdy) pa_nil hs2) hs) (by decide) (by decide) hs hpl, ie_isi ha.ip⟩
def wIsi2 (T U : Ty) (wa : WE) : WE := fun s Q => wa s fun d s1 => Q (.bool (isA T d || isA U d)) s1
theorem de_isi2 (T U : Ty) {y z : Str} {p2 p3 p4 : Pos} {kk} (hK : X.K = C.K) (hg : Gl X "isinstance") (hm : X.mg "isinstance" = none) (hg2 : Gl X y) (hm2 : X.mg y = none) (hb2 : bootBuiltins y = some (.type T.nm))
    (hg3 : Gl X z) (hm3 : X.mg z = none) (hb3 : bootBuiltins z = some (.type U.nm)) (ha : DP X C a ta wa)
    (hs : starEach [a, .Tuple [.Name y p2, .Name z p3] kk p4] X.env = (false, eval a X.env) :: starEach [.Tuple [.Name y p2, .Name z p3] kk p4] X.env := by rfl) (hpl : (backTo pos (starEach [.Tuple [.Name y p2, .Name z p3] kk p4] X.env)).any (·.1) = false := by rfl)
    (hny : y ≠ "__name__" := by decide) (hdy : (y == ("__debug__" : Str)) = false := by decide) (hnz : z ≠ "__name__" := by decide) (hdz : (z == ("__debug__" : Str)) = false := by decide)
    (hs2 : starEach [.Tuple [.Name y p2, .Name z p3] kk p4] X.env = (false, eval (.Tuple [.Name y p2, .Name z p3] kk p4) X.env) :: starEach [] X.env := by rfl)
    (hs3 : starEach [.Name y p2, .Name z p3] X.env = (false, eval (.Name y p2) X.env) :: starEach [.Name z p3] X.env := by rfl) (hs4 : starEach [.Name z p3] X.env = (false, eval (.Name z p3) X.env) :: starEach [] X.env := by rfl) :
    DE X C (.Call (.Name "isinstance" p) [a, .Tuple [.Name y p2, .Name z p3] kk p4] [] pos) (tCB (rIsiT C.K) (tCons ta (tCons (tTup (tCons (tC (.ty T.nm)) (tCons (tC (.ty U.nm)) tNil))) tNil))) (wIsi2 T U wa) :=
  ⟨pe_callB (hK ▸ call_isiT) hg hm (by decide +kernel) (pa_cons ha.pe (pa_cons (pe_tup (pa_cons (pe_bltn (v := .ty T.nm) hg2 hm2 hb2 rfl hny hdy) (pa_cons (pe_bltn (v := .ty U.nm) hg3 hm3 hb3 rfl hnz hdz) pa_nil hs4) hs3)) pa_nil hs2) hs) (by decide) (by decide) hs hpl,
   fun G σ H s Q Q' r q k => ha.ip G σ H s _ _ r q fun v d s1 G1 H1 q1 r1 eg eh pk => ⟨(show 2 ≤ sizeLine by decide), fun tp htp => by
    have e : Ex H1 (upd H1 tp (.tup [.ty T.nm, .ty U.nm])) := Ex.new htp
    exact ⟨v, tp, _, _, _, isA T d || isA U d, rfl, upd_same, .cons (.ty _) (.cons (.ty _) .nil), tyx_D (dp_ex e (pk.dp r1.fin.gh)), kit2 (kt T d) (kt U d), k _ _ s1 G1 _ q1 (r1.aside e) eg (eh.trans (.side e)) (.bl _)⟩⟩⟩
def cutD (xs : List PyData) (lo hi : Option Int) : List PyData := (xs.drop (HT.sIx xs.length 0 lo)).take (HT.sIx xs.length xs.length hi - HT.sIx xs.length 0 lo)
theorem dpa_cut {K : PySem.W.Frag} {H : Hp} {xs : List V} {ds : List PyData} (h : DpAll K H xs ds) (lo hi : Option Int) : DpAll K H (cutV xs lo hi) (cutD ds lo hi) := by
  unfold cutV cutD
  rw [dpa_len h]
  exact dpa_take _ (dpa_drop _ h)
abbrev WO := Dt → (Option Int → Dt → Prop) → Prop
def IOp (C : Ct) (t : TO) (w : WO) : Prop := ∀ G σ H s Q Q', Rel C G σ H s → w s Q →
  (∀ o s' G' H', Q o s' → Rel C G' σ H' s' → Ex G G' → Gs C σ G H s G' H' s' → Q' o H') → t σ H Q'
structure DOp (X : Cx) (C : Ct) (e : Option Expr) (t : TO) (w : WO) : Prop where
  po : PO X e t
  io : IOp C t w
theorem do_none : DOp X C none tNoPart (fun s Q => Q none s) := ⟨po_none, fun G σ H s Q Q' r q k => k none s G H q r (Ex.refl G) Gs.refl⟩
theorem do_some (h : DE X C e t w) : DOp X C (some e) (tPart t) (fun s Q => w s fun d s1 => ∃ i, d = .int i ∧ Q (some i) s1) := ⟨po_some h.pe, fun G σ H s Q Q' r q k => h.ie G σ H s _ _ r q fun v d s1 G1 H1 q1 r1 eg eh p => by
  obtain ⟨i, rfl, q1⟩ := q1
  exact ⟨i, dp_int p, k (some i) s1 G1 H1 q1 r1 eg eh⟩⟩
variable {lo hi : Option Expr} {tl th : TO} {wl wh : WO} {p2 : Pos}
def wSlT (wa : WE) (wl wh : WO) : WE := fun s Q => wa s fun d s1 => wl s1 fun l s2 => wh s2 fun h s3 => ∃ ds, d = .tuple ds ∧ Q (.tuple (cutD ds l h)) s3
/-- t[lo:hi] -/
theorem de_slT (hK : X.K = C.K) (ha : DP X C a ta wa) (hl : DOp X C lo tl wl) (hh : DOp X C hi th wh) : DE X C (.Subscript a (.Slice lo hi none p2) pos) (tSl (rSlA C.K) ta tl th) (wSlT wa wl wh) := ⟨pe_slice (hK ▸ sl_tupA) ha.pe hl.po hh.po, fun G σ H s Q Q' r q k =>
  ha.ip G σ H s _ _ r q fun v d s1 G1 H1 q1 r1 eg1 eh1 pk => hl.io G1 σ H1 s1 _ _ r1 q1 fun l s2 G2 H2 q2 r2 eg2 eh2 => hh.io G2 σ H2 s2 _ _ r2 q2 fun h s3 G3 H3 q3 r3 eg3 eh3 => by
    obtain ⟨ds, rfl, q3⟩ := q3
    obtain ⟨p, xs, rfl, h1, h2⟩ := pk_tup pk
    have h1' := Evl.ex_t ((eg2.trans eg3).trans r3.fin.gh) h1
    have h2' := dpa_ex (eg2.trans eg3) h2
    refine ⟨p, xs, rfl, h1', fun hw => ?_, fun _ l hl => ?_⟩
    · have e : cutD ds l h = ds := by
        unfold cutD
        rw [dpa_len h2'] at hw
        rw [hw.1, hw.2, List.drop_zero, Nat.sub_zero, List.take_length]
      rw [e] at q3
      exact k _ _ s3 G3 H3 q3 r3 ((eg1.trans eg2).trans eg3) ((eh1.trans eh2).trans eh3) (.tup (Evl.ex_t (eg2.trans eg3) h1) h2')
    · obtain ⟨r4, eg, eh⟩ := r3.new (o := .tup (cutV xs _ _)) hl
      exact k _ _ s3 _ _ q3 r4 (((eg1.trans eg2).trans eg3).trans eg) (((eh1.trans eh2).trans eh3).trans eh) (.tup (.inl (.inl upd_same)) (dpa_ex eg (dpa_cut h2' _ _)))⟩
/-- xs[lo:hi], a new list -/
def wSlL (wa : WE) (wl wh : WO) : WA := fun s Q => wa s fun d s1 => wl s1 fun l s2 => wh s2 fun h s3 => ∃ ds, d = .list ds ∧ Q (cutD ds l h) s3
theorem do_slL (hK : X.K = C.K) (ha : DP X C a ta wa) (hl : DOp X C lo tl wl) (hh : DOp X C hi th wh) : DO X C (.Subscript a (.Slice lo hi none p2) pos) (tSl (rSlL C.K) ta tl th) (wSlL wa wl wh) := ⟨pe_slice (hK ▸ sl_list) ha.pe hl.po hh.po, fun G σ H s Q Q' r q k =>
  ha.ip G σ H s _ _ r q fun v d s1 G1 H1 q1 r1 eg1 eh1 pk => hl.io G1 σ H1 s1 _ _ r1 q1 fun l s2 G2 H2 q2 r2 eg2 eh2 => hh.io G2 σ H2 s2 _ _ r2 q2 fun h s3 G3 H3 q3 r3 eg3 eh3 => by
    obtain ⟨ds, rfl, q3⟩ := q3
    obtain ⟨p, xs, rfl, h1, h2⟩ := pk_lst ((pk.mono eg2 eh2.gr).mono eg3 eh3.gr) r3.fin.gh
    exact ⟨p, xs, rfl, h1, fun l hl => own_new r q3 r3 ((eg1.trans eg2).trans eg3) ((eh1.trans eh2).trans eh3) (dpa_cut h2 _ _) hl k⟩⟩
/-- s[lo:hi], a text -/
def wSlS (wa : WE) (wl wh : WO) : WE := fun s Q => wa s fun d s1 => wl s1 fun l s2 => wh s2 fun h s3 => ∃ z, d = .str z ∧ z.length ≤ 100000 ∧ Q (.str (cutS z l h)) s3
/-- t[::-1], a tuple -/
def wRevT (wa : WE) : WE := fun s Q => wa s fun d s1 => ∃ ds, d = .tuple ds ∧ Q (.tuple ds.reverse) s1
/-- -n -/
def wNeg (wa : WE) : WE := fun s Q => wa s fun d s1 => ∃ i, d = .int i ∧ Q (.int (-i)) s1
theorem de_neg (ha : DE X C a ta wa) : DE X C (.UnaryOp .USub a pos) (tUn (rU fun i => .int (-i)) ta) (wNeg wa) := ⟨pe_un un_neg ha.pe, fun G σ H s Q Q' r q k =>
  ha.ie G σ H s _ _ r q fun v d s1 G1 H1 q1 r1 eg1 eh1 p => by
    obtain ⟨i, rfl, q1⟩ := q1
    exact ⟨i, dp_int p, k _ _ s1 G1 H1 q1 r1 eg1 eh1 (.int _)⟩⟩
abbrev FP := List PyData → (PyData → Prop) → Prop
abbrev FB := List PyData → Int → (PyData → Int → Prop) → Prop
/-- a def that only reads and makes data -/
def spP (K : PySem.W.Frag) (F : FP) : Sp := fun vs H Q _ => ∃ G ds R, Ex G H ∧ DpAll K G vs ds ∧ F ds R ∧
  ∀ v d G' H', R d → Ex G G' → Ex H H' → Ex G' H' → Nw G G' H → Dp K G' v d → Q v H'
/-- a def that draws: the box is its first argument -/
def spB (K : PySem.W.Frag) (F : FB) : Sp := fun vs H Q _ => ∃ l vs' G ds c R, vs = .ref l :: vs' ∧ BoxAt H l c ∧ G l = none ∧ Ex G H ∧ DpAll K G vs' ds ∧ F ds c R ∧
  ∀ v d c' G' H', R d c' → Ex G G' → (∀ b o, b ≠ l → H b = some o → H' b = some o) → BoxAt H' l c' → Ex G' H' → Nw G G' H → Dp K G' v d → Q v H'
def wCall (F : FP) (wA : WA) : WE := fun s Q => wA s fun ds s1 => F ds fun d => Q d s1
theorem ie_call {F : FP} {E : XK} (h : IA C tA wA) : IE C (tCall (spP C.K F) [] E tA) (wCall F wA) := fun G σ H s Q Q' r q k =>
  h G σ H s _ _ r q fun vs ds s1 G1 H1 q1 r1 eg eh p => ⟨G1, ds, _, r1.fin.gh, by rw [List.append_nil]; exact p, q1, fun v d G2 H2 q2 eg2 eh2 gh nw pd =>
    k v d s1 G2 H2 q2 (r1.grow eg2 eh2 gh nw) (eg.trans eg2) (eh.trans (.grow eh2 nw)) pd⟩
/-- .. the box in slot i -/
def wCallB (i : Nat) (F : FB) (wA : WA) : WE := fun s Q => s.env[i]? = some (some .box) ∧ wA s fun ds s1 => F ds s1.c.n fun d c' => Q d ⟨s1.env, c', s1.c.o⟩
theorem ie_callB {F : FB} {E : XK} {i : Nat} (h : IA C tA wA) : IE C (tCall (spB C.K F) [] E (tCons (tVar i) tA)) (wCallB i F wA) := fun G σ H s Q Q' r q k => by
  obtain ⟨e, q⟩ := q
  obtain ⟨v, hv, l, hl, rfl⟩ := r.sl i _ e
  refine ⟨_, hv, h G σ H s _ _ r q fun vs ds s1 G1 H1 q1 r1 eg eh p => ⟨l, vs, G1, ds, s1.c.n, _, by rw [List.append_nil], r1.fin.boxAt hl, r1.fin.boxG hl, r1.fin.gh, p, q1, fun v d c' G2 H2 q2 eg2 eh2 hb gh nw pd => ?_⟩⟩
  have gr : Gr C H1 H2 := fun b o hn hb => eh2 b o (fun z => hn (by rw [z]; exact .ofb hl)) hb
  refine k v d _ G2 H2 q2 (r1.step (c' := ⟨c', s1.c.o⟩) eg2 gr gh nw (r1.fin.obx eg2 (.inl hl) eh2) (r1.fin.boxStep (c' := ⟨c', s1.c.o⟩) hl eh2 hb)) (eg.trans eg2) (eh.trans ⟨gr, fun b h z => ?_, fun b o h1 _ h2 hn _ => nw.out h1 h2 hn, fun i x e m => ⟨x, e, m⟩⟩) pd
  · by_cases hb2 : b = l
    · exact hb.ne (hb2 ▸ z)
    · cases q : H1 b with
      | none => exact h q
      | some o => rw [eh2 b o hb2 q] at z; cases z
end
end Dw
namespace Dw
open PySem PySem.Spec PyProof.Rows L2 OgR Evl
def Dt.set (s : Dt) (i : Nat) (x : DV) : Dt := ⟨s.env.set i (some x), s.c⟩
section
variable {C : Ct} {G G' H H' : Hp} {σ : L2.St} {s : Dt} {c c' : Cs}
theorem get_set {α : Type} {l : List (Option α)} {i j : Nat} {x y : α} (h : (l.set i (some x))[j]? = some (some y)) : (j = i ∧ y = x ∧ i < l.length) ∨ (j ≠ i ∧ l[j]? = some (some y)) := by
  by_cases z : j = i
  · subst z
    by_cases hl : j < l.length
    · rw [List.getElem?_set_self hl] at h
      cases h
      exact .inl ⟨rfl, rfl, hl⟩
    · rw [List.getElem?_eq_none (by rw [List.length_set]; omega)] at h
      cases h
  · rw [List.getElem?_set_ne (Ne.symm z)] at h
    exact .inr ⟨z, h⟩
theorem Rel.put (r : Rel C G σ H s) {i : Nat} {v : V} {x : DV} (rv : RV C G H v x) (hd : x.mut = true → ∀ (j : Nat) y p, s.env[j]? = some (some y) → y.mut = true → v = .ref p → σ[j]? ≠ some (some (.ref p))) : Rel C G (σ.set i (some v)) H (s.set i x) := by
  refine ⟨r.fin, by show (s.env.set i _).length = _; rw [List.length_set, List.length_set]; exact r.len, fun j y e => ?_, fun j k y z p hne e1 e2 m1 m2 hs => ?_⟩
  · rcases get_set e with ⟨rfl, rfl, hl⟩ | ⟨z, e⟩
    · exact ⟨v, List.getElem?_set_self (by rw [← r.len]; exact hl), rv⟩
    · obtain ⟨v', hv, rv'⟩ := r.sl j y e
      exact ⟨v', by rw [List.getElem?_set_ne (Ne.symm z)]; exact hv, rv'⟩
  · rcases get_set e1 with ⟨w1, w2, hl⟩ | ⟨z1, f1⟩
    · rcases get_set e2 with ⟨w3, _, _⟩ | ⟨z2, f2⟩
      · exact absurd (w1.trans w3.symm) hne
      · subst w1
        subst w2
        rw [List.getElem?_set_self (by rw [← r.len]; exact hl)] at hs
        cases hs
        rw [List.getElem?_set_ne (Ne.symm z2)]
        exact hd m1 k z p f2 m2 rfl
    · rw [List.getElem?_set_ne (Ne.symm z1)] at hs
      rcases get_set e2 with ⟨w1, w2, hl⟩ | ⟨z2, f2⟩
      · subst w1
        subst w2
        rw [List.getElem?_set_self (by rw [← r.len]; exact hl)]
        intro q
        cases q
        exact hd m2 j y p f1 m1 rfl hs
      · rw [List.getElem?_set_ne (Ne.symm z2)]
        exact r.dis j k y z p hne f1 f2 m1 m2 hs
theorem Rel.putd (r : Rel C G σ H s) {i : Nat} {v : V} {d : PyData} (rv : Dp C.K G v d) : Rel C G (σ.set i (some v)) H (s.set i (.d d)) := r.put (x := .d d) rv fun m => nomatch m
/-- a list of the def's own changes -/
theorem Rel.mutl (r : Rel C G σ H s) {i : Nat} {p : Addr} {ds ds' : List PyData} {xs' : List V} (e : s.env[i]? = some (some (.own ds))) (hs : σ[i]? = some (some (.ref p))) (hd : DpAll C.K G xs' ds') : Rel C G σ (upd H p (.lst xs')) (s.set i (.own ds')) := by
  obtain ⟨v, hv, p', xs, hvp, h1, h2, h3, h4⟩ := r.sl i _ e
  rw [hs] at hv
  cases hv
  cases hvp
  have gp : ∀ b, G b ≠ none → b ≠ p := fun b hb z => hb (by rw [z]; exact h3)
  refine ⟨⟨fun b o hb => ?_, r.fin.g0, r.fin.nw, fun b o n hb => ?_, r.fin.ok, r.fin.obu (Ex.refl G) h2 (fun b o n e => by rw [upd_ne n]; exact e), fun l hl => ?_⟩, by show (s.env.set i _).length = _; rw [List.length_set]; exact r.len, fun j y ej => ?_, fun j k y z q hne e1 e2 m1 m2 => ?_⟩
  · rw [upd_ne (gp b (by rw [hb]; exact Option.some_ne_none _))]
    exact r.fin.gh b o hb
  · rw [upd_ne (fun z => by rw [z, h2] at hb; cases hb)]
    exact r.fin.hh b o n hb
  · have hlp : l ≠ p := fun z => r.fin.nbx h2 (by rw [← z]; exact hl)
    exact ⟨(r.fin.bx l hl).1.updS h1 rfl hlp, (r.fin.bx l hl).2⟩
  · rcases get_set ej with ⟨rfl, rfl, hl⟩ | ⟨z, ej⟩
    · exact ⟨_, hs, p, xs', rfl, upd_same, h2, h3, hd⟩
    · obtain ⟨v', hv', rv⟩ := r.sl j y ej
      refine ⟨v', hv', ?_⟩
      cases y with
      | d x => exact rv
      | box => exact rv
      | ob _ => exact rv
      | own ds2 =>
        obtain ⟨p2, xs2, a1, a2, a3, a4, a5⟩ := rv
        exact ⟨p2, xs2, a1, by rw [upd_ne fun z' => r.dis i j _ _ p (Ne.symm z) e ej rfl rfl hs (by rw [hv', a1, z'])]; exact a2, a3, a4, a5⟩
      | dic ks =>
        obtain ⟨p2, xs2, a1, a2, a3, a4, a5⟩ := rv
        exact ⟨p2, xs2, a1, by rw [upd_ne fun z' => r.dis i j _ _ p (Ne.symm z) e ej rfl rfl hs (by rw [hv', a1, z'])]; exact a2, a3, a4, a5⟩
      | dit ks =>
        obtain ⟨p2, xs2, a1, a2, a3, a4, a5⟩ := rv
        exact ⟨p2, xs2, a1, by rw [upd_ne fun z' => r.dis i j _ _ p (Ne.symm z) e ej rfl rfl hs (by rw [hv', a1, z'])]; exact a2, a3, a4, a5⟩
      | oth φ => exact Oth.step (φ := φ) rv (Ex.refl G) (Kept.upd h1 rfl)
      | dd ks =>
        obtain ⟨p2, xs2, a1, a2, a5⟩ := rv
        exact ⟨p2, xs2, a1, a2.upd h1 h2 (fun _ _ z => by cases z), a5⟩
  · have go : ∀ (j : Nat) y, (s.set i (.own ds')).env[j]? = some (some y) → y.mut = true → ∃ y', s.env[j]? = some (some y') ∧ y'.mut = true := fun j y ej m => by
      rcases get_set ej with ⟨rfl, rfl, hl⟩ | ⟨z, ej⟩
      · exact ⟨_, e, rfl⟩
      · exact ⟨y, ej, m⟩
    obtain ⟨y', f1, n1⟩ := go j y e1 m1
    obtain ⟨z', f2, n2⟩ := go k z e2 m2
    exact r.dis j k y' z' q hne f1 f2 n1 n2
end
abbrev WG := PyData → Dt → (Dt → Prop) → Prop
abbrev WGs := List PyData → Dt → (Dt → Prop) → Prop
def IG (C : Ct) (g : TG) (ks : List Nat) (w : WG) : Prop := ∀ G σ H s v d Q Q', Rel C G σ H s → Dp C.K G v d → w d s Q →
  (∀ σ' s', Q s' → Rel C G σ' H s' → σ'.length = σ.length → (∀ j : Nat, j ∉ ks → σ'[j]? = σ[j]?) → Q' σ' H) → g v σ H Q'
def IGs (C : Ct) (g : TGs) (ks : List Nat) (w : WGs) : Prop := ∀ G σ H s vs ds Q Q', Rel C G σ H s → DpAll C.K G vs ds → w ds s Q →
  (∀ σ' s', Q s' → Rel C G σ' H s' → σ'.length = σ.length → (∀ j : Nat, j ∉ ks → σ'[j]? = σ[j]?) → Q' σ' H) → g vs σ H Q'
structure DG (X : Cx) (C : Ct) (e : Expr) (g : TG) (ks : List Nat) (w : WG) : Prop where
  pg : PG X e g
  ig : IG C g ks w
structure DGs (X : Cx) (C : Ct) (es : List Expr) (g : TGs) (ks : List Nat) (w : WGs) : Prop where
  pg : PGs X es g
  ig : IGs C g ks w
section
variable {X : Cx} {C : Ct} {a b e tg : Expr} {es : List Expr} {pos p : Pos} {t ta tb tc : TE} {w wa wb wc : WE} {tA : TA} {wA : WA} {x : Str}
def wName (i : Nat) : WG := fun d s Q => Q (s.set i (.d d))
theorem ig_name (i : Nat) : IG C (gName i) [i] (wName i) := fun G σ H s v d Q Q' r p q k =>
  k _ _ q (r.putd p) (List.length_set ..) fun j hj => List.getElem?_set_ne (fun z => hj (by simp [z]))
theorem dg_name (i : Nat) (hN : X.N.Nodup) (hi : X.N[i]? = some x := by rfl) (hx : Loc X.env.scope x := by first | exact .inl rfl | exact .inr rfl) (hf : X.fn x = true ∨ X.env.scope.names.lookup x = some .local := by first | exact .inl rfl | exact .inr rfl | assumption) : DG X C (.Name x pos) (gName i) [i] (wName i) :=
  ⟨pg_name hN hi hx hf, ig_name i⟩
def wGNil : WGs := fun ds s Q => ds = [] ∧ Q s
def wGCons (w : WG) (u : WGs) : WGs := fun ds s Q => ∃ d r, ds = d :: r ∧ w d s fun s' => u r s' Q
theorem dgs_nil : DGs X C [] gNil [] wGNil := ⟨pgs_nil, fun G σ H s vs ds Q Q' r p q k => by
  obtain ⟨rfl, q⟩ := q
  cases p
  exact ⟨rfl, k σ s q r rfl fun _ _ => rfl⟩⟩
theorem dgs_cons {g : TG} {gs : TGs} {k1 k2 : List Nat} {w : WG} {u : WGs} (h1 : DG X C e g k1 w) (h2 : DGs X C es gs k2 u) (hs : PGs X (e :: es) (gCons g gs) := by exact pgs_cons (DG.pg (by assumption)) (DGs.pg (by assumption))) : DGs X C (e :: es) (gCons g gs) (k1 ++ k2) (wGCons w u) := ⟨hs, fun G σ H s vs ds Q Q' r p q k => by
  obtain ⟨d, ds', rfl, q⟩ := q
  cases p with
  | @cons v vs' _ _ p1 p2 =>
    refine ⟨v, vs', rfl, h1.ig G σ H s v d _ _ r p1 q fun σ1 s1 q1 r1 l1 f1 => h2.ig G σ1 H s1 vs' ds' _ _ r1 p2 q1 fun σ2 s2 q2 r2 l2 f2 => k σ2 s2 q2 r2 (l2.trans l1) fun j hj => ?_⟩
    rw [List.mem_append, not_or] at hj
    rw [f2 j hj.2, f1 j hj.1]⟩
def wGTup (n : Nat) (u : WGs) : WG := fun d s Q => seqd d = true ∧ (its d).length = n ∧ u (its d) s Q
theorem ig_tup {n : Nat} {g : TGs} {ks : List Nat} {u : WGs} (h : IGs C g ks u) : IG C (gSeqB C.K n g) ks (wGTup n u) := fun G σ H s v d Q Q' r p q k => by
  obtain ⟨hs, hl, q⟩ := q
  obtain ⟨a, xs, rfl, h1, h2⟩ := (show Pk C G H v d from .inl p).seq r.fin.gh hs
  exact ⟨isT d, a, xs, rfl, h1, by rw [dpa_len h2]; exact hl, h G σ H s xs (its d) Q Q' r h2 q k⟩
theorem dg_tup {n : Nat} {g : TGs} {ks : List Nat} {u : WGs} {k : Nat} (hK : X.K = C.K) (hc : X.calm = true) (h : DGs X C es g ks u) (hn : (assignEach es X.env).length = n := by rfl) (hst : (assignEach es X.env).findIdx? (·.1) = none := by rfl) :
    DG X C (.Tuple es k pos) (gSeqB C.K n g) ks (wGTup n u) := ⟨hK ▸ pg_seqB hc h.pg hn hst, ig_tup h.ig⟩
def ItD (C : Ct) (G1 : Hp) (J : It) (ds : List PyData) : Prop := ∀ G2 H2, Ex G1 G2 → Ex G2 H2 → (∀ (i : Nat) d, ds[i]? = some d → J.go i H2 ∧ ∀ x H3, J.yld i H2 x H3 → ∃ G3, Ex G2 G3 ∧ Ex H2 H3 ∧ Ex G3 H3 ∧ Nw G2 G3 H2 ∧ Dp C.K G3 x d) ∧ J.stop ds.length H2
def II (C : Ct) (wi : TI) (w : WA) : Prop := ∀ G σ H s Q R, Rel C G σ H s → w s Q →
  (∀ J ds s' G' H', Q ds s' → Rel C G' σ H' s' → Ex G G' → Gs C σ G H s G' H' s' → ItD C G' J ds → R J H') → wi σ H R
structure DI (X : Cx) (C : Ct) (tg iter : Expr) (wi : TI) (w : WA) : Prop where
  pi : PI X tg iter wi
  ii : II C wi w
def wSeq (w : WE) : WA := fun s Q => w s fun d s1 => seqd d = true ∧ Q (its d) s1
theorem dp_seq {G H : Hp} {v : V} {d : PyData} (h : Dp C.K G v d) (hs : seqd d = true) : ∃ p xs, v = .ref p ∧ SqB C.K (isT d) G p xs ∧ DpAll C.K G xs (its d) := (show Pk C G G v d from .inl h).seq (Ex.refl G) hs
theorem itd_seq {G : Hp} {p : Addr} {b : Bool} {xs : List V} {ds : List PyData} (h1 : SqB C.K b G p xs) (h2 : DpAll C.K G xs ds) : ItD C G (ItsB C.K b p) ds := fun G2 H2 e1 e2 => by
  have h1' := SqB.ex (e1.trans e2) h1
  refine ⟨fun i d hd => ?_, xs, h1', by rw [dpa_len h2]; exact Nat.le_refl _⟩
  obtain ⟨v, hv, pv⟩ := dpa_back h2 hd
  refine ⟨⟨xs, v, h1', hv⟩, fun x H3 y => ?_⟩
  obtain ⟨rfl, hy⟩ := y
  have e := hy xs h1'
  rw [hv] at e
  cases e
  exact ⟨G2, Ex.refl _, Ex.refl _, e2, Nw.refl _ _, dp_ex e1 pv⟩
theorem di_seq (hK : X.K = C.K) (h : DE X C e t w) : DI X C tg e (iSeqB C.K t) (wSeq w) := ⟨hK ▸ pi_seqB h.pe, fun G σ H s Q R r q k => h.ie G σ H s _ _ r q fun v d s1 G1 H1 q1 r1 eg eh p => by
  obtain ⟨hs, q1⟩ := q1
  obtain ⟨a, xs, rfl, h1, h2⟩ := dp_seq (H := H1) p hs
  exact ⟨isT d, a, xs, rfl, SqB.ex r1.fin.gh h1, k _ _ s1 G1 H1 q1 r1 eg eh (itd_seq h1 h2)⟩⟩
def wRng1 (w : WE) : WA := fun s Q => w s fun d s1 => ∃ j : Int, d = .int j ∧ -(2 ^ 62) ≤ j ∧ j < 2 ^ 62 ∧ Q (iotaD 0 j) s1
theorem iota_get {a b : Int} {i : Nat} {d : PyData} (h : (iotaD a b)[i]? = some d) : i < (b - a).toNat ∧ d = .int (a + i) := by
  unfold iotaD at h
  rw [List.getElem?_map] at h
  cases q : (List.range (b - a).toNat)[i]? with
  | none => rw [q] at h; cases h
  | some m =>
    rw [q] at h
    have h1 := List.getElem?_eq_some_iff.mp q
    obtain ⟨h2, h3⟩ := h1
    rw [List.getElem_range] at h3
    rw [List.length_range] at h2
    subst h3
    exact ⟨h2, by simpa using h.symm⟩
theorem iota_len (a b : Int) : (iotaD a b).length = (b - a).toNat := by unfold iotaD; rw [List.length_map, List.length_range]
theorem itd_rng {G : Hp} {a b : Int} : ItD C G (Itr a (b - a).toNat) (iotaD a b) := fun G2 H2 e1 e2 => by
  refine ⟨fun i d hd => ?_, by rw [iota_len]; exact Nat.le_refl _⟩
  obtain ⟨h1, rfl⟩ := iota_get hd
  refine ⟨h1, fun x H3 y => ?_⟩
  obtain ⟨rfl, rfl⟩ := y
  exact ⟨G2, Ex.refl _, Ex.refl _, e2, Nw.refl _ _, .int _⟩
theorem di_rng1 (hg : Gl X "range") (hm : X.mg "range" = none) (h : DE X C a ta wa) (hs : starEach [a] X.env = [(false, eval a X.env)] := by rfl) (hs2 : starEach [a] X.env = (false, eval a X.env) :: starEach [] X.env := by rfl) :
    DI X C tg (.Call (.Name "range" p) [a] [] pos) (iRng1 (tCons ta tNil)) (wRng1 wa) := ⟨pi_range1 hg hm (pa_cons h.pe pa_nil hs2) hs, fun G σ H s Q R r q k => h.ie G σ H s _ _ r q fun v d s1 G1 H1 q1 r1 eg eh p => by
  obtain ⟨j, rfl, h1, h2, q1⟩ := q1
  refine ⟨j, by rw [dp_int p], h1, h2, ?_⟩
  have := itd_rng (C := C) (G := G1) (a := 0) (b := j)
  rw [Int.sub_zero] at this
  exact k _ _ s1 G1 H1 q1 r1 eg eh this⟩
/-- enumerate -/
def enumD (ds : List PyData) : List PyData := ds.mapIdx fun i d => .tuple [.int (i : Nat), d]
def wEnum (w : WE) : WA := fun s Q => w s fun d s1 => seqd d = true ∧ Q (enumD (its d)) s1
/-- zip of two -/
def zipD (ds es : List PyData) : List PyData := List.zipWith (fun d e => .tuple [d, e]) ds es
def wZip (w u : WE) : WA := fun s Q => w s fun d s1 => u s1 fun e s2 => seqd d = true ∧ seqd e = true ∧ Q (zipD (its d) (its e)) s2
theorem itd_zip {G : Hp} {p p' : Addr} {b b' : Bool} {xs xs' : List V} {ds ds' : List PyData} (h1 : SqB C.K b G p xs) (h2 : DpAll C.K G xs ds) (h1' : SqB C.K b' G p' xs') (h2' : DpAll C.K G xs' ds') : ItD C G (ItzB C.K b b' p p') (zipD ds ds') := fun G2 H2 e1 e2 => by
  have k1 := SqB.ex (e1.trans e2) h1
  have k2 := SqB.ex (e1.trans e2) h1'
  have l1 := dpa_len h2
  have l2 := dpa_len h2'
  refine ⟨fun i d hd => ?_, xs, xs', k1, k2, ?_, ?_, ?_⟩
  · unfold zipD at hd
    rw [List.getElem?_zipWith] at hd
    cases q : ds[i]? with
    | none => rw [q] at hd; cases hd
    | some z =>
      cases q' : ds'[i]? with
      | none => rw [q, q'] at hd; cases hd
      | some z' =>
        rw [q, q'] at hd
        cases hd
        obtain ⟨v, hv, pv⟩ := dpa_back h2 q
        obtain ⟨v', hv', pv'⟩ := dpa_back h2' q'
        refine ⟨⟨xs, xs', v, v', k1, k2, hv, hv'⟩, fun x H3 y => ?_⟩
        obtain ⟨T, u, u', rfl, hT, rfl, hy, hy'⟩ := y
        have e := hy xs k1
        rw [hv] at e
        cases e
        have e := hy' xs' k2
        rw [hv'] at e
        cases e
        have g1 : G2 T = none := fresh_back e2 hT
        exact ⟨upd G2 T (.tup [v, v']), Ex.new g1, Ex.new hT, Ex.both e2 hT, Nw.one hT, .tup (.inl (.inl upd_same)) (.cons (dp_ex (e1.trans (Ex.new g1)) pv) (.cons (dp_ex (e1.trans (Ex.new g1)) pv') .nil))⟩
  all_goals unfold zipD; rw [List.length_zipWith]; omega
theorem di_zip {elts : List Expr} {kk : Nat} {tpos : Pos} (hK : X.K = C.K) (hg : Gl X "zip") (hm : X.mg "zip" = none) (h : DE X C a ta wa) (h' : DE X C b tb wb) (hpi : PI X (.Tuple elts kk tpos) (.Call (.Name "zip" p) [a, b] [] pos) (iZipB X.K (tCons ta (tCons tb tNil)))) :
    DI X C (.Tuple elts kk tpos) (.Call (.Name "zip" p) [a, b] [] pos) (iZipB C.K (tCons ta (tCons tb tNil))) (wZip wa wb) := ⟨hK ▸ hpi, fun G σ H s Q R r q k => h.ie G σ H s _ _ r q fun v d s1 G1 H1 q1 r1 eg eh p =>
  h'.ie G1 σ H1 s1 _ _ r1 q1 fun v' d' s2 G2 H2 q2 r2 eg2 eh2 p' => by
  obtain ⟨hs, hs', q2⟩ := q2
  obtain ⟨a, xs, rfl, h1, h2⟩ := dp_seq (H := H1) (dp_ex eg2 p) hs
  obtain ⟨a', xs', rfl, h1', h2'⟩ := dp_seq (H := H2) p' hs'
  exact ⟨isT d, isT d', a, a', xs, xs', rfl, SqB.ex r2.fin.gh h1, SqB.ex r2.fin.gh h1', k _ _ s2 G2 H2 q2 r2 (eg.trans eg2) (eh.trans eh2) (itd_zip h1 h2 h1' h2')⟩⟩
end
structure DEnds where
  nx : Dt → Prop
  rt : PyData → Cs → Prop
  bk : Dt → Prop := fun _ => False
  ct : Dt → Prop := fun _ => False
abbrev WS := DEnds → Dt → Prop
structure Outs (C : Ct) (G : Hp) (D : Ends) (DD : DEnds) : Prop where
  nx : ∀ σ' H' s' G', DD.nx s' → Rel C G' σ' H' s' → Ex G G' → D.nx σ' H'
  bk : ∀ σ' H' s' G', DD.bk s' → Rel C G' σ' H' s' → Ex G G' → D.bk σ' H'
  ct : ∀ σ' H' s' G', DD.ct s' → Rel C G' σ' H' s' → Ex G G' → D.ct σ' H'
  rt : ∀ v d c' G' H', DD.rt d c' → Fin C G' H' c' → Ex G G' → Dp C.K G' v d → D.rt v H'
theorem Outs.mono {C : Ct} {G G1 : Hp} {D : Ends} {DD : DEnds} (o : Outs C G D DD) (e : Ex G G1) : Outs C G1 D DD :=
  ⟨fun σ H s G' a b c => o.nx σ H s G' a b (e.trans c), fun σ H s G' a b c => o.bk σ H s G' a b (e.trans c), fun σ H s G' a b c => o.ct σ H s G' a b (e.trans c), fun v d c' G' H' a b c p => o.rt v d c' G' H' a b (e.trans c) p⟩
def IS (C : Ct) (t : TS) (w : WS) : Prop := ∀ G σ H s D DD, Rel C G σ H s → w DD s → Outs C G D DD → t D σ H
structure DS (X : Cx) (C : Ct) (st : Stmt) (t : TS) (w : WS) : Prop where
  ps : PS X st t
  is : IS C t w
structure DSs (X : Cx) (C : Ct) (st : List Stmt) (t : TS) (w : WS) : Prop where
  ps : PSs X st t
  is : IS C t w
section
variable {X : Cx} {C : Ct} {a b e tg : Expr} {es : List Expr} {pos p : Pos} {t ta tb tc : TE} {w wa wb wc : WE} {tA : TA} {wA : WA} {x : Str} {st : Stmt} {sts : List Stmt} {u v : TS} {wu wv : WS}
def wNext : WS := fun DD s => DD.nx s
def wSq (w u : WS) : WS := fun DD s => w { DD with nx := u DD } s
theorem is_seq (h : IS C u wu) (h2 : IS C v wv) : IS C (tSeq u v) (wSq wu wv) := fun G σ H s D DD r q o =>
  h G σ H s _ _ r q ⟨fun σ' H' s' G' n r' e => h2 G' σ' H' s' D DD r' n (o.mono e), o.bk, o.ct, o.rt⟩
theorem dss_nil : DSs X C [] tNext wNext := ⟨pss_nil, fun G σ H s D DD r q o => o.nx σ H s G q r (Ex.refl G)⟩
theorem dss_cons (h : DS X C st u wu) (h2 : DSs X C sts v wv) : DSs X C (st :: sts) (tSeq u v) (wSq wu wv) := ⟨pss_cons h.ps h2.ps, is_seq h.is h2.is⟩
theorem dss_one (h : DS X C st u wu) : DSs X C [st] u wu := ⟨pss_one h.ps, h.is⟩
def wRet (w : WE) : WS := fun DD s => w s fun d s1 => DD.rt d s1.c
theorem ds_ret (h : DE X C e t w) : DS X C (.Return (some e) pos) (tRet t) (wRet w) := ⟨ps_ret h.pe, fun G σ H s D DD r q o => h.ie G σ H s _ _ r q fun v d s1 G1 H1 q1 r1 eg eh p => o.rt v d s1.c G1 H1 q1 r1.fin eg p⟩
def wIfS (c : WT) (u v : WS) : WS := fun DD s => c s fun b s1 => if b = true then u DD s1 else v DD s1
theorem ds_if {c : Expr} {l1 l2 : List Stmt} {tc : TT} {wc : WT} (hc : DT X C c tc wc) (h1 : DSs X C l1 u wu) (h2 : DSs X C l2 v wv) : DS X C (.If c l1 l2 pos) (tIfS tc u v) (wIfS wc wu wv) := ⟨ps_if hc.pt h1.ps h2.ps, fun G σ H s D DD r q o =>
  hc.it G σ H s _ _ r q fun b s1 G1 H1 q1 r1 eg eh => by
    cases b with
    | true =>
      rw [if_pos rfl] at q1
      exact iteT (h1.is G1 σ H1 s1 D DD r1 q1 (o.mono eg))
    | false =>
      rw [if_neg (by decide)] at q1
      exact iteF (h2.is G1 σ H1 s1 D DD r1 q1 (o.mono eg))⟩
def wDrop (w : WE) : WS := fun DD s => w s fun _ s1 => DD.nx s1
theorem ds_expr (h : DE X C e t w) (hs : swapsWith e none pos.line X.env = pure false := by rfl) : DS X C (.Expr e pos) (tDrop t) (wDrop w) := ⟨ps_expr h.pe hs, fun G σ H s D DD r q o => h.ie G σ H s _ _ r q fun v d s1 G1 H1 q1 r1 eg eh p => o.nx σ H1 s1 G1 q1 r1 eg⟩
/-- target = e -/
def wAsg (w : WE) (g : WG) : WS := fun DD s => w s fun d s1 => g d s1 DD.nx
theorem is_asg {g : TG} {ks : List Nat} {wg : WG} (h : IE C t w) (hg : IG C g ks wg) : IS C (tAsg t g) (wAsg w wg) := fun G σ H s D DD r q o =>
  h G σ H s _ _ r q fun v d s1 G1 H1 q1 r1 eg eh p => hg G1 σ H1 s1 v d _ _ r1 p q1 fun σ' s' q2 r2 _ _ => o.nx σ' H1 s' G1 q2 r2 eg
theorem ds_asg {g : TG} {ks : List Nat} {wg : WG} (h : DE X C e t w) (hg : DG X C tg g ks wg) (hs : swapsWithSole [tg] e pos.line X.env = pure false := by rfl) (hw : swappedStores [tg] e X.env = pure none := by rfl)
    (h1 : (assignEach [tg] X.env).map (·.2) = [assign tg X.env] := by rfl) : DS X C (.Assign [tg] e pos) (tAsg t g) (wAsg w wg) := ⟨ps_asg h.pe hg.pg hs hw h1, is_asg h.ie hg.ig⟩
theorem ds_set (i : Nat) {pos' : Pos} (hN : X.N.Nodup) (h : DE X C e t w) (hi : X.N[i]? = some x := by rfl) (hx : Loc X.env.scope x := by first | exact .inl rfl | exact .inr rfl) (hs : swapsWith e (some (.Name x pos')) pos.line X.env = pure false := by rfl)
    (hf : X.fn x = true ∨ X.env.scope.names.lookup x = some .local := by first | exact .inl rfl | exact .inr rfl | assumption) : DS X C (.Assign [.Name x pos'] e pos) (tAsg t (gName i)) (wAsg w (wName i)) := ⟨ps_set hN hi hx h.pe hs hf, is_asg h.ie (ig_name i)⟩
/-- name = a new list of the def's own -/
def wOwn (i : Nat) (w : WA) : WS := fun DD s => w s fun ds s1 => DD.nx (s1.set i (.own ds))
theorem is_own {i : Nat} {w : WA} (h : IO C t w) : IS C (tAsg t (gName i)) (wOwn i w) := fun G σ H s D DD r q o =>
  h G σ H s _ _ r q fun p xs ds s1 G1 H1 q1 r1 eg eh hp h1 h2 h3 h4 => o.nx _ H1 _ G1 q1 (r1.put (x := .own ds) ⟨p, xs, rfl, h1, r.fin.h0 hp, h2, h3⟩ fun _ j y p' ej m z => by
    cases z
    exact h4 j y ej m) eg
theorem ds_own (i : Nat) {w : WA} {pos' : Pos} (hN : X.N.Nodup) (h : DO X C e t w) (hi : X.N[i]? = some x := by rfl) (hx : Loc X.env.scope x := by first | exact .inl rfl | exact .inr rfl) (hs : swapsWith e (some (.Name x pos')) pos.line X.env = pure false := by rfl)
    (hf : X.fn x = true ∨ X.env.scope.names.lookup x = some .local := by first | exact .inl rfl | exact .inr rfl | assumption) : DS X C (.Assign [.Name x pos'] e pos) (tAsg t (gName i)) (wOwn i w) := ⟨ps_set hN hi hx h.pe hs hf, is_own h.io⟩
/-- name += e -/
def wAug (i : Nat) (f : Int → Int → Int) (w : WE) : WS := fun DD s => ∃ m, s.env[i]? = some (some (.d (.int m))) ∧ w s fun d s1 => ∃ n, d = .int n ∧ DD.nx (s1.set i (.d (.int (f m n))))
theorem is_aug {i : Nat} {f : Int → Int → Int} (h : IE C t w) : IS C (tAug i t (ipI f)) (wAug i f w) := fun G σ H s D DD r q o => by
  obtain ⟨m, em, q⟩ := q
  obtain ⟨v, hv, rv⟩ := r.sl i _ em
  refine ⟨v, hv, h G σ H s _ _ r q fun y d s1 G1 H1 q1 r1 eg eh p => ?_⟩
  obtain ⟨n, rfl, q1⟩ := q1
  exact ⟨m, n, dp_int rv, dp_int p, o.nx _ H1 _ G1 q1 (r1.putd (.int _)) eg⟩
theorem ds_iadd (i : Nat) {pos' : Pos} (hN : X.N.Nodup) (h : DE X C e t w) (hi : X.N[i]? = some x := by rfl) (hx : Loc X.env.scope x := by first | exact .inl rfl | exact .inr rfl) (hf : X.fn x = true ∨ X.env.scope.names.lookup x = some .local := by first | exact .inl rfl | exact .inr rfl | assumption) :
    DS X C (.AugAssign (.Name x pos') .Add e pos) (tAug i t (ipI fun i j => i + j)) (wAug i (fun i j => i + j) w) := ⟨ps_aug hN hi hx h.pe ip_add hf, is_aug h.ie⟩
def wMeth (i : Nat) (wA : WA) (f : List PyData → List PyData → (PyData → List PyData → Prop) → Prop) : WE := fun s Q => (∃ ds0, s.env[i]? = some (some (.own ds0))) ∧ wA s fun as s1 => ∃ ds, s1.env[i]? = some (some (.own ds)) ∧ f ds as fun d ds' => Q d (s1.set i (.own ds'))
/-- such a method as a statement -/
theorem is_meth {i : Nat} {r : V → List V → Hp → VK → Prop} {f : List PyData → List PyData → (PyData → List PyData → Prop) → Prop}
    (hr : ∀ G H p xs vs ds as R Q', H p = some (.lst xs) → DpAll C.K G xs ds → DpAll C.K G vs as → f ds as R → (∀ v d xs' ds', R d ds' → DpAll C.K G xs' ds' → Dp C.K G v d → Q' v (upd H p (.lst xs'))) → r (.ref p) vs H Q') (h : IA C tA wA) :
    IS C (tDrop (tBM C.K "list" r (tVar i) tA)) (wDrop (wMeth i wA f)) := fun G σ H s D DD rr q o => by
  obtain ⟨⟨ds0, e0⟩, q⟩ := q
  obtain ⟨v, hv, p, xs0, rfl, b1, b2, b3, b4⟩ := rr.sl i _ e0
  refine ⟨_, hv, .inl ⟨rfl, _, .inl (.inl b1)⟩, h G σ H s _ _ rr q fun vs as s1 G1 H1 q1 r1 eg eh pa => ?_⟩
  obtain ⟨ds, e1, q1⟩ := q1
  obtain ⟨v', hv', p', xs, hvp, a1, a2, a3, a4⟩ := r1.sl i _ e1
  rw [hv] at hv'
  cases hv'
  cases hvp
  exact hr G1 H1 p xs vs ds as _ _ a1 a4 pa q1 fun v d xs' ds' q2 hd pd => o.nx σ _ _ G1 q2 (r1.mutl e1 hv hd) eg
def fAppend : List PyData → List PyData → (PyData → List PyData → Prop) → Prop := fun ds as Q => ∃ d, as = [d] ∧ ds.length < 100000 ∧ Q .none (ds ++ [d])
theorem ds_append (i : Nat) {apos cpos : Pos} (hK : X.K = C.K) (h : DE X C e t w) (hv : PE X (.Name x p) (tVar i) := by exact pv _) (hb : PE X (.Call (.Attribute (.Name x p) "append" apos) [e] [] cpos) (tBM X.K "list" rAppend (tVar i) (tCons t tNil)))
    (hs : swapsWith (.Call (.Attribute (.Name x p) "append" apos) [e] [] cpos) none pos.line X.env = pure false := by rfl) :
    DS X C (.Expr (.Call (.Attribute (.Name x p) "append" apos) [e] [] cpos) pos) (tDrop (tBM C.K "list" rAppend (tVar i) (tCons t tNil))) (wDrop (wMeth i (wCons w fun s Q => Q [] s) fAppend)) :=
  ⟨ps_expr (hK ▸ hb) hs, is_meth (fun G H p xs vs ds as R Q' h1 h2 h3 hf k => by
    obtain ⟨d, rfl, hl, hf⟩ := hf
    cases h3 with
    | cons p1 p2 =>
      cases p2
      exact ⟨p, xs, _, rfl, rfl, h1, sz_lt (by rw [dpa_len h2]; exact hl), k _ _ _ _ hf (dpa_app h2 (.cons p1 .nil)) .non⟩) (ia_cons h.ie ia_nil)⟩
end
end Dw
namespace Dw
open PySem PySem.Spec PyProof.Rows L2 OgR Evl
section
variable {X : Cx} {C : Ct} {a b e tg : Expr} {es : List Expr} {pos p : Pos} {t ta tb tc te : TE} {w wa wb wc we : WE} {tA : TA} {wA : WA} {x : Str} {st : Stmt} {sts : List Stmt} {u v : TS} {wu wv : WS}
def wFor (w : WA) (g : WG) (wb : WS) : WS := fun DD s => w s fun ds s1 => ∃ Inv : Nat → Dt → Prop, Inv 0 s1 ∧
  (∀ (i : Nat) d s2, ds[i]? = some d → Inv i s2 → g d s2 fun s3 => wb { nx := Inv (i + 1), rt := DD.rt, bk := DD.nx, ct := Inv (i + 1) } s3) ∧ ∀ s2, Inv ds.length s2 → DD.nx s2
theorem is_for {wi : TI} {wI : WA} {g : TG} {ks : List Nat} {wg : WG} {tb : TS} {wb : WS} (hi : II C wi wI) (hg : IG C g ks wg) (hb : IS C tb wb) : IS C (tFor wi g tb) (wFor wI wg wb) := fun G σ H s D DD r q o =>
  hi G σ H s _ _ r q fun J ds s1 G1 H1 q1 r1 eg eh itd => by
    obtain ⟨Inv, h0, hs, hd⟩ := q1
    refine ⟨fun i m σ' H' => m = ds.length - i ∧ i ≤ ds.length ∧ ∃ G' s', Ex G1 G' ∧ Rel C G' σ' H' s' ∧ Inv i s', ⟨ds.length, by simp, Nat.zero_le _, G1, s1, Ex.refl G1, r1, h0⟩, ?_⟩
    rintro i m σ' H' ⟨rfl, hi, G', s', e', r', inv⟩
    obtain ⟨go, stop⟩ := itd G' H' e' r'.fin.gh
    by_cases hlt : i < ds.length
    · have hd1 : ds[i]? = some ds[i] := List.getElem?_eq_getElem hlt
      obtain ⟨g1, g2⟩ := go i _ hd1
      refine .inr ⟨g1, fun σ2 H2 => ∃ G2 s2, Ex G1 G2 ∧ Rel C G2 σ2 H2 s2 ∧ Inv (i + 1) s2, fun σ2 H2 ⟨G2, s2, a1, a2, a3⟩ => ⟨ds.length - (i + 1), by omega, rfl, hlt, G2, s2, a1, a2, a3⟩, fun x H3 y => ?_⟩
      obtain ⟨G3, b1, b2, b3, b4, b5⟩ := g2 x H3 y
      have r3 := r'.grow b1 b2 b3 b4
      have e3 := e'.trans b1
      refine hg G3 σ' H3 s' x _ _ _ r3 b5 (hs i _ s' hd1 inv) fun σ4 s4 q4 r4 _ _ => hb G3 σ4 H3 s4 _ _ r4 q4 ⟨fun σ5 H5 s5 G5 q r e => ⟨G5, s5, e3.trans e, r, q⟩, fun σ5 H5 s5 G5 q r e => o.nx σ5 H5 s5 G5 q r ((eg.trans e3).trans e), fun σ5 H5 s5 G5 q r e => ⟨G5, s5, e3.trans e, r, q⟩, fun v d c' G5 H5 q f e p => o.rt v d c' G5 H5 q f ((eg.trans e3).trans e) p⟩
    · have e : i = ds.length := by omega
      subst e
      exact .inl ⟨stop, o.nx σ' H' s' G' (hd s' inv) r' (eg.trans e')⟩
theorem ds_for {iter : Expr} {wi : TI} {wI : WA} {g : TG} {ks : List Nat} {wg : WG} {tb : TS} {wb : WS} (hp : PassesOwn (model X.prog X.w) X.A X.env X.xe) (hc : X.calm = true) (hi : DI X C tg iter wi wI) (hg : DG X C tg g ks wg) (hb : DSs X C sts tb wb)
    (hs : ∀ x, foldedSetIterable iter X.env x = pure x := by intro _; rfl) : DS X C (.For tg iter sts [] pos) (tFor wi g tb) (wFor wI wg wb) := ⟨ps_for hp hc hi.pi hg.pg hb.ps hs, is_for hi.ii hg.ig hb.is⟩
def wWhile (c : WT) (wb : WS) : WS := fun DD s => ∃ Inv : Nat → Dt → Prop, (∃ m, Inv m s) ∧ ∀ m s, Inv m s → c s fun b s1 => if b = true then wb { nx := fun s2 => ∃ m', m' < m ∧ Inv m' s2, rt := DD.rt, bk := DD.nx, ct := fun s2 => ∃ m', m' < m ∧ Inv m' s2 } s1 else DD.nx s1
theorem ds_while {c : Expr} {tc : TT} {wc : WT} {tb : TS} {wb : WS} (hp : PassesOwn (model X.prog X.w) X.A X.env X.xe) (hc : DT X C c tc wc) (hb : DSs X C sts tb wb) : DS X C (.While c sts [] pos) (tWhile tc tb) (wWhile wc wb) := ⟨ps_while hp hc.pt hb.ps, fun G σ H s D DD r q o => by
  obtain ⟨Inv, ⟨m0, h0⟩, hs⟩ := q
  refine ⟨fun m σ' H' => ∃ G' s', Ex G G' ∧ Rel C G' σ' H' s' ∧ Inv m s', ⟨m0, G, s, Ex.refl G, r, h0⟩, ?_⟩
  rintro m σ' H' ⟨G', s', e', r', inv⟩
  refine hc.it G' σ' H' s' _ _ r' (hs m s' inv) fun b s1 G1 H1 q1 r1 eg eh => ?_
  cases b with
  | false =>
    rw [if_neg (by decide)] at q1
    exact iteF (o.nx σ' H1 s1 G1 q1 r1 (e'.trans eg))
  | true =>
    rw [if_pos rfl] at q1
    refine iteT ⟨fun σ2 H2 => ∃ m' G2 s2, m' < m ∧ Ex G G2 ∧ Rel C G2 σ2 H2 s2 ∧ Inv m' s2, fun σ2 H2 ⟨m', G2, s2, a0, a1, a2, a3⟩ => ⟨m', a0, G2, s2, a1, a2, a3⟩, hb.is G1 σ' H1 s1 _ _ r1 q1 ⟨fun σ5 H5 s5 G5 q r e => ?_, fun σ5 H5 s5 G5 q r e => o.nx σ5 H5 s5 G5 q r ((e'.trans eg).trans e), fun σ5 H5 s5 G5 q r e => ?_, fun v d c' G5 H5 q f e p => o.rt v d c' G5 H5 q f ((e'.trans eg).trans e) p⟩⟩
    · obtain ⟨m', hm, q⟩ := q
      exact ⟨m', G5, s5, hm, (e'.trans eg).trans e, r, q⟩
    · obtain ⟨m', hm, q⟩ := q
      exact ⟨m', G5, s5, hm, (e'.trans eg).trans e, r, q⟩⟩
def wipeD (env : List (Option DV)) : List Nat → List (Option DV)
  | [] => env
  | v :: vs => (wipeD env vs).set v none
theorem wipeD_len (env : List (Option DV)) : ∀ vs : List Nat, (wipeD env vs).length = env.length
  | [] => rfl
  | v :: vs => by unfold wipeD; rw [List.length_set, wipeD_len env vs]
theorem wipeD_some {env : List (Option DV)} {i : Nat} {x : DV} : ∀ {vs : List Nat}, (wipeD env vs)[i]? = some (some x) → env[i]? = some (some x) ∧ i ∉ vs
  | [], h => ⟨h, by simp⟩
  | v :: vs, h => by
    unfold wipeD at h
    by_cases hi : v = i
    · subst hi
      by_cases hv : v < (wipeD env vs).length
      · rw [List.getElem?_set_self hv] at h; cases h
      · rw [List.getElem?_eq_none (by rw [List.length_set]; omega)] at h; cases h
    · rw [List.getElem?_set_ne hi] at h
      obtain ⟨h1, h2⟩ := wipeD_some h
      exact ⟨h1, by simp only [List.mem_cons, not_or]; exact ⟨fun e => hi e.symm, h2⟩⟩
theorem wipe_get (σ : L2.St) (j : Nat) : ∀ vs : List Nat, (wipe σ vs)[j]? = if j ∈ vs then (if j < σ.length then some none else none) else σ[j]?
  | [] => by simp [wipe]
  | v :: vs => by
    unfold wipe
    by_cases hv : v = j
    · subst hv
      rw [if_pos (by simp)]
      by_cases hl : v < σ.length
      · rw [List.getElem?_set_self (by rw [wipe_length]; exact hl), if_pos hl]
      · rw [List.getElem?_eq_none (by rw [List.length_set, wipe_length]; omega), if_neg hl]
    · rw [List.getElem?_set_ne hv, wipe_get σ j vs]
      by_cases hm : j ∈ vs
      · rw [if_pos hm, if_pos (show j ∈ v :: vs from List.mem_cons_of_mem _ hm)]
      · rw [if_neg hm, if_neg (show ¬ j ∈ v :: vs by simp only [List.mem_cons, not_or]; exact ⟨fun z => hv z.symm, hm⟩)]
theorem wipe_of {σ σ2 : L2.St} {vs ks : List Nat} (hl : σ2.length = (wipe σ vs).length) (h : ∀ j : Nat, j ∉ ks → σ2[j]? = (wipe σ vs)[j]?) (hk : ∀ k ∈ ks, k ∈ vs) : wipe σ2 vs = wipe σ vs := by
  refine List.ext_getElem? fun j => ?_
  rw [wipe_length] at hl
  rw [wipe_get, wipe_get]
  by_cases hj : j ∈ vs
  · rw [if_pos hj, if_pos hj, hl]
  · rw [if_neg hj, if_neg hj, h j fun z => hj (hk j z), wipe_get, if_neg hj]
theorem Rel.wipe {G H : Hp} {σ : L2.St} {s : Dt} (r : Rel C G σ H s) (vs : List Nat) : Rel C G (L2.wipe σ vs) H ⟨wipeD s.env vs, s.c⟩ := by
  have go : ∀ (i : Nat), i ∉ vs → (L2.wipe σ vs)[i]? = σ[i]? := fun i hi => by rw [wipe_get, if_neg hi]
  refine ⟨r.fin, by show (wipeD s.env vs).length = _; rw [wipeD_len, wipe_length]; exact r.len, fun i x e => ?_, fun i j x y p hne e1 e2 m1 m2 => ?_⟩
  · obtain ⟨e', hi⟩ := wipeD_some e
    obtain ⟨v, hv, rv⟩ := r.sl i x e'
    exact ⟨v, by rw [go i hi]; exact hv, rv⟩
  · obtain ⟨e1', h1⟩ := wipeD_some e1
    obtain ⟨e2', h2⟩ := wipeD_some e2
    rw [go i h1, go j h2]
    exact r.dis i j x y p hne e1' e2' m1 m2
/-- what is neither data nor the box stays so, where the slots keep their own lists -/
theorem Gs.keep {σ : L2.St} {G H G' H' : Hp} {s s' : Dt} (g : Gs C σ G H s G' H' s') (r : Rel C G σ H s) (r' : Rel C G' σ H' s') (he : s'.env = s.env) {b : Addr} {o : HO} (h1 : G b = none) (hb : ¬ C.bx.has b) (h2 : H b = some o) (hn : notTup o = true) : G' b = none := by
  by_cases hx : ∃ (i : Nat) (x : DV), s.env[i]? = some (some x) ∧ x.mut = true ∧ σ[i]? = some (some (.ref b))
  · obtain ⟨i, x, e, m, hs⟩ := hx
    rw [← he] at e
    obtain ⟨v, hv, rv⟩ := r'.sl i x e
    rw [hs] at hv
    cases hv
    cases x with
    | d _ => cases m
    | box => cases m
    | ob _ => cases m
    | own ds =>
      obtain ⟨p', xs, a1, a2, a3, a4, a5⟩ := rv
      cases a1
      exact a4
    | dic ds =>
      obtain ⟨p', xs, a1, a2, a3, a4, a5⟩ := rv
      cases a1
      exact a4
    | dit ds =>
      obtain ⟨p', xs, a1, a2, a3, a4, a5⟩ := rv
      cases a1
      exact a4
    | dd _ => cases m
    | oth _ => cases m
  · exact g.nk b _ h1 hb h2 hn fun i x e m hs => hx ⟨i, x, e, m, hs⟩
theorem Rel.back {σ σ2 : L2.St} {G H G' H' : Hp} {env : List (Option DV)} {c : Cs} {s2 s' : Dt} (r : Rel C G σ H ⟨env, c⟩) (r2 : Rel C G σ2 H s2) (r' : Rel C G' σ2 H' s') (he : s'.env = s2.env) (eg : Ex G G') (g : Gs C σ2 G H s2 G' H' s') : Rel C G' σ H' ⟨env, s'.c⟩ := by
  refine ⟨r'.fin, r.len, fun i x e => ?_, r.dis⟩
  obtain ⟨v, hv, rv⟩ := r.sl i x e
  refine ⟨v, hv, ?_⟩
  cases x with
  | d _ => exact dp_ex eg rv
  | box => exact rv
  | ob _ => exact rv
  | own ds =>
    obtain ⟨p', xs, a1, a2, a3, a4, a5⟩ := rv
    exact ⟨p', xs, a1, g.gr p' _ (r.fin.nbx a3) a2, a3, g.keep r2 r' he a4 (r.fin.nbx a3) a2 rfl, dpa_ex eg a5⟩
  | dic ds =>
    obtain ⟨p', xs, a1, a2, a3, a4, a5⟩ := rv
    exact ⟨p', xs, a1, g.gr p' _ (r.fin.nbx a3) a2, a3, g.keep r2 r' he a4 (r.fin.nbx a3) a2 rfl, paired_mapP a5 fun a b q => ⟨q.1, dp_ex eg q.2⟩⟩
  | dit ds =>
    obtain ⟨p', xs, a1, a2, a3, a4, a5⟩ := rv
    exact ⟨p', xs, a1, g.gr p' _ (r.fin.nbx a3) a2, a3, g.keep r2 r' he a4 (r.fin.nbx a3) a2 rfl, paired_mapP a5 fun a b q => ⟨q.1, dp_ex eg q.2⟩⟩
  | oth φ => exact Oth.step (φ := φ) rv eg (Kept.of g.gr)
  | dd ds =>
    obtain ⟨p', xs, a1, a2, a5⟩ := rv
    exact ⟨p', xs, a1, a2.gr g.gr, paired_mapP a5 fun a b q => ⟨q.1, dp_ex eg q.2⟩⟩
def wLc (w : WA) (g : WG) (tt : WT) (te : WE) (vs : List Nat) : WA := fun s Q => w s fun ds s1 => ∃ Inv : Nat → List PyData → Cs → Prop, Inv 0 [] s1.c ∧
  (∀ (i : Nat) d acc c, ds[i]? = some d → Inv i acc c → g d ⟨wipeD s1.env vs, c⟩ fun s2 => tt s2 fun b s3 => s3.env = s2.env ∧ if b = true then te s3 fun y s4 => s4.env = s2.env ∧ acc.length < 100000 ∧ Inv (i + 1) (acc ++ [y]) s4.c else Inv (i + 1) acc s3.c) ∧
  ∀ acc c, Inv ds.length acc c → Q acc ⟨s1.env, c⟩
theorem io_lc {wi : TI} {wI : WA} {g : TG} {ks vs : List Nat} {wg : WG} {tt : TT} {wt : WT} (hk : ∀ k ∈ ks, k ∈ vs) (hi : II C wi wI) (hg : IG C g ks wg) (ht : IT C tt wt) (he : IE C te we) : IO C (tLc wi g tt te vs) (wLc wI wg wt we vs) := fun G σ H s Q Q' r q k =>
  hi G σ H s _ _ r q fun J ds s1 G1 H1 q1 r1 eg eh itd D hD => by
    obtain ⟨Inv, h0, hs, hd⟩ := q1
    have hHD : H D = none := by
      cases z : H D with
      | none => rfl
      | some o => exact absurd hD (eh.dom D (by rw [z]; exact Option.some_ne_none _))
    refine ⟨fun i m H' => m = ds.length - i ∧ i ≤ ds.length ∧ ∃ G' acc xs c', Ex G1 G' ∧ Rel C G' σ H' ⟨s1.env, c'⟩ ∧ Gs C σ G1 H1 s1 G' H' ⟨s1.env, c'⟩ ∧ H' D = some (.lst xs) ∧ G' D = none ∧ DpAll C.K G' xs acc ∧ Inv i acc c', ⟨ds.length, by simp, Nat.zero_le _, G1, [], [], s1.c, Ex.refl G1, r1.aside (Ex.new hD), .side (Ex.new hD), upd_same, r1.gnone hD, .nil, h0⟩, ?_⟩
    rintro i m H' ⟨rfl, hi, G', acc, xs, c', e', r', g', hHd, hGd, dacc, inv⟩
    obtain ⟨go, stop⟩ := itd G' H' e' r'.fin.gh
    have nbD : ¬ C.bx.has D := r.fin.nbx (r.fin.h0 hHD)
    by_cases hlt : i < ds.length
    · have hd1 : ds[i]? = some ds[i] := List.getElem?_eq_getElem hlt
      obtain ⟨g1, g2⟩ := go i _ hd1
      refine .inr ⟨g1, fun H2 => ∃ G' acc xs c', Ex G1 G' ∧ Rel C G' σ H2 ⟨s1.env, c'⟩ ∧ Gs C σ G1 H1 s1 G' H2 ⟨s1.env, c'⟩ ∧ H2 D = some (.lst xs) ∧ G' D = none ∧ DpAll C.K G' xs acc ∧ Inv (i + 1) acc c', fun H2 ⟨G2, a1, a2, a3, a4, a5, a6, a7, a8, a9, a10⟩ => ⟨ds.length - (i + 1), by omega, rfl, hlt, G2, a1, a2, a3, a4, a5, a6, a7, a8, a9, a10⟩, fun x H3 y => ?_⟩
      obtain ⟨G3, b1, b2, b3, b4, b5⟩ := g2 x H3 y
      have r3 := r'.grow b1 b2 b3 b4
      have gs3 : Gs C σ G' H' ⟨s1.env, c'⟩ G3 H3 ⟨s1.env, c'⟩ := .grow b2 b4
      have e3 := e'.trans b1
      have hG3 : G3 D = none := gs3.nk D _ hGd nbD hHd rfl fun j y ej m z => by
        obtain ⟨v, hv, rv⟩ := r1.sl j y ej
        rw [z] at hv
        cases hv
        exact r1.notslot hD j y ej m z
      refine hg G3 (L2.wipe σ vs) H3 ⟨wipeD s1.env vs, c'⟩ x _ _ _ (r3.wipe vs) b5 (hs i _ acc c' hd1 inv) fun σ4 s4 q4 r4 l4 f4 => ⟨wipe_of l4 f4 hk, ht G3 σ4 H3 s4 _ _ r4 q4 fun bb s5 G5 H5 q5 r5 eg5 gs5 => ?_⟩
      obtain ⟨he5, q5⟩ := q5
      cases bb with
      | false =>
        rw [if_neg (by decide)] at q5
        have rr := r3.back r4 r5 he5 eg5 gs5
        refine iteF ⟨G5, acc, xs, s5.c, e3.trans eg5, rr, g'.trans (gs3.trans ⟨gs5.gr, gs5.dom, fun b o h1 hb h2 hn h3 => gs5.keep r4 r5 he5 h1 hb h2 hn, fun i x e m => ⟨x, e, m⟩⟩), gs5.gr D _ nbD (b2 D _ hHd), gs5.keep r4 r5 he5 hG3 nbD (b2 D _ hHd) rfl, dpa_ex (b1.trans eg5) dacc, q5⟩
      | true =>
        rw [if_pos rfl] at q5
        refine iteT (he G5 σ4 H5 s5 _ _ r5 q5 fun v y s6 G6 H6 q6 r6 eg6 gs6 pv => ?_)
        obtain ⟨he6, hl, q6⟩ := q6
        have gs7 := gs5.trans gs6
        have rr := r3.back r4 r6 he6 (eg5.trans eg6) gs7
        have hD6 : H6 D = some (.lst xs) := gs7.gr D _ nbD (b2 D _ hHd)
        have gD6 : G6 D = none := gs7.keep r4 r6 he6 hG3 nbD (b2 D _ hHd) rfl
        have hm : ∀ b, b ≠ D → upd H6 D (.lst (xs ++ [v])) b = H6 b := fun b hb => upd_ne hb
        refine ⟨xs, hD6, sz_lt (by rw [dpa_len dacc]; exact hl), G6, acc ++ [y], xs ++ [v], s6.c, e3.trans (eg5.trans eg6), ?_, ?_, upd_same, gD6, dpa_app (dpa_ex ((b1.trans eg5).trans eg6) dacc) (.cons pv .nil), q6⟩
        · -- D is no slot's and not data
          have h0D : C.H0 D = none := r.fin.h0 hHD
          refine ⟨⟨fun b o hb => ?_, rr.fin.g0, rr.fin.nw, fun b o n hb => ?_, rr.fin.ok, rr.fin.obu (Ex.refl _) h0D (fun b o n e => by rw [hm b n]; exact e), fun l hl => ?_⟩, rr.len, fun j y ej => ?_, rr.dis⟩
          · rw [hm b (fun z => by rw [z, gD6] at hb; cases hb)]
            exact rr.fin.gh b o hb
          · rw [hm b (fun z => by rw [z, h0D] at hb; cases hb)]
            exact rr.fin.hh b o n hb
          · exact ⟨(rr.fin.bx l hl).1.updS hD6 rfl (fun z => nbD (by rw [← z]; exact hl)), (rr.fin.bx l hl).2⟩
          · obtain ⟨v', hv', rv⟩ := rr.sl j y ej
            refine ⟨v', hv', ?_⟩
            cases y with
            | d _ => exact rv
            | box => exact rv
            | ob _ => exact rv
            | own ds2 =>
              obtain ⟨p2, xs2, a1, a2, a3, a4, a5⟩ := rv
              exact ⟨p2, xs2, a1, by rw [hm p2 (fun z => r1.notslot hD j _ ej rfl (by rw [hv', a1, z]))]; exact a2, a3, a4, a5⟩
            | dic ds2 =>
              obtain ⟨p2, xs2, a1, a2, a3, a4, a5⟩ := rv
              exact ⟨p2, xs2, a1, by rw [hm p2 (fun z => r1.notslot hD j _ ej rfl (by rw [hv', a1, z]))]; exact a2, a3, a4, a5⟩
            | dit ds2 =>
              obtain ⟨p2, xs2, a1, a2, a3, a4, a5⟩ := rv
              exact ⟨p2, xs2, a1, by rw [hm p2 (fun z => r1.notslot hD j _ ej rfl (by rw [hv', a1, z]))]; exact a2, a3, a4, a5⟩
            | oth φ => exact Oth.step (φ := φ) rv (Ex.refl G6) (Kept.upd hD6 rfl)
            | dd ds2 =>
              obtain ⟨p2, xs2, a1, a2, a5⟩ := rv
              exact ⟨p2, xs2, a1, a2.upd hD6 h0D (fun _ _ z => by cases z), a5⟩
        · have gg := g'.trans (gs3.trans (s2 := ⟨s1.env, s6.c⟩) ⟨gs7.gr, gs7.dom, fun b o h1 hb h2 hn h3 => gs7.keep r4 r6 he6 h1 hb h2 hn, fun i x e m => ⟨x, e, m⟩⟩)
          refine ⟨fun b o n hb => ?_, fun b hb => ?_, gg.nk, gg.ks⟩
          · rw [hm b (fun z => by rw [z, hD] at hb; cases hb)]
            exact gg.gr b o n hb
          · by_cases z : b = D
            · rw [z, upd_same]
              exact Option.some_ne_none _
            · rw [hm b z]
              exact gg.dom b hb
    · have e : i = ds.length := by omega
      subst e
      refine .inl ⟨stop, k D xs acc ⟨s1.env, c'⟩ G' H' (hd acc c' inv) r' (eg.trans e') (eh.trans g') hHD hHd hGd dacc fun j y ej m => r1.notslot hD j y ej m⟩
theorem do_lc {elt iter : Expr} {ifs : List Expr} {scope : Scope} {own : List (Str × Nat)} {wi : TI} {wI : WA} {g : TG} {ks : List Nat} {wg : WG} {tt : TT} {wt : WT} (hc : X.calm = true) (hN : X.N.Nodup) (hi : DI X C tg iter wi wI) (ok : BlkOk X.N X.env.scope scope own)
    (hg : ∀ (s : Shared) (H : Hp) (A : Addr) (cl : List (Str × Addr)) (fp : List Addr), DG (X.blk s H scope (compEnvC scope cl A X.env) fp) C tg g ks wg)
    (ht : (∀ (s : Shared) (H : Hp) (A : Addr) (cl : List (Str × Addr)) (fp : List Addr), PTs (X.blk s H scope (compEnvC scope cl A X.env) fp) ifs tt) ∧ IT C tt wt)
    (he : ∀ (s : Shared) (H : Hp) (A : Addr) (cl : List (Str × Addr)) (fp : List Addr), DE (X.blk s H scope (compEnvC scope cl A X.env) fp) C elt te we) (hk : ∀ k ∈ ks, k ∈ own.map (·.2) := by decide) (hs : ∀ x, foldedSetIterable iter X.env x = pure x := by intro _; rfl) :
    DO X C (.ListComp elt [⟨tg, iter, ifs, 0⟩] scope pos) (tLc wi g tt te (own.map (·.2))) (wLc wI wg wt we (own.map (·.2))) :=
  ⟨pe_lc hc hN hi.pi ok (fun s H A cl fp => (hg s H A cl fp).pg) ht.1 (fun s H A cl fp => (he s H A cl fp).pe) hs,
   io_lc hk hi.ii (hg {} (fun _ => none) 0 [] []).ig ht.2 (he {} (fun _ => none) 0 [] []).ie⟩
end
end Dw
namespace Dw
open PySem PySem.Spec PyProof.Rows L2 OgR Evl
section
variable {P : Program} {wd : World} {K : PySem.W.Frag} {mg : Str → Option Value} {base : Heap}
structure Fct (K : PySem.W.Frag) (mg : Str → Option Value) (x : Str) (st : Stmt) (ps : List Str) : Prop where
  ex : ∃ f fd, Fun K x x st f fd ∧ Binds K fd ps [] ∧ mg x = some (.ref f)
def perm {α : Type} (π : List Nat) (l : List α) : List α := π.filterMap fun i => l[i]?
structure Def (P : Program) (wd : World) (K : PySem.W.Frag) (mg : Str → Option Value) (base : Heap) (k : Nat) (x : Str) (st : Stmt) (ps : List Str) (sp : Sp) : Prop where
  ex : ∃ f fd, FnG P wd K mg base k f fd ps sp ∧ Fun K x x st f fd ∧ Binds K fd ps [] ∧ mg x = some (.ref f)
theorem Def.mono {j k : Nat} {x : Str} {st : Stmt} {ps : List Str} {sp : Sp} (D : Def P wd K mg base j x st ps sp) (h : j ≤ k) : Def P wd K mg base k x st ps sp := by
  obtain ⟨f, fd, G, F, b, m⟩ := D.ex
  exact ⟨f, fd, ⟨G.1, fun A outer s H args us vs Q E hG hr => G.2 A outer s H args us vs Q E hG (hr.mono h)⟩, F, b, m⟩
theorem Def.imp {k : Nat} {x : Str} {st : Stmt} {ps : List Str} {sp sp' : Sp} (D : Def P wd K mg base k x st ps sp) (h : ∀ vs H Q E, sp' vs H Q E → sp vs H Q E) : Def P wd K mg base k x st ps sp' := by
  obtain ⟨f, fd, G, F, b, m⟩ := D.ex
  exact ⟨f, fd, ⟨fun vs H Q E q => G.1 vs H Q E (h _ _ _ _ q), fun A outer s H args us vs Q E hG hr he hb hv hs => G.2 A outer s H args us vs Q E hG hr he hb hv (h _ _ _ _ hs)⟩, F, b, m⟩
/-- a promise that asks for what cannot be -/
theorem Def.no {k : Nat} {x : Str} {st : Stmt} {ps : List Str} {sp : Sp} (c : Fct K mg x st ps) (h : ∀ vs H Q E, ¬ sp vs H Q E) : Def P wd K mg base k x st ps sp := by
  obtain ⟨f, fd, F, b, m⟩ := c.ex
  exact ⟨f, fd, ⟨fun vs H Q E q => (h _ _ _ _ q).elim, fun A outer s H args us vs Q E hG hr he hb hv hs => (h _ _ _ _ hs).elim⟩, F, b, m⟩
def env0 (N : List Str) (xs : List DV) : List (Option DV) := xs.map some ++ List.replicate (N.length - xs.length) none
theorem env0_get {N : List Str} {xs : List DV} {i : Nat} {x : DV} (h : (env0 N xs)[i]? = some (some x)) : xs[i]? = some x := by
  unfold env0 at h
  by_cases hl : i < xs.length
  · rw [List.getElem?_append_left (by rw [List.length_map]; exact hl), List.getElem?_map, List.getElem?_eq_getElem hl] at h
    rw [List.getElem?_eq_getElem hl]
    simpa using h
  · rw [List.getElem?_append_right (by rw [List.length_map]; omega)] at h
    obtain ⟨_, h2⟩ := List.getElem?_eq_some_iff.mp h
    rw [List.getElem_replicate] at h2
    cases h2
theorem start_get {N : List Str} {vs : List V} {i : Nat} {v : V} (h : vs[i]? = some v) : (L2.start N vs)[i]? = some (some v) := by
  unfold L2.start
  have hl := (List.getElem?_eq_some_iff.mp h).1
  rw [List.getElem?_append_left (by rw [List.length_map]; exact hl), List.getElem?_map, h]
  rfl
theorem env0_len {N : List Str} {xs : List DV} {vs : List V} (h : xs.length = vs.length) : (env0 N xs).length = (L2.start N vs).length := by
  unfold env0 L2.start
  rw [List.length_append, List.length_append, List.length_map, List.length_map, List.length_replicate, List.length_replicate, h]
theorem Def.pure {k : Nat} {x : Str} {st : Stmt} {N ps : List Str} {F : FP} (c : Fct K mg x st ps) (S : FnScope N ps (defScope st)) (hl : ∀ ds R, F ds R → ds.length = ps.length)
    (body : ∀ (f : Addr) (cdv : Value) (A : Around) (outer : List Env) (s : Shared) (H G : Hp) (E : XK) (ds : List PyData) (R : PyData → Prop), A.guards = some [] → Room k (A.deeper (envOfC x (defScope st) s.heap.objs.size f cdv)) → F ds R →
      ∃ t w, DSs (cxOf CX0 P wd K mg base N x (defScope st) f cdv A outer s H E).nox ⟨K, b0, H, G⟩ (defBody st) t w ∧ w { nx := fun _ => R .none, rt := fun d _ => R d } ⟨env0 N (ds.map .d), 0, []⟩) : Def P wd K mg base (k + 1) x st ps (spP K F) := by
  obtain ⟨f, fd, Fn, b, m⟩ := c.ex
  refine ⟨f, fd, fnG_of Fn S (fun vs H Q E h => ?_) (fun cdv A outer s H vs Q E hG hr h => ?_), Fn, b, m⟩
  · obtain ⟨G, ds, R, _, p, hF, _⟩ := h
    rw [dpa_len p]
    exact hl ds R hF
  · obtain ⟨G, ds, R, gh, p, hF, kk⟩ := h
    obtain ⟨t, w, D, hw⟩ := body f cdv A outer s H G E ds R hG hr hF
    have rel : Rel ⟨K, b0, H, G⟩ G (L2.start N vs) H ⟨env0 N (ds.map .d), 0, []⟩ := by
      refine ⟨⟨gh, Ex.refl G, Nw.refl G H, Gr.refl _ H, Bx.ok0, .nil, fun l hl => nomatch hl⟩, env0_len (by rw [List.length_map, dpa_len p]), fun i x e => ?_, fun i j x y q _ e1 _ m1 => ?_⟩
      · have e' := env0_get e
        rw [List.getElem?_map] at e'
        cases q : ds[i]? with
        | none => rw [q] at e'; cases e'
        | some d =>
          rw [q] at e'
          cases e'
          obtain ⟨v, hv, pv⟩ := dpa_back p q
          exact ⟨v, start_get hv, pv⟩
      · have e' := env0_get e1
        rw [List.getElem?_map] at e'
        cases q : ds[i]? with
        | none => rw [q] at e'; cases e'
        | some d => rw [q] at e'; cases e'; cases m1
    refine ⟨t, D.ps, D.is G (L2.start N vs) H _ _ _ rel hw ⟨fun σ' H' s' G' hn r' e => ?_, fun _ _ _ _ h => h.elim, fun _ _ _ _ h => h.elim, fun v d c' G' H' hR f' e pv => ?_⟩⟩
    · exact kk .non .none G' H' hn e (fun b o hb => r'.fin.hh b o (fun z => nomatch z) hb) r'.fin.gh r'.fin.nw .non
    · exact kk v d G' H' hR e (fun b o hb => f'.hh b o (fun z => nomatch z) hb) f'.gh f'.nw pv
theorem Def.draws {k : Nat} {x : Str} {st : Stmt} {N ps : List Str} {F : FB} (c : Fct K mg x st ps) (S : FnScope N ps (defScope st)) (hl : ∀ ds c R, F ds c R → ds.length + 1 = ps.length)
    (body : ∀ (f : Addr) (cdv : Value) (A : Around) (outer : List Env) (s : Shared) (H G : Hp) (l : Addr) (E : XK) (ds : List PyData) (c : Int) (R : PyData → Int → Prop), A.guards = some [] → Room k (A.deeper (envOfC x (defScope st) s.heap.objs.size f cdv)) → F ds c R →
      ∃ t w, DSs (cxOf CX0 P wd K mg base N x (defScope st) f cdv A outer s H E).nox ⟨K, bB l, H, G⟩ (defBody st) t w ∧ w { nx := fun s => R .none s.c.n, rt := fun d c => R d c.n } ⟨env0 N (.box :: ds.map .d), c, []⟩) : Def P wd K mg base (k + 1) x st ps (spB K F) := by
  obtain ⟨f, fd, Fn, b, m⟩ := c.ex
  refine ⟨f, fd, fnG_of Fn S (fun vs H Q E h => ?_) (fun cdv A outer s H vs Q E hG hr h => ?_), Fn, b, m⟩
  · obtain ⟨l, vs', G, ds, c, R, rfl, _, _, _, p, hF, _⟩ := h
    rw [List.length_cons, dpa_len p]
    exact hl ds c R hF
  · obtain ⟨l, vs', G, ds, c, R, rfl, hB, hGl, gh, p, hF, kk⟩ := h
    obtain ⟨t, w, D, hw⟩ := body f cdv A outer s H G l E ds c R hG hr hF
    have rel : Rel ⟨K, bB l, H, G⟩ G (L2.start N (.ref l :: vs')) H ⟨env0 N (.box :: ds.map .d), c, []⟩ := by
      refine ⟨⟨gh, Ex.refl G, Nw.refl G H, Gr.refl _ H, Bx.ok0, .nil, fun l' hl' => ?_⟩, env0_len (by rw [List.length_cons, List.length_cons, List.length_map, dpa_len p]), fun i x e => ?_, fun i j x y q _ e1 _ m1 => ?_⟩
      · cases hl'
        exact ⟨.ofBox hB (fun z => nomatch z), hGl, hB.ne⟩
      · have e' := env0_get e
        cases i with
        | zero =>
          cases e'
          exact ⟨.ref l, start_get rfl, l, rfl, rfl⟩
        | succ i =>
          rw [List.getElem?_cons_succ, List.getElem?_map] at e'
          cases q : ds[i]? with
          | none => rw [q] at e'; cases e'
          | some d =>
            rw [q] at e'
            cases e'
            obtain ⟨v, hv, pv⟩ := dpa_back p q
            exact ⟨v, start_get (by rw [List.getElem?_cons_succ]; exact hv), pv⟩
      · have e' := env0_get e1
        cases i with
        | zero => cases e'; cases m1
        | succ i =>
          rw [List.getElem?_cons_succ, List.getElem?_map] at e'
          cases q : ds[i]? with
          | none => rw [q] at e'; cases e'
          | some d => rw [q] at e'; cases e'; cases m1
    refine ⟨t, D.ps, D.is G _ H _ _ _ rel hw ⟨fun σ' H' s' G' hn r' e => ?_, fun _ _ _ _ h => h.elim, fun _ _ _ _ h => h.elim, fun v d c' G' H' hR f' e pv => ?_⟩⟩
    · exact kk .non .none s'.c.n G' H' hn e (fun b o hb hx => r'.fin.hh b o (fun z => hb (by cases z; rfl)) hx) (r'.fin.boxAt rfl) r'.fin.gh r'.fin.nw .non
    · exact kk v d c'.n G' H' hR e (fun b o hb hx => f'.hh b o (fun z => hb (by cases z; rfl)) hx) (f'.boxAt rfl) f'.gh f'.nw pv
end
section
variable {X : Cx} {C : Ct} {a b e tg : Expr} {es : List Expr} {pos p : Pos} {t ta tb tc te : TE} {w wa wb wc we : WE} {tA : TA} {wA : WA} {x : Str} {st : Stmt} {sts : List Stmt} {ps : List Str} {k : Nat}
theorem de_c {F : FP} (D : Def X.prog X.w X.K X.mg X.base k x st ps (spP C.K F)) (hG : X.A.guards = some []) (hr : Room k X.A) (hg : Gl X x)
    (ha : DA X C (e :: es) tA wA) (hdb : (x == ("__debug__" : Str)) = false := by decide) (he : starEach (e :: es) X.env = (false, eval e X.env) :: starEach es X.env := by rfl) (hpl : (backTo pos (starEach es X.env)).any (·.1) = false := by rfl) :
    DE X C (.Call (.Name x p) (e :: es) [] pos) (tCall (spP C.K F) [] E0 tA) (wCall F wA) := by
  obtain ⟨f, fd, G, Fn, b, m⟩ := D.ex
  exact ⟨pe_callG G hG hr hg m Fn.kp b ha.pa hdb he hpl, ie_call ha.ia⟩
theorem de_cB (i : Nat) {F : FB} {y : Str} {p2 : Pos} (D : Def X.prog X.w X.K X.mg X.base k x st ps (spB C.K F)) (hG : X.A.guards = some []) (hr : Room k X.A) (hg : Gl X x)
    (ha : DA X C es tA wA) (hv : PE X (.Name y p2) (tVar i) := by exact pv _) (hdb : (x == ("__debug__" : Str)) = false := by decide) (he : starEach (.Name y p2 :: es) X.env = (false, eval (.Name y p2) X.env) :: starEach es X.env := by rfl) (hpl : (backTo pos (starEach es X.env)).any (·.1) = false := by rfl) :
    DE X C (.Call (.Name x p) (.Name y p2 :: es) [] pos) (tCall (spB C.K F) [] E0 (tCons (tVar i) tA)) (wCallB i F wA) := by
  obtain ⟨f, fd, G, Fn, b, m⟩ := D.ex
  exact ⟨pe_callG G hG hr hg m Fn.kp b (pa_cons hv ha.pa he) hdb he hpl, ie_callB ha.ia⟩
def wNm (F : FP) (n : Nat) (π : List Nat) (wA : WA) : WE := fun s Q => wA s fun ds s1 => ds.length = n ∧ F (perm π ds) fun d => Q d s1
theorem ds_setLc {elt iter : Expr} {ifs : List Expr} {scope : Scope} {own : List (Str × Nat)} {wi : TI} {wI : WA} {g : TG} {ks : List Nat} {wg : WG} {tt : TT} {wt : WT} (i : Nat) {y : Str} {py spos : Pos} (hc : X.calm = true) (hN : X.N.Nodup) (hy : X.N[i]? = some y) (hyl : X.env.scope.names.lookup y = some .local)
    (hsw : swapsWith (.ListComp elt [⟨tg, iter, ifs, 0⟩] scope pos) (some (.Name y py)) spos.line X.env = Pure.pure true) (hi : DI X C tg iter wi wI) (ok : BlkOk X.N X.env.scope scope own)
    (hg : ∀ (s : Shared) (H : Hp) (A : Addr) (cl : List (Str × Addr)) (fp : List Addr), DG (X.blk s H scope (compEnvC scope cl A X.env) fp) C tg g ks wg)
    (ht : (∀ (s : Shared) (H : Hp) (A : Addr) (cl : List (Str × Addr)) (fp : List Addr), PTs (X.blk s H scope (compEnvC scope cl A X.env) fp) ifs tt) ∧ IT C tt wt)
    (he : ∀ (s : Shared) (H : Hp) (A : Addr) (cl : List (Str × Addr)) (fp : List Addr), DE (X.blk s H scope (compEnvC scope cl A X.env) fp) C elt te we) (hk : ∀ k ∈ ks, k ∈ own.map (·.2) := by decide) (hs : ∀ x, foldedSetIterable iter X.env x = Pure.pure x := by intro _; rfl) :
    DS X C (.Assign [.Name y py] (.ListComp elt [⟨tg, iter, ifs, 0⟩] scope pos) spos) (tAsg (tLc wi g tt te (own.map (·.2))) (gName i)) (wAsg (wPubO (wLc wI wg wt we (own.map (·.2)))) (wName i)) :=
  ⟨ps_setLc hc hN hy hyl hsw hi.pi ok (fun s H A cl fp => (hg s H A cl fp).pg) ht.1 (fun s H A cl fp => (he s H A cl fp).pe) hs, is_asg (ie_own (io_lc hk hi.ii (hg {} (fun _ => none) 0 [] []).ig ht.2 (he {} (fun _ => none) 0 [] []).ie)) (ig_name i)⟩
theorem ts_one {c : Expr} {scope : Scope} {tt : TT} {wt : WT} (h : ∀ (s : Shared) (H : Hp) (A : Addr) (cl : List (Str × Addr)) (fp : List Addr), DT (X.blk s H scope (compEnvC scope cl A X.env) fp) C c tt wt) :
    (∀ (s : Shared) (H : Hp) (A : Addr) (cl : List (Str × Addr)) (fp : List Addr), PTs (X.blk s H scope (compEnvC scope cl A X.env) fp) [c] tt) ∧ IT C tt wt := ⟨fun s H A cl fp => pts_one (h s H A cl fp).pt, (h {} (fun _ => none) 0 [] []).it⟩
theorem ts_no {scope : Scope} : (∀ (s : Shared) (H : Hp) (A : Addr) (cl : List (Str × Addr)) (fp : List Addr), PTs (X.blk s H scope (compEnvC scope cl A X.env) fp) [] tYes) ∧ IT C tYes (fun s Q => Q true s) :=
  ⟨fun _ _ _ _ _ => pts_nil, fun G σ H s Q Q' r q k => k true s G H q r (Ex.refl G) Gs.refl⟩
abbrev WX := Dt → (DV → Dt → Prop) → Prop
abbrev WXs := Dt → (List DV → Dt → Prop) → Prop
def PV (C : Ct) (σ : L2.St) (G H : Hp) (s : Dt) (v : V) : DV → Prop
  | .d x => Dp C.K G v x
  | .own ds => ∃ p xs, v = .ref p ∧ H p = some (.lst xs) ∧ C.H0 p = none ∧ G p = none ∧ DpAll C.K G xs ds ∧ ∀ (i : Nat) x, s.env[i]? = some (some x) → x.mut = true → σ[i]? ≠ some (some (.ref p))
  | _ => False
theorem PV.mono {σ : L2.St} {G H G' H' : Hp} {s s' : Dt} {v : V} {x : DV} (h : PV C σ G H s v x) (r : Rel C G σ H s) (eg : Ex G G') (g : Gs C σ G H s G' H' s') : PV C σ G' H' s' v x := by
  cases x with
  | d _ => exact dp_ex eg h
  | own ds =>
    obtain ⟨p, xs, a1, a2, a3, a4, a5, a6⟩ := h
    refine ⟨p, xs, a1, g.gr p _ (r.fin.nbx a3) a2, a3, g.nk p _ a4 (r.fin.nbx a3) a2 rfl a6, dpa_ex eg a5, fun i y e m => ?_⟩
    obtain ⟨y', e', m'⟩ := g.ks i y e m
    exact a6 i y' e' m'
  | dic _ => exact h
  | dit _ => exact h
  | dd _ => exact h
  | oth _ => exact h
  | box => exact h
  | ob _ => exact h
theorem PV.rv {σ : L2.St} {G H : Hp} {s : Dt} {v : V} {x : DV} (h : PV C σ G H s v x) : RV C G H v x := by
  cases x with
  | d _ => exact h
  | own ds =>
    obtain ⟨p, xs, a1, a2, a3, a4, a5, a6⟩ := h
    exact ⟨p, xs, a1, a2, a3, a4, a5⟩
  | dic _ => exact h.elim
  | dit _ => exact h.elim
  | dd _ => exact h.elim
  | oth _ => exact h.elim
  | box => exact h.elim
  | ob _ => exact h.elim
/-- new places over H -/
def Frs (H : Hp) (vs : List V) (xs : List DV) : Prop := ∀ (i : Nat) x p, xs[i]? = some x → x.mut = true → vs[i]? = some (.ref p) → H p = none
def Dst (vs : List V) (xs : List DV) : Prop := ∀ (i j : Nat) x y p, i ≠ j → xs[i]? = some x → xs[j]? = some y → x.mut = true → y.mut = true → vs[i]? = some (.ref p) → vs[j]? ≠ some (.ref p)
inductive PVs (C : Ct) (σ : L2.St) (G H : Hp) (s : Dt) : List V → List DV → Prop
  | nil : PVs C σ G H s [] []
  | cons {v : V} {x : DV} {vs : List V} {xs : List DV} : PV C σ G H s v x → PVs C σ G H s vs xs → PVs C σ G H s (v :: vs) (x :: xs)
def IX (C : Ct) (t : TE) (w : WX) : Prop := ∀ G σ H s Q Q', Rel C G σ H s → w s Q →
  (∀ v x s' G' H', Q x s' → Rel C G' σ H' s' → Ex G G' → Gs C σ G H s G' H' s' → PV C σ G' H' s' v x → (∀ p, x.mut = true → v = .ref p → H p = none) → Q' v H') → t σ H Q'
def IXs (C : Ct) (t : TA) (w : WXs) : Prop := ∀ G σ H s Q Q', Rel C G σ H s → w s Q →
  (∀ vs xs s' G' H', Q xs s' → Rel C G' σ H' s' → Ex G G' → Gs C σ G H s G' H' s' → PVs C σ G' H' s' vs xs → Frs H vs xs → Dst vs xs → Q' vs H') → t σ H Q'
structure DX (X : Cx) (C : Ct) (e : Expr) (t : TE) (w : WX) : Prop where
  pe : PE X e t
  ix : IX C t w
structure DXs (X : Cx) (C : Ct) (es : List Expr) (t : TA) (w : WXs) : Prop where
  pa : PA X es t
  ix : IXs C t w
theorem DE.dx (h : DE X C e t w) : DX X C e t (fun s Q => w s fun d s1 => Q (.d d) s1) := ⟨h.pe, fun G σ H s Q Q' r q k => h.ie G σ H s _ _ r q fun v d s' G' H' q' r' eg g p => k v (.d d) s' G' H' q' r' eg g p fun _ m => nomatch m⟩
theorem DO.dx {w : WA} (h : DO X C e t w) : DX X C e t (fun s Q => w s fun ds s1 => Q (.own ds) s1) := ⟨h.pe, fun G σ H s Q Q' r q k => h.io G σ H s _ _ r q fun p xs ds s' G' H' q' r' eg g hp h1 h2 h3 h4 =>
  k (.ref p) (.own ds) s' G' H' q' r' eg g ⟨p, xs, rfl, h1, r.fin.h0 hp, h2, h3, h4⟩ fun p' _ z => by cases z; exact hp⟩
theorem dx_nil : DXs X C [] tNil (fun s Q => Q [] s) := ⟨pa_nil, fun G σ H s Q Q' r q k => k [] [] s G H q r (Ex.refl G) Gs.refl .nil (fun i x p e => by simp at e) fun i j x y p _ e => by simp at e⟩
theorem PVs.mono {σ : L2.St} {G H G' H' : Hp} {s s' : Dt} (r : Rel C G σ H s) (eg : Ex G G') (g : Gs C σ G H s G' H' s') : ∀ {vs : List V} {xs : List DV}, PVs C σ G H s vs xs → PVs C σ G' H' s' vs xs
  | _, _, .nil => .nil
  | _, _, .cons h t => .cons (h.mono r eg g) (PVs.mono r eg g t)
theorem dx_cons {tr : TA} {w : WX} {wr : WXs} (h : DX X C e t w) (hr : DXs X C es tr wr) (hs : starEach (e :: es) X.env = (false, eval e X.env) :: starEach es X.env := by rfl) : DXs X C (e :: es) (tCons t tr) (fun s Q => w s fun x s1 => wr s1 fun xs s2 => Q (x :: xs) s2) :=
  ⟨pa_cons h.pe hr.pa hs, fun G σ H s Q Q' r q k => h.ix G σ H s _ _ r q fun v x s1 G1 H1 q1 r1 eg1 g1 p1 f1 => hr.ix G1 σ H1 s1 _ _ r1 q1 fun vs xs s2 G2 H2 q2 r2 eg2 g2 p2 f2 d2 => by
    refine k (v :: vs) (x :: xs) s2 G2 H2 q2 r2 (eg1.trans eg2) (g1.trans g2) (.cons (p1.mono r1 eg2 g2) p2) (fun i y p ei m hv => ?_) fun i j y z p hne ei ej m1 m2 hv => ?_
    · cases i with
      | zero =>
        cases ei
        cases hv
        exact f1 p m rfl
      | succ i =>
        have := f2 i y p (by simpa using ei) m (by simpa using hv)
        cases q : H p with
        | none => rfl
        | some o => exact absurd this (g1.dom p (by rw [q]; exact Option.some_ne_none _))
    · have key : ∀ (n : Nat) (y z : DV) (p : Addr), y = x → xs[n]? = some z → y.mut = true → z.mut = true → v = .ref p → vs[n]? ≠ some (.ref p) := fun n y z p e1 e2 m1 m2 hv hn => by
        subst e1
        have hz := f2 n z p e2 m2 hn
        cases y with
        | own ds =>
          obtain ⟨p', xs', a1, a2, _⟩ := p1
          rw [hv] at a1
          cases a1
          rw [hz] at a2
          cases a2
        | dic _ => exact p1
        | dit _ => exact p1
        | dd _ => exact p1
        | oth _ => exact p1
        | d _ => cases m1
        | box => cases m1
        | ob _ => cases m1
      cases i with
      | zero =>
        cases j with
        | zero => exact absurd rfl hne
        | succ j =>
          cases ei
          cases hv
          simpa using key j x z p rfl (by simpa using ej) m1 m2 rfl
      | succ i =>
        cases j with
        | zero =>
          cases ej
          intro hn
          cases hn
          exact key i x y p rfl (by simpa using ei) m2 m1 rfl (by simpa using hv)
        | succ j => simpa using d2 i j y z p (fun e => hne (by rw [e])) (by simpa using ei) (by simpa using ej) m1 m2 (by simpa using hv)⟩
/-- names by slots, all different -/
def setS (σ : L2.St) : List Nat → List V → L2.St
  | k :: ks, v :: vs => setS (σ.set k (some v)) ks vs
  | _, _ => σ
def Dt.sets (s : Dt) : List Nat → List DV → Dt
  | k :: ks, x :: xs => (s.set k x).sets ks xs
  | _, _ => s
theorem rel_sets {G H : Hp} : ∀ {ks : List Nat} {vs : List V} {xs : List DV} {σ : L2.St} {s : Dt}, Rel C G σ H s → PVs C σ G H s vs xs → Dst vs xs → Rel C G (setS σ ks vs) H (s.sets ks xs)
  | [], _, _, _, _, r, _, _ => r
  | _ :: _, _, _, _, _, r, .nil, _ => r
  | k :: ks, _, _, σ, s, r, .cons (v := v) (x := x) (vs := vs) (xs := xs) h t, hd => by
    have r1 : Rel C G (σ.set k (some v)) H (s.set k x) := r.put h.rv fun m j y p ej mj hv => by
      cases x with
      | own ds =>
        obtain ⟨p', xs', a1, a2, a3, a4, a5, a6⟩ := h
        rw [hv] at a1
        cases a1
        exact a6 j y ej mj
      | d _ => cases m
      | box => cases m
      | ob _ => cases m
      | dic _ => exact h.elim
      | dit _ => exact h.elim
      | dd _ => exact h.elim
      | oth _ => exact h.elim
    refine rel_sets (ks := ks) r1 ?_ fun i j y z p hne ei ej m1 m2 hv => by
      simpa using hd (i + 1) (j + 1) y z p (fun e => hne (Nat.succ.inj e)) (by simpa using ei) (by simpa using ej) m1 m2 (by simpa using hv)
    -- the others stay no slot's
    have go : ∀ {vs' : List V} {xs' : List DV}, PVs C σ G H s vs' xs' → (∀ (n : Nat) z p, xs'[n]? = some z → z.mut = true → vs'[n]? = some (.ref p) → x.mut = true → v ≠ .ref p) → PVs C (σ.set k (some v)) G H (s.set k x) vs' xs' := by
      intro vs' xs' hp
      induction hp with
      | nil => exact fun _ => .nil
      | @cons v' x' vs' xs' h' t' ih =>
        intro hq
        refine .cons ?_ (ih fun n z p e m hv => hq (n + 1) z p (by simpa using e) m (by simpa using hv))
        cases x' with
        | d _ => exact h'
        | own ds' =>
          obtain ⟨p', xs'', a1, a2, a3, a4, a5, a6⟩ := h'
          refine ⟨p', xs'', a1, a2, a3, a4, a5, fun i y e m => ?_⟩
          rcases get_set e with ⟨rfl, rfl, hl⟩ | ⟨z, e⟩
          · intro hs
            rw [List.getElem?_set_self (by rw [← r.len]; exact hl)] at hs
            cases hs
            exact hq 0 _ p' rfl rfl (by rw [a1]; rfl) m rfl
          · rw [List.getElem?_set_ne (Ne.symm z)]
            exact a6 i y e m
        | dic _ => exact h'
        | dit _ => exact h'
        | dd _ => exact h'
        | oth _ => exact h'
        | box => exact h'
        | ob _ => exact h'
    exact go t fun n z p e m hv hx hvp => hd 0 (n + 1) x z p (by omega) rfl (by simpa using e) hx m (by rw [hvp]; rfl) (by simpa using hv)
def wPar (n : Nat) (ks : List Nat) (w : WXs) : WS := fun DD s => w s fun xs s1 => xs.length = n ∧ DD.nx (s1.sets ks xs)
theorem pvs_len {σ : L2.St} {G H : Hp} {s : Dt} : ∀ {vs : List V} {xs : List DV}, PVs C σ G H s vs xs → vs.length = xs.length
  | _, _, .nil => rfl
  | _, _, .cons _ t => by rw [List.length_cons, List.length_cons, pvs_len t]
theorem is_par2 {i j : Nat} {w : WXs} (h : IXs C tA w) : IS C (tPar i j tA) (wPar 2 [i, j] w) := fun G σ H s D DD r q o => h G σ H s _ _ r q fun vs xs s1 G1 H1 q1 r1 eg g p f d => by
  obtain ⟨hl, q1⟩ := q1
  have hv := pvs_len p
  match vs, hv with
  | [v, v'], _ => exact ⟨v, v', rfl, o.nx _ H1 _ G1 q1 (rel_sets (ks := [i, j]) r1 p d) eg⟩
  | [], hv => rw [hl] at hv; simp at hv
  | [_], hv => rw [hl] at hv; simp at hv
  | _ :: _ :: _ :: _, hv => rw [hl] at hv; simp at hv
theorem ds_par2 (i j : Nat) {xn yn : Str} {px py pt : Pos} {kt k2 pt2} {w : WXs} (hc : X.calm = true) (hN : X.N.Nodup) (h : DXs X C [a, b] tA w) (hi : X.N[i]? = some xn := by rfl) (hj : X.N[j]? = some yn := by rfl) (hij : i ≠ j := by decide)
    (hx : X.env.scope.names.lookup xn = some .local := by rfl) (hy : X.env.scope.names.lookup yn = some .local := by rfl)
    (hw : swappedStores [.Tuple [.Name xn px, .Name yn py] kt pt] (.Tuple [a, b] k2 pt2) X.env = Pure.pure (some [xn, yn]) := by rfl)
    (hs : swapsWithSole [.Tuple [.Name xn px, .Name yn py] kt pt] (.Tuple [a, b] k2 pt2) pos.line X.env = Pure.pure false := by rfl) :
    DS X C (.Assign [.Tuple [.Name xn px, .Name yn py] kt pt] (.Tuple [a, b] k2 pt2) pos) (tPar i j tA) (wPar 2 [i, j] w) := ⟨ps_par hc hN hi hj hij hx hy h.pa hw hs, is_par2 h.ix⟩
theorem is_par3 {i j l : Nat} {w : WXs} (h : IXs C tA w) : IS C (tPar3 i j l tA) (wPar 3 [i, j, l] w) := fun G σ H s D DD r q o => h G σ H s _ _ r q fun vs xs s1 G1 H1 q1 r1 eg g p f d => by
  obtain ⟨hl, q1⟩ := q1
  have hv := pvs_len p
  match vs, hv with
  | [v, v', v''], _ => exact ⟨v, v', v'', rfl, o.nx _ H1 _ G1 q1 (rel_sets (ks := [i, j, l]) r1 p d) eg⟩
  | [], hv => rw [hl] at hv; simp at hv
  | [_], hv => rw [hl] at hv; simp at hv
  | [_, _], hv => rw [hl] at hv; simp at hv
  | _ :: _ :: _ :: _ :: _, hv => rw [hl] at hv; simp at hv
end
end Dw
namespace Dw
open PySem PySem.Spec PyProof.Rows L2 OgR Evl
section
variable {X : Cx} {C : Ct} {a b e tg : Expr} {es : List Expr} {pos p : Pos} {t ta tb tc te ty : TE} {w wa wb wc we wy : WE} {tA : TA} {wA : WA} {x : Str} {st : Stmt} {sts : List Stmt} {ps : List Str} {k : Nat}
structure GC (K : PySem.W.Frag) (mg : Str → Option Value) (x : Str) (d : PyData) : Prop where
  ex : ∃ a, mg x = some (.ref a) ∧ ∀ G, Dp K G (.ref a) d
def tGl (mg : Str → Option Value) (x : Str) : TE := fun _ H Q => ∀ a, mg x = some (.ref a) → Q (.ref a) H
theorem de_gc {d : PyData} {mg : Str → Option Value} (c : GC C.K mg x d) (hg : Gl X x) (hmg : X.mg = mg := by rfl) (hd : (x == ("__debug__" : Str)) = false := by decide) : DE X C (.Name x pos) (tGl mg x) (wC d) := by
  subst hmg
  obtain ⟨a, hm, hD⟩ := c.ex
  refine ⟨⟨fun pins s σ H Q I h => (pe_glob (v := .ref a) hg hm rfl hd).run pins s σ H Q I (h a hm)⟩, fun G σ H s Q Q' r q k a' hm' => ?_⟩
  rw [hm] at hm'
  cases hm'
  exact k _ _ s G H q r (Ex.refl G) Gs.refl (hD G)
structure GD (wd : World) (K : PySem.W.Frag) (mg : Str → Option Value) (x : Str) (tbl : List (Str × PyData)) : Prop where
  ex : ∃ a, mg x = some (.ref a) ∧ ∀ z d, (z, d) ∈ tbl → ∃ v, KDct K wd a z v ∧ ∀ G, Dp K G v d
def wGix (tbl : List (Str × PyData)) (wy : WE) : WE := fun s Q => wy s fun y s1 => ∃ z d, y = .str z ∧ (z, d) ∈ tbl ∧ Q d s1
theorem de_gix {tbl : List (Str × PyData)} {p2 : Pos} {wd : World} {mg : Str → Option Value} (c : GD wd C.K mg x tbl) (hK : X.K = C.K) (hg : Gl X x) (hy : DE X C b ty wy) (hmg : X.mg = mg := by rfl) (hwd : X.w = wd := by rfl) (hs : PlainIx b := by exact fun _ _ => rfl) (hd : (x == ("__debug__" : Str)) = false := by decide) :
    DE X C (.Subscript (.Name x p2) b pos) (tOp (rIxD C.K wd) (tGl mg x) ty) (wGix tbl wy) := by
  subst hmg hwd
  obtain ⟨a, hm, hD⟩ := c.ex
  have hpe : PE X (.Name x p2) (tGl X.mg x) := ⟨fun pins s σ H Q I h => (pe_glob (v := .ref a) hg hm rfl hd).run pins s σ H Q I (h a hm)⟩
  refine ⟨pe_ix (hK ▸ ix_kdict) hpe hy.pe hs, fun G σ H s Q Q' r q k a' hm' => hy.ie G σ H s _ _ r q fun v d s1 G1 H1 q1 r1 eg g pd => ?_⟩
  rw [hm] at hm'
  cases hm'
  obtain ⟨z, dd, rfl, hz, q1⟩ := q1
  obtain ⟨w, kd, hf⟩ := hD z dd hz
  exact ⟨a, z, w, rfl, dp_str pd, kd, k _ _ s1 G1 H1 q1 r1 eg g (hf G1)⟩
/-- a displayed dict -/
def keyD : PyData → Option Key
  | .int i => some (.inl i)
  | .str z => some (.inr z)
  | _ => none
theorem key_v {K : PySem.W.Frag} {G : Hp} {v : V} {d : PyData} {k : Key} (h : Dp K G v d) (e : keyD d = some k) : v = kV k := by
  cases h with
  | int i => cases e; rfl
  | str z => cases e; rfl
  | _ => cases e
def lookD (tbl : List (Key × PyData)) (k : Key) : Option PyData := (tbl.find? fun kd => decide (kd.1 = k)).map (·.2)
def wDix (tbl : List (Key × PyData)) (wy : WE) : WE := fun s Q => wy s fun y s1 => ∃ k d, keyD y = some k ∧ lookD tbl k = some d ∧ Q d s1
def rCatL (K : PySem.W.Frag) : R2 := fun x y H Q => ∃ l m xs zs, x = .ref l ∧ y = .ref m ∧ SqL K H l xs ∧ SqL K H m zs ∧ xs.length + zs.length ≤ sizeLine ∧ ∀ p, H p = none → Q (.ref p) (upd H p (.lst (xs ++ zs)))
theorem op_catL : OpR X (binaryOp .Add) (rCatL X.K) := by
  intro pins s σ H x y v u Q I rx ry h
  obtain ⟨l, m, xs, zs, rfl, rfl, h1, h2, hz, q⟩ := h
  cases rx
  cases ry
  obtain ⟨its, r1, p1, _⟩ := I.list h1
  obtain ⟨js, r2, p2, _⟩ := I.list h2
  obtain ⟨⟨c1, d1, t1, s1⟩, n1, g1, e1, _, k1⟩ := p1
  obtain ⟨⟨c2, d2, t2, s2⟩, n2, g2, e2, _, k2⟩ := p2
  simp only at e1 k1 e2 k2
  subst e1 k1 e2 k2
  have hl : its.toArray.size + js.toArray.size ≤ sizeLine := by rw [List.size_toArray, List.size_toArray, ← r1.length, ← r2.length]; exact hz
  have hp := list_addW l m its.toArray js.toArray n1 n2 d1 d2 s1 s2 hl
  refine concat_meets ⟨_, g1, rfl⟩ ⟨_, g2, rfl⟩ noFill_list_add seq_list_add F.slot_list_add F.entry_list_add (F.args_list_add_2 _ _) hp ⟨g1, g2, ?_⟩
  rw [show its.toArray ++ js.toArray = (its ++ js).toArray by simp]
  exact ⟨.ref _, _, I.lnew (t' := s.toks) (r1.append r2) (by rw [List.length_append]; exact hz), rfl, q _ I.fresh⟩
def wCatP (u v : WE) : WA := fun s Q => u s fun d s1 => v s1 fun e s2 => ∃ ds es, d = .list ds ∧ e = .list es ∧ ds.length + es.length ≤ 100000 ∧ Q (ds ++ es) s2
theorem do_catP (hK : X.K = C.K) (ha : DP X C a ta wa) (hb : DP X C b tb wb) : DO X C (.BinOp a .Add b pos) (tOp (rCatL C.K) ta tb) (wCatP wa wb) := ⟨pe_op (hK ▸ op_catL) ha.pe hb.pe, fun G σ H s Q Q' r q k =>
  ha.ip G σ H s _ _ r q fun v d s1 G1 H1 q1 r1 eg1 g1 p1 => hb.ip G1 σ H1 s1 _ _ r1 q1 fun v2 d2 s2 G2 H2 q2 r2 eg2 g2 p2 => by
    obtain ⟨ds, es, rfl, rfl, hl, q2⟩ := q2
    obtain ⟨a, xs, rfl, h1, h2⟩ := pk_lst (p1.mono eg2 g2.gr) r2.fin.gh
    obtain ⟨b, ys, rfl, h3, h4⟩ := pk_lst p2 r2.fin.gh
    exact ⟨a, b, xs, ys, rfl, rfl, h1, h3, sz_of (by rw [dpa_len h2, dpa_len h4]; exact hl), fun l hl => own_new r q2 r2 (eg1.trans eg2) (g1.trans g2) (dpa_app h2 h4) hl k⟩⟩
/-- y = x.pop(), y = x.pop(i) -/
def wPopTo (j i : Nat) (wA : WA) (f : List PyData → List PyData → (PyData → List PyData → Prop) → Prop) : WS := fun DD s => (∃ ds0, s.env[i]? = some (some (.own ds0))) ∧ wA s fun as s1 => ∃ ds, s1.env[i]? = some (some (.own ds)) ∧ f ds as fun d ds' => DD.nx ((s1.set i (.own ds')).set j (.d d))
def fPop : List PyData → List PyData → (PyData → List PyData → Prop) → Prop := fun ds as Q => ∃ ds' d, as = [] ∧ ds = ds' ++ [d] ∧ Q d ds'
/-- x.pop(i), x.insert(i, y) as statements -/
def fPopAt : List PyData → List PyData → (PyData → List PyData → Prop) → Prop := fun ds as Q => ∃ (n : Nat) (d : PyData), as = [.int n] ∧ ds[n]? = some d ∧ n < 100000 ∧ Q d (ds.eraseIdx n)
def fIns : List PyData → List PyData → (PyData → List PyData → Prop) → Prop := fun ds as Q => ∃ (n : Nat) (d : PyData), as = [.int n, d] ∧ ds.length < 100000 ∧ n < 100000 ∧ Q .none (ds.take n ++ [d] ++ ds.drop n)
theorem dpa_erase {K : PySem.W.Frag} {G : Hp} : ∀ {xs : List V} {ds : List PyData} (n : Nat), DpAll K G xs ds → DpAll K G (xs.eraseIdx n) (ds.eraseIdx n)
  | _, _, _, .nil => .nil
  | _, _, 0, .cons _ t => t
  | _, _, n + 1, .cons h t => .cons h (dpa_erase n t)
theorem seqIx {n m : Nat} (h : n < m) : seqIndex? (n : Int) m = some n := by
  have := (ixN_seq (n := m) (i := n) (j := n) (by unfold ixN; rw [if_pos (by omega), if_pos (by omega), Int.toNat_natCast])).1
  exact this
/-- x[i] = e -/
def wSetIx (i : Nat) (we wi : WE) : WS := fun DD s => we s fun d s1 => (∃ ds0, s1.env[i]? = some (some (.own ds0))) ∧ wi s1 fun k s2 => ∃ (n : Nat) (ds : List PyData), k = .int n ∧ s2.env[i]? = some (some (.own ds)) ∧ n < ds.length ∧ DD.nx (s2.set i (.own (ds.set n d)))
def RepOk (d : PyData) : Prop := d.showable = true ∧ d.hasDict = false ∧ d.depth ≤ 40 ∧ d.shown.length ≤ sizeLine
def gRepr : G1 := fun d s Q => RepOk d ∧ Q (.str d.shown) s
theorem depth_ints : ∀ ns : List Int, PyData.depthAll (ns.map PyData.int) = 0
  | [] => by simp [PyData.depthAll]
  | n :: r => by rw [List.map_cons]; simp only [PyData.depthAll, PyData.depth]; rw [depth_ints r]; rfl
def gMinT : G1 := fun d s Q => ∃ (n : Int) (ns : List Int), d = .tuple ((n :: ns).map .int) ∧ Q (.int (ns.foldl min n)) s
end
end Dw
namespace Dw
open PySem PySem.Spec PyProof.Rows L2 OgR Evl
theorem u65 {k : Nat} {A : Around} (r : Room k A) : A.units + 65 < cLine := by have := r.un; omega
section
variable {X : Cx} {C : Ct} {a b c e tg : Expr} {es : List Expr} {pos p : Pos} {t ta tb tc te ty : TE} {w wa wb wc we wy : WE} {tA : TA} {wA : WA} {x : Str} {st : Stmt} {sts : List Stmt} {ps : List Str} {k : Nat}
theorem dgs_c {g : TG} {gs : TGs} {k1 k2 : List Nat} {w : WG} {u : WGs} (h1 : DG X C e g k1 w) (h2 : DGs X C es gs k2 u) (hs : (assignEach (e :: es) X.env).map (·.2) = assign e X.env :: (assignEach es X.env).map (·.2) := by rfl) :
    DGs X C (e :: es) (gCons g gs) (k1 ++ k2) (wGCons w u) := dgs_cons h1 h2 (pgs_cons h1.pg h2.pg hs)
theorem di_zip2 {elts : List Expr} {kk : Nat} {tpos : Pos} (hK : X.K = C.K) (hg : Gl X "zip") (hm : X.mg "zip" = none) (h : DE X C a ta wa) (h' : DE X C b tb wb) (hs : starEach [a, b] X.env = (false, eval a X.env) :: starEach [b] X.env := by rfl) (hs2 : starEach [b] X.env = (false, eval b X.env) :: starEach [] X.env := by rfl)
    (hpl : (backTo pos (starEach [b] X.env)).any (·.1) = false := by rfl) : DI X C (.Tuple elts kk tpos) (.Call (.Name "zip" p) [a, b] [] pos) (iZipB C.K (tCons ta (tCons tb tNil))) (wZip wa wb) :=
  di_zip hK hg hm h h' (pi_zipB hg hm (pa_cons h.pe (pa_cons h'.pe pa_nil hs2) hs) hs hpl)
theorem ds_par3 (i j l : Nat) {xn yn zn : Str} {px py pz pt : Pos} {kt k2 pt2} {w : WXs} (hc : X.calm = true) (hN : X.N.Nodup) (h : DXs X C [a, b, c] tA w) (hi : X.N[i]? = some xn := by rfl) (hj : X.N[j]? = some yn := by rfl) (hl : X.N[l]? = some zn := by rfl) (hij : i ≠ j := by decide) (hil : i ≠ l := by decide) (hjl : j ≠ l := by decide)
    (hx : X.env.scope.names.lookup xn = some .local := by rfl) (hy : X.env.scope.names.lookup yn = some .local := by rfl) (hz : X.env.scope.names.lookup zn = some .local := by rfl)
    (hw : swappedStores [.Tuple [.Name xn px, .Name yn py, .Name zn pz] kt pt] (.Tuple [a, b, c] k2 pt2) X.env = Pure.pure (some [xn, yn, zn]) := by rfl)
    (hs : swapsWithSole [.Tuple [.Name xn px, .Name yn py, .Name zn pz] kt pt] (.Tuple [a, b, c] k2 pt2) pos.line X.env = Pure.pure false := by rfl) :
    DS X C (.Assign [.Tuple [.Name xn px, .Name yn py, .Name zn pz] kt pt] (.Tuple [a, b, c] k2 pt2) pos) (tPar3 i j l tA) (wPar 3 [i, j, l] w) := ⟨ps_par3 hc hN hi hj hl hij hil hjl hx hy hz h.pa hw hs, is_par3 h.ix⟩
theorem ds_app (i : Nat) {apos cpos : Pos} (hK : X.K = C.K) (h : DE X C e t w) (hv : PE X (.Name x p) (tVar i) := by exact pv _) (hb0 : attributeBase (.Name x p) "append" X.env (eval (.Name x p) X.env) = eval (.Name x p) X.env := by rfl)
    (hfew : ((backTo cpos (starEach [e] X.env)).all (fun x => !x.1) && (backToKw cpos (keywordEach [] X.env)).all (fun x => x.1.isSome) && decide ([e].length + ([] : List Keyword).length + (if ([] : List Keyword).isEmpty then 0 else 1) < 30)) = true := by rfl)
    (hline : (apos.endLine == cpos.line) = true := by rfl) (hst : starEach [e] X.env = (false, eval e X.env) :: starEach [] X.env := by rfl) (hpl : (backTo cpos (starEach [] X.env)).any (·.1) = false := by rfl)
    (hs : swapsWith (.Call (.Attribute (.Name x p) "append" apos) [e] [] cpos) none pos.line X.env = Pure.pure false := by rfl) :
    DS X C (.Expr (.Call (.Attribute (.Name x p) "append" apos) [e] [] cpos) pos) (tDrop (tBM C.K "list" rAppend (tVar i) (tCons t tNil))) (wDrop (wMeth i (wCons w fun s Q => Q [] s) fAppend)) :=
  ds_append i hK h hv (pe_bm PySem.F.plainAttrs_list PySem.F.slot_list_append PySem.F.type_list_append mt_append hv (pa_cons h.pe pa_nil hst) hb0 hfew hline hst hpl) hs
end
theorem for_by {ds : List PyData} {g : WG} {wb : WS} {DD : DEnds} {s1 : Dt} (Inv : Nat → Dt → Prop) (h0 : Inv 0 s1)
    (hs : ∀ (i : Nat) d s2 (J : Dt → Prop), ds[i]? = some d → Inv i s2 → (∀ s, Inv (i + 1) s → J s) → g d s2 fun s3 => wb { nx := J, rt := DD.rt, bk := DD.nx, ct := J } s3) (hd : ∀ s2, Inv ds.length s2 → DD.nx s2) :
    ∃ Inv : Nat → Dt → Prop, Inv 0 s1 ∧ (∀ (i : Nat) d s2, ds[i]? = some d → Inv i s2 → g d s2 fun s3 => wb { nx := Inv (i + 1), rt := DD.rt, bk := DD.nx, ct := Inv (i + 1) } s3) ∧ ∀ s2, Inv ds.length s2 → DD.nx s2 :=
  ⟨Inv, h0, fun i d s2 e inv => hs i d s2 (Inv (i + 1)) e inv fun _ h => h, hd⟩
theorem lc_map {ds : List PyData} {g : WG} {te : WE} {vs : List Nat} {env : List (Option DV)} {c : Cs} {Q : List PyData → Dt → Prop} (f : PyData → PyData) (hl : ds.length ≤ 99999)
    (h : ∀ d ∈ ds, ∀ (acc : List PyData) (J : List PyData → Cs → Prop), acc.length < 100000 → J (acc ++ [f d]) c → g d ⟨wipeD env vs, c⟩ fun s2 => te s2 fun y s4 => s4.env = s2.env ∧ acc.length < 100000 ∧ J (acc ++ [y]) s4.c) (q : Q (ds.map f) ⟨env, c⟩) :
    ∃ Inv : Nat → List PyData → Cs → Prop, Inv 0 [] c ∧
      (∀ (i : Nat) d acc c', ds[i]? = some d → Inv i acc c' → g d ⟨wipeD env vs, c'⟩ fun s2 => (fun s (Q : Bool → Dt → Prop) => Q true s) s2 fun b s3 => s3.env = s2.env ∧ if b = true then te s3 fun y s4 => s4.env = s2.env ∧ acc.length < 100000 ∧ Inv (i + 1) (acc ++ [y]) s4.c else Inv (i + 1) acc s3.c) ∧
      ∀ acc c', Inv ds.length acc c' → Q acc ⟨env, c'⟩ := by
  refine ⟨fun i acc c' => c' = c ∧ acc = (ds.take i).map f, ⟨rfl, rfl⟩, fun i d acc c' hd inv => ?_, fun acc c' inv => ?_⟩
  · obtain ⟨rfl, rfl⟩ := inv
    have e : ds.take (i + 1) = ds.take i ++ [d] := by rw [List.take_add_one, hd]; rfl
    have := h d (List.mem_of_getElem? hd) ((ds.take i).map f) (fun acc c2 => c2 = c' ∧ acc = (ds.take (i + 1)).map f) (by rw [List.length_map, List.length_take]; omega) ⟨rfl, by rw [e, List.map_append]; rfl⟩
    simp only [if_true, true_and]
    exact this
  · obtain ⟨rfl, rfl⟩ := inv
    rw [List.take_length]
    exact q
end Dw
namespace Dw
open PySem PySem.Spec PyProof.Rows L2 OgR Evl
/-- data whose text is short -/
structure Shw (k m : Nat) (d : PyData) : Prop where
  sh : d.showable = true
  nd : d.hasDict = false
  dp : d.depth ≤ k
  ln : d.shown.length ≤ m
theorem Shw.up {k m k' m' : Nat} {d : PyData} (h : Shw k m d) (hk : k ≤ k') (hm : m ≤ m') : Shw k' m' d := ⟨h.sh, h.nd, Nat.le_trans h.dp hk, Nat.le_trans h.ln hm⟩
theorem shw_int {i : Int} (h : i.natAbs ≤ 10 ^ 30 + 1000) : Shw 0 400 (.int i) := by
  have h1 : i.natAbs < 10 ^ 31 := Nat.lt_of_le_of_lt h (by decide)
  have h2 := int_text_length_le10 (k := 31) (by decide) h1
  refine ⟨?_, rfl, Nat.le_refl _, ?_⟩
  · simp only [PyData.showable, decide_eq_true_eq]
    by_cases hz : i.natAbs = 0
    · rw [hz]
      decide
    · exact (Nat.log2_lt hz).mpr (Nat.lt_of_lt_of_le h1 (Nat.le_trans (show 10 ^ 31 ≤ 2 ^ 128 by decide) (Nat.pow_le_pow_right (by decide) (by decide))))
  · simp only [PyData.shown]
    rw [PySem.ofString_length]
    omega
theorem shw_none : Shw 0 400 .none := ⟨rfl, rfl, Nat.le_refl _, by decide⟩
theorem shw_bool (b : Bool) : Shw 0 400 (.bool b) := by cases b <;> exact ⟨rfl, rfl, Nat.le_refl _, by decide⟩
theorem shw_str {x : Str} (h : (reprText x).length ≤ 400) : Shw 0 400 (.str x) := ⟨rfl, rfl, Nat.le_refl _, h⟩
theorem sok (s : String) : PyData.strOk (Str.ofString s) = true := by
  unfold PyData.strOk
  rw [Array.all_eq_true_iff_forall_mem]
  intro c hc
  have : c ∈ s.toList.map Char.toNat := by
    rw [Str.ofString_eq_toList] at hc
    simpa using hc
  obtain ⟨ch, _, rfl⟩ := List.mem_map.mp this
  have h := ch.valid
  refine decide_eq_true ?_
  have : ch.val.toNat < 1114112 := by
    rcases h with h | h
    · exact Nat.lt_trans h (by decide)
    · exact h.2
  exact this
theorem eqv_str (x y : Str) : PyData.eqv (.str x) (.str y) = decide (x = y) := by
  simp only [PyData.eqv]
  by_cases h : x = y
  · subst h
    simp
  · rw [decide_eq_false h]
    exact beq_eq_false_iff_ne.mpr h
theorem eqv_int (x y : Int) : PyData.eqv (.int x) (.int y) = decide (x = y) := by
  simp only [PyData.eqv]
  by_cases h : x = y
  · subst h
    simp
  · rw [decide_eq_false h]
    exact beq_eq_false_iff_ne.mpr h
theorem eqv_bool (x y : Bool) : PyData.eqv (.bool x) (.bool y) = decide (x = y) := by
  cases x <;> cases y <;> rfl
def FlB : PyData → Prop
  | .none => True
  | .bool _ => True
  | .int i => i.natAbs ≤ 10 ^ 30 + 1000
  | .str z => PyData.strOk z = true ∧ (reprText z).length ≤ 400
  | _ => False
def Bd (w : Nat) : Nat → PyData → Prop
  | 0, d => FlB d
  | k + 1, d => FlB d ∨ ∃ ds, (d = .list ds ∨ d = .tuple ds) ∧ ds.length ≤ w ∧ ∀ x ∈ ds, Bd w k x
theorem Bd.flat {w k : Nat} {d : PyData} (h : FlB d) : Bd w k d := by
  cases k with
  | zero => exact h
  | succ k => exact .inl h
theorem Bd.up {w w' : Nat} (hw : w ≤ w') : ∀ {k k' : Nat} {d : PyData}, k ≤ k' → Bd w k d → Bd w' k' d
  | 0, _, _, _, h => .flat h
  | k + 1, 0, _, hk, _ => absurd hk (by omega)
  | k + 1, k' + 1, d, hk, h => by
    rcases h with h | ⟨ds, e, hl, hd⟩
    · exact .inl h
    · exact .inr ⟨ds, e, Nat.le_trans hl hw, fun x hx => Bd.up hw (by omega) (hd x hx)⟩
theorem bd_tup {w k : Nat} {ds : List PyData} (hl : ds.length ≤ w) (h : ∀ x ∈ ds, Bd w k x) : Bd w (k + 1) (.tuple ds) := .inr ⟨ds, .inr rfl, hl, h⟩
theorem bd_lst {w k : Nat} {ds : List PyData} (hl : ds.length ≤ w) (h : ∀ x ∈ ds, Bd w k x) : Bd w (k + 1) (.list ds) := .inr ⟨ds, .inl rfl, hl, h⟩
theorem canAll : ∀ {ds : List PyData}, (∀ d ∈ ds, PyData.canLay0 d = true) → PyData.canLayAll0 ds = true
  | [], _ => by simp only [PyData.canLayAll0]
  | d :: ds, h => by simp only [PyData.canLayAll0, h d List.mem_cons_self, canAll fun x hx => h x (List.mem_cons_of_mem _ hx), Bool.and_self]
theorem depAll {n : Nat} : ∀ {ds : List PyData}, (∀ d ∈ ds, PyData.depth d ≤ n) → PyData.depthAll ds ≤ n
  | [], _ => by simp only [PyData.depthAll]; omega
  | d :: ds, h => by
    simp only [PyData.depthAll]
    exact Nat.max_le.mpr ⟨h d List.mem_cons_self, depAll fun x hx => h x (List.mem_cons_of_mem _ hx)⟩
theorem FlB.can {d : PyData} (h : FlB d) : PyData.canLay0 d = true ∧ PyData.depth d = 0 := by
  cases d with
  | none => exact ⟨by simp only [PyData.canLay0], by simp only [PyData.depth]⟩
  | bool _ => exact ⟨by simp only [PyData.canLay0], by simp only [PyData.depth]⟩
  | int _ => exact ⟨by simp only [PyData.canLay0], by simp only [PyData.depth]⟩
  | str z => exact ⟨by simp only [PyData.canLay0]; exact h.1, by simp only [PyData.depth]⟩
  | list _ => exact h.elim
  | tuple _ => exact h.elim
  | dict _ => exact h.elim
theorem Bd.can {w : Nat} : ∀ {k : Nat} {d : PyData}, Bd w k d → PyData.canLay0 d = true ∧ PyData.depth d ≤ k
  | 0, d, h => ⟨(FlB.can h).1, by rw [(FlB.can h).2]; exact Nat.le_refl _⟩
  | k + 1, d, h => by
    rcases h with h | ⟨ds, rfl | rfl, hl, hd⟩
    · exact ⟨h.can.1, by rw [h.can.2]; omega⟩
    · refine ⟨by simp only [PyData.canLay0]; exact canAll fun x hx => (Bd.can (hd x hx)).1, ?_⟩
      simp only [PyData.depth]
      exact Nat.succ_le_succ (depAll fun x hx => (Bd.can (hd x hx)).2)
    · refine ⟨by simp only [PyData.canLay0]; exact canAll fun x hx => (Bd.can (hd x hx)).1, ?_⟩
      simp only [PyData.depth]
      exact Nat.succ_le_succ (depAll fun x hx => (Bd.can (hd x hx)).2)
theorem Bd.shp {w k : Nat} {d : PyData} (h : Bd w k d) (hk : k ≤ 64) : Shp d := by
  obtain ⟨h1, h2⟩ := h.can
  exact Bool.and_eq_true_iff.mpr ⟨h1, decide_eq_true (Nat.le_trans h2 hk)⟩
theorem shp_z {z : Str} (h : PyData.strOk z = true) : Shp (.str z) := by
  show SeqAt.shaped (.str z) = true
  simp [SeqAt.shaped, PyData.canLay0, PyData.depth, h]
theorem shp_str (s : String) : Shp (.str (Str.ofString s)) := shp_z (sok s)
theorem FlB.shw {d : PyData} (h : FlB d) : Shw 0 400 d := by
  cases d with
  | none => exact shw_none
  | bool _ => exact shw_bool _
  | int _ => exact shw_int h
  | str z => exact shw_str h.2
  | list _ => exact h.elim
  | tuple _ => exact h.elim
  | dict _ => exact h.elim
end Dw
namespace Dw
open PySem PySem.Spec PyProof.Rows L2 OgR Evl
def Lf (b : Nat) : PyData → Prop
  | .none => True
  | .bool _ => True
  | .int i => i.natAbs ≤ 10 ^ 30 + b
  | .str z => PyData.strOk z = true ∧ (reprText z).length ≤ 400
  | _ => False
theorem Lf.fl {b : Nat} (hb : b ≤ 1000) {d : PyData} (h : Lf b d) : FlB d := by
  cases d with
  | int i => exact Nat.le_trans (h : i.natAbs ≤ 10 ^ 30 + b) (by omega)
  | _ => exact h
theorem Lf.up {b b' : Nat} (hb : b ≤ b') {d : PyData} (h : Lf b d) : Lf b' d := by
  cases d with
  | int i => exact Nat.le_trans (h : i.natAbs ≤ 10 ^ 30 + b) (by omega)
  | _ => exact h
def Lv (b w : Nat) : Nat → PyData → Prop
  | 0, d => Lf b d
  | k + 1, d => Lf b d ∨ ∃ ds, (d = .list ds ∨ d = .tuple ds) ∧ ds.length ≤ w ∧ ∀ x ∈ ds, Lv b w k x
theorem Lv.flat {b w k : Nat} {d : PyData} (h : Lf b d) : Lv b w k d := by
  cases k with
  | zero => exact h
  | succ k => exact .inl h
theorem Lv.up {b b' w w' : Nat} (hb : b ≤ b') (hw : w ≤ w') : ∀ {k k' : Nat} {d : PyData}, k ≤ k' → Lv b w k d → Lv b' w' k' d
  | 0, _, _, _, h => .flat (Lf.up hb h)
  | k + 1, 0, _, hk, _ => absurd hk (by omega)
  | k + 1, k' + 1, d, hk, h => by
    rcases h with h | ⟨ds, e, hl, hd⟩
    · exact .inl (h.up hb)
    · exact .inr ⟨ds, e, Nat.le_trans hl hw, fun x hx => Lv.up hb hw (by omega) (hd x hx)⟩
theorem Lv.bd {b w : Nat} (hb : b ≤ 1000) : ∀ {k : Nat} {d : PyData}, Lv b w k d → Bd w k d
  | 0, _, h => Lf.fl hb h
  | k + 1, d, h => by
    rcases h with h | ⟨ds, e, hl, hd⟩
    · exact .inl (h.fl hb)
    · exact .inr ⟨ds, e, hl, fun x hx => Lv.bd hb (hd x hx)⟩
mutual
def Tw : PyData → Nat
  | .list ds => TwA ds + 4
  | .tuple ds => TwA ds + 4
  | _ => 400
def TwA : List PyData → Nat
  | [] => 0
  | d :: ds => Tw d + 2 + TwA ds
end
theorem tf_le2 : ∀ (ts : List Str) (k : Nat) (acc : Str), (textFrom k acc ts).length ≤ acc.length + piled ts
  | [], k, acc => by rw [piled_nil]; exact Nat.le_refl _
  | t :: ts, k, acc => by
    have ih := tf_le2 ts (k + 1) (acc ++ (if k > 0 then ", " else "" : String) ++ t)
    rw [strLen_append, strLen_append] at ih
    have e3 : (Str.ofString (if k > 0 then ", " else "")).length ≤ 2 := by
      split <;> decide
    show (textFrom (k + 1) (acc ++ (if k > 0 then ", " else "" : String) ++ t) ts).length ≤ _
    rw [piled_cons]
    omega
theorem lt_le2 (ts : List Str) : (listText ts).length ≤ piled ts + 4 := by
  have h1 := tf_le2 ts 0 "["
  show (textFrom 0 "[" ts ++ "]").length ≤ _
  rw [strLen_append]
  have e1 : (Str.ofString "[").length = 1 := by decide
  have e2 : (Str.ofString "]").length = 1 := by decide
  omega
theorem tt_le2 (ts : List Str) : (tupleText ts).length ≤ piled ts + 4 := by
  unfold tupleText
  rw [strLen_append, strLen_append]
  have e1 : (Str.ofString "(").length = 1 := by decide
  have e2 : (Str.ofString (if ts.length == 1 then ",)" else ")")).length ≤ 2 := by
    split <;> decide
  by_cases hn : ts = []
  · subst hn
    have e3 : ((Str.ofString ", ").join []).length = 0 := by decide
    rw [e3]
    omega
  · have h2 := join_length_add ts hn
    omega
theorem piled_tw : ∀ {ds : List PyData}, (∀ d ∈ ds, d.shown.length ≤ Tw d) → piled (PyData.shownAll ds) ≤ TwA ds
  | [], _ => by simp only [PyData.shownAll, TwA, piled_nil]; exact Nat.le_refl _
  | d :: ds, h => by
    have h1 := h d List.mem_cons_self
    have h2 := piled_tw fun x hx => h x (List.mem_cons_of_mem _ hx)
    simp only [PyData.shownAll, TwA, piled_cons]
    omega
theorem FlB.tw {d : PyData} (h : FlB d) : Tw d = 400 := by
  cases d with
  | list _ => exact h.elim
  | tuple _ => exact h.elim
  | dict _ => exact h.elim
  | _ => simp only [Tw]
theorem Bd.tw {w : Nat} : ∀ {k : Nat} {d : PyData}, Bd w k d → d.shown.length ≤ Tw d
  | 0, d, h => by rw [FlB.tw h]; exact (FlB.shw h).ln
  | k + 1, d, h => by
    rcases h with h | ⟨ds, rfl | rfl, hl, hd⟩
    · rw [FlB.tw h]
      exact (FlB.shw h).ln
    · have := piled_tw fun x hx => Bd.tw (hd x hx)
      have h2 := lt_le2 (PyData.shownAll ds)
      simp only [PyData.shown, Tw]
      omega
    · have := piled_tw fun x hx => Bd.tw (hd x hx)
      have h2 := tt_le2 (PyData.shownAll ds)
      simp only [PyData.shown, Tw]
      omega
structure Sm (b w k L : Nat) (d : PyData) : Prop where
  lv : Lv b w k d
  tw : Tw d ≤ L
theorem Sm.up {b w k L b' w' k' L' : Nat} {d : PyData} (h : Sm b w k L d) (hb : b ≤ b') (hw : w ≤ w') (hk : k ≤ k') (hL : L ≤ L') : Sm b' w' k' L' d := ⟨h.lv.up hb hw hk, Nat.le_trans h.tw hL⟩
theorem Sm.bd {b w k L : Nat} {d : PyData} (h : Sm b w k L d) (hb : b ≤ 1000) : Bd w k d := h.lv.bd hb
theorem Lf.tw {b : Nat} {d : PyData} (h : Lf b d) : Tw d = 400 := by
  cases d with
  | list _ => exact h.elim
  | tuple _ => exact h.elim
  | dict _ => exact h.elim
  | _ => simp only [Tw]
theorem Sm.tup {b w k L : Nat} {ds : List PyData} (h : ∀ x ∈ ds, Lv b w k x) (hw : ds.length ≤ w) (hL : TwA ds + 4 ≤ L) : Sm b w (k + 1) L (.tuple ds) := ⟨.inr ⟨ds, .inr rfl, hw, h⟩, by simp only [Tw]; exact hL⟩
theorem Sm.lst {b w k L : Nat} {ds : List PyData} (h : ∀ x ∈ ds, Lv b w k x) (hw : ds.length ≤ w) (hL : TwA ds + 4 ≤ L) : Sm b w (k + 1) L (.list ds) := ⟨.inr ⟨ds, .inl rfl, hw, h⟩, by simp only [Tw]; exact hL⟩
end Dw
namespace Dw
open PySem PySem.Spec PyProof.Rows L2 OgR Evl
section
variable {X : Cx} {C : Ct}
/-- != of texts -/
def gNeS : G2 := fun d e s Q => ∃ x y, d = .str x ∧ e = .str y ∧ Q (.bool (!decide (x = y))) s
def repD (k : Int) (ds : List PyData) : List PyData := (List.replicate k.toNat ds).flatten
def gRepN : G2 := fun d e s Q => ∃ (ds : List PyData) (k : Int), d = .tuple ds ∧ e = .int k ∧ ds ≠ [] ∧ -1000 ≤ k ∧ k ≤ 1000 ∧ ds.length ≤ 1000 ∧ Q (.tuple (repD k ds)) s
end
end Dw
namespace Dw
open PySem PySem.Spec PyProof.Rows L2 OgR Evl
def ExB (l : Addr) (H H' : Hp) : Prop := ∀ a o, a ≠ l → H a = some o → H' a = some o
theorem ExB.of {l : Addr} {H H' : Hp} (e : Ex H H') : ExB l H H' := fun a o _ h => e a o h
theorem ExB.trans {l : Addr} {H H1 H2 : Hp} (a : ExB l H H1) (b : ExB l H1 H2) : ExB l H H2 := fun x o n h => b x o n (a x o n h)
theorem ExB.mut {l p : Addr} {H H' : Hp} {o : HO} (e : ExB l H H') (h : H p = none) : ExB l H (upd H' p o) := fun x u n hx => by
  rw [upd_ne (fun z => by rw [z, h] at hx; cases hx)]
  exact e x u n hx
theorem BoxAt.ex {H H' : Hp} {l : Addr} {c : Int} (h : BoxAt H l c) (e : Ex H H') : BoxAt H' l c := h.keep fun o q => e l o q
theorem BoxAt.upd {H : Hp} {l p : Addr} {c : Int} {o : HO} (h : BoxAt H l c) (n : l ≠ p) : BoxAt (upd H p o) l c := h.keep fun u q => by
  rw [upd_ne n]
  exact q
theorem repT_snoc (n : Nat) : List.replicate (n + 1) true = List.replicate n true ++ [true] := by
  rw [List.replicate_succ']
theorem repT_all (n : Nat) : (List.replicate n true).all id = true := by
  rw [List.all_eq_true]
  intro x hx
  rw [(List.mem_replicate.mp hx).2]
  rfl
theorem box01 (b : Bool) : -(2 ^ 64) < (if b = true then (1 : Int) else 0) ∧ (if b = true then (1 : Int) else 0) < 2 ^ 64 := by
  cases b <;> decide
/-- promises of _law_cell_at, _law_box, _law_right, law -/
def spCel (K : PySem.W.Frag) : Sp := fun vs H Q _ => ∃ (a : Addr) (ns : List Int) (k : Nat), vs = [.ref a, .int k] ∧ SqL K H a (ns.map V.int) ∧ Q (.int (ns.getD k 0)) H
def spBox (K : PySem.W.Frag) : Sp := fun vs H Q _ => ∃ (a : Addr) (ns : List Int) (k : Nat), vs = [.ref a, .int k] ∧ SqL K H a (ns.map V.int) ∧ k ≤ 1000 ∧
  ∀ l x y, H l = none → 0 ≤ x → 0 ≤ y → y < 2 ^ 62 → Q (.ref l) (upd H l (.lst [.int x, .int y, .int 0]))
def spRight : Sp := fun vs H Q _ => ∃ (l : Addr) (c : Int), vs = [.ref l] ∧ BoxAt H l c ∧ c ≤ 800000 ∧ ∀ H' c', ExB l H H' → BoxAt H' l c' → c' ≤ c + 1000 → Q (.bl true) H'
def spLaw (K : PySem.W.Frag) : Sp := fun vs H Q _ => ∃ (s : Addr) (ns : List Int), vs = [.ref s] ∧ SqL K H s (ns.map V.int) ∧ ns.length ≤ 63 ∧ ∀ H', Q (.bl true) H'
/-- what a law's _law_right promises -/
def fRight : FB := fun ds c R => ds = [] ∧ c ≤ 800000 ∧ ∀ c', c' ≤ c + 1000 → R (.bool true) c'
theorem right_of {P : Program} {wd : World} {K : PySem.W.Frag} {mg : Str → Option Value} {base : Heap} {k : Nat} {x : Str} {st : Stmt} {ps : List Str} (D : Def P wd K mg base k x st ps (spB K fRight)) : Def P wd K mg base k x st ps spRight :=
  D.imp fun vs H Q E h => by
    obtain ⟨l, c, rfl, hB, hc, q⟩ := h
    refine ⟨l, [], fun _ => none, [], c, fun d c' => d = .bool true ∧ c' ≤ c + 1000, rfl, hB, rfl, (fun b o h => by cases h), .nil, ⟨rfl, hc, fun c' h => ⟨rfl, h⟩⟩, fun v d c' G' H' hR eg eh hB' gh nw pd => ?_⟩
    obtain ⟨rfl, h2⟩ := hR
    rw [dp_bl pd]
    exact q H' c' (fun a o n h => eh a o n h) hB' h2
end Dw
namespace Dw
open PySem PySem.Spec PyProof.Rows L2 OgR Evl
section
variable {κ : Type} [DecidableEq κ]
def lookG (tbl : List (κ × PyData)) (k : κ) : Option PyData := (tbl.find? fun kd => decide (kd.1 = k)).map (·.2)
def putG (tbl : List (κ × PyData)) (k : κ) (d : PyData) : List (κ × PyData) :=
  if (tbl.any fun kd => decide (kd.1 = k)) = true then tbl.map (fun kd => if kd.1 = k then (kd.1, d) else kd) else tbl ++ [(k, d)]
abbrev PK2 (K : PySem.W.Frag) (G : Hp) (ks : List (κ × V)) (kvs : List (κ × PyData)) : Prop := Paired (fun a b => a.1 = b.1 ∧ Dp K G a.2 b.2) ks kvs
theorem look_pair {K : PySem.W.Frag} {G : Hp} (k : κ) {ks : List (κ × V)} {kvs : List (κ × PyData)} (h : PK2 K G ks kvs) :
    (valV ks k = none ∧ lookG kvs k = none) ∨ ∃ v d, valV ks k = some v ∧ lookG kvs k = some d ∧ Dp K G v d := by
  unfold valV lookG
  induction h with
  | nil => exact .inl ⟨rfl, rfl⟩
  | @cons a b l1 l2 h t ih =>
    by_cases e : a.1 = k
    · refine .inr ⟨a.2, b.2, ?_, ?_, h.2⟩
      · rw [List.find?_cons_of_pos (by simpa using e)]
        rfl
      · rw [List.find?_cons_of_pos (by rw [← h.1]; simpa using e)]
        rfl
    · rw [List.find?_cons_of_neg (by simpa using e), List.find?_cons_of_neg (by rw [← h.1]; simpa using e)]
      exact ih
theorem any_pair {K : PySem.W.Frag} {G : Hp} (k : κ) {ks : List (κ × V)} {kvs : List (κ × PyData)} (h : PK2 K G ks kvs) : (ks.any fun kd => decide (kd.1 = k)) = (kvs.any fun kd => decide (kd.1 = k)) := by
  induction h with
  | nil => rfl
  | cons h t ih => rw [List.any_cons, List.any_cons, ih, h.1]
theorem map_pair {K : PySem.W.Frag} {G : Hp} (k : κ) {v : V} {d : PyData} (hv : Dp K G v d) {ks : List (κ × V)} {kvs : List (κ × PyData)} (h : PK2 K G ks kvs) : PK2 K G (ks.map fun kv => if kv.1 = k then (kv.1, v) else kv) (kvs.map fun kv => if kv.1 = k then (kv.1, d) else kv) := by
  induction h with
  | nil => exact .nil
  | @cons a b l1 l2 h t ih =>
    refine .cons ?_ ih
    show (if a.1 = k then (a.1, v) else a).1 = (if b.1 = k then (b.1, d) else b).1 ∧ Dp K G (if a.1 = k then (a.1, v) else a).2 (if b.1 = k then (b.1, d) else b).2
    rw [← h.1]
    by_cases e : a.1 = k
    · rw [if_pos e, if_pos e]
      exact ⟨rfl, hv⟩
    · rw [if_neg e, if_neg e]
      exact h
theorem snoc_pair {K : PySem.W.Frag} {G : Hp} (k : κ) {v : V} {d : PyData} (hv : Dp K G v d) {ks : List (κ × V)} {kvs : List (κ × PyData)} (h : PK2 K G ks kvs) : PK2 K G (ks ++ [(k, v)]) (kvs ++ [(k, d)]) := by
  induction h with
  | nil => exact .cons ⟨rfl, hv⟩ .nil
  | cons h t ih => exact .cons h ih
theorem put_pair {K : PySem.W.Frag} {G : Hp} (k : κ) {v : V} {d : PyData} (hv : Dp K G v d) {ks : List (κ × V)} {kvs : List (κ × PyData)} (h : PK2 K G ks kvs) : PK2 K G (putK ks k v) (putG kvs k d) := by
  unfold putK putG
  rw [any_pair k h]
  split
  · exact map_pair k hv h
  · exact snoc_pair k hv h
theorem len_pair {K : PySem.W.Frag} {G : Hp} {ks : List (κ × V)} {kvs : List (κ × PyData)} (h : PK2 K G ks kvs) : ks.length = kvs.length := by
  induction h with
  | nil => rfl
  | cons h t ih => rw [List.length_cons, List.length_cons, ih]
end
section
variable {X : Cx} {C : Ct} {a b e f tg : Expr} {es : List Expr} {pos p : Pos} {t ta tb tc te ty tx : TE} {w wa wb wc we wy wx : WE} {tA : TA} {wA : WA} {x : Str} {st : Stmt} {sts : List Stmt} {ps : List Str} {k : Nat}
/-- d.get(e, f), int and text keys -/
def wDGet2 (i : Nat) (we wf : WE) : WE := fun s Q => (∃ kvs0, s.env[i]? = some (some (.dic kvs0))) ∧ we s fun kd s1 => wf s1 fun fd s2 => ∃ kvs k, s2.env[i]? = some (some (.dic kvs)) ∧ keyD kd = some k ∧ Q ((lookG kvs k).getD fd) s2
/-- d[k] = e, int and text keys -/
def wDPut (i : Nat) (we wy : WE) : WS := fun DD s => we s fun d s1 => (∃ kvs0, s1.env[i]? = some (some (.dic kvs0))) ∧ wy s1 fun kd s2 => ∃ kvs k, s2.env[i]? = some (some (.dic kvs)) ∧ keyD kd = some k ∧ kvs.length < 100000 ∧ DD.nx (s2.set i (.dic (putG kvs k d)))
def keysD : List PyData → Option (List Key)
  | [] => some []
  | d :: ds => match keyD d, keysD ds with
    | some k, some ks => some (k :: ks)
    | _, _ => none
theorem keys_v {K : PySem.W.Frag} {G : Hp} : ∀ {ds : List PyData} {vs : List V} {ks : List Key}, DpAll K G vs ds → keysD ds = some ks → vs = ks.map kV
  | _, _, _, .nil, e => by cases e; rfl
  | d :: ds, _, _, .cons h t, e => by
    unfold keysD at e
    split at e
    · rename_i k ks h1 h2
      cases e
      rw [key_v h h1, keys_v t h2]
      rfl
    · cases e
/-- d[(a, b)] = e -/
def wTPut (i : Nat) (we : WE) (wA : WA) : WS := fun DD s => we s fun d s1 => (∃ kvs0, s1.env[i]? = some (some (.dit kvs0))) ∧ wA s1 fun kd s2 => ∃ kvs k, s2.env[i]? = some (some (.dit kvs)) ∧ keysD kd = some k ∧ kd.length ≤ 100000 ∧ kvs.length < 100000 ∧ DD.nx (s2.set i (.dit (putG kvs k d)))
/-- d[(a, b)], the dict only read -/
def wTGet (i : Nat) (wA : WA) : WE := fun s Q => (∃ kvs0, s.env[i]? = some (some (.dd kvs0))) ∧ wA s fun kd s1 => ∃ kvs k d, s1.env[i]? = some (some (.dd kvs)) ∧ keysD kd = some k ∧ kd.length ≤ 100000 ∧ lookG kvs k = some d ∧ Q d s1
theorem RdD.rd {H : Hp} {p : Addr} {ks : List (List Key × V)} (h : RdD C H p ks) : Rd H p (.dT ks) := by
  obtain ⟨(⟨od, h⟩ | ⟨h, h0⟩), n⟩ := h
  · exact .inr ⟨od, h⟩
  · exact .inl h
end
end Dw
namespace Dw
open PySem PySem.Spec PyProof.Rows L2 OgR Evl
end Dw
namespace Dw
open PySem PySem.Spec PyProof.Rows L2 OgR Evl
def hdD : PyData → PyData
  | .tuple (a :: b :: _) => .tuple [a, b]
  | d => d
/-- (int, text) or (int, text, something flat) -/
def RowD (d : PyData) : Prop := ∃ i z r, d = .tuple (.int i :: .str z :: r) ∧ PySem.W.alikeAll r r = true ∧ PyData.depthAll r = 0
structure RowsOk (ds : List PyData) : Prop where
  row : ∀ d ∈ ds, RowD d
  uni : ∀ d ∈ ds, ∀ e ∈ ds, hdD d = hdD e → d = e
def hdLe (a b : PyData) : Bool := !PySem.W.dataLt (hdD b) (hdD a)
theorem row_uni {h : Heap} {v : Value} {d e : PyData} {as bs : List Addr} (hd : RowD d) (he : RowD e) (ra : Reads h v d as) (rb : Reads h v e bs) : hdD d = hdD e := by
  obtain ⟨i, z, r, rfl, _⟩ := hd
  obtain ⟨j, y, q, rfl, _⟩ := he
  cases ra with
  | @tuple a o vs n _ _ h1 h2 h3 h4 =>
    cases rb with
    | @tuple a' o' vs' n' _ _ k1 k2 k3 k4 =>
      rw [h1] at k1
      cases k1
      rw [h3] at k3
      injection k3 with e1 e2
      subst e1
      generalize vs.toList = l at h4 k4
      cases h4 with
      | cons r1 h4 =>
        cases k4 with
        | cons r1' k4 =>
          cases h4 with
          | cons r2 h4 =>
            cases k4 with
            | cons r2' k4 =>
              cases r1
              cases r1'
              cases r2
              cases r2'
              rfl
def RdIn (h : Heap) (ds : List PyData) (v : Value) (d : PyData) : Prop := d ∈ ds ∧ ∃ as, Reads h v d as
noncomputable def rowKind (h : Heap) (ds : List PyData) : PyProof.Rows.KeyKind where
  toKeyOrd := listOrd itemOrd
  keyOf v := open Classical in if w : ∃ d, RdIn h ds v d then some (PySem.W.keyToks (hdD w.choose)) else none
  dflt := List.nil
theorem row_key {h : Heap} {ds : List PyData} {v : Value} (w : ∃ d, RdIn h ds v d) : (rowKind h ds).keyOf v = some (PySem.W.keyToks (hdD w.choose)) := dif_pos w
theorem row_nokey {h : Heap} {ds : List PyData} {v : Value} (w : ¬ ∃ d, RdIn h ds v d) : (rowKind h ds).keyOf v = none := dif_neg w
theorem rowKind_some {h : Heap} {ds : List PyData} (ok : RowsOk ds) {v : Value} {d : PyData} {as : List Addr} (hd : d ∈ ds) (r : Reads h v d as) : (rowKind h ds).keyOf v = some (PySem.W.keyToks (hdD d)) := by
  have w : ∃ d, RdIn h ds v d := ⟨d, hd, as, r⟩
  obtain ⟨c1, c2, c3⟩ := w.choose_spec
  rw [row_key w, row_uni (ok.row _ c1) (ok.row _ hd) c3 r]
theorem rowKind_inv {h : Heap} {ds : List PyData} {v : Value} {k : List (Int ⊕ List Nat)} (e : (rowKind h ds).keyOf v = some k) : ∃ d as, d ∈ ds ∧ Reads h v d as ∧ k = PySem.W.keyToks (hdD d) := by
  by_cases w : ∃ d, RdIn h ds v d
  · rw [row_key w] at e
    obtain ⟨c1, c2, c3⟩ := w.choose_spec
    exact ⟨_, c2, c1, c3, (Option.some.inj e).symm⟩
  · rw [row_nokey w] at e
    cases e
section
variable {prog : Program} {w : World} {A : Around} {s : Shared}
/-- two such tuples compared as sorting does -/
theorem row_lex {fin : Bool} {Q : Bool → Shared → Prop} {i j : Int} {z y : Str} {r q : List PyData} {vs ws : List Value} {as bs : List Addr} (ra : ReadsAll s.heap vs (.int i :: .str z :: r) as) (rb : ReadsAll s.heap ws (.int j :: .str y :: q) bs)
    (same : i = j → z = y → r = q) (hr : PySem.W.alikeAll r r = true) (hdp : PyData.depthAll r = 0) (hu : A.units < cLine) (hf : fin = decide ((PyData.int i :: .str z :: r).length < (PyData.int j :: .str y :: q).length))
    (hq : Q (PySem.W.dataLt (.tuple [.int i, .str z]) (.tuple [.int j, .str y])) s) : PySem.W.KatLex prog w A true fin Q (vs.zip ws) 0 s := by
  have al1 : PySem.W.alike (.int i) (.int j) = true := rfl
  have al2 : PySem.W.alike (.str z) (.str y) = true := rfl
  have u0 : ∀ x : PyData, x.depth = 0 → ∀ x' : PyData, A.units + min x.depth x'.depth < cLine := fun x h x' => by
    rw [h, Nat.zero_min]
    exact hu
  rw [PySem.W.dataLt_tuple] at hq
  cases ra with
  | cons r1 ra =>
    cases rb with
    | cons r1' rb =>
      cases ra with
      | cons r2 ra =>
        cases rb with
        | cons r2' rb =>
          rw [List.zip_cons_cons, List.zip_cons_cons]
          refine PySem.W.kat_cons (PySem.W.eqAt_alike _ _ A s _ _ _ _ r1 r1' al1 (u0 _ rfl _) prog w _ _ ?_)
          cases e1 : PyData.eqv (.int i) (.int j) with
          | false =>
            rw [PySem.W.dataLt_all_no al1 e1] at hq
            exact PySem.W.kat_no (PySem.W.oneLt_alike (by intro _ t e; cases e) r1 r1' al1 (by intro e; cases e) (u0 _ rfl _) hq)
          | true =>
            rw [PySem.W.dataLt_all_yes al1 e1] at hq
            refine PySem.W.kat_yes (PySem.W.kat_cons (PySem.W.eqAt_alike _ _ A s _ _ _ _ r2 r2' al2 (u0 _ rfl _) prog w _ _ ?_))
            cases e2 : PyData.eqv (.str z) (.str y) with
            | false =>
              rw [PySem.W.dataLt_all_no al2 e2] at hq
              exact PySem.W.kat_no (PySem.W.oneLt_alike (by intro _ t e; cases e) r2 r2' al2 (by intro e; cases e) (u0 _ rfl _) hq)
            | true =>
              rw [PySem.W.dataLt_all_yes al2 e2] at hq
              have ei : i = j := by simpa [PyData.eqv] using e1
              have ez : z = y := by simpa [PyData.eqv] using e2
              have er := same ei ez
              subst er
              refine PySem.W.kat_yes (PySem.W.katLex_alike r r 2 _ _ _ _ ra rb hr (by rw [hdp, Nat.zero_min]; exact hu) (fun _ h => absurd h (by decide)) ?_ ?_)
              · rw [hf]
                simp
              · have e3 : PyProof.Rows.lexLt itemOrd (PySem.W.keyToksAll r) (PySem.W.keyToksAll r) = PyProof.Rows.lexLt itemOrd (PySem.W.keyToksAll []) (PySem.W.keyToksAll []) := by rw [lex_irrefl, lex_irrefl]
                rw [e3]
                exact hq
theorem row_dt {d : PyData} (h : RowD d) : ∃ x r, d = .tuple (x :: r) ∧ PySem.W.dataType x = .type "int" := by
  obtain ⟨i, z, r, rfl, _⟩ := h
  exact ⟨_, _, rfl, rfl⟩
theorem row_sorts {vs : List Value} {ds : List PyData} (e : PySem.W.EachIs (fun v d => ∃ as, Reads s.heap v d as) vs ds) (ok : RowsOk ds) (hu : A.units < cLine) : PySem.W.SortsAt prog w A s (rowKind s.heap ds) vs := by
  refine ⟨fun v hv => ?_, tuples' true, ?_, fun h2 E Q hq => ?_⟩
  · obtain ⟨d, hd, as, r⟩ := e.left v hv
    exact ⟨_, rowKind_some ok hd r⟩
  · intro E x y a b Q ha hb hq
    obtain ⟨d, as, hd, ra, rfl⟩ := rowKind_inv ha
    obtain ⟨d', as', hd', rb, rfl⟩ := rowKind_inv hb
    obtain ⟨i, z, r, e1, al, dp⟩ := ok.row d hd
    obtain ⟨j, y, q, e2, _, _⟩ := ok.row d' hd'
    have un : i = j → z = y → r = q := fun h1 h2 => by
      have := ok.uni d hd d' hd' (by rw [e1, e2, h1, h2]; rfl)
      rw [e1, e2] at this
      injection this with this
      simp only [List.cons.injEq] at this
      exact this.2.2
    subst e1 e2
    cases ra with
    | @tuple l o xs n _ _ h1 h2 h3 h4 =>
      cases rb with
      | @tuple l' o' xs' n' _ _ k1 k2 k3 k4 =>
        have n1 : xs.size = (PyData.int i :: .str z :: r).length := by simpa using SeqAt.ReadsAll.length _ _ _ h4
        have n2 : xs'.size = (PyData.int j :: .str y :: q).length := by simpa using SeqAt.ReadsAll.length _ _ _ k4
        exact PySem.W.kat_lt h1 h3 k1 k3 (row_lex h4 k4 un al dp hu (by rw [n1, n2]) hq)
  · have ht : ∀ d, d ∈ ds → ∃ x r, d = PyData.tuple (x :: r) := fun d hd => by
      obtain ⟨x, r, e, _⟩ := row_dt (ok.row d hd)
      exact ⟨x, r, e⟩
    obtain ⟨fs, t1, t2, t3⟩ := PySem.W.each_katTups e ht
    refine PySem.W.kat_kind (T := .type "int") t1 (by omega) (fun f hf => ?_) (beq_self_eq_true _) hq
    obtain ⟨x, r, as, m1, m2⟩ := t3 f hf
    obtain ⟨x2, r2, e3, e4⟩ := row_dt (ok.row _ m1)
    cases e3
    rw [← e4]
    exact PySem.W.looks_reads m2
end
theorem each_of {K : PySem.W.Frag} {H : Hp} {P : V → PyData → Prop} : ∀ {xs : List V} {us : List Value} {ds : List PyData}, Vals xs us → DpAll K H xs ds → (∀ (j : Nat) x d, xs[j]? = some x → ds[j]? = some d → P x d) → PySem.W.EachIs (fun u d => ∃ x, RelV x u ∧ P x d) us ds
  | _, _, _, .nil, .nil, _ => .nil
  | _, _, _, .cons r rs, .cons p ps, h => .cons ⟨_, r, h 0 _ _ rfl rfl⟩ (each_of rs ps fun j x d e1 e2 => h (j + 1) x d (by simpa using e1) (by simpa using e2))
theorem each_back {P : V → PyData → Prop} : ∀ {us : List Value} {ds : List PyData}, PySem.W.EachIs (fun u d => ∃ x, RelV x u ∧ P x d) us ds → ∃ ys : List V, Vals ys us ∧ Paired P ys ds
  | _, _, .nil => ⟨[], .nil, .nil⟩
  | _, _, .cons ⟨x, r, p⟩ t => by
    obtain ⟨ys, h1, h2⟩ := each_back t
    exact ⟨x :: ys, .cons r h1, .cons p h2⟩
theorem pair_dpa {K : PySem.W.Frag} {G : Hp} {P : V → PyData → Prop} (h : ∀ x d, P x d → Dp K G x d) : ∀ {ys : List V} {ds : List PyData}, Paired P ys ds → DpAll K G ys ds
  | _, _, .nil => .nil
  | _, _, .cons p t => .cons (h _ _ p) (pair_dpa h t)
def srtR (ds : List PyData) : List PyData := ds.mergeSort hdLe
section
variable {prog : Program} {w : World} {A : Around} {E : Value → Shared → Prop} {s : Shared} {κ : PyProof.Rows.KeyKind}
/-- sorted(t), t a tuple -/
theorem sorted_tupV {l : Addr} {vs : List Value} {Q : Value → Shared → Prop} (ht : IsTup s.heap l vs.toArray) (S : PySem.W.SortsAt prog w A.in1.in1 { s with heap := PySem.W.sortingHeap (PySem.W.copyHeap s.heap vs) (s.heap.objs.size + 1) vs } κ vs) (hL : vs.length ≤ sizeLine)
    (h : Q (.ref (s.heap.objs.size + 1)) { s with heap := sortedAll s.heap vs (PySem.W.sortVals κ false vs vs).toArray }) : wpAny (model prog w) A (call (.builtin "sorted") [.ref l]) Q E s := by
  obtain ⟨o, ho, hc, n, hd⟩ := ht
  refine Calls.call_function_entry kind_sorted plain_sorted entry_sorted (args_sorted1 _) ?_
  unfold Builtin.«sorted»
  refine wpAny_bind (m := checkCount "sorted" 1 1 _) (wpAny_pure ?_)
  refine wpAny_bind (gather_tup ho hc hd (by simpa using hL) ?_)
  rw [List.toList_toArray]
  have hsz : ((s.heap.push (seqObj "list" #[] 0)).update s.heap.objs.size (Obj.mapSeq (· ++ vs.toArray))).objs.size = s.heap.objs.size + 1 := by
    rw [Heap.size_update, size_push']
  refine wpAny_bind (wpAny_newList ?_ hL)
  show wpAny _ _ _ _ _ { s with heap := PySem.W.copyHeap s.heap vs }
  rw [hsz]
  refine wpAny_bind (wpAny_holding (wpAny_call_entry slot_list_sort ⟨_, PySem.W.copyHeap_at s.heap vs, rfl⟩ entry_list_sort (PySem.W.list_sort_vals (s := { s with heap := PySem.W.copyHeap s.heap vs }) (PySem.W.copyHeap_at s.heap vs) S hL ⟨_, rfl, wpAny_pure ⟨_, rfl, h⟩⟩) (args_list_sort _)))
end
def rSrtR (K : PySem.W.Frag) : List V → Hp → VK → Prop := fun vs H Q => ∃ (b : Bool) (a : Addr) (xs : List V) (ds : List PyData), vs = [.ref a] ∧ SqB K b H a xs ∧ DpAll K H xs ds ∧ RowsOk ds ∧ ∀ ys p, (∀ G, DpAll K G xs ds → DpAll K G ys (srtR ds)) → H p = none → Q (.ref p) (upd H p (.lst ys))
theorem cr_srtR {X : Cx} (hu : X.A.units + 64 < cLine) : CallR X (.builtin "sorted") (rSrtR X.K) := by
  intro pins s σ H vs us Q I r h
  obtain ⟨bb, a, xs, ds, rfl, hs, hd, ok, q⟩ := h
  have go : ∃ its : List Value, Vals xs its ∧ xs.length ≤ sizeLine ∧ ∀ {κ : PyProof.Rows.KeyKind} {Q : Value → Shared → Prop}, PySem.W.SortsAt X.prog X.w X.A.in1.in1 { s with heap := PySem.W.sortingHeap (PySem.W.copyHeap s.heap its) (s.heap.objs.size + 1) its } κ its → its.length ≤ sizeLine →
      Q (.ref (s.heap.objs.size + 1)) { s with heap := sortedAll s.heap its (PySem.W.sortVals κ false its its).toArray } → wpAny (model X.prog X.w) X.A (call (.builtin "sorted") [.ref a]) Q X.xe s := by
    cases bb with
    | true =>
      obtain ⟨its, rv, pt, hz⟩ := I.tuple hs
      exact ⟨its, rv, hz, fun S hL h => sorted_tupV pt S hL h⟩
    | false =>
      obtain ⟨its, rv, pt, hz⟩ := I.list hs
      exact ⟨its, rv, hz, fun S hL h => PySem.W.sorted_vals pt.isList S hL h⟩
  obtain ⟨its, rv, hz, run⟩ := go
  rw [Vals.ref1 r]
  have er : PySem.W.EachIs (fun u d => ∃ as, Reads s.heap u d as) its ds := (each_of (P := fun x d => Dp X.K H x d) rv hd fun j x d e1 e2 => by
    obtain ⟨d', e3, p⟩ := dpa_get hd e1
    rw [e2] at e3
    cases e3
    exact p).mono fun u d ⟨x, rx, px⟩ => Dp.reads I d x u px rx
  have ee : PySem.W.EachIs (fun u d => ∃ x, RelV x u ∧ ∀ G, DpAll X.K G xs ds → Dp X.K G x d) its ds := each_of rv hd fun j x d e1 e2 G hG => by
    obtain ⟨d', e3, p⟩ := dpa_get hG e1
    rw [e2] at e3
    cases e3
    exact p
  have er2 : PySem.W.EachIs (fun u d => ∃ as, Reads (PySem.W.sortingHeap (PySem.W.copyHeap s.heap its) (s.heap.objs.size + 1) its) u d as) its ds := er.mono fun _ _ w => ⟨w.choose, PyProof.Rows.Reads.keeps (fun _ _ => PySem.W.sorting_copy_old) w.choose_spec⟩
  have hk : PySem.W.EachIs (fun u d => (rowKind (PySem.W.sortingHeap (PySem.W.copyHeap s.heap its) (s.heap.objs.size + 1) its) ds).keyOf u = some (PySem.W.keyToks (hdD d))) its ds := (PySem.W.each_mem er2).mono fun _ _ w => rowKind_some ok w.2 w.1.choose_spec
  have hl : its.length = ds.length := er.length
  refine run (κ := rowKind (PySem.W.sortingHeap (PySem.W.copyHeap s.heap its) (s.heap.objs.size + 1) its) ds) (row_sorts (s := { s with heap := PySem.W.sortingHeap (PySem.W.copyHeap s.heap its) (s.heap.objs.size + 1) its }) er2 ok ?_) (by rw [← rv.length]; exact hz) ?_
  · show X.A.units + 1 + 1 < cLine
    omega
  · have es := PySem.W.sortVals_each (rev := false) (κ := rowKind (PySem.W.sortingHeap (PySem.W.copyHeap s.heap its) (s.heap.objs.size + 1) its) ds) (fun d => PySem.W.keyToks (hdD d)) ee hk
    obtain ⟨ys, y1, y2⟩ := each_back es
    obtain ⟨n, hn⟩ := sortedAll_at s.heap its (PySem.W.sortVals (rowKind (PySem.W.sortingHeap (PySem.W.copyHeap s.heap its) (s.heap.objs.size + 1) its) ds) false its its).toArray
    refine ⟨.ref (s.heap.objs.size + 1), upd H (s.heap.objs.size + 1) (.lst ys), I.laid (t' := s.toks) (fun _ _ => sortedAll_old) (Nat.le_succ _) ⟨?_, _, n, y1, ?_⟩, rfl, q ys _ (fun G hG => pair_dpa (fun x d p => p G hG) y2) (I.hok.fresh (Nat.le_succ _))⟩
    · have z1 := y1.length
      have z2 := es.length
      rw [z1, z2, List.length_mergeSort, ← hl, ← rv.length]
      exact hz
    · exact hn
section
variable {X : Cx} {C : Ct} {a b e : Expr} {pos p : Pos} {t ta tb : TE} {w wa wb : WE}
def gSrtR : PyData → Dt → (List PyData → Dt → Prop) → Prop := fun d s Q => seqd d = true ∧ RowsOk (its d) ∧ Q (srtR (its d)) s
theorem r1_srtR : R1O C (rSrtR C.K) gSrtR := ⟨fun G σ H s x d Q Q' r pk q k => by
  obtain ⟨hs, ok, q⟩ := q
  obtain ⟨p, xs, rfl, h1, h2⟩ := pk.seq r.fin.gh hs
  exact ⟨isT d, p, xs, its d, rfl, h1, dpa_ex r.fin.gh h2, ok, fun ys l hy hl => k ys _ l q (hy G h2) hl⟩⟩
theorem do_srtR (hK : X.K = C.K) (hu : X.A.units + 64 < cLine) (hg : Gl X "sorted") (hm : X.mg "sorted" = none) (ha : DP X C a ta wa) (hs : starEach [a] X.env = (false, eval a X.env) :: starEach [] X.env := by rfl) :
    DO X C (.Call (.Name "sorted" p) [a] [] pos) (tCB (rSrtR C.K) (tCons ta tNil)) (w1O gSrtR wa) := do_b1 (hK ▸ cr_srtR hu) r1_srtR hg hm (by decide +kernel) ha (by decide) (by decide) hs
theorem srtR_perm (ds : List PyData) : (srtR ds).Perm ds := List.mergeSort_perm ds hdLe
/-- d < e, tuples of an int and a text -/
def PairD (d : PyData) : Prop := ∃ i z, d = .tuple [.int i, .str z]
def gLtP : G2 := fun d e s Q => PairD d ∧ PairD e ∧ Q (.bool (PySem.W.dataLt d e)) s
end
end Dw
namespace Gx
open PySem PySem.Spec PyProof.Rows L2
structure XC (K : PySem.W.Frag) (C : Addr) (B newId initId : String) (bmB : List Value) : Prop where
  fb : ExcBaseFacts B newId initId bmB
  sf : StoreFacts B bmB "object.__setattr__" "object"
  ini : PySem.W.excInitIn K C bmB newId = true
  ovr : PySem.W.excOver K C bmB = true
  dct : PySem.W.hasDictIn K C = true
  sa : PySem.W.findIn K (.ref C) "__setattr__" = some (some (.builtin "object.__setattr__"))
  ga : PySem.W.findIn K (.ref C) "__getattribute__" = some (some (.builtin "BaseException.__getattribute__"))
  gg : PySem.W.findIn K (.ref C) "__getattr__" = some none
  sub : PySem.W.subIn K (.ref C) (.type "BaseException") = some true
  cls : PySem.W.findIn K (.ref C) "__class__" = some (some (.builtin "object.__class__"))
  kp : PySem.W.keepIn K (.ref C) = true
  cin : (PySem.W.clsIn K C).isSome = true
  mro : PySem.W.mroIn K C (.type "object") = some true
  spc : PySem.W.specialIn K (.builtin "object.__class__") "__get__" = some (some (.builtin "getset_descriptor.__get__"))
  tks : PySem.W.takesIn K (.builtin "object.__class__") = some true
section
variable {prog : Program} {w : World} {A : Around} {E : Value → Shared → Prop} {s : Shared} {K : PySem.W.Frag} {C x t : Addr} {B newId initId : String} {bmB : List Value}
/-- x.name = v, the first field -/
theorem osaG {name : Str} {tk : Tok} {v : Value} {R : Result → Shared → Prop} (T : XC K C B newId initId bmB) (ok : K.In s.heap) (hx : s.heap.get? x = some (PySem.W.excObj C t none .none)) (ht : PySem.W.takerIn K C name = some none)
    (hq : ∀ h' tk' dx, (∀ b o, b ≠ x → s.heap.get? b = some o → h'.get? b = some o) → s.heap.objs.size ≤ dx → dx ≠ x → h'.get? x = some (PySem.W.excObj C t (some dx) .none) →
      h'.Ns1 dx (fun y => if y = name then some v else none) → R (.ok (.ret .none)) { s with heap := h', toks := tk' }) :
    codeAny (model prog w) A (.call (.builtin "object.__setattr__") ⟨[.ref x, .str name tk, v], []⟩) R s := by
  obtain ⟨cd, c1, c2⟩ := PySem.W.any_some T.dct
  have hlt := Heap.lt_size hx
  refine PySem.W.osa_openX (od := none) T.sf ok ⟨hx, rfl, rfl, trivial⟩ T.ovr ht fun bb => ?_
  refine wpAny_bind (wpAny_pure (wpAny_bind (PySem.W.instanceDict_exc hx (PySem.W.looks_clsIn ok c1) c2 ?_)))
  obtain ⟨hp, g, dr, tk0, os⟩ := s
  show wpAny _ _ (Builtin.ObjectAttr.storeInDict hp.objs.size (.str name tk) name v) _ _ _
  refine HandSPX.store_in_new ⟨_, #[], _, (Heap.get?_update_ne _ _ _ _ (Nat.ne_of_gt hlt)).trans (Heap.get?_push_at rfl rfl), rfl, fun e he => absurd he (by simp), fun _ => rfl⟩ fun h1 tk1 ns sb => ?_
  have up : (hp.push (PySem.W.dictOf [] 0)).get? x = some (PySem.W.excObj C t none .none) := Heap.get?_push_of_some _ hx
  refine hq h1 tk1 hp.objs.size (fun b o nb hb => ?_) (Nat.le_refl _) (Nat.ne_of_gt hlt) ?_ ns
  · rw [sb.2 b (Nat.ne_of_lt (Heap.lt_size hb)), Heap.get?_update_ne _ _ _ _ nb]
    exact Heap.get?_push_of_some _ hb
  · rw [sb.2 x (Nat.ne_of_lt hlt)]
    exact Heap.get?_update_self _ up rfl
end
section
variable {X : Cx} {pins : List (Addr × Obj)} {σ : L2.St} {H : Hp} {s : Shared} {a C dx : Addr} {f : Str} {y : V} {u : Value} {A : Around} {E : Value → Shared → Prop} {B newId initId : String} {bmB : List Value}
/-- the same over the tracked heap -/
theorem storeG {Q : Unit → Shared → Prop} (T : XC X.K C B newId initId bmB) (I : Inv X pins σ H s) (he : H a = some (exo a C none)) (ht : PySem.W.takerIn X.K C f = some none) (ry : RelV y u)
    (h : ∀ dx s', H dx = none → dx ≠ a → Inv X pins σ (upd (upd H dx (exd dx [(f, y)])) a (exo a C (some dx))) s' → Q () s') : wpAny (model X.prog X.w) A (setAttr (.ref a) f u) Q E s := by
  obtain ⟨t1, ho⟩ := exo_at I.hok he
  refine PySem.W.set_plain I.kIn (od := none) ⟨ho, rfl, rfl, trivial⟩ T.sa ?_
  refine osaG (s := { s with toks := s.toks + 1 }) (t := t1) T I.kIn ho ht fun h1 tk1 dx kk sz nx hx ns => ?_
  have free : H dx = none := I.hok.fresh sz
  have young : ∀ {b : Addr} {o : Obj}, s.heap.get? b = some o → b ≠ dx := fun {b o} z e => by
    rw [e] at z
    exact absurd (Heap.lt_size z) (Nat.not_lt.mpr sz)
  have nota : ∀ {b : Addr}, H b = none → b ≠ a := fun {b} n z => by
    rw [z, he] at n
    cases n
  have far : ∀ {b : Addr} {o : HO}, H b = some o → o ≠ exo a C none → upd (upd H dx (exd dx [(f, y)])) a (exo a C (some dx)) b = some o := fun {b o} z ne => by
    have b1 : b ≠ a := fun z1 => by
      rw [z1, he] at z
      exact ne (Option.some.inj z).symm
    have b2 : b ≠ dx := fun z1 => by
      rw [z1, free] at z
      cases z
    rw [upd_ne b1, upd_ne b2]
    exact z
  have un : Un X.fs [] H (upd (upd H dx (exd dx [(f, y)])) a (exo a C (some dx))) s.heap h1 := by
    refine ⟨fun b o z n _ _ => kk b o (nota n) z, fun b o z n _ _ => ⟨o.slots, kk b o (nota n) z⟩, fun b o z n _ => ?_, fun b o z _ => ?_, fun b xs z => far z fun e => exo_tup e.symm, fun b o v z => far z fun e => exo_frz e.symm, fun b ps z => ⟨#[], ?_⟩⟩
    · rw [upd_ne (nota n), upd_ne (young z)]
      exact n
    · by_cases ab : b = a
      · exact ⟨_, ab ▸ hx⟩
      · exact ⟨o, kk b o ab z⟩
    · rw [far z fun e => exo_tbl e.symm, Array.append_empty]
  refine h dx _ free nx (I.un (t' := tk1) un fun b o z => ?_)
  by_cases ab : b = a
  · rw [ab, upd_same] at z
    cases z
    rw [ab]
    exact exo_ok hx
  · rw [upd_ne ab] at z
    by_cases bd : b = dx
    · rw [bd, upd_same] at z
      cases z
      rw [bd]
      exact exd_ok ns (relO_put (fs := []) ry fun _ => trivial)
    · rw [upd_ne bd] at z
      refine (I.hok b o z).stay (fun c v hc zz => kk c v ?_ zz) (fun c hc => far hc fun e => exo_own e.symm) fun c xs hc => far hc fun e => exo_tup e.symm
      rcases hc with hc | hc
      · exact hc ▸ ab
      · exact fun z1 => by
          rw [z1, he] at hc
          exact exo_own (Option.some.inj hc)
end
section
variable {X : Cx} {o e : Expr} {es : List Expr} {to te : TE} {ta : TA} {f : Str} {p p' pos : Pos} {C : Addr} {B newId initId : String} {bmB : List Value}
/-- self.f = e, as the first and only field -/
def tFld (C : Addr) (f : Str) (to te : TE) : TS := fun D σ H => te σ H fun y H1 => to σ H1 fun x H2 => ∃ a : Addr, x = .ref a ∧ H2 a = some (exo a C none) ∧ ∀ dx, H2 dx = none → dx ≠ a → D.nx σ (upd (upd H2 dx (exd dx [(f, y)])) a (exo a C (some dx)))
theorem ps_fld (T : XC X.K C B newId initId bmB) (ht : PySem.W.takerIn X.K C f = some none) (ho : PE X o to) (he : PE X e te) (hs : swapsWith e (some (.Attribute o f p')) pos.line X.env = pure false := by rfl) : PS X (.Assign [.Attribute o f p'] e pos) (tFld C f to te) := by
  refine ⟨fun pins s σ H D I h => plainObj_wpAny_Assign_Attribute (thn (he.run pins s σ H _ I h) fun v s1 g1 => ?_) hs⟩
  obtain ⟨y, H1, I1, ry, q1⟩ := g1
  refine thn (ho.run pins s1 σ H1 _ I1 q1) fun u s2 g2 => ?_
  obtain ⟨x, H2, I2, rx, a, e1, ha, q⟩ := g2
  subst e1
  cases (show u = Value.ref a from rx)
  exact storeG T I2 ha ht ry fun dx s3 n ne J => ⟨σ, _, J, q dx n ne⟩
end
end Gx
namespace PySem.GxK
open PySem.W PySem.Calls PyProof.Rows
end PySem.GxK
namespace Gx
open PySem PySem.Spec PyProof.Rows L2
def XCx (K : PySem.W.Frag) (C : Addr) : Prop := ∃ B n i bm, XC K C B n i bm
/-- at a: an exception of the class at C, with the fields fs -/
def XAt (H : Hp) (a C : Addr) (fs : List (Str × V)) : Prop := ∃ d, H a = some (exo a C (some d)) ∧ H d = some (exd d fs)
theorem XAt.mono {H H' : Hp} {a C : Addr} {fs : List (Str × V)} (h : XAt H a C fs) (e : ∀ b o, H b = some o → H' b = some o) : XAt H' a C fs := by
  obtain ⟨d, h1, h2⟩ := h
  exact ⟨d, e _ _ h1, e _ _ h2⟩
end Gx
namespace Gx
open PySem PySem.Spec PyProof.Rows L2
theorem fly_keep {B h h' : Heap} {l : List Env} {e : Addr} {Z : Obj → Prop} (x : HandSPX.FlyingZ B l e Z h) (k : ∀ b o, h.get? b = some o → h'.get? b = some o) : HandSPX.FlyingZ B l e Z h' := by
  obtain ⟨f1, f2, f3, oe, vs, T, oT, ts, he, hz, hd, h1, h2, h3, h4, h5⟩ := x
  exact ⟨fun b o q => k b o (f1 b o q), f2, f3.of_keeps fun b o q _ => ⟨o, k b o q, rfl⟩, oe, vs, T, oT, ts, k _ _ he, hz, hd, h1, h2, h3, k _ _ h4, h5⟩
/-- at a: an exception of the class cls, its dict at d -/
def exg (a : Addr) (cls : Value) (d : Option Addr) : HO := .ext fun h => ∃ (oe : Obj) (vs : Array Value), h.get? a = some oe ∧ Zc cls d oe ∧ oe.data = .fields vs
theorem exg_ok {P : Program} {w : World} {H : Hp} {h : Heap} {a : Addr} {cls : Value} {d : Option Addr} {oe : Obj} {vs : Array Value} (e : h.get? a = some oe) (z : Zc cls d oe) (hd : oe.data = .fields vs) : ObjOk P w H h a (exg a cls d) :=
  ⟨⟨oe, vs, e, z, hd⟩, ⟨oe, e⟩, fun _ _ g k => by
    obtain ⟨o, v, q, r⟩ := g
    exact ⟨o, v, k o q, r⟩⟩
section
variable {X : Cx} {pins : List (Addr × Obj)} {σ : L2.St} {H : Hp} {s : Shared} {a : Addr} {cls : Value} {d : Option Addr} {oe : Obj} {vs : Array Value}
theorem track (I : Inv X pins σ H s) (ha : s.heap.get? a = some oe) (hz : Zc cls d oe) (hd : oe.data = .fields vs) (na : H a = none) (n0 : X.s_0.heap.get? a = none) (nL : a ≠ X.env.locals) (nP : ∀ p ∈ X.pn ++ pins, p.1 ≠ a) : Inv X pins σ (upd H a (exg a cls d)) s := by
  have oth : ∀ {b : Addr} {o : HO}, H b = some o → upd H a (exg a cls d) b = some o := fun {b o} e => by
    rw [upd_ne (fun z => by rw [z, na] at e; cases e)]
    exact e
  have non : ∀ {b : Addr}, b ≠ a → H b = none → upd H a (exg a cls d) b = none := fun {b} n e => by
    rw [upd_ne n]
    exact e
  refine ⟨I.ok, I.os, I.bare, ⟨I.base.keep, I.base.slot, fun b o e n hx => non (fun z => by rw [z, n0] at e; cases e) (I.base.free b o e n hx), I.base.there, fun b xs e => oth (I.base.tups b xs e), fun b o u e => oth (I.base.frzs b o u e), fun b ps e => ?_⟩, I.loc, I.cell, non (Ne.symm nL) I.free, fun x c e => non (fun z => ?_) (I.freeC x c e), fun p hp => ?_, fun b o e => ?_, I.len⟩
  · obtain ⟨m, q⟩ := I.base.tbls b ps e
    exact ⟨m, oth q⟩
  · obtain ⟨v, ob, ho, hv⟩ := I.cell x c e
    rw [z, ha] at ho
    cases ho
    rw [hd] at hv
    cases hv
  · obtain ⟨e1, e2, e3⟩ := I.pin p hp
    exact ⟨e1, non (nP p hp) e2, e3⟩
  · by_cases z : b = a
    · rw [z, upd_same] at e
      cases e
      rw [z]
      exact exg_ok ha hz hd
    · rw [upd_ne z] at e
      exact (I.hok b o e).stay (fun _ _ _ q => q) (fun c q => oth q) fun c xs q => oth q
end
/-- what 'except (..) as n: m = n' wishes of an exception of the body -/
def wKeep (K : PySem.W.Frag) (cs : List Value) (i j : Nat) (Wout : WX) (D : Ends) : WX := fun cls d σ H => ∃ b, PySem.W.exmAny K cls cs = some b ∧
  (b = true → ∀ a, H a = none → D.nx (((σ.set i (some (.ref a))).set j (some (.ref a))).set i none) (upd H a (exg a cls d))) ∧ (b = false → Wout cls d σ H)
section
variable {X : Cx} {e : Expr} {es : List Expr} {ta : TA} {p pos : Pos} {x : Str} {C fI : Addr} {k : Nat} {fd : FuncData} {ps : List Str} {sp : Sp} {B newId initId : String} {bmB : List Value}
@[irreducible] def tMkX (C : Addr) (sp : Sp) (ta : TA) : L2.St → Hp → XK → Prop := fun σ H Q => ta σ H fun vs H1 => vs.length ≤ 1000 ∧ ∀ a, H1 a = none → sp (.ref a :: vs) (upd H1 a (exo a C none))
  (fun v H2 => v = .non ∧ ∃ (d : Addr) (fs : List (Str × V)), H2 a = some (exo a C (some d)) ∧ H2 d = some (exd d fs) ∧ H1 d = none ∧ Q (.ref C) (some d) (upd (del H2 a) d (.xd fs))) E0
theorem pmkG {CX : CXT} (T : XC X.K C B newId initId bmB) (tyC : PySem.W.typeIn X.K (.ref C) = some (.type "type")) (iC : PySem.W.findIn X.K (.ref C) "__init__" = some (some (.ref fI))) (tI : PySem.W.typeIn X.K (.ref fI) = some (.type "function")) (F1 : FnOk X.prog X.w X.K X.mg X.base CX0 k fI fd ps sp) (hr : Room (k + 1) X.A) (hb : Binds X.K fd ps [])
    (hg : Gl X x) (hm : X.mg x = some (.ref C)) (ha : PA X (e :: es) ta) (hdb : (x == ("__debug__" : Str)) = false := by decide) (he : starEach (e :: es) X.env = (false, eval e X.env) :: starEach es X.env := by rfl) (hpl : (backTo pos (starEach es X.env)).any (·.1) = false := by rfl) :
    PMk X (.Call (.Name x p) (e :: es) [] pos) (tMkX C sp ta) := by
  intro pins s σ H Q I h
  unfold tMkX at h
  refine wpAny_Call_Name_kw (ld_glob I hg hm ?_ hdb)
  refine PySem.W.callWith_K (h₀ := X.base) I.ok.mod.kin T.kp (thn (ha.run pos pins s σ H _ I h) fun us s1 g => ?_) he hpl
  obtain ⟨vs, H1, I1, r1, hz, q1⟩ := g
  refine ⟨I1.kIn, ?_⟩
  show wpAny _ _ (call (.ref C) us) _ _ _
  obtain ⟨nm, N, qn, bs, bm, hdct, sn, sub, ab, col, dd, k0, k1, k2, k3, k5, hC, hT⟩ := PySem.W.excInit_of I1.kIn T.ini
  obtain ⟨hp, g, dr, tk, os⟩ := s1
  have sz : hp.objs.size ≤ hp.objs.size + 1 := Nat.le_succ _
  have fr : H1 (hp.objs.size + 1) = none := I1.hok.fresh sz
  have q2 := q1 (hp.objs.size + 1) fr
  have up : ∀ b o, hp.get? b = some o → ((hp.push (PySem.W.kdv_tup us)).push (HandSPX.excO C hp.objs.size)).get? b = some o := fun b o z => Heap.get?_push_of_some _ (Heap.get?_push_of_some _ z)
  have new : ((hp.push (PySem.W.kdv_tup us)).push (HandSPX.excO C hp.objs.size)).get? (hp.objs.size + 1) = some (HandSPX.excO C hp.objs.size) := by heap_get
  have I2 : Inv X pins σ (upd H1 (hp.objs.size + 1) (exo (hp.objs.size + 1) C none)) ⟨(hp.push (PySem.W.kdv_tup us)).push (HandSPX.excO C hp.objs.size), g, dr, tk, os⟩ :=
    I1.laid (t' := tk) (a := hp.objs.size + 1) (o := exo (hp.objs.size + 1) C none) (h' := (hp.push (PySem.W.kdv_tup us)).push (HandSPX.excO C hp.objs.size)) up sz (exo_ok new)
  have r2 : Vals (V.ref (hp.objs.size + 1) :: vs) (Value.ref (hp.objs.size + 1) :: us) := .cons rfl r1
  have hl : (Value.ref (hp.objs.size + 1) :: us).length = ps.length := by rw [← r2.length, F1.len _ _ _ _ q2]
  have hus : us.length ≤ sizeLine := by
    rw [← r1.length, sizeLine_eq]
    omega
  have hbb := hb ⟨(hp.push (PySem.W.kdv_tup us)).push (HandSPX.excO C hp.objs.size), g, dr, tk, os⟩ (Value.ref (hp.objs.size + 1) :: us) I2.kIn (by rw [List.append_nil]; exact hl)
  rw [List.append_nil] at hbb
  refine wpAny_call (HandSPX.call_own T.fb hT hC (PySem.W.looks_findIn I1.kIn iC) (fun self => PySem.W.bind_fn I1.kIn self tI) hus
    (codeAny_mono (F1.run _ X.stack _ _ _ _ _ _ E0 (hr.make C us []) (I2.env0.make C us []) hbb r2 q2) fun r s' w => ?_))
  rcases r with er | (_ | _ | _ | u)
  case ok.ret =>
    obtain ⟨v, H2, os2, bare2, un2, hok2, rv, ev, d, fs, ea, ed, hd1, q3⟩ := w
    subst ev
    obtain ⟨h2, g2, d2, t2, os'⟩ := s'
    exact ⟨rv, mk_end (raises_own T.sub tyC) I1 sz up un2 hok2 os2 bare2 ea ed hd1 q3⟩
  all_goals exact False.elim w
/-- what is read of a caught one -/
def XAg (H : Hp) (a C : Addr) (fs : List (Str × V)) : Prop := ∃ d, H a = some (exg a (.ref C) (some d)) ∧ H d = some (.xd fs)
end
end Gx
namespace Dw
open PySem PySem.Spec PyProof.Rows L2 OgR Evl Gx
section
variable {X : Cx} {C : Ct} {a b e : Expr} {es : List Expr} {pos p p2 : Pos} {t ta tb te : TE} {w wa wb we : WE} {tA : TA} {wA : WA} {lo hi : Option Expr} {tl th : TO} {wl wh : WO}
def rSlB (K : PySem.W.Frag) : V → Option Int → Option Int → Hp → VK → Prop := fun x lo hi H Q => rSlA K x lo hi H Q ∨ rSlL K x lo hi H Q
theorem sl_B : SlR X (rSlB X.K) := sl_tupA.or sl_list
def cutSq (d : PyData) (lo hi : Option Int) : PyData := match d with
  | .tuple ds => .tuple (cutD ds lo hi)
  | .list ds => .list (cutD ds lo hi)
  | d => d
def wSlB (wa : WE) (wl wh : WO) : WE := fun s Q => wa s fun d s1 => wl s1 fun l s2 => wh s2 fun h s3 => seqd d = true ∧ Q (cutSq d l h) s3
theorem de_slB (hK : X.K = C.K) (ha : DP X C a ta wa) (hl : DOp X C lo tl wl) (hh : DOp X C hi th wh) : DE X C (.Subscript a (.Slice lo hi none p2) pos) (tSl (rSlB C.K) ta tl th) (wSlB wa wl wh) := ⟨pe_slice (hK ▸ sl_B) ha.pe hl.po hh.po, fun G σ H s Q Q' r q k =>
  ha.ip G σ H s _ _ r q fun v d s1 G1 H1 q1 r1 eg1 eh1 pk => hl.io G1 σ H1 s1 _ _ r1 q1 fun l s2 G2 H2 q2 r2 eg2 eh2 => hh.io G2 σ H2 s2 _ _ r2 q2 fun h s3 G3 H3 q3 r3 eg3 eh3 => by
    obtain ⟨hs, q3⟩ := q3
    have pk3 := (pk.mono eg2 eh2.gr).mono eg3 eh3.gr
    cases d with
    | tuple ds =>
      obtain ⟨p, xs, rfl, h1, h2⟩ := pk_tup pk3
      have h1' := Evl.ex_t r3.fin.gh h1
      refine .inl ⟨p, xs, rfl, h1', fun hw => ?_, fun _ l hl => ?_⟩
      · have e : cutD ds l h = ds := by
          unfold cutD
          rw [dpa_len h2] at hw
          rw [hw.1, hw.2, List.drop_zero, Nat.sub_zero, List.take_length]
        have q3 : Q (.tuple (cutD ds l h)) s3 := q3
        rw [e] at q3
        exact k _ _ s3 G3 H3 q3 r3 ((eg1.trans eg2).trans eg3) ((eh1.trans eh2).trans eh3) (.tup h1 h2)
      · obtain ⟨r4, eg, eh⟩ := r3.new (o := .tup (cutV xs _ _)) hl
        exact k _ _ s3 _ _ q3 r4 (((eg1.trans eg2).trans eg3).trans eg) (((eh1.trans eh2).trans eh3).trans eh) (.tup (.inl (.inl upd_same)) (dpa_ex eg (dpa_cut h2 _ _)))
    | list ds =>
      obtain ⟨p, xs, rfl, h1, h2⟩ := pk_lst pk3 r3.fin.gh
      refine .inr ⟨p, xs, rfl, h1, fun l hl => ?_⟩
      obtain ⟨r4, eg, eh⟩ := r3.new (o := .lst (cutV xs _ _)) hl
      exact k _ _ s3 _ _ q3 r4 (((eg1.trans eg2).trans eg3).trans eg) (((eh1.trans eh2).trans eh3).trans eh) (.lst upd_same (dpa_ex eg (dpa_cut h2 _ _)))
    | _ => cases hs⟩
def wStar (w : WE) (wr : WA) : WA := fun s Q => w s fun d s1 => seqd d = true ∧ wr s1 fun ds s2 => Q (its d ++ ds) s2
theorem da_star (hK : X.K = C.K) (h : DP X C e te we) (hr : DA X C es tA wA) (hs : starEach (.Starred e p :: es) X.env = (true, eval e X.env) :: starEach es X.env := by rfl) : DA X C (.Starred e p :: es) (StX.tStar C.K te tA) (wStar we wA) := ⟨hK ▸ StX.pa_star h.pe hr.pa hs, fun G σ H s Q Q' r q k =>
  h.ip G σ H s _ _ r q fun v d s1 G1 H1 q1 r1 eg1 eh1 pk => by
    obtain ⟨hs, q1⟩ := q1
    obtain ⟨p, xs, rfl, h1, h2⟩ := pk.seq r1.fin.gh hs
    refine ⟨p, xs, rfl, ?_, hr.ia G1 σ H1 s1 _ _ r1 q1 fun vs ds s2 G2 H2 q2 r2 eg2 eh2 p2 => k _ _ s2 G2 H2 q2 r2 (eg1.trans eg2) (eh1.trans eh2) (dpa_app (dpa_ex eg2 h2) p2)⟩
    cases d with
    | tuple _ => exact .inl h1
    | list _ => exact .inr h1
    | _ => cases hs⟩
end
inductive Oc where
  | ok (d : PyData)
  | ex (nm fld : Str) (d : PyData)
abbrev FX := List PyData → (Oc → Prop) → Prop
/-- what is to be had of an exception: its class by name, its one field -/
def Exk (K : PySem.W.Frag) (mg : Str → Option Value) (G H : Hp) (R : Oc → Prop) (E : XK) : Prop := ∀ (nm fld : Str) (d : PyData) (C dx : Addr) (u : V) (G' H' : Hp), R (.ex nm fld d) → mg nm = some (.ref C) → Ex G G' → Ex H H' → Ex G' H' → Nw G G' H → H dx = none → H' dx = some (.xd [(fld, u)]) → Dp K G' u d → E (.ref C) (some dx) H'
def spX (K : PySem.W.Frag) (mg : Str → Option Value) (F : FX) : Sp := fun vs H Q E => ∃ G ds R, Ex G H ∧ DpAll K G vs ds ∧ F ds R ∧ (∀ v d G' H', R (.ok d) → Ex G G' → Ex H H' → Ex G' H' → Nw G G' H → Dp K G' v d → Q v H') ∧ Exk K mg G H R E
section
variable {P : Program} {wd : World} {K : PySem.W.Frag} {mg : Str → Option Value} {base : Heap}
def FnGX (P : Program) (w : World) (K : PySem.W.Frag) (mg : Str → Option Value) (base : Heap) (k : Nat) (f : Addr) (fd : FuncData) (ps : List Str) (sp : Sp) : Prop :=
  (∀ vs H Q E, sp vs H Q E → vs.length = ps.length) ∧
  ∀ (A : Around) (outer : List Env) (s : Shared) (H : Hp) (args : Args) (us : List Value) (vs : List V) (Q : VK) (E : XK), A.guards = some [] → Room k A → Env0 P w K mg base A outer s H → BindsTo s fd args (ps.zip us) → Vals vs us →
    sp vs H Q E → codeAny (model P w) A (.call (.ref f) args) (CR (L2.CX P w) outer P w H s Q E) s
theorem fnGX_of {x qual : Str} {st : Stmt} {f : Addr} {fd : FuncData} {N ps : List Str} {k : Nat} {sp : Sp} (F : Fun K x qual st f fd) (S : FnScope N ps (defScope st)) (hl : ∀ vs H Q E, sp vs H Q E → vs.length = ps.length)
    (body : ∀ (cdv : Value) (A : Around) (outer : List Env) (s : Shared) (H : Hp) (vs : List V) (Q : VK) (E : XK), A.guards = some [] → Room k (A.deeper (envOfC qual (defScope st) s.heap.objs.size f cdv)) → sp vs H Q E →
      ∃ t, PSs (cxOf (L2.CX P wd) P wd K mg base N qual (defScope st) f cdv A outer s H E) (defBody st) t ∧ t { nx := fun _ H' => Q .non H', rt := Q } (start N vs) H) : FnGX P wd K mg base (k + 1) f fd ps sp := by
  obtain ⟨oc, od, kV, doc, pm, an, cdv, ct, osl, rfl, lk, hcd⟩ := F.ex
  refine ⟨hl, fun A outer s H args us vs Q E hG hr e0 hb r hsp => ?_⟩
  have here : ∀ b o, base.get? b = some o → s.heap.get? b = some o := fun b o e => (e0.bs b o e).1
  have KX : K.In s.heap := e0.mod.kin.keeps here
  refine codeAny_call_function hr.depth (KX _ _ lk) rfl S.co S.gen rfl (PySem.W.codeRec_of KX hcd) (hb _ _ _ _ (wpAny_newFunctionEnv_cells S.kind ?_ fun env he s1 y => ?_))
  · rintro ⟨n, v⟩ hy
    exact (S.par n (List.of_mem_zip hy).1).imp id fun q => ⟨q, PySem.W.cellsFrom_some _ _ _ (.inl q)⟩
  · subst he
    obtain ⟨t, ht, hq⟩ := body cdv A outer s H vs Q E hG (hr.deeper _) hsp
    have I := inv_start (CX := L2.CX P wd) (E := E) S hr.hd e0 (hl _ _ _ _ hsp) r y
    refine ⟨(e0.mod.nolimit.keeps here).keeps y.toInCall.keep, codeAny_func (wpAny_mono (ht.run [] s1 (start N vs) H _ I hq) ?_ fun e s' hs => hs)⟩
    rintro (_ | _ | _ | u) s' hs
    all_goals first
      | (obtain ⟨v, σ', H', J, rv, q⟩ := hs; exact ⟨v, H', J.os, J.bare, J.base, J.hok, rv, q⟩)
      | (obtain ⟨σ', H', J, q⟩ := hs; exact ⟨V.non, H', J.os, J.bare, J.base, J.hok, rfl, q⟩)
      | (obtain ⟨_, _, _, q⟩ := hs; exact q.elim)
structure DefX (P : Program) (wd : World) (K : PySem.W.Frag) (mg : Str → Option Value) (base : Heap) (k : Nat) (x : Str) (st : Stmt) (ps : List Str) (sp : Sp) : Prop where
  ex : ∃ f fd, FnGX P wd K mg base k f fd ps sp ∧ Fun K x x st f fd ∧ Binds K fd ps [] ∧ mg x = some (.ref f)
theorem DefX.make {k : Nat} {x : Str} {st : Stmt} {N ps : List Str} {F : FX} (c : Fct K mg x st ps) (S : FnScope N ps (defScope st)) (hl : ∀ ds R, F ds R → ds.length = ps.length)
    (body : ∀ (f : Addr) (cdv : Value) (A : Around) (outer : List Env) (s : Shared) (H G : Hp) (E : XK) (ds : List PyData) (R : Oc → Prop), A.guards = some [] → Room k (A.deeper (envOfC x (defScope st) s.heap.objs.size f cdv)) → F ds R → Exk K mg G H R E →
      ∃ t w, DSs (cxOf (L2.CX P wd) P wd K mg base N x (defScope st) f cdv A outer s H E) ⟨K, b0, H, G⟩ (defBody st) t w ∧ w { nx := fun _ => R (.ok .none), rt := fun d _ => R (.ok d) } ⟨env0 N (ds.map .d), 0, []⟩) : DefX P wd K mg base (k + 1) x st ps (spX K mg F) := by
  obtain ⟨f, fd, Fn, b, m⟩ := c.ex
  refine ⟨f, fd, fnGX_of Fn S (fun vs H Q E h => ?_) (fun cdv A outer s H vs Q E hG hr h => ?_), Fn, b, m⟩
  · obtain ⟨G, ds, R, _, p, hF, _⟩ := h
    rw [dpa_len p]
    exact hl ds R hF
  · obtain ⟨G, ds, R, gh, p, hF, kk, kx⟩ := h
    obtain ⟨t, w, D, hw⟩ := body f cdv A outer s H G E ds R hG hr hF kx
    have rel : Rel ⟨K, b0, H, G⟩ G (L2.start N vs) H ⟨env0 N (ds.map .d), 0, []⟩ := by
      refine ⟨⟨gh, Ex.refl G, Nw.refl G H, Gr.refl _ H, Bx.ok0, .nil, fun l hl => nomatch hl⟩, env0_len (by rw [List.length_map, dpa_len p]), fun i x e => ?_, fun i j x y q _ e1 _ m1 => ?_⟩
      · have e' := env0_get e
        rw [List.getElem?_map] at e'
        cases q : ds[i]? with
        | none => rw [q] at e'; cases e'
        | some d =>
          rw [q] at e'
          cases e'
          obtain ⟨v, hv, pv⟩ := dpa_back p q
          exact ⟨v, start_get hv, pv⟩
      · have e' := env0_get e1
        rw [List.getElem?_map] at e'
        cases q : ds[i]? with
        | none => rw [q] at e'; cases e'
        | some d => rw [q] at e'; cases e'; cases m1
    refine ⟨t, D.ps, D.is G (L2.start N vs) H _ _ _ rel hw ⟨fun σ' H' s' G' hn r' e => ?_, fun _ _ _ _ h => h.elim, fun _ _ _ _ h => h.elim, fun v d c' G' H' hR f' e pv => ?_⟩⟩
    · exact kk .non .none G' H' hn e (fun b o hb => r'.fin.hh b o (fun z => nomatch z) hb) r'.fin.gh r'.fin.nw .non
    · exact kk v d G' H' hR e (fun b o hb => f'.hh b o (fun z => nomatch z) hb) f'.gh f'.nw pv
end
def spIni (C : Addr) (f : Str) (P : V → Hp → Prop) : Sp := fun vs H Q _ => ∃ (a : Addr) (y : V), vs = [.ref a, y] ∧ H a = some (exo a C none) ∧ P y H ∧ ∀ dx, H dx = none → dx ≠ a → Q .non (upd (upd H dx (exd dx [(f, y)])) a (exo a C (some dx)))
def IsTp (K : PySem.W.Frag) : V → Hp → Prop := fun y H => ∃ p xs, y = .ref p ∧ SqT K H p xs
/-- which data a field takes -/
def okF (tup : Bool) (d : PyData) : Bool := !tup || isT d
structure MkD (P : Program) (wd : World) (K : PySem.W.Frag) (mg : Str → Option Value) (base : Heap) (x f : Str) (tup : Bool) (C : Addr) : Prop where
  here : mg x = some (.ref C)
  ex : ∃ B n i bm fI fd, XC K C B n i bm ∧ PySem.W.typeIn K (.ref C) = some (.type "type") ∧ PySem.W.findIn K (.ref C) "__init__" = some (some (.ref fI)) ∧ PySem.W.typeIn K (.ref fI) = some (.type "function") ∧ FnOk P wd K mg base CX0 2 fI fd ["self", f] (spIni C f fun y H => tup = true → IsTp K y H) ∧ Binds K fd ["self", f] []
section
variable {X : Cx} {C : Ct} {e : Expr} {p pos pos' : Pos} {te : TE} {we : WE} {x fld : Str} {tup : Bool} {Cc : Addr} {R : Oc → Prop} {E : XK}
/-- raise C(e) -/
def wRaise (R : Oc → Prop) (x fld : Str) (tup : Bool) (we : WE) : WS := fun _ s => we s fun d _ => okF tup d = true ∧ R (.ex x fld d)
theorem ds_raise (M : MkD X.prog X.w X.K X.mg X.base x fld tup Cc) (hK : X.K = C.K) (hx : Exk C.K X.mg C.G0 C.H0 R E) (hc : X.calm = true) (tk : Takes X (fun cls d _ H => E cls d H)) (hb : C.bx = b0) (hr : Room 3 X.A) (hg : Gl X x) (he : DE X C e te we)
    (hdb : (x == ("__debug__" : Str)) = false := by decide) (hs : starEach [e] X.env = (false, eval e X.env) :: starEach [] X.env := by rfl) :
    DS X C (.Raise (some (.Call (.Name x p) [e] [] pos)) none pos') (fun _ σ H => tMkX Cc (spIni Cc fld fun y H => tup = true → IsTp X.K y H) (tCons te tNil) σ H fun cls d H' => E cls d H') (wRaise R x fld tup we) := by
  obtain ⟨B, n, i, bm, fI, fd, T, tyC, iC, tI, F1, bnd⟩ := M.ex
  refine ⟨ps_raise hc tk (pmkG (CX := CX0) T tyC iC tI F1 hr bnd hg M.here (pa_cons he.pe pa_nil hs) hdb hs), fun G σ H s D DD r q o => ?_⟩
  show tMkX _ _ _ _ _ _
  unfold tMkX
  refine he.ie G σ H s _ _ r q fun v d s1 G1 H1 q1 r1 eg g pd => ⟨(by show 1 ≤ 1000; decide), fun a ha => ?_⟩
  obtain ⟨ht, q1⟩ := q1
  refine ⟨a, v, rfl, upd_same, fun tp => ?_, fun dx hdx hne => ⟨rfl, dx, [(fld, v)], upd_same, by rw [upd_ne hne, upd_same], ?_, ?_⟩⟩
  · subst tp
    cases d with
    | tuple ds =>
      cases pd with
      | tup h1 h2 => exact ⟨_, _, rfl, by rw [hK]; exact Evl.ex_t (r1.fin.gh.trans (Ex.new ha)) h1⟩
    | _ => cases ht
  · rw [upd_ne hne] at hdx
    exact hdx
  · rw [upd_ne hne] at hdx
    have e1 : Ex H1 (upd (del (upd (upd (upd H1 a (exo a Cc none)) dx (exd dx [(fld, v)])) a (exo a Cc (some dx))) a) dx (.xd [(fld, v)])) := fun b o hb' => by
      have n1 : b ≠ dx := fun z => by rw [z, hdx] at hb'; cases hb'
      have n2 : b ≠ a := fun z => by rw [z, ha] at hb'; cases hb'
      rw [upd_ne n1, del_ne n2, upd_ne n2, upd_ne n1, upd_ne n2]
      exact hb'
    have e0 : Ex C.H0 H1 := fun b o hb' => r1.fin.hh b o (by rw [hb]; exact fun z => nomatch z) hb'
    exact hx x fld d Cc dx v G1 _ q1 M.here r1.fin.g0 (e0.trans e1) (r1.fin.gh.trans e1) r1.fin.nw (r1.fin.h0 hdx) upd_same pd
end
abbrev WY := Dt → (PyData → Dt → Prop) → (Str → Str → PyData → Dt → Prop) → Prop
structure DEX (X : Cx) (C : Ct) (e : Expr) (t : L2.WX → TE) (w : WY) : Prop where
  pe : ∀ (W : L2.WX) (pn : List (Addr × Obj)) (xe : Value → Shared → Prop), Takes (X.tr pn xe) W → PE (X.tr pn xe) e (t W)
  ie : ∀ (W : L2.WX) G σ H s Q QX Q', Rel C G σ H s → w s Q QX →
    (∀ v d s' G' H', Q d s' → Rel C G' σ H' s' → Ex G G' → Gs C σ G H s G' H' s' → Dp C.K G' v d → Q' v H') →
    (∀ (nm fld : Str) d s' G' H' (Cc dx : Addr) u, QX nm fld d s' → X.mg nm = some (.ref Cc) → Rel C G' σ H' s' → Ex G G' → Gs C σ G H s G' H' s' → C.H0 dx = none → H' dx = some (.xd [(fld, u)]) → Dp C.K G' u d → W (.ref Cc) (some dx) σ H') → t W σ H Q'
section
variable {X : Cx} {C : Ct} {a b c e : Expr} {pos p : Pos} {ta tb : L2.WX → TE} {wa wb : WY} {tc : TT} {wc : WT} {x : Str} {st : Stmt} {ps : List Str} {k : Nat}
theorem dex_if (hc : ∀ pn xe, DT (X.tr pn xe) C c tc wc) (h1 : DEX X C a ta wa) (h2 : DEX X C b tb wb) : DEX X C (.IfExp c a b pos) (fun W => tIf tc (ta W) (tb W)) (fun s Q QX => wc s fun b s1 => if b = true then wa s1 Q QX else wb s1 Q QX) :=
  ⟨fun W pn xe tk => pe_ifExp (hc pn xe).pt (h1.pe W pn xe tk) (h2.pe W pn xe tk), fun W G σ H s Q QX Q' r q k kx => (hc [] fun _ _ => False).it G σ H s _ _ r q fun bb s1 G1 H1 q1 r1 eg g => by
    cases bb with
    | true =>
      rw [if_pos rfl] at q1
      exact iteT (h1.ie W G1 σ H1 s1 Q QX Q' r1 q1 (fun v d s' G' H' a1 a2 a3 a4 a5 => k v d s' G' H' a1 a2 (eg.trans a3) (g.trans a4) a5) fun nm fld d s' G' H' Cc dx u b1 b2 b3 b4 b5 b6 b7 b8 => kx nm fld d s' G' H' Cc dx u b1 b2 b3 (eg.trans b4) (g.trans b5) b6 b7 b8)
    | false =>
      rw [if_neg (by decide)] at q1
      exact iteF (h2.ie W G1 σ H1 s1 Q QX Q' r1 q1 (fun v d s' G' H' a1 a2 a3 a4 a5 => k v d s' G' H' a1 a2 (eg.trans a3) (g.trans a4) a5) fun nm fld d s' G' H' Cc dx u b1 b2 b3 b4 b5 b6 b7 b8 => kx nm fld d s' G' H' Cc dx u b1 b2 b3 (eg.trans b4) (g.trans b5) b6 b7 b8)⟩
def wNmX (F : FX) (n : Nat) (π : List Nat) (wA : WA) : WY := fun s Q QX => wA s fun ds s1 => ds.length = n ∧ F (perm π ds) fun o => match o with
  | .ok d => Q d s1
  | .ex nm fld d => QX nm fld d s1
end
/-- a caught exception in a slot -/
def xcV (K : PySem.W.Frag) (mg : Str → Option Value) (bx : Bx) (nm fld : Str) (d : PyData) : Hp → Hp → V → Prop := fun G H v => ∃ (a Cc dx : Addr) (u : V), v = .ref a ∧ mg nm = some (.ref Cc) ∧ ¬ bx.has a ∧ ¬ bx.has dx ∧ H a = some (exg a (.ref Cc) (some dx)) ∧ H dx = some (.xd [(fld, u)]) ∧ Dp K G u d
theorem xcV_oth {C : Ct} {mg : Str → Option Value} {nm fld : Str} {d : PyData} {G H : Hp} {v : V} (h : xcV C.K mg C.bx nm fld d G H v) : Oth C (xcV C.K mg C.bx nm fld d) G H v := ⟨h, fun G' H' eg eh => by
  obtain ⟨a, Cc, dx, u, h1, h2, h3, h4, h5, h6, h7⟩ := h
  exact ⟨a, Cc, dx, u, h1, h2, h3, h4, eh a _ h3 h5 rfl, eh dx _ h4 h6 rfl, dp_ex eg h7⟩⟩
theorem Rel.hole {C : Ct} {G H : Hp} {σ : L2.St} {s : Dt} (r : Rel C G σ H s) (i : Nat) (y : Option V) : Rel C G (σ.set i y) H ⟨s.env.set i none, s.c⟩ := by
  have go : ∀ (j : Nat) x, (s.env.set i none)[j]? = some (some x) → j ≠ i ∧ s.env[j]? = some (some x) := fun j x e => by
    by_cases z : j = i
    · subst z
      by_cases hl : j < s.env.length
      · rw [List.getElem?_set_self hl] at e
        cases e
      · rw [List.getElem?_eq_none (by rw [List.length_set]; omega)] at e
        cases e
    · rw [List.getElem?_set_ne (Ne.symm z)] at e
      exact ⟨z, e⟩
  refine ⟨r.fin, by show (s.env.set i none).length = _; rw [List.length_set, List.length_set]; exact r.len, fun j x e => ?_, fun j k x z q hne e1 e2 m1 m2 => ?_⟩
  · obtain ⟨z, e⟩ := go j x e
    obtain ⟨v, hv, rv⟩ := r.sl j x e
    exact ⟨v, by rw [List.getElem?_set_ne (Ne.symm z)]; exact hv, rv⟩
  · obtain ⟨z1, e1⟩ := go j x e1
    obtain ⟨z2, e2⟩ := go k z e2
    rw [List.getElem?_set_ne (Ne.symm z1), List.getElem?_set_ne (Ne.symm z2)]
    exact r.dis j k x z q hne e1 e2 m1 m2
end Dw
namespace Gx
open PySem PySem.Spec PyProof.Rows L2
section
variable {X : Cx} {pins : List (Addr × Obj)} {σ : L2.St} {H : Hp} {s : Shared} {a C : Addr} {fs : List (Str × V)}
theorem xag_inst (I : Inv X pins σ H s) (h : XAg H a C fs) : ∃ ox od, PySem.W.InstAt s.heap a ox C (some od) ∧ ∀ f, RelO (fs.lookup f) ((PySem.W.lookIn f od).getD none) ∧ (PySem.W.lookIn f od).isSome = true := by
  obtain ⟨d, h1, h2⟩ := h
  obtain ⟨⟨oe, vs, ho, hz, hd⟩, _⟩ := (show ObjOk X.prog X.w H s.heap a (.ext fun h => ∃ (oe : Obj) (vs : Array Value), h.get? a = some oe ∧ Zc (.ref C) (some d) oe ∧ oe.data = .fields vs) from I.hok _ _ h1)
  obtain ⟨mA, hns, rel⟩ := I.hok _ _ h2
  obtain ⟨od, hod, hl⟩ := lookIn_ns hns
  refine ⟨oe, od, ⟨ho, hz.1, by unfold PySem.W.notCls; rw [hd], by rw [hz.2]; exact hod⟩, fun f => ⟨by rw [hl]; exact rel f, by rw [hl]; rfl⟩⟩
end
section
variable {X : Cx} {o e : Expr} {es : List Expr} {to te : TE} {ta : TA} {f n : Str} {p p' pos : Pos}
@[irreducible] def tGetG (K : PySem.W.Frag) (n : Str) (te : TE) : TE := fun σ H Q => te σ H fun x H1 => ∃ a C fs v, x = .ref a ∧ XAg H1 a C fs ∧ XCx K C ∧ PySem.W.findIn K (.ref C) n = some none ∧ fs.lookup n = some v ∧ Q v H1
theorem pe_getG (he : PE X e te) (hb : attributeBase e n X.env (eval e X.env) = eval e X.env := by rfl) : PE X (.Attribute e n pos) (tGetG X.K n te) := by
  refine ⟨fun pins s σ H Q I h => ?_⟩
  unfold tGetG at h
  refine attr_of hb (thn (he.run pins s σ H _ I h) fun u s1 g => ?_)
  obtain ⟨x, H1, I1, rx, a, C, fs, v, ex, ha, ⟨B, nn, ii, bm, T⟩, hno, l, q⟩ := g
  subst ex
  cases (show u = Value.ref a from rx)
  obtain ⟨ox, od, J, hl⟩ := xag_inst I1 ha
  obtain ⟨r1, r2⟩ := hl n
  rw [l] at r1
  obtain ⟨z, hz⟩ := Option.isSome_iff_exists.mp r2
  rw [hz] at r1
  obtain ⟨u2, hu, ru⟩ := RelO.some_of r1
  have hz2 : z = some u2 := hu
  subst hz2
  exact HandSPX.exc_get I1.kIn J T.ga T.gg T.sub (PySem.W.findObj_own T.dct hno rfl hz) (handed_of ru) ⟨v, H1, I1.tok _, ru, q⟩
def rIsG (K : PySem.W.Frag) : List V → Hp → VK → Prop := fun xs H Q => ∃ (a C : Addr) (fs : List (Str × V)) (c : V) (cv : Value) (b : Bool), xs = [.ref a, c] ∧ XAg H a C fs ∧ XCx K C ∧ (∀ u, RelV c u → u = cv) ∧ PySem.W.kitOne K (.ref C) cv = some b ∧ Q (.bl b) H
theorem call_isG : CallR X (.builtin "isinstance") (rIsG X.K) := by
  intro pins s σ H xs us Q I r h
  obtain ⟨a, C, fs, c, cv, b, rfl, ha, ⟨B, n, i, bm, T⟩, hcv, e, q⟩ := h
  cases r with
  | cons rx rr =>
    cases rr with
    | cons rt rr =>
      cases rr
      cases rx
      have ec := hcv _ rt
      subst ec
      obtain ⟨ox, od, J, _⟩ := xag_inst I ha
      exact PySem.W.kia_one (PySem.W.kitx_exc T.cin T.ga T.gg T.sub T.cls T.spc T.tks T.mro) I.kIn J e (fun z => nomatch z) fun tk => ⟨.bl b, H, I.kept (t' := tk) fun _ _ z => z, rfl, q⟩
def rIsGT (K : PySem.W.Frag) : List V → Hp → VK → Prop := fun xs H Q => ∃ (a C tp : Addr) (fs : List (Str × V)) (cs : List V) (cvs : List Value) (b : Bool), xs = [.ref a, .ref tp] ∧ XAg H a C fs ∧ XCx K C ∧ H tp = some (.tup cs) ∧ (∀ us, Vals cs us → us = cvs) ∧ PySem.W.kitAny K (.ref C) cvs = some b ∧ Q (.bl b) H
theorem call_isGT : CallR X (.builtin "isinstance") (rIsGT X.K) := by
  intro pins s σ H xs us Q I r h
  obtain ⟨a, C, tp, fs, cs, cvs, b, rfl, ha, ⟨B, n, i, bm, T⟩, ht, hcv, e, q⟩ := h
  cases r with
  | cons rx rr =>
    cases rr with
    | cons rt rr =>
      cases rr
      cases rx
      cases rt
      obtain ⟨ox, od, J, _⟩ := xag_inst I ha
      obtain ⟨_, its2, r2, ob, ho, hc, nn, hd⟩ := I.hok _ _ ht
      have e2 := hcv _ r2
      subst e2
      obtain ⟨c1, c2, c3, c4⟩ := ob
      dsimp only at hc hd
      subst hc hd
      exact PySem.W.kia_tup (PySem.W.kitx_exc T.cin T.ga T.gg T.sub T.cls T.spc T.tks T.mro) I.kIn J ho e (fun z => nomatch z) fun tk => ⟨.bl b, H, I.kept (t' := tk) fun _ _ z => z, rfl, q⟩
end
end Gx
namespace Dw
open PySem PySem.Spec PyProof.Rows L2 OgR Evl Gx
section
variable {X : Cx} {C : Ct} {c c' : Expr} {pos p p2 : Pos} {x n : Str} {cV cV' : V} {cv cv' : Value}
/-- what is known of a class by its name -/
def KitN (K : PySem.W.Frag) (mg : Str → Option Value) (nm : Str) (cvs : List Value) (b : Bool) : Prop := ∀ Cc, mg nm = some (.ref Cc) → XCx K Cc ∧ PySem.W.kitAny K (.ref Cc) cvs = some b
def FldN (K : PySem.W.Frag) (mg : Str → Option Value) (nm fld : Str) : Prop := ∀ Cc, mg nm = some (.ref Cc) → XCx K Cc ∧ PySem.W.findIn K (.ref Cc) fld = some none
def wXat (K : PySem.W.Frag) (mg : Str → Option Value) (bx : Bx) (i : Nat) (n : Str) : WE := fun s Q => ∃ nm d, s.env[i]? = some (some (.oth (xcV K mg bx nm n d))) ∧ FldN K mg nm n ∧ Q d s
theorem de_xat (i : Nat) (hK : X.K = C.K) (hv : PE X (.Name x p) (tVar i) := by exact pv _) (hb : attributeBase (.Name x p) n X.env (eval (.Name x p) X.env) = eval (.Name x p) X.env := by rfl) : DE X C (.Attribute (.Name x p) n pos) (tGetG C.K n (tVar i)) (wXat C.K X.mg C.bx i n) := ⟨hK ▸ pe_getG hv hb, fun G σ H s Q Q' r q k => by
  obtain ⟨nm, d, e, hf, q⟩ := q
  obtain ⟨v, hv, ⟨a, Cc, dx, u, rfl, hm, b1, b2, h1, h2, h3⟩, _⟩ := r.sl i _ e
  unfold tGetG
  exact ⟨_, hv, a, Cc, _, u, rfl, ⟨dx, h1, h2⟩, (hf Cc hm).1, (hf Cc hm).2, by simp [List.lookup], k u d s G H q r (Ex.refl G) Gs.refl h3⟩⟩
def wXis (K : PySem.W.Frag) (mg : Str → Option Value) (bx : Bx) (i : Nat) (cvs : List Value) : WE := fun s Q => ∃ nm fld d b, s.env[i]? = some (some (.oth (xcV K mg bx nm fld d))) ∧ KitN K mg nm cvs b ∧ Q (.bool b) s
theorem kit_one {K : PySem.W.Frag} {t c : Value} {b : Bool} (h : PySem.W.kitAny K t [c] = some b) : PySem.W.kitOne K t c = some b := by
  unfold PySem.W.kitAny at h
  split at h
  · rename_i e
    rw [e, h]
  · rename_i e
    rw [e]
    exact h
  · cases h
theorem de_xis (i : Nat) (hK : X.K = C.K) (hg : Gl X "isinstance") (hm : X.mg "isinstance" = none) (hp : PE X c (tC cV)) (hcv : ∀ u, RelV cV u → u = cv) (hv : PE X (.Name x p2) (tVar i) := by exact pv _)
    (hs : starEach [.Name x p2, c] X.env = (false, eval (.Name x p2) X.env) :: starEach [c] X.env := by rfl) (hpl : (backTo pos (starEach [c] X.env)).any (·.1) = false := by rfl) (hs2 : starEach [c] X.env = (false, eval c X.env) :: starEach [] X.env := by rfl) :
    DE X C (.Call (.Name "isinstance" p) [.Name x p2, c] [] pos) (tCB (rIsG C.K) (tCons (tVar i) (tCons (tC cV) tNil))) (wXis C.K X.mg C.bx i [cv]) :=
  ⟨pe_callB (hK ▸ call_isG) hg hm (by decide +kernel) (pa_cons hv (pa_cons hp pa_nil hs2) hs) (by decide) (by decide) hs hpl, fun G σ H s Q Q' r q k => by
    obtain ⟨nm, fld, d, b, e, hk, q⟩ := q
    obtain ⟨v, hv, ⟨a, Cc, dx, u, rfl, hm, b1, b2, h1, h2, h3⟩, _⟩ := r.sl i _ e
    exact ⟨_, hv, a, Cc, _, cV, cv, b, rfl, ⟨dx, h1, h2⟩, (hk Cc hm).1, hcv, kit_one (hk Cc hm).2, k _ _ s G H q r (Ex.refl G) Gs.refl (.bl b)⟩⟩
/-- is None, of a slot with data or a caught exception -/
def wXnon (K : PySem.W.Frag) (mg : Str → Option Value) (bx : Bx) (i : Nat) : WT := fun s Q => (∃ d, s.env[i]? = some (some (.d d)) ∧ Q (isNone d) s) ∨ ∃ nm fld d, s.env[i]? = some (some (.oth (xcV K mg bx nm fld d))) ∧ Q false s
theorem dt_xnon (i : Nat) {j : Nat} (hv : PE X (.Name x p) (tVar i) := by exact pv _) : DT X C (.Compare (.Name x p) [.Is] [.Constant .none j p2] pos) (tTest (tOp (fun x y H Q => y = .non ∧ Q (.bl (decide (x = .non))) H) (tVar i) (tC .non))) (wXnon C.K X.mg C.bx i) :=
  ⟨pt_cmpR op_isN hv pe_non (nomark _), fun G σ H s Q Q' r q k => by
    rcases q with ⟨d, e, q⟩ | ⟨nm, fld, d, e, q⟩
    · obtain ⟨v, hv, rv⟩ := r.sl i _ e
      refine ⟨v, hv, rfl, _, rfl, ?_⟩
      rw [pk_none (C := C) (H := H) (.inl rv)]
      exact k _ s G H q r (Ex.refl G) Gs.refl
    · obtain ⟨v, hv, ⟨a, Cc, dx, u, rfl, hm, b1, b2, h1, h2, h3⟩, _⟩ := r.sl i _ e
      refine ⟨_, hv, rfl, _, rfl, ?_⟩
      exact k _ s G H q r (Ex.refl G) Gs.refl⟩
end
end Dw
namespace Dw
open PySem PySem.Spec PyProof.Rows L2 OgR Evl Gx
section
variable {X : Cx} {C : Ct}
/-- == of texts -/
def gEqS : G2 := fun d e s Q => ∃ x y, d = .str x ∧ e = .str y ∧ Q (.bool (decide (x = y))) s
end
/-- what is bounded equals itself -/
theorem eqvAll_rf : ∀ {l : List PyData}, (∀ x ∈ l, PyData.eqv x x = true) → PyData.eqvAll l l = true
  | [], _ => by simp only [PyData.eqvAll]
  | x :: l, h => by simp only [PyData.eqvAll, h x List.mem_cons_self, eqvAll_rf fun y hy => h y (List.mem_cons_of_mem _ hy), Bool.and_self]
theorem FlB.rf {d : PyData} (h : FlB d) : PyData.eqv d d = true := by
  cases d with
  | none => simp only [PyData.eqv]
  | bool b => rw [eqv_bool]; simp
  | int i => rw [eqv_int]; simp
  | str z => rw [eqv_str]; simp
  | list _ => exact h.elim
  | tuple _ => exact h.elim
  | dict _ => exact h.elim
theorem Bd.rf {w : Nat} : ∀ {k : Nat} {d : PyData}, Bd w k d → PyData.eqv d d = true
  | 0, d, h => FlB.rf h
  | k + 1, d, h => by
    rcases h with h | ⟨ds, rfl | rfl, hl, hd⟩
    · exact h.rf
    · simp only [PyData.eqv]
      exact eqvAll_rf fun x hx => Bd.rf (hd x hx)
    · simp only [PyData.eqv]
      exact eqvAll_rf fun x hx => Bd.rf (hd x hx)
structure Cls (K : PySem.W.Frag) (mg : Str → Option Value) (x f q : Str) (B n i : String) (bm : List Value) (st : Stmt) (C : Addr) : Prop where
  xc : XC K C B n i bm
  here : mg x = some (.ref C)
  fld : PySem.W.findIn K (.ref C) f = some none
  ty : PySem.W.typeIn K (.ref C) = some (.type "type")
  ini : ∃ fI fd, PySem.W.findIn K (.ref C) "__init__" = some (some (.ref fI)) ∧ PySem.W.typeIn K (.ref fI) = some (.type "function") ∧ Fun K "__init__" q st fI fd ∧ Binds K fd ["self", f] []
theorem taker {K : PySem.W.Frag} {C : Addr} {f : Str} (h : PySem.W.findIn K (.ref C) f = some none) : PySem.W.takerIn K C f = some none := by
  unfold PySem.W.takerIn
  rw [h]
  rfl
abbrev bVE : List Value := [.type "ValueError", .type "Exception", .type "BaseException", .type "object"]
abbrev bLE : List Value := [.type "LookupError", .type "Exception", .type "BaseException", .type "object"]
abbrev bRE : List Value := [.type "RuntimeError", .type "Exception", .type "BaseException", .type "object"]
theorem kitN {K : PySem.W.Frag} {mg : Str → Option Value} {nm : Str} {cvs : List Value} {b : Bool} {C : Addr} (hm : mg nm = some (.ref C)) (x : XCx K C) (h : PySem.W.kitAny K (.ref C) cvs = some b) : KitN K mg nm cvs b := fun C' hm' => by
  rw [hm] at hm'
  cases hm'
  exact ⟨x, h⟩
theorem fldN {K : PySem.W.Frag} {mg : Str → Option Value} {nm fld : Str} {C : Addr} (hm : mg nm = some (.ref C)) (x : XCx K C) (h : PySem.W.findIn K (.ref C) fld = some none) : FldN K mg nm fld := fun C' hm' => by
  rw [hm] at hm'
  cases hm'
  exact ⟨x, h⟩
theorem kit_1 {K : PySem.W.Frag} {t c : Value} {b : Bool} (h : PySem.W.kitOne K t c = some b) : PySem.W.kitAny K t [c] = some b := by
  unfold PySem.W.kitAny
  rw [h]
  cases b <;> rfl
theorem kit_2 {K : PySem.W.Frag} {t c c' : Value} {b b' : Bool} (h : PySem.W.kitOne K t c = some b) (h' : PySem.W.kitOne K t c' = some b') : PySem.W.kitAny K t [c, c'] = some (b || b') := by
  unfold PySem.W.kitAny
  rw [h]
  cases b with
  | true => rfl
  | false => exact kit_1 h'
end Dw
namespace Dw
open PySem PySem.Spec PyProof.Rows L2 OgR Evl
theorem fnG_ok {P : Program} {w : World} {K : PySem.W.Frag} {mg : Str → Option Value} {base : Heap} {k : Nat} {f : Addr} {fd : FuncData} {ps : List Str} {sp : Sp} (F : FnOk P w K mg base CX0 k f fd ps sp) : FnG P w K mg base k f fd ps sp :=
  ⟨F.len, fun A outer s H args us vs Q E _ hr => F.run A outer s H args us vs Q E hr⟩
/-- what is new becomes data -/
def nwG (G H H' : Hp) : Hp := fun b => match H b with
  | none => H' b
  | some _ => G b
section
variable {G H H' : Hp}
theorem nwG_at {b : Addr} (h : H b = none) : nwG G H H' b = H' b := by
  unfold nwG
  rw [h]
theorem nwG_old {b : Addr} {o : HO} (h : H b = some o) : nwG G H H' b = G b := by
  unfold nwG
  rw [h]
theorem nwG_up (gh : Ex G H) : Ex G (nwG G H H') := fun b o e => by
  rw [nwG_old (gh b o e)]
  exact e
theorem nwG_in (gh : Ex G H) (eh : Ex H H') : Ex (nwG G H H') H' := fun b o e => by
  cases q : H b with
  | none => rw [nwG_at q] at e; exact e
  | some u => rw [nwG_old q] at e; exact eh b o (gh b o e)
theorem nwG_nw : Nw G (nwG G H H') H := fun b hb => by
  cases q : H b with
  | none => exact .inr (.inl rfl)
  | some u => rw [nwG_old q] at hb; exact .inl hb
end
theorem dpa_one {K : PySem.W.Frag} {G : Hp} {vs : List V} {d : PyData} (h : DpAll K G vs [d]) : ∃ v, vs = [v] ∧ Dp K G v d := by
  cases h with
  | cons a b => cases b; exact ⟨_, rfl, a⟩
theorem dp_sq {K : PySem.W.Frag} {G : Hp} {v : V} {d : PyData} (h : Dp K G v d) (hs : seqd d = true) : ∃ p xs, v = .ref p ∧ SqB K (isT d) G p xs ∧ DpAll K G xs (its d) := by
  cases h with
  | lst h t => exact ⟨_, _, rfl, .inl (.inl h), t⟩
  | tup h t => exact ⟨_, _, rfl, h, t⟩
  | _ => cases hs
/-- a row of ints, given as a tuple or a list -/
def IsR (d : PyData) (ns : List Int) : Prop := d = .tuple (ns.map .int) ∨ d = .list (ns.map .int)
theorem IsR.sq {d : PyData} {ns : List Int} (h : IsR d ns) : seqd d = true ∧ its d = ns.map .int := by
  rcases h with rfl | rfl <;> exact ⟨rfl, rfl⟩
theorem dp_row {K : PySem.W.Frag} {G H : Hp} {v : V} {d : PyData} {ns : List Int} (gh : Ex G H) (h : Dp K G v d) (r : IsR d ns) : ∃ b p, v = .ref p ∧ SqB K b H p (ns.map V.int) := by
  obtain ⟨p, xs, rfl, h1, h2⟩ := dp_sq h r.sq.1
  rw [r.sq.2] at h2
  rw [ints_dpa h2] at h1
  exact ⟨_, p, rfl, h1.ex gh⟩
end Dw
namespace Dw
open PySem PySem.Spec PyProof.Rows L2 OgR Evl
def ForD (ds : List PyData) (g : WG) (wb : WS) (DD : DEnds) (s1 : Dt) : Prop := ∃ Inv : Nat → Dt → Prop, Inv 0 s1 ∧
  (∀ (i : Nat) d s2, ds[i]? = some d → Inv i s2 → g d s2 fun s3 => wb { nx := Inv (i + 1), rt := DD.rt, bk := DD.nx, ct := Inv (i + 1) } s3) ∧ ∀ s2, Inv ds.length s2 → DD.nx s2
theorem wFor_eq {w : WA} {g : WG} {wb : WS} {DD : DEnds} {s : Dt} : wFor w g wb DD s = w s fun ds s1 => ForD ds g wb DD s1 := rfl
theorem forD_by {ds : List PyData} {g : WG} {wb : WS} {DD : DEnds} {s1 : Dt} (Inv : Nat → Dt → Prop) (h0 : Inv 0 s1)
    (hs : ∀ (i : Nat) d s2 (J : Dt → Prop), ds[i]? = some d → Inv i s2 → (∀ s, Inv (i + 1) s → J s) → g d s2 fun s3 => wb { nx := J, rt := DD.rt, bk := DD.nx, ct := J } s3) (hd : ∀ s2, Inv ds.length s2 → DD.nx s2) : ForD ds g wb DD s1 :=
  for_by Inv h0 hs hd
def WhileD (c : WT) (wb : WS) (DD : DEnds) (s : Dt) : Prop := wWhile c wb DD s
theorem wWhile_eq {c : WT} {wb : WS} {DD : DEnds} {s : Dt} : wWhile c wb DD s = WhileD c wb DD s := rfl
theorem whileD_by {c : WT} {wb : WS} {DD : DEnds} {s0 : Dt} (Inv : Nat → Dt → Prop) {m : Nat} (h0 : Inv m s0)
    (h : ∀ m s (J : Dt → Prop), Inv m s → (∀ m' s', m' < m → Inv m' s' → J s') → c s fun b s1 => if b = true then wb { nx := J, rt := DD.rt, bk := DD.nx, ct := J } s1 else DD.nx s1) : WhileD c wb DD s0 :=
  ⟨Inv, ⟨m, h0⟩, fun m s hi => h m s _ hi fun m' s' hm hi' => ⟨m', hm, hi'⟩⟩
def LcD (ds : List PyData) (g : WG) (tt : WT) (te : WE) (vs : List Nat) (s1 : Dt) (Q : List PyData → Dt → Prop) : Prop := ∃ Inv : Nat → List PyData → Cs → Prop, Inv 0 [] s1.c ∧
  (∀ (i : Nat) d acc c, ds[i]? = some d → Inv i acc c → g d ⟨wipeD s1.env vs, c⟩ fun s2 => tt s2 fun b s3 => s3.env = s2.env ∧ if b = true then te s3 fun y s4 => s4.env = s2.env ∧ acc.length < 100000 ∧ Inv (i + 1) (acc ++ [y]) s4.c else Inv (i + 1) acc s3.c) ∧
  ∀ acc c, Inv ds.length acc c → Q acc ⟨s1.env, c⟩
theorem wLc_eq {w : WA} {g : WG} {tt : WT} {te : WE} {vs : List Nat} {s : Dt} {Q : List PyData → Dt → Prop} : wLc w g tt te vs s Q = w s fun ds s1 => LcD ds g tt te vs s1 Q := rfl
theorem look_d (x : PyData) : (DV.d x).look = some x := rfl
theorem look_own (x : List PyData) : (DV.own x).look = some (.list x) := rfl
theorem shpI (i : Int) : Shp (.int i) = True := eq_true rfl
theorem shpB (i : Bool) : Shp (.bool i) = True := eq_true rfl
theorem shpN : Shp .none = True := eq_true rfl
theorem shpS (s : String) : Shp (.str (Str.ofString s)) = True := eq_true (shp_str s)
theorem seqT (ds : List PyData) : seqd (.tuple ds) = true := rfl
theorem seqL (ds : List PyData) : seqd (.list ds) = true := rfl
theorem itsT (ds : List PyData) : its (.tuple ds) = ds := rfl
theorem itsL (ds : List PyData) : its (.list ds) = ds := rfl
theorem lenT (ds : List PyData) : lenD (.tuple ds) = some ds.length := rfl
theorem lenL (ds : List PyData) : lenD (.list ds) = some ds.length := rfl
theorem okFF (d : PyData) : okF false d = true := rfl
theorem at_nat {l : List PyData} {i : Nat} (h : i < l.length) : atI l (i : Int) = l[i]? := by
  unfold atI ixN
  rw [if_pos (by omega), if_pos (by omega)]
  rfl
theorem wGCons_c {w : WG} {u : WGs} {d : PyData} {r : List PyData} {s : Dt} {Q : Dt → Prop} : wGCons w u (d :: r) s Q = w d s fun s' => u r s' Q := by
  refine propext ⟨fun ⟨d', r', e, h⟩ => ?_, fun h => ⟨d, r, rfl, h⟩⟩
  cases e
  exact h
theorem wGNil_n {s : Dt} {Q : Dt → Prop} : wGNil [] s Q = Q s := propext ⟨fun h => h.2, fun h => ⟨rfl, h⟩⟩
end Dw
namespace Dw
open PySem PySem.Spec PyProof.Rows L2 OgR Evl
def AV (K : PySem.W.Frag) (bx : Bx) (G H : Hp) (v : V) : DV → Prop
  | .d x => Dp K G v x
  | .dd kvs => ∃ p ks, v = .ref p ∧ Rd H p (.dT ks) ∧ ¬ bx.has p ∧ Paired (fun a b => a.1 = b.1 ∧ Dp K G a.2 b.2) ks kvs
  | .oth φ => φ G H v ∧ ∀ G' H', Ex G G' → (∀ b o, ¬ bx.has b → H b = some o → soft o = false → H' b = some o) → φ G' H' v
  | _ => False
inductive AVs (K : PySem.W.Frag) (bx : Bx) (G H : Hp) : List V → List DV → Prop
  | nil : AVs K bx G H [] []
  | cons {v x vs xs} (h : AV K bx G H v x) (t : AVs K bx G H vs xs) : AVs K bx G H (v :: vs) (x :: xs)
section
variable {C : Ct} {K : PySem.W.Frag} {bx : Bx} {G H G' H' : Hp} {σ : L2.St}
theorem rd_gr {p : Addr} {o : HO} (h : Rd H p o) (n : ¬ C.bx.has p) (e : Gr C H H') : Rd H' p o := by
  rcases h with h | ⟨od, h⟩
  · exact .inl (e p _ n h)
  · exact .inr ⟨od, e p _ n h⟩
theorem AV.mono {v : V} : ∀ {x : DV}, AV C.K C.bx G H v x → Ex G G' → Gr C H H' → AV C.K C.bx G' H' v x
  | .d x, h, eg, _ => dp_ex eg h
  | .dd kvs, ⟨p, ks, h1, h2, h3, h4⟩, eg, eh => ⟨p, ks, h1, rd_gr h2 h3 eh, h3, paired_mapP h4 fun a b q => ⟨q.1, dp_ex eg q.2⟩⟩
  | .oth φ, h, eg, eh => ⟨h.2 _ _ eg (Kept.of eh), fun G2 H2 e k => h.2 G2 H2 (eg.trans e) ((Kept.of (C := C) eh).trans k)⟩
  | .own _, h, _, _ => h.elim
  | .dic _, h, _, _ => h.elim
  | .dit _, h, _, _ => h.elim
  | .box, h, _, _ => h.elim
  | .ob _, h, _, _ => h.elim
theorem AVs.mono {vs : List V} {xs : List DV} (h : AVs C.K C.bx G H vs xs) (eg : Ex G G') (eh : Gr C H H') : AVs C.K C.bx G' H' vs xs := by
  induction h with
  | nil => exact .nil
  | cons h _ ih => exact .cons (h.mono eg eh) ih
theorem AVs.len {vs : List V} {xs : List DV} (h : AVs K bx G H vs xs) : vs.length = xs.length := by
  induction h with
  | nil => rfl
  | cons _ _ ih => rw [List.length_cons, List.length_cons, ih]
theorem AVs.at {vs : List V} {xs : List DV} (h : AVs K bx G H vs xs) : ∀ {i : Nat} {x : DV}, xs[i]? = some x → ∃ v, vs[i]? = some v ∧ AV K bx G H v x := by
  induction h with
  | nil => intro i x e; simp at e
  | cons h _ ih =>
    intro i x e
    cases i with
    | zero => cases e; exact ⟨_, rfl, h⟩
    | succ i => rw [List.getElem?_cons_succ] at e ⊢; exact ih e
theorem AV.none {v : V} : ∀ {x : DV}, AV K bx G H v x → AV K b0 G H v x
  | .d x, h => h
  | .dd kvs, ⟨p, ks, h1, h2, h3, h4⟩ => ⟨p, ks, h1, h2, (fun z => nomatch z), h4⟩
  | .oth φ, h => ⟨h.1, fun G' H' e k => h.2 G' H' e fun b o _ hb hs => k b o (fun z => nomatch z) hb hs⟩
  | .own _, h => h.elim
  | .dic _, h => h.elim
  | .dit _, h => h.elim
  | .box, h => h.elim
  | .ob _, h => h.elim
theorem AVs.none {vs : List V} {xs : List DV} (h : AVs K bx G H vs xs) : AVs K b0 G H vs xs := by
  induction h with
  | nil => exact .nil
  | cons h _ ih => exact .cons h.none ih
def IY (C : Ct) (t : TA) (w : WXs) : Prop := ∀ G σ H s Q Q', Rel C G σ H s → w s Q →
  (∀ vs xs s' G' H', Q xs s' → Rel C G' σ H' s' → Ex G G' → Gs C σ G H s G' H' s' → AVs C.K C.bx G' H' vs xs → Q' vs H') → t σ H Q'
structure DYs (X : Cx) (C : Ct) (es : List Expr) (t : TA) (w : WXs) : Prop where
  pa : PA X es t
  iy : IY C t w
end
section
variable {X : Cx} {C : Ct} {a b e : Expr} {es : List Expr} {pos p : Pos} {t te : TE} {w we : WE} {tr tA : TA} {wr wA : WXs} {x : Str}
theorem dy_nil : DYs X C [] tNil (fun s Q => Q [] s) := ⟨pa_nil, fun G σ H s Q Q' r q k => k [] [] s G H q r (Ex.refl G) Gs.refl .nil⟩
def wYd (w : WE) (wr : WXs) : WXs := fun s Q => w s fun d s1 => wr s1 fun xs s2 => Q (.d d :: xs) s2
theorem dy_d (h : DE X C e t w) (hr : DYs X C es tr wr) (hs : starEach (e :: es) X.env = (false, eval e X.env) :: starEach es X.env := by rfl) : DYs X C (e :: es) (tCons t tr) (wYd w wr) :=
  ⟨pa_cons h.pe hr.pa hs, fun G σ H s Q Q' r q k => h.ie G σ H s _ _ r q fun v d s1 G1 H1 q1 r1 eg1 g1 p1 => hr.iy G1 σ H1 s1 _ _ r1 q1 fun vs xs s2 G2 H2 q2 r2 eg2 g2 p2 =>
    k (v :: vs) (.d d :: xs) s2 G2 H2 q2 r2 (eg1.trans eg2) (g1.trans g2) (.cons (dp_ex eg2 p1) p2)⟩
/-- a dict that a slot holds -/
def dicAt (s : Dt) (i : Nat) (kvs : List (List Key × PyData)) : Prop := s.env[i]? = some (some (.dit kvs)) ∨ s.env[i]? = some (some (.dd kvs))
theorem dic_av {C : Ct} {G H : Hp} {σ : L2.St} {s : Dt} {i : Nat} {kvs : List (List Key × PyData)} (r : Rel C G σ H s) (h : dicAt s i kvs) : ∃ v, σ[i]? = some (some v) ∧ AV C.K C.bx G H v (.dd kvs) := by
  rcases h with h | h
  · obtain ⟨v, hv, p, ks, rfl, h1, h2, h3, h4⟩ := r.sl i _ h
    exact ⟨_, hv, p, ks, rfl, .inl h1, r.fin.nbx h2, h4⟩
  · obtain ⟨v, hv, p, ks, rfl, h1, h2⟩ := r.sl i _ h
    refine ⟨_, hv, p, ks, rfl, ?_, h1.2, h2⟩
    obtain ⟨(⟨od, h⟩ | ⟨h, _⟩), n⟩ := h1
    · exact .inr ⟨od, h⟩
    · exact .inl h
def wYdic (i : Nat) (wr : WXs) : WXs := fun s Q => ∃ kvs, dicAt s i kvs ∧ wr s fun xs s2 => Q (.dd kvs :: xs) s2
theorem dy_dic (i : Nat) (hr : DYs X C es tr wr) (hv : PE X (.Name x p) (tVar i) := by exact pv _) (hs : starEach (.Name x p :: es) X.env = (false, eval (.Name x p) X.env) :: starEach es X.env := by rfl) : DYs X C (.Name x p :: es) (tCons (tVar i) tr) (wYdic i wr) :=
  ⟨pa_cons hv hr.pa hs, fun G σ H s Q Q' r q k => by
    obtain ⟨kvs, hd, q⟩ := q
    obtain ⟨v, hv, av⟩ := dic_av r hd
    exact ⟨v, hv, hr.iy G σ H s _ _ r q fun vs xs s2 G2 H2 q2 r2 eg2 g2 p2 => k (v :: vs) (.dd kvs :: xs) s2 G2 H2 q2 r2 eg2 g2 (.cons (av.mono eg2 g2.gr) p2)⟩⟩
/-- a function that a slot holds -/
def fnV (P : Program) (wd : World) (K : PySem.W.Frag) (mg : Str → Option Value) (base : Heap) (k : Nat) (g : FP) : Hp → Hp → V → Prop := fun _ _ v => ∃ f fd ps, v = .ref f ∧ FnG P wd K mg base k f fd ps (spP K g) ∧ PySem.W.keepIn K (.ref f) = true ∧ Binds K fd ps []
def wYfn (i : Nat) (φ : Hp → Hp → V → Prop) (wr : WXs) : WXs := fun s Q => s.env[i]? = some (some (.oth φ)) ∧ wr s fun xs s2 => Q (.oth φ :: xs) s2
/-- a def named -/
def wYg (φ : Hp → Hp → V → Prop) (wr : WXs) : WXs := fun s Q => wr s fun xs s2 => Q (.oth φ :: xs) s2
theorem dy_g {k : Nat} {st : Stmt} {ps : List Str} {g : FP} (D : Def X.prog X.w X.K X.mg X.base k x st ps (spP X.K g)) (hg : Gl X x) (hr : DYs X C es tr wr) (hd : (x == ("__debug__" : Str)) = false := by decide) (hs : starEach (.Name x p :: es) X.env = (false, eval (.Name x p) X.env) :: starEach es X.env := by rfl) :
    DYs X C (.Name x p :: es) (tCons (tGl X.mg x) tr) (wYg (fnV X.prog X.w X.K X.mg X.base k g) wr) := by
  obtain ⟨f, fd, G, Fn, b, m⟩ := D.ex
  refine ⟨pa_cons ⟨fun pins s σ H Q I h => (pe_glob (v := .ref f) hg m rfl hd).run pins s σ H Q I (h f m)⟩ hr.pa hs, fun G' σ H s Q Q' r q k a ha => ?_⟩
  rw [m] at ha
  cases ha
  exact hr.iy G' σ H s _ _ r q fun vs xs s2 G2 H2 q2 r2 eg2 g2 p2 => k (.ref f :: vs) (.oth _ :: xs) s2 G2 H2 q2 r2 eg2 g2 (.cons ⟨⟨f, fd, ps, rfl, G, Fn.kp, b⟩, fun _ _ _ _ => ⟨f, fd, ps, rfl, G, Fn.kp, b⟩⟩ p2)
end
abbrev FD := List DV → (PyData → Prop) → Prop
def spD (K : PySem.W.Frag) (F : FD) : Sp := fun vs H Q _ => ∃ G xs R, Ex G H ∧ AVs K b0 G H vs xs ∧ F xs R ∧
  ∀ v d G' H', R d → Ex G G' → Ex H H' → Ex G' H' → Nw G G' H → Dp K G' v d → Q v H'
def wCallD (F : FD) (wA : WXs) : WE := fun s Q => wA s fun xs s1 => F xs fun d => Q d s1
section
variable {P : Program} {wd : World} {K : PySem.W.Frag} {mg : Str → Option Value} {base : Heap}
theorem rel_av {G H : Hp} {N : List Str} {vs : List V} {xs : List DV} (gh : Ex G H) (p : AVs K b0 G H vs xs) : Rel ⟨K, b0, H, G⟩ G (L2.start N vs) H ⟨env0 N xs, 0, []⟩ := by
  refine ⟨⟨gh, Ex.refl G, Nw.refl G H, Gr.refl _ H, Bx.ok0, .nil, fun l hl => nomatch hl⟩, env0_len p.len.symm, fun i x e => ?_, fun i j x y q _ e1 _ m1 => ?_⟩
  · have e' := env0_get e
    obtain ⟨v, hv, av⟩ := p.at e'
    refine ⟨v, start_get hv, ?_⟩
    cases x with
    | d x => exact av
    | dd kvs =>
      obtain ⟨p, ks, rfl, h1, h2, h3⟩ := av
      refine ⟨p, ks, rfl, ⟨?_, h2⟩, h3⟩
      rcases h1 with h1 | ⟨od, h1⟩
      · exact .inr ⟨h1, by show H p ≠ none; rw [h1]; exact Option.some_ne_none _⟩
      · exact .inl ⟨od, h1⟩
    | oth φ => exact ⟨av.1, fun G' H' e k => av.2 G' H' e k⟩
    | own _ => exact av.elim
    | dic _ => exact av.elim
    | dit _ => exact av.elim
    | box => exact av.elim
    | ob _ => exact av.elim
  · have e' := env0_get e1
    obtain ⟨v, hv, av⟩ := p.at e'
    cases x with
    | d x => cases m1
    | dd kvs => cases m1
    | oth φ => cases m1
    | own _ => exact av.elim
    | dic _ => exact av.elim
    | dit _ => exact av.elim
    | box => exact av.elim
    | ob _ => exact av.elim
theorem Def.byD {k : Nat} {x : Str} {st : Stmt} {N ps : List Str} {F : FD} (c : Fct K mg x st ps) (S : FnScope N ps (defScope st)) (hl : ∀ xs R, F xs R → xs.length = ps.length)
    (body : ∀ (f : Addr) (cdv : Value) (A : Around) (outer : List Env) (s : Shared) (H G : Hp) (E : XK) (xs : List DV) (R : PyData → Prop), A.guards = some [] → Room k (A.deeper (envOfC x (defScope st) s.heap.objs.size f cdv)) → F xs R →
      ∃ t w, DSs (cxOf CX0 P wd K mg base N x (defScope st) f cdv A outer s H E).nox ⟨K, b0, H, G⟩ (defBody st) t w ∧ w { nx := fun _ => R .none, rt := fun d _ => R d } ⟨env0 N xs, 0, []⟩) : Def P wd K mg base (k + 1) x st ps (spD K F) := by
  obtain ⟨f, fd, Fn, b, m⟩ := c.ex
  refine ⟨f, fd, fnG_of Fn S (fun vs H Q E h => ?_) (fun cdv A outer s H vs Q E hG hr h => ?_), Fn, b, m⟩
  · obtain ⟨G, xs, R, _, p, hF, _⟩ := h
    rw [p.len]
    exact hl xs R hF
  · obtain ⟨G, xs, R, gh, p, hF, kk⟩ := h
    obtain ⟨t, w, D, hw⟩ := body f cdv A outer s H G E xs R hG hr hF
    refine ⟨t, D.ps, D.is G (L2.start N vs) H _ _ _ (rel_av gh p) hw ⟨fun σ' H' s' G' hn r' e => ?_, fun _ _ _ _ h => h.elim, fun _ _ _ _ h => h.elim, fun v d c' G' H' hR f' e pv => ?_⟩⟩
    · exact kk .non .none G' H' hn e (fun b o hb => r'.fin.hh b o (fun z => nomatch z) hb) r'.fin.gh r'.fin.nw .non
    · exact kk v d G' H' hR e (fun b o hb => f'.hh b o (fun z => nomatch z) hb) f'.gh f'.nw pv
end
section
variable {X : Cx} {C : Ct} {e : Expr} {es : List Expr} {pos p : Pos} {tA : TA} {wA : WXs} {x : Str} {st : Stmt} {ps : List Str} {k : Nat}
theorem ie_callD {F : FD} (h : IY C tA wA) : IE C (tCall (spD C.K F) [] E0 tA) (wCallD F wA) := fun G σ H s Q Q' r q k =>
  h G σ H s _ _ r q fun vs xs s1 G1 H1 q1 r1 eg eh p => ⟨G1, xs, _, r1.fin.gh, by rw [List.append_nil]; exact p.none, q1, fun v d G2 H2 q2 eg2 eh2 gh nw pd =>
    k v d s1 G2 H2 q2 (r1.grow eg2 eh2 gh nw) (eg.trans eg2) (eh.trans (.grow eh2 nw)) pd⟩
theorem de_cD {F : FD} (D : Def X.prog X.w X.K X.mg X.base k x st ps (spD C.K F)) (hG : X.A.guards = some []) (hr : Room k X.A) (hg : Gl X x)
    (ha : DYs X C (e :: es) tA wA) (hdb : (x == ("__debug__" : Str)) = false := by decide) (he : starEach (e :: es) X.env = (false, eval e X.env) :: starEach es X.env := by rfl) (hpl : (backTo pos (starEach es X.env)).any (·.1) = false := by rfl) :
    DE X C (.Call (.Name x p) (e :: es) [] pos) (tCall (spD C.K F) [] E0 tA) (wCallD F wA) := by
  obtain ⟨f, fd, G, Fn, b, m⟩ := D.ex
  exact ⟨pe_callG G hG hr hg m Fn.kp b ha.pa hdb he hpl, ie_callD ha.iy⟩
def tCallV (P : Program) (wd : World) (K : PySem.W.Frag) (mg : Str → Option Value) (base : Heap) (k : Nat) (g : FP) (i : Nat) (t : TA) : TE := fun σ H Q => ∃ f fd ps, σ[i]? = some (some (.ref f)) ∧ FnG P wd K mg base k f fd ps (spP K g) ∧ PySem.W.keepIn K (.ref f) = true ∧ Binds K fd ps [] ∧ t σ H fun vs H1 => spP K g vs H1 Q E0
theorem pe_callV {i : Nat} {g : FP} (hG : X.A.guards = some []) (hr : Room k X.A) (hN : X.N[i]? = some x) (hv : Vis X.env.scope x) (ha : PA X (e :: es) tA)
    (hdb : (x == ("__debug__" : Str)) = false := by decide) (hcd : (x == ("__classdict__" : Str)) = false := by decide)
    (he : starEach (e :: es) X.env = (false, eval e X.env) :: starEach es X.env := by rfl) (hpl : (backTo pos (starEach es X.env)).any (·.1) = false := by rfl) :
    PE X (.Call (.Name x p) (e :: es) [] pos) (tCallV X.prog X.w X.K X.mg X.base k g i tA) := by
  refine ⟨fun pins s σ H Q I h => ?_⟩
  obtain ⟨f, fd, ps, hs, F, hk, hb, ht⟩ := h
  refine wpAny_Call_Name_kw (thn ((pe_var (pos := p) hN hv hdb hcd).run pins s σ H (fun v H1 => v = .ref f ∧ H1 = H) I ⟨.ref f, hs, rfl, rfl⟩) fun u s1 ⟨v, H1, I1, r1, q1⟩ => ?_)
  obtain ⟨rfl, rfl⟩ := q1
  cases r1
  refine PySem.W.callWith_K (h₀ := X.base) I.ok.mod.kin hk (thn (ha.run pos pins s1 σ _ _ I1 ht) fun us s2 ⟨vs, H2, I2, r, q⟩ => ⟨I2.kIn, ?_⟩) he hpl
  have hl : us.length = ps.length := by rw [← r.length]; exact F.1 _ _ _ _ q
  have hb' := hb s2 us I2.kIn (by rw [List.append_nil]; exact hl)
  rw [List.append_nil] at hb'
  refine wpAny_call (codeAny_mono (F.2 X.A X.stack s2 H2 ⟨us, []⟩ us vs Q E0 hG hr I2.env0 hb' r q) ?_)
  rintro (e | _ | _ | _ | u) s' hq
  all_goals first
    | exact I2.after hq
    | exact False.elim hq
def wCallV (i : Nat) (φ : Hp → Hp → V → Prop) (g : FP) (wA : WA) : WE := fun s Q => s.env[i]? = some (some (.oth φ)) ∧ wA s fun ds s1 => g ds fun d => Q d s1
theorem de_callV (i : Nat) {g : FP} {tA : TA} {wA : WA} (k : Nat) {P : Program} {wd : World} {mg : Str → Option Value} {base : Heap} (hK : X.K = C.K) (hG : X.A.guards = some []) (hr : Room k X.A) (ha : DA X C (e :: es) tA wA) (hP : X.prog = P := by rfl) (hw : X.w = wd := by rfl) (hmg : X.mg = mg := by rfl) (hba : X.base = base := by rfl) (hN : X.N[i]? = some x := by rfl) (hv : Vis X.env.scope x := by first | exact Or.inl rfl | exact Or.inr (Or.inl rfl) | exact Or.inr (Or.inr rfl))
    (hdb : (x == ("__debug__" : Str)) = false := by decide) (hcd : (x == ("__classdict__" : Str)) = false := by decide)
    (he : starEach (e :: es) X.env = (false, eval e X.env) :: starEach es X.env := by rfl) (hpl : (backTo pos (starEach es X.env)).any (·.1) = false := by rfl) :
    DE X C (.Call (.Name x p) (e :: es) [] pos) (tCallV P wd C.K mg base k g i tA) (wCallV i (fnV P wd C.K mg base k g) g wA) := by
  subst hP hw hmg hba
  exact ⟨hK ▸ pe_callV hG hr hN hv ha.pa hdb hcd he hpl, fun G σ H s Q Q' r q kk => by
    obtain ⟨hd, q⟩ := q
    obtain ⟨v, hv, av⟩ := r.sl i _ hd
    obtain ⟨f, fd, ps, rfl, F, hk, hb⟩ := av.now
    exact ⟨f, fd, ps, hv, F, hk, hb, ha.ia G σ H s _ _ r q fun vs ds s1 G1 H1 q1 r1 eg eh p => ⟨G1, ds, _, r1.fin.gh, p, q1, fun v d G2 H2 q2 eg2 eh2 gh nw pd =>
      kk v d s1 G2 H2 q2 (r1.grow eg2 eh2 gh nw) (eg.trans eg2) (eh.trans (.grow eh2 nw)) pd⟩⟩⟩
end
end Dw
namespace Dw
open PySem PySem.Spec PyProof.Rows L2 OgR Evl
section
variable {X : Cx}
/-- the store of a comprehension, keys of either kind -/
theorem dset {pins : List (Addr × Obj)} {σ : L2.St} {H H' : Hp} {s : Shared} {a : Addr} {y v : V} {u r : Value} {E : Value → Shared → Prop} {Q : Unit → Shared → Prop}
    (room : X.A.units < cLine) (I : Inv X pins σ H s) (g : DPut H a y v H') (ry : RelV y u) (rv : RelV v r) (go : ∀ s', Inv X pins σ H' s' → Q () s') : wpAny (model X.prog X.w) X.A (dictSet a u r) Q E s := by
  rcases g with ⟨kvs, k, at_, rfl, small, rfl⟩ | ⟨kvs, k, b, at_, rfl, key, small, rfl⟩
  · exact d_dictSet I at_ small ry rv go
  · obtain rfl : u = Value.ref b := ry
    obtain ⟨z, nm, xs, rel, dd⟩ := dt_of I.hok at_
    have more := length_putK kvs k v
    refine wpAny_dictSet_heap (hsz := by rw [← Paired.length rel]; exact z) room (key_of I.hok key) dd fun h' dd' same => go _ ?_
    obtain ⟨q, es, ep, c1, c2, c3, c4, _, c5⟩ := dd'
    refine d_write I (by rw [at_]; exact True.intro) same ⟨q, c1⟩ ⟨by omega, nm, _, (rel.put k key rv).keeps fun c ys ec => ?_, q, es, ep, c1, c2, c3, c4, c5⟩
    rw [upd_ne (ne_of ec at_ fun z => nomatch z)]
    exact ec
/-- the loop of the block, where the i-th item is next -/
structure Wait (Y : Cx) (σ : L2.St) (fp : List Addr) (tn : Nat → Heap → Prop) (i : Nat) (H : Hp) (s : Shared) : Prop where
  inv : Inv Y [] σ H s
  now : tn i s.heap
  out : ∀ b ∈ fp, H b = none
def tDcT (wi : TI) (g : TG) (tk tv : TE) (vs : List Nat) : TE := fun σ H Q => wi σ H fun J H1 => ∀ D, H1 D = none → ∃ W : Nat → Nat → Hp → Prop, (∃ m, W 0 m (upd H1 D (.dT []))) ∧ ∀ i m H2, W i m H2 →
  (J.stop i H2 ∧ Q (.ref D) H2) ∨ (J.go i H2 ∧ ∀ x H3, J.yld i H2 x H3 → g x (wipe σ vs) H3 fun σ4 H4 => wipe σ4 vs = wipe σ vs ∧ tk σ4 H4 fun y H5 => tv σ4 H5 fun z H6 => ∃ H7 m', DPut H6 D y z H7 ∧ m' < m ∧ W (i + 1) m' H7)
variable {s0 : Shared} {H0 : Hp} {scope : Scope} {ce : Env} {fp : List Addr} {it D : Addr} {tn : Nat → Heap → Prop} {J : It} {own : List (Str × Nat)} {σ : L2.St} {kx vx tg iter : Expr} {pos : Pos} {g : TG} {tk tv : TE} {Q : VK}
theorem Wait.fpok {i : Nat} {H : Hp} {s : Shared} {σ : L2.St} (a : Wait (X.blk s0 H0 scope ce fp) σ fp tn i H s) : ∀ b ∈ fp, FpOk (X.blk s0 H0 scope ce fp) [] H b := fun b hb =>
  ⟨a.out b hb, (a.inv.ok.exf b hb).1, a.inv.ok.exfs b hb, .inl hb, (a.inv.ok.exf b hb).2, fun p hp => nomatch (show p ∈ ([] : List (Addr × Obj)) from hp)⟩
theorem block_loop (calm : X.calm = true) (room : X.A.units < cLine) (T : Turn X.prog X.w X.K tg J fp it tn) (pg : PG (X.blk s0 H0 scope ce fp) tg g) (pk : PE (X.blk s0 H0 scope ce fp) kx tk) (pv : PE (X.blk s0 H0 scope ce fp) vx tv)
    {W : Nat → Nat → Hp → Prop} (turn : ∀ i m H2, W i m H2 → (J.stop i H2 ∧ Q (.ref D) H2) ∨ (J.go i H2 ∧ ∀ x H3, J.yld i H2 x H3 → g x (wipe σ (own.map (·.2))) H3 fun σ4 H4 => wipe σ4 (own.map (·.2)) = wipe σ (own.map (·.2)) ∧ tk σ4 H4 fun y H5 => tv σ4 H5 fun z H6 => ∃ H7 m', DPut H6 D y z H7 ∧ m' < m ∧ W (i + 1) m' H7))
    {R : Result → Shared → Prop} (last : ∀ H s, Inv (X.blk s0 H0 scope ce fp) [] (wipe σ (own.map (·.2))) H s → Q (.ref D) H → R (.ok .next) s)
    {m : Nat} {H : Hp} {s : Shared} (a : Wait (X.blk s0 H0 scope ce fp) (wipe σ (own.map (·.2))) fp tn 0 H s) (w : W 0 m H) :
    codeAny (model X.prog X.w) X.A (.compLoop (.DictComp kx vx [⟨tg, iter, [], 0⟩] scope pos) 0 (.ref it) (.ref D) ce) R s := by
  refine compLoop_anyD (fun n s' => ∃ i H', Wait (X.blk s0 H0 scope ce fp) (wipe σ (own.map (·.2))) fp tn i H' s' ∧ W i n H') (fun n s1 ⟨i, H1, a1, w1⟩ => ?_) m ⟨0, H, a, w⟩
  rcases turn i n H1 w1 with ⟨ends, fin⟩ | ⟨goes, each⟩
  · exact thnF (T.done (X.blk s0 H0 scope ce fp) rfl rfl rfl calm i [] s1 _ H1 _ a1.inv a1.fpok a1.now ends) fun r s2 ⟨no, I2⟩ => by
      subst no
      exact last H1 s2 I2 fin
  · refine thnF (T.item (X.blk s0 H0 scope ce fp) rfl rfl rfl calm i [] s1 _ H1 _ a1.inv a1.fpok a1.now goes) fun r s2 ⟨u, yes, more⟩ => ?_
    subst yes
    refine thnF more fun _ s3 ⟨x, H3, I3, rx, yd, now3, out3⟩ => ?_
    have a3 : Wait (X.blk s0 H0 scope ce fp) (wipe σ (own.map (·.2))) fp tn (i + 1) H3 s3 := ⟨I3, now3, out3⟩
    have P3 := I3.pinned a3.fpok (T.obj _ _ now3)
    refine thnF (pg.run _ s3 _ H3 x u _ P3 rx (each x H3 yd)) fun _ s4 ⟨σ4, H4, I4, same, q4⟩ => ?_
    refine wpAny_tests_nil ?_
    rw [if_pos rfl]
    refine thnF (pk.run _ s4 σ4 H4 _ I4 q4) fun ky s5 ⟨y, H5, I5, ry, q5⟩ => ?_
    refine thnF (pv.run _ s5 σ4 H5 _ I5 q5) fun vy s6 ⟨z, H6, I6, rz, H7, m', put, less, w7⟩ => ?_
    refine dset (X := X.blk s0 H0 scope ce fp) room I6 put ry rz fun s7 I7 => ⟨m', less, i + 1, H7, ?_, w7⟩
    have held : ∀ b ∈ fp, ∀ o, s3.heap.get? b = some o → s7.heap.get? b = some o ∧ H7 b = none := fun b hb o e => by
      have z := I7.pin (b, o) (List.mem_append_right _ (List.mem_append_right _ (mem_pinsAt hb e)))
      exact ⟨z.1, z.2.1⟩
    refine ⟨(I7.unpinned (pins := [])).weak (by rw [← same, wipe_length]) fun j v e => ?_, T.keep _ _ _ now3 fun b hb o e => (held b hb o e).1, fun b hb => ?_⟩
    · rw [← same] at e
      exact (wipe_some e).1
    · obtain ⟨o, e, _⟩ := T.obj _ _ now3 b hb
      exact (held b hb o e).2
/-- the whole comprehension -/
theorem pe_dcT {wi : TI} (calm : X.calm = true) (nd : X.N.Nodup) (room : X.A.units < cLine) (pi : PI X tg iter wi) (ok : BlkOk X.N X.env.scope scope own)
    (pg : ∀ s H C cl fp, PG (X.blk s H scope (compEnvC scope cl C X.env) fp) tg g) (pk : ∀ s H C cl fp, PE (X.blk s H scope (compEnvC scope cl C X.env) fp) kx tk) (pv : ∀ s H C cl fp, PE (X.blk s H scope (compEnvC scope cl C X.env) fp) vx tv)
    (fold : ∀ x, foldedSetIterable iter X.env x = pure x := by intro _; rfl) : PE X (.DictComp kx vx [⟨tg, iter, [], 0⟩] scope pos) (tDcT wi g tk tv (own.map (·.2))) := by
  refine ⟨fun pins s σ H Q I h => ?_⟩
  have clo := closure_ok (scope := scope) (env := X.env) fun y hy e => (ok.free y hy e).elim (fun k => I.ok.has _ (.inl k)) fun k => I.ok.has _ (.inr k)
  rw [arm_eval_DictComp]
  refine wpAny_comprehension_free (use := none) rfl fold clo ok.kind (fun y hy e => (ok.uniq y hy).trans (congrArg some e)) (thn (pi.run pins s σ H _ I h) fun _ _ came => thn came fun itv s2 ⟨it, fp, tn, J, H2, e, I2, T, now, far, q⟩ => ?_)
  subst e
  obtain ⟨W, ⟨m, w0⟩, turn⟩ := q s2.heap.objs.size (I2.hok.fresh (Nat.le_refl _))
  refine wpAny_newObj_type (newEnv_comp ?_)
  have I3 := I2.laid (a := s2.heap.objs.size) (o := .dT []) (t' := s2.toks) (fun b o e => Heap.get?_push_of_some { cls := .type "dict", data := .dict #[] } e) (Nat.le_refl _) (dt_empty s2.heap I2.big)
  have old : ∀ b ∈ fp, b < s2.heap.objs.size := fun b hb => let ⟨_, e, _⟩ := T.obj _ _ now b hb; Heap.lt_size e
  have grows : s2.heap.objs.size < (s2.heap.push ({ cls := .type "dict", data := .dict #[] } : Obj)).objs.size := by rw [Heap.size_push]; exact Nat.lt_succ_self _
  have far3 : ∀ b ∈ fp, FpOk X pins (upd H2 s2.heap.objs.size (.dT [])) b ∧ b < (s2.heap.push ({ cls := .type "dict", data := .dict #[] } : Obj)).objs.size := fun b hb =>
    ⟨⟨by rw [upd_ne (Nat.ne_of_lt (old b hb))]; exact (far b hb).1, (far b hb).2⟩, Nat.lt_trans (old b hb) grows⟩
  have now3 : tn 0 (s2.heap.push { cls := .type "dict", data := .dict #[] }) := T.keep _ _ _ now fun b _ o e => Heap.get?_push_of_some _ e
  generalize eH : upd H2 s2.heap.objs.size (.dT []) = H3 at I3 far3 w0
  generalize eh : s2.heap.push ({ cls := .type "dict", data := .dict #[] } : Obj) = h3 at I3 far3 now3 ⊢
  have B := block_start I3 ok nd far3
  have now4 : tn 0 (pushCells (h3.push { cls := .type "dict", data := .dict #[] }) scope.names) := T.keep _ _ _ now3 fun b _ o e => pushCells_keeps _ _ _ _ (Heap.get?_push_of_some _ e)
  have done := block_loop (iter := iter) (pos := pos) (Q := Q) calm room T (pg _ _ _ _ _) (pk _ _ _ _ _) (pv _ _ _ _ _) turn
    (R := compPost (model X.prog X.w) X.A X.xe none (EP X pins σ Q) (.ref s2.heap.objs.size) h3.objs.size) (fun H5 s5 I5 fin => ?_) ⟨B, now4, fun b hb => (far3 b hb).1.1⟩ w0
  · exact codeAny_compStart_dict done (T.self X.A 0 _ _ _ now4 done)
  · have back : Inv X pins σ H5 s5 := I3.call' (ch := fp) I5.os I5.base I5.hok I5.bare fun b hb => ⟨(far3 b hb).1.2.2.2.1, (far3 b hb).1.2.1, (far3 b hb).1.2.2.2.2.1, (far3 b hb).1.2.2.2.2.2⟩
    obtain ⟨mm, names, _⟩ := I5.loc
    obtain ⟨f0, f1, f2, f3, f4, f5⟩ := I3.fpOk (b := h3.objs.size) (H' := H5) (Nat.le_refl _) I5.free
    exact ⟨mm, names, fun h' sb => ⟨.ref s2.heap.objs.size, H5, back.turned (t' := s5.toks) (fun b o hb e => (sb.2 b hb).trans e) f0 f1 f3 f4 f5, rfl, fin⟩⟩
end
end Dw
namespace Dw
open PySem PySem.Spec PyProof.Rows L2 OgR Evl
abbrev KVs := List (List Key × PyData)
section
variable {C : Ct} {G H : Hp} {σ : L2.St} {s : Dt}
/-- an object that no slot holds, and that is no data, is changed -/
theorem Rel.upd_out (r : Rel C G σ H s) {D : Addr} {u o : HO} (gD : G D = none) (h0D : C.H0 D = none) (hD : H D = some u) (su : soft u = true) (nf : ∀ od w, u ≠ .frz od w) (ns : ∀ (i : Nat) x, s.env[i]? = some (some x) → x.mut = true → σ[i]? ≠ some (some (.ref D))) :
    Rel C G σ (upd H D o) s := by
  have nbD : ¬ C.bx.has D := r.fin.nbx h0D
  have hm : ∀ b, b ≠ D → upd H D o b = H b := fun b hb => upd_ne hb
  refine ⟨⟨fun b w hb => ?_, r.fin.g0, r.fin.nw, fun b w n hb => ?_, r.fin.ok, r.fin.obu (Ex.refl _) h0D (fun b o n e => by rw [hm b n]; exact e), fun l hl => ?_⟩, r.len, fun j y ej => ?_, r.dis⟩
  · rw [hm b (fun z => by rw [z, gD] at hb; cases hb)]
    exact r.fin.gh b w hb
  · rw [hm b (fun z => by rw [z, h0D] at hb; cases hb)]
    exact r.fin.hh b w n hb
  · exact ⟨(r.fin.bx l hl).1.updS hD su (fun z => nbD (by rw [← z]; exact hl)), (r.fin.bx l hl).2⟩
  · obtain ⟨v', hv', rv⟩ := r.sl j y ej
    refine ⟨v', hv', ?_⟩
    cases y with
    | d _ => exact rv
    | box => exact rv
    | ob _ => exact rv
    | own ds2 =>
      obtain ⟨p2, xs2, a1, a2, a3, a4, a5⟩ := rv
      exact ⟨p2, xs2, a1, by rw [hm p2 (fun z => ns j _ ej rfl (by rw [hv', a1, z]))]; exact a2, a3, a4, a5⟩
    | dic ds2 =>
      obtain ⟨p2, xs2, a1, a2, a3, a4, a5⟩ := rv
      exact ⟨p2, xs2, a1, by rw [hm p2 (fun z => ns j _ ej rfl (by rw [hv', a1, z]))]; exact a2, a3, a4, a5⟩
    | dit ds2 =>
      obtain ⟨p2, xs2, a1, a2, a3, a4, a5⟩ := rv
      exact ⟨p2, xs2, a1, by rw [hm p2 (fun z => ns j _ ej rfl (by rw [hv', a1, z]))]; exact a2, a3, a4, a5⟩
    | oth φ => exact Oth.step (φ := φ) rv (Ex.refl G) (Kept.upd hD su)
    | dd ds2 =>
      obtain ⟨p2, xs2, a1, a2, a5⟩ := rv
      exact ⟨p2, xs2, a1, a2.upd hD h0D nf, a5⟩
end
abbrev WN := Dt → (KVs → Dt → Prop) → Prop
def IN (C : Ct) (t : TE) (w : WN) : Prop := ∀ G σ H s Q Q', Rel C G σ H s → w s Q →
  (∀ p ks kvs s' G' H', Q kvs s' → Rel C G' σ H' s' → Ex G G' → Gs C σ G H s G' H' s' → H p = none → H' p = some (.dT ks) → G' p = none → PK2 C.K G' ks kvs → (∀ (i : Nat) x, s'.env[i]? = some (some x) → x.mut = true → σ[i]? ≠ some (some (.ref p))) → Q' (.ref p) H') → t σ H Q'
structure DN (X : Cx) (C : Ct) (e : Expr) (t : TE) (w : WN) : Prop where
  pe : PE X e t
  iN : IN C t w
def DcD (ds : List PyData) (g : WG) (wA : WA) (wv : WE) (vs : List Nat) (s1 : Dt) (Q : KVs → Dt → Prop) : Prop := ∃ Inv : Nat → KVs → Cs → Prop, Inv 0 [] s1.c ∧
  (∀ (i : Nat) d kvs c, ds[i]? = some d → Inv i kvs c → g d ⟨wipeD s1.env vs, c⟩ fun s2 => wA s2 fun kd s3 => kd.length ≤ 100000 ∧ wv s3 fun y s4 => s4.env = s2.env ∧ ∃ k, keysD kd = some k ∧ kvs.length < 100000 ∧ Inv (i + 1) (putG kvs k y) s4.c) ∧
  ∀ kvs c, Inv ds.length kvs c → Q kvs ⟨s1.env, c⟩
def wDcT (wI : WA) (g : WG) (wA : WA) (wv : WE) (vs : List Nat) : WN := fun s Q => wI s fun ds s1 => DcD ds g wA wv vs s1 Q
section
variable {X : Cx} {C : Ct}
theorem in_dc {wi : TI} {wI : WA} {g : TG} {ks vs : List Nat} {wg : WG} {tA : TA} {wA : WA} {tv : TE} {wv : WE} (hk : ∀ k ∈ ks, k ∈ vs) (hi : II C wi wI) (hg : IG C g ks wg) (hA : IA C tA wA) (he : IE C tv wv) : IN C (tDcT wi g (tTup tA) tv vs) (wDcT wI wg wA wv vs) := fun G σ H s Q Q' r q k =>
  hi G σ H s _ _ r q fun J ds s1 G1 H1 q1 r1 eg eh itd D hD => by
    obtain ⟨Inv, h0, hs, hd⟩ := q1
    have hHD : H D = none := by
      cases z : H D with
      | none => rfl
      | some o => exact absurd hD (eh.dom D (by rw [z]; exact Option.some_ne_none _))
    have h0D : C.H0 D = none := r.fin.h0 hHD
    have nbD : ¬ C.bx.has D := r.fin.nbx h0D
    refine ⟨fun i m H' => m = ds.length - i ∧ i ≤ ds.length ∧ ∃ G' acc xs c', Ex G1 G' ∧ Rel C G' σ H' ⟨s1.env, c'⟩ ∧ Gs C σ G1 H1 s1 G' H' ⟨s1.env, c'⟩ ∧ H' D = some (.dT xs) ∧ G' D = none ∧ PK2 C.K G' xs acc ∧ Inv i acc c', ⟨ds.length, by simp, Nat.zero_le _, G1, [], [], s1.c, Ex.refl G1, r1.aside (Ex.new hD), .side (Ex.new hD), upd_same, r1.gnone hD, .nil, h0⟩, ?_⟩
    rintro i m H' ⟨rfl, hi, G', acc, xs, c', e', r', g', hHd, hGd, dacc, inv⟩
    obtain ⟨go, stop⟩ := itd G' H' e' r'.fin.gh
    by_cases hlt : i < ds.length
    · have hd1 : ds[i]? = some ds[i] := List.getElem?_eq_getElem hlt
      obtain ⟨g1, g2⟩ := go i _ hd1
      refine .inr ⟨g1, fun x H3 y => ?_⟩
      obtain ⟨G3, b1, b2, b3, b4, b5⟩ := g2 x H3 y
      have r3 := r'.grow b1 b2 b3 b4
      have gs3 : Gs C σ G' H' ⟨s1.env, c'⟩ G3 H3 ⟨s1.env, c'⟩ := .grow b2 b4
      have e3 := e'.trans b1
      have nslot : ∀ (j : Nat) y, s1.env[j]? = some (some y) → y.mut = true → σ[j]? ≠ some (some (.ref D)) := fun j y ej m => r1.notslot hD j y ej m
      have hG3 : G3 D = none := gs3.nk D _ hGd nbD hHd rfl nslot
      refine hg G3 (L2.wipe σ vs) H3 ⟨wipeD s1.env vs, c'⟩ x _ _ _ (r3.wipe vs) b5 (hs i _ acc c' hd1 inv) fun σ4 s4 q4 r4 l4 f4 => ⟨wipe_of l4 f4 hk, hA G3 σ4 H3 s4 _ _ r4 q4 fun kvs5 kd s5 G5 H5 q5 r5 eg5 gs5 pk5 => ?_⟩
      refine ⟨by rw [dpa_len pk5]; exact sz_of q5.1, fun T hT => ?_⟩
      have rT := r5.aside (Ex.new (o := .tup kvs5) hT)
      refine he G5 σ4 _ s5 _ _ rT q5.2 fun v y s6 G6 H6 q6 r6 eg6 gs6 pv => ?_
      obtain ⟨he6, kk, hk6, hl, q6⟩ := q6
      have gsT : Gs C σ4 G3 H3 s4 G5 (upd H5 T (.tup kvs5)) s5 := gs5.trans (.side (Ex.new hT))
      have gs7 := gsT.trans gs6
      have eg7 := eg5.trans eg6
      have rr := r3.back r4 r6 he6 eg7 gs7
      have hD6 : H6 D = some (.dT xs) := gs7.gr D _ nbD (b2 D _ hHd)
      have gD6 : G6 D = none := gs7.keep r4 r6 he6 hG3 nbD (b2 D _ hHd) rfl
      have nbT : ¬ C.bx.has T := rT.fin.nbx (r5.fin.h0 hT)
      have hT6 : H6 T = some (.tup (kk.map kV)) := by
        rw [← keys_v pk5 hk6]
        exact gs6.gr T _ nbT upd_same
      have dacc6 := paired_mapP dacc fun a b q => (⟨q.1, dp_ex (b1.trans eg7) q.2⟩ : a.1 = b.1 ∧ Dp C.K G6 a.2 b.2)
      refine ⟨_, ds.length - (i + 1), DPut.t hD6 hT6 (sz_lt (by rw [len_pair dacc6]; exact hl)), by omega, rfl, hlt, G6, putG acc kk y, putK xs kk v, s6.c, e3.trans eg7, ?_, ?_, upd_same, gD6, put_pair kk pv dacc6, q6⟩
      · exact rr.upd_out gD6 h0D hD6 rfl (fun _ _ z => by cases z) nslot
      · have gg := g'.trans (gs3.trans (s2 := ⟨s1.env, s6.c⟩) ⟨gs7.gr, gs7.dom, fun b o h1 hb h2 hn h3 => gs7.keep r4 r6 he6 h1 hb h2 hn, fun i x e m => ⟨x, e, m⟩⟩)
        refine ⟨fun b o n hb => ?_, fun b hb => ?_, gg.nk, gg.ks⟩
        · rw [upd_ne (fun z => by rw [z, hD] at hb; cases hb)]
          exact gg.gr b o n hb
        · by_cases z : b = D
          · rw [z, upd_same]
            exact Option.some_ne_none _
          · rw [upd_ne z]
            exact gg.dom b hb
    · have e : i = ds.length := by omega
      subst e
      exact .inl ⟨stop, k D xs acc ⟨s1.env, c'⟩ G' H' (hd acc c' inv) r' (eg.trans e') (eh.trans g') hHD hHd hGd dacc fun j y ej m => r1.notslot hD j y ej m⟩
variable {vx tg iter : Expr} {es : List Expr} {kk : Nat} {p2 pos : Pos} {scope : Scope} {own : List (Str × Nat)} {wi : TI} {wI : WA} {g : TG} {ks : List Nat} {wg : WG} {tA : TA} {wA : WA} {tv : TE} {wv : WE}
theorem dn_dc (hc : X.calm = true) (hN : X.N.Nodup) (hu : X.A.units < cLine) (hi : DI X C tg iter wi wI) (ok : BlkOk X.N X.env.scope scope own)
    (hg : ∀ (s : Shared) (H : Hp) (A : Addr) (cl : List (Str × Addr)) (fp : List Addr), DG (X.blk s H scope (compEnvC scope cl A X.env) fp) C tg g ks wg)
    (hA : ∀ (s : Shared) (H : Hp) (A : Addr) (cl : List (Str × Addr)) (fp : List Addr), DA (X.blk s H scope (compEnvC scope cl A X.env) fp) C es tA wA)
    (he : ∀ (s : Shared) (H : Hp) (A : Addr) (cl : List (Str × Addr)) (fp : List Addr), DE (X.blk s H scope (compEnvC scope cl A X.env) fp) C vx tv wv) (hk : ∀ k ∈ ks, k ∈ own.map (·.2) := by decide) (hs : ∀ x, foldedSetIterable iter X.env x = Pure.pure x := by intro _; rfl) :
    DN X C (.DictComp (.Tuple es kk p2) vx [⟨tg, iter, [], 0⟩] scope pos) (tDcT wi g (tTup tA) tv (own.map (·.2))) (wDcT wI wg wA wv (own.map (·.2))) :=
  ⟨pe_dcT hc hN hu hi.pi ok (fun s H A cl fp => (hg s H A cl fp).pg) (fun s H A cl fp => pe_tup (hA s H A cl fp).pa) (fun s H A cl fp => (he s H A cl fp).pe) hs, in_dc hk hi.ii (hg {} (fun _ => none) 0 [] []).ig (hA {} (fun _ => none) 0 [] []).ia (he {} (fun _ => none) 0 [] []).ie⟩
end
abbrev FN := List DV → (KVs → Prop) → Prop
def spN (K : PySem.W.Frag) (F : FN) : Sp := fun vs H Q _ => ∃ G xs R, Ex G H ∧ AVs K b0 G H vs xs ∧ F xs R ∧
  ∀ p ks kvs G' H', R kvs → Ex G G' → Ex H H' → Ex G' H' → Nw G G' H → H p = none → H' p = some (.dT ks) → G' p = none → PK2 K G' ks kvs → Q (.ref p) H'
theorem Def.newD {P : Program} {wd : World} {K : PySem.W.Frag} {mg : Str → Option Value} {base : Heap} {k : Nat} {x : Str} {st : Stmt} {N ps : List Str} {F : FN} (c : Fct K mg x st ps) (S : FnScope N ps (defScope st)) {e : Expr} {pos : Pos} (hb : defBody st = [.Return (some e) pos]) (hl : ∀ xs R, F xs R → xs.length = ps.length)
    (body : ∀ (f : Addr) (cdv : Value) (A : Around) (outer : List Env) (s : Shared) (H G : Hp) (E : XK) (xs : List DV) (R : KVs → Prop), A.guards = some [] → Room k (A.deeper (envOfC x (defScope st) s.heap.objs.size f cdv)) → F xs R →
      ∃ t w, DN (cxOf CX0 P wd K mg base N x (defScope st) f cdv A outer s H E).nox ⟨K, b0, H, G⟩ e t w ∧ w ⟨env0 N xs, 0, []⟩ fun kvs _ => R kvs) : Def P wd K mg base (k + 1) x st ps (spN K F) := by
  obtain ⟨f, fd, Fn, b, m⟩ := c.ex
  refine ⟨f, fd, fnG_of Fn S (fun vs H Q E h => ?_) (fun cdv A outer s H vs Q E hG hr h => ?_), Fn, b, m⟩
  · obtain ⟨G, xs, R, _, p, hF, _⟩ := h
    rw [p.len]
    exact hl xs R hF
  · obtain ⟨G, xs, R, gh, p, hF, kk⟩ := h
    obtain ⟨t, w, D, hw⟩ := body f cdv A outer s H G E xs R hG hr hF
    rw [hb]
    refine ⟨_, pss_one (ps_ret D.pe), D.iN G (L2.start N vs) H _ _ _ (rel_av gh p) hw fun p ks kvs s' G' H' hR r' e g h1 h2 h3 h4 h5 => ?_⟩
    exact kk p ks kvs G' H' hR e (fun b o hb => r'.fin.hh b o (fun z => nomatch z) hb) r'.fin.gh r'.fin.nw h1 h2 h3 h4
/-- name = f(..), f a def that returns a new dict -/
def wSetN (i : Nat) (F : FN) (wA : WXs) : WS := fun DD s => wA s fun xs s1 => F xs fun kvs => DD.nx (s1.set i (.dit kvs))
section
variable {X : Cx} {C : Ct} {e : Expr} {es : List Expr} {pos p cpos py : Pos} {tA : TA} {wA : WXs} {x y : Str} {st : Stmt} {ps : List Str} {k : Nat}
theorem is_setN (i : Nat) {F : FN} (h : IY C tA wA) : IS C (tAsg (tCall (spN C.K F) [] E0 tA) (gName i)) (wSetN i F wA) := fun G σ H s D DD r q o =>
  h G σ H s _ _ r q fun vs xs s1 G1 H1 q1 r1 eg eh p => ⟨G1, xs, _, r1.fin.gh, by rw [List.append_nil]; exact p.none, q1, fun p ks kvs G2 H2 q2 eg2 eh2 gh nw h1 h2 h3 h4 => by
    have r2 := r1.grow eg2 eh2 gh nw
    exact o.nx _ _ _ G2 q2 (r2.put (x := .dit kvs) ⟨p, ks, rfl, h2, r1.fin.h0 h1, h3, h4⟩ fun _ j y p' ej m z => by cases z; exact r1.notslot h1 j y ej m) (eg.trans eg2)⟩
theorem ds_setN (i : Nat) {F : FN} (D : Def X.prog X.w X.K X.mg X.base k x st ps (spN C.K F)) (hN : X.N.Nodup) (hG : X.A.guards = some []) (hr : Room k X.A) (hg : Gl X x) (ha : DYs X C (e :: es) tA wA)
    (hi : X.N[i]? = some y := by rfl) (hx : Loc X.env.scope y := by first | exact .inl rfl | exact .inr rfl) (hs : swapsWith (.Call (.Name x p) (e :: es) [] cpos) (some (.Name y py)) pos.line X.env = Pure.pure false := by rfl)
    (hf : X.fn y = true ∨ X.env.scope.names.lookup y = some .local := by first | exact .inl rfl | exact .inr rfl | assumption)
    (hdb : (x == ("__debug__" : Str)) = false := by decide) (he : starEach (e :: es) X.env = (false, eval e X.env) :: starEach es X.env := by rfl) (hpl : (backTo cpos (starEach es X.env)).any (·.1) = false := by rfl) :
    DS X C (.Assign [.Name y py] (.Call (.Name x p) (e :: es) [] cpos) pos) (tAsg (tCall (spN C.K F) [] E0 tA) (gName i)) (wSetN i F wA) := by
  obtain ⟨f, fd, G, Fn, b, m⟩ := D.ex
  exact ⟨ps_set (i := i) hN hi hx (pe_callG G hG hr hg m Fn.kp b ha.pa hdb he hpl) (hf := hf) (hs := hs), is_setN i ha.iy⟩
def wTGet2 (i : Nat) (wA : WA) (wf : WE) : WE := fun s Q => (∃ kvs0, dicAt s i kvs0) ∧ wA s fun kd s1 => kd.length ≤ 100000 ∧ wf s1 fun fd s2 => ∃ kvs k, dicAt s2 i kvs ∧ keysD kd = some k ∧ Q ((lookG kvs k).getD fd) s2
def wTGet1 (i : Nat) (wA : WA) : WE := fun s Q => (∃ kvs0, dicAt s i kvs0) ∧ wA s fun kd s1 => kd.length ≤ 100000 ∧ ∃ kvs k, dicAt s1 i kvs ∧ keysD kd = some k ∧ Q ((lookG kvs k).getD .none) s1
theorem de_tget2 (i : Nat) {f : Expr} {apos : Pos} {kk : Nat} {p3 : Pos} {tA : TA} {wA : WA} {tx : TE} {wx : WE} (hu : X.A.units + 1 < cLine) (hA : DA X C es tA wA) (hf : DE X C f tx wx) (hv : PE X (.Name x p) (tVar i) := by exact pv _) (m : M2 X (.Name x p) "get" apos (.Tuple es kk p3) f cpos := by exact ⟨rfl, rfl, rfl, rfl⟩) :
    DE X C (.Call (.Attribute (.Name x p) "get" apos) [.Tuple es kk p3, f] [] cpos) (tDGet2 (tVar i) (tTup tA) tx) (wTGet2 i wA wx) := ⟨pe_dget2 hu hv (pe_tup hA.pa) hf.pe m, fun G σ H s Q Q' r q k => by
  obtain ⟨⟨kvs0, e0⟩, q⟩ := q
  obtain ⟨v, hv, p, ks, rfl, a1, a2, a3⟩ := dic_av r e0
  refine ⟨_, hv, p, rfl, .inr ⟨ks, a1⟩, hA.ia G σ H s _ _ r q fun vs1 ds1 s1 G1 H1 q1 r1 eg1 g1 p1 => ⟨by rw [dpa_len p1]; exact sz_of q1.1, fun T hT => ?_⟩⟩
  refine hf.ie G1 σ _ s1 _ _ (r1.aside (Ex.new (o := .tup vs1) hT)) q1.2 fun v2 d2 s2 G2 H2 q2 r2 eg2 g2 p2 => ?_
  obtain ⟨kvs, kk, e2, hk, q2⟩ := q2
  obtain ⟨v', hv', p', ks', hp', b1, b2, b3⟩ := dic_av r2 e2
  rw [hv] at hv'
  cases hv'
  cases hp'
  have nbT : ¬ C.bx.has T := r1.fin.nbx (r1.fin.h0 hT)
  have gT : Gs C σ G H s G2 H2 s2 := (g1.trans (.side (Ex.new hT))).trans g2
  have hT2 : H2 T = some (.tup (kk.map kV)) := by
    rw [← keys_v p1 hk]
    exact g2.gr T _ nbT upd_same
  refine ⟨valV ks' kk, .inr ⟨ks', kk, T, b1, rfl, hT2, rfl⟩, ?_⟩
  rcases look_pair kk b3 with ⟨z1, z2⟩ | ⟨v3, d3, z1, z2, z3⟩
  · rw [z2] at q2
    rw [z1]
    exact k _ _ s2 G2 H2 q2 r2 (eg1.trans eg2) gT p2
  · rw [z2] at q2
    rw [z1]
    exact k _ _ s2 G2 H2 q2 r2 (eg1.trans eg2) gT z3⟩
end
end Dw
namespace Dw
open PySem PySem.Spec PyProof.Rows L2 OgR Evl
section
variable {X : Cx} {C : Ct} {a b c e tg : Expr} {es : List Expr} {pos p p2 : Pos} {t ta tb tc te ty : TE} {w wa wb wc we wy : WE} {x : Str}
def wRng2 (wa wb : WE) : WA := fun s Q => wa s fun d s1 => wb s1 fun e s2 => ∃ i j : Int, d = .int i ∧ e = .int j ∧ -(2 ^ 62) ≤ i ∧ i < 2 ^ 62 ∧ -(2 ^ 62) ≤ j ∧ j < 2 ^ 62 ∧ Q (iotaD i j) s2
/-- i, i - 1, .., j + 1 -/
def downD (i j : Int) : List PyData := (List.range (i - j).toNat).map fun k => .int (i - (k : Nat))
theorem down_get {i j : Int} {k : Nat} {d : PyData} (h : (downD i j)[k]? = some d) : k < (i - j).toNat ∧ d = .int (i - k) := by
  unfold downD at h
  rw [List.getElem?_map] at h
  obtain ⟨n, hn, rfl⟩ := Option.map_eq_some_iff.mp h
  obtain ⟨h1, h2⟩ := List.getElem?_eq_some_iff.mp hn
  rw [List.length_range] at h1
  rw [List.getElem_range] at h2
  subst h2
  exact ⟨h1, rfl⟩
theorem down_len (i j : Int) : (downD i j).length = (i - j).toNat := by unfold downD; rw [List.length_map, List.length_range]
theorem itd_down {G : Hp} {lo j : Int} : ItD C G (Itc lo (-1) (lo - j).toNat) (downD lo j) := fun G2 H2 e1 e2 => by
  refine ⟨fun i d hd => ?_, ?_⟩
  · obtain ⟨h1, rfl⟩ := down_get hd
    refine ⟨h1, fun x H3 y => ?_⟩
    obtain ⟨rfl, rfl⟩ := y
    refine ⟨G2, Ex.refl G2, Ex.refl _, e2, Nw.refl _ _, ?_⟩
    rw [show lo + (i : Nat) * (-1 : Int) = lo - (i : Nat) by omega]
    exact .int _
  · rw [down_len]
    exact Nat.le_refl _
def wRngD (wa wb : WE) : WA := fun s Q => wa s fun d s1 => wb s1 fun e s2 => ∃ i j : Int, d = .int i ∧ e = .int j ∧ -(2 ^ 62) ≤ i ∧ i < 2 ^ 62 ∧ -(2 ^ 62) ≤ j ∧ j < 2 ^ 62 ∧ Q (downD i j) s2
def wRevR (wa : WE) : WA := fun s Q => wa s fun d s1 => ∃ j : Int, d = .int j ∧ -(2 ^ 62) ≤ j ∧ j < 2 ^ 62 ∧ Q (downD (j - 1) (-1)) s1
theorem di_revR (hg : Gl X "reversed") (hm : X.mg "reversed" = none) (hg2 : Gl X "range") (hm2 : X.mg "range" = none) (h : DE X C a ta wa) (hs : starEach [.Call (.Name "range" p2) [a] [] p] X.env = (false, eval (.Call (.Name "range" p2) [a] [] p) X.env) :: starEach [] X.env := by rfl)
    (hs2 : starEach [a] X.env = (false, eval a X.env) :: starEach [] X.env := by rfl) {p5 : Pos} :
    DI X C tg (.Call (.Name "reversed" p5) [.Call (.Name "range" p2) [a] [] p] [] pos) (iRevR (tRg1 ta)) (wRevR wa) :=
  ⟨pi_revR hg hm (prg_1 hg2 hm2 h.pe hs2) hs, fun G σ H s Q R r q k => h.ie G σ H s _ _ r q fun v d s1 G1 H1 q1 r1 eg1 g1 p1 => by
    obtain ⟨j, rfl, h1, h2, q1⟩ := q1
    refine ⟨j, dp_int p1, by decide, by decide, h1, h2, ?_⟩
    have e : (0 : Int) + (((j - 0).toNat : Nat) : Int) - 1 = (if 0 ≤ j then j - 1 else -1) := by split <;> omega
    by_cases h0 : 0 ≤ j
    · have := itd_down (C := C) (G := G1) (lo := j - 1) (j := -1)
      rw [show (j - 1 - -1).toNat = (j - 0).toNat by omega] at this
      rw [show (0 : Int) + (((j - 0).toNat : Nat) : Int) - 1 = j - 1 by omega]
      exact k _ _ s1 G1 H1 q1 r1 eg1 g1 this
    · have e2 : downD (j - 1) (-1) = [] := by unfold downD; rw [show (j - 1 - -1).toNat = 0 by omega]; rfl
      rw [e2] at q1
      refine k _ _ s1 G1 H1 q1 r1 eg1 g1 fun G2 H2 _ _ => ⟨fun i d hd => by simp at hd, ?_⟩
      show (j - 0).toNat ≤ 0
      omega⟩
def gRevL : PyData → Dt → (List PyData → Dt → Prop) → Prop := fun d s Q => ∃ ds, d = .list ds ∧ Q ds.reverse s
theorem do_revL {k : Nat} {p1 p3 : Pos} (hK : X.K = C.K) (ha : DP X C a ta wa) : DO X C (.Subscript a (.Slice none none (some (.UnaryOp .USub (.Constant (.int 1) k p1) p2)) p3) pos) (tRevL C.K ta) (w1O gRevL wa) := ⟨hK ▸ pe_revL ha.pe, fun G σ H s Q Q' r q k => ha.ip G σ H s _ _ r q fun v d s1 G1 H1 q1 r1 eg1 g1 pk => by
  obtain ⟨ds, rfl, q1⟩ := q1
  obtain ⟨p, xs, rfl, h1, h2⟩ := pk.seq r1.fin.gh rfl
  exact ⟨p, xs, rfl, h1, fun u hu => own_new r q1 r1 eg1 g1 (dpa_rev h2) hu k⟩⟩
def wAugIx (i : Nat) (wy we : WE) : WS := fun DD s => (∃ ds0, s.env[i]? = some (some (.own ds0))) ∧ wy s fun kd s1 => ∃ (n : Nat) (ds : List PyData) (m : Int), kd = .int n ∧ s1.env[i]? = some (some (.own ds)) ∧ ds[n]? = some (.int m) ∧ we s1 fun d s2 => ∃ (j : Int) (ds2 : List PyData), d = .int j ∧ s2.env[i]? = some (some (.own ds2)) ∧ n < ds2.length ∧ DD.nx (s2.set i (.own (ds2.set n (.int (m + j)))))
end
end Dw
namespace Dw
open PySem PySem.Spec PyProof.Rows L2 OgR Evl
theorem hu_of1 {k : Nat} {A : Around} (r : Room k A) : A.units < cLine := by have := r.un; omega
end Dw
namespace Dw
open PySem PySem.Spec PyProof.Rows L2 OgR Evl
theorem lcD_enc {α : Type} {g : WG} {tt : WT} {te : WE} {vs : List Nat} {env : List (Option DV)} {c : Cs} {Q : List PyData → Dt → Prop} (l : List α) (enc : α → PyData) (f : α → Option PyData) (hl : l.length ≤ 99999)
    (h : ∀ a ∈ l, ∀ (acc : List PyData) (J : List PyData → Cs → Prop), acc.length < 100000 → (∀ y, f a = some y → J (acc ++ [y]) c) → (f a = none → J acc c) →
      g (enc a) ⟨wipeD env vs, c⟩ fun s2 => tt s2 fun b s3 => s3.env = s2.env ∧ if b = true then te s3 fun y s4 => s4.env = s2.env ∧ acc.length < 100000 ∧ J (acc ++ [y]) s4.c else J acc s3.c) (q : Q (l.filterMap f) ⟨env, c⟩) : LcD (l.map enc) g tt te vs ⟨env, c⟩ Q := by
  refine ⟨fun i acc c' => c' = c ∧ acc = (l.take i).filterMap f, ⟨rfl, rfl⟩, fun i d acc c' hd inv => ?_, fun acc c' inv => ?_⟩
  · obtain ⟨rfl, rfl⟩ := inv
    rw [List.getElem?_map] at hd
    obtain ⟨a, ha, rfl⟩ := Option.map_eq_some_iff.mp hd
    have hi := (List.getElem?_eq_some_iff.mp ha).1
    refine h a (List.mem_of_getElem? ha) _ (fun acc' c'' => c'' = c' ∧ acc' = (l.take (i + 1)).filterMap f) ?_ (fun y hy => ⟨rfl, ?_⟩) (fun hy => ⟨rfl, ?_⟩)
    · have := List.length_filterMap_le f (l.take i)
      rw [List.length_take] at this
      omega
    · rw [List.take_add_one, ha, List.filterMap_append]
      simp [hy]
    · rw [List.take_add_one, ha, List.filterMap_append]
      simp [hy]
  · obtain ⟨rfl, rfl⟩ := inv
    rw [List.length_map, List.take_length]
    exact q
theorem lcD_encM {α : Type} {g : WG} {te : WE} {vs : List Nat} {env : List (Option DV)} {c : Cs} {Q : List PyData → Dt → Prop} (l : List α) (enc : α → PyData) (f : α → PyData) (hl : l.length ≤ 99999)
    (h : ∀ a ∈ l, ∀ (acc : List PyData) (J : List PyData → Cs → Prop), acc.length < 100000 → J (acc ++ [f a]) c → g (enc a) ⟨wipeD env vs, c⟩ fun s2 => te s2 fun y s4 => s4.env = s2.env ∧ acc.length < 100000 ∧ J (acc ++ [y]) s4.c) (q : Q (l.map f) ⟨env, c⟩) : LcD (l.map enc) g (fun s Q => Q true s) te vs ⟨env, c⟩ Q := by
  refine lcD_enc l enc (fun a => some (f a)) hl (fun a ha acc J hacc h1 h0 => ?_) (by rw [List.filterMap_eq_map']; exact q)
  have := h a ha acc J hacc (h1 _ rfl)
  simpa using this
theorem sum_cast : ∀ ns : List Nat, (ns.map fun (n : Nat) => (n : Int)).sum = ((ns.sum : Nat) : Int)
  | [] => rfl
  | a :: l => by
    simp only [List.map_cons, List.sum_cons, sum_cast l]
    omega
theorem gSum_nat {ns : List Nat} {s : Dt} {Q : PyData → Dt → Prop} (h : Q (.int (ns.sum : Nat)) s) : gSum (.list (ns.map fun n => .int (n : Nat))) s Q := by
  refine ⟨ns.map fun (n : Nat) => (n : Int), ?_, ?_⟩
  · rw [List.map_map]
    rfl
  · rw [sum_cast]
    exact h
end Dw
namespace Dw
open PySem PySem.Spec PyProof.Rows L2 OgR Evl
theorem iota_nat (n : Nat) : iotaD 0 (n : Nat) = (List.range n).map fun (i : Nat) => .int (i : Nat) := by
  unfold iotaD
  rw [show ((n : Int) - 0).toNat = n by omega]
  exact List.map_congr_left fun i _ => by rw [Int.zero_add]
theorem iota_nat1 (n : Nat) : iotaD 0 ((n : Int) + 1) = (List.range (n + 1)).map fun (i : Nat) => .int (i : Nat) := by
  rw [show (n : Int) + 1 = ((n + 1 : Nat) : Int) by omega, iota_nat]
end Dw
namespace Dw
open PySem PySem.Spec PyProof.Rows L2 OgR Evl
end Dw
namespace Dw
open PySem PySem.Spec PyProof.Rows L2 OgR Evl
def gSumT : G1 := fun d s Q => ∃ ns : List Int, d = .tuple (ns.map .int) ∧ Q (.int ns.sum) s
end Dw
namespace Dw
open PySem PySem.Spec PyProof.Rows L2 OgR Evl
section
variable {X : Cx} {C : Ct} {b e : Expr} {pos p : Pos} {ty te : TE} {wy we : WE} {x : Str}
def wKGet (i : Nat) (wy : WE) : WE := fun s Q => (∃ kvs0, s.env[i]? = some (some (.dic kvs0))) ∧ wy s fun kd s1 => ∃ kvs k d, s1.env[i]? = some (some (.dic kvs)) ∧ keyD kd = some k ∧ lookG kvs k = some d ∧ Q d s1
def wKAug (i : Nat) (wy we : WE) : WS := fun DD s => (∃ kvs0, s.env[i]? = some (some (.dic kvs0))) ∧ wy s fun kd s1 => ∃ kvs k, ∃ m : Int, s1.env[i]? = some (some (.dic kvs)) ∧ keyD kd = some k ∧ lookG kvs k = some (.int m) ∧
  we s1 fun d s2 => ∃ (n : Int) (kvs2 : _), d = .int n ∧ s2.env[i]? = some (some (.dic kvs2)) ∧ kvs2.length < 100000 ∧ DD.nx (s2.set i (.dic (putG kvs2 k (.int (m + n)))))
end
abbrev KVK := List (Key × PyData)
def DcK (ds : List PyData) (g : WG) (wk wv : WE) (vs : List Nat) (s1 : Dt) (Q : KVK → Dt → Prop) : Prop := ∃ Inv : Nat → KVK → Cs → Prop, Inv 0 [] s1.c ∧
  (∀ (i : Nat) d kvs c, ds[i]? = some d → Inv i kvs c → g d ⟨wipeD s1.env vs, c⟩ fun s2 => wk s2 fun kd s3 => wv s3 fun y s4 => s4.env = s2.env ∧ ∃ k, keyD kd = some k ∧ kvs.length < 100000 ∧ Inv (i + 1) (putG kvs k y) s4.c) ∧
  ∀ kvs c, Inv ds.length kvs c → Q kvs ⟨s1.env, c⟩
def wDcK (j : Nat) (wI : WA) (g : WG) (wk wv : WE) (vs : List Nat) : WS := fun DD s => wI s fun ds s1 => DcK ds g wk wv vs s1 fun kvs s2 => DD.nx (s2.set j (.dic kvs))
end Dw
namespace Dw
open PySem PySem.Spec PyProof.Rows L2 OgR Evl
section
variable {X : Cx} {C : Ct} {o e a f : Expr} {pos p apos cpos : Pos} {to te : TE} {wo we : WE}
def wLIdx (wo we : WE) : WE := fun s Q => wo s fun d s1 => ∃ ds, d = .list ds ∧ we s1 fun y s2 => Shp d ∧ Shp y ∧ ∃ (j : Nat) (z : PyData), ds[j]? = some z ∧ z.eqv y = true ∧ (∀ (m : Nat) (z' : PyData), m < j → ds[m]? = some z' → z'.eqv y = false) ∧ Q (.int (j : Nat)) s2
end
def prI (q : Int × PyData) : PyData := .tuple [.int q.1, q.2]
section
variable {X : Cx} {C : Ct} {o e a f : Expr} {pos p apos cpos : Pos} {ta te tf : TE} {wa we wf : WE}
def wDPGet (wa we wf : WE) : WE := fun s Q => wa s fun d s1 => ∃ ps : List (Int × PyData), d = .list (ps.map prI) ∧ (ps.map (·.1)).Nodup ∧ we s1 fun y s2 => ∃ i : Int, y = .int i ∧ wf s2 fun z s3 => Q ((lookG (ps.map fun q => ((Sum.inl q.1 : Key), q.2)) (.inl i)).getD z) s3
end
end Dw
namespace Dw
open PySem PySem.Spec PyProof.Rows L2 OgR Evl
section
variable {X : Cx} {C : Ct} {a b : Expr} {pos p : Pos} {ta tb : TE} {wa wb : WE}
def wRg2 (wa wb : WE) : WA := fun s Q => wa s fun d s1 => wb s1 fun e s2 => ∃ i j : Int, d = .int i ∧ e = .int j ∧ 0 ≤ i ∧ i ≤ 100000 ∧ 0 ≤ j ∧ j ≤ 100000 ∧ Q (iotaD i j) s2
end
end Dw
namespace Dw
open PySem PySem.Spec PyProof.Rows L2 OgR Evl
def wNotT (w : WE) : WE := fun s Q => w s fun d s1 => ∃ k, truD d = some k ∧ Q (.bool (!k)) s1
end Dw
namespace Dw
open PySem PySem.Spec PyProof.Rows L2 OgR Evl
section
variable {X : Cx} {C : Ct}
def gSrtSet (d : PyData) (s : Dt) (Q : List PyData → Dt → Prop) : Prop := ∃ ns : List Int, d = .list (ns.map .int) ∧ ns.length ≤ 60 ∧ ∀ ks : List Int, ks.Pairwise (· < ·) → (∀ k, k ∈ ks ↔ k ∈ ns) → Q (ks.map .int) s
end
end Dw
namespace Dw
open PySem PySem.Spec PyProof.Rows L2 OgR Evl
def rCountD (K : PySem.W.Frag) : V → List V → Hp → VK → Prop := fun x xs H Q => ∃ (a : Addr) (y : V) (d : PyData) (ds : List PyData), x = V.ref a ∧ xs = [y] ∧ Dp K H (V.ref a) (.list ds) ∧ Dp K H y d ∧
  PyData.plainAll ds = true ∧ d.plain = true ∧ PyData.depthAll ds ≤ 40 ∧ Q (.int (ds.countP fun z => PyData.eqv z d : Nat)) H
section
variable {X : Cx} {C : Ct} {o e a f : Expr} {pos p apos cpos : Pos} {to te : TE} {wo we : WE}
theorem mt_countD (hu : X.A.units + 65 < cLine) : MtR X "list.count" (rCountD X.K) := by
  intro pins s σ H x xs v us Q I rx rxs h
  obtain ⟨a, y, d, ds, rfl, rfl, hl, hy, h1, h2, h3, q⟩ := h
  cases rx
  cases rxs with
  | cons ry rt =>
    rename_i uy ut
    cases rt
    obtain ⟨bs, r1⟩ := Dp.reads I d y uy hy ry
    cases hl with
    | lst hs ha =>
      obtain ⟨its, rv, pl, hlen⟩ := I.list (.inl (.inl hs))
      obtain ⟨as, ra⟩ := Dp.readsAll I ds _ its ha rv
      refine SeqAt.count_list_data pl.isList (by simpa using ra) r1 h1 h2 (by have : min (PyData.depthAll ds) d.depth ≤ 40 := Nat.le_trans (Nat.min_le_left _ _) h3; omega) ?_
      exact ⟨.int _, H, I.tok _, ⟨_, rfl⟩, q⟩
def wCount (wo we : WE) : WE := fun s Q => wo s fun d s1 => ∃ ds, d = .list ds ∧ we s1 fun y s2 => PyData.plainAll ds = true ∧ y.plain = true ∧ PyData.depthAll ds ≤ 40 ∧ Q (.int (ds.countP fun z => PyData.eqv z y : Nat)) s2
theorem de_count (hK : X.K = C.K) (hu : X.A.units + 65 < cLine) (ho : DE X C o to wo) (he : DE X C e te we)
    (hbase : attributeBase o "count" X.env (eval o X.env) = eval o X.env := by rfl)
    (hfew : ((backTo cpos (starEach (e :: []) X.env)).all (fun x => !x.1) && (backToKw cpos (keywordEach [] X.env)).all (fun x => x.1.isSome)
      && decide ((e :: []).length + ([] : List Keyword).length + (if ([] : List Keyword).isEmpty then 0 else 1) < 30)) = true := by rfl)
    (hline : (apos.endLine == cpos.line) = true := by rfl) (hs : starEach (e :: []) X.env = (false, eval e X.env) :: starEach [] X.env := by rfl) (hplain : (backTo cpos (starEach [] X.env)).any (·.1) = false := by rfl) :
    DE X C (.Call (.Attribute o "count" apos) [e] [] cpos) (tBM C.K "list" (rCountD C.K) to (tCons te tNil)) (wCount wo we) :=
  ⟨hK ▸ pe_bm PySem.F.plainAttrs_list PySem.F.slot_list_count PySem.F.type_list_count (mt_countD hu) ho.pe (pa_cons he.pe pa_nil hs) hbase hfew hline hs hplain, fun G σ H s Q Q' r q k => ho.ie G σ H s _ _ r q fun v d s1 G1 H1 q1 r1 eg1 g1 p1 => by
    obtain ⟨ds, rfl, q1⟩ := q1
    obtain ⟨b, xs, rfl, sq, da⟩ := dp_seq (H := H1) p1 rfl
    refine ⟨.inl ⟨rfl, xs, Evl.ex_l r1.fin.gh sq⟩, he.ie G1 σ H1 s1 _ _ r1 q1 fun v2 y s2 G2 H2 q2 r2 eg2 g2 p2 => ?_⟩
    obtain ⟨h1, h2, h3, q2⟩ := q2
    exact ⟨b, v2, y, ds, rfl, rfl, dp_ex r2.fin.gh (dp_ex eg2 p1), dp_ex r2.fin.gh p2, h1, h2, h3, k _ _ s2 G2 H2 q2 r2 (eg1.trans eg2) (g1.trans g2) (.int _)⟩⟩
end
end Dw
namespace Gx
open PySem PySem.Spec PyProof.Rows L2
end Gx
namespace Dw
open PySem PySem.Spec PyProof.Rows L2 OgR Evl Gx
section
variable {X : Cx} {C : Ct} {e : Expr} {es : List Expr} {pos pos' p : Pos} {x : Str} {st : Stmt} {ps : List Str} {k : Nat} {f : Addr} {fd : FuncData} {sp : Sp} {t tA : TA} {wA : WA} {W : L2.WX} {R : Oc → Prop} {E : XK}
def tCX (sp : Sp) (t : TA) (W : L2.WX) : TE := fun σ H Q => t σ H fun zs H1 => sp zs H1 Q (L2.WE W σ)
theorem pe_callX (F : FnGX X.prog X.w X.K X.mg X.base k f fd ps sp) (hG : X.A.guards = some []) (tks : Takes X W) (hr : Room k X.A) (hg : Gl X x) (hm : X.mg x = some (.ref f)) (hk : PySem.W.keepIn X.K (.ref f) = true) (hb : Binds X.K fd ps [])
    (ha : PA X (e :: es) t) (hdb : (x == ("__debug__" : Str)) = false := by decide) (he : starEach (e :: es) X.env = (false, eval e X.env) :: starEach es X.env := by rfl) (hpl : (backTo pos (starEach es X.env)).any (·.1) = false := by rfl) :
    PE X (.Call (.Name x p) (e :: es) [] pos) (tCX sp t W) := by
  refine ⟨fun pins s σ H Q I h => wpAny_Call_Name_kw (ld_glob I hg hm ?_ hdb)⟩
  refine PySem.W.callWith_K (h₀ := X.base) I.ok.mod.kin hk (thn (ha.run pos pins s σ H _ I h) fun us s1 ⟨vs, H1, I1, r, q⟩ => ⟨I1.kIn, ?_⟩) he hpl
  have hl : us.length = ps.length := by rw [← r.length]; exact F.1 _ _ _ _ q
  have hb' := hb s1 us I1.kIn (by rw [List.append_nil]; exact hl)
  rw [List.append_nil] at hb'
  refine wpAny_call (codeAny_mono (F.2 X.A X.stack s1 H1 ⟨us, []⟩ us vs Q (L2.WE W σ) hG hr I1.env0 hb' r q) fun r s' hq => ?_)
  cases r with
  | error e => exact passAt tks σ pins H1 s1 e s' I1 hq
  | ok fl =>
    cases fl with
    | ret u => exact I1.after hq
    | next => exact False.elim hq
    | brk => exact False.elim hq
    | cont => exact False.elim hq
end
end Dw
namespace Dw
open PySem PySem.Spec PyProof.Rows L2 OgR Evl Gx
theorem obs_get {K : PySem.W.Frag} {G H : Hp} : ∀ {os : List Ob} {xs : List Ov}, ObsAt K os G H xs → ∀ {k : Nat} {o : Ob}, os[k]? = some o → ∃ x, xs[k]? = some x ∧ ObAt K G H o x
  | _, _, .nil, k, o, e => by simp at e
  | _, _, .cons h t, 0, o, e => by
    cases e
    exact ⟨_, rfl, h⟩
  | _, _, .cons h t, k + 1, o, e => obs_get t (by simpa using e)
theorem obs_at {K : PySem.W.Frag} {G H : Hp} {os : List Ob} {xs : List Ov} (h : ObsAt K os G H xs) {k : Nat} {o : Ob} {x : Ov} (e : os[k]? = some o) (ex : xs[k]? = some x) : ObAt K G H o x := by
  obtain ⟨y, e2, h2⟩ := obs_get h e
  rw [ex] at e2
  cases e2
  exact h2
/-- one of them is another now, the others stay -/
theorem obs_set {K : PySem.W.Frag} {G H G' H' : Hp} (eg : Ex G G') : ∀ {os : List Ob} {xs : List Ov}, ObsAt K os G H xs → (os.Pairwise fun o o' => ∀ b, o.has b → ¬ o'.has b) → ∀ {k : Nat} {o : Ob} {x : Ov}, os[k]? = some o → (∀ b w, ¬ o.has b → H b = some w → H' b = some w) → ObAt K G' H' o x → ObsAt K os G' H' (xs.set k x)
  | _, _, .nil, _, k, o, x, e, _, _ => by simp at e
  | _, _, .cons (a := o1) h t, nd, 0, o, x, e, fr, n => by
    cases e
    obtain ⟨n1, n2⟩ := List.pairwise_cons.mp nd
    exact .cons n (ObsAt.keep eg t fun o2 m b w hb q => fr b w (fun z => n1 o2 m b z hb) q)
  | _, _, .cons (a := o1) h t, nd, k + 1, o, x, e, fr, n => by
    obtain ⟨n1, n2⟩ := List.pairwise_cons.mp nd
    have e' := (by simpa using e : _)
    refine .cons (h.keep eg fun b w hb q => fr b w (fun z => n1 o (List.mem_of_getElem? e') b hb z) q) (obs_set eg t n2 e' fr n)
/-- the cells of the objects differ from one another -/
theorem obs_disj : ∀ {os : List Ob}, (os.Pairwise fun o o' => ∀ b, o.has b → ¬ o'.has b) → ∀ {j k : Nat} {o o' : Ob}, os[j]? = some o → os[k]? = some o' → j ≠ k → ∀ b, o.has b → ¬ o'.has b
  | [], _, j, k, o, o', e, _, _ => by simp at e
  | x :: os, nd, 0, 0, _, _, _, _, h => absurd rfl h
  | x :: os, nd, 0, k + 1, o, o', e1, e2, _ => fun b hb => by
    cases e1
    exact (List.pairwise_cons.mp nd).1 o' (List.mem_of_getElem? (by simpa using e2)) b hb
  | x :: os, nd, j + 1, 0, o, o', e1, e2, _ => fun b hb z => by
    cases e2
    exact (List.pairwise_cons.mp nd).1 o (List.mem_of_getElem? (by simpa using e1)) b z hb
  | x :: os, nd, j + 1, k + 1, o, o', e1, e2, h => obs_disj (List.pairwise_cons.mp nd).2 (by simpa using e1) (by simpa using e2) (by omega)
section
variable {C : Ct} {G G' H H' : Hp} {σ : L2.St} {s : Dt} {c c' : Cs}
/-- one object changes: nothing else does -/
theorem Rel.obj (r : Rel C G σ H s) {k : Nat} {o : Ob} {x : Ov} (ho : C.bx.obs[k]? = some o) (eg : Ex G G') (fr : ∀ b w, ¬ o.has b → H b = some w → H' b = some w) (n : ObAt C.K G' H' o x) (gh : Ex G' H') (nw : Nw G G' H) :
    Rel C G' σ H' ⟨s.env, s.c.n, s.c.o.set k x⟩ ∧ Gs C σ G H s G' H' ⟨s.env, s.c.n, s.c.o.set k x⟩ := by
  have hm := List.mem_of_getElem? ho
  have gr : Gr C H H' := fun b w nb q => fr b w (fun z => nb (.ofo hm z)) q
  have dom : ∀ b, H b ≠ none → H' b ≠ none := fun b hb z => by
    by_cases q : o.has b
    · obtain ⟨w, e, _⟩ := n.cell q
      rw [z] at e
      cases e
    · cases e : H b with
      | none => exact hb e
      | some w =>
        rw [fr b w q e] at z
        cases z
  refine ⟨r.step (c' := ⟨s.c.n, s.c.o.set k x⟩) eg gr gh nw (obs_set eg r.fin.ob r.fin.ok.nd ho fr n) fun l hl => ?_, gr, dom, fun b w h1 _ h2 hn _ => nw.out h1 h2 hn, fun i y e m => ⟨y, e, m⟩⟩
  obtain ⟨b1, b2, b3, b4⟩ := (r.fin.bx l hl).1
  by_cases q : o.has l
  · obtain ⟨w, e, nt⟩ := n.cell q
    refine ⟨fun z => absurd q (r.fin.ok.nb l (.inl z) o hm), fun z => absurd q (r.fin.ok.nb l (.inr z) o hm), by rw [e]; exact Option.some_ne_none _, fun w2 e2 => ?_⟩
    rw [e] at e2
    cases e2
    exact nt
  · cases e : H l with
    | none => exact absurd e b3
    | some w =>
      have e2 := fr l w q e
      refine ⟨fun z => (b1 z).keep fun w2 q2 => by rw [e] at q2; cases q2; exact e2, fun z => ?_, by rw [e2]; exact Option.some_ne_none _, fun w2 q2 => ?_⟩
      · obtain ⟨ps, h1, h2, h3⟩ := b2 z
        refine ⟨ps, fr l _ q h1, h2, fun pos cv hc => ?_⟩
        obtain ⟨cc, e3, e4⟩ := h3 pos cv hc
        refine ⟨cc, e3, fr cc _ (fun z2 => ?_) e4⟩
        obtain ⟨x0, _, ox⟩ := obs_get r.fin.ob ho
        obtain ⟨w3, e5, e6⟩ := ox.soft z2
        rw [e4] at e5
        cases e5
        cases e6
      · rw [e2] at q2
        cases q2
        exact b4 w e
end
abbrev FM := Sd → List PyData → (Oc → Sd → Prop) → Prop
/-- what is to be had of an exception of a method -/
def Exm (K : PySem.W.Frag) (mg : Str → Option Value) (o : Ob) (G H : Hp) (R : Oc → Sd → Prop) (E : XK) : Prop := ∀ (nm fld : Str) (d : PyData) (S' : Sd) (C dx : Addr) (u : V) (G' H' : Hp), R (.ex nm fld d) S' → mg nm = some (.ref C) → Ex G G' → (∀ b w, ¬ o.has b → H b = some w → H' b = some w) → ObAt K G' H' o (.st S') → Ex G' H' → Nw G G' H → H dx = none → H' dx = some (.xd [(fld, u)]) → Dp K G' u d → E (.ref C) (some dx) H'
def spM (K : PySem.W.Frag) (mg : Str → Option Value) (cS : Addr) (F : FM) : Sp := fun vs H Q E => ∃ (a dx ps pt : Addr) (S : Sd) (vs' : List V) (G : Hp) (ds : List PyData) (R : Oc → Sd → Prop), vs = .ref a :: vs' ∧ ObAt K G H (.st cS a dx ps pt) (.st S) ∧ (∀ b, (Ob.st cS a dx ps pt).has b → G b = none) ∧ Ex G H ∧ DpAll K G vs' ds ∧ F S ds R ∧
  (∀ v d S' G' H', R (.ok d) S' → Ex G G' → (∀ b w, ¬ (Ob.st cS a dx ps pt).has b → H b = some w → H' b = some w) → ObAt K G' H' (.st cS a dx ps pt) (.st S') → Ex G' H' → Nw G G' H → Dp K G' v d → Q v H') ∧ Exm K mg (.st cS a dx ps pt) G H R E
structure FctM (K : PySem.W.Frag) (cS : Addr) (m qual : Str) (st : Stmt) (ps : List Str) : Prop where
  ex : ∃ f fd, Fun K m qual st f fd ∧ Binds K fd ps [] ∧ Meth K cS m f
structure DefM (P : Program) (wd : World) (K : PySem.W.Frag) (mg : Str → Option Value) (base : Heap) (k : Nat) (cS : Addr) (m : Str) (ps : List Str) (sp : Sp) : Prop where
  ex : ∃ f fd, FnGX P wd K mg base k f fd ps sp ∧ Binds K fd ps [] ∧ Meth K cS m f
section
variable {P : Program} {wd : World} {K : PySem.W.Frag} {mg : Str → Option Value} {base : Heap}
/-- where an exception leaves a def -/
def Xt (C : Ct) (mg : Str → Option Value) (E : XK) (RX : Str → Str → PyData → Cs → Prop) : Prop := ∀ (nm fld : Str) (d : PyData) (c : Cs) (Cc dx : Addr) (u : V) (G' H' : Hp), RX nm fld d c → mg nm = some (.ref Cc) → Fin C G' H' c → C.H0 dx = none → H' dx = some (.xd [(fld, u)]) → Dp C.K G' u d → E (.ref Cc) (some dx) H'
theorem ob_nd {cS a dx ps pt : Addr} {b t : Option Addr} (nb : ∀ l, b = some l ∨ t = some l → ¬ (Ob.st cS a dx ps pt).has l) : Bx.ok ⟨b, t, [.st cS a dx ps pt]⟩ := ⟨fun l hl o m => by rw [List.mem_singleton.mp m]; exact nb l hl, List.pairwise_singleton _ _⟩
theorem ob_bxs {x : Bx} {G H : Hp} {o : Ob} {v : Ov} {c : Cs} (h : ObAt K G H o v) {l : Addr} (hl : o.has l) (n1 : x.box ≠ some l) (n2 : x.tab ≠ some l) : Bxs x H l c := by
  obtain ⟨w, e, nt⟩ := h.cell hl
  exact ⟨fun z => absurd z n1, fun z => absurd z n2, by rw [e]; exact Option.some_ne_none _, fun w2 e2 => by rw [e] at e2; cases e2; exact nt⟩
theorem DefM.make {k : Nat} {m qual : Str} {cS : Addr} {st : Stmt} {N ps : List Str} {F : FM} (c : FctM K cS m qual st ps) (S : FnScope N ps (defScope st)) (hl : ∀ T ds R, F T ds R → ds.length + 1 = ps.length)
    (body : ∀ (f : Addr) (cdv : Value) (A : Around) (outer : List Env) (s : Shared) (H G : Hp) (E : XK) (a dx pS pT : Addr) (T : Sd) (ds : List PyData) (R : Oc → Sd → Prop), A.guards = some [] → Room k (A.deeper (envOfC qual (defScope st) s.heap.objs.size f cdv)) → F T ds R →
      Xt ⟨K, ⟨none, none, [.st cS a dx pS pT]⟩, H, G⟩ mg E (fun nm fld d c => ∃ T', c.o = [.st T'] ∧ R (.ex nm fld d) T') →
      ∃ t w, DSs (cxOf (L2.CX P wd) P wd K mg base N qual (defScope st) f cdv A outer s H E) ⟨K, ⟨none, none, [.st cS a dx pS pT]⟩, H, G⟩ (defBody st) t w ∧
        w { nx := fun s => ∃ T', s.c.o = [.st T'] ∧ R (.ok .none) T', rt := fun d c => ∃ T', c.o = [.st T'] ∧ R (.ok d) T' } ⟨env0 N (.ob 0 :: ds.map .d), 0, [.st T]⟩) : DefM P wd K mg base (k + 1) cS m ps (spM K mg cS F) := by
  obtain ⟨f, fd, Fn, b, mt⟩ := c.ex
  refine ⟨f, fd, fnGX_of Fn S (fun vs H Q E h => ?_) (fun cdv A outer s H vs Q E hG hr h => ?_), b, mt⟩
  · obtain ⟨a, dx, pS, pT, T, vs', G, ds, R, rfl, _, _, _, p, hF, _⟩ := h
    rw [List.length_cons, dpa_len p]
    exact hl T ds R hF
  · obtain ⟨a, dx, pS, pT, T, vs', G, ds, R, rfl, hO, hg, gh, p, hF, kk, kx⟩ := h
    have hx : Xt ⟨K, ⟨none, none, [.st cS a dx pS pT]⟩, H, G⟩ mg E (fun nm fld d c => ∃ T', c.o = [.st T'] ∧ R (.ex nm fld d) T') := fun nm fld d c Cc dy u G' H' hR hm f' h0 hd pd => by
      obtain ⟨T', e, hR⟩ := hR
      have ob' := f'.ob
      rw [e] at ob'
      exact kx nm fld d T' Cc dy u G' H' hR hm f'.g0 (fun b w nb q => f'.hh b w (fun z => by cases z with | ob1 z => exact nb z | ob2 z => nomatch z) q) (obs_at ob' (k := 0) rfl rfl) f'.gh f'.nw h0 hd pd
    obtain ⟨t, w, D, hw⟩ := body f cdv A outer s H G E a dx pS pT T ds R hG hr hF hx
    have rel : Rel ⟨K, ⟨none, none, [.st cS a dx pS pT]⟩, H, G⟩ G (L2.start N (.ref a :: vs')) H ⟨env0 N (.ob 0 :: ds.map .d), 0, [.st T]⟩ := by
      refine ⟨⟨gh, Ex.refl G, Nw.refl G H, Gr.refl _ H, ob_nd (fun l hl => by rcases hl with z | z <;> cases z), .cons hO .nil, fun l hl => ?_⟩, env0_len (by rw [List.length_cons, List.length_cons, List.length_map, dpa_len p]), fun i x e => ?_, fun i j x y q _ e1 _ m1 => ?_⟩
      · have hl' : (Ob.st cS a dx pS pT).has l := by cases hl with | ob1 z => exact z | ob2 z => nomatch z
        refine ⟨ob_bxs hO hl' (fun z => nomatch z) (fun z => nomatch z), hg l hl', ?_⟩
        obtain ⟨w, e, _⟩ := hO.cell hl'
        show H l ≠ none
        rw [e]
        exact Option.some_ne_none _
      · have e' := env0_get e
        cases i with
        | zero =>
          cases e'
          exact ⟨.ref a, start_get rfl, _, rfl, rfl⟩
        | succ i =>
          rw [List.getElem?_cons_succ, List.getElem?_map] at e'
          cases q : ds[i]? with
          | none => rw [q] at e'; cases e'
          | some d =>
            rw [q] at e'
            cases e'
            obtain ⟨v, hv, pv⟩ := dpa_back p q
            exact ⟨v, start_get (by rw [List.getElem?_cons_succ]; exact hv), pv⟩
      · have e' := env0_get e1
        cases i with
        | zero => cases e'; cases m1
        | succ i =>
          rw [List.getElem?_cons_succ, List.getElem?_map] at e'
          cases q : ds[i]? with
          | none => rw [q] at e'; cases e'
          | some d => rw [q] at e'; cases e'; cases m1
    refine ⟨t, D.ps, D.is G _ H _ _ _ rel hw ⟨fun σ' H' s' G' hn r' e => ?_, fun _ _ _ _ h => h.elim, fun _ _ _ _ h => h.elim, fun v d c' G' H' hR f' e pv => ?_⟩⟩
    · obtain ⟨T', ec, hn⟩ := hn
      have ob' := r'.fin.ob
      rw [ec] at ob'
      exact kk .non .none T' G' H' hn e (fun b w nb q => r'.fin.hh b w (fun z => by cases z with | ob1 z => exact nb z | ob2 z => nomatch z) q) (obs_at ob' (k := 0) rfl rfl) r'.fin.gh r'.fin.nw .non
    · obtain ⟨T', ec, hR⟩ := hR
      have ob' := f'.ob
      rw [ec] at ob'
      exact kk v d T' G' H' hR e (fun b w nb q => f'.hh b w (fun z => by cases z with | ob1 z => exact nb z | ob2 z => nomatch z) q) (obs_at ob' (k := 0) rfl rfl) f'.gh f'.nw pv
end
end Dw
namespace Dw
open PySem PySem.Spec PyProof.Rows L2 OgR Evl Gx
def Ob.of (cS : Addr) : Ob → Prop
  | .st cl _ _ _ _ => cl = cS
  | .ls _ => True
def OfS (cS : Addr) (os : List Ob) : Prop := ∀ o ∈ os, o.of cS
def Bx.hd (x : Bx) : List V := (x.box.map V.ref).toList ++ x.obs.map fun o => V.ref o.adr
structure InO (K : PySem.W.Frag) (x : Bx) (G H : Hp) (c : Cs) : Prop where
  ok : x.ok
  ob : ObsAt K x.obs G H c.o
  bx : ∀ l, x.has l → Bxs x H l c ∧ G l = none
structure OutO (K : PySem.W.Frag) (x : Bx) (G H G' H' : Hp) (c' : Cs) : Prop where
  eg : Ex G G'
  fr : ∀ b w, ¬ x.has b → H b = some w → H' b = some w
  ob : ObsAt K x.obs G' H' c'.o
  box : ∀ l, x.box = some l → BoxAt H' l c'.n
  gh : Ex G' H'
  nw : Nw G G' H
abbrev FOb := Cs → List PyData → (Oc → Cs → Prop) → Prop
def ExO (K : PySem.W.Frag) (mg : Str → Option Value) (x : Bx) (G H : Hp) (R : Oc → Cs → Prop) (E : XK) : Prop := ∀ (nm fld : Str) (d : PyData) (c' : Cs) (Cc dx : Addr) (u : V) (G' H' : Hp), R (.ex nm fld d) c' → mg nm = some (.ref Cc) → OutO K x G H G' H' c' → H dx = none → H' dx = some (.xd [(fld, u)]) → Dp K G' u d → E (.ref Cc) (some dx) H'
def spObj (K : PySem.W.Frag) (mg : Str → Option Value) (cS : Addr) (wb : Bool) (F : FOb) : Sp := fun vs H Q E => ∃ (x : Bx) (c : Cs) (vs' : List V) (G : Hp) (ds : List PyData) (R : Oc → Cs → Prop), vs = x.hd ++ vs' ∧ x.tab = none ∧ x.box.isSome = wb ∧ OfS cS x.obs ∧ InO K x G H c ∧ Ex G H ∧ DpAll K G vs' ds ∧ F c ds R ∧
  (∀ v d c' G' H', R (.ok d) c' → OutO K x G H G' H' c' → Dp K G' v d → Q v H') ∧ ExO K mg x G H R E
/-- what is picked out of a list by numbers; put back -/
def selV : List Ov → List Nat → Option (List Ov)
  | _, [] => some []
  | o, j :: js => match o[j]?, selV o js with
    | some x, some xs => some (x :: xs)
    | _, _ => none
def putO : List Ov → List Nat → List Ov → List Ov
  | o, j :: js, x :: xs => putO (o.set j x) js xs
  | o, _, _ => o
theorem selV_of {o : List Ov} : ∀ {js : List Nat} {xs : List Ov}, selV o js = some xs → Paired (fun j x => o[j]? = some x) js xs
  | [], _, h => by cases h; exact .nil
  | j :: js, xs, h => by
    unfold selV at h
    cases e : o[j]? with
    | none => rw [e] at h; cases h
    | some x =>
      rw [e] at h
      cases e2 : selV o js with
      | none => rw [e2] at h; cases h
      | some ys =>
        rw [e2] at h
        cases h
        exact .cons e (selV_of e2)
theorem putO_len : ∀ (js : List Nat) (xs : List Ov) (o : List Ov), (putO o js xs).length = o.length
  | [], _, o => by unfold putO; rfl
  | _ :: _, [], o => by unfold putO; rfl
  | j :: js, x :: xs, o => by
    unfold putO
    rw [putO_len js xs, List.length_set]
/-- the objects after a call -/
theorem obs_put {K : PySem.W.Frag} {G H G' H' : Hp} {os : List Ob} {cs : List Ov} (eg : Ex G G') (h : ObsAt K os G H cs) (nd : os.Pairwise fun o o' => ∀ b, o.has b → ¬ o'.has b) :
    ∀ {js : List Nat} {os' : List Ob} {xs : List Ov}, Paired (fun j o => os[j]? = some o) js os' → js.Nodup → Paired (ObAt K G' H') os' xs → (∀ (k : Nat) o, os[k]? = some o → k ∉ js → ∀ b w, o.has b → H b = some w → H' b = some w) → ObsAt K os G' H' (putO cs js xs) := by
  intro js os' xs p nj q fr
  have len : ∀ {os : List Ob} {cs : List Ov}, ObsAt K os G H cs → os.length = cs.length := fun h => by
    induction h with
    | nil => rfl
    | cons _ _ ih => rw [List.length_cons, List.length_cons, ih]
  have key : ∀ (js : List Nat) (os' : List Ob) (xs : List Ov) (cs : List Ov), Paired (fun j o => os[j]? = some o) js os' → js.Nodup → Paired (ObAt K G' H') os' xs → os.length = cs.length → (∀ (k : Nat) o x, k ∉ js → os[k]? = some o → cs[k]? = some x → ObAt K G' H' o x) →
      ∀ (k : Nat) o x, os[k]? = some o → (putO cs js xs)[k]? = some x → ObAt K G' H' o x := by
    intro js
    induction js with
    | nil =>
      intro os' xs cs p _ q hl hk k o x e1 e2
      unfold putO at e2
      exact hk k o x (by simp) e1 e2
    | cons j js ih =>
      intro os' xs cs p nj q hl hk k o x e1 e2
      cases p with
      | cons pj p =>
        cases q with
        | cons qj q =>
          unfold putO at e2
          obtain ⟨n1, n2⟩ := List.nodup_cons.mp nj
          refine ih _ _ _ p n2 q (by rw [List.length_set]; exact hl) (fun k2 o2 x2 hk2 f1 f2 => ?_) k o x e1 e2
          by_cases z : k2 = j
          · subst z
            rw [List.getElem?_set_self (by rw [← hl]; exact (List.getElem?_eq_some_iff.mp f1).1)] at f2
            cases f2
            rw [pj] at f1
            cases f1
            exact qj
          · rw [List.getElem?_set_ne (Ne.symm z)] at f2
            refine hk k2 o2 x2 (fun m => ?_) f1 f2
            rcases List.mem_cons.mp m with m | m
            · exact z m
            · exact hk2 m
  have all := key js os' xs cs p nj q (len h) fun k o x hk e1 e2 => (obs_at h e1 e2).keep eg (fr k o e1 hk)
  have mk : ∀ {os : List Ob} {cs : List Ov}, os.length = cs.length → (∀ (k : Nat) o x, os[k]? = some o → cs[k]? = some x → ObAt K G' H' o x) → ObsAt K os G' H' cs := by
    intro os
    induction os with
    | nil =>
      intro cs hl _
      cases cs with
      | nil => exact .nil
      | cons _ _ => cases hl
    | cons o os ih =>
      intro cs hl hk
      cases cs with
      | nil => cases hl
      | cons c cs => exact .cons (hk 0 o c rfl rfl) (ih (by simpa using hl) fun k o x e1 e2 => hk (k + 1) o x (by simpa using e1) (by simpa using e2))
  exact mk (by rw [putO_len]; exact len h) all
/-- what a call hands on, of what a def may change -/
structure SubX (C : Ct) (wb : Bool) (js : List Nat) (x : Bx) : Prop where
  tab : x.tab = none
  wbx : x.box.isSome = wb
  box : ∀ l, x.box = some l → C.bx.box = some l
  obs : Paired (fun j o => C.bx.obs[j]? = some o) js x.obs
theorem paired_mem {α β : Type} {F : α → β → Prop} {l : List α} {m : List β} (h : Paired F l m) {y : β} (hy : y ∈ m) : ∃ x ∈ l, F x y := by
  induction h with
  | nil => cases hy
  | cons f _ ih =>
    rcases List.mem_cons.mp hy with rfl | hy
    · exact ⟨_, List.mem_cons_self, f⟩
    · obtain ⟨x, hx, fx⟩ := ih hy
      exact ⟨x, List.mem_cons_of_mem _ hx, fx⟩
section
variable {C : Ct} {G G' H H' : Hp} {σ : L2.St} {s : Dt} {wb : Bool} {js : List Nat} {x : Bx}
theorem SubX.mem (h : SubX C wb js x) {o : Ob} (m : o ∈ x.obs) : ∃ j ∈ js, C.bx.obs[j]? = some o := paired_mem h.obs m
theorem SubX.has (h : SubX C wb js x) {l : Addr} (hl : x.has l) : C.bx.has l := by
  rcases hl.of with z | z | ⟨o, m, z⟩
  · exact .ofb (h.box l z)
  · rw [h.tab] at z
    cases z
  · obtain ⟨j, _, e⟩ := h.mem m
    exact .ofo (List.mem_of_getElem? e) z
theorem sub_nd {os : List Ob} (nd : os.Pairwise fun o o' => ∀ b, o.has b → ¬ o'.has b) : ∀ {js : List Nat} {os' : List Ob}, Paired (fun j o => os[j]? = some o) js os' → js.Nodup → os'.Pairwise fun o o' => ∀ b, o.has b → ¬ o'.has b
  | _, _, .nil, _ => .nil
  | _, _, .cons e p, nj => by
    obtain ⟨n1, n2⟩ := List.nodup_cons.mp nj
    refine List.pairwise_cons.mpr ⟨fun o' m b hb => ?_, sub_nd nd p n2⟩
    obtain ⟨j', m', e'⟩ := paired_mem p m
    exact obs_disj nd e e' (fun z => n1 (by rw [z]; exact m')) b hb
theorem SubX.inO (h : SubX C wb js x) (nj : js.Nodup) (f : Fin C G H s.c) {xs : List Ov} (hx : selV s.c.o js = some xs) {n : Int} (hn : wb = true → n = s.c.n) : InO C.K x G H ⟨n, xs⟩ := by
  refine ⟨⟨fun l hl o m => ?_, sub_nd f.ok.nd h.obs nj⟩, ?_, fun l hl => ?_⟩
  · obtain ⟨j, _, e⟩ := h.mem m
    refine f.ok.nb l (hl.imp (fun z => h.box l z) fun z => ?_) o (List.mem_of_getElem? e)
    rw [h.tab] at z
    cases z
  · have go : ∀ {js : List Nat} {os' : List Ob} {xs : List Ov}, Paired (fun j o => C.bx.obs[j]? = some o) js os' → Paired (fun j x => s.c.o[j]? = some x) js xs → Paired (ObAt C.K G H) os' xs := by
      intro js
      induction js with
      | nil =>
        intro os' xs p q
        cases p
        cases q
        exact .nil
      | cons j js ih =>
        intro os' xs p q
        cases p with
        | cons e p => cases q with
          | cons e2 q => exact .cons (obs_at f.ob e e2) (ih p q)
    exact go h.obs (selV_of hx)
  · have b := f.bx l (h.has hl)
    refine ⟨⟨fun z => ?_, fun z => ?_, b.1.ne, b.1.nt'⟩, b.2.1⟩
    · show BoxAt H l n
      rw [hn (by rw [← h.wbx, z]; rfl)]
      exact b.1.box (h.box l z)
    · rw [h.tab] at z
      cases z
/-- the state after a call -/
theorem Rel.callO (r : Rel C G σ H s) (h : SubX C wb js x) (nj : js.Nodup) {c' : Cs} (o : OutO C.K x G H G' H' c') :
    Rel C G' σ H' ⟨s.env, ⟨if wb = true then c'.n else s.c.n, putO s.c.o js c'.o⟩⟩ ∧ Gs C σ G H s G' H' ⟨s.env, ⟨if wb = true then c'.n else s.c.n, putO s.c.o js c'.o⟩⟩ := by
  have fr : ∀ b w, ¬ x.has b → H b = some w → H' b = some w := o.fr
  have gr : Gr C H H' := fun b w nb q => fr b w (fun z => nb (h.has z)) q
  have ob : ObsAt C.K C.bx.obs G' H' (putO s.c.o js c'.o) := obs_put o.eg r.fin.ob r.fin.ok.nd h.obs nj o.ob fun k ob e hk b w hb q => fr b w (fun z => by
    rcases z.of with z | z | ⟨o2, m2, z⟩
    · exact r.fin.ok.nb b (.inl (h.box b z)) ob (List.mem_of_getElem? e) hb
    · rw [h.tab] at z
      cases z
    · obtain ⟨j, hj, ej⟩ := h.mem m2
      exact obs_disj r.fin.ok.nd ej e (fun w => hk (by rw [← w]; exact hj)) b z hb) q
  -- the cells of code objects stay
  have ext : ∀ b w, isExt w = true → H b = some w → H' b = some w := fun b w hw q => fr b w (fun z => by
    rcases z.of with z | z | ⟨o2, m2, z⟩
    · obtain ⟨a1, b1, h1, _⟩ := r.fin.boxAt (h.box b z)
      rw [q] at h1
      cases h1
      cases hw
    · rw [h.tab] at z
      cases z
    · obtain ⟨j, hj, ej⟩ := h.mem m2
      obtain ⟨w2, e2, e3⟩ := r.fin.ob.soft o2 (List.mem_of_getElem? ej) z
      rw [q] at e2
      cases e2
      rw [hw] at e3
      cases e3) q
  have bx : ∀ l, C.bx.has l → Bxs C.bx H' l ⟨if wb = true then c'.n else s.c.n, putO s.c.o js c'.o⟩ := fun l hl => by
    have b := (r.fin.bx l hl).1
    by_cases q : ∃ ob ∈ C.bx.obs, ob.has l
    · obtain ⟨ob1, m1, h1⟩ := q
      obtain ⟨k, hk⟩ := List.getElem?_of_mem m1
      obtain ⟨v, _, ov⟩ := obs_get ob hk
      exact ob_bxs ov h1 (fun z => r.fin.ok.nb l (.inl z) ob1 m1 h1) fun z => r.fin.ok.nb l (.inr z) ob1 m1 h1
    · by_cases z : x.has l
      · rcases z.of with z | z | ⟨o2, m2, z⟩
        · have hb := o.box l z
          have hw : wb = true := by rw [← h.wbx, z]; rfl
          subst hw
          refine .ofBox hb fun ht => ?_
          obtain ⟨ps, h2⟩ := (b.tab ht).ne
          obtain ⟨a1, b1, h1, _⟩ := r.fin.boxAt (h.box l z)
          rw [h1] at h2
          cases h2
        · rw [h.tab] at z
          cases z
        · obtain ⟨j, hj, ej⟩ := h.mem m2
          exact absurd ⟨o2, List.mem_of_getElem? ej, z⟩ q
      · cases e : H l with
        | none => exact absurd e b.ne
        | some w =>
          have e2 := fr l w z e
          refine ⟨fun hb => ?_, fun ht => ?_, by rw [e2]; exact Option.some_ne_none _, fun w2 q2 => ?_⟩
          · have hw : wb = false := by
              cases wb with
              | false => rfl
              | true =>
                cases e3 : x.box with
                | none => have := h.wbx; rw [e3] at this; cases this
                | some l2 =>
                  have := h.box l2 e3
                  rw [hb] at this
                  cases this
                  exact absurd (.ofb e3) z
            subst hw
            exact (b.box hb).keep fun w2 q2 => by rw [e] at q2; cases q2; exact e2
          · obtain ⟨ps, h1, h2, h3⟩ := b.tab ht
            refine ⟨ps, fr l _ z h1, h2, fun pos cv hc => ?_⟩
            obtain ⟨cc, e3, e4⟩ := h3 pos cv hc
            exact ⟨cc, e3, ext cc _ rfl e4⟩
          · rw [e2] at q2
            cases q2
            exact b.nt' w e
  refine ⟨r.step (c' := ⟨if wb = true then c'.n else s.c.n, putO s.c.o js c'.o⟩) o.eg gr o.gh o.nw ob bx, gr, fun b hb z => ?_, fun b w h1 _ h2 hn _ => o.nw.out h1 h2 hn, fun i y e m => ⟨y, e, m⟩⟩
  by_cases q : C.bx.has b
  · exact (bx b q).ne z
  · cases e : H b with
    | none => exact hb e
    | some w =>
      rw [gr b w q e] at z
      cases z
end
abbrev WH := Dt → (Bool → List Nat → List PyData → Dt → Prop) → Prop
def IH (C : Ct) (t : TA) (w : WH) : Prop := ∀ G σ H s Q Q', Rel C G σ H s → w s Q →
  (∀ x wb js vs ds s' G' H', Q wb js ds s' → SubX C wb js x → Rel C G' σ H' s' → Ex G G' → Gs C σ G H s G' H' s' → DpAll C.K G' vs ds → Q' (x.hd ++ vs) H') → t σ H Q'
structure DH (X : Cx) (C : Ct) (es : List Expr) (t : TA) (w : WH) : Prop where
  pa : PA X es t
  ih : IH C t w
section
variable {X : Cx} {C : Ct} {e : Expr} {es : List Expr} {pos p : Pos} {t tA : TA} {w : WH} {wA : WA} {y : Str}
theorem dh_data (h : DA X C es tA wA) : DH X C es tA (fun s Q => wA s fun ds s1 => Q false [] ds s1) := ⟨h.pa, fun G σ H s Q Q' r q k => h.ia G σ H s _ _ r q fun vs ds s' G' H' q' r' eg g p => k ⟨none, none, []⟩ false [] vs ds s' G' H' q' ⟨rfl, rfl, (fun _ z => by cases z), .nil⟩ r' eg g p⟩
def wHOb (i : Nat) (w : WH) : WH := fun s Q => ∃ j, s.env[i]? = some (some (.ob j)) ∧ w s fun wb js ds s1 => wb = false ∧ Q false (j :: js) ds s1
theorem dh_ob (i : Nat) (h : DH X C es t w) (hv : PE X (.Name y p) (tVar i) := by exact pv _) (hs : starEach (.Name y p :: es) X.env = (false, eval (.Name y p) X.env) :: starEach es X.env := by rfl) : DH X C (.Name y p :: es) (tCons (tVar i) t) (wHOb i w) := ⟨pa_cons hv h.pa hs, fun G σ H s Q Q' r q k => by
  obtain ⟨j, e, q⟩ := q
  obtain ⟨v, hv, o, ho, rfl⟩ := r.sl i _ e
  refine ⟨_, hv, h.ih G σ H s _ _ r q fun x wb js vs ds s' G' H' q' sx r' eg g p => ?_⟩
  obtain ⟨rfl, q'⟩ := q'
  have hb : x.box = none := by
    cases z : x.box with
    | none => rfl
    | some l => have := sx.wbx; rw [z] at this; cases this
  have e2 : V.ref o.adr :: (x.hd ++ vs) = Bx.hd ⟨none, none, o :: x.obs⟩ ++ vs := by
    unfold Bx.hd
    rw [hb]
    rfl
  show Q' (V.ref o.adr :: (x.hd ++ vs)) H'
  rw [e2]
  exact k _ false (j :: js) vs ds s' G' H' q' ⟨rfl, rfl, (fun _ z => by cases z), .cons ho sx.obs⟩ r' eg g p⟩
def wHBox (i : Nat) (w : WH) : WH := fun s Q => s.env[i]? = some (some .box) ∧ w s fun wb js ds s1 => wb = false ∧ Q true js ds s1
theorem dh_box (i : Nat) (h : DH X C es t w) (hv : PE X (.Name y p) (tVar i) := by exact pv _) (hs : starEach (.Name y p :: es) X.env = (false, eval (.Name y p) X.env) :: starEach es X.env := by rfl) : DH X C (.Name y p :: es) (tCons (tVar i) t) (wHBox i w) := ⟨pa_cons hv h.pa hs, fun G σ H s Q Q' r q k => by
  obtain ⟨e, q⟩ := q
  obtain ⟨v, hv, l, hl, rfl⟩ := r.sl i _ e
  refine ⟨_, hv, h.ih G σ H s _ _ r q fun x wb js vs ds s' G' H' q' sx r' eg g p => ?_⟩
  obtain ⟨rfl, q'⟩ := q'
  have hb : x.box = none := by
    cases z : x.box with
    | none => rfl
    | some l => have := sx.wbx; rw [z] at this; cases this
  have e2 : V.ref l :: (x.hd ++ vs) = Bx.hd ⟨some l, none, x.obs⟩ ++ vs := by
    unfold Bx.hd
    rw [hb]
    rfl
  show Q' (V.ref l :: (x.hd ++ vs)) H'
  rw [e2]
  exact k _ true js vs ds s' G' H' q' ⟨rfl, rfl, (fun l2 z => by cases z; exact hl), sx.obs⟩ r' eg g p⟩
end
section
variable {P : Program} {wd : World} {K : PySem.W.Frag} {mg : Str → Option Value} {base : Heap}
structure DefO (P : Program) (wd : World) (K : PySem.W.Frag) (mg : Str → Option Value) (base : Heap) (k : Nat) (x : Str) (st : Stmt) (ps : List Str) (cS : Addr) (wb : Bool) (F : FOb) : Prop where
  ex : ∃ f fd, FnG P wd K mg base k f fd ps (spObj K mg cS wb F) ∧ Fun K x x st f fd ∧ Binds K fd ps [] ∧ mg x = some (.ref f)
structure MetO (P : Program) (wd : World) (K : PySem.W.Frag) (mg : Str → Option Value) (base : Heap) (k : Nat) (cS : Addr) (m : Str) (ps : List Str) (F : FOb) : Prop where
  ex : ∃ f fd, FnGX P wd K mg base k f fd ps (spObj K mg cS false F) ∧ Binds K fd ps [] ∧ Meth K cS m f
def hdO (wb : Bool) (m : Nat) : List DV := (if wb = true then [.box] else []) ++ (List.range m).map .ob
theorem hdO_len (wb : Bool) (m : Nat) : (hdO wb m).length = m + if wb = true then 1 else 0 := by
  unfold hdO
  cases wb <;> simp
theorem hd_len {x : Bx} {wb : Bool} (h : x.box.isSome = wb) : x.hd.length = x.obs.length + if wb = true then 1 else 0 := by
  unfold Bx.hd
  cases z : x.box with
  | none =>
    rw [z] at h
    subst h
    simp
  | some l =>
    rw [z] at h
    subst h
    simp
theorem obsAt_len {K : PySem.W.Frag} {G H : Hp} : ∀ {os : List Ob} {cs : List Ov}, ObsAt K os G H cs → os.length = cs.length
  | _, _, .nil => rfl
  | _, _, .cons _ t => by rw [List.length_cons, List.length_cons, obsAt_len t]
/-- the state at the beginning -/
theorem rel0 {x : Bx} {c : Cs} {G H : Hp} {vs' : List V} {ds : List PyData} {wb : Bool} {N : List Str} (ht : x.tab = none) (hb : x.box.isSome = wb) (i : InO K x G H c) (gh : Ex G H) (p : DpAll K G vs' ds) :
    Rel ⟨K, x, H, G⟩ G (L2.start N (x.hd ++ vs')) H ⟨env0 N (hdO wb c.o.length ++ ds.map .d), c⟩ := by
  have hl : (hdO wb c.o.length).length = x.hd.length := by rw [hdO_len, hd_len hb, obsAt_len i.ob]
  have look : ∀ {j : Nat} {y : DV}, (hdO wb c.o.length)[j]? = some y → y.mut = false ∧ ∃ v, x.hd[j]? = some v ∧ RV ⟨K, x, H, G⟩ G H v y := fun {j y} e => by
    unfold hdO at e
    unfold Bx.hd
    have key : ∀ {m : Nat} {y : DV}, ((List.range c.o.length).map DV.ob)[m]? = some y → y.mut = false ∧ ∃ v, (x.obs.map fun o => V.ref o.adr)[m]? = some v ∧ RV ⟨K, x, H, G⟩ G H v y := fun {m y} e => by
      rw [List.getElem?_map] at e
      cases q : (List.range c.o.length)[m]? with
      | none => rw [q] at e; cases e
      | some n =>
        rw [q] at e
        cases e
        obtain ⟨h1, h2⟩ := List.getElem?_eq_some_iff.mp q
        rw [List.getElem_range] at h2
        subst h2
        rw [List.length_range] at h1
        have h3 : m < x.obs.length := by rw [obsAt_len i.ob]; exact h1
        refine ⟨rfl, V.ref x.obs[m].adr, by rw [List.getElem?_map, List.getElem?_eq_getElem h3]; rfl, x.obs[m], List.getElem?_eq_getElem h3, rfl⟩
    cases wb with
    | false =>
      have hn : x.box = none := by
        cases z : x.box with
        | none => rfl
        | some l => rw [z] at hb; cases hb
      rw [hn]
      exact key e
    | true =>
      cases z : x.box with
      | none => rw [z] at hb; cases hb
      | some l =>
        cases j with
        | zero =>
          cases e
          exact ⟨rfl, V.ref l, rfl, l, z, rfl⟩
        | succ j => exact key (by simpa using e)
  have get : ∀ {j : Nat} {y : DV}, (env0 N (hdO wb c.o.length ++ ds.map .d))[j]? = some (some y) → y.mut = false ∧ ∃ v, (L2.start N (x.hd ++ vs'))[j]? = some (some v) ∧ RV ⟨K, x, H, G⟩ G H v y := fun {j y} e => by
    have e' := env0_get e
    by_cases hj : j < (hdO wb c.o.length).length
    · rw [List.getElem?_append_left hj] at e'
      obtain ⟨a1, v, hv, rv⟩ := look e'
      exact ⟨a1, v, start_get (by rw [List.getElem?_append_left (by rw [← hl]; exact hj)]; exact hv), rv⟩
    · rw [List.getElem?_append_right (by omega), List.getElem?_map] at e'
      cases q : ds[j - (hdO wb c.o.length).length]? with
      | none => rw [q] at e'; cases e'
      | some d =>
        rw [q] at e'
        cases e'
        obtain ⟨v, hv, pv⟩ := dpa_back p q
        exact ⟨rfl, v, start_get (by rw [List.getElem?_append_right (by omega), ← hl]; exact hv), pv⟩
  refine ⟨⟨gh, Ex.refl G, Nw.refl G H, Gr.refl _ H, i.ok, i.ob, fun l hl => ⟨(i.bx l hl).1, (i.bx l hl).2, (i.bx l hl).1.ne⟩⟩, env0_len (by rw [List.length_append, List.length_append, List.length_map, hl, dpa_len p]), fun j y e => (get e).2, fun i j y z q _ e1 _ m1 => ?_⟩
  rw [(get e1).1] at m1
  cases m1
theorem Fin.outO {x : Bx} {G H G' H' : Hp} {c' : Cs} (f : Fin ⟨K, x, H, G⟩ G' H' c') : OutO K x G H G' H' c' := ⟨f.g0, fun b w nb q => f.hh b w nb q, f.ob, fun l hl => f.boxAt hl, f.gh, f.nw⟩
theorem MetO.make {k : Nat} {m qual : Str} {cS : Addr} {st : Stmt} {N ps : List Str} {F : FOb} (c : FctM K cS m qual st ps) (S : FnScope N ps (defScope st)) (hl : ∀ c ds R, F c ds R → c.o.length + ds.length = ps.length)
    (body : ∀ (f : Addr) (cdv : Value) (A : Around) (outer : List Env) (s : Shared) (H G : Hp) (E : XK) (x : Bx) (c : Cs) (ds : List PyData) (R : Oc → Cs → Prop), A.guards = some [] → Room k (A.deeper (envOfC qual (defScope st) s.heap.objs.size f cdv)) → x.tab = none → OfS cS x.obs → F c ds R →
      Xt ⟨K, x, H, G⟩ mg E (fun nm fld d c => R (.ex nm fld d) c) →
      ∃ t w, DSs (cxOf (L2.CX P wd) P wd K mg base N qual (defScope st) f cdv A outer s H E) ⟨K, x, H, G⟩ (defBody st) t w ∧
        w { nx := fun s => R (.ok .none) s.c, rt := fun d c => R (.ok d) c } ⟨env0 N (hdO false c.o.length ++ ds.map .d), c⟩) : MetO P wd K mg base (k + 1) cS m ps F := by
  obtain ⟨f, fd, Fn, b, mt⟩ := c.ex
  refine ⟨f, fd, fnGX_of Fn S (fun vs H Q E h => ?_) (fun cdv A outer s H vs Q E hG hr h => ?_), b, mt⟩
  · obtain ⟨x, c, vs', G, ds, R, rfl, _, hb, _, i, _, p, hF, _⟩ := h
    rw [List.length_append, hd_len hb, dpa_len p, obsAt_len i.ob]
    exact hl c ds R hF
  · obtain ⟨x, c, vs', G, ds, R, rfl, ht, hb, hS, i, gh, p, hF, kk, kx⟩ := h
    obtain ⟨t, w, D, hw⟩ := body f cdv A outer s H G E x c ds R hG hr ht hS hF fun nm fld d c Cc dx u G' H' hR hm f' h0 hd pd => kx nm fld d c Cc dx u G' H' hR hm f'.outO h0 hd pd
    exact ⟨t, D.ps, D.is G _ H _ _ _ (rel0 ht hb i gh p) hw ⟨fun σ' H' s' G' hn r' e => kk .non .none _ G' H' hn r'.fin.outO .non, fun _ _ _ _ h => h.elim, fun _ _ _ _ h => h.elim, fun v d c' G' H' hR f' e pv => kk v d c' G' H' hR f'.outO pv⟩⟩
theorem DefO.make {k : Nat} {y : Str} {cS : Addr} {wb : Bool} {st : Stmt} {N ps : List Str} {F : FOb} (c : Fct K mg y st ps) (S : FnScope N ps (defScope st)) (hl : ∀ c ds R, F c ds R → (hdO wb c.o.length).length + ds.length = ps.length)
    (body : ∀ (f : Addr) (cdv : Value) (A : Around) (outer : List Env) (s : Shared) (H G : Hp) (E : XK) (x : Bx) (c : Cs) (ds : List PyData) (R : Oc → Cs → Prop), A.guards = some [] → Room k (A.deeper (envOfC y (defScope st) s.heap.objs.size f cdv)) → x.tab = none → OfS cS x.obs → F c ds R →
      ∃ t w, DSs (cxOf CX0 P wd K mg base N y (defScope st) f cdv A outer s H E).nox ⟨K, x, H, G⟩ (defBody st) t w ∧
        w { nx := fun s => R (.ok .none) s.c, rt := fun d c => R (.ok d) c } ⟨env0 N (hdO wb c.o.length ++ ds.map .d), c⟩) : DefO P wd K mg base (k + 1) y st ps cS wb F := by
  obtain ⟨f, fd, Fn, b, m⟩ := c.ex
  refine ⟨f, fd, fnG_of Fn S (fun vs H Q E h => ?_) (fun cdv A outer s H vs Q E hG hr h => ?_), Fn, b, m⟩
  · obtain ⟨x, c, vs', G, ds, R, rfl, _, hb, _, i, _, p, hF, _⟩ := h
    have := hl c ds R hF
    rw [hdO_len] at this
    rw [List.length_append, hd_len hb, dpa_len p, obsAt_len i.ob]
    exact this
  · obtain ⟨x, c, vs', G, ds, R, rfl, ht, hb, hS, i, gh, p, hF, kk, kx⟩ := h
    obtain ⟨t, w, D, hw⟩ := body f cdv A outer s H G E x c ds R hG hr ht hS hF
    exact ⟨t, D.ps, D.is G _ H _ _ _ (rel0 ht hb i gh p) hw ⟨fun σ' H' s' G' hn r' e => kk .non .none _ G' H' hn r'.fin.outO .non, fun _ _ _ _ h => h.elim, fun _ _ _ _ h => h.elim, fun v d c' G' H' hR f' e pv => kk v d c' G' H' hR f'.outO pv⟩⟩
end
end Dw
namespace Dw
open PySem PySem.Spec PyProof.Rows L2 OgR Evl Gx
abbrev W0 : L2.WX := fun _ _ _ _ => False
abbrev QXd := Str → Str → PyData → Dt → Prop
def IYO (C : Ct) (mg : Str → Option Value) (t : L2.WX → TE) (w : WY) : Prop := ∀ (W : L2.WX) G σ H s Q QX Q', Rel C G σ H s → w s Q QX →
    (∀ v d s' G' H', Q d s' → Rel C G' σ H' s' → Ex G G' → Gs C σ G H s G' H' s' → Dp C.K G' v d → Q' v H') →
    (∀ (nm fld : Str) d s' G' H' (Cc dx : Addr) u, QX nm fld d s' → mg nm = some (.ref Cc) → Rel C G' σ H' s' → Ex G G' → Gs C σ G H s G' H' s' → C.H0 dx = none → H' dx = some (.xd [(fld, u)]) → Dp C.K G' u d → W (.ref Cc) (some dx) σ H') → t W σ H Q'
def wNX (w : WY) : WE := fun s Q => w s Q fun _ _ _ _ => False
section
variable {X : Cx} {C : Ct} {e o : Expr} {es : List Expr} {pos p apos : Pos} {t : L2.WX → TE} {w : WY} {m x y : Str} {ps : List Str} {k : Nat} {f cS : Addr} {fd : FuncData} {sp : Sp} {tA : TA} {ta : TE} {W : L2.WX} {wh : WH} {F : FOb} {st : Stmt} {wb : Bool}
theorem ie_iy {mg : Str → Option Value} (h : IYO C mg t w) : IE C (t W0) (wNX w) := fun G σ H s Q Q' r q k => h W0 G σ H s Q _ Q' r q k fun _ _ _ _ _ _ _ _ _ z => z.elim
/-- what a call asks, and where it leads -/
def CallsO (F : FOb) (wb0 wb : Bool) (js : List Nat) (ds : List PyData) (s : Dt) (Q : PyData → Dt → Prop) (QX : QXd) : Prop := wb = wb0 ∧ js.Nodup ∧ ∃ xs, selV s.c.o js = some xs ∧ F ⟨if wb0 = true then s.c.n else 0, xs⟩ ds fun o c' => match o with
  | .ok d => Q d ⟨s.env, ⟨if wb0 = true then c'.n else s.c.n, putO s.c.o js c'.o⟩⟩
  | .ex nm fld d => QX nm fld d ⟨s.env, ⟨if wb0 = true then c'.n else s.c.n, putO s.c.o js c'.o⟩⟩
theorem spO_call {mg : Str → Option Value} {G σ H s Q QX Q'} {js : List Nat} {x : Bx} {vs : List V} {ds : List PyData} (hC : OfS cS C.bx.obs) (r : Rel C G σ H s) (sx : SubX C wb js x) (p : DpAll C.K G vs ds) {wb0 : Bool} (q : CallsO F wb0 wb js ds s Q QX)
    (k : ∀ v d s' G' H', Q d s' → Rel C G' σ H' s' → Ex G G' → Gs C σ G H s G' H' s' → Dp C.K G' v d → Q' v H')
    (kx : ∀ (nm fld : Str) d s' G' H' (Cc dx : Addr) u, QX nm fld d s' → mg nm = some (.ref Cc) → Rel C G' σ H' s' → Ex G G' → Gs C σ G H s G' H' s' → C.H0 dx = none → H' dx = some (.xd [(fld, u)]) → Dp C.K G' u d → W (.ref Cc) (some dx) σ H') :
    spObj C.K mg cS wb0 F (x.hd ++ vs) H Q' (L2.WE W σ) := by
  obtain ⟨rfl, nj, xs, hx, hF⟩ := q
  refine ⟨x, _, vs, G, ds, _, rfl, sx.tab, sx.wbx, fun o m => ?_, sx.inO nj r.fin hx (n := if wb = true then s.c.n else 0) (fun h => by rw [if_pos h]), r.fin.gh, p, hF, fun v d c' G' H' hR out pd => ?_, fun nm fld d c' Cc dx u G' H' hR hm out h0 hd pd => ?_⟩
  · obtain ⟨j, _, ej⟩ := sx.mem m
    exact hC o (List.mem_of_getElem? ej)
  · obtain ⟨r2, g2⟩ := r.callO sx nj out
    exact k v d _ G' H' hR r2 out.eg g2 pd
  · obtain ⟨r2, g2⟩ := r.callO sx nj out
    exact kx nm fld d _ G' H' Cc dx u hR hm r2 out.eg g2 (r.fin.h0 h0) hd pd
def wCO (F : FOb) (wb0 : Bool) (wh : WH) : WY := fun s Q QX => wh s fun wb js ds s1 => CallsO F wb0 wb js ds s1 Q QX
theorem iy_call {mg : Str → Option Value} (hC : OfS cS C.bx.obs) (h : IH C tA wh) : IYO C mg (tCX (spObj C.K mg cS wb F) tA) (wCO F wb wh) := fun W G σ H s Q QX Q' r q k kx =>
  h G σ H s _ _ r q fun x wb1 js vs ds s1 G1 H1 q1 sx r1 eg1 g1 p1 => spO_call hC r1 sx p1 q1 (fun v d s' G' H' a b c a4 a5 => k v d s' G' H' a b (eg1.trans c) (g1.trans a4) a5) fun nm fld d s' G' H' Cc dx u a b c a4 a5 => kx nm fld d s' G' H' Cc dx u a b c (eg1.trans a4) (g1.trans a5)
theorem de_callO {mgv : Str → Option Value} (D : DefO X.prog X.w X.K mgv X.base k x st ps cS wb F) (hK : X.K = C.K) (hC : OfS cS C.bx.obs) (hG : X.A.guards = some []) (hr : Room k X.A) (hg : Gl X x) (ha : DH X C (e :: es) tA wh)
    (hdb : (x == ("__debug__" : Str)) = false := by decide) (he : starEach (e :: es) X.env = (false, eval e X.env) :: starEach es X.env := by rfl) (hpl : (backTo pos (starEach es X.env)).any (·.1) = false := by rfl) (hmg : X.mg = mgv := by rfl) :
    DE X C (.Call (.Name x p) (e :: es) [] pos) (tCall (spObj C.K mgv cS wb F) [] (fun _ _ _ => False) tA) (wNX (wCO F wb wh)) := by
  subst hmg
  obtain ⟨f, fd, G, Fn, b, mm⟩ := D.ex
  refine ⟨hK ▸ pe_callG G hG hr hg mm Fn.kp b ha.pa hdb he hpl, fun G σ H s Q Q' r q k => ?_⟩
  show tA σ H fun vs H1 => spObj C.K X.mg cS wb F (vs ++ []) H1 Q' _
  simp only [List.append_nil]
  exact iy_call (W := W0) hC ha.ih G σ H s Q _ Q' r q k fun _ _ _ _ _ _ _ _ _ z => z.elim
def tMX (C : Addr) (m : Str) (sp : Sp) (ta : TE) (t : TA) (W : L2.WX) : TE := fun σ H Q => ta σ H fun x H1 => ∃ a dx fs, x = .ref a ∧ H1 a = some (.ins C dx fs) ∧ fs.lookup m = none ∧ t σ H1 fun vs H2 => sp (x :: vs) H2 Q (L2.WE W σ)
theorem run_fnX {pins : List (Addr × Obj)} {σ : L2.St} {H : Hp} {s : Shared} {Q : VK} {us : List Value} {vs : List V} (F : FnGX X.prog X.w X.K X.mg X.base k f fd ps sp) (hG : X.A.guards = some []) (tks : Takes X W) (hr : Room k X.A) (hb : Binds X.K fd ps [])
    (I : Inv X pins σ H s) (r : Vals vs us) (q : sp vs H Q (L2.WE W σ)) : wpAny (model X.prog X.w) X.A (call (.ref f) us) (EP X pins σ Q) X.xe s := by
  have hl : us.length = ps.length := by rw [← r.length]; exact F.1 _ _ _ _ q
  have hb' := hb s us I.kIn (by rw [List.append_nil]; exact hl)
  rw [List.append_nil] at hb'
  refine wpAny_call (codeAny_mono (F.2 X.A X.stack s H ⟨us, []⟩ us vs Q (L2.WE W σ) hG hr I.env0 hb' r q) ?_)
  rintro (er | fl) s' hq
  · exact passAt tks σ pins H s er s' I hq
  · cases fl with
    | ret u => exact I.after hq
    | next => exact False.elim hq
    | brk => exact False.elim hq
    | cont => exact False.elim hq
theorem pe_methX {pl : Sem Bool} (he : PE X o ta) (c : L2.Cls X.K cS) (hm : Meth X.K cS m f) (F : FnGX X.prog X.w X.K X.mg X.base k f fd ps sp) (hG : X.A.guards = some []) (tks : Takes X W) (hr : Room k X.A) (hb : Binds X.K fd ps []) (ha : PA X (e :: es) tA)
    (hst : starEach (e :: es) X.env = (false, eval e X.env) :: starEach es X.env := by rfl) (hpl : (backTo pos (starEach es X.env)).any (·.1) = false := by rfl)
    (ht : eval (.Call (.Attribute o m apos) (e :: es) [] pos) X.env = (do
      let ov ← eval o X.env
      standAt apos.atName
      let (f, first) ← holding [ov] (getMethod ov m pl)
      callWith pos f first (backTo pos (starEach (e :: es) X.env)) (backToKw pos (keywordEach [] X.env))) := by rfl) : PE X (.Call (.Attribute o m apos) (e :: es) [] pos) (tMX cS m sp ta tA W) := by
  refine ⟨fun pins s σ H Q I h => PySem.W.methodCall_KW (pl := pl) (thn (he.run pins s σ H _ I h) fun u s1 z => ?_) ht⟩
  obtain ⟨_, H1, I1, rx, a, dx, fs, rfl, ea, l, q⟩ := z
  cases (show u = Value.ref a from rx)
  exact getmeth_ok I1 ea c hm l (PySem.W.callWith_K (first := [.ref a]) (h₀ := X.base) I.ok.mod.kin hm.kp (thn (ha.run pos pins s1 σ H1 _ I1 q) fun us s2 ⟨vs, H2, I2, r, q2⟩ => ⟨I2.kIn, run_fnX (us := .ref a :: us) (vs := .ref a :: vs) F hG tks hr hb I2 (.cons rfl r) q2⟩) hst hpl)
theorem pe_methX0 {pl : Sem Bool} (he : PE X o ta) (c : L2.Cls X.K cS) (hm : Meth X.K cS m f) (F : FnGX X.prog X.w X.K X.mg X.base k f fd ps sp) (hG : X.A.guards = some []) (tks : Takes X W) (hr : Room k X.A) (hb : Binds X.K fd ps [])
    (ht : eval (.Call (.Attribute o m apos) [] [] pos) X.env = (do
      let ov ← eval o X.env
      standAt apos.atName
      let (f, first) ← holding [ov] (getMethod ov m pl)
      callWith pos f first (backTo pos (starEach [] X.env)) (backToKw pos (keywordEach [] X.env))) := by rfl) : PE X (.Call (.Attribute o m apos) [] [] pos) (tMX cS m sp ta tNil W) := by
  refine ⟨fun pins s σ H Q I h => PySem.W.methodCall_KW (pl := pl) (thn (he.run pins s σ H _ I h) fun u s1 z => ?_) ht⟩
  obtain ⟨_, H1, I1, rx, a, dx, fs, rfl, ea, l, q⟩ := z
  cases (show u = Value.ref a from rx)
  exact getmeth_ok I1 ea c hm l (PySem.W.callWith_K0 (first := [.ref a]) I1.kIn hm.kp (run_fnX (us := [.ref a]) (vs := [.ref a]) F hG tks hr hb I1 (.cons rfl .nil) q))
/-- the name is none of the street's own -/
def ownN (m : Str) : Bool := m == ("plots" : Str) || m == ("states" : Str) || m == ("told" : Str)
theorem own_no {m : Str} {a b c : V} (h : ownN m = false) : List.lookup m [(("plots" : Str), a), ("states", b), ("told", c)] = none := by
  unfold ownN at h
  simp only [Bool.or_eq_false_iff] at h
  obtain ⟨⟨h1, h2⟩, h3⟩ := h
  simp only [List.lookup, h1, h2, h3]
def wMX (i : Nat) (F : FOb) (wh : WH) : WY := fun s Q QX => ∃ j S, s.env[i]? = some (some (.ob j)) ∧ s.c.o[j]? = some (.st S) ∧ wh s fun wb js ds s1 => wb = false ∧ CallsO F false false (j :: js) ds s1 Q QX
theorem iy_meth {mg : Str → Option Value} {i : Nat} (hC : OfS cS C.bx.obs) (hn : ownN m = false) (h : IH C tA wh) : IYO C mg (tMX cS m (spObj C.K mg cS false F) (tVar i) tA) (wMX i F wh) := fun W G σ H s Q QX Q' r q k kx => by
  obtain ⟨j, S, e, es, q⟩ := q
  obtain ⟨v, hv, o, ho, rfl⟩ := r.sl i _ e
  have ob := obs_at r.fin.ob ho es
  have hc := hC o (List.mem_of_getElem? ho)
  refine ⟨_, hv, ?_⟩
  cases ob with
  | @st cl a dx ps pt _ xs ys ha hd hs ht ne ds dt ls lt =>
    cases (show cl = cS from hc)
    refine ⟨a, dx, _, rfl, ha, own_no hn, h G σ H s _ _ r q fun x wb1 js vs ds s1 G1 H1 q1 sx r1 eg1 g1 p1 => ?_⟩
    obtain ⟨rfl, q1⟩ := q1
    have hb : x.box = none := by
      cases z : x.box with
      | none => rfl
      | some l => have := sx.wbx; rw [z] at this; cases this
    have e2 : V.ref a :: (x.hd ++ vs) = Bx.hd ⟨none, none, .st cS a dx ps pt :: x.obs⟩ ++ vs := by
      unfold Bx.hd
      rw [hb]
      rfl
    show spObj C.K mg cS false F (V.ref a :: (x.hd ++ vs)) H1 Q' _
    rw [e2]
    exact spO_call hC r1 (show SubX C false (j :: js) ⟨none, none, .st cS a dx ps pt :: x.obs⟩ from ⟨rfl, rfl, (fun _ z => by cases z), .cons ho sx.obs⟩) p1 q1 (fun v d s' G' H' a b c a4 a5 => k v d s' G' H' a b (eg1.trans c) (g1.trans a4) a5) fun nm fld d s' G' H' Cc dx u a b c a4 a5 => kx nm fld d s' G' H' Cc dx u a b c (eg1.trans a4) (g1.trans a5)
theorem dh_nil : DH X C [] tNil (fun s Q => Q false [] [] s) := dh_data da_nil
theorem dex_meth (i : Nat) {yp : Pos} {pl : Sem Bool} (D : MetO X.prog X.w X.K X.mg X.base k cS m ps F) (c : L2.Cls X.K cS) (hK : X.K = C.K) (hC : OfS cS C.bx.obs) (hG : X.A.guards = some []) (hr : Room k X.A) (ha : ∀ pn xe, DH (X.tr pn xe) C (e :: es) tA wh) (hn : ownN m = false := by decide)
    (hv : ∀ pn xe, PE (X.tr pn xe) (.Name y yp) (tVar i) := by exact fun _ _ => pv _)
    (hst : starEach (e :: es) X.env = (false, eval e X.env) :: starEach es X.env := by rfl) (hpl : (backTo pos (starEach es X.env)).any (·.1) = false := by rfl)
    (ht : eval (.Call (.Attribute (.Name y yp) m apos) (e :: es) [] pos) X.env = (do
      let ov ← eval (.Name y yp) X.env
      standAt apos.atName
      let (f, first) ← holding [ov] (getMethod ov m pl)
      callWith pos f first (backTo pos (starEach (e :: es) X.env)) (backToKw pos (keywordEach [] X.env))) := by rfl) :
    DEX X C (.Call (.Attribute (.Name y yp) m apos) (e :: es) [] pos) (tMX cS m (spObj C.K X.mg cS false F) (tVar i) tA) (wMX i F wh) := by
  obtain ⟨f, fd, G, b, mm⟩ := D.ex
  exact ⟨fun W pn xe tk => hK ▸ pe_methX (X := X.tr pn xe) (pl := pl) (hv pn xe) c mm G hG tk hr b (ha pn xe).pa hst hpl ht, iy_meth hC hn (ha X.pn X.xe).ih⟩
theorem dex_meth0 (i : Nat) {yp : Pos} {pl : Sem Bool} (D : MetO X.prog X.w X.K X.mg X.base k cS m ps F) (c : L2.Cls X.K cS) (hK : X.K = C.K) (hC : OfS cS C.bx.obs) (hG : X.A.guards = some []) (hr : Room k X.A) (hn : ownN m = false := by decide)
    (hv : ∀ pn xe, PE (X.tr pn xe) (.Name y yp) (tVar i) := by exact fun _ _ => pv _)
    (ht : eval (.Call (.Attribute (.Name y yp) m apos) [] [] pos) X.env = (do
      let ov ← eval (.Name y yp) X.env
      standAt apos.atName
      let (f, first) ← holding [ov] (getMethod ov m pl)
      callWith pos f first (backTo pos (starEach [] X.env)) (backToKw pos (keywordEach [] X.env))) := by rfl) :
    DEX X C (.Call (.Attribute (.Name y yp) m apos) [] [] pos) (tMX cS m (spObj C.K X.mg cS false F) (tVar i) tNil) (wMX i F fun s Q => Q false [] [] s) := by
  obtain ⟨f, fd, G, b, mm⟩ := D.ex
  exact ⟨fun W pn xe tk => hK ▸ pe_methX0 (X := X.tr pn xe) (pl := pl) (hv pn xe) c mm G hG tk hr b ht, iy_meth hC hn (dh_nil (X := X)).ih⟩
theorem de_meth {mgv : Str → Option Value} (i : Nat) {yp : Pos} {pl : Sem Bool} (D : MetO X.prog X.w X.K mgv X.base k cS m ps F) (c : L2.Cls X.K cS) (hK : X.K = C.K) (hC : OfS cS C.bx.obs) (hG : X.A.guards = some []) (hr : Room k X.A) (ha : DH X C (e :: es) tA wh) (hn : ownN m = false := by decide)
    (hv : PE X (.Name y yp) (tVar i) := by exact pv _)
    (hst : starEach (e :: es) X.env = (false, eval e X.env) :: starEach es X.env := by rfl) (hpl : (backTo pos (starEach es X.env)).any (·.1) = false := by rfl)
    (ht : eval (.Call (.Attribute (.Name y yp) m apos) (e :: es) [] pos) X.env = (do
      let ov ← eval (.Name y yp) X.env
      standAt apos.atName
      let (f, first) ← holding [ov] (getMethod ov m pl)
      callWith pos f first (backTo pos (starEach (e :: es) X.env)) (backToKw pos (keywordEach [] X.env))) := by rfl) (hmg : X.mg = mgv := by rfl) :
    DE X C (.Call (.Attribute (.Name y yp) m apos) (e :: es) [] pos) (tMX cS m (spObj C.K mgv cS false F) (tVar i) tA W0) (wNX (wMX i F wh)) := by
  subst hmg
  obtain ⟨f, fd, G, b, mm⟩ := D.ex
  exact ⟨hK ▸ pe_methX (pl := pl) hv c mm G hG takes0 hr b ha.pa hst hpl ht, ie_iy (iy_meth (mg := X.mg) hC hn ha.ih)⟩
theorem de_meth0 {mgv : Str → Option Value} (i : Nat) {yp : Pos} {pl : Sem Bool} (D : MetO X.prog X.w X.K mgv X.base k cS m ps F) (c : L2.Cls X.K cS) (hK : X.K = C.K) (hC : OfS cS C.bx.obs) (hG : X.A.guards = some []) (hr : Room k X.A) (hn : ownN m = false := by decide)
    (hv : PE X (.Name y yp) (tVar i) := by exact pv _)
    (ht : eval (.Call (.Attribute (.Name y yp) m apos) [] [] pos) X.env = (do
      let ov ← eval (.Name y yp) X.env
      standAt apos.atName
      let (f, first) ← holding [ov] (getMethod ov m pl)
      callWith pos f first (backTo pos (starEach [] X.env)) (backToKw pos (keywordEach [] X.env))) := by rfl) (hmg : X.mg = mgv := by rfl) :
    DE X C (.Call (.Attribute (.Name y yp) m apos) [] [] pos) (tMX cS m (spObj C.K mgv cS false F) (tVar i) tNil W0) (wNX (wMX i F fun s Q => Q false [] [] s)) := by
  subst hmg
  obtain ⟨f, fd, G, b, mm⟩ := D.ex
  exact ⟨hK ▸ pe_methX0 (pl := pl) hv c mm G hG takes0 hr b ht, ie_iy (iy_meth (mg := X.mg) hC hn (dh_nil (X := X)).ih)⟩
end
end Dw
namespace Dw
open PySem PySem.Spec PyProof.Rows L2 OgR Evl Gx
structure StK (K : PySem.W.Frag) (cS : Addr) : Prop where
  cl : L2.Cls K cS
  np : NoAttr K cS "plots"
  ns : NoAttr K cS "states"
  nt : NoAttr K cS "told"
inductive SF where
  | states | told
def SF.nm : SF → Str
  | .states => "states"
  | .told => "told"
def Sd.fld (S : Sd) : SF → List PyData
  | .states => S.states
  | .told => S.told
def Sd.put (S : Sd) : SF → List PyData → Sd
  | .states, ds => ⟨S.plots, ds, S.told⟩
  | .told, ds => ⟨S.plots, S.states, ds⟩
theorem StK.no {K : PySem.W.Frag} {cS : Addr} (h : StK K cS) : ∀ f : SF, NoAttr K cS f.nm
  | .states => h.ns
  | .told => h.nt
theorem ob_fld {K : PySem.W.Frag} {G H : Hp} {cl a dx ps pt : Addr} {S : Sd} (h : ObAt K G H (.st cl a dx ps pt) (.st S)) (f : SF) : ∃ p fs xs, H a = some (.ins cl dx fs) ∧ fs.lookup f.nm = some (.ref p) ∧ fs.length = 3 ∧ H p = some (.lst xs) ∧ DpAll K G xs (S.fld f) ∧ (Ob.st cl a dx ps pt).has p ∧
    ∀ xs' ds', DpAll K G xs' ds' → NoLA ds' = true → ObAt K G (upd H p (.lst xs')) (.st cl a dx ps pt) (.st (S.put f ds')) := by
  cases h with
  | @st _ _ _ _ _ _ xs ys ha hd hs ht ne ds dt ls lt =>
    have n1 : a ≠ ps := fun z => by rw [z, hs] at ha; cases ha
    have n2 : a ≠ pt := fun z => by rw [z, ht] at ha; cases ha
    have n3 : dx ≠ ps := fun z => by rw [z, hs] at hd; cases hd
    have n4 : dx ≠ pt := fun z => by rw [z, ht] at hd; cases hd
    cases f with
    | states => exact ⟨ps, _, xs, ha, rfl, rfl, hs, ds, .ss, fun xs' ds' p l => .st (by rw [upd_ne n1]; exact ha) (by rw [upd_ne n3]; exact hd) upd_same (by rw [upd_ne (Ne.symm ne)]; exact ht) ne p dt l lt⟩
    | told => exact ⟨pt, _, ys, ha, rfl, rfl, ht, dt, .sl, fun xs' ds' p l => .st (by rw [upd_ne n2]; exact ha) (by rw [upd_ne n4]; exact hd) (by rw [upd_ne ne]; exact hs) upd_same ne ds p ls l⟩
section
variable {X : Cx} {C : Ct} {e : Expr} {es : List Expr} {pos p apos cpos yp : Pos} {t ty te : TE} {w wy we : WE} {y : Str} {cS : Addr}
theorem ob_at {G H : Hp} {σ : L2.St} {s : Dt} {i j : Nat} {S : Sd} (r : Rel C G σ H s) (hC : OfS cS C.bx.obs) (e : s.env[i]? = some (some (.ob j))) (es : s.c.o[j]? = some (.st S)) :
    ∃ a dx ps pt, σ[i]? = some (some (.ref a)) ∧ C.bx.obs[j]? = some (.st cS a dx ps pt) ∧ ObAt C.K G H (.st cS a dx ps pt) (.st S) := by
  obtain ⟨v, hv, o, ho, rfl⟩ := r.sl i _ e
  have ob := obs_at r.fin.ob ho es
  have hc := hC o (List.mem_of_getElem? ho)
  cases o with
  | st cl a dx ps pt =>
    have hc' : cl = cS := hc
    subst hc'
    exact ⟨a, dx, ps, pt, hv, ho, ob⟩
  | ls q => cases ob
def wPlots (i : Nat) : WE := fun s Q => ∃ j S, s.env[i]? = some (some (.ob j)) ∧ s.c.o[j]? = some (.st S) ∧ Q (.int S.plots) s
theorem de_plots (i : Nat) (hK : X.K = C.K) (hC : OfS cS C.bx.obs) (sk : StK X.K cS) (hv : PE X (.Name y yp) (tVar i) := by exact pv _)
    (hb : attributeBase (.Name y yp) "plots" X.env (eval (.Name y yp) X.env) = eval (.Name y yp) X.env := by rfl) : DE X C (.Attribute (.Name y yp) "plots" apos) (tFld C.K (tVar i) "plots") (wPlots i) := ⟨hK ▸ pe_fld hv hb, fun G σ H s Q Q' r q k => by
  obtain ⟨j, S, e, es, q⟩ := q
  obtain ⟨a, dx, ps, pt, hv, ho, ob⟩ := ob_at r hC e es
  refine ⟨_, hv, ?_⟩
  cases ob with
  | st ha hd hs ht ne ds dt ls lt => exact ⟨a, cS, dx, _, _, rfl, ha, by rw [← hK]; exact sk.cl, by rw [← hK]; exact sk.np, rfl, k _ _ s G H q r (Ex.refl G) Gs.refl (.int _)⟩⟩
theorem fld_run {G H : Hp} {σ : L2.St} {s : Dt} {i j : Nat} {S : Sd} {Q' : VK} (f : SF) (r : Rel C G σ H s) (hK : X.K = C.K) (hC : OfS cS C.bx.obs) (sk : StK X.K cS) (e : s.env[i]? = some (some (.ob j))) (es : s.c.o[j]? = some (.st S))
    (k : ∀ a dx ps pt p fs xs, C.bx.obs[j]? = some (.st cS a dx ps pt) → H p = some (.lst xs) → H a = some (.ins cS dx fs) → fs.lookup f.nm = some (.ref p) → DpAll C.K G xs (S.fld f) → Q' (.ref p) H) : tFld C.K (tVar i) f.nm σ H Q' := by
  obtain ⟨a, dx, ps, pt, hv, ho, ob⟩ := ob_at r hC e es
  obtain ⟨p, fs, xs, h1, h2, _, h3, h4, _, _⟩ := ob_fld ob f
  exact ⟨_, hv, a, cS, dx, fs, _, rfl, h1, by rw [← hK]; exact sk.cl, by rw [← hK]; exact sk.no f, h2, k a dx ps pt p fs xs ho h3 h1 h2 h4⟩
theorem pe_fldS (i : Nat) (f : SF) (hK : X.K = C.K) (hv : PE X (.Name y yp) (tVar i)) (hb : attributeBase (.Name y yp) f.nm X.env (eval (.Name y yp) X.env) = eval (.Name y yp) X.env) : PE X (.Attribute (.Name y yp) f.nm apos) (tFld C.K (tVar i) f.nm) := hK ▸ pe_fld hv hb
/-- self.f[e] -/
def wFldIx (f : SF) (i : Nat) (we : WE) : WE := fun s Q => ∃ j S0, s.env[i]? = some (some (.ob j)) ∧ s.c.o[j]? = some (.st S0) ∧ we s fun d s1 => ∃ n S z, d = .int n ∧ s1.c.o[j]? = some (.st S) ∧ atI (S.fld f) n = some z ∧ Q z s1
theorem lst_fld {G H : Hp} {a dx ps pt p : Addr} {fs : List (Str × V)} {S : Sd} {f : SF} (ob : ObAt C.K G H (.st cS a dx ps pt) (.st S)) (h1 : H a = some (.ins cS dx fs)) (h2 : fs.lookup f.nm = some (.ref p)) : ∃ xs, H p = some (.lst xs) ∧ DpAll C.K G xs (S.fld f) := by
  obtain ⟨p', fs', xs, g1, g2, _, g3, g4, _, _⟩ := ob_fld ob f
  rw [h1] at g1
  cases g1
  rw [h2] at g2
  cases g2
  exact ⟨xs, g3, g4⟩
/-- the fields of a street stay what they are -/
theorem ins_same {G G' H H' : Hp} {a dx ps pt : Addr} {S S' : Sd} (o : ObAt C.K G H (.st cS a dx ps pt) (.st S)) (o' : ObAt C.K G' H' (.st cS a dx ps pt) (.st S')) {f : SF} {p : Addr} {fs : List (Str × V)} (h1 : H a = some (.ins cS dx fs)) (h2 : fs.lookup f.nm = some (.ref p)) : ∃ fs', H' a = some (.ins cS dx fs') ∧ fs'.lookup f.nm = some (.ref p) := by
  cases o with
  | st ha =>
    cases o' with
    | st hb =>
      rw [ha] at h1
      cases h1
      refine ⟨_, hb, ?_⟩
      cases f <;> exact h2
theorem de_fldIx (f : SF) (i : Nat) (hK : X.K = C.K) (hC : OfS cS C.bx.obs) (sk : StK X.K cS) (he : DE X C e te we) (hv : PE X (.Name y yp) (tVar i) := by exact pv _)
    (hb : attributeBase (.Name y yp) f.nm X.env (eval (.Name y yp) X.env) = eval (.Name y yp) X.env := by rfl) (hs : PlainIx e := by exact fun _ _ => rfl) : DE X C (.Subscript (.Attribute (.Name y yp) f.nm apos) e pos) (tOp (rIxB C.K) (tFld C.K (tVar i) f.nm) te) (wFldIx f i we) := ⟨pe_ix (hK ▸ ix_B) (pe_fldS i f hK hv hb) he.pe hs, fun G σ H s Q Q' r q k => by
  obtain ⟨j, S0, e, es, q⟩ := q
  refine fld_run f r hK hC sk e es fun a dx ps pt p fs xs ho h1 h2 h3 h4 => he.ie G σ H s _ _ r q fun v d s1 G1 H1 q1 r1 eg1 g1 pd => ?_
  obtain ⟨n, S, z, rfl, es1, ha, q1⟩ := q1
  have o1 := obs_at r1.fin.ob ho es1
  obtain ⟨fs', f1, f2⟩ := ins_same (obs_at r.fin.ob ho es) o1 h2 h3
  obtain ⟨xs1, g3, g4⟩ := lst_fld o1 f1 f2
  obtain ⟨v1, hv1, pv1⟩ := atI_dpa g4 ha
  exact ⟨false, p, xs1, n, v1, rfl, dp_int pd, .inl (.inl g3), hv1, k _ _ s1 G1 H1 q1 r1 eg1 g1 pv1⟩⟩
/-- len(self.f) -/
def wFldLen (f : SF) (i : Nat) : WE := fun s Q => ∃ j S, s.env[i]? = some (some (.ob j)) ∧ s.c.o[j]? = some (.st S) ∧ Q (.int (S.fld f).length) s
theorem de_fldLen (f : SF) (i : Nat) (hK : X.K = C.K) (hC : OfS cS C.bx.obs) (sk : StK X.K cS) (hg : Gl X "len") (hm : X.mg "len" = none) (hv : PE X (.Name y yp) (tVar i) := by exact pv _)
    (hb : attributeBase (.Name y yp) f.nm X.env (eval (.Name y yp) X.env) = eval (.Name y yp) X.env := by rfl)
    (hs : starEach [.Attribute (.Name y yp) f.nm apos] X.env = (false, eval (.Attribute (.Name y yp) f.nm apos) X.env) :: starEach [] X.env := by rfl) :
    DE X C (.Call (.Name "len" p) [.Attribute (.Name y yp) f.nm apos] [] pos) (tCB (fun xs H Q => ∃ x n, xs = [x] ∧ LenV C.K x H n ∧ Q (.int n) H) (tCons (tFld C.K (tVar i) f.nm) tNil)) (wFldLen f i) :=
  ⟨pe_callB (hK ▸ call_len) hg hm PySem.boot_len (pa_cons (pe_fldS i f hK hv hb) pa_nil hs) (by decide) (by decide) hs, fun G σ H s Q Q' r q k => by
    obtain ⟨j, S, e, es, q⟩ := q
    exact fld_run f r hK hC sk e es fun a dx ps pt p fs xs ho h1 h2 h3 h4 => ⟨_, _, rfl, .inl ⟨_, .inl (.inl h1), (dpa_len h4).symm⟩, k _ _ s G H q r (Ex.refl G) Gs.refl (.int _)⟩⟩
/-- list(self.f) -/
def wFldList (f : SF) (i : Nat) : WA := fun s Q => ∃ j S, s.env[i]? = some (some (.ob j)) ∧ s.c.o[j]? = some (.st S) ∧ Q (S.fld f) s
theorem do_fldList (f : SF) (i : Nat) (hK : X.K = C.K) (hC : OfS cS C.bx.obs) (sk : StK X.K cS) (hg : Gl X "list") (hm : X.mg "list" = none) (hv : PE X (.Name y yp) (tVar i) := by exact pv _)
    (hb : attributeBase (.Name y yp) f.nm X.env (eval (.Name y yp) X.env) = eval (.Name y yp) X.env := by rfl)
    (hs : starEach [.Attribute (.Name y yp) f.nm apos] X.env = (false, eval (.Attribute (.Name y yp) f.nm apos) X.env) :: starEach [] X.env := by rfl) :
    DO X C (.Call (.Name "list" p) [.Attribute (.Name y yp) f.nm apos] [] pos) (tCB (rListOf C.K) (tCons (tFld C.K (tVar i) f.nm) tNil)) (wFldList f i) :=
  ⟨pe_callTy (hK ▸ call_list_of) hg hm (by decide +kernel) (pa_cons (pe_fldS i f hK hv hb) pa_nil hs) (by decide) (by decide) hs, fun G σ H s Q Q' r q k => by
    obtain ⟨j, S, e, es, q⟩ := q
    exact fld_run f r hK hC sk e es fun a dx ps pt p fs xs ho h1 h2 h3 h4 => ⟨p, xs, rfl, .inl (.inl (.inl h1)), fun l hl => own_new r q r (Ex.refl G) Gs.refl h4 hl k⟩⟩
/-- self.f.append(e) -/
def wFldApp (f : SF) (i : Nat) (we : WE) : WS := fun DD s => ∃ j S0, s.env[i]? = some (some (.ob j)) ∧ s.c.o[j]? = some (.st S0) ∧ we s fun d s1 => ∃ S, s1.c.o[j]? = some (.st S) ∧ NoL d = true ∧ (S.fld f).length < 100000 ∧ DD.nx ⟨s1.env, ⟨s1.c.n, s1.c.o.set j (.st (S.put f (S.fld f ++ [d])))⟩⟩
theorem fldNoL {K : PySem.W.Frag} {G H : Hp} {o : Ob} {S : Sd} (h : ObAt K G H o (.st S)) : ∀ f : SF, NoLA (S.fld f) = true := by
  cases h with
  | st ha hd hs ht ne ds dt ls lt =>
    intro f
    cases f
    · exact ls
    · exact lt
theorem ds_fldApp (f : SF) (i : Nat) (hK : X.K = C.K) (hC : OfS cS C.bx.obs) (sk : StK X.K cS) (he : DE X C e te we) (hv : PE X (.Name y yp) (tVar i) := by exact pv _)
    (hb : attributeBase (.Name y yp) f.nm X.env (eval (.Name y yp) X.env) = eval (.Name y yp) X.env := by rfl)
    (hb0 : attributeBase (.Attribute (.Name y yp) f.nm p) "append" X.env (eval (.Attribute (.Name y yp) f.nm p) X.env) = eval (.Attribute (.Name y yp) f.nm p) X.env := by rfl)
    (hfew : ((backTo cpos (starEach [e] X.env)).all (fun x => !x.1) && (backToKw cpos (keywordEach [] X.env)).all (fun x => x.1.isSome) && decide ([e].length + ([] : List Keyword).length + (if ([] : List Keyword).isEmpty then 0 else 1) < 30)) = true := by rfl)
    (hline : (apos.endLine == cpos.line) = true := by rfl) (hst : starEach [e] X.env = (false, eval e X.env) :: starEach [] X.env := by rfl) (hpl : (backTo cpos (starEach [] X.env)).any (·.1) = false := by rfl)
    (hs : swapsWith (.Call (.Attribute (.Attribute (.Name y yp) f.nm p) "append" apos) [e] [] cpos) none pos.line X.env = Pure.pure false := by rfl) :
    DS X C (.Expr (.Call (.Attribute (.Attribute (.Name y yp) f.nm p) "append" apos) [e] [] cpos) pos) (tDrop (tBM C.K "list" rAppend (tFld C.K (tVar i) f.nm) (tCons te tNil))) (wFldApp f i we) :=
  ⟨ps_expr (hK ▸ pe_bm PySem.F.plainAttrs_list PySem.F.slot_list_append PySem.F.type_list_append mt_append (pe_fld hv hb) (pa_cons he.pe pa_nil hst) hb0 hfew hline hst hpl) hs, fun G σ H s D DD r q o => by
    obtain ⟨j, S0, e, es, q⟩ := q
    show L2.tFld C.K (tVar i) f.nm σ H (fun x H1 => tyV C.K "list" x H1 ∧ tCons te tNil σ H1 fun xs H2 => rAppend x xs H2 fun _ H1 => D.nx σ H1)
    refine fld_run f r hK hC sk e es fun a dx ps pt p fs xs ho h1 h2 h3 h4 => ⟨.inl ⟨rfl, _, .inl (.inl h1)⟩, he.ie G σ H s _ _ r q fun v d s1 G1 H1 q1 r1 eg1 g1 pd => ?_⟩
    obtain ⟨S, es1, nl, hl, q1⟩ := q1
    have o1 := obs_at r1.fin.ob ho es1
    obtain ⟨fs', f1, f2⟩ := ins_same (obs_at r.fin.ob ho es) o1 h2 h3
    obtain ⟨p', fs2, xs1, k1, k2, _, k3, k4, k5, k6⟩ := ob_fld o1 f
    rw [f1] at k1
    cases k1
    rw [f2] at k2
    cases k2
    refine ⟨p, xs1, v, rfl, rfl, k3, sz_lt (by rw [dpa_len k4]; exact hl), ?_⟩
    have hp : C.bx.has p := .ofo (List.mem_of_getElem? ho) k5
    have gp := (r1.fin.bx p hp).2.1
    have n2 := k6 (xs1 ++ [v]) (S.fld f ++ [d]) (dpa_app k4 (.cons pd .nil)) (NoLA.app (fldNoL o1 f) (by show (NoL d && true) = true; rw [nl]; rfl))
    have gh : Ex G1 (upd H1 p (.lst (xs1 ++ [v]))) := fun b w hb => by
      rw [upd_ne fun z => by rw [z, gp] at hb; cases hb]
      exact r1.fin.gh b w hb
    obtain ⟨r2, _⟩ := r1.obj ho (Ex.refl G1) (fun b w nb hb => by rw [upd_ne fun z => nb (by rw [z]; exact k5)]; exact hb) n2 gh (Nw.refl G1 H1)
    exact o.nx σ _ _ G1 q1 r2 eg1⟩
/-- self.f.pop() -/
def wFldPop (f : SF) (i : Nat) : WS := fun DD s => ∃ j S, s.env[i]? = some (some (.ob j)) ∧ s.c.o[j]? = some (.st S) ∧ S.fld f ≠ [] ∧ DD.nx ⟨s.env, ⟨s.c.n, s.c.o.set j (.st (S.put f (S.fld f).dropLast))⟩⟩
theorem dpa_dropLast {K : PySem.W.Frag} {H : Hp} {xs : List V} {ds : List PyData} (h : DpAll K H xs ds) : DpAll K H xs.dropLast ds.dropLast := by
  rw [List.dropLast_eq_take, List.dropLast_eq_take, dpa_len h]
  exact dpa_take _ h
theorem nola_take : ∀ {ds : List PyData} (n : Nat), NoLA ds = true → NoLA (ds.take n) = true
  | [], n, h => by rw [List.take_nil]; rfl
  | d :: ds, 0, h => rfl
  | d :: ds, n + 1, h => by
    unfold NoLA at h
    rw [Bool.and_eq_true] at h
    rw [List.take_succ_cons]
    unfold NoLA
    rw [h.1, nola_take n h.2]
    rfl
theorem ds_fldPop (f : SF) (i : Nat) (hK : X.K = C.K) (hC : OfS cS C.bx.obs) (sk : StK X.K cS) (hv : PE X (.Name y yp) (tVar i) := by exact pv _)
    (hb : attributeBase (.Name y yp) f.nm X.env (eval (.Name y yp) X.env) = eval (.Name y yp) X.env := by rfl)
    (hb0 : attributeBase (.Attribute (.Name y yp) f.nm p) "pop" X.env (eval (.Attribute (.Name y yp) f.nm p) X.env) = eval (.Attribute (.Name y yp) f.nm p) X.env := by rfl)
    (hline : (apos.endLine == cpos.line) = true := by rfl)
    (hs : swapsWith (.Call (.Attribute (.Attribute (.Name y yp) f.nm p) "pop" apos) [] [] cpos) none pos.line X.env = Pure.pure false := by rfl) :
    DS X C (.Expr (.Call (.Attribute (.Attribute (.Name y yp) f.nm p) "pop" apos) [] [] cpos) pos) (tDrop (tBM0 C.K "list" rPop (tFld C.K (tVar i) f.nm))) (wFldPop f i) :=
  ⟨ps_expr (hK ▸ pe_bm0 PySem.F.plainAttrs_list PySem.F.slot_list_pop PySem.F.type_list_pop mt_pop (pe_fld hv hb) hb0 hline) hs, fun G σ H s D DD r q o => by
    obtain ⟨j, S, e, es, hne, q⟩ := q
    show L2.tFld C.K (tVar i) f.nm σ H (fun x H1 => tyV C.K "list" x H1 ∧ rPop x [] H1 fun _ H1 => D.nx σ H1)
    refine fld_run f r hK hC sk e es fun a dx ps pt p fs xs ho h1 h2 h3 h4 => ⟨.inl ⟨rfl, _, .inl (.inl h1)⟩, ?_⟩
    have o1 := obs_at r.fin.ob ho es
    obtain ⟨p', fs2, xs1, k1, k2, _, k3, k4, k5, k6⟩ := ob_fld o1 f
    rw [h2] at k1
    cases k1
    rw [h3] at k2
    cases k2
    rw [h1] at k3
    cases k3
    have hp : C.bx.has p := .ofo (List.mem_of_getElem? ho) k5
    have gp := (r.fin.bx p hp).2.1
    have pos : xs.length - 1 < xs.length := by
      have : 0 < xs.length := by rw [dpa_len h4]; exact List.length_pos_iff.mpr hne
      omega
    refine ⟨p, xs, _, rfl, rfl, h1, List.getElem?_eq_getElem pos, ?_⟩
    have n2 := k6 xs.dropLast (S.fld f).dropLast (dpa_dropLast h4) (by rw [List.dropLast_eq_take]; exact nola_take _ (fldNoL o1 f))
    have gh : Ex G (upd H p (.lst xs.dropLast)) := fun b w hb => by
      rw [upd_ne fun z => by rw [z, gp] at hb; cases hb]
      exact r.fin.gh b w hb
    obtain ⟨r2, _⟩ := r.obj ho (Ex.refl G) (fun b w nb hb => by rw [upd_ne fun z => nb (by rw [z]; exact k5)]; exact hb) n2 gh (Nw.refl G H)
    exact o.nx σ _ _ G q r2 (Ex.refl G)⟩
end
end Dw
namespace Dw
open PySem PySem.Spec PyProof.Rows L2 OgR Evl Gx
section
variable {X : Cx} {C : Ct} {G G' H H' : Hp} {σ : L2.St} {s : Dt} {e : Expr} {es : List Expr} {pos pos' p rp : Pos} {t : L2.WX → TE} {w : WY} {te : TE} {we : WE} {tA : TA} {wA : WA} {E : XK} {RX : Str → Str → PyData → Cs → Prop} {x fld : Str} {st : Stmt} {ps : List Str} {k : Nat} {tup : Bool} {Cc : Addr}
/-- what an exception holds becomes data of the heap -/
theorem Rel.pin (r : Rel C G σ H s) {dx : Addr} {l : List (Str × V)} (hd : H dx = some (.xd l)) (h0 : C.H0 dx = none) : Rel C (upd G dx (.xd l)) σ H s ∧ Ex G (upd G dx (.xd l)) := by
  have eg : Ex G (upd G dx (.xd l)) := fun b o hb => by
    by_cases z : b = dx
    · subst z
      have := r.fin.gh _ _ hb
      rw [hd] at this
      cases this
      exact upd_same
    · rw [upd_ne z]
      exact hb
  have nd : ∀ {p : Addr} {o : HO}, H p = some o → (∀ l, o ≠ .xd l) → p ≠ dx := fun h n z => by
    rw [z, hd] at h
    cases h
    exact n _ rfl
  refine ⟨⟨⟨fun b o hb => ?_, r.fin.g0.trans eg, fun b hb => ?_, r.fin.hh, r.fin.ok, r.fin.obe eg (Ex.refl H), fun l' hl => ⟨(r.fin.bx l' hl).1, ?_, (r.fin.bx l' hl).2.2⟩⟩, r.len, fun i y ey => ?_, r.dis⟩, eg⟩
  · by_cases z : b = dx
    · subst z
      rw [upd_same] at hb
      cases hb
      exact hd
    · rw [upd_ne z] at hb
      exact r.fin.gh b o hb
  · by_cases z : b = dx
    · exact .inr (.inl (by rw [z]; exact h0))
    · rw [upd_ne z] at hb
      exact r.fin.nw b hb
  · rw [upd_ne fun z => r.fin.nbx h0 (by rw [← z]; exact hl)]
    exact (r.fin.bx l' hl).2.1
  · obtain ⟨v, hv, rv⟩ := r.sl i y ey
    refine ⟨v, hv, ?_⟩
    cases y with
    | d x => exact dp_ex eg rv
    | box => exact rv
    | ob _ => exact rv
    | own ds =>
      obtain ⟨p, xs, a1, a2, a3, a4, a5⟩ := rv
      exact ⟨p, xs, a1, a2, a3, by rw [upd_ne (nd a2 fun _ z => by cases z)]; exact a4, dpa_ex eg a5⟩
    | dic ks =>
      obtain ⟨p, xs, a1, a2, a3, a4, a5⟩ := rv
      exact ⟨p, xs, a1, a2, a3, by rw [upd_ne (nd a2 fun _ z => by cases z)]; exact a4, paired_mapP a5 fun a b q => ⟨q.1, dp_ex eg q.2⟩⟩
    | dit ks =>
      obtain ⟨p, xs, a1, a2, a3, a4, a5⟩ := rv
      exact ⟨p, xs, a1, a2, a3, by rw [upd_ne (nd a2 fun _ z => by cases z)]; exact a4, paired_mapP a5 fun a b q => ⟨q.1, dp_ex eg q.2⟩⟩
    | oth φ => exact Oth.step (φ := φ) rv eg (Kept.refl C H)
    | dd ks =>
      obtain ⟨p, xs, a1, a2, a5⟩ := rv
      exact ⟨p, xs, a1, a2, paired_mapP a5 fun a b q => ⟨q.1, dp_ex eg q.2⟩⟩
/-- .. in the body of a def: out of it -/
theorem dex_deX (h : DEX X C e t w) (hx : Xt C X.mg E RX) (tk : Takes X (fun cls d _ H => E cls d H)) : DE X C e (t fun cls d _ H => E cls d H) (fun s Q => w s Q fun nm fld d s1 => RX nm fld d s1.c) :=
  ⟨h.pe _ X.pn X.xe tk, fun G σ H s Q Q' r q k => h.ie _ G σ H s Q _ Q' r q k fun nm fld d s' G' H' Cc dx u hR hm r' _ _ h0 hd pd => hx nm fld d s'.c Cc dx u G' H' hR hm r'.fin h0 hd pd⟩
/-- .. in the body of a try -/
def XW (C : Ct) (mg : Str → Option Value) (W : L2.WX) (RX : QXd) : Prop := ∀ (nm fld : Str) (d : PyData) (s' : Dt) (σ' : L2.St) (G' H' : Hp) (Cc dx : Addr) (u : V), RX nm fld d s' → mg nm = some (.ref Cc) → Rel C G' σ' H' s' → C.H0 dx = none → H' dx = some (.xd [(fld, u)]) → Dp C.K G' u d → W (.ref Cc) (some dx) σ' H'
theorem dex_deW {W : L2.WX} {RD : QXd} {pn : List (Addr × Obj)} {xe : Value → Shared → Prop} (h : DEX X C e t w) (hx : XW C X.mg W RD) (tk : Takes (X.tr pn xe) W) : DE (X.tr pn xe) C e (t W) (fun s Q => w s Q RD) :=
  ⟨h.pe _ pn xe tk, fun G σ H s Q Q' r q k => h.ie _ G σ H s Q _ Q' r q k fun nm fld d s' G' H' Cc dx u hR hm r' _ _ h0 hd pd => hx nm fld d s' σ G' H' Cc dx u hR hm r' h0 hd pd⟩
/-- a def that may raise -/
def wCX (F : FX) (wA : WA) : WY := fun s Q QX => wA s fun ds s1 => F ds fun o => match o with
  | .ok d => Q d s1
  | .ex nm fld d => QX nm fld d s1
theorem dex_cX {F : FX} (D : DefX X.prog X.w X.K X.mg X.base k x st ps (spX C.K X.mg F)) (hG : X.A.guards = some []) (hr : Room k X.A) (hg : Gl X x) (ha : ∀ pn xe, DA (X.tr pn xe) C (e :: es) tA wA)
    (hdb : (x == ("__debug__" : Str)) = false := by decide) (he : starEach (e :: es) X.env = (false, eval e X.env) :: starEach es X.env := by rfl) (hpl : (backTo pos (starEach es X.env)).any (·.1) = false := by rfl) :
    DEX X C (.Call (.Name x p) (e :: es) [] pos) (tCX (spX C.K X.mg F) tA) (wCX F wA) := by
  obtain ⟨f, fd, Fg, Fn, b, m⟩ := D.ex
  refine ⟨fun W pn xe tk => pe_callX (X := X.tr pn xe) Fg hG tk hr hg m Fn.kp b (ha pn xe).pa hdb he hpl, fun W G σ H s Q QX Q' r q k kx => ?_⟩
  refine (ha X.pn X.xe).ia G σ H s _ _ r q fun vs ds s1 G1 H1 q1 r1 eg eh p => ⟨G1, ds, _, r1.fin.gh, p, q1, fun v d G2 H2 q2 eg2 eh2 gh nw pd => ?_, fun nm fld d Cc dx u G2 H2 q2 hm eg2 eh2 gh nw hdx hd2 pd => ?_⟩
  · exact k v d s1 G2 H2 q2 (r1.grow eg2 eh2 gh nw) (eg.trans eg2) (eh.trans (.grow eh2 nw)) pd
  · exact kx nm fld d s1 G2 H2 Cc dx u q2 hm (r1.grow eg2 eh2 gh nw) (eg.trans eg2) (eh.trans (.grow eh2 nw)) (r1.fin.h0 hdx) hd2 pd
/-- raise C(e), in a method -/
def wRaiseO (RX : Str → Str → PyData → Cs → Prop) (x fld : Str) (tup : Bool) (we : WE) : WS := fun _ s => we s fun d s1 => okF tup d = true ∧ RX x fld d s1.c
theorem ds_raiseO (M : MkD X.prog X.w X.K X.mg X.base x fld tup Cc) (hK : X.K = C.K) (hx : Xt C X.mg E RX) (hc : X.calm = true) (tk : Takes X (fun cls d _ H => E cls d H)) (hr : Room 3 X.A) (hg : Gl X x) (he : DE X C e te we)
    (hdb : (x == ("__debug__" : Str)) = false := by decide) (hs : starEach [e] X.env = (false, eval e X.env) :: starEach [] X.env := by rfl) :
    DS X C (.Raise (some (.Call (.Name x p) [e] [] pos)) none pos') (fun _ σ H => tMkX Cc (spIni Cc fld fun y H => tup = true → IsTp X.K y H) (tCons te tNil) σ H fun cls d H' => E cls d H') (wRaiseO RX x fld tup we) := by
  obtain ⟨B, n, i, bm, fI, fd, T, tyC, iC, tI, F1, bnd⟩ := M.ex
  refine ⟨ps_raise hc tk (pmkG (CX := CX0) T tyC iC tI F1 hr bnd hg M.here (pa_cons he.pe pa_nil hs) hdb hs), fun G σ H s D DD r q o => ?_⟩
  show tMkX _ _ _ _ _ _
  unfold tMkX
  refine he.ie G σ H s _ _ r q fun v d s1 G1 H1 q1 r1 eg g pd => ⟨(by show 1 ≤ 1000; decide), fun a ha => ?_⟩
  obtain ⟨ht, q1⟩ := q1
  refine ⟨a, v, rfl, upd_same, fun tp => ?_, fun dx hdx hne => ⟨rfl, dx, [(fld, v)], upd_same, by rw [upd_ne hne, upd_same], ?_, ?_⟩⟩
  · subst tp
    cases d with
    | tuple ds =>
      cases pd with
      | tup h1 h2 => exact ⟨_, _, rfl, by rw [hK]; exact Evl.ex_t (r1.fin.gh.trans (Ex.new ha)) h1⟩
    | _ => cases ht
  · rw [upd_ne hne] at hdx
    exact hdx
  · rw [upd_ne hne] at hdx
    have e1 : Ex H1 (upd (del (upd (upd (upd H1 a (exo a Cc none)) dx (exd dx [(fld, v)])) a (exo a Cc (some dx))) a) dx (.xd [(fld, v)])) := fun b o hb' => by
      have n1 : b ≠ dx := fun z => by rw [z, hdx] at hb'; cases hb'
      have n2 : b ≠ a := fun z => by rw [z, ha] at hb'; cases hb'
      rw [upd_ne n1, del_ne n2, upd_ne n2, upd_ne n1, upd_ne n2]
      exact hb'
    exact hx x fld d s1.c Cc dx v G1 _ q1 M.here (r1.aside e1).fin (r1.fin.h0 hdx) upd_same pd
def wRetFin (RX : Str → Str → PyData → Cs → Prop) (w : WY) (wf : WS) : WS := fun DD s => w s (fun d s1 => wf { nx := fun s2 => DD.rt d s2.c, rt := fun _ _ => False } s1) fun nm fld d s1 => wf { nx := fun s2 => RX nm fld d s2.c, rt := fun _ _ => False } s1
/-- the suite behind an exception -/
theorem fin_run {f0 : Stmt} {fs : List Stmt} {tf : TS} {wf : WS} (hf : DSs X C (f0 :: fs) tf wf) {mg : Str → Option Value} (hx : Xt C mg E RX) {nm fld : Str} {d : PyData} {s1 : Dt} {G1 H1 : Hp} {Cc dx : Addr} {u : V} (q : wf { nx := fun s2 => RX nm fld d s2.c, rt := fun _ _ => False } s1) (hm : mg nm = some (.ref Cc)) (r1 : Rel C G1 σ H1 s1) (h0 : C.H0 dx = none)
    (hd : H1 dx = some (.xd [(fld, u)])) (pd : Dp C.K G1 u d) : wFin tf (fun cls d _ H => E cls d H) (.ref Cc) (some dx) σ H1 := by
  obtain ⟨r2, e2⟩ := r1.pin hd h0
  exact hf.is _ σ H1 s1 _ _ r2 q ⟨fun σ' H' s' G' hR r' e => hx nm fld d s'.c Cc dx u G' H' hR hm r'.fin h0 (r'.fin.gh _ _ (e _ _ upd_same)) (dp_ex (e2.trans e) pd), fun _ _ _ _ z => z.elim, fun _ _ _ _ z => z.elim, fun _ _ _ _ _ z => z.elim⟩
theorem ds_retFin {f0 : Stmt} {fs : List Stmt} {tf : TS} {wf : WS} (hs : X.stack = X.env :: X.outer) (hfr : X.env.frame = some X.env.locals) (hex : X.ex = []) (tk : Takes X (fun cls d _ H => E cls d H)) (hx : Xt C X.mg E RX) (he : DEX X C e t w) (hf : DSs X.nox C (f0 :: fs) tf wf)
    (hsu : ∀ (a : Addr) (pn : List (Addr × Obj)), PSs (X.suite a pn) (f0 :: fs) tf) : DS X C (.Try [.Return (some e) rp] [] [] (f0 :: fs) pos) (tRetFinX t tf tf (fun cls d _ H => E cls d H)) (wRetFin RX w wf) :=
  ⟨ps_retFinX hs hfr hex tk (fun W pn xe tk po => he.pe W pn xe tk) hf.ps hsu, fun G σ H s D DD r q o => he.ie _ G σ H s _ _ _ r q (fun v d s1 G1 H1 q1 r1 eg g pd =>
    hf.is G1 σ H1 s1 _ _ r1 q1 ⟨fun σ' H' s' G' hR r' e => o.rt v d s'.c G' H' hR r'.fin (eg.trans e) (dp_ex e pd), fun _ _ _ _ z => z.elim, fun _ _ _ _ z => z.elim, fun _ _ _ _ _ z => z.elim⟩)
    fun nm fld d s1 G1 H1 Cc dx u q1 hm r1 eg g h0 hd pd => fin_run hf hx q1 hm r1 h0 hd pd⟩
end
end Dw
namespace Dw
open PySem PySem.Spec PyProof.Rows L2 OgR Evl Gx
section
variable {X : Cx} {C : Ct} {e : Expr} {s1 s2 f0 : Stmt} {fs : List Stmt} {pos rp : Pos} {t1 t2 tf : TS} {w1 w2 wf : WS} {te : TE} {we : WE} {E : XK} {RX : Str → Str → PyData → Cs → Prop} {Wout : L2.WX}
def tRetFin3 (t1 t2 tf : TS) (te : TE) : TS := fun D σ H => t1 { nx := fun σ1 H1 => t2 { nx := fun σ2 H2 => te σ2 H2 fun v H3 => tf { D with nx := fun _ H4 => D.rt v H4 } σ2 H3, rt := fun _ _ => False } σ1 H1, rt := fun _ _ => False } σ H
theorem ps_retFin3 (hs : X.stack = X.env :: X.outer) (hf : X.env.frame = some X.env.locals) (hex : X.ex = []) (tk : Takes X Wout)
    (h1 : ∀ (pn : List (Addr × Obj)) (xe : Value → Shared → Prop), Takes (X.tr pn xe) (wFin tf Wout) → PS (X.tr pn xe) s1 t1) (h2 : ∀ (pn : List (Addr × Obj)) (xe : Value → Shared → Prop), Takes (X.tr pn xe) (wFin tf Wout) → PS (X.tr pn xe) s2 t2)
    (he : ∀ (pn : List (Addr × Obj)) (xe : Value → Shared → Prop), Takes (X.tr pn xe) (wFin tf Wout) → PE (X.tr pn xe) e te)
    (hfin : PSs X.nox (f0 :: fs) tf) (hsu : ∀ (a : Addr) (pn : List (Addr × Obj)), PSs (X.suite a pn) (f0 :: fs) tf) : PS X (.Try [s1, s2, .Return (some e) rp] [] [] (f0 :: fs) pos) (tRetFin3 t1 t2 tf te) := by
  refine ⟨fun pins s σ H D I h => ?_⟩
  have ok := I.ok
  have xtake : Takes (X.tr (X.pn ++ pins) (fun x s₁ => wpAny (model X.prog X.w) X.A (noteFrame x X.env) (fun _ s₂ => FinallyRaised X.prog X.w X.A X.xe X.env (f0 :: fs) (SP X pins D) x s₂) (FinallyRaised X.prog X.w X.A X.xe X.env (f0 :: fs) (SP X pins D)) s₁)) (wFin tf Wout) := fun u s' xx => fin_exc hs hf hex ok tk hsu xx
  refine wpAny_Try_finally (wpAny_execs_cons (wpAny_mono ((h1 _ _ xtake).run [] s σ H _ (I.toTry _) h) (fun fl z1 q1 => ?_) fun x z hx => hx))
  cases fl with
  | brk => obtain ⟨_, _, _, q⟩ := q1; exact q.elim
  | cont => obtain ⟨_, _, _, q⟩ := q1; exact q.elim
  | ret u => obtain ⟨_, _, _, _, _, q⟩ := q1; exact q.elim
  | next =>
    obtain ⟨σ1, H1, I1, q1⟩ := q1
    refine wpAny_execs_cons (wpAny_mono ((h2 _ _ xtake).run [] z1 σ1 H1 _ I1 q1) (fun fl z2 q2 => ?_) fun x z hx => hx)
    cases fl with
    | brk => obtain ⟨_, _, _, q⟩ := q2; exact q.elim
    | cont => obtain ⟨_, _, _, q⟩ := q2; exact q.elim
    | ret u => obtain ⟨_, _, _, _, _, q⟩ := q2; exact q.elim
    | next =>
      obtain ⟨σ2, H2, I2, q2⟩ := q2
      refine wpAny_execs_cons (wpAny_Return_some (wpAny_mono ((he _ _ xtake).run [] z2 σ2 H2 _ I2 q2) (fun u z3 q3 => ?_) fun x z hx => hx))
      obtain ⟨v, H3, I3, r3, q3⟩ := q3
      exact fin_ret hfin (I3.ofTry ok) r3 q3
/-- how an exception of such a body goes on -/
theorem xw_fin (hf : DSs X.nox C (f0 :: fs) tf wf) {mg : Str → Option Value} (hx : Xt C mg E RX) : XW C mg (wFin tf fun cls d _ H => E cls d H) (fun nm fld d s' => wf { nx := fun s2 => RX nm fld d s2.c, rt := fun _ _ => False } s') := fun nm fld d s' σ' G' H' Cc dx u q hm r' h0 hd pd => fin_run hf hx q hm r' h0 hd pd
def wRetFin3 (w1 w2 wf : WS) (we : WE) : WS := fun DD s => w1 { nx := fun z1 => w2 { nx := fun z2 => we z2 fun d z3 => wf { nx := fun z4 => DD.rt d z4.c, rt := fun _ _ => False } z3, rt := fun _ _ => False } z1, rt := fun _ _ => False } s
theorem takesT {W : L2.WX} : Takes (X.tr [] fun _ _ => True) W := fun _ _ _ => True.intro
theorem ds_retFin3 (hs : X.stack = X.env :: X.outer) (hfr : X.env.frame = some X.env.locals) (hex : X.ex = []) (tk : Takes X (fun cls d _ H => E cls d H))
    (h1 : ∀ (pn : List (Addr × Obj)) (xe : Value → Shared → Prop), Takes (X.tr pn xe) (wFin tf fun cls d _ H => E cls d H) → DS (X.tr pn xe) C s1 t1 w1) (h2 : ∀ (pn : List (Addr × Obj)) (xe : Value → Shared → Prop), Takes (X.tr pn xe) (wFin tf fun cls d _ H => E cls d H) → DS (X.tr pn xe) C s2 t2 w2)
    (he : ∀ (pn : List (Addr × Obj)) (xe : Value → Shared → Prop), Takes (X.tr pn xe) (wFin tf fun cls d _ H => E cls d H) → DE (X.tr pn xe) C e te we) (hf : DSs X.nox C (f0 :: fs) tf wf) (hsu : ∀ (a : Addr) (pn : List (Addr × Obj)), PSs (X.suite a pn) (f0 :: fs) tf) :
    DS X C (.Try [s1, s2, .Return (some e) rp] [] [] (f0 :: fs) pos) (tRetFin3 t1 t2 tf te) (wRetFin3 w1 w2 wf we) :=
  ⟨ps_retFin3 hs hfr hex tk (fun pn xe tk => (h1 pn xe tk).ps) (fun pn xe tk => (h2 pn xe tk).ps) (fun pn xe tk => (he pn xe tk).pe) hf.ps hsu, fun G σ H s D DD r q o =>
    (h1 _ _ takesT).is G σ H s _ _ r q ⟨fun σ1 H1 z1 G1 q1 r1 e1 => (h2 _ _ takesT).is G1 σ1 H1 z1 _ _ r1 q1 ⟨fun σ2 H2 z2 G2 q2 r2 e2 => (he _ _ takesT).ie G2 σ2 H2 z2 _ _ r2 q2 fun v d z3 G3 H3 q3 r3 e3 g3 pd =>
      hf.is G3 σ2 H3 z3 _ _ r3 q3 ⟨fun σ' H' s' G' hR r' e => o.rt v d s'.c G' H' hR r'.fin (((e1.trans e2).trans e3).trans e) (dp_ex e pd), fun _ _ _ _ z => z.elim, fun _ _ _ _ z => z.elim, fun _ _ _ _ _ z => z.elim⟩,
      fun _ _ _ _ z => z.elim, fun _ _ _ _ z => z.elim, fun _ _ _ _ _ z => z.elim⟩, fun _ _ _ _ z => z.elim, fun _ _ _ _ z => z.elim, fun _ _ _ _ _ z => z.elim⟩⟩
end
end Dw
namespace Dw
open PySem PySem.Spec PyProof.Rows L2 OgR Evl Gx
structure MoreO (C : Ct) (o : Ob) (C' : Ct) : Prop where
  k : C'.K = C.K
  bx : C'.bx = ⟨C.bx.box, C.bx.tab, C.bx.obs ++ [o]⟩
  g0 : C'.G0 = C.G0
  f1 : ∀ b, o.has b → C.H0 b = none
  f2 : ∀ b, o.has b → C'.H0 b ≠ none
  f3 : ∀ b, ¬ o.has b → C'.H0 b = C.H0 b
/-- what is let go at the end -/
def lowV (m : Nat) : Option DV → Option DV
  | some (.ob k) => if k < m then some (.ob k) else none
  | x => x
def Dt.low (m : Nat) (s : Dt) : Dt := ⟨s.env.map (lowV m), ⟨s.c.n, s.c.o.take m⟩⟩
def DEnds.low (m : Nat) (DD : DEnds) : DEnds := { nx := fun s => DD.nx (s.low m), rt := fun d c => DD.rt d ⟨c.n, c.o.take m⟩, bk := fun s => DD.bk (s.low m), ct := fun s => DD.ct (s.low m) }
section
variable {C C' : Ct} {G G1 G2 H H1 H2 : Hp} {σ : L2.St} {s : Dt} {o : Ob} {v : Ov} {c : Cs}
theorem obsAt_snoc {K : PySem.W.Frag} : ∀ {os : List Ob} {cs : List Ov}, ObsAt K os G H cs → ObAt K G H o v → ObsAt K (os ++ [o]) G H (cs ++ [v])
  | _, _, .nil, h => .cons h .nil
  | _, _, .cons a t, h => .cons a (obsAt_snoc t h)
theorem obsAt_take {K : PySem.W.Frag} : ∀ {os : List Ob} {o : Ob} {cs : List Ov}, ObsAt K (os ++ [o]) G H cs → ObsAt K os G H (cs.take os.length)
  | [], _, cs, _ => by
    rw [List.length_nil, List.take_zero]
    exact .nil
  | _ :: os, _, _, .cons a t => .cons a (obsAt_take t)
theorem MoreO.has (m : MoreO C o C') {l : Addr} : C'.bx.has l ↔ C.bx.has l ∨ o.has l := by
  rw [m.bx]
  constructor
  · intro h
    rcases h.of with z | z | ⟨o2, m2, z⟩
    · exact .inl (.ofb z)
    · exact .inl (.oft z)
    · rcases List.mem_append.mp m2 with q | q
      · exact .inl (.ofo q z)
      · rw [List.mem_singleton.mp q] at z
        exact .inr z
  · rintro (h | h)
    · rcases h.of with z | z | ⟨o2, m2, z⟩
      · exact .ofb z
      · exact .oft z
      · exact .ofo (List.mem_append_left _ m2) z
    · exact .ofo (List.mem_append_right _ List.mem_cons_self) h
theorem Bxs.as {x x' : Bx} {l : Addr} {c' : Cs} (h : Bxs x H l c) (e1 : x'.box = x.box) (e2 : x'.tab = x.tab) (e3 : c'.n = c.n) : Bxs x' H l c' := ⟨fun z => by rw [e3]; exact h.box (e1 ▸ z), fun z => h.tab (e2 ▸ z), h.ne, h.nt'⟩
theorem Rel.enter (r : Rel C G1 σ H1 s) (m : MoreO C o C') (eg : Ex G1 G2) (eh : Ex H1 H2) (gh : Ex G2 H2) (nw : Nw G1 G2 H1) (ob : ObAt C.K G2 H2 o v) (fr : ∀ b, o.has b → H1 b = none ∧ G2 b = none) : Rel C' G2 σ H2 ⟨s.env, ⟨s.c.n, s.c.o ++ [v]⟩⟩ := by
  have r2 := r.grow eg eh gh nw
  have old : ∀ {b : Addr} {w : HO}, H1 b = some w → ¬ o.has b := fun h z => by rw [(fr _ z).1] at h; cases h
  have eb : C'.bx.box = C.bx.box := by rw [m.bx]
  have et : C'.bx.tab = C.bx.tab := by rw [m.bx]
  have eo : C'.bx.obs = C.bx.obs ++ [o] := by rw [m.bx]
  have nbo : ∀ {l : Addr}, C.bx.has l → ¬ o.has l := fun hl z => (r.fin.bx _ hl).1.ne (fr _ z).1
  refine ⟨⟨gh, by rw [m.g0]; exact r2.fin.g0, fun b hb => ?_, fun b w nb h0 => ?_, ⟨fun l hl o2 m2 => ?_, ?_⟩, ?_, fun l hl => ?_⟩, r2.len, fun i y e => ?_, r2.dis⟩
  · have nb : ¬ o.has b := fun z => hb (fr b z).2
    rw [m.g0, m.f3 b nb]
    exact r2.fin.nw b hb
  · have n2 : ¬ o.has b := fun z => nb (m.has.mpr (.inr z))
    have n3 : ¬ C.bx.has b := fun z => nb (m.has.mpr (.inl z))
    rw [m.f3 b n2] at h0
    exact r2.fin.hh b w n3 h0
  · rw [eb, et] at hl
    rw [eo] at m2
    rcases List.mem_append.mp m2 with q | q
    · exact r.fin.ok.nb l hl o2 q
    · rw [List.mem_singleton.mp q]
      exact nbo (hl.elim (fun z => .ofb z) fun z => .oft z)
  · rw [eo, List.pairwise_append]
    refine ⟨r.fin.ok.nd, List.pairwise_singleton _ _, fun a ha b hb l hl => ?_⟩
    rw [List.mem_singleton.mp hb]
    exact nbo (.ofo ha hl)
  · rw [eo, m.k]
    exact obsAt_snoc r2.fin.ob ob
  · rcases m.has.mp hl with z | z
    · refine ⟨(r2.fin.bx l z).1.as eb et rfl, (r2.fin.bx l z).2.1, ?_⟩
      rw [m.f3 l (nbo z)]
      exact (r2.fin.bx l z).2.2
    · exact ⟨(ob_bxs (x := C.bx) (c := s.c) ob z (fun q => nbo (.ofb q) z) fun q => nbo (.oft q) z).as eb et rfl, (fr l z).2, m.f2 l z⟩
  · obtain ⟨u, hu, rv⟩ := r.sl i y e
    refine ⟨u, hu, ?_⟩
    have rv2 : RV C G2 H2 u y := by
      obtain ⟨u2, hu2, rv2⟩ := r2.sl i y e
      rw [hu] at hu2
      cases hu2
      exact rv2
    cases y with
    | d x => exact (show Dp C'.K G2 u x by rw [m.k]; exact rv2)
    | box =>
      obtain ⟨l, h1, h2⟩ := rv
      exact ⟨l, by rw [eb]; exact h1, h2⟩
    | ob k =>
      obtain ⟨o2, h1, h2⟩ := rv
      exact ⟨o2, by rw [eo, List.getElem?_append_left (List.getElem?_eq_some_iff.mp h1).1]; exact h1, h2⟩
    | own ds =>
      obtain ⟨p, xs, a1, a2, _⟩ := rv
      obtain ⟨p', xs', b1, b2, b3, b4, b5⟩ := rv2
      rw [a1] at b1
      cases b1
      exact ⟨p, xs', a1, b2, by rw [m.f3 p (old a2)]; exact b3, b4, by rw [m.k]; exact b5⟩
    | dic ds =>
      obtain ⟨p, xs, a1, a2, _⟩ := rv
      obtain ⟨p', xs', b1, b2, b3, b4, b5⟩ := rv2
      rw [a1] at b1
      cases b1
      exact ⟨p, xs', a1, b2, by rw [m.f3 p (old a2)]; exact b3, b4, by rw [m.k]; exact b5⟩
    | dit ds =>
      obtain ⟨p, xs, a1, a2, _⟩ := rv
      obtain ⟨p', xs', b1, b2, b3, b4, b5⟩ := rv2
      rw [a1] at b1
      cases b1
      exact ⟨p, xs', a1, b2, by rw [m.f3 p (old a2)]; exact b3, b4, by rw [m.k]; exact b5⟩
    | oth φ =>
      have h2 : Oth C φ G2 H2 u := rv2
      have h1 : Oth C φ G1 H1 u := rv
      exact ⟨h2.now, fun G' H' e1 e2 => h1.keep G' H' (eg.trans e1) fun b w nb hw sf => e2 b w (fun z => (m.has.mp z).elim nb (old hw)) (eh b w hw) sf⟩
    | dd ks =>
      obtain ⟨p, xs, a1, a2, a5⟩ := rv
      obtain ⟨p', xs', b1, b2, b5⟩ := rv2
      rw [a1] at b1
      cases b1
      have no : ¬ o.has p := by
        rcases a2.1 with ⟨od, h⟩ | ⟨h, _⟩
        · exact old h
        · exact old h
      exact ⟨p, xs', a1, ⟨b2.1.imp id fun z => ⟨z.1, by rw [m.f3 p no]; exact z.2⟩, fun z => (m.has.mp z).elim b2.2 no⟩, by rw [m.k]; exact b5⟩
theorem Fin.leave (f : Fin C' G H c) (m : MoreO C o C') : Fin C G H ⟨c.n, c.o.take C.bx.obs.length⟩ := by
  have eb : C'.bx.box = C.bx.box := by rw [m.bx]
  have et : C'.bx.tab = C.bx.tab := by rw [m.bx]
  have eo : C'.bx.obs = C.bx.obs ++ [o] := by rw [m.bx]
  refine ⟨f.gh, by rw [← m.g0]; exact f.g0, fun b hb => ?_, fun b w nb h0 => ?_, ⟨fun l hl o2 m2 => ?_, ?_⟩, ?_, fun l hl => ?_⟩
  · have no : ¬ o.has b := fun z => hb (f.bx b (m.has.mpr (.inr z))).2.1
    have := f.nw b hb
    rw [m.g0, m.f3 b no] at this
    exact this
  · have no : ¬ o.has b := fun z => by rw [m.f1 b z] at h0; cases h0
    exact f.hh b w (fun z => (m.has.mp z).elim nb no) (by rw [m.f3 b no]; exact h0)
  · exact f.ok.nb l (by rw [eb, et]; exact hl) o2 (by rw [eo]; exact List.mem_append_left _ m2)
  · have := f.ok.nd
    rw [eo, List.pairwise_append] at this
    exact this.1
  · have := f.ob
    rw [eo, m.k] at this
    exact obsAt_take this
  · have b := f.bx l (m.has.mpr (.inl hl))
    have no : ¬ o.has l := fun z => by
      have ok := f.ok
      rcases hl.of with q | q | ⟨o2, m2, q⟩
      · exact ok.nb l (.inl (by rw [eb]; exact q)) o (by rw [eo]; exact List.mem_append_right _ List.mem_cons_self) z
      · exact ok.nb l (.inr (by rw [et]; exact q)) o (by rw [eo]; exact List.mem_append_right _ List.mem_cons_self) z
      · have nd := ok.nd
        rw [eo, List.pairwise_append] at nd
        exact nd.2.2 o2 m2 o List.mem_cons_self l q z
    exact ⟨b.1.as eb.symm et.symm rfl, b.2.1, by rw [← m.f3 l no]; exact b.2.2⟩
theorem low_get {env : List (Option DV)} {n i : Nat} {y : DV} (h : (env.map (lowV n))[i]? = some (some y)) : env[i]? = some (some y) ∧ ∀ k, y = .ob k → k < n := by
  rw [List.getElem?_map] at h
  cases q : env[i]? with
  | none => rw [q] at h; cases h
  | some x =>
    rw [q] at h
    have h' : lowV n x = some y := by simpa using h
    cases x with
    | none => cases h'
    | some x =>
      cases x with
      | ob k =>
        unfold lowV at h'
        simp only at h'
        by_cases hk : k < n
        · rw [if_pos hk] at h'
          cases h'
          exact ⟨rfl, fun k2 e => by cases e; exact hk⟩
        · rw [if_neg hk] at h'
          cases h'
      | _ => cases h'; exact ⟨rfl, fun k e => by cases e⟩
theorem Rel.leave (r : Rel C' G σ H s) (m : MoreO C o C') : Rel C G σ H (s.low C.bx.obs.length) := by
  refine ⟨r.fin.leave m, by show (s.env.map _).length = _; rw [List.length_map]; exact r.len, fun i y e => ?_, fun i j x y p hne e1 e2 m1 m2 => r.dis i j x y p hne (low_get e1).1 (low_get e2).1 m1 m2⟩
  obtain ⟨e, hk⟩ := low_get e
  obtain ⟨u, hu, rv⟩ := r.sl i y e
  refine ⟨u, hu, ?_⟩
  have eb : C'.bx.box = C.bx.box := by rw [m.bx]
  have eo : C'.bx.obs = C.bx.obs ++ [o] := by rw [m.bx]
  have no : ∀ {p : Addr}, C'.H0 p = none → C.H0 p = none := fun {p} h => by
    rw [← m.f3 p fun z => m.f2 p z h]
    exact h
  cases y with
  | d x => exact (show Dp C.K G u x by rw [← m.k]; exact rv)
  | box =>
    obtain ⟨l, h1, h2⟩ := rv
    exact ⟨l, by rw [← eb]; exact h1, h2⟩
  | ob k =>
    obtain ⟨o2, h1, h2⟩ := rv
    rw [eo, List.getElem?_append_left (hk k rfl)] at h1
    exact ⟨o2, h1, h2⟩
  | own ds =>
    obtain ⟨p, xs, b1, b2, b3, b4, b5⟩ := rv
    exact ⟨p, xs, b1, b2, no b3, b4, by rw [← m.k]; exact b5⟩
  | dic ds =>
    obtain ⟨p, xs, b1, b2, b3, b4, b5⟩ := rv
    exact ⟨p, xs, b1, b2, no b3, b4, by rw [← m.k]; exact b5⟩
  | dit ds =>
    obtain ⟨p, xs, b1, b2, b3, b4, b5⟩ := rv
    exact ⟨p, xs, b1, b2, no b3, b4, by rw [← m.k]; exact b5⟩
  | oth φ =>
    have h2 : Oth C' φ G H u := rv
    exact ⟨h2.now, fun G' H' e1 e2 => h2.keep G' H' e1 fun b w nb hw sf => e2 b w (fun z => nb (m.has.mpr (.inl z))) hw sf⟩
  | dd ks =>
    obtain ⟨p, xs, b1, b2, b5⟩ := rv
    refine ⟨p, xs, b1, ⟨b2.1.imp id fun z => ⟨z.1, ?_⟩, fun z => b2.2 (m.has.mpr (.inl z))⟩, by rw [← m.k]; exact b5⟩
    rw [← m.f3 p fun q => b2.2 (m.has.mpr (.inr q))]
    exact z.2
end
/-- an expression that makes a street -/
abbrev WNs := Dt → (Sd → Dt → Prop) → Prop
structure NewS (C : Ct) (cS : Addr) (G1 H1 G2 H2 : Hp) (o : Ob) (S : Sd) : Prop where
  eg : Ex G1 G2
  eh : Ex H1 H2
  gh : Ex G2 H2
  nw : Nw G1 G2 H1
  of : ∃ a dx ps pt, o = .st cS a dx ps pt
  ob : ObAt C.K G2 H2 o (.st S)
  fr : ∀ b, o.has b → H1 b = none ∧ G2 b = none
def INs (C : Ct) (cS : Addr) (t : TE) (w : WNs) : Prop := ∀ G σ H s Q Q', Rel C G σ H s → w s Q →
  (∀ o S s1 G1 H1 G2 H2, Q S s1 → Rel C G1 σ H1 s1 → Ex G G1 → Gs C σ G H s G1 H1 s1 → NewS C cS G1 H1 G2 H2 o S → Q' (.ref o.adr) H2) → t σ H Q'
structure DNs (X : Cx) (C : Ct) (cS : Addr) (e : Expr) (t : TE) (w : WNs) : Prop where
  pe : PE X e t
  iN : INs C cS t w
open Classical in
/-- the context with it -/
noncomputable def withO (C : Ct) (o : Ob) (H2 : Hp) : Ct := ⟨C.K, ⟨C.bx.box, C.bx.tab, C.bx.obs ++ [o]⟩, fun b => if o.has b then H2 b else C.H0 b, C.G0⟩
section
variable {X : Cx} {C : Ct} {e : Expr} {es : List Expr} {sts : List Stmt} {pos p yp : Pos} {te : TE} {we : WE} {t tb : TS} {wb : WS} {tn : TE} {wn : WNs} {y : Str} {cS : Addr} {G1 G2 H1 H2 : Hp} {o : Ob} {S : Sd} {σ : L2.St} {s : Dt} {k : Nat}
open Classical in
theorem withO_more (r : Rel C G1 σ H1 s) (n : NewS C cS G1 H1 G2 H2 o S) : MoreO C o (withO C o H2) := by
  refine ⟨rfl, rfl, rfl, fun b hb => r.fin.h0 (n.fr b hb).1, fun b hb => ?_, fun b hb => if_neg hb⟩
  show (if o.has b then H2 b else C.H0 b) ≠ none
  rw [if_pos hb]
  obtain ⟨w, h, _⟩ := n.ob.cell hb
  rw [h]
  exact Option.some_ne_none _
theorem OfS.push {C' : Ct} (hC : OfS cS C.bx.obs) (n : ∃ a dx ps pt, o = Ob.st cS a dx ps pt) (m : MoreO C o C') : OfS cS C'.bx.obs := by
  rw [m.bx]
  intro o2 h
  rcases List.mem_append.mp h with q | q
  · exact hC o2 q
  · rw [List.mem_singleton.mp q]
    obtain ⟨a, dx, ps, pt, rfl⟩ := n
    exact rfl
/-- x = a new street; the rest -/
def wNewO (i : Nat) (wn : WNs) (wb : WS) : WS := fun DD s => wn s fun S s1 => wb (DD.low s1.c.o.length) ⟨s1.env.set i (some (.ob s1.c.o.length)), ⟨s1.c.n, s1.c.o ++ [.st S]⟩⟩
def tNewO (cS : Addr) (i : Nat) (tn : TE) (tb : Bx → Hp → TS) : TS := fun D σ H => tAsg tn (gName i) { D with nx := fun σ1 H1 => ∃ (bx : Bx) (H0 : Hp), OfS cS bx.obs ∧ tb bx H0 D σ1 H1 } σ H
theorem dss_new (i : Nat) {tb : Bx → Hp → TS} (hN : X.N.Nodup) (hn : DNs X C cS e tn wn) (hC : OfS cS C.bx.obs) (rest : ∀ (bx : Bx) (H0 : Hp), OfS cS bx.obs → DSs X ⟨C.K, bx, H0, C.G0⟩ sts (tb bx H0) wb)
    (hi : X.N[i]? = some y := by rfl) (hx : Loc X.env.scope y := by first | exact .inl rfl | exact .inr rfl) (hs : swapsWith e (some (.Name y yp)) pos.line X.env = pure false := by rfl) (hf : X.fn y = true ∨ X.env.scope.names.lookup y = some .local := by first | exact .inl rfl | exact .inr rfl | assumption) :
    DSs X C (.Assign [.Name y yp] e pos :: sts) (tNewO cS i tn tb) (wNewO i wn wb) := ⟨pss_cons (u := fun D σ H => ∃ (bx : Bx) (H0 : Hp), OfS cS bx.obs ∧ tb bx H0 D σ H) (ps_set hN hi hx hn.pe hs hf) ⟨fun pins s σ H D I ⟨bx, H0, h1, h2⟩ => (rest bx H0 h1).ps.run pins s σ H D I h2⟩, fun G σ H s D DD r q o => by
  show tn σ H fun v H1 => gName i v σ H1 _
  refine hn.iN G σ H s _ _ r q fun ob S s1 G1 H1 G2 H2 q1 r1 eg1 g1 n => ?_
  have m := withO_more r1 n
  have r2 := r1.enter m n.eg n.eh n.gh n.nw n.ob n.fr
  have hl : s1.c.o.length = C.bx.obs.length := (obsAt_len r1.fin.ob).symm
  have r3 : Rel (withO C ob H2) G2 (σ.set i (some (.ref ob.adr))) H2 ((⟨s1.env, ⟨s1.c.n, s1.c.o ++ [.st S]⟩⟩ : Dt).set i (.ob s1.c.o.length)) := r2.put (x := .ob s1.c.o.length) ⟨ob, by rw [hl]; exact List.getElem?_concat_length, rfl⟩ fun z => nomatch z
  have e2 := eg1.trans n.eg
  rw [hl] at q1
  have h1 := hC.push n.of m
  refine ⟨(withO C ob H2).bx, (withO C ob H2).H0, h1, (rest (withO C ob H2).bx (withO C ob H2).H0 h1).is G2 _ H2 _ _ _ r3 (by rw [hl]; exact q1) ⟨fun σ' H' s' G' h r' e => o.nx σ' H' (s'.low C.bx.obs.length) G' h (r'.leave m) (e2.trans e), fun σ' H' s' G' h r' e => o.bk σ' H' (s'.low C.bx.obs.length) G' h (r'.leave m) (e2.trans e), fun σ' H' s' G' h r' e => o.ct σ' H' (s'.low C.bx.obs.length) G' h (r'.leave m) (e2.trans e), fun v d c' G' H' h f e p => o.rt v d ⟨c'.n, c'.o.take C.bx.obs.length⟩ G' H' h (f.leave m) (e2.trans e) p⟩⟩⟩
end
end Dw
namespace Dw
open PySem PySem.Spec PyProof.Rows L2 OgR Evl Gx
/-- a street as it begins, over H -/
structure InitD (cS : Addr) (H : Hp) (a dx : Addr) (n : Int) (t1 t2 t3 ps pt : Addr) (H' : Hp) : Prop where
  ha : H' a = some (.ins cS dx [("plots", .int n), ("states", .ref ps), ("told", .ref pt)])
  h1 : H' t1 = some (.tup [])
  h2 : H' t2 = some (.tup [])
  h3 : H' t3 = some (.tup [.ref t1, .ref t2])
  hs : H' ps = some (.lst [.ref t3])
  ht : H' pt = some (.lst [])
  ne : ps ≠ pt
  f : H t1 = none ∧ H t2 = none ∧ H t3 = none ∧ H ps = none ∧ H pt = none
  keep : ∀ b w, b ≠ a → H b = some w → H' b = some w
def spInit (cS : Addr) : Sp := fun vs H Q _ => ∃ (a dx : Addr) (n : Int), vs = [.ref a, .int n] ∧ H a = some (.ins cS dx []) ∧ ∀ t1 t2 t3 ps pt H', InitD cS H a dx n t1 t2 t3 ps pt H' → Q .non H'
theorem init_run {K : PySem.W.Frag} {cS : Addr} {σ : L2.St} {H : Hp} {Q : VK} {a dx : Addr} {n : Int} (sk : StK K cS) (s0 : σ[0]? = some (some (.ref a))) (s1 : σ[1]? = some (some (.int n))) (ha : H a = some (.ins cS dx [])) (k : ∀ t1 t2 t3 ps pt H', InitD cS H a dx n t1 t2 t3 ps pt H' → Q .non H') :
    tSeq (sFld K (tVar 0) (tVar 1) "plots") (tSeq (sFld K (tVar 0) (tLst (tCons (tTup (tCons (tTup tNil) (tCons (tTup tNil) tNil))) tNil)) "states") (sFld K (tVar 0) (tLst tNil) "told")) { nx := fun _ H' => Q .non H', rt := Q } σ H := by
  refine ⟨_, s1, _, s0, a, cS, dx, [], rfl, ha, sk.cl, sk.np, by decide, by decide, fun t1 h1 => ⟨by decide, fun t2 h2 => ⟨by show 2 ≤ sizeLine; decide, fun t3 h3 => ⟨by show 1 ≤ sizeLine; decide, fun ps h4 => ⟨_, s0, a, cS, dx, [("plots", .int n)], rfl, ?_, sk.cl, sk.ns, by show 1 < 1000; decide, by decide, fun pt h5 => ⟨_, s0, a, cS, dx, [("plots", .int n), ("states", .ref ps)], rfl, ?_, sk.cl, sk.nt, by show 2 < 1000; decide, ?_⟩⟩⟩⟩⟩⟩
  all_goals
    have a1 : t1 ≠ a := fun z => by rw [z, upd_same] at h1; cases h1
    have b1 : t2 ≠ t1 := fun z => by rw [z, upd_same] at h2; cases h2
    rw [upd_ne b1] at h2
    have a2 : t2 ≠ a := fun z => by rw [z, upd_same] at h2; cases h2
    have c1 : t3 ≠ t2 := fun z => by rw [z, upd_same] at h3; cases h3
    rw [upd_ne c1] at h3
    have c2 : t3 ≠ t1 := fun z => by rw [z, upd_same] at h3; cases h3
    rw [upd_ne c2] at h3
    have a3 : t3 ≠ a := fun z => by rw [z, upd_same] at h3; cases h3
    have d1 : ps ≠ t3 := fun z => by rw [z, upd_same] at h4; cases h4
    rw [upd_ne d1] at h4
    have d2 : ps ≠ t2 := fun z => by rw [z, upd_same] at h4; cases h4
    rw [upd_ne d2] at h4
    have d3 : ps ≠ t1 := fun z => by rw [z, upd_same] at h4; cases h4
    rw [upd_ne d3] at h4
    have a4 : ps ≠ a := fun z => by rw [z, upd_same] at h4; cases h4
    rw [upd_ne a1] at h1
    rw [upd_ne a2] at h2
    rw [upd_ne a3] at h3
    rw [upd_ne a4] at h4
  · rw [upd_ne (Ne.symm a4), upd_ne (Ne.symm a3), upd_ne (Ne.symm a2), upd_ne (Ne.symm a1), upd_same]
    rfl
  all_goals
    have a5 : pt ≠ a := fun z => by rw [z, upd_same] at h5; cases h5
    rw [upd_ne a5] at h5
    have e1 : pt ≠ ps := fun z => by rw [z, upd_same] at h5; cases h5
    rw [upd_ne e1] at h5
    have e2 : pt ≠ t3 := fun z => by rw [z, upd_same] at h5; cases h5
    rw [upd_ne e2] at h5
    have e3 : pt ≠ t2 := fun z => by rw [z, upd_same] at h5; cases h5
    rw [upd_ne e3] at h5
    have e4 : pt ≠ t1 := fun z => by rw [z, upd_same] at h5; cases h5
    rw [upd_ne e4, upd_ne a5] at h5
  · rw [upd_ne (Ne.symm a5), upd_same]
    rfl
  · refine k t1 t2 t3 ps pt _ ⟨upd_same, ?_, ?_, ?_, ?_, ?_, Ne.symm e1, ⟨h1, h2, h3, h4, h5⟩, fun b w nb hb => ?_⟩
    · rw [upd_ne a1, upd_ne (Ne.symm e4), upd_ne a1, upd_ne (Ne.symm d3), upd_ne (Ne.symm c2), upd_ne (Ne.symm b1), upd_same]
    · rw [upd_ne a2, upd_ne (Ne.symm e3), upd_ne a2, upd_ne (Ne.symm d2), upd_ne (Ne.symm c1), upd_same]
    · rw [upd_ne a3, upd_ne (Ne.symm e2), upd_ne a3, upd_ne (Ne.symm d1), upd_same]
    · rw [upd_ne a4, upd_ne (Ne.symm e1), upd_ne a4, upd_same]
    · rw [upd_ne a5, upd_same]
    · have f : ∀ {x : Addr}, H x = none → b ≠ x := fun hx z => by rw [z, hx] at hb; cases hb
      rw [upd_ne nb, upd_ne (f h5), upd_ne nb, upd_ne (f h4), upd_ne (f h3), upd_ne (f h2), upd_ne (f h1), upd_ne nb]
      exact hb
structure MkO (P : Program) (wd : World) (K : PySem.W.Frag) (mg : Str → Option Value) (base : Heap) (k : Nat) (cS : Addr) : Prop where
  here : mg "Street" = some (.ref cS)
  ex : ∃ fI fd, L2.Mk K cS fI ∧ FnOk P wd K mg base CX0 k fI fd ["self", "plots"] (spInit cS) ∧ Binds K fd ["self", "plots"] []
def initS (n : Int) : Sd := ⟨n, [.tuple [.tuple [], .tuple []]], []⟩
section
variable {X : Cx} {C : Ct} {e : Expr} {es : List Expr} {pos p yp zp : Pos} {te : TE} {we : WE} {y z : Str} {cS : Addr} {k : Nat}
def wMk (we : WE) : WNs := fun s Q => we s fun d s1 => ∃ n, d = .int n ∧ Q (initS n) s1
theorem init_new {G1 H1 H2 : Hp} {a dx : Addr} {n : Int} {t1 t2 t3 ps pt : Addr} (gh : Ex G1 H1) (ha : H1 a = none) (hd : H1 dx = none) (hne : dx ≠ a) (i : InitD cS (upd (upd H1 dx (.own a)) a (.ins cS dx [])) a dx n t1 t2 t3 ps pt H2) :
    NewS C cS G1 H1 (upd (upd (upd G1 t1 (.tup [])) t2 (.tup [])) t3 (.tup [.ref t1, .ref t2])) H2 (.st cS a dx ps pt) (initS n) := by
  obtain ⟨f1, f2, f3, f4, f5⟩ := i.f
  have up : ∀ {b : Addr}, (upd (upd H1 dx (.own a)) a (.ins cS dx [])) b = none → H1 b = none ∧ b ≠ a ∧ b ≠ dx := fun {b} h => by
    have na : b ≠ a := fun z => by rw [z, upd_same] at h; cases h
    rw [upd_ne na] at h
    have nd : b ≠ dx := fun z => by rw [z, upd_same] at h; cases h
    rw [upd_ne nd] at h
    exact ⟨h, na, nd⟩
  have g0 : ∀ {b : Addr}, H1 b = none → G1 b = none := fun {b} h => by
    cases q : G1 b with
    | none => rfl
    | some o => rw [gh b o q] at h; cases h
  have kH : ∀ b w, H1 b = some w → H2 b = some w := fun b w h => by
    have na : b ≠ a := fun z => by rw [z, ha] at h; cases h
    have nd : b ≠ dx := fun z => by rw [z, hd] at h; cases h
    exact i.keep b w na (by rw [upd_ne na, upd_ne nd]; exact h)
  have n12 : t3 ≠ t1 := fun z => by have := i.h3; rw [z, i.h1] at this; cases this
  have n13 : t3 ≠ t2 := fun z => by have := i.h3; rw [z, i.h2] at this; cases this
  have G3 : ∀ b w, (upd (upd (upd G1 t1 (.tup [])) t2 (.tup [])) t3 (.tup [.ref t1, .ref t2])) b = some w → (b = t3 ∧ w = .tup [.ref t1, .ref t2]) ∨ ((b = t1 ∨ b = t2) ∧ w = .tup []) ∨ (G1 b = some w ∧ b ≠ t1 ∧ b ≠ t2 ∧ b ≠ t3) := fun b w h => by
    by_cases z3 : b = t3
    · rw [z3, upd_same] at h
      cases h
      exact .inl ⟨z3, rfl⟩
    · rw [upd_ne z3] at h
      by_cases z2 : b = t2
      · rw [z2, upd_same] at h
        cases h
        exact .inr (.inl ⟨.inr z2, rfl⟩)
      · rw [upd_ne z2] at h
        by_cases z1 : b = t1
        · rw [z1, upd_same] at h
          cases h
          exact .inr (.inl ⟨.inl z1, rfl⟩)
        · rw [upd_ne z1] at h
          exact .inr (.inr ⟨h, z1, z2, z3⟩)
  have gt1 : (upd (upd (upd G1 t1 (.tup [])) t2 (.tup [])) t3 (.tup [.ref t1, .ref t2])) t1 = some (.tup []) := by
    rw [upd_ne (Ne.symm n12)]
    by_cases z : t1 = t2
    · rw [z, upd_same]
    · rw [upd_ne z, upd_same]
  have gt2 : (upd (upd (upd G1 t1 (.tup [])) t2 (.tup [])) t3 (.tup [.ref t1, .ref t2])) t2 = some (.tup []) := by
    rw [upd_ne (Ne.symm n13), upd_same]
  have ng : ∀ {b : Addr}, H1 b = none → (∀ xs, H2 b ≠ some (.tup xs)) → (upd (upd (upd G1 t1 (.tup [])) t2 (.tup [])) t3 (.tup [.ref t1, .ref t2])) b = none := fun {b} h1 h2 => by
    cases q : (upd (upd (upd G1 t1 (.tup [])) t2 (.tup [])) t3 (.tup [.ref t1, .ref t2])) b with
    | none => rfl
    | some w =>
      rcases G3 b w q with ⟨z, _⟩ | ⟨z | z, _⟩ | ⟨z, _⟩
      · exact absurd (by rw [z]; exact i.h3) (h2 _)
      · exact absurd (by rw [z]; exact i.h1) (h2 _)
      · exact absurd (by rw [z]; exact i.h2) (h2 _)
      · rw [g0 h1] at z
        cases z
  have hd2 : H2 dx = some (.own a) := i.keep dx _ hne (by rw [upd_ne hne, upd_same])
  refine ⟨fun b w h => ?_, kH, fun b w h => ?_, fun b hb => ?_, ⟨a, dx, ps, pt, rfl⟩, .st i.ha hd2 i.hs i.ht i.ne (.cons (.tup (.inl (.inl upd_same)) (.cons (.tup (.inl (.inl gt1)) .nil) (.cons (.tup (.inl (.inl gt2)) .nil) .nil))) .nil) .nil rfl rfl, fun b hb => ?_⟩
  · have f : ∀ {x : Addr}, H1 x = none → b ≠ x := fun hx z => by rw [z, g0 hx] at h; cases h
    rw [upd_ne (f (up f3).1), upd_ne (f (up f2).1), upd_ne (f (up f1).1)]
    exact h
  · rcases G3 b w h with ⟨z, e⟩ | ⟨z | z, e⟩ | ⟨z, _⟩
    · rw [z, e]; exact i.h3
    · rw [z, e]; exact i.h1
    · rw [z, e]; exact i.h2
    · exact kH b w (gh b w z)
  · cases q : (upd (upd (upd G1 t1 (.tup [])) t2 (.tup [])) t3 (.tup [.ref t1, .ref t2])) b with
    | none => exact absurd q hb
    | some w =>
      rcases G3 b w q with ⟨z, e⟩ | ⟨z | z, e⟩ | ⟨z, _⟩
      · exact .inr (.inl (by rw [z]; exact (up f3).1))
      · exact .inr (.inl (by rw [z]; exact (up f1).1))
      · exact .inr (.inl (by rw [z]; exact (up f2).1))
      · exact .inl (by rw [z]; exact Option.some_ne_none _)
  · cases hb with
    | sa => exact ⟨ha, ng ha fun xs z => by rw [i.ha] at z; cases z⟩
    | sd => exact ⟨hd, ng hd fun xs z => by rw [hd2] at z; cases z⟩
    | ss => exact ⟨(up f4).1, ng (up f4).1 fun xs z => by rw [i.hs] at z; cases z⟩
    | sl => exact ⟨(up f5).1, ng (up f5).1 fun xs z => by rw [i.ht] at z; cases z⟩
theorem dn_mk (M : MkO X.prog X.w X.K X.mg X.base k cS) (hr : Room (k + 1) X.A) (hg : Gl X "Street") (he : DE X C e te we)
    (hs : starEach [e] X.env = (false, eval e X.env) :: starEach [] X.env := by rfl) : DNs X C cS (.Call (.Name "Street" p) [e] [] pos) (tMake cS (spInit cS) [] (fun _ _ _ => False) (tCons te tNil)) (wMk we) := by
  obtain ⟨fI, fd, mk, F, b⟩ := M.ex
  refine ⟨pe_make mk F hr hg M.here b .nil pass0 (pa_cons he.pe pa_nil hs) (by decide) hs, fun G σ H s Q Q' r q kk => ?_⟩
  refine he.ie G σ H s _ _ r q fun v d s1 G1 H1 q1 r1 eg1 g1 pd => ?_
  obtain ⟨n, rfl, q1⟩ := q1
  cases dp_int pd
  exact fun x dx hx hdx hne => ⟨x, dx, n, rfl, upd_same, fun t1 t2 t3 ps pt H' i => ⟨rfl, kk (.st cS x dx ps pt) _ s1 G1 H1 _ H' q1 r1 eg1 g1 (init_new r1.fin.gh hx hdx hne i)⟩⟩
end
end Dw
namespace Dw
open PySem PySem.Spec PyProof.Rows L2 OgR Evl Gx
structure StI (K : PySem.W.Frag) (cS : Addr) : Prop where
  ha : PySem.W.findIn K (.ref cS) "__class__" = some (some (.builtin "object.__class__"))
  hn : PySem.W.specialIn K (.builtin "object.__class__") "__get__" = some (some (.builtin "getset_descriptor.__get__"))
  htk : PySem.W.takesIn K (.builtin "object.__class__") = some true
  hm : PySem.W.mroIn K cS (.type "object") = some true
  kit : ["NoneType", "bool", "int", "str", "list", "tuple", "dict"].all (fun t => PySem.W.kitOne K (.type t) (.ref cS) == some false) = true
section
variable {X : Cx} {C : Ct} {e : Expr} {es : List Expr} {pos p yp zp : Pos} {te : TE} {we : WE} {y z : Str} {cS : Addr} {k : Nat} {f : Addr} {fd : FuncData} {ps : List Str} {sp : Sp} {F : FOb}
abbrev E00 : XK := fun _ _ _ => False
/-- a method run from within an operation -/
theorem run_in1 {A : Around} {pins : List (Addr × Obj)} {σ : L2.St} {H : Hp} {s : Shared} {Q : VK} {us : List Value} {vs : List V} (F : FnGX X.prog X.w X.K X.mg X.base k f fd ps sp) (hG : A.guards = some []) (hfr : A.frames = X.A.frames) (hr : Room k A) (hb : Binds X.K fd ps [])
    (I : Inv X pins σ H s) (r : Vals vs us) (q : sp vs H Q E00) : wpAny (model X.prog X.w) A (call (.ref f) us) (EP X pins σ Q) X.xe s := by
  have hl : us.length = ps.length := by rw [← r.length]; exact F.1 _ _ _ _ q
  have hb' := hb s us I.kIn (by rw [List.append_nil]; exact hl)
  rw [List.append_nil] at hb'
  have e0 : Env0 X.prog X.w X.K X.mg X.base A X.stack s H := by
    have e := I.env0
    exact ⟨by rw [hfr]; exact e.frames, e.mod, e.bs, e.bsz, e.funs, e.frf, e.hok, e.bare⟩
  refine wpAny_call (codeAny_mono (F.2 A X.stack s H ⟨us, []⟩ us vs Q E00 hG hr e0 hb' r q) ?_)
  rintro (er | fl) s' hq
  · exact passAt (W := W0) takes0 σ pins H s er s' I hq
  · cases fl with
    | ret u => exact I.after hq
    | next => exact False.elim hq
    | brk => exact False.elim hq
    | cont => exact False.elim hq
def rLenO (cS : Addr) (sp : Sp) : List V → Hp → VK → Prop := fun xs H Q => ∃ a dx fs, xs = [.ref a] ∧ H a = some (.ins cS dx fs) ∧ sp [.ref a] H (fun v H' => ∃ n : Int, v = .int n ∧ 0 ≤ n ∧ n < 2 ^ 63 ∧ Q v H') E00
theorem cr_lenO (F : FnGX X.prog X.w X.K X.mg X.base k f fd ps sp) (hm : Meth X.K cS "__len__" f) (hb : Binds X.K fd ps []) (hG : X.A.guards = some []) (hr : Room (k + 1) X.A) : CallR X (.builtin "len") (rLenO cS sp) := by
  intro pins s σ H xs us Q I r h
  obtain ⟨a, dx, fs, rfl, ha, q⟩ := h
  cases r with
  | cons ra rn =>
    cases rn
    cases ra
    obtain ⟨mA, O, _⟩ := ins_get I.hok ha
    obtain ⟨od, J, _⟩ := O.look
    obtain ⟨m, hF⟩ := I.fr
    refine PySem.W.len_K hF I.ok.mod.kin J hm.at_ hm.fn (wpAny_mono (run_in1 (A := X.A.in1) (vs := [.ref a]) F hG rfl hr.in1 hb I (.cons rfl .nil) q) (fun u s' z => ?_) fun _ _ z => z)
    obtain ⟨v, H', I', rv, n, rfl, h0, h1, q'⟩ := z
    obtain ⟨t, rfl⟩ := (show ∃ t, u = Value.int n t from rv)
    exact ⟨⟨h0, h1⟩, .int n, H', I'.tok _, ⟨_, rfl⟩, q'⟩
def wLenO (i : Nat) (F : FOb) : WE := fun s Q => ∃ j S, s.env[i]? = some (some (.ob j)) ∧ s.c.o[j]? = some (.st S) ∧ CallsO F false false [j] [] s (fun d s1 => ∃ n : Int, d = .int n ∧ 0 ≤ n ∧ n < 2 ^ 63 ∧ Q d s1) fun _ _ _ _ => False
theorem subx1 {j : Nat} {o : Ob} (h : C.bx.obs[j]? = some o) : SubX C false [j] ⟨none, none, [o]⟩ := ⟨rfl, rfl, (fun _ z => by cases z), .cons h .nil⟩
theorem subx2 {i j : Nat} {o o' : Ob} (h : C.bx.obs[i]? = some o) (h' : C.bx.obs[j]? = some o') : SubX C false [i, j] ⟨none, none, [o, o']⟩ := ⟨rfl, rfl, (fun _ z => by cases z), .cons h (.cons h' .nil)⟩
theorem de_lenO {mgv : Str → Option Value} (i : Nat) (D : MetO X.prog X.w X.K mgv X.base k cS "__len__" ps F) (hK : X.K = C.K) (hC : OfS cS C.bx.obs) (hG : X.A.guards = some []) (hr : Room (k + 1) X.A) (hg : Gl X "len") (hm : X.mg "len" = none) (hv : PE X (.Name y yp) (tVar i) := by exact pv _)
    (hs : starEach [.Name y yp] X.env = (false, eval (.Name y yp) X.env) :: starEach [] X.env := by rfl) (hmg : X.mg = mgv := by rfl) :
    DE X C (.Call (.Name "len" p) [.Name y yp] [] pos) (tCB (rLenO cS (spObj C.K mgv cS false F)) (tCons (tVar i) tNil)) (wLenO i F) := by
  subst hmg
  obtain ⟨f, fd, Fg, b, mm⟩ := D.ex
  refine ⟨pe_callB (hK ▸ cr_lenO Fg mm b hG hr) hg hm PySem.boot_len (pa_cons hv pa_nil hs) (by decide) (by decide) hs, fun G σ H s Q Q' r q kk => ?_⟩
  obtain ⟨j, S, e, es, q⟩ := q
  obtain ⟨a, dx, ps, pt, hv, ho, ob⟩ := ob_at r hC e es
  refine ⟨_, hv, ?_⟩
  obtain ⟨_, fs, _, h1, _⟩ := ob_fld ob .states
  refine ⟨a, dx, fs, rfl, h1, ?_⟩
  exact spO_call (mg := X.mg) (W := W0) (σ := σ) hC r (subx1 ho) (vs := []) .nil q (fun v d s' G' H' q1 r1 eg g pd => by
    obtain ⟨n, rfl, h0, h1, q1⟩ := q1
    exact ⟨n, dp_int pd, h0, h1, kk v _ s' G' H' q1 r1 eg g pd⟩) fun _ _ _ _ _ _ _ _ _ z => z.elim
/-- isinstance(x, Street) -/
def wIsiO (i : Nat) : WE := fun s Q => ∃ x, s.env[i]? = some (some x) ∧ ((∃ j S, x = .ob j ∧ s.c.o[j]? = some (.st S) ∧ Q (.bool true) s) ∨ ∃ d, x = .d d ∧ Q (.bool false) s)
theorem tyN_mem (d : PyData) : tyN d ∈ ["NoneType", "bool", "int", "str", "list", "tuple", "dict"] := by
  cases d <;> simp [tyN]
theorem de_isiO (i : Nat) (sk : StK X.K cS) (si : StI X.K cS) (hK : X.K = C.K) (hC : OfS cS C.bx.obs) (hg : Gl X "isinstance") (hm : X.mg "isinstance" = none) (hg2 : Gl X "Street") (hm2 : X.mg "Street" = some (.ref cS)) (hv : PE X (.Name y yp) (tVar i) := by exact pv _)
    (hs : starEach [.Name y yp, .Name "Street" zp] X.env = (false, eval (.Name y yp) X.env) :: starEach [.Name "Street" zp] X.env := by rfl) (hpl : (backTo pos (starEach [.Name "Street" zp] X.env)).any (·.1) = false := by rfl)
    (hs2 : starEach [.Name "Street" zp] X.env = (false, eval (.Name "Street" zp) X.env) :: starEach [] X.env := by rfl) :
    DE X C (.Call (.Name "isinstance" p) [.Name y yp, .Name "Street" zp] [] pos) (tCB (rIsi C.K) (tCons (tVar i) (tCons (tC (.ref cS)) tNil))) (wIsiO i) :=
  ⟨pe_callB (hK ▸ call_isi) hg hm (by decide +kernel) (pa_cons hv (pa_cons (pe_glob (v := .ref cS) hg2 hm2 rfl (by decide)) pa_nil hs2) hs) (by decide) (by decide) hs hpl, fun G σ H s Q Q' r q kk => by
    obtain ⟨x, e, q⟩ := q
    rcases q with ⟨j, S, rfl, es, q⟩ | ⟨d, rfl, q⟩
    · obtain ⟨a, dx, ps, pt, hv, ho, ob⟩ := ob_at r hC e es
      obtain ⟨_, fs, _, h1, _⟩ := ob_fld ob .states
      refine ⟨_, hv, .ref a, .ref cS, .ref cS, .ref cS, true, rfl, .own cS, .base (.ins h1 (hK ▸ sk.cl) (hK ▸ si.ha) (hK ▸ si.hn) (hK ▸ si.htk) (hK ▸ si.hm)), by simp [PySem.W.kitOne], kk _ _ s G H q r (Ex.refl G) Gs.refl (.bl _)⟩
    · obtain ⟨v, hv, rv⟩ := r.sl i _ e
      refine ⟨_, hv, v, .ref cS, .type (tyN d), .ref cS, false, rfl, .own cS, tyx_D (dp_ex r.fin.gh rv), ?_, kk _ _ s G H q r (Ex.refl G) Gs.refl (.bl _)⟩
      have := List.all_eq_true.mp si.kit _ (tyN_mem d)
      rw [← hK]
      exact eq_of_beq this⟩
/-- x == y, two streets -/
def rEqO (cS : Addr) (sp : Sp) : R2 := fun x y H Q => ∃ a b dx dy fs gs, x = .ref a ∧ y = .ref b ∧ H a = some (.ins cS dx fs) ∧ H b = some (.ins cS dy gs) ∧ sp [.ref a, .ref b] H (fun v H' => ∃ t, v = .bl t ∧ Q v H') E00
theorem op_eqO (F : FnGX X.prog X.w X.K X.mg X.base k f fd ps sp) (hm : Meth X.K cS "__eq__" f) (hb : Binds X.K fd ps []) (hG : X.A.guards = some []) (hr : Room k X.A) : OpR X (compareOp .Eq) (rEqO cS sp) := by
  intro pins s σ H x y v u Q I rx ry h
  obtain ⟨a, b, dx, dy, fs, gs, rfl, rfl, ha, hb', q⟩ := h
  cases rx
  cases ry
  obtain ⟨mA, J, _⟩ := ins_get I.hok ha
  obtain ⟨mB, J', _⟩ := ins_get I.hok hb'
  obtain ⟨od, J, _⟩ := J.look
  obtain ⟨od', J', _⟩ := J'.look
  obtain ⟨m, hF⟩ := I.fr
  show wpAny (model X.prog X.w) X.A (richCompare .Eq (.ref a) (.ref b)) _ _ s
  refine PySem.W.cmp_K (op := .Eq) (tb := .ref cS) hr.units0 hF I.ok.mod.kin J J'.type (by simp [PySem.W.notFirst]) hm.at_ hm.fn (wpAny_mono (run_in1 (vs := [.ref a, .ref b]) F hG rfl hr hb I (.cons rfl (.cons rfl .nil)) q) (fun r s' z => ?_) fun _ _ z => z)
  obtain ⟨v, H', I', rv, t, rfl, q'⟩ := z
  cases rv
  exact ⟨.bl t, H', I', rfl, q'⟩
def wEqO (i l : Nat) (F : FOb) : WE := fun s Q => ∃ j S j' S', s.env[i]? = some (some (.ob j)) ∧ s.env[l]? = some (some (.ob j')) ∧ s.c.o[j]? = some (.st S) ∧ s.c.o[j']? = some (.st S') ∧ CallsO F false false [j, j'] [] s (fun d s1 => ∃ t, d = .bool t ∧ Q d s1) fun _ _ _ _ => False
theorem de_eqO {mgv : Str → Option Value} (i l : Nat) (D : MetO X.prog X.w X.K mgv X.base k cS "__eq__" ps F) (hK : X.K = C.K) (hC : OfS cS C.bx.obs) (hG : X.A.guards = some []) (hr : Room k X.A) (hv : PE X (.Name y yp) (tVar i) := by exact pv _) (hv2 : PE X (.Name z zp) (tVar l) := by exact pv _)
    (hm : behindInMarks .Eq (.Name z zp) = false := by first | exact nomark _ | rfl) (hmg : X.mg = mgv := by rfl) :
    DE X C (.Compare (.Name y yp) [.Eq] [.Name z zp] pos) (tOp (rEqO cS (spObj C.K mgv cS false F)) (tVar i) (tVar l)) (wEqO i l F) := by
  subst hmg
  obtain ⟨f, fd, Fg, b, mm⟩ := D.ex
  refine ⟨pe_cmpR (hK ▸ op_eqO Fg mm b hG hr) hv hv2 hm, fun G σ H s Q Q' r q kk => ?_⟩
  obtain ⟨j, S, j', S', e, e', es, es', q⟩ := q
  obtain ⟨a, dx, ps, pt, hv, ho, ob⟩ := ob_at r hC e es
  obtain ⟨a', dx', ps', pt', hv', ho', ob'⟩ := ob_at r hC e' es'
  obtain ⟨_, fs, _, h1, _⟩ := ob_fld ob .states
  obtain ⟨_, fs', _, h1', _⟩ := ob_fld ob' .states
  refine ⟨_, hv, _, hv', a, a', dx, dx', fs, fs', rfl, rfl, h1, h1', ?_⟩
  exact spO_call (mg := X.mg) (W := W0) (σ := σ) hC r (subx2 ho ho') (vs := []) .nil q (fun v d s' G' H' q1 r1 eg g pd => by
    obtain ⟨t, rfl, q1⟩ := q1
    exact ⟨t, dp_bl pd, kk v _ s' G' H' q1 r1 eg g pd⟩) fun _ _ _ _ _ _ _ _ _ z => z.elim
end
end Dw
namespace Dw
open PySem PySem.Spec PyProof.Rows L2 OgR Evl Gx
theorem hdO_1 : hdO false 1 = [.ob 0] := rfl
theorem hdO_2 : hdO false 2 = [.ob 0, .ob 1] := rfl
theorem hdO_b0 : hdO true 0 = [.box] := rfl
theorem hdO_b1 : hdO true 1 = [.box, .ob 0] := rfl
theorem hdO_b2 : hdO true 2 = [.box, .ob 0, .ob 1] := rfl
theorem selV_nil (o : List Ov) : selV o [] = some [] := rfl
theorem selV_1 {o : List Ov} {j : Nat} {x : Ov} (h : o[j]? = some x) : selV o [j] = some [x] := by
  unfold selV
  rw [h]
  rfl
theorem sel0 (x : Ov) (r : List Ov) : selV (x :: r) [0] = some [x] := rfl
theorem sel1 (x y : Ov) (r : List Ov) : selV (x :: y :: r) [1] = some [y] := rfl
theorem sel2 (x y z : Ov) (r : List Ov) : selV (x :: y :: z :: r) [2] = some [z] := rfl
theorem sel01 (x y : Ov) (r : List Ov) : selV (x :: y :: r) [0, 1] = some [x, y] := rfl
theorem sel10 (x y : Ov) (r : List Ov) : selV (x :: y :: r) [1, 0] = some [y, x] := rfl
theorem put0 (x y : Ov) (r : List Ov) : putO (x :: r) [0] [y] = y :: r := rfl
theorem put1 (x x' y : Ov) (r : List Ov) : putO (x :: x' :: r) [1] [y] = x :: y :: r := rfl
theorem put2 (x x' x'' y : Ov) (r : List Ov) : putO (x :: x' :: x'' :: r) [2] [y] = x :: x' :: y :: r := rfl
theorem put01 (x x' y y' : Ov) (r : List Ov) : putO (x :: x' :: r) [0, 1] [y, y'] = y :: y' :: r := rfl
theorem put10 (x x' y y' : Ov) (r : List Ov) : putO (x :: x' :: r) [1, 0] [y, y'] = y' :: y :: r := rfl
theorem putN (o : List Ov) : putO o [] [] = o := rfl
theorem tk0 (r : List Ov) : r.take 0 = [] := rfl
theorem tk1 (x : Ov) (r : List Ov) : (x :: r).take 1 = [x] := rfl
theorem tk2 (x y : Ov) (r : List Ov) : (x :: y :: r).take 2 = [x, y] := rfl
theorem nd1 (j : Nat) : [j].Nodup = True := by simp
theorem nd01 : [0, 1].Nodup = True := by simp
theorem nd10 : [1, 0].Nodup = True := by simp
theorem ndN : ([] : List Nat).Nodup = True := by simp
theorem low_box (m : Nat) : lowV m (some .box) = some .box := rfl
theorem low_d (m : Nat) (d : PyData) : lowV m (some (.d d)) = some (.d d) := rfl
theorem low_own (m : Nat) (d : List PyData) : lowV m (some (.own d)) = some (.own d) := rfl
theorem low_none (m : Nat) : lowV m none = none := rfl
theorem low_ob (m k : Nat) : lowV m (some (.ob k)) = if k < m then some (.ob k) else none := rfl
theorem sd_states (p : Int) (a b : List PyData) : Sd.fld ⟨p, a, b⟩ .states = a := rfl
theorem sd_told (p : Int) (a b : List PyData) : Sd.fld ⟨p, a, b⟩ .told = b := rfl
theorem sd_put1 (p : Int) (a b c : List PyData) : Sd.put ⟨p, a, b⟩ .states c = ⟨p, c, b⟩ := rfl
theorem sd_put2 (p : Int) (a b c : List PyData) : Sd.put ⟨p, a, b⟩ .told c = ⟨p, a, c⟩ := rfl
theorem noL_int (i : Int) : NoL (.int i) = true := rfl
theorem noL_str (i : Str) : NoL (.str i) = true := rfl
theorem noL_tup (ds : List PyData) : NoL (.tuple ds) = NoLA ds := by unfold NoL; rfl
theorem noLA_cons (d : PyData) (ds : List PyData) : NoLA (d :: ds) = (NoL d && NoLA ds) := by
  rw [NoLA]
theorem noLA_nil : NoLA [] = true := rfl
theorem noLA_ints (l : List Int) : NoLA (l.map .int) = true := NoLA.of fun x hx => by
  obtain ⟨i, _, rfl⟩ := List.mem_map.mp hx
  rfl
end Dw
namespace Dw
open PySem PySem.Spec PyProof.Rows L2 OgR Evl Gx
structure FunD (K : PySem.W.Frag) (m qual : Str) (st : Stmt) (a : Addr) (fd : FuncData) : Prop where
  at_ : ∃ (dv kv : Value) (u1 u2 : Value) (an : Option Addr) (cd ct oc : Value) (od : Option Addr) (sl : Array (Option Value)),
    K.lookup a = some ⟨oc, od, .func fd, sl⟩ ∧ PySem.W.codeIn K cd qual = true ∧ fd = PySem.W.fnOf m qual (defArgs st) (defBody st) (defScope st) dv kv u1 u2 an cd ct
theorem FunD.run {P : Program} {w : World} {K : PySem.W.Frag} {mg : Str → Option Value} {base : Heap} {m qual : Str} {st : Stmt} {a : Addr} {fd : FuncData} {N ps : List Str} {k : Nat} {sp : Sp} (F : FunD K m qual st a fd) (S : FnScope N ps (defScope st)) (hl : ∀ vs H Q E, sp vs H Q E → vs.length = ps.length)
    (body : ∀ (cd : Value) (A : Around) (out : List Env) (s : Shared) (H : Hp) (vs : List V) (Q : VK) (E : XK), Room k (A.deeper (envOfC qual (defScope st) s.heap.objs.size a cd)) → sp vs H Q E →
      ∃ t, PSs (cxOf L2.CX0 P w K mg base N qual (defScope st) a cd A out s H E).nox (defBody st) t ∧ t { nx := fun _ H' => Q .non H', rt := Q } (start N vs) H) : FnOk P w K mg base L2.CX0 (k + 1) a fd ps sp := by
  obtain ⟨dv, kv, u1, u2, an, cd, ct, oc, od, sl, l, c, rfl⟩ := F.at_
  exact fn_of l c S hl fun A out s H vs Q E hr h => by
    obtain ⟨t, p, q⟩ := body cd A out s H vs Q E hr h
    exact ⟨t, p.nox, q⟩
end Dw
namespace Dw
open PySem PySem.Spec PyProof.Rows L2 OgR Evl
section
variable {C : Ct} {G H : Hp} {σ : L2.St} {s : Dt}
/-- a new list of numbers, made while a list of the def's own is taken for data -/
def wPeekO (i : Nat) (w : WA) : WA := fun s Q => ∃ ds, s.env[i]? = some (some (.own ds)) ∧ w ⟨s.env.set i (some (.d (.list ds))), s.c⟩ fun rs s1 => (∀ r ∈ rs, ∃ n, r = .int n) ∧ Q rs ⟨s.env, s1.c⟩
def wPick2 (i j l m : Nat) (F : FB) (wc : WT) : WS := fun DD s => wc s fun b s1 => ∃ ds, ((b = true ∧ s1.env[i]? = some (some (.d (.list ds)))) ∨ (b = false ∧ s1.env[j]? = some (some (.own ds)))) ∧ s1.env[l]? = some (some .box) ∧ i < s1.env.length ∧ ∃ fs, s1.env[m]? = some (some (.own fs)) ∧ fs.length < 100000 ∧
  F [.list ds] s1.c.n fun d c' => ∃ n, d = .int n ∧ DD.nx ⟨(s1.env.set i none).set m (some (.own (fs ++ [.int n]))), c', s1.c.o⟩
end
section
variable {X : Cx} {C : Ct} {a b e tg : Expr} {es : List Expr} {pos p : Pos} {t ta tb te : TE} {w wa wb we : WE} {tA : TA} {wA : WA} {x : Str} {st st1 st2 : Stmt} {sts : List Stmt} {v : TS} {w1 w2 wv : WS}
def fRem : List PyData → List PyData → (PyData → List PyData → Prop) → Prop := fun ds as Q => ∃ (ns : List Int) (k : Int), as = [.int k] ∧ ds = ns.map .int ∧ ns.Nodup ∧ k ∈ ns ∧ Q .none ((ns.filter fun y => decide (y ≠ k)).map .int)
def wExt (i : Nat) (w : WA) : WS := fun DD s => (∃ ds0, s.env[i]? = some (some (.own ds0))) ∧ w s fun es s1 => ∃ ds, s1.env[i]? = some (some (.own ds)) ∧ ds.length + es.length < 100000 ∧ DD.nx (s1.set i (.own (ds ++ es)))
end
end Dw
namespace Dw
open PySem PySem.Spec PyProof.Rows L2 OgR Evl
def leA (a b : PyData) : Bool := !PySem.W.dataLt b a
def srtA (ds : List PyData) : List PyData := ds.mergeSort leA
structure SrtOk (ds : List PyData) : Prop where
  al : PySem.W.AllAlike ds
  so : PySem.W.Sortable ds
  dp : ∀ d ∈ ds, d.depth ≤ 60
section
variable {X : Cx} {C : Ct} {a b e : Expr} {pos p : Pos} {t ta tb : TE} {w wa wb : WE}
def gSrtA : PyData → Dt → (List PyData → Dt → Prop) → Prop := fun d s Q => ∃ ds, d = .list ds ∧ SrtOk ds ∧ Q (srtA ds) s
end
theorem lt_irr (a : PyData) : PySem.W.dataLt a a = false := lex_irrefl ..
theorem lt_asy {a b : PyData} (h : PySem.W.dataLt a b = true) : PySem.W.dataLt b a = false := by
  cases e : PySem.W.dataLt b a with
  | false => rfl
  | true =>
    have := lex_trans _ _ _ h e
    rw [lex_irrefl] at this
    cases this
theorem leA_total : PySem.W.TotalLe leA := PySem.W.sortLe_total (listOrd itemOrd) false PySem.W.keyToks
theorem pw_mem {α : Type} {R : α → α → Prop} : ∀ {l : List α}, l.Pairwise R → ∀ a ∈ l, ∀ b ∈ l, a = b ∨ R a b ∨ R b a
  | [], _, a, ha, _, _ => by simp at ha
  | c :: l, h, a, ha, b, hb => by
    rw [List.pairwise_cons] at h
    rcases List.mem_cons.mp ha with rfl | ha
    · rcases List.mem_cons.mp hb with rfl | hb
      · exact .inl rfl
      · exact .inr (.inl (h.1 b hb))
    · rcases List.mem_cons.mp hb with e | hb
      · exact .inr (.inr (by rw [e]; exact h.1 a ha))
      · exact pw_mem h.2 a ha b hb
end Dw
namespace Dw
open PySem PySem.Spec PyProof.Rows L2 OgR Evl
end Dw
namespace OgM
abbrev Seg := Int × Nat
def Ok : Int → List Seg → Prop
  | _, [] => True
  | lo, x :: r => lo < x.1 ∧ Ok (x.1 + x.2 + 1) r
def Mem (p : Int) (g : List Seg) : Prop := ∃ x ∈ g, x.1 ≤ p ∧ p ≤ x.1 + x.2
theorem mem_cons {p : Int} {x : Seg} {g : List Seg} : Mem p (x :: g) ↔ (x.1 ≤ p ∧ p ≤ x.1 + x.2) ∨ Mem p g := by
  simp [Mem]
theorem mem_nil {p : Int} : ¬ Mem p [] := by simp [Mem]
theorem ok_lt : ∀ {g : List Seg} {lo p : Int}, Ok lo g → Mem p g → lo < p
  | [], _, _, _, h => absurd h mem_nil
  | x :: r, lo, p, h, m => by
    rcases mem_cons.mp m with m | m
    · have := h.1; omega
    · have := ok_lt h.2 m; have := h.1; omega
theorem ok_mono : ∀ {g : List Seg} {lo lo' : Int}, lo' ≤ lo → Ok lo g → Ok lo' g
  | [], _, _, _, _ => trivial
  | x :: r, lo, lo', h, k => ⟨by have := k.1; omega, k.2⟩
/-- one more plot -/
def add (p : Int) : List Seg → List Seg
  | [] => [(p, 0)]
  | (s, n) :: r =>
    if p < s - 1 then (p, 0) :: (s, n) :: r
    else if p = s - 1 then (p, n + 1) :: r
    else if p = s + n + 1 then
      match r with
      | [] => [(s, n + 1)]
      | (s', n') :: r' => if s' = p + 1 then (s, n + n' + 2) :: r' else (s, n + 1) :: (s', n') :: r'
    else (s, n) :: add p r
theorem ok_add : ∀ {g : List Seg} {lo p : Int}, Ok lo g → ¬ Mem p g → lo < p → Ok lo (add p g)
  | [], lo, p, _, _, h => ⟨h, trivial⟩
  | (s, n) :: r, lo, p, k, nm, h => by
    have k1 : lo < s := k.1
    have k2 : Ok (s + n + 1) r := k.2
    have nm1 : ¬ (s ≤ p ∧ p ≤ s + n) := fun e => nm (mem_cons.mpr (.inl e))
    have nm2 : ¬ Mem p r := fun e => nm (mem_cons.mpr (.inr e))
    unfold add
    split
    · exact ⟨h, by show p + ((0 : Nat) : Int) + 1 < s; omega, k2⟩
    · split
      · refine ⟨h, ?_⟩
        refine ok_mono ?_ k2
        show p + ((n + 1 : Nat) : Int) + 1 ≤ _
        omega
      · split
        · cases r with
          | nil => exact ⟨k1, trivial⟩
          | cons y r' =>
            obtain ⟨s', n'⟩ := y
            have k3 : s + n + 1 < s' := k2.1
            have k4 : Ok (s' + n' + 1) r' := k2.2
            show Ok lo (if s' = p + 1 then (s, n + n' + 2) :: r' else (s, n + 1) :: (s', n') :: r')
            split
            · refine ⟨k1, ok_mono ?_ k4⟩
              show s + ((n + n' + 2 : Nat) : Int) + 1 ≤ _
              omega
            · refine ⟨k1, ?_, k4⟩
              show s + ((n + 1 : Nat) : Int) + 1 < s'
              omega
        · exact ⟨k1, ok_add k2 nm2 (by show s + (n : Int) + 1 < p; omega)⟩
theorem mem_add : ∀ {g : List Seg} {lo p q : Int}, Ok lo g → (Mem q (add p g) ↔ q = p ∨ Mem q g)
  | [], lo, p, q, _ => by
    show Mem q [(p, 0)] ↔ _
    rw [mem_cons]
    simp only [mem_nil, or_false]
    constructor
    · intro h; have : p ≤ q ∧ q ≤ p + ((0 : Nat) : Int) := h; omega
    · intro h; exact ⟨by show p ≤ q; omega, by show q ≤ p + ((0 : Nat) : Int); omega⟩
  | (s, n) :: r, lo, p, q, k => by
    have k2 : Ok (s + n + 1) r := k.2
    unfold add
    split
    · rw [mem_cons]
      constructor
      · rintro (h | h)
        · have : p ≤ q ∧ q ≤ p + ((0 : Nat) : Int) := h
          exact .inl (by omega)
        · exact .inr h
      · rintro (h | h)
        · exact .inl ⟨by show p ≤ q; omega, by show q ≤ p + ((0 : Nat) : Int); omega⟩
        · exact .inr h
    · split
      · rename_i h1 h2
        rw [mem_cons, mem_cons]
        constructor
        · rintro (h | h)
          · have : p ≤ q ∧ q ≤ p + ((n + 1 : Nat) : Int) := h
            by_cases e : q = p
            · exact .inl e
            · exact .inr (.inl ⟨by show s ≤ q; omega, by show q ≤ s + (n : Int); omega⟩)
          · exact .inr (.inr h)
        · rintro (h | h | h)
          · exact .inl ⟨by show p ≤ q; omega, by show q ≤ p + ((n + 1 : Nat) : Int); omega⟩
          · have : s ≤ q ∧ q ≤ s + (n : Int) := h
            exact .inl ⟨by show p ≤ q; omega, by show q ≤ p + ((n + 1 : Nat) : Int); omega⟩
          · exact .inr h
      · split
        · rename_i h1 h2 h3
          cases r with
          | nil =>
            show Mem q [(s, n + 1)] ↔ _
            rw [mem_cons, mem_cons]
            constructor
            · rintro (h | h)
              · have : s ≤ q ∧ q ≤ s + ((n + 1 : Nat) : Int) := h
                by_cases e : q = p
                · exact .inl e
                · exact .inr (.inl ⟨by show s ≤ q; omega, by show q ≤ s + (n : Int); omega⟩)
              · exact .inr (.inr h)
            · rintro (h | h | h)
              · exact .inl ⟨by show s ≤ q; omega, by show q ≤ s + ((n + 1 : Nat) : Int); omega⟩
              · have : s ≤ q ∧ q ≤ s + (n : Int) := h
                exact .inl ⟨by show s ≤ q; omega, by show q ≤ s + ((n + 1 : Nat) : Int); omega⟩
              · exact .inr h
          | cons y r' =>
            obtain ⟨s', n'⟩ := y
            show Mem q (if s' = p + 1 then (s, n + n' + 2) :: r' else (s, n + 1) :: (s', n') :: r') ↔ _
            split
            · rename_i h4
              rw [mem_cons, mem_cons, mem_cons]
              constructor
              · rintro (h | h)
                · have : s ≤ q ∧ q ≤ s + ((n + n' + 2 : Nat) : Int) := h
                  by_cases e : q = p
                  · exact .inl e
                  · by_cases e2 : q < p
                    · exact .inr (.inl ⟨by show s ≤ q; omega, by show q ≤ s + (n : Int); omega⟩)
                    · exact .inr (.inr (.inl ⟨by show s' ≤ q; omega, by show q ≤ s' + (n' : Int); omega⟩))
                · exact .inr (.inr (.inr h))
              · rintro (h | h | h | h)
                · exact .inl ⟨by show s ≤ q; omega, by show q ≤ s + ((n + n' + 2 : Nat) : Int); omega⟩
                · have : s ≤ q ∧ q ≤ s + (n : Int) := h
                  exact .inl ⟨by show s ≤ q; omega, by show q ≤ s + ((n + n' + 2 : Nat) : Int); omega⟩
                · have : s' ≤ q ∧ q ≤ s' + (n' : Int) := h
                  exact .inl ⟨by show s ≤ q; omega, by show q ≤ s + ((n + n' + 2 : Nat) : Int); omega⟩
                · exact .inr h
            · rw [mem_cons (x := (s, n + 1)), mem_cons (x := (s, n))]
              constructor
              · rintro (h | h)
                · have : s ≤ q ∧ q ≤ s + ((n + 1 : Nat) : Int) := h
                  by_cases e : q = p
                  · exact .inl e
                  · exact .inr (.inl ⟨by show s ≤ q; omega, by show q ≤ s + (n : Int); omega⟩)
                · exact .inr (.inr h)
              · rintro (h | h | h)
                · exact .inl ⟨by show s ≤ q; omega, by show q ≤ s + ((n + 1 : Nat) : Int); omega⟩
                · have : s ≤ q ∧ q ≤ s + (n : Int) := h
                  exact .inl ⟨by show s ≤ q; omega, by show q ≤ s + ((n + 1 : Nat) : Int); omega⟩
                · exact .inr h
        · rw [mem_cons, mem_cons, mem_add k2]
          constructor
          · rintro (h | h | h)
            · exact .inr (.inl h)
            · exact .inl h
            · exact .inr (.inr h)
          · rintro (h | h | h)
            · exact .inr (.inl h)
            · exact .inl h
            · exact .inr (.inr h)
/-- segments are told by their members -/
theorem ok_ext : ∀ {g g' : List Seg} {lo lo' : Int}, Ok lo g → Ok lo' g' → (∀ q, Mem q g ↔ Mem q g') → g = g'
  | [], [], _, _, _, _, _ => rfl
  | [], (s, n) :: r, _, _, _, _, h => absurd ((h s).mpr (mem_cons.mpr (.inl ⟨Int.le_refl _, by show s ≤ s + (n : Int); omega⟩))) mem_nil
  | (s, n) :: r, [], _, _, _, _, h => absurd ((h s).mp (mem_cons.mpr (.inl ⟨Int.le_refl _, by show s ≤ s + (n : Int); omega⟩))) mem_nil
  | (s, n) :: r, (s', n') :: r', lo, lo', k, k', h => by
    have k2 : Ok (s + n + 1) r := k.2
    have k2' : Ok (s' + n' + 1) r' := k'.2
    have in1 : ∀ q, s ≤ q → q ≤ s + n → Mem q ((s', n') :: r') := fun q a b => (h q).mp (mem_cons.mpr (.inl ⟨a, b⟩))
    have in2 : ∀ q, s' ≤ q → q ≤ s' + n' → Mem q ((s, n) :: r) := fun q a b => (h q).mpr (mem_cons.mpr (.inl ⟨a, b⟩))
    have lo1 : ∀ {q}, Mem q ((s', n') :: r') → s' ≤ q := fun {q} m => by
      rcases mem_cons.mp m with m | m
      · exact m.1
      · have := ok_lt k2' m; omega
    have lo2 : ∀ {q}, Mem q ((s, n) :: r) → s ≤ q := fun {q} m => by
      rcases mem_cons.mp m with m | m
      · exact m.1
      · have := ok_lt k2 m; omega
    have es : s = s' := by
      have a := lo1 (in1 s (Int.le_refl _) (by omega))
      have b := lo2 (in2 s' (Int.le_refl _) (by omega))
      omega
    subst es
    have en : n = n' := by
      by_cases e1 : n < n'
      · have m := in2 (s + n + 1) (by omega) (by omega)
        rcases mem_cons.mp m with m | m
        · have := m.2; simp only at this; omega
        · have := ok_lt k2 m; omega
      · by_cases e2 : n' < n
        · have m := in1 (s + n' + 1) (by omega) (by omega)
          rcases mem_cons.mp m with m | m
          · have := m.2; simp only at this; omega
          · have := ok_lt k2' m; omega
        · omega
    subst en
    have er : r = r' := ok_ext k2 k2' fun q => by
      constructor
      · intro m
        have lt := ok_lt k2 m
        rcases mem_cons.mp ((h q).mp (mem_cons.mpr (.inr m))) with a | a
        · have := a.2; simp only at this; omega
        · exact a
      · intro m
        have lt := ok_lt k2' m
        rcases mem_cons.mp ((h q).mpr (mem_cons.mpr (.inr m))) with a | a
        · have := a.2; simp only at this; omega
        · exact a
    rw [er]
/-- the segments of a list of plots -/
def segs : List Int → List Seg := List.foldl (fun g p => add p g) []
theorem segs_snoc (l : List Int) (p : Int) : segs (l ++ [p]) = add p (segs l) := by
  unfold segs
  rw [List.foldl_append]
  rfl
theorem lower : ∀ l : List Int, ∃ lo : Int, ∀ p ∈ l, lo < p
  | [] => ⟨0, fun p h => absurd h (by simp)⟩
  | x :: r => by
    obtain ⟨lo, h⟩ := lower r
    refine ⟨min lo (x - 1), fun p hp => ?_⟩
    rcases List.mem_cons.mp hp with e | hp
    · subst e; omega
    · have := h p hp; omega
theorem snoc_ind {α : Type} {P : List α → Prop} (h0 : P []) (h1 : ∀ l x, P l → P (l ++ [x])) (l : List α) : P l := by
  have h : ∀ l : List α, P l.reverse := fun l => by
    induction l with
    | nil => exact h0
    | cons x r ih =>
      rw [List.reverse_cons]
      exact h1 _ _ ih
  have := h l.reverse
  rwa [List.reverse_reverse] at this
theorem segs_ok : ∀ {l : List Int} {lo : Int}, l.Nodup → (∀ p ∈ l, lo < p) → Ok lo (segs l) ∧ ∀ q, Mem q (segs l) ↔ q ∈ l := by
  intro l
  induction l using snoc_ind with
  | h0 => exact fun _ _ => ⟨trivial, fun q => by simp [segs, Mem]⟩
  | h1 l p ih => 
    intro lo hn hl
    have hn' : l.Nodup ∧ p ∉ l := by
      rw [List.nodup_append] at hn
      exact ⟨hn.1, fun h => hn.2.2 p h p (by simp) rfl⟩
    obtain ⟨a, b⟩ := ih hn'.1 fun q hq => hl q (by simp [hq])
    rw [segs_snoc]
    refine ⟨ok_add a (fun m => hn'.2 ((b p).mp m)) (hl p (by simp)), fun q => ?_⟩
    rw [mem_add a, b q]
    simp [or_comm]
end OgM
namespace OgM
inductive Wd where
  | new | beside | between
  deriving DecidableEq
def Wd.step : Wd → Int
  | .new => 1
  | .beside => 0
  | .between => -1
abbrev Ch := Wd × Nat
def shift : Ch → Ch
  | (.new, k) => (.new, k + 1)
  | (.beside, k) => (.beside, k + 2)
  | (.between, k) => (.between, k + 1)
def pick (p : Int) : List Seg → Ch
  | [] => (.new, 0)
  | (s, n) :: r =>
    if p < s - 1 then (.new, 0)
    else if p = s - 1 then (.beside, 0)
    else if p = s + n + 1 then
      match r with
      | [] => (.beside, 1)
      | (s', _) :: _ => if s' = p + 1 then (.between, 0) else (.beside, 1)
    else shift (pick p r)
theorem shift_word (c : Ch) : (shift c).1 = c.1 := by
  obtain ⟨w, k⟩ := c
  cases w <;> rfl
/-- the four places of a new plot beside the first segment -/
theorem places {P : Prop} {s : Int} {n : Nat} {p : Int} {r : List Seg} (nm : ¬ (s ≤ p ∧ p ≤ s + n)) (h1 : p < s - 1 → P) (h2 : p = s - 1 → P) (h3 : p = s + n + 1 → P) (h4 : s + n + 1 < p → P) : P := by
  by_cases e1 : p < s - 1
  · exact h1 e1
  · by_cases e2 : p = s - 1
    · exact h2 e2
    · by_cases e3 : p = s + n + 1
      · exact h3 e3
      · exact h4 (by omega)
theorem pick_1 {p s : Int} {n : Nat} {r : List Seg} (h : p < s - 1) : pick p ((s, n) :: r) = (.new, 0) ∧ add p ((s, n) :: r) = (p, 0) :: (s, n) :: r := by
  unfold pick add
  rw [if_pos h, if_pos h]
  exact ⟨rfl, rfl⟩
theorem pick_2 {p s : Int} {n : Nat} {r : List Seg} (h : p = s - 1) : pick p ((s, n) :: r) = (.beside, 0) ∧ add p ((s, n) :: r) = (p, n + 1) :: r := by
  unfold pick add
  rw [if_neg (by omega), if_pos h, if_neg (by omega), if_pos h]
  exact ⟨rfl, rfl⟩
theorem pick_30 {p s : Int} {n : Nat} (h : p = s + n + 1) : pick p [(s, n)] = (.beside, 1) ∧ add p [(s, n)] = [(s, n + 1)] := by
  unfold pick add
  rw [if_neg (by omega), if_neg (by omega), if_pos h, if_neg (by omega), if_neg (by omega), if_pos h]
  exact ⟨rfl, rfl⟩
theorem pick_31 {p s s' : Int} {n n' : Nat} {r : List Seg} (h : p = s + n + 1) (h' : s' = p + 1) : pick p ((s, n) :: (s', n') :: r) = (.between, 0) ∧ add p ((s, n) :: (s', n') :: r) = (s, n + n' + 2) :: r := by
  unfold pick add
  rw [if_neg (by omega), if_neg (by omega), if_pos h, if_neg (by omega), if_neg (by omega), if_pos h]
  show (if s' = p + 1 then (Wd.between, 0) else (Wd.beside, 1)) = _ ∧ (if s' = p + 1 then (s, n + n' + 2) :: r else (s, n + 1) :: (s', n') :: r) = _
  rw [if_pos h', if_pos h']
  exact ⟨rfl, rfl⟩
theorem pick_32 {p s s' : Int} {n n' : Nat} {r : List Seg} (h : p = s + n + 1) (h' : s' ≠ p + 1) : pick p ((s, n) :: (s', n') :: r) = (.beside, 1) ∧ add p ((s, n) :: (s', n') :: r) = (s, n + 1) :: (s', n') :: r := by
  unfold pick add
  rw [if_neg (by omega), if_neg (by omega), if_pos h, if_neg (by omega), if_neg (by omega), if_pos h]
  show (if s' = p + 1 then (Wd.between, 0) else (Wd.beside, 1)) = _ ∧ (if s' = p + 1 then (s, n + n' + 2) :: r else (s, n + 1) :: (s', n') :: r) = _
  rw [if_neg h', if_neg h']
  exact ⟨rfl, rfl⟩
theorem pick_4 {p s : Int} {n : Nat} {r : List Seg} (h : s + n + 1 < p) : pick p ((s, n) :: r) = shift (pick p r) ∧ add p ((s, n) :: r) = (s, n) :: add p r := by
  constructor
  · conv => lhs; unfold pick
    rw [if_neg (by omega), if_neg (by omega), if_neg (by omega)]
  · conv => lhs; unfold add
    rw [if_neg (by omega), if_neg (by omega), if_neg (by omega)]
/-- a way through: the six cases at the first segment -/
theorem way {C : List Seg → Prop} {p : Int} (h0 : C []) (h1 : ∀ (s : Int) (n : Nat) (r : List Seg), p < s - 1 → Ok (s + n + 1) r → C ((s, n) :: r)) (h2 : ∀ (s : Int) (n : Nat) (r : List Seg), p = s - 1 → Ok (s + n + 1) r → C ((s, n) :: r))
    (h30 : ∀ (s : Int) (n : Nat), p = s + n + 1 → C [(s, n)]) (h31 : ∀ (s : Int) (n : Nat) (s' : Int) (n' : Nat) (r : List Seg), p = s + n + 1 → s' = p + 1 → Ok (s' + n' + 1) r → C ((s, n) :: (s', n') :: r))
    (h32 : ∀ (s : Int) (n : Nat) (s' : Int) (n' : Nat) (r : List Seg), p = s + n + 1 → p + 1 < s' → Ok (s' + n' + 1) r → C ((s, n) :: (s', n') :: r))
    (h4 : ∀ (s : Int) (n : Nat) (r : List Seg), s + n + 1 < p → Ok (s + n + 1) r → ¬ Mem p r → C r → C ((s, n) :: r)) : ∀ {g : List Seg} {lo : Int}, Ok lo g → ¬ Mem p g → C g
  | [], _, _, _ => h0
  | (s, n) :: r, lo, k, nm => by
    have k2 : Ok (s + n + 1) r := k.2
    have nm1 : ¬ (s ≤ p ∧ p ≤ s + n) := fun e => nm (mem_cons.mpr (.inl e))
    have nm2 : ¬ Mem p r := fun e => nm (mem_cons.mpr (.inr e))
    refine places (r := r) nm1 (fun e => h1 s n r e k2) (fun e => h2 s n r e k2) (fun e => ?_) (fun e => h4 s n r e k2 nm2 (way h0 h1 h2 h30 h31 h32 h4 k2 nm2))
    cases r with
    | nil => exact h30 s n e
    | cons y r' =>
      obtain ⟨s', n'⟩ := y
      have k3 : s + n + 1 < s' := k2.1
      by_cases e' : s' = p + 1
      · exact h31 s n s' n' r' e e' k2.2
      · exact h32 s n s' n' r' e (by omega) k2.2
def left (p : Int) (g : List Seg) : Nat := (g.filter fun x => decide (x.1 + x.2 < p)).length
theorem left_0 : ∀ {g : List Seg} {lo p : Int}, Ok lo g → p ≤ lo + 1 → left p g = 0
  | [], _, _, _, _ => rfl
  | (s, n) :: r, lo, p, k, h => by
    have k1 : lo < s := k.1
    have k2 : Ok (s + n + 1) r := k.2
    unfold left
    rw [List.filter_cons, if_neg (by simp; omega)]
    exact left_0 k2 (by omega)
theorem left_yes {p s : Int} {n : Nat} {r : List Seg} (h : s + n < p) : left p ((s, n) :: r) = left p r + 1 := by
  unfold left
  rw [List.filter_cons, if_pos (by simp; omega)]
  rfl
theorem left_no {p s : Int} {n : Nat} {r : List Seg} (h : ¬ s + n < p) : left p ((s, n) :: r) = left p r := by
  unfold left
  rw [List.filter_cons, if_neg (by simp; omega)]
theorem nmem {g : List Seg} {lo p : Int} (k : Ok lo g) (h : p ≤ lo) : ¬ Mem p g := fun m => by
  have := ok_lt k m
  omega
/-- what a choice says -/
structure Says (p : Int) (g : List Seg) (c : Ch) : Prop where
  new : c.1 = .new ↔ ¬ Mem (p - 1) g ∧ ¬ Mem (p + 1) g
  btw : c.1 = .between ↔ Mem (p - 1) g ∧ Mem (p + 1) g
  n1 : c.1 = .new → c.2 = left p g ∧ c.2 ≤ g.length
  n2 : c.1 = .between → c.2 + 1 = left p g ∧ c.2 + 1 < g.length
  n3 : c.1 = .beside → Mem (p - 1) g → c.2 + 1 = 2 * left p g ∧ c.2 < 2 * g.length
  n4 : c.1 = .beside → ¬ Mem (p - 1) g → c.2 = 2 * left p g ∧ c.2 < 2 * g.length
  len : ((add p g).length : Int) = g.length + c.1.step
theorem says {g : List Seg} {lo p : Int} (k : Ok lo g) (nm : ¬ Mem p g) : Says p g (pick p g) := by
  refine way (C := fun g => Says p g (pick p g)) ?_ ?_ ?_ ?_ ?_ ?_ ?_ k nm
  · refine ⟨?_, ?_, ?_, ?_, ?_, ?_, rfl⟩
    · simp [pick, mem_nil]
    · simp [pick, mem_nil]
    · simp [pick, left]
    · simp [pick]
    · simp [pick]
    · simp [pick]
  · intro s n r h kr
    rw [(pick_1 h).1]
    have a1 : ¬ Mem (p - 1) ((s, n) :: r) := fun m => by
      rcases mem_cons.mp m with m | m
      · have := m.1; simp only at this; omega
      · have := ok_lt kr m; omega
    have a2 : ¬ Mem (p + 1) ((s, n) :: r) := fun m => by
      rcases mem_cons.mp m with m | m
      · have := m.1; simp only at this; omega
      · have := ok_lt kr m; omega
    refine ⟨by simp [a1, a2], by simp [a1], fun _ => ⟨?_, Nat.zero_le _⟩, by simp, by simp, by simp, ?_⟩
    · rw [left_no (by omega), left_0 kr (by omega)]
    · rw [(pick_1 h).2]
      simp [Wd.step]
  · intro s n r h kr
    rw [(pick_2 h).1]
    have a1 : ¬ Mem (p - 1) ((s, n) :: r) := fun m => by
      rcases mem_cons.mp m with m | m
      · have := m.1; simp only at this; omega
      · have := ok_lt kr m; omega
    have a2 : Mem (p + 1) ((s, n) :: r) := mem_cons.mpr (.inl ⟨by show s ≤ p + 1; omega, by show p + 1 ≤ s + (n : Int); omega⟩)
    refine ⟨by simp [a2], by simp [a1], by simp, by simp, fun _ m => absurd m a1, fun _ _ => ⟨?_, by simp⟩, ?_⟩
    · rw [left_no (by omega), left_0 kr (by omega)]
    · rw [(pick_2 h).2]
      simp [Wd.step]
  · intro s n h
    rw [(pick_30 h).1]
    have a1 : Mem (p - 1) [(s, n)] := mem_cons.mpr (.inl ⟨by show s ≤ p - 1; omega, by show p - 1 ≤ s + (n : Int); omega⟩)
    have a2 : ¬ Mem (p + 1) [(s, n)] := fun m => by
      rcases mem_cons.mp m with m | m
      · have := m.2; simp only at this; omega
      · exact mem_nil m
    refine ⟨by simp [a1], by simp [a2], by simp, by simp, fun _ _ => ⟨?_, by simp⟩, fun _ m => absurd a1 m, ?_⟩
    · rw [left_yes (by omega)]
      rfl
    · rw [(pick_30 h).2]
      simp [Wd.step]
  · intro s n s' n' r h h' kr
    rw [(pick_31 h h').1]
    have a1 : Mem (p - 1) ((s, n) :: (s', n') :: r) := mem_cons.mpr (.inl ⟨by show s ≤ p - 1; omega, by show p - 1 ≤ s + (n : Int); omega⟩)
    have a2 : Mem (p + 1) ((s, n) :: (s', n') :: r) := mem_cons.mpr (.inr (mem_cons.mpr (.inl ⟨by show s' ≤ p + 1; omega, by show p + 1 ≤ s' + (n' : Int); omega⟩)))
    refine ⟨by simp [a1], by simp [a1, a2], by simp, fun _ => ⟨?_, by simp⟩, by simp, by simp, ?_⟩
    · rw [left_yes (by omega), left_no (by omega), left_0 kr (by omega)]
    · rw [(pick_31 h h').2]
      simp [Wd.step]
      omega
  · intro s n s' n' r h h' kr
    rw [(pick_32 h (by omega)).1]
    have a1 : Mem (p - 1) ((s, n) :: (s', n') :: r) := mem_cons.mpr (.inl ⟨by show s ≤ p - 1; omega, by show p - 1 ≤ s + (n : Int); omega⟩)
    have a2 : ¬ Mem (p + 1) ((s, n) :: (s', n') :: r) := fun m => by
      rcases mem_cons.mp m with m | m
      · have := m.2; simp only at this; omega
      · rcases mem_cons.mp m with m | m
        · have := m.1; simp only at this; omega
        · have := ok_lt kr m; omega
    refine ⟨by simp [a1], by simp [a2], by simp, by simp, fun _ _ => ⟨?_, by simp; omega⟩, fun _ m => absurd a1 m, ?_⟩
    · rw [left_yes (by omega), left_no (by omega), left_0 kr (by omega)]
    · rw [(pick_32 h (by omega)).2]
      simp [Wd.step]
  · intro s n r h kr nmr ih
    rw [(pick_4 h).1]
    have b1 : Mem (p - 1) ((s, n) :: r) ↔ Mem (p - 1) r := by
      rw [mem_cons]
      exact ⟨fun m => m.elim (fun m => by have := m.2; simp only at this; omega) id, .inr⟩
    have b2 : Mem (p + 1) ((s, n) :: r) ↔ Mem (p + 1) r := by
      rw [mem_cons]
      exact ⟨fun m => m.elim (fun m => by have := m.2; simp only at this; omega) id, .inr⟩
    have bl : left p ((s, n) :: r) = left p r + 1 := left_yes (by omega)
    have ad := (pick_4 (r := r) h).2
    have hl := ih.len
    generalize hc : pick p r = c at ih
    obtain ⟨w, m⟩ := c
    have e1 := ih.new
    have e2 := ih.btw
    have e3 := ih.n1
    have e4 := ih.n2
    have e5 := ih.n3
    have e6 := ih.n4
    have e7 := ih.len
    have hlen : ((add p ((s, n) :: r)).length : Int) = ((s, n) :: r).length + w.step := by
      rw [ad, List.length_cons, List.length_cons]
      have : ((add p r).length : Int) = r.length + w.step := e7
      omega
    have hw : (shift (w, m)).1 = w := shift_word _
    refine ⟨?_, ?_, ?_, ?_, ?_, ?_, ?_⟩
    · rw [hw, b1, b2]; exact e1
    · rw [hw, b1, b2]; exact e2
    · intro e
      rw [hw] at e
      subst e
      obtain ⟨f1, f2⟩ := e3 rfl
      rw [bl, List.length_cons]
      exact ⟨by show m + 1 = _; simp only at f1; omega, by show m + 1 ≤ _; simp only at f2; omega⟩
    · intro e
      rw [hw] at e
      subst e
      obtain ⟨f1, f2⟩ := e4 rfl
      rw [bl, List.length_cons]
      exact ⟨by show m + 1 + 1 = _; simp only at f1; omega, by show m + 1 + 1 < _; simp only at f2; omega⟩
    · intro e z
      rw [hw] at e
      subst e
      obtain ⟨f1, f2⟩ := e5 rfl (b1.mp z)
      rw [bl, List.length_cons]
      exact ⟨by show m + 2 + 1 = _; simp only at f1; omega, by show m + 2 < _; simp only at f2; omega⟩
    · intro e z
      rw [hw] at e
      subst e
      obtain ⟨f1, f2⟩ := e6 rfl (fun q => z (b1.mpr q))
      rw [bl, List.length_cons]
      exact ⟨by show m + 2 = _; simp only at f1; omega, by show m + 2 < _; simp only at f2; omega⟩
    · rw [hw]; exact hlen
end OgM
namespace OgM
def sgi (x : Seg) : List Int := (List.range (x.2 + 1)).map fun (i : Nat) => x.1 + (i : Int)
theorem sgi_snoc (s : Int) (n : Nat) : sgi (s, n) ++ [s + n + 1] = sgi (s, n + 1) := by
  unfold sgi
  show _ = (List.range (n + 1 + 1)).map _
  rw [List.range_succ (n := n + 1), List.map_append]
  simp
  omega
theorem sgi_cons (s : Int) (n : Nat) : s :: sgi (s + 1, n) = sgi (s, n + 1) := by
  unfold sgi
  show _ = (List.range (n + 1 + 1)).map _
  rw [List.range_succ_eq_map (n := n + 1), List.map_cons, List.map_map]
  congr 1
  · simp
  · refine List.map_congr_left fun a _ => ?_
    show s + 1 + (a : Int) = s + ((a + 1 : Nat) : Int)
    omega
theorem sgi_join (s : Int) (n n' : Nat) : sgi (s, n) ++ [s + n + 1] ++ sgi (s + n + 2, n') = sgi (s, n + n' + 2) := by
  induction n' with
  | zero =>
    rw [sgi_snoc]
    have : sgi (s + n + 2, 0) = [s + ((n + 1 : Nat) : Int) + 1] := by
      unfold sgi
      simp
      omega
    rw [this, sgi_snoc]
  | succ k ih =>
    rw [← sgi_snoc, ← List.append_assoc, ih]
    have : s + n + 2 + k + 1 = s + ((n + k + 2 : Nat) : Int) + 1 := by omega
    rw [this, sgi_snoc]
    rfl
theorem sgi_len (x : Seg) : (sgi x).length = x.2 + 1 := by simp [sgi]
theorem sgi_head (x : Seg) : (sgi x).head? = some x.1 := by
  unfold sgi
  rw [List.range_succ_eq_map, List.map_cons]
  simp
def applyC (t : Nat) (c : Ch) (st : List (List Nat)) : List (List Nat) :=
  match c.1 with
  | .new => st.take c.2 ++ [[t]] ++ st.drop c.2
  | .between => st.take c.2 ++ [(st.getD c.2 []) ++ [t] ++ (st.getD (c.2 + 1) [])] ++ st.drop (c.2 + 2)
  | .beside => if c.2 % 2 = 0 then st.set (c.2 / 2) (t :: st.getD (c.2 / 2) []) else st.set (c.2 / 2) (st.getD (c.2 / 2) [] ++ [t])
theorem applyC_shift (t : Nat) (c : Ch) (a : List Nat) (st : List (List Nat)) : applyC t (shift c) (a :: st) = a :: applyC t c st := by
  obtain ⟨w, k⟩ := c
  cases w with
  | new => simp [applyC, shift]
  | between =>
    show (a :: st).take (k + 1) ++ [((a :: st).getD (k + 1) []) ++ [t] ++ ((a :: st).getD (k + 1 + 1) [])] ++ (a :: st).drop (k + 1 + 2) = _
    simp [applyC]
  | beside =>
    show (if (k + 2) % 2 = 0 then (a :: st).set ((k + 2) / 2) (t :: (a :: st).getD ((k + 2) / 2) []) else (a :: st).set ((k + 2) / 2) ((a :: st).getD ((k + 2) / 2) [] ++ [t])) = a :: (if k % 2 = 0 then st.set (k / 2) (t :: st.getD (k / 2) []) else st.set (k / 2) (st.getD (k / 2) [] ++ [t]))
    have e1 : (k + 2) / 2 = k / 2 + 1 := by omega
    have e2 : (k + 2) % 2 = k % 2 := by omega
    rw [e1, e2]
    split <;> simp
/-- st are the times of the segments g, told by f -/
def Told (f : Nat → Int) (st : List (List Nat)) (g : List Seg) : Prop := st.map (·.map f) = g.map sgi
theorem told_cons {f : Nat → Int} {st : List (List Nat)} {x : Seg} {g : List Seg} (h : Told f st (x :: g)) : ∃ a st', st = a :: st' ∧ a.map f = sgi x ∧ Told f st' g := by
  cases st with
  | nil => exact absurd h (by simp [Told])
  | cons a st' =>
    have q : a.map f :: st'.map (·.map f) = sgi x :: g.map sgi := h
    injection q with q1 q2
    exact ⟨a, st', rfl, q1, q2⟩
theorem told_add {f : Nat → Int} {t : Nat} {p : Int} (ft : f t = p) {g : List Seg} {lo : Int} (k : Ok lo g) (nm : ¬ Mem p g) :
    ∀ st, Told f st g → Told f (applyC t (pick p g) st) (add p g) ∧ ∀ x, x ∈ (applyC t (pick p g) st).flatten ↔ x = t ∨ x ∈ st.flatten := by
  refine way (C := fun g => ∀ st, Told f st g → Told f (applyC t (pick p g) st) (add p g) ∧ ∀ x, x ∈ (applyC t (pick p g) st).flatten ↔ x = t ∨ x ∈ st.flatten) ?_ ?_ ?_ ?_ ?_ ?_ ?_ k nm
  · intro st h
    have e : st = [] := by simpa [Told] using h
    subst e
    refine ⟨?_, fun x => by simp [applyC, pick]⟩
    simp [Told, applyC, pick, add, sgi, ft]
  · intro s n r h kr st ht
    rw [(pick_1 h).1, (pick_1 h).2]
    refine ⟨?_, fun x => by simp [applyC]⟩
    show ([[t]] ++ st).map (·.map f) = _
    rw [List.map_append, ht]
    simp [sgi, ft]
  · intro s n r h kr st ht
    rw [(pick_2 h).1, (pick_2 h).2]
    obtain ⟨a, st', rfl, ha, ht'⟩ := told_cons ht
    refine ⟨?_, fun x => by simp [applyC, or_assoc]⟩
    show (t :: a).map f :: st'.map (·.map f) = sgi (p, n + 1) :: r.map sgi
    rw [ht', List.map_cons, ha, ft, ← sgi_cons]
    have : p + 1 = s := by omega
    rw [this]
  · intro s n h st ht
    rw [(pick_30 h).1, (pick_30 h).2]
    obtain ⟨a, st', rfl, ha, ht'⟩ := told_cons ht
    refine ⟨?_, fun x => by simp [applyC, or_assoc, or_left_comm]⟩
    show (a ++ [t]).map f :: st'.map (·.map f) = sgi (s, n + 1) :: [].map sgi
    rw [ht', List.map_append, ha, ← sgi_snoc]
    simp [ft, h]
  · intro s n s' n' r h h' kr st ht
    rw [(pick_31 h h').1, (pick_31 h h').2]
    obtain ⟨a, st', rfl, ha, ht'⟩ := told_cons ht
    obtain ⟨b, st'', rfl, hb, ht''⟩ := told_cons ht'
    refine ⟨?_, fun x => by simp [applyC, or_assoc, or_left_comm]⟩
    show (a ++ [t] ++ b).map f :: st''.map (·.map f) = sgi (s, n + n' + 2) :: r.map sgi
    rw [ht'', List.map_append, List.map_append, ha, hb, ← sgi_join]
    have : s' = s + n + 2 := by omega
    simp [ft, h, this]
  · intro s n s' n' r h h' kr st ht
    rw [(pick_32 h (by omega)).1, (pick_32 h (by omega)).2]
    obtain ⟨a, st', rfl, ha, ht'⟩ := told_cons ht
    refine ⟨?_, fun x => by simp [applyC, or_assoc, or_left_comm]⟩
    show (a ++ [t]).map f :: st'.map (·.map f) = sgi (s, n + 1) :: ((s', n') :: r).map sgi
    rw [ht', List.map_append, ha, ← sgi_snoc]
    simp [ft, h]
  · intro s n r h kr nmr ih st ht
    rw [(pick_4 h).1, (pick_4 h).2]
    obtain ⟨a, st', rfl, ha, ht'⟩ := told_cons ht
    obtain ⟨i1, i2⟩ := ih st' ht'
    rw [applyC_shift]
    refine ⟨?_, fun x => ?_⟩
    · show a.map f :: (applyC t (pick p r) st').map (·.map f) = sgi (s, n) :: (add p r).map sgi
      rw [ha, i1]
    · rw [List.flatten_cons, List.flatten_cons, List.mem_append, List.mem_append, i2 x, or_left_comm]
end OgM
namespace OgM
theorem add_len : ∀ (p : Int) (g : List Seg), (add p g).length ≤ g.length + 1
  | p, [] => by simp [add]
  | p, (s, n) :: r => by
    unfold add
    split
    · simp
    · split
      · simp
      · split
        · cases r with
          | nil => simp
          | cons y r' =>
            obtain ⟨s', n'⟩ := y
            show (if s' = p + 1 then (s, n + n' + 2) :: r' else (s, n + 1) :: (s', n') :: r').length ≤ _
            split <;> simp <;> omega
        · have := add_len p r
          simp
          omega
theorem segs_len (l : List Int) : (segs l).length ≤ l.length := by
  induction l using snoc_ind with
  | h0 => simp [segs]
  | h1 l p ih =>
    rw [segs_snoc, List.length_append]
    have := add_len p (segs l)
    simp
    omega
def size : List Seg → Nat
  | [] => 0
  | x :: r => x.2 + 1 + size r
def picks (row : List Int) : List Ch := (List.range row.length).map fun i => pick (row.getD i 0) (segs (row.take i))
theorem picks_len (row : List Int) : (picks row).length = row.length := by simp [picks]
structure Row (n : Int) (row : List Int) : Prop where
  nd : row.Nodup
  lo : ∀ p ∈ row, 0 ≤ p
  hi : ∀ p ∈ row, p < n
theorem Row.take {n : Int} {row : List Int} (h : Row n row) (i : Nat) : Row n (row.take i) :=
  ⟨h.nd.sublist (List.take_sublist _ _), fun p q => h.lo p (List.mem_of_mem_take q), fun p q => h.hi p (List.mem_of_mem_take q)⟩
theorem Row.ok {n : Int} {row : List Int} (h : Row n row) : Ok (-1) (segs row) ∧ ∀ q, Mem q (segs row) ↔ q ∈ row :=
  segs_ok h.nd fun p hp => by have := h.lo p hp; omega
theorem Row.fresh {n : Int} {row : List Int} (h : Row n row) {i : Nat} {p : Int} (e : row[i]? = some p) : p ∉ row.take i := by
  intro m
  obtain ⟨j, hj⟩ := List.getElem?_of_mem m
  rw [List.getElem?_take] at hj
  split at hj
  · rename_i lt
    obtain ⟨a, ea⟩ := List.getElem?_eq_some_iff.mp e
    obtain ⟨b, eb⟩ := List.getElem?_eq_some_iff.mp hj
    have := (List.getElem_inj h.nd).mp (eb.trans ea.symm)
    omega
  · cases hj
theorem take_snoc {row : List Int} {i : Nat} {p : Int} (e : row[i]? = some p) : row.take (i + 1) = row.take i ++ [p] := by
  rw [List.take_add_one, e]
  rfl
theorem Row.says {n : Int} {row : List Int} (h : Row n row) {i : Nat} {p : Int} (e : row[i]? = some p) : Says p (segs (row.take i)) (pick p (segs (row.take i))) :=
  OgM.says (h.take i).ok.1 fun m => h.fresh e (((h.take i).ok.2 p).mp m)
theorem Row.segs {n : Int} {row : List Int} (h : Row n row) {i : Nat} {p : Int} (e : row[i]? = some p) : segs (row.take (i + 1)) = add p (segs (row.take i)) := by
  rw [take_snoc e, segs_snoc]
theorem picks_get {row : List Int} {i : Nat} {p : Int} (e : row[i]? = some p) : (picks row)[i]? = some (pick p (segs (row.take i))) := by
  have hi := (List.getElem?_eq_some_iff.mp e).1
  unfold picks
  rw [List.getElem?_map, List.getElem?_range hi]
  show some (pick (row.getD i 0) _) = some _
  rw [List.getD_eq_getElem?_getD, e]
  rfl
end OgM
namespace OgM
theorem filter_ne_len {l : List Int} (h : l.Nodup) {z : Int} (m : z ∈ l) : (l.filter (· != z)).length + 1 = l.length := by
  rw [← h.erase_eq_filter, List.length_erase_of_mem m]
  have := List.length_pos_of_mem m
  omega
def Wd.ix : Wd → Nat
  | .new => 0
  | .beside => 1
  | .between => 2
def b1 (c : Bool) : Nat := if c then 1 else 0
theorem nb_pick {l : List Int} (hn : l.Nodup) {p : Int} (hp : p ∉ l) : b1 (decide (p - 1 ∈ l)) + b1 (decide (p + 1 ∈ l)) = (pick p (segs l)).1.ix := by
  obtain ⟨lo, hl⟩ := lower l
  obtain ⟨k, km⟩ := segs_ok hn hl
  have S := says k (p := p) fun m => hp ((km p).mp m)
  have e1 := S.new
  have e2 := S.btw
  rw [km, km] at e1 e2
  by_cases a : p - 1 ∈ l <;> by_cases b : p + 1 ∈ l
  · rw [e2.mpr ⟨a, b⟩, decide_eq_true a, decide_eq_true b]
    rfl
  · have : (pick p (segs l)).1 = .beside := by
      cases h : (pick p (segs l)).1 with
      | new => exact absurd a (e1.mp h).1
      | beside => rfl
      | between => exact absurd (e2.mp h).2 b
    rw [this, decide_eq_true a, decide_eq_false b]
    rfl
  · have : (pick p (segs l)).1 = .beside := by
      cases h : (pick p (segs l)).1 with
      | new => exact absurd b (e1.mp h).2
      | beside => rfl
      | between => exact absurd (e2.mp h).1 a
    rw [this, decide_eq_false a, decide_eq_true b]
    rfl
  · rw [e1.mpr ⟨a, b⟩, decide_eq_false a, decide_eq_false b]
    rfl
end OgM
namespace OgM
def Valid (c : Ch) (n : Nat) : Prop :=
  match c.1 with
  | .new => c.2 ≤ n
  | .beside => c.2 < 2 * n
  | .between => c.2 + 1 < n
def stAt (cs : List Ch) : Nat → List (List Nat)
  | 0 => []
  | i + 1 => applyC i (cs.getD i (.new, 0)) (stAt cs i)
def VCh (cs : List Ch) : Prop := ∀ i c, cs[i]? = some c → Valid c (stAt cs i).length
theorem flat_cut (st : List (List Nat)) (k : Nat) : (st.take k).flatten.length + (st.drop k).flatten.length = st.flatten.length := by
  rw [← List.length_append, ← List.flatten_append, List.take_append_drop]
theorem getD_at {α : Type} {l : List α} {j : Nat} {x d : α} (h : l[j]? = some x) : l.getD j d = x := by
  rw [List.getD_eq_getElem?_getD, h]
  rfl
theorem drop_at {α : Type} {l : List α} {j : Nat} {x : α} (h : l[j]? = some x) : l.drop j = x :: l.drop (j + 1) := by
  obtain ⟨a, e⟩ := List.getElem?_eq_some_iff.mp h
  rw [← e]
  exact List.drop_eq_getElem_cons a
theorem apply_size {c : Ch} {st : List (List Nat)} (t : Nat) (h : Valid c st.length) : (applyC t c st).flatten.length = st.flatten.length + 1 ∧ ((applyC t c st).length : Int) = st.length + c.1.step := by
  obtain ⟨w, k⟩ := c
  cases w with
  | new =>
    have h' : k ≤ st.length := h
    have e := flat_cut st k
    constructor
    · show (st.take k ++ [[t]] ++ st.drop k).flatten.length = _
      simp only [List.flatten_append, List.length_append, List.flatten_cons, List.flatten_nil, List.length_cons, List.length_nil]
      omega
    · show ((st.take k ++ [[t]] ++ st.drop k).length : Int) = st.length + 1
      simp only [List.length_append, List.length_take, List.length_drop, List.length_cons, List.length_nil]
      omega
  | between =>
    have h' : k + 1 < st.length := h
    have e := flat_cut st k
    have a1 : st[k]? = some (st[k]'(by omega)) := List.getElem?_eq_getElem _
    have a2 : st[k + 1]? = some (st[k + 1]'h') := List.getElem?_eq_getElem _
    rw [drop_at a1, drop_at a2, show k + 1 + 1 = k + 2 from rfl] at e
    simp only [List.flatten_cons, List.length_append] at e
    constructor
    · show (st.take k ++ [(st.getD k []) ++ [t] ++ (st.getD (k + 1) [])] ++ st.drop (k + 2)).flatten.length = _
      rw [getD_at a1, getD_at a2]
      simp only [List.flatten_append, List.length_append, List.flatten_cons, List.flatten_nil, List.length_cons, List.length_nil]
      omega
    · show ((st.take k ++ [(st.getD k []) ++ [t] ++ (st.getD (k + 1) [])] ++ st.drop (k + 2)).length : Int) = st.length + -1
      simp only [List.length_append, List.length_take, List.length_drop, List.length_cons, List.length_nil]
      omega
  | beside =>
    have h' : k < 2 * st.length := h
    have hj : k / 2 < st.length := by omega
    have e := flat_cut st (k / 2)
    have a1 : st[k / 2]? = some (st[k / 2]'hj) := List.getElem?_eq_getElem _
    rw [drop_at a1] at e
    simp only [List.flatten_cons, List.length_append] at e
    show (if k % 2 = 0 then st.set (k / 2) (t :: st.getD (k / 2) []) else st.set (k / 2) (st.getD (k / 2) [] ++ [t])).flatten.length = _ ∧ ((if k % 2 = 0 then st.set (k / 2) (t :: st.getD (k / 2) []) else st.set (k / 2) (st.getD (k / 2) [] ++ [t])).length : Int) = st.length + 0
    rw [getD_at a1]
    split
    · rw [List.length_set, List.set_eq_take_append_cons_drop, if_pos hj]
      simp only [List.flatten_append, List.length_append, List.flatten_cons, List.length_cons]
      omega
    · rw [List.length_set, List.set_eq_take_append_cons_drop, if_pos hj]
      simp only [List.flatten_append, List.length_append, List.flatten_cons, List.length_cons, List.length_nil]
      omega
/-- a row's choices are valid, and their groups are its segments -/
theorem picks_told {n : Int} {row : List Int} (h : Row n row) : ∀ i, i ≤ row.length → Told (fun t => row.getD t 0) (stAt (picks row) i) (OgM.segs (row.take i)) ∧ ∀ x, x ∈ (stAt (picks row) i).flatten ↔ x < i
  | 0, _ => ⟨by simp [Told, stAt, OgM.segs], fun x => by simp [stAt]⟩
  | i + 1, hi => by
    obtain ⟨h1, h2⟩ := picks_told h i (by omega)
    have e : row[i]? = some (row[i]'hi) := List.getElem?_eq_getElem _
    have q := told_add (f := fun t => row.getD t 0) (t := i) (p := row[i]'hi) (getD_at e) (h.take i).ok.1 (fun m => h.fresh e (((h.take i).ok.2 _).mp m)) _ h1
    show Told _ (applyC i ((picks row).getD i (.new, 0)) (stAt (picks row) i)) _ ∧ ∀ x, x ∈ (applyC i ((picks row).getD i (.new, 0)) (stAt (picks row) i)).flatten ↔ x < i + 1
    rw [getD_at (picks_get e), h.segs e]
    refine ⟨q.1, fun x => ?_⟩
    rw [q.2 x, h2 x]
    omega
theorem picks_valid {n : Int} {row : List Int} (h : Row n row) : VCh (picks row) := by
  intro i c e
  have hi := (List.getElem?_eq_some_iff.mp e).1
  rw [picks_len] at hi
  have er : row[i]? = some (row[i]'hi) := List.getElem?_eq_getElem _
  rw [picks_get er] at e
  have ec := Option.some.inj e
  obtain ⟨h1, _⟩ := picks_told h i (by omega)
  have hl : (stAt (picks row) i).length = (OgM.segs (row.take i)).length := by
    have := congrArg List.length h1
    simpa using this
  rw [hl]
  have S := h.says er
  rw [ec] at S
  obtain ⟨w, k⟩ := c
  cases w with
  | new => exact (S.n1 rfl).2
  | between => exact (S.n2 rfl).2
  | beside =>
    by_cases m : Mem (row[i]'hi - 1) (OgM.segs (row.take i))
    · exact (S.n3 rfl m).2
    · exact (S.n4 rfl m).2
theorem apply_mem {c : Ch} {st : List (List Nat)} (t : Nat) (h : Valid c st.length) (x : Nat) : x ∈ (applyC t c st).flatten ↔ x = t ∨ x ∈ st.flatten := by
  have cut : ∀ k, x ∈ st.flatten ↔ x ∈ (st.take k).flatten ∨ x ∈ (st.drop k).flatten := fun k => by
    rw [← List.mem_append, ← List.flatten_append, List.take_append_drop]
  obtain ⟨w, k⟩ := c
  cases w with
  | new =>
    show x ∈ (st.take k ++ [[t]] ++ st.drop k).flatten ↔ _
    rw [cut k]
    simp only [List.flatten_append, List.mem_append, List.flatten_cons, List.flatten_nil, List.mem_singleton, List.append_nil]
    constructor
    · rintro ((a | a) | a)
      · exact .inr (.inl a)
      · exact .inl a
      · exact .inr (.inr a)
    · rintro (a | a | a)
      · exact .inl (.inr a)
      · exact .inl (.inl a)
      · exact .inr a
  | between =>
    have h' : k + 1 < st.length := h
    have a1 : st[k]? = some (st[k]'(by omega)) := List.getElem?_eq_getElem _
    have a2 : st[k + 1]? = some (st[k + 1]'h') := List.getElem?_eq_getElem _
    show x ∈ (st.take k ++ [(st.getD k []) ++ [t] ++ (st.getD (k + 1) [])] ++ st.drop (k + 2)).flatten ↔ _
    rw [cut k, drop_at a1, drop_at a2, show k + 1 + 1 = k + 2 from rfl, getD_at a1, getD_at a2]
    simp only [List.flatten_append, List.mem_append, List.flatten_cons, List.flatten_nil, List.mem_singleton, List.append_nil]
    constructor
    · rintro ((a | ((a | a) | a)) | a)
      · exact .inr (.inl a)
      · exact .inr (.inr (.inl a))
      · exact .inl a
      · exact .inr (.inr (.inr (.inl a)))
      · exact .inr (.inr (.inr (.inr a)))
    · rintro (a | a | a | a | a)
      · exact .inl (.inr (.inl (.inr a)))
      · exact .inl (.inl a)
      · exact .inl (.inr (.inl (.inl a)))
      · exact .inl (.inr (.inr a))
      · exact .inr a
  | beside =>
    have h' : k < 2 * st.length := h
    have hj : k / 2 < st.length := by omega
    have a1 : st[k / 2]? = some (st[k / 2]'hj) := List.getElem?_eq_getElem _
    show x ∈ (if k % 2 = 0 then st.set (k / 2) (t :: st.getD (k / 2) []) else st.set (k / 2) (st.getD (k / 2) [] ++ [t])).flatten ↔ _
    rw [cut (k / 2), drop_at a1, getD_at a1]
    split
    · rw [List.set_eq_take_append_cons_drop, if_pos hj]
      simp only [List.flatten_append, List.mem_append, List.flatten_cons, List.mem_cons]
      constructor
      · rintro (a | (a | a) | a)
        · exact .inr (.inl a)
        · exact .inl a
        · exact .inr (.inr (.inl a))
        · exact .inr (.inr (.inr a))
      · rintro (a | a | a | a)
        · exact .inr (.inl (.inl a))
        · exact .inl a
        · exact .inr (.inl (.inr a))
        · exact .inr (.inr a)
    · rw [List.set_eq_take_append_cons_drop, if_pos hj]
      simp only [List.flatten_append, List.mem_append, List.flatten_cons, List.mem_singleton]
      constructor
      · rintro (a | (a | a) | a)
        · exact .inr (.inl a)
        · exact .inr (.inr (.inl a))
        · exact .inl a
        · exact .inr (.inr (.inr a))
      · rintro (a | a | a | a)
        · exact .inr (.inl (.inr a))
        · exact .inl a
        · exact .inr (.inl (.inl a))
        · exact .inr (.inr a)
theorem st_mem {cs : List Ch} (v : VCh cs) : ∀ i, i ≤ cs.length → ∀ x, x ∈ (stAt cs i).flatten ↔ x < i
  | 0, _, x => by simp [stAt]
  | i + 1, h, x => by
    have e : cs[i]? = some (cs[i]'h) := List.getElem?_eq_getElem _
    show x ∈ (applyC i (cs.getD i (.new, 0)) (stAt cs i)).flatten ↔ _
    rw [getD_at e, apply_mem i (v i _ e), st_mem v i (by omega) x]
    omega
theorem steps_sum {cs : List Ch} (v : VCh cs) : ∀ i, i ≤ cs.length → (((cs.take i).map fun c => c.1.step).sum : Int) = (stAt cs i).length
  | 0, _ => rfl
  | i + 1, h => by
    have e : cs[i]? = some (cs[i]'h) := List.getElem?_eq_getElem _
    have q := (apply_size i (v i _ e)).2
    have ih := steps_sum v i (by omega)
    show _ = ((applyC i (cs.getD i (.new, 0)) (stAt cs i)).length : Int)
    rw [getD_at e, List.take_add_one, e, List.map_append, List.sum_append]
    show _ + ((cs[i]'h).1.step + 0) = _
    omega
end OgM
namespace OgM
theorem sgi_inj {x y : Seg} (h : sgi x = sgi y) : x = y := by
  have h1 : (sgi x).length = (sgi y).length := by rw [h]
  have h2 : (sgi x).head? = (sgi y).head? := by rw [h]
  rw [sgi_len, sgi_len] at h1
  rw [sgi_head, sgi_head] at h2
  obtain ⟨a, b⟩ := x
  obtain ⟨c, d⟩ := y
  have e1 : a = c := Option.some.inj h2
  have e2 : b = d := by simpa using h1
  rw [e1, e2]
theorem told_cons' {f : Nat → Int} {a : List Nat} {st : List (List Nat)} {g : List Seg} (h : Told f (a :: st) g) : ∃ x g', g = x :: g' ∧ a.map f = sgi x ∧ Told f st g' := by
  cases g with
  | nil => exact absurd h (by simp [Told])
  | cons x g' =>
    have q : a.map f :: st.map (·.map f) = sgi x :: g'.map sgi := h
    injection q with q1 q2
    exact ⟨x, g', rfl, q1, q2⟩
/-- parts of a segment -/
theorem sgi_pre {l : List Int} {p : Int} {x : Seg} (h : p :: l = sgi x) (hl : l ≠ []) : ∃ n, x = (p, n + 1) ∧ l = sgi (p + 1, n) := by
  obtain ⟨s, m⟩ := x
  cases m with
  | zero =>
    have : (p :: l).length = 1 := by rw [h, sgi_len]
    simp at this
    exact absurd this hl
  | succ n =>
    rw [← sgi_cons] at h
    injection h with h1 h2
    exact ⟨n, by rw [h1], by rw [h1]; exact h2⟩
theorem sgi_suf {l : List Int} {p : Int} {x : Seg} (h : l ++ [p] = sgi x) (hl : l ≠ []) : ∃ s n, x = (s, n + 1) ∧ l = sgi (s, n) ∧ p = s + n + 1 := by
  obtain ⟨s, m⟩ := x
  cases m with
  | zero =>
    have : (l ++ [p]).length = 1 := by rw [h, sgi_len]
    simp at this
    exact absurd this hl
  | succ n =>
    rw [← sgi_snoc] at h
    have h1 := List.append_inj' h rfl
    exact ⟨s, n, rfl, h1.1, by simpa using h1.2⟩
theorem sgi_mid {l r : List Int} {p : Int} {x : Seg} (h : l ++ [p] ++ r = sgi x) (hl : l ≠ []) (hr : r ≠ []) : ∃ s n n', x = (s, n + n' + 2) ∧ l = sgi (s, n) ∧ p = s + n + 1 ∧ r = sgi (s + n + 2, n') := by
  obtain ⟨s, m⟩ := x
  have len : l.length + 1 + r.length = m + 1 := by
    have := congrArg List.length h
    rw [sgi_len, List.length_append, List.length_append, List.length_singleton] at this
    exact this
  obtain ⟨n, hn⟩ : ∃ n, l.length = n + 1 := ⟨l.length - 1, by have := List.length_pos_iff.mpr hl; omega⟩
  obtain ⟨n', hn'⟩ : ∃ n, r.length = n + 1 := ⟨r.length - 1, by have := List.length_pos_iff.mpr hr; omega⟩
  have e : m = n + n' + 2 := by omega
  subst e
  rw [← sgi_join] at h
  have h1 := List.append_inj' h (by rw [sgi_len]; exact hn')
  have h2 := List.append_inj' h1.1 rfl
  exact ⟨s, n, n', rfl, h2.1, by simpa using h2.2, h1.2⟩
/-- all groups have houses -/
def Full (st : List (List Nat)) : Prop := ∀ a ∈ st, a ≠ []
theorem valid_shift {c : Ch} {n : Nat} (h : Valid c (n + 1)) : (∃ c', c = shift c' ∧ Valid c' n) ∨ (c = (.new, 0) ∨ c = (.beside, 0) ∨ c = (.beside, 1) ∨ c = (.between, 0)) := by
  obtain ⟨w, k⟩ := c
  cases w with
  | new =>
    cases k with
    | zero => exact .inr (.inl rfl)
    | succ k => exact .inl ⟨(.new, k), rfl, by have h : k + 1 ≤ n + 1 := h; show k ≤ n; omega⟩
  | between =>
    cases k with
    | zero => exact .inr (.inr (.inr (.inr rfl)))
    | succ k => exact .inl ⟨(.between, k), rfl, by have h : k + 1 + 1 < n + 1 := h; show k + 1 < n; omega⟩
  | beside =>
    match k, h with
    | 0, _ => exact .inr (.inr (.inl rfl))
    | 1, _ => exact .inr (.inr (.inr (.inl rfl)))
    | k + 2, h => exact .inl ⟨(.beside, k), rfl, by have h : k + 2 < 2 * (n + 1) := h; show k < 2 * n; omega⟩
theorem un_apply {f : Nat → Int} {t : Nat} : ∀ {st : List (List Nat)} {c : Ch} {g' : List Seg} {lo : Int}, Valid c st.length → Full st → Told f (applyC t c st) g' → Ok lo g' →
    ∃ g, Told f st g ∧ Ok lo g ∧ ¬ Mem (f t) g ∧ add (f t) g = g' ∧ pick (f t) g = c ∧ lo < f t
  | [], c, g', lo, hv, hF, ht, ok => by
    obtain ⟨w, k⟩ := c
    cases w with
    | beside => exact absurd (show k < 2 * 0 from hv) (by omega)
    | between => exact absurd (show k + 1 < 0 from hv) (by omega)
    | new =>
      have hk : k = 0 := by have h : k ≤ 0 := hv; omega
      subst hk
      have e : applyC t (.new, 0) [] = [[t]] := rfl
      rw [e] at ht
      obtain ⟨x, r, rfl, h1, h2⟩ := told_cons' ht
      have hr : r = [] := by simpa [Told] using h2
      subst hr
      have hx : x = (f t, 0) := sgi_inj (by rw [← h1]; simp [sgi])
      subst hx
      exact ⟨[], rfl, trivial, mem_nil, rfl, rfl, ok.1⟩
  | a :: st, c, g', lo, hv, hF, ht, ok => by
    have ha : a ≠ [] := hF a List.mem_cons_self
    have hF' : Full st := fun b hb => hF b (List.mem_cons_of_mem _ hb)
    rcases valid_shift (n := st.length) hv with ⟨c', rfl, hv'⟩ | rfl | rfl | rfl | rfl
    · rw [applyC_shift] at ht
      obtain ⟨⟨s, n⟩, r, rfl, h1, h2⟩ := told_cons' ht
      obtain ⟨g, t1, t2, t3, t4, t5, t6⟩ := un_apply hv' hF' h2 ok.2
      have h4 : s + n + 1 < f t := t6
      refine ⟨(s, n) :: g, ?_, ⟨ok.1, t2⟩, fun m => ?_, ?_, ?_, ?_⟩
      · show a.map f :: st.map (·.map f) = sgi (s, n) :: g.map sgi
        rw [h1, t1]
      · rcases mem_cons.mp m with m | m
        · have m : s ≤ f t ∧ f t ≤ s + n := m
          omega
        · exact t3 m
      · rw [(pick_4 h4).2, t4]
      · rw [(pick_4 h4).1, t5]
      · have := ok.1
        show lo < f t
        have q : lo < s := this
        omega
    · -- new, at the left
      have e : applyC t (.new, 0) (a :: st) = [t] :: a :: st := rfl
      rw [e] at ht
      obtain ⟨x, r, rfl, h1, h2⟩ := told_cons' ht
      have hx : x = (f t, 0) := sgi_inj (by rw [← h1]; simp [sgi])
      subst hx
      obtain ⟨⟨s, n⟩, r2, rfl, h3, h4⟩ := told_cons' h2
      have o1 : lo < f t := ok.1
      have o2 : f t + (0 : Nat) + 1 < s := ok.2.1
      have hp : f t < s - 1 := by omega
      refine ⟨(s, n) :: r2, h2, ⟨by show lo < s; omega, ok.2.2⟩, nmem (lo := f t) ⟨by show f t < s; omega, ok.2.2⟩ (Int.le_refl _), (pick_1 hp).2, (pick_1 hp).1, o1⟩
    · have e : applyC t (.beside, 0) (a :: st) = (t :: a) :: st := rfl
      rw [e] at ht
      obtain ⟨x, r, rfl, h1, h2⟩ := told_cons' ht
      obtain ⟨n, rfl, h3⟩ := sgi_pre (l := a.map f) (by rw [← h1]; rfl) (by simpa using ha)
      have o1 : lo < f t := ok.1
      have o2 : Ok (f t + ((n + 1 : Nat) : Int) + 1) r := ok.2
      have hp : f t = (f t + 1) - 1 := by omega
      have o3 : Ok (f t + 1 + (n : Int) + 1) r := by
        have : f t + 1 + (n : Int) + 1 = f t + ((n + 1 : Nat) : Int) + 1 := by omega
        rw [this]; exact o2
      refine ⟨(f t + 1, n) :: r, ?_, ⟨by show lo < f t + 1; omega, o3⟩, nmem (lo := f t) ⟨by show f t < f t + 1; omega, o3⟩ (Int.le_refl _), (pick_2 hp).2, (pick_2 hp).1, o1⟩
      show a.map f :: st.map (·.map f) = sgi (f t + 1, n) :: r.map sgi
      rw [h3, h2]
    · have e : applyC t (.beside, 1) (a :: st) = (a ++ [t]) :: st := rfl
      rw [e] at ht
      obtain ⟨x, r, rfl, h1, h2⟩ := told_cons' ht
      obtain ⟨s, n, rfl, h3, h4⟩ := sgi_suf (l := a.map f) (p := f t) (by rw [← h1]; simp) (by simpa using ha)
      have o1 : lo < s := ok.1
      have o2 : Ok (s + ((n + 1 : Nat) : Int) + 1) r := ok.2
      have o3 : Ok (s + (n : Int) + 1) r := ok_mono (by omega) o2
      have tld : Told f (a :: st) ((s, n) :: r) := by
        show a.map f :: st.map (·.map f) = sgi (s, n) :: r.map sgi
        rw [h3, h2]
      have nm : ¬ Mem (f t) ((s, n) :: r) := fun m => by
        rcases mem_cons.mp m with m | m
        · have m : s ≤ f t ∧ f t ≤ s + n := m
          omega
        · have := ok_lt o2 m
          omega
      cases r with
      | nil => exact ⟨_, tld, ⟨o1, o3⟩, nm, (pick_30 h4).2, (pick_30 h4).1, by omega⟩
      | cons y r =>
        obtain ⟨s', n'⟩ := y
        have o4 : s + ((n + 1 : Nat) : Int) + 1 < s' := o2.1
        have hne : s' ≠ f t + 1 := by omega
        exact ⟨_, tld, ⟨o1, o3⟩, nm, (pick_32 h4 hne).2, (pick_32 h4 hne).1, by omega⟩
    · cases st with
      | nil => exact absurd (show 0 + 1 < 1 from hv) (by omega)
      | cons b st =>
        have hb : b ≠ [] := hF' b List.mem_cons_self
        have e : applyC t (.between, 0) (a :: b :: st) = (a ++ [t] ++ b) :: st := rfl
        rw [e] at ht
        obtain ⟨x, r, rfl, h1, h2⟩ := told_cons' ht
        obtain ⟨s, n, n', rfl, h3, h4, h5⟩ := sgi_mid (l := a.map f) (p := f t) (r := b.map f) (by rw [← h1]; simp) (by simpa using ha) (by simpa using hb)
        have o1 : lo < s := ok.1
        have o2 : Ok (s + ((n + n' + 2 : Nat) : Int) + 1) r := ok.2
        have o3 : Ok (s + n + 2 + (n' : Int) + 1) r := by
          have : s + n + 2 + (n' : Int) + 1 = s + ((n + n' + 2 : Nat) : Int) + 1 := by omega
          rw [this]; exact o2
        have hp : s + (n : Int) + 2 = f t + 1 := by omega
        refine ⟨(s, n) :: (s + n + 2, n') :: r, ?_, ⟨o1, by show s + (n : Int) + 1 < s + n + 2; omega, o3⟩, fun m => ?_, (pick_31 h4 hp).2, (pick_31 h4 hp).1, by omega⟩
        · show a.map f :: b.map f :: st.map (·.map f) = sgi (s, n) :: sgi (s + n + 2, n') :: r.map sgi
          rw [h3, h5, h2]
        · rcases mem_cons.mp m with m | m
          · have m : s ≤ f t ∧ f t ≤ s + n := m
            omega
          · rcases mem_cons.mp m with m | m
            · have m : s + n + 2 ≤ f t ∧ f t ≤ s + n + 2 + n' := m
              omega
            · have := ok_lt o2 m
              omega
end OgM
namespace OgM
theorem apply_facts {t : Nat} : ∀ {st : List (List Nat)} {c : Ch}, Valid c st.length → Full st → Full (applyC t c st) ∧ (applyC t c st).flatten.Perm (t :: st.flatten)
  | [], c, hv, hF => by
    obtain ⟨w, k⟩ := c
    cases w with
    | beside => exact absurd (show k < 2 * 0 from hv) (by omega)
    | between => exact absurd (show k + 1 < 0 from hv) (by omega)
    | new =>
      have hk : k = 0 := by have h : k ≤ 0 := hv; omega
      subst hk
      exact ⟨fun a ha => by rw [List.mem_singleton.mp (show a ∈ [[t]] from ha)]; simp, List.Perm.refl _⟩
  | a :: st, c, hv, hF => by
    have ha : a ≠ [] := hF a List.mem_cons_self
    have hF' : Full st := fun b hb => hF b (List.mem_cons_of_mem _ hb)
    rcases valid_shift (n := st.length) hv with ⟨c', rfl, hv'⟩ | rfl | rfl | rfl | rfl
    · rw [applyC_shift]
      obtain ⟨h1, h2⟩ := apply_facts (t := t) hv' hF'
      refine ⟨fun b hb => ?_, ?_⟩
      · rcases List.mem_cons.mp hb with rfl | hb
        · exact ha
        · exact h1 b hb
      · show (a ++ (applyC t c' st).flatten).Perm (t :: (a ++ st.flatten))
        exact (List.Perm.append_left a h2).trans List.perm_middle
    · have e : applyC t (.new, 0) (a :: st) = [t] :: a :: st := rfl
      rw [e]
      refine ⟨fun b hb => ?_, List.Perm.refl _⟩
      rcases List.mem_cons.mp hb with rfl | hb
      · simp
      · exact hF b hb
    · have e : applyC t (.beside, 0) (a :: st) = (t :: a) :: st := rfl
      rw [e]
      refine ⟨fun b hb => ?_, List.Perm.refl _⟩
      rcases List.mem_cons.mp hb with rfl | hb
      · simp
      · exact hF' b hb
    · have e : applyC t (.beside, 1) (a :: st) = (a ++ [t]) :: st := rfl
      rw [e]
      refine ⟨fun b hb => ?_, ?_⟩
      · rcases List.mem_cons.mp hb with rfl | hb
        · simp
        · exact hF' b hb
      · show ((a ++ [t]) ++ st.flatten).Perm (t :: (a ++ st.flatten))
        rw [List.append_assoc]
        exact List.perm_middle
    · cases st with
      | nil => exact absurd (show 0 + 1 < 1 from hv) (by omega)
      | cons b st =>
        have e : applyC t (.between, 0) (a :: b :: st) = (a ++ [t] ++ b) :: st := rfl
        rw [e]
        refine ⟨fun x hx => ?_, ?_⟩
        · rcases List.mem_cons.mp hx with rfl | hx
          · simp
          · exact hF' x (List.mem_cons_of_mem _ hx)
        · show ((a ++ [t] ++ b) ++ st.flatten).Perm (t :: (a ++ (b ++ st.flatten)))
          rw [List.append_assoc, List.append_assoc]
          exact List.perm_middle
theorem st_facts {cs : List Ch} (v : VCh cs) : ∀ i, i ≤ cs.length → Full (stAt cs i) ∧ (stAt cs i).flatten.Nodup
  | 0, _ => ⟨fun a ha => absurd ha (by simp [stAt]), List.nodup_nil⟩
  | i + 1, h => by
    obtain ⟨h1, h2⟩ := st_facts v i (by omega)
    have e : cs[i]? = some (cs[i]'h) := List.getElem?_eq_getElem _
    have q := apply_facts (t := i) (v i _ e) h1
    show Full (applyC i (cs.getD i (.new, 0)) (stAt cs i)) ∧ (applyC i (cs.getD i (.new, 0)) (stAt cs i)).flatten.Nodup
    rw [getD_at e]
    refine ⟨q.1, q.2.nodup_iff.mpr (List.nodup_cons.mpr ⟨fun m => ?_, h2⟩)⟩
    have := (st_mem v i (by omega) i).mp m
    omega
section
variable {cs : List Ch} {f : Nat → Int} {g : List Seg} {lo : Int}
theorem down (v : VCh cs) (ht : Told f (stAt cs cs.length) g) (ok : Ok lo g) : ∀ k, k ≤ cs.length → ∃ g', Told f (stAt cs (cs.length - k)) g' ∧ Ok lo g'
  | 0, _ => ⟨g, ht, ok⟩
  | k + 1, hk => by
    obtain ⟨g', h1, h2⟩ := down v ht ok k (by omega)
    have hi : cs.length - (k + 1) < cs.length := by omega
    have e : cs[cs.length - (k + 1)]? = some (cs[cs.length - (k + 1)]'hi) := List.getElem?_eq_getElem _
    have e2 : cs.length - k = cs.length - (k + 1) + 1 := by omega
    rw [e2] at h1
    have h1 : Told f (applyC (cs.length - (k + 1)) (cs.getD (cs.length - (k + 1)) (.new, 0)) (stAt cs (cs.length - (k + 1)))) g' := h1
    rw [getD_at e] at h1
    obtain ⟨g0, t1, t2, _⟩ := un_apply (v _ _ e) (st_facts v _ (by omega)).1 h1 h2
    exact ⟨g0, t1, t2⟩
theorem turn (v : VCh cs) (ht : Told f (stAt cs cs.length) g) (ok : Ok lo g) {i : Nat} (hi : i < cs.length) : ∃ g0 g1, Told f (stAt cs i) g0 ∧ Told f (stAt cs (i + 1)) g1 ∧ Ok lo g0 ∧ ¬ Mem (f i) g0 ∧ add (f i) g0 = g1 ∧ pick (f i) g0 = cs[i]'hi ∧ lo < f i := by
  obtain ⟨g1, h1, h2⟩ := down v ht ok (cs.length - (i + 1)) (by omega)
  have e2 : cs.length - (cs.length - (i + 1)) = i + 1 := by omega
  rw [e2] at h1
  have e : cs[i]? = some (cs[i]'hi) := List.getElem?_eq_getElem _
  have h1' : Told f (applyC i (cs.getD i (.new, 0)) (stAt cs i)) g1 := h1
  rw [getD_at e] at h1'
  obtain ⟨g0, t1, t2, t3, t4, t5, t6⟩ := un_apply (v _ _ e) (st_facts v _ (by omega)).1 h1' h2
  exact ⟨g0, g1, t1, h1, t2, t3, t4, t5, t6⟩
end
theorem fn_of : ∀ (l : List Nat) (ys : List Int), l.Nodup → l.length = ys.length → ∃ f : Nat → Int, l.map f = ys
  | [], [], _, _ => ⟨fun _ => 0, rfl⟩
  | [], _ :: _, _, h => by simp at h
  | _ :: _, [], _, h => by simp at h
  | t :: l, y :: ys, hn, h => by
    rw [List.nodup_cons] at hn
    obtain ⟨f, hf⟩ := fn_of l ys hn.2 (by simpa using h)
    refine ⟨fun u => if u = t then y else f u, ?_⟩
    rw [List.map_cons, if_pos rfl]
    congr 1
    rw [← hf]
    refine List.map_congr_left fun u hu => if_neg (show ¬ (u = t) from fun e => hn.1 (e ▸ hu))
end OgM
namespace OgM
/-- how many groups there are, by the choices -/
theorem segs_steps {n : Int} {row : List Int} (h : Row n row) {i : Nat} (hi : i ≤ row.length) : ((segs (row.take i)).length : Int) = (((picks row).take i).map fun c => c.1.step).sum := by
  obtain ⟨t, _⟩ := picks_told h i hi
  have e := congrArg List.length (show _ = _ from t)
  rw [List.length_map, List.length_map] at e
  rw [steps_sum (picks_valid h) i (by rw [picks_len]; exact hi), e]
/-- the number of groups before -/
theorem st_segs {n : Int} {row : List Int} (h : Row n row) {i : Nat} (hi : i ≤ row.length) : (stAt (picks row) i).length = (segs (row.take i)).length := by
  obtain ⟨t, _⟩ := picks_told h i hi
  have e := congrArg List.length (show _ = _ from t)
  rw [List.length_map, List.length_map] at e
  exact e
end OgM
namespace OgM
def cho : Nat → Nat → Nat
  | _, 0 => 1
  | 0, _ + 1 => 0
  | n + 1, k + 1 => cho n k + cho n (k + 1)
theorem choose_0 (n : Nat) : cho n 0 = 1 := by cases n <;> rfl
theorem choose_gt : ∀ {n k : Nat}, n < k → cho n k = 0
  | _, 0, h => by omega
  | 0, _ + 1, _ => rfl
  | n + 1, k + 1, h => by
    show cho n k + cho n (k + 1) = 0
    rw [choose_gt (by omega), choose_gt (by omega)]
theorem choose_succ : ∀ n k : Nat, (n + 1) * cho n k = cho (n + 1) (k + 1) * (k + 1)
  | 0, 0 => rfl
  | 0, k + 1 => by
    show 1 * 0 = (cho 0 (k + 1) + cho 0 (k + 2)) * (k + 2)
    rw [show cho 0 (k + 1) = 0 from rfl, show cho 0 (k + 2) = 0 from rfl]
    omega
  | n + 1, 0 => by
    have h : (n + 1) * cho n 0 = cho (n + 1) 1 * (0 + 1) := choose_succ n 0
    rw [choose_0] at h ⊢
    show _ = (cho (n + 1) 0 + cho (n + 1) 1) * 1
    rw [choose_0]
    omega
  | n + 1, k + 1 => by
    have h1 : (n + 1) * cho n k = (cho n k + cho n (k + 1)) * (k + 1) := choose_succ n k
    have h2 : (n + 1) * cho n (k + 1) = cho (n + 1) (k + 2) * (k + 2) := choose_succ n (k + 1)
    show (n + 2) * (cho n k + cho n (k + 1)) = ((cho n k + cho n (k + 1)) + cho (n + 1) (k + 2)) * (k + 2)
    generalize cho n k = a at *
    generalize cho n (k + 1) = b at *
    generalize cho (n + 1) (k + 2) = p at *
    have e1 : (a + b + p) * (k + 2) = (a + b) * (k + 1) + (a + b) + p * (k + 2) := by rw [Nat.add_mul, show k + 2 = k + 1 + 1 from rfl, Nat.mul_add (a + b) (k + 1) 1]; omega
    have e2 : (n + 2) * (a + b) = (n + 1) * a + (n + 1) * b + (a + b) := by rw [show n + 2 = n + 1 + 1 from rfl, Nat.add_mul (n + 1) 1, Nat.mul_add (n + 1)]; omega
    rw [e1, e2, ← h1, ← h2]
    omega
theorem choose_step (n k : Nat) : cho n k * (n - k) = cho n (k + 1) * (k + 1) := by
  by_cases h : n < k
  · rw [choose_gt h, choose_gt (by omega)]
    omega
  · have h1 : (n + 1) * cho n k = (cho n k + cho n (k + 1)) * (k + 1) := choose_succ n k
    rw [Nat.add_mul (cho n k)] at h1
    have e2 : cho n k * (n - k) + cho n k * (k + 1) = (n + 1) * cho n k := by
      rw [← Nat.mul_add, show n - k + (k + 1) = n + 1 by omega, Nat.mul_comm]
    omega
theorem choose_int (n j : Nat) : (cho n j : Int) * ((n : Int) - (j : Int)) / ((j : Int) + 1) = (cho n (j + 1) : Int) := by
  by_cases h : n < j
  · rw [choose_gt h, choose_gt (by omega)]
    simp
  · have e := choose_step n j
    have e2 : (cho n j : Int) * ((n : Int) - (j : Int)) = (cho n (j + 1) : Int) * ((j : Int) + 1) := by
      rw [show (n : Int) - (j : Int) = ((n - j : Nat) : Int) by omega, show (j : Int) + 1 = ((j + 1 : Nat) : Int) by omega, ← Int.natCast_mul, ← Int.natCast_mul, e]
    rw [e2]
    exact Int.mul_ediv_cancel _ (by omega)
inductive NV where
  | g (n : Nat)
  | h (w : Wd)
deriving DecidableEq
structure Nt where
  t : Nat
  v : NV
deriving DecidableEq
def NV.g? : NV → Option Nat
  | .g n => some n
  | .h _ => none
def NV.h? : NV → Option Wd
  | .g _ => none
  | .h w => some w
/-- the number of groups noted for a time; of several the last -/
def gAt : List Nt → Nat → Option Nat
  | [], _ => none
  | n :: ns, t => (gAt ns t).or (if n.t = t then n.v.g? else none)
def hAt : List Nt → Nat → Option Wd
  | [], _ => none
  | n :: ns, t => (hAt ns t).or (if n.t = t then n.v.h? else none)
def waysN (w : Wd) (m : Nat) : Nat := match w with
  | .new => m + 1
  | .beside => 2 * m
  | .between => m - 1
theorem valid_ways {w : Wd} {k m : Nat} : Valid (w, k) m ↔ k < waysN w m := by
  cases w
  · show k ≤ m ↔ k < m + 1
    omega
  · exact Iff.rfl
  · show k + 1 < m ↔ k < m - 1
    omega
/-- the number of groups after such a house -/
def nextM (m : Nat) : Wd → Nat
  | .new => m + 1
  | .beside => m
  | .between => m - 1
theorem nextM_step {m : Nat} {w : Wd} (h : waysN w m ≠ 0) : (nextM m w : Int) = m + w.step := by
  cases w
  · rfl
  · show (m : Int) = m + 0
    omega
  · have h : m - 1 ≠ 0 := h
    show ((m - 1 : Nat) : Int) = m + -1
    omega
def wOk (ns : List Nt) (t m : Nat) (w : Wd) : Bool := decide (waysN w m ≠ 0) && ((hAt ns t).getD w == w && (gAt ns t).getD (nextM m w) == nextM m w)
def asc : List Wd := [.beside, .between, .new]
def wordsAt (ns : List Nt) (t m : Nat) : List Wd := asc.filter (wOk ns t m)
/-- how many ways lead on from m groups with k houses to come; e empty plots at last -/
def FW (φ : List Nat → Nat) (ns : List Nt) (e T : Nat) : Nat → Nat → Nat
  | 0, m => cho (e + 1) m
  | k + 1, m => φ ((wordsAt ns (T - (k + 1)) m).map fun w => waysN w m * FW φ ns e T k (nextM m w))
/-- the words, the numbers of choices, the ways on -/
def blocksAt (ns : List Nt) (f : Nat → Nat) (t m : Nat) : List (Wd × Nat × Nat) := (wordsAt ns t m).map fun w => (w, waysN w m, f (nextM m w))
end OgM
namespace OgM
end OgM
namespace OgM
end OgM
namespace OgM
end OgM
namespace OgM
def mFold (m : Nat) (cs : List Ch) : Nat := cs.foldl (fun m c => nextM m c.1) m
/-- each choice is one for the groups that it finds -/
def VM (m : Nat) (cs : List Ch) : Prop := ∀ (i : Nat) c, cs[i]? = some c → Valid c (mFold m (cs.take i))
theorem VM.tail {m : Nat} {c : Ch} {cs : List Ch} (h : VM m (c :: cs)) : Valid c m ∧ VM (nextM m c.1) cs := ⟨h 0 c rfl, fun i d hd => h (i + 1) d (by rw [List.getElem?_cons_succ]; exact hd)⟩
theorem VM.cons {m : Nat} {c : Ch} {cs : List Ch} (h1 : Valid c m) (h2 : VM (nextM m c.1) cs) : VM m (c :: cs) := fun i d hd => by
  cases i with
  | zero => cases hd; exact h1
  | succ i => rw [List.getElem?_cons_succ] at hd; exact h2 i d hd
end OgM
namespace OgM
theorem picks_next {n : Int} {row : List Int} (h : Row n row) {i : Nat} {w : Wd} {c : Nat} (hc : (picks row)[i]? = some (w, c)) : (segs (row.take (i + 1))).length = nextM (segs (row.take i)).length w ∧ c < waysN w (segs (row.take i)).length := by
  have hi : i < row.length := by
    have := (List.getElem?_eq_some_iff.mp hc).1
    rw [picks_len] at this
    exact this
  have hv := picks_valid h i _ hc
  rw [st_segs h (by omega)] at hv
  have hlt := valid_ways.mp hv
  refine ⟨?_, hlt⟩
  have a := segs_steps h (show i + 1 ≤ row.length by omega)
  have b := segs_steps h (show i ≤ row.length by omega)
  rw [List.take_add_one (l := picks row), hc, List.map_append, List.sum_append] at a
  have c' : ((some (w, c) : Option Ch).toList.map fun c => c.1.step).sum = w.step := by simp
  rw [c'] at a
  have := nextM_step (w := w) (m := (segs (row.take i)).length) (by omega)
  omega
end OgM
namespace OgM
end OgM
namespace OgM
end OgM
namespace OgM
end OgM
namespace OgM
/-- n (n - 1) .. of k factors -/
def fal (n : Nat) : Nat → Nat
  | 0 => 1
  | k + 1 => fal n k * (n - k)
/-- how many choices the house of a time has -/
def pw (row : List Int) (i : Nat) : Nat := waysN ((picks row)[i]?.getD (.new, 0)).1 (segs (row.take i)).length
end OgM
namespace OgM
theorem fal_succ (n : Nat) : ∀ k, fal (n + 1) (k + 1) = (n + 1) * fal n k
  | 0 => by
    show 1 * (n + 1 - 0) = (n + 1) * 1
    omega
  | k + 1 => by
    show fal (n + 1) (k + 1) * (n + 1 - (k + 1)) = (n + 1) * (fal n k * (n - k))
    rw [fal_succ n k, Nat.mul_assoc, show n + 1 - (k + 1) = n - k by omega]
/-- all choices of a house, each with the ways to choose the gaps -/
theorem cho_words (N m : Nat) : waysN .beside m * cho N (nextM m .beside) + (waysN .between m * cho N (nextM m .between) + waysN .new m * cho N (nextM m .new)) = N * cho (N + 1) m := by
  show 2 * m * cho N m + ((m - 1) * cho N (m - 1) + (m + 1) * cho N (m + 1)) = N * cho (N + 1) m
  have s1 := choose_step N m
  cases m with
  | zero =>
    rw [choose_0, choose_0]
    rw [choose_0] at s1
    simp only [Nat.mul_zero, Nat.zero_mul, Nat.zero_add, Nat.zero_sub]
    simp only [Nat.zero_add, Nat.sub_zero] at s1
    omega
  | succ m =>
    have s2 := choose_step N m
    show 2 * (m + 1) * cho N (m + 1) + (m * cho N m + (m + 2) * cho N (m + 2)) = N * (cho N m + cho N (m + 1))
    have s1 : cho N (m + 1) * (N - (m + 1)) = cho N (m + 2) * (m + 2) := s1
    by_cases h : N < m + 1
    · rw [choose_gt (show N < m + 2 by omega), choose_gt h]
      by_cases h2 : N < m
      · rw [choose_gt h2]
        omega
      · rw [show N = m by omega]
        simp
    · obtain ⟨d, rfl⟩ : ∃ d, N = m + 1 + d := ⟨N - (m + 1), by omega⟩
      rw [show m + 1 + d - (m + 1) = d by omega] at s1
      rw [show m + 1 + d - m = d + 1 by omega] at s2
      generalize cho (m + 1 + d) m = a at *
      generalize cho (m + 1 + d) (m + 1) = b at *
      generalize cho (m + 1 + d) (m + 2) = c at *
      have e1 : (m + 2) * c = b * d := by rw [Nat.mul_comm]; exact s1.symm
      rw [e1]
      have e2 : (m + 1 + d) * (a + b) = m * a + a * (d + 1) + (m * b + b + b * d) := by
        rw [Nat.mul_add, Nat.add_mul (m + 1) d a, Nat.add_mul (m + 1) d b, Nat.add_mul m 1 a, Nat.add_mul m 1 b, Nat.mul_add a d 1, Nat.mul_comm d a, Nat.mul_comm d b]
        omega
      have e3 : 2 * (m + 1) * b = m * b + b + b * (m + 1) := by
        rw [Nat.mul_assoc, Nat.two_mul, Nat.mul_comm b (m + 1), Nat.add_mul m 1 b]
        omega
      rw [e2, s2, e3]
      omega
/-- without notes: the plots of the groups so far, then those of the houses to come -/
theorem FW_none (e T : Nat) : ∀ k m : Nat, FW List.sum [] e T k m = cho (e + k + 1) m * fal (e + k) k
  | 0, m => by show cho (e + 1) m = cho (e + 1) m * 1; omega
  | k + 1, m => by
    show ((wordsAt [] (T - (k + 1)) m).map fun w => waysN w m * FW List.sum [] e T k (nextM m w)).sum = _
    have ih : ∀ w, waysN w m * FW List.sum [] e T k (nextM m w) = waysN w m * cho (e + k + 1) (nextM m w) * fal (e + k) k := fun w => by rw [FW_none e T k, Nat.mul_assoc]
    have hw : ∀ w, wOk [] (T - (k + 1)) m w = decide (waysN w m ≠ 0) := fun w => by
      unfold wOk
      show (decide (waysN w m ≠ 0) && ((none.getD w == w) && (none.getD (nextM m w) == nextM m w))) = _
      simp
    have key : ∀ (g : Wd → Nat), (∀ w, waysN w m = 0 → g w = 0) → ((wordsAt [] (T - (k + 1)) m).map g).sum = g .beside + (g .between + g .new) := fun g hg => by
      unfold wordsAt asc
      simp only [List.filter_cons, List.filter_nil, hw]
      by_cases h1 : waysN .beside m = 0 <;> by_cases h2 : waysN .between m = 0 <;> by_cases h3 : waysN .new m = 0 <;> simp [h1, h2, h3, hg]
    rw [key _ fun w h => by rw [h, Nat.zero_mul], ih, ih, ih, ← Nat.add_mul, ← Nat.add_mul, cho_words, show e + (k + 1) = e + k + 1 by omega, fal_succ, Nat.mul_comm (e + k + 1) (cho _ _), Nat.mul_assoc]
theorem FW_mono (ns : List Nt) (e T : Nat) : ∀ k m : Nat, FW List.sum ns e T k m ≤ FW List.sum [] e T k m
  | 0, m => Nat.le_refl _
  | k + 1, m => by
    show ((wordsAt ns (T - (k + 1)) m).map fun w => waysN w m * FW List.sum ns e T k (nextM m w)).sum ≤ ((wordsAt [] (T - (k + 1)) m).map fun w => waysN w m * FW List.sum [] e T k (nextM m w)).sum
    have hw : ∀ w, wOk ns (T - (k + 1)) m w = true → wOk [] (T - (k + 1)) m w = true := fun w h => by
      unfold wOk at h ⊢
      rw [Bool.and_eq_true] at h
      rw [h.1]
      show (none.getD w == w && none.getD (nextM m w) == nextM m w) = true
      simp
    unfold wordsAt
    generalize asc = l
    induction l with
    | nil => exact Nat.le_refl _
    | cons w l ih =>
      rw [List.filter_cons, List.filter_cons]
      by_cases h : wOk ns (T - (k + 1)) m w = true
      · rw [if_pos h, if_pos (hw w h), List.map_cons, List.map_cons, List.sum_cons, List.sum_cons]
        exact Nat.add_le_add (Nat.mul_le_mul_left _ (FW_mono ns e T k _)) ih
      · rw [if_neg h]
        by_cases h2 : wOk [] (T - (k + 1)) m w = true
        · rw [if_pos h2, List.map_cons, List.sum_cons]
          exact Nat.le_trans ih (Nat.le_add_left _ _)
        · rw [if_neg h2]
          exact ih
theorem FW_fal (ns : List Nt) (e T : Nat) : FW List.sum ns e T T 0 ≤ fal (e + T) T := by
  have h1 := FW_mono ns e T T 0
  rw [FW_none, choose_0] at h1
  omega
theorem fal16 : ∀ p, p < 17 → ∀ t, t < 17 → fal p t ≤ 20922789888000 := by decide +kernel
theorem FW_16 (ns : List Nt) {p T : Nat} (hp : p ≤ 16) (ht : T ≤ p) : FW List.sum ns (p - T) T T 0 ≤ 20922789888000 := by
  have h := FW_fal ns (p - T) T
  rw [show p - T + T = p by omega] at h
  exact Nat.le_trans h (fal16 p (by omega) T (by omega))
end OgM
namespace OgM
end OgM
namespace Dw
open PySem PySem.Spec PyProof.Rows L2 OgR Evl
def wAppPop (i j : Nat) (w : WE) : WS := fun DD s => (∃ d0, s.env[i]? = some (some (.own d0))) ∧ (∃ e0, s.env[j]? = some (some (.own e0))) ∧ w s fun a s1 => ∃ (n : Nat) (ds es : List PyData) (d : PyData), a = .int (n : Nat) ∧ s1.env[i]? = some (some (.own ds)) ∧ s1.env[j]? = some (some (.own es)) ∧ es[n]? = some d ∧ n < 100000 ∧ ds.length < 100000 ∧
  DD.nx ((s1.set j (.own (es.eraseIdx n))).set i (.own (ds ++ [d])))
section
variable {X : Cx} {C : Ct} {e : Expr} {t : TE} {w : WE} {x y : Str} {p p2 apos apos2 cpos cpos2 pos : Pos}
theorem is_appPop {i j : Nat} (hij : i ≠ j) (h : IE C t w) : IS C (tDrop (tBM C.K "list" rAppend (tVar i) (tCons (tBM C.K "list" rPopAt (tVar j) (tCons t tNil)) tNil))) (wAppPop i j w) := fun G σ H s D DD rr q o => by
  obtain ⟨⟨d0, e0⟩, ⟨f0, e0'⟩, q⟩ := q
  obtain ⟨v, hv, p, xs0, rfl, b1, b2, b3, b4⟩ := rr.sl i _ e0
  obtain ⟨v', hv', p', xs0', rfl, b1', b2', b3', b4'⟩ := rr.sl j _ e0'
  refine ⟨_, hv, .inl ⟨rfl, _, .inl (.inl b1)⟩, _, hv', .inl ⟨rfl, _, .inl (.inl b1')⟩, h G σ H s _ _ rr q fun va a s1 G1 H1 q1 r1 eg eh pa => ?_⟩
  obtain ⟨n, ds, es, d, rfl, e1, e2, hd, hn, hl, q1⟩ := q1
  obtain ⟨u, hu, l, ys, hlu, c1, c2, c3, c4⟩ := r1.sl j _ e2
  rw [hv'] at hu
  cases hu
  cases hlu
  obtain ⟨z, hz, pz⟩ := dpa_back c4 hd
  have hzl : n < ys.length := (List.getElem?_eq_some_iff.mp hz).1
  have r2 := r1.mutl e2 hv' (dpa_erase n c4)
  have e1' : (s1.set j (.own (es.eraseIdx n))).env[i]? = some (some (.own ds)) := by
    show (s1.env.set j _)[i]? = _
    rw [List.getElem?_set_ne (Ne.symm hij)]
    exact e1
  obtain ⟨u, hu, l2, zs, hlu, f1, f2, f3, f4⟩ := r2.sl i _ e1'
  rw [hv] at hu
  cases hu
  cases hlu
  refine ⟨p', ys, n, n, z, rfl, by rw [dp_int pa], c1, by omega, by omega, seqIx hzl, hz, ?_⟩
  refine ⟨p, zs, z, rfl, rfl, f1, ?_, o.nx σ _ _ G1 q1 (r2.mutl e1' hv (dpa_app f4 (.cons pz .nil))) eg⟩
  rw [dpa_len f4, sizeLine_eq]
  omega
theorem ds_appPop (i j : Nat) (hK : X.K = C.K) (h : DE X C e t w) (hij : i ≠ j := by decide) (hv : PE X (.Name x p) (tVar i) := by exact pv _) (hv2 : PE X (.Name y p2) (tVar j) := by exact pv _)
    (hb0 : attributeBase (.Name x p) "append" X.env (eval (.Name x p) X.env) = eval (.Name x p) X.env := by rfl) (hb2 : attributeBase (.Name y p2) "pop" X.env (eval (.Name y p2) X.env) = eval (.Name y p2) X.env := by rfl)
    (hfew : ((backTo cpos (starEach [.Call (.Attribute (.Name y p2) "pop" apos2) [e] [] cpos2] X.env)).all (fun x => !x.1) && (backToKw cpos (keywordEach [] X.env)).all (fun x => x.1.isSome) && decide ([Expr.Call (.Attribute (.Name y p2) "pop" apos2) [e] [] cpos2].length + ([] : List Keyword).length + (if ([] : List Keyword).isEmpty then 0 else 1) < 30)) = true := by rfl)
    (hfew2 : ((backTo cpos2 (starEach [e] X.env)).all (fun x => !x.1) && (backToKw cpos2 (keywordEach [] X.env)).all (fun x => x.1.isSome) && decide ([e].length + ([] : List Keyword).length + (if ([] : List Keyword).isEmpty then 0 else 1) < 30)) = true := by rfl)
    (hline : (apos.endLine == cpos.line) = true := by rfl) (hline2 : (apos2.endLine == cpos2.line) = true := by rfl)
    (hst : starEach [.Call (.Attribute (.Name y p2) "pop" apos2) [e] [] cpos2] X.env = (false, eval (.Call (.Attribute (.Name y p2) "pop" apos2) [e] [] cpos2) X.env) :: starEach [] X.env := by rfl) (hst2 : starEach [e] X.env = (false, eval e X.env) :: starEach [] X.env := by rfl)
    (hpl : (backTo cpos (starEach [] X.env)).any (·.1) = false := by rfl) (hpl2 : (backTo cpos2 (starEach [] X.env)).any (·.1) = false := by rfl)
    (hs : swapsWith (.Call (.Attribute (.Name x p) "append" apos) [.Call (.Attribute (.Name y p2) "pop" apos2) [e] [] cpos2] [] cpos) none pos.line X.env = Pure.pure false := by rfl) :
    DS X C (.Expr (.Call (.Attribute (.Name x p) "append" apos) [.Call (.Attribute (.Name y p2) "pop" apos2) [e] [] cpos2] [] cpos) pos) (tDrop (tBM C.K "list" rAppend (tVar i) (tCons (tBM C.K "list" rPopAt (tVar j) (tCons t tNil)) tNil))) (wAppPop i j w) :=
  ⟨ps_expr (hK ▸ pe_bm PySem.F.plainAttrs_list PySem.F.slot_list_append PySem.F.type_list_append mt_append hv (pa_cons (pe_bm PySem.F.plainAttrs_list PySem.F.slot_list_pop PySem.F.type_list_pop mt_popAt hv2 (pa_cons h.pe pa_nil hst2) hb2 hfew2 hline2 hst2 hpl2) pa_nil hst) hb0 hfew hline hst hpl) hs, is_appPop hij h.ie⟩
end
end Dw
namespace Dw
open PySem PySem.Spec PyProof.Rows L2 OgR Evl
section
variable {X : Cx} {C : Ct}
def gLenSetL : G1 := fun d s Q => ∃ ns : List Int, d = .list (ns.map .int) ∧ ns.length ≤ 1000 ∧ ∀ ks : List Int, ks.Nodup → (∀ k, k ∈ ks ↔ k ∈ ns) → Q (.int (ks.length : Nat)) s
end
end Dw
namespace Dw
open PySem PySem.Spec PyProof.Rows L2 OgR Evl
section
variable {X : Cx} {C : Ct} {e : Expr} {pos : Pos} {t : TE} {w : WE} {x : Str}
def wAugM (i : Nat) (w : WE) : WS := fun DD s => ∃ m, s.env[i]? = some (some (.d (.int m))) ∧ w s fun d s1 => ∃ n, d = .int n ∧ CMul m n ∧ DD.nx (s1.set i (.d (.int (m * n))))
end
end Dw
namespace Dw
open PySem PySem.Spec PyProof.Rows L2 OgR Evl
end Dw
namespace OgM
inductive Grow : List Int → Int → Int → Prop
  | one (a : Int) : Grow [a] a a
  | low {q : List Int} {lo hi : Int} : Grow q lo hi → Grow (q ++ [lo - 1]) (lo - 1) hi
  | high {q : List Int} {lo hi : Int} : Grow q lo hi → Grow (q ++ [hi + 1]) lo (hi + 1)
theorem Grow.mem {q : List Int} {lo hi : Int} (h : Grow q lo hi) : lo ≤ hi ∧ (∀ x, x ∈ q ↔ lo ≤ x ∧ x ≤ hi) ∧ q.Nodup ∧ (q.length : Int) = hi - lo + 1 := by
  induction h with
  | one a => exact ⟨by omega, fun x => by simp; omega, by simp, by simp⟩
  | @low q lo hi h ih =>
    obtain ⟨h1, h2, h3, h4⟩ := ih
    refine ⟨by omega, fun x => ?_, ?_, ?_⟩
    · rw [List.mem_append, h2, List.mem_singleton]
      omega
    · refine List.nodup_append.mpr ⟨h3, by simp, fun a ha b hb => ?_⟩
      have := (h2 a).mp ha
      rw [List.mem_singleton.mp hb]
      omega
    · rw [List.length_append]
      simp only [List.length_cons, List.length_nil]
      omega
  | @high q lo hi h ih =>
    obtain ⟨h1, h2, h3, h4⟩ := ih
    refine ⟨by omega, fun x => ?_, ?_, ?_⟩
    · rw [List.mem_append, h2, List.mem_singleton]
      omega
    · refine List.nodup_append.mpr ⟨h3, by simp, fun a ha b hb => ?_⟩
      have := (h2 a).mp ha
      rw [List.mem_singleton.mp hb]
      omega
    · rw [List.length_append]
      simp only [List.length_cons, List.length_nil]
      omega
end OgM
namespace OgM
end OgM
namespace OgM
/-- ms says no more than ns -/
structure Less (ms ns : List Nt) : Prop where
  h : ∀ t w, hAt ms t = some w → hAt ns t = some w
  g : ∀ t x, gAt ms t = some x → gAt ns t = some x
theorem Less.ok {ms ns : List Nt} (l : Less ms ns) {t m : Nat} {w : Wd} (h : wOk ns t m w = true) : wOk ms t m w = true := by
  unfold wOk at h ⊢
  rw [Bool.and_eq_true, Bool.and_eq_true] at h ⊢
  refine ⟨h.1, ?_, ?_⟩
  · cases hm : hAt ms t with
    | none => simp
    | some v =>
      have := l.h t v hm
      rw [this] at h
      exact h.2.1
  · cases hm : gAt ms t with
    | none => simp
    | some v =>
      have := l.g t v hm
      rw [this] at h
      exact h.2.2
theorem FW_less {ms ns : List Nt} (l : Less ms ns) (e T : Nat) : ∀ k m : Nat, FW List.sum ns e T k m ≤ FW List.sum ms e T k m
  | 0, m => Nat.le_refl _
  | k + 1, m => by
    show ((wordsAt ns (T - (k + 1)) m).map fun w => waysN w m * FW List.sum ns e T k (nextM m w)).sum ≤ ((wordsAt ms (T - (k + 1)) m).map fun w => waysN w m * FW List.sum ms e T k (nextM m w)).sum
    unfold wordsAt
    generalize asc = l'
    induction l' with
    | nil => exact Nat.le_refl _
    | cons w l' ih =>
      rw [List.filter_cons, List.filter_cons]
      by_cases h : wOk ns (T - (k + 1)) m w = true
      · rw [if_pos h, if_pos (l.ok h), List.map_cons, List.map_cons, List.sum_cons, List.sum_cons]
        exact Nat.add_le_add (Nat.mul_le_mul_left _ (FW_less l e T k _)) ih
      · rw [if_neg h]
        by_cases h2 : wOk ms (T - (k + 1)) m w = true
        · rw [if_pos h2, List.map_cons, List.sum_cons]
          exact Nat.le_trans ih (Nat.le_add_left _ _)
        · rw [if_neg h2]
          exact ih
end OgM
namespace OgM
def Ne (x : Int × Int) : Prop := x.1 ≤ x.2
end OgM
namespace Og
open PySem PySem.Spec PyProof.Rows L2 OgR Evl
def topS (i : Nat) : Stmt := PySem.Challenge.pw_onlygroups_k80_whole_a_street_made_anew.main.body.getD i (.Pass ⟨0, 0, 0, 0⟩)
section
variable {P : Program} {w : World} {K : PySem.W.Frag} {mg : Str → Option Value} {base : Heap}
def BoxAt (H : Hp) (l : Addr) (c : Int) : Prop := ∃ a b : Int, H l = some (.lst [.int a, .int b, .int c]) ∧ 0 ≤ a ∧ 0 ≤ b ∧ b < 2 ^ 62 ∧ 0 ≤ c ∧ c ≤ 1000000
end
end Og
namespace Og
open PySem PySem.Spec PyProof.Rows L2 OgR Evl OgM
def dInts (l : List Int) : List PyData := l.map PyData.int
theorem dp_ints {K : PySem.W.Frag} {H : Hp} : ∀ l : List Int, DpAll K H (l.map V.int) (dInts l)
  | [] => .nil
  | i :: l => .cons (.int i) (dp_ints l)
def dLL (g : List Seg) : List PyData := g.map fun x => PyData.list (dInts (sgi x))
def PR (H0 H : Hp) (q : Addr) (x : Seg) : Prop := H0 q = none ∧ H q = some (.lst ((sgi x).map V.int))
structure LL (H0 H : Hp) (p : Addr) (g : List Seg) : Prop where
  new : H0 p = none
  ex : ∃ qs : List Addr, H p = some (.lst (qs.map V.ref)) ∧ Paired (PR H0 H) qs g ∧ p ∉ qs
theorem paired_mem {α β : Type} {F : α → β → Prop} : ∀ {l : List α} {g : List β}, Paired F l g → ∀ a ∈ l, ∃ b ∈ g, F a b
  | _, _, .nil, a, h => absurd h (by simp)
  | _, _, .cons r t, a, h => by
    rcases List.mem_cons.mp h with e | h
    · subst e
      exact ⟨_, by simp, r⟩
    · obtain ⟨b, hb, q⟩ := paired_mem t a h
      exact ⟨b, by simp [hb], q⟩
/-- the runs are kept where their lists are -/
theorem PR.keep {H0 H H' : Hp} {qs : List Addr} {g : List Seg} (h : Paired (PR H0 H) qs g) (k : ∀ q ∈ qs, ∀ o, H q = some o → H' q = some o) : Paired (PR H0 H') qs g := by
  induction h with
  | nil => exact .nil
  | cons r t ih =>
    exact .cons ⟨r.1, k _ (by simp) _ r.2⟩ (ih fun q hq o e => k q (by simp [hq]) o e)
theorem LL.len {H0 H : Hp} {p : Addr} {g : List Seg} (h : LL H0 H p g) : ∃ qs : List Addr, H p = some (.lst (qs.map V.ref)) ∧ qs.length = g.length := by
  obtain ⟨qs, e, r, _⟩ := h.ex
  exact ⟨qs, e, r.length⟩
theorem LL.keep {H0 H H' : Hp} {p : Addr} {g : List Seg} (h : LL H0 H p g) (e : Ex H H') : LL H0 H' p g := by
  obtain ⟨qs, e1, r, np⟩ := h.ex
  exact ⟨h.new, qs, e _ _ e1, PR.keep r (fun q _ o x => e q o x), np⟩
theorem pr_dp {K : PySem.W.Frag} {H0 H : Hp} : ∀ {qs : List Addr} {g : List Seg}, Paired (PR H0 H) qs g → DpAll K H (qs.map V.ref) (dLL g)
  | _, _, .nil => .nil
  | _, _, .cons a t => .cons (.lst (.inl (.inl a.2)) (dp_ints _)) (pr_dp t)
theorem LL.dp {K : PySem.W.Frag} {H0 H : Hp} {p : Addr} {g : List Seg} (h : LL H0 H p g) : Dp K H (.ref p) (.list (dLL g)) := by
  obtain ⟨qs, e1, r, _⟩ := h.ex
  exact .lst (.inl (.inl e1)) (pr_dp r)
end Og
namespace Og
open PySem PySem.Spec PyProof.Rows L2 OgR Evl OgM
theorem take_next {α : Type} {g : List α} {i : Nat} {x : α} (e : g[i]? = some x) : g.take (i + 1) = g.take i ++ [x] := by
  rw [List.take_add_one, e]
  rfl
end Og
namespace Og
open PySem PySem.Spec PyProof.Rows L2 OgR Evl OgM
def wstr : Wd → Str
  | .new => "new"
  | .beside => "beside"
  | .between => "between"
theorem Cw.new {H H' : Hp} {f : Nat → Bool} {v : Nat → V} {D T : Addr} {i : Nat} {o : HO} (h : Cw H f v D i H') (hT : H' T = none) : Cw H f v D i (upd H' T o) := by
  obtain ⟨h1, h2, h3⟩ := h
  exact ⟨h1, h2.trans (Ex.new hT), by rw [upd_ne (ne_of_none h3 hT)]; exact h3⟩
end Og
namespace Og
open PySem PySem.Spec PyProof.Rows L2 OgR Evl OgM
/-- choices, as a list or tuple (b) of lists or tuples (b') -/
def chV (c : Ch) : List V := [.str (wstr c.1), .int (c.2 : Nat)]
def ChIs (K : PySem.W.Frag) (b b' : Bool) (H : Hp) (a : Addr) (cs : List Ch) : Prop := ∃ ts : List Addr, SqB K b H a (ts.map V.ref) ∧ Paired (fun t c => SqB K b' H t (chV c)) ts cs
theorem ChIs.ex {K : PySem.W.Frag} {b b' : Bool} {H H' : Hp} {a : Addr} {cs : List Ch} (e : Ex H H') (h : ChIs K b b' H a cs) : ChIs K b b' H' a cs := by
  obtain ⟨ts, h1, h2⟩ := h
  exact ⟨ts, h1.ex e, h2.mono fun _ _ x => x.ex e⟩
section
variable {P : Program} {w : World} {K : PySem.W.Frag} {mg : Str → Option Value} {base : Heap}
theorem nodup_fresh {row : List Int} (h : row.Nodup) {i : Nat} {p : Int} (e : row[i]? = some p) : p ∉ row.take i := by
  intro m
  obtain ⟨j, hj⟩ := List.getElem?_of_mem m
  rw [List.getElem?_take] at hj
  split at hj
  · rename_i lt
    obtain ⟨a, ea⟩ := List.getElem?_eq_some_iff.mp e
    obtain ⟨b, eb⟩ := List.getElem?_eq_some_iff.mp hj
    have := (List.getElem_inj h).mp (eb.trans ea.symm)
    omega
  · cases hj
end
end Og
namespace Og
open PySem PySem.Spec PyProof.Rows L2 OgR Evl OgM
/-- all but l as it was -/
def ExB (l : Addr) (H H' : Hp) : Prop := ∀ a o, a ≠ l → H a = some o → H' a = some o
theorem ExB.of {l : Addr} {H H' : Hp} (e : Ex H H') : ExB l H H' := fun a o _ h => e a o h
theorem ExB.trans {l : Addr} {H H1 H2 : Hp} (a : ExB l H H1) (b : ExB l H1 H2) : ExB l H H2 := fun x o n h => b x o n (a x o n h)
theorem ExB.box {l : Addr} {H : Hp} {o : HO} : ExB l H (upd H l o) := fun x u n h => by
  rw [upd_ne n]
  exact h
theorem ExB.mut {l p : Addr} {H H' : Hp} {o : HO} (e : ExB l H H') (h : H p = none) : ExB l H (upd H' p o) := fun x u n hx => by
  rw [upd_ne (ne_of_none hx h)]
  exact e x u n hx
theorem BoxAt.ex {H H' : Hp} {l : Addr} {c : Int} (h : BoxAt H l c) (e : Ex H H') : BoxAt H' l c := by
  obtain ⟨a, b, h1, h2⟩ := h
  exact ⟨a, b, e _ _ h1, h2⟩
theorem BoxAt.at {H : Hp} {l : Addr} {c : Int} (h : BoxAt H l c) : ∃ xs, H l = some (.lst xs) := by
  obtain ⟨a, b, h1, _⟩ := h
  exact ⟨_, h1⟩
theorem BoxAt.upd {H : Hp} {l p : Addr} {c : Int} {o : HO} (h : BoxAt H l c) (n : l ≠ p) : BoxAt (upd H p o) l c := by
  obtain ⟨a, b, h1, h2⟩ := h
  exact ⟨a, b, by rw [upd_ne n]; exact h1, h2⟩
section
variable {P : Program} {w : World} {K : PySem.W.Frag} {mg : Str → Option Value} {base : Heap}
structure QInv (H : Hp) (l lf fo : Addr) (B : Int) (n i : Nat) (H3 : Hp) (c3 : Int) (lft row : List Int) : Prop where
  ex : ExB l H H3
  box : BoxAt H3 l c3
  hc : c3 ≤ B
  atL : H3 lf = some (.lst (lft.map V.int))
  atF : H3 fo = some (.lst (row.map V.int))
  nlf : lf ≠ l
  nfo : fo ≠ l
  nlo : lf ≠ fo
  fof : H fo = none
  rok : OgM.Row n row
  len : row.length = i
  nd : lft.Nodup
  mem : ∀ p, p ∈ lft ↔ (0 ≤ p ∧ p < n) ∧ p ∉ row
  cnt : lft.length + i = n
section
variable {H : Hp} {l lf fo : Addr} {B : Int} {n i : Nat} {H3 : Hp} {c3 : Int} {lft row : List Int}
theorem QInv.step {D : Addr} {z B' : Int} (h : QInv H l lf fo B n i H3 c3 lft row) (hb : c3 ≤ B') (hz : z ∈ lft) (hD : (upd H3 fo (.lst ((row ++ [z]).map V.int))) D = none) {H4 : Hp}
    (e : Ex (upd H3 fo (.lst ((row ++ [z]).map V.int))) H4) (at4 : H4 D = some (.lst ((lft.filter (· != z)).map V.int))) : QInv H l D fo B' n (i + 1) H4 c3 (lft.filter (· != z)) (row ++ [z]) := by
  have hz' := (h.mem z).mp hz
  obtain ⟨xs, hxl⟩ := h.box.at
  have b5 : BoxAt (upd H3 fo (.lst ((row ++ [z]).map V.int))) l c3 := h.box.upd (Ne.symm h.nfo)
  obtain ⟨xs5, hx5⟩ := b5.at
  refine ⟨(h.ex.mut h.fof).trans (.of e), b5.ex e, hb, at4, e _ _ upd_same, Ne.symm (ne_of_none hx5 hD), h.nfo, Ne.symm (ne_of_none upd_same hD), h.fof, ⟨?_, ?_, ?_⟩, ?_, h.nd.filter _, fun p => ?_, ?_⟩
  · rw [List.nodup_append]
    refine ⟨h.rok.nd, by simp, fun a ha b hb' e' => ?_⟩
    rw [List.mem_singleton.mp hb'] at e'
    subst e'
    exact hz'.2 ha
  · intro p hp
    rcases List.mem_append.mp hp with hp | hp
    · exact h.rok.lo p hp
    · rw [List.mem_singleton.mp hp]
      exact hz'.1.1
  · intro p hp
    rcases List.mem_append.mp hp with hp | hp
    · exact h.rok.hi p hp
    · rw [List.mem_singleton.mp hp]
      exact hz'.1.2
  · rw [List.length_append, h.len]
    rfl
  · rw [List.mem_filter, h.mem p]
    simp
    exact ⟨fun ⟨⟨a, b⟩, c⟩ => ⟨a, b, c⟩, fun ⟨a, b, c⟩ => ⟨⟨a, b⟩, c⟩⟩
  · have := filter_ne_len h.nd hz
    have := h.cnt
    omega
end
end
end Og
namespace Og
open PySem PySem.Spec PyProof.Rows L2 OgR Evl OgM
theorem ixT (K : PySem.W.Frag) {X : Cx} (h : X.K = K := by rfl) : IxR X (rIxT K) := by
  subst h
  exact ix_tup
def dk (v : V) (l : List Int) : List (Key × V) := l.map fun p => ((Sum.inl p : Key), v)
theorem dk_val (v : V) (k : Int) : ∀ l : List Int, valV (dk v l) (Sum.inl k) = if k ∈ l then some v else none
  | [] => by simp [dk, valV]
  | x :: r => by
    show valV ((Sum.inl x, v) :: dk v r) (Sum.inl k) = _
    by_cases e : x = k
    · rw [valV_pos (by rw [e])]
      simp [e]
    · rw [valV_neg (fun z => e (Sum.inl.inj z)), dk_val v k r]
      have : ¬ k = x := fun z => e z.symm
      simp [this]
theorem dk_some (v : V) (k : Int) (l : List Int) : (valV (dk v l) (Sum.inl k)).isSome = decide (k ∈ l) := by
  rw [dk_val]
  by_cases h : k ∈ l <;> simp [h]
theorem dk_put {v : V} {k : Int} {l : List Int} (h : k ∉ l) : putK (dk v l) (Sum.inl k) v = dk v (l ++ [k]) := by
  unfold putK
  have : ((dk v l).any fun kv => decide (kv.1 = Sum.inl k)) = false := by
    rw [valV_any, dk_some]
    simp [h]
  rw [this]
  simp [dk]
theorem dk_len (v : V) (l : List Int) : (dk v l).length = l.length := by simp [dk]
abbrev sNb : Stmt := topS 11
theorem scNb : FnScope ["row", "found", "built", "plot"] ["row"] (defScope sNb) := ⟨rfl, rfl, rfl, by decide +kernel, rfl, by decide +kernel, by decide +kernel⟩
abbrev sHouses : Stmt := topS 13
theorem scHouses : FnScope ["row", "beside"] ["row"] (defScope sHouses) := ⟨rfl, rfl, rfl, by decide +kernel, rfl, by decide +kernel, by decide +kernel⟩
def wordsV : List V := [.str (wstr .new), .str (wstr .beside), .str (wstr .between)]
section
variable {P : Program} {w : World} {K : PySem.W.Frag} {mg : Str → Option Value} {base : Heap}
def spNb (K : PySem.W.Frag) : Sp := fun vs H Q _ => ∃ (b : Bool) (a : Addr) (ns : List Int), vs = [.ref a] ∧ SqB K b H a (ns.map V.int) ∧ ns.Nodup ∧ ns.length ≤ 900 ∧
  ∀ H' p, Ex H H' → H p = none → H' p = some (.lst ((picks ns).map fun c => V.int (c.1.ix : Nat))) → Q (.ref p) H'
theorem b1_val (v : V) (k : Int) (l : List Int) : (valV (dk (.int 1) l) (Sum.inl k)).getD (.int 0) = .int (b1 (decide (k ∈ l)) : Nat) := by
  rw [dk_val]
  by_cases h : k ∈ l <;> simp [h, b1]
theorem ok_nb {f : Addr} {fd : FuncData} {k : Nat} (F : Fun K "neighbours" "neighbours" sNb f fd) : FnOk P w K mg base CX0 (k + 1) f fd ["row"] (spNb K) := by
  refine F.ok scNb (fun vs H Q E h => ?_) (fun cdv A outer s H vs Q E hr h => ?_)
  · obtain ⟨_, _, _, rfl, _⟩ := h
    rfl
  · obtain ⟨b, a, ns, rfl, hS, hnd, hlen, q⟩ := h
    have hu := hu_of hr
    refine ⟨_, pss_cons (ps_set (i := 1) scNb.nd rfl (.inl rfl) (pe_lst pa_nil)) (pss_cons (ps_set (i := 2) scNb.nd rfl (.inl rfl) pe_dnewK)
      (pss_cons (ps_for PassesOwn.never rfl (pi_seqB (pv 0)) (pg_name (i := 3) scNb.nd rfl (.inl rfl))
        (pss_cons (ps_expr (pe_bm PySem.F.plainAttrs_list PySem.F.slot_list_append PySem.F.type_list_append mt_append (pv 1) (pa_cons (pe_op op_add (pe_dget2 hu (pv 2) (pe_op op_sub (pv 3) pe_int) pe_int ⟨rfl, rfl, rfl, rfl⟩) (pe_dget2 hu (pv 2) (pe_op op_add (pv 3) pe_int) pe_int ⟨rfl, rfl, rfl, rfl⟩)) pa_nil)))
        (pss_one (ps_dput hu (pv 2) (pv 3) pe_int rfl))))
      (pss_one (ps_ret (pv 1))))), ?_⟩
    refine ⟨Nat.zero_le _, fun fo hfo d hd => ?_⟩
    have x1 : Ex H (upd H fo (.lst [])) := Ex.new hfo
    have x2 := x1.trans (Ex.new (o := .dK []) hd)
    have hd0 : H d = none := fresh_back x1 hd
    have nfd : fo ≠ d := ne_of_none upd_same hd
    refine ⟨_, rfl, b, a, _, rfl, hS.ex x2, for_it (walk_seqB (K := K) (b := b) (a := a) (xs := ns.map V.int)) (fun i σ H3 => ∃ y3, σ = [some (.ref a), some (.ref fo), some (.ref d), y3] ∧ Ex H H3 ∧ H3 fo = some (.lst (((picks ns).take i).map fun c => V.int (c.1.ix : Nat))) ∧ H3 d = some (.dK (dk (.int 1) (ns.take i)))) ?_ ?_ ?_ ?_⟩
    · refine ⟨none, rfl, x2, ?_, upd_same⟩
      rw [upd_ne nfd, upd_same]
      rfl
    · rintro i σ H3 _ ⟨_, _, e3, _⟩
      exact hS.ex e3
    · rintro i x σ H3 H3' hi ⟨y3, rfl, e3, hf3, hd3⟩ ⟨rfl, hx⟩
      rw [List.getElem?_map] at hx
      obtain ⟨p, hp, rfl⟩ := Option.map_eq_some_iff.mp hx
      have hfr := nodup_fresh hnd hp
      have hnb := nb_pick (hnd.sublist (List.take_sublist i ns)) hfr
      have hil := (List.getElem?_eq_some_iff.mp hp).1
      refine ⟨_, rfl, .inl ⟨rfl, _, .inl (.inl hf3)⟩, _, rfl, d, rfl, .inl ⟨_, .inl hd3⟩, _, rfl, _, _, rfl, rfl, _, DGet.k (k := Sum.inl (p - 1)) hd3, _, rfl, d, rfl, .inl ⟨_, .inl hd3⟩, _, rfl, _, _, rfl, rfl, _, DGet.k (k := Sum.inl (p + 1)) hd3, ?_⟩
      rw [b1_val (.int 1), b1_val (.int 1)]
      refine ⟨_, _, rfl, rfl, fo, _, _, rfl, rfl, hf3, ?_, ?_⟩
      · rw [List.length_map, List.length_take, picks_len]
        exact small1000 (by omega)
      · refine ⟨_, rfl, _, rfl, d, _, rfl, DPut.k (k := Sum.inl p) (kvs := dk (.int 1) (ns.take i)) ?_ ?_, _, rfl, Ex.mut (Ex.mut e3 hfo) hd0, ?_, ?_⟩
        · rw [upd_ne (Ne.symm nfd)]
          exact hd3
        · rw [dk_len, List.length_take]
          exact small1000 (by omega)
        · rw [upd_ne nfd, upd_same, take_next (picks_get hp), List.map_append]
          have e7 : (b1 (decide (p - 1 ∈ ns.take i)) : Int) + (b1 (decide (p + 1 ∈ ns.take i)) : Int) = ((pick p (segs (ns.take i))).1.ix : Int) := by
            rw [← hnb]
            omega
          show some (HO.lst (_ ++ [V.int ((b1 (decide (p - 1 ∈ ns.take i)) : Int) + (b1 (decide (p + 1 ∈ ns.take i)) : Int))])) = _
          rw [e7]
          rfl
        · rw [upd_same, dk_put hfr, take_next hp]
    · rintro σ H3 ⟨y3, rfl, e3, hf3, hd3⟩
      rw [List.take_of_length_le (by rw [picks_len, List.length_map]; exact Nat.le_refl _)] at hf3
      exact ⟨_, rfl, q H3 fo e3 hfo hf3⟩
def spHouses (K : PySem.W.Frag) : Sp := fun vs H Q _ => ∃ (b : Bool) (a : Addr) (ns : List Int), vs = [.ref a] ∧ SqB K b H a (ns.map V.int) ∧ ns.Nodup ∧ ns.length ≤ 900 ∧
  ∀ H' p, Ex H H' → H p = none → H' p = some (.tup ((picks ns).map fun c => V.str (wstr c.1))) → Q (.ref p) H'
theorem ok_houses {f fN aW : Addr} {fd fdN : FuncData} {k : Nat} (F : Fun K "houses" "houses" sHouses f fd) (FN : Fun K "neighbours" "neighbours" sNb fN fdN) (bN : Binds K fdN ["row"] []) (gN : mg "neighbours" = some (.ref fN))
    (gW : mg "WORDS" = some (.ref aW)) (sW : ∀ H, SqT K H aW wordsV) (mt : mg "tuple" = none) : FnOk P w K mg base CX0 (k + 2) f fd ["row"] (spHouses K) := by
  have GN : FnOk P w K mg base CX0 (k + 1) fN fdN ["row"] (spNb K) := ok_nb FN
  refine F.ok scHouses (fun vs H Q E h => ?_) (fun cdv A outer s H vs Q E hr h => ?_)
  · obtain ⟨_, _, _, rfl, _⟩ := h
    rfl
  · obtain ⟨b, a, ns, rfl, hS, hnd, hlen, q⟩ := h
    refine ⟨_, pss_one (ps_ret (pe_callTy call_tuple_of (by rfl) mt (by decide +kernel) (pa_cons
        (pe_lc (own := [("beside", 1)]) (g := gName 1) (by rfl) scHouses.nd (pi_list (pe_call GN hr (by rfl) gN FN.kp bN .nil pass0 (pa_cons (pv 0) pa_nil)))
          (blkOk_by (own := [("beside", 1)]) (N := ["row", "beside"]) (sc := defScope sHouses) (by decide +kernel))
          (fun _ _ _ _ _ => pg_name (i := 1) scHouses.nd rfl (Or.inl rfl) (hf := Or.inr rfl))
          (fun _ _ _ _ _ => pts_nil)
          (fun _ _ _ _ _ => pe_ix (ixT K) (pe_glob (v := .ref aW) rfl gW rfl) (pv 1) (fun _ _ => rfl))) pa_nil))), ?_⟩
    refine ⟨_, rfl, b, a, ns, rfl, hS, hnd, hlen, fun H1 fo e1 hfo hf1 => ⟨fo, rfl, ⟨_, .inl (.inl hf1)⟩, fun D hD => lc_list (xs := (picks ns).map fun c => V.int (c.1.ix : Nat)) (fun i H' => Ex H1 H' ∧ H' D = some (.lst (((picks ns).take i).map fun c => V.str (wstr c.1)))) ⟨Ex.new hD, upd_same⟩ (fun i H' _ c => .inl (.inl (c.1 _ _ hf1))) (fun i x H' hx c => ?_) (fun H2 c => ?_)⟩⟩
    · rw [List.getElem?_map] at hx
      obtain ⟨ch, hch, rfl⟩ := Option.map_eq_some_iff.mp hx
      have hil := (List.getElem?_eq_some_iff.mp hch).1
      rw [picks_len] at hil
      have hw : atI wordsV ((ch.1.ix : Nat) : Int) = some (.str (wstr ch.1)) := by
        refine atI_nat ?_
        cases ch.1 <;> rfl
      refine ⟨rfl, _, rfl, aW, wordsV, _, _, rfl, rfl, sW _, hw, _, c.2, ?_, Ex.mut c.1 hD, ?_⟩
      · rw [List.length_map, List.length_take, picks_len]
        exact small1000 (by omega)
      · rw [upd_same, take_next hch, List.map_append]
        rfl
    · rw [List.take_of_length_le (by rw [List.length_map]; exact Nat.le_refl _)] at c
      exact ⟨D, _, rfl, .inl ⟨.inl (.inl c.2), fun t ht => q _ t ((e1.trans c.1).trans (Ex.new ht)) (fresh_back (e1.trans c.1) ht) upd_same⟩⟩
end
end Og
namespace Og
open PySem PySem.Spec PyProof.Rows L2 OgR Evl OgM
def tv (n : Nat) : V := .int (n : Int)
def PTm (H0 H : Hp) (q : Addr) (ts : List Nat) : Prop := H0 q = none ∧ H q = some (.lst (ts.map tv))
structure TL (H0 H : Hp) (p : Addr) (qs : List Addr) (st : List (List Nat)) : Prop where
  new : H0 p = none
  ex : Ex H0 H
  atP : H p = some (.lst (qs.map V.ref))
  pr : Paired (PTm H0 H) qs st
  np : p ∉ qs
  nd : qs.Nodup
section
variable {H0 H : Hp} {p : Addr} {qs : List Addr} {st : List (List Nat)}
theorem TL.mem {q : Addr} (h : TL H0 H p qs st) (m : q ∈ qs) : ∃ ts, H q = some (.lst ts) ∧ H0 q = none := by
  obtain ⟨b, _, x⟩ := paired_mem h.pr q m
  exact ⟨_, x.2, x.1⟩
end
end Og
namespace OgM
theorem sum_add {α : Type} (f g : α → Nat) : ∀ l : List α, (l.map fun a => f a + g a).sum = (l.map f).sum + (l.map g).sum
  | [] => rfl
  | a :: l => by
    simp only [List.map_cons, List.sum_cons, sum_add f g l]
    omega
end OgM
namespace OgM
end OgM
namespace OgM
def cA (ns : List Nt) (t : Nat) (c : Nat → Nat) (l j : Nat) : Nat := ((List.range l).map fun m => ((wordsAt ns t m).map fun w => if nextM m w = j then c m * waysN w m else 0).sum).sum
def St (ns : List Nt) : Nat → Nat → Nat
  | 0, m => if m = 0 then 1 else 0
  | t + 1, j => cA ns t (St ns t) (t + 1) j
end OgM
namespace OgM
end OgM
namespace OgM
end OgM
namespace Dw
open PySem OgM OgR L2
abbrev Tr := Nat × Nat × Nat
abbrev Tb := List (Tr × Nat)
def BoxT (N : Nat) (b : Tb) : Prop := (b.map (·.1)).Nodup ∧ ∀ e ∈ b, e.1.1 ≤ N ∧ e.1.2.1 ≤ N ∧ e.1.2.2 ≤ N
theorem BoxT.nil (N : Nat) : BoxT N [] := ⟨List.nodup_nil, fun _ h => nomatch h⟩
theorem BoxT.mono {N M : Nat} {b : Tb} (h : BoxT N b) (l : N ≤ M) : BoxT M b := ⟨h.1, fun e he => by have := h.2 e he; omega⟩
theorem filt_len (M : Nat) : ∀ l : List Nat, l.Nodup → l.length ≤ (l.filter (· != M)).length + 1
  | [], _ => Nat.zero_le _
  | x :: l, h => by
    rw [List.nodup_cons] at h
    by_cases z : x = M
    · subst z
      have e : l.filter (· != x) = l := List.filter_eq_self.mpr fun y hy => by
        have : y ≠ x := fun z => h.1 (by rw [← z]; exact hy)
        simpa using this
      rw [List.filter_cons_of_neg (by simp), e, List.length_cons]
      exact Nat.le_refl _
    · rw [List.filter_cons_of_pos (by simpa using z), List.length_cons, List.length_cons]
      have := filt_len M l h.2
      omega
theorem nodup_len : ∀ (M : Nat) (l : List Nat), l.Nodup → (∀ x ∈ l, x < M) → l.length ≤ M
  | 0, [], _, _ => Nat.zero_le _
  | 0, x :: _, _, h => absurd (h x List.mem_cons_self) (by omega)
  | M + 1, l, hn, h => by
    have ih := nodup_len M (l.filter (· != M)) (hn.filter _) fun x hx => by
      obtain ⟨h1, h2⟩ := List.mem_filter.mp hx
      have := h x h1
      have : x ≠ M := by simpa using h2
      omega
    have hc := filt_len M l hn
    omega
theorem BoxT.len {N : Nat} {b : Tb} (h : BoxT N b) : b.length ≤ (N + 1) * ((N + 1) * (N + 1)) := by
  have := nodup_len ((N + 1) * ((N + 1) * (N + 1))) (b.map fun e => e.1.1 + (N + 1) * (e.1.2.1 + (N + 1) * e.1.2.2)) (by
    have := h.1
    have h2 := h.2
    clear h
    induction b with
    | nil => exact List.nodup_nil
    | cons e b ih =>
      rw [List.map_cons, List.nodup_cons] at this
      rw [List.map_cons, List.nodup_cons]
      refine ⟨fun hm => ?_, ih this.2 fun e he => h2 e (List.mem_cons_of_mem _ he)⟩
      obtain ⟨e', he', q⟩ := List.mem_map.mp hm
      apply this.1
      refine List.mem_map.mpr ⟨e', he', ?_⟩
      have b1 := h2 e List.mem_cons_self
      have b2 := h2 e' (List.mem_cons_of_mem _ he')
      obtain ⟨⟨a1, a2, a3⟩, w⟩ := e
      obtain ⟨⟨c1, c2, c3⟩, w'⟩ := e'
      simp only at b1 b2 q ⊢
      have m1 : c1 = a1 := by
        have := congrArg (· % (N + 1)) q
        simpa [Nat.add_mul_mod_self_left, Nat.mod_eq_of_lt (show c1 < N + 1 by omega), Nat.mod_eq_of_lt (show a1 < N + 1 by omega)] using this
      have m2 : c2 + (N + 1) * c3 = a2 + (N + 1) * a3 := by
        rw [m1] at q
        exact Nat.eq_of_mul_eq_mul_left (show 0 < N + 1 by omega) (by omega)
      have m3 : c2 = a2 := by
        have := congrArg (· % (N + 1)) m2
        simpa [Nat.add_mul_mod_self_left, Nat.mod_eq_of_lt (show c2 < N + 1 by omega), Nat.mod_eq_of_lt (show a2 < N + 1 by omega)] using this
      have m4 : c3 = a3 := by
        rw [m3] at m2
        exact Nat.eq_of_mul_eq_mul_left (show 0 < N + 1 by omega) (by omega)
      rw [m1, m3, m4]) (fun x hx => by
    obtain ⟨e, he, rfl⟩ := List.mem_map.mp hx
    have hb := h.2 e he
    have : e.1.2.1 + (N + 1) * e.1.2.2 + 1 ≤ (N + 1) * (N + 1) := by
      have := Nat.mul_le_mul_left (N + 1) hb.2.2
      have e3 : (N + 1) * (N + 1) = (N + 1) * N + (N + 1) := by rw [Nat.mul_add, Nat.mul_one]
      omega
    have := Nat.mul_le_mul_left (N + 1) this
    rw [Nat.mul_add, Nat.mul_one] at this
    omega)
  rw [List.length_map] at this
  exact this
theorem BoxT.small {N : Nat} {b : Tb} (h : BoxT N b) (hN : N ≤ 40) : b.length < 100000 := by
  have h1 := h.len
  have h2 : (N + 1) * ((N + 1) * (N + 1)) ≤ 41 * (41 * 41) := Nat.mul_le_mul (by omega) (Nat.mul_le_mul (by omega) (by omega))
  omega
end Dw
namespace Dw
open PySem OgM OgR L2
end Dw
namespace Dw
open PySem OgM OgR L2
def fI (e i : Nat) (k : Tr) : Nat := ((List.range (e + 1)).map fun b => if k.2.2 + b = i then cho b k.1 * cho (e - b) k.2.1 else 0).sum
theorem conv : ∀ (e l r : Nat), ((List.range (e + 1)).map fun b => cho b l * cho (e - b) r).sum = cho (e + 1) (l + r + 1)
  | 0, l, r => by
    show cho 0 l * cho 0 r + 0 = cho 0 (l + r) + cho 0 (l + r + 1)
    rw [show cho 0 (l + r + 1) = 0 from rfl]
    cases l with
    | zero => rw [show cho 0 0 = 1 from rfl, Nat.zero_add]; omega
    | succ l => rw [show cho 0 (l + 1) = 0 from rfl, show l + 1 + r = l + r + 1 by omega, show cho 0 (l + r + 1) = 0 from rfl]; omega
  | e + 1, l, 0 => by
    have ih := conv e l 0
    rw [List.range_succ, List.map_append, List.sum_append]
    have e1 : ((List.range (e + 1)).map fun b => cho b l * cho (e + 1 - b) 0).sum = ((List.range (e + 1)).map fun b => cho b l * cho (e - b) 0).sum := by
      congr 1
      refine List.map_congr_left fun b _ => ?_
      rw [choose_0, choose_0]
    rw [e1, ih]
    show cho (e + 1) (l + 0 + 1) + (cho (e + 1) l * cho (e + 1 - (e + 1)) 0 + 0) = cho (e + 1) (l + 0) + cho (e + 1) (l + 0 + 1)
    rw [choose_0, Nat.mul_one, Nat.add_zero, Nat.add_zero]
    have : l + 0 = l := rfl
    exact Nat.add_comm _ _
  | e + 1, l, r + 1 => by
    have i1 := conv e l r
    have i2 := conv e l (r + 1)
    rw [List.range_succ, List.map_append, List.sum_append]
    have e1 : ((List.range (e + 1)).map fun b => cho b l * cho (e + 1 - b) (r + 1)).sum = ((List.range (e + 1)).map fun b => cho b l * cho (e - b) r).sum + ((List.range (e + 1)).map fun b => cho b l * cho (e - b) (r + 1)).sum := by
      rw [← sum_add]
      congr 1
      refine List.map_congr_left fun b hb => ?_
      have hb := List.mem_range.mp hb
      rw [show e + 1 - b = (e - b) + 1 by omega, show cho (e - b + 1) (r + 1) = cho (e - b) r + cho (e - b) (r + 1) from rfl, Nat.mul_add]
    rw [e1, i1, i2]
    show _ + (cho (e + 1) l * cho (e + 1 - (e + 1)) (r + 1) + 0) = cho (e + 1) (l + (r + 1)) + cho (e + 1) (l + (r + 1) + 1)
    rw [Nat.sub_self, show cho 0 (r + 1) = 0 from rfl, show l + (r + 1) = l + r + 1 by omega]
    omega
end Dw
namespace Dw
open PySem OgM OgR L2
end Dw
namespace OgM
def mirS (c : Int) (x : Seg) : Seg := (c - x.1 - x.2, x.2)
def mirG (c : Int) (g : List Seg) : List Seg := (g.map (mirS c)).reverse
theorem mirG_cons (c : Int) (x : Seg) (r : List Seg) : mirG c (x :: r) = mirG c r ++ [mirS c x] := by
  unfold mirG
  rw [List.map_cons, List.reverse_cons]
theorem mirG_len (c : Int) (g : List Seg) : (mirG c g).length = g.length := by
  unfold mirG
  rw [List.length_reverse, List.length_map]
theorem mem_mir {c q : Int} {g : List Seg} : Mem q (mirG c g) ↔ Mem (c - q) g := by
  unfold mirG Mem
  constructor
  · rintro ⟨x, hx, h1, h2⟩
    rw [List.mem_reverse, List.mem_map] at hx
    obtain ⟨y, hy, rfl⟩ := hx
    refine ⟨y, hy, ?_, ?_⟩ <;> simp only [mirS] at h1 h2 <;> omega
  · rintro ⟨y, hy, h1, h2⟩
    refine ⟨mirS c y, List.mem_reverse.mpr (List.mem_map.mpr ⟨y, hy, rfl⟩), ?_, ?_⟩ <;> simp only [mirS] <;> omega
theorem ok_snoc {x : Seg} : ∀ {g : List Seg} {lo : Int}, Ok lo g → lo < x.1 → (∀ y ∈ g, y.1 + y.2 + 1 < x.1) → Ok lo (g ++ [x])
  | [], _, _, h, _ => ⟨h, trivial⟩
  | y :: r, lo, k, _, hy => ⟨k.1, ok_snoc (x := x) k.2 (hy y List.mem_cons_self) fun z hz => hy z (List.mem_cons_of_mem _ hz)⟩
theorem ok_mem_lt : ∀ {g : List Seg} {lo : Int}, Ok lo g → ∀ y ∈ g, lo < y.1
  | x :: r, lo, k, y, h => by
    rcases List.mem_cons.mp h with z | z
    · rw [z]; exact k.1
    · have := ok_mem_lt k.2 y z
      have := k.1
      omega
theorem ok_mir {c hi : Int} : ∀ {g : List Seg} {lo : Int}, Ok lo g → (∀ x ∈ g, x.1 + x.2 < hi) → Ok (c - hi) (mirG c g)
  | [], _, _, _ => trivial
  | x :: r, lo, k, h => by
    rw [mirG_cons]
    refine ok_snoc (ok_mir k.2 fun y hy => h y (List.mem_cons_of_mem _ hy)) ?_ fun y hy => ?_
    · have := h x List.mem_cons_self
      simp only [mirS]
      omega
    · unfold mirG at hy
      rw [List.mem_reverse, List.mem_map] at hy
      obtain ⟨z, hz, rfl⟩ := hy
      have := ok_mem_lt k.2 z hz
      simp only [mirS]
      omega
def mirR (n : Int) (row : List Int) : List Int := row.map fun x => n - 1 - x
theorem row_mir {n : Int} {row : List Int} (h : Row n row) : Row n (mirR n row) := by
  refine ⟨?_, fun p hp => ?_, fun p hp => ?_⟩
  · unfold mirR
    rw [List.Nodup, List.pairwise_map]
    exact h.nd.imp fun hab z => hab (by omega)
  · obtain ⟨x, hx, rfl⟩ := List.mem_map.mp hp
    have := h.hi x hx
    omega
  · obtain ⟨x, hx, rfl⟩ := List.mem_map.mp hp
    have := h.lo x hx
    omega
theorem mir_mir {n : Int} (row : List Int) : mirR n (mirR n row) = row := by
  unfold mirR
  rw [List.map_map]
  have : ((fun x => n - 1 - x) ∘ fun x => n - 1 - x) = (id : Int → Int) := by
    funext x
    show n - 1 - (n - 1 - x) = x
    omega
  rw [this, List.map_id]
theorem mir_take (n : Int) (row : List Int) (i : Nat) : mirR n (row.take i) = (mirR n row).take i := by
  unfold mirR
  rw [List.map_take]
theorem mir_len (n : Int) (row : List Int) : (mirR n row).length = row.length := by
  unfold mirR
  rw [List.length_map]
theorem segs_mir {n : Int} {row : List Int} (h : Row n row) : segs (mirR n row) = mirG (n - 1) (segs row) := by
  have h1 := (row_mir h).ok
  have h2 := h.ok
  refine ok_ext h1.1 (ok_mir (hi := n) h2.1 fun x hx => ?_) fun q => ?_
  · have := h.hi (x.1 + x.2) ((h2.2 _).mp ⟨x, hx, by omega, by omega⟩)
    exact this
  · rw [h1.2, mem_mir, h2.2]
    unfold mirR
    constructor
    · intro hq
      obtain ⟨x, hx, rfl⟩ := List.mem_map.mp hq
      rw [show n - 1 - (n - 1 - x) = x by omega]
      exact hx
    · intro hq
      exact List.mem_map.mpr ⟨_, hq, by omega⟩
theorem left_mir {c p : Int} : ∀ {g : List Seg}, ¬ Mem p g → left (c - p) (mirG c g) + left p g = g.length
  | [], _ => rfl
  | x :: r, nm => by
    have nm1 : ¬ (x.1 ≤ p ∧ p ≤ x.1 + x.2) := fun e => nm (mem_cons.mpr (.inl e))
    have ih := left_mir (c := c) (g := r) fun e => nm (mem_cons.mpr (.inr e))
    have e1 : left (c - p) (mirG c (x :: r)) = left (c - p) (mirG c r) + if p < x.1 then 1 else 0 := by
      rw [mirG_cons]
      unfold left
      rw [List.filter_append, List.length_append]
      congr 1
      by_cases z : p < x.1
      · have e2 : (mirS c x).1 + ((mirS c x).2 : Int) < c - p := by show c - x.1 - (x.2 : Int) + (x.2 : Int) < c - p; omega
        rw [if_pos z, List.filter_cons_of_pos (by simpa using e2)]
        rfl
      · have e2 : ¬ (mirS c x).1 + ((mirS c x).2 : Int) < c - p := by show ¬ c - x.1 - (x.2 : Int) + (x.2 : Int) < c - p; omega
        rw [if_neg z, List.filter_cons_of_neg (by simpa using e2)]
        rfl
    rw [e1, List.length_cons]
    by_cases z : p < x.1
    · rw [if_pos z]
      have e2 : left p (x :: r) = left p r := by
        obtain ⟨s, n⟩ := x
        exact left_no (by simp only at z ⊢; omega)
      rw [e2]
      omega
    · rw [if_neg z]
      have e2 : left p (x :: r) = left p r + 1 := by
        obtain ⟨s, n⟩ := x
        exact left_yes (by simp only at nm1 z ⊢; omega)
      rw [e2]
      omega
/-- a choice from the other end, m groups before -/
def mirC (m : Nat) (c : Ch) : Ch := (c.1, waysN c.1 m - 1 - c.2)
theorem pick_mir {c p lo lo' : Int} {g : List Seg} (k : Ok lo g) (k' : Ok lo' (mirG c g)) (nm : ¬ Mem p g) : pick (c - p) (mirG c g) = mirC g.length (pick p g) := by
  have nm' : ¬ Mem (c - p) (mirG c g) := fun e => nm (by rw [mem_mir, show c - (c - p) = p by omega] at e; exact e)
  have s1 := says k nm
  have s2 := says k' nm'
  have hl := left_mir (c := c) nm
  have m1 : Mem (c - p - 1) (mirG c g) ↔ Mem (p + 1) g := by rw [mem_mir, show c - (c - p - 1) = p + 1 by omega]
  have m2 : Mem (c - p + 1) (mirG c g) ↔ Mem (p - 1) g := by rw [mem_mir, show c - (c - p + 1) = p - 1 by omega]
  have a1 := s1.new
  have a2 := s1.btw
  have b1 := s2.new
  have b2 := s2.btw
  rw [m1, m2] at b1 b2
  have lenm := mirG_len c g
  generalize pick p g = x at s1 a1 a2 ⊢
  generalize pick (c - p) (mirG c g) = y at s2 b1 b2 ⊢
  obtain ⟨w, i⟩ := x
  obtain ⟨v, j⟩ := y
  have wv : v = w := by
    cases w with
    | new => exact b1.mpr ((a1.mp rfl).symm)
    | between => exact b2.mpr ((a2.mp rfl).symm)
    | beside =>
      cases v with
      | beside => rfl
      | new => exact absurd (a1.mpr (b1.mp rfl).symm) (by simp)
      | between => exact absurd (a2.mpr (b2.mp rfl).symm) (by simp)
  subst wv
  unfold mirC
  have n1 := s1.n1
  have n2 := s1.n2
  have n3 := s1.n3
  have n4 := s1.n4
  have o1 := s2.n1
  have o2 := s2.n2
  have o3 := s2.n3
  have o4 := s2.n4
  rw [m1] at o3 o4
  rw [lenm] at o1 o2 o3 o4
  refine Prod.ext rfl ?_
  cases v with
  | new =>
    have h1 := n1 rfl
    have h2 := o1 rfl
    show j = g.length + 1 - 1 - i
    simp only at h1 h2
    omega
  | between =>
    have h1 := n2 rfl
    have h2 := o2 rfl
    show j = g.length - 1 - 1 - i
    simp only at h1 h2
    omega
  | beside =>
    show j = 2 * g.length - 1 - i
    by_cases z : Mem (p - 1) g
    · have z2 : ¬ Mem (p + 1) g := fun e => absurd (a2.mpr ⟨z, e⟩) (by simp)
      have h1 := n3 rfl z
      have h2 := o4 rfl z2
      simp only at h1 h2
      omega
    · have z2 : Mem (p + 1) g := Classical.byContradiction fun e => absurd (a1.mpr ⟨z, e⟩) (by simp)
      have h1 := n4 rfl z
      have h2 := o3 rfl z2
      simp only at h1 h2
      omega
theorem picks_mir {n : Int} {row : List Int} (h : Row n row) : picks (mirR n row) = (List.range row.length).map fun i => mirC (segs (row.take i)).length (pick (row.getD i 0) (segs (row.take i))) := by
  unfold picks
  rw [mir_len]
  refine List.map_congr_left fun i hi => ?_
  have hi := List.mem_range.mp hi
  have e : row[i]? = some row[i] := List.getElem?_eq_getElem hi
  have e1 : row.getD i 0 = row[i] := by rw [List.getD_eq_getElem?_getD, e]; rfl
  have e2 : (mirR n row).getD i 0 = n - 1 - row[i] := by
    unfold mirR
    rw [List.getD_eq_getElem?_getD, List.getElem?_map, e]
    rfl
  have ht := h.take i
  have k' := (row_mir ht).ok.1
  rw [segs_mir ht] at k'
  rw [e1, e2, ← mir_take, segs_mir ht]
  exact pick_mir ht.ok.1 k' fun m => h.fresh e ((ht.ok.2 _).mp m)
theorem segs_len_mir {n : Int} {row : List Int} (h : Row n row) (i : Nat) : (segs ((mirR n row).take i)).length = (segs (row.take i)).length := by
  rw [← mir_take, segs_mir (h.take i), mirG_len]
theorem picks_mir_get {n : Int} {row : List Int} (h : Row n row) {i : Nat} {w : Wd} {c : Nat} (e : (picks row)[i]? = some (w, c)) : (picks (mirR n row))[i]? = some (w, waysN w (segs (row.take i)).length - 1 - c) := by
  have hi : i < row.length := by
    have := (List.getElem?_eq_some_iff.mp e).1
    rw [picks_len] at this
    exact this
  rw [picks_mir h, List.getElem?_map, List.getElem?_range hi]
  have e1 : pick (row.getD i 0) (segs (row.take i)) = (w, c) := by
    unfold picks at e
    rw [List.getElem?_map, List.getElem?_range hi] at e
    exact Option.some.inj e
  show some (mirC _ (pick _ _)) = _
  rw [e1]
  rfl
end OgM
namespace Gx
open PySem PySem.Spec PyProof.Rows L2
section
variable {M : Model} {A : Around} {s : Shared} {E : Value → Shared → Prop}
theorem each_on {α β : Type} {f : α → β → Sem (ForInStep β)} {b : β} {Q : β → Shared → Prop} : ∀ {cs : List α}, (∀ c ∈ cs, ∀ R : ForInStep β → Shared → Prop, R (.yield b) s → wpAny M A (f c b) R E s) → Q b s → wpAny M A (forIn cs b f) Q E s
  | [], _, q => by
    simp only [List.forIn_nil]
    exact wpAny_pure q
  | c :: cs, h, q => by
    simp only [List.forIn_cons]
    exact wpAny_bind (h c List.mem_cons_self _ (each_on (fun c' hc => h c' (List.mem_cons_of_mem _ hc)) q))
theorem each_any {α β : Type} {f : α → β → Sem (ForInStep β)} {b b1 : β} {p : α → Bool} {Q : β → Shared → Prop} : ∀ {cs : List α}, (∀ c ∈ cs, ∀ R : ForInStep β → Shared → Prop, R (if p c = true then .done b1 else .yield b) s → wpAny M A (f c b) R E s) → Q (if cs.any p = true then b1 else b) s → wpAny M A (forIn cs b f) Q E s
  | [], _, q => by
    simp only [List.forIn_nil]
    exact wpAny_pure q
  | c :: cs, h, q => by
    simp only [List.forIn_cons]
    refine wpAny_bind (h c List.mem_cons_self _ ?_)
    rw [List.any_cons] at q
    cases hp : p c with
    | true =>
      rw [hp] at q
      exact wpAny_pure q
    | false =>
      rw [hp, Bool.false_or] at q
      exact each_any (fun c' hc => h c' (List.mem_cons_of_mem _ hc)) q
end
section
variable {M : Model} {K : PySem.W.Frag}
def exOn (K : PySem.W.Frag) (cls c : Value) : Bool := (PySem.W.exmOne K cls c).getD false
theorem exm_some {cls : Value} : ∀ {cs : List Value} {b : Bool}, PySem.W.exmAny K cls cs = some b → (∀ c ∈ cs, PySem.W.exmOne K cls c = some (exOn K cls c)) ∧ b = cs.any (exOn K cls)
  | [], b, h => ⟨fun _ z => (nomatch z), (Option.some.inj h).symm⟩
  | c :: cs, b, h => by
    obtain ⟨b1, d1, h1, h2, e⟩ := PySem.W.exmAny_cons h
    obtain ⟨h3, h4⟩ := exm_some h2
    have e1 : exOn K cls c = b1 := by unfold exOn; rw [h1]; rfl
    refine ⟨fun c' hc => ?_, ?_⟩
    · rcases List.mem_cons.mp hc with rfl | hc
      · rw [h1, e1]
      · exact h3 c' hc
    · rw [List.any_cons, e1, e, h4]
theorem exm_all {cs : List Value} {cls : Value} {tp e : Addr} {b : Bool} {h : Heap} (hI : K.In h) (LT : PySem.W.Looks M h (typeOf (.ref e)) cls) (hp : h.get? tp = some { cls := .type "tuple", data := .seq cs.toArray }) (hx : PySem.W.exmAny K cls cs = some b) :
    PySem.W.Looks M h (excMatches (.ref e) (.ref tp)) b := by
  obtain ⟨h1, rfl⟩ := exm_some hx
  intro A Q E s k q
  have isT : PySem.W.Looks M h (isInstance (.ref tp) (.type "tuple")) true := ((PySem.W.Looks.ld hp).andThen .now).andThen (PySem.W.Looks.of_pure isSubtype_tuple_tuple)
  obtain ⟨hh, g, d, tk, os⟩ := s
  have hp' := k _ _ hp
  unfold excMatches
  refine wpAny_bind ((isT.keeps k).at ?_)
  dsimp only
  rw [if_pos rfl]
  first
    | refine wpAny_bind (wpAny_seqItems hp' rfl ?_)
    | refine wpAny_bind (wpAny_bind (wpAny_seqItems hp' rfl (wpAny_pure ?_)))
  dsimp only [Option.getD_some, Option.getD]
  first
    | refine wpAny_bind (wpAny_pure ?_)
    | skip
  refine wpAny_bind (each_on (fun c hc R r => ?_) ?_)
  · refine wpAny_bind (((PySem.W.exm_cls (M := M) hI (h1 c hc)).1.keeps k).at ?_)
    simp only [Bool.not_true, Bool.false_eq_true, if_false]
    exact wpAny_pure r
  · refine wpAny_bind ((LT.keeps k).at ?_)
    refine wpAny_bind (each_any (p := exOn K cls) (b1 := (some true, ())) (fun c hc R r => ?_) ?_)
    · refine wpAny_bind (((PySem.W.exm_cls (M := M) hI (h1 c hc)).2.keeps k).at ?_)
      cases z : exOn K cls c with
      | true => rw [z] at r; exact wpAny_pure r
      | false => rw [z] at r; exact wpAny_pure r
    · cases z : cs.any (exOn K cls) with
      | true => rw [z] at q; exact wpAny_pure q
      | false => rw [z] at q; exact wpAny_pure q
end
section
inductive NmsT (X : Cx) : List Expr → List Value → Prop
  | nil : NmsT X [] []
  | cons {x : Str} {q : Pos} {c : Value} {es : List Expr} {cs : List Value} (h : Names X x c) (r : NmsT X es cs) : NmsT X (.Name x q :: es) (c :: cs)
variable {X : Cx} {es : List Expr} {cs : List Value} {n m : Str} {i j : Nat} {body : List Stmt} {tp mp np ap pos pos' : Pos} {kk : Nat} {tb : WX → TS} {Wout : WX}
theorem ps_try_keepN (hex : X.ex = []) (hs : X.stack = X.env :: X.outer) (hf : X.env.frame = some X.env.locals) (hN : X.N.Nodup) (hi : X.N[i]? = some n) (hln : X.env.kindOf n = some .local) (hj : X.N[j]? = some m) (hlm : X.env.kindOf m = some .local)
    (nms : NmsT X es cs) (hcs : cs.length ≤ 100) (tk : Takes X Wout)
    (hb : ∀ (W : WX) (pn : List (Addr × Obj)) (xe : Value → Shared → Prop), Takes (X.tr pn xe) W → PassesOwn (model X.prog X.w) X.A X.env xe → PSs (X.tr pn xe) body (tb W))
    (hsu : ∀ (a : Addr) (oe : Obj) (pn : List (Addr × Obj)), PSs (X.suite a ((a, oe) :: pn)) [.Assign [.Name m mp] (.Name n np) ap] (tAsg (tVar i) (gName j))) :
    PS X (.Try body [.ExceptHandler (some (.Tuple es kk tp)) (some n) [.Assign [.Name m mp] (.Name n np) ap] pos'] [] [] pos) (fun D σ H => tb (wKeep X.K cs i j Wout D) D σ H) := by
  refine ⟨fun pins s σ H D I h => ?_⟩
  have ok := I.ok
  have fr : X.A.frames = some (X.env :: X.outer) := by rw [ok.frames, hs]
  refine wpAny_Try_except ?_
  refine wpAny_mono ((hb (wKeep X.K cs i j Wout D) (X.pn ++ pins) (fun e s1 => wpAny (model X.prog X.w) X.A (noteFrame e X.env) (fun _ s2 => wpAny (model X.prog X.w) X.A (setFlight e none) (fun _ s3 =>
    wpAny (model X.prog X.w) X.A (handleBy e X.env [.ExceptHandler (some (.Tuple es kk tp)) (some n) [.Assign [.Name m mp] (.Name n np) ap] pos']) (SP X pins D) X.xe s3) X.xe s2) X.xe s1) (fun u s' xx => ?_) PassesOwn.looking).run [] s σ H D (I.toTry _) h) (fun fl s1 hsp => ?_) (fun _ _ he => he)
  · obtain ⟨a, B, sI, pins', σ', H', cls, d, rfl, J', nb, up, sky, na, os, ag, b, hb1, yes, no⟩ := xx
    have J : Inv X pins σ' H' sI := J'.ofTry ok
    have sky1 : Sky B (X.env :: X.outer) a (Zc cls d) X.env.locals s'.heap := hs ▸ sky
    show wpAny (model X.prog X.w) X.A (noteFrame (.ref a) X.env) _ _ _
    refine Sky.land Zc.steady fr hf sky1 fun h3 fl3 up3 => ?_
    obtain ⟨oe3, vs3, he3, hz3, hd3⟩ := fl3.there
    have Ba : B.get? a = none := fl3.2.1
    have nfr : a ∉ frs (X.env :: X.outer) := fun hm => by
      obtain ⟨_, o1, e1, hnf⟩ := fl3.2.2.1.mem hm
      rw [he3] at e1
      cases e1
      exact hnf _ hd3
    have nL : a ≠ X.env.locals := fun z => nfr (List.mem_filterMap.mpr ⟨X.env, List.mem_cons_self, by rw [hf, z]⟩)
    have nF : a ∉ X.fs := fun hm => by
      obtain ⟨e, he, q⟩ := List.mem_filterMap.mp hm
      exact nfr (List.mem_filterMap.mpr ⟨e, List.mem_cons_of_mem _ he, q⟩)
    have notI : ∀ o, sI.heap.get? a ≠ some o := fun o e => by
      rw [nb a o e (by rw [hs]; exact nfr)] at Ba
      cases Ba
    have n0 : X.s_0.heap.get? a = none := by
      cases z : X.s_0.heap.get? a with
      | none => rfl
      | some o =>
        obtain ⟨o1, e1⟩ := J.base.there a o z (by rw [hex]; exact fun z => nomatch z)
        exact absurd e1 (notI o1)
    have nP : ∀ p ∈ X.pn ++ pins, p.1 ≠ a := fun p hp z => by
      have := (J.pin p hp).1
      rw [z] at this
      exact notI _ this
    have J3 : Inv X pins σ' H' { s' with heap := h3 } := J.landed nb fl3.1 (up.trans up3) os ag
    have S3 := J3.suite he3 hd3 na nL nF
    have look : ∀ {x : Str} {c : Value} {q : Pos} {Q : Value → Shared → Prop} {E : Value → Shared → Prop}, Names X x c → Q c { s' with heap := h3 } → wpAny (model X.prog X.w) (X.A.mark (some (.ref a))) (eval (.Name x q) X.env) Q E { s' with heap := h3 } := fun {x c q Q E} hc w => by
      obtain ⟨hg, hdb, hm | ⟨hm, hv, hnn⟩⟩ := hc
      · exact ld_glob (X := X.suite a ((a, oe3) :: (X.pn ++ pins))) S3 hg hm w hdb
      · exact ld_blt (X := X.suite a ((a, oe3) :: (X.pn ++ pins))) S3 hg hm hv w hnn hdb
    refine wpAny_handleBy_cons (codeAny_handlers_test ?_) (by intro z; cases z)
    have LT : PySem.W.Looks (model X.prog X.w) h3 (typeOf (.ref a)) cls := fun A Q E s k w => wpAny_typeOf_ref (k _ _ he3) (by rw [hz3.1]; exact w)
    have kp : ∀ b o, h3.get? b = some o → (h3.push { cls := .type "tuple", data := .seq cs.toArray }).get? b = some o := fun _ _ z => Heap.get?_push_of_some _ z
    have items : ∀ {es : List Expr} {cs : List Value} {tq : Pos} {Q : List Value → Shared → Prop} {E : Value → Shared → Prop}, NmsT X es cs → Q cs { s' with heap := h3 } → wpAny (model X.prog X.w) (X.A.mark (some (.ref a))) (spliced (backTo tq (starEach es X.env))) Q E { s' with heap := h3 } := fun {es cs tq Q E} hn => by
      intro w
      induction hn generalizing Q with
      | nil => exact wpAny_items_nil w
      | cons hc _ ih => exact wpAny_items_cons (look hc (ih w))
    refine wpAny_Tuple (items nms ⟨Nat.le_trans hcs (by decide), ?_⟩)
    refine (exm_all (M := model X.prog X.w) (J3.kIn.keeps kp) (LT.keeps kp) (Heap.get?_push_size h3 rfl) hb1).here ?_
    have fl5 := fly_keep fl3 kp
    have up5 : sI.heap.UpToSlots (h3.push { cls := .type "tuple", data := .seq cs.toArray }) := (up.trans up3).trans (Heap.UpToSlots.of_keeps kp)
    cases b with
    | true =>
      refine codeAny_handlers_suite_as ?_
      refine HandSPX.lands_againZ fl5 fun h4 fl4 up4 => ?_
      have J4 : Inv X pins σ' H' { s' with heap := h4 } := J.landed nb fl4.1 (up5.trans up4) os ag
      obtain ⟨oe4, vs4, he4, hz4, hd4⟩ := fl4.there
      have S4 := J4.suite he4 hd4 na nL nF
      refine store_ok (X := X.suite a ((a, oe4) :: (X.pn ++ pins))) (v := .ref a) S4 hN hi (.inl hln) rfl (fun s5 S5 => ?_) (.inr hln)
      have iσ : i < σ'.length := by rw [J.len]; exact (List.getElem?_eq_some_iff.mp hi).1
      refine wpAny_mono ((hsu a oe4 (X.pn ++ pins)).run [] s5 _ H' ⟨fun σ6 H6 => σ6 = (σ'.set i (some (.ref a))).set j (some (.ref a)) ∧ H6 = H', fun _ _ => False, fun _ _ => False, fun _ _ => False⟩ S5 ⟨_, List.getElem?_set_self iσ, rfl, rfl⟩) (fun fl s6 hsp => ?_) (fun _ _ z => False.elim z)
      cases fl with
      | next =>
        obtain ⟨σ6, H6, S6, rfl, rfl⟩ := hsp
        obtain ⟨z1, _⟩ := S6.pin (a, oe4) (List.mem_append_left _ List.mem_cons_self)
        exact gone_ok (track (S6.unsuite ok) z1 hz4 hd4 na n0 nL nP) hN hi hln fun s7 J7 => ⟨_, _, J7, yes rfl a na⟩
      | brk =>
        obtain ⟨_, _, _, z⟩ := hsp
        exact z.elim
      | cont =>
        obtain ⟨_, _, _, z⟩ := hsp
        exact z.elim
      | ret u =>
        obtain ⟨_, _, _, _, _, z⟩ := hsp
        exact z.elim
    | false =>
      show wpAny _ X.A (handleBy (.ref a) X.env []) _ _ _
      refine wpAny_handleBy_nil ?_
      obtain ⟨k1, k2, k3, oe, ws, T, oT, ts, he, hz, hd, h1, hr⟩ := id fl5
      unfold PySem.passOn
      refine wpAny_bind (wpAny_field he hd h1 ?_)
      rw [if_neg (show ¬ ((Value.ref T == Value.none) = true) from by simp)]
      have fin : wpAny (model X.prog X.w) X.A (setFlight (.ref a) X.env.frame) (fun _ s4 => wpAny (model X.prog X.w) X.A (throw (.ref a) : Sem Flow) (SP X pins D) X.xe s4) X.xe { s' with heap := h3.push { cls := .type "tuple", data := .seq cs.toArray } } := by
        rw [hf]
        refine HandSPX.setFlight_upZ fl5 fun h4 hh4 up4 => wpAny_throw (tk _ _ ?_)
        exact ⟨a, B, sI, pins, σ', H', cls, d, rfl, J, nb, up5.trans up4, .inr (.inr (by rw [hs]; exact hh4)), na, os, ag, no rfl⟩
      first
        | exact wpAny_bind (wpAny_pure (wpAny_bind fin))
        | exact wpAny_bind fin
  · cases fl with
    | next =>
      obtain ⟨σ2, H2, J2, w⟩ := hsp
      exact wpAny_execs_nil ⟨σ2, H2, J2.ofTry ok, w⟩
    | brk =>
      obtain ⟨σ2, H2, J2, w⟩ := hsp
      exact ⟨σ2, H2, J2.ofTry ok, w⟩
    | cont =>
      obtain ⟨σ2, H2, J2, w⟩ := hsp
      exact ⟨σ2, H2, J2.ofTry ok, w⟩
    | ret u =>
      obtain ⟨v, σ2, H2, J2, r, w⟩ := hsp
      exact ⟨v, σ2, H2, J2.ofTry ok, r, w⟩
end
end Gx
namespace Dw
open PySem PySem.Spec PyProof.Rows L2 OgR Evl Gx
abbrev QXt := Str → Str → PyData → Dt → Prop
abbrev WTy := DEnds → QXt → Dt → Prop
def XoD (C : Ct) (mg : Str → Option Value) (G : Hp) (W : L2.WX) (QX : QXt) : Prop := ∀ (nm fld : Str) (d : PyData) (s' : Dt) (σ' : L2.St) (G' H' : Hp) (Cc dx : Addr) (u : V), QX nm fld d s' → mg nm = some (.ref Cc) → Rel C G' σ' H' s' → Ex G G' → C.H0 dx = none → H' dx = some (.xd [(fld, u)]) → Dp C.K G' u d → W (.ref Cc) (some dx) σ' H'
theorem XoD.mono {C : Ct} {mg : Str → Option Value} {G G1 : Hp} {W : L2.WX} {QX : QXt} (o : XoD C mg G W QX) (e : Ex G G1) : XoD C mg G1 W QX := fun nm fld d s' σ' G' H' Cc dx u q hm r eg h0 hd pd => o nm fld d s' σ' G' H' Cc dx u q hm r (e.trans eg) h0 hd pd
structure DTy (X : Cx) (C : Ct) (st : Stmt) (t : L2.WX → TS) (w : WTy) : Prop where
  ps : ∀ (W : L2.WX) (pn : List (Addr × Obj)) (xe : Value → Shared → Prop), Takes (X.tr pn xe) W → PassesOwn (model X.prog X.w) X.A X.env xe → PS (X.tr pn xe) st (t W)
  is : ∀ (W : L2.WX) G σ H s D DD QX, Rel C G σ H s → w DD QX s → Outs C G D DD → XoD C X.mg G W QX → t W D σ H
structure DTys (X : Cx) (C : Ct) (st : List Stmt) (t : L2.WX → TS) (w : WTy) : Prop where
  ps : ∀ (W : L2.WX) (pn : List (Addr × Obj)) (xe : Value → Shared → Prop), Takes (X.tr pn xe) W → PassesOwn (model X.prog X.w) X.A X.env xe → PSs (X.tr pn xe) st (t W)
  is : ∀ (W : L2.WX) G σ H s D DD QX, Rel C G σ H s → w DD QX s → Outs C G D DD → XoD C X.mg G W QX → t W D σ H
section
variable {X : Cx} {C : Ct} {e c : Expr} {st : Stmt} {sts l1 l2 : List Stmt} {t u v : L2.WX → TS} {w wu wv : WTy} {te : L2.WX → TE} {we : WY} {tc : TT} {wc : WT} {tS : TS} {wS : WS} {x : Str} {pos : Pos}
def wTySet (i : Nat) (we : WY) : WTy := fun DD QX s => we s (fun d s1 => DD.nx (s1.set i (.d d))) QX
theorem dty_set (i : Nat) {pos' : Pos} (hN : X.N.Nodup) (h : DEX X C e te we) (hi : X.N[i]? = some x := by rfl) (hx : Loc X.env.scope x := by first | exact .inl rfl | exact .inr rfl) (hs : swapsWith e (some (.Name x pos')) pos.line X.env = pure false := by rfl)
    (hf : X.fn x = true ∨ X.env.scope.names.lookup x = some .local := by first | exact .inl rfl | exact .inr rfl | assumption) : DTy X C (.Assign [.Name x pos'] e pos) (fun W => tAsg (te W) (gName i)) (wTySet i we) :=
  ⟨fun W pn xe tk po => ps_set (X := X.tr pn xe) hN hi hx (h.pe W pn xe tk) hs hf, fun W G σ H s D DD QX r q o ox => h.ie W G σ H s _ _ _ r q (fun v d s1 G1 H1 q1 r1 eg g pd => o.nx _ H1 _ G1 q1 (r1.putd pd) eg) fun nm fld d s1 G1 H1 Cc dx u q1 hm r1 eg g h0 hd pd => ox nm fld d s1 _ G1 H1 Cc dx u q1 hm r1 eg h0 hd pd⟩
def wTyExpr (we : WY) : WTy := fun DD QX s => we s (fun _ s1 => DD.nx s1) QX
theorem dtys_one (h : DTy X C st t w) : DTys X C [st] t w := ⟨fun W pn xe tk po => pss_one (h.ps W pn xe tk po), h.is⟩
def wTySq (wu wv : WTy) : WTy := fun DD QX s => wu { DD with nx := wv DD QX } QX s
def wTyIf (wc : WT) (wu wv : WTy) : WTy := fun DD QX s => wc s fun b s1 => if b = true then wu DD QX s1 else wv DD QX s1
theorem dty_if (hc : ∀ pn xe, DT (X.tr pn xe) C c tc wc) (h1 : DTys X C l1 u wu) (h2 : DTys X C l2 v wv) : DTy X C (.If c l1 l2 pos) (fun W => tIfS tc (u W) (v W)) (wTyIf wc wu wv) :=
  ⟨fun W pn xe tk po => ps_if (hc pn xe).pt (h1.ps W pn xe tk po) (h2.ps W pn xe tk po), fun W G σ H s D DD QX r q o ox => (hc [] fun _ _ => True).it G σ H s _ _ r q fun b s1 G1 H1 q1 r1 eg _ => by
    cases b with
    | true => exact h1.is W G1 σ H1 s1 D DD QX r1 q1 (o.mono eg) (ox.mono eg)
    | false => exact h2.is W G1 σ H1 s1 D DD QX r1 q1 (o.mono eg) (ox.mono eg)⟩
end
section
variable {X : Cx} {C : Ct} {n m : Str} {cs : List Value} {es : List Expr} {tp mp np ap pos pos' : Pos} {kk : Nat} {body : List Stmt} {t : L2.WX → TS} {w : WTy}
/-- try: .. except (A, ..) as n: m = n -/
def wTryN (K : PySem.W.Frag) (mg : Str → Option Value) (bx : Bx) (cs : List Value) (i j : Nat) (w : WTy) : WS := fun DD s => w DD (fun nm fld d s1 => (∀ Cc, mg nm = some (.ref Cc) → PySem.W.exmAny K (.ref Cc) cs = some true) ∧ DD.nx ⟨(s1.env.set j (some (.oth (xcV K mg bx nm fld d)))).set i none, s1.c⟩) s
theorem ds_tryN (i j : Nat) (hK : X.K = C.K) (hex : X.ex = []) (hs : X.stack = X.env :: X.outer) (hf : X.env.frame = some X.env.locals) (hN : X.N.Nodup) (nms : NmsT X es cs) (h : DTys X C body t w) (hcs : cs.length ≤ 100 := by exact Nat.le_of_ble_eq_true rfl)
    (hi : X.N[i]? = some n := by rfl) (hln : X.env.kindOf n = some .local := by rfl) (hj : X.N[j]? = some m := by rfl) (hlm : X.env.kindOf m = some .local := by rfl)
    (hsu : ∀ (a : Addr) (oe : Obj) (pn : List (Addr × Obj)), PSs (X.suite a ((a, oe) :: pn)) [.Assign [.Name m mp] (.Name n np) ap] (tAsg (tVar i) (gName j))) :
    DS X C (.Try body [.ExceptHandler (some (.Tuple es kk tp)) (some n) [.Assign [.Name m mp] (.Name n np) ap] pos'] [] [] pos)
      (fun D σ H => t (wKeep X.K cs i j (fun _ _ _ _ => False) D) D σ H) (wTryN C.K X.mg C.bx cs i j w) :=
  ⟨ps_try_keepN (tb := t) (Wout := fun _ _ _ _ => False) hex hs hf hN hi hln hj hlm nms hcs takes0 (fun W pn xe tk po => h.ps W pn xe tk po) hsu, fun G σ H s D DD r q o => by
    refine h.is _ G σ H s D DD _ r q o fun nm fld d s1 σ1 G1 H1 Cc dx u q1 hm r1 eg hbx hdx pd => ?_
    obtain ⟨hex, q1⟩ := q1
    refine ⟨true, by rw [hK]; exact hex Cc hm, fun _ a ha => ?_, fun z => nomatch z⟩
    have e1 : Ex H1 (upd H1 a (exg a (.ref Cc) (some dx))) := Ex.new ha
    have na : ¬ C.bx.has a := fun z => (r1.fin.bx a z).1.ne ha
    have nd : dx ≠ a := fun z => by rw [z, ha] at hdx; cases hdx
    have r2 : Rel C G1 ((σ1.set i (some (.ref a))).set j (some (.ref a))) (upd H1 a (exg a (.ref Cc) (some dx))) ((⟨s1.env.set i none, s1.c⟩ : Dt).set j (.oth (xcV C.K X.mg C.bx nm fld d))) := ((r1.aside e1).hole i (some (.ref a))).put (x := .oth (xcV C.K X.mg C.bx nm fld d)) (xcV_oth ⟨a, Cc, dx, u, rfl, hm, na, r1.fin.nbx hbx, upd_same, by rw [upd_ne nd]; exact hdx, pd⟩) fun mm => nomatch mm
    have r3 := r2.hole i none
    refine o.nx _ _ _ G1 q1 ?_ eg
    have e2 : ((s1.env.set i none).set j (some (.oth (xcV C.K X.mg C.bx nm fld d)))).set i none = (s1.env.set j (some (.oth (xcV C.K X.mg C.bx nm fld d)))).set i none := by
      by_cases z : i = j
      · subst z
        rw [List.set_set, List.set_set, List.set_set]
      · rw [List.set_comm _ _ z, List.set_set]
    have r4 : Rel C G1 _ _ ⟨(s1.env.set j (some (.oth (xcV C.K X.mg C.bx nm fld d)))).set i none, s1.c⟩ := e2 ▸ r3
    exact r4⟩
end
section
variable {X : Cx} {C : Ct} {es : List Expr} {p : Pos} {tr : TA} {wr : WXs} {x : Str}
def wYxc (K : PySem.W.Frag) (mg : Str → Option Value) (bx : Bx) (i : Nat) (wr : WXs) : WXs := fun s Q => ∃ nm fld d, s.env[i]? = some (some (.oth (xcV K mg bx nm fld d))) ∧ wr s fun xs s2 => Q (.oth (xcV K mg b0 nm fld d) :: xs) s2
theorem xcV_b0 {K : PySem.W.Frag} {mg : Str → Option Value} {bx : Bx} {nm fld : Str} {d : PyData} {G H : Hp} {v : V} (h : xcV K mg bx nm fld d G H v) : xcV K mg b0 nm fld d G H v := by
  obtain ⟨a, Cc, dx, u, e, hm, _, _, h1, h2, h3⟩ := h
  exact ⟨a, Cc, dx, u, e, hm, (fun z => nomatch z), (fun z => nomatch z), h1, h2, h3⟩
theorem dy_xc (i : Nat) (hr : DYs X C es tr wr) (hv : PE X (.Name x p) (tVar i) := by exact pv _) (hs : starEach (.Name x p :: es) X.env = (false, eval (.Name x p) X.env) :: starEach es X.env := by rfl) : DYs X C (.Name x p :: es) (tCons (tVar i) tr) (wYxc C.K X.mg C.bx i wr) :=
  ⟨pa_cons hv hr.pa hs, fun G σ H s Q Q' r q k => by
    obtain ⟨nm, fld, d, hd, q⟩ := q
    obtain ⟨v, hv, av⟩ := r.sl i _ hd
    have av : Oth C (xcV C.K X.mg C.bx nm fld d) G H v := av
    exact ⟨v, hv, hr.iy G σ H s _ _ r q fun vs xs s2 G2 H2 q2 r2 eg2 g2 p2 => k (v :: vs) (.oth _ :: xs) s2 G2 H2 q2 r2 eg2 g2 (.cons ⟨xcV_b0 (Oth.step av eg2 (Kept.of g2.gr)).now, fun G3 H3 eg3 e3 => xcV_b0 ((Oth.step av eg2 (Kept.of g2.gr)).keep G3 H3 eg3 e3)⟩ p2)⟩⟩
end
end Dw
namespace Dw
open PySem PySem.Spec PyProof.Rows L2 OgR Evl Gx
theorem NewS.as {C C' : Ct} {cS : Addr} {G1 H1 G2 H2 : Hp} {o : Ob} {S : Sd} (h : NewS C cS G1 H1 G2 H2 o S) (e : C'.K = C.K) : NewS C' cS G1 H1 G2 H2 o S := ⟨h.eg, h.eh, h.gh, h.nw, h.of, e ▸ h.ob, h.fr⟩
abbrev FNw := Cs → List PyData → (Sd → Cs → Prop) → (Str → Str → PyData → Cs → Prop) → Prop
def spNew (K : PySem.W.Frag) (mg : Str → Option Value) (cS : Addr) (F : FNw) : Sp := fun vs H Q E => ∃ (x : Bx) (c : Cs) (vs' : List V) (G : Hp) (ds : List PyData) (R : Sd → Cs → Prop) (RX : Str → Str → PyData → Cs → Prop), vs = x.hd ++ vs' ∧ x.tab = none ∧ x.box.isSome = false ∧ OfS cS x.obs ∧ InO K x G H c ∧ Ex G H ∧ DpAll K G vs' ds ∧ F c ds R RX ∧
  (∀ o S' c' G1 H1 G2 H2, R S' c' → OutO K x G H G1 H1 c' → NewS ⟨K, b0, H, G⟩ cS G1 H1 G2 H2 o S' → Q (.ref o.adr) H2) ∧ ExO K mg x G H (fun o c' => match o with | .ok _ => False | .ex nm fld d => RX nm fld d c') E
structure MetN (P : Program) (wd : World) (K : PySem.W.Frag) (mg : Str → Option Value) (base : Heap) (k : Nat) (cS : Addr) (m qual : Str) (st : Stmt) (ps : List Str) (F : FNw) : Prop where
  ex : ∃ f fd, FnGX P wd K mg base k f fd ps (spNew K mg cS F) ∧ Binds K fd ps [] ∧ Meth K cS m f ∧ Fun K m qual st f fd
section
variable {P : Program} {wd : World} {K : PySem.W.Frag} {mg : Str → Option Value} {base : Heap}
/-- what follows the first statements, by hand -/
theorem MetN.make {k : Nat} {m qual : Str} {cS : Addr} {st : Stmt} {N ps : List Str} {F : FNw} (c : FctM K cS m qual st ps) (S : FnScope N ps (defScope st)) (hl : ∀ c ds R RX, F c ds R RX → c.o.length + ds.length = ps.length)
    (body : ∀ (f : Addr) (cdv : Value) (A : Around) (outer : List Env) (s : Shared) (H G : Hp) (Q : VK) (E : XK) (x : Bx) (c : Cs) (ds : List PyData) (R : Sd → Cs → Prop) (RX : Str → Str → PyData → Cs → Prop), A.guards = some [] → Room k (A.deeper (envOfC qual (defScope st) s.heap.objs.size f cdv)) → x.tab = none → OfS cS x.obs → F c ds R RX →
      Xt ⟨K, x, H, G⟩ mg E RX →
      ∃ t, PSs (cxOf (L2.CX P wd) P wd K mg base N qual (defScope st) f cdv A outer s H E) (defBody st) t ∧
        ∀ σ, Rel ⟨K, x, H, G⟩ G σ H ⟨env0 N (hdO false c.o.length ++ ds.map .d), c⟩ → (∀ o S' c' σ1 G1 H1 G2 H2 env, R S' c' → Rel ⟨K, x, H, G⟩ G1 σ1 H1 ⟨env, c'⟩ → Ex G G1 → NewS ⟨K, x, H, G⟩ cS G1 H1 G2 H2 o S' → Q (.ref o.adr) H2) → t { nx := fun _ H' => Q .non H', rt := Q } σ H) : MetN P wd K mg base (k + 1) cS m qual st ps F := by
  obtain ⟨f, fd, Fn, b, mt⟩ := c.ex
  refine ⟨f, fd, fnGX_of Fn S (fun vs H Q E h => ?_) (fun cdv A outer s H vs Q E hG hr h => ?_), b, mt, Fn⟩
  · obtain ⟨x, c, vs', G, ds, R, RX, rfl, _, hb, _, i, _, p, hF, _⟩ := h
    rw [List.length_append, hd_len hb, dpa_len p, obsAt_len i.ob]
    exact hl c ds R RX hF
  · obtain ⟨x, c, vs', G, ds, R, RX, rfl, ht, hb, hS, i, gh, p, hF, kk, kx⟩ := h
    obtain ⟨t, D, hw⟩ := body f cdv A outer s H G Q E x c ds R RX hG hr ht hS hF fun nm fld d c Cc dx u G' H' hR hm f' h0 hd pd => kx nm fld d c Cc dx u G' H' hR hm f'.outO h0 hd pd
    exact ⟨t, D, hw _ (rel0 ht hb i gh p) fun o S' c' σ1 G1 H1 G2 H2 env hR r1 eg n => kk o S' c' G1 H1 G2 H2 hR r1.fin.outO (n.as rfl)⟩
end
/-- other = Street(self.plots); other.states = self.states[:many + 1]; return other -/
def tAs (K : PySem.W.Frag) (cS : Addr) : TS := tSeq (tAsg (tMake cS (spInit cS) [] (fun _ _ _ => False) (tCons (tFld K (tVar 0) "plots") tNil)) (gName 2)) (tSeq (sFld K (tVar 2) (tSl (rSlL K) (tFld K (tVar 0) "states") tNoPart (tPart (tOp (rI0 fun i j => .int (i + j)) (tVar 1) (tC (.int 1))))) "states") (tRet (tVar 2)))
theorem as_run {C : Ct} {cS : Addr} {G : Hp} {σ : L2.St} {H : Hp} {s : Dt} {S : Sd} {n : Int} {D : Ends} (sk : StK C.K cS) (r : Rel C G σ H s) (hC : OfS cS C.bx.obs) (e0 : s.env[0]? = some (some (.ob 0))) (es : s.c.o[0]? = some (.st S)) (e1 : s.env[1]? = some (some (.d (.int n)))) (hl : 2 < s.env.length)
    (k : ∀ o G2 H2, NewS C cS G H G2 H2 o ⟨S.plots, cutD S.states none (some (n + 1)), []⟩ → D.rt (.ref o.adr) H2) : tAs C.K cS D σ H := by
  obtain ⟨a, dx, ps, pt, hs0, ho, ob⟩ := ob_at r hC e0 es
  obtain ⟨v1, hs1, rv1⟩ := r.sl 1 _ e1
  cases dp_int (show Dp C.K G v1 (.int n) from rv1)
  have hlσ : 2 < σ.length := by rw [← r.len]; exact hl
  cases ob with
  | @st _ _ _ _ _ _ xs ys ha hd hs ht ne ds dt ls lt =>
    refine ⟨_, hs0, a, cS, dx, _, _, rfl, ha, sk.cl, sk.np, rfl, fun x dx' hx hdx hne => ⟨x, dx', S.plots, rfl, upd_same, fun t1 t2 t3 ps' pt' H2 i => ⟨rfl, ?_⟩⟩⟩
    have nw := init_new (C := C) r.fin.gh hx hdx hne i
    have ha2 := nw.eh _ _ ha
    have hs2 := nw.eh _ _ hs
    have s0' : (σ.set 2 (some (.ref x)))[0]? = some (some (.ref a)) := by rw [List.getElem?_set_ne (by decide)]; exact hs0
    have s1' : (σ.set 2 (some (.ref x)))[1]? = some (some (.int n)) := by rw [List.getElem?_set_ne (by decide)]; exact hs1
    have s2' : (σ.set 2 (some (.ref x)))[2]? = some (some (.ref x)) := List.getElem?_set_self hlσ
    refine ⟨_, s0', a, cS, dx, _, _, rfl, ha2, sk.cl, sk.ns, rfl, _, s1', n, 1, rfl, rfl, n + 1, rfl, ps, xs, rfl, .inl (.inl hs2), fun p hp => ⟨_, s2', x, cS, dx', [("plots", .int S.plots), ("states", .ref ps'), ("told", .ref pt')], rfl, ?_, sk.cl, sk.ns, by show 3 < 1000; decide, _, s2', ?_⟩⟩
    · rw [upd_ne (fun z => by rw [← z, i.ha] at hp; cases hp)]
      exact i.ha
    · have px : p ≠ x := fun z => by rw [z, i.ha] at hp; cases hp
      have hd2 : H2 dx' = some (.own x) := i.keep dx' _ hne (by rw [upd_ne hne, upd_same])
      have pd : p ≠ dx' := fun z => by rw [z, hd2] at hp; cases hp
      have pp : p ≠ pt' := fun z => by rw [z, i.ht] at hp; cases hp
      have xp : pt' ≠ x := fun z => by have := i.ht; rw [z, i.ha] at this; cases this
      have g2p : (upd (upd (upd G t1 (.tup [])) t2 (.tup [])) t3 (.tup [.ref t1, .ref t2])) p = none := by
        cases q : (upd (upd (upd G t1 (.tup [])) t2 (.tup [])) t3 (.tup [.ref t1, .ref t2])) p with
        | none => rfl
        | some w => rw [nw.gh p w q] at hp; cases hp
      have hxp : H p = none := by
        cases q : H p with
        | none => rfl
        | some w => rw [nw.eh p w q] at hp; cases hp
      have keep : ∀ b w, b ≠ x → H2 b = some w → (upd (upd H2 p (.lst (cutV xs none (some (n + 1))))) x (.ins cS dx' (putF "states" (.ref p) [("plots", .int S.plots), ("states", .ref ps'), ("told", .ref pt')]))) b = some w := fun b w nb hb => by
        rw [upd_ne nb, upd_ne (fun z => by rw [z, hp] at hb; cases hb)]
        exact hb
      refine k (.st cS x dx' p pt') _ _ ⟨nw.eg, fun b w hb => keep b w (fun z => by rw [z, hx] at hb; cases hb) (nw.eh b w hb), fun b w hb => keep b w (fun z => by rw [z, (nw.fr x .sa).2] at hb; cases hb) (nw.gh b w hb), nw.nw, ⟨x, dx', p, pt', rfl⟩, .st (by rw [upd_same]; rfl) (keep dx' _ hne hd2) (by rw [upd_ne px, upd_same]) (keep pt' _ xp i.ht) pp (dpa_cut (dpa_ex nw.eg ds) _ _) .nil ?_ rfl, fun b hb => ?_⟩
      · exact NoLA.of fun y hy => NoLA.mem ls y (List.mem_of_mem_drop (List.mem_of_mem_take hy))
      · cases hb with
        | sa => exact nw.fr _ .sa
        | sd => exact nw.fr _ .sd
        | ss => exact ⟨hxp, g2p⟩
        | sl => exact nw.fr _ .sl
end Dw
namespace Dw
open PySem PySem.Spec PyProof.Rows L2 OgR Evl Gx
structure MetK (P : Program) (wd : World) (K : PySem.W.Frag) (mg : Str → Option Value) (base : Heap) (k : Nat) (cS : Addr) (m qual : Str) (st : Stmt) (ps : List Str) (F : FOb) : Prop where
  ex : ∃ f fd, FnGX P wd K mg base k f fd ps (spObj K mg cS false F) ∧ Binds K fd ps [] ∧ Meth K cS m f ∧ Fun K m qual st f fd
section
variable {P : Program} {wd : World} {K : PySem.W.Frag} {mg : Str → Option Value} {base : Heap}
theorem MetK.o {k : Nat} {cS : Addr} {m qual : Str} {st : Stmt} {ps : List Str} {F : FOb} (D : MetK P wd K mg base k cS m qual st ps F) : MetO P wd K mg base k cS m ps F := by
  obtain ⟨f, fd, a, b, c, _⟩ := D.ex
  exact ⟨f, fd, a, b, c⟩
theorem MetK.make {k : Nat} {m qual : Str} {cS : Addr} {st : Stmt} {N ps : List Str} {F : FOb} (c : FctM K cS m qual st ps) (S : FnScope N ps (defScope st)) (hl : ∀ c ds R, F c ds R → c.o.length + ds.length = ps.length)
    (body : ∀ (f : Addr) (cdv : Value) (A : Around) (outer : List Env) (s : Shared) (H G : Hp) (E : XK) (x : Bx) (c : Cs) (ds : List PyData) (R : Oc → Cs → Prop), A.guards = some [] → Room k (A.deeper (envOfC qual (defScope st) s.heap.objs.size f cdv)) → x.tab = none → OfS cS x.obs → F c ds R →
      Xt ⟨K, x, H, G⟩ mg E (fun nm fld d c => R (.ex nm fld d) c) →
      ∃ t w, DSs (cxOf (L2.CX P wd) P wd K mg base N qual (defScope st) f cdv A outer s H E) ⟨K, x, H, G⟩ (defBody st) t w ∧
        w { nx := fun s => R (.ok .none) s.c, rt := fun d c => R (.ok d) c } ⟨env0 N (hdO false c.o.length ++ ds.map .d), c⟩) : MetK P wd K mg base (k + 1) cS m qual st ps F := by
  obtain ⟨f, fd, Fn, b, mt⟩ := c.ex
  refine ⟨f, fd, fnGX_of Fn S (fun vs H Q E h => ?_) (fun cdv A outer s H vs Q E hG hr h => ?_), b, mt, Fn⟩
  · obtain ⟨x, c, vs', G, ds, R, rfl, _, hb, _, i, _, p, hF, _⟩ := h
    rw [List.length_append, hd_len hb, dpa_len p, obsAt_len i.ob]
    exact hl c ds R hF
  · obtain ⟨x, c, vs', G, ds, R, rfl, ht, hb, hS, i, gh, p, hF, kk, kx⟩ := h
    obtain ⟨t, w, D, hw⟩ := body f cdv A outer s H G E x c ds R hG hr ht hS hF fun nm fld d c Cc dx u G' H' hR hm f' h0 hd pd => kx nm fld d c Cc dx u G' H' hR hm f'.outO h0 hd pd
    exact ⟨t, D.ps, D.is G _ H _ _ _ (rel0 ht hb i gh p) hw ⟨fun σ' H' s' G' hn r' e => kk .non .none _ G' H' hn r'.fin.outO .non, fun _ _ _ _ h => h.elim, fun _ _ _ _ h => h.elim, fun v d c' G' H' hR f' e pv => kk v d c' G' H' hR f'.outO pv⟩⟩
end
section
variable {X : Cx} {C : Ct} {e o : Expr} {es : List Expr} {kws : List Keyword} {pos p apos yp : Pos} {m x y qual : Str} {ps ks : List Str} {k n : Nat} {π : List Nat} {f cS : Addr} {fd : FuncData} {sp : Sp} {tA tk : TA} {ta : TE} {W : L2.WX} {wA : WA} {F : FOb} {FN : FNw} {st : Stmt}
def wMK (i : Nat) (F : FOb) (n : Nat) (π : List Nat) (wA : WA) : WY := fun s Q QX => ∃ j S, s.env[i]? = some (some (.ob j)) ∧ s.c.o[j]? = some (.st S) ∧ wA s fun ds s1 => ds.length = n ∧ CallsO F false false [j] (perm π ds) s1 Q QX
end
end Dw
namespace Dw
open PySem PySem.Spec PyProof.Rows L2 OgR Evl Gx
section
variable {X : Cx} {C : Ct} {G G' H H' G1 H1 G2 H2 : Hp} {σ : L2.St} {s s1 : Dt} {e o' : Expr} {es : List Expr} {kws : List Keyword} {pos p apos yp : Pos} {m x y qual : Str} {ps ks : List Str} {k n : Nat} {π : List Nat} {f cS : Addr} {fd : FuncData} {sp : Sp} {tA tk : TA} {ta tn : TE} {W : L2.WX} {wA : WA} {wn : WNs} {F : FOb} {FN : FNw} {st : Stmt} {o : Ob} {S : Sd}
theorem spN_call {mg : Str → Option Value} {j : Nat} {a dx pS pT : Addr} {Q : Sd → Dt → Prop} {QX : QXd} {Q' : VK} {E : XK} {vs : List V} {ds : List PyData} {z : Ov} (hC : OfS cS C.bx.obs) (r : Rel C G σ H s) (ho : C.bx.obs[j]? = some (.st cS a dx pS pT)) (es : s.c.o[j]? = some z) (p : DpAll C.K G vs ds)
    (q : FN ⟨0, [z]⟩ ds (fun S' c' => Q S' ⟨s.env, ⟨s.c.n, putO s.c.o [j] c'.o⟩⟩) (fun nm fld d c' => QX nm fld d ⟨s.env, ⟨s.c.n, putO s.c.o [j] c'.o⟩⟩))
    (k : ∀ o S' s' G1 H1 G2 H2, Q S' s' → Rel C G1 σ H1 s' → Ex G G1 → Gs C σ G H s G1 H1 s' → NewS C cS G1 H1 G2 H2 o S' → Q' (.ref o.adr) H2)
    (kx : ∀ (nm fld : Str) d s' G' H' (Cc dx : Addr) u, QX nm fld d s' → mg nm = some (.ref Cc) → Rel C G' σ H' s' → Ex G G' → Gs C σ G H s G' H' s' → C.H0 dx = none → H' dx = some (.xd [(fld, u)]) → Dp C.K G' u d → E (.ref Cc) (some dx) H') :
    spNew C.K mg cS FN (.ref a :: vs) H Q' E := by
  have sx : SubX C false [j] ⟨none, none, [.st cS a dx pS pT]⟩ := ⟨rfl, rfl, (fun _ z => by cases z), .cons ho .nil⟩
  have hx : selV s.c.o [j] = some [z] := selV_1 es
  refine ⟨⟨none, none, [.st cS a dx pS pT]⟩, ⟨0, [z]⟩, vs, G, ds, _, _, rfl, rfl, rfl, fun o m => ?_, sx.inO (List.pairwise_singleton _ _) r.fin hx (n := 0) (fun h => nomatch h), r.fin.gh, p, q, fun o S' c' G1 H1 G2 H2 hR out n => ?_, fun nm fld d c' Cc dx u G' H' hR hm out h0 hd pd => ?_⟩
  · exact hC o (List.mem_of_getElem? (by rw [ho, List.mem_singleton.mp m]))
  · obtain ⟨r2, g2⟩ := r.callO sx (List.pairwise_singleton _ _) out
    exact k o S' _ G1 H1 G2 H2 hR r2 out.eg g2 (n.as rfl)
  · obtain ⟨r2, g2⟩ := r.callO sx (List.pairwise_singleton _ _) out
    exact kx nm fld d _ G' H' Cc dx u hR hm r2 out.eg g2 (r.fin.h0 h0) hd pd
abbrev WNX := Dt → (Sd → Dt → Prop) → QXd → Prop
def wMN (i : Nat) (F : FNw) (wA : WA) : WNX := fun s Q QX => ∃ j S, s.env[i]? = some (some (.ob j)) ∧ s.c.o[j]? = some (.st S) ∧ wA s fun ds s1 => ∃ z, s1.c.o[j]? = some z ∧ F ⟨0, [z]⟩ ds (fun S' c' => Q S' ⟨s1.env, ⟨s1.c.n, putO s1.c.o [j] c'.o⟩⟩) (fun nm fld d c' => QX nm fld d ⟨s1.env, ⟨s1.c.n, putO s1.c.o [j] c'.o⟩⟩)
theorem iN_meth {mg : Str → Option Value} {i : Nat} {Q : Sd → Dt → Prop} {QX : QXd} {Q' : VK} (hC : OfS cS C.bx.obs) (hn : ownN m = false) (h : IA C tA wA) (r : Rel C G σ H s) (q : wMN i FN wA s Q QX)
    (k : ∀ o S' s' G1 H1 G2 H2, Q S' s' → Rel C G1 σ H1 s' → Ex G G1 → Gs C σ G H s G1 H1 s' → NewS C cS G1 H1 G2 H2 o S' → Q' (.ref o.adr) H2)
    (kx : ∀ (nm fld : Str) d s' G' H' (Cc dx : Addr) u, QX nm fld d s' → mg nm = some (.ref Cc) → Rel C G' σ H' s' → Ex G G' → Gs C σ G H s G' H' s' → C.H0 dx = none → H' dx = some (.xd [(fld, u)]) → Dp C.K G' u d → W (.ref Cc) (some dx) σ H') :
    tMX cS m (spNew C.K mg cS FN) (tVar i) tA W σ H Q' := by
  obtain ⟨j, S, e, es, q⟩ := q
  obtain ⟨v, hv, o, ho, rfl⟩ := r.sl i _ e
  have ob := obs_at r.fin.ob ho es
  have hc := hC o (List.mem_of_getElem? ho)
  refine ⟨_, hv, ?_⟩
  cases ob with
  | @st cl a dx ps pt _ xs ys ha hd hs ht ne ds dt ls lt =>
    cases (show cl = cS from hc)
    refine ⟨a, dx, _, rfl, ha, own_no hn, h G σ H s _ _ r q fun vs ds s1 G1 H1 q1 r1 eg1 g1 p1 => ?_⟩
    obtain ⟨z, hz, q1⟩ := q1
    exact spN_call hC r1 ho hz p1 q1 (fun o S' s' G3 H3 G4 H4 a1 a2 a3 a4 a5 => k o S' s' G3 H3 G4 H4 a1 a2 (eg1.trans a3) (g1.trans a4) a5) fun nm fld d s' G' H' Cc dx u a b c a4 a5 => kx nm fld d s' G' H' Cc dx u a b c (eg1.trans a4) (g1.trans a5)
/-- o.m(e, ..), a new street -/
theorem dn_meth {mgv : Str → Option Value} (i : Nat) {pl : Sem Bool} (D : MetN X.prog X.w X.K mgv X.base k cS m qual st ps FN) (c : L2.Cls X.K cS) (hK : X.K = C.K) (hC : OfS cS C.bx.obs) (hG : X.A.guards = some []) (hr : Room k X.A) (ha : DA X C (e :: es) tA wA) (hn : ownN m = false := by decide)
    (hv : PE X (.Name y yp) (tVar i) := by exact pv _)
    (hst : starEach (e :: es) X.env = (false, eval e X.env) :: starEach es X.env := by rfl) (hpl : (backTo pos (starEach es X.env)).any (·.1) = false := by rfl)
    (ht : eval (.Call (.Attribute (.Name y yp) m apos) (e :: es) [] pos) X.env = (do
      let ov ← eval (.Name y yp) X.env
      standAt apos.atName
      let (f, first) ← holding [ov] (getMethod ov m pl)
      callWith pos f first (backTo pos (starEach (e :: es) X.env)) (backToKw pos (keywordEach [] X.env))) := by rfl) (hmg : X.mg = mgv := by rfl) :
    DNs X C cS (.Call (.Attribute (.Name y yp) m apos) (e :: es) [] pos) (tMX cS m (spNew C.K mgv cS FN) (tVar i) tA W0) (fun s Q => wMN i FN wA s Q fun _ _ _ _ => False) := by
  subst hmg
  obtain ⟨f, fd, G, b, mm, _⟩ := D.ex
  exact ⟨hK ▸ pe_methX (pl := pl) hv c mm G hG takes0 hr b ha.pa hst hpl ht, fun G σ H s Q Q' r q k => iN_meth hC hn ha.ia r q k fun _ _ _ _ _ _ _ _ _ z => z.elim⟩
theorem dn_meth0 {mgv : Str → Option Value} (i : Nat) {pl : Sem Bool} (D : MetN X.prog X.w X.K mgv X.base k cS m qual st ps FN) (c : L2.Cls X.K cS) (hK : X.K = C.K) (hC : OfS cS C.bx.obs) (hG : X.A.guards = some []) (hr : Room k X.A) (hn : ownN m = false := by decide)
    (hv : PE X (.Name y yp) (tVar i) := by exact pv _)
    (ht : eval (.Call (.Attribute (.Name y yp) m apos) [] [] pos) X.env = (do
      let ov ← eval (.Name y yp) X.env
      standAt apos.atName
      let (f, first) ← holding [ov] (getMethod ov m pl)
      callWith pos f first (backTo pos (starEach [] X.env)) (backToKw pos (keywordEach [] X.env))) := by rfl) (hmg : X.mg = mgv := by rfl) :
    DNs X C cS (.Call (.Attribute (.Name y yp) m apos) [] [] pos) (tMX cS m (spNew C.K mgv cS FN) (tVar i) tNil W0) (fun s Q => wMN i FN (fun s Q => Q [] s) s Q fun _ _ _ _ => False) := by
  subst hmg
  obtain ⟨f, fd, G, b, mm, _⟩ := D.ex
  exact ⟨hK ▸ pe_methX0 (pl := pl) hv c mm G hG takes0 hr b ht, fun G σ H s Q Q' r q k => iN_meth hC hn (da_nil (X := X)).ia r q k fun _ _ _ _ _ _ _ _ _ z => z.elim⟩
def wMNK (i : Nat) (F : FNw) (n : Nat) (π : List Nat) (wA : WA) : WNX := fun s Q QX => ∃ j S, s.env[i]? = some (some (.ob j)) ∧ s.c.o[j]? = some (.st S) ∧ wA s fun ds s1 => ds.length = n ∧ ∃ z, s1.c.o[j]? = some z ∧ F ⟨0, [z]⟩ (perm π ds) (fun S' c' => Q S' ⟨s1.env, ⟨s1.c.n, putO s1.c.o [j] c'.o⟩⟩) (fun nm fld d c' => QX nm fld d ⟨s1.env, ⟨s1.c.n, putO s1.c.o [j] c'.o⟩⟩)
end
end Dw
namespace Dw
open PySem PySem.Spec PyProof.Rows L2 OgR Evl Gx
section
variable {X : Cx} {C : Ct} {G G' H H' G1 H1 G2 H2 : Hp} {σ : L2.St} {s s1 : Dt} {e a b o' : Expr} {es : List Expr} {pos p apos yp : Pos} {m x y qual : Str} {ps : List Str} {k n : Nat} {f cS : Addr} {fd : FuncData} {sp : Sp} {tA : TA} {ta tn tn' : TE} {W : L2.WX} {wA : WA} {wn wn' : WNs} {F : FOb} {st : Stmt} {o : Ob} {S : Sd}
theorem low_env (r : Rel C G σ H s) : s.env.map (lowV C.bx.obs.length) = s.env := by
  refine List.ext_getElem? fun i => ?_
  rw [List.getElem?_map]
  cases q : s.env[i]? with
  | none => rfl
  | some z =>
    cases z with
    | none => rfl
    | some z =>
      show some (lowV C.bx.obs.length (some z)) = _
      congr 1
      cases z with
      | ob j =>
        obtain ⟨v, _, o, ho, _⟩ := r.sl i _ q
        show (if j < C.bx.obs.length then some (DV.ob j) else none) = _
        rw [if_pos (List.getElem?_eq_some_iff.mp ho).1]
      | _ => rfl
theorem with_tmp (r : Rel C G1 σ H1 s1) (hC : OfS cS C.bx.obs) (n : NewS C cS G1 H1 G2 H2 o S) : ∃ C' : Ct, C'.K = C.K ∧ OfS cS C'.bx.obs ∧ C'.bx.box = C.bx.box ∧ C'.bx.obs = C.bx.obs ++ [o] ∧ s1.c.o.length = C.bx.obs.length ∧ Rel C' G2 σ H2 ⟨s1.env, ⟨s1.c.n, s1.c.o ++ [.st S]⟩⟩ ∧
    ∀ G' H' s', Rel C' G' σ H' s' → Ex G2 G' → Gs C' σ G2 H2 ⟨s1.env, ⟨s1.c.n, s1.c.o ++ [.st S]⟩⟩ G' H' s' → s'.env = s1.env → Rel C G' σ H' ⟨s1.env, ⟨s'.c.n, s'.c.o.take s1.c.o.length⟩⟩ ∧ Ex G1 G' ∧ Gs C σ G1 H1 s1 G' H' ⟨s1.env, ⟨s'.c.n, s'.c.o.take s1.c.o.length⟩⟩ := by
  have m := withO_more r n
  have hl : s1.c.o.length = C.bx.obs.length := (obsAt_len r.fin.ob).symm
  refine ⟨withO C o H2, rfl, hC.push n.of m, rfl, rfl, hl, r.enter m n.eg n.eh n.gh n.nw n.ob n.fr, fun G' H' s' r' eg g he => ?_⟩
  have e0 : s'.low C.bx.obs.length = ⟨s1.env, ⟨s'.c.n, s'.c.o.take s1.c.o.length⟩⟩ := by
    unfold Dt.low
    rw [he, low_env r, hl]
  have old : ∀ {b : Addr} {w : HO}, H1 b = some w → ¬ o.has b := fun h z => by rw [(n.fr _ z).1] at h; cases h
  have nh : ∀ {b : Addr} {w : HO}, H1 b = some w → ¬ C.bx.has b → ¬ (withO C o H2).bx.has b := fun h nb z => by
    rcases m.has.mp z with z | z
    · exact nb z
    · exact old h z
  have r3 := r'.leave m
  rw [e0] at r3
  refine ⟨r3, n.eg.trans eg, fun b w nb hb => g.gr b w (nh hb nb) (n.eh b w hb), fun b hb => ?_, fun b w g0 nb hb hw hs => ?_, fun i x e mu => ?_⟩
  · cases q : H1 b with
    | none => exact absurd q hb
    | some w => exact g.dom b (by rw [n.eh b w q]; exact Option.some_ne_none _)
  · refine g.nk b w ?_ (nh hb nb) (n.eh b w hb) hw hs
    exact n.nw.out g0 hb hw
  · exact ⟨x, e, mu⟩
theorem sub_last {C' : Ct} (e : C'.bx.obs = C.bx.obs ++ [o]) : SubX C' false [C.bx.obs.length] ⟨none, none, [o]⟩ := ⟨rfl, rfl, (fun _ z => by cases z), .cons (by rw [e]; exact List.getElem?_concat_length) .nil⟩
/-- what a call of it asks -/
def CallT (F : FOb) (js : List Nat) (ds : List PyData) (S : Sd) (s1 : Dt) (Q : PyData → Dt → Prop) : Prop := CallsO F false false (js ++ [s1.c.o.length]) ds ⟨s1.env, ⟨s1.c.n, s1.c.o ++ [.st S]⟩⟩ (fun d s2 => s2.env = s1.env ∧ Q d ⟨s1.env, ⟨s2.c.n, s2.c.o.take s1.c.o.length⟩⟩) fun _ _ _ _ => False
theorem tmp_call {mg : Str → Option Value} {Q : PyData → Dt → Prop} {Q' : VK} (hC : OfS cS C.bx.obs) (r : Rel C G1 σ H1 s1) (n : NewS C cS G1 H1 G2 H2 o S) (q : CallT F [] [] S s1 Q)
    (k : ∀ v d s' G' H', Q d s' → Rel C G' σ H' s' → Ex G1 G' → Gs C σ G1 H1 s1 G' H' s' → Dp C.K G' v d → Q' v H') : spObj C.K mg cS false F [.ref o.adr] H2 Q' E00 := by
  obtain ⟨C', e1, hC', e2, e3, hl, r2, back⟩ := with_tmp r hC n
  have sx := sub_last (C' := C') e3
  rw [← hl] at sx
  have z := spO_call (F := F) (mg := mg) (W := W0) (Q' := Q') (vs := []) hC' r2 sx .nil q (fun v d s' G' H' a b c g p => by
    obtain ⟨a1, a2⟩ := a
    obtain ⟨b1, b2, b3⟩ := back G' H' s' b c g a1
    exact k v d _ G' H' a2 b1 b2 b3 (e1 ▸ p)) fun _ _ _ _ _ _ _ _ _ h => h.elim
  rw [e1] at z
  exact z
def wTm (wn : WNs) (F : FOb) : WE := fun s Q => wn s fun S s1 => CallT F [] [] S s1 Q
/-- f(a new street) -/
theorem de_callT {mgv : Str → Option Value} (D : DefO X.prog X.w X.K mgv X.base k x st ps cS false F) (hn : DNs X C cS e tn wn) (hK : X.K = C.K) (hC : OfS cS C.bx.obs) (hG : X.A.guards = some []) (hr : Room k X.A) (hg : Gl X x)
    (hdb : (x == ("__debug__" : Str)) = false := by decide) (he : starEach [e] X.env = (false, eval e X.env) :: starEach [] X.env := by rfl) (hpl : (backTo pos (starEach [] X.env)).any (·.1) = false := by rfl) (hmg : X.mg = mgv := by rfl) :
    DE X C (.Call (.Name x p) [e] [] pos) (tCall (spObj C.K mgv cS false F) [] (fun _ _ _ => False) (tCons tn tNil)) (wTm wn F) := by
  subst hmg
  obtain ⟨f, fd, G, Fn, b, m⟩ := D.ex
  refine ⟨?_, fun G σ H s Q Q' r q kk => ?_⟩
  · exact hK ▸ pe_callG G hG hr hg m Fn.kp b (pa_cons hn.pe pa_nil he) hdb he hpl
  · refine hn.iN G σ H s _ _ r q fun o S s1 G1 H1 G2 H2 q1 r1 eg g n => ?_
    show spObj C.K X.mg cS false F ([V.ref o.adr] ++ []) H2 Q' _
    exact tmp_call hC r1 n q1 fun v d s' G' H' a b c g' p => kk v d s' G' H' a b (eg.trans c) (g.trans g') p
theorem sub_two {C' : Ct} {j : Nat} {oj : Ob} (e : C'.bx.obs = C.bx.obs ++ [o]) (h : C.bx.obs[j]? = some oj) : SubX C' false [j, C.bx.obs.length] ⟨none, none, [oj, o]⟩ := ⟨rfl, rfl, (fun _ z => by cases z), .cons (by rw [e, List.getElem?_append_left (List.getElem?_eq_some_iff.mp h).1]; exact h) (.cons (by rw [e]; exact List.getElem?_concat_length) .nil)⟩
theorem tmp_call2 {mg : Str → Option Value} {Q : PyData → Dt → Prop} {Q' : VK} {j : Nat} {oj : Ob} (hC : OfS cS C.bx.obs) (r : Rel C G1 σ H1 s1) (n : NewS C cS G1 H1 G2 H2 o S) (hj : C.bx.obs[j]? = some oj) (q : CallT F [j] [] S s1 Q)
    (k : ∀ v d s' G' H', Q d s' → Rel C G' σ H' s' → Ex G1 G' → Gs C σ G1 H1 s1 G' H' s' → Dp C.K G' v d → Q' v H') : spObj C.K mg cS false F [.ref oj.adr, .ref o.adr] H2 Q' E00 := by
  obtain ⟨C', e1, hC', e2, e3, hl, r2, back⟩ := with_tmp r hC n
  have sx := sub_two (C' := C') e3 hj
  rw [← hl] at sx
  have z := spO_call (F := F) (mg := mg) (W := W0) (Q' := Q') (vs := []) hC' r2 sx .nil q (fun v d s' G' H' a b c g p => by
    obtain ⟨a1, a2⟩ := a
    obtain ⟨b1, b2, b3⟩ := back G' H' s' b c g a1
    exact k v d _ G' H' a2 b1 b2 b3 (e1 ▸ p)) fun _ _ _ _ _ _ _ _ _ h => h.elim
  rw [e1] at z
  exact z
def rNeO (cS : Addr) (sp : Sp) : R2 := fun x y H Q => ∃ a b dx dy fs gs, x = .ref a ∧ y = .ref b ∧ H a = some (.ins cS dx fs) ∧ H b = some (.ins cS dy gs) ∧ sp [.ref a, .ref b] H (fun v H' => ∃ t, v = .bl t ∧ Q (.bl (!t)) H') E00
structure StN (K : PySem.W.Frag) (cS : Addr) : Prop where
  ne : PySem.W.findIn K (.ref cS) "__ne__" = some (some (.builtin "object.__ne__"))
  mo : PySem.W.mroIn K cS (.type "object") = some true
theorem ifBound_B {M : Model} {A : Around} {E : Value → Shared → Prop} {s : Shared} {K : PySem.W.Frag} {xa : Addr} {Cc : Addr} {ox : Obj} {od : Option Obj} {name : Str} {id : String} {args : List Value} {Q : Option Value → Shared → Prop} (hI : K.In s.heap) (I : PySem.W.InstAt s.heap xa ox Cc od) (hs : PySem.W.findIn K (.ref Cc) name = some (some (.builtin id)))
    (hb : ∀ self, bindSpecial (.builtin id) self = pure (.builtin id, [self])) (h : wpAny M A (call (.builtin id) (.ref xa :: args)) (fun v => Q (some v)) E s) : wpAny M A (callSpecialIfBound? (.ref xa) name args) Q E s := by
  simp only [callSpecialIfBound?, bindSpecialIfBound?]
  refine wpAny_holding (wpAny_bind (wpAny_bind (wpAny_bind (I.type.here ((PySem.W.looks_findIn hI hs).here (wpAny_bind (wpAny_askSetting (wpAny_ite ?_))))))))
  have fin : wpAny M A (call (.builtin id) ([.ref xa] ++ args) >>= fun v => pure (some v)) Q E s := wpAny_bind (wpAny_mono h (fun v s' z => wpAny_pure z) fun _ _ z => z)
  split
  · exact wpAny_bind ((PySem.W.Looks.of_pure (hb _)).here (wpAny_pure (by exact fin)))
  · exact wpAny_tryCatch (wpAny_bind ((PySem.W.Looks.of_pure (hb _)).here (wpAny_pure (by exact fin))))
theorem op_neO (F : FnGX X.prog X.w X.K X.mg X.base k f fd ps sp) (hm : Meth X.K cS "__eq__" f) (hb : Binds X.K fd ps []) (hG : X.A.guards = some []) (hr : Room (k + 1) X.A) (sn : StN X.K cS) : OpR X (compareOp .NotEq) (rNeO cS sp) := by
  intro pins s σ H x y v u Q I rx ry h
  obtain ⟨a, b, dx, dy, fs, gs, rfl, rfl, ha, hb', q⟩ := h
  cases rx
  cases ry
  obtain ⟨mA, J, _⟩ := ins_get I.hok ha
  obtain ⟨mB, J', _⟩ := ins_get I.hok hb'
  obtain ⟨od, J, _⟩ := J.look
  obtain ⟨od', J', _⟩ := J'.look
  have hI := I.kIn
  show wpAny (model X.prog X.w) X.A (richCompare .NotEq (.ref a) (.ref b)) _ _ s
  have key : wpAny (model X.prog X.w) X.A (tryCompare (.ref a) (cmpInfo .NotEq).2.1 (.ref b)) (fun r s' => ∃ v, r = some v ∧ EP X pins σ Q v s') X.xe s := by
    unfold tryCompare
    refine wpAny_bind (ifBound_B hI J sn.ne PySem.F.cmp_object.ne.bind (wpAny_call (codeAny_call_builtin PySem.F.cmp_object.ne.plain PySem.F.cmpEntry_ne (PySem.W.check_slot (i := "object.__ne__") (owner := "object") (n := "__ne__") (by decide +kernel) (by decide +kernel) (J.type.andThen (PySem.W.looks_mroIn hI sn.mo)) (PySem.F.cmpArgs_ne _ _) ?_))))
    unfold Builtin.«object.__ne__»
    refine wpAny_bind (m := slotArgs "__ne__" 1 _) (wpAny_pure (wpAny_bind (m := cRoomFor _ _) (wpAny_cRoomFor hr.in1.units0 ?_)))
    refine wpAny_bind (m := callSpecialIfBound? (.ref a) (Str.ofString "__eq__") _) (PySem.W.ifBound_K hI J hm.at_ hm.fn (wpAny_mono (run_in1 (A := X.A.in1) (vs := [.ref a, .ref b]) F hG rfl hr.in1 hb I (.cons rfl (.cons rfl .nil)) q) (fun r s' z => ?_) fun _ _ z => z))
    obtain ⟨v, H', I', rv, t, rfl, q'⟩ := z
    cases rv
    refine wpAny_bind (m := truthy (.bool t)) (wpAny_pure ?_)
    exact wpAny_pure (wpAny_pure ⟨_, rfl, .bl (!t), H', I', rfl, q'⟩)
  unfold richCompare
  simp only [oneThing_ref]
  refine wpAny_holding (wpAny_bind (wpAny_cRoomFor hr.units0 (wpAny_bind (J.type.here (wpAny_bind (J'.type.here ?_))))))
  simp only [bne_self_eq_false, Bool.false_eq_true, if_false]
  refine wpAny_bind (wpAny_pure ?_)
  simp only [Bool.false_eq_true, if_false]
  refine wpAny_bind (wpAny_mono key (fun r s' z => ?_) fun _ _ z => z)
  obtain ⟨v, rfl, hq⟩ := z
  exact wpAny_pure hq
end
section
variable {X : Cx} {C : Ct} {e a b : Expr} {es : List Expr} {pos p py zp yp : Pos} {x y z : Str} {ps : List Str} {k : Nat} {cS : Addr} {tn te : TE} {we : WE} {wn : WNs} {F : FOb} {ts : List TE}
def wNeO (i l : Nat) (F : FOb) : WE := fun s Q => ∃ j S j' S', s.env[i]? = some (some (.ob j)) ∧ s.env[l]? = some (some (.ob j')) ∧ s.c.o[j]? = some (.st S) ∧ s.c.o[j']? = some (.st S') ∧ CallsO F false false [j, j'] [] s (fun d s1 => ∃ t, d = .bool t ∧ Q (.bool (!t)) s1) fun _ _ _ _ => False
theorem de_neO {mgv : Str → Option Value} (i l : Nat) (D : MetO X.prog X.w X.K mgv X.base k cS "__eq__" ps F) (sn : StN X.K cS) (hK : X.K = C.K) (hC : OfS cS C.bx.obs) (hG : X.A.guards = some []) (hr : Room (k + 1) X.A) (hv : PE X (.Name y yp) (tVar i) := by exact pv _) (hv2 : PE X (.Name z zp) (tVar l) := by exact pv _)
    (hm : behindInMarks .NotEq (.Name z zp) = false := by first | exact nomark _ | rfl) (hmg : X.mg = mgv := by rfl) :
    DE X C (.Compare (.Name y yp) [.NotEq] [.Name z zp] pos) (tOp (rNeO cS (spObj C.K mgv cS false F)) (tVar i) (tVar l)) (wNeO i l F) := by
  subst hmg
  obtain ⟨f, fd, Fg, b, mm⟩ := D.ex
  refine ⟨pe_cmpR (hK ▸ op_neO Fg mm b hG hr sn) hv hv2 hm, fun G σ H s Q Q' r q kk => ?_⟩
  obtain ⟨j, S, j', S', e, e', es, es', q⟩ := q
  obtain ⟨a, dx, ps, pt, hv, ho, ob⟩ := ob_at r hC e es
  obtain ⟨a', dx', ps', pt', hv', ho', ob'⟩ := ob_at r hC e' es'
  obtain ⟨_, fs, _, h1, _⟩ := ob_fld ob .states
  obtain ⟨_, fs', _, h1', _⟩ := ob_fld ob' .states
  refine ⟨_, hv, _, hv', a, a', dx, dx', fs, fs', rfl, rfl, h1, h1', ?_⟩
  exact spO_call (mg := X.mg) (W := W0) (σ := σ) hC r (subx2 ho ho') (vs := []) .nil q (fun v d s' G' H' q1 r1 eg g pd => by
    obtain ⟨t, rfl, q1⟩ := q1
    exact ⟨t, dp_bl pd, kk (.bl (!t)) _ s' G' H' q1 r1 eg g (.bl _)⟩) fun _ _ _ _ _ _ _ _ _ z => z.elim
theorem sp_imp {K : PySem.W.Frag} {mg : Str → Option Value} {wb : Bool} {vs : List V} {H : Hp} {Q Q' : VK} {E : XK} (h : spObj K mg cS wb F vs H Q E) (k : ∀ v H', Q v H' → Q' v H') : spObj K mg cS wb F vs H Q' E := by
  obtain ⟨x, c, vs', G, ds, R, a1, a2, a3, a4, a5, a6, a7, a8, a9, a10⟩ := h
  exact ⟨x, c, vs', G, ds, R, a1, a2, a3, a4, a5, a6, a7, a8, fun v d c' G' H' b1 b2 b3 => k v H' (a9 v d c' G' H' b1 b2 b3), a10⟩
def wEqT (neg : Bool) (i : Nat) (wn : WNs) (F : FOb) : WE := fun s Q => ∃ j S0, s.env[i]? = some (some (.ob j)) ∧ s.c.o[j]? = some (.st S0) ∧ wn s fun S s1 => (∃ S1, s1.c.o[j]? = some (.st S1)) ∧ CallT F [j] [] S s1 fun d s2 => ∃ t, d = .bool t ∧ Q (.bool (neg ^^ t)) s2
theorem tmp_eq {i : Nat} {neg : Bool} {r2 : R2} (hC : OfS cS C.bx.obs) (hn : DNs X C cS e tn wn)
    (hr : ∀ a b dx dy fs gs H (Q : VK), H a = some (.ins cS dx fs) → H b = some (.ins cS dy gs) → spObj C.K X.mg cS false F [.ref a, .ref b] H (fun v H' => ∃ t, v = .bl t ∧ ∀ u, u = .bl (neg ^^ t) → Q u H') E00 → r2 (.ref a) (.ref b) H Q) : IE C (tOp r2 (tVar i) tn) (wEqT neg i wn F) := fun G σ H s Q Q' r q kk => by
  obtain ⟨j, S0, e, es, q⟩ := q
  obtain ⟨a, dx, ps, pt, hv, ho, ob⟩ := ob_at r hC e es
  refine ⟨_, hv, hn.iN G σ H s _ _ r q fun o S s1 G1 H1 G2 H2 q1 r1 eg g n => ?_⟩
  obtain ⟨⟨S1, es1⟩, q1⟩ := q1
  have ob1 := obs_at r1.fin.ob ho es1
  obtain ⟨a', dx', pS', pT', rfl⟩ := n.of
  obtain ⟨_, fs, _, h1, _⟩ := ob_fld ob1 .states
  obtain ⟨_, fs', _, h1', _⟩ := ob_fld n.ob .states
  exact hr a a' dx dx' fs fs' H2 Q' (n.eh _ _ h1) h1' (tmp_call2 hC r1 n ho q1 fun v d s' G' H' q2 r2 eg2 g2 pd => by
    obtain ⟨t, rfl, q2⟩ := q2
    exact ⟨t, dp_bl pd, fun u hu => by rw [hu]; exact kk (.bl (neg ^^ t)) _ s' G' H' q2 r2 (eg.trans eg2) (g.trans g2) (.bl _)⟩)
theorem de_eqT (i : Nat) (D : MetO X.prog X.w X.K X.mg X.base k cS "__eq__" ps F) (hn : DNs X C cS e tn wn) (hK : X.K = C.K) (hC : OfS cS C.bx.obs) (hG : X.A.guards = some []) (hr : Room k X.A) (hv : PE X (.Name y yp) (tVar i) := by exact pv _)
    (hm : behindInMarks .Eq e = false := by first | exact nomark _ | rfl) :
    DE X C (.Compare (.Name y yp) [.Eq] [e] pos) (tOp (rEqO cS (spObj C.K X.mg cS false F)) (tVar i) tn) (wEqT false i wn F) := by
  obtain ⟨f, fd, Fg, b, mm⟩ := D.ex
  exact ⟨pe_cmpR (hK ▸ op_eqO Fg mm b hG hr) hv hn.pe hm, tmp_eq hC hn fun a b dx dy fs gs H Q h1 h2 q => ⟨a, b, dx, dy, fs, gs, rfl, rfl, h1, h2, sp_imp q fun v H' z => by
    obtain ⟨t, rfl, z⟩ := z
    exact ⟨t, rfl, z _ (by rw [Bool.false_xor])⟩⟩⟩
theorem de_neT (i : Nat) (D : MetO X.prog X.w X.K X.mg X.base k cS "__eq__" ps F) (sn : StN X.K cS) (hn : DNs X C cS e tn wn) (hK : X.K = C.K) (hC : OfS cS C.bx.obs) (hG : X.A.guards = some []) (hr : Room (k + 1) X.A) (hv : PE X (.Name y yp) (tVar i) := by exact pv _)
    (hm : behindInMarks .NotEq e = false := by first | exact nomark _ | rfl) :
    DE X C (.Compare (.Name y yp) [.NotEq] [e] pos) (tOp (rNeO cS (spObj C.K X.mg cS false F)) (tVar i) tn) (wEqT true i wn F) := by
  obtain ⟨f, fd, Fg, b, mm⟩ := D.ex
  exact ⟨pe_cmpR (hK ▸ op_neO Fg mm b hG hr sn) hv hn.pe hm, tmp_eq hC hn fun a b dx dy fs gs H Q h1 h2 q => ⟨a, b, dx, dy, fs, gs, rfl, rfl, h1, h2, sp_imp q fun v H' z => by
    obtain ⟨t, rfl, z⟩ := z
    exact ⟨t, rfl, z _ (by rw [Bool.true_xor])⟩⟩⟩
def rReprO (cS : Addr) (sp : Sp) : List V → Hp → VK → Prop := fun xs H Q => ∃ a dx fs, xs = [.ref a] ∧ H a = some (.ins cS dx fs) ∧ sp [.ref a] H (fun v H' => ∃ z : Str, v = .str z ∧ Q v H') E00
theorem cr_reprO {f : Addr} {fd : FuncData} {sp : Sp} (F : FnGX X.prog X.w X.K X.mg X.base k f fd ps sp) (hm : Meth X.K cS "__repr__" f) (hb : Binds X.K fd ps []) (hG : X.A.guards = some []) (hr : Room (k + 1) X.A) : CallR X (.builtin "repr") (rReprO cS sp) := by
  intro pins s σ H xs us Q I r h
  obtain ⟨a, dx, fs, rfl, ha, q⟩ := h
  cases r with
  | cons ra rn =>
    cases rn
    cases ra
    obtain ⟨mA, O, _⟩ := ins_get I.hok ha
    obtain ⟨od, J, _⟩ := O.look
    obtain ⟨m, hF⟩ := I.fr
    refine PySem.W.repr_K hr.in1.units0 hF I.ok.mod.kin J hm.at_ hm.fn (wpAny_mono (run_in1 (A := X.A.in1) (vs := [.ref a]) F hG rfl hr.in1 hb I (.cons rfl .nil) q) (fun u s' z => ?_) fun _ _ z => z)
    obtain ⟨v, H', I', rv, n, rfl, q'⟩ := z
    obtain ⟨t, rfl⟩ := (show ∃ t, u = Value.str n t from rv)
    exact ⟨.str n, H', I', ⟨t, rfl⟩, q'⟩
def wReprO (i : Nat) (F : FOb) : WE := fun s Q => ∃ j S, s.env[i]? = some (some (.ob j)) ∧ s.c.o[j]? = some (.st S) ∧ CallsO F false false [j] [] s (fun d s1 => ∃ z : Str, d = .str z ∧ Q d s1) fun _ _ _ _ => False
theorem de_reprO {mgv : Str → Option Value} (i : Nat) (D : MetO X.prog X.w X.K mgv X.base k cS "__repr__" ps F) (hK : X.K = C.K) (hC : OfS cS C.bx.obs) (hG : X.A.guards = some []) (hr : Room (k + 1) X.A) (hg : Gl X "repr") (hm : X.mg "repr" = none) (hv : PE X (.Name y yp) (tVar i) := by exact pv _)
    (hs : starEach [.Name y yp] X.env = (false, eval (.Name y yp) X.env) :: starEach [] X.env := by rfl) (hmg : X.mg = mgv := by rfl) :
    DE X C (.Call (.Name "repr" p) [.Name y yp] [] pos) (tCB (rReprO cS (spObj C.K mgv cS false F)) (tCons (tVar i) tNil)) (wReprO i F) := by
  subst hmg
  obtain ⟨f, fd, Fg, b, mm⟩ := D.ex
  refine ⟨pe_callB (hK ▸ cr_reprO Fg mm b hG hr) hg hm (by decide +kernel) (pa_cons hv pa_nil hs) (by decide) (by decide) hs, fun G σ H s Q Q' r q kk => ?_⟩
  obtain ⟨j, S, e, es, q⟩ := q
  obtain ⟨a, dx, ps, pt, hv, ho, ob⟩ := ob_at r hC e es
  refine ⟨_, hv, ?_⟩
  obtain ⟨_, fs, _, h1, _⟩ := ob_fld ob .states
  refine ⟨a, dx, fs, rfl, h1, ?_⟩
  exact spO_call (mg := X.mg) (W := W0) (σ := σ) hC r (subx1 ho) (vs := []) .nil q (fun v d s' G' H' q1 r1 eg g pd => by
    obtain ⟨z, rfl, q1⟩ := q1
    exact ⟨z, dp_str pd, kk v _ s' G' H' q1 r1 eg g pd⟩) fun _ _ _ _ _ _ _ _ _ z => z.elim
abbrev WJ := Str → Dt → (Str → Dt → Prop) → Prop
structure DJs (X : Cx) (C : Ct) (es : List Expr) (ts : List TE) (w : WJ) : Prop where
  pj : PJ X es ts
  ij : ∀ G σ H s acc (Q : Str → Dt → Prop) (Q' : Str → Hp → Prop), Rel C G σ H s → w acc s Q → (∀ z s' G' H', Q z s' → Rel C G' σ H' s' → Ex G G' → Gs C σ G H s G' H' s' → Q' z H') → tJs ts acc σ H Q'
theorem dj_nil : DJs X C [] [] (fun acc s Q => Q acc s) := ⟨.nil, fun G σ H s acc Q Q' r q k => k acc s G H q r (Ex.refl G) Gs.refl⟩
def wJ (we : WE) (w : WJ) : WJ := fun acc s Q => we s fun d s1 => ∃ y : Str, d = .str y ∧ (acc ++ y).length ≤ 100000 ∧ w (acc ++ y) s1 Q
theorem dj_cons {w : WJ} (h : DE X C e te we) (hr : DJs X C es ts w) : DJs X C (e :: es) (te :: ts) (wJ we w) :=
  ⟨.cons h.pe hr.pj, fun G σ H s acc Q Q' r q k => h.ie G σ H s _ _ r q fun v d s1 G1 H1 q1 r1 eg g pd => by
    obtain ⟨y, rfl, hl, q1⟩ := q1
    exact ⟨y, dp_str pd, sz_of hl, hr.ij G1 σ H1 s1 _ Q Q' r1 q1 fun z s' G' H' a b c d => k z s' G' H' a b (eg.trans c) (g.trans d)⟩⟩
def wFmt (we : WE) : WE := fun s Q => we s fun d s1 => (∃ y : Str, d = .str y ∧ y.length ≤ 100000 ∧ Q (.str y) s1) ∨ ∃ i : Int, d = .int i ∧ i.natAbs < 2 ^ 1000 ∧ Q (.str (toString i)) s1
theorem de_fmt (h : DE X C e te we) : DE X C (.FormattedValue e (-1) none pos) (tFmt te) (wFmt we) :=
  ⟨pe_fmt h.pe, fun G σ H s Q Q' r q k => h.ie G σ H s _ _ r q fun v d s1 G1 H1 q1 r1 eg g pd => by
    rcases q1 with ⟨y, rfl, hl, q1⟩ | ⟨i, rfl, hi, q1⟩
    · exact .inl ⟨y, dp_str pd, sz_of hl, k _ _ s1 G1 H1 q1 r1 eg g (.str y)⟩
    · refine .inr ⟨i, dp_int pd, ?_, k _ _ s1 G1 H1 q1 r1 eg g (.str _)⟩
      by_cases hz : i.natAbs = 0
      · rw [hz]
        decide
      · exact (Nat.log2_lt hz).mpr (Nat.lt_of_lt_of_le hi (Nat.pow_le_pow_right (by decide) (by decide)))⟩
def wJoined (w : WJ) : WE := fun s Q => w Str.empty s fun z s1 => Q (.str z) s1
theorem de_joined {w : WJ} (h : DJs X C (a :: b :: es) ts w) : DE X C (.JoinedStr (a :: b :: es) pos) (fun σ H Q => tJs ts Str.empty σ H fun out H1 => Q (.str out) H1) (wJoined w) :=
  ⟨pe_joined h.pj, fun G σ H s Q Q' r q k => h.ij G σ H s _ _ _ r q fun z s' G' H' a b c d => k (.str z) (.str z) s' G' H' a b c d (.str z)⟩
end
end Dw
namespace Dw
open PySem PySem.Spec PyProof.Rows L2 OgR Evl Gx
section
variable {X : Cx} {C : Ct} {e : Expr} {es : List Expr} {kws : List Keyword} {pos p p2 p4 : Pos} {x y : Str} {k kk : Nat} {cS : Addr} {te tk : TE} {we : WE} {tA : TA} {wA : WA} {cVs : List V} {cvs : List Value}
def tCs : List V → TA
  | [] => tNil
  | v :: vs => tCons (tC v) (tCs vs)
inductive ClT (X : Cx) : List Expr → List V → List Value → Prop
  | nil : ClT X [] [] []
  | cons {e : Expr} {es : List Expr} {cV : V} {cVs : List V} {cv : Value} {cvs : List Value} (h : PE X e (tC cV)) (hc : ∀ u, RelV cV u → u = cv) (r : ClT X es cVs cvs) (hs : starEach (e :: es) X.env = (false, eval e X.env) :: starEach es X.env := by rfl) : ClT X (e :: es) (cV :: cVs) (cv :: cvs)
theorem ClT.pa (h : ClT X es cVs cvs) : PA X es (tCs cVs) := by
  induction h with
  | nil => exact pa_nil
  | cons h _ _ hs ih => exact pa_cons h ih hs
theorem ClT.eq (h : ClT X es cVs cvs) {us : List Value} (r : Vals cVs us) : us = cvs := by
  induction h generalizing us with
  | nil => cases r; rfl
  | cons _ hc _ _ ih =>
    cases r with
    | cons r1 rr => rw [hc _ r1, ih rr]
theorem tCs_run {σ : L2.St} {H : Hp} {Q : List V → Hp → Prop} : ∀ {vs : List V}, Q vs H → tCs vs σ H Q
  | [], q => q
  | v :: vs, q => by
    show tCs vs σ H _
    exact tCs_run q
theorem de_xisN (i : Nat) (hK : X.K = C.K) (hg : Gl X "isinstance") (hm : X.mg "isinstance" = none) (hc : ClT X es cVs cvs) (hv : PE X (.Name x p2) (tVar i) := by exact pv _) (hl : cVs.length ≤ 100 := by exact Nat.le_of_ble_eq_true rfl)
    (hs : starEach [.Name x p2, .Tuple es kk p4] X.env = (false, eval (.Name x p2) X.env) :: starEach [.Tuple es kk p4] X.env := by rfl) (hpl : (backTo pos (starEach [.Tuple es kk p4] X.env)).any (·.1) = false := by rfl)
    (hs2 : starEach [.Tuple es kk p4] X.env = (false, eval (.Tuple es kk p4) X.env) :: starEach [] X.env := by rfl) :
    DE X C (.Call (.Name "isinstance" p) [.Name x p2, .Tuple es kk p4] [] pos) (tCB (rIsGT C.K) (tCons (tVar i) (tCons (tTup (tCs cVs)) tNil))) (wXis C.K X.mg C.bx i cvs) :=
  ⟨pe_callB (hK ▸ call_isGT) hg hm (by decide +kernel) (pa_cons hv (pa_cons (pe_tup hc.pa) pa_nil hs2) hs) (by decide) (by decide) hs hpl, fun G σ H s Q Q' r q k => by
    obtain ⟨nm, fld, d, b, e, hk, q⟩ := q
    obtain ⟨v, hv, ⟨a, Cc, dx, u, rfl, hm, b1, b2, h1, h2, h3⟩, _⟩ := r.sl i _ e
    refine ⟨_, hv, tCs_run ⟨sz_of (Nat.le_trans hl (by decide)), fun tp htp => ?_⟩⟩
    have e1 : Ex H (upd H tp (.tup cVs)) := Ex.new htp
    exact ⟨a, Cc, tp, [(fld, u)], cVs, cvs, b, rfl, ⟨dx, e1 a _ h1, e1 dx _ h2⟩, (hk Cc hm).1, upd_same, fun us hv => hc.eq hv, (hk Cc hm).2, k _ _ s G _ q (r.aside e1) (Ex.refl G) (.side e1) (.bl b)⟩⟩
def wMkK (wA : WA) : WNs := fun s Q => wA s fun ds s1 => ∃ n : Int, ds = [.int n] ∧ Q (initS n) s1
end
section
variable {X : Cx} {C : Ct} {e : Expr} {s1 s2 f0 : Stmt} {fs : List Stmt} {pos rp : Pos} {t1 t2 tf : TS} {w1 w2 wf : WS} {te : TE} {we : WE} {E : XK} {RX : Str → Str → PyData → Cs → Prop}
/-- try: two statements that may raise, return e; finally -/
theorem ds_retFin3X (hs : X.stack = X.env :: X.outer) (hfr : X.env.frame = some X.env.locals) (hex : X.ex = []) (tk : Takes X (fun cls d _ H => E cls d H)) (hx : Xt C X.mg E RX) (hf : DSs X.nox C (f0 :: fs) tf wf)
    (h1 : ∀ (pn : List (Addr × Obj)) (xe : Value → Shared → Prop), Takes (X.tr pn xe) (wFin tf fun cls d _ H => E cls d H) → XW C X.mg (wFin tf fun cls d _ H => E cls d H) (fun nm fld d s' => wf { nx := fun s2 => RX nm fld d s2.c, rt := fun _ _ => False } s') → DS (X.tr pn xe) C s1 t1 w1)
    (h2 : ∀ (pn : List (Addr × Obj)) (xe : Value → Shared → Prop), Takes (X.tr pn xe) (wFin tf fun cls d _ H => E cls d H) → XW C X.mg (wFin tf fun cls d _ H => E cls d H) (fun nm fld d s' => wf { nx := fun s2 => RX nm fld d s2.c, rt := fun _ _ => False } s') → DS (X.tr pn xe) C s2 t2 w2)
    (he : ∀ (pn : List (Addr × Obj)) (xe : Value → Shared → Prop), Takes (X.tr pn xe) (wFin tf fun cls d _ H => E cls d H) → DE (X.tr pn xe) C e te we) (hsu : ∀ (a : Addr) (pn : List (Addr × Obj)), PSs (X.suite a pn) (f0 :: fs) tf) :
    DS X C (.Try [s1, s2, .Return (some e) rp] [] [] (f0 :: fs) pos) (tRetFin3 t1 t2 tf te) (wRetFin3 w1 w2 wf we) :=
  ds_retFin3 hs hfr hex tk (fun pn xe tk => h1 pn xe tk (xw_fin hf hx)) (fun pn xe tk => h2 pn xe tk (xw_fin hf hx)) he hf hsu
end
end Dw
namespace OgM
end OgM
namespace OgM
end OgM
namespace OgM
theorem less_nil (ns : List Nt) : Less [] ns := ⟨(fun t w h => by cases h), (fun t x h => by cases h)⟩
end OgM
namespace Dw
open PySem PySem.Spec PyProof.Rows L2 OgR Evl Gx
section
variable {X : Cx} {C : Ct} {e a b : Expr} {sts : List Stmt} {pos p yp : Pos} {tb : TS} {wb : WS} {tn : TE} {wn : WNs} {y : Str} {cS : Addr} {wx : WXs}
def wNewP (i : Nat) (js : List Nat) (wn : WNs) (wx : WXs) (wb : WS) : WS := fun DD s => wn s fun S s1 => wx ⟨s1.env, ⟨s1.c.n, s1.c.o ++ [.st S]⟩⟩ fun xs s2 => xs.length = js.length ∧ wb (DD.low s1.c.o.length) ((s2.sets js xs).set i (.ob s1.c.o.length))
def tNewA (cS : Addr) (ta : Bx → Hp → TA) : TA := fun σ H Q => ∃ (bx : Bx) (H0 : Hp), OfS cS bx.obs ∧ ta bx H0 σ H Q
def eNewP (cS : Addr) (tb : Bx → Hp → TS) (D : Ends) : Ends := { D with nx := fun σ1 H1 => ∃ (bx : Bx) (H0 : Hp), OfS cS bx.obs ∧ tb bx H0 D σ1 H1 }
theorem pa_newA {es : List Expr} {ta : Bx → Hp → TA} (h : ∀ (bx : Bx) (H0 : Hp), OfS cS bx.obs → DXs X ⟨C.K, bx, H0, C.G0⟩ es (ta bx H0) wx) : PA X es (tNewA cS ta) := ⟨fun pos pins s σ H Q I ⟨bx, H0, h1, h2⟩ => (h bx H0 h1).pa.run pos pins s σ H Q I h2⟩
theorem is_newP {i : Nat} {js : List Nat} {es : List Expr} {ta : Bx → Hp → TA} {tb : Bx → Hp → TS} (hn : DNs X C cS e tn wn) (hC : OfS cS C.bx.obs) (hx : ∀ (bx : Bx) (H0 : Hp), OfS cS bx.obs → DXs X ⟨C.K, bx, H0, C.G0⟩ es (ta bx H0) wx)
    (rest : ∀ (bx : Bx) (H0 : Hp), OfS cS bx.obs → DSs X ⟨C.K, bx, H0, C.G0⟩ sts (tb bx H0) wb) {G : Hp} {σ : L2.St} {H : Hp} {s : Dt} {D : Ends} {DD : DEnds} (r : Rel C G σ H s) (q : wNewP i js wn wx wb DD s) (o : Outs C G D DD) {Q : List V → Hp → Prop}
    (hQ : ∀ v vs H1, vs.length = js.length → (eNewP cS tb D).nx ((setS σ js vs).set i (some v)) H1 → Q (v :: vs) H1) : tCons tn (tNewA cS ta) σ H Q := by
  show tn σ H fun v H1 => tNewA cS ta σ H1 fun vs H2 => Q (v :: vs) H2
  refine hn.iN G σ H s _ _ r q fun ob S s1 G1 H1 G2 H2 q1 r1 eg1 g1 n => ?_
  have m := withO_more r1 n
  have r2 := r1.enter m n.eg n.eh n.gh n.nw n.ob n.fr
  have hl : s1.c.o.length = C.bx.obs.length := (obsAt_len r1.fin.ob).symm
  have h1 := hC.push n.of m
  refine ⟨(withO C ob H2).bx, (withO C ob H2).H0, h1, ?_⟩
  refine (hx (withO C ob H2).bx (withO C ob H2).H0 h1).ix G2 σ H2 _ _ _ r2 q1 fun vs xs s3 G3 H3 q3 r3 eg3 g3 p3 f3 d3 => ?_
  obtain ⟨hx3, q3⟩ := q3
  have r4 := rel_sets (ks := js) r3 p3 d3
  have r5 : Rel (withO C ob H2) G3 ((setS σ js vs).set i (some (.ref ob.adr))) H3 ((s3.sets js xs).set i (.ob s1.c.o.length)) := r4.put (x := .ob s1.c.o.length) ⟨ob, by rw [hl]; exact List.getElem?_concat_length, rfl⟩ fun z => nomatch z
  have e2 := (eg1.trans n.eg).trans eg3
  rw [hl] at q3 r5
  refine hQ _ vs H3 (by rw [pvs_len p3]; exact hx3) ⟨(withO C ob H2).bx, (withO C ob H2).H0, h1, (rest (withO C ob H2).bx (withO C ob H2).H0 h1).is G3 _ H3 _ _ _ r5 q3 ⟨fun σ' H' s' G' h r' e => o.nx σ' H' (s'.low C.bx.obs.length) G' h (r'.leave m) (e2.trans e), fun σ' H' s' G' h r' e => o.bk σ' H' (s'.low C.bx.obs.length) G' h (r'.leave m) (e2.trans e), fun σ' H' s' G' h r' e => o.ct σ' H' (s'.low C.bx.obs.length) G' h (r'.leave m) (e2.trans e), fun v d c' G' H' h f e p => o.rt v d ⟨c'.n, c'.o.take C.bx.obs.length⟩ G' H' h (f.leave m) (e2.trans e) p⟩⟩
theorem dss_newP2 (i j : Nat) {ta : Bx → Hp → TA} {tb : Bx → Hp → TS} {xn yn : Str} {px py pt : Pos} {kt k2 pt2} (hc : X.calm = true) (hN : X.N.Nodup) (hn : DNs X C cS a tn wn) (hC : OfS cS C.bx.obs) (hx : ∀ (bx : Bx) (H0 : Hp), OfS cS bx.obs → DXs X ⟨C.K, bx, H0, C.G0⟩ [b] (ta bx H0) wx)
    (rest : ∀ (bx : Bx) (H0 : Hp), OfS cS bx.obs → DSs X ⟨C.K, bx, H0, C.G0⟩ sts (tb bx H0) wb)
    (hi : X.N[i]? = some xn := by rfl) (hj : X.N[j]? = some yn := by rfl) (hij : i ≠ j := by decide)
    (hlx : X.env.scope.names.lookup xn = some .local := by rfl) (hly : X.env.scope.names.lookup yn = some .local := by rfl)
    (hw : swappedStores [.Tuple [.Name xn px, .Name yn py] kt pt] (.Tuple [a, b] k2 pt2) X.env = Pure.pure (some [xn, yn]) := by rfl)
    (hs : swapsWithSole [.Tuple [.Name xn px, .Name yn py] kt pt] (.Tuple [a, b] k2 pt2) pos.line X.env = Pure.pure false := by rfl)
    (hst : starEach [a, b] X.env = (false, eval a X.env) :: starEach [b] X.env := by rfl) :
    DSs X C (.Assign [.Tuple [.Name xn px, .Name yn py] kt pt] (.Tuple [a, b] k2 pt2) pos :: sts) (fun D σ H => tPar i j (tCons tn (tNewA cS ta)) (eNewP cS tb D) σ H) (wNewP i [j] wn wx wb) :=
  ⟨pss_cons (u := fun D σ H => ∃ (bx : Bx) (H0 : Hp), OfS cS bx.obs ∧ tb bx H0 D σ H) (ps_par hc hN hi hj hij hlx hly (pa_cons hn.pe (pa_newA hx) hst) hw hs) ⟨fun pins s σ H D I ⟨bx, H0, h1, h2⟩ => (rest bx H0 h1).ps.run pins s σ H D I h2⟩, fun G σ H s D DD r q o => is_newP hn hC hx rest r q o fun v vs H1 hl h => by
    match vs, hl with
    | [w], _ =>
      refine ⟨v, w, rfl, ?_⟩
      have e : (σ.set i (some v)).set j (some w) = (setS σ [j] [w]).set i (some v) := List.set_comm _ _ hij
      rw [e]
      exact h⟩
theorem dss_newP3 (i j l : Nat) {c : Expr} {ta : Bx → Hp → TA} {tb : Bx → Hp → TS} {xn yn zn : Str} {px py pz pt : Pos} {kt k2 pt2} (hc : X.calm = true) (hN : X.N.Nodup) (hn : DNs X C cS a tn wn) (hC : OfS cS C.bx.obs) (hx : ∀ (bx : Bx) (H0 : Hp), OfS cS bx.obs → DXs X ⟨C.K, bx, H0, C.G0⟩ [b, c] (ta bx H0) wx)
    (rest : ∀ (bx : Bx) (H0 : Hp), OfS cS bx.obs → DSs X ⟨C.K, bx, H0, C.G0⟩ sts (tb bx H0) wb)
    (hi : X.N[i]? = some xn := by rfl) (hj : X.N[j]? = some yn := by rfl) (hl : X.N[l]? = some zn := by rfl) (hij : i ≠ j := by decide) (hil : i ≠ l := by decide) (hjl : j ≠ l := by decide)
    (hlx : X.env.scope.names.lookup xn = some .local := by rfl) (hly : X.env.scope.names.lookup yn = some .local := by rfl) (hlz : X.env.scope.names.lookup zn = some .local := by rfl)
    (hw : swappedStores [.Tuple [.Name xn px, .Name yn py, .Name zn pz] kt pt] (.Tuple [a, b, c] k2 pt2) X.env = Pure.pure (some [xn, yn, zn]) := by rfl)
    (hs : swapsWithSole [.Tuple [.Name xn px, .Name yn py, .Name zn pz] kt pt] (.Tuple [a, b, c] k2 pt2) pos.line X.env = Pure.pure false := by rfl)
    (hst : starEach [a, b, c] X.env = (false, eval a X.env) :: starEach [b, c] X.env := by rfl) :
    DSs X C (.Assign [.Tuple [.Name xn px, .Name yn py, .Name zn pz] kt pt] (.Tuple [a, b, c] k2 pt2) pos :: sts) (fun D σ H => tPar3 i j l (tCons tn (tNewA cS ta)) (eNewP cS tb D) σ H) (wNewP i [j, l] wn wx wb) :=
  ⟨pss_cons (u := fun D σ H => ∃ (bx : Bx) (H0 : Hp), OfS cS bx.obs ∧ tb bx H0 D σ H) (ps_par3 hc hN hi hj hl hij hil hjl hlx hly hlz (pa_cons hn.pe (pa_newA hx) hst) hw hs) ⟨fun pins s σ H D I ⟨bx, H0, h1, h2⟩ => (rest bx H0 h1).ps.run pins s σ H D I h2⟩, fun G σ H s D DD r q o => is_newP hn hC hx rest r q o fun v vs H1 hl2 h => by
    match vs, hl2 with
    | [w, u], _ =>
      refine ⟨v, w, u, rfl, ?_⟩
      have e : ((σ.set i (some v)).set j (some w)).set l (some u) = (setS σ [j, l] [w, u]).set i (some v) := by
        show _ = ((σ.set j (some w)).set l (some u)).set i (some v)
        rw [List.set_comm _ _ hij, List.set_comm _ _ hil]
      rw [e]
      exact h⟩
theorem dt_neO {mgv : Str → Option Value} {k : Nat} {ps : List Str} {F : FOb} {z : Str} {zp : Pos} (i l : Nat) (D : MetO X.prog X.w X.K mgv X.base k cS "__eq__" ps F) (sn : StN X.K cS) (hK : X.K = C.K) (hC : OfS cS C.bx.obs) (hG : X.A.guards = some []) (hr : Room (k + 1) X.A) (hv : PE X (.Name y yp) (tVar i) := by exact pv _) (hv2 : PE X (.Name z zp) (tVar l) := by exact pv _)
    (hm : behindInMarks .NotEq (.Name z zp) = false := by first | exact nomark _ | rfl) (hmg : X.mg = mgv := by rfl) :
    DT X C (.Compare (.Name y yp) [.NotEq] [.Name z zp] pos) (tTest (tOp (rNeO cS (spObj C.K mgv cS false F)) (tVar i) (tVar l))) (wTest (wNeO i l F)) := by
  have d := (de_neO (pos := pos) i l D sn hK hC hG hr hv hv2 hm hmg).ie
  subst hmg
  obtain ⟨f, fd, Fg, b, mm⟩ := D.ex
  exact ⟨pt_cmpR (hK ▸ op_neO Fg mm b hG hr sn) hv hv2 hm, it_test d⟩
theorem dt_neT {k : Nat} {ps : List Str} {F : FOb} (i : Nat) (D : MetO X.prog X.w X.K X.mg X.base k cS "__eq__" ps F) (sn : StN X.K cS) (hn : DNs X C cS e tn wn) (hK : X.K = C.K) (hC : OfS cS C.bx.obs) (hG : X.A.guards = some []) (hr : Room (k + 1) X.A) (hv : PE X (.Name y yp) (tVar i) := by exact pv _)
    (hm : behindInMarks .NotEq e = false := by first | exact nomark _ | rfl) :
    DT X C (.Compare (.Name y yp) [.NotEq] [e] pos) (tTest (tOp (rNeO cS (spObj C.K X.mg cS false F)) (tVar i) tn)) (wTest (wEqT true i wn F)) := by
  have d := (de_neT (pos := pos) i D sn hn hK hC hG hr hv hm).ie
  obtain ⟨f, fd, Fg, b, mm⟩ := D.ex
  exact ⟨pt_cmpR (hK ▸ op_neO Fg mm b hG hr sn) hv hn.pe hm, it_test d⟩
/-- return a new street -/
structure DRetN (X : Cx) (C : Ct) (cS : Addr) (sts : List Stmt) (tn : TE) (wn : WNs) : Prop where
  ps : PSs X sts (tRet tn)
  iN : INs C cS tn wn
theorem dr_ret (h : DNs X C cS e tn wn) : DRetN X C cS [.Return (some e) pos] tn wn := ⟨pss_one (ps_ret h.pe), h.iN⟩
end
end Dw
namespace Og80
open PySem PySem.Spec PyProof.Rows L2 OgR Evl Dw
def topS (i : Nat) : Stmt := PySem.Challenge.pw_onlygroups_k80_whole_a_street_made_anew.main.body.getD i (.Pass ⟨0, 0, 0, 0⟩)
abbrev s_tuple_for_list : Stmt := topS 1
theorem sc_tuple_for_list : FnScope ["value"] ["value"] (defScope s_tuple_for_list) := ⟨rfl, rfl, rfl, by decide +kernel, rfl, by decide +kernel, by decide +kernel⟩
abbrev s_neighbours : Stmt := topS 11
abbrev s_groups : Stmt := topS 12
theorem sc_groups : FnScope ["row", "after", "many", "beside"] ["row"] (defScope s_groups) := ⟨rfl, rfl, rfl, by decide +kernel, rfl, by decide +kernel, by decide +kernel⟩
abbrev s_houses : Stmt := topS 13
abbrev s_mirrored : Stmt := topS 14
theorem sc_mirrored : FnScope ["plots", "row", "plot"] ["plots", "row"] (defScope s_mirrored) := ⟨rfl, rfl, rfl, by decide +kernel, rfl, by decide +kernel, by decide +kernel⟩
abbrev s_many_choices : Stmt := topS 17
theorem sc_many_choices : FnScope ["word", "many"] ["word", "many"] (defScope s_many_choices) := ⟨rfl, rfl, rfl, by decide +kernel, rfl, by decide +kernel, by decide +kernel⟩
abbrev s_groups_after : Stmt := topS 18
theorem sc_groups_after : FnScope ["words", "word"] ["words"] (defScope s_groups_after) := ⟨rfl, rfl, rfl, by decide +kernel, rfl, by decide +kernel, by decide +kernel⟩
abbrev s_true_value : Stmt := topS 20
theorem sc_true_value : FnScope ["row", "time", "sort"] ["row", "time", "sort"] (defScope s_true_value) := ⟨rfl, rfl, rfl, by decide +kernel, rfl, by decide +kernel, by decide +kernel⟩
abbrev s_notes_of : Stmt := topS 21
theorem sc_notes_of : FnScope ["journal", "note"] ["journal"] (defScope s_notes_of) := ⟨rfl, rfl, rfl, by decide +kernel, rfl, by decide +kernel, by decide +kernel⟩
abbrev s_with_note : Stmt := topS 22
theorem sc_with_note : FnScope ["journal", "note", "notes", "there"] ["journal", "note"] (defScope s_with_note) := ⟨rfl, rfl, rfl, by decide +kernel, rfl, by decide +kernel, by decide +kernel⟩
abbrev s_without_note : Stmt := topS 23
theorem sc_without_note : FnScope ["journal", "note", "notes", "gone", "there"] ["journal", "note"] (defScope s_without_note) := ⟨rfl, rfl, rfl, by decide +kernel, rfl, by decide +kernel, by decide +kernel⟩
abbrev s_ways_to_choose : Stmt := topS 26
theorem sc_ways_to_choose : FnScope ["many", "things", "ways", "chosen"] ["many", "things"] (defScope s_ways_to_choose) := ⟨rfl, rfl, rfl, by decide +kernel, rfl, by decide +kernel, by decide +kernel⟩
abbrev s_noted_values : Stmt := topS 27
theorem sc_noted_values : FnScope ["notes", "time", "sort", "value"] ["notes"] (defScope s_noted_values) := ⟨rfl, rfl, rfl, by decide +kernel, rfl, by decide +kernel, by decide +kernel⟩
abbrev s_is_word_then : Stmt := topS 28
theorem sc_is_word_then : FnScope ["noted", "time", "many", "word", "after"] ["noted", "time", "many", "word"] (defScope s_is_word_then) := ⟨rfl, rfl, rfl, by decide +kernel, rfl, by decide +kernel, by decide +kernel⟩
abbrev s_words_then : Stmt := topS 29
theorem sc_words_then : FnScope ["noted", "time", "many", "word"] ["noted", "time", "many"] (defScope s_words_then) := ⟨rfl, rfl, rfl, by decide +kernel, rfl, by decide +kernel, by decide +kernel⟩
abbrev s_blocks_then : Stmt := topS 30
theorem sc_blocks_then : FnScope ["noted", "ways", "time", "many", "words", "word"] ["noted", "ways", "time", "many"] (defScope s_blocks_then) := ⟨rfl, rfl, rfl, by decide +kernel, rfl, by decide +kernel, by decide +kernel⟩
abbrev s_folded_ways : Stmt := topS 31
theorem sc_folded_ways : FnScope ["journal", "fold", "plots", "times", "notes", "noted", "ways", "found", "time", "rows", "many", "blocks", "word", "choices", "block"] ["journal", "fold"] (defScope s_folded_ways) := ⟨rfl, rfl, rfl, by decide +kernel, rfl, by decide +kernel, by decide +kernel⟩
abbrev s_in_all : Stmt := topS 32
theorem sc_in_all : FnScope ["parts"] ["parts"] (defScope s_in_all) := ⟨rfl, rfl, rfl, by decide +kernel, rfl, by decide +kernel, by decide +kernel⟩
abbrev s_all_ways : Stmt := topS 33
theorem sc_all_ways : FnScope ["journal"] ["journal"] (defScope s_all_ways) := ⟨rfl, rfl, rfl, by decide +kernel, rfl, by decide +kernel, by decide +kernel⟩
abbrev s_count_orders : Stmt := topS 34
theorem sc_count_orders : FnScope ["journal"] ["journal"] (defScope s_count_orders) := ⟨rfl, rfl, rfl, by decide +kernel, rfl, by decide +kernel, by decide +kernel⟩
abbrev s_longer_row : Stmt := topS 36
theorem sc_longer_row : FnScope ["plots", "row", "more", "longer", "plot"] ["plots", "row", "more"] (defScope s_longer_row) := ⟨rfl, rfl, rfl, by decide +kernel, rfl, by decide +kernel, by decide +kernel⟩
abbrev s_l_cell_at : Stmt := topS 39
theorem sc_l_cell_at : FnScope ["_law_script", "_law_k"] ["_law_script", "_law_k"] (defScope s_l_cell_at) := ⟨rfl, rfl, rfl, by decide +kernel, rfl, by decide +kernel, by decide +kernel⟩
abbrev s_l_box : Stmt := topS 40
theorem sc_l_box : FnScope ["_law_script", "_law_k", "_law_core"] ["_law_script", "_law_k"] (defScope s_l_box) := ⟨rfl, rfl, rfl, by decide +kernel, rfl, by decide +kernel, by decide +kernel⟩
abbrev s_l_take : Stmt := topS 41
theorem sc_l_take : FnScope ["_law_box_here", "_law_below", "_law_found", "_law_once", "_law_twice"] ["_law_box_here", "_law_below"] (defScope s_l_take) := ⟨rfl, rfl, rfl, by decide +kernel, rfl, by decide +kernel, by decide +kernel⟩
abbrev s_l_of : Stmt := topS 42
theorem sc_l_of : FnScope ["_law_box_here", "_law_some"] ["_law_box_here", "_law_some"] (defScope s_l_of) := ⟨rfl, rfl, rfl, by decide +kernel, rfl, by decide +kernel, by decide +kernel⟩
abbrev s_l_same : Stmt := topS 43
theorem sc_l_same : FnScope ["_law_found", "_law_due", "_law_a", "_law_b"] ["_law_found", "_law_due"] (defScope s_l_same) := ⟨rfl, rfl, rfl, by decide +kernel, rfl, by decide +kernel, by decide +kernel⟩
abbrev s_l_strewn : Stmt := topS 44
theorem sc_l_strewn : FnScope ["_law_box_here", "_law_some", "_law_left", "_law_found"] ["_law_box_here", "_law_some"] (defScope s_l_strewn) := ⟨rfl, rfl, rfl, by decide +kernel, rfl, by decide +kernel, by decide +kernel⟩
abbrev s_l_seen_of : Stmt := topS 45
theorem sc_l_seen_of : FnScope ["_law_hall", "_law_found"] ["_law_hall"] (defScope s_l_seen_of) := ⟨rfl, rfl, rfl, by decide +kernel, rfl, by decide +kernel, by decide +kernel⟩
abbrev s_l_done : Stmt := topS 46
theorem sc_l_done : FnScope ["_law_hall", "_law_deed_here", "_law_found", "_law_caught", "_law_word", "error"] ["_law_hall", "_law_deed_here"] (defScope s_l_done) := ⟨rfl, rfl, rfl, by decide +kernel, rfl, by decide +kernel, by decide +kernel⟩
abbrev s_l_named : Stmt := topS 47
theorem sc_l_named : FnScope ["_law_caught", "_law_sorts", "_law_bases", "_law_due"] ["_law_caught"] (defScope s_l_named) := ⟨rfl, rfl, rfl, by decide +kernel, rfl, by decide +kernel, by decide +kernel⟩
abbrev s_l_deed : Stmt := topS 48
theorem sc_l_deed : FnScope ["_law_box_here", "_law_now", "_law_count", "_law_queue", "_law_notes", "_law_sort_so", "_law_free", "_law_odd", "_law_some", "_law_spot", "_law_lot"] ["_law_box_here", "_law_now"] (defScope s_l_deed) := ⟨rfl, rfl, rfl, by decide +kernel, rfl, by decide +kernel, by decide +kernel⟩
abbrev s_l_ways_right : Stmt := topS 49
theorem sc_l_ways_right : FnScope ["_law_box_here", "_law_hall", "_law_twin", "_law_some", "_law_lot", "_law_kept"] ["_law_box_here", "_law_hall"] (defScope s_l_ways_right) := ⟨rfl, rfl, rfl, by decide +kernel, rfl, by decide +kernel, by decide +kernel⟩
abbrev s_l_right : Stmt := topS 50
theorem sc_l_right : FnScope ["_law_box_here", "_law_count", "_law_hall", "_law_stood", "_law_words", "_law_turn", "_law_deed_here", "_law_told", "_law_log", "_law_anew", "_law_at", "_law_twin", "_law_side_so", "_law_word"] ["_law_box_here"] (defScope s_l_right) := ⟨rfl, rfl, rfl, by decide +kernel, rfl, by decide +kernel, by decide +kernel⟩
abbrev s_law : Stmt := topS 51
theorem sc_law : FnScope ["_law_script", "_law_k"] ["_law_script"] (defScope s_law) := ⟨rfl, rfl, rfl, by decide +kernel, rfl, by decide +kernel, by decide +kernel⟩
def mS (i j : Nat) : Stmt := match topS i with
  | .ClassDef _ _ _ b _ _ _ _ _ _ _ => b.getD j (.Pass ⟨0, 0, 0, 0⟩)
  | _ => .Pass ⟨0, 0, 0, 0⟩
abbrev s_S___init__ : Stmt := mS 37 0
theorem sc_S___init__ : FnScope ["self", "plots"] ["self", "plots"] (defScope s_S___init__) := ⟨rfl, rfl, rfl, by decide +kernel, rfl, by decide +kernel, by decide +kernel⟩
abbrev s_S_build : Stmt := mS 37 1
theorem sc_S_build : FnScope ["self", "plot"] ["self", "plot"] (defScope s_S_build) := ⟨rfl, rfl, rfl, by decide +kernel, rfl, by decide +kernel, by decide +kernel⟩
abbrev s_S_build_all : Stmt := mS 37 2
theorem sc_S_build_all : FnScope ["self", "row"] ["self", "row"] (defScope s_S_build_all) := ⟨rfl, rfl, rfl, by decide +kernel, rfl, by decide +kernel, by decide +kernel⟩
abbrev s_S_note_down : Stmt := mS 37 3
theorem sc_S_note_down : FnScope ["self", "time", "sort"] ["self", "time", "sort"] (defScope s_S_note_down) := ⟨rfl, rfl, rfl, by decide +kernel, rfl, by decide +kernel, by decide +kernel⟩
abbrev s_S_forget : Stmt := mS 37 4
theorem sc_S_forget : FnScope ["self", "note", "journal"] ["self", "note"] (defScope s_S_forget) := ⟨rfl, rfl, rfl, by decide +kernel, rfl, by decide +kernel, by decide +kernel⟩
abbrev s_S_turn : Stmt := mS 37 5
theorem sc_S_turn : FnScope ["self"] ["self"] (defScope s_S_turn) := ⟨rfl, rfl, rfl, by decide +kernel, rfl, by decide +kernel, by decide +kernel⟩
abbrev s_S_undo : Stmt := mS 37 6
theorem sc_S_undo : FnScope ["self", "undone"] ["self"] (defScope s_S_undo) := ⟨rfl, rfl, rfl, by decide +kernel, rfl, by decide +kernel, by decide +kernel⟩
abbrev s_S_build_on : Stmt := mS 37 7
theorem sc_S_build_on : FnScope ["self", "more"] ["self", "more"] (defScope s_S_build_on) := ⟨rfl, rfl, rfl, by decide +kernel, rfl, by decide +kernel, by decide +kernel⟩
abbrev s_S_note_truth : Stmt := mS 37 8
theorem sc_S_note_truth : FnScope ["self", "time", "sort", "note", "journal"] ["self", "time", "sort"] (defScope s_S_note_truth) := ⟨rfl, rfl, rfl, by decide +kernel, rfl, by decide +kernel, by decide +kernel⟩
abbrev s_S_row : Stmt := mS 37 9
theorem sc_S_row : FnScope ["self"] ["self"] (defScope s_S_row) := ⟨rfl, rfl, rfl, by decide +kernel, rfl, by decide +kernel, by decide +kernel⟩
abbrev s_S_notes : Stmt := mS 37 10
theorem sc_S_notes : FnScope ["self"] ["self"] (defScope s_S_notes) := ⟨rfl, rfl, rfl, by decide +kernel, rfl, by decide +kernel, by decide +kernel⟩
abbrev s_S_groups : Stmt := mS 37 11
theorem sc_S_groups : FnScope ["self"] ["self"] (defScope s_S_groups) := ⟨rfl, rfl, rfl, by decide +kernel, rfl, by decide +kernel, by decide +kernel⟩
abbrev s_S_journal : Stmt := mS 37 12
theorem sc_S_journal : FnScope ["self"] ["self"] (defScope s_S_journal) := ⟨rfl, rfl, rfl, by decide +kernel, rfl, by decide +kernel, by decide +kernel⟩
abbrev s_S_count : Stmt := mS 37 13
theorem sc_S_count : FnScope ["self"] ["self"] (defScope s_S_count) := ⟨rfl, rfl, rfl, by decide +kernel, rfl, by decide +kernel, by decide +kernel⟩
abbrev s_S_empty : Stmt := mS 37 14
theorem sc_S_empty : FnScope ["self", "row", "plot"] ["self"] (defScope s_S_empty) := ⟨rfl, rfl, rfl, by decide +kernel, rfl, by decide +kernel, by decide +kernel⟩
abbrev s_S_operations : Stmt := mS 37 15
theorem sc_S_operations : FnScope ["self"] ["self"] (defScope s_S_operations) := ⟨rfl, rfl, rfl, by decide +kernel, rfl, by decide +kernel, by decide +kernel⟩
abbrev s_S_as_of : Stmt := mS 37 16
theorem sc_S_as_of : FnScope ["self", "many", "other"] ["self", "many"] (defScope s_S_as_of) := ⟨rfl, rfl, rfl, by decide +kernel, rfl, by decide +kernel, by decide +kernel⟩
abbrev s_S_twin : Stmt := mS 37 17
theorem sc_S_twin : FnScope ["self"] ["self"] (defScope s_S_twin) := ⟨rfl, rfl, rfl, by decide +kernel, rfl, by decide +kernel, by decide +kernel⟩
abbrev s_S_log : Stmt := mS 37 18
theorem sc_S_log : FnScope ["self"] ["self"] (defScope s_S_log) := ⟨rfl, rfl, rfl, by decide +kernel, rfl, by decide +kernel, by decide +kernel⟩
abbrev s_S___eq__ : Stmt := mS 37 19
theorem sc_S___eq__ : FnScope ["self", "other"] ["self", "other"] (defScope s_S___eq__) := ⟨rfl, rfl, rfl, by decide +kernel, rfl, by decide +kernel, by decide +kernel⟩
abbrev s_S___len__ : Stmt := mS 37 20
theorem sc_S___len__ : FnScope ["self"] ["self"] (defScope s_S___len__) := ⟨rfl, rfl, rfl, by decide +kernel, rfl, by decide +kernel, by decide +kernel⟩
abbrev s_S___repr__ : Stmt := mS 37 21
theorem sc_S___repr__ : FnScope ["self"] ["self"] (defScope s_S___repr__) := ⟨rfl, rfl, rfl, by decide +kernel, rfl, by decide +kernel, by decide +kernel⟩
structure Top (wd : World) (K : PySem.W.Frag) (mg : Str → Option Value) : Prop where
  d_tuple_for_list : Fct K mg "tuple_for_list" s_tuple_for_list ["value"]
  d_neighbours : Fct K mg "neighbours" s_neighbours ["row"]
  d_groups : Fct K mg "groups" s_groups ["row"]
  d_houses : Fct K mg "houses" s_houses ["row"]
  d_mirrored : Fct K mg "mirrored" s_mirrored ["plots", "row"]
  d_many_choices : Fct K mg "many_choices" s_many_choices ["word", "many"]
  d_groups_after : Fct K mg "groups_after" s_groups_after ["words"]
  d_true_value : Fct K mg "true_value" s_true_value ["row", "time", "sort"]
  d_notes_of : Fct K mg "notes_of" s_notes_of ["journal"]
  d_with_note : Fct K mg "with_note" s_with_note ["journal", "note"]
  d_without_note : Fct K mg "without_note" s_without_note ["journal", "note"]
  d_ways_to_choose : Fct K mg "ways_to_choose" s_ways_to_choose ["many", "things"]
  d_noted_values : Fct K mg "noted_values" s_noted_values ["notes"]
  d_is_word_then : Fct K mg "is_word_then" s_is_word_then ["noted", "time", "many", "word"]
  d_words_then : Fct K mg "words_then" s_words_then ["noted", "time", "many"]
  d_blocks_then : Fct K mg "blocks_then" s_blocks_then ["noted", "ways", "time", "many"]
  d_folded_ways : Fct K mg "folded_ways" s_folded_ways ["journal", "fold"]
  d_in_all : Fct K mg "in_all" s_in_all ["parts"]
  d_all_ways : Fct K mg "all_ways" s_all_ways ["journal"]
  d_count_orders : Fct K mg "count_orders" s_count_orders ["journal"]
  d_longer_row : Fct K mg "longer_row" s_longer_row ["plots", "row", "more"]
  d_l_cell_at : Fct K mg "_law_cell_at" s_l_cell_at ["_law_script", "_law_k"]
  d_l_box : Fct K mg "_law_box" s_l_box ["_law_script", "_law_k"]
  d_l_take : Fct K mg "_law_take" s_l_take ["_law_box_here", "_law_below"]
  d_l_of : Fct K mg "_law_of" s_l_of ["_law_box_here", "_law_some"]
  d_l_same : Fct K mg "_law_same" s_l_same ["_law_found", "_law_due"]
  d_l_strewn : Fct K mg "_law_strewn" s_l_strewn ["_law_box_here", "_law_some"]
  d_l_seen_of : Fct K mg "_law_seen_of" s_l_seen_of ["_law_hall"]
  d_l_done : Fct K mg "_law_done" s_l_done ["_law_hall", "_law_deed_here"]
  d_l_named : Fct K mg "_law_named" s_l_named ["_law_caught"]
  d_l_deed : Fct K mg "_law_deed" s_l_deed ["_law_box_here", "_law_now"]
  d_l_ways_right : Fct K mg "_law_ways_right" s_l_ways_right ["_law_box_here", "_law_hall"]
  d_l_right : Fct K mg "_law_right" s_l_right ["_law_box_here"]
  c_WORDS : GC K mg "WORDS" (.tuple [.str "new", .str "beside", .str "between"])
  c_STEPS : GD wd K mg "STEPS" [("new", .int (1)), ("beside", .int (0)), ("between", .int (-1))]
  c_ASCENDING_WORDS : GC K mg "ASCENDING_WORDS" (.tuple [.str "beside", .str "between", .str "new"])
  b_abs : mg "abs" = none
  b_all : mg "all" = none
  b_bool : mg "bool" = none
  b_int : mg "int" = none
  b_isinstance : mg "isinstance" = none
  b_len : mg "len" = none
  b_list : mg "list" = none
  b_max : mg "max" = none
  b_min : mg "min" = none
  b_range : mg "range" = none
  b_repr : mg "repr" = none
  b_reversed : mg "reversed" = none
  b_sorted : mg "sorted" = none
  b_str : mg "str" = none
  b_sum : mg "sum" = none
  b_tuple : mg "tuple" = none
  b_zip : mg "zip" = none
structure TopS (K : PySem.W.Frag) (mg : Str → Option Value) (cS : Addr) : Prop where
  here : mg "Street" = some (.ref cS)
  d_build : FctM K cS "build" "Street.build" s_S_build ["self", "plot"]
  d_build_all : FctM K cS "build_all" "Street.build_all" s_S_build_all ["self", "row"]
  d_note_down : FctM K cS "note_down" "Street.note_down" s_S_note_down ["self", "time", "sort"]
  d_forget : FctM K cS "forget" "Street.forget" s_S_forget ["self", "note"]
  d_turn : FctM K cS "turn" "Street.turn" s_S_turn ["self"]
  d_undo : FctM K cS "undo" "Street.undo" s_S_undo ["self"]
  d_build_on : FctM K cS "build_on" "Street.build_on" s_S_build_on ["self", "more"]
  d_note_truth : FctM K cS "note_truth" "Street.note_truth" s_S_note_truth ["self", "time", "sort"]
  d_row : FctM K cS "row" "Street.row" s_S_row ["self"]
  d_notes : FctM K cS "notes" "Street.notes" s_S_notes ["self"]
  d_groups : FctM K cS "groups" "Street.groups" s_S_groups ["self"]
  d_journal : FctM K cS "journal" "Street.journal" s_S_journal ["self"]
  d_count : FctM K cS "count" "Street.count" s_S_count ["self"]
  d_empty : FctM K cS "empty" "Street.empty" s_S_empty ["self"]
  d_operations : FctM K cS "operations" "Street.operations" s_S_operations ["self"]
  d_as_of : FctM K cS "as_of" "Street.as_of" s_S_as_of ["self", "many"]
  d_twin : FctM K cS "twin" "Street.twin" s_S_twin ["self"]
  d_log : FctM K cS "log" "Street.log" s_S_log ["self"]
  d___eq__ : FctM K cS "__eq__" "Street.__eq__" s_S___eq__ ["self", "other"]
  d___len__ : FctM K cS "__len__" "Street.__len__" s_S___len__ ["self"]
  d___repr__ : FctM K cS "__repr__" "Street.__repr__" s_S___repr__ ["self"]
  ini : ∃ fI fd, L2.Mk K cS fI ∧ FunD K "__init__" "Street.__init__" s_S___init__ fI fd ∧ Binds K fd ["self", "plots"] []
  sk : StK K cS
  si : StI K cS
section
variable {P : Program} {wd : World} {K : PySem.W.Frag} {mg : Str → Option Value} {base : Heap} {cS : Addr}
theorem mk_S (Z : TopS K mg cS) : MkO P wd K mg base 2 cS := by
  obtain ⟨fI, fd, h1, F, b⟩ := Z.ini
  refine ⟨Z.here, fI, fd, h1, F.run (k := 1) sc_S___init__ (fun vs H Q E h => ?_) (fun cdv A outer s H vs Q E hr h => ?_), b⟩
  · obtain ⟨a, dx, n, rfl, _⟩ := h
    rfl
  · obtain ⟨a, dx, n, rfl, ha, q⟩ := h
    exact ⟨_, pss_cons (ps_fld (pv 0) (pv 1) (by rfl)) (pss_cons (ps_fld (pv 0) (pe_lst (pa_cons (pe_tup (pa_cons (pe_tup pa_nil) (pa_cons (pe_tup pa_nil) pa_nil))) pa_nil)) (by rfl)) (pss_one (ps_fld (pv 0) (pe_lst pa_nil) (by rfl)))), init_run Z.sk rfl rfl ha q⟩
end
open PySem PySem.Spec PyProof.Rows L2 OgR Evl Dw OgM
def wstr : Wd → Str
  | .new => "new"
  | .beside => "beside"
  | .between => "between"
theorem sok_w (w : Wd) : PyData.strOk (wstr w) = true := by cases w <;> exact sok _
theorem shp_w (w : Wd) : Shp (.str (wstr w)) = True := eq_true (shp_z (sok_w w))
theorem wstr_inj {w v : Wd} : (wstr w = wstr v) = (w = v) := by
  refine propext ⟨fun h => ?_, fun h => by rw [h]⟩
  cases w <;> cases v <;> first | rfl | exact absurd h (by decide +kernel)
def chT (c : Ch) : PyData := .tuple [.str (wstr c.1), .int (c.2 : Nat)]
theorem step_mem (w : Wd) : (wstr w, PyData.int w.step) ∈ ([("new", .int 1), ("beside", .int 0), ("between", .int (-1))] : List (Str × PyData)) := by
  cases w
  · exact .head _
  · exact .tail _ (.head _)
  · exact .tail _ (.tail _ (.head _))
def sortS : NV → Str
  | .g _ => "groups"
  | .h _ => "house"
def valD : NV → PyData
  | .g n => .int (n : Nat)
  | .h w => .str (wstr w)
def ntD (n : Nt) : PyData := .tuple [.int (n.t : Nat), .str (sortS n.v), valD n.v]
def ntL (n : Nt) : PyData := .list [.int (n.t : Nat), .str (sortS n.v), valD n.v]
def IsNts (d : PyData) (ns : List Nt) : Prop := d = .tuple (ns.map ntD) ∨ d = .list (ns.map ntL)
def IsBook (d : PyData) (p t : Nat) (ns : List Nt) : Prop := ∃ e, IsNts e ns ∧ (d = .tuple [.int (p : Nat), .int (t : Nat), e] ∨ d = .list [.int (p : Nat), .int (t : Nat), e])
theorem IsBook.sq {d : PyData} {p t : Nat} {ns : List Nt} (h : IsBook d p t ns) : ∃ e, IsNts e ns ∧ seqd d = true ∧ its d = [.int (p : Nat), .int (t : Nat), e] := by
  obtain ⟨e, he, rfl | rfl⟩ := h <;> exact ⟨e, he, rfl, rfl⟩
def keyN (n : Nt) : List Key := [.inl (n.t : Int), .inr (sortS n.v)]
def kvsOf (ns : List Nt) : KVs := ns.foldl (fun kvs n => putG kvs (keyN n) (valD n.v)) []
theorem lookG_put {κ : Type} [DecidableEq κ] (tbl : List (κ × PyData)) (k k' : κ) (d : PyData) : lookG (putG tbl k d) k' = if k = k' then some d else lookG tbl k' := by
  unfold lookG putG
  split
  · rename_i h
    induction tbl with
    | nil => simp at h
    | cons a l ih =>
      simp only [List.map_cons, List.find?_cons]
      by_cases ha : a.1 = k
      · rw [if_pos ha]
        by_cases hk : k = k'
        · simp [ha, hk]
        · have : ¬ a.1 = k' := fun z => hk (ha ▸ z)
          simp only [this, hk, decide_false, if_false]
          by_cases h2 : (l.any fun kd => decide (kd.1 = k)) = true
          · have := ih h2
            rw [if_neg hk] at this
            exact this
          · have e : l.map (fun kv => if kv.1 = k then (kv.1, d) else kv) = l := by
              conv => rhs; rw [← List.map_id l]
              refine List.map_congr_left fun x hx => ?_
              by_cases hx2 : x.1 = k
              · exact absurd (List.any_eq_true.mpr ⟨x, hx, decide_eq_true hx2⟩) h2
              · rw [if_neg hx2]; rfl
            rw [e]
      · rw [if_neg ha]
        have h2 : (l.any fun kd => decide (kd.1 = k)) = true := by
          rw [List.any_cons] at h
          simpa [ha] using h
        by_cases hk : a.1 = k'
        · have : ¬ k = k' := fun z => ha (hk.trans z.symm)
          simp [hk, this]
        · simp only [hk, decide_false]
          exact ih h2
  · rename_i h
    rw [List.find?_append]
    by_cases hk : k = k'
    · subst hk
      have : tbl.find? (fun kd => decide (kd.1 = k)) = none := by
        rw [List.find?_eq_none]
        intro x hx z
        exact h (List.any_eq_true.mpr ⟨x, hx, z⟩)
      rw [this]
      simp
    · rw [if_neg hk]
      cases q : tbl.find? (fun kd => decide (kd.1 = k')) with
      | some x => simp
      | none => simp [hk]
theorem kvs_look (ns : List Nt) : ∀ tbl : KVs, ∀ t : Nat, lookG (ns.foldl (fun kvs n => putG kvs (keyN n) (valD n.v)) tbl) [.inl (t : Int), .inr "groups"] = ((gAt ns t).map fun n => PyData.int (n : Nat)).or (lookG tbl [.inl (t : Int), .inr "groups"])
    ∧ lookG (ns.foldl (fun kvs n => putG kvs (keyN n) (valD n.v)) tbl) [.inl (t : Int), .inr "house"] = ((hAt ns t).map fun w => PyData.str (wstr w)).or (lookG tbl [.inl (t : Int), .inr "house"]) := by
  induction ns with
  | nil => intro tbl t; exact ⟨by simp [gAt], by simp [hAt]⟩
  | cons n ns ih =>
    intro tbl t
    have gh : ¬ (Str.ofString "house" = Str.ofString "groups") := by decide +kernel
    obtain ⟨a, b⟩ := ih (putG tbl (keyN n) (valD n.v)) t
    rw [List.foldl_cons, a, b, lookG_put, lookG_put]
    have g1 : gAt (n :: ns) t = (gAt ns t).or (if n.t = t then n.v.g? else none) := rfl
    have h1 : hAt (n :: ns) t = (hAt ns t).or (if n.t = t then n.v.h? else none) := rfl
    rw [g1, h1]
    obtain ⟨nt, nv⟩ := n
    have e1 : ∀ z : Str, ((keyN ⟨nt, nv⟩) = [.inl (t : Int), .inr z]) ↔ (nt = t ∧ sortS nv = z) := fun z => by
      unfold keyN
      simp only [List.cons.injEq, Sum.inl.injEq, Sum.inr.injEq, and_true]
      exact ⟨fun h => ⟨by have := h.1; omega, h.2⟩, fun h => ⟨by have := h.1; omega, h.2⟩⟩
    cases nv with
    | g x =>
      refine ⟨?_, ?_⟩
      · by_cases h : nt = t
        · rw [if_pos ((e1 "groups").mpr ⟨h, rfl⟩), if_pos h]
          cases gAt ns t <;> rfl
        · rw [if_neg fun z => h ((e1 "groups").mp z).1, if_neg h]
          cases gAt ns t <;> rfl
      · rw [if_neg fun z => gh ((e1 "house").mp z).2.symm]
        by_cases h : nt = t
        · rw [if_pos h]
          cases hAt ns t <;> rfl
        · rw [if_neg h]
          cases hAt ns t <;> rfl
    | h x =>
      refine ⟨?_, ?_⟩
      · rw [if_neg fun z => gh ((e1 "groups").mp z).2]
        by_cases h : nt = t
        · rw [if_pos h]
          cases gAt ns t <;> rfl
        · rw [if_neg h]
          cases gAt ns t <;> rfl
      · by_cases h : nt = t
        · rw [if_pos ((e1 "house").mpr ⟨h, rfl⟩), if_pos h]
          cases hAt ns t <;> rfl
        · rw [if_neg fun z => h ((e1 "house").mp z).1, if_neg h]
          cases hAt ns t <;> rfl
theorem look_g (ns : List Nt) (t : Nat) : lookG (kvsOf ns) [.inl (t : Int), .inr "groups"] = (gAt ns t).map fun n => PyData.int (n : Nat) := by
  have := (kvs_look ns [] t).1
  rw [show lookG ([] : KVs) [.inl (t : Int), .inr "groups"] = none from rfl, Option.or_none] at this
  exact this
theorem look_h (ns : List Nt) (t : Nat) : lookG (kvsOf ns) [.inl (t : Int), .inr "house"] = (hAt ns t).map fun w => PyData.str (wstr w) := by
  have := (kvs_look ns [] t).2
  rw [show lookG ([] : KVs) [.inl (t : Int), .inr "house"] = none from rfl, Option.or_none] at this
  exact this
local macro_rules | `(tactic| walk_at "s1") => `(tactic| simp only [wPubO, wC, wV, wPub, wP, wCons, wTup, wLst, wL, w2, wTest, wChain, wAnd, wOr, Dw.wNot, wAndV, wOrV, wNotV, wIf, Dw.wTru, truD, gI0, gI, gEq, gNe, gIn, gIsN, gNotN, gIsB, gNotB, gCatT, gCatS, gIx, wCat, wRep, w1, w1O, gLen, gTupleOf, gListOf, wRg1, gInt, gStr, w2a, wSlT, wSlL, wSlS, wRevT, wNeg, wCall, wCallB, wName, wGNil_n, wGCons_c, wGTup, wSeq, wRng1, wEnum, wZip, wNext, wSq, wRet, wIfS, wDrop, wAsg, wOwn, wAug, wMeth, fAppend, wFor_eq, wWhile_eq, wipeD, wLc_eq, Dw.wNm, wPar, wGix, wDix, wCatP, wPopTo, fPop, fPopAt, fIns, wSetIx, gRepr, gMinT, gNeS, gRepN, wDGet2, wDPut, wTPut, wTGet, gSrtR, gLtP, wSlB, wStar, wRaise, wNmX, wXat, wXis, gEqS, wYd, wYdic, wYfn, wYg, wCallD, wCallV, wSetN, wDcT, wTGet2, wTGet1, dicAt, wRng2, wRngD, wRevR, gRevL, wAugIx, look_d, look_own, shpI, shpB, shpN, shpS, seqT, seqL, itsT, itsL, lenT, lenL, okFF, eqv_str, eqv_int, eqv_bool, isNone, perm, Dt.set, Dt.sets, env0, List.map_cons, List.map_nil, List.cons_append, List.nil_append, List.getElem?_cons_zero, List.getElem?_cons_succ, List.set_cons_succ, List.set_cons_zero, List.filterMap_cons, List.filterMap_nil, Option.some.injEq, DV.d.injEq, DV.own.injEq, DV.dit.injEq, DV.dd.injEq, DV.oth.injEq, reduceCtorEq, false_or, or_false, false_and, and_false, exists_false, PyData.int.injEq, PyData.bool.injEq, PyData.str.injEq, PyData.tuple.injEq, PyData.list.injEq, List.cons.injEq, exists_eq_left, exists_eq_left', exists_eq_right, exists_eq_right', exists_and_left, exists_eq', exists_eq, and_true, true_and, and_self, and_assoc, List.length_cons, List.length_nil, List.replicate, Nat.reduceAdd, Nat.reduceSub, Nat.reduceLeDiff, Nat.zero_le, decide_eq_true_eq, Bool.not_eq_true', decide_eq_false_iff_not, ite_true, ite_false, if_true, if_false, Bool.false_eq_true, Bool.true_eq_false, eq_self, List.reduceReplicate, Bool.not_true, Bool.not_false, reduceIte])
section
variable {P : Program} {wd : World} {K : PySem.W.Frag} {mg : Str → Option Value} {base : Heap}
theorem w_new : ("new" : Str) = wstr .new := rfl
theorem w_bes : ("beside" : Str) = wstr .beside := rfl
def f_many_choices : FP := fun ds R => ∃ (w : Wd) (m : Nat), ds = [.str (wstr w), .int (m : Nat)] ∧ R (.int (waysN w m : Nat))
theorem ok_many_choices (T : Top wd K mg) : Def P wd K mg base 1 "many_choices" s_many_choices ["word", "many"] (spP K f_many_choices) := by
  refine Def.pure T.d_many_choices sc_many_choices (fun ds R h => by obtain ⟨_, _, rfl, _⟩ := h; rfl) (fun f cdv A outer s H G E ds R hG hr h => ?_)
  obtain ⟨w, m, rfl, q⟩ := h
  refine ⟨_, _, (dss_cons (ds_if (dt_cmp (o_eq rfl hr.units) (dp_v 0) (DE.p de_str)) (dss_one (ds_ret (de_bin o_add (dp_v 1) (DE.p de_int)))) dss_nil)
      (dss_cons (ds_if (dt_cmp (o_eq rfl hr.units) (dp_v 0) (DE.p de_str)) (dss_one (ds_ret (de_bin o_mul (DE.p de_int) (dp_v 1)))) dss_nil)
      (dss_one (ds_ret (de_max2 (by rfl) (by rfl) T.b_max (de_bin o_sub (dp_v 1) (DE.p de_int)) de_int))))), ?_⟩
  walk_at "s1"
  simp only [w_new, w_bes, wstr_inj, shp_w, true_and]
  cases w
  · exact (if_pos rfl).mpr q
  · exact (if_neg (by decide)).mpr ((if_pos rfl).mpr ⟨.inl ⟨by decide, by decide⟩, q⟩)
  · refine (if_neg (by decide)).mpr ((if_neg (by decide)).mpr ?_)
    have e : (if (0 : Int) > (m : Int) - 1 then (0 : Int) else (m : Int) - 1) = ((m - 1 : Nat) : Int) := by split <;> omega
    rw [e]
    exact q
def f_ways_to_choose : FP := fun ds R => ∃ m n : Nat, ds = [.int (m : Nat), .int (n : Nat)] ∧ m ≤ 1000000 ∧ n < 2 ^ 63 ∧ R (.int (cho n m : Nat))
theorem ok_ways_to_choose (T : Top wd K mg) : Def P wd K mg base 1 "ways_to_choose" s_ways_to_choose ["many", "things"] (spP K f_ways_to_choose) := by
  refine Def.pure T.d_ways_to_choose sc_ways_to_choose (fun ds R h => by obtain ⟨_, _, rfl, _⟩ := h; rfl) (fun f cdv A outer s H G E ds R hG hr h => ?_)
  obtain ⟨m, n, rfl, hm, hn, q⟩ := h
  refine ⟨_, _, (dss_cons (ds_set 2 sc_ways_to_choose.nd de_int)
      (dss_cons (ds_for PassesOwn.never (by rfl) (di_rng1 (by rfl) T.b_range (de_v 0)) (dg_name 3 sc_ways_to_choose.nd)
        (dss_one (ds_set 2 sc_ways_to_choose.nd (de_bin o_fdiv (DE.p (de_bin o_mul (dp_v 2) (DE.p (de_bin o_sub (dp_v 1) (dp_v 3))))) (DE.p (de_bin o_add (dp_v 3) (DE.p de_int)))))))
      (dss_one (ds_ret (de_v 2))))), ?_⟩
  walk_at "s1"
  refine ⟨by omega, by omega, forD_by (fun i s2 => ∃ y3, s2 = ⟨[some (.d (.int (m : Nat))), some (.d (.int (n : Nat))), some (.d (.int (cho n i : Nat))), y3], 0, []⟩) ⟨none, by rw [choose_0]; rfl⟩ (fun i d s2 J e inv hJ => ?_) (fun s2 inv => ?_)⟩
  · obtain ⟨y3, rfl⟩ := inv
    obtain ⟨hi, rfl⟩ := iota_get e
    walk_at "s1"
    refine ⟨.inr ⟨by omega, by omega⟩, ⟨by omega, by omega⟩, hJ _ ⟨some (.d (.int (0 + (i : Int)))), ?_⟩⟩
    rw [Int.zero_add, choose_int]
  · obtain ⟨y3, rfl⟩ := inv
    walk_at "s1"
    rw [iota_len, show ((m : Int) - 0).toNat = m by omega]
    exact q
def f_noted : FN := fun xs R => ∃ d ns, xs = [.d d] ∧ IsNts d ns ∧ ns.length ≤ 10000 ∧ R (kvsOf ns)
theorem kvs_len : ∀ ns : List Nt, ∀ tbl : KVs, (ns.foldl (fun kvs n => putG kvs (keyN n) (valD n.v)) tbl).length ≤ tbl.length + ns.length
  | [], tbl => Nat.le_refl _
  | n :: ns, tbl => by
    rw [List.foldl_cons]
    have h1 := kvs_len ns (putG tbl (keyN n) (valD n.v))
    have h2 : (putG tbl (keyN n) (valD n.v)).length ≤ tbl.length + 1 := by
      unfold putG
      split
      · rw [List.length_map]; omega
      · rw [List.length_append]; exact Nat.le_refl _
    rw [List.length_cons]
    omega
theorem kvsOf_len (ns : List Nt) : (kvsOf ns).length ≤ ns.length := by
  have h := kvs_len ns []
  rw [List.length_nil, Nat.zero_add] at h
  exact h
theorem foldl_snoc {α β : Type} (f : α → β → α) (a : α) (l : List β) (b : β) : (l ++ [b]).foldl f a = f (l.foldl f a) b := by rw [List.foldl_append]; rfl
theorem ok_noted_values (T : Top wd K mg) : Def P wd K mg base 1 "noted_values" s_noted_values ["notes"] (spN K f_noted) := by
  refine Def.newD T.d_noted_values sc_noted_values rfl (fun xs R h => by obtain ⟨_, _, rfl, _⟩ := h; rfl) (fun f cdv A outer s H G E xs R hG hr h => ?_)
  obtain ⟨d, ns, rfl, hd, hl, q⟩ := h
  refine ⟨_, _, (dn_dc (own := [("time", 1), ("sort", 2), ("value", 3)]) (by rfl) sc_noted_values.nd (hu_of1 hr) (di_seq rfl (de_v 0)) (blkOk_by (own := [("time", 1), ("sort", 2), ("value", 3)]) (N := ["notes", "time", "sort", "value"]) (sc := defScope s_noted_values) (by decide +kernel)) (fun _ _ _ _ _ => (dg_tup (n := 3) rfl (by rfl) (dgs_c (dg_name 1 sc_noted_values.nd (hf := by first | exact Or.inr rfl | exact Or.inl rfl)) (dgs_c (dg_name 2 sc_noted_values.nd (hf := by first | exact Or.inr rfl | exact Or.inl rfl)) (dgs_c (dg_name 3 sc_noted_values.nd (hf := by first | exact Or.inr rfl | exact Or.inl rfl)) dgs_nil))))) (fun _ _ _ _ _ => (da_cons (de_v 1) (da_cons (de_v 2) da_nil))) (fun _ _ _ _ _ => (de_v 3))), ?_⟩
  have hs : seqd d = true ∧ (its d).length = ns.length ∧ ∀ (i : Nat) e, (its d)[i]? = some e → ∃ n, ns[i]? = some n ∧ (e = ntD n ∨ e = ntL n) := by
    rcases hd with rfl | rfl
    · refine ⟨rfl, List.length_map .., fun i e he => ?_⟩
      have he : (ns.map ntD)[i]? = some e := he
      rw [List.getElem?_map] at he
      obtain ⟨n, h1, rfl⟩ := Option.map_eq_some_iff.mp he
      exact ⟨n, h1, .inl rfl⟩
    · refine ⟨rfl, List.length_map .., fun i e he => ?_⟩
      have he : (ns.map ntL)[i]? = some e := he
      rw [List.getElem?_map] at he
      obtain ⟨n, h1, rfl⟩ := Option.map_eq_some_iff.mp he
      exact ⟨n, h1, .inr rfl⟩
  walk_at "s1"
  refine ⟨hs.1, fun i kvs c => kvs = kvsOf (ns.take i), rfl, fun i e kvs c he inv => ?_, fun kvs c inv => ?_⟩
  · obtain ⟨n, hn, hen⟩ := hs.2.2 i e he
    subst inv
    have hin := (List.getElem?_eq_some_iff.mp hn).1
    have e1 : kvsOf (ns.take (i + 1)) = putG (kvsOf (ns.take i)) (keyN n) (valD n.v) := by
      unfold kvsOf
      rw [List.take_add_one, hn]
      exact foldl_snoc ..
    have e2 : (kvsOf (ns.take i)).length < 100000 := by
      have := kvsOf_len (ns.take i)
      rw [List.length_take] at this
      omega
    rcases hen with rfl | rfl
    · unfold ntD
      walk_at "s1"
      exact ⟨keyN n, rfl, e2, e1.symm⟩
    · unfold ntL
      walk_at "s1"
      exact ⟨keyN n, rfl, e2, e1.symm⟩
  · subst inv
    rw [hs.2.1, List.take_length]
    exact q
def f_iwt : FD := fun xs R => ∃ ns t m w, xs = [.dd (kvsOf ns), .d (.int (t : Nat)), .d (.int (m : Nat)), .d (.str (wstr w))] ∧ R (.bool (wOk ns t m w))
theorem ok_is_word_then (T : Top wd K mg) : Def P wd K mg base 2 "is_word_then" s_is_word_then ["noted", "time", "many", "word"] (spD K f_iwt) := by
  have g_many_choices := ok_many_choices (P := P) (base := base) T
  refine Def.byD T.d_is_word_then sc_is_word_then (fun xs R h => by obtain ⟨_, _, _, _, rfl, _⟩ := h; rfl) (fun f cdv A outer s H G E xs R hG hr h => ?_)
  obtain ⟨ns, t, m, w, rfl, q⟩ := h
  refine ⟨_, _, (dss_cons (ds_set 4 sc_is_word_then.nd (de_bin o_add (dp_v 2) (DE.p (de_gix T.c_STEPS rfl (by rfl) (de_v 3)))))
      (dss_cons (ds_if (dt_cmp (o_eq rfl hr.units) (DE.p (de_c g_many_choices hG (hr.mono (by omega)) (by rfl) (da_cons (de_v 3) (da_cons (de_v 2) da_nil)))) (DE.p de_int)) (dss_one (ds_ret de_bl)) dss_nil)
      (dss_one (ds_ret (de_and (de_cmp (o_eq rfl hr.units) (DE.p (de_tget2 0 (hu_of hr) (da_cons (de_v 1) (da_cons de_str da_nil)) (de_v 3))) (dp_v 3)) (de_one (de_cmp (o_eq rfl hr.units) (DE.p (de_tget2 0 (hu_of hr) (da_cons (de_v 1) (da_cons de_str da_nil)) (de_v 4))) (dp_v 4)))))))), ?_⟩
  walk_at "s1"
  have k1 : keysD [.int (t : Nat), .str "house"] = some [.inl (t : Int), .inr "house"] := rfl
  have k2 : keysD [.int (t : Nat), .str "groups"] = some [.inl (t : Int), .inr "groups"] := rfl
  refine ⟨_, step_mem w, _, rfl, w, m, rfl, ?_⟩
  walk_at "s1"
  unfold wOk at q
  by_cases h0 : waysN w m = 0
  · rw [if_pos (by omega)]
    rw [h0] at q
    exact q
  rw [if_neg (by omega)]
  rw [decide_eq_true h0, Bool.true_and] at q
  refine ⟨_, k1, ?_⟩
  rw [look_h]
  have e1 : ((hAt ns t).map fun w => PyData.str (wstr w)).getD (.str (wstr w)) = .str (wstr ((hAt ns t).getD w)) := by cases hAt ns t <;> rfl
  rw [e1]
  simp only [shp_w, true_and, eqv_str, wstr_inj, decide_eq_true_eq]
  by_cases h1 : (hAt ns t).getD w = w
  case neg =>
    rw [if_neg h1]
    rw [show ((hAt ns t).getD w == w) = false from beq_eq_false_iff_ne.mpr h1] at q
    exact q
  rw [if_pos h1]
  rw [show ((hAt ns t).getD w == w) = true from beq_iff_eq.mpr h1, Bool.true_and] at q
  refine ⟨_, k2, ?_⟩
  rw [look_g, ← nextM_step h0]
  have e2 : ((gAt ns t).map fun n => PyData.int (n : Nat)).getD (.int (nextM m w : Nat)) = .int (((gAt ns t).getD (nextM m w) : Nat) : Int) := by cases gAt ns t <;> rfl
  rw [e2]
  walk_at "s1"
  have e3 : decide ((((gAt ns t).getD (nextM m w) : Nat) : Int) = (nextM m w : Nat)) = ((gAt ns t).getD (nextM m w) == nextM m w) := by
    by_cases h : (gAt ns t).getD (nextM m w) = nextM m w
    · rw [h, decide_eq_true rfl, beq_self_eq_true]
    · rw [decide_eq_false (by omega), beq_eq_false_iff_ne.mpr h]
  rw [e3]
  exact q
end
section
variable {P : Program} {wd : World} {K : PySem.W.Frag} {mg : Str → Option Value} {base : Heap}
def wdsT (ws : List Wd) : List PyData := ws.map fun w => .str (wstr w)
def f_words : FD := fun xs R => ∃ ns t m, xs = [.dd (kvsOf ns), .d (.int (t : Nat)), .d (.int (m : Nat))] ∧ R (.list (wdsT (wordsAt ns t m)))
theorem ok_words_then (T : Top wd K mg) : Def P wd K mg base 3 "words_then" s_words_then ["noted", "time", "many"] (spD K f_words) := by
  have g_is_word_then := ok_is_word_then (P := P) (base := base) T
  refine Def.byD T.d_words_then sc_words_then (fun xs R h => by obtain ⟨_, _, _, rfl, _⟩ := h; rfl) (fun f cdv A outer s H G E xs R hG hr h => ?_)
  obtain ⟨ns, t, m, rfl, q⟩ := h
  refine ⟨_, _, (dss_one (ds_ret (DO.d (do_lc (own := [("word", 3)]) (by rfl) sc_words_then.nd (di_seq rfl (de_gc T.c_ASCENDING_WORDS (by rfl))) (blkOk_by (own := [("word", 3)]) (N := ["noted", "time", "many", "word"]) (sc := defScope s_words_then) (by decide +kernel)) (fun _ _ _ _ _ => (dg_name 3 sc_words_then.nd (hf := by first | exact Or.inr rfl | exact Or.inl rfl))) (ts_one fun _ _ _ _ _ => (dt_val (de_cD g_is_word_then hG (hr.mono (by omega)) (by rfl) (dy_dic 0 (dy_d (de_v 1) (dy_d (de_v 2) (dy_d (de_v 3) dy_nil))))))) (fun _ _ _ _ _ => (de_v 3)))))), ?_⟩
  walk_at "s1"
  refine lcD_enc asc (fun w => .str (wstr w)) (fun w => if wOk ns t m w = true then some (.str (wstr w)) else none) (by decide) (fun w hw acc J hacc h1 h0 => ?_) ?_
  · walk_at "s1"
    refine ⟨ns, t, m, w, rfl, _, rfl, ?_⟩
    cases hq : wOk ns t m w with
    | true => exact iteT ⟨hacc, h1 _ (by rw [hq]; rfl)⟩
    | false => exact iteF (h0 (by rw [hq]; rfl))
  · have e : asc.filterMap (fun w => if wOk ns t m w = true then some (PyData.str (wstr w)) else none) = wdsT (wordsAt ns t m) := by
      unfold wdsT wordsAt
      generalize asc = l
      induction l with
      | nil => rfl
      | cons w l ih =>
        rw [List.filterMap_cons, List.filter_cons, ih]
        cases wOk ns t m w <;> rfl
    rw [e]
    exact q
def blkT (b : Wd × Nat × Nat) : PyData := .tuple [.str (wstr b.1), .int (b.2.1 : Nat), .int (b.2.2 : Nat)]
def f_blocks : FD := fun xs R => ∃ ns t m f l, xs = [.dd (kvsOf ns), .d (.list ((List.range l).map fun i => .int (f i : Nat))), .d (.int (t : Nat)), .d (.int (m : Nat))] ∧ m + 1 < l ∧ R (.list ((blocksAt ns f t m).map blkT))
theorem ok_blocks_then (T : Top wd K mg) : Def P wd K mg base 4 "blocks_then" s_blocks_then ["noted", "ways", "time", "many"] (spD K f_blocks) := by
  have g_words_then := ok_words_then (P := P) (base := base) T
  have g_many_choices := ok_many_choices (P := P) (base := base) T
  refine Def.byD T.d_blocks_then sc_blocks_then (fun xs R h => by obtain ⟨_, _, _, _, _, rfl, _⟩ := h; rfl) (fun f cdv A outer s H G E xs R hG hr h => ?_)
  obtain ⟨ns, t, m, fn, l, rfl, hl, q⟩ := h
  refine ⟨_, _, (dss_cons (ds_set 4 sc_blocks_then.nd (de_cD g_words_then hG (hr.mono (by omega)) (by rfl) (dy_dic 0 (dy_d (de_v 2) (dy_d (de_v 3) dy_nil)))))
      (dss_one (ds_ret (DO.d (do_lc (own := [("word", 5)]) (by rfl) sc_blocks_then.nd (di_seq rfl (de_v 4)) (blkOk_by (own := [("word", 5)]) (N := ["noted", "ways", "time", "many", "words", "word"]) (sc := defScope s_blocks_then) (by decide +kernel)) (fun _ _ _ _ _ => (dg_name 5 sc_blocks_then.nd (hf := by first | exact Or.inr rfl | exact Or.inl rfl))) ts_no (fun _ _ _ _ _ => (de_tup (da_cons (de_v 5) (da_cons (de_c g_many_choices hG (hr.mono (by omega)) (by rfl) (da_cons (de_v 5) (da_cons (de_v 3) da_nil))) (da_cons (de_ix rfl (dp_v 1) (DE.p (de_bin o_add (dp_v 3) (DE.p (de_gix T.c_STEPS rfl (by rfl) (de_v 5)))))) da_nil)))))))))), ?_⟩
  walk_at "s1"
  refine ⟨ns, t, m, rfl, rfl, lcD_encM (wordsAt ns t m) (fun w => .str (wstr w)) (fun w => blkT (w, waysN w m, fn (nextM m w))) (Nat.le_trans (List.length_filter_le _ _) (by decide)) (fun w hw acc J hacc hJ => ?_) ?_⟩
  · have h0 : waysN w m ≠ 0 := by
      have := (List.mem_filter.mp hw).2
      unfold wOk at this
      simp only [Bool.and_eq_true, decide_eq_true_eq] at this
      exact this.1
    have hn : nextM m w < l := by
      cases w
      · exact hl
      · show m < l; omega
      · show m - 1 < l; omega
    walk_at "s1"
    refine ⟨w, m, rfl, _, step_mem w, _, rfl, _, ?_, hacc, hJ⟩
    rw [← nextM_step h0, at_nat (by rw [List.length_map, List.length_range]; exact hn), List.getElem?_map, List.getElem?_eq_getElem (by rw [List.length_range]; exact hn), List.getElem_range]
    rfl
  · unfold blocksAt at q
    rw [List.map_map] at q
    exact q
def f_fold (φ : List Nat → Nat) : FP := fun ds R => ∃ ns : List Nat, ds = [.list (ns.map fun n => .int (n : Nat))] ∧ ns.length ≤ 10000 ∧ R (.int (φ ns : Nat))
theorem ok_in_all (T : Top wd K mg) : Def P wd K mg base 1 "in_all" s_in_all ["parts"] (spP K (f_fold List.sum)) := by
  refine Def.pure T.d_in_all sc_in_all (fun ds R h => by obtain ⟨_, rfl, _⟩ := h; rfl) (fun f cdv A outer s H G E ds R hG hr h => ?_)
  obtain ⟨ns, rfl, hl, q⟩ := h
  refine ⟨_, _, (dss_one (ds_ret (de_sum rfl (by rfl) (by rfl) T.b_sum (dp_v 0)))), ?_⟩
  walk_at "s1"
  exact gSum_nat q
end
def fwRow (φ : List Nat → Nat) (ns : List Nt) (e T i : Nat) : PyData := .list ((List.range (i + 1)).map fun m => .int (FW φ ns e T (T - i) m : Nat))
def fwAll (φ : List Nat → Nat) (ns : List Nt) (e T : Nat) : PyData := .list ((List.range (T + 1)).map fun i => fwRow φ ns e T i)
theorem rev_range {α : Type} (f : Nat → α) (n : Nat) : ((List.range (n + 1)).map fun k => f (n - k)).reverse = (List.range (n + 1)).map f := by
  refine List.ext_getElem? fun i => ?_
  by_cases h : i < n + 1
  · rw [List.getElem?_reverse (by rw [List.length_map, List.length_range]; exact h), List.length_map, List.length_range, List.getElem?_map, List.getElem?_map, List.getElem?_eq_getElem (by rw [List.length_range]; omega), List.getElem?_eq_getElem (by rw [List.length_range]; exact h), List.getElem_range, List.getElem_range]
    show some (f (n - (n + 1 - 1 - i))) = some (f i)
    rw [show n - (n + 1 - 1 - i) = i by omega]
  · rw [List.getElem?_eq_none (by rw [List.length_reverse, List.length_map, List.length_range]; omega), List.getElem?_eq_none (by rw [List.length_map, List.length_range]; omega)]
section
variable {P : Program} {wd : World} {K : PySem.W.Frag} {mg : Str → Option Value} {base : Heap}
def f_folded (P : Program) (wd : World) (K : PySem.W.Frag) (mg : Str → Option Value) (base : Heap) : FD := fun xs R => ∃ d p T ns φ, xs = [.d d, .oth (fnV P wd K mg base 1 (f_fold φ))] ∧ IsBook d p T ns ∧ T ≤ p ∧ p < 2 ^ 62 ∧ T ≤ 1000 ∧ ns.length ≤ 10000 ∧ R (fwAll φ ns (p - T) T)
theorem ok_folded_ways (T : Top wd K mg) : Def P wd K mg base 5 "folded_ways" s_folded_ways ["journal", "fold"] (spD K (f_folded P wd K mg base)) := by
  have g_noted_values := ok_noted_values (P := P) (base := base) T
  have g_ways_to_choose := ok_ways_to_choose (P := P) (base := base) T
  have g_blocks_then := ok_blocks_then (P := P) (base := base) T
  refine Def.byD T.d_folded_ways sc_folded_ways (fun xs R h => by obtain ⟨_, _, _, _, _, rfl, _⟩ := h; rfl) (fun f cdv A outer s H G E xs R hG hr h => ?_)
  obtain ⟨d, p, n, ns, φ, rfl, hd, hTp, hp, hT, hns, q⟩ := h
  obtain ⟨e, he, hs1, hs2⟩ := hd.sq
  refine ⟨_, _, (dss_cons (ds_asg (de_v 0) (dg_tup (n := 3) rfl (by rfl) (dgs_c (dg_name 2 sc_folded_ways.nd) (dgs_c (dg_name 3 sc_folded_ways.nd) (dgs_c (dg_name 4 sc_folded_ways.nd) dgs_nil)))))
      (dss_cons (ds_setN 5 g_noted_values sc_folded_ways.nd hG (hr.mono (by omega)) (by rfl) (dy_d (de_v 4) dy_nil))
      (dss_cons (ds_set 6 sc_folded_ways.nd (DO.d (do_lc (own := [("many", 10)]) (by rfl) sc_folded_ways.nd (di_rng1 (by rfl) T.b_range (de_bin o_add (dp_v 3) (DE.p de_int))) (blkOk_by (own := [("many", 10)]) (N := ["journal", "fold", "plots", "times", "notes", "noted", "ways", "found", "time", "rows", "many", "blocks", "word", "choices", "block"]) (sc := defScope s_folded_ways) (by decide +kernel)) (fun _ _ _ _ _ => (dg_name 10 sc_folded_ways.nd (hf := by first | exact Or.inr rfl | exact Or.inl rfl))) ts_no (fun _ _ _ _ _ => (de_c g_ways_to_choose hG (hr.mono (by omega)) (by rfl) (da_cons (de_v 10) (da_cons (de_bin o_add (DE.p (de_bin o_sub (dp_v 2) (dp_v 3))) (DE.p de_int)) da_nil)))))))
      (dss_cons (ds_own 7 sc_folded_ways.nd (do_lst (da_cons (de_v 6) da_nil)))
      (dss_cons (ds_for PassesOwn.never (by rfl) (di_revR (by rfl) T.b_reversed (by rfl) T.b_range (de_v 3)) (dg_name 8 sc_folded_ways.nd)
        (dss_cons (ds_setLc 9 (own := [("many", 10)]) (by rfl) sc_folded_ways.nd rfl rfl (sw_true rfl rfl rfl (by decide +kernel)) (di_rng1 (by rfl) T.b_range (de_bin o_add (dp_v 8) (DE.p de_int))) (blkOk_by (own := [("many", 10)]) (N := ["journal", "fold", "plots", "times", "notes", "noted", "ways", "found", "time", "rows", "many", "blocks", "word", "choices", "block"]) (sc := defScope s_folded_ways) (by decide +kernel)) (fun _ _ _ _ _ => (dg_name 10 sc_folded_ways.nd (hf := by first | exact Or.inr rfl | exact Or.inl rfl))) ts_no (fun _ _ _ _ _ => (de_cD g_blocks_then hG (hr.mono (by omega)) (by rfl) (dy_dic 5 (dy_d (de_v 6) (dy_d (de_v 8) (dy_d (de_v 10) dy_nil)))))))
        (dss_cons (ds_set 6 sc_folded_ways.nd (DO.d (do_lc (own := [("blocks", 11)]) (by rfl) sc_folded_ways.nd (di_seq rfl (de_v 9)) (blkOk_by (own := [("blocks", 11)]) (N := ["journal", "fold", "plots", "times", "notes", "noted", "ways", "found", "time", "rows", "many", "blocks", "word", "choices", "block"]) (sc := defScope s_folded_ways) (by decide +kernel)) (fun _ _ _ _ _ => (dg_name 11 sc_folded_ways.nd (hf := by first | exact Or.inr rfl | exact Or.inl rfl))) ts_no (fun _ _ _ _ _ => (de_callV (g := (f_fold φ)) (P := P) (wd := wd) (mg := mg) (base := base) 1 1 rfl hG (hr.mono (by omega)) (da_cons (DO.d (do_lc (own := [("word", 12), ("choices", 13), ("block", 14)]) (by rfl) sc_folded_ways.nd (di_seq rfl (de_v 11)) (blkOk_by (own := [("word", 12), ("choices", 13), ("block", 14)]) (by first | rfl | decide +kernel)) (fun _ _ _ _ _ => (dg_tup (n := 3) rfl (by rfl) (dgs_c (dg_name 12 sc_folded_ways.nd (hf := by first | exact Or.inr rfl | exact Or.inl rfl)) (dgs_c (dg_name 13 sc_folded_ways.nd (hf := by first | exact Or.inr rfl | exact Or.inl rfl)) (dgs_c (dg_name 14 sc_folded_ways.nd (hf := by first | exact Or.inr rfl | exact Or.inl rfl)) dgs_nil))))) ts_no (fun _ _ _ _ _ => (de_bin o_mul (dp_v 13) (dp_v 14))))) da_nil))))))
        (dss_one (ds_app 7 rfl (de_v 6))))))
      (dss_one (ds_ret (DO.d (do_revL rfl (dp_v 7)))))))))), ?_⟩
  walk_at "s1"
  simp only [hs1, hs2]
  walk_at "s1"
  refine ⟨e, ns, rfl, he, hns, by omega, by omega, ?_⟩
  rw [iota_nat1]
  refine lcD_encM (List.range (n + 1)) (fun (i : Nat) => .int (i : Nat)) (fun m => .int (cho (p - n + 1) m : Nat)) (by rw [List.length_range]; omega) (fun m hm acc J hacc hJ => ?_) ?_
  · have hm := List.mem_range.mp hm
    walk_at "s1"
    refine ⟨m, p - n + 1, ?_, by omega, by omega, hacc, hJ⟩
    rw [show (p : Int) - (n : Int) + 1 = ((p - n + 1 : Nat) : Int) by omega]
  walk_at "s1"
  refine ⟨by omega, by omega, ?_⟩
  have row0 : PyData.list ((List.range (n + 1)).map fun m => .int (cho (p - n + 1) m : Nat)) = fwRow φ ns (p - n) n n := by
    unfold fwRow
    rw [Nat.sub_self]
    rfl
  rw [row0]
  refine forD_by (fun j s2 => ∃ y8 y9, j ≤ n ∧ s2 = ⟨[some (.d d), some (.oth (fnV P wd K mg base 1 (f_fold φ))), some (.d (.int (p : Nat))), some (.d (.int (n : Nat))), some (.d e), some (.dit (kvsOf ns)), some (.d (fwRow φ ns (p - n) n (n - j))), some (.own ((List.range (j + 1)).map fun k => fwRow φ ns (p - n) n (n - k))), y8, y9, none, none, none, none, none], 0, []⟩) ⟨none, none, Nat.zero_le _, rfl⟩ (fun j d1 s2 J e2 inv hJ => ?_) (fun s2 inv => ?_)
  · obtain ⟨y8, y9, hj, rfl⟩ := inv
    obtain ⟨hj2, rfl⟩ := down_get e2
    have hj2 : j < n := by omega
    obtain ⟨i, hi⟩ : ∃ i : Nat, n = i + j + 1 := ⟨n - j - 1, by omega⟩
    have e3 : (n : Int) - 1 - (j : Int) = (i : Nat) := by omega
    rw [e3]
    walk_at "s1"
    refine ⟨by omega, by omega, ?_⟩
    rw [iota_nat1]
    refine lcD_encM (List.range (i + 1)) (fun (i : Nat) => .int (i : Nat)) (fun m => .list ((blocksAt ns (fun m => FW φ ns (p - n) n j m) i m).map blkT)) (by rw [List.length_range]; omega) (fun m hm acc J' hacc hJ' => ?_) ?_
    · have hm := List.mem_range.mp hm
      walk_at "s1"
      refine ⟨ns, i, m, fun m => FW φ ns (p - n) n j m, i + 2, ?_, by omega, hacc, hJ'⟩
      unfold fwRow
      rw [show n - j = i + 1 by omega, show n - (i + 1) = j by omega]
    walk_at "s1"
    refine lcD_encM (List.range (i + 1)) (fun m => .list ((blocksAt ns (fun m => FW φ ns (p - n) n j m) i m).map blkT)) (fun m => .int (FW φ ns (p - n) n (j + 1) m : Nat)) (by rw [List.length_range]; omega) (fun m hm acc J' hacc hJ' => ?_) ?_
    · have hb : (blocksAt ns (fun m => FW φ ns (p - n) n j m) i m).length ≤ 3 := by
        unfold blocksAt
        rw [List.length_map]
        exact List.length_filter_le _ _
      have hm := List.mem_range.mp hm
      walk_at "s1"
      refine lcD_encM (blocksAt ns (fun m => FW φ ns (p - n) n j m) i m) blkT (fun b => .int (b.2.1 * b.2.2 : Nat)) (by omega) (fun b hb acc2 J2 hacc2 hJ2 => ?_) ?_
      · unfold blkT
        walk_at "s1"
        have hw : b.2.1 ≤ 2 * m + 1 := by
          unfold blocksAt at hb
          obtain ⟨w, _, rfl⟩ := List.mem_map.mp hb
          cases w
          · show m + 1 ≤ _; omega
          · show 2 * m ≤ _; omega
          · show m - 1 ≤ _; omega
        rw [Int.natCast_mul] at hJ2
        exact ⟨.inl ⟨by omega, by omega⟩, hacc2, hJ2⟩
      · refine ⟨(blocksAt ns (fun m => FW φ ns (p - n) n j m) i m).map fun b => b.2.1 * b.2.2, by rw [List.map_map]; rfl, by rw [List.length_map]; omega, rfl, hacc, ?_⟩
        have e4 : (blocksAt ns (fun m => FW φ ns (p - n) n j m) i m).map (fun b => b.2.1 * b.2.2) = (wordsAt ns (n - (j + 1)) m).map fun w => waysN w m * FW φ ns (p - n) n j (nextM m w) := by
          unfold blocksAt
          rw [List.map_map, show n - (j + 1) = i by omega]
          rfl
        rw [e4]
        exact hJ'
    · walk_at "s1"
      have e5 : PyData.list ((List.range (i + 1)).map fun m => .int (FW φ ns (p - n) n (j + 1) m : Nat)) = fwRow φ ns (p - n) n (n - (j + 1)) := by
        unfold fwRow
        rw [show n - (j + 1) = i by omega, show n - i = j + 1 by omega]
      have e6 : (List.range (j + 1)).map (fun k => fwRow φ ns (p - n) n (n - k)) ++ [fwRow φ ns (p - n) n (n - (j + 1))] = (List.range (j + 1 + 1)).map fun k => fwRow φ ns (p - n) n (n - k) := by
        rw [List.range_succ (n := j + 1), List.map_append]
        rfl
      rw [e5, e6]
      exact ⟨by rw [List.length_map, List.length_range]; omega, hJ _ ⟨_, _, hj2, rfl⟩⟩
  · obtain ⟨y8, y9, hj, rfl⟩ := inv
    walk_at "s1"
    rw [down_len, show ((n : Int) - 1 - -1).toNat = n by omega, rev_range]
    exact q
end
section
variable {P : Program} {wd : World} {K : PySem.W.Frag} {mg : Str → Option Value} {base : Heap}
def Bk (d : PyData) (p T : Nat) (ns : List Nt) : Prop := IsBook d p T ns ∧ T ≤ p ∧ p < 2 ^ 62 ∧ T ≤ 1000 ∧ ns.length ≤ 10000
def f_all_ways : FP := fun ds R => ∃ d p T ns, ds = [d] ∧ Bk d p T ns ∧ R (fwAll List.sum ns (p - T) T)
theorem ok_all_ways (T : Top wd K mg) : Def P wd K mg base 6 "all_ways" s_all_ways ["journal"] (spP K f_all_ways) := by
  have g_folded_ways := ok_folded_ways (P := P) (base := base) T
  have g_in_all := ok_in_all (P := P) (base := base) T
  refine Def.pure T.d_all_ways sc_all_ways (fun ds R h => by obtain ⟨_, _, _, _, rfl, _⟩ := h; rfl) (fun f cdv A outer s H G E ds R hG hr h => ?_)
  obtain ⟨d, p, n, ns, rfl, hB, q⟩ := h
  refine ⟨_, _, (dss_one (ds_ret (de_cD g_folded_ways hG (hr.mono (by omega)) (by rfl) (dy_d (de_v 0) (dy_g g_in_all (by rfl) dy_nil))))), ?_⟩
  walk_at "s1"
  exact ⟨d, p, n, ns, List.sum, rfl, hB.1, hB.2.1, hB.2.2.1, hB.2.2.2.1, hB.2.2.2.2, q⟩
theorem fw_at {φ : List Nat → Nat} {ns : List Nt} {e T i : Nat} (h : i ≤ T) : atI (its (fwAll φ ns e T)) (i : Int) = some (fwRow φ ns e T i) := by
  show atI ((List.range (T + 1)).map fun i => fwRow φ ns e T i) (i : Int) = _
  rw [at_nat (by rw [List.length_map, List.length_range]; omega), List.getElem?_map, List.getElem?_eq_getElem (by rw [List.length_range]; omega), List.getElem_range]
  rfl
theorem fr_at {φ : List Nat → Nat} {ns : List Nt} {e T i m : Nat} (h : m ≤ i) : atI (its (fwRow φ ns e T i)) (m : Int) = some (.int (FW φ ns e T (T - i) m : Nat)) := by
  show atI ((List.range (i + 1)).map fun m => PyData.int (FW φ ns e T (T - i) m : Nat)) (m : Int) = _
  rw [at_nat (by rw [List.length_map, List.length_range]; omega), List.getElem?_map, List.getElem?_eq_getElem (by rw [List.length_range]; omega), List.getElem_range]
  rfl
def f_count : FP := fun ds R => ∃ d p T ns, ds = [d] ∧ Bk d p T ns ∧ R (.int (FW List.sum ns (p - T) T T 0 : Nat))
theorem ok_count_orders (T : Top wd K mg) : Def P wd K mg base 7 "count_orders" s_count_orders ["journal"] (spP K f_count) := by
  have g_all_ways := ok_all_ways (P := P) (base := base) T
  refine Def.pure T.d_count_orders sc_count_orders (fun ds R h => by obtain ⟨_, _, _, _, rfl, _⟩ := h; rfl) (fun f cdv A outer s H G E ds R hG hr h => ?_)
  obtain ⟨d, p, n, ns, rfl, hB, q⟩ := h
  refine ⟨_, _, (dss_one (ds_ret (de_ix rfl (DE.p (de_ix rfl (DE.p (de_c g_all_ways hG (hr.mono (by omega)) (by rfl) (da_cons (de_v 0) da_nil))) (DE.p de_int))) (DE.p de_int)))), ?_⟩
  walk_at "s1"
  exact ⟨d, p, n, ns, rfl, hB, rfl, _, fw_at (i := 0) (by omega), rfl, _, fr_at (m := 0) (by omega), q⟩
end
theorem ws (w : Wd) : Og.wstr w = wstr w := by cases w <;> rfl
section
variable {P : Program} {wd : World} {K : PySem.W.Frag} {mg : Str → Option Value} {base : Heap}
def wdsD (row : List Int) : List PyData := (picks row).map fun c => .str (wstr c.1)
theorem words_at {aW : Addr} (h : ∀ G, Dw.Dp K G (.ref aW) (.tuple [.str "new", .str "beside", .str "between"])) : ∀ H, SqT K H aW Og.wordsV := fun H => by
  cases h H with
  | tup h t =>
    cases t with
    | cons a t =>
      cases t with
      | cons b t =>
        cases t with
        | cons c t =>
          cases t
          cases a
          cases b
          cases c
          exact h
def f_houses : FP := fun ds R => ∃ d row, ds = [d] ∧ IsR d row ∧ row.Nodup ∧ row.length ≤ 900 ∧ R (.tuple (wdsD row))
theorem ok_houses (T : Top wd K mg) : Def P wd K mg base 2 "houses" s_houses ["row"] (spP K f_houses) := by
  obtain ⟨f, fd, F, b, m⟩ := T.d_houses.ex
  obtain ⟨fN, fdN, FN, bN, gN⟩ := T.d_neighbours.ex
  obtain ⟨aW, gW, hW⟩ := T.c_WORDS.ex
  refine ⟨f, fd, fnG_ok ((Og.ok_houses (k := 0) F FN bN gN gW (words_at hW) T.b_tuple).imp fun vs H Q E h => ?_), F, b, m⟩
  obtain ⟨G, ds, R, gh, hd, ⟨d, row, rfl, hr, hn, hl, q⟩, k⟩ := h
  obtain ⟨v, rfl, hv⟩ := dpa_one hd
  obtain ⟨bb, p, rfl, hs⟩ := dp_row gh hv hr
  refine ⟨bb, p, row, rfl, hs, hn, hl, fun H' t eh ht ht' => k _ _ (nwG G H H') H' q (nwG_up gh) eh (nwG_in gh eh) nwG_nw (.tup (.inl (.inl (by rw [nwG_at ht]; exact ht'))) ?_)⟩
  unfold wdsD
  induction picks row with
  | nil => exact .nil
  | cons c cs ih => exact .cons (by show Dw.Dp K _ (.str (Og.wstr c.1)) (.str (wstr c.1)); rw [ws]; exact .str _) ih
def IsC (d : PyData) (cs : List Ch) : Prop := d = .tuple (cs.map chT) ∨ d = .list (cs.map chT)
theorem IsC.sq {d : PyData} {cs : List Ch} (h : IsC d cs) : seqd d = true ∧ its d = cs.map chT := by
  rcases h with rfl | rfl <;> exact ⟨rfl, rfl⟩
end
open PySem PySem.Spec PyProof.Rows L2 OgR Evl Dw Gx
def iniS (i : Nat) : Stmt := match topS i with
  | .ClassDef _ _ _ b _ _ _ _ _ _ _ => b.getD 0 (.Pass ⟨0, 0, 0, 0⟩)
  | _ => .Pass ⟨0, 0, 0, 0⟩
section
variable {P : Program} {wd : World} {K : PySem.W.Frag} {mg : Str → Option Value} {base : Heap}
structure TopX (K : PySem.W.Frag) (mg : Str → Option Value) (c : Nat → Addr) : Prop where
  x0 : Cls K mg "Noted" "note" "Noted.__init__" "ValueError" "ValueError.__new__" "ValueError.__init__" bVE (iniS 3) (c 0)
  x1 : Cls K mg "NoPlot" "plot" "NoPlot.__init__" "LookupError" "LookupError.__new__" "LookupError.__init__" bLE (iniS 4) (c 1)
  x2 : Cls K mg "NoTime" "time" "NoTime.__init__" "LookupError" "LookupError.__new__" "LookupError.__init__" bLE (iniS 5) (c 2)
  x3 : Cls K mg "NoNote" "note" "NoNote.__init__" "LookupError" "LookupError.__new__" "LookupError.__init__" bLE (iniS 6) (c 3)
  x4 : Cls K mg "NoOperation" "many" "NoOperation.__init__" "LookupError" "LookupError.__new__" "LookupError.__init__" bLE (iniS 7) (c 4)
  x5 : Cls K mg "Built" "plot" "Built.__init__" "RuntimeError" "RuntimeError.__new__" "RuntimeError.__init__" bRE (iniS 8) (c 5)
  kit : ((List.range 6).all fun i => (List.range 6).all fun j => PySem.W.kitOne K (.ref (c i)) (.ref (c j)) == some (decide (i = j))) = true
  k_ValueError : ((List.range 6).all fun i => PySem.W.kitOne K (.ref (c i)) (.type "ValueError") == some (decide (i ∈ [0]))) = true
  b_ValueError : mg "ValueError" = none
  k_LookupError : ((List.range 6).all fun i => PySem.W.kitOne K (.ref (c i)) (.type "LookupError") == some (decide (i ∈ [1, 2, 3, 4]))) = true
  b_LookupError : mg "LookupError" = none
  k_RuntimeError : ((List.range 6).all fun i => PySem.W.kitOne K (.ref (c i)) (.type "RuntimeError") == some (decide (i ∈ [5]))) = true
  b_RuntimeError : mg "RuntimeError" = none
  k_KeyError : ((List.range 6).all fun i => PySem.W.kitOne K (.ref (c i)) (.type "KeyError") == some (decide (i ∈ []))) = true
  b_KeyError : mg "KeyError" = none
  k_IndexError : ((List.range 6).all fun i => PySem.W.kitOne K (.ref (c i)) (.type "IndexError") == some (decide (i ∈ []))) = true
  b_IndexError : mg "IndexError" = none
  exm : ((List.range 6).all fun i => PySem.W.exmAny K (.ref (c i)) [.ref (c 5), .ref (c 3), .ref (c 4), .ref (c 1), .ref (c 2), .ref (c 0)] == some (decide (i ∈ [5, 3, 4, 1, 2, 0]))) = true
variable {c : Nat → Addr}
theorem TopX.h_Noted (Y : TopX K mg c) : mg "Noted" = some (.ref (c 0)) := Y.x0.here
theorem TopX.h_NoPlot (Y : TopX K mg c) : mg "NoPlot" = some (.ref (c 1)) := Y.x1.here
theorem TopX.h_NoTime (Y : TopX K mg c) : mg "NoTime" = some (.ref (c 2)) := Y.x2.here
theorem TopX.h_NoNote (Y : TopX K mg c) : mg "NoNote" = some (.ref (c 3)) := Y.x3.here
theorem TopX.h_NoOperation (Y : TopX K mg c) : mg "NoOperation" = some (.ref (c 4)) := Y.x4.here
theorem TopX.h_Built (Y : TopX K mg c) : mg "Built" = some (.ref (c 5)) := Y.x5.here
theorem all_lt {n : Nat} {f : Nat → Bool} (h : (List.range n).all f = true) {i : Nat} (hi : i < n) : f i = true := List.all_eq_true.mp h i (List.mem_range.mpr hi)
theorem TopX.kt (Y : TopX K mg c) {i j : Nat} (hi : i < 6) (hj : j < 6) : PySem.W.kitOne K (.ref (c i)) (.ref (c j)) = some (decide (i = j)) := eq_of_beq (all_lt (all_lt Y.kit hi) hj)
theorem TopX.kt_ValueError (Y : TopX K mg c) {i : Nat} (hi : i < 6) : PySem.W.kitOne K (.ref (c i)) (.type "ValueError") = some (decide (i ∈ [0])) := eq_of_beq (all_lt Y.k_ValueError hi)
theorem TopX.kt_LookupError (Y : TopX K mg c) {i : Nat} (hi : i < 6) : PySem.W.kitOne K (.ref (c i)) (.type "LookupError") = some (decide (i ∈ [1, 2, 3, 4])) := eq_of_beq (all_lt Y.k_LookupError hi)
theorem TopX.kt_RuntimeError (Y : TopX K mg c) {i : Nat} (hi : i < 6) : PySem.W.kitOne K (.ref (c i)) (.type "RuntimeError") = some (decide (i ∈ [5])) := eq_of_beq (all_lt Y.k_RuntimeError hi)
theorem TopX.kt_KeyError (Y : TopX K mg c) {i : Nat} (hi : i < 6) : PySem.W.kitOne K (.ref (c i)) (.type "KeyError") = some (decide (i ∈ [])) := eq_of_beq (all_lt Y.k_KeyError hi)
theorem TopX.kt_IndexError (Y : TopX K mg c) {i : Nat} (hi : i < 6) : PySem.W.kitOne K (.ref (c i)) (.type "IndexError") = some (decide (i ∈ [])) := eq_of_beq (all_lt Y.k_IndexError hi)
theorem TopX.ex (Y : TopX K mg c) {i : Nat} (hi : i < 6) : PySem.W.exmAny K (.ref (c i)) [.ref (c 5), .ref (c 3), .ref (c 4), .ref (c 1), .ref (c 2), .ref (c 0)] = some (decide (i ∈ [5, 3, 4, 1, 2, 0])) := eq_of_beq (all_lt Y.exm hi)
def spTfl (K : PySem.W.Frag) : Sp := fun vs H Q _ => ∃ p xs, vs = [.ref p] ∧ SqT K H p xs ∧ Q (.ref p) H
theorem ok_tfl (T : Top wd K mg) : ∃ f fd, FnOk P wd K mg base CX0 1 f fd ["value"] (spTfl K) ∧ Fun K "tuple_for_list" "tuple_for_list" s_tuple_for_list f fd ∧ Binds K fd ["value"] [] ∧ mg "tuple_for_list" = some (.ref f) := by
  obtain ⟨f, fd, F, b, m⟩ := T.d_tuple_for_list.ex
  refine ⟨f, fd, F.ok sc_tuple_for_list (fun vs H Q E h => ?_) (fun cdv A outer s H vs Q E hr h => ?_), F, b, m⟩
  · obtain ⟨p, xs, rfl, _⟩ := h
    rfl
  · obtain ⟨p, xs, rfl, hS, q⟩ := h
    refine ⟨_, pss_cons (ps_if (pt_val (pe_callB call_isi (by rfl) T.b_isinstance (by decide +kernel) (pa_cons (pv 0) (pa_cons (pe_bltn (v := .ty "list") (by rfl) T.b_list (by decide +kernel) rfl) pa_nil)))) (pss_one ps_never) pss_nil) (pss_one (ps_ret (pv 0))), ?_⟩
    refine ⟨_, rfl, .ref p, .ty "list", _, _, false, rfl, .ty _, tyx_T hS, kit_ty (show kitB "tuple" "list" = some false by decide +kernel), ?_⟩
    exact ⟨false, rfl, iteF ⟨_, rfl, q⟩⟩
theorem si_0 : FnScope ["self", "note"] ["self", "note"] (defScope (iniS 3)) := ⟨rfl, rfl, rfl, by decide +kernel, rfl, by decide +kernel, by decide +kernel⟩
theorem mk_Noted (T : Top wd K mg) (Y : TopX K mg c) : MkD P wd K mg base "Noted" "note" true (c 0) := by
  obtain ⟨fI, fd, h1, h2, F, b⟩ := Y.x0.ini
  obtain ⟨fT, fdT, GT, FT, bT, gT⟩ := ok_tfl (P := P) (base := base) T
  refine ⟨Y.x0.here, _, _, _, _, fI, fd, Y.x0.xc, Y.x0.ty, h1, h2, (F.ok (k := 1) si_0 (fun vs H Q E h => ?_) (fun cdv A outer s H vs Q E hr h => ?_)), b⟩
  · obtain ⟨a, y, rfl, _⟩ := h
    rfl
  · obtain ⟨a, y, rfl, ha, hp, q⟩ := h
    obtain ⟨p, xs, rfl, hS⟩ := hp rfl
    exact ⟨_, pss_one (ps_fld Y.x0.xc (taker Y.x0.fld) (pv 0) (pe_call GT hr (by rfl) gT FT.kp bT .nil pass0 (pa_cons (pv 1) pa_nil))), _, rfl, p, xs, rfl, hS, _, rfl, a, rfl, ha, fun dx hd ne => q dx hd ne⟩
theorem names_Noted {X : Cx} (hm : X.mg "Noted" = some (.ref (c 0))) (hg : Gl X "Noted" := by rfl) : Names X "Noted" (.ref (c 0)) := ⟨hg, by decide, .inl hm⟩
theorem si_1 : FnScope ["self", "plot"] ["self", "plot"] (defScope (iniS 4)) := ⟨rfl, rfl, rfl, by decide +kernel, rfl, by decide +kernel, by decide +kernel⟩
theorem mk_NoPlot (Y : TopX K mg c) : MkD P wd K mg base "NoPlot" "plot" false (c 1) := by
  obtain ⟨fI, fd, h1, h2, F, b⟩ := Y.x1.ini
  refine ⟨Y.x1.here, _, _, _, _, fI, fd, Y.x1.xc, Y.x1.ty, h1, h2, (F.ok (k := 1) si_1 (fun vs H Q E h => ?_) (fun cdv A outer s H vs Q E hr h => ?_)), b⟩
  · obtain ⟨a, y, rfl, _⟩ := h
    rfl
  · obtain ⟨a, y, rfl, ha, _, q⟩ := h
    exact ⟨_, pss_one (ps_fld Y.x1.xc (taker Y.x1.fld) (pv 0) (pv 1)), _, rfl, _, rfl, a, rfl, ha, fun dx hd ne => q dx hd ne⟩
theorem names_NoPlot {X : Cx} (hm : X.mg "NoPlot" = some (.ref (c 1))) (hg : Gl X "NoPlot" := by rfl) : Names X "NoPlot" (.ref (c 1)) := ⟨hg, by decide, .inl hm⟩
theorem si_2 : FnScope ["self", "time"] ["self", "time"] (defScope (iniS 5)) := ⟨rfl, rfl, rfl, by decide +kernel, rfl, by decide +kernel, by decide +kernel⟩
theorem mk_NoTime (Y : TopX K mg c) : MkD P wd K mg base "NoTime" "time" false (c 2) := by
  obtain ⟨fI, fd, h1, h2, F, b⟩ := Y.x2.ini
  refine ⟨Y.x2.here, _, _, _, _, fI, fd, Y.x2.xc, Y.x2.ty, h1, h2, (F.ok (k := 1) si_2 (fun vs H Q E h => ?_) (fun cdv A outer s H vs Q E hr h => ?_)), b⟩
  · obtain ⟨a, y, rfl, _⟩ := h
    rfl
  · obtain ⟨a, y, rfl, ha, _, q⟩ := h
    exact ⟨_, pss_one (ps_fld Y.x2.xc (taker Y.x2.fld) (pv 0) (pv 1)), _, rfl, _, rfl, a, rfl, ha, fun dx hd ne => q dx hd ne⟩
theorem names_NoTime {X : Cx} (hm : X.mg "NoTime" = some (.ref (c 2))) (hg : Gl X "NoTime" := by rfl) : Names X "NoTime" (.ref (c 2)) := ⟨hg, by decide, .inl hm⟩
theorem si_3 : FnScope ["self", "note"] ["self", "note"] (defScope (iniS 6)) := ⟨rfl, rfl, rfl, by decide +kernel, rfl, by decide +kernel, by decide +kernel⟩
theorem mk_NoNote (T : Top wd K mg) (Y : TopX K mg c) : MkD P wd K mg base "NoNote" "note" true (c 3) := by
  obtain ⟨fI, fd, h1, h2, F, b⟩ := Y.x3.ini
  obtain ⟨fT, fdT, GT, FT, bT, gT⟩ := ok_tfl (P := P) (base := base) T
  refine ⟨Y.x3.here, _, _, _, _, fI, fd, Y.x3.xc, Y.x3.ty, h1, h2, (F.ok (k := 1) si_3 (fun vs H Q E h => ?_) (fun cdv A outer s H vs Q E hr h => ?_)), b⟩
  · obtain ⟨a, y, rfl, _⟩ := h
    rfl
  · obtain ⟨a, y, rfl, ha, hp, q⟩ := h
    obtain ⟨p, xs, rfl, hS⟩ := hp rfl
    exact ⟨_, pss_one (ps_fld Y.x3.xc (taker Y.x3.fld) (pv 0) (pe_call GT hr (by rfl) gT FT.kp bT .nil pass0 (pa_cons (pv 1) pa_nil))), _, rfl, p, xs, rfl, hS, _, rfl, a, rfl, ha, fun dx hd ne => q dx hd ne⟩
theorem names_NoNote {X : Cx} (hm : X.mg "NoNote" = some (.ref (c 3))) (hg : Gl X "NoNote" := by rfl) : Names X "NoNote" (.ref (c 3)) := ⟨hg, by decide, .inl hm⟩
theorem si_4 : FnScope ["self", "many"] ["self", "many"] (defScope (iniS 7)) := ⟨rfl, rfl, rfl, by decide +kernel, rfl, by decide +kernel, by decide +kernel⟩
theorem mk_NoOperation (Y : TopX K mg c) : MkD P wd K mg base "NoOperation" "many" false (c 4) := by
  obtain ⟨fI, fd, h1, h2, F, b⟩ := Y.x4.ini
  refine ⟨Y.x4.here, _, _, _, _, fI, fd, Y.x4.xc, Y.x4.ty, h1, h2, (F.ok (k := 1) si_4 (fun vs H Q E h => ?_) (fun cdv A outer s H vs Q E hr h => ?_)), b⟩
  · obtain ⟨a, y, rfl, _⟩ := h
    rfl
  · obtain ⟨a, y, rfl, ha, _, q⟩ := h
    exact ⟨_, pss_one (ps_fld Y.x4.xc (taker Y.x4.fld) (pv 0) (pv 1)), _, rfl, _, rfl, a, rfl, ha, fun dx hd ne => q dx hd ne⟩
theorem names_NoOperation {X : Cx} (hm : X.mg "NoOperation" = some (.ref (c 4))) (hg : Gl X "NoOperation" := by rfl) : Names X "NoOperation" (.ref (c 4)) := ⟨hg, by decide, .inl hm⟩
theorem si_5 : FnScope ["self", "plot"] ["self", "plot"] (defScope (iniS 8)) := ⟨rfl, rfl, rfl, by decide +kernel, rfl, by decide +kernel, by decide +kernel⟩
theorem mk_Built (Y : TopX K mg c) : MkD P wd K mg base "Built" "plot" false (c 5) := by
  obtain ⟨fI, fd, h1, h2, F, b⟩ := Y.x5.ini
  refine ⟨Y.x5.here, _, _, _, _, fI, fd, Y.x5.xc, Y.x5.ty, h1, h2, (F.ok (k := 1) si_5 (fun vs H Q E h => ?_) (fun cdv A outer s H vs Q E hr h => ?_)), b⟩
  · obtain ⟨a, y, rfl, _⟩ := h
    rfl
  · obtain ⟨a, y, rfl, ha, _, q⟩ := h
    exact ⟨_, pss_one (ps_fld Y.x5.xc (taker Y.x5.fld) (pv 0) (pv 1)), _, rfl, _, rfl, a, rfl, ha, fun dx hd ne => q dx hd ne⟩
theorem names_Built {X : Cx} (hm : X.mg "Built" = some (.ref (c 5))) (hg : Gl X "Built" := by rfl) : Names X "Built" (.ref (c 5)) := ⟨hg, by decide, .inl hm⟩
end
open PySem PySem.Spec PyProof.Rows L2 OgR Evl Dw OgM Gx
def rowT (row : List Int) : PyData := .tuple (row.map .int)
def cntT (row : List Int) : List PyData := (List.range row.length).map fun i => .int ((segs (row.take (i + 1))).length : Nat)
theorem ix_step (w : Wd) : (1 : Int) - ((w.ix : Nat) : Int) = w.step := by cases w <;> rfl
section
variable {P : Program} {wd : World} {K : PySem.W.Frag} {mg : Str → Option Value} {base : Heap} {c : Nat → Addr}
def f_nb : FP := fun ds R => ∃ d row, ds = [d] ∧ IsR d row ∧ row.Nodup ∧ row.length ≤ 900 ∧ R (.list ((picks row).map fun c => .int (c.1.ix : Nat)))
theorem ok_neighbours (T : Top wd K mg) : Def P wd K mg base 1 "neighbours" s_neighbours ["row"] (spP K f_nb) := by
  obtain ⟨f, fd, F, b, m⟩ := T.d_neighbours.ex
  refine ⟨f, fd, fnG_ok ((Og.ok_nb (k := 0) F).imp fun vs H Q E h => ?_), F, b, m⟩
  obtain ⟨G, ds, R, gh, hd, ⟨d, row, rfl, hr, hn, hl, q⟩, k⟩ := h
  obtain ⟨v, rfl, hv⟩ := dpa_one hd
  obtain ⟨bb, p, rfl, hs⟩ := dp_row gh hv hr
  refine ⟨bb, p, row, rfl, hs, hn, hl, fun H' t eh ht ht' => k _ _ (nwG G H H') H' q (nwG_up gh) eh (nwG_in gh eh) nwG_nw (.lst (by rw [nwG_at ht]; exact ht') ?_)⟩
  induction picks row with
  | nil => exact .nil
  | cons c cs ih => exact .cons (.int _) ih
def f_groups : FP := fun ds R => ∃ d row, ∃ n : Nat, ds = [d] ∧ IsR d row ∧ OgM.Row (n : Nat) row ∧ row.length ≤ 900 ∧ R (.tuple (cntT row))
theorem ok_groups (T : Top wd K mg) : Def P wd K mg base 2 "groups" s_groups ["row"] (spP K f_groups) := by
  have g_neighbours := ok_neighbours (P := P) (base := base) T
  refine Def.pure T.d_groups sc_groups (fun ds R h => by obtain ⟨_, _, _, rfl, _⟩ := h; rfl) (fun f cdv A outer s H G E ds R hG hr h => ?_)
  obtain ⟨d, row, n, rfl, hd, hR, hl, q⟩ := h
  refine ⟨_, _, (dss_cons (ds_own 1 sc_groups.nd (do_lst da_nil))
      (dss_cons (ds_set 2 sc_groups.nd de_int)
      (dss_cons (ds_for PassesOwn.never (by rfl) (di_seq rfl (de_c g_neighbours hG (hr.mono (by omega)) (by rfl) (da_cons (de_v 0) da_nil))) (dg_name 3 sc_groups.nd)
        (dss_cons (ds_iadd 2 sc_groups.nd (de_bin o_sub (DE.p de_int) (dp_v 3)))
        (dss_one (ds_app 1 rfl (de_v 2)))))
      (dss_one (ds_ret (de_tupleOf rfl (by rfl) T.b_tuple (dp_v 1))))))), ?_⟩
  walk_at "s1"
  refine ⟨d, row, rfl, hd, hR.nd, hl, rfl, ?_⟩
  refine forD_by (fun i s2 => ∃ y3, i ≤ row.length ∧ s2 = ⟨[some (.d d), some (.own ((List.range i).map fun j => .int ((segs (row.take (j + 1))).length : Nat))), some (.d (.int ((segs (row.take i)).length : Nat))), y3], 0, []⟩) ⟨none, Nat.zero_le _, rfl⟩ (fun i d1 s2 J e2 inv hJ => ?_) (fun s2 inv => ?_)
  · obtain ⟨y3, hi, rfl⟩ := inv
    have e2 : ((picks row).map fun c => PyData.int (c.1.ix : Nat))[i]? = some d1 := e2
    rw [List.getElem?_map] at e2
    obtain ⟨⟨w, k⟩, hc, rfl⟩ := Option.map_eq_some_iff.mp e2
    have hi2 : i < row.length := by
      have := (List.getElem?_eq_some_iff.mp hc).1
      rw [picks_len] at this
      exact this
    obtain ⟨n1, n2⟩ := picks_next hR hc
    walk_at "s1"
    have e3 : ((segs (row.take i)).length : Int) + (1 - ((w.ix : Nat) : Int)) = ((segs (row.take (i + 1))).length : Nat) := by
      rw [ix_step, n1]
      exact (nextM_step (by omega)).symm
    have e4 : ∀ x : Int, ((segs (row.take i)).length : Int) + 1 - x = ((segs (row.take i)).length : Int) + (1 - x) := fun x => by omega
    first | rw [e3] | (rw [e4, e3])
    have e5 : (List.range i).map (fun j => PyData.int ((segs (row.take (j + 1))).length : Nat)) ++ [PyData.int ((segs (row.take (i + 1))).length : Nat)] = (List.range (i + 1)).map fun j => PyData.int ((segs (row.take (j + 1))).length : Nat) := by
      rw [List.range_succ, List.map_append]
      rfl
    rw [e5]
    exact ⟨by rw [List.length_map, List.length_range]; omega, hJ _ ⟨_, hi2, rfl⟩⟩
  · obtain ⟨y3, hi, rfl⟩ := inv
    walk_at "s1"
    rw [List.length_map, picks_len]
    exact q
def truV (row : List Int) (t : Nat) : NV → NV
  | .g _ => .g (segs (row.take (t + 1))).length
  | .h _ => .h ((picks row)[t]?.getD (.new, 0)).1
def f_true : FP := fun ds R => ∃ d row, ∃ n t : Nat, ∃ v : NV, ds = [d, .int (t : Nat), .str (sortS v)] ∧ IsR d row ∧ OgM.Row (n : Nat) row ∧ row.length ≤ 900 ∧ t < row.length ∧ R (valD (truV row t v))
theorem ok_true_value (T : Top wd K mg) : Def P wd K mg base 3 "true_value" s_true_value ["row", "time", "sort"] (spP K f_true) := by
  have g_groups := ok_groups (P := P) (base := base) T
  have g_houses := ok_houses (P := P) (base := base) T
  refine Def.pure T.d_true_value sc_true_value (fun ds R h => by obtain ⟨_, _, _, _, _, rfl, _⟩ := h; rfl) (fun f cdv A outer s H G E ds R hG hr h => ?_)
  obtain ⟨d, row, n, t, v, rfl, hd, hR, hl, ht, q⟩ := h
  refine ⟨_, _, (dss_cons (ds_if (dt_cmp (o_eq rfl hr.units) (dp_v 2) (DE.p de_str)) (dss_one (ds_ret (de_ix rfl (DE.p (de_c g_groups hG (hr.mono (by omega)) (by rfl) (da_cons (de_v 0) da_nil))) (dp_v 1)))) dss_nil)
      (dss_one (ds_ret (de_ix rfl (DE.p (de_c g_houses hG (hr.mono (by omega)) (by rfl) (da_cons (de_v 0) da_nil))) (dp_v 1))))), ?_⟩
  walk_at "s1"
  cases v with
  | g x =>
    refine ⟨shp_str _, (if_pos rfl).mpr ⟨d, row, n, rfl, hd, hR, hl, rfl, _, ?_, q⟩⟩
    show atI (cntT row) (t : Int) = _
    unfold cntT
    rw [at_nat (by rw [List.length_map, List.length_range]; exact ht), List.getElem?_map, List.getElem?_eq_getElem (by rw [List.length_range]; exact ht), List.getElem_range]
    rfl
  | h x =>
    refine ⟨shp_str _, (if_neg (show ¬ (Str.ofString "house" = Str.ofString "groups") by decide +kernel)).mpr ⟨d, row, rfl, hd, hR.nd, hl, rfl, _, ?_, q⟩⟩
    show atI (wdsD row) (t : Int) = _
    unfold wdsD truV
    rw [at_nat (by rw [List.length_map, picks_len]; exact ht), List.getElem?_map, List.getElem?_eq_getElem (by rw [picks_len]; exact ht)]
    rfl
end
local macro_rules | `(tactic| walk_at "s2") => `(tactic| simp only [wPubO, wC, wV, wPub, wP, wCons, wTup, wLst, wL, w2, wTest, wChain, wAnd, wOr, Dw.wNot, wAndV, wOrV, wNotV, wIf, Dw.wTru, truD, gI0, gI, gEq, gNe, gIn, gIsN, gNotN, gIsB, gNotB, gCatT, gCatS, gIx, wCat, wRep, w1, w1O, gLen, gTupleOf, gListOf, wRg1, gInt, gStr, w2a, wSlT, wSlL, wSlS, wRevT, wNeg, wCall, wCallB, wName, wGNil_n, wGCons_c, wGTup, wSeq, wRng1, wEnum, wZip, wNext, wSq, wRet, wIfS, wDrop, wAsg, wOwn, wAug, wMeth, fAppend, wFor_eq, wWhile_eq, wipeD, wLc_eq, Dw.wNm, wPar, wGix, wDix, wCatP, wPopTo, fPop, fPopAt, fIns, wSetIx, gRepr, gMinT, gNeS, gRepN, wDGet2, wDPut, wTPut, wTGet, gSrtR, gSrtA, gLtP, wSlB, wStar, wRaise, wNmX, wXat, wXis, gEqS, wYd, wYdic, wYfn, wYg, wCallD, wCallV, wSetN, wDcT, wTGet2, wTGet1, dicAt, wRng2, wRngD, wRevR, gRevL, wIsi, wNotT, wAugIx, wPeekO, wPick2, wExt, fRem, look_d, look_own, shpI, shpB, shpN, shpS, seqT, seqL, itsT, itsL, lenT, lenL, okFF, eqv_str, eqv_int, eqv_bool, isNone, perm, Dt.set, Dt.sets, env0, List.map_cons, List.map_nil, List.cons_append, List.nil_append, List.getElem?_cons_zero, List.getElem?_cons_succ, List.set_cons_succ, List.set_cons_zero, List.filterMap_cons, List.filterMap_nil, Option.some.injEq, DV.d.injEq, DV.own.injEq, DV.dit.injEq, DV.dd.injEq, DV.oth.injEq, reduceCtorEq, false_or, or_false, false_and, and_false, exists_false, PyData.int.injEq, PyData.bool.injEq, PyData.str.injEq, PyData.tuple.injEq, PyData.list.injEq, List.cons.injEq, exists_eq_left, exists_eq_left', exists_eq_right, exists_eq_right', exists_and_left, exists_eq', exists_eq, and_true, true_and, and_self, and_assoc, List.length_cons, List.length_nil, List.replicate, Nat.reduceAdd, Nat.reduceSub, Nat.reduceLeDiff, Nat.zero_le, decide_eq_true_eq, Bool.not_eq_true', decide_eq_false_iff_not, ite_true, ite_false, if_true, if_false, Bool.false_eq_true, Bool.true_eq_false, eq_self, List.reduceReplicate, Bool.not_true, Bool.not_false, reduceIte])
theorem lt_int (x y : Int) : PySem.W.dataLt (.int x) (.int y) = decide (x < y) := by
  have h := PySem.W.dataLt_ints [x] [y]
  unfold PySem.W.rowLt at h
  rw [List.map_cons, List.map_cons, List.map_nil, PySem.W.dataLt_cons (x := .int x) (y := .int y) rfl] at h
  rw [eqv_int] at h
  by_cases e : x = y
  · subst e
    rw [lt_irr]
    simp
  · rw [if_neg (by simpa using e)] at h
    rw [h]
    simp [List.cons_lt_cons_iff]
theorem eqvA_ints : ∀ a b : List Int, PyData.eqvAll (a.map .int) (b.map .int) = decide (a = b)
  | [], [] => by simp [PyData.eqvAll]
  | [], _ :: _ => by simp [PyData.eqvAll]
  | _ :: _, [] => by simp [PyData.eqvAll]
  | x :: a, y :: b => by
    simp only [List.map_cons, PyData.eqvAll, eqvA_ints a b, PyData.eqv]
    by_cases h1 : x = y <;> by_cases h2 : a = b <;> simp [h1, h2]
local macro_rules | `(tactic| walk_at "d") => `(tactic| first
  | refine ⟨_, rfl, ?_⟩ | refine ⟨_, _, rfl, rfl, ?_⟩ | refine iteT ?_ | refine iteF ?_ | refine ⟨_, _, rfl, rfl, rfl, ?_⟩)
def stepOf (z : Str) : Option Int := if z = "new" then some 1 else if z = "beside" then some 0 else if z = "between" then some (-1) else none
section
variable {P : Program} {wd : World} {K : PySem.W.Frag} {mg : Str → Option Value} {base : Heap}
theorem step_memZ {z : Str} {sv : Int} (h : stepOf z = some sv) : (z, PyData.int sv) ∈ [(("new" : Str), PyData.int (1)), ("beside", .int (0)), ("between", .int (-1))] := by
  unfold stepOf at h
  split at h
  · rename_i e
    cases h
    subst e
    simp
  · split at h
    · rename_i e
      cases h
      subst e
      simp
    · split at h
      · rename_i e
        cases h
        subst e
        simp
      · cases h
end
local macro_rules | `(tactic| walk_at "s3") => `(tactic| simp only [wPubO, wC, wV, wPub, wP, wCons, wTup, wLst, wL, w2, wTest, wChain, wAnd, wOr, Dw.wNot, wAndV, wOrV, wNotV, wIf, Dw.wTru, truD, gI0, gI, gEq, gNe, gIn, gIsN, gNotN, gIsB, gNotB, gCatT, gCatS, gIx, wCat, wRep, w1, w1O, gLen, gTupleOf, gListOf, wRg1, gInt, gStr, w2a, wSlT, wSlL, wSlS, wRevT, wNeg, wCall, wCallB, wName, wGNil_n, wGCons_c, wGTup, wSeq, wRng1, wEnum, wZip, wNext, wSq, wRet, wIfS, wDrop, wAsg, wOwn, wAug, wMeth, fAppend, wFor_eq, wWhile_eq, wipeD, wLc_eq, Dw.wNm, wPar, wGix, wDix, wCatP, wPopTo, fPop, fPopAt, fIns, wSetIx, gRepr, gMinT, gNeS, gRepN, wDGet2, wDPut, wTPut, wTGet, gSrtR, gSrtA, gLtP, wSlB, wStar, wRaise, wNmX, wXat, wXis, gEqS, wYd, wYdic, wYfn, wYg, wCallD, wCallV, wSetN, wDcT, wTGet2, wTGet1, dicAt, wRng2, wRngD, wRevR, gRevL, wAppPop, gSrtSet, wIsi, wNotT, wAugIx, wPeekO, wPick2, wExt, fRem, look_d, look_own, shpI, shpB, shpN, shpS, seqT, seqL, itsT, itsL, lenT, lenL, okFF, eqv_str, eqv_int, eqv_bool, isNone, perm, Dt.set, Dt.sets, env0, List.map_cons, List.map_nil, List.cons_append, List.nil_append, List.getElem?_cons_zero, List.getElem?_cons_succ, List.set_cons_succ, List.set_cons_zero, List.filterMap_cons, List.filterMap_nil, Option.some.injEq, DV.d.injEq, DV.own.injEq, DV.dit.injEq, DV.dd.injEq, DV.oth.injEq, reduceCtorEq, false_or, or_false, false_and, and_false, exists_false, PyData.int.injEq, PyData.bool.injEq, PyData.str.injEq, PyData.tuple.injEq, PyData.list.injEq, List.cons.injEq, exists_eq_left, exists_eq_left', exists_eq_right, exists_eq_right', exists_and_left, exists_eq', exists_eq, and_true, true_and, and_self, and_assoc, List.length_cons, List.length_nil, List.replicate, Nat.reduceAdd, Nat.reduceSub, Nat.reduceLeDiff, Nat.zero_le, decide_eq_true_eq, Bool.not_eq_true', decide_eq_false_iff_not, ite_true, ite_false, if_true, if_false, Bool.false_eq_true, Bool.true_eq_false, eq_self, List.reduceReplicate, Bool.not_true, Bool.not_false, reduceIte])
section
variable {P : Program} {wd : World} {K : PySem.W.Frag} {mg : Str → Option Value} {base : Heap} {c : Nat → Addr}
def f_notesof : FP := fun ds R => ∃ d p T ns, ds = [d] ∧ IsBook d p T ns ∧ ns.length ≤ 1000 ∧ R (.list (ns.map ntD))
theorem ok_notes_of (T : Top wd K mg) : Def P wd K mg base 1 "notes_of" s_notes_of ["journal"] (spP K f_notesof) := by
  refine Def.pure T.d_notes_of sc_notes_of (fun ds R h => by obtain ⟨_, _, _, _, rfl, _⟩ := h; rfl) (fun f cdv A outer s H G E ds R hG hr h => ?_)
  obtain ⟨d, p, n, ns, rfl, hB, hl, q⟩ := h
  obtain ⟨e, he, hs1, hs2⟩ := hB.sq
  refine ⟨_, _, (dss_one (ds_ret (DO.d (do_lc (own := [("note", 1)]) (by rfl) sc_notes_of.nd (di_seq rfl (de_ix rfl (dp_v 0) (DE.p de_int))) (blkOk_by (own := [("note", 1)]) (N := ["journal", "note"]) (sc := defScope s_notes_of) (by decide +kernel)) (fun _ _ _ _ _ => (dg_name 1 sc_notes_of.nd (hf := by first | exact Or.inr rfl | exact Or.inl rfl))) ts_no (fun _ _ _ _ _ => (de_tupleOf rfl (by rfl) T.b_tuple (dp_v 1))))))), ?_⟩
  walk_at "s3"
  obtain ⟨enc, hse, hie, henc⟩ : ∃ enc : Nt → PyData, seqd e = true ∧ its e = ns.map enc ∧ ∀ x, seqd (enc x) = true ∧ its (enc x) = [.int (x.t : Nat), .str (sortS x.v), valD x.v] := by
    rcases he with rfl | rfl
    · exact ⟨ntD, rfl, rfl, fun x => ⟨rfl, rfl⟩⟩
    · exact ⟨ntL, rfl, rfl, fun x => ⟨rfl, rfl⟩⟩
  refine ⟨hs1, e, by rw [hs2]; rfl, hse, ?_⟩
  rw [hie]
  refine lcD_encM ns enc ntD (by omega) (fun x hx acc J hacc hJ => ?_) q
  walk_at "s3"
  refine ⟨(henc x).1, hacc, ?_⟩
  rw [(henc x).2]
  exact hJ
end
local macro_rules | `(tactic| walk_at "d") => `(tactic| first
  | refine ⟨_, rfl, ?_⟩ | refine ⟨_, _, rfl, rfl, ?_⟩ | refine iteT ?_ | refine iteF ?_ | refine ⟨_, _, rfl, rfl, rfl, ?_⟩)
section
variable {P : Program} {wd : World} {K : PySem.W.Frag} {mg : Str → Option Value} {base : Heap}
def spTake : Sp := fun vs H Q _ => ∃ (l : Addr) (c n : Int), vs = [.ref l, .int n] ∧ Dw.BoxAt H l c ∧ 1 ≤ n ∧ n ≤ 10000000 ∧ c < 1000000 ∧
  ∀ r xs c', 0 ≤ r → r < n → Dw.BoxAt (upd H l (.lst xs)) l c' → c' ≤ c + 1 → Q (.int r) (upd H l (.lst xs))
theorem raw_take {f : Addr} {fd : FuncData} {k : Nat} (F : Fun K "_law_take" "_law_take" s_l_take f fd) : FnG P wd K mg base (k + 1) f fd ["_law_box_here", "_law_below"] spTake := by
  refine fnG_of F sc_l_take (fun vs H Q E h => ?_) (fun cdv A outer s H vs Q E hG hr h => ?_)
  · obtain ⟨l, c, n, rfl, _⟩ := h
    rfl
  · obtain ⟨l, c, n, rfl, ⟨a, b, hl, ha, hb, hb2, hc, hc2⟩, hn, hn2, hc3, q⟩ := h
    have hL : SqL K H l [.int a, .int b, .int c] := .inl (.inl hl)
    have X0 : ∀ {X : Cx} {j : Int} {p p1 p2 : Pos} {k : Nat} (hv : PE X (.Name "_law_box_here" p1) (tVar 0)), PE X (.Subscript (.Name "_law_box_here" p1) (.Constant (.int j) k p2) p) (tOp (rIxL X.K) (tVar 0) (fun _ H Q => Q (.int j) H)) := fun hv => pe_ix ix_list hv pe_int (fun _ _ => rfl)
    refine ⟨_, pss_cons (ps_if (pt_cmpR op_gt (X0 (pv 0)) pe_int (nomark _))
        (pss_cons (ps_set (i := 2) sc_l_take.nd rfl (.inl rfl) (pe_op op_mod (X0 (pv 0)) (pv 1)))
          (pss_cons (ps_asg (pe_op op_fdiv (X0 (pv 0)) (pv 1)) (pg_sub (pv 0) pe_int set_list))
          (pss_one (ps_ret (pv 2))))) pss_nil)
      (pss_cons (ps_if (pt_cmpR op_gt (pv 1) (pe_op op_pow pe_int pe_int) (nomark _)) (pss_one ps_never) pss_nil)
      (pss_cons (ps_asg (pe_op op_add (X0 (pv 0)) pe_int) (pg_sub (pv 0) pe_int set_list))
      (pss_cons (ps_set (i := 3) sc_l_take.nd rfl (.inl rfl) (pe_op op_mod (pe_op op_mul (pe_op op_add (X0 (pv 0)) (pe_op op_mul pe_int (X0 (pv 0)))) (pe_op op_add pe_int (X0 (pv 0)))) pe_int))
      (pss_cons (ps_set (i := 4) sc_l_take.nd rfl (.inl rfl) (pe_op op_mod (pe_op op_mul (pe_op op_add (pe_op op_add (pv 3) (X0 (pv 0))) (pe_op op_fdiv (X0 (pv 0)) pe_int)) (pe_op op_add (pe_op op_mod (pv 3) pe_int) pe_int)) pe_int))
      (pss_one (ps_ret (pe_op op_mod (pe_op op_fdiv (pe_op op_mod (pe_op op_add (pe_op op_mul (pv 4) pe_int) (pv 3)) pe_int) pe_int) (pv 1)))))))), ?_⟩
    refine ⟨_, rfl, l, _, 0, _, rfl, rfl, hL, rfl, _, _, rfl, rfl, _, rfl, ite2 (fun e => ?_) (fun e => ?_)⟩
    · have h1 := of_decide_eq_true e
      refine ⟨_, rfl, l, _, 0, _, rfl, rfl, hL, rfl, _, rfl, _, _, rfl, rfl, by omega, ?_⟩
      refine ⟨_, rfl, l, _, 0, _, rfl, rfl, hL, rfl, _, rfl, _, _, rfl, rfl, ⟨by omega, by omega⟩, _, rfl, l, _, 0, 0, rfl, rfl, hl, rfl, ?_⟩
      refine ⟨_, rfl, ?_⟩
      refine q _ _ c (Int.emod_nonneg _ (by omega)) (Int.emod_lt_of_pos _ (by omega)) ⟨_, _, upd_same, Int.ediv_nonneg ha (by omega), hb, hb2, hc, hc2⟩ (by omega)
    · refine ⟨_, rfl, _, _, rfl, rfl, ⟨by decide, by decide, by decide⟩, _, _, rfl, rfl, _, rfl, ite2 (fun e2 => ?_) (fun e2 => ?_)⟩
      · have h2 := of_decide_eq_true e2
        exact absurd h2 (by show ¬ ((10 : Int) ^ 7 < n); omega)
      · refine ⟨_, rfl, l, _, 2, _, rfl, rfl, hL, rfl, _, _, rfl, rfl, _, rfl, l, _, 2, 2, rfl, rfl, hl, rfl, ?_⟩
        have hl2 : upd H l (.lst [.int a, .int b, .int (c + 1)]) l = some (.lst [.int a, .int b, .int (c + 1)]) := upd_same
        have hL2 : SqL K (upd H l (.lst [.int a, .int b, .int (c + 1)])) l [.int a, .int b, .int (c + 1)] := .inl (.inl hl2)
        show tSeq _ _ _ _ (upd H l (.lst [.int a, .int b, .int (c + 1)]))
        refine ⟨_, rfl, l, _, 1, _, rfl, rfl, hL2, rfl, _, rfl, l, _, 2, _, rfl, rfl, hL2, rfl, _, _, rfl, rfl, .inl ⟨by decide, by decide⟩, _, _, rfl, rfl, _, rfl, l, _, 2, _, rfl, rfl, hL2, rfl, _, _, rfl, rfl, _, _, rfl, rfl, .inl ⟨by omega, by omega⟩, _, _, rfl, rfl, by omega, ?_⟩
        refine ⟨_, rfl, _, rfl, l, _, 2, _, rfl, rfl, hL2, rfl, _, _, rfl, rfl, _, rfl, l, _, 1, _, rfl, rfl, hL2, rfl, _, _, rfl, rfl, ⟨by decide, by decide⟩, _, _, rfl, rfl, _, rfl, _, _, rfl, rfl, by omega, _, _, rfl, rfl, _, _, rfl, rfl, .inr ⟨?_, ?_⟩, _, _, rfl, rfl, by omega, ?_⟩
        · have := Int.emod_nonneg ((b + 48271 * (c + 1)) * (39373 + (c + 1)) % 2147483647) (show (40009 : Int) ≠ 0 by decide); omega
        · have := Int.emod_lt_of_pos ((b + 48271 * (c + 1)) * (39373 + (c + 1)) % 2147483647) (show (0 : Int) < 40009 by decide); omega
        · refine ⟨_, rfl, _, _, rfl, rfl, .inr ⟨by decide, by decide⟩, _, rfl, _, _, rfl, rfl, _, _, rfl, rfl, by omega, _, _, rfl, rfl, ⟨by decide, by decide⟩, _, rfl, _, _, rfl, rfl, by omega, ?_⟩
          exact q _ _ (c + 1) (Int.emod_nonneg _ (by omega)) (Int.emod_lt_of_pos _ (by omega)) ⟨_, _, upd_same, ha, hb, hb2, by omega, by omega⟩ (by omega)
def f_take : FB := fun ds c R => ∃ n : Int, ds = [.int n] ∧ 1 ≤ n ∧ n ≤ 10000000 ∧ c < 1000000 ∧ ∀ r c', 0 ≤ r → r < n → c' ≤ c + 1 → R (.int r) c'
theorem ok_l_take (T : Top wd K mg) : Def P wd K mg base 1 "_law_take" s_l_take ["_law_box_here", "_law_below"] (spB K f_take) := by
  obtain ⟨f, fd, F, b, m⟩ := T.d_l_take.ex
  refine Def.imp (sp := spTake) ⟨f, fd, raw_take F, F, b, m⟩ fun vs H Q E h => ?_
  obtain ⟨l, vs', G, ds, c, R, rfl, hB, hGl, gh, p, ⟨n, rfl, h1, h2, h3, hR⟩, kk⟩ := h
  cases p with
  | cons p1 p2 =>
    cases p2
    refine ⟨l, c, n, by rw [dp_int p1], hB, h1, h2, h3, fun r xs c' r0 r1 hB' hc' => kk (.int r) (.int r) c' G _ (hR r c' r0 r1 hc') (Ex.refl G) (fun b o hb h => by rw [upd_ne hb]; exact h) hB' (fun b o h => ?_) (Nw.refl G H) (.int r)⟩
    rw [upd_ne (fun z => by rw [z, hGl] at h; cases h)]
    exact gh b o h
def f_of : FB := fun ds c R => ∃ x, ds = [x] ∧ seqd x = true ∧ 1 ≤ (its x).length ∧ (its x).length ≤ 1000 ∧ c < 1000000 ∧ ∀ d c', d ∈ its x → c' ≤ c + 1 → R d c'
theorem ok_l_of (T : Top wd K mg) : Def P wd K mg base 2 "_law_of" s_l_of ["_law_box_here", "_law_some"] (spB K f_of) := by
  have g_l_take := ok_l_take (P := P) (base := base) T
  refine Def.draws T.d_l_of sc_l_of (fun ds c R h => by obtain ⟨x, rfl, _⟩ := h; rfl) (fun f cdv A outer s H G l E ds c R hG hr h => ?_)
  obtain ⟨x, rfl, hs, h1, h2, hc, q⟩ := h
  refine ⟨_, _, (dss_one (ds_ret (de_ix rfl (dp_v 1) (DE.p (de_cB 0 g_l_take hG (hr.mono (by omega)) (by rfl) (da_cons (de_len rfl (by rfl) T.b_len (dp_v 1)) da_nil)))))), ?_⟩
  have hl : lenD x = some (its x).length := by cases x <;> first | rfl | cases hs
  refine ⟨_, x, rfl, rfl, rfl, _, x, rfl, rfl, (its x).length, hl, _, rfl, by omega, by omega, hc, fun r c' r0 r1 hc' => ?_⟩
  have hr2 : r.toNat < (its x).length := by omega
  refine ⟨r, _, hs, rfl, ?_, q _ c' (List.getElem_mem hr2) hc'⟩
  unfold atI ixN
  rw [if_pos r0, if_pos r1]
  exact List.getElem?_eq_getElem hr2
end
local macro_rules | `(tactic| walk_at "d") => `(tactic| first
  | refine ⟨_, rfl, ?_⟩ | refine ⟨_, _, rfl, rfl, ?_⟩ | refine iteT ?_ | refine iteF ?_ | refine ⟨_, _, rfl, rfl, rfl, ?_⟩ | refine ⟨rfl, ?_⟩)
def OnB (w : Nat) (C : PyData → Prop) (d : PyData) : Prop := FlB d ∨ ∃ es, (d = .list es ∨ d = .tuple es) ∧ es.length ≤ w ∧ ∀ x ∈ es, C x
theorem FlB.shp {d : PyData} (h : FlB d) : Shp d := Bd.shp (w := 0) (k := 0) h (by decide)
theorem zip_self {es : List PyData} {x : PyData} (h : x ∈ zipD es es) : ∃ d ∈ es, x = .tuple [d, d] := by
  unfold zipD at h
  induction es with
  | nil => simp at h
  | cons e es ih =>
    rw [List.zipWith_cons_cons] at h
    rcases List.mem_cons.mp h with rfl | h
    · exact ⟨e, List.mem_cons_self, rfl⟩
    · obtain ⟨d, hd, r⟩ := ih h
      exact ⟨d, List.mem_cons_of_mem _ hd, r⟩
theorem zip_len (es : List PyData) : (zipD es es).length = es.length := by unfold zipD; rw [List.length_zipWith]; omega
theorem all_true {l : List PyData} : ((l.map fun _ => true).all id) = true := by rw [List.all_map]; simp
section
variable {P : Program} {wd : World} {K : PySem.W.Frag} {mg : Str → Option Value} {base : Heap}
def f_same (C : PyData → Prop) : FP := fun ds R => ∃ d, ds = [d, d] ∧ C d ∧ R (.bool true)
theorem same_step (T : Top wd K mg) {m w : Nat} {C : PyData → Prop} (hw : w ≤ 1000) (g_l_same : Def P wd K mg base m "_law_same" s_l_same ["_law_found", "_law_due"] (spP K (f_same C))) :
    Def P wd K mg base (m + 1) "_law_same" s_l_same ["_law_found", "_law_due"] (spP K (f_same (OnB w C))) := by
  refine Def.pure T.d_l_same sc_l_same (fun ds R h => by obtain ⟨d, rfl, _⟩ := h; rfl) (fun f cdv A outer s H G E ds R hG hr h => ?_)
  obtain ⟨d, rfl, hd, q⟩ := h
  refine ⟨_, _, (dss_cons (ds_if (dt_val (de_isi2 .list .tuple rfl (by rfl) T.b_isinstance (by rfl) T.b_list (by decide +kernel) (by rfl) T.b_tuple (by decide +kernel) (dp_v 1))) (dss_cons (ds_if (DW.q (dw_or (dt_cmp (o_ne rfl hr.units) (DE.p (de_isi .list rfl (by rfl) T.b_isinstance (by rfl) T.b_list (by decide +kernel) (dp_v 0))) (DE.p (de_isi .list rfl (by rfl) T.b_isinstance (by rfl) T.b_list (by decide +kernel) (dp_v 1)))) (dw_or1 (dt_cmp (o_ne rfl hr.units) (DE.p (de_isi .tuple rfl (by rfl) T.b_isinstance (by rfl) T.b_tuple (by decide +kernel) (dp_v 0))) (DE.p (de_isi .tuple rfl (by rfl) T.b_isinstance (by rfl) T.b_tuple (by decide +kernel) (dp_v 1))))))) (dss_one (ds_ret de_bl)) dss_nil)
        (dss_one (ds_ret (de_and (de_cmp (o_eq rfl hr.units) (DE.p (de_len rfl (by rfl) T.b_len (dp_v 0))) (DE.p (de_len rfl (by rfl) T.b_len (dp_v 1)))) (de_one (de_all rfl (by rfl) (by rfl) T.b_all (DE.p (DO.d (do_lc (own := [("_law_a", 2), ("_law_b", 3)]) (by rfl) sc_l_same.nd (di_zip2 rfl (by rfl) T.b_zip (de_v 0) (de_v 1)) (blkOk_by (own := [("_law_a", 2), ("_law_b", 3)]) (N := ["_law_found", "_law_due", "_law_a", "_law_b"]) (sc := defScope s_l_same) (by decide +kernel)) (fun _ _ _ _ _ => (dg_tup (n := 2) rfl (by rfl) (dgs_c (dg_name 2 sc_l_same.nd (hf := by first | exact Or.inr rfl | exact Or.inl rfl)) (dgs_c (dg_name 3 sc_l_same.nd (hf := by first | exact Or.inr rfl | exact Or.inl rfl)) dgs_nil)))) ts_no (fun _ _ _ _ _ => (de_c g_l_same hG (hr.mono (by omega)) (by rfl) (da_cons (de_v 2) (da_cons (de_v 3) da_nil))))))))))))) dss_nil)
      (dss_cons (ds_if (DW.q (dw_or (dt_cmp o_isN (dp_v 1) (DE.p de_non)) (dw_or1 (dt_val (de_isi2 .bool .str rfl (by rfl) T.b_isinstance (by rfl) T.b_bool (by decide +kernel) (by rfl) T.b_str (by decide +kernel) (dp_v 1)))))) (dss_one (ds_ret (de_and (de_cmp (o_eq rfl hr.units) (dp_v 0) (dp_v 1)) (de_and (de_cmp (o_eq rfl hr.units) (DE.p (de_isi .bool rfl (by rfl) T.b_isinstance (by rfl) T.b_bool (by decide +kernel) (dp_v 0))) (DE.p (de_isi .bool rfl (by rfl) T.b_isinstance (by rfl) T.b_bool (by decide +kernel) (dp_v 1)))) (de_one (de_cmp (o_eq rfl hr.units) (DE.p (de_cmp o_isN (dp_v 0) (DE.p de_non))) (DE.p (de_cmp o_isN (dp_v 1) (DE.p de_non))))))))) dss_nil)
      (dss_one (ds_ret (de_and (de_isi .int rfl (by rfl) T.b_isinstance (by rfl) T.b_int (by decide +kernel) (dp_v 0)) (de_and (de_not (de_isi .bool rfl (by rfl) T.b_isinstance (by rfl) T.b_bool (by decide +kernel) (dp_v 0))) (de_one (de_cmp (o_eq rfl hr.units) (dp_v 0) (dp_v 1))))))))), ?_⟩
  have flat : ∀ d : PyData, FlB d → Shp d := fun d h => FlB.shp h
  rcases hd with hf | ⟨es, he, hl, hC⟩
  · cases d with
    | none =>
      repeat walk_at "d"
      exact q
    | bool b =>
      repeat walk_at "d"
      rw [eqv_bool, decide_eq_true rfl]
      repeat walk_at "d"
      exact q
    | int i =>
      repeat walk_at "d"
      rw [eqv_int, decide_eq_true rfl]
      exact q
    | str z =>
      repeat walk_at "d"
      refine ⟨flat _ hf, flat _ hf, ?_⟩
      rw [eqv_str, decide_eq_true rfl]
      repeat walk_at "d"
      exact q
    | list _ => exact hf.elim
    | tuple _ => exact hf.elim
    | dict _ => exact hf.elim
  · rcases he with rfl | rfl
    all_goals
      repeat walk_at "d"
      rw [eqv_int, decide_eq_true rfl]
      repeat walk_at "d"
      refine lc_map (fun _ => .bool true) (by show (zipD es es).length ≤ _; rw [zip_len]; omega) (fun x hx acc J hacc hJ => ?_) ⟨(zipD es es).map fun _ => true, by rw [List.map_map]; rfl, ?_⟩
      · obtain ⟨y, hy, rfl⟩ := zip_self hx
        exact ⟨rfl, rfl, y, [y], rfl, y, [], rfl, rfl, y, rfl, y, rfl, y, rfl, hC y hy, rfl, hacc, hJ⟩
      · rw [all_true]
        exact q
theorem ok_l_same (T : Top wd K mg) {w : Nat} (hw : w ≤ 1000) : ∀ k : Nat, Def P wd K mg base (k + 1) "_law_same" s_l_same ["_law_found", "_law_due"] (spP K (f_same (Bd w k)))
  | 0 => by
    have h0 : Def P wd K mg base 0 "_law_same" s_l_same ["_law_found", "_law_due"] (spP K (f_same fun _ => False)) := Def.no T.d_l_same fun vs H Q E h => by
      obtain ⟨_, _, _, _, _, ⟨_, _, h, _⟩, _⟩ := h
      exact h
    refine (same_step T hw h0).imp fun vs H Q E h => ?_
    obtain ⟨G, ds, R, h1, h2, ⟨d, h3, h4, h5⟩, h6⟩ := h
    exact ⟨G, ds, R, h1, h2, ⟨d, h3, .inl h4, h5⟩, h6⟩
  | k + 1 => same_step T hw (ok_l_same T hw k)
end
local macro_rules | `(tactic| walk_at "d") => `(tactic| first
  | refine ⟨_, rfl, ?_⟩ | refine ⟨_, _, rfl, rfl, ?_⟩ | refine iteT ?_ | refine iteF ?_ | refine ⟨_, _, rfl, rfl, rfl, ?_⟩ | refine ⟨rfl, ?_⟩)
theorem can_ints (l : List Int) : PyData.canLayAll0 (l.map PyData.int) = true := canAll fun d h => by
  obtain ⟨i, _, rfl⟩ := List.mem_map.mp h
  simp only [PyData.canLay0]
theorem dep_ints (l : List Int) : PyData.depthAll (l.map PyData.int) ≤ 0 := depAll fun d h => by
  obtain ⟨i, _, rfl⟩ := List.mem_map.mp h
  simp only [PyData.depth]
  exact Nat.le_refl _
theorem shp_intsT (l : List Int) : Shp (.tuple (l.map .int)) := Bool.and_eq_true_iff.mpr ⟨by simp only [PyData.canLay0]; exact can_ints l, decide_eq_true (by simp only [PyData.depth]; have := dep_ints l; omega)⟩
theorem shp_ints (l : List Int) : Shp (.list (l.map .int)) := Bool.and_eq_true_iff.mpr ⟨by simp only [PyData.canLay0]; exact can_ints l, decide_eq_true (by simp only [PyData.depth]; have := dep_ints l; omega)⟩
local macro_rules | `(tactic| walk_at "s4") => `(tactic| simp only [wPubO, wC, wV, wPub, wP, wCons, wTup, wLst, wL, w2, wTest, wChain, wAnd, wOr, Dw.wNot, wAndV, wOrV, wNotV, wIf, Dw.wTru, truD, gI0, gI, gEq, gNe, gIn, gIsN, gNotN, gIsB, gNotB, gCatT, gCatS, gIx, wCat, wRep, w1, w1O, gLen, gTupleOf, gListOf, wRg1, gInt, gStr, w2a, wSlT, wSlL, wSlS, wRevT, wNeg, wCall, wCallB, wName, wGNil_n, wGCons_c, wGTup, wSeq, wRng1, wEnum, wZip, wNext, wSq, wRet, wIfS, wDrop, wAsg, wOwn, wAug, wMeth, fAppend, wFor_eq, wWhile_eq, wipeD, wLc_eq, Dw.wNm, wPar, wGix, wDix, wCatP, wPopTo, fPop, fPopAt, fIns, wSetIx, gRepr, gMinT, gNeS, gRepN, wDGet2, wDPut, wTPut, wTGet, gSrtR, gLtP, wSlB, wStar, wRaise, wNmX, wXat, wXis, gEqS, wYd, wYdic, wYfn, wYg, wCallD, wCallV, wSetN, wDcT, wTGet2, wTGet1, dicAt, wRng2, wRngD, wRevR, gRevL, wAugIx, wPeekO, wPick2, wExt, fRem, look_d, look_own, shpI, shpB, shpN, shpS, seqT, seqL, itsT, itsL, lenT, lenL, okFF, eqv_str, eqv_int, eqv_bool, isNone, perm, Dt.set, Dt.sets, env0, List.map_cons, List.map_nil, List.cons_append, List.nil_append, List.getElem?_cons_zero, List.getElem?_cons_succ, List.set_cons_succ, List.set_cons_zero, List.filterMap_cons, List.filterMap_nil, Option.some.injEq, DV.d.injEq, DV.own.injEq, DV.dit.injEq, DV.dd.injEq, DV.oth.injEq, reduceCtorEq, false_or, or_false, false_and, and_false, exists_false, PyData.int.injEq, PyData.bool.injEq, PyData.str.injEq, PyData.tuple.injEq, PyData.list.injEq, List.cons.injEq, exists_eq_left, exists_eq_left', exists_eq_right, exists_eq_right', exists_and_left, exists_eq', exists_eq, and_true, true_and, and_self, and_assoc, List.length_cons, List.length_nil, List.replicate, Nat.reduceAdd, Nat.reduceSub, Nat.reduceLeDiff, Nat.zero_le, decide_eq_true_eq, Bool.not_eq_true', decide_eq_false_iff_not, ite_true, ite_false, if_true, if_false, Bool.false_eq_true, Bool.true_eq_false, eq_self, List.reduceReplicate, Bool.not_true, Bool.not_false, reduceIte])
theorem len_erase : ∀ {l : List Int} {x : Int}, l.Nodup → x ∈ l → (l.filter fun y => decide (y ≠ x)).length + 1 = l.length
  | [], x, _, h => by simp at h
  | y :: l, x, hn, h => by
    rw [List.nodup_cons] at hn
    by_cases e : y = x
    · subst e
      rw [List.filter_cons_of_neg (by simp)]
      have : l.filter (fun z => decide (z ≠ y)) = l := List.filter_eq_self.mpr fun z hz => decide_eq_true fun e => hn.1 (e ▸ hz)
      rw [this]
      rfl
    · rw [List.filter_cons_of_pos (by simp [e])]
      rcases List.mem_cons.mp h with h | h
      · exact absurd h.symm e
      · have := len_erase hn.2 h
        simp only [List.length_cons]
        omega
structure QInv (n i : Nat) (left row : List Int) : Prop where
  nl : left.Nodup
  nr : row.Nodup
  len : left.length + row.length = n
  rl : row.length = i
  dis : ∀ x ∈ left, x ∉ row
  bl : ∀ x ∈ left, 0 ≤ x ∧ x < n
  br : ∀ x ∈ row, 0 ≤ x ∧ x < n
theorem QInv.step {n i : Nat} {left row : List Int} (h : QInv n i left row) {x : Int} (hx : x ∈ left) : QInv n (i + 1) (left.filter fun y => decide (y ≠ x)) (row ++ [x]) := by
  have hl := len_erase h.nl hx
  refine ⟨h.nl.filter _, ?_, ?_, by rw [List.length_append, h.rl]; rfl, fun y hy => ?_, fun y hy => h.bl y ((List.mem_filter.mp hy).1), fun y hy => ?_⟩
  · rw [List.nodup_append]
    refine ⟨h.nr, by simp, fun a ha b hb e => ?_⟩
    rw [List.mem_singleton] at hb
    subst hb
    subst e
    exact h.dis a hx ha
  · have := h.len
    rw [List.length_append, List.length_singleton]
    omega
  · obtain ⟨h1, h2⟩ := List.mem_filter.mp hy
    have : y ≠ x := of_decide_eq_true h2
    rw [List.mem_append, List.mem_singleton, not_or]
    exact ⟨h.dis y h1, this⟩
  · rcases List.mem_append.mp hy with h1 | h1
    · exact h.br y h1
    · rw [List.mem_singleton.mp h1]
      exact h.bl x hx
theorem QInv.start (n : Nat) : QInv n 0 ((List.range n).map fun (i : Nat) => (i : Int)) [] := by
  refine ⟨?_, List.nodup_nil, by simp, rfl, fun x _ => by simp, fun x hx => ?_, fun x hx => by simp at hx⟩
  · refine List.pairwise_map.mpr (List.nodup_range.imp fun {a b} h e => h ?_)
    exact Int.ofNat.inj e
  · obtain ⟨i, hi, rfl⟩ := List.mem_map.mp hx
    rw [List.mem_range] at hi
    omega
local macro_rules | `(tactic| walk_at "d") => `(tactic| first
  | refine ⟨_, rfl, ?_⟩ | refine ⟨_, _, rfl, rfl, ?_⟩ | refine iteT ?_ | refine iteF ?_ | refine ⟨_, _, rfl, rfl, rfl, ?_⟩ | refine ⟨rfl, ?_⟩)
local macro_rules | `(tactic| walk_at "s5") => `(tactic| simp only [wPubO, wC, wV, wPub, wP, wCons, wTup, wLst, wL, w2, wTest, wChain, wAnd, wOr, Dw.wNot, wAndV, wOrV, wNotV, wIf, Dw.wTru, truD, gI0, gI, gEq, gNe, gIn, gIsN, gNotN, gIsB, gNotB, gCatT, gCatS, gIx, wCat, wRep, w1, w1O, gLen, gTupleOf, gListOf, wRg1, gInt, gStr, w2a, wSlT, wSlL, wSlS, wRevT, wNeg, wCall, wCallB, wName, wGNil_n, wGCons_c, wGTup, wSeq, wRng1, wEnum, wZip, wNext, wSq, wRet, wIfS, wDrop, wAsg, wOwn, wAug, wMeth, fAppend, wFor_eq, wWhile_eq, wipeD, wLc_eq, Dw.wNm, wPar, wGix, wDix, wCatP, wPopTo, fPop, fPopAt, fIns, wSetIx, gRepr, gMinT, gNeS, gRepN, wDGet2, wDPut, wTPut, wTGet, gSrtR, gSrtA, gLtP, wSlB, wStar, wRaise, wNmX, wXat, wXis, gEqS, wYd, wYdic, wYfn, wYg, wCallD, wCallV, wSetN, wDcT, wTGet2, wTGet1, dicAt, wRng2, wRngD, wRevR, gRevL, wAugIx, wPeekO, wPick2, wExt, fRem, look_d, look_own, shpI, shpB, shpN, shpS, seqT, seqL, itsT, itsL, lenT, lenL, okFF, eqv_str, eqv_int, eqv_bool, isNone, perm, Dt.set, Dt.sets, env0, List.map_cons, List.map_nil, List.cons_append, List.nil_append, List.getElem?_cons_zero, List.getElem?_cons_succ, List.set_cons_succ, List.set_cons_zero, List.filterMap_cons, List.filterMap_nil, Option.some.injEq, DV.d.injEq, DV.own.injEq, DV.dit.injEq, DV.dd.injEq, DV.oth.injEq, reduceCtorEq, false_or, or_false, false_and, and_false, exists_false, PyData.int.injEq, PyData.bool.injEq, PyData.str.injEq, PyData.tuple.injEq, PyData.list.injEq, List.cons.injEq, exists_eq_left, exists_eq_left', exists_eq_right, exists_eq_right', exists_and_left, exists_eq', exists_eq, and_true, true_and, and_self, and_assoc, List.length_cons, List.length_nil, List.replicate, Nat.reduceAdd, Nat.reduceSub, Nat.reduceLeDiff, Nat.zero_le, decide_eq_true_eq, Bool.not_eq_true', decide_eq_false_iff_not, ite_true, ite_false, if_true, if_false, Bool.false_eq_true, Bool.true_eq_false, eq_self, List.reduceReplicate, Bool.not_true, Bool.not_false, reduceIte])
def vOrd : NV → Nat
  | .g _ => 0
  | .h _ => 1
def nLt (x y : Nt) : Prop := x.t < y.t ∨ (x.t = y.t ∧ vOrd x.v < vOrd y.v)
/-- notes that are true for a row, as they ascend -/
structure Sn (row : List Int) (k : Nat) (xs : List Nt) : Prop where
  tru : ∀ x ∈ xs, x.t < k ∧ truV row x.t x.v = x.v
  rise : xs.Pairwise nLt
  len : xs.length ≤ 2 * k
section
variable {P : Program} {wd : World} {K : PySem.W.Frag} {mg : Str → Option Value} {base : Heap}
def bkT (p T : Nat) (xs : List Nt) : PyData := .tuple [.int (p : Nat), .int (T : Nat), .tuple (xs.map ntD)]
end
def ntH (x : Nt) : PyData := .tuple [.int (x.t : Nat), .str (sortS x.v)]
theorem lt_head {x y : Nt} (h : nLt x y) : PySem.W.dataLt (ntH x) (ntH y) = true := by
  have al : PySem.W.alike (.int (x.t : Nat)) (.int (y.t : Nat)) = true := rfl
  unfold ntH
  rw [PySem.W.dataLt_tuple, PySem.W.dataLt_cons al]
  rcases h with h | ⟨h1, h2⟩
  · rw [if_neg (by rw [eqv_int]; simp; omega), lt_int]
    exact decide_eq_true (by omega)
  · rw [if_pos (by rw [eqv_int, h1]; exact decide_eq_true rfl)]
    obtain ⟨t, v⟩ := x
    obtain ⟨s, w⟩ := y
    cases v <;> cases w
    · exact absurd h2 (Nat.lt_irrefl 0)
    · show PyProof.Rows.lexLt itemOrd (PySem.W.keyToksAll [PyData.str (Str.ofString "groups")]) (PySem.W.keyToksAll [PyData.str (Str.ofString "house")]) = true
      decide +kernel
    · exact absurd h2 (Nat.not_lt_zero 1)
    · exact absurd h2 (Nat.lt_irrefl 1)
theorem hd_nt (x : Nt) : hdD (ntD x) = ntH x := rfl
theorem hdLe_of {x y : Nt} (h : nLt x y) : hdLe (ntD x) (ntD y) = true := by
  unfold hdLe
  rw [hd_nt, hd_nt, lt_asy (lt_head h)]
  rfl
theorem srt_notes {l ys : List Nt} (hp : ys.Perm l) (hr : ys.Pairwise nLt) : srtR (l.map ntD) = ys.map ntD := by
  have h2 : (srtR (l.map ntD)).Perm (ys.map ntD) := (srtR_perm _).trans (hp.map _).symm
  have h1 : (srtR (l.map ntD)).Pairwise fun a b => hdLe a b = true := by
    unfold srtR
    exact List.pairwise_mergeSort (le := hdLe) (fun a b c h1 h2 => leA_total.1 _ _ _ h1 h2) (fun a b => Bool.or_eq_true_iff.mpr (leA_total.2 (hdD a) (hdD b))) _
  have h3 : (ys.map ntD).Pairwise fun a b => hdLe a b = true := by
    rw [List.pairwise_map]
    exact hr.imp fun h => hdLe_of h
  refine List.Perm.eq_of_pairwise (fun a b ha hb h4 h5 => ?_) h1 h3 h2
  obtain ⟨x, hx, rfl⟩ := List.mem_map.mp (h2.mem_iff.mp ha)
  obtain ⟨y, hy, rfl⟩ := List.mem_map.mp hb
  rcases pw_mem hr x hx y hy with e | e | e
  · rw [e]
  · unfold hdLe at h5
    rw [hd_nt, hd_nt, lt_head e] at h5
    cases h5
  · unfold hdLe at h4
    rw [hd_nt, hd_nt, lt_head e] at h4
    cases h4
theorem val_al (v : NV) : PySem.W.alikeAll [valD v] [valD v] = true := by cases v <;> rfl
theorem val_dp (v : NV) : PyData.depthAll [valD v] = 0 := by cases v <;> rfl
theorem head_inj {x y : Nt} (h : ntH x = ntH y) : x.t = y.t ∧ sortS x.v = sortS y.v := by
  unfold ntH at h
  injection h with h
  injection h with h1 h2
  injection h1 with h1
  injection h2 with h2 _
  injection h2 with h2
  exact ⟨by omega, h2⟩
theorem rows_nts {l : List Nt} (h : ∀ x ∈ l, ∀ y ∈ l, x.t = y.t → sortS x.v = sortS y.v → x = y) : RowsOk (l.map ntD) := by
  refine ⟨fun d hd => ?_, fun d hd e he hh => ?_⟩
  · obtain ⟨x, _, rfl⟩ := List.mem_map.mp hd
    exact ⟨_, _, [valD x.v], rfl, val_al _, val_dp _⟩
  · obtain ⟨x, hx, rfl⟩ := List.mem_map.mp hd
    obtain ⟨y, hy, rfl⟩ := List.mem_map.mp he
    obtain ⟨h1, h2⟩ := head_inj (x := x) (y := y) hh
    rw [h x hx y hy h1 h2]
theorem eqv_head (x y : Nt) : (ntH x).eqv (ntH y) = decide (x.t = y.t ∧ sortS x.v = sortS y.v) := by
  unfold ntH
  simp only [PyData.eqv, PyData.eqvAll, Bool.and_true]
  have e : ((x.t : Int) = (y.t : Int)) = (x.t = y.t) := propext ⟨fun h => by omega, fun h => by omega⟩
  by_cases h1 : x.t = y.t <;> by_cases h2 : sortS x.v = sortS y.v <;> simp [h1, h2, e]
theorem shp_head (x : Nt) : Shp (ntH x) := by
  refine Bool.and_eq_true_iff.mpr ⟨?_, decide_eq_true ?_⟩
  · obtain ⟨t, v⟩ := x
    cases v
    · simp only [ntH, PyData.canLay0, PyData.canLayAll0, Bool.and_true, Bool.true_and]
      exact sok "groups"
    · simp only [ntH, PyData.canLay0, PyData.canLayAll0, Bool.and_true, Bool.true_and]
      exact sok "house"
  · simp [ntH, PyData.depth, PyData.depthAll]
theorem ord_ne : ∀ {v w : NV}, vOrd v < vOrd w → sortS v = sortS w → False
  | .g _, .g _, h, _ => Nat.lt_irrefl 0 h
  | .g _, .h _, _, e => absurd (show ("groups" : Str) = "house" from e) (by decide)
  | .h _, .g _, h, _ => Nat.not_lt_zero 1 h
  | .h _, .h _, h, _ => Nat.lt_irrefl 1 h
local macro_rules | `(tactic| walk_at "d") => `(tactic| first
  | refine ⟨_, rfl, ?_⟩ | refine ⟨_, _, rfl, rfl, ?_⟩ | refine iteT ?_ | refine iteF ?_ | refine ⟨_, _, rfl, rfl, rfl, ?_⟩)
def sumSt (zs : List Str) : Int := (zs.map fun z => (stepOf z).getD 0).sum
def AllSt (zs : List Str) : Prop := ∀ z ∈ zs, (stepOf z).isSome = true
theorem all_map {α : Type} (f : α → Bool) (l : List α) : ((l.map f).all id) = l.all f := by rw [List.all_map]; rfl
section
variable {P : Program} {wd : World} {K : PySem.W.Frag} {mg : Str → Option Value} {base : Heap}
def f_groups_after : FP := fun ds R => ∃ (b : PyData) (zs : List Str), ds = [b] ∧ seqd b = true ∧ its b = zs.map .str ∧ AllSt zs ∧ zs.length ≤ 1000 ∧ R (.int (sumSt zs))
theorem ok_groups_after (T : Top wd K mg) : Def P wd K mg base 1 "groups_after" s_groups_after ["words"] (spP K f_groups_after) := by
  refine Def.pure T.d_groups_after sc_groups_after (fun ds R h => by obtain ⟨_, _, rfl, _⟩ := h; rfl) (fun f cdv A outer s H G E ds R hG hr h => ?_)
  obtain ⟨b, zs, rfl, hs, he, hz, hl, q⟩ := h
  refine ⟨_, _, (dss_one (ds_ret (de_sum rfl (by rfl) (by rfl) T.b_sum (DE.p (DO.d (do_lc (own := [("word", 1)]) (by rfl) sc_groups_after.nd (di_seq rfl (de_v 0)) (blkOk_by (own := [("word", 1)]) (N := ["words", "word"]) (sc := defScope s_groups_after) (by decide +kernel)) (fun _ _ _ _ _ => (dg_name 1 sc_groups_after.nd (hf := by first | exact Or.inr rfl | exact Or.inl rfl))) ts_no (fun _ _ _ _ _ => (de_gix T.c_STEPS rfl (by rfl) (de_v 1))))))))), ?_⟩
  refine ⟨b, rfl, hs, lc_map (fun d => match d with | .str z => .int ((stepOf z).getD 0) | _ => .none) (by rw [he, List.length_map]; omega) (fun d hd acc J hacc hJ => ?_) ?_⟩
  · rw [he] at hd
    obtain ⟨z, hz1, rfl⟩ := List.mem_map.mp hd
    cases hst : stepOf z with
    | none =>
      have := hz z hz1
      rw [hst] at this
      cases this
    | some sv =>
      refine ⟨.str z, rfl, z, .int sv, rfl, step_memZ hst, rfl, hacc, ?_⟩
      have : J (acc ++ [PyData.int ((stepOf z).getD 0)]) ⟨0, []⟩ := hJ
      rw [hst] at this
      exact this
  · refine ⟨zs.map fun z => (stepOf z).getD 0, ?_, q⟩
    rw [he, List.map_map, List.map_map]
    rfl
end
theorem flb_nat {n : Nat} (h : n ≤ 1000) : FlB (.int n) := by show (n : Int).natAbs ≤ _; omega
theorem flb_wd (w : Wd) : FlB (.str (wstr w)) := by cases w <;> exact ⟨sok _, by decide +kernel⟩
theorem flb_sort (v : NV) : FlB (.str (sortS v)) := by
  cases v
  · exact ⟨sok "groups", (show (reprText "groups").length ≤ 400 by decide +kernel)⟩
  · exact ⟨sok "house", (show (reprText "house").length ≤ 400 by decide +kernel)⟩
/-- times and numbers are small -/
structure NSm (xs : List Nt) : Prop where
  t : ∀ x ∈ xs, x.t ≤ 1000
  v : ∀ x ∈ xs, FlB (valD x.v)
  l : xs.length ≤ 100
theorem NSm.flb {xs : List Nt} (h : NSm xs) {x : Nt} (hx : x ∈ xs) : FlB (valD x.v) := h.v x hx
theorem bd_bkT {n k : Nat} {xs : List Nt} (hn : n ≤ 1000) (hk : k ≤ 1000) (h : NSm xs) : Bd 100 3 (bkT n k xs) := bd_tup (show 3 ≤ 100 by decide) fun x hx => by
  simp only [List.mem_cons, List.not_mem_nil, or_false] at hx
  rcases hx with rfl | rfl | rfl
  · exact .flat (flb_nat hn)
  · exact .flat (flb_nat hk)
  · refine bd_tup (by rw [List.length_map]; exact h.l) fun x hx => ?_
    obtain ⟨m, hm, rfl⟩ := List.mem_map.mp hx
    refine bd_tup (show 3 ≤ 100 by decide) fun x hx => ?_
    simp only [List.mem_cons, List.not_mem_nil, or_false] at hx
    rcases hx with rfl | rfl | rfl
    · exact .flat (flb_nat (h.t m hm))
    · exact .flat (flb_sort _)
    · exact .flat (h.flb hm)
theorem sn_small {row : List Int} {k : Nat} {xs : List Nt} (h : Sn row k xs) (hk : k ≤ 40) (hl : row.length = k) : NSm xs := by
  refine ⟨fun x hx => by have := (h.tru x hx).1; omega, fun x hx => ?_, by have := h.len; omega⟩
  cases hv : x.v with
  | h w => exact flb_wd w
  | g n =>
    have h1 := (h.tru x hx).2
    rw [hv] at h1
    have h1 : NV.g (segs (row.take (x.t + 1))).length = NV.g n := h1
    injection h1 with h1
    have := segs_len (row.take (x.t + 1))
    rw [List.length_take] at this
    exact flb_nat (by omega)
structure Uni (T : Nat) (xs : List Nt) : Prop where
  t : ∀ x ∈ xs, x.t < T
  u : ∀ x ∈ xs, ∀ y ∈ xs, x.t = y.t → sortS x.v = sortS y.v → x = y
local macro_rules | `(tactic| walk_at "d") => `(tactic| first
  | refine ⟨_, rfl, ?_⟩ | refine ⟨_, _, rfl, rfl, ?_⟩ | refine iteT ?_ | refine iteF ?_ | refine ⟨_, _, rfl, rfl, rfl, ?_⟩ | refine ⟨rfl, ?_⟩)
abbrev NT := Int × Str × PyData
def hD (n : NT) : PyData := .tuple [.int n.1, .str n.2.1]
structure NOk (n : NT) : Prop where
  t : n.1.natAbs ≤ 1000
  s : FlB (.str n.2.1)
  v : FlB n.2.2
  al : PySem.W.alikeAll [n.2.2] [n.2.2] = true
  nt : ∃ x : Nt, n = (((x.t : Nat) : Int), sortS x.v, valD x.v)
local macro_rules | `(tactic| walk_at "d") => `(tactic| first
  | refine ⟨_, rfl, ?_⟩ | refine ⟨_, _, rfl, rfl, ?_⟩ | refine iteT ?_ | refine iteF ?_ | refine ⟨_, _, rfl, rfl, rfl, ?_⟩ | refine ⟨rfl, ?_⟩)
/-- notes with ok parts, told apart by their heads -/
structure NU (ns : List NT) : Prop where
  ok : ∀ n ∈ ns, NOk n
  uni : ∀ n ∈ ns, ∀ m ∈ ns, n.1 = m.1 → n.2.1 = m.2.1 → n = m
  nd : ns.Nodup
theorem NU.nil : NU [] := ⟨fun n h => by simp at h, fun n h => by simp at h, List.nodup_nil⟩
local macro_rules | `(tactic| walk_at "d") => `(tactic| first
  | refine ⟨_, rfl, ?_⟩ | refine ⟨_, _, rfl, rfl, ?_⟩ | refine iteT ?_ | refine iteF ?_ | refine ⟨_, _, rfl, rfl, rfl, ?_⟩ | refine ⟨rfl, ?_⟩)
def kvN (n : NT) : List Key × PyData := ([.inl n.1, .inr n.2.1], n.2.2)
theorem key_iff (m n : NT) : (kvN m).1 = (kvN n).1 ↔ m.1 = n.1 ∧ m.2.1 = n.2.1 := by
  unfold kvN
  constructor
  · intro h
    have h1 := (List.cons.inj h).1
    have h2 := (List.cons.inj (List.cons.inj h).2).1
    exact ⟨Sum.inl.inj h1, Sum.inr.inj h2⟩
  · rintro ⟨h1, h2⟩
    rw [h1, h2]
def putN (ns : List NT) (n : NT) : List NT := if (ns.any fun m => decide ((kvN m).1 = (kvN n).1)) = true then ns.map (fun m => if (kvN m).1 = (kvN n).1 then n else m) else ns ++ [n]
theorem putN_mem {ns : List NT} {n x : NT} (h : x ∈ putN ns n) : x = n ∨ x ∈ ns ∧ (kvN x).1 ≠ (kvN n).1 := by
  unfold putN at h
  split at h
  · obtain ⟨m, hm, e⟩ := List.mem_map.mp h
    by_cases hq : (kvN m).1 = (kvN n).1
    · rw [if_pos hq] at e
      exact .inl e.symm
    · rw [if_neg hq] at e
      subst e
      exact .inr ⟨hm, hq⟩
  · rename_i hn
    rcases List.mem_append.mp h with h | h
    · refine .inr ⟨h, fun e => hn ?_⟩
      exact List.any_eq_true.mpr ⟨x, h, decide_eq_true e⟩
    · exact .inl (List.mem_singleton.mp h)
theorem NU.put {ns : List NT} {n : NT} (h : NU ns) (hn : NOk n) : NU (putN ns n) := by
  refine ⟨fun x hx => ?_, fun x hx y hy a b => ?_, ?nd⟩
  case nd =>
    unfold putN
    split
    · unfold List.Nodup
      rw [List.pairwise_map]
      refine h.nd.imp_of_mem fun {a b} ha hb hab => ?_
      by_cases q1 : (kvN a).1 = (kvN n).1
      · by_cases q2 : (kvN b).1 = (kvN n).1
        · obtain ⟨e1, e2⟩ := (key_iff a b).mp (q1.trans q2.symm)
          exact absurd (h.uni a ha b hb e1 e2) hab
        · rw [if_pos q1, if_neg q2]
          exact fun z => q2 (by rw [← z])
      · by_cases q2 : (kvN b).1 = (kvN n).1
        · rw [if_neg q1, if_pos q2]
          exact fun z => q1 (by rw [z])
        · rw [if_neg q1, if_neg q2]
          exact hab
    · rename_i hn2
      refine List.nodup_append.mpr ⟨h.nd, by simp, fun a ha b hb e => hn2 ?_⟩
      rw [List.mem_singleton.mp hb] at e
      exact List.any_eq_true.mpr ⟨a, ha, decide_eq_true (by rw [e])⟩
  · rcases putN_mem hx with rfl | ⟨hx, _⟩
    · exact hn
    · exact h.ok x hx
  · rcases putN_mem hx with hx | ⟨hx, n1⟩
    · rcases putN_mem hy with hy | ⟨hy, n2⟩
      · rw [hx, hy]
      · exact absurd ((key_iff y n).mpr (by rw [← hx]; exact ⟨a.symm, b.symm⟩)) n2
    · rcases putN_mem hy with hy | ⟨hy, n2⟩
      · exact absurd ((key_iff x n).mpr (by rw [← hy]; exact ⟨a, b⟩)) n1
      · exact h.uni x hx y hy a b
def gN : PyData → NT
  | .tuple [.int t, .str s, v] => (t, s, v)
  | _ => (0, "", .none)
local macro_rules | `(tactic| walk_at "s6") => `(tactic| simp only [wPubO, wC, wV, wPub, wP, wCons, wTup, wLst, wL, w2, wTest, wChain, wAnd, wOr, Dw.wNot, wAndV, wOrV, wNotV, wIf, Dw.wTru, truD, gI0, gI, gEq, gNe, gIn, gIsN, gNotN, gIsB, gNotB, gCatT, gCatS, gIx, wCat, wRep, w1, w1O, gLen, gTupleOf, gListOf, wRg1, gInt, gStr, w2a, wSlT, wSlL, wSlS, wRevT, wNeg, wCall, wCallB, wName, wGNil_n, wGCons_c, wGTup, wSeq, wRng1, wEnum, wZip, wNext, wSq, wRet, wIfS, wDrop, wAsg, wOwn, wAug, wMeth, fAppend, wFor_eq, wWhile_eq, wipeD, wLc_eq, Dw.wNm, wPar, wGix, wDix, wCatP, wPopTo, fPop, fPopAt, fIns, wSetIx, gRepr, gMinT, gNeS, gRepN, wDGet2, wDPut, wTPut, wTGet, gSrtR, gSrtA, gLtP, wSlB, wStar, wRaise, wNmX, wXat, wXis, gEqS, wYd, wYdic, wYfn, wYg, wCallD, wCallV, wSetN, wDcT, wTGet2, wTGet1, dicAt, wRng2, wRngD, wRevR, gRevL, wAugM, gLenSetL, wAppPop, gSrtSet, wIsi, wNotT, wAugIx, wPeekO, wPick2, wExt, fRem, look_d, look_own, shpI, shpB, shpN, shpS, seqT, seqL, itsT, itsL, lenT, lenL, okFF, eqv_str, eqv_int, eqv_bool, isNone, perm, Dt.set, Dt.sets, env0, List.map_cons, List.map_nil, List.cons_append, List.nil_append, List.getElem?_cons_zero, List.getElem?_cons_succ, List.set_cons_succ, List.set_cons_zero, List.filterMap_cons, List.filterMap_nil, Option.some.injEq, DV.d.injEq, DV.own.injEq, DV.dit.injEq, DV.dd.injEq, DV.oth.injEq, reduceCtorEq, false_or, or_false, false_and, and_false, exists_false, PyData.int.injEq, PyData.bool.injEq, PyData.str.injEq, PyData.tuple.injEq, PyData.list.injEq, List.cons.injEq, exists_eq_left, exists_eq_left', exists_eq_right, exists_eq_right', exists_and_left, exists_eq', exists_eq, and_true, true_and, and_self, and_assoc, List.length_cons, List.length_nil, List.replicate, Nat.reduceAdd, Nat.reduceSub, Nat.reduceLeDiff, Nat.zero_le, decide_eq_true_eq, Bool.not_eq_true', decide_eq_false_iff_not, ite_true, ite_false, if_true, if_false, Bool.false_eq_true, Bool.true_eq_false, eq_self, List.reduceReplicate, Bool.not_true, Bool.not_false, reduceIte])
/-- a journal's notes -/
structure JOk (k : Nat) (xs : List Nt) : Prop where
  t : ∀ x ∈ xs, x.t < k
  rise : xs.Pairwise nLt
  sm : NSm xs
theorem rise_uni {xs : List Nt} (h : xs.Pairwise nLt) : ∀ x ∈ xs, ∀ y ∈ xs, x.t = y.t → sortS x.v = sortS y.v → x = y := fun x hx y hy e1 e2 => by
  rcases pw_mem h x hx y hy with e | e | e
  · exact e
  · rcases e with e | e
    · omega
    · exact (ord_ne e.2 e2).elim
  · rcases e with e | e
    · omega
    · exact (ord_ne e.2 e2.symm).elim
theorem JOk.uni {k : Nat} {xs : List Nt} (h : JOk k xs) : Uni k xs := ⟨h.t, rise_uni h.rise⟩
theorem tri {x y : Nt} (h : ¬ (x.t = y.t ∧ sortS x.v = sortS y.v)) : nLt x y ∨ nLt y x := by
  rcases Nat.lt_trichotomy x.t y.t with e | e | e
  · exact .inl (.inl e)
  · obtain ⟨t, v⟩ := x
    obtain ⟨s, w⟩ := y
    cases v <;> cases w
    · exact absurd ⟨e, rfl⟩ h
    · exact .inl (.inr ⟨e, Nat.zero_lt_one⟩)
    · exact .inr (.inr ⟨e.symm, Nat.zero_lt_one⟩)
    · exact absurd ⟨e, rfl⟩ h
  · exact .inr (.inl e)
theorem eqv_nt (x y : Nt) : (ntD x).eqv (ntD y) = decide (x = y) := by
  obtain ⟨t, v⟩ := x
  obtain ⟨s, w⟩ := y
  have e : ((t : Int) = (s : Int)) = (t = s) := propext ⟨fun h => by omega, fun h => by omega⟩
  cases v with
  | g a =>
    cases w with
    | g b =>
      have e2 : ((a : Int) = (b : Int)) = (a = b) := propext ⟨fun h => by omega, fun h => by omega⟩
      simp only [ntD, valD, sortS, PyData.eqv, PyData.eqvAll, Bool.and_true, Nt.mk.injEq, NV.g.injEq]
      by_cases h1 : t = s <;> by_cases h2 : a = b <;> simp [h1, h2, e, e2]
    | h b =>
      simp only [ntD, valD, sortS, PyData.eqv, PyData.eqvAll, Bool.and_true, Bool.and_false, Nt.mk.injEq, reduceCtorEq, and_false, decide_false]
  | h a =>
    cases w with
    | g b =>
      simp only [ntD, valD, sortS, PyData.eqv, PyData.eqvAll, Bool.and_true, Bool.and_false, Nt.mk.injEq, reduceCtorEq, and_false, decide_false]
    | h b =>
      simp only [ntD, valD, sortS, PyData.eqv, PyData.eqvAll, Bool.and_true, Nt.mk.injEq, NV.h.injEq]
      by_cases h1 : t = s <;> by_cases h2 : a = b <;> simp [h1, h2, e, wstr_inj]
def insN (x : Nt) : List Nt → List Nt
  | [] => [x]
  | y :: l => if x.t < y.t ∨ (x.t = y.t ∧ vOrd x.v < vOrd y.v) then x :: y :: l else y :: insN x l
theorem ins_perm (x : Nt) : ∀ l : List Nt, (insN x l).Perm (l ++ [x])
  | [] => .refl _
  | y :: l => by
    unfold insN
    split
    · exact (List.perm_append_comm (l₁ := [x]) (l₂ := y :: l))
    · exact (ins_perm x l).cons y
theorem nLt_trans {x y z : Nt} (h1 : nLt x y) (h2 : nLt y z) : nLt x z := by
  unfold nLt at *
  omega
theorem ins_rise {x : Nt} : ∀ {l : List Nt}, l.Pairwise nLt → (∀ y ∈ l, ¬ (y.t = x.t ∧ sortS y.v = sortS x.v)) → (insN x l).Pairwise nLt
  | [], _, _ => List.pairwise_singleton _ _
  | y :: l, h, hn => by
    obtain ⟨h1, h2⟩ := List.pairwise_cons.mp h
    unfold insN
    split
    · rename_i hx
      refine List.pairwise_cons.mpr ⟨fun z hz => ?_, h⟩
      rcases List.mem_cons.mp hz with rfl | hz
      · exact hx
      · exact nLt_trans hx (h1 z hz)
    · rename_i hx
      refine List.pairwise_cons.mpr ⟨fun z hz => ?_, ins_rise h2 fun y hy => hn y (List.mem_cons_of_mem _ hy)⟩
      rcases List.mem_append.mp ((ins_perm x l).mem_iff.mp hz) with hz | hz
      · exact h1 z hz
      · rw [List.mem_singleton.mp hz]
        rcases tri (fun e => hn y List.mem_cons_self e) with e | e
        · exact e
        · exact absurd e hx
def stD (q : List Int × List Nt) : PyData := .tuple [rowT q.1, .tuple (q.2.map ntD)]
def mkS (p : Nat) (L : List (List Int × List Nt)) (told : List PyData) : Sd := ⟨(p : Int), L.map stD, told⟩
theorem mkS_plots (p : Nat) (L : List (List Int × List Nt)) (told : List PyData) : (mkS p L told).plots = (p : Int) := rfl
theorem mkS_told (p : Nat) (L : List (List Int × List Nt)) (told : List PyData) : (mkS p L told).fld .told = told := rfl
theorem mkS_states (p : Nat) (L : List (List Int × List Nt)) (told : List PyData) : (mkS p L told).fld .states = L.map stD := rfl
theorem mkS_put (p : Nat) (L : List (List Int × List Nt)) (told t2 : List PyData) : (mkS p L told).put .told t2 = mkS p L t2 := rfl
theorem mkS_more (p : Nat) (L : List (List Int × List Nt)) (told : List PyData) (row : List Int) (ns : List Nt) : (mkS p L told).put .states (L.map stD ++ [.tuple [rowT row, .tuple (ns.map ntD)]]) = mkS p (L ++ [(row, ns)]) told := by
  unfold mkS
  rw [List.map_append]
  rfl
theorem noL_nt (x : Nt) : NoL (ntD x) = true := by
  obtain ⟨t, v⟩ := x
  cases v <;> rfl
theorem noL_row (l : List Int) : NoL (rowT l) = true := noLA_ints l
theorem noL_nts (ns : List Nt) : NoLA (ns.map ntD) = true := NoLA.of fun d hd => by
  obtain ⟨x, _, rfl⟩ := List.mem_map.mp hd
  exact noL_nt x
local macro_rules | `(tactic| walk_at "s7") => `(tactic| simp only [mkS_plots, mkS_told, mkS_states, mkS_put, mkS_more, noL_row, noL_nts, noL_nt, wPlots, wFldIx, wFldLen, wFldList, wFldApp, wFldPop, wNX, wMX, wHOb, wHBox, wCO, CallsO, wRetFin, wRetFin3, wRaiseO, wCX, wNewO, wMk, wLenO, wIsiO, wEqO, hdO_1, hdO_2, hdO_b0, hdO_b1, hdO_b2, selV_nil, sel0, sel1, sel2, sel01, sel10, put0, put1, put2, put01, put10, putN, nd1, nd01, nd10, ndN, DEnds.low, Dt.low, low_box, low_d, low_own, low_none, low_ob, initS, sd_states, sd_told, sd_put1, sd_put2, noL_int, noL_str, noL_tup, noLA_cons, noLA_nil, noLA_ints, L2.atI_last, DV.ob.injEq, Ov.st.injEq, Bool.and_true, Bool.true_and, wPubO, wC, wV, wPub, wP, wCons, wTup, wLst, wL, w2, wTest, wChain, wAnd, wOr, Dw.wNot, wAndV, wOrV, wNotV, wIf, Dw.wTru, truD, gI0, gI, gEq, gNe, gIn, gIsN, gNotN, gIsB, gNotB, gCatT, gCatS, gIx, wCat, wRep, w1, w1O, gLen, gTupleOf, gListOf, wRg1, gInt, gStr, w2a, wSlT, wSlL, wSlS, wRevT, wNeg, wCall, wCallB, wName, wGNil_n, wGCons_c, wGTup, wSeq, wRng1, wEnum, wZip, wNext, wSq, wRet, wIfS, wDrop, wAsg, wOwn, wAug, wMeth, fAppend, wFor_eq, wWhile_eq, wipeD, wLc_eq, Dw.wNm, wPar, wGix, wDix, wCatP, wPopTo, fPop, fPopAt, fIns, wSetIx, gRepr, gMinT, gNeS, gRepN, wDGet2, wKGet, wLIdx, wDPGet, wKAug, wDcK, wDPut, wTPut, wTGet, gSrtR, gSrtA, gLtP, wSlB, wStar, wRaise, wNmX, wXat, wXis, gEqS, wYd, wYdic, wYfn, wYg, wCallD, wCallV, wSetN, wDcT, wTGet2, wTGet1, dicAt, wRng2, wRg2, wRngD, wRevR, gRevL, wAugM, gLenSetL, wAppPop, gSrtSet, wIsi, wNotT, wAugIx, wPeekO, wPick2, wExt, fRem, look_d, look_own, shpI, shpB, shpN, shpS, seqT, seqL, itsT, itsL, lenT, lenL, okFF, eqv_str, eqv_int, eqv_bool, isNone, perm, Dt.set, Dt.sets, env0, List.map_cons, List.map_nil, List.cons_append, List.nil_append, List.getElem?_cons_zero, List.getElem?_cons_succ, List.set_cons_succ, List.set_cons_zero, List.filterMap_cons, List.filterMap_nil, Option.some.injEq, DV.d.injEq, DV.own.injEq, DV.dit.injEq, DV.dd.injEq, DV.oth.injEq, reduceCtorEq, false_or, or_false, false_and, and_false, exists_false, PyData.int.injEq, PyData.bool.injEq, PyData.str.injEq, PyData.tuple.injEq, PyData.list.injEq, List.cons.injEq, exists_eq_left, exists_eq_left', exists_eq_right, exists_eq_right', exists_and_left, exists_eq', exists_eq, and_true, true_and, and_self, and_assoc, List.length_cons, List.length_nil, List.replicate, Nat.reduceAdd, Nat.reduceSub, Nat.reduceLeDiff, Nat.zero_le, decide_eq_true_eq, Bool.not_eq_true', decide_eq_false_iff_not, ite_true, ite_false, if_true, if_false, Bool.false_eq_true, Bool.true_eq_false, eq_self, List.reduceReplicate, Bool.not_true, Bool.not_false, reduceIte])
theorem step_w (w : Wd) : stepOf (wstr w) = some w.step := by cases w <;> rfl
theorem allSt_w (cs : List Ch) : AllSt (cs.map fun c => wstr c.1) := fun z hz => by
  obtain ⟨c, _, rfl⟩ := List.mem_map.mp hz
  rw [step_w]
  rfl
theorem sum_w (cs : List Ch) : sumSt (cs.map fun c => wstr c.1) = (cs.map fun c => c.1.step).sum := by
  unfold sumSt
  rw [List.map_map]
  congr 1
  refine List.map_congr_left fun c _ => ?_
  show (stepOf (wstr c.1)).getD 0 = _
  rw [step_w]
  rfl
/-- what a state's list is at its end -/
theorem mkS_snoc (p : Nat) (L : List (List Int × List Nt)) (q : List Int × List Nt) (told : List PyData) : mkS p (L ++ [q]) told = ⟨(p : Int), L.map stD ++ [stD q], told⟩ := by
  unfold mkS
  rw [List.map_append]
  rfl
/-- a state of a street -/
structure Stt (p : Nat) (row : List Int) (ns : List Nt) : Prop where
  isr : OgM.Row (p : Nat) row
  le : row.length ≤ p
  pl : p ≤ 16
  sn : Sn row row.length ns
theorem eqv_rowT (a b : List Int) : PyData.eqv (rowT a) (rowT b) = decide (a = b) := by
  unfold rowT
  rw [PyData.eqv]
  exact eqvA_ints a b
theorem eqvA_nts : ∀ a b : List Nt, PyData.eqvAll (a.map ntD) (b.map ntD) = decide (a = b)
  | [], [] => rfl
  | [], _ :: _ => rfl
  | _ :: _, [] => rfl
  | x :: a, y :: b => by
    rw [List.map_cons, List.map_cons]
    unfold PyData.eqvAll
    rw [eqv_nt, eqvA_nts a b]
    by_cases h1 : x = y <;> by_cases h2 : a = b <;> simp [h1, h2]
theorem eqv_bkT (p p' T T' : Nat) (a b : List Nt) : PyData.eqv (bkT p T a) (bkT p' T' b) = decide (p = p' ∧ T = T' ∧ a = b) := by
  unfold bkT
  rw [PyData.eqv]
  unfold PyData.eqvAll
  rw [eqv_int]
  unfold PyData.eqvAll
  rw [eqv_int]
  unfold PyData.eqvAll
  rw [PyData.eqv, eqvA_nts]
  unfold PyData.eqvAll
  by_cases h1 : p = p' <;> by_cases h2 : T = T' <;> by_cases h3 : a = b <;> simp [h1, h2, h3] <;> omega
theorem Stt.small {p : Nat} {row : List Int} {ns : List Nt} (h : Stt p row ns) : NSm ns := sn_small h.sn (by have := h.le; have := h.pl; omega) rfl
theorem Stt.bk {p : Nat} {row : List Int} {ns : List Nt} (h : Stt p row ns) : Bk (bkT p row.length ns) p row.length ns := by
  have h1 := h.le
  have h2 := h.pl
  have h3 := h.sn.len
  exact ⟨⟨_, .inl rfl, .inl rfl⟩, h1, by omega, by omega, by omega⟩
theorem Stt.shpB {p : Nat} {row : List Int} {ns : List Nt} (h : Stt p row ns) : Shp (bkT p row.length ns) := (bd_bkT (by have := h.pl; omega) (by have := h.le; have := h.pl; omega) h.small).shp (by decide)
section
variable {P : Program} {wd : World} {K : PySem.W.Frag} {mg : Str → Option Value} {base : Heap} {c : Nat → Addr} {cS : Addr}
def f_Srow : FOb := fun c ds R => ∃ n p L row ns told, c = ⟨n, [.st (mkS p (L ++ [(row, ns)]) told)]⟩ ∧ ds = [] ∧ R (.ok (rowT row)) c
theorem ok_S_row (T : Top wd K mg) (Z : TopS K mg cS) : MetO P wd K mg base 1 cS "row" ["self"] f_Srow := by
  have sk := Z.sk
  refine MetO.make Z.d_row sc_S_row (fun c ds R h => by obtain ⟨_, _, _, _, _, _, rfl, rfl, _⟩ := h; rfl) (fun f cdv A outer s H G E x c ds R hG hr ht hC h hx => ?_)
  obtain ⟨n, p, L, row, ns, told, rfl, rfl, q⟩ := h
  refine ⟨_, _, (dss_one (ds_ret (de_ix rfl (DE.p (de_fldIx .states 0 rfl hC sk (de_neg de_int))) (DE.p de_int)))), ?_⟩
  rw [mkS_snoc] at q ⊢
  walk_at "s7"
  exact ⟨rfl, _, rfl, q⟩
def f_Snotes : FOb := fun c ds R => ∃ n p L row ns told, c = ⟨n, [.st (mkS p (L ++ [(row, ns)]) told)]⟩ ∧ ds = [] ∧ R (.ok (.tuple (ns.map ntD))) c
theorem ok_S_notes (T : Top wd K mg) (Z : TopS K mg cS) : MetO P wd K mg base 1 cS "notes" ["self"] f_Snotes := by
  have sk := Z.sk
  refine MetO.make Z.d_notes sc_S_notes (fun c ds R h => by obtain ⟨_, _, _, _, _, _, rfl, rfl, _⟩ := h; rfl) (fun f cdv A outer s H G E x c ds R hG hr ht hC h hx => ?_)
  obtain ⟨n, p, L, row, ns, told, rfl, rfl, q⟩ := h
  refine ⟨_, _, (dss_one (ds_ret (de_ix rfl (DE.p (de_fldIx .states 0 rfl hC sk (de_neg de_int))) (DE.p de_int)))), ?_⟩
  rw [mkS_snoc] at q ⊢
  walk_at "s7"
  exact ⟨rfl, _, rfl, q⟩
def f_Slen : FOb := fun c ds R => ∃ n p L row ns told, c = ⟨n, [.st (mkS p (L ++ [(row, ns)]) told)]⟩ ∧ ds = [] ∧ R (.ok (.int (row.length : Nat))) c
theorem ok_S___len__ (T : Top wd K mg) (Z : TopS K mg cS) : MetO P wd K mg base 2 cS "__len__" ["self"] f_Slen := by
  have sk := Z.sk
  have m_row := ok_S_row (P := P) (base := base) T Z
  refine MetO.make Z.d___len__ sc_S___len__ (fun c ds R h => by obtain ⟨_, _, _, _, _, _, rfl, rfl, _⟩ := h; rfl) (fun f cdv A outer s H G E x c ds R hG hr ht hC h hx => ?_)
  obtain ⟨n, p, L, row, ns, told, rfl, rfl, q⟩ := h
  refine ⟨_, _, (dss_one (ds_ret (de_len rfl (by rfl) T.b_len (DE.p (de_meth0 0 m_row sk.cl rfl hC hG (hr.mono (by omega))))))), ?_⟩
  walk_at "s7"
  refine ⟨0, p, L, row, ns, told, rfl, rfl, ?_⟩
  walk_at "s7"
  exact ⟨_, rfl, by rw [List.length_map]; exact q⟩
def f_Sgroups : FOb := fun c ds R => ∃ n p L row ns told, c = ⟨n, [.st (mkS p (L ++ [(row, ns)]) told)]⟩ ∧ ds = [] ∧ Stt p row ns ∧ R (.ok (.int ((segs row).length : Nat))) c
theorem ok_S_groups (T : Top wd K mg) (Z : TopS K mg cS) : MetO P wd K mg base 3 cS "groups" ["self"] f_Sgroups := by
  have sk := Z.sk
  have m_row := ok_S_row (P := P) (base := base) T Z
  have g_houses := ok_houses (P := P) (base := base) T
  have g_groups_after := ok_groups_after (P := P) (base := base) T
  refine MetO.make Z.d_groups sc_S_groups (fun c ds R h => by obtain ⟨_, _, _, _, _, _, rfl, rfl, _⟩ := h; rfl) (fun f cdv A outer s H G E x c ds R hG hr ht hC h hx => ?_)
  obtain ⟨n, p, L, row, ns, told, rfl, rfl, hS, q⟩ := h
  refine ⟨_, _, (dss_one (ds_ret (de_c g_groups_after hG (hr.mono (by omega)) (by rfl) (da_cons (de_c g_houses hG (hr.mono (by omega)) (by rfl) (da_cons (de_meth0 0 m_row sk.cl rfl hC hG (hr.mono (by omega))) da_nil)) da_nil)))), ?_⟩
  walk_at "s7"
  refine ⟨0, p, L, row, ns, told, rfl, rfl, ?_⟩
  walk_at "s7"
  have h1 := hS.le
  have h2 := hS.pl
  refine ⟨rowT row, row, rfl, .inl rfl, hS.isr.nd, by omega, ?_⟩
  walk_at "s7"
  refine ⟨.tuple (wdsD row), (picks row).map (fun c => wstr c.1), rfl, rfl, by unfold wdsD; rw [List.map_map]; rfl, allSt_w _, by rw [List.length_map, picks_len]; omega, ?_⟩
  walk_at "s7"
  rw [sum_w]
  have e := segs_steps hS.isr (Nat.le_refl row.length)
  rw [List.take_length, ← picks_len row, List.take_length] at e
  rw [← e]
  exact q
def f_Sjournal : FOb := fun c ds R => ∃ n p L row ns told, c = ⟨n, [.st (mkS p (L ++ [(row, ns)]) told)]⟩ ∧ ds = [] ∧ row.length ≤ 1000 ∧ R (.ok (bkT p row.length ns)) c
theorem ok_S_journal (T : Top wd K mg) (Z : TopS K mg cS) : MetO P wd K mg base 2 cS "journal" ["self"] f_Sjournal := by
  have sk := Z.sk
  have m_row := ok_S_row (P := P) (base := base) T Z
  have m_notes := ok_S_notes (P := P) (base := base) T Z
  refine MetO.make Z.d_journal sc_S_journal (fun c ds R h => by obtain ⟨_, _, _, _, _, _, rfl, rfl, _⟩ := h; rfl) (fun f cdv A outer s H G E x c ds R hG hr ht hC h hx => ?_)
  obtain ⟨n, p, L, row, ns, told, rfl, rfl, hl, q⟩ := h
  refine ⟨_, _, (dss_one (ds_ret (de_tup (da_cons (de_plots 0 rfl hC sk) (da_cons (de_len rfl (by rfl) T.b_len (DE.p (de_meth0 0 m_row sk.cl rfl hC hG (hr.mono (by omega))))) (da_cons (de_meth0 0 m_notes sk.cl rfl hC hG (hr.mono (by omega))) da_nil)))))), ?_⟩
  walk_at "s7"
  refine ⟨0, p, L, row, ns, told, rfl, rfl, ?_⟩
  walk_at "s7"
  refine ⟨_, rfl, 0, p, L, row, ns, told, rfl, rfl, ?_⟩
  walk_at "s7"
  rw [List.length_map]
  exact q
def f_Scount : FOb := fun c ds R => ∃ n p L row ns told, c = ⟨n, [.st (mkS p (L ++ [(row, ns)]) told)]⟩ ∧ ds = [] ∧ Stt p row ns ∧ R (.ok (.int (FW List.sum ns (p - row.length) row.length row.length 0 : Nat))) c
theorem ok_S_count (T : Top wd K mg) (Z : TopS K mg cS) : MetO P wd K mg base 9 cS "count" ["self"] f_Scount := by
  have sk := Z.sk
  have m_journal := ok_S_journal (P := P) (base := base) T Z
  have g_count_orders := ok_count_orders (P := P) (base := base) T
  refine MetO.make Z.d_count sc_S_count (fun c ds R h => by obtain ⟨_, _, _, _, _, _, rfl, rfl, _⟩ := h; rfl) (fun f cdv A outer s H G E x c ds R hG hr ht hC h hx => ?_)
  obtain ⟨n, p, L, row, ns, told, rfl, rfl, hS, q⟩ := h
  refine ⟨_, _, (dss_one (ds_ret (de_c g_count_orders hG (hr.mono (by omega)) (by rfl) (da_cons (de_meth0 0 m_journal sk.cl rfl hC hG (hr.mono (by omega))) da_nil)))), ?_⟩
  walk_at "s7"
  refine ⟨0, p, L, row, ns, told, rfl, rfl, by have := hS.le; have := hS.pl; omega, ?_⟩
  walk_at "s7"
  exact ⟨_, p, row.length, ns, rfl, hS.bk, q⟩
theorem any_ints (l : List Int) (x : Int) : (l.map PyData.int).any (fun z => PyData.eqv z (.int x)) = decide (x ∈ l) := by
  induction l with
  | nil => rfl
  | cons y l ih =>
    rw [List.map_cons, List.any_cons, ih, eqv_int]
    by_cases h1 : y = x
    · subst h1; simp
    · have h3 : ¬ x = y := fun z => h1 z.symm
      by_cases h2 : x ∈ l <;> simp [h1, h2, h3]
theorem iota_nat (p : Nat) : iotaD 0 (p : Int) = (List.range p).map fun (i : Nat) => .int (i : Int) := by
  unfold iotaD
  rw [show ((p : Int) - 0).toNat = p by omega]
  refine List.map_congr_left fun i _ => ?_
  rw [Int.zero_add]
def f_Sempty : FOb := fun c ds R => ∃ n p L row ns told, c = ⟨n, [.st (mkS p (L ++ [(row, ns)]) told)]⟩ ∧ ds = [] ∧ Stt p row ns ∧ R (.ok (.list (((List.range p).filter fun (i : Nat) => decide ((i : Int) ∉ row)).map fun (i : Nat) => .int (i : Int)))) c
theorem ok_S_empty (T : Top wd K mg) (Z : TopS K mg cS) : MetO P wd K mg base 2 cS "empty" ["self"] f_Sempty := by
  have sk := Z.sk
  have m_row := ok_S_row (P := P) (base := base) T Z
  refine MetO.make Z.d_empty sc_S_empty (fun c ds R h => by obtain ⟨_, _, _, _, _, _, rfl, rfl, _⟩ := h; rfl) (fun f cdv A outer s H G E x c ds R hG hr ht hC h hx => ?_)
  obtain ⟨n, p, L, row, ns, told, rfl, rfl, hS, q⟩ := h
  refine ⟨_, _, (dss_cons (ds_set 1 sc_S_empty.nd (de_meth0 0 m_row sk.cl rfl hC hG (hr.mono (by omega))))
      (dss_one (ds_ret (DO.d (do_lc (own := [("plot", 2)]) (by rfl) sc_S_empty.nd (di_rng1 (by rfl) T.b_range (de_plots 0 rfl hC sk)) (blkOk_by (own := [("plot", 2)]) (N := ["self", "row", "plot"]) (sc := defScope s_S_empty) (by decide +kernel)) (fun _ _ _ _ _ => (dg_name 2 sc_S_empty.nd (hf := by first | exact Or.inr rfl | exact Or.inl rfl))) (ts_one fun _ _ _ _ _ => (dt_cmp (o_notin rfl (u65 hr)) (dp_v 2) (dp_v 1))) (fun _ _ _ _ _ => (de_v 2))))))), ?_⟩
  walk_at "s7"
  refine ⟨0, p, L, row, ns, told, rfl, rfl, ?_⟩
  walk_at "s7"
  have h2 := hS.pl
  refine ⟨by omega, by omega, ?_⟩
  rw [iota_nat]
  refine lcD_enc (List.range p) (fun (i : Nat) => .int (i : Int)) (fun (i : Nat) => if (i : Int) ∉ row then some (.int (i : Int)) else none) (by rw [List.length_range]; omega) (fun i hi acc J hacc h1 h0 => ?_) ?_
  · walk_at "s7"
    refine ⟨rfl, shp_intsT row, ?_⟩
    show if (true ^^ (row.map PyData.int).any fun z => PyData.eqv z (.int (i : Int))) = true then _ else _
    rw [any_ints]
    by_cases hm : (i : Int) ∈ row
    · rw [if_neg (by rw [decide_eq_true hm]; decide)]
      exact h0 (if_neg fun z => z hm)
    · rw [if_pos (by rw [decide_eq_false hm]; rfl)]
      exact ⟨hacc, h1 _ (if_pos hm)⟩
  · have e : ∀ l : List Nat, l.filterMap (fun (i : Nat) => if (i : Int) ∉ row then some (PyData.int (i : Int)) else none) = (l.filter fun (i : Nat) => decide ((i : Int) ∉ row)).map fun (i : Nat) => .int (i : Int) := fun l => by
      induction l with
      | nil => rfl
      | cons x l ih =>
        rw [List.filterMap_cons, List.filter_cons, ih]
        by_cases hm : (x : Int) ∈ row <;> simp [hm]
    rw [e]
    exact q
def f_Slog : FOb := fun c ds R => ∃ n p L row ns told, c = ⟨n, [.st (mkS p (L ++ [(row, ns)]) told)]⟩ ∧ ds = [] ∧ R (.ok (.list told)) c
theorem ok_S_log (T : Top wd K mg) (Z : TopS K mg cS) : MetO P wd K mg base 1 cS "log" ["self"] f_Slog := by
  have sk := Z.sk
  refine MetO.make Z.d_log sc_S_log (fun c ds R h => by obtain ⟨_, _, _, _, _, _, rfl, rfl, _⟩ := h; rfl) (fun f cdv A outer s H G E x c ds R hG hr ht hC h hx => ?_)
  obtain ⟨n, p, L, row, ns, told, rfl, rfl, q⟩ := h
  refine ⟨_, _, (dss_one (ds_ret (DO.d (do_fldList .told 0 rfl hC sk (by rfl) T.b_list)))), ?_⟩
  rw [mkS_snoc] at q ⊢
  walk_at "s7"
  exact q
def f_Seq : FOb := fun c ds R => ∃ n p L row ns told p' L' row' ns' told', c = ⟨n, [.st (mkS p (L ++ [(row, ns)]) told), .st (mkS p' (L' ++ [(row', ns')]) told')]⟩ ∧ ds = [] ∧ Stt p row ns ∧ Stt p' row' ns' ∧ R (.ok (.bool (decide (row = row' ∧ p = p' ∧ ns = ns')))) c
theorem ok_S___eq__ (T : Top wd K mg) (Z : TopS K mg cS) : MetO P wd K mg base 3 cS "__eq__" ["self", "other"] f_Seq := by
  have sk := Z.sk
  have m_row := ok_S_row (P := P) (base := base) T Z
  have m_journal := ok_S_journal (P := P) (base := base) T Z
  have si := Z.si
  have hSt := Z.here
  refine MetO.make Z.d___eq__ sc_S___eq__ (fun c ds R h => by obtain ⟨_, _, _, _, _, _, _, _, _, _, _, rfl, rfl, _⟩ := h; rfl) (fun f cdv A outer s H G E x c ds R hG hr ht hC h hx => ?_)
  obtain ⟨n, p, L, row, ns, told, p', L', row', ns', told', rfl, rfl, hS, hS', q⟩ := h
  refine ⟨_, _, (dss_one (ds_ret (de_and (de_isiO 1 sk si rfl hC (by rfl) T.b_isinstance (by rfl) hSt) (de_and (de_cmp (o_eq rfl hr.units) (DE.p (de_meth0 0 m_row sk.cl rfl hC hG (hr.mono (by omega)))) (DE.p (de_meth0 1 m_row sk.cl rfl hC hG (hr.mono (by omega))))) (de_one (de_cmp (o_eq rfl hr.units) (DE.p (de_meth0 0 m_journal sk.cl rfl hC hG (hr.mono (by omega)))) (DE.p (de_meth0 1 m_journal sk.cl rfl hC hG (hr.mono (by omega)))))))))), ?_⟩
  walk_at "s7"
  refine ⟨0, p, L, row, ns, told, rfl, rfl, ?_⟩
  walk_at "s7"
  refine ⟨0, p', L', row', ns', told', rfl, rfl, ?_⟩
  walk_at "s7"
  have h1 := hS.le
  have h2 := hS.pl
  have h1' := hS'.le
  have h2' := hS'.pl
  refine ⟨shp_intsT row, shp_intsT row', ?_⟩
  rw [eqv_rowT]
  by_cases hr : row = row'
  · rw [if_pos (decide_eq_true hr)]
    refine ⟨0, p, L, row, ns, told, rfl, rfl, by omega, ?_⟩
    walk_at "s7"
    refine ⟨0, p', L', row', ns', told', rfl, rfl, by omega, ?_⟩
    walk_at "s7"
    refine ⟨hS.shpB, hS'.shpB, ?_⟩
    rw [eqv_bkT]
    have e : decide (p = p' ∧ row.length = row'.length ∧ ns = ns') = decide (row = row' ∧ p = p' ∧ ns = ns') := by
      subst hr
      simp
    rw [e]
    exact q
  · rw [if_neg (by rw [decide_eq_false hr]; decide)]
    have e : decide (row = row' ∧ p = p' ∧ ns = ns') = false := decide_eq_false fun z => hr z.1
    rw [e] at q
    exact q
end
section
variable {P : Program} {wd : World} {K : PySem.W.Frag} {mg : Str → Option Value} {base : Heap} {c : Nat → Addr}
def f_mir : FP := fun ds R => ∃ (n : Int) (row : List Int), ds = [.int n, .tuple (row.map .int)] ∧ row.length ≤ 900 ∧ R (.tuple ((row.map fun x => n - 1 - x).map .int))
theorem ok_mirrored (T : Top wd K mg) : Def P wd K mg base 1 "mirrored" s_mirrored ["plots", "row"] (spP K f_mir) := by
  refine Def.pure T.d_mirrored sc_mirrored (fun ds R h => by obtain ⟨_, _, rfl, _⟩ := h; rfl) (fun f cdv A outer s H G E ds R hG hr h => ?_)
  obtain ⟨n, row, rfl, hl, q⟩ := h
  refine ⟨_, _, (dss_one (ds_ret (de_tupleOf rfl (by rfl) T.b_tuple (DE.p (DO.d (do_lc (own := [("plot", 2)]) (by rfl) sc_mirrored.nd (di_seq rfl (de_v 1)) (blkOk_by (own := [("plot", 2)]) (N := ["plots", "row", "plot"]) (sc := defScope s_mirrored) (by decide +kernel)) (fun _ _ _ _ _ => (dg_name 2 sc_mirrored.nd (hf := by first | exact Or.inr rfl | exact Or.inl rfl))) ts_no (fun _ _ _ _ _ => (de_bin o_sub (DE.p (de_bin o_sub (dp_v 0) (DE.p de_int))) (dp_v 2))))))))), ?_⟩
  walk_at "s3"
  refine lcD_encM row PyData.int (fun x => .int (n - 1 - x)) (by omega) (fun x hx acc J hacc hJ => ?_) ?_
  · walk_at "s3"
    exact ⟨hacc, hJ⟩
  · rw [List.map_map] at q
    exact q
end
local macro_rules | `(tactic| walk_at "s8") => `(tactic| simp only [wTryN, wTySet, wTyIf, wTySq, wTyExpr, wYxc, wMK, wMN, wMNK, wTm, CallT, wNeO, wEqT, wReprO, wJ, wFmt, wJoined, wMkK, mkS_plots, mkS_told, mkS_states, mkS_put, mkS_more, noL_row, noL_nts, noL_nt, gSumT, wPlots, wFldIx, wFldLen, wFldList, wFldApp, wFldPop, wNX, wMX, wHOb, wHBox, wCO, CallsO, wRetFin, wRetFin3, wRaiseO, wCX, wNewO, wMk, wLenO, wIsiO, wEqO, hdO_1, hdO_2, hdO_b0, hdO_b1, hdO_b2, selV_nil, sel0, sel1, sel2, sel01, sel10, put0, put1, put2, put01, put10, putN, tk0, tk1, tk2, nd1, nd01, nd10, ndN, DEnds.low, Dt.low, low_box, low_d, low_own, low_none, low_ob, initS, sd_states, sd_told, sd_put1, sd_put2, noL_int, noL_str, noL_tup, noLA_cons, noLA_nil, noLA_ints, L2.atI_last, DV.ob.injEq, Ov.st.injEq, Bool.and_true, Bool.true_and, wPubO, wC, wV, wPub, wP, wCons, wTup, wLst, wL, w2, wTest, wChain, wAnd, wOr, Dw.wNot, wAndV, wOrV, wNotV, wIf, Dw.wTru, truD, gI0, gI, gEq, gNe, gIn, gIsN, gNotN, gIsB, gNotB, gCatT, gCatS, gIx, wCat, wRep, w1, w1O, gLen, gTupleOf, gListOf, wRg1, gInt, gStr, w2a, wSlT, wSlL, wSlS, wRevT, wNeg, wCall, wCallB, wName, wGNil_n, wGCons_c, wGTup, wSeq, wRng1, wEnum, wZip, wNext, wSq, wRet, wIfS, wDrop, wAsg, wOwn, wAug, wMeth, fAppend, wFor_eq, wWhile_eq, wipeD, wLc_eq, Dw.wNm, wPar, wGix, wDix, wCatP, wPopTo, fPop, fPopAt, fIns, wSetIx, gRepr, gMinT, gNeS, gRepN, wDGet2, wKGet, wLIdx, wDPGet, wKAug, wDcK, wDPut, wTPut, wTGet, gSrtR, gSrtA, gLtP, wSlB, wStar, wRaise, wNmX, wXat, wXis, gEqS, wYd, wYdic, wYfn, wYg, wCallD, wCallV, wSetN, wDcT, wTGet2, wTGet1, dicAt, wRng2, wRg2, wRngD, wRevR, gRevL, wAugM, gLenSetL, wAppPop, gSrtSet, wIsi, wNotT, wAugIx, wPeekO, wPick2, wExt, fRem, look_d, look_own, shpI, shpB, shpN, shpS, seqT, seqL, itsT, itsL, lenT, lenL, okFF, eqv_str, eqv_int, eqv_bool, isNone, perm, Dt.set, Dt.sets, env0, List.map_cons, List.map_nil, List.cons_append, List.nil_append, List.getElem?_cons_zero, List.getElem?_cons_succ, List.set_cons_succ, List.set_cons_zero, List.filterMap_cons, List.filterMap_nil, Option.some.injEq, DV.d.injEq, DV.own.injEq, DV.dit.injEq, DV.dd.injEq, DV.oth.injEq, reduceCtorEq, false_or, or_false, false_and, and_false, exists_false, PyData.int.injEq, PyData.bool.injEq, PyData.str.injEq, PyData.tuple.injEq, PyData.list.injEq, List.cons.injEq, exists_eq_left, exists_eq_left', exists_eq_right, exists_eq_right', exists_and_left, exists_eq', exists_eq, and_true, true_and, and_self, and_assoc, List.length_cons, List.length_nil, List.replicate, Nat.reduceAdd, Nat.reduceSub, Nat.reduceLeDiff, Nat.zero_le, decide_eq_true_eq, Bool.not_eq_true', decide_eq_false_iff_not, ite_true, ite_false, if_true, if_false, Bool.false_eq_true, Bool.true_eq_false, eq_self, List.reduceReplicate, Bool.not_true, Bool.not_false, reduceIte])
/-- the first plot that fails -/
def lrow (p : Nat) : List Int → List Int → Option (Str × Int)
  | _, [] => none
  | row, x :: more => if 0 ≤ x ∧ x < (p : Int) then (if x ∈ row then some ("Built", x) else lrow p (row ++ [x]) more) else some ("NoPlot", x)
theorem lrow_row {p : Nat} : ∀ {more row : List Int}, OgM.Row (p : Nat) row → lrow p row more = none → OgM.Row (p : Nat) (row ++ more)
  | [], row, h, _ => by rw [List.append_nil]; exact h
  | x :: more, row, h, e => by
    unfold lrow at e
    by_cases h1 : 0 ≤ x ∧ x < (p : Int)
    · rw [if_pos h1] at e
      by_cases h2 : x ∈ row
      · rw [if_pos h2] at e; cases e
      · rw [if_neg h2] at e
        have h3 : OgM.Row (p : Nat) (row ++ [x]) := ⟨by rw [List.nodup_append]; exact ⟨h.nd, List.pairwise_singleton _ _, fun a ha b hb => by rw [List.mem_singleton.mp hb]; exact fun z => h2 (z ▸ ha)⟩, fun y hy => by
          rcases List.mem_append.mp hy with hy | hy
          · exact h.lo y hy
          · rw [List.mem_singleton.mp hy]; exact h1.1, fun y hy => by
          rcases List.mem_append.mp hy with hy | hy
          · exact h.hi y hy
          · rw [List.mem_singleton.mp hy]; exact h1.2⟩
        have := lrow_row h3 e
        rw [List.append_assoc] at this
        exact this
    · rw [if_neg h1] at e; cases e
theorem nd_len : ∀ (l D : List Int), l.Nodup → (∀ x ∈ l, x ∈ D) → l.length ≤ D.length
  | [], _, _, _ => Nat.zero_le _
  | x :: l, D, h, s => by
    have hx := s x List.mem_cons_self
    have nd := List.nodup_cons.mp h
    have h1 := nd_len l (D.erase x) nd.2 fun y hy => (List.mem_erase_of_ne (fun (z : y = x) => nd.1 (z ▸ hy))).mpr (s y (List.mem_cons_of_mem _ hy))
    rw [List.length_erase_of_mem hx] at h1
    have := List.length_pos_of_mem hx
    rw [List.length_cons]
    omega
theorem row_le {p : Nat} {row : List Int} (h : OgM.Row (p : Nat) row) : row.length ≤ p := by
  have := nd_len row ((List.range p).map fun (i : Nat) => (i : Int)) h.nd fun x hx => List.mem_map.mpr ⟨x.toNat, List.mem_range.mpr (by have := h.lo x hx; have := h.hi x hx; omega), by have := h.lo x hx; omega⟩
  rw [List.length_map, List.length_range] at this
  exact this
def errO (o : Option (Str × Int)) (d : PyData) : Oc := match o with
  | none => .ok d
  | some e => .ex e.1 "plot" (.int e.2)
section
variable {P : Program} {wd : World} {K : PySem.W.Frag} {mg : Str → Option Value} {base : Heap} {c : Nat → Addr} {cS : Addr}
def f_longerX : FX := fun ds R => ∃ (p : Nat) (row more : List Int) (d : PyData), ds = [.int p, rowT row, d] ∧ IsR d more ∧ (row ++ more).length ≤ 900 ∧ R (errO (lrow p row more) (rowT (row ++ more)))
theorem ok_longer_rowX (T : Top wd K mg) (Y : TopX K mg c) : DefX P wd K mg base 4 "longer_row" s_longer_row ["plots", "row", "more"] (spX K mg f_longerX) := by
  have M_NoPlot := mk_NoPlot (P := P) (wd := wd) (base := base) Y
  have M_Built := mk_Built (P := P) (wd := wd) (base := base) Y
  refine DefX.make T.d_longer_row sc_longer_row (fun ds R h => by obtain ⟨_, _, _, _, rfl, _⟩ := h; rfl) (fun f cdv A outer s H G E ds R hG hr h hx => ?_)
  obtain ⟨p, row, more, d, rfl, hd, hl, q⟩ := h
  refine ⟨_, _, (dss_cons (ds_own 3 sc_longer_row.nd (do_listOf rfl (by rfl) T.b_list (dp_v 1)))
      (dss_cons (ds_for PassesOwn.leaving (by rfl) (di_seq rfl (de_v 2)) (dg_name 4 sc_longer_row.nd)
        (dss_cons (ds_if (dt_not (dt_chain o_le o_lt (DE.p de_int) (dp_v 4) (dp_v 0))) (dss_one (ds_raise M_NoPlot rfl hx (by rfl) (takes_of rfl rfl rfl rfl) rfl (hr.mono (by omega)) (by rfl) (de_v 4))) dss_nil)
        (dss_cons (ds_if (dt_cmp (o_in rfl (u65 hr)) (dp_v 4) (dp_v 3)) (dss_one (ds_raise M_Built rfl hx (by rfl) (takes_of rfl rfl rfl rfl) rfl (hr.mono (by omega)) (by rfl) (de_v 4))) dss_nil)
        (dss_one (ds_app 3 rfl (de_v 4))))))
      (dss_one (ds_ret (de_tupleOf rfl (by rfl) T.b_tuple (dp_v 3)))))), ?_⟩
  walk_at "s8"
  have key : ∀ i, i ≤ more.length → (row ++ more.take i).length ≤ 900 := fun i _ => by rw [List.length_append] at hl ⊢; rw [List.length_take]; omega
  refine ⟨rfl, hd.sq.1, ?_⟩
  rw [hd.sq.2]
  refine forD_by (fun i s => i ≤ more.length ∧ lrow p (row ++ more.take i) (more.drop i) = lrow p row more ∧ ∃ y4, s = ⟨[some (.d (.int (p : Int))), some (.d (rowT row)), some (.d d), some (.own ((row ++ more.take i).map .int)), y4], 0, []⟩) ⟨Nat.zero_le _, by rw [List.take_zero, List.append_nil, List.drop_zero], none, by rw [List.take_zero, List.append_nil]; rfl⟩ (fun i dx s J hi inv hJ => ?_) (fun s inv => ?_)
  · obtain ⟨hi2, hlr, y4, rfl⟩ := inv
    rw [List.getElem?_map] at hi
    obtain ⟨x, hx', rfl⟩ := Option.map_eq_some_iff.mp hi
    have hlt := (List.getElem?_eq_some_iff.mp hx').1
    have hd2 : more.drop i = x :: more.drop (i + 1) := by rw [List.drop_eq_getElem_cons hlt, (List.getElem?_eq_some_iff.mp hx').2]
    rw [hd2, lrow] at hlr
    walk_at "s8"
    by_cases hlo : 0 ≤ x
    · rw [if_pos hlo]
      by_cases hhi : x < (p : Int)
      · rw [if_pos ⟨hlo, hhi⟩] at hlr
        rw [if_neg (by omega)]
        refine ⟨shp_ints _, ?_⟩
        show if (false ^^ ((row ++ more.take i).map PyData.int).any fun z => PyData.eqv z (.int x)) = true then _ else _
        by_cases hm : x ∈ row ++ more.take i
        · rw [if_pos hm] at hlr
          rw [if_pos (show (false ^^ ((row ++ more.take i).map PyData.int).any fun z => PyData.eqv z (.int x)) = true by rw [any_ints, decide_eq_true hm]; rfl)]
          rw [← hlr] at q
          exact q
        · rw [if_neg hm] at hlr
          rw [if_neg (show ¬ (false ^^ ((row ++ more.take i).map PyData.int).any fun z => PyData.eqv z (.int x)) = true by rw [any_ints, decide_eq_false hm]; decide)]
          refine ⟨by rw [List.length_map]; have := key i hi2; omega, hJ _ ⟨hlt, ?_, some (.d (.int x)), ?_⟩⟩
          · rw [← hlr, List.take_add_one, hx', ← List.append_assoc]
            rfl
          · have e : (row ++ more.take (i + 1)).map PyData.int = (row ++ more.take i).map PyData.int ++ [.int x] := by
              rw [List.take_add_one, hx', ← List.append_assoc, List.map_append]
              rfl
            rw [e]
      · rw [if_neg (fun z => hhi z.2)] at hlr
        rw [if_pos (by omega)]
        rw [← hlr] at q
        exact q
    · rw [if_neg (fun z => hlo z.1)] at hlr
      rw [if_neg hlo]
      rw [← hlr] at q
      exact q
  · obtain ⟨_, hlr, y4, rfl⟩ := inv
    rw [List.length_map, List.take_length]
    rw [List.length_map, List.drop_length, List.take_length] at hlr
    walk_at "s8"
    rw [← hlr] at q
    exact q
theorem truV_app {row more : List Int} {t : Nat} (h : t < row.length) (v : NV) : truV (row ++ more) t v = truV row t v := by
  have e1 : (row ++ more).take (t + 1) = row.take (t + 1) := List.take_append_of_le_length (by omega)
  cases v with
  | g x => simp only [truV, e1]
  | h x =>
    have e2 : (row ++ more)[t]? = some row[t] := by rw [List.getElem?_append_left h, List.getElem?_eq_getElem h]
    have e3 : (row ++ more).take t = row.take t := List.take_append_of_le_length (by omega)
    simp only [truV]
    rw [picks_get e2, picks_get (List.getElem?_eq_getElem h), e3]
theorem stt_more {p : Nat} {row more : List Int} {ns : List Nt} (h : Stt p row ns) (e : lrow p row more = none) : Stt p (row ++ more) ns := by
  have hR := lrow_row h.isr e
  refine ⟨hR, row_le hR, h.pl, ⟨fun x hx => ⟨?_, ?_⟩, h.sn.rise, ?_⟩⟩
  · have := (h.sn.tru x hx).1
    rw [List.length_append]
    omega
  · rw [truV_app (h.sn.tru x hx).1]
    exact (h.sn.tru x hx).2
  · have := h.sn.len
    rw [List.length_append]
    omega
abbrev stO (p : Nat) (L : List (List Int × List Nt)) (row : List Int) (ns : List Nt) (told : List PyData) : Ov := .st (mkS p (L ++ [(row, ns)]) told)
def inO (nm : Str) (told : List PyData) : List PyData := told ++ [.tuple [.str "in", .str nm]] ++ [.tuple [.str "out", .str nm]]
/-- after building -/
def bldO (n : Int) (p : Nat) (L : List (List Int × List Nt)) (row : List Int) (ns : List Nt) (more : List Int) (told : List PyData) (R : Oc → Cs → Prop) : Prop := match lrow p row more with
  | none => R (.ok (.int ((segs (row ++ more)).length : Nat))) ⟨n, [stO p (L ++ [(row, ns)]) (row ++ more) ns told]⟩
  | some e => R (.ex e.1 "plot" (.int e.2)) ⟨n, [stO p L row ns told]⟩
def f_SbuildOnX : FOb := fun c ds R => ∃ n p L row ns told more d, c = ⟨n, [stO p L row ns told]⟩ ∧ ds = [d] ∧ IsR d more ∧ more.length ≤ 800 ∧ Stt p row ns ∧ L.length ≤ 1000 ∧ bldO n p L row ns more told R
theorem ok_S_build_onX (T : Top wd K mg) (Y : TopX K mg c) (Z : TopS K mg cS) : MetK P wd K mg base 6 cS "build_on" "Street.build_on" s_S_build_on ["self", "more"] f_SbuildOnX := by
  have sk := Z.sk
  have m_row := ok_S_row (P := P) (base := base) T Z
  have m_notes := ok_S_notes (P := P) (base := base) T Z
  have m_groups := ok_S_groups (P := P) (base := base) T Z
  have g_longer_row := ok_longer_rowX (P := P) (base := base) T Y
  refine MetK.make Z.d_build_on sc_S_build_on (fun c ds R h => by obtain ⟨_, _, _, _, _, _, _, _, rfl, rfl, _⟩ := h; rfl) (fun f cdv A outer s H G E x c ds R hG hr ht hC h hx => ?_)
  obtain ⟨n, p, L, row, ns, told, more, d, rfl, rfl, hd, hm, hS, hL, q⟩ := h
  refine ⟨_, _, (dss_cons (ds_fldApp .states 0 rfl hC sk (de_tup (da_cons (dex_deX (by exact (dex_cX g_longer_row hG (hr.mono (by omega)) (by rfl) (fun _ _ => by exact (da_cons (de_plots 0 rfl hC sk) (da_cons (de_meth0 0 m_row sk.cl rfl hC hG (hr.mono (by omega))) (da_cons (de_v 1) da_nil)))))) hx (takes_of rfl rfl rfl rfl)) (da_cons (de_meth0 0 m_notes sk.cl rfl hC hG (hr.mono (by omega))) da_nil))))
      (dss_one (ds_ret (de_meth0 0 m_groups sk.cl rfl hC hG (hr.mono (by omega)))))), ?_⟩
  walk_at "s8"
  refine ⟨0, p, L, row, ns, told, rfl, rfl, ?_⟩
  walk_at "s8"
  have h1 := hS.le
  have h2 := hS.pl
  refine ⟨p, row, more, d, rfl, hd, by rw [List.length_append]; omega, ?_⟩
  unfold bldO at q
  unfold errO
  cases hl : lrow p row more with
  | some e =>
    rw [hl] at q
    exact q
  | none =>
    rw [hl] at q
    have hS2 := stt_more hS hl
    walk_at "s8"
    refine ⟨0, p, L, row, ns, told, rfl, rfl, ?_⟩
    walk_at "s8"
    refine ⟨by rw [List.length_map, List.length_append]; simp only [List.length_cons, List.length_nil]; omega, ?_⟩
    exact ⟨0, p, L ++ [(row, ns)], row ++ more, ns, told, rfl, rfl, hS2, q⟩
def f_SbuildX : FOb := fun c ds R => ∃ n p L row ns told plot, c = ⟨n, [stO p L row ns told]⟩ ∧ ds = [.int plot] ∧ Stt p row ns ∧ L.length ≤ 1000 ∧ told.length ≤ 10000 ∧ bldO n p L row ns [plot] (inO "build" told) R
theorem ok_S_buildX (T : Top wd K mg) (Y : TopX K mg c) (Z : TopS K mg cS) : MetK P wd K mg base 7 cS "build" "Street.build" s_S_build ["self", "plot"] f_SbuildX := by
  have sk := Z.sk
  have m_build_on := (ok_S_build_onX (P := P) (base := base) T Y Z).o
  refine MetK.make Z.d_build sc_S_build (fun c ds R h => by obtain ⟨_, _, _, _, _, _, _, rfl, rfl, _⟩ := h; rfl) (fun f cdv A outer s H G E x c ds R hG hr ht hC h hx => ?_)
  obtain ⟨n, p, L, row, ns, told, plot, rfl, rfl, hS, hL, hT, q⟩ := h
  refine ⟨_, _, (dss_cons (ds_fldApp .told 0 rfl hC sk (de_tup (da_cons de_str (da_cons de_str da_nil))))
      (dss_one (ds_retFin rfl rfl rfl (takes_of rfl rfl rfl rfl) hx (dex_meth 0 m_build_on sk.cl rfl hC hG (hr.mono (by omega)) (fun _ _ => (dh_data (da_cons (DO.d (do_lst (da_cons (de_v 1) da_nil))) da_nil)))) (dss_one (ds_fldApp .told 0 rfl hC sk (de_tup (da_cons de_str (da_cons de_str da_nil))))) (fun _ _ => DSs.ps (C := ⟨K, x, H, G⟩) (dss_one (ds_fldApp .told 0 rfl hC sk (de_tup (da_cons de_str (da_cons de_str da_nil))))))))), ?_⟩
  walk_at "s8"
  refine ⟨by omega, 0, p, L, row, ns, _, [plot], _, rfl, rfl, .inr rfl, by show 1 ≤ 800; omega, hS, hL, ?_⟩
  unfold bldO at q ⊢
  have hT2 : (told ++ [PyData.tuple [.str "in", .str "build"]]).length < 100000 := by rw [List.length_append]; simp only [List.length_cons, List.length_nil]; omega
  cases hl : lrow p row [plot] with
  | some e =>
    rw [hl] at q
    walk_at "s8"
    exact ⟨hT2, q⟩
  | none =>
    rw [hl] at q
    walk_at "s8"
    exact ⟨hT2, q⟩
def f_Sbuild_allX : FOb := fun c ds R => ∃ n p L row ns told more d, c = ⟨n, [stO p L row ns told]⟩ ∧ ds = [d] ∧ IsR d more ∧ more.length ≤ 800 ∧ Stt p row ns ∧ L.length ≤ 1000 ∧ told.length ≤ 10000 ∧ bldO n p L row ns more (inO "build_all" told) R
theorem ok_S_build_allX (T : Top wd K mg) (Y : TopX K mg c) (Z : TopS K mg cS) : MetK P wd K mg base 7 cS "build_all" "Street.build_all" s_S_build_all ["self", "row"] f_Sbuild_allX := by
  have sk := Z.sk
  have m_build_on := (ok_S_build_onX (P := P) (base := base) T Y Z).o
  refine MetK.make Z.d_build_all sc_S_build_all (fun c ds R h => by obtain ⟨_, _, _, _, _, _, _, _, rfl, rfl, _⟩ := h; rfl) (fun f cdv A outer s H G E x c ds R hG hr ht hC h hx => ?_)
  obtain ⟨n, p, L, row, ns, told, more, d, rfl, rfl, hd, hm, hS, hL, hT, q⟩ := h
  refine ⟨_, _, (dss_cons (ds_fldApp .told 0 rfl hC sk (de_tup (da_cons de_str (da_cons de_str da_nil))))
      (dss_one (ds_retFin rfl rfl rfl (takes_of rfl rfl rfl rfl) hx (dex_meth 0 m_build_on sk.cl rfl hC hG (hr.mono (by omega)) (fun _ _ => (dh_data (da_cons (de_v 1) da_nil)))) (dss_one (ds_fldApp .told 0 rfl hC sk (de_tup (da_cons de_str (da_cons de_str da_nil))))) (fun _ _ => DSs.ps (C := ⟨K, x, H, G⟩) (dss_one (ds_fldApp .told 0 rfl hC sk (de_tup (da_cons de_str (da_cons de_str da_nil))))))))), ?_⟩
  walk_at "s8"
  refine ⟨by omega, 0, p, L, row, ns, _, more, d, rfl, rfl, hd, hm, hS, hL, ?_⟩
  unfold bldO at q ⊢
  have hT2 : (told ++ [PyData.tuple [.str "in", .str "build_all"]]).length < 100000 := by rw [List.length_append]; simp only [List.length_cons, List.length_nil]; omega
  cases hl : lrow p row more with
  | some e =>
    rw [hl] at q
    walk_at "s8"
    exact ⟨hT2, q⟩
  | none =>
    rw [hl] at q
    walk_at "s8"
    exact ⟨hT2, q⟩
def nmN (x y : Nt) : Bool := decide (y.t = x.t ∧ sortS y.v = sortS x.v)
def f_withX : FX := fun ds R => ∃ d p T, ∃ ns : List Nt, ∃ x : Nt, ds = [d, ntD x] ∧ IsBook d p T ns ∧ ns.length ≤ 1000 ∧ ns.Pairwise nLt ∧ match ns.find? (nmN x) with
  | some y => R (.ex "Noted" "note" (ntD y))
  | none => R (.ok (bkT p T (insN x ns)))
theorem ok_with_noteX (T : Top wd K mg) (Y : TopX K mg c) : DefX P wd K mg base 4 "with_note" s_with_note ["journal", "note"] (spX K mg f_withX) := by
  have g_notes_of := ok_notes_of (P := P) (base := base) T
  have M_Noted := mk_Noted (P := P) (base := base) T Y
  refine DefX.make T.d_with_note sc_with_note (fun ds R h => by obtain ⟨_, _, _, _, _, rfl, _⟩ := h; rfl) (fun f cdv A outer s H G E ds R hG hr h hx => ?_)
  obtain ⟨d, p, n, ns, x, rfl, hB, hl, hrs, q⟩ := h
  obtain ⟨e, he, hs1, hs2⟩ := hB.sq
  refine ⟨_, _, (dss_cons (ds_set 2 sc_with_note.nd (de_c g_notes_of hG (hr.mono (by omega)) (by rfl) (da_cons (de_v 0) da_nil)))
      (dss_cons (ds_for PassesOwn.leaving (by rfl) (di_seq rfl (de_v 2)) (dg_name 3 sc_with_note.nd)
        (dss_one (ds_if (dt_cmp (o_eq rfl hr.units) (DE.p (de_slT rfl (dp_v 3) do_none (do_some de_int))) (DE.p (de_tupleOf rfl (by rfl) T.b_tuple (DE.p (de_slB rfl (dp_v 1) do_none (do_some de_int)))))) (dss_one (ds_raise M_Noted rfl hx (by rfl) (takes_of rfl rfl rfl rfl) rfl (hr.mono (by omega)) (by rfl) (de_v 3))) dss_nil)))
      (dss_one (ds_ret (de_tup (da_cons (de_ix rfl (dp_v 0) (DE.p de_int)) (da_cons (de_ix rfl (dp_v 0) (DE.p de_int)) (da_cons (de_tupleOf rfl (by rfl) T.b_tuple (DE.p (DO.d (do_srtR rfl hr.units (by rfl) T.b_sorted (DE.p (DO.d (do_lst (da_star rfl (dp_v 2) (da_cons (de_tupleOf rfl (by rfl) T.b_tuple (dp_v 1)) da_nil))))))))) da_nil)))))))), ?_⟩
  simp only [ntD]
  walk_at "s8"
  refine ⟨d, p, n, ns, rfl, hB, hl, ?_⟩
  walk_at "s8"
  refine forD_by (fun j s2 => (ns.take j).find? (nmN x) = none ∧ ∃ y3, s2 = ⟨[some (.d d), some (.d (ntD x)), some (.d (.list (ns.map ntD))), y3], 0, []⟩) ⟨rfl, none, rfl⟩ (fun j d1 s2 J hj inv hJ => ?_) (fun s2 inv => ?_)
  · obtain ⟨hno, y3, rfl⟩ := inv
    rw [List.getElem?_map] at hj
    obtain ⟨y, hy, rfl⟩ := Option.map_eq_some_iff.mp hj
    have hlt := (List.getElem?_eq_some_iff.mp hy)
    have hd2 : ns.drop j = y :: ns.drop (j + 1) := by rw [List.drop_eq_getElem_cons hlt.1, hlt.2]
    simp only [ntD]
    walk_at "s8"
    refine ⟨rfl, shp_head y, shp_head x, ?_⟩
    show if (ntH y).eqv (ntH x) = true then okF true (ntD y) = true ∧ R (.ex "Noted" "note" (ntD y)) else J _
    rw [eqv_head]
    by_cases hn : y.t = x.t ∧ sortS y.v = sortS x.v
    · rw [if_pos (decide_eq_true hn)]
      have e2 : ns.find? (nmN x) = some y := by
        rw [← List.take_append_drop j ns, List.find?_append, hno, Option.none_or, hd2, List.find?_cons_of_pos (show nmN x y = true from decide_eq_true hn)]
      rw [e2] at q
      exact ⟨rfl, q⟩
    · rw [if_neg (by rw [decide_eq_false hn]; decide)]
      refine hJ _ ⟨?_, _, rfl⟩
      rw [List.take_add_one, hy, List.find?_append, hno, Option.none_or]
      exact List.find?_cons_of_neg (show ¬ nmN x y = true by unfold nmN; rw [decide_eq_false hn]; decide)
  · obtain ⟨hno, y3, rfl⟩ := inv
    rw [List.length_map, List.take_length] at hno
    rw [hno] at q
    have hnn : ∀ y ∈ ns, ¬ (y.t = x.t ∧ sortS y.v = sortS x.v) := fun y hy z => List.find?_eq_none.mp hno y hy (decide_eq_true z)
    have hp := ins_perm x ns
    have hr2 := ins_rise hrs hnn
    walk_at "s8"
    rw [hs2]
    have e1 : ns.map ntD ++ [PyData.tuple (its (ntD x))] = (ns ++ [x]).map ntD := by rw [List.map_append]; rfl
    rw [e1, srt_notes hp hr2]
    refine ⟨hs1, _, rfl, hs1, _, rfl, rfl, by rw [List.length_map, List.length_append]; simp only [List.length_cons, List.length_nil]; omega, rows_nts fun a ha b hb h1 h2 => ?_, q⟩
    rcases pw_mem hr2 a (hp.mem_iff.mpr ha) b (hp.mem_iff.mpr hb) with e | e | e
    · exact e
    · rcases e with e | e
      · omega
      · exact (ord_ne e.2 h2).elim
    · rcases e with e | e
      · omega
      · exact (ord_ne e.2 h2.symm).elim
structure NtSm (x : Nt) : Prop where
  t : x.t ≤ 1000
  v : FlB (valD x.v)
def IsNtD (i : PyData) (x : Nt) : Prop := seqd i = true ∧ PyData.tuple (its i) = ntD x
def f_woX : FX := fun ds R => ∃ d i p T, ∃ ns : List Nt, ∃ x : Nt, ds = [d, i] ∧ IsNtD i x ∧ IsBook d p T ns ∧ NSm ns ∧ NtSm x ∧ (if x ∈ ns then R (.ok (bkT p T (ns.filter fun y => decide (y ≠ x)))) else R (.ex "NoNote" "note" (ntD x)))
theorem any_nts (ns : List Nt) (x : Nt) : ((ns.map ntD).any fun z => z.eqv (ntD x)) = decide (x ∈ ns) := by
  induction ns with
  | nil => rfl
  | cons y l ih =>
    rw [List.map_cons, List.any_cons, ih, eqv_nt]
    by_cases h1 : y = x
    · subst h1; simp
    · have h3 : ¬ x = y := fun z => h1 z.symm
      by_cases h2 : x ∈ l <;> simp [h1, h2, h3]
theorem bd_nt1 {x : Nt} (h : NtSm x) : Bd 100 1 (ntD x) := bd_tup (show 3 ≤ 100 by decide) fun z hz => by
  simp only [List.mem_cons, List.not_mem_nil, or_false] at hz
  rcases hz with rfl | rfl | rfl
  · exact .flat (flb_nat h.t)
  · exact .flat (flb_sort _)
  · exact .flat h.v
theorem NSm.sm {ns : List Nt} (h : NSm ns) {y : Nt} (hy : y ∈ ns) : NtSm y := ⟨h.t y hy, h.v y hy⟩
theorem ok_without_noteX (T : Top wd K mg) (Y : TopX K mg c) : DefX P wd K mg base 4 "without_note" s_without_note ["journal", "note"] (spX K mg f_woX) := by
  have g_notes_of := ok_notes_of (P := P) (base := base) T
  have M_NoNote := mk_NoNote (P := P) (base := base) T Y
  refine DefX.make T.d_without_note sc_without_note (fun ds R h => by obtain ⟨_, _, _, _, _, _, rfl, _⟩ := h; rfl) (fun f cdv A outer s H G E ds R hG hr h hx => ?_)
  obtain ⟨d, i, p, n, ns, x, rfl, ⟨hi1, hi2⟩, hB, hl, hsm, q⟩ := h
  obtain ⟨e, he, hs1, hs2⟩ := hB.sq
  refine ⟨_, _, (dss_cons (ds_set 2 sc_without_note.nd (de_c g_notes_of hG (hr.mono (by omega)) (by rfl) (da_cons (de_v 0) da_nil)))
      (dss_cons (ds_set 3 sc_without_note.nd (de_tupleOf rfl (by rfl) T.b_tuple (dp_v 1)))
      (dss_cons (ds_if (dt_cmp (o_notin rfl (u65 hr)) (dp_v 3) (dp_v 2)) (dss_one (ds_raise M_NoNote rfl hx (by rfl) (takes_of rfl rfl rfl rfl) rfl (hr.mono (by omega)) (by rfl) (de_v 3))) dss_nil)
      (dss_one (ds_ret (de_tup (da_cons (de_ix rfl (dp_v 0) (DE.p de_int)) (da_cons (de_ix rfl (dp_v 0) (DE.p de_int)) (da_cons (de_tupleOf rfl (by rfl) T.b_tuple (DE.p (DO.d (do_lc (own := [("there", 4)]) (by rfl) sc_without_note.nd (di_seq rfl (de_v 2)) (blkOk_by (own := [("there", 4)]) (N := ["journal", "note", "notes", "gone", "there"]) (sc := defScope s_without_note) (by decide +kernel)) (fun _ _ _ _ _ => (dg_name 4 sc_without_note.nd (hf := by first | exact Or.inr rfl | exact Or.inl rfl))) (ts_one fun _ _ _ _ _ => (dt_cmp (o_ne rfl hr.units) (dp_v 4) (dp_v 3))) (fun _ _ _ _ _ => (de_v 4)))))) da_nil))))))))), ?_⟩
  walk_at "s8"
  refine ⟨d, p, n, ns, rfl, hB, by have := hl.l; omega, hi1, ?_⟩
  rw [hi2]
  have hbx := bd_nt1 hsm
  have hbd : ∀ y ∈ ns, Bd 100 1 (ntD y) := fun y hy => bd_nt1 (hl.sm hy)
  have hbl : Bd 100 2 (.list (ns.map ntD)) := bd_lst (by rw [List.length_map]; exact hl.l) fun z hz => by
    obtain ⟨y, hy, rfl⟩ := List.mem_map.mp hz
    exact hbd y hy
  refine ⟨rfl, hbx.shp (by decide), hbl.shp (by decide), ?_⟩
  show if (true ^^ (ns.map ntD).any fun z => z.eqv (ntD x)) = true then okF true (ntD x) = true ∧ R (.ex "NoNote" "note" (ntD x)) else _
  rw [any_nts]
  by_cases hx2 : x ∈ ns
  · rw [if_pos hx2] at q
    rw [if_neg (by rw [decide_eq_true hx2]; decide), hs2]
    refine ⟨hs1, _, rfl, hs1, _, rfl, rfl, lcD_enc ns ntD (fun y => if y = x then none else some (ntD y)) (by have := hl.l; omega) (fun y hy acc J hacc h1 h0 => ?_) ?_⟩
    · walk_at "s8"
      refine ⟨(hbd y hy).shp (by decide), hbx.shp (by decide), ?_⟩
      show if (ntD y).eqv (ntD x) = false then _ else _
      rw [eqv_nt]
      by_cases hq : y = x
      · rw [if_neg (by rw [decide_eq_true hq]; decide)]
        exact h0 (if_pos hq)
      · rw [if_pos (by rw [decide_eq_false hq])]
        exact ⟨hacc, h1 _ (if_neg hq)⟩
    · have e1 : ns.filterMap (fun y => if y = x then none else some (ntD y)) = (ns.filter fun y => decide (y ≠ x)).map ntD := by
        clear q hbl hbd hl hB he hx2
        induction ns with
        | nil => rfl
        | cons y l ih =>
          rw [List.filterMap_cons, List.filter_cons, ih]
          by_cases hq : y = x
          · rw [if_pos hq, if_neg (by simp [hq])]
          · rw [if_neg hq, if_pos (by simp [hq])]
            rfl
      rw [e1]
      exact q
  · rw [if_neg hx2] at q
    rw [if_pos (by rw [decide_eq_false hx2]; rfl)]
    exact ⟨rfl, q⟩
def notO (n : Int) (p : Nat) (L : List (List Int × List Nt)) (row : List Int) (ns : List Nt) (t : Int) (v : NV) (told : List PyData) (R : Oc → Cs → Prop) : Prop :=
  if 0 ≤ t ∧ t < (row.length : Nat) then (match ns.find? (nmN ⟨t.toNat, v⟩) with
    | some y => R (.ex "Noted" "note" (ntD y)) ⟨n, [stO p L row ns told]⟩
    | none => R (.ok (ntD ⟨t.toNat, truV row t.toNat v⟩)) ⟨n, [stO p (L ++ [(row, ns)]) row (insN ⟨t.toNat, truV row t.toNat v⟩ ns) told]⟩)
  else R (.ex "NoTime" "time" (.int t)) ⟨n, [stO p L row ns told]⟩
theorem find_kind (ns : List Nt) (t : Nat) (v w : NV) (h : sortS v = sortS w) : ns.find? (nmN ⟨t, v⟩) = ns.find? (nmN ⟨t, w⟩) := by
  congr 1
  funext y
  unfold nmN
  rw [h]
theorem sort_tru (row : List Int) (t : Nat) (v : NV) : sortS (truV row t v) = sortS v := by cases v <;> rfl
def f_Snote_truthX : FOb := fun c ds R => ∃ n p L row ns told t v, c = ⟨n, [stO p L row ns told]⟩ ∧ ds = [.int t, .str (sortS v)] ∧ Stt p row ns ∧ L.length ≤ 1000 ∧ notO n p L row ns t v told R
theorem ok_S_note_truthX (T : Top wd K mg) (Y : TopX K mg c) (Z : TopS K mg cS) : MetK P wd K mg base 7 cS "note_truth" "Street.note_truth" s_S_note_truth ["self", "time", "sort"] f_Snote_truthX := by
  have sk := Z.sk
  have m_row := ok_S_row (P := P) (base := base) T Z
  have m_journal := ok_S_journal (P := P) (base := base) T Z
  have g_true_value := ok_true_value (P := P) (base := base) T
  have g_with_note := ok_with_noteX (P := P) (base := base) T Y
  have M_NoTime := mk_NoTime (P := P) (wd := wd) (base := base) Y
  refine MetK.make Z.d_note_truth sc_S_note_truth (fun c ds R h => by obtain ⟨_, _, _, _, _, _, _, _, rfl, rfl, _⟩ := h; rfl) (fun f cdv A outer s H G E x c ds R hG hr ht hC h hx => ?_)
  obtain ⟨n, p, L, row, ns, told, t, v, rfl, rfl, hS, hL, q⟩ := h
  refine ⟨_, _, (dss_cons (ds_if (dt_not (dt_chain o_le o_lt (DE.p de_int) (dp_v 1) (DE.p (de_len rfl (by rfl) T.b_len (DE.p (de_meth0 0 m_row sk.cl rfl hC hG (hr.mono (by omega)))))))) (dss_one (ds_raiseO M_NoTime rfl hx (by rfl) (takes_of rfl rfl rfl rfl) (hr.mono (by omega)) (by rfl) (de_v 1))) dss_nil)
      (dss_cons (ds_set 3 sc_S_note_truth.nd (de_tup (da_cons (de_v 1) (da_cons (de_v 2) (da_cons (de_c g_true_value hG (hr.mono (by omega)) (by rfl) (da_cons (de_meth0 0 m_row sk.cl rfl hC hG (hr.mono (by omega))) (da_cons (de_v 1) (da_cons (de_v 2) da_nil)))) da_nil)))))
      (dss_cons (ds_set 4 sc_S_note_truth.nd (dex_deX (by exact (dex_cX g_with_note hG (hr.mono (by omega)) (by rfl) (fun _ _ => by exact (da_cons (de_meth0 0 m_journal sk.cl rfl hC hG (hr.mono (by omega))) (da_cons (de_v 3) da_nil))))) hx (takes_of rfl rfl rfl rfl)))
      (dss_cons (ds_fldApp .states 0 rfl hC sk (de_tup (da_cons (de_meth0 0 m_row sk.cl rfl hC hG (hr.mono (by omega))) (da_cons (de_ix rfl (dp_v 4) (DE.p de_int)) da_nil))))
      (dss_one (ds_ret (de_v 3))))))), ?_⟩
  have h1 := hS.le
  have h2 := hS.pl
  unfold notO at q
  walk_at "s8"
  by_cases hlo : 0 ≤ t
  · rw [if_pos hlo]
    refine ⟨0, p, L, row, ns, told, rfl, rfl, ?_⟩
    walk_at "s8"
    refine ⟨_, rfl, ?_⟩
    by_cases hhi : t < (row.length : Nat)
    · obtain ⟨m, rfl⟩ := Int.eq_ofNat_of_zero_le hlo
      rw [if_pos ⟨hlo, hhi⟩] at q
      simp only [Int.toNat_natCast] at q
      rw [if_neg (by rw [List.length_map]; omega)]
      refine ⟨0, p, L, row, ns, told, rfl, rfl, ?_⟩
      walk_at "s8"
      refine ⟨rowT row, row, p, m, v, rfl, .inl rfl, hS.isr, by omega, by omega, ?_⟩
      walk_at "s8"
      refine ⟨0, p, L, row, ns, told, rfl, rfl, by omega, ?_⟩
      walk_at "s8"
      refine ⟨bkT p row.length ns, p, row.length, ns, ⟨m, truV row m v⟩, by simp only [ntD, sort_tru], hS.bk.1, by have := hS.sn.len; omega, hS.sn.rise, ?_⟩
      rw [find_kind ns m (truV row m v) v (sort_tru row m v)]
      cases hf : ns.find? (nmN ⟨m, v⟩) with
      | some y =>
        rw [hf] at q
        exact q
      | none =>
        rw [hf] at q
        walk_at "s8"
        refine ⟨0, p, L, row, ns, told, rfl, rfl, ?_⟩
        walk_at "s8"
        refine ⟨rfl, _, rfl, noL_nts _, by rw [List.length_map, List.length_append]; simp only [List.length_cons, List.length_nil]; omega, ?_⟩
        rw [mkS_more]
        simp only [ntD, sort_tru] at q ⊢
        exact q
    · rw [if_neg (fun z => hhi z.2)] at q
      rw [if_pos (by rw [List.length_map]; omega)]
      exact q
  · rw [if_neg (fun z => hlo z.1)] at q
    rw [if_neg hlo]
    exact q
def f_Snote_downX : FOb := fun c ds R => ∃ n p L row ns told t v, c = ⟨n, [stO p L row ns told]⟩ ∧ ds = [.int t, .str (sortS v)] ∧ Stt p row ns ∧ L.length ≤ 1000 ∧ told.length ≤ 10000 ∧ notO n p L row ns t v (inO "note_down" told) R
theorem ok_S_note_downX (T : Top wd K mg) (Y : TopX K mg c) (Z : TopS K mg cS) : MetK P wd K mg base 8 cS "note_down" "Street.note_down" s_S_note_down ["self", "time", "sort"] f_Snote_downX := by
  have sk := Z.sk
  have m_note_truth := (ok_S_note_truthX (P := P) (base := base) T Y Z).o
  refine MetK.make Z.d_note_down sc_S_note_down (fun c ds R h => by obtain ⟨_, _, _, _, _, _, _, _, rfl, rfl, _⟩ := h; rfl) (fun f cdv A outer s H G E x c ds R hG hr ht hC h hx => ?_)
  obtain ⟨n, p, L, row, ns, told, t, v, rfl, rfl, hS, hL, hT, q⟩ := h
  refine ⟨_, _, (dss_cons (ds_fldApp .told 0 rfl hC sk (de_tup (da_cons de_str (da_cons de_str da_nil))))
      (dss_one (ds_retFin rfl rfl rfl (takes_of rfl rfl rfl rfl) hx (dex_meth 0 m_note_truth sk.cl rfl hC hG (hr.mono (by omega)) (fun _ _ => (dh_data (da_cons (de_v 1) (da_cons (de_v 2) da_nil))))) (dss_one (ds_fldApp .told 0 rfl hC sk (de_tup (da_cons de_str (da_cons de_str da_nil))))) (fun _ _ => DSs.ps (C := ⟨K, x, H, G⟩) (dss_one (ds_fldApp .told 0 rfl hC sk (de_tup (da_cons de_str (da_cons de_str da_nil))))))))), ?_⟩
  walk_at "s8"
  refine ⟨by omega, 0, p, L, row, ns, _, t, v, rfl, rfl, hS, hL, ?_⟩
  have hT2 : (told ++ [PyData.tuple [.str "in", .str "note_down"]]).length < 100000 := by rw [List.length_append]; simp only [List.length_cons, List.length_nil]; omega
  unfold notO at q ⊢
  split at q
  · rename_i hh
    rw [if_pos hh]
    cases hf : ns.find? (nmN ⟨t.toNat, v⟩) with
    | some y =>
      rw [hf] at q
      walk_at "s8"
      exact ⟨hT2, q⟩
    | none =>
      rw [hf] at q
      walk_at "s8"
      exact ⟨hT2, q⟩
  · rename_i hh
    rw [if_neg hh]
    walk_at "s8"
    exact ⟨hT2, q⟩
def forO (n : Int) (p : Nat) (L : List (List Int × List Nt)) (row : List Int) (ns : List Nt) (x : Nt) (told : List PyData) (R : Oc → Cs → Prop) : Prop :=
  if x ∈ ns then R (.ok (.int (FW List.sum (ns.filter fun y => decide (y ≠ x)) (p - row.length) row.length row.length 0 : Nat))) ⟨n, [stO p (L ++ [(row, ns)]) row (ns.filter fun y => decide (y ≠ x)) told]⟩
  else R (.ex "NoNote" "note" (ntD x)) ⟨n, [stO p L row ns told]⟩
theorem stt_less {p : Nat} {row : List Int} {ns : List Nt} (h : Stt p row ns) (f : Nt → Bool) : Stt p row (ns.filter f) := ⟨h.isr, h.le, h.pl, ⟨fun x hx => h.sn.tru x (List.mem_filter.mp hx).1, h.sn.rise.filter _, by have := h.sn.len; have := List.length_filter_le f ns; omega⟩⟩
def f_SforgetX : FOb := fun c ds R => ∃ n p L row ns told i x, c = ⟨n, [stO p L row ns told]⟩ ∧ ds = [i] ∧ IsNtD i x ∧ NtSm x ∧ Stt p row ns ∧ L.length ≤ 1000 ∧ told.length ≤ 10000 ∧ forO n p L row ns x (inO "forget" told) R
theorem ok_S_forgetX (T : Top wd K mg) (Y : TopX K mg c) (Z : TopS K mg cS) : MetK P wd K mg base 12 cS "forget" "Street.forget" s_S_forget ["self", "note"] f_SforgetX := by
  have sk := Z.sk
  have m_row := ok_S_row (P := P) (base := base) T Z
  have m_journal := ok_S_journal (P := P) (base := base) T Z
  have g_without_note := ok_without_noteX (P := P) (base := base) T Y
  have g_count_orders := ok_count_orders (P := P) (base := base) T
  refine MetK.make Z.d_forget sc_S_forget (fun c ds R h => by obtain ⟨_, _, _, _, _, _, _, _, rfl, rfl, _⟩ := h; rfl) (fun f cdv A outer s H G E x c ds R hG hr ht hC h hx => ?_)
  obtain ⟨n, p, L, row, ns, told, i, nt, rfl, rfl, hi, hsm, hS, hL, hT, q⟩ := h
  refine ⟨_, _, (dss_cons (ds_fldApp .told 0 rfl hC sk (de_tup (da_cons de_str (da_cons de_str da_nil))))
      (dss_one (ds_retFin3X rfl rfl rfl (takes_of rfl rfl rfl rfl) hx (dss_one (ds_fldApp .told 0 rfl hC sk (de_tup (da_cons de_str (da_cons de_str da_nil))))) (fun pn xe tk xw => by exact (ds_set 2 sc_S_forget.nd (dex_deW (by exact (dex_cX g_without_note hG (hr.mono (by omega)) (by rfl) (fun _ _ => by exact (da_cons (de_meth0 0 m_journal sk.cl rfl hC hG (hr.mono (by omega))) (da_cons (de_v 1) da_nil))))) xw tk))) (fun pn xe tk xw => by exact (ds_fldApp .states 0 rfl hC sk (de_tup (da_cons (de_meth0 0 m_row sk.cl rfl hC hG (hr.mono (by omega))) (da_cons (de_ix rfl (dp_v 2) (DE.p de_int)) da_nil))))) (fun pn xe tk => by exact (de_c g_count_orders hG (hr.mono (by omega)) (by rfl) (da_cons (de_v 2) da_nil))) (fun _ _ => DSs.ps (C := ⟨K, x, H, G⟩) (dss_one (ds_fldApp .told 0 rfl hC sk (de_tup (da_cons de_str (da_cons de_str da_nil))))))))), ?_⟩
  have h1 := hS.le
  have h2 := hS.pl
  have hT2 : (told ++ [PyData.tuple [.str "in", .str "forget"]]).length < 100000 := by rw [List.length_append]; simp only [List.length_cons, List.length_nil]; omega
  unfold forO at q
  walk_at "s8"
  refine ⟨by omega, 0, p, L, row, ns, _, rfl, rfl, by omega, ?_⟩
  walk_at "s8"
  refine ⟨bkT p row.length ns, i, p, row.length, ns, nt, rfl, hi, hS.bk.1, hS.small, hsm, ?_⟩
  by_cases hm : nt ∈ ns
  · rw [if_pos hm] at q ⊢
    have hS2 := stt_less hS fun y => decide (y ≠ nt)
    walk_at "s8"
    refine ⟨0, p, L, row, ns, _, rfl, rfl, ?_⟩
    walk_at "s8"
    refine ⟨rfl, _, rfl, noL_nts _, by rw [List.length_map, List.length_append]; simp only [List.length_cons, List.length_nil]; omega, ?_⟩
    rw [mkS_more]
    refine ⟨_, p, row.length, ns.filter fun y => decide (y ≠ nt), rfl, hS2.bk, ?_⟩
    walk_at "s8"
    exact ⟨hT2, q⟩
  · rw [if_neg hm] at q ⊢
    walk_at "s8"
    exact ⟨hT2, q⟩
def f_SturnX : FOb := fun c ds R => ∃ n p L row ns told, c = ⟨n, [stO p L row ns told]⟩ ∧ ds = [] ∧ row.length ≤ 900 ∧ L.length ≤ 1000 ∧ told.length ≤ 10000 ∧ R (.ok .none) ⟨n, [stO p (L ++ [(row, ns)]) (mirR (p : Nat) row) ns (inO "turn" told)]⟩
theorem ok_S_turnX (T : Top wd K mg) (Z : TopS K mg cS) : MetK P wd K mg base 3 cS "turn" "Street.turn" s_S_turn ["self"] f_SturnX := by
  have sk := Z.sk
  have m_row := ok_S_row (P := P) (base := base) T Z
  have m_notes := ok_S_notes (P := P) (base := base) T Z
  have g_mirrored := ok_mirrored (P := P) (base := base) T
  refine MetK.make Z.d_turn sc_S_turn (fun c ds R h => by obtain ⟨_, _, _, _, _, _, rfl, rfl, _⟩ := h; rfl) (fun f cdv A outer s H G E x c ds R hG hr ht hC h hx => ?_)
  obtain ⟨n, p, L, row, ns, told, rfl, rfl, hrl, hL, hT, q⟩ := h
  refine ⟨_, _, (dss_cons (ds_fldApp .told 0 rfl hC sk (de_tup (da_cons de_str (da_cons de_str da_nil))))
      (dss_cons (ds_fldApp .states 0 rfl hC sk (de_tup (da_cons (de_c g_mirrored hG (hr.mono (by omega)) (by rfl) (da_cons (de_plots 0 rfl hC sk) (da_cons (de_meth0 0 m_row sk.cl rfl hC hG (hr.mono (by omega))) da_nil))) (da_cons (de_meth0 0 m_notes sk.cl rfl hC hG (hr.mono (by omega))) da_nil))))
      (dss_one (ds_fldApp .told 0 rfl hC sk (de_tup (da_cons de_str (da_cons de_str da_nil))))))), ?_⟩
  have hT2 : (told ++ [PyData.tuple [.str "in", .str "turn"]]).length < 100000 := by rw [List.length_append]; simp only [List.length_cons, List.length_nil]; omega
  walk_at "s8"
  refine ⟨by omega, 0, p, L, row, ns, _, rfl, rfl, ?_⟩
  walk_at "s8"
  refine ⟨(p : Int), row, rfl, hrl, ?_⟩
  walk_at "s8"
  refine ⟨0, p, L, row, ns, _, rfl, rfl, ?_⟩
  walk_at "s8"
  have e1 : PyData.tuple ((row.map fun x => (p : Int) - 1 - x).map .int) = rowT (mirR (p : Nat) row) := rfl
  refine ⟨by rw [List.length_map, List.length_append]; simp only [List.length_cons, List.length_nil]; omega, ?_⟩
  rw [e1, mkS_more]
  exact ⟨hT2, q⟩
def f_Sops : FOb := fun c ds R => ∃ n p L row ns told, c = ⟨n, [stO p L row ns told]⟩ ∧ ds = [] ∧ R (.ok (.int (L.length : Nat))) c
theorem ok_S_operations (T : Top wd K mg) (Z : TopS K mg cS) : MetK P wd K mg base 1 cS "operations" "Street.operations" s_S_operations ["self"] f_Sops := by
  have sk := Z.sk
  refine MetK.make Z.d_operations sc_S_operations (fun c ds R h => by obtain ⟨_, _, _, _, _, _, rfl, rfl, _⟩ := h; rfl) (fun f cdv A outer s H G E x c ds R hG hr ht hC h hx => ?_)
  obtain ⟨n, p, L, row, ns, told, rfl, rfl, q⟩ := h
  refine ⟨_, _, (dss_one (ds_ret (de_bin o_sub (DE.p (de_fldLen .states 0 rfl hC sk (by rfl) T.b_len)) (DE.p de_int)))), ?_⟩
  walk_at "s8"
  rw [List.length_map, List.length_append, show (((L.length + [(row, ns)].length : Nat) : Int) - 1) = (L.length : Nat) by simp only [List.length_cons, List.length_nil]; omega]
  exact q
/-- what is taken back -/
def undO (n : Int) (p : Nat) (L : List (List Int × List Nt)) (row : List Int) (ns : List Nt) (told : List PyData) (R : Oc → Cs → Prop) : Prop := match L.getLast? with
  | none => R (.ok (.bool false)) ⟨n, [stO p L row ns told]⟩
  | some q => R (.ok (.bool true)) ⟨n, [stO p L.dropLast q.1 q.2 told]⟩
def f_Sundo : FOb := fun c ds R => ∃ n p L row ns told, c = ⟨n, [stO p L row ns told]⟩ ∧ ds = [] ∧ told.length ≤ 10000 ∧ undO n p L row ns (inO "undo" told) R
theorem ok_S_undo (T : Top wd K mg) (Z : TopS K mg cS) : MetK P wd K mg base 2 cS "undo" "Street.undo" s_S_undo ["self"] f_Sundo := by
  have sk := Z.sk
  have m_operations := (ok_S_operations (P := P) (base := base) T Z).o
  refine MetK.make Z.d_undo sc_S_undo (fun c ds R h => by obtain ⟨_, _, _, _, _, _, rfl, rfl, _⟩ := h; rfl) (fun f cdv A outer s H G E x c ds R hG hr ht hC h hx => ?_)
  obtain ⟨n, p, L, row, ns, told, rfl, rfl, hT, q⟩ := h
  refine ⟨_, _, (dss_cons (ds_fldApp .told 0 rfl hC sk (de_tup (da_cons de_str (da_cons de_str da_nil))))
      (dss_cons (ds_set 1 sc_S_undo.nd (de_cmp o_gt (DE.p (de_meth0 0 m_operations sk.cl rfl hC hG (hr.mono (by omega)))) (DE.p de_int)))
      (dss_cons (ds_if (dt_tru rfl (dp_v 1)) (dss_one (ds_fldPop .states 0 rfl hC sk)) dss_nil)
      (dss_cons (ds_fldApp .told 0 rfl hC sk (de_tup (da_cons de_str (da_cons de_str da_nil))))
      (dss_one (ds_ret (de_v 1))))))), ?_⟩
  have hT2 : (told ++ [PyData.tuple [.str "in", .str "undo"]]).length < 100000 := by rw [List.length_append]; simp only [List.length_cons, List.length_nil]; omega
  walk_at "s8"
  refine ⟨by omega, 0, p, L, row, ns, _, rfl, rfl, ?_⟩
  walk_at "s8"
  unfold undO at q
  rcases List.eq_nil_or_concat L with rfl | ⟨M, z, rfl⟩
  · rw [if_neg (by decide)]
    exact ⟨hT2, q⟩
  · rw [List.concat_eq_append] at q ⊢
    rw [List.getLast?_concat, List.dropLast_concat] at q
    rw [if_pos (by simp only [List.length_append, List.length_cons, List.length_nil]; omega)]
    have e1 : ∀ t2, (mkS p (M ++ [z] ++ [(row, ns)]) t2).put .states ((M ++ [z] ++ [(row, ns)]).map stD).dropLast = mkS p (M ++ [z]) t2 := fun t2 => by
      rw [List.map_append (l₁ := M ++ [z]), show ([(row, ns)] : List (List Int × List Nt)).map stD = [stD (row, ns)] from rfl, List.dropLast_concat]
      rfl
    refine ⟨by simp, ?_⟩
    rw [e1, decide_eq_true (by simp only [List.length_append, List.length_cons, List.length_nil]; omega)]
    exact ⟨hT2, q⟩
theorem cutD_take (ds : List PyData) {k : Int} (h : 0 ≤ k) : Dw.cutD ds none (some (k + 1)) = ds.take (k.toNat + 1) := by
  obtain ⟨m, rfl⟩ := Int.eq_ofNat_of_zero_le h
  unfold Dw.cutD
  rw [show ((m : Int) + 1) = ((m + 1 : Nat) : Int) by omega, HT.sIx_nat, HT.sIx_none, List.drop_zero, Nat.sub_zero, Int.toNat_natCast]
  by_cases hh : m + 1 ≤ ds.length
  · rw [Nat.min_eq_left hh]
  · rw [Nat.min_eq_right (by omega), List.take_of_length_le (Nat.le_refl _), List.take_of_length_le (by omega)]
def asO (n : Int) (p : Nat) (L : List (List Int × List Nt)) (told : List PyData) (k : Int) (R : Sd → Cs → Prop) (RX : Str → Str → PyData → Cs → Prop) : Prop :=
  if 0 ≤ k ∧ k < (L.length : Nat) then R (mkS p (L.take (k.toNat + 1)) []) ⟨n, [.st (mkS p L told)]⟩ else RX "NoOperation" "many" (.int k) ⟨n, [.st (mkS p L told)]⟩
def f_Sas_of : FNw := fun c ds R RX => ∃ n p L row ns told k, c = ⟨n, [stO p L row ns told]⟩ ∧ ds = [.int k] ∧ asO n p (L ++ [(row, ns)]) told k R RX
theorem ok_S_as_of (T : Top wd K mg) (Y : TopX K mg c) (Z : TopS K mg cS) : MetN P wd K mg base 4 cS "as_of" "Street.as_of" s_S_as_of ["self", "many"] f_Sas_of := by
  have sk := Z.sk
  have m_operations := (ok_S_operations (P := P) (base := base) T Z).o
  have M_NoOperation := mk_NoOperation (P := P) (wd := wd) (base := base) Y
  refine MetN.make Z.d_as_of sc_S_as_of (fun c ds R RX h => by obtain ⟨_, _, _, _, _, _, _, rfl, rfl, _⟩ := h; rfl) (fun f cdv A outer s H G Q E x c ds R RX hG hr ht hC h hx => ?_)
  obtain ⟨n, p, L, row, ns, told, k, rfl, rfl, q⟩ := h
  obtain ⟨fI, fd, mk, F, b⟩ := (mk_S (P := P) (wd := wd) (mg := mg) (base := base) Z).ex
  obtain ⟨t0, w0, D, hw⟩ : ∃ t w, DS (cxOf (L2.CX P wd) P wd K mg base ["self", "many", "other"] "Street.as_of" (defScope s_S_as_of) f cdv A outer s H E) ⟨K, x, H, G⟩ ((defBody s_S_as_of).getD 0 (.Pass ⟨0, 0, 0, 0⟩)) t w ∧
      w { nx := fun s => s = ⟨[some (.ob 0), some (.d (.int k)), none], ⟨n, [stO p L row ns told]⟩⟩ ∧ 0 ≤ k ∧ k < ((L ++ [(row, ns)]).length : Nat), rt := fun _ _ => False } ⟨[some (.ob 0), some (.d (.int k)), none], ⟨n, [stO p L row ns told]⟩⟩ := by
    refine ⟨_, _, (ds_if (dt_not (dt_chain o_le o_le (DE.p de_int) (dp_v 1) (DE.p (de_meth0 0 m_operations sk.cl rfl hC hG (hr.mono (by omega)))))) (dss_one (ds_raiseO M_NoOperation rfl hx (by rfl) (takes_of rfl rfl rfl rfl) (hr.mono (by omega)) (by rfl) (de_v 1))) dss_nil), ?_⟩
    unfold asO at q
    walk_at "s8"
    by_cases hlo : 0 ≤ k
    · rw [if_pos hlo]
      refine ⟨0, p, L, row, ns, told, rfl, rfl, ?_⟩
      walk_at "s8"
      by_cases hhi : k < ((L ++ [(row, ns)]).length : Nat)
      · rw [if_neg (by rw [List.length_append] at hhi; simp only [List.length_cons, List.length_nil] at hhi; omega)]
        exact ⟨hlo, by first | exact hhi | (rw [List.length_append] at hhi; simp only [List.length_cons, List.length_nil] at hhi; omega)⟩
      · rw [if_neg (fun z => hhi z.2)] at q
        rw [if_pos (by rw [List.length_append] at hhi; simp only [List.length_cons, List.length_nil] at hhi; omega)]
        exact q
    · rw [if_neg (fun z => hlo z.1)] at q
      rw [if_neg hlo]
      exact q
  refine ⟨tSeq t0 (tAs K cS), pss_cons D.ps (pss_cons (ps_set (i := 2) sc_S_as_of.nd rfl (.inl rfl) (pe_make mk F (hr.mono (by omega)) (by rfl) Z.here b .nil pass0 (pa_cons (pe_fld (pv 0) (by rfl)) pa_nil))) (pss_cons (L2.ps_fld (pv 2) (pe_slice sl_list (pe_fld (pv 0) (by rfl)) po_none (po_some (pe_op (o_add (C := ⟨K, x, H, G⟩)).op (pv 1) pe_int))) (by rfl)) (pss_one (ps_ret (pv 2))))), fun σ r kk => ?_⟩
  refine D.is G σ H _ _ _ r hw ⟨fun σ' H' s' G' hn r' eg => ?_, fun _ _ _ _ z => z.elim, fun _ _ _ _ z => z.elim, fun _ _ _ _ _ z => z.elim⟩
  obtain ⟨rfl, hlo, hhi⟩ := hn
  refine as_run sk r' hC rfl rfl rfl (by show 2 < 3; decide) fun o G2 H2 nw => ?_
  unfold asO at q
  rw [if_pos ⟨hlo, hhi⟩] at q
  refine kk o _ _ σ' G' H' G2 H2 _ q r' eg ?_
  have e1 : Dw.cutD (mkS p (L ++ [(row, ns)]) told).states none (some (k + 1)) = ((L ++ [(row, ns)]).take (k.toNat + 1)).map stD := by
    rw [cutD_take _ hlo, List.map_take]
    rfl
  rw [e1] at nw
  exact nw
def reprS (k p g : Int) : Str := Str.empty ++ "Street(" ++ toString k ++ " of " ++ toString p ++ " plots, " ++ toString g ++ " groups)"
theorem len_dig {i : Int} (h : i.natAbs ≤ 1000) : (Str.ofString (toString i)).length ≤ 400 := by
  have h2 := int_text_length_le10 (k := 31) (by decide) (a := i) (by omega)
  rw [PySem.ofString_length]
  omega
theorem big {m : Nat} (hm : m ≤ 1000) : ((m : Nat) : Int).natAbs < 2 ^ 1000 := by
  have h : ((m : Nat) : Int).natAbs < 2 ^ 10 := by omega
  exact Nat.lt_of_lt_of_le h (Nat.pow_le_pow_right (by decide) (by decide))
def f_Srepr : FOb := fun c ds R => ∃ n p L row ns told, c = ⟨n, [stO p L row ns told]⟩ ∧ ds = [] ∧ Stt p row ns ∧ R (.ok (.str (reprS (row.length : Nat) (p : Nat) ((segs row).length : Nat)))) c
theorem ok_S_repr (T : Top wd K mg) (Z : TopS K mg cS) : MetK P wd K mg base 4 cS "__repr__" "Street.__repr__" s_S___repr__ ["self"] f_Srepr := by
  have sk := Z.sk
  have m_row := ok_S_row (P := P) (base := base) T Z
  have m_groups := ok_S_groups (P := P) (base := base) T Z
  refine MetK.make Z.d___repr__ sc_S___repr__ (fun c ds R h => by obtain ⟨_, _, _, _, _, _, rfl, rfl, _⟩ := h; rfl) (fun f cdv A outer s H G E x c ds R hG hr ht hC h hx => ?_)
  obtain ⟨n, p, L, row, ns, told, rfl, rfl, hS, q⟩ := h
  refine ⟨_, _, (dss_one (ds_ret (de_joined (dj_cons de_str (dj_cons (de_fmt (de_len rfl (by rfl) T.b_len (DE.p (de_meth0 0 m_row sk.cl rfl hC hG (hr.mono (by omega)))))) (dj_cons de_str (dj_cons (de_fmt (de_plots 0 rfl hC sk)) (dj_cons de_str (dj_cons (de_fmt (de_meth0 0 m_groups sk.cl rfl hC hG (hr.mono (by omega)))) (dj_cons de_str dj_nil)))))))))), ?_⟩
  have h1 := hS.le
  have h2 := hS.pl
  have z1 := len_dig (i := (row.length : Nat)) (by omega)
  have z2 := len_dig (i := (p : Nat)) (by omega)
  have hg := segs_len row
  have z3 := len_dig (i := ((segs row).length : Nat)) (by omega)
  have a1 : (Str.ofString "Street(").length = 7 := by decide +kernel
  have a2 : (Str.ofString " of ").length = 4 := by decide +kernel
  have a3 : (Str.ofString " plots, ").length = 8 := by decide +kernel
  have a4 : (Str.ofString " groups)").length = 8 := by decide +kernel
  have a0 : Str.empty.length = 0 := by decide +kernel
  walk_at "s8"
  refine ⟨by rw [PySem.Str.length_append]; omega, 0, p, L, row, ns, told, rfl, rfl, ?_⟩
  walk_at "s8"
  have l1 : (Str.empty ++ Str.ofString "Street(" ++ Str.ofString (toString ((row.length : Nat) : Int))).length ≤ 407 := by
    rw [PySem.Str.length_append, PySem.Str.length_append]
    omega
  have l2 : (Str.empty ++ Str.ofString "Street(" ++ Str.ofString (toString ((row.length : Nat) : Int)) ++ Str.ofString " of ").length ≤ 411 := by
    rw [PySem.Str.length_append]
    omega
  have l3 : (Str.empty ++ Str.ofString "Street(" ++ Str.ofString (toString ((row.length : Nat) : Int)) ++ Str.ofString " of " ++ Str.ofString (toString ((p : Nat) : Int))).length ≤ 811 := by
    rw [PySem.Str.length_append]
    omega
  have l4 : (Str.empty ++ Str.ofString "Street(" ++ Str.ofString (toString ((row.length : Nat) : Int)) ++ Str.ofString " of " ++ Str.ofString (toString ((p : Nat) : Int)) ++ Str.ofString " plots, ").length ≤ 819 := by
    rw [PySem.Str.length_append]
    omega
  have l5 : (Str.empty ++ Str.ofString "Street(" ++ Str.ofString (toString ((row.length : Nat) : Int)) ++ Str.ofString " of " ++ Str.ofString (toString ((p : Nat) : Int)) ++ Str.ofString " plots, " ++ Str.ofString (toString (((segs row).length : Nat) : Int))).length ≤ 1219 := by
    rw [PySem.Str.length_append]
    omega
  have l6 : (Str.empty ++ Str.ofString "Street(" ++ Str.ofString (toString ((row.length : Nat) : Int)) ++ Str.ofString " of " ++ Str.ofString (toString ((p : Nat) : Int)) ++ Str.ofString " plots, " ++ Str.ofString (toString (((segs row).length : Nat) : Int)) ++ Str.ofString " groups)").length ≤ 1227 := by
    rw [PySem.Str.length_append]
    omega
  refine ⟨row.length, by show some (row.map PyData.int).length = _; rw [List.length_map], big (Nat.le_trans h1 (Nat.le_trans h2 (by decide))), Nat.le_trans l1 (by decide), Nat.le_trans l2 (by decide), big (Nat.le_trans h2 (by decide)), Nat.le_trans l3 (by decide), Nat.le_trans l4 (by decide), 0, p, L, row, ns, told, rfl, rfl, hS, ?_⟩
  walk_at "s8"
  exact ⟨big (Nat.le_trans hg (Nat.le_trans h1 (Nat.le_trans h2 (by decide)))), Nat.le_trans l5 (by decide), Nat.le_trans l6 (by decide), q⟩
end
local macro_rules | `(tactic| walk_at "s9") => `(tactic| simp only [wPubO, wC, wV, wPub, wP, wCons, wTup, wLst, wL, w2, wTest, wChain, wAnd, wOr, Dw.wNot, wAndV, wOrV, wNotV, wIf, Dw.wTru, truD, gI0, gI, gEq, gNe, gIn, gIsN, gNotN, gIsB, gNotB, gCatT, gCatS, gIx, wCat, wRep, w1, w1O, gLen, gTupleOf, gListOf, wRg1, gInt, gStr, w2a, wSlT, wSlL, wSlS, wRevT, wNeg, wCall, wCallB, wName, wGNil_n, wGCons_c, wGTup, wSeq, wRng1, wEnum, wZip, wNext, wSq, wRet, wIfS, wDrop, wAsg, wOwn, wAug, wMeth, fAppend, wFor_eq, wWhile_eq, wipeD, wLc_eq, Dw.wNm, wPar, wGix, wDix, wCatP, wPopTo, fPop, fPopAt, fIns, wSetIx, gRepr, gMinT, gNeS, gRepN, wDGet2, wKGet, wLIdx, wDPGet, wKAug, wDcK, wDPut, wTPut, wTGet, gSrtR, gSrtA, gLtP, wSlB, wStar, wRaise, wNmX, wXat, wXis, gEqS, wYd, wYdic, wYfn, wYg, wCallD, wCallV, wSetN, wDcT, wTGet2, wTGet1, dicAt, wRng2, wRg2, wRngD, wRevR, gRevL, wAugM, gLenSetL, wAppPop, gSrtSet, wIsi, wNotT, wAugIx, wPeekO, wPick2, wExt, fRem, look_d, look_own, shpI, shpB, shpN, shpS, seqT, seqL, itsT, itsL, lenT, lenL, okFF, eqv_str, eqv_int, eqv_bool, isNone, perm, Dt.set, Dt.sets, env0, List.map_cons, List.map_nil, List.cons_append, List.nil_append, List.getElem?_cons_zero, List.getElem?_cons_succ, List.set_cons_succ, List.set_cons_zero, List.filterMap_cons, List.filterMap_nil, Option.some.injEq, DV.d.injEq, DV.own.injEq, DV.dit.injEq, DV.dd.injEq, DV.oth.injEq, reduceCtorEq, false_or, or_false, false_and, and_false, exists_false, PyData.int.injEq, PyData.bool.injEq, PyData.str.injEq, PyData.tuple.injEq, PyData.list.injEq, List.cons.injEq, exists_eq_left, exists_eq_left', exists_eq_right, exists_eq_right', exists_and_left, exists_eq', exists_eq, and_true, true_and, and_self, and_assoc, List.length_cons, List.length_nil, List.replicate, Nat.reduceAdd, Nat.reduceSub, Nat.reduceLeDiff, Nat.zero_le, decide_eq_true_eq, Bool.not_eq_true', decide_eq_false_iff_not, ite_true, ite_false, if_true, if_false, Bool.false_eq_true, Bool.true_eq_false, eq_self, List.reduceReplicate, Bool.not_true, Bool.not_false, reduceIte])
theorem canI : ∀ l : List Int, PyData.canLayAll0 (l.map .int) = true
  | [] => rfl
  | _ :: l => by simp only [List.map_cons, PyData.canLayAll0, PyData.canLay0, canI l, Bool.and_self]
theorem perm_pop : ∀ {l : List Int} {n : Nat} {z : Int}, l[n]? = some z → ([z] ++ l.eraseIdx n).Perm l
  | [], _, _, h => by simp at h
  | a :: l, 0, z, h => by
    have : a = z := Option.some.inj h
    subst this
    exact .refl _
  | a :: l, n + 1, z, h => by
    have h : l[n]? = some z := h
    exact (List.Perm.swap a z (l.eraseIdx n)).trans ((perm_pop h).cons a)
theorem map_erase {α β : Type} (f : α → β) : ∀ (l : List α) (n : Nat), (l.eraseIdx n).map f = (l.map f).eraseIdx n
  | [], _ => rfl
  | _ :: _, 0 => rfl
  | a :: l, n + 1 => by
    show f a :: (l.eraseIdx n).map f = f a :: (l.map f).eraseIdx n
    rw [map_erase f l n]
section
variable {P : Program} {wd : World} {K : PySem.W.Frag} {mg : Str → Option Value} {base : Heap} {c : Nat → Addr} {cS : Addr}
def f_strewn : FB := fun ds c R => ∃ (d : PyData) (xs : List Int), ds = [d] ∧ seqd d = true ∧ its d = xs.map .int ∧ xs.length ≤ 100 ∧ c ≤ 900000 ∧ ∀ (ys : List Int) c', ys.Perm xs → c' ≤ c + xs.length → R (.list (ys.map .int)) c'
theorem ok_l_strewn (T : Top wd K mg) : Def P wd K mg base 2 "_law_strewn" s_l_strewn ["_law_box_here", "_law_some"] (spB K f_strewn) := by
  have g_l_take := ok_l_take (P := P) (base := base) T
  refine Def.draws T.d_l_strewn sc_l_strewn (fun ds c R h => by obtain ⟨_, _, rfl, _⟩ := h; rfl) (fun f cdv A outer s H G l E ds c0 R hG hr h => ?_)
  obtain ⟨d, xs, rfl, hs, hi, hl, hc, q⟩ := h
  refine ⟨_, _, (dss_cons (ds_par2 2 3 (by rfl) sc_l_strewn.nd (dx_cons (DO.dx (do_listOf rfl (by rfl) T.b_list (dp_v 1))) (dx_cons (DO.dx (do_lst da_nil)) dx_nil)))
      (dss_cons (ds_while PassesOwn.never (dt_cmp (o_ne rfl hr.units) (dp_v 2) (DE.p (DO.d (do_lst da_nil))))
        (dss_one (ds_appPop 3 2 rfl (de_cB 0 g_l_take hG (hr.mono (by omega)) (by rfl) (da_cons (de_len rfl (by rfl) T.b_len (dp_v 2)) da_nil)))))
      (dss_one (ds_ret (de_pub 3))))), ?_⟩
  walk_at "s9"
  refine ⟨hs, ?_⟩
  rw [hi]
  refine whileD_by (m := xs.length) (fun m s2 => ∃ ls fs : List Int, ∃ c2, s2 = ⟨[some .box, some (.d d), some (.own (ls.map .int)), some (.own (fs.map .int))], c2, []⟩ ∧ ls.length = m ∧ (fs ++ ls).Perm xs ∧ c2 ≤ c0 + fs.length) ⟨xs, [], c0, rfl, rfl, .refl _, by simp⟩ (fun m s2 J inv hJ => ?_)
  obtain ⟨ls, fs, c2, rfl, hm, hp, hc2⟩ := inv
  have hlen := hp.length_eq
  rw [List.length_append] at hlen
  walk_at "s9"
  have hne : (PyData.list (ls.map .int)).eqv (.list []) = ls.isEmpty := by cases ls <;> rfl
  rw [hne]
  have hshp : Shp (.list (ls.map PyData.int)) := by
    refine Bool.and_eq_true_iff.mpr ⟨?_, decide_eq_true ?_⟩
    · simp only [PyData.canLay0]
      exact canI ls
    · simp only [PyData.depth, PySem.W.depth_ints]
      omega
  refine ⟨hshp, rfl, ?_⟩
  cases ls with
  | nil =>
    rw [if_neg (by decide)]
    rw [List.append_nil] at hp
    exact q fs c2 hp (by rw [← hp.length_eq]; exact hc2)
  | cons a ls =>
    rw [if_pos (show (a :: ls).isEmpty = false from rfl)]
    refine ⟨(a :: ls).length, by simp only [List.length_map, List.map_cons, List.length_cons], by simp only [List.length_cons]; omega, by simp only [List.length_cons] at hlen ⊢; omega, by omega, fun r c3 r0 r1 hc3 => ?_⟩
    have hc3 : c3 ≤ c2 + 1 := hc3
    obtain ⟨r, rfl⟩ : ∃ z : Nat, r = z := ⟨r.toNat, by omega⟩
    have hr : r < (a :: ls).length := by omega
    have hz : (a :: ls)[r]? = some (a :: ls)[r] := List.getElem?_eq_getElem hr
    generalize (a :: ls)[r] = z at hz
    have hpm := perm_pop hz
    refine ⟨r, rfl, .int z, by rw [List.getElem?_map, hz]; rfl, by simp only [List.length_cons] at hr hlen; omega, by rw [List.length_map]; omega, ?_⟩
    refine hJ ((a :: ls).eraseIdx r).length _ (by rw [List.length_eraseIdx_of_lt hr]; omega) ⟨(a :: ls).eraseIdx r, fs ++ [z], c3, ?_, rfl, ?_, by rw [List.length_append]; simp only [List.length_cons, List.length_nil]; omega⟩
    · rw [List.map_append, map_erase]
      rfl
    · rw [List.append_assoc]
      exact ((List.Perm.refl fs).append hpm).trans hp
end
local macro_rules | `(tactic| walk_at "s10") => `(tactic| simp only [wTryN, wTySet, wTyIf, wTySq, wTyExpr, wYxc, wMK, wMN, wMNK, wTm, CallT, wNeO, wEqT, wReprO, wJ, wFmt, wJoined, wMkK, gSumT, wPlots, wFldIx, wFldLen, wFldList, wFldApp, wFldPop, wNX, wMX, wHOb, wHBox, wCO, CallsO, wRetFin, wRetFin3, wRaiseO, wCX, wNewO, wMk, wLenO, wIsiO, wEqO, hdO_1, hdO_2, hdO_b0, hdO_b1, hdO_b2, selV_nil, sel0, sel1, sel2, sel01, sel10, put0, put1, put2, put01, put10, putN, tk0, tk1, tk2, nd1, nd01, nd10, ndN, DEnds.low, Dt.low, low_box, low_d, low_own, low_none, low_ob, initS, sd_states, sd_told, sd_put1, sd_put2, noL_int, noL_str, noL_tup, noLA_cons, noLA_nil, noLA_ints, L2.atI_last, DV.ob.injEq, Ov.st.injEq, Bool.and_true, Bool.true_and, wPubO, wC, wV, wPub, wP, wCons, wTup, wLst, wL, w2, wTest, wChain, wAnd, wOr, Dw.wNot, wAndV, wOrV, wNotV, wIf, Dw.wTru, truD, gI0, gI, gEq, gNe, gIn, gIsN, gNotN, gIsB, gNotB, gCatT, gCatS, gIx, wCat, wRep, w1, w1O, gLen, gTupleOf, gListOf, wRg1, gInt, gStr, w2a, wSlT, wSlL, wSlS, wRevT, wNeg, wCall, wCallB, wName, wGNil_n, wGCons_c, wGTup, wSeq, wRng1, wEnum, wZip, wNext, wSq, wRet, wIfS, wDrop, wAsg, wOwn, wAug, wMeth, fAppend, wFor_eq, wWhile_eq, wipeD, wLc_eq, Dw.wNm, wPar, wGix, wDix, wCatP, wPopTo, fPop, fPopAt, fIns, wSetIx, gRepr, gMinT, gNeS, gRepN, wDGet2, wKGet, wLIdx, wDPGet, wKAug, wDcK, wDPut, wTPut, wTGet, gSrtR, gSrtA, gLtP, wSlB, wStar, wRaise, wNmX, wXat, wXis, gEqS, wYd, wYdic, wYfn, wYg, wCallD, wCallV, wSetN, wDcT, wTGet2, wTGet1, dicAt, wRng2, wRg2, wRngD, wRevR, gRevL, wAugM, gLenSetL, wAppPop, gSrtSet, wIsi, wNotT, wAugIx, wPeekO, wPick2, wExt, fRem, look_d, look_own, shpI, shpB, shpN, shpS, seqT, seqL, itsT, itsL, lenT, lenL, okFF, eqv_str, eqv_int, eqv_bool, isNone, perm, Dt.set, Dt.sets, env0, List.map_cons, List.map_nil, List.cons_append, List.nil_append, List.getElem?_cons_zero, List.getElem?_cons_succ, List.set_cons_succ, List.set_cons_zero, List.filterMap_cons, List.filterMap_nil, Option.some.injEq, DV.d.injEq, DV.own.injEq, DV.dit.injEq, DV.dd.injEq, DV.oth.injEq, reduceCtorEq, false_or, or_false, false_and, and_false, exists_false, PyData.int.injEq, PyData.bool.injEq, PyData.str.injEq, PyData.tuple.injEq, PyData.list.injEq, List.cons.injEq, exists_eq_left, exists_eq_left', exists_eq_right, exists_eq_right', exists_and_left, exists_eq', exists_eq, and_true, true_and, and_self, and_assoc, List.length_cons, List.length_nil, List.replicate, Nat.reduceAdd, Nat.reduceSub, Nat.reduceLeDiff, Nat.zero_le, decide_eq_true_eq, Bool.not_eq_true', decide_eq_false_iff_not, ite_true, ite_false, if_true, if_false, Bool.false_eq_true, Bool.true_eq_false, eq_self, List.reduceReplicate, Bool.not_true, Bool.not_false, reduceIte])
/-- everything that a street tells -/
def tellD (p : Nat) (L : List (List Int × List Nt)) (row : List Int) (ns : List Nt) : PyData := .list [rowT row, .int ((segs row).length : Nat), bkT p row.length ns, .int (FW List.sum ns (p - row.length) row.length row.length 0 : Nat),
  .list (((List.range p).filter fun (i : Nat) => decide ((i : Int) ∉ row)).map fun (i : Nat) => .int (i : Int)), .int (L.length : Nat), .int (row.length : Nat), .str (reprS (row.length : Nat) (p : Nat) ((segs row).length : Nat))]
section
variable {P : Program} {wd : World} {K : PySem.W.Frag} {mg : Str → Option Value} {base : Heap} {c : Nat → Addr} {cS : Addr}
def f_seen_of : FOb := fun c ds R => ∃ n p L row ns told, c = ⟨n, [stO p L row ns told]⟩ ∧ ds = [] ∧ Stt p row ns ∧ R (.ok (tellD p L row ns)) c
theorem ok_l_seen_of (T : Top wd K mg) (Z : TopS K mg cS) : DefO P wd K mg base 10 "_law_seen_of" s_l_seen_of ["_law_hall"] cS false f_seen_of := by
  have sk := Z.sk
  have m_row := ok_S_row (P := P) (base := base) T Z
  have m_groups := ok_S_groups (P := P) (base := base) T Z
  have m_journal := ok_S_journal (P := P) (base := base) T Z
  have m_count := ok_S_count (P := P) (base := base) T Z
  have m_empty := ok_S_empty (P := P) (base := base) T Z
  have m_operations := (ok_S_operations (P := P) (base := base) T Z).o
  have m___len__ := ok_S___len__ (P := P) (base := base) T Z
  have m___repr__ := (ok_S_repr (P := P) (base := base) T Z).o
  refine DefO.make T.d_l_seen_of sc_l_seen_of (fun c ds R h => by obtain ⟨_, _, _, _, _, _, rfl, rfl, _⟩ := h; rfl) (fun f cdv A outer s H G E x c ds R hG hr ht hC h => ?_)
  obtain ⟨n, p, L, row, ns, told, rfl, rfl, hS, q⟩ := h
  refine ⟨_, _, (dss_cons (ds_set 1 sc_l_seen_of.nd (DO.d (do_lst (da_cons (de_meth0 0 m_row sk.cl rfl hC hG (hr.mono (by omega))) (da_cons (de_meth0 0 m_groups sk.cl rfl hC hG (hr.mono (by omega))) (da_cons (de_meth0 0 m_journal sk.cl rfl hC hG (hr.mono (by omega))) (da_cons (de_meth0 0 m_count sk.cl rfl hC hG (hr.mono (by omega))) (da_cons (de_meth0 0 m_empty sk.cl rfl hC hG (hr.mono (by omega))) (da_cons (de_meth0 0 m_operations sk.cl rfl hC hG (hr.mono (by omega))) da_nil)))))))))
      (dss_one (ds_ret (DO.d (do_catP rfl (dp_v 1) (DE.p (DO.d (do_lst (da_cons (de_lenO 0 m___len__ rfl hC hG (hr.mono (by omega)) (by rfl) T.b_len) (da_cons (de_reprO 0 m___repr__ rfl hC hG (hr.mono (by omega)) (by rfl) T.b_repr) da_nil)))))))))), ?_⟩
  have h1 := hS.le
  have h2 := hS.pl
  walk_at "s10"
  refine ⟨0, p, L, row, ns, told, rfl, rfl, ?_⟩
  walk_at "s10"
  refine ⟨0, p, L, row, ns, told, rfl, rfl, hS, ?_⟩
  walk_at "s10"
  refine ⟨0, p, L, row, ns, told, rfl, rfl, by omega, ?_⟩
  walk_at "s10"
  refine ⟨0, p, L, row, ns, told, rfl, rfl, hS, ?_⟩
  walk_at "s10"
  refine ⟨0, p, L, row, ns, told, rfl, rfl, hS, ?_⟩
  walk_at "s10"
  refine ⟨0, p, L, row, ns, told, rfl, rfl, ?_⟩
  walk_at "s10"
  refine ⟨0, p, L, row, ns, told, rfl, rfl, ?_⟩
  walk_at "s10"
  refine ⟨by omega, by omega, 0, p, L, row, ns, told, rfl, rfl, hS, ?_⟩
  walk_at "s10"
  exact q
end
local macro_rules | `(tactic| walk_at "s11") => `(tactic| simp only [wTryN, wTySet, wTyIf, wTySq, wTyExpr, wYxc, wMK, wMN, wMNK, wTm, CallT, wNeO, wEqT, wReprO, wJ, wFmt, wJoined, wMkK, gSumT, wPlots, wFldIx, wFldLen, wFldList, wFldApp, wFldPop, wNX, wMX, wHOb, wHBox, wCO, CallsO, wRetFin, wRetFin3, wRaiseO, wCX, wNewO, wMk, wLenO, wIsiO, wEqO, hdO_1, hdO_2, hdO_b0, hdO_b1, hdO_b2, selV_nil, sel0, sel1, sel2, sel01, sel10, put0, put1, put2, put01, put10, putN, tk0, tk1, tk2, nd1, nd01, nd10, ndN, DEnds.low, Dt.low, low_box, low_d, low_own, low_none, low_ob, initS, sd_states, sd_told, sd_put1, sd_put2, noL_int, noL_str, noL_tup, noLA_cons, noLA_nil, noLA_ints, L2.atI_last, DV.ob.injEq, Ov.st.injEq, Bool.and_true, Bool.true_and, wCount, wPubO, wC, wV, wPub, wP, wCons, wTup, wLst, wL, w2, wTest, wChain, wAnd, wOr, Dw.wNot, wAndV, wOrV, wNotV, wIf, Dw.wTru, truD, gI0, gI, gEq, gNe, gIn, gIsN, gNotN, gIsB, gNotB, gCatT, gCatS, gIx, wCat, wRep, w1, w1O, gLen, gTupleOf, gListOf, wRg1, gInt, gStr, w2a, wSlT, wSlL, wSlS, wRevT, wNeg, wCall, wCallB, wName, wGNil_n, wGCons_c, wGTup, wSeq, wRng1, wEnum, wZip, wNext, wSq, wRet, wIfS, wDrop, wAsg, wOwn, wAug, wMeth, fAppend, wFor_eq, wWhile_eq, wipeD, wLc_eq, Dw.wNm, wPar, wGix, wDix, wCatP, wPopTo, fPop, fPopAt, fIns, wSetIx, gRepr, gMinT, gNeS, gRepN, wDGet2, wKGet, wLIdx, wDPGet, wKAug, wDcK, wDPut, wTPut, wTGet, gSrtR, gSrtA, gLtP, wSlB, wStar, wRaise, wNmX, wXat, wXis, gEqS, wYd, wYdic, wYfn, wYg, wCallD, wCallV, wSetN, wDcT, wTGet2, wTGet1, dicAt, wRng2, wRg2, wRngD, wRevR, gRevL, wAugM, gLenSetL, wAppPop, gSrtSet, wIsi, wNotT, wAugIx, wPeekO, wPick2, wExt, fRem, look_d, look_own, shpI, shpB, shpN, shpS, seqT, seqL, itsT, itsL, lenT, lenL, okFF, eqv_str, eqv_int, eqv_bool, isNone, perm, Dt.set, Dt.sets, env0, List.map_cons, List.map_nil, List.cons_append, List.nil_append, List.getElem?_cons_zero, List.getElem?_cons_succ, List.set_cons_succ, List.set_cons_zero, List.filterMap_cons, List.filterMap_nil, Option.some.injEq, DV.d.injEq, DV.own.injEq, DV.dit.injEq, DV.dd.injEq, DV.oth.injEq, reduceCtorEq, false_or, or_false, false_and, and_false, exists_false, PyData.int.injEq, PyData.bool.injEq, PyData.str.injEq, PyData.tuple.injEq, PyData.list.injEq, List.cons.injEq, exists_eq_left, exists_eq_left', exists_eq_right, exists_eq_right', exists_and_left, exists_eq', exists_eq, and_true, true_and, and_self, and_assoc, List.length_cons, List.length_nil, List.replicate, Nat.reduceAdd, Nat.reduceSub, Nat.reduceLeDiff, Nat.zero_le, decide_eq_true_eq, Bool.not_eq_true', decide_eq_false_iff_not, ite_true, ite_false, if_true, if_false, Bool.false_eq_true, Bool.true_eq_false, eq_self, List.reduceReplicate, Bool.not_true, Bool.not_false, reduceIte])
def Er (nm fld : Str) : Prop := (nm = "Noted" ∧ fld = "note") ∨ (nm = "NoNote" ∧ fld = "note") ∨ (nm = "NoPlot" ∧ fld = "plot") ∨ (nm = "NoTime" ∧ fld = "time") ∨ (nm = "Built" ∧ fld = "plot")
theorem kit_3 {K : PySem.W.Frag} {t c1 c2 c3 : Value} {b1 b2 b3 : Bool} (h1 : PySem.W.kitOne K t c1 = some b1) (h2 : PySem.W.kitOne K t c2 = some b2) (h3 : PySem.W.kitOne K t c3 = some b3) : PySem.W.kitAny K t [c1, c2, c3] = some (b1 || (b2 || b3)) := by
  unfold PySem.W.kitAny
  rw [h1]
  cases b1 with
  | true => rfl
  | false =>
    rw [Bool.false_or]
    exact kit_2 h2 h3
theorem kf1 {K : PySem.W.Frag} {mg : Str → Option Value} {c : Nat → Addr} (Y : TopX K mg c) {i : Nat} (hi : i < 6) {nm : Str} (hm : mg nm = some (.ref (c i))) (x : XCx K (c i)) {j : Nat} (hj : j < 6) : KitN K mg nm [.ref (c j)] (decide (i = j)) := kitN hm x (kit_1 (Y.kt hi hj))
theorem xcx {K : PySem.W.Frag} {mg : Str → Option Value} {c : Nat → Addr} (Y : TopX K mg c) : ∀ i, i < 6 → XCx K (c i)
  | 0, _ => ⟨_, _, _, _, Y.x0.xc⟩
  | 1, _ => ⟨_, _, _, _, Y.x1.xc⟩
  | 2, _ => ⟨_, _, _, _, Y.x2.xc⟩
  | 3, _ => ⟨_, _, _, _, Y.x3.xc⟩
  | 4, _ => ⟨_, _, _, _, Y.x4.xc⟩
  | 5, _ => ⟨_, _, _, _, Y.x5.xc⟩
section
variable {P : Program} {wd : World} {K : PySem.W.Frag} {mg : Str → Option Value} {base : Heap} {c : Nat → Addr} {cS : Addr}
def f_named (K : PySem.W.Frag) (mg : Str → Option Value) : FD := fun xs R => ∃ nm fld d, xs = [.oth (xcV K mg b0 nm fld d)] ∧ Er nm fld ∧ R (.tuple [.str nm, d])
theorem ok_l_named (T : Top wd K mg) (Y : TopX K mg c) : Def P wd K mg base 5 "_law_named" s_l_named ["_law_caught"] (spD K (f_named K mg)) := by
  refine Def.byD T.d_l_named sc_l_named (fun xs R h => by obtain ⟨_, _, _, rfl, _⟩ := h; rfl) (fun f cdv A outer s H G E xs R hG hr h => ?_)
  obtain ⟨nm, fld, d, rfl, her, q⟩ := h
  refine ⟨_, _, (dss_cons (ds_set 1 sc_l_named.nd (DO.d (do_lst (da_cons (de_xis 0 rfl (by rfl) T.b_isinstance (pe_glob (v := .ref _) (by rfl) Y.h_Noted rfl) (fun _ h => h)) (da_cons (de_xis 0 rfl (by rfl) T.b_isinstance (pe_glob (v := .ref _) (by rfl) Y.h_NoNote rfl) (fun _ h => h)) (da_cons (de_xis 0 rfl (by rfl) T.b_isinstance (pe_glob (v := .ref _) (by rfl) Y.h_NoPlot rfl) (fun _ h => h)) da_nil))))))
      (dss_cons (ds_set 1 sc_l_named.nd (DO.d (do_catP rfl (dp_v 1) (DE.p (DO.d (do_lst (da_cons (de_xis 0 rfl (by rfl) T.b_isinstance (pe_glob (v := .ref _) (by rfl) Y.h_NoTime rfl) (fun _ h => h)) (da_cons (de_xis 0 rfl (by rfl) T.b_isinstance (pe_glob (v := .ref _) (by rfl) Y.h_Built rfl) (fun _ h => h)) da_nil))))))))
      (dss_cons (ds_set 2 sc_l_named.nd (DO.d (do_lst (da_cons (de_xis 0 rfl (by rfl) T.b_isinstance (pe_bltn (v := .ty "ValueError") (by rfl) Y.b_ValueError (by decide +kernel) rfl) (fun _ h => h)) (da_cons (de_xis 0 rfl (by rfl) T.b_isinstance (pe_bltn (v := .ty "LookupError") (by rfl) Y.b_LookupError (by decide +kernel) rfl) (fun _ h => h)) (da_cons (de_xis 0 rfl (by rfl) T.b_isinstance (pe_bltn (v := .ty "RuntimeError") (by rfl) Y.b_RuntimeError (by decide +kernel) rfl) (fun _ h => h)) da_nil))))))
      (dss_cons (ds_set 3 sc_l_named.nd (DO.d (do_lst (da_cons (de_ix rfl (dp_v 1) (DE.p de_int)) (da_cons (de_or (de_ix rfl (dp_v 1) (DE.p de_int)) (de_or (de_ix rfl (dp_v 1) (DE.p de_int)) (de_one (de_ix rfl (dp_v 1) (DE.p de_int))))) (da_cons (de_ix rfl (dp_v 1) (DE.p de_int)) da_nil))))))
      (dss_cons (ds_if (DW.q (dw_or (dt_cmp (o_ne rfl hr.units) (DE.p (de_count rfl (u65 hr) (de_v 1) de_bl)) (DE.p de_int)) (dw_or (dt_cmp (o_ne rfl hr.units) (dp_v 2) (dp_v 3)) (dw_or1 (dt_val (de_xisN 0 rfl (by rfl) T.b_isinstance (.cons (pe_glob (v := .ref _) (by rfl) Y.h_NoOperation rfl) (fun _ h => h) (.cons (pe_bltn (v := .ty "KeyError") (by rfl) Y.b_KeyError (by decide +kernel) rfl) (fun _ h => h) (.cons (pe_bltn (v := .ty "IndexError") (by rfl) Y.b_IndexError (by decide +kernel) rfl) (fun _ h => h) .nil))))))))) (dss_one (ds_ret (de_tup (da_cons de_str (da_cons de_non da_nil))))) dss_nil)
      (dss_cons (ds_if (DW.q (dw_or (dt_tru rfl (DE.p (de_ix rfl (dp_v 1) (DE.p de_int)))) (dw_or1 (dt_tru rfl (DE.p (de_ix rfl (dp_v 1) (DE.p de_int))))))) (dss_one (ds_ret (de_tup (da_cons (de_if (dt_tru rfl (DE.p (de_ix rfl (dp_v 1) (DE.p de_int)))) de_str de_str) (da_cons (de_xat 0 rfl) da_nil))))) dss_nil)
      (dss_one (ds_ret (de_if (dt_tru rfl (DE.p (de_ix rfl (dp_v 1) (DE.p de_int)))) (de_tup (da_cons de_str (da_cons (de_xat 0 rfl) da_nil))) (de_tup (da_cons (de_if (dt_tru rfl (DE.p (de_ix rfl (dp_v 1) (DE.p de_int)))) de_str de_str) (da_cons (de_xat 0 rfl) da_nil)))))))))))), ?_⟩
  walk_at "s11"
  rcases her with ⟨rfl, rfl⟩ | ⟨rfl, rfl⟩ | ⟨rfl, rfl⟩ | ⟨rfl, rfl⟩ | ⟨rfl, rfl⟩
  · have x := xcx Y 0 (by decide)
    have hm := Y.h_Noted
    have a := fun {j : Nat} (hj : j < 6) => kf1 Y (i := 0) (by decide) hm x hj
    have v := kitN hm x (kit_1 (Y.kt_ValueError (i := 0) (by decide)))
    have l := kitN hm x (kit_1 (Y.kt_LookupError (i := 0) (by decide)))
    have r := kitN hm x (kit_1 (Y.kt_RuntimeError (i := 0) (by decide)))
    have z := kitN hm x (kit_3 (Y.kt (i := 0) (j := 4) (by decide) (by decide)) (Y.kt_KeyError (i := 0) (by decide)) (Y.kt_IndexError (i := 0) (by decide)))
    have fl := fldN hm x Y.x0.fld
    refine ⟨_, _, _, rfl, _, a (by decide), _, _, _, rfl, _, a (by decide), _, _, _, rfl, _, a (by decide), _, _, _, rfl, _, a (by decide), _, _, _, rfl, _, a (by decide), _, _, _, rfl, _, v, _, _, _, rfl, _, l, _, _, _, rfl, _, r, ?_⟩
    simp only [Nat.reduceEqDiff, decide_true, decide_false, List.mem_cons, List.mem_singleton, List.not_mem_nil, or_false, false_or, or_true, true_or, reduceCtorEq]
    refine ⟨_, rfl, _, rfl, _, rfl, ?_⟩
    repeat first
      | refine ⟨_, rfl, _, rfl, ?_⟩
      | rw [if_neg (by decide)]
      | rw [if_pos (by decide)]
      | refine ⟨_, rfl, ?_⟩
      | refine ⟨rfl, rfl, by decide, ?_⟩
      | refine ⟨rfl, rfl, ?_⟩
    refine ⟨_, _, _, rfl, _, z, ?_⟩
    repeat first
      | exact ⟨_, _, rfl, fl, q⟩
      | refine ⟨_, rfl, _, rfl, ?_⟩
      | rw [if_neg (by decide)]
      | rw [if_pos (by decide)]
      | refine ⟨_, rfl, ?_⟩
  · have x := xcx Y 3 (by decide)
    have hm := Y.h_NoNote
    have a := fun {j : Nat} (hj : j < 6) => kf1 Y (i := 3) (by decide) hm x hj
    have v := kitN hm x (kit_1 (Y.kt_ValueError (i := 3) (by decide)))
    have l := kitN hm x (kit_1 (Y.kt_LookupError (i := 3) (by decide)))
    have r := kitN hm x (kit_1 (Y.kt_RuntimeError (i := 3) (by decide)))
    have z := kitN hm x (kit_3 (Y.kt (i := 3) (j := 4) (by decide) (by decide)) (Y.kt_KeyError (i := 3) (by decide)) (Y.kt_IndexError (i := 3) (by decide)))
    have fl := fldN hm x Y.x3.fld
    refine ⟨_, _, _, rfl, _, a (by decide), _, _, _, rfl, _, a (by decide), _, _, _, rfl, _, a (by decide), _, _, _, rfl, _, a (by decide), _, _, _, rfl, _, a (by decide), _, _, _, rfl, _, v, _, _, _, rfl, _, l, _, _, _, rfl, _, r, ?_⟩
    simp only [Nat.reduceEqDiff, decide_true, decide_false, List.mem_cons, List.mem_singleton, List.not_mem_nil, or_false, false_or, or_true, true_or, reduceCtorEq]
    refine ⟨_, rfl, _, rfl, _, rfl, ?_⟩
    repeat first
      | refine ⟨_, rfl, _, rfl, ?_⟩
      | rw [if_neg (by decide)]
      | rw [if_pos (by decide)]
      | refine ⟨_, rfl, ?_⟩
      | refine ⟨rfl, rfl, by decide, ?_⟩
      | refine ⟨rfl, rfl, ?_⟩
    refine ⟨_, _, _, rfl, _, z, ?_⟩
    repeat first
      | exact ⟨_, _, rfl, fl, q⟩
      | refine ⟨_, rfl, _, rfl, ?_⟩
      | rw [if_neg (by decide)]
      | rw [if_pos (by decide)]
      | refine ⟨_, rfl, ?_⟩
  · have x := xcx Y 1 (by decide)
    have hm := Y.h_NoPlot
    have a := fun {j : Nat} (hj : j < 6) => kf1 Y (i := 1) (by decide) hm x hj
    have v := kitN hm x (kit_1 (Y.kt_ValueError (i := 1) (by decide)))
    have l := kitN hm x (kit_1 (Y.kt_LookupError (i := 1) (by decide)))
    have r := kitN hm x (kit_1 (Y.kt_RuntimeError (i := 1) (by decide)))
    have z := kitN hm x (kit_3 (Y.kt (i := 1) (j := 4) (by decide) (by decide)) (Y.kt_KeyError (i := 1) (by decide)) (Y.kt_IndexError (i := 1) (by decide)))
    have fl := fldN hm x Y.x1.fld
    refine ⟨_, _, _, rfl, _, a (by decide), _, _, _, rfl, _, a (by decide), _, _, _, rfl, _, a (by decide), _, _, _, rfl, _, a (by decide), _, _, _, rfl, _, a (by decide), _, _, _, rfl, _, v, _, _, _, rfl, _, l, _, _, _, rfl, _, r, ?_⟩
    simp only [Nat.reduceEqDiff, decide_true, decide_false, List.mem_cons, List.mem_singleton, List.not_mem_nil, or_false, false_or, or_true, true_or, reduceCtorEq]
    refine ⟨_, rfl, _, rfl, _, rfl, ?_⟩
    repeat first
      | refine ⟨_, rfl, _, rfl, ?_⟩
      | rw [if_neg (by decide)]
      | rw [if_pos (by decide)]
      | refine ⟨_, rfl, ?_⟩
      | refine ⟨rfl, rfl, by decide, ?_⟩
      | refine ⟨rfl, rfl, ?_⟩
    refine ⟨_, _, _, rfl, _, z, ?_⟩
    repeat first
      | exact ⟨_, _, rfl, fl, q⟩
      | refine ⟨_, rfl, _, rfl, ?_⟩
      | rw [if_neg (by decide)]
      | rw [if_pos (by decide)]
      | refine ⟨_, rfl, ?_⟩
  · have x := xcx Y 2 (by decide)
    have hm := Y.h_NoTime
    have a := fun {j : Nat} (hj : j < 6) => kf1 Y (i := 2) (by decide) hm x hj
    have v := kitN hm x (kit_1 (Y.kt_ValueError (i := 2) (by decide)))
    have l := kitN hm x (kit_1 (Y.kt_LookupError (i := 2) (by decide)))
    have r := kitN hm x (kit_1 (Y.kt_RuntimeError (i := 2) (by decide)))
    have z := kitN hm x (kit_3 (Y.kt (i := 2) (j := 4) (by decide) (by decide)) (Y.kt_KeyError (i := 2) (by decide)) (Y.kt_IndexError (i := 2) (by decide)))
    have fl := fldN hm x Y.x2.fld
    refine ⟨_, _, _, rfl, _, a (by decide), _, _, _, rfl, _, a (by decide), _, _, _, rfl, _, a (by decide), _, _, _, rfl, _, a (by decide), _, _, _, rfl, _, a (by decide), _, _, _, rfl, _, v, _, _, _, rfl, _, l, _, _, _, rfl, _, r, ?_⟩
    simp only [Nat.reduceEqDiff, decide_true, decide_false, List.mem_cons, List.mem_singleton, List.not_mem_nil, or_false, false_or, or_true, true_or, reduceCtorEq]
    refine ⟨_, rfl, _, rfl, _, rfl, ?_⟩
    repeat first
      | refine ⟨_, rfl, _, rfl, ?_⟩
      | rw [if_neg (by decide)]
      | rw [if_pos (by decide)]
      | refine ⟨_, rfl, ?_⟩
      | refine ⟨rfl, rfl, by decide, ?_⟩
      | refine ⟨rfl, rfl, ?_⟩
    refine ⟨_, _, _, rfl, _, z, ?_⟩
    repeat first
      | exact ⟨_, _, rfl, fl, q⟩
      | refine ⟨_, rfl, _, rfl, ?_⟩
      | rw [if_neg (by decide)]
      | rw [if_pos (by decide)]
      | refine ⟨_, rfl, ?_⟩
  · have x := xcx Y 5 (by decide)
    have hm := Y.h_Built
    have a := fun {j : Nat} (hj : j < 6) => kf1 Y (i := 5) (by decide) hm x hj
    have v := kitN hm x (kit_1 (Y.kt_ValueError (i := 5) (by decide)))
    have l := kitN hm x (kit_1 (Y.kt_LookupError (i := 5) (by decide)))
    have r := kitN hm x (kit_1 (Y.kt_RuntimeError (i := 5) (by decide)))
    have z := kitN hm x (kit_3 (Y.kt (i := 5) (j := 4) (by decide) (by decide)) (Y.kt_KeyError (i := 5) (by decide)) (Y.kt_IndexError (i := 5) (by decide)))
    have fl := fldN hm x Y.x5.fld
    refine ⟨_, _, _, rfl, _, a (by decide), _, _, _, rfl, _, a (by decide), _, _, _, rfl, _, a (by decide), _, _, _, rfl, _, a (by decide), _, _, _, rfl, _, a (by decide), _, _, _, rfl, _, v, _, _, _, rfl, _, l, _, _, _, rfl, _, r, ?_⟩
    simp only [Nat.reduceEqDiff, decide_true, decide_false, List.mem_cons, List.mem_singleton, List.not_mem_nil, or_false, false_or, or_true, true_or, reduceCtorEq]
    refine ⟨_, rfl, _, rfl, _, rfl, ?_⟩
    repeat first
      | refine ⟨_, rfl, _, rfl, ?_⟩
      | rw [if_neg (by decide)]
      | rw [if_pos (by decide)]
      | refine ⟨_, rfl, ?_⟩
      | refine ⟨rfl, rfl, by decide, ?_⟩
      | refine ⟨rfl, rfl, ?_⟩
    refine ⟨_, _, _, rfl, _, z, ?_⟩
    repeat first
      | exact ⟨_, _, rfl, fl, q⟩
      | refine ⟨_, rfl, _, rfl, ?_⟩
      | rw [if_neg (by decide)]
      | rw [if_pos (by decide)]
      | refine ⟨_, rfl, ?_⟩
end
inductive Deed where
  | build (x : Int)
  | all (d : PyData) (xs : List Int)
  | note (t : Int) (v : NV)
  | forget (i : PyData) (x : Nt)
  | turn
def Deed.d : Deed → PyData
  | .build x => .tuple [.str "build", .int x]
  | .all d _ => .tuple [.str "build_all", d]
  | .note t v => .tuple [.str "note_down", .int t, .str (sortS v)]
  | .forget i _ => .tuple [.str "forget", i]
  | .turn => .tuple [.str "turn"]
def Deed.nm : Deed → Str
  | .build _ => "build"
  | .all _ _ => "build_all"
  | .note _ _ => "note_down"
  | .forget _ _ => "forget"
  | .turn => "turn"
def Deed.ok : Deed → Prop
  | .build _ => True
  | .all d xs => IsR d xs ∧ xs.length ≤ 800
  | .note _ _ => True
  | .forget i x => IsNtD i x ∧ NtSm x
  | .turn => True
def doO (n : Int) (p : Nat) (L : List (List Int × List Nt)) (row : List Int) (ns : List Nt) (told : List PyData) : Deed → (Oc → Cs → Prop) → Prop
  | .build x => bldO n p L row ns [x] (inO "build" told)
  | .all _ xs => bldO n p L row ns xs (inO "build_all" told)
  | .note t v => notO n p L row ns t v (inO "note_down" told)
  | .forget _ x => forO n p L row ns x (inO "forget" told)
  | .turn => fun R => R (.ok .none) ⟨n, [stO p (L ++ [(row, ns)]) (mirR (p : Nat) row) ns (inO "turn" told)]⟩
/-- the outcome as data -/
def ocD : Oc → PyData
  | .ok d => .tuple [.str "told", d]
  | .ex nm _ d => .tuple [.str nm, d]
section
variable {P : Program} {wd : World} {K : PySem.W.Frag} {mg : Str → Option Value} {base : Heap} {c : Nat → Addr} {cS : Addr}
theorem exY (Y : TopX K mg c) {nm fld : Str} (h : Er nm fld) (Cc : Addr) (hm : mg nm = some (.ref Cc)) : PySem.W.exmAny K (.ref Cc) [.ref (c 5), .ref (c 3), .ref (c 4), .ref (c 1), .ref (c 2), .ref (c 0)] = some true := by
  rcases h with ⟨rfl, _⟩ | ⟨rfl, _⟩ | ⟨rfl, _⟩ | ⟨rfl, _⟩ | ⟨rfl, _⟩
  · rw [Y.h_Noted] at hm
    cases hm
    exact Y.ex (i := 0) (by decide)
  · rw [Y.h_NoNote] at hm
    cases hm
    exact Y.ex (i := 3) (by decide)
  · rw [Y.h_NoPlot] at hm
    cases hm
    exact Y.ex (i := 1) (by decide)
  · rw [Y.h_NoTime] at hm
    cases hm
    exact Y.ex (i := 2) (by decide)
  · rw [Y.h_Built] at hm
    cases hm
    exact Y.ex (i := 5) (by decide)
theorem lrow_er {p : Nat} : ∀ {more row : List Int} {e : Str × Int}, lrow p row more = some e → Er e.1 "plot"
  | [], _, _, h => by cases h
  | x :: more, row, e, h => by
    unfold lrow at h
    split at h
    · split at h
      · cases h
        exact .inr (.inr (.inr (.inr ⟨rfl, rfl⟩)))
      · exact lrow_er h
    · cases h
      exact .inr (.inr (.inl ⟨rfl, rfl⟩))
def f_done : FOb := fun c ds R => ∃ n p L row ns told D, c = ⟨n, [stO p L row ns told]⟩ ∧ ds = [Deed.d D] ∧ D.ok ∧ Stt p row ns ∧ L.length ≤ 1000 ∧ told.length ≤ 10000 ∧ doO n p L row ns told D fun o c' => R (.ok (ocD o)) c'
theorem ok_l_done (T : Top wd K mg) (Y : TopX K mg c) (Z : TopS K mg cS) : DefO P wd K mg base 13 "_law_done" s_l_done ["_law_hall", "_law_deed_here"] cS false f_done := by
  have sk := Z.sk
  have m_build := (ok_S_buildX (P := P) (base := base) T Y Z).o
  have m_build_all := (ok_S_build_allX (P := P) (base := base) T Y Z).o
  have m_note_down := (ok_S_note_downX (P := P) (base := base) T Y Z).o
  have m_forget := (ok_S_forgetX (P := P) (base := base) T Y Z).o
  have m_turn := (ok_S_turnX (P := P) (base := base) T Z).o
  have g_l_named := ok_l_named (P := P) (base := base) T Y
  refine DefO.make T.d_l_done sc_l_done (fun c ds R h => by obtain ⟨_, _, _, _, _, _, _, rfl, rfl, _⟩ := h; rfl) (fun f cdv A outer s H G E x c0 ds R hG hr ht hC h => ?_)
  obtain ⟨n, p, L, row, ns, told, D, rfl, rfl, hok, hS, hL, hT, q⟩ := h
  have n_Built := names_Built (X := (cxOf CX0 P wd K mg base ["_law_hall", "_law_deed_here", "_law_found", "_law_caught", "_law_word", "error"] "_law_done" (defScope s_l_done) f cdv A outer s H E).nox) Y.h_Built
  have n_NoNote := names_NoNote (X := (cxOf CX0 P wd K mg base ["_law_hall", "_law_deed_here", "_law_found", "_law_caught", "_law_word", "error"] "_law_done" (defScope s_l_done) f cdv A outer s H E).nox) Y.h_NoNote
  have n_NoOperation := names_NoOperation (X := (cxOf CX0 P wd K mg base ["_law_hall", "_law_deed_here", "_law_found", "_law_caught", "_law_word", "error"] "_law_done" (defScope s_l_done) f cdv A outer s H E).nox) Y.h_NoOperation
  have n_NoPlot := names_NoPlot (X := (cxOf CX0 P wd K mg base ["_law_hall", "_law_deed_here", "_law_found", "_law_caught", "_law_word", "error"] "_law_done" (defScope s_l_done) f cdv A outer s H E).nox) Y.h_NoPlot
  have n_NoTime := names_NoTime (X := (cxOf CX0 P wd K mg base ["_law_hall", "_law_deed_here", "_law_found", "_law_caught", "_law_word", "error"] "_law_done" (defScope s_l_done) f cdv A outer s H E).nox) Y.h_NoTime
  have n_Noted := names_Noted (X := (cxOf CX0 P wd K mg base ["_law_hall", "_law_deed_here", "_law_found", "_law_caught", "_law_word", "error"] "_law_done" (defScope s_l_done) f cdv A outer s H E).nox) Y.h_Noted
  refine ⟨_, _, (dss_cons (ds_par3 2 3 4 (by rfl) sc_l_done.nd (dx_cons (DE.dx de_non) (dx_cons (DE.dx de_non) (dx_cons (DE.dx (de_ix rfl (dp_v 1) (DE.p de_int))) dx_nil))))
      (dss_cons (ds_tryN 5 3 rfl rfl rfl rfl sc_l_done.nd (.cons n_Built (.cons n_NoNote (.cons n_NoOperation (.cons n_NoPlot (.cons n_NoTime (.cons n_Noted .nil)))))) (dtys_one (dty_if (fun _ _ => (dt_cmp (o_eq rfl hr.units) (dp_v 4) (DE.p de_str))) (dtys_one (dty_set 2 sc_l_done.nd (dex_meth 0 m_build sk.cl rfl hC hG (hr.mono (by omega)) (fun _ _ => (dh_data (da_cons (de_ix rfl (dp_v 1) (DE.p de_int)) da_nil))))))
          (dtys_one (dty_if (fun _ _ => (dt_cmp (o_eq rfl hr.units) (dp_v 4) (DE.p de_str))) (dtys_one (dty_set 2 sc_l_done.nd (dex_meth 0 m_build_all sk.cl rfl hC hG (hr.mono (by omega)) (fun _ _ => (dh_data (da_cons (de_ix rfl (dp_v 1) (DE.p de_int)) da_nil))))))
          (dtys_one (dty_if (fun _ _ => (dt_cmp (o_eq rfl hr.units) (dp_v 4) (DE.p de_str))) (dtys_one (dty_set 2 sc_l_done.nd (dex_meth 0 m_note_down sk.cl rfl hC hG (hr.mono (by omega)) (fun _ _ => (dh_data (da_cons (de_ix rfl (dp_v 1) (DE.p de_int)) (da_cons (de_ix rfl (dp_v 1) (DE.p de_int)) da_nil)))))))
          (dtys_one (dty_set 2 sc_l_done.nd (dex_if (fun _ _ => (dt_cmp (o_eq rfl hr.units) (dp_v 4) (DE.p de_str))) (dex_meth 0 m_forget sk.cl rfl hC hG (hr.mono (by omega)) (fun _ _ => (dh_data (da_cons (de_ix rfl (dp_v 1) (DE.p de_int)) da_nil)))) (dex_meth0 0 m_turn sk.cl rfl hC hG (hr.mono (by omega)))))))))))) (hsu := fun _ _ _ => pss_one (ps_set (i := 3) sc_l_done.nd rfl (.inl rfl) (pv 5))))
      (dss_one (ds_ret (de_if (dt_xnon 3) (de_tup (da_cons de_str (da_cons (de_v 2) da_nil))) (de_cD g_l_named hG (hr.mono (by omega)) (by rfl) (dy_xc 3 dy_nil))))))), ?_⟩
  cases D with
  | build x =>
    simp only [Deed.d]
    walk_at "s10"
    refine ⟨_, rfl, shp_str _, (if_pos (by rw [eqv_str]; decide +kernel)).mpr ⟨_, rfl, 0, p, L, row, ns, told, x, rfl, rfl, hS, hL, hT, ?_⟩⟩
    have q : bldO n p L row ns [x] (inO "build" told) (fun o c' => R (.ok (ocD o)) c') := q
    unfold bldO at q ⊢
    cases hl : lrow p row [x] with
    | none =>
      rw [hl] at q
      exact .inl ⟨.none, rfl, (if_pos rfl).mpr ⟨_, rfl, q⟩⟩
    | some e =>
      rw [hl] at q
      exact ⟨fun Cc hm => exY Y (lrow_er hl) Cc hm, .inr ⟨_, _, _, rfl, (if_neg (by decide)).mpr ⟨_, _, _, rfl, _, _, _, rfl, lrow_er hl, q⟩⟩⟩
  | all d xs =>
    simp only [Deed.d]
    walk_at "s10"
    refine ⟨_, rfl, shp_str _, (if_neg (by rw [eqv_str]; decide +kernel)).mpr ⟨shp_str _, (if_pos (by rw [eqv_str]; decide +kernel)).mpr ⟨_, rfl, 0, p, L, row, ns, told, xs, d, rfl, rfl, hok.1, hok.2, hS, hL, hT, ?_⟩⟩⟩
    have q : bldO n p L row ns xs (inO "build_all" told) (fun o c' => R (.ok (ocD o)) c') := q
    unfold bldO at q ⊢
    cases hl : lrow p row xs with
    | none =>
      rw [hl] at q
      exact .inl ⟨.none, rfl, (if_pos rfl).mpr ⟨_, rfl, q⟩⟩
    | some e =>
      rw [hl] at q
      exact ⟨fun Cc hm => exY Y (lrow_er hl) Cc hm, .inr ⟨_, _, _, rfl, (if_neg (by decide)).mpr ⟨_, _, _, rfl, _, _, _, rfl, lrow_er hl, q⟩⟩⟩
  | note t v =>
    simp only [Deed.d]
    walk_at "s10"
    refine ⟨_, rfl, shp_str _, (if_neg (by rw [eqv_str]; decide +kernel)).mpr ⟨shp_str _, (if_neg (by rw [eqv_str]; decide +kernel)).mpr ⟨shp_str _, (if_pos (by rw [eqv_str]; decide +kernel)).mpr ⟨_, rfl, _, rfl, 0, p, L, row, ns, told, t, v, rfl, rfl, hS, hL, hT, ?_⟩⟩⟩⟩
    have q : notO n p L row ns t v (inO "note_down" told) (fun o c' => R (.ok (ocD o)) c') := q
    unfold notO at q ⊢
    split at q
    · rename_i hh
      rw [if_pos hh]
      cases hf : ns.find? (nmN ⟨t.toNat, v⟩) with
      | none =>
        rw [hf] at q
        exact .inl ⟨.none, rfl, (if_pos rfl).mpr ⟨_, rfl, q⟩⟩
      | some y =>
        rw [hf] at q
        exact ⟨fun Cc hm => exY Y (.inl ⟨rfl, rfl⟩) Cc hm, .inr ⟨_, _, _, rfl, (if_neg (by decide)).mpr ⟨_, _, _, rfl, _, _, _, rfl, .inl ⟨rfl, rfl⟩, q⟩⟩⟩
    · rename_i hh
      rw [if_neg hh]
      exact ⟨fun Cc hm => exY Y (.inr (.inr (.inr (.inl ⟨rfl, rfl⟩)))) Cc hm, .inr ⟨_, _, _, rfl, (if_neg (by decide)).mpr ⟨_, _, _, rfl, _, _, _, rfl, .inr (.inr (.inr (.inl ⟨rfl, rfl⟩))), q⟩⟩⟩
  | forget i x =>
    simp only [Deed.d]
    walk_at "s10"
    refine ⟨_, rfl, shp_str _, (if_neg (by rw [eqv_str]; decide +kernel)).mpr ⟨shp_str _, (if_neg (by rw [eqv_str]; decide +kernel)).mpr ⟨shp_str _, (if_neg (by rw [eqv_str]; decide +kernel)).mpr ⟨shp_str _, (if_pos (by rw [eqv_str]; decide +kernel)).mpr ⟨_, rfl, 0, p, L, row, ns, told, i, x, rfl, rfl, hok.1, hok.2, hS, hL, hT, ?_⟩⟩⟩⟩⟩
    have q : forO n p L row ns x (inO "forget" told) (fun o c' => R (.ok (ocD o)) c') := q
    unfold forO at q ⊢
    split at q
    · rename_i hh
      rw [if_pos hh]
      exact .inl ⟨.none, rfl, (if_pos rfl).mpr ⟨_, rfl, q⟩⟩
    · rename_i hh
      rw [if_neg hh]
      exact ⟨fun Cc hm => exY Y (.inr (.inl ⟨rfl, rfl⟩)) Cc hm, .inr ⟨_, _, _, rfl, (if_neg (by decide)).mpr ⟨_, _, _, rfl, _, _, _, rfl, .inr (.inl ⟨rfl, rfl⟩), q⟩⟩⟩
  | turn =>
    simp only [Deed.d]
    walk_at "s10"
    refine ⟨_, rfl, shp_str _, (if_neg (by rw [eqv_str]; decide +kernel)).mpr ⟨shp_str _, (if_neg (by rw [eqv_str]; decide +kernel)).mpr ⟨shp_str _, (if_neg (by rw [eqv_str]; decide +kernel)).mpr ⟨shp_str _, (if_neg (by rw [eqv_str]; decide +kernel)).mpr ⟨0, p, L, row, ns, told, rfl, rfl, by have := hS.le; have := hS.pl; omega, hL, hT, ?_⟩⟩⟩⟩⟩
    exact .inl ⟨.none, rfl, (if_pos rfl).mpr ⟨_, rfl, q⟩⟩
end
/-- what a deed does -/
def outO (p : Nat) (row : List Int) (ns : List Nt) : Deed → (PyData × List Int × List Nt) ⊕ (Str × Str × PyData)
  | .build x => match lrow p row [x] with
    | none => .inl (.int ((segs (row ++ [x])).length : Nat), row ++ [x], ns)
    | some e => .inr (e.1, "plot", .int e.2)
  | .all _ xs => match lrow p row xs with
    | none => .inl (.int ((segs (row ++ xs)).length : Nat), row ++ xs, ns)
    | some e => .inr (e.1, "plot", .int e.2)
  | .note t v => if 0 ≤ t ∧ t < (row.length : Nat) then (match ns.find? (nmN ⟨t.toNat, v⟩) with
      | some y => .inr ("Noted", "note", ntD y)
      | none => .inl (ntD ⟨t.toNat, truV row t.toNat v⟩, row, insN ⟨t.toNat, truV row t.toNat v⟩ ns))
    else .inr ("NoTime", "time", .int t)
  | .forget _ x => if x ∈ ns then .inl (.int (FW List.sum (ns.filter fun y => decide (y ≠ x)) (p - row.length) row.length row.length 0 : Nat), row, ns.filter fun y => decide (y ≠ x))
    else .inr ("NoNote", "note", ntD x)
  | .turn => .inl (.none, mirR (p : Nat) row, ns)
theorem doO_eq {n : Int} {p : Nat} {L : List (List Int × List Nt)} {row : List Int} {ns : List Nt} {told : List PyData} {D : Deed} {R : Oc → Cs → Prop}
    (h1 : ∀ d r m, outO p row ns D = .inl (d, r, m) → R (.ok d) ⟨n, [stO p (L ++ [(row, ns)]) r m (inO D.nm told)]⟩)
    (h2 : ∀ nm fld d, outO p row ns D = .inr (nm, fld, d) → R (.ex nm fld d) ⟨n, [stO p L row ns (inO D.nm told)]⟩) : doO n p L row ns told D R := by
  cases D with
  | build x =>
    show bldO n p L row ns [x] (inO "build" told) R
    unfold bldO
    cases e : lrow p row [x] with
    | none => exact h1 _ _ _ (by simp only [outO, e])
    | some z => exact h2 _ _ _ (by simp only [outO, e])
  | all d xs =>
    show bldO n p L row ns xs (inO "build_all" told) R
    unfold bldO
    cases e : lrow p row xs with
    | none => exact h1 _ _ _ (by simp only [outO, e])
    | some z => exact h2 _ _ _ (by simp only [outO, e])
  | note t v =>
    show notO n p L row ns t v (inO "note_down" told) R
    unfold notO
    by_cases hh : 0 ≤ t ∧ t < (row.length : Nat)
    · rw [if_pos hh]
      cases e : ns.find? (nmN ⟨t.toNat, v⟩) with
      | none => exact h1 _ _ _ (by simp only [outO, if_pos hh, e])
      | some y => exact h2 _ _ _ (by simp only [outO, if_pos hh, e])
    · rw [if_neg hh]
      exact h2 _ _ _ (by simp only [outO, if_neg hh])
  | forget i x =>
    show forO n p L row ns x (inO "forget" told) R
    unfold forO
    by_cases hh : x ∈ ns
    · rw [if_pos hh]
      exact h1 _ _ _ (by simp only [outO, if_pos hh])
    · rw [if_neg hh]
      exact h2 _ _ _ (by simp only [outO, if_neg hh])
  | turn => exact h1 _ _ _ rfl
theorem fal_pow (n : Nat) : ∀ k, fal n k ≤ n ^ k
  | 0 => Nat.le_refl _
  | k + 1 => by
    have := fal_pow n k
    show fal n k * (n - k) ≤ n ^ k * n
    exact Nat.mul_le_mul this (Nat.sub_le _ _)
theorem FW_16 (ns : List Nt) {p T : Nat} (hp : p ≤ 16) (ht : T ≤ p) : FW List.sum ns (p - T) T T 0 ≤ 16 ^ 16 := by
  have h1 := FW_less (less_nil ns) (p - T) T T 0
  rw [FW_none, choose_0, Nat.one_mul, Nat.sub_add_cancel ht] at h1
  refine Nat.le_trans h1 (Nat.le_trans (fal_pow p T) (Nat.le_trans (Nat.pow_le_pow_left hp T) (Nat.pow_le_pow_right (by decide) (by omega))))
structure TolOk (told : List PyData) (m : Nat) : Prop where
  len : told.length ≤ m
  fl : ∀ x ∈ told, Bd 1000 1 x
theorem flb_lit (s : String) (h : (reprText (Str.ofString s)).length ≤ 400) : FlB (.str (Str.ofString s)) := ⟨sok s, h⟩
theorem TolOk.io {told : List PyData} {m : Nat} (h : TolOk told m) (D : Deed) : TolOk (inO D.nm told) (m + 2) := by
  have hn : FlB (.str D.nm) := by cases D <;> exact flb_lit _ (by decide +kernel)
  refine ⟨by unfold inO; rw [List.length_append, List.length_append]; have := h.len; simp only [List.length_cons, List.length_nil]; omega, fun x hx => ?_⟩
  unfold inO at hx
  rcases List.mem_append.mp hx with hx | hx
  · rcases List.mem_append.mp hx with hx | hx
    · exact h.fl x hx
    · rw [List.mem_singleton.mp hx]
      exact bd_tup (show 2 ≤ 1000 by decide) fun z hz => by
        simp only [List.mem_cons, List.not_mem_nil, or_false] at hz
        rcases hz with rfl | rfl
        · exact .flat (flb_lit _ (by decide +kernel))
        · exact .flat hn
  · rw [List.mem_singleton.mp hx]
    exact bd_tup (show 2 ≤ 1000 by decide) fun z hz => by
      simp only [List.mem_cons, List.not_mem_nil, or_false] at hz
      rcases hz with rfl | rfl
      · exact .flat (flb_lit _ (by decide +kernel))
      · exact .flat hn
theorem TolOk.bd {told : List PyData} {m : Nat} (h : TolOk told m) (hm : m ≤ 1000) : Bd 1000 2 (.list told) := bd_lst (Nat.le_trans h.len hm) h.fl
theorem ok_str {z : Str} (h : PyData.strOk z = true) (hl : z.length ≤ 39) : FlB (.str z) := by
  refine ⟨h, ?_⟩
  have h3 : (reprText z).length ≤ 10 * z.length + 2 := PySem.StrLaws.reprText_len _ fun c hc => by
    unfold PyData.strOk at h
    rw [Array.all_eq_true_iff_forall_mem] at h
    have := of_decide_eq_true (h c (by simpa using hc))
    exact Nat.lt_of_lt_of_le this (by decide)
  omega
theorem sok_app {a b : Str} (ha : PyData.strOk a = true) (hb : PyData.strOk b = true) : PyData.strOk (a ++ b) = true := by
  unfold PyData.strOk at *
  rw [PySem.Str.cps_append, Array.all_append, ha, hb]
  rfl
theorem len_dig3 {i : Int} (h : i.natAbs < 100) : (Str.ofString (toString i)).length ≤ 3 := by
  have h2 := int_text_length_le10 (k := 2) (by decide) (a := i) (by omega)
  rw [PySem.ofString_length]
  omega
theorem flb_repr {k p g : Int} (hk : k.natAbs < 100) (hp : p.natAbs < 100) (hg : g.natAbs < 100) : FlB (.str (reprS k p g)) := by
  have z1 := len_dig3 hk
  have z2 := len_dig3 hp
  have z3 := len_dig3 hg
  have a1 : (Str.ofString "Street(").length = 7 := by decide +kernel
  have a2 : (Str.ofString " of ").length = 4 := by decide +kernel
  have a3 : (Str.ofString " plots, ").length = 8 := by decide +kernel
  have a4 : (Str.ofString " groups)").length = 8 := by decide +kernel
  have a0 : Str.empty.length = 0 := by decide +kernel
  have e0 : PyData.strOk Str.empty = true := by decide +kernel
  refine ok_str ?_ ?_
  · exact sok_app (sok_app (sok_app (sok_app (sok_app (sok_app (sok_app e0 (sok _)) (sok _)) (sok _)) (sok _)) (sok _)) (sok _)) (sok _)
  · unfold reprS
    simp only [PySem.Str.length_append]
    omega
theorem bd_row6 {row : List Int} {p : Nat} (h : OgM.Row (p : Nat) row) (hp : p ≤ 16) (hl : row.length ≤ 1000) : Bd 1000 1 (rowT row) := bd_tup (by rw [List.length_map]; exact hl) fun z hz => by
  obtain ⟨x, hx, rfl⟩ := List.mem_map.mp hz
  have := h.lo x hx
  have := h.hi x hx
  refine .flat (?_ : FlB (.int x))
  show x.natAbs ≤ 10 ^ 30 + 1000
  omega
theorem flb_n {m : Nat} (h : m ≤ 10 ^ 30) : FlB (.int (m : Nat)) := by
  show ((m : Nat) : Int).natAbs ≤ 10 ^ 30 + 1000
  omega
theorem bd_tell {p : Nat} {L : List (List Int × List Nt)} {row : List Int} {ns : List Nt} (hS : Stt p row ns) (hL : L.length ≤ 1000) : Bd 1000 4 (tellD p L row ns) := by
  have h1 := hS.le
  have h2 := hS.pl
  have hg := segs_len row
  refine bd_lst (show 8 ≤ 1000 by decide) fun z hz => ?_
  simp only [List.mem_cons, List.not_mem_nil, or_false] at hz
  rcases hz with rfl | rfl | rfl | rfl | rfl | rfl | rfl | rfl
  · exact (bd_row6 hS.isr h2 (by omega)).up (Nat.le_refl _) (by decide)
  · exact .flat (flb_n (by omega))
  · exact (bd_bkT (by omega) (by omega) hS.small).up (by decide) (Nat.le_refl _)
  · exact .flat (flb_n (Nat.le_trans (FW_16 ns h2 h1) (by decide)))
  · refine bd_lst (w := 1000) (k := 2) (by rw [List.length_map]; have := List.length_filter_le (fun (i : Nat) => decide ((i : Int) ∉ row)) (List.range p); rw [List.length_range] at this; omega) fun z hz => ?_
    obtain ⟨x, hx, rfl⟩ := List.mem_map.mp hz
    have := List.mem_range.mp (List.mem_filter.mp hx).1
    exact .flat (flb_n (by omega))
  · exact .flat (flb_n (by omega))
  · exact .flat (flb_n (by omega))
  · exact .flat (flb_repr (by omega) (by omega) (by omega))
section
variable {P : Program} {wd : World} {K : PySem.W.Frag} {mg : Str → Option Value} {base : Heap} {c : Nat → Addr} {cS : Addr}
theorem at0 (x : PyData) (l : List PyData) : atI (its (.tuple (x :: l))) 0 = some x := by
  show atI (x :: l) ((0 : Nat) : Int) = some x
  rw [at_nat (show 0 < (x :: l).length from Nat.succ_pos _)]
  rfl
theorem deed_at0 (D : Deed) : ∃ ds, Deed.d D = .tuple (.str D.nm :: ds) := by cases D <;> exact ⟨_, rfl⟩
end
theorem flb_i {i : Int} (h : i.natAbs ≤ 10 ^ 20) : FlB (.int i) := show i.natAbs ≤ 10 ^ 30 + 1000 by omega
theorem bd_dB {x : Int} (h : x.natAbs ≤ 10 ^ 20) : Bd 1000 3 (Deed.d (.build x)) := bd_tup (show 2 ≤ 1000 by decide) fun z hz => by
  simp only [List.mem_cons, List.not_mem_nil, or_false] at hz
  rcases hz with rfl | rfl
  · exact .flat (flb_lit _ (by decide +kernel))
  · exact .flat (flb_i h)
theorem bd_dA {xs : List Int} (hl : xs.length ≤ 100) (h : ∀ x ∈ xs, x.natAbs ≤ 10 ^ 20) : Bd 1000 3 (Deed.d (.all (.list (xs.map .int)) xs)) := bd_tup (show 2 ≤ 1000 by decide) fun z hz => by
  simp only [List.mem_cons, List.not_mem_nil, or_false] at hz
  rcases hz with rfl | rfl
  · exact .flat (flb_lit _ (by decide +kernel))
  · refine bd_lst (by rw [List.length_map]; omega) fun z hz => ?_
    obtain ⟨x, hx, rfl⟩ := List.mem_map.mp hz
    exact .flat (flb_i (h x hx))
theorem bd_dN {t : Int} {v : NV} (h : t.natAbs ≤ 10 ^ 20) : Bd 1000 3 (Deed.d (.note t v)) := bd_tup (show 3 ≤ 1000 by decide) fun z hz => by
  simp only [List.mem_cons, List.not_mem_nil, or_false] at hz
  rcases hz with rfl | rfl | rfl
  · exact .flat (flb_lit _ (by decide +kernel))
  · exact .flat (flb_i h)
  · cases v <;> exact .flat (flb_lit _ (by decide +kernel))
theorem bd_dF {x : Nt} (h : NtSm x) : Bd 1000 3 (Deed.d (.forget (ntD x) x)) := bd_tup (show 2 ≤ 1000 by decide) fun z hz => by
  simp only [List.mem_cons, List.not_mem_nil, or_false] at hz
  rcases hz with rfl | rfl
  · exact .flat (flb_lit _ (by decide +kernel))
  · exact (bd_nt1 h).up (by decide) (by decide)
theorem bd_dT : Bd 1000 3 (Deed.d .turn) := bd_tup (show 1 ≤ 1000 by decide) fun z hz => by
  simp only [List.mem_cons, List.not_mem_nil, or_false] at hz
  rcases hz with rfl
  exact .flat (flb_lit _ (by decide +kernel))
theorem cutN (ds : List PyData) (m : Nat) : Dw.cutD ds none (some (m : Int)) = ds.take m := by
  unfold Dw.cutD
  rw [HT.sIx_nat, HT.sIx_none, List.drop_zero, Nat.sub_zero]
  by_cases hh : m ≤ ds.length
  · rw [Nat.min_eq_left hh]
  · rw [Nat.min_eq_right (by omega), List.take_of_length_le (Nat.le_refl _), List.take_of_length_le (by omega)]
theorem eqv_nilI (l : List Int) : PyData.eqv (.list (l.map .int)) (.list []) = l.isEmpty := by cases l <;> rfl
section
variable {P : Program} {wd : World} {K : PySem.W.Frag} {mg : Str → Option Value} {base : Heap} {c : Nat → Addr} {cS : Addr}
def f_deed : FB := fun ds c R => ∃ (p : Nat) (row : List Int) (ns : List Nt), ds = [.tuple [.int (p : Nat), rowT row, .tuple (ns.map ntD)]] ∧ Stt p row ns ∧ c ≤ 850000 ∧ ∀ (D : Deed) c', D.ok → Bd 1000 3 D.d → c' ≤ c + 20 → R D.d c'
theorem ok_l_deed (T : Top wd K mg) : Def P wd K mg base 3 "_law_deed" s_l_deed ["_law_box_here", "_law_now"] (spB K f_deed) := by
  have g_l_take := ok_l_take (P := P) (base := base) T
  have g_l_of := ok_l_of (P := P) (base := base) T
  have g_l_strewn := ok_l_strewn (P := P) (base := base) T
  refine Def.draws T.d_l_deed sc_l_deed (fun ds c R h => by obtain ⟨_, _, _, rfl, _⟩ := h; rfl) (fun f cdv A outer s H G l E ds c0 R hG hr h => ?_)
  obtain ⟨p, row, ns, rfl, hS, hc, q⟩ := h
  refine ⟨_, _, (dss_cons (ds_asg (de_v 1) (dg_tup (n := 3) rfl (by rfl) (dgs_c (dg_name 2 sc_l_deed.nd) (dgs_c (dg_name 3 sc_l_deed.nd) (dgs_c (dg_name 4 sc_l_deed.nd) dgs_nil)))))
      (dss_cons (ds_par2 5 6 (by rfl) sc_l_deed.nd (dx_cons (DE.dx (de_cB 0 g_l_take hG (hr.mono (by omega)) (by rfl) (da_cons de_int da_nil))) (dx_cons (DE.dx (DO.d (do_lc (own := [("_law_lot", 10)]) (by rfl) sc_l_deed.nd (di_rng1 (by rfl) T.b_range (de_v 2)) (blkOk_by (own := [("_law_lot", 10)]) (N := ["_law_box_here", "_law_now", "_law_count", "_law_queue", "_law_notes", "_law_sort_so", "_law_free", "_law_odd", "_law_some", "_law_spot", "_law_lot"]) (sc := defScope s_l_deed) (by decide +kernel)) (fun _ _ _ _ _ => (dg_name 10 sc_l_deed.nd (hf := by first | exact Or.inr rfl | exact Or.inl rfl))) (ts_one fun _ _ _ _ _ => (dt_cmp (o_notin rfl (u65 hr)) (dp_v 10) (dp_v 3))) (fun _ _ _ _ _ => (de_v 10))))) dx_nil)))
      (dss_cons (ds_set 7 sc_l_deed.nd (de_bin o_sub (DE.p (de_cB 0 g_l_take hG (hr.mono (by omega)) (by rfl) (da_cons (de_bin o_add (dp_v 2) (DE.p de_int)) da_nil))) (DE.p de_int)))
      (dss_cons (ds_if (dt_cmp o_lt (dp_v 5) (DE.p de_int)) (dss_one (ds_ret (de_tup (da_cons de_str (da_cons (de_if (DW.q (dw_and (dt_cmp (o_ne rfl hr.units) (dp_v 6) (DE.p (DO.d (do_lst da_nil)))) (dw_and1 (dt_cmp o_gt (DE.p (de_cB 0 g_l_take hG (hr.mono (by omega)) (by rfl) (da_cons de_int da_nil))) (DE.p de_int))))) (de_cB 0 g_l_of hG (hr.mono (by omega)) (by rfl) (da_cons (de_v 6) da_nil)) (de_v 7)) da_nil))))) dss_nil)
      (dss_cons (ds_if (dt_cmp o_lt (dp_v 5) (DE.p de_int)) (dss_cons (ds_set 8 sc_l_deed.nd (DO.d (do_slL rfl (DE.p (de_cB 0 g_l_strewn hG (hr.mono (by omega)) (by rfl) (da_cons (de_v 6) da_nil))) do_none (do_some (de_cB 0 g_l_take hG (hr.mono (by omega)) (by rfl) (da_cons de_int da_nil))))))
        (dss_one (ds_ret (de_tup (da_cons de_str (da_cons (de_if (dt_cmp o_gt (DE.p (de_cB 0 g_l_take hG (hr.mono (by omega)) (by rfl) (da_cons de_int da_nil))) (DE.p de_int)) (de_v 8) (DO.d (do_catP rfl (dp_v 8) (DE.p (DO.d (do_lst (da_cons (de_v 7) da_nil))))))) da_nil)))))) dss_nil)
      (dss_cons (ds_if (dt_cmp o_lt (dp_v 5) (DE.p de_int)) (dss_cons (ds_set 9 sc_l_deed.nd (de_bin o_sub (DE.p (de_cB 0 g_l_take hG (hr.mono (by omega)) (by rfl) (da_cons (de_bin o_add (DE.p (de_len rfl (by rfl) T.b_len (dp_v 3))) (DE.p de_int)) da_nil))) (DE.p (de_toInt (by rfl) T.b_int (DE.p (de_cmp (o_eq rfl hr.units) (DE.p (de_cB 0 g_l_take hG (hr.mono (by omega)) (by rfl) (da_cons de_int da_nil))) (DE.p de_int)))))))
        (dss_one (ds_ret (de_tup (da_cons de_str (da_cons (de_v 9) (da_cons (de_cB 0 g_l_of hG (hr.mono (by omega)) (by rfl) (da_cons (DO.d (do_lst (da_cons de_str (da_cons de_str (da_cons de_str da_nil))))) da_nil)) da_nil))))))) dss_nil)
      (dss_cons (ds_if (dt_cmp o_lt (dp_v 5) (DE.p de_int)) (dss_cons (ds_set 8 sc_l_deed.nd (DO.d (do_catP rfl (DE.p (DO.d (do_listOf rfl (by rfl) T.b_list (dp_v 4)))) (DE.p (DO.d (do_lst (da_cons (de_tup (da_cons (de_cB 0 g_l_take hG (hr.mono (by omega)) (by rfl) (da_cons de_int da_nil)) (da_cons de_str (da_cons (de_bin o_add (DE.p de_int) (DE.p (de_cB 0 g_l_take hG (hr.mono (by omega)) (by rfl) (da_cons de_int da_nil)))) da_nil)))) (da_cons (de_tup (da_cons de_int (da_cons de_str (da_cons de_str da_nil)))) da_nil))))))))
        (dss_one (ds_ret (de_tup (da_cons de_str (da_cons (de_cB 0 g_l_of hG (hr.mono (by omega)) (by rfl) (da_cons (de_v 8) da_nil)) da_nil)))))) dss_nil)
      (dss_one (ds_ret (de_tup (da_cons de_str da_nil))))))))))), ?_⟩
  have h1 := hS.le
  have h2 := hS.pl
  walk_at "s10"
  refine ⟨15, rfl, by decide, by decide, by omega, fun r0 c1 a0 a1 hc1 => ⟨by omega, by omega, ?_⟩⟩
  rw [iota_nat]
  refine lcD_enc (List.range p) (fun (i : Nat) => .int (i : Int)) (fun (i : Nat) => if (i : Int) ∉ row then some (.int (i : Int)) else none) (by rw [List.length_range]; omega) (fun i hi acc J hacc h1 h0 => ?_) ?_
  · walk_at "s10"
    refine ⟨rfl, shp_intsT row, ?_⟩
    show if (true ^^ (row.map PyData.int).any fun z => PyData.eqv z (.int (i : Int))) = true then _ else _
    rw [any_ints]
    by_cases hm : (i : Int) ∈ row
    · rw [if_neg (by rw [decide_eq_true hm]; decide)]
      exact h0 (if_neg fun z => z hm)
    · rw [if_pos (by rw [decide_eq_false hm]; rfl)]
      exact ⟨hacc, h1 _ (if_pos hm)⟩
  have eF : ∀ l : List Nt, True := fun _ => trivial
  have eF : ∀ l : List Nat, l.filterMap (fun (i : Nat) => if (i : Int) ∉ row then some (PyData.int (i : Int)) else none) = ((l.filter fun (i : Nat) => decide ((i : Int) ∉ row)).map fun (i : Nat) => (i : Int)).map .int := fun l => by
    induction l with
    | nil => rfl
    | cons x l ih =>
      rw [List.filterMap_cons, List.filter_cons, ih]
      by_cases hm : (x : Int) ∈ row <;> simp [hm]
  rw [eF]
  have hfree : ∀ x ∈ ((List.range p).filter fun (i : Nat) => decide ((i : Int) ∉ row)).map fun (i : Nat) => (i : Int), 0 ≤ x ∧ x < (p : Int) := fun x hx => by
    obtain ⟨i, hi, rfl⟩ := List.mem_map.mp hx
    have hx := List.mem_filter.mp hi
    have := List.mem_range.mp hx.1
    exact ⟨by omega, by omega⟩
  have hfl : (((List.range p).filter fun (i : Nat) => decide ((i : Int) ∉ row)).map fun (i : Nat) => (i : Int)).length ≤ 16 := by
    rw [List.length_map]
    have := List.length_filter_le (fun (i : Nat) => decide ((i : Int) ∉ row)) (List.range p)
    rw [List.length_range] at this
    omega
  generalize ((List.range p).filter (fun (i : Nat) => decide ((i : Int) ∉ row))).map (fun (i : Nat) => (i : Int)) = free at hfree hfl
  walk_at "s10"
  refine ⟨(p : Int) + 2, rfl, by omega, by omega, by omega, fun r1 c2 b0 b1 hc2 => ⟨_, rfl, ?_⟩⟩
  have hodd : (r1 - 1).natAbs ≤ 20 := by omega
  generalize r1 - 1 = odd at hodd
  have qT : ∀ c', c' ≤ c2 + 10 → R (.tuple [.str "turn"]) c' := fun c' h => q .turn c' trivial bd_dT (by omega)
  have qB : ∀ x : Int, x.natAbs ≤ 10 ^ 20 → ∀ c', c' ≤ c2 + 10 → R (.tuple [.str "build", .int x]) c' := fun x hx c' h => q (.build x) c' trivial (bd_dB hx) (by omega)
  by_cases k1 : r0 < 5
  · rw [if_pos k1]
    refine ⟨shp_ints free, shp_ints [], ?_⟩
    rw [eqv_nilI]
    cases free with
    | nil =>
      rw [if_neg (by decide)]
      exact qB odd (by omega) c2 (by omega)
    | cons y l =>
      rw [if_pos (show (y :: l).isEmpty = false from rfl)]
      refine ⟨6, rfl, by decide, by decide, by omega, fun r2 c3 d0 d1 hc3 => ⟨_, rfl, ?_⟩⟩
      by_cases k2 : 0 < r2
      · rw [if_pos k2]
        refine ⟨_, rfl, rfl, Nat.succ_pos _, by show ((y :: l).map PyData.int).length ≤ 1000; rw [List.length_map]; omega, by omega, fun d c4 hd hc4 => ?_⟩
        obtain ⟨x, hx, rfl⟩ := List.mem_map.mp (show d ∈ (y :: l).map PyData.int from hd)
        have := hfree x hx
        exact qB x (by omega) c4 (by omega)
      · rw [if_neg k2]
        exact qB odd (by omega) c3 (by omega)
  rw [if_neg k1]
  by_cases k2 : r0 < 7
  · rw [if_pos k2]
    refine ⟨_, free, rfl, rfl, rfl, by omega, by omega, fun ys c3 hp hc3 => ?_⟩
    have hyl := hp.length_eq
    refine ⟨4, rfl, by decide, by decide, by omega, fun r2 c4 d0 d1 hc4 => ⟨_, rfl, _, rfl, ?_⟩⟩
    obtain ⟨m, rfl⟩ := Int.eq_ofNat_of_zero_le d0
    rw [cutN, ← List.map_take]
    have hys : ∀ x ∈ ys.take m, x.natAbs ≤ 10 ^ 20 := fun x hx => by
      have := hfree x (hp.mem_iff.mp (List.mem_of_mem_take hx))
      omega
    have hyt : (ys.take m).length ≤ 16 := by rw [List.length_take]; omega
    generalize ys.take m = zs at hys hyt
    refine ⟨4, rfl, by decide, by decide, by omega, fun r3 c5 e0 e1 hc5 => ⟨_, rfl, ?_⟩⟩
    by_cases k3 : 0 < r3
    · rw [if_pos k3]
      exact q (.all (.list (zs.map .int)) zs) c5 ⟨.inr rfl, by omega⟩ (bd_dA (by omega) hys) (by omega)
    · rw [if_neg k3]
      refine ⟨by rw [List.length_map]; omega, ?_⟩
      have e2 : zs.map PyData.int ++ [.int odd] = (zs ++ [odd]).map .int := by rw [List.map_append]; rfl
      rw [e2]
      exact q (.all (.list ((zs ++ [odd]).map .int)) (zs ++ [odd])) c5 ⟨.inr rfl, by rw [List.length_append]; simp only [List.length_cons, List.length_nil]; omega⟩ (bd_dA (by rw [List.length_append]; simp only [List.length_cons, List.length_nil]; omega) fun x hx => by
        rcases List.mem_append.mp hx with hx | hx
        · exact hys x hx
        · rw [List.mem_singleton.mp hx]
          omega) (by omega)
  rw [if_neg k2]
  by_cases k3 : r0 < 11
  · rw [if_pos k3]
    refine ⟨row.length, by rw [← List.length_map (f := PyData.int)]; rfl, ?_⟩
    refine ⟨(row.length : Int) + 1, rfl, by omega, by omega, by omega, fun r2 c3 d0 d1 hc3 => ?_⟩
    refine ⟨9, rfl, by decide, by decide, by omega, fun r3 c4 e0 e1 hc4 => ⟨rfl, _, rfl, ?_⟩⟩
    refine ⟨_, rfl, rfl, by decide, by decide, by omega, fun kd c5 hkd hc5 => ?_⟩
    have hv : ∃ v : NV, kd = .str (sortS v) := by
      have hkd : kd ∈ [PyData.str "groups", .str "groups", .str "house"] := hkd
      simp only [List.mem_cons, List.not_mem_nil, or_false] at hkd
      rcases hkd with rfl | rfl | rfl
      · exact ⟨.g 0, rfl⟩
      · exact ⟨.g 0, rfl⟩
      · exact ⟨.h .new, rfl⟩
    obtain ⟨v, rfl⟩ := hv
    exact q (.note _ v) c5 trivial (bd_dN (by split <;> omega)) (by omega)
  rw [if_neg k3]
  by_cases k4 : r0 < 13
  · rw [if_pos k4]
    refine ⟨5, rfl, by decide, by decide, by omega, fun r2 c3 d0 d1 hc3 => ?_⟩
    refine ⟨4, rfl, by decide, by decide, by omega, fun r3 c4 e0 e1 hc4 => ⟨_, rfl, ?_⟩⟩
    have hnl := hS.small.l
    refine ⟨by rw [List.length_map]; omega, ?_⟩
    refine ⟨_, rfl, rfl, ?_, ?_, by omega, fun d c5 hd hc5 => ?_⟩
    · show 1 ≤ (_ ++ [_, _]).length
      rw [List.length_append]
      simp only [List.length_cons]
      omega
    · show (_ ++ [_, _]).length ≤ 1000
      rw [List.length_append, List.length_map]
      simp only [List.length_cons, List.length_nil]
      omega
    obtain ⟨t, rfl⟩ := Int.eq_ofNat_of_zero_le d0
    obtain ⟨u, hu⟩ : ∃ u : Nat, 1 + r3 = (u : Int) := ⟨(1 + r3).toNat, by omega⟩
    have hx : ∃ x : Nt, d = ntD x ∧ NtSm x := by
      rcases List.mem_append.mp (show d ∈ ns.map ntD ++ [.tuple [.int (t : Nat), .str "groups", .int (1 + r3)], .tuple [.int 0, .str "house", .str "beside"]] from hd) with hd | hd
      · obtain ⟨x, hx, rfl⟩ := List.mem_map.mp hd
        exact ⟨x, rfl, hS.small.sm hx⟩
      · simp only [List.mem_cons, List.not_mem_nil, or_false] at hd
        rcases hd with rfl | rfl
        · refine ⟨⟨t, .g u⟩, by rw [hu]; rfl, ⟨show t ≤ 1000 by omega, ?_⟩⟩
          show ((u : Nat) : Int).natAbs ≤ 10 ^ 30 + 1000
          omega
        · exact ⟨⟨0, .h .beside⟩, rfl, ⟨Nat.zero_le _, flb_lit _ (by decide +kernel)⟩⟩
    obtain ⟨x, rfl, hx⟩ := hx
    exact q (.forget (ntD x) x) c5 ⟨⟨rfl, rfl⟩, hx⟩ (bd_dF hx) (by omega)
  rw [if_neg k4]
  exact qT c2 (by omega)
end
local macro_rules | `(tactic| walk_at "s12") => `(tactic| simp only [wNewP, wTryN, wTySet, wTyIf, wTySq, wTyExpr, wYxc, wMK, wMN, wMNK, wTm, CallT, wNeO, wEqT, wReprO, wJ, wFmt, wJoined, wMkK, gSumT, wPlots, wFldIx, wFldLen, wFldList, wFldApp, wFldPop, wNX, wMX, wHOb, wHBox, wCO, CallsO, wRetFin, wRetFin3, wRaiseO, wCX, wNewO, wMk, wLenO, wIsiO, wEqO, hdO_1, hdO_2, hdO_b0, hdO_b1, hdO_b2, selV_nil, sel0, sel1, sel2, sel01, sel10, put0, put1, put2, put01, put10, putN, tk0, tk1, tk2, nd1, nd01, nd10, ndN, DEnds.low, Dt.low, low_box, low_d, low_own, low_none, low_ob, initS, sd_states, sd_told, sd_put1, sd_put2, noL_int, noL_str, noL_tup, noLA_cons, noLA_nil, noLA_ints, L2.atI_last, DV.ob.injEq, Ov.st.injEq, Bool.and_true, Bool.true_and, wPubO, wC, wV, wPub, wP, wCons, wTup, wLst, wL, w2, wTest, wChain, wAnd, wOr, Dw.wNot, wAndV, wOrV, wNotV, wIf, Dw.wTru, truD, gI0, gI, gEq, gNe, gIn, gIsN, gNotN, gIsB, gNotB, gCatT, gCatS, gIx, wCat, wRep, w1, w1O, gLen, gTupleOf, gListOf, wRg1, gInt, gStr, w2a, wSlT, wSlL, wSlS, wRevT, wNeg, wCall, wCallB, wName, wGNil_n, wGCons_c, wGTup, wSeq, wRng1, wEnum, wZip, wNext, wSq, wRet, wIfS, wDrop, wAsg, wOwn, wAug, wMeth, fAppend, wFor_eq, wWhile_eq, wipeD, wLc_eq, Dw.wNm, wPar, wGix, wDix, wCatP, wPopTo, fPop, fPopAt, fIns, wSetIx, gRepr, gMinT, gNeS, gRepN, wDGet2, wKGet, wLIdx, wDPGet, wKAug, wDcK, wDPut, wTPut, wTGet, gSrtR, gSrtA, gLtP, wSlB, wStar, wRaise, wNmX, wXat, wXis, gEqS, wYd, wYdic, wYfn, wYg, wCallD, wCallV, wSetN, wDcT, wTGet2, wTGet1, dicAt, wRng2, wRg2, wRngD, wRevR, gRevL, wAugM, gLenSetL, wAppPop, gSrtSet, wIsi, wNotT, wAugIx, wPeekO, wPick2, wExt, fRem, look_d, look_own, shpI, shpB, shpN, shpS, seqT, seqL, itsT, itsL, lenT, lenL, okFF, eqv_str, eqv_int, eqv_bool, isNone, perm, Dt.set, Dt.sets, env0, List.map_cons, List.map_nil, List.cons_append, List.nil_append, List.getElem?_cons_zero, List.getElem?_cons_succ, List.set_cons_succ, List.set_cons_zero, List.filterMap_cons, List.filterMap_nil, Option.some.injEq, DV.d.injEq, DV.own.injEq, DV.dit.injEq, DV.dd.injEq, DV.oth.injEq, reduceCtorEq, false_or, or_false, false_and, and_false, exists_false, PyData.int.injEq, PyData.bool.injEq, PyData.str.injEq, PyData.tuple.injEq, PyData.list.injEq, List.cons.injEq, exists_eq_left, exists_eq_left', exists_eq_right, exists_eq_right', exists_and_left, exists_eq', exists_eq, and_true, true_and, and_self, and_assoc, List.length_cons, List.length_nil, List.replicate, Nat.reduceAdd, Nat.reduceSub, Nat.reduceLeDiff, Nat.zero_le, decide_eq_true_eq, Bool.not_eq_true', decide_eq_false_iff_not, ite_true, ite_false, if_true, if_false, Bool.false_eq_true, Bool.true_eq_false, eq_self, List.reduceReplicate, Bool.not_true, Bool.not_false, reduceIte])
section
variable {P : Program} {wd : World} {K : PySem.W.Frag} {mg : Str → Option Value} {base : Heap} {c : Nat → Addr} {cS : Addr}
def f_Stwin : FNw := fun c ds R RX => ∃ n p L row ns told, c = ⟨n, [stO p L row ns told]⟩ ∧ ds = [] ∧ R (mkS p (L ++ [(row, ns)]) []) c
theorem ok_S_twin (T : Top wd K mg) (Y : TopX K mg c) (Z : TopS K mg cS) : MetN P wd K mg base 5 cS "twin" "Street.twin" s_S_twin ["self"] f_Stwin := by
  have sk := Z.sk
  have m_operations := (ok_S_operations (P := P) (base := base) T Z).o
  have N_as_of := ok_S_as_of (P := P) (base := base) T Y Z
  refine MetN.make Z.d_twin sc_S_twin (fun c ds R RX h => by obtain ⟨_, _, _, _, _, _, rfl, rfl, _⟩ := h; rfl) (fun f cdv A outer s H G Q E x c ds R RX hG hr ht hC h hx => ?_)
  obtain ⟨n, p, L, row, ns, told, rfl, rfl, q⟩ := h
  obtain ⟨tn, wn, D, hw⟩ : ∃ tn wn, DRetN (cxOf (L2.CX P wd) P wd K mg base ["self"] "Street.twin" (defScope s_S_twin) f cdv A outer s H E) ⟨K, x, H, G⟩ cS (defBody s_S_twin) tn wn ∧ wn ⟨[some (.ob 0)], ⟨n, [stO p L row ns told]⟩⟩ (fun S s1 => R S s1.c) := by
    refine ⟨_, _, dr_ret (dn_meth 0 N_as_of sk.cl rfl hC hG (hr.mono (by omega)) (da_cons (de_meth0 0 m_operations sk.cl rfl hC hG (hr.mono (by omega))) da_nil)), ?_⟩
    walk_at "s12"
    refine ⟨0, p, L, row, ns, told, rfl, rfl, ?_⟩
    walk_at "s12"
    refine ⟨0, p, L, row, ns, told, _, rfl, rfl, ?_⟩
    unfold asO
    rw [if_pos ⟨by omega, by rw [List.length_append]; simp only [List.length_cons, List.length_nil]; omega⟩, List.take_of_length_le (by rw [List.length_append, Int.toNat_natCast]; exact Nat.le_refl _)]
    exact q
  refine ⟨_, D.ps, fun σ r kk => ?_⟩
  exact D.iN G σ H _ _ _ r hw fun o S' s' G1 H1 G2 H2 q1 r1 e1 _ n1 => kk o S' s'.c σ G1 H1 G2 H2 s'.env q1 r1 e1 n1
end
theorem truV_mir {p : Nat} {row : List Int} (h : OgM.Row (p : Nat) row) {t : Nat} (ht : t < row.length) (v : NV) : truV (mirR (p : Nat) row) t v = truV row t v := by
  cases v with
  | g n =>
    show NV.g _ = NV.g _
    rw [segs_len_mir h]
  | h w =>
    show NV.h _ = NV.h _
    have hl : t < (picks row).length := by rw [picks_len]; exact ht
    obtain ⟨wc, hwc⟩ : ∃ wc, (picks row)[t]? = some wc := ⟨_, List.getElem?_eq_getElem hl⟩
    obtain ⟨w2, c2⟩ := wc
    rw [picks_mir_get h hwc, hwc]
    rfl
theorem stt_mir {p : Nat} {row : List Int} {ns : List Nt} (h : Stt p row ns) : Stt p (mirR (p : Nat) row) ns := ⟨row_mir h.isr, by rw [mir_len]; exact h.le, h.pl, ⟨fun x hx => by
  have := h.sn.tru x hx
  rw [mir_len]
  exact ⟨this.1, by rw [truV_mir h.isr this.1]; exact this.2⟩, h.sn.rise, by rw [mir_len]; exact h.sn.len⟩⟩
theorem segs_mir_len {p : Nat} {row : List Int} (h : OgM.Row (p : Nat) row) : (segs (mirR (p : Nat) row)).length = (segs row).length := by rw [segs_mir h, mirG_len]
theorem inO_len (nm : Str) (told : List PyData) : (inO nm told).length = told.length + 2 := by
  unfold inO
  rw [List.length_append, List.length_append]
  rfl
theorem vOrd_le : ∀ v : NV, vOrd v ≤ 1
  | .g _ => Nat.zero_le _
  | .h _ => Nat.le_refl _
theorem lrow_none {p : Nat} : ∀ {more row : List Int}, OgM.Row (p : Nat) (row ++ more) → lrow p row more = none
  | [], _, _ => rfl
  | x :: more, row, h => by
    have hx : x ∈ row ++ x :: more := by simp
    unfold lrow
    rw [if_pos ⟨h.lo x hx, h.hi x hx⟩, if_neg fun hm => (List.nodup_append.mp h.nd).2.2 x hm x List.mem_cons_self rfl]
    exact lrow_none (by rw [List.append_assoc]; exact h)
section
variable {P : Program} {wd : World} {K : PySem.W.Frag} {mg : Str → Option Value} {base : Heap} {c : Nat → Addr} {cS : Addr}
def f_ways : FOb := fun c ds R => ∃ n p L row ns told, c = ⟨n, [stO p L row ns told]⟩ ∧ ds = [] ∧ Stt p row ns ∧ L.length ≤ 900 ∧ told.length ≤ 9000 ∧ n ≤ 850000 ∧ ∀ n' o', n' ≤ n + 20 → R (.ok (.bool true)) ⟨n', [o']⟩
theorem ok_l_ways_right (T : Top wd K mg) (Y : TopX K mg c) (Z : TopS K mg cS) (sn : StN K cS) : DefO P wd K mg base 14 "_law_ways_right" s_l_ways_right ["_law_box_here", "_law_hall"] cS true f_ways := by
  have sk := Z.sk
  have m_row := ok_S_row (P := P) (base := base) T Z
  have m_journal := ok_S_journal (P := P) (base := base) T Z
  have m_count := ok_S_count (P := P) (base := base) T Z
  have m_groups := ok_S_groups (P := P) (base := base) T Z
  have m_empty := ok_S_empty (P := P) (base := base) T Z
  have m_build := (ok_S_buildX (P := P) (base := base) T Y Z).o
  have m_build_all := (ok_S_build_allX (P := P) (base := base) T Y Z).o
  have m_turn := (ok_S_turnX (P := P) (base := base) T Z).o
  have m___eq__ := ok_S___eq__ (P := P) (base := base) T Z
  have N_twin := ok_S_twin (P := P) (base := base) T Y Z
  have g_count_orders := ok_count_orders (P := P) (base := base) T
  have g_l_strewn := ok_l_strewn (P := P) (base := base) T
  refine DefO.make T.d_l_ways_right sc_l_ways_right (fun c ds R h => by obtain ⟨_, _, _, _, _, _, rfl, rfl, _⟩ := h; rfl) (fun f cdv A outer s H G E x c ds R hG hr ht hC h => ?_)
  obtain ⟨n, p, L, row, ns, told, rfl, rfl, hS, hL, hT, hn, q⟩ := h
  refine ⟨_, _, (dss_newP2 2 3 (by rfl) sc_l_ways_right.nd (dn_meth0 1 N_twin sk.cl rfl hC hG (hr.mono (by omega))) hC (fun bx H0 hC => (dx_cons (DE.dx (DO.d (do_slL rfl (DE.p (de_cB 0 g_l_strewn hG (hr.mono (by omega)) (by rfl) (da_cons (de_meth0 1 m_empty sk.cl rfl hC hG (hr.mono (by omega))) da_nil))) do_none (do_some de_int)))) dx_nil)) (fun bx H0 hC =>
      (dss_cons (ds_for PassesOwn.never (by rfl) (di_seq rfl (de_v 3)) (dg_name 4 sc_l_ways_right.nd)
        (dss_one (ds_expr (de_meth 1 m_build sk.cl rfl hC hG (hr.mono (by omega)) (dh_data (da_cons (de_v 4) da_nil))))))
      (dss_cons (ds_if (DW.q (dw_or (dt_cmp (o_ne rfl hr.units) (DE.p (de_meth 2 m_build_all sk.cl rfl hC hG (hr.mono (by omega)) (dh_data (da_cons (de_v 3) da_nil)))) (DE.p (de_meth0 1 m_groups sk.cl rfl hC hG (hr.mono (by omega))))) (dw_or (dt_neO 2 1 m___eq__ sn rfl hC hG (hr.mono (by omega))) (dw_or1 (dt_cmp (o_ne rfl hr.units) (DE.p (de_meth0 1 m_count sk.cl rfl hC hG (hr.mono (by omega)))) (DE.p (de_c g_count_orders hG (hr.mono (by omega)) (by rfl) (da_cons (de_meth0 1 m_journal sk.cl rfl hC hG (hr.mono (by omega))) da_nil)))))))) (dss_one (ds_ret de_bl)) dss_nil)
      (dss_cons (ds_set 5 sc_l_ways_right.nd (de_meth0 1 m_row sk.cl rfl hC hG (hr.mono (by omega))))
      (dss_cons (ds_expr (de_meth0 1 m_turn sk.cl rfl hC hG (hr.mono (by omega))))
      (dss_cons (ds_if (DW.q (dw_or (dt_cmp (o_ne rfl hr.units) (DE.p (de_meth0 1 m_count sk.cl rfl hC hG (hr.mono (by omega)))) (DE.p (de_meth0 2 m_count sk.cl rfl hC hG (hr.mono (by omega))))) (dw_or (dt_cmp (o_ne rfl hr.units) (DE.p (de_meth0 1 m_groups sk.cl rfl hC hG (hr.mono (by omega)))) (DE.p (de_meth0 2 m_groups sk.cl rfl hC hG (hr.mono (by omega))))) (dw_or1 (dt_cmp (o_ne rfl hr.units) (DE.p (de_meth0 1 m_journal sk.cl rfl hC hG (hr.mono (by omega)))) (DE.p (de_meth0 2 m_journal sk.cl rfl hC hG (hr.mono (by omega))))))))) (dss_one (ds_ret de_bl)) dss_nil)
      (dss_cons (ds_expr (de_meth0 1 m_turn sk.cl rfl hC hG (hr.mono (by omega))))
      (dss_one (ds_ret (de_and (de_cmp (o_eq rfl hr.units) (DE.p (de_meth0 1 m_row sk.cl rfl hC hG (hr.mono (by omega)))) (dp_v 5)) (de_one (de_eqO 1 2 m___eq__ rfl hC hG (hr.mono (by omega))))))))))))))), ?_⟩
  have h16 := hS.pl
  have hle := hS.le
  walk_at "s12"
  refine ⟨0, p, L, row, ns, told, rfl, rfl, ?_⟩
  walk_at "s12"
  refine ⟨0, p, L, row, ns, told, rfl, rfl, hS, ?_⟩
  have eF : ((List.range p).filter fun (i : Nat) => decide ((i : Int) ∉ row)).map (fun (i : Nat) => PyData.int (i : Int)) = (((List.range p).filter fun (i : Nat) => decide ((i : Int) ∉ row)).map fun (i : Nat) => (i : Int)).map .int := by rw [List.map_map]; rfl
  rw [eF]
  have hfree : ∀ x ∈ ((List.range p).filter fun (i : Nat) => decide ((i : Int) ∉ row)).map fun (i : Nat) => (i : Int), (0 ≤ x ∧ x < (p : Int)) ∧ x ∉ row := fun x hx => by
    obtain ⟨i, hi, rfl⟩ := List.mem_map.mp hx
    have hx := List.mem_filter.mp hi
    have := List.mem_range.mp hx.1
    exact ⟨⟨by omega, by omega⟩, of_decide_eq_true hx.2⟩
  have hfl : (((List.range p).filter fun (i : Nat) => decide ((i : Int) ∉ row)).map fun (i : Nat) => (i : Int)).length ≤ 16 := by
    rw [List.length_map]
    have := List.length_filter_le (fun (i : Nat) => decide ((i : Int) ∉ row)) (List.range p)
    rw [List.length_range] at this
    omega
  have hfn : (((List.range p).filter fun (i : Nat) => decide ((i : Int) ∉ row)).map fun (i : Nat) => (i : Int)).Nodup := List.pairwise_map.mpr ((List.nodup_range.sublist List.filter_sublist).imp fun h e => h (by omega))
  generalize ((List.range p).filter (fun (i : Nat) => decide ((i : Int) ∉ row))).map (fun (i : Nat) => (i : Int)) = free at hfree hfl hfn
  refine ⟨_, free, rfl, rfl, rfl, by omega, by omega, fun ys n2 hp hn2 => ⟨_, rfl, ?_⟩⟩
  rw [show (some (4 : Int)) = some ((4 : Nat) : Int) from rfl, cutN, ← List.map_take]
  have hR : OgM.Row (p : Nat) (row ++ ys.take 4) := by
    have hrg : ∀ x ∈ ys.take 4, (0 ≤ x ∧ x < (p : Int)) ∧ x ∉ row := fun x hx => hfree x (hp.mem_iff.mp (List.mem_of_mem_take hx))
    refine ⟨?_, fun x hx => ?_, fun x hx => ?_⟩
    · rw [List.nodup_append]
      exact ⟨hS.isr.nd, (hp.nodup_iff.mpr hfn).sublist (List.take_sublist _ _), fun a ha b hb e => (hrg b hb).2 (e ▸ ha)⟩
    · rcases List.mem_append.mp hx with hx | hx
      · exact hS.isr.lo x hx
      · exact (hrg x hx).1.1
    · rcases List.mem_append.mp hx with hx | hx
      · exact hS.isr.hi x hx
      · exact (hrg x hx).1.2
  have hzl : (ys.take 4).length ≤ 4 := by rw [List.length_take]; omega
  generalize ys.take 4 = zs at hR hzl
  have hS2 : Stt p (row ++ zs) ns := stt_more hS (lrow_none hR)
  refine forD_by (fun i s => ∃ L2 told2 y4, L2.length ≤ L.length + i ∧ told2.length ≤ told.length + 2 * i ∧ s = ⟨[some .box, some (.ob 0), some (.ob 1), some (.d (.list (zs.map .int))), y4, none], ⟨n2, [stO p L2 (row ++ zs.take i) ns told2, stO p L row ns []]⟩⟩) ⟨L, told, none, Nat.le_refl _, Nat.le_refl _, by rw [List.take_zero, List.append_nil]; rfl⟩ (fun i d s J hi inv hJ => ?_) (fun s inv => ?_)
  · obtain ⟨L2, told2, y4, hL2, hT2, rfl⟩ := inv
    have hil := (List.getElem?_eq_some_iff.mp hi).1
    rw [List.length_map] at hil
    rw [List.getElem?_map] at hi
    obtain ⟨x, hx, rfl⟩ := Option.map_eq_some_iff.mp hi
    have htk : zs.take (i + 1) = zs.take i ++ [x] := by rw [List.take_add_one, hx]; rfl
    have hRi : OgM.Row (p : Nat) ((row ++ zs.take i) ++ [x]) := by
      have := hR.take (row.length + (i + 1))
      rw [List.take_append, Nat.add_sub_cancel_left, List.take_of_length_le (Nat.le_add_right _ _), htk, ← List.append_assoc] at this
      exact this
    have hRj : OgM.Row (p : Nat) (row ++ zs.take i) := by
      have := hR.take (row.length + i)
      rw [List.take_append, Nat.add_sub_cancel_left, List.take_of_length_le (Nat.le_add_right _ _)] at this
      exact this
    have hSi : Stt p (row ++ zs.take i) ns := stt_more hS (lrow_none hRj)
    walk_at "s12"
    refine ⟨0, p, L2, _, ns, told2, x, rfl, rfl, hSi, by omega, by omega, ?_⟩
    unfold bldO
    rw [lrow_none hRi]
    refine hJ _ ⟨L2 ++ [(row ++ zs.take i, ns)], _, _, by rw [List.length_append]; simp only [List.length_cons, List.length_nil]; omega, ?_, by rw [htk, ← List.append_assoc]; rfl⟩
    unfold inO
    rw [List.length_append, List.length_append]
    simp only [List.length_cons, List.length_nil]
    omega
  obtain ⟨L2, told2, y4, hL2, hT2, rfl⟩ := inv
  rw [List.length_map] at hL2 hT2
  rw [List.length_map, List.take_of_length_le (Nat.le_refl _)]
  walk_at "s12"
  refine ⟨0, p, L, row, ns, [], zs, _, rfl, rfl, .inr rfl, by omega, hS, by omega, Nat.zero_le _, ?_⟩
  unfold bldO
  rw [lrow_none hR]
  walk_at "s12"
  refine ⟨0, p, L2, _, ns, told2, rfl, rfl, hS2, ?_⟩
  refine ⟨rfl, ?_⟩
  rw [eqv_int, decide_eq_true rfl, if_neg (by decide)]
  walk_at "s12"
  refine ⟨0, p, L ++ [(row, ns)], row ++ zs, ns, _, p, L2, row ++ zs, ns, told2, rfl, rfl, hS2, hS2, ?_⟩
  rw [decide_eq_true ⟨rfl, rfl, rfl⟩]
  walk_at "s12"
  have hle2 := hS2.le
  refine ⟨0, p, L2, _, ns, told2, rfl, rfl, hS2, ?_⟩
  walk_at "s12"
  refine ⟨0, p, L2, _, ns, told2, rfl, rfl, by omega, ?_⟩
  refine ⟨_, p, (row ++ zs).length, ns, rfl, hS2.bk, ?_⟩
  refine ⟨rfl, ?_⟩
  rw [eqv_int, decide_eq_true rfl, if_neg (by decide)]
  walk_at "s12"
  refine ⟨0, p, L2, _, ns, told2, rfl, rfl, ?_⟩
  walk_at "s12"
  refine ⟨0, p, L2, _, ns, told2, rfl, rfl, by omega, by omega, by omega, ?_⟩
  have hl3 : (inO "turn" told2).length ≤ 9500 := by rw [inO_len]; omega
  generalize inO "turn" told2 = told3 at hl3
  generalize row ++ zs = row2 at *
  have hS3 := stt_mir hS2
  have hle3 := hS3.le
  walk_at "s12"
  refine ⟨0, p, _, _, ns, told3, rfl, rfl, hS3, ?_⟩
  walk_at "s12"
  refine ⟨0, p, L ++ [(row, ns)], _, ns, _, rfl, rfl, hS2, ?_⟩
  refine ⟨rfl, ?_⟩
  rw [mir_len, eqv_int, decide_eq_true rfl, if_neg (by decide)]
  walk_at "s12"
  refine ⟨0, p, _, _, ns, told3, rfl, rfl, hS3, ?_⟩
  walk_at "s12"
  refine ⟨0, p, L ++ [(row, ns)], _, ns, _, rfl, rfl, hS2, ?_⟩
  refine ⟨rfl, ?_⟩
  rw [segs_mir_len hS2.isr, eqv_int, decide_eq_true rfl, if_neg (by decide)]
  walk_at "s12"
  refine ⟨0, p, _, _, ns, told3, rfl, rfl, by omega, ?_⟩
  walk_at "s12"
  refine ⟨0, p, L ++ [(row, ns)], _, ns, _, rfl, rfl, by omega, ?_⟩
  have hbk : (bkT p (mirR (p : Nat) row2).length ns).eqv (bkT p row2.length ns) = true := by
    rw [mir_len]
    exact (bd_bkT (by omega) (by omega) hS2.small).rf
  refine ⟨hS3.shpB, hS2.shpB, ?_⟩
  rw [hbk, if_neg (by decide)]
  walk_at "s12"
  refine ⟨0, p, _, _, ns, told3, rfl, rfl, by omega, by rw [List.length_append]; simp only [List.length_cons, List.length_nil]; omega, by omega, ?_⟩
  rw [mir_mir]
  generalize inO "turn" told3 = told4
  walk_at "s12"
  refine ⟨0, p, _, row2, ns, told4, rfl, rfl, ?_⟩
  walk_at "s12"
  have hsr : Shp (rowT row2) := (bd_row6 hS2.isr (by omega) (by omega)).shp (by decide)
  refine ⟨hsr, hsr, ?_⟩
  rw [eqv_rowT, decide_eq_true rfl, if_pos rfl]
  refine ⟨0, p, _, row2, ns, told4, p, L ++ [(row, ns)], row2, ns, _, rfl, rfl, hS2, hS2, ?_⟩
  rw [decide_eq_true ⟨rfl, rfl, rfl⟩]
  exact ⟨_, rfl, q _ _ (by omega)⟩
end
theorem notes_len {k : Nat} {xs : List Nt} (ht : ∀ x ∈ xs, x.t < k) (hr : xs.Pairwise nLt) : xs.length ≤ 2 * k := by
  have := L2.nat_nodup_len (xs.map fun x => 2 * x.t + vOrd x.v) (List.range (2 * k)) (by
    refine List.pairwise_map.mpr (hr.imp fun {a b} h e => ?_)
    have h1 : vOrd a.v ≤ 1 := vOrd_le _
    have h2 : vOrd b.v ≤ 1 := vOrd_le _
    rcases h with h | h
    · omega
    · omega) (fun y hy => by
    obtain ⟨a, ha, rfl⟩ := List.mem_map.mp hy
    have h1 : vOrd a.v ≤ 1 := vOrd_le _
    have := ht a ha
    exact List.mem_range.mpr (by omega))
  rw [List.length_map, List.length_range] at this
  exact this
theorem truV_idem (row : List Int) (t : Nat) (v : NV) : truV row t (truV row t v) = truV row t v := by cases v <;> rfl
theorem Stt.note {p : Nat} {row : List Int} {ns : List Nt} {t : Nat} {v : NV} (h : Stt p row ns) (ht : t < row.length) (hno : ∀ y ∈ ns, ¬ (y.t = t ∧ sortS y.v = sortS v)) : Stt p row (insN ⟨t, truV row t v⟩ ns) := by
  have hsv : sortS (truV row t v) = sortS v := by cases v <;> rfl
  have hr : (insN ⟨t, truV row t v⟩ ns).Pairwise nLt := ins_rise h.sn.rise fun y hy e => hno y hy ⟨e.1, e.2.trans hsv⟩
  have hm : ∀ y ∈ insN ⟨t, truV row t v⟩ ns, y.t < row.length ∧ truV row y.t y.v = y.v := fun y hy => by
    rcases List.mem_append.mp ((ins_perm _ _).mem_iff.mp hy) with hy | hy
    · exact h.sn.tru y hy
    · rw [List.mem_singleton.mp hy]
      exact ⟨ht, truV_idem row t v⟩
  exact ⟨h.isr, h.le, h.pl, ⟨hm, hr, notes_len (fun x hx => (hm x hx).1) hr⟩⟩
theorem Stt.init {p : Nat} (h : p ≤ 16) : Stt p [] [] := ⟨⟨List.nodup_nil, (fun _ h => by cases h), (fun _ h => by cases h)⟩, Nat.zero_le _, h, ⟨(fun _ h => by cases h), .nil, Nat.zero_le _⟩⟩
/-- what it tells is small, and what it leaves is a street -/
theorem out_ok {p : Nat} {row : List Int} {ns : List Nt} (hS : Stt p row ns) {D : Deed} {d : PyData} {r : List Int} {m : List Nt} (h : outO p row ns D = .inl (d, r, m)) : Stt p r m ∧ Bd 1000 2 d := by
  have h16 := hS.pl
  have hle := hS.le
  cases D with
  | build x =>
    unfold outO at h
    cases e : lrow p row [x] with
    | none =>
      simp only [e] at h
      injection h with h
      injection h with h1 h
      injection h with h2 h3
      subst h1; subst h2; subst h3
      have hS2 := stt_more hS e
      have := hS2.le
      have := segs_len (row ++ [x])
      exact ⟨hS2, .flat (flb_n (by omega))⟩
    | some z => simp only [e] at h; cases h
  | all d xs =>
    unfold outO at h
    cases e : lrow p row xs with
    | none =>
      simp only [e] at h
      injection h with h
      injection h with h1 h
      injection h with h2 h3
      subst h1; subst h2; subst h3
      have hS2 := stt_more hS e
      have := hS2.le
      have := segs_len (row ++ xs)
      exact ⟨hS2, .flat (flb_n (by omega))⟩
    | some z => simp only [e] at h; cases h
  | note t v =>
    unfold outO at h
    by_cases hh : 0 ≤ t ∧ t < (row.length : Nat)
    · simp only [if_pos hh] at h
      cases e : ns.find? (nmN ⟨t.toNat, v⟩) with
      | some z => simp only [e] at h; cases h
      | none =>
        simp only [e] at h
        injection h with h
        injection h with h1 h
        injection h with h2 h3
        subst h1; subst h2; subst h3
        have hS2 : Stt p row (insN ⟨t.toNat, truV row t.toNat v⟩ ns) := hS.note (by omega) fun y hy e2 => (List.find?_eq_none.mp e y hy) (decide_eq_true e2)
        have hm : (⟨t.toNat, truV row t.toNat v⟩ : Nt) ∈ insN ⟨t.toNat, truV row t.toNat v⟩ ns := (ins_perm _ _).mem_iff.mpr (by simp)
        exact ⟨hS2, (bd_nt1 (hS2.small.sm hm)).up (by decide) (by decide)⟩
    · simp only [if_neg hh] at h; cases h
  | forget i x =>
    unfold outO at h
    by_cases hh : x ∈ ns
    · simp only [if_pos hh] at h
      injection h with h
      injection h with h1 h
      injection h with h2 h3
      subst h1; subst h2; subst h3
      exact ⟨stt_less hS _, .flat (flb_n (Nat.le_trans (FW_16 _ h16 hle) (by decide)))⟩
    · simp only [if_neg hh] at h; cases h
  | turn =>
    unfold outO at h
    injection h with h
    injection h with h1 h
    injection h with h2 h3
    subst h1; subst h2; subst h3
    exact ⟨stt_mir hS, .flat trivial⟩
theorem out_er {p : Nat} {row : List Int} {ns : List Nt} {D : Deed} {nm fld : Str} {d : PyData} (h : outO p row ns D = .inr (nm, fld, d)) : Er nm fld := by
  cases D with
  | build x =>
    unfold outO at h
    cases e : lrow p row [x] with
    | none => simp only [e] at h; cases h
    | some z => simp only [e] at h; cases h; exact lrow_er e
  | all d xs =>
    unfold outO at h
    cases e : lrow p row xs with
    | none => simp only [e] at h; cases h
    | some z => simp only [e] at h; cases h; exact lrow_er e
  | note t v =>
    unfold outO at h
    by_cases hh : 0 ≤ t ∧ t < (row.length : Nat)
    · simp only [if_pos hh] at h
      cases e : ns.find? (nmN ⟨t.toNat, v⟩) with
      | some z => simp only [e] at h; cases h; exact .inl ⟨rfl, rfl⟩
      | none => simp only [e] at h; cases h
    · simp only [if_neg hh] at h; cases h; exact .inr (.inr (.inr (.inl ⟨rfl, rfl⟩)))
  | forget i x =>
    unfold outO at h
    by_cases hh : x ∈ ns
    · simp only [if_pos hh] at h; cases h
    · simp only [if_neg hh] at h; cases h; exact .inr (.inl ⟨rfl, rfl⟩)
  | turn => unfold outO at h; cases h
inductive Chain (p : Nat) : List (List Int × List Nt) → List Int → List Nt → List (Deed × PyData) → Prop
  | init : Chain p [] [] [] []
  | step {L : List (List Int × List Nt)} {row row' : List Int} {ns ns' : List Nt} {st : List (Deed × PyData)} {D : Deed} {d : PyData} : Chain p L row ns st → D.ok → Bd 1000 3 D.d → outO p row ns D = .inl (d, row', ns') → Chain p (L ++ [(row, ns)]) row' ns' (st ++ [(D, d)])
variable {p : Nat} {L : List (List Int × List Nt)} {row : List Int} {ns : List Nt} {st : List (Deed × PyData)}
theorem Chain.stt (hp : p ≤ 16) (h : Chain p L row ns st) : Stt p row ns := by
  induction h with
  | init => exact .init hp
  | step _ _ _ e ih => exact (out_ok ih e).1
theorem Chain.len (h : Chain p L row ns st) : L.length = st.length := by
  induction h with
  | init => rfl
  | step _ _ _ _ ih => rw [List.length_append, List.length_append, ih]; rfl
theorem Chain.all (hp : p ≤ 16) (h : Chain p L row ns st) : ∀ x ∈ L ++ [(row, ns)], Stt p x.1 x.2 := by
  induction h with
  | init => exact fun x hx => by rw [List.mem_singleton.mp hx]; exact .init hp
  | step h0 a b e ih =>
    intro x hx
    rcases List.mem_append.mp hx with hx | hx
    · exact ih x hx
    · rw [List.mem_singleton.mp hx]
      exact (Chain.step h0 a b e).stt hp
theorem Chain.zero (h : Chain p L row ns st) : (L ++ [(row, ns)])[0]? = some ([], []) := by
  induction h with
  | init => rfl
  | step h0 a b e ih => rw [List.getElem?_append_left (by rw [List.length_append]; exact Nat.succ_pos _)]; exact ih
def stE (x : Deed × PyData) : PyData := .tuple [Deed.d x.1, .tuple [.str "told", x.2]]
/-- one step of it -/
structure StepAt (p : Nat) (A : List (List Int × List Nt)) (st : List (Deed × PyData)) (i : Nat) (D : Deed) (d : PyData) (r r' : List Int) (m m' : List Nt) : Prop where
  at_ : st[i]? = some (D, d)
  ok : D.ok
  bd : Bd 1000 3 D.d
  fr : A[i]? = some (r, m)
  to : A[i + 1]? = some (r', m')
  out : outO p r m D = .inl (d, r', m')
theorem Chain.get (h : Chain p L row ns st) : ∀ i, i < st.length → ∃ D d r r' m m', StepAt p (L ++ [(row, ns)]) st i D d r r' m m' := by
  induction h with
  | init => exact fun i hi => absurd hi (Nat.not_lt_zero _)
  | @step L row row' ns ns' st D d h0 a b e ih =>
    intro i hi
    have hl := h0.len
    rw [List.length_append] at hi
    simp only [List.length_cons, List.length_nil] at hi
    by_cases h1 : i < st.length
    · obtain ⟨D, d, r, r', m, m', z⟩ := ih i h1
      refine ⟨D, d, r, r', m, m', ?_, z.ok, z.bd, ?_, ?_, z.out⟩
      · rw [List.getElem?_append_left h1]; exact z.at_
      · rw [List.getElem?_append_left (by rw [List.length_append]; simp only [List.length_cons, List.length_nil]; omega)]; exact z.fr
      · rw [List.getElem?_append_left (by rw [List.length_append]; simp only [List.length_cons, List.length_nil]; omega)]; exact z.to
    · have h2 : i = st.length := by omega
      subst h2
      refine ⟨D, d, row, row', ns, ns', ?_, a, b, ?_, ?_, e⟩
      · rw [List.getElem?_append_right (Nat.le_refl _), Nat.sub_self]; rfl
      · rw [List.getElem?_append_left (by rw [List.length_append]; simp only [List.length_cons, List.length_nil]; omega), ← hl, List.getElem?_append_right (Nat.le_refl _), Nat.sub_self]; rfl
      · rw [List.getElem?_append_right (by rw [List.length_append]; simp only [List.length_cons, List.length_nil]; omega), List.length_append, ← hl]
        simp
theorem bd_stE {D : Deed} {d : PyData} (h : Bd 1000 3 D.d) (hd : Bd 1000 2 d) : Bd 1000 4 (stE (D, d)) := bd_tup (show 2 ≤ 1000 by decide) fun z hz => by
  simp only [List.mem_cons, List.not_mem_nil, or_false] at hz
  rcases hz with rfl | rfl
  · exact h
  · exact bd_tup (show 2 ≤ 1000 by decide) fun z hz => by
      simp only [List.mem_cons, List.not_mem_nil, or_false] at hz
      rcases hz with rfl | rfl
      · exact .flat (flb_lit _ (by decide +kernel))
      · exact hd
theorem Chain.bd (hp : p ≤ 16) (h : Chain p L row ns st) : ∀ x ∈ st.map stE, Bd 1000 4 x := by
  induction h with
  | init => exact fun x hx => nomatch hx
  | step h0 a b e ih =>
    intro x hx
    rw [List.map_append] at hx
    rcases List.mem_append.mp hx with hx | hx
    · exact ih x hx
    · rw [List.mem_singleton.mp hx]
      exact bd_stE b (out_ok (h0.stt hp) e).2
theorem eqv_nilS (st : List (Deed × PyData)) : PyData.eqv (.list (st.map stE)) (.list []) = st.isEmpty := by cases st <;> rfl
def logD (ws : List Str) : List PyData := ws.flatMap fun w => [.tuple [.str "in", .str w], .tuple [.str "out", .str w]]
theorem logD_in (ws : List Str) (w : Str) : inO w (logD ws) = logD (ws ++ [w]) := by
  unfold inO logD
  rw [List.flatMap_append, List.append_assoc]
  rfl
theorem logD_len (ws : List Str) : (logD ws).length = 2 * ws.length := by
  induction ws with
  | nil => rfl
  | cons w l ih =>
    have e : logD (w :: l) = .tuple [.str "in", .str w] :: .tuple [.str "out", .str w] :: logD l := rfl
    rw [e, List.length_cons, List.length_cons, ih, List.length_cons]
    omega
def logB (ws : List Str) : List (Bool × Str) := ws.flatMap fun w => [(true, w), (false, w)]
def encB (x : Bool × Str) : PyData := .tuple [.str (if x.1 = true then "in" else "out"), .str x.2]
theorem logD_enc (ws : List Str) : logD ws = (logB ws).map encB := by
  induction ws with
  | nil => rfl
  | cons w l ih =>
    have e : logD (w :: l) = .tuple [.str "in", .str w] :: .tuple [.str "out", .str w] :: logD l := rfl
    have e2 : logB (w :: l) = (true, w) :: (false, w) :: logB l := rfl
    rw [e, e2, List.map_cons, List.map_cons, ← ih]
    rfl
def fB (x : Bool × Str) : Option PyData := if x.1 = true then some (.str x.2) else none
theorem logB_f (ws : List Str) : (logB ws).filterMap fB = ws.map .str := by
  induction ws with
  | nil => rfl
  | cons w l ih =>
    have e2 : logB (w :: l) = (true, w) :: (false, w) :: logB l := rfl
    rw [e2, List.filterMap_cons, List.filterMap_cons, ih]
    rfl
theorem last_take {α : Type} {A : List α} {k : Nat} {x : α} (h : A[k]? = some x) : A.take (k + 1) = A.take k ++ [x] := by rw [List.take_add_one, h]; rfl
theorem at1 (x y : PyData) (l : List PyData) : atI (its (.tuple (x :: y :: l))) 1 = some y := by
  show atI (x :: y :: l) ((1 : Nat) : Int) = some y
  rw [at_nat (by simp)]
  rfl
theorem cut_init (l : List PyData) : Dw.cutD l none (some (-1)) = l.dropLast := by
  rw [List.dropLast_eq_take]
  unfold Dw.cutD HT.sIx
  simp
  try omega
section
variable {P : Program} {wd : World} {K : PySem.W.Frag} {mg : Str → Option Value} {base : Heap} {c : Nat → Addr} {cS : Addr}
theorem ok_l_right (T : Top wd K mg) (Y : TopX K mg c) (Z : TopS K mg cS) (sn : StN K cS) : Def P wd K mg base 16 "_law_right" s_l_right ["_law_box_here"] (spB K fRight) := by
  have sk := Z.sk
  have M_S := mk_S (P := P) (base := base) (wd := wd) Z
  have m_row := ok_S_row (P := P) (base := base) T Z
  have m_log := ok_S_log (P := P) (base := base) T Z
  have m_journal := ok_S_journal (P := P) (base := base) T Z
  have m___eq__ := ok_S___eq__ (P := P) (base := base) T Z
  have m_operations := (ok_S_operations (P := P) (base := base) T Z).o
  have m_undo := (ok_S_undo (P := P) (base := base) T Z).o
  have N_as_of := ok_S_as_of (P := P) (base := base) T Y Z
  have N_twin := ok_S_twin (P := P) (base := base) T Y Z
  have g_l_take := ok_l_take (P := P) (base := base) T
  have g_l_deed := ok_l_deed (P := P) (base := base) T
  have g_l_seen_of := ok_l_seen_of (P := P) (base := base) T Z
  have g_l_done := ok_l_done (P := P) (base := base) T Y Z
  have g_l_ways_right := ok_l_ways_right (P := P) (base := base) T Y Z sn
  have g_l_same := (ok_l_same (P := P) (base := base) T (w := 1000) (by decide) 4).imp (sp' := spP K (f_same (Bd 1000 4))) fun _ _ _ _ h => h
  refine Def.draws T.d_l_right sc_l_right (fun ds c R h => by obtain ⟨rfl, _⟩ := h; rfl) (fun f cdv A outer s H G l E ds c R hG hr h => ?_)
  obtain ⟨rfl, hc0, q⟩ := h
  have hC : OfS cS ([] : List Ob) := fun _ h => nomatch h
  refine ⟨_, _, (dss_cons (ds_set 1 sc_l_right.nd (de_cB 0 g_l_take hG (hr.mono (by omega)) (by rfl) (da_cons de_int da_nil)))
      (dss_newP3 2 3 4 (by rfl) sc_l_right.nd (dn_mk M_S (hr.mono (by omega)) (by rfl) (de_v 1)) hC (fun bx H0 hC => (dx_cons (DE.dx (DO.d (do_lst da_nil))) (dx_cons (DO.dx (do_lst da_nil)) dx_nil))) (fun bx H0 hC =>
      (dss_cons (ds_for PassesOwn.never (by rfl) (di_rng1 (by rfl) T.b_range (de_bin o_add (DE.p de_int) (DE.p (de_cB 0 g_l_take hG (hr.mono (by omega)) (by rfl) (da_cons de_int da_nil))))) (dg_name 5 sc_l_right.nd)
        (dss_one (ds_if (dt_cmp (o_eq rfl hr.units) (DE.p (de_cB 0 g_l_take hG (hr.mono (by omega)) (by rfl) (da_cons de_int da_nil))) (DE.p de_int)) (dss_cons (ds_if (dt_cmp (o_ne rfl hr.units) (DE.p (de_meth0 2 m_undo sk.cl rfl hC hG (hr.mono (by omega)))) (DE.p (de_cmp (o_ne rfl hr.units) (dp_v 3) (DE.p (DO.d (do_lst da_nil)))))) (dss_one (ds_ret de_bl)) dss_nil)
          (dss_cons (ds_set 3 sc_l_right.nd (DO.d (do_slL rfl (dp_v 3) do_none (do_some (de_neg de_int)))))
          (dss_one (ds_app 4 rfl de_str)))) (dss_cons (ds_set 6 sc_l_right.nd (de_cB 0 g_l_deed hG (hr.mono (by omega)) (by rfl) (da_cons (de_tup (da_cons (de_v 1) (da_cons (de_meth0 2 m_row sk.cl rfl hC hG (hr.mono (by omega))) (da_cons (de_ix rfl (DE.p (de_meth0 2 m_journal sk.cl rfl hC hG (hr.mono (by omega)))) (DE.p de_int)) da_nil)))) da_nil)))
          (dss_cons (ds_set 7 sc_l_right.nd (de_callO g_l_done rfl hC hG (hr.mono (by omega)) (by rfl) (dh_ob 2 (dh_data (da_cons (de_v 6) da_nil)))))
          (dss_cons (ds_set 3 sc_l_right.nd (DO.d (do_catP rfl (dp_v 3) (DE.p (DO.d (do_rep (DO.l (do_lst (da_cons (de_tup (da_cons (de_v 6) (da_cons (de_v 7) da_nil))) da_nil))) (de_toInt (by rfl) T.b_int (DE.p (de_cmp (o_eq rfl hr.units) (DE.p (de_ix rfl (dp_v 7) (DE.p de_int))) (DE.p de_str))))))))))
          (dss_one (ds_app 4 rfl (de_ix rfl (dp_v 6) (DE.p de_int))))))))))
      (dss_cons (ds_set 8 sc_l_right.nd (de_meth0 2 m_log sk.cl rfl hC hG (hr.mono (by omega))))
      (dss_cons (ds_if (DW.q (dw_or (dt_cmp (o_ne rfl hr.units) (DE.p (de_len rfl (by rfl) T.b_len (dp_v 8))) (DE.p (de_bin o_mul (DE.p de_int) (DE.p (de_len rfl (by rfl) T.b_len (dp_v 4)))))) (dw_or1 (dt_cmp (o_ne rfl hr.units) (DE.p (DO.d (do_lc (own := [("_law_side_so", 12), ("_law_word", 13)]) (by rfl) sc_l_right.nd (di_seq rfl (de_v 8)) (blkOk_by (own := [("_law_side_so", 12), ("_law_word", 13)]) (N := ["_law_box_here", "_law_count", "_law_hall", "_law_stood", "_law_words", "_law_turn", "_law_deed_here", "_law_told", "_law_log", "_law_anew", "_law_at", "_law_twin", "_law_side_so", "_law_word"]) (sc := defScope s_l_right) (by decide +kernel)) (fun _ _ _ _ _ => (dg_tup (n := 2) rfl (by rfl) (dgs_c (dg_name 12 sc_l_right.nd (hf := by first | exact Or.inr rfl | exact Or.inl rfl)) (dgs_c (dg_name 13 sc_l_right.nd (hf := by first | exact Or.inr rfl | exact Or.inl rfl)) dgs_nil)))) (ts_one fun _ _ _ _ _ => (dt_cmp (o_eq rfl hr.units) (dp_v 12) (DE.p de_str))) (fun _ _ _ _ _ => (de_v 13))))) (dp_v 4))))) (dss_one (ds_ret de_bl)) dss_nil)
      (dss_cons (ds_if (dt_cmp (o_ne rfl hr.units) (DE.p (de_meth0 2 m_operations sk.cl rfl hC hG (hr.mono (by omega)))) (DE.p (de_len rfl (by rfl) T.b_len (dp_v 3)))) (dss_one (ds_ret de_bl)) dss_nil)
      (dss_new 9 sc_l_right.nd (dn_mk M_S (hr.mono (by omega)) (by rfl) (de_v 1)) hC (fun bx H0 hC =>
      (dss_cons (ds_for PassesOwn.never (by rfl) (di_rng1 (by rfl) T.b_range (de_bin o_add (DE.p (de_len rfl (by rfl) T.b_len (dp_v 3))) (DE.p de_int))) (dg_name 10 sc_l_right.nd)
        (dss_cons (ds_if (DW.q (dw_or (dt_not (dt_val (de_c g_l_same hG (hr.mono (by omega)) (by rfl) (da_cons (de_callO g_l_seen_of rfl hC hG (hr.mono (by omega)) (by rfl) (dh_ob 9 (dh_data da_nil))) (da_cons (de_callT g_l_seen_of (dn_meth 2 N_as_of sk.cl rfl hC hG (hr.mono (by omega)) (da_cons (de_v 10) da_nil)) rfl hC hG (hr.mono (by omega)) (by rfl)) da_nil))))) (dw_or1 (dt_neT 9 m___eq__ sn (dn_meth 2 N_as_of sk.cl rfl hC hG (hr.mono (by omega)) (da_cons (de_v 10) da_nil)) rfl hC hG (hr.mono (by omega)))))) (dss_one (ds_ret de_bl)) dss_nil)
        (dss_one (ds_if (DW.q (dw_and (dt_cmp o_lt (dp_v 10) (DE.p (de_len rfl (by rfl) T.b_len (dp_v 3)))) (dw_and1 (dt_not (dt_val (de_c g_l_same hG (hr.mono (by omega)) (by rfl) (da_cons (de_callO g_l_done rfl hC hG (hr.mono (by omega)) (by rfl) (dh_ob 9 (dh_data (da_cons (de_ix rfl (DE.p (de_ix rfl (dp_v 3) (dp_v 10))) (DE.p de_int)) da_nil)))) (da_cons (de_ix rfl (DE.p (de_ix rfl (dp_v 3) (dp_v 10))) (DE.p de_int)) da_nil)))))))) (dss_one (ds_ret de_bl)) dss_nil))))
      (dss_new 11 sc_l_right.nd (dn_meth0 2 N_twin sk.cl rfl hC hG (hr.mono (by omega))) hC (fun bx H0 hC =>
      (dss_cons (ds_for PassesOwn.never (by rfl) (di_rng1 (by rfl) T.b_range (de_len rfl (by rfl) T.b_len (dp_v 3))) (dg_name 10 sc_l_right.nd)
        (dss_cons (ds_if (DW.q (dw_or (dt_cmp o_notB (DE.p (de_meth0 2 m_undo sk.cl rfl hC hG (hr.mono (by omega)))) (DE.p de_bl)) (dw_or1 (dt_cmp o_notB (DE.p (de_meth0 9 m_undo sk.cl rfl hC hG (hr.mono (by omega)))) (DE.p de_bl))))) (dss_one (ds_ret de_bl)) dss_nil)
        (dss_one (ds_if (dt_not (dt_val (de_c g_l_same hG (hr.mono (by omega)) (by rfl) (da_cons (de_callO g_l_seen_of rfl hC hG (hr.mono (by omega)) (by rfl) (dh_ob 2 (dh_data da_nil))) (da_cons (de_callO g_l_seen_of rfl hC hG (hr.mono (by omega)) (by rfl) (dh_ob 9 (dh_data da_nil))) da_nil))))) (dss_one (ds_ret de_bl)) dss_nil))))
      (dss_one (ds_ret (de_and (de_cmp o_isB (DE.p (de_meth0 2 m_undo sk.cl rfl hC hG (hr.mono (by omega)))) (DE.p de_bl)) (de_and (de_eqT 2 m___eq__ (dn_mk M_S (hr.mono (by omega)) (by rfl) (de_v 1)) rfl hC hG (hr.mono (by omega))) (de_one (de_callO g_l_ways_right rfl hC hG (hr.mono (by omega)) (by rfl) (dh_box 0 (dh_ob 11 (dh_data da_nil)))))))))))))))))))))), ?_⟩
  walk_at "s12"
  refine ⟨10, rfl, by decide, by decide, by omega, fun r1 c1 a0 a1 hc1 => ⟨_, rfl, ?_⟩⟩
  obtain ⟨p, rfl⟩ := Int.eq_ofNat_of_zero_le a0
  have hp16 : p ≤ 16 := by omega
  trace_state
  refine ⟨40, rfl, by decide, by decide, by omega, fun r2 c2 b0 b1 hc2 => ⟨_, rfl, by omega, by omega, ?_⟩⟩
  obtain ⟨k, hk⟩ : ∃ k : Nat, 1 + r2 = (k : Int) := ⟨(1 + r2).toNat, by omega⟩
  rw [hk, iota_nat]
  refine forD_by (fun i s => ∃ cn L row ns st ws y5 y6 y7, Chain p L row ns st ∧ st.length ≤ i ∧ ws.length = i ∧ (∀ w ∈ ws, FlB (.str w)) ∧ cn ≤ c2 + 21 * i ∧ s = ⟨[some .box, some (.d (.int (p : Nat))), some (.ob 0), some (.d (.list (st.map stE))), some (.own (ws.map .str)), y5, y6, y7, none, none, none, none, none, none], ⟨cn, [stO p L row ns (logD ws)]⟩⟩) ⟨c2, [], [], [], [], [], none, none, none, .init, Nat.le_refl _, rfl, (fun _ h => nomatch h), by omega, rfl⟩ (fun i d s J hi inv hJ => ?_) (fun s inv => ?_)
  · obtain ⟨cn, L, row, ns, st, ws, y5, y6, y7, hch, hst, hws, hwb, hcn, rfl⟩ := inv
    have hil := (List.getElem?_eq_some_iff.mp hi).1
    rw [List.length_map, List.length_range] at hil
    rw [List.getElem?_map, List.getElem?_range hil] at hi
    cases hi
    have hS := hch.stt hp16
    have hLl := hch.len
    have hll := logD_len ws
    have hsh : Shp (.list (st.map stE)) := (show Bd 1000 5 _ from bd_lst (by rw [List.length_map]; omega) (hch.bd hp16)).shp (by decide)
    walk_at "s12"
    refine ⟨6, rfl, by decide, by decide, by omega, fun r3 c3 d0 d1 hc3 => ⟨rfl, ?_⟩⟩
    rw [eqv_int]
    by_cases h0 : r3 = 0
    · rw [if_pos (decide_eq_true h0)]
      refine ⟨0, p, L, row, ns, logD ws, rfl, rfl, by omega, ?_⟩
      have hwu : ∀ w ∈ ws ++ [("undo" : Str)], FlB (.str w) := fun w hw => by
        rcases List.mem_append.mp hw with hw | hw
        · exact hwb w hw
        · rw [List.mem_singleton.mp hw]
          exact flb_lit _ (by decide +kernel)
      have hwl : (ws ++ [("undo" : Str)]).length = i + 1 := by rw [List.length_append, hws]; rfl
      have hwm : ws.map PyData.str ++ [.str "undo"] = (ws ++ [("undo" : Str)]).map .str := by rw [List.map_append]; rfl
      unfold undO
      rw [logD_in, hwm]
      cases hch with
      | init =>
        show Shp _ ∧ _
        refine ⟨hsh, rfl, rfl, ?_⟩
        rw [eqv_nilS]
        refine ⟨by rw [List.length_map]; omega, hJ _ ⟨c3, [], [], [], [], _, _, _, _, .init, Nat.zero_le _, hwl, hwu, by omega, rfl⟩⟩
      | @step L0 r0 _ n0 _ st0 D d h1 h2 h3 h4 =>
        rw [show (L0 ++ [(r0, n0)]).getLast? = some (r0, n0) by simp, show (L0 ++ [(r0, n0)]).dropLast = L0 by simp]
        show Shp _ ∧ _
        refine ⟨hsh, rfl, rfl, ?_⟩
        rw [eqv_nilS, show (st0 ++ [(D, d)]).isEmpty = false by simp]
        rw [show Dw.cutD ((st0 ++ [(D, d)]).map stE) none (some (-1)) = st0.map stE by rw [cut_init, List.map_append]; simp]
        rw [List.length_append] at hst
        simp only [List.length_cons, List.length_nil] at hst
        refine ⟨by rw [List.length_map]; omega, hJ _ ⟨c3, L0, r0, n0, st0, _, _, _, _, h1, by omega, hwl, hwu, by omega, rfl⟩⟩
    rw [if_neg (by rw [decide_eq_false h0]; decide)]
    refine ⟨0, p, L, row, ns, logD ws, rfl, rfl, ?_⟩
    walk_at "s12"
    refine ⟨0, p, L, row, ns, logD ws, rfl, rfl, by have := hS.le; omega, rfl, _, rfl, ?_⟩
    refine ⟨p, row, ns, rfl, hS, by omega, fun D c4 hok hbd hc4 => ?_⟩
    walk_at "s12"
    refine ⟨0, p, L, row, ns, logD ws, D, rfl, rfl, hok, hS, by omega, by omega, ?_⟩
    obtain ⟨dr, hdr⟩ := deed_at0 D
    have hwu : ∀ w ∈ ws ++ [D.nm], FlB (.str w) := fun w hw => by
      rcases List.mem_append.mp hw with hw | hw
      · exact hwb w hw
      · rw [List.mem_singleton.mp hw]
        cases D <;> exact flb_lit _ (by decide +kernel)
    have hwl : (ws ++ [D.nm]).length = i + 1 := by rw [List.length_append, hws]; rfl
    have hwm : ws.map PyData.str ++ [.str D.nm] = (ws ++ [D.nm]).map .str := by rw [List.map_append]; rfl
    refine doO_eq (fun d r m e => ?_) (fun nm fld d e => ?_)
    · rw [logD_in]
      walk_at "s12"
      refine ⟨rfl, _, at0 _ _, shp_str _, 1, by rw [if_pos (by rw [eqv_str]; decide +kernel)]; rfl, by decide, by decide, by rw [List.length_map]; show st.length + 1 ≤ 100000; omega, ?_⟩
      rw [show (st.map stE ++ (List.replicate 1 [PyData.tuple [D.d, ocD (Oc.ok d)]]).flatten) = (st ++ [(D, d)]).map stE by rw [List.map_append]; rfl]
      rw [hdr]
      refine ⟨rfl, _, at0 _ _, by rw [List.length_map]; omega, ?_⟩
      rw [hwm, ← hdr]
      refine hJ _ ⟨c4, L ++ [(row, ns)], r, m, st ++ [(D, d)], _, _, _, _, .step hch hok hbd e, by rw [List.length_append]; simp only [List.length_cons, List.length_nil]; omega, hwl, hwu, by omega, rfl⟩
    · rw [logD_in]
      walk_at "s12"
      have hns : Shp (.str nm) := by
        rcases out_er e with ⟨rfl, _⟩ | ⟨rfl, _⟩ | ⟨rfl, _⟩ | ⟨rfl, _⟩ | ⟨rfl, _⟩ <;> exact shp_str _
      have hne : nm ≠ ("told" : Str) := by
        rcases out_er e with ⟨rfl, _⟩ | ⟨rfl, _⟩ | ⟨rfl, _⟩ | ⟨rfl, _⟩ | ⟨rfl, _⟩ <;> decide +kernel
      refine ⟨rfl, _, at0 _ _, hns, 0, by rw [if_neg (by rw [eqv_str, decide_eq_true_eq]; exact hne)]; rfl, by decide, by decide, by rw [List.length_map]; show st.length + 0 ≤ 100000; omega, ?_⟩
      rw [show (st.map stE ++ (List.replicate 0 [PyData.tuple [D.d, ocD (Oc.ex nm fld d)]]).flatten) = st.map stE from List.append_nil _]
      rw [hdr]
      refine ⟨rfl, _, at0 _ _, by rw [List.length_map]; omega, ?_⟩
      rw [hwm, ← hdr]
      refine hJ _ ⟨c4, L, row, ns, st, _, _, _, _, hch, by omega, hwl, hwu, by omega, rfl⟩
  obtain ⟨cn, L, row, ns, st, ws, y5, y6, y7, hch, hst, hws, hwb, hcn, rfl⟩ := inv
  rw [List.length_map, List.length_range] at hst hws hcn
  have hS := hch.stt hp16
  have hLl := hch.len
  have hll := logD_len ws
  have hle := hS.le
  have hws : ws.length ≤ 40 := by omega
  have hst : st.length ≤ 40 := by omega
  have hcn : cn ≤ c + 860 := by omega
  clear hc1 hc2 hk b1 a1
  walk_at "s12"
  refine ⟨0, p, L, row, ns, logD ws, rfl, rfl, ?_⟩
  refine ⟨(logD ws).length, rfl, .inl ⟨by decide, by decide⟩, ?_⟩
  rw [if_neg (fun z => z (by rw [List.length_map]; omega))]
  refine ⟨rfl, ?_⟩
  show LcD (logD ws) _ _ _ _ _ _
  rw [logD_enc ws]
  have hbl : (logB ws).length ≤ 100 := by have := congrArg List.length (logD_enc ws); rw [List.length_map] at this; omega
  refine lcD_enc (logB ws) encB fB (by omega) (fun x hx acc J hacc h1 h0 => ?_) ?_
  · obtain ⟨b, w⟩ := x
    have hfb : FlB (.str w) := by
      obtain ⟨w2, hw2, hx2⟩ := List.mem_flatMap.mp hx
      simp only [List.mem_cons, List.not_mem_nil, or_false, Prod.mk.injEq] at hx2
      rcases hx2 with ⟨_, rfl⟩ | ⟨_, rfl⟩ <;> exact hwb _ hw2
    unfold encB
    walk_at "s12"
    cases b with
    | true =>
      refine ⟨shp_str _, ?_⟩
      rw [if_pos (by rfl)]
      exact ⟨hacc, h1 _ rfl⟩
    | false =>
      refine ⟨shp_str _, ?_⟩
      have hne : ¬ ((if false = true then ("in" : Str) else ("out" : Str)) = ("in" : Str)) := by
        rw [if_neg (by decide)]
        decide +kernel
      rw [if_neg hne]
      exact h0 rfl
  rw [logB_f]
  have htl : ((logB ws).map encB).length ≤ 100 := by rw [List.length_map]; exact hbl
  generalize (logB ws).map encB = told at htl
  have hwB : Bd 1000 1 (.list (ws.map .str)) := bd_lst (by rw [List.length_map]; omega) fun z hz => by
    obtain ⟨w, hw, rfl⟩ := List.mem_map.mp hz
    exact .flat (hwb w hw)
  walk_at "s12"
  refine ⟨hwB.shp (by decide), hwB.shp (by decide), ?_⟩
  rw [hwB.rf, if_neg (by decide)]
  refine ⟨0, p, L, row, ns, told, rfl, rfl, ?_⟩
  refine ⟨rfl, ?_⟩
  rw [List.length_map, hLl, eqv_int, decide_eq_true rfl, if_neg (by decide)]
  refine ⟨by omega, by omega, ?_⟩
  rw [show ((st.length : Nat) : Int) + 1 = ((st.length + 1 : Nat) : Int) by omega, iota_nat]
  have hA : (L ++ [(row, ns)]).length = st.length + 1 := by rw [List.length_append, hLl]; rfl
  have hAl : (L ++ [(row, ns)])[st.length]? = some (row, ns) := by rw [← hLl, List.getElem?_append_right (Nat.le_refl _), Nat.sub_self]; rfl
  refine forD_by (fun i s => ∃ r m told2 y10, (L ++ [(row, ns)])[min i st.length]? = some (r, m) ∧ told2.length ≤ 2 * i ∧ s = ⟨[some .box, some (.d (.int (p : Nat))), some (.ob 0), some (.d (.list (st.map stE))), some (.own (ws.map .str)), y5, y6, y7, some (.d (.list told)), some (.ob 1), y10, none, none, none], ⟨cn, [stO p L row ns told, stO p ((L ++ [(row, ns)]).take (min i st.length)) r m told2]⟩⟩) ⟨[], [], [], none, by rw [Nat.zero_min]; exact hch.zero, Nat.le_refl _, by rw [Nat.zero_min]; rfl⟩ (fun i d s J hi inv hJ => ?_) (fun s inv => ?_)
  · obtain ⟨r, m, told2, y10, hrm, ht2, rfl⟩ := inv
    have hil := (List.getElem?_eq_some_iff.mp hi).1
    rw [List.length_map, List.length_range] at hil
    rw [List.getElem?_map, List.getElem?_range hil] at hi
    cases hi
    rw [Nat.min_eq_left (by omega)] at hrm ⊢
    have hSi : Stt p r m := hch.all hp16 _ (List.mem_of_getElem? hrm)
    have htl2 : ((L ++ [(row, ns)]).take i).length = i := by rw [List.length_take]; omega
    walk_at "s12"
    refine ⟨0, p, _, r, m, told2, rfl, rfl, hSi, ?_⟩
    walk_at "s12"
    refine ⟨0, p, L, row, ns, told, (i : Nat), rfl, rfl, ?_⟩
    unfold asO
    rw [if_pos ⟨by omega, by omega⟩, Int.toNat_natCast, last_take hrm]
    walk_at "s12"
    refine ⟨0, p, _, r, m, [], rfl, rfl, hSi, ?_⟩
    refine ⟨_, rfl, bd_tell hSi (by omega), ?_⟩
    walk_at "s12"
    refine ⟨0, p, L, row, ns, told, (i : Nat), rfl, rfl, ?_⟩
    unfold asO
    rw [if_pos ⟨by omega, by omega⟩, Int.toNat_natCast, last_take hrm]
    walk_at "s12"
    refine ⟨by decide, _, rfl, 0, p, _, r, m, told2, p, _, r, m, [], rfl, rfl, hSi, hSi, ?_⟩
    rw [decide_eq_true ⟨rfl, rfl, rfl⟩]
    refine ⟨true, rfl, ?_⟩
    rw [if_neg (by decide), List.length_map]
    by_cases hlt : i < st.length
    · rw [if_pos (by omega)]
      obtain ⟨D, d, r2, r', m2, m', z⟩ := hch.get i hlt
      have e1 := z.fr
      rw [hrm] at e1
      cases e1
      have hs1 : atI (st.map stE) ((i : Nat) : Int) = some (stE (D, d)) := by
        rw [at_nat (by rw [List.length_map]; exact hlt), List.getElem?_map, z.at_]
        rfl
      refine ⟨_, hs1, rfl, _, at0 _ _, _, rfl, 0, p, _, r, m, told2, D, rfl, rfl, z.ok, hSi, by omega, by omega, ?_⟩
      refine doO_eq (fun d2 r3 m3 e => ?_) (fun nm fld d2 e => ?_)
      · rw [z.out] at e
        cases e
        refine ⟨_, hs1, rfl, _, at1 _ _ _, ?_⟩
        refine ⟨.tuple [.str "told", d], rfl, ?_, true, rfl, ?_⟩
        · exact bd_tup (show 2 ≤ 1000 by decide) fun y hy => by
            simp only [List.mem_cons, List.not_mem_nil, or_false] at hy
            rcases hy with rfl | rfl
            · exact .flat (flb_lit _ (by decide +kernel))
            · exact (out_ok hSi z.out).2.up (Nat.le_refl _) (by decide)
        rw [if_neg (by decide)]
        refine hJ _ ⟨r', m', inO D.nm told2, some (.d (.int (i : Nat))), by rw [Nat.min_eq_left (by omega)]; exact z.to, ?_, ?_⟩
        · rw [inO_len]
          omega
        · rw [Nat.min_eq_left (by omega), last_take hrm]
          rfl
      · rw [z.out] at e
        cases e
    · rw [if_neg (by omega)]
      have hi2 : i = st.length := by omega
      subst hi2
      refine hJ _ ⟨r, m, told2, some (.d (.int ((st.length : Nat) : Int))), by rw [Nat.min_eq_right (by omega)]; exact hrm, by omega, by rw [Nat.min_eq_right (by omega)]; rfl⟩
  obtain ⟨r, m, told2, y10, hrm, ht2, rfl⟩ := inv
  rw [List.length_map, List.length_range] at hrm ht2
  rw [List.length_map, List.length_range]
  rw [Nat.min_eq_right (by omega)] at hrm ⊢
  rw [hAl] at hrm
  cases hrm
  have hAt : (L ++ [(row, ns)]).take st.length = L := by rw [← hLl]; simp
  rw [hAt]
  walk_at "s12"
  refine ⟨0, p, L, row, ns, told, rfl, rfl, ?_⟩
  rw [List.length_map]
  refine ⟨by omega, by omega, ?_⟩
  rw [iota_nat]
  refine forD_by (fun i s => ∃ r m t1 t2 y10, (L ++ [(row, ns)])[st.length - i]? = some (r, m) ∧ t1.length ≤ 200 + 2 * i ∧ t2.length ≤ 200 + 2 * i ∧ s = ⟨[some .box, some (.d (.int (p : Nat))), some (.ob 0), some (.d (.list (st.map stE))), some (.own (ws.map .str)), y5, y6, y7, some (.d (.list told)), some (.ob 1), y10, some (.ob 2), none, none], ⟨cn, [stO p ((L ++ [(row, ns)]).take (st.length - i)) r m t1, stO p ((L ++ [(row, ns)]).take (st.length - i)) r m t2, stO p L row ns []]⟩⟩) ⟨row, ns, told, told2, y10, hAl, by omega, by omega, by rw [Nat.sub_zero, hAt]; rfl⟩ (fun i d s J hi inv hJ => ?_) (fun s inv => ?_)
  · obtain ⟨r, m, t1, t2, y10, hrm, ht1, ht2, rfl⟩ := inv
    have hil := (List.getElem?_eq_some_iff.mp hi).1
    rw [List.length_map, List.length_range] at hil
    rw [List.getElem?_map, List.getElem?_range hil] at hi
    cases hi
    obtain ⟨k, hk⟩ : ∃ k, st.length - i = k + 1 := ⟨st.length - i - 1, by omega⟩
    obtain ⟨⟨r2, m2⟩, hk2⟩ : ∃ x, (L ++ [(row, ns)])[k]? = some x := ⟨_, List.getElem?_eq_getElem (by omega)⟩
    have hSk : Stt p r2 m2 := hch.all hp16 _ (List.mem_of_getElem? hk2)
    have hkl : ((L ++ [(row, ns)]).take k).length ≤ 100 := by rw [List.length_take]; omega
    rw [hk, last_take hk2]
    walk_at "s12"
    refine ⟨0, p, _, r, m, t1, rfl, rfl, by omega, ?_⟩
    unfold undO
    rw [show ((L ++ [(row, ns)]).take k ++ [(r2, m2)]).getLast? = some (r2, m2) by simp, show ((L ++ [(row, ns)]).take k ++ [(r2, m2)]).dropLast = (L ++ [(row, ns)]).take k by simp]
    walk_at "s12"
    refine ⟨0, p, _, r, m, t2, rfl, rfl, by omega, ?_⟩
    unfold undO
    rw [show ((L ++ [(row, ns)]).take k ++ [(r2, m2)]).getLast? = some (r2, m2) by simp, show ((L ++ [(row, ns)]).take k ++ [(r2, m2)]).dropLast = (L ++ [(row, ns)]).take k by simp]
    walk_at "s12"
    refine ⟨0, p, _, r2, m2, _, rfl, rfl, hSk, ?_⟩
    walk_at "s12"
    refine ⟨0, p, _, r2, m2, _, rfl, rfl, hSk, ?_⟩
    refine ⟨_, rfl, bd_tell hSk (by omega), ?_⟩
    walk_at "s12"
    have hk3 : st.length - (i + 1) = k := by omega
    refine hJ _ ⟨r2, m2, inO "undo" t1, inO "undo" t2, some (.d (.int (i : Nat))), by rw [hk3]; exact hk2, by rw [inO_len]; omega, by rw [inO_len]; omega, by rw [hk3]⟩
  obtain ⟨r, m, t1, t2, y10, hrm, ht1, ht2, rfl⟩ := inv
  rw [List.length_map, List.length_range] at hrm ht1 ht2
  rw [List.length_map, List.length_range]
  rw [Nat.sub_self] at hrm ⊢
  rw [hch.zero] at hrm
  cases hrm
  rw [List.take_zero]
  walk_at "s12"
  refine ⟨0, p, [], [], [], t1, rfl, rfl, by omega, ?_⟩
  unfold undO
  walk_at "s12"
  show [0, 3].Nodup ∧ _
  refine ⟨by decide, _, rfl, 0, p, [], [], [], _, p, [], [], [], [], rfl, rfl, .init hp16, .init hp16, ?_⟩
  rw [decide_eq_true ⟨rfl, rfl, rfl⟩]
  refine ⟨true, rfl, ?_⟩
  rw [if_pos (by decide)]
  exact ⟨_, rfl, cn, p, L, row, ns, [], rfl, rfl, hS, by omega, Nat.zero_le _, by omega, fun n' o' hn' => q n' (by omega)⟩
end
section
variable {P : Program} {wd : World} {K : PySem.W.Frag} {mg : Str → Option Value} {base : Heap}
theorem ok_l_cell_at (T : Top wd K mg) : Def P wd K mg base 1 "_law_cell_at" s_l_cell_at ["_law_script", "_law_k"] (spCel K) := by
  obtain ⟨f, fd, F, b, m⟩ := T.d_l_cell_at.ex
  refine ⟨f, fd, fnG_of F sc_l_cell_at (fun vs H Q E h => ?_) (fun cdv A outer s H vs Q E hG hr h => ?_), F, b, m⟩
  · obtain ⟨a, ns, k, rfl, _⟩ := h
    rfl
  · obtain ⟨a, ns, j, rfl, hS, q⟩ := h
    refine ⟨_, pss_cons (ps_if (pt_cmpR op_lt (pv 1) (pe_callB call_len_seq (by rfl) T.b_len PySem.boot_len (pa_cons (pv 0) pa_nil)) (nomark _))
        (pss_one (ps_ret (pe_ix ix_list (pv 0) (pv 1) (fun _ _ => rfl)))) pss_nil)
      (pss_one (ps_ret pe_int)), ?_⟩
    refine ⟨_, rfl, _, rfl, a, _, rfl, .inl hS, _, _, rfl, rfl, _, rfl, ite2 (fun e => ?_) (fun e => ?_)⟩
    · have h1 := of_decide_eq_true e
      rw [List.length_map] at h1
      have hj : j < ns.length := by omega
      refine ⟨_, rfl, _, rfl, a, _, _, _, rfl, rfl, hS, atI_nat (j := j) (v := .int ns[j]) ?_, ?_⟩
      · rw [List.getElem?_map, List.getElem?_eq_getElem hj]; rfl
      · rw [List.getD_eq_getElem?_getD, List.getElem?_eq_getElem hj] at q
        exact q
    · have hj : ¬ j < ns.length := fun z => e (decide_eq_true (by rw [List.length_map]; omega))
      rw [List.getD_eq_getElem?_getD, List.getElem?_eq_none (by omega)] at q
      exact q
theorem ok_l_box (T : Top wd K mg) : Def P wd K mg base 2 "_law_box" s_l_box ["_law_script", "_law_k"] (spBox K) := by
  obtain ⟨fC, fdC, GC, FC, bC, gC⟩ := (ok_l_cell_at (P := P) (base := base) T).ex
  obtain ⟨f, fd, F, b, m⟩ := T.d_l_box.ex
  refine ⟨f, fd, fnG_of F sc_l_box (fun vs H Q E h => ?_) (fun cdv A outer s H vs Q E hG hr h => ?_), F, b, m⟩
  · obtain ⟨a, ns, k, rfl, _⟩ := h
    rfl
  · obtain ⟨a, ns, j, rfl, hS, hj, q⟩ := h
    refine ⟨_, pss_cons (ps_set (i := 2) sc_l_box.nd rfl (.inl rfl) (pe_callG (E := E0) GC hG hr (by rfl) gC FC.kp bC (pa_cons (pv 0) (pa_cons (pv 1) pa_nil))))
      (pss_one (ps_ret (pe_lst (pa_cons (pe_op op_mul (pe_callB call_abs (by rfl) T.b_abs (by decide +kernel) (pa_cons (pv 2) pa_nil))
            (pe_callTy call_int1 (by rfl) T.b_int (by decide +kernel) (pa_cons (pe_cmpR op_ge (pe_callB call_abs (by rfl) T.b_abs (by decide +kernel) (pa_cons (pv 2) pa_nil)) (pe_op op_pow pe_int pe_int) (nomark _)) pa_nil)))
          (pa_cons (pe_op op_add (pe_op op_add (pe_op op_mod (pv 2) pe_int) (pe_op op_mul pe_int (pv 1))) pe_int) (pa_cons pe_int pa_nil)))))), ?_⟩
    refine ⟨_, rfl, _, rfl, a, ns, j, rfl, hS, ?_⟩
    generalize ns.getD j 0 = c
    refine ⟨_, rfl, _, rfl, _, rfl, _, rfl, _, _, rfl, rfl, ⟨by decide, by decide, by decide⟩, _, _, rfl, rfl, .inr ⟨_, rfl, _, _, rfl, rfl, .inr ?_, ?_⟩⟩
    · exact box01 _
    · refine ⟨_, rfl, _, _, rfl, rfl, (show (0 : Int) < 2305843009213693951 by decide), _, rfl, _, _, rfl, rfl, .inl ⟨by decide, by decide⟩, _, _, rfl, rfl, _, _, rfl, rfl, (show 3 ≤ sizeLine by decide), fun l hl => ?_⟩
      refine q l _ _ hl ?_ ?_ ?_
      · split <;> split <;> simp <;> omega
      · have := Int.emod_nonneg c (show (2305843009213693951 : Int) ≠ 0 by decide); omega
      · have := Int.emod_lt_of_pos c (show (0 : Int) < 2305843009213693951 by decide); omega
theorem ok_law {c : Nat → Addr} {f cS : Addr} {fd : FuncData} (F : Fun K "law" "law" s_law f fd) (T : Top wd K mg) (Y : TopX K mg c) (Z : TopS K mg cS) (sn : StN K cS) : FnG P wd K mg base 17 f fd ["_law_script"] (spLaw K) := by
  obtain ⟨fB, fdB, GB, FB, bB, gB⟩ := ((ok_l_box (P := P) (base := base) T).mono (show 2 ≤ 16 by decide)).ex
  obtain ⟨fR, fdR, GR, FR, bR, gR⟩ := (right_of (ok_l_right (P := P) (base := base) T Y Z sn)).ex
  refine fnG_of F sc_law (fun vs H Q E h => ?_) (fun cdv A outer s H vs Q E hG hr h => ?_)
  · obtain ⟨_, _, rfl, _⟩ := h
    rfl
  · obtain ⟨sc, ns, rfl, hS, hlen, q⟩ := h
    refine ⟨_, pss_one (ps_ret (pe_callB (cr_all (by rfl)) (by rfl) T.b_all (by decide +kernel) (pa_cons
          (pe_lc (own := [("_law_k", 1)]) (g := gName 1) (by rfl) sc_law.nd (pi_range1 rfl T.b_range (pa_cons (pe_op op_add pe_int (pe_callB (call_min2 (by rfl)) (by rfl) T.b_min (by decide +kernel) (pa_cons pe_int (pa_cons (pe_callB call_len_seq (by rfl) T.b_len PySem.boot_len (pa_cons (pv 0) pa_nil)) pa_nil)))) pa_nil))
            (blkOk_by (own := [("_law_k", 1)]) (N := ["_law_script", "_law_k"]) (sc := defScope s_law) (by decide +kernel))
            (fun _ _ _ _ _ => pg_name (i := 1) sc_law.nd rfl (Or.inl rfl) (hf := Or.inr rfl))
            (fun _ _ _ _ _ => pts_nil)
            (fun _ _ _ _ _ => pe_callG (E := E0) GR hG hr (by rfl) gR FR.kp bR (pa_cons (pe_callG (E := E0) GB hG hr (by rfl) gB FB.kp bB (pa_cons (pv 0) (pa_cons (pv 1) pa_nil))) pa_nil))) pa_nil))), ?_⟩
    have hmin : ∀ j : Int, 0 ≤ j → (0 : Int) ≤ (if j < 2 then j else 2) ∧ (if j < 2 then j else 2) ≤ 2 := fun j h => by split <;> omega
    have hm := hmin ((ns.map V.int).length : Int) (by omega)
    refine ⟨_, rfl, sc, _, rfl, .inl hS, _, _, rfl, _, _, rfl, rfl, _, rfl, by omega, by omega, fun D hD => ?_⟩
    have keep : ∀ {H' : Hp} {o : HO}, Ex H H' → Ex H (upd H' D o) := fun {H' o} e b u hb => by
      rw [upd_ne (fun z => by rw [z, hD] at hb; cases hb)]
      exact e b u hb
    refine lc_range (lo := 0) (fun j H' => Ex H H' ∧ H' D = some (.lst ((List.replicate j true).map V.bl))) ⟨Ex.new hD, upd_same⟩ (fun j H' hj c => ?_) (fun H5 c => ?_)
    · obtain ⟨c1, c2⟩ := c
      have hj4 : j ≤ 1000 := by omega
      rw [Int.zero_add]
      refine ⟨rfl, _, rfl, _, rfl, sc, ns, j, rfl, ex_l c1 hS, hj4, fun l x y hl hx hy hy2 => ?_⟩
      have hB0 : Dw.BoxAt (upd H' l (.lst [.int x, .int y, .int 0])) l 0 := ⟨x, y, upd_same, hx, hy, hy2, by omega, by omega⟩
      have e0 : Ex H' (upd H' l (.lst [.int x, .int y, .int 0])) := Ex.new hl
      generalize (upd H' l (.lst [.int x, .int y, .int 0])) = H4 at hB0 e0
      refine ⟨l, 0, rfl, hB0, by omega, fun H6 c6 e6 hB6 hc6 => ?_⟩
      have e7 : Ex H' H6 := fun b o hb => e6 b o (fun z => by rw [z, hl] at hb; cases hb) (e0 b o hb)
      refine ⟨_, e7 _ _ c2, ?_, keep (c1.trans e7), ?_⟩
      · rw [List.length_map, List.length_replicate, sizeLine_eq]
        omega
      · rw [upd_same, repT_snoc, List.map_append]
        rfl
    · obtain ⟨c1, c2⟩ := c
      refine ⟨D, _, rfl, .inl (.inl c2), ?_⟩
      rw [repT_all]
      exact q _
end
theorem all_mk {l : PySem.W.OpenLaw} {w : World} {K : PySem.W.Frag} {h : Heap} {mg : Str → Option Value} {fa : Addr} (X : K.In h) (G : h.Ns mainGlobals mg) (hfa : mg "law" = some (.ref fa))
    {f0 f1 f2 f3 f4 f5 f6 f7 f8 f9 f10 f11 f12 f13 f14 f15 f16 f17 f18 f19 f20 f21 f22 f23 f24 f25 f26 f27 f28 f29 f30 f31 f32 f33 : Addr} {od0 an0 od1 an1 od2 an2 od3 an3 od4 an4 od5 an5 od6 an6 od7 an7 od8 an8 od9 an9 od10 an10 od11 an11 od12 an12 od13 an13 od14 an14 od15 an15 od16 an16 od17 an17 od18 an18 od19 an19 od20 an20 od21 an21 od22 an22 od23 an23 od24 an24 od25 an25 od26 an26 od27 an27 od28 an28 od29 an29 od30 an30 od31 an31 od32 an32 od33 an33 : Option Addr} {sl0 sl1 sl2 sl3 sl4 sl5 sl6 sl7 sl8 sl9 sl10 sl11 sl12 sl13 sl14 sl15 sl16 sl17 sl18 sl19 sl20 sl21 sl22 sl23 sl24 sl25 sl26 sl27 sl28 sl29 sl30 sl31 sl32 sl33 : Array (Option Value)} {oc0 kV0 dc0 pm0 cd0 ct0 oc1 kV1 dc1 pm1 cd1 ct1 oc2 kV2 dc2 pm2 cd2 ct2 oc3 kV3 dc3 pm3 cd3 ct3 oc4 kV4 dc4 pm4 cd4 ct4 oc5 kV5 dc5 pm5 cd5 ct5 oc6 kV6 dc6 pm6 cd6 ct6 oc7 kV7 dc7 pm7 cd7 ct7 oc8 kV8 dc8 pm8 cd8 ct8 oc9 kV9 dc9 pm9 cd9 ct9 oc10 kV10 dc10 pm10 cd10 ct10 oc11 kV11 dc11 pm11 cd11 ct11 oc12 kV12 dc12 pm12 cd12 ct12 oc13 kV13 dc13 pm13 cd13 ct13 oc14 kV14 dc14 pm14 cd14 ct14 oc15 kV15 dc15 pm15 cd15 ct15 oc16 kV16 dc16 pm16 cd16 ct16 oc17 kV17 dc17 pm17 cd17 ct17 oc18 kV18 dc18 pm18 cd18 ct18 oc19 kV19 dc19 pm19 cd19 ct19 oc20 kV20 dc20 pm20 cd20 ct20 oc21 kV21 dc21 pm21 cd21 ct21 oc22 kV22 dc22 pm22 cd22 ct22 oc23 kV23 dc23 pm23 cd23 ct23 oc24 kV24 dc24 pm24 cd24 ct24 oc25 kV25 dc25 pm25 cd25 ct25 oc26 kV26 dc26 pm26 cd26 ct26 oc27 kV27 dc27 pm27 cd27 ct27 oc28 kV28 dc28 pm28 cd28 ct28 oc29 kV29 dc29 pm29 cd29 ct29 oc30 kV30 dc30 pm30 cd30 ct30 oc31 kV31 dc31 pm31 cd31 ct31 oc32 kV32 dc32 pm32 cd32 ct32 oc33 kV33 dc33 pm33 cd33 ct33 : Value}
    (a0 : PySem.W.nsIn K mainGlobals "tuple_for_list" = some (some (.ref f0)))
    (l0 : K.lookup f0 = some ⟨oc0, od0, .func (PySem.W.fnOf "tuple_for_list" "tuple_for_list" (defArgs s_tuple_for_list) (defBody s_tuple_for_list) (defScope s_tuple_for_list) .none kV0 dc0 pm0 an0 cd0 ct0), sl0⟩)
    (c0 : PySem.W.codeIn K cd0 "tuple_for_list" = true) (k0 : PySem.W.keepIn K (.ref f0) = true)
    (a1 : PySem.W.nsIn K mainGlobals "neighbours" = some (some (.ref f1)))
    (l1 : K.lookup f1 = some ⟨oc1, od1, .func (PySem.W.fnOf "neighbours" "neighbours" (defArgs s_neighbours) (defBody s_neighbours) (defScope s_neighbours) .none kV1 dc1 pm1 an1 cd1 ct1), sl1⟩)
    (c1 : PySem.W.codeIn K cd1 "neighbours" = true) (k1 : PySem.W.keepIn K (.ref f1) = true)
    (a2 : PySem.W.nsIn K mainGlobals "groups" = some (some (.ref f2)))
    (l2 : K.lookup f2 = some ⟨oc2, od2, .func (PySem.W.fnOf "groups" "groups" (defArgs s_groups) (defBody s_groups) (defScope s_groups) .none kV2 dc2 pm2 an2 cd2 ct2), sl2⟩)
    (c2 : PySem.W.codeIn K cd2 "groups" = true) (k2 : PySem.W.keepIn K (.ref f2) = true)
    (a3 : PySem.W.nsIn K mainGlobals "houses" = some (some (.ref f3)))
    (l3 : K.lookup f3 = some ⟨oc3, od3, .func (PySem.W.fnOf "houses" "houses" (defArgs s_houses) (defBody s_houses) (defScope s_houses) .none kV3 dc3 pm3 an3 cd3 ct3), sl3⟩)
    (c3 : PySem.W.codeIn K cd3 "houses" = true) (k3 : PySem.W.keepIn K (.ref f3) = true)
    (a4 : PySem.W.nsIn K mainGlobals "mirrored" = some (some (.ref f4)))
    (l4 : K.lookup f4 = some ⟨oc4, od4, .func (PySem.W.fnOf "mirrored" "mirrored" (defArgs s_mirrored) (defBody s_mirrored) (defScope s_mirrored) .none kV4 dc4 pm4 an4 cd4 ct4), sl4⟩)
    (c4 : PySem.W.codeIn K cd4 "mirrored" = true) (k4 : PySem.W.keepIn K (.ref f4) = true)
    (a5 : PySem.W.nsIn K mainGlobals "many_choices" = some (some (.ref f5)))
    (l5 : K.lookup f5 = some ⟨oc5, od5, .func (PySem.W.fnOf "many_choices" "many_choices" (defArgs s_many_choices) (defBody s_many_choices) (defScope s_many_choices) .none kV5 dc5 pm5 an5 cd5 ct5), sl5⟩)
    (c5 : PySem.W.codeIn K cd5 "many_choices" = true) (k5 : PySem.W.keepIn K (.ref f5) = true)
    (a6 : PySem.W.nsIn K mainGlobals "groups_after" = some (some (.ref f6)))
    (l6 : K.lookup f6 = some ⟨oc6, od6, .func (PySem.W.fnOf "groups_after" "groups_after" (defArgs s_groups_after) (defBody s_groups_after) (defScope s_groups_after) .none kV6 dc6 pm6 an6 cd6 ct6), sl6⟩)
    (c6 : PySem.W.codeIn K cd6 "groups_after" = true) (k6 : PySem.W.keepIn K (.ref f6) = true)
    (a7 : PySem.W.nsIn K mainGlobals "true_value" = some (some (.ref f7)))
    (l7 : K.lookup f7 = some ⟨oc7, od7, .func (PySem.W.fnOf "true_value" "true_value" (defArgs s_true_value) (defBody s_true_value) (defScope s_true_value) .none kV7 dc7 pm7 an7 cd7 ct7), sl7⟩)
    (c7 : PySem.W.codeIn K cd7 "true_value" = true) (k7 : PySem.W.keepIn K (.ref f7) = true)
    (a8 : PySem.W.nsIn K mainGlobals "notes_of" = some (some (.ref f8)))
    (l8 : K.lookup f8 = some ⟨oc8, od8, .func (PySem.W.fnOf "notes_of" "notes_of" (defArgs s_notes_of) (defBody s_notes_of) (defScope s_notes_of) .none kV8 dc8 pm8 an8 cd8 ct8), sl8⟩)
    (c8 : PySem.W.codeIn K cd8 "notes_of" = true) (k8 : PySem.W.keepIn K (.ref f8) = true)
    (a9 : PySem.W.nsIn K mainGlobals "with_note" = some (some (.ref f9)))
    (l9 : K.lookup f9 = some ⟨oc9, od9, .func (PySem.W.fnOf "with_note" "with_note" (defArgs s_with_note) (defBody s_with_note) (defScope s_with_note) .none kV9 dc9 pm9 an9 cd9 ct9), sl9⟩)
    (c9 : PySem.W.codeIn K cd9 "with_note" = true) (k9 : PySem.W.keepIn K (.ref f9) = true)
    (a10 : PySem.W.nsIn K mainGlobals "without_note" = some (some (.ref f10)))
    (l10 : K.lookup f10 = some ⟨oc10, od10, .func (PySem.W.fnOf "without_note" "without_note" (defArgs s_without_note) (defBody s_without_note) (defScope s_without_note) .none kV10 dc10 pm10 an10 cd10 ct10), sl10⟩)
    (c10 : PySem.W.codeIn K cd10 "without_note" = true) (k10 : PySem.W.keepIn K (.ref f10) = true)
    (a11 : PySem.W.nsIn K mainGlobals "ways_to_choose" = some (some (.ref f11)))
    (l11 : K.lookup f11 = some ⟨oc11, od11, .func (PySem.W.fnOf "ways_to_choose" "ways_to_choose" (defArgs s_ways_to_choose) (defBody s_ways_to_choose) (defScope s_ways_to_choose) .none kV11 dc11 pm11 an11 cd11 ct11), sl11⟩)
    (c11 : PySem.W.codeIn K cd11 "ways_to_choose" = true) (k11 : PySem.W.keepIn K (.ref f11) = true)
    (a12 : PySem.W.nsIn K mainGlobals "noted_values" = some (some (.ref f12)))
    (l12 : K.lookup f12 = some ⟨oc12, od12, .func (PySem.W.fnOf "noted_values" "noted_values" (defArgs s_noted_values) (defBody s_noted_values) (defScope s_noted_values) .none kV12 dc12 pm12 an12 cd12 ct12), sl12⟩)
    (c12 : PySem.W.codeIn K cd12 "noted_values" = true) (k12 : PySem.W.keepIn K (.ref f12) = true)
    (a13 : PySem.W.nsIn K mainGlobals "is_word_then" = some (some (.ref f13)))
    (l13 : K.lookup f13 = some ⟨oc13, od13, .func (PySem.W.fnOf "is_word_then" "is_word_then" (defArgs s_is_word_then) (defBody s_is_word_then) (defScope s_is_word_then) .none kV13 dc13 pm13 an13 cd13 ct13), sl13⟩)
    (c13 : PySem.W.codeIn K cd13 "is_word_then" = true) (k13 : PySem.W.keepIn K (.ref f13) = true)
    (a14 : PySem.W.nsIn K mainGlobals "words_then" = some (some (.ref f14)))
    (l14 : K.lookup f14 = some ⟨oc14, od14, .func (PySem.W.fnOf "words_then" "words_then" (defArgs s_words_then) (defBody s_words_then) (defScope s_words_then) .none kV14 dc14 pm14 an14 cd14 ct14), sl14⟩)
    (c14 : PySem.W.codeIn K cd14 "words_then" = true) (k14 : PySem.W.keepIn K (.ref f14) = true)
    (a15 : PySem.W.nsIn K mainGlobals "blocks_then" = some (some (.ref f15)))
    (l15 : K.lookup f15 = some ⟨oc15, od15, .func (PySem.W.fnOf "blocks_then" "blocks_then" (defArgs s_blocks_then) (defBody s_blocks_then) (defScope s_blocks_then) .none kV15 dc15 pm15 an15 cd15 ct15), sl15⟩)
    (c15 : PySem.W.codeIn K cd15 "blocks_then" = true) (k15 : PySem.W.keepIn K (.ref f15) = true)
    (a16 : PySem.W.nsIn K mainGlobals "folded_ways" = some (some (.ref f16)))
    (l16 : K.lookup f16 = some ⟨oc16, od16, .func (PySem.W.fnOf "folded_ways" "folded_ways" (defArgs s_folded_ways) (defBody s_folded_ways) (defScope s_folded_ways) .none kV16 dc16 pm16 an16 cd16 ct16), sl16⟩)
    (c16 : PySem.W.codeIn K cd16 "folded_ways" = true) (k16 : PySem.W.keepIn K (.ref f16) = true)
    (a17 : PySem.W.nsIn K mainGlobals "in_all" = some (some (.ref f17)))
    (l17 : K.lookup f17 = some ⟨oc17, od17, .func (PySem.W.fnOf "in_all" "in_all" (defArgs s_in_all) (defBody s_in_all) (defScope s_in_all) .none kV17 dc17 pm17 an17 cd17 ct17), sl17⟩)
    (c17 : PySem.W.codeIn K cd17 "in_all" = true) (k17 : PySem.W.keepIn K (.ref f17) = true)
    (a18 : PySem.W.nsIn K mainGlobals "all_ways" = some (some (.ref f18)))
    (l18 : K.lookup f18 = some ⟨oc18, od18, .func (PySem.W.fnOf "all_ways" "all_ways" (defArgs s_all_ways) (defBody s_all_ways) (defScope s_all_ways) .none kV18 dc18 pm18 an18 cd18 ct18), sl18⟩)
    (c18 : PySem.W.codeIn K cd18 "all_ways" = true) (k18 : PySem.W.keepIn K (.ref f18) = true)
    (a19 : PySem.W.nsIn K mainGlobals "count_orders" = some (some (.ref f19)))
    (l19 : K.lookup f19 = some ⟨oc19, od19, .func (PySem.W.fnOf "count_orders" "count_orders" (defArgs s_count_orders) (defBody s_count_orders) (defScope s_count_orders) .none kV19 dc19 pm19 an19 cd19 ct19), sl19⟩)
    (c19 : PySem.W.codeIn K cd19 "count_orders" = true) (k19 : PySem.W.keepIn K (.ref f19) = true)
    (a20 : PySem.W.nsIn K mainGlobals "longer_row" = some (some (.ref f20)))
    (l20 : K.lookup f20 = some ⟨oc20, od20, .func (PySem.W.fnOf "longer_row" "longer_row" (defArgs s_longer_row) (defBody s_longer_row) (defScope s_longer_row) .none kV20 dc20 pm20 an20 cd20 ct20), sl20⟩)
    (c20 : PySem.W.codeIn K cd20 "longer_row" = true) (k20 : PySem.W.keepIn K (.ref f20) = true)
    (a21 : PySem.W.nsIn K mainGlobals "_law_cell_at" = some (some (.ref f21)))
    (l21 : K.lookup f21 = some ⟨oc21, od21, .func (PySem.W.fnOf "_law_cell_at" "_law_cell_at" (defArgs s_l_cell_at) (defBody s_l_cell_at) (defScope s_l_cell_at) .none kV21 dc21 pm21 an21 cd21 ct21), sl21⟩)
    (c21 : PySem.W.codeIn K cd21 "_law_cell_at" = true) (k21 : PySem.W.keepIn K (.ref f21) = true)
    (a22 : PySem.W.nsIn K mainGlobals "_law_box" = some (some (.ref f22)))
    (l22 : K.lookup f22 = some ⟨oc22, od22, .func (PySem.W.fnOf "_law_box" "_law_box" (defArgs s_l_box) (defBody s_l_box) (defScope s_l_box) .none kV22 dc22 pm22 an22 cd22 ct22), sl22⟩)
    (c22 : PySem.W.codeIn K cd22 "_law_box" = true) (k22 : PySem.W.keepIn K (.ref f22) = true)
    (a23 : PySem.W.nsIn K mainGlobals "_law_take" = some (some (.ref f23)))
    (l23 : K.lookup f23 = some ⟨oc23, od23, .func (PySem.W.fnOf "_law_take" "_law_take" (defArgs s_l_take) (defBody s_l_take) (defScope s_l_take) .none kV23 dc23 pm23 an23 cd23 ct23), sl23⟩)
    (c23 : PySem.W.codeIn K cd23 "_law_take" = true) (k23 : PySem.W.keepIn K (.ref f23) = true)
    (a24 : PySem.W.nsIn K mainGlobals "_law_of" = some (some (.ref f24)))
    (l24 : K.lookup f24 = some ⟨oc24, od24, .func (PySem.W.fnOf "_law_of" "_law_of" (defArgs s_l_of) (defBody s_l_of) (defScope s_l_of) .none kV24 dc24 pm24 an24 cd24 ct24), sl24⟩)
    (c24 : PySem.W.codeIn K cd24 "_law_of" = true) (k24 : PySem.W.keepIn K (.ref f24) = true)
    (a25 : PySem.W.nsIn K mainGlobals "_law_same" = some (some (.ref f25)))
    (l25 : K.lookup f25 = some ⟨oc25, od25, .func (PySem.W.fnOf "_law_same" "_law_same" (defArgs s_l_same) (defBody s_l_same) (defScope s_l_same) .none kV25 dc25 pm25 an25 cd25 ct25), sl25⟩)
    (c25 : PySem.W.codeIn K cd25 "_law_same" = true) (k25 : PySem.W.keepIn K (.ref f25) = true)
    (a26 : PySem.W.nsIn K mainGlobals "_law_strewn" = some (some (.ref f26)))
    (l26 : K.lookup f26 = some ⟨oc26, od26, .func (PySem.W.fnOf "_law_strewn" "_law_strewn" (defArgs s_l_strewn) (defBody s_l_strewn) (defScope s_l_strewn) .none kV26 dc26 pm26 an26 cd26 ct26), sl26⟩)
    (c26 : PySem.W.codeIn K cd26 "_law_strewn" = true) (k26 : PySem.W.keepIn K (.ref f26) = true)
    (a27 : PySem.W.nsIn K mainGlobals "_law_seen_of" = some (some (.ref f27)))
    (l27 : K.lookup f27 = some ⟨oc27, od27, .func (PySem.W.fnOf "_law_seen_of" "_law_seen_of" (defArgs s_l_seen_of) (defBody s_l_seen_of) (defScope s_l_seen_of) .none kV27 dc27 pm27 an27 cd27 ct27), sl27⟩)
    (c27 : PySem.W.codeIn K cd27 "_law_seen_of" = true) (k27 : PySem.W.keepIn K (.ref f27) = true)
    (a28 : PySem.W.nsIn K mainGlobals "_law_done" = some (some (.ref f28)))
    (l28 : K.lookup f28 = some ⟨oc28, od28, .func (PySem.W.fnOf "_law_done" "_law_done" (defArgs s_l_done) (defBody s_l_done) (defScope s_l_done) .none kV28 dc28 pm28 an28 cd28 ct28), sl28⟩)
    (c28 : PySem.W.codeIn K cd28 "_law_done" = true) (k28 : PySem.W.keepIn K (.ref f28) = true)
    (a29 : PySem.W.nsIn K mainGlobals "_law_named" = some (some (.ref f29)))
    (l29 : K.lookup f29 = some ⟨oc29, od29, .func (PySem.W.fnOf "_law_named" "_law_named" (defArgs s_l_named) (defBody s_l_named) (defScope s_l_named) .none kV29 dc29 pm29 an29 cd29 ct29), sl29⟩)
    (c29 : PySem.W.codeIn K cd29 "_law_named" = true) (k29 : PySem.W.keepIn K (.ref f29) = true)
    (a30 : PySem.W.nsIn K mainGlobals "_law_deed" = some (some (.ref f30)))
    (l30 : K.lookup f30 = some ⟨oc30, od30, .func (PySem.W.fnOf "_law_deed" "_law_deed" (defArgs s_l_deed) (defBody s_l_deed) (defScope s_l_deed) .none kV30 dc30 pm30 an30 cd30 ct30), sl30⟩)
    (c30 : PySem.W.codeIn K cd30 "_law_deed" = true) (k30 : PySem.W.keepIn K (.ref f30) = true)
    (a31 : PySem.W.nsIn K mainGlobals "_law_ways_right" = some (some (.ref f31)))
    (l31 : K.lookup f31 = some ⟨oc31, od31, .func (PySem.W.fnOf "_law_ways_right" "_law_ways_right" (defArgs s_l_ways_right) (defBody s_l_ways_right) (defScope s_l_ways_right) .none kV31 dc31 pm31 an31 cd31 ct31), sl31⟩)
    (c31 : PySem.W.codeIn K cd31 "_law_ways_right" = true) (k31 : PySem.W.keepIn K (.ref f31) = true)
    (a32 : PySem.W.nsIn K mainGlobals "_law_right" = some (some (.ref f32)))
    (l32 : K.lookup f32 = some ⟨oc32, od32, .func (PySem.W.fnOf "_law_right" "_law_right" (defArgs s_l_right) (defBody s_l_right) (defScope s_l_right) .none kV32 dc32 pm32 an32 cd32 ct32), sl32⟩)
    (c32 : PySem.W.codeIn K cd32 "_law_right" = true) (k32 : PySem.W.keepIn K (.ref f32) = true)
    (a33 : PySem.W.nsIn K mainGlobals "law" = some (some (.ref f33)))
    (l33 : K.lookup f33 = some ⟨oc33, od33, .func (PySem.W.fnOf "law" "law" (defArgs s_law) (defBody s_law) (defScope s_law) .none kV33 dc33 pm33 an33 cd33 ct33), sl33⟩)
    (c33 : PySem.W.codeIn K cd33 "law" = true) (k33 : PySem.W.keepIn K (.ref f33) = true)
    {aD0 : Addr} {dd0 : Option Addr} {nn0 : Nat} {ss0 : Array (Option Value)} {t0_0 t0_1 t0_2 : Tok} (e0 : PySem.W.nsIn K mainGlobals "WORDS" = some (some (.ref aD0))) (lk0 : K.lookup aD0 = some ⟨.type "tuple", dd0, .seq #[.str "new" t0_0, .str "beside" t0_1, .str "between" t0_2] nn0, ss0⟩)
    {aD1 : Addr} (e1 : PySem.W.nsIn K mainGlobals "STEPS" = some (some (.ref aD1)))
    (q1_0 : KDct K w aD1 "new" (.int (1)))
    (q1_1 : KDct K w aD1 "beside" (.int (0)))
    (q1_2 : KDct K w aD1 "between" (.int (-1)))
    {aD2 : Addr} {dd2 : Option Addr} {nn2 : Nat} {ss2 : Array (Option Value)} {t2_0 t2_1 t2_2 : Tok} (e2 : PySem.W.nsIn K mainGlobals "ASCENDING_WORDS" = some (some (.ref aD2))) (lk2 : K.lookup aD2 = some ⟨.type "tuple", dd2, .seq #[.str "beside" t2_0, .str "between" t2_1, .str "new" t2_2] nn2, ss2⟩)
    {cS : Addr} (sH : PySem.W.nsIn K mainGlobals "Street" = some (some (.ref cS)))
    {mf0 : Addr} {mo0 ma0 : Option Addr} {ml0 : Array (Option Value)} {mC0 mk0 mu0 mp0 mc0 mt0 : Value} {mT : Addr} {mTo : Option Addr} {mTn : Nat} {mTs : Array (Option Value)} {mTt : Tok}
    (sa0 : PySem.W.findIn K (.ref cS) "__init__" = some (some (.ref mf0)))
    (si0 : PySem.W.isFn K (.ref mf0) = true)
    (sl0 : K.lookup mf0 = some ⟨mC0, mo0, .func (PySem.W.fnOf "__init__" "Street.__init__" (defArgs s_S___init__) (defBody s_S___init__) (defScope s_S___init__) (.ref mT) mk0 mu0 mp0 ma0 mc0 mt0), ml0⟩)
    (sc0 : PySem.W.codeIn K mc0 "Street.__init__" = true)
    (sd0 : K.lookup mT = some ⟨.type "tuple", mTo, .seq #[.int 0 mTt] mTn, mTs⟩)
    {mf1 : Addr} {mo1 ma1 : Option Addr} {ml1 : Array (Option Value)} {mC1 mk1 mu1 mp1 mc1 mt1 : Value}
    (sa1 : PySem.W.findIn K (.ref cS) "build" = some (some (.ref mf1)))
    (si1 : PySem.W.isFn K (.ref mf1) = true)
    (sl1 : K.lookup mf1 = some ⟨mC1, mo1, .func (PySem.W.fnOf "build" "Street.build" (defArgs s_S_build) (defBody s_S_build) (defScope s_S_build) .none mk1 mu1 mp1 ma1 mc1 mt1), ml1⟩)
    (sc1 : PySem.W.codeIn K mc1 "Street.build" = true)
    (sk1 : PySem.W.keepIn K (.ref mf1) = true)
    {mf2 : Addr} {mo2 ma2 : Option Addr} {ml2 : Array (Option Value)} {mC2 mk2 mu2 mp2 mc2 mt2 : Value}
    (sa2 : PySem.W.findIn K (.ref cS) "build_all" = some (some (.ref mf2)))
    (si2 : PySem.W.isFn K (.ref mf2) = true)
    (sl2 : K.lookup mf2 = some ⟨mC2, mo2, .func (PySem.W.fnOf "build_all" "Street.build_all" (defArgs s_S_build_all) (defBody s_S_build_all) (defScope s_S_build_all) .none mk2 mu2 mp2 ma2 mc2 mt2), ml2⟩)
    (sc2 : PySem.W.codeIn K mc2 "Street.build_all" = true)
    (sk2 : PySem.W.keepIn K (.ref mf2) = true)
    {mf3 : Addr} {mo3 ma3 : Option Addr} {ml3 : Array (Option Value)} {mC3 mk3 mu3 mp3 mc3 mt3 : Value}
    (sa3 : PySem.W.findIn K (.ref cS) "note_down" = some (some (.ref mf3)))
    (si3 : PySem.W.isFn K (.ref mf3) = true)
    (sl3 : K.lookup mf3 = some ⟨mC3, mo3, .func (PySem.W.fnOf "note_down" "Street.note_down" (defArgs s_S_note_down) (defBody s_S_note_down) (defScope s_S_note_down) .none mk3 mu3 mp3 ma3 mc3 mt3), ml3⟩)
    (sc3 : PySem.W.codeIn K mc3 "Street.note_down" = true)
    (sk3 : PySem.W.keepIn K (.ref mf3) = true)
    {mf4 : Addr} {mo4 ma4 : Option Addr} {ml4 : Array (Option Value)} {mC4 mk4 mu4 mp4 mc4 mt4 : Value}
    (sa4 : PySem.W.findIn K (.ref cS) "forget" = some (some (.ref mf4)))
    (si4 : PySem.W.isFn K (.ref mf4) = true)
    (sl4 : K.lookup mf4 = some ⟨mC4, mo4, .func (PySem.W.fnOf "forget" "Street.forget" (defArgs s_S_forget) (defBody s_S_forget) (defScope s_S_forget) .none mk4 mu4 mp4 ma4 mc4 mt4), ml4⟩)
    (sc4 : PySem.W.codeIn K mc4 "Street.forget" = true)
    (sk4 : PySem.W.keepIn K (.ref mf4) = true)
    {mf5 : Addr} {mo5 ma5 : Option Addr} {ml5 : Array (Option Value)} {mC5 mk5 mu5 mp5 mc5 mt5 : Value}
    (sa5 : PySem.W.findIn K (.ref cS) "turn" = some (some (.ref mf5)))
    (si5 : PySem.W.isFn K (.ref mf5) = true)
    (sl5 : K.lookup mf5 = some ⟨mC5, mo5, .func (PySem.W.fnOf "turn" "Street.turn" (defArgs s_S_turn) (defBody s_S_turn) (defScope s_S_turn) .none mk5 mu5 mp5 ma5 mc5 mt5), ml5⟩)
    (sc5 : PySem.W.codeIn K mc5 "Street.turn" = true)
    (sk5 : PySem.W.keepIn K (.ref mf5) = true)
    {mf6 : Addr} {mo6 ma6 : Option Addr} {ml6 : Array (Option Value)} {mC6 mk6 mu6 mp6 mc6 mt6 : Value}
    (sa6 : PySem.W.findIn K (.ref cS) "undo" = some (some (.ref mf6)))
    (si6 : PySem.W.isFn K (.ref mf6) = true)
    (sl6 : K.lookup mf6 = some ⟨mC6, mo6, .func (PySem.W.fnOf "undo" "Street.undo" (defArgs s_S_undo) (defBody s_S_undo) (defScope s_S_undo) .none mk6 mu6 mp6 ma6 mc6 mt6), ml6⟩)
    (sc6 : PySem.W.codeIn K mc6 "Street.undo" = true)
    (sk6 : PySem.W.keepIn K (.ref mf6) = true)
    {mf7 : Addr} {mo7 ma7 : Option Addr} {ml7 : Array (Option Value)} {mC7 mk7 mu7 mp7 mc7 mt7 : Value}
    (sa7 : PySem.W.findIn K (.ref cS) "build_on" = some (some (.ref mf7)))
    (si7 : PySem.W.isFn K (.ref mf7) = true)
    (sl7 : K.lookup mf7 = some ⟨mC7, mo7, .func (PySem.W.fnOf "build_on" "Street.build_on" (defArgs s_S_build_on) (defBody s_S_build_on) (defScope s_S_build_on) .none mk7 mu7 mp7 ma7 mc7 mt7), ml7⟩)
    (sc7 : PySem.W.codeIn K mc7 "Street.build_on" = true)
    (sk7 : PySem.W.keepIn K (.ref mf7) = true)
    {mf8 : Addr} {mo8 ma8 : Option Addr} {ml8 : Array (Option Value)} {mC8 mk8 mu8 mp8 mc8 mt8 : Value}
    (sa8 : PySem.W.findIn K (.ref cS) "note_truth" = some (some (.ref mf8)))
    (si8 : PySem.W.isFn K (.ref mf8) = true)
    (sl8 : K.lookup mf8 = some ⟨mC8, mo8, .func (PySem.W.fnOf "note_truth" "Street.note_truth" (defArgs s_S_note_truth) (defBody s_S_note_truth) (defScope s_S_note_truth) .none mk8 mu8 mp8 ma8 mc8 mt8), ml8⟩)
    (sc8 : PySem.W.codeIn K mc8 "Street.note_truth" = true)
    (sk8 : PySem.W.keepIn K (.ref mf8) = true)
    {mf9 : Addr} {mo9 ma9 : Option Addr} {ml9 : Array (Option Value)} {mC9 mk9 mu9 mp9 mc9 mt9 : Value}
    (sa9 : PySem.W.findIn K (.ref cS) "row" = some (some (.ref mf9)))
    (si9 : PySem.W.isFn K (.ref mf9) = true)
    (sl9 : K.lookup mf9 = some ⟨mC9, mo9, .func (PySem.W.fnOf "row" "Street.row" (defArgs s_S_row) (defBody s_S_row) (defScope s_S_row) .none mk9 mu9 mp9 ma9 mc9 mt9), ml9⟩)
    (sc9 : PySem.W.codeIn K mc9 "Street.row" = true)
    (sk9 : PySem.W.keepIn K (.ref mf9) = true)
    {mf10 : Addr} {mo10 ma10 : Option Addr} {ml10 : Array (Option Value)} {mC10 mk10 mu10 mp10 mc10 mt10 : Value}
    (sa10 : PySem.W.findIn K (.ref cS) "notes" = some (some (.ref mf10)))
    (si10 : PySem.W.isFn K (.ref mf10) = true)
    (sl10 : K.lookup mf10 = some ⟨mC10, mo10, .func (PySem.W.fnOf "notes" "Street.notes" (defArgs s_S_notes) (defBody s_S_notes) (defScope s_S_notes) .none mk10 mu10 mp10 ma10 mc10 mt10), ml10⟩)
    (sc10 : PySem.W.codeIn K mc10 "Street.notes" = true)
    (sk10 : PySem.W.keepIn K (.ref mf10) = true)
    {mf11 : Addr} {mo11 ma11 : Option Addr} {ml11 : Array (Option Value)} {mC11 mk11 mu11 mp11 mc11 mt11 : Value}
    (sa11 : PySem.W.findIn K (.ref cS) "groups" = some (some (.ref mf11)))
    (si11 : PySem.W.isFn K (.ref mf11) = true)
    (sl11 : K.lookup mf11 = some ⟨mC11, mo11, .func (PySem.W.fnOf "groups" "Street.groups" (defArgs s_S_groups) (defBody s_S_groups) (defScope s_S_groups) .none mk11 mu11 mp11 ma11 mc11 mt11), ml11⟩)
    (sc11 : PySem.W.codeIn K mc11 "Street.groups" = true)
    (sk11 : PySem.W.keepIn K (.ref mf11) = true)
    {mf12 : Addr} {mo12 ma12 : Option Addr} {ml12 : Array (Option Value)} {mC12 mk12 mu12 mp12 mc12 mt12 : Value}
    (sa12 : PySem.W.findIn K (.ref cS) "journal" = some (some (.ref mf12)))
    (si12 : PySem.W.isFn K (.ref mf12) = true)
    (sl12 : K.lookup mf12 = some ⟨mC12, mo12, .func (PySem.W.fnOf "journal" "Street.journal" (defArgs s_S_journal) (defBody s_S_journal) (defScope s_S_journal) .none mk12 mu12 mp12 ma12 mc12 mt12), ml12⟩)
    (sc12 : PySem.W.codeIn K mc12 "Street.journal" = true)
    (sk12 : PySem.W.keepIn K (.ref mf12) = true)
    {mf13 : Addr} {mo13 ma13 : Option Addr} {ml13 : Array (Option Value)} {mC13 mk13 mu13 mp13 mc13 mt13 : Value}
    (sa13 : PySem.W.findIn K (.ref cS) "count" = some (some (.ref mf13)))
    (si13 : PySem.W.isFn K (.ref mf13) = true)
    (sl13 : K.lookup mf13 = some ⟨mC13, mo13, .func (PySem.W.fnOf "count" "Street.count" (defArgs s_S_count) (defBody s_S_count) (defScope s_S_count) .none mk13 mu13 mp13 ma13 mc13 mt13), ml13⟩)
    (sc13 : PySem.W.codeIn K mc13 "Street.count" = true)
    (sk13 : PySem.W.keepIn K (.ref mf13) = true)
    {mf14 : Addr} {mo14 ma14 : Option Addr} {ml14 : Array (Option Value)} {mC14 mk14 mu14 mp14 mc14 mt14 : Value}
    (sa14 : PySem.W.findIn K (.ref cS) "empty" = some (some (.ref mf14)))
    (si14 : PySem.W.isFn K (.ref mf14) = true)
    (sl14 : K.lookup mf14 = some ⟨mC14, mo14, .func (PySem.W.fnOf "empty" "Street.empty" (defArgs s_S_empty) (defBody s_S_empty) (defScope s_S_empty) .none mk14 mu14 mp14 ma14 mc14 mt14), ml14⟩)
    (sc14 : PySem.W.codeIn K mc14 "Street.empty" = true)
    (sk14 : PySem.W.keepIn K (.ref mf14) = true)
    {mf15 : Addr} {mo15 ma15 : Option Addr} {ml15 : Array (Option Value)} {mC15 mk15 mu15 mp15 mc15 mt15 : Value}
    (sa15 : PySem.W.findIn K (.ref cS) "operations" = some (some (.ref mf15)))
    (si15 : PySem.W.isFn K (.ref mf15) = true)
    (sl15 : K.lookup mf15 = some ⟨mC15, mo15, .func (PySem.W.fnOf "operations" "Street.operations" (defArgs s_S_operations) (defBody s_S_operations) (defScope s_S_operations) .none mk15 mu15 mp15 ma15 mc15 mt15), ml15⟩)
    (sc15 : PySem.W.codeIn K mc15 "Street.operations" = true)
    (sk15 : PySem.W.keepIn K (.ref mf15) = true)
    {mf16 : Addr} {mo16 ma16 : Option Addr} {ml16 : Array (Option Value)} {mC16 mk16 mu16 mp16 mc16 mt16 : Value}
    (sa16 : PySem.W.findIn K (.ref cS) "as_of" = some (some (.ref mf16)))
    (si16 : PySem.W.isFn K (.ref mf16) = true)
    (sl16 : K.lookup mf16 = some ⟨mC16, mo16, .func (PySem.W.fnOf "as_of" "Street.as_of" (defArgs s_S_as_of) (defBody s_S_as_of) (defScope s_S_as_of) .none mk16 mu16 mp16 ma16 mc16 mt16), ml16⟩)
    (sc16 : PySem.W.codeIn K mc16 "Street.as_of" = true)
    (sk16 : PySem.W.keepIn K (.ref mf16) = true)
    {mf17 : Addr} {mo17 ma17 : Option Addr} {ml17 : Array (Option Value)} {mC17 mk17 mu17 mp17 mc17 mt17 : Value}
    (sa17 : PySem.W.findIn K (.ref cS) "twin" = some (some (.ref mf17)))
    (si17 : PySem.W.isFn K (.ref mf17) = true)
    (sl17 : K.lookup mf17 = some ⟨mC17, mo17, .func (PySem.W.fnOf "twin" "Street.twin" (defArgs s_S_twin) (defBody s_S_twin) (defScope s_S_twin) .none mk17 mu17 mp17 ma17 mc17 mt17), ml17⟩)
    (sc17 : PySem.W.codeIn K mc17 "Street.twin" = true)
    (sk17 : PySem.W.keepIn K (.ref mf17) = true)
    {mf18 : Addr} {mo18 ma18 : Option Addr} {ml18 : Array (Option Value)} {mC18 mk18 mu18 mp18 mc18 mt18 : Value}
    (sa18 : PySem.W.findIn K (.ref cS) "log" = some (some (.ref mf18)))
    (si18 : PySem.W.isFn K (.ref mf18) = true)
    (sl18 : K.lookup mf18 = some ⟨mC18, mo18, .func (PySem.W.fnOf "log" "Street.log" (defArgs s_S_log) (defBody s_S_log) (defScope s_S_log) .none mk18 mu18 mp18 ma18 mc18 mt18), ml18⟩)
    (sc18 : PySem.W.codeIn K mc18 "Street.log" = true)
    (sk18 : PySem.W.keepIn K (.ref mf18) = true)
    {mf19 : Addr} {mo19 ma19 : Option Addr} {ml19 : Array (Option Value)} {mC19 mk19 mu19 mp19 mc19 mt19 : Value}
    (sa19 : PySem.W.findIn K (.ref cS) "__eq__" = some (some (.ref mf19)))
    (si19 : PySem.W.isFn K (.ref mf19) = true)
    (sl19 : K.lookup mf19 = some ⟨mC19, mo19, .func (PySem.W.fnOf "__eq__" "Street.__eq__" (defArgs s_S___eq__) (defBody s_S___eq__) (defScope s_S___eq__) .none mk19 mu19 mp19 ma19 mc19 mt19), ml19⟩)
    (sc19 : PySem.W.codeIn K mc19 "Street.__eq__" = true)
    (sk19 : PySem.W.keepIn K (.ref mf19) = true)
    {mf20 : Addr} {mo20 ma20 : Option Addr} {ml20 : Array (Option Value)} {mC20 mk20 mu20 mp20 mc20 mt20 : Value}
    (sa20 : PySem.W.findIn K (.ref cS) "__len__" = some (some (.ref mf20)))
    (si20 : PySem.W.isFn K (.ref mf20) = true)
    (sl20 : K.lookup mf20 = some ⟨mC20, mo20, .func (PySem.W.fnOf "__len__" "Street.__len__" (defArgs s_S___len__) (defBody s_S___len__) (defScope s_S___len__) .none mk20 mu20 mp20 ma20 mc20 mt20), ml20⟩)
    (sc20 : PySem.W.codeIn K mc20 "Street.__len__" = true)
    (sk20 : PySem.W.keepIn K (.ref mf20) = true)
    {mf21 : Addr} {mo21 ma21 : Option Addr} {ml21 : Array (Option Value)} {mC21 mk21 mu21 mp21 mc21 mt21 : Value}
    (sa21 : PySem.W.findIn K (.ref cS) "__repr__" = some (some (.ref mf21)))
    (si21 : PySem.W.isFn K (.ref mf21) = true)
    (sl21 : K.lookup mf21 = some ⟨mC21, mo21, .func (PySem.W.fnOf "__repr__" "Street.__repr__" (defArgs s_S___repr__) (defBody s_S___repr__) (defScope s_S___repr__) .none mk21 mu21 mp21 ma21 mc21 mt21), ml21⟩)
    (sc21 : PySem.W.codeIn K mc21 "Street.__repr__" = true)
    (sk21 : PySem.W.keepIn K (.ref mf21) = true)
    (tm : PySem.W.makesIn K cS = true)
    (tk : PySem.W.keepIn K (.ref cS) = true)
    (tg : PySem.W.plainGet K cS Str.empty = true)
    (td : PySem.W.hasDictIn K cS = true)
    (to : PySem.W.plainOver K cS = true)
    (ts : PySem.W.findIn K (.ref cS) "__setattr__" = some (some (.builtin "object.__setattr__")))
    (np : PySem.W.findIn K (.ref cS) "plots" = some none)
    (nS : PySem.W.findIn K (.ref cS) "states" = some none)
    (nT : PySem.W.findIn K (.ref cS) "told" = some none)
    (tc : PySem.W.findIn K (.ref cS) "__class__" = some (some (.builtin "object.__class__")))
    (tw : PySem.W.mroIn K cS (.type "object") = some true)
    (tkit : ["NoneType", "bool", "int", "str", "list", "tuple", "dict"].all (fun t => PySem.W.kitOne K (.type t) (.ref cS) == some false) = true)
    (sne : PySem.W.findIn K (.ref cS) "__ne__" = some (some (.builtin "object.__ne__")))
    (z_abs : PySem.W.nsIn K mainGlobals "abs" = some none)
    (z_all : PySem.W.nsIn K mainGlobals "all" = some none)
    (z_bool : PySem.W.nsIn K mainGlobals "bool" = some none)
    (z_int : PySem.W.nsIn K mainGlobals "int" = some none)
    (z_isinstance : PySem.W.nsIn K mainGlobals "isinstance" = some none)
    (z_len : PySem.W.nsIn K mainGlobals "len" = some none)
    (z_list : PySem.W.nsIn K mainGlobals "list" = some none)
    (z_max : PySem.W.nsIn K mainGlobals "max" = some none)
    (z_min : PySem.W.nsIn K mainGlobals "min" = some none)
    (z_range : PySem.W.nsIn K mainGlobals "range" = some none)
    (z_repr : PySem.W.nsIn K mainGlobals "repr" = some none)
    (z_reversed : PySem.W.nsIn K mainGlobals "reversed" = some none)
    (z_sorted : PySem.W.nsIn K mainGlobals "sorted" = some none)
    (z_str : PySem.W.nsIn K mainGlobals "str" = some none)
    (z_sum : PySem.W.nsIn K mainGlobals "sum" = some none)
    (z_tuple : PySem.W.nsIn K mainGlobals "tuple" = some none)
    (z_zip : PySem.W.nsIn K mainGlobals "zip" = some none)
    (spc : PySem.W.specialIn K (.builtin "object.__class__") "__get__" = some (some (.builtin "getset_descriptor.__get__"))) (tks : PySem.W.takesIn K (.builtin "object.__class__") = some true)
    {C0 fI0 : Addr} {odI0 anI0 : Option Addr} {slI0 : Array (Option Value)} {ocI0 kVI0 dcI0 pmI0 cdI0 ctI0 : Value}
    (vcn0 : PySem.W.nsIn K mainGlobals "Noted" = some (some (.ref C0)))
    (vxi0 : PySem.W.excInitIn K C0 bVE "ValueError.__new__" = true)
    (vxo0 : PySem.W.excOver K C0 bVE = true)
    (vxd0 : PySem.W.hasDictIn K C0 = true)
    (vxs0 : PySem.W.findIn K (.ref C0) "__setattr__" = some (some (.builtin "object.__setattr__")))
    (vxg0 : PySem.W.findIn K (.ref C0) "__getattribute__" = some (some (.builtin "BaseException.__getattribute__")))
    (vxh0 : PySem.W.findIn K (.ref C0) "__getattr__" = some none)
    (vxb0 : PySem.W.subIn K (.ref C0) (.type "BaseException") = some true)
    (vxc0 : PySem.W.findIn K (.ref C0) "__class__" = some (some (.builtin "object.__class__")))
    (vxk0 : PySem.W.keepIn K (.ref C0) = true)
    (vxn0 : (PySem.W.clsIn K C0).isSome = true)
    (vxm0 : PySem.W.mroIn K C0 (.type "object") = some true)
    (vxf0 : PySem.W.findIn K (.ref C0) "note" = some none)
    (vxt0 : PySem.W.typeIn K (.ref C0) = some (.type "type"))
    (vin0 : PySem.W.findIn K (.ref C0) "__init__" = some (some (.ref fI0)))
    (vty0 : PySem.W.typeIn K (.ref fI0) = some (.type "function"))
    (vlI0 : K.lookup fI0 = some ⟨ocI0, odI0, .func (PySem.W.fnOf "__init__" "Noted.__init__" (defArgs (iniS 3)) (defBody (iniS 3)) (defScope (iniS 3)) .none kVI0 dcI0 pmI0 anI0 cdI0 ctI0), slI0⟩)
    (vcI0 : PySem.W.codeIn K cdI0 "Noted.__init__" = true)
    (vkI0 : PySem.W.keepIn K (.ref fI0) = true)
    {C1 fI1 : Addr} {odI1 anI1 : Option Addr} {slI1 : Array (Option Value)} {ocI1 kVI1 dcI1 pmI1 cdI1 ctI1 : Value}
    (vcn1 : PySem.W.nsIn K mainGlobals "NoPlot" = some (some (.ref C1)))
    (vxi1 : PySem.W.excInitIn K C1 bLE "LookupError.__new__" = true)
    (vxo1 : PySem.W.excOver K C1 bLE = true)
    (vxd1 : PySem.W.hasDictIn K C1 = true)
    (vxs1 : PySem.W.findIn K (.ref C1) "__setattr__" = some (some (.builtin "object.__setattr__")))
    (vxg1 : PySem.W.findIn K (.ref C1) "__getattribute__" = some (some (.builtin "BaseException.__getattribute__")))
    (vxh1 : PySem.W.findIn K (.ref C1) "__getattr__" = some none)
    (vxb1 : PySem.W.subIn K (.ref C1) (.type "BaseException") = some true)
    (vxc1 : PySem.W.findIn K (.ref C1) "__class__" = some (some (.builtin "object.__class__")))
    (vxk1 : PySem.W.keepIn K (.ref C1) = true)
    (vxn1 : (PySem.W.clsIn K C1).isSome = true)
    (vxm1 : PySem.W.mroIn K C1 (.type "object") = some true)
    (vxf1 : PySem.W.findIn K (.ref C1) "plot" = some none)
    (vxt1 : PySem.W.typeIn K (.ref C1) = some (.type "type"))
    (vin1 : PySem.W.findIn K (.ref C1) "__init__" = some (some (.ref fI1)))
    (vty1 : PySem.W.typeIn K (.ref fI1) = some (.type "function"))
    (vlI1 : K.lookup fI1 = some ⟨ocI1, odI1, .func (PySem.W.fnOf "__init__" "NoPlot.__init__" (defArgs (iniS 4)) (defBody (iniS 4)) (defScope (iniS 4)) .none kVI1 dcI1 pmI1 anI1 cdI1 ctI1), slI1⟩)
    (vcI1 : PySem.W.codeIn K cdI1 "NoPlot.__init__" = true)
    (vkI1 : PySem.W.keepIn K (.ref fI1) = true)
    {C2 fI2 : Addr} {odI2 anI2 : Option Addr} {slI2 : Array (Option Value)} {ocI2 kVI2 dcI2 pmI2 cdI2 ctI2 : Value}
    (vcn2 : PySem.W.nsIn K mainGlobals "NoTime" = some (some (.ref C2)))
    (vxi2 : PySem.W.excInitIn K C2 bLE "LookupError.__new__" = true)
    (vxo2 : PySem.W.excOver K C2 bLE = true)
    (vxd2 : PySem.W.hasDictIn K C2 = true)
    (vxs2 : PySem.W.findIn K (.ref C2) "__setattr__" = some (some (.builtin "object.__setattr__")))
    (vxg2 : PySem.W.findIn K (.ref C2) "__getattribute__" = some (some (.builtin "BaseException.__getattribute__")))
    (vxh2 : PySem.W.findIn K (.ref C2) "__getattr__" = some none)
    (vxb2 : PySem.W.subIn K (.ref C2) (.type "BaseException") = some true)
    (vxc2 : PySem.W.findIn K (.ref C2) "__class__" = some (some (.builtin "object.__class__")))
    (vxk2 : PySem.W.keepIn K (.ref C2) = true)
    (vxn2 : (PySem.W.clsIn K C2).isSome = true)
    (vxm2 : PySem.W.mroIn K C2 (.type "object") = some true)
    (vxf2 : PySem.W.findIn K (.ref C2) "time" = some none)
    (vxt2 : PySem.W.typeIn K (.ref C2) = some (.type "type"))
    (vin2 : PySem.W.findIn K (.ref C2) "__init__" = some (some (.ref fI2)))
    (vty2 : PySem.W.typeIn K (.ref fI2) = some (.type "function"))
    (vlI2 : K.lookup fI2 = some ⟨ocI2, odI2, .func (PySem.W.fnOf "__init__" "NoTime.__init__" (defArgs (iniS 5)) (defBody (iniS 5)) (defScope (iniS 5)) .none kVI2 dcI2 pmI2 anI2 cdI2 ctI2), slI2⟩)
    (vcI2 : PySem.W.codeIn K cdI2 "NoTime.__init__" = true)
    (vkI2 : PySem.W.keepIn K (.ref fI2) = true)
    {C3 fI3 : Addr} {odI3 anI3 : Option Addr} {slI3 : Array (Option Value)} {ocI3 kVI3 dcI3 pmI3 cdI3 ctI3 : Value}
    (vcn3 : PySem.W.nsIn K mainGlobals "NoNote" = some (some (.ref C3)))
    (vxi3 : PySem.W.excInitIn K C3 bLE "LookupError.__new__" = true)
    (vxo3 : PySem.W.excOver K C3 bLE = true)
    (vxd3 : PySem.W.hasDictIn K C3 = true)
    (vxs3 : PySem.W.findIn K (.ref C3) "__setattr__" = some (some (.builtin "object.__setattr__")))
    (vxg3 : PySem.W.findIn K (.ref C3) "__getattribute__" = some (some (.builtin "BaseException.__getattribute__")))
    (vxh3 : PySem.W.findIn K (.ref C3) "__getattr__" = some none)
    (vxb3 : PySem.W.subIn K (.ref C3) (.type "BaseException") = some true)
    (vxc3 : PySem.W.findIn K (.ref C3) "__class__" = some (some (.builtin "object.__class__")))
    (vxk3 : PySem.W.keepIn K (.ref C3) = true)
    (vxn3 : (PySem.W.clsIn K C3).isSome = true)
    (vxm3 : PySem.W.mroIn K C3 (.type "object") = some true)
    (vxf3 : PySem.W.findIn K (.ref C3) "note" = some none)
    (vxt3 : PySem.W.typeIn K (.ref C3) = some (.type "type"))
    (vin3 : PySem.W.findIn K (.ref C3) "__init__" = some (some (.ref fI3)))
    (vty3 : PySem.W.typeIn K (.ref fI3) = some (.type "function"))
    (vlI3 : K.lookup fI3 = some ⟨ocI3, odI3, .func (PySem.W.fnOf "__init__" "NoNote.__init__" (defArgs (iniS 6)) (defBody (iniS 6)) (defScope (iniS 6)) .none kVI3 dcI3 pmI3 anI3 cdI3 ctI3), slI3⟩)
    (vcI3 : PySem.W.codeIn K cdI3 "NoNote.__init__" = true)
    (vkI3 : PySem.W.keepIn K (.ref fI3) = true)
    {C4 fI4 : Addr} {odI4 anI4 : Option Addr} {slI4 : Array (Option Value)} {ocI4 kVI4 dcI4 pmI4 cdI4 ctI4 : Value}
    (vcn4 : PySem.W.nsIn K mainGlobals "NoOperation" = some (some (.ref C4)))
    (vxi4 : PySem.W.excInitIn K C4 bLE "LookupError.__new__" = true)
    (vxo4 : PySem.W.excOver K C4 bLE = true)
    (vxd4 : PySem.W.hasDictIn K C4 = true)
    (vxs4 : PySem.W.findIn K (.ref C4) "__setattr__" = some (some (.builtin "object.__setattr__")))
    (vxg4 : PySem.W.findIn K (.ref C4) "__getattribute__" = some (some (.builtin "BaseException.__getattribute__")))
    (vxh4 : PySem.W.findIn K (.ref C4) "__getattr__" = some none)
    (vxb4 : PySem.W.subIn K (.ref C4) (.type "BaseException") = some true)
    (vxc4 : PySem.W.findIn K (.ref C4) "__class__" = some (some (.builtin "object.__class__")))
    (vxk4 : PySem.W.keepIn K (.ref C4) = true)
    (vxn4 : (PySem.W.clsIn K C4).isSome = true)
    (vxm4 : PySem.W.mroIn K C4 (.type "object") = some true)
    (vxf4 : PySem.W.findIn K (.ref C4) "many" = some none)
    (vxt4 : PySem.W.typeIn K (.ref C4) = some (.type "type"))
    (vin4 : PySem.W.findIn K (.ref C4) "__init__" = some (some (.ref fI4)))
    (vty4 : PySem.W.typeIn K (.ref fI4) = some (.type "function"))
    (vlI4 : K.lookup fI4 = some ⟨ocI4, odI4, .func (PySem.W.fnOf "__init__" "NoOperation.__init__" (defArgs (iniS 7)) (defBody (iniS 7)) (defScope (iniS 7)) .none kVI4 dcI4 pmI4 anI4 cdI4 ctI4), slI4⟩)
    (vcI4 : PySem.W.codeIn K cdI4 "NoOperation.__init__" = true)
    (vkI4 : PySem.W.keepIn K (.ref fI4) = true)
    {C5 fI5 : Addr} {odI5 anI5 : Option Addr} {slI5 : Array (Option Value)} {ocI5 kVI5 dcI5 pmI5 cdI5 ctI5 : Value}
    (vcn5 : PySem.W.nsIn K mainGlobals "Built" = some (some (.ref C5)))
    (vxi5 : PySem.W.excInitIn K C5 bRE "RuntimeError.__new__" = true)
    (vxo5 : PySem.W.excOver K C5 bRE = true)
    (vxd5 : PySem.W.hasDictIn K C5 = true)
    (vxs5 : PySem.W.findIn K (.ref C5) "__setattr__" = some (some (.builtin "object.__setattr__")))
    (vxg5 : PySem.W.findIn K (.ref C5) "__getattribute__" = some (some (.builtin "BaseException.__getattribute__")))
    (vxh5 : PySem.W.findIn K (.ref C5) "__getattr__" = some none)
    (vxb5 : PySem.W.subIn K (.ref C5) (.type "BaseException") = some true)
    (vxc5 : PySem.W.findIn K (.ref C5) "__class__" = some (some (.builtin "object.__class__")))
    (vxk5 : PySem.W.keepIn K (.ref C5) = true)
    (vxn5 : (PySem.W.clsIn K C5).isSome = true)
    (vxm5 : PySem.W.mroIn K C5 (.type "object") = some true)
    (vxf5 : PySem.W.findIn K (.ref C5) "plot" = some none)
    (vxt5 : PySem.W.typeIn K (.ref C5) = some (.type "type"))
    (vin5 : PySem.W.findIn K (.ref C5) "__init__" = some (some (.ref fI5)))
    (vty5 : PySem.W.typeIn K (.ref fI5) = some (.type "function"))
    (vlI5 : K.lookup fI5 = some ⟨ocI5, odI5, .func (PySem.W.fnOf "__init__" "Built.__init__" (defArgs (iniS 8)) (defBody (iniS 8)) (defScope (iniS 8)) .none kVI5 dcI5 pmI5 anI5 cdI5 ctI5), slI5⟩)
    (vcI5 : PySem.W.codeIn K cdI5 "Built.__init__" = true)
    (vkI5 : PySem.W.keepIn K (.ref fI5) = true)
    (vkit : ((List.range 6).all fun i => (List.range 6).all fun j => PySem.W.kitOne K (.ref ((fun j => [C0, C1, C2, C3, C4, C5].getD j 0 : Nat → Addr) i)) (.ref ((fun j => [C0, C1, C2, C3, C4, C5].getD j 0 : Nat → Addr) j)) == some (decide (i = j))) = true)
    (vk_ValueError : ((List.range 6).all fun i => PySem.W.kitOne K (.ref ((fun j => [C0, C1, C2, C3, C4, C5].getD j 0 : Nat → Addr) i)) (.type "ValueError") == some (decide (i ∈ [0]))) = true)
    (y_ValueError : PySem.W.nsIn K mainGlobals "ValueError" = some none)
    (vk_LookupError : ((List.range 6).all fun i => PySem.W.kitOne K (.ref ((fun j => [C0, C1, C2, C3, C4, C5].getD j 0 : Nat → Addr) i)) (.type "LookupError") == some (decide (i ∈ [1, 2, 3, 4]))) = true)
    (y_LookupError : PySem.W.nsIn K mainGlobals "LookupError" = some none)
    (vk_RuntimeError : ((List.range 6).all fun i => PySem.W.kitOne K (.ref ((fun j => [C0, C1, C2, C3, C4, C5].getD j 0 : Nat → Addr) i)) (.type "RuntimeError") == some (decide (i ∈ [5]))) = true)
    (y_RuntimeError : PySem.W.nsIn K mainGlobals "RuntimeError" = some none)
    (vk_KeyError : ((List.range 6).all fun i => PySem.W.kitOne K (.ref ((fun j => [C0, C1, C2, C3, C4, C5].getD j 0 : Nat → Addr) i)) (.type "KeyError") == some (decide (i ∈ []))) = true)
    (y_KeyError : PySem.W.nsIn K mainGlobals "KeyError" = some none)
    (vk_IndexError : ((List.range 6).all fun i => PySem.W.kitOne K (.ref ((fun j => [C0, C1, C2, C3, C4, C5].getD j 0 : Nat → Addr) i)) (.type "IndexError") == some (decide (i ∈ []))) = true)
    (y_IndexError : PySem.W.nsIn K mainGlobals "IndexError" = some none)
    (vexm : ((List.range 6).all fun i => PySem.W.exmAny K (.ref ((fun j => [C0, C1, C2, C3, C4, C5].getD j 0 : Nat → Addr) i)) [.ref ((fun j => [C0, C1, C2, C3, C4, C5].getD j 0 : Nat → Addr) 5), .ref ((fun j => [C0, C1, C2, C3, C4, C5].getD j 0 : Nat → Addr) 3), .ref ((fun j => [C0, C1, C2, C3, C4, C5].getD j 0 : Nat → Addr) 4), .ref ((fun j => [C0, C1, C2, C3, C4, C5].getD j 0 : Nat → Addr) 1), .ref ((fun j => [C0, C1, C2, C3, C4, C5].getD j 0 : Nat → Addr) 2), .ref ((fun j => [C0, C1, C2, C3, C4, C5].getD j 0 : Nat → Addr) 0)] == some (decide (i ∈ [5, 3, 4, 1, 2, 0]))) = true) :
    ∃ fd : FuncData, (∀ (s : Shared) (v : Value), BindsTo s fd ⟨[v], []⟩ [("_law_script", v)]) ∧ ∀ base : Heap, K.In base → base.Ns mainGlobals mg → FnG l.prog w K mg base 17 fa fd ["_law_script"] (Dw.spLaw K) := by
  have e := hfa.symm.trans (PySem.W.mg_of X G a33)
  cases e
  have F0 := fun_mk (st := s_tuple_for_list) l0 c0 k0
  have b0 := F0.binds (ps := ["value"]) fun _ _ _ _ _ _ us hl => match us, hl with | [_], _ => rfl
  have F1 := fun_mk (st := s_neighbours) l1 c1 k1
  have b1 := F1.binds (ps := ["row"]) fun _ _ _ _ _ _ us hl => match us, hl with | [_], _ => rfl
  have F2 := fun_mk (st := s_groups) l2 c2 k2
  have b2 := F2.binds (ps := ["row"]) fun _ _ _ _ _ _ us hl => match us, hl with | [_], _ => rfl
  have F3 := fun_mk (st := s_houses) l3 c3 k3
  have b3 := F3.binds (ps := ["row"]) fun _ _ _ _ _ _ us hl => match us, hl with | [_], _ => rfl
  have F4 := fun_mk (st := s_mirrored) l4 c4 k4
  have b4 := F4.binds (ps := ["plots", "row"]) fun _ _ _ _ _ _ us hl => match us, hl with | [_, _], _ => rfl
  have F5 := fun_mk (st := s_many_choices) l5 c5 k5
  have b5 := F5.binds (ps := ["word", "many"]) fun _ _ _ _ _ _ us hl => match us, hl with | [_, _], _ => rfl
  have F6 := fun_mk (st := s_groups_after) l6 c6 k6
  have b6 := F6.binds (ps := ["words"]) fun _ _ _ _ _ _ us hl => match us, hl with | [_], _ => rfl
  have F7 := fun_mk (st := s_true_value) l7 c7 k7
  have b7 := F7.binds (ps := ["row", "time", "sort"]) fun _ _ _ _ _ _ us hl => match us, hl with | [_, _, _], _ => rfl
  have F8 := fun_mk (st := s_notes_of) l8 c8 k8
  have b8 := F8.binds (ps := ["journal"]) fun _ _ _ _ _ _ us hl => match us, hl with | [_], _ => rfl
  have F9 := fun_mk (st := s_with_note) l9 c9 k9
  have b9 := F9.binds (ps := ["journal", "note"]) fun _ _ _ _ _ _ us hl => match us, hl with | [_, _], _ => rfl
  have F10 := fun_mk (st := s_without_note) l10 c10 k10
  have b10 := F10.binds (ps := ["journal", "note"]) fun _ _ _ _ _ _ us hl => match us, hl with | [_, _], _ => rfl
  have F11 := fun_mk (st := s_ways_to_choose) l11 c11 k11
  have b11 := F11.binds (ps := ["many", "things"]) fun _ _ _ _ _ _ us hl => match us, hl with | [_, _], _ => rfl
  have F12 := fun_mk (st := s_noted_values) l12 c12 k12
  have b12 := F12.binds (ps := ["notes"]) fun _ _ _ _ _ _ us hl => match us, hl with | [_], _ => rfl
  have F13 := fun_mk (st := s_is_word_then) l13 c13 k13
  have b13 := F13.binds (ps := ["noted", "time", "many", "word"]) fun _ _ _ _ _ _ us hl => match us, hl with | [_, _, _, _], _ => rfl
  have F14 := fun_mk (st := s_words_then) l14 c14 k14
  have b14 := F14.binds (ps := ["noted", "time", "many"]) fun _ _ _ _ _ _ us hl => match us, hl with | [_, _, _], _ => rfl
  have F15 := fun_mk (st := s_blocks_then) l15 c15 k15
  have b15 := F15.binds (ps := ["noted", "ways", "time", "many"]) fun _ _ _ _ _ _ us hl => match us, hl with | [_, _, _, _], _ => rfl
  have F16 := fun_mk (st := s_folded_ways) l16 c16 k16
  have b16 := F16.binds (ps := ["journal", "fold"]) fun _ _ _ _ _ _ us hl => match us, hl with | [_, _], _ => rfl
  have F17 := fun_mk (st := s_in_all) l17 c17 k17
  have b17 := F17.binds (ps := ["parts"]) fun _ _ _ _ _ _ us hl => match us, hl with | [_], _ => rfl
  have F18 := fun_mk (st := s_all_ways) l18 c18 k18
  have b18 := F18.binds (ps := ["journal"]) fun _ _ _ _ _ _ us hl => match us, hl with | [_], _ => rfl
  have F19 := fun_mk (st := s_count_orders) l19 c19 k19
  have b19 := F19.binds (ps := ["journal"]) fun _ _ _ _ _ _ us hl => match us, hl with | [_], _ => rfl
  have F20 := fun_mk (st := s_longer_row) l20 c20 k20
  have b20 := F20.binds (ps := ["plots", "row", "more"]) fun _ _ _ _ _ _ us hl => match us, hl with | [_, _, _], _ => rfl
  have F21 := fun_mk (st := s_l_cell_at) l21 c21 k21
  have b21 := F21.binds (ps := ["_law_script", "_law_k"]) fun _ _ _ _ _ _ us hl => match us, hl with | [_, _], _ => rfl
  have F22 := fun_mk (st := s_l_box) l22 c22 k22
  have b22 := F22.binds (ps := ["_law_script", "_law_k"]) fun _ _ _ _ _ _ us hl => match us, hl with | [_, _], _ => rfl
  have F23 := fun_mk (st := s_l_take) l23 c23 k23
  have b23 := F23.binds (ps := ["_law_box_here", "_law_below"]) fun _ _ _ _ _ _ us hl => match us, hl with | [_, _], _ => rfl
  have F24 := fun_mk (st := s_l_of) l24 c24 k24
  have b24 := F24.binds (ps := ["_law_box_here", "_law_some"]) fun _ _ _ _ _ _ us hl => match us, hl with | [_, _], _ => rfl
  have F25 := fun_mk (st := s_l_same) l25 c25 k25
  have b25 := F25.binds (ps := ["_law_found", "_law_due"]) fun _ _ _ _ _ _ us hl => match us, hl with | [_, _], _ => rfl
  have F26 := fun_mk (st := s_l_strewn) l26 c26 k26
  have b26 := F26.binds (ps := ["_law_box_here", "_law_some"]) fun _ _ _ _ _ _ us hl => match us, hl with | [_, _], _ => rfl
  have F27 := fun_mk (st := s_l_seen_of) l27 c27 k27
  have b27 := F27.binds (ps := ["_law_hall"]) fun _ _ _ _ _ _ us hl => match us, hl with | [_], _ => rfl
  have F28 := fun_mk (st := s_l_done) l28 c28 k28
  have b28 := F28.binds (ps := ["_law_hall", "_law_deed_here"]) fun _ _ _ _ _ _ us hl => match us, hl with | [_, _], _ => rfl
  have F29 := fun_mk (st := s_l_named) l29 c29 k29
  have b29 := F29.binds (ps := ["_law_caught"]) fun _ _ _ _ _ _ us hl => match us, hl with | [_], _ => rfl
  have F30 := fun_mk (st := s_l_deed) l30 c30 k30
  have b30 := F30.binds (ps := ["_law_box_here", "_law_now"]) fun _ _ _ _ _ _ us hl => match us, hl with | [_, _], _ => rfl
  have F31 := fun_mk (st := s_l_ways_right) l31 c31 k31
  have b31 := F31.binds (ps := ["_law_box_here", "_law_hall"]) fun _ _ _ _ _ _ us hl => match us, hl with | [_, _], _ => rfl
  have F32 := fun_mk (st := s_l_right) l32 c32 k32
  have b32 := F32.binds (ps := ["_law_box_here"]) fun _ _ _ _ _ _ us hl => match us, hl with | [_], _ => rfl
  have F33 := fun_mk (st := s_law) l33 c33 k33
  have T : Top w K mg := ⟨⟨⟨f0, _, F0, b0, PySem.W.mg_of X G a0⟩⟩, ⟨⟨f1, _, F1, b1, PySem.W.mg_of X G a1⟩⟩, ⟨⟨f2, _, F2, b2, PySem.W.mg_of X G a2⟩⟩, ⟨⟨f3, _, F3, b3, PySem.W.mg_of X G a3⟩⟩, ⟨⟨f4, _, F4, b4, PySem.W.mg_of X G a4⟩⟩, ⟨⟨f5, _, F5, b5, PySem.W.mg_of X G a5⟩⟩, ⟨⟨f6, _, F6, b6, PySem.W.mg_of X G a6⟩⟩, ⟨⟨f7, _, F7, b7, PySem.W.mg_of X G a7⟩⟩, ⟨⟨f8, _, F8, b8, PySem.W.mg_of X G a8⟩⟩, ⟨⟨f9, _, F9, b9, PySem.W.mg_of X G a9⟩⟩, ⟨⟨f10, _, F10, b10, PySem.W.mg_of X G a10⟩⟩, ⟨⟨f11, _, F11, b11, PySem.W.mg_of X G a11⟩⟩, ⟨⟨f12, _, F12, b12, PySem.W.mg_of X G a12⟩⟩, ⟨⟨f13, _, F13, b13, PySem.W.mg_of X G a13⟩⟩, ⟨⟨f14, _, F14, b14, PySem.W.mg_of X G a14⟩⟩, ⟨⟨f15, _, F15, b15, PySem.W.mg_of X G a15⟩⟩, ⟨⟨f16, _, F16, b16, PySem.W.mg_of X G a16⟩⟩, ⟨⟨f17, _, F17, b17, PySem.W.mg_of X G a17⟩⟩, ⟨⟨f18, _, F18, b18, PySem.W.mg_of X G a18⟩⟩, ⟨⟨f19, _, F19, b19, PySem.W.mg_of X G a19⟩⟩, ⟨⟨f20, _, F20, b20, PySem.W.mg_of X G a20⟩⟩, ⟨⟨f21, _, F21, b21, PySem.W.mg_of X G a21⟩⟩, ⟨⟨f22, _, F22, b22, PySem.W.mg_of X G a22⟩⟩, ⟨⟨f23, _, F23, b23, PySem.W.mg_of X G a23⟩⟩, ⟨⟨f24, _, F24, b24, PySem.W.mg_of X G a24⟩⟩, ⟨⟨f25, _, F25, b25, PySem.W.mg_of X G a25⟩⟩, ⟨⟨f26, _, F26, b26, PySem.W.mg_of X G a26⟩⟩, ⟨⟨f27, _, F27, b27, PySem.W.mg_of X G a27⟩⟩, ⟨⟨f28, _, F28, b28, PySem.W.mg_of X G a28⟩⟩, ⟨⟨f29, _, F29, b29, PySem.W.mg_of X G a29⟩⟩, ⟨⟨f30, _, F30, b30, PySem.W.mg_of X G a30⟩⟩, ⟨⟨f31, _, F31, b31, PySem.W.mg_of X G a31⟩⟩, ⟨⟨f32, _, F32, b32, PySem.W.mg_of X G a32⟩⟩, ⟨⟨aD0, PySem.W.mg_of X G e0, fun G0 => .tup (xs := [.str "new", .str "beside", .str "between"]) (.inr ⟨_, _, _, lk0, rfl, rfl, (show 3 ≤ sizeLine by decide), (.cons ⟨_, rfl⟩ (.cons ⟨_, rfl⟩ (.cons ⟨_, rfl⟩ .nil)))⟩) (.cons (.str _) (.cons (.str _) (.cons (.str _) .nil)))⟩⟩, ⟨⟨aD1, PySem.W.mg_of X G e1, fun z d h => by simp only [List.mem_cons, Prod.mk.injEq, List.not_mem_nil, or_false] at h; rcases h with ⟨rfl, rfl⟩ | ⟨rfl, rfl⟩ | ⟨rfl, rfl⟩; { exact ⟨.int (1), q1_0, fun _ => .int _⟩ }; { exact ⟨.int (0), q1_1, fun _ => .int _⟩ }; { exact ⟨.int (-1), q1_2, fun _ => .int _⟩ }⟩⟩, ⟨⟨aD2, PySem.W.mg_of X G e2, fun G0 => .tup (xs := [.str "beside", .str "between", .str "new"]) (.inr ⟨_, _, _, lk2, rfl, rfl, (show 3 ≤ sizeLine by decide), (.cons ⟨_, rfl⟩ (.cons ⟨_, rfl⟩ (.cons ⟨_, rfl⟩ .nil)))⟩) (.cons (.str _) (.cons (.str _) (.cons (.str _) .nil)))⟩⟩, PySem.W.mg_none_of X G z_abs, PySem.W.mg_none_of X G z_all, PySem.W.mg_none_of X G z_bool, PySem.W.mg_none_of X G z_int, PySem.W.mg_none_of X G z_isinstance, PySem.W.mg_none_of X G z_len, PySem.W.mg_none_of X G z_list, PySem.W.mg_none_of X G z_max, PySem.W.mg_none_of X G z_min, PySem.W.mg_none_of X G z_range, PySem.W.mg_none_of X G z_repr, PySem.W.mg_none_of X G z_reversed, PySem.W.mg_none_of X G z_sorted, PySem.W.mg_none_of X G z_str, PySem.W.mg_none_of X G z_sum, PySem.W.mg_none_of X G z_tuple, PySem.W.mg_none_of X G z_zip⟩
  have X0 : XC K C0 "ValueError" "ValueError.__new__" "ValueError.__init__" bVE := ⟨PySem.F.excBase_ValueError, PySem.F.store_ValueError, vxi0, vxo0, vxd0, vxs0, vxg0, vxh0, vxb0, vxc0, vxk0, vxn0, vxm0, spc, tks⟩
  have FI0 := fun_mk (st := iniS 3) vlI0 vcI0 vkI0
  have Y0 : Cls K mg "Noted" "note" "Noted.__init__" "ValueError" "ValueError.__new__" "ValueError.__init__" bVE (iniS 3) C0 := ⟨X0, PySem.W.mg_of X G vcn0, vxf0, vxt0, ⟨fI0, _, vin0, vty0, FI0, FI0.binds (ps := ["self", "note"]) (fun _ _ _ _ _ _ us hl => match us, hl with | [_, _], _ => rfl)⟩⟩
  have X1 : XC K C1 "LookupError" "LookupError.__new__" "LookupError.__init__" bLE := ⟨PySem.F.excBase_LookupError, PySem.F.store_LookupError, vxi1, vxo1, vxd1, vxs1, vxg1, vxh1, vxb1, vxc1, vxk1, vxn1, vxm1, spc, tks⟩
  have FI1 := fun_mk (st := iniS 4) vlI1 vcI1 vkI1
  have Y1 : Cls K mg "NoPlot" "plot" "NoPlot.__init__" "LookupError" "LookupError.__new__" "LookupError.__init__" bLE (iniS 4) C1 := ⟨X1, PySem.W.mg_of X G vcn1, vxf1, vxt1, ⟨fI1, _, vin1, vty1, FI1, FI1.binds (ps := ["self", "plot"]) (fun _ _ _ _ _ _ us hl => match us, hl with | [_, _], _ => rfl)⟩⟩
  have X2 : XC K C2 "LookupError" "LookupError.__new__" "LookupError.__init__" bLE := ⟨PySem.F.excBase_LookupError, PySem.F.store_LookupError, vxi2, vxo2, vxd2, vxs2, vxg2, vxh2, vxb2, vxc2, vxk2, vxn2, vxm2, spc, tks⟩
  have FI2 := fun_mk (st := iniS 5) vlI2 vcI2 vkI2
  have Y2 : Cls K mg "NoTime" "time" "NoTime.__init__" "LookupError" "LookupError.__new__" "LookupError.__init__" bLE (iniS 5) C2 := ⟨X2, PySem.W.mg_of X G vcn2, vxf2, vxt2, ⟨fI2, _, vin2, vty2, FI2, FI2.binds (ps := ["self", "time"]) (fun _ _ _ _ _ _ us hl => match us, hl with | [_, _], _ => rfl)⟩⟩
  have X3 : XC K C3 "LookupError" "LookupError.__new__" "LookupError.__init__" bLE := ⟨PySem.F.excBase_LookupError, PySem.F.store_LookupError, vxi3, vxo3, vxd3, vxs3, vxg3, vxh3, vxb3, vxc3, vxk3, vxn3, vxm3, spc, tks⟩
  have FI3 := fun_mk (st := iniS 6) vlI3 vcI3 vkI3
  have Y3 : Cls K mg "NoNote" "note" "NoNote.__init__" "LookupError" "LookupError.__new__" "LookupError.__init__" bLE (iniS 6) C3 := ⟨X3, PySem.W.mg_of X G vcn3, vxf3, vxt3, ⟨fI3, _, vin3, vty3, FI3, FI3.binds (ps := ["self", "note"]) (fun _ _ _ _ _ _ us hl => match us, hl with | [_, _], _ => rfl)⟩⟩
  have X4 : XC K C4 "LookupError" "LookupError.__new__" "LookupError.__init__" bLE := ⟨PySem.F.excBase_LookupError, PySem.F.store_LookupError, vxi4, vxo4, vxd4, vxs4, vxg4, vxh4, vxb4, vxc4, vxk4, vxn4, vxm4, spc, tks⟩
  have FI4 := fun_mk (st := iniS 7) vlI4 vcI4 vkI4
  have Y4 : Cls K mg "NoOperation" "many" "NoOperation.__init__" "LookupError" "LookupError.__new__" "LookupError.__init__" bLE (iniS 7) C4 := ⟨X4, PySem.W.mg_of X G vcn4, vxf4, vxt4, ⟨fI4, _, vin4, vty4, FI4, FI4.binds (ps := ["self", "many"]) (fun _ _ _ _ _ _ us hl => match us, hl with | [_, _], _ => rfl)⟩⟩
  have X5 : XC K C5 "RuntimeError" "RuntimeError.__new__" "RuntimeError.__init__" bRE := ⟨PySem.F.excBase_RuntimeError, PySem.F.store_RuntimeError, vxi5, vxo5, vxd5, vxs5, vxg5, vxh5, vxb5, vxc5, vxk5, vxn5, vxm5, spc, tks⟩
  have FI5 := fun_mk (st := iniS 8) vlI5 vcI5 vkI5
  have Y5 : Cls K mg "Built" "plot" "Built.__init__" "RuntimeError" "RuntimeError.__new__" "RuntimeError.__init__" bRE (iniS 8) C5 := ⟨X5, PySem.W.mg_of X G vcn5, vxf5, vxt5, ⟨fI5, _, vin5, vty5, FI5, FI5.binds (ps := ["self", "plot"]) (fun _ _ _ _ _ _ us hl => match us, hl with | [_, _], _ => rfl)⟩⟩
  have TY : TopX K mg (fun j => [C0, C1, C2, C3, C4, C5].getD j 0 : Nat → Addr) := ⟨Y0, Y1, Y2, Y3, Y4, Y5, vkit, vk_ValueError, PySem.W.mg_none_of X G y_ValueError, vk_LookupError, PySem.W.mg_none_of X G y_LookupError, vk_RuntimeError, PySem.W.mg_none_of X G y_RuntimeError, vk_KeyError, PySem.W.mg_none_of X G y_KeyError, vk_IndexError, PySem.W.mg_none_of X G y_IndexError, vexm⟩
  have M1 := fun_mk (st := s_S_build) sl1 sc1 sk1
  have N1 := M1.binds (ps := ["self", "plot"]) fun _ _ _ _ _ _ us hl => match us, hl with | [_, _], _ => rfl
  have M2 := fun_mk (st := s_S_build_all) sl2 sc2 sk2
  have N2 := M2.binds (ps := ["self", "row"]) fun _ _ _ _ _ _ us hl => match us, hl with | [_, _], _ => rfl
  have M3 := fun_mk (st := s_S_note_down) sl3 sc3 sk3
  have N3 := M3.binds (ps := ["self", "time", "sort"]) fun _ _ _ _ _ _ us hl => match us, hl with | [_, _, _], _ => rfl
  have M4 := fun_mk (st := s_S_forget) sl4 sc4 sk4
  have N4 := M4.binds (ps := ["self", "note"]) fun _ _ _ _ _ _ us hl => match us, hl with | [_, _], _ => rfl
  have M5 := fun_mk (st := s_S_turn) sl5 sc5 sk5
  have N5 := M5.binds (ps := ["self"]) fun _ _ _ _ _ _ us hl => match us, hl with | [_], _ => rfl
  have M6 := fun_mk (st := s_S_undo) sl6 sc6 sk6
  have N6 := M6.binds (ps := ["self"]) fun _ _ _ _ _ _ us hl => match us, hl with | [_], _ => rfl
  have M7 := fun_mk (st := s_S_build_on) sl7 sc7 sk7
  have N7 := M7.binds (ps := ["self", "more"]) fun _ _ _ _ _ _ us hl => match us, hl with | [_, _], _ => rfl
  have M8 := fun_mk (st := s_S_note_truth) sl8 sc8 sk8
  have N8 := M8.binds (ps := ["self", "time", "sort"]) fun _ _ _ _ _ _ us hl => match us, hl with | [_, _, _], _ => rfl
  have M9 := fun_mk (st := s_S_row) sl9 sc9 sk9
  have N9 := M9.binds (ps := ["self"]) fun _ _ _ _ _ _ us hl => match us, hl with | [_], _ => rfl
  have M10 := fun_mk (st := s_S_notes) sl10 sc10 sk10
  have N10 := M10.binds (ps := ["self"]) fun _ _ _ _ _ _ us hl => match us, hl with | [_], _ => rfl
  have M11 := fun_mk (st := s_S_groups) sl11 sc11 sk11
  have N11 := M11.binds (ps := ["self"]) fun _ _ _ _ _ _ us hl => match us, hl with | [_], _ => rfl
  have M12 := fun_mk (st := s_S_journal) sl12 sc12 sk12
  have N12 := M12.binds (ps := ["self"]) fun _ _ _ _ _ _ us hl => match us, hl with | [_], _ => rfl
  have M13 := fun_mk (st := s_S_count) sl13 sc13 sk13
  have N13 := M13.binds (ps := ["self"]) fun _ _ _ _ _ _ us hl => match us, hl with | [_], _ => rfl
  have M14 := fun_mk (st := s_S_empty) sl14 sc14 sk14
  have N14 := M14.binds (ps := ["self"]) fun _ _ _ _ _ _ us hl => match us, hl with | [_], _ => rfl
  have M15 := fun_mk (st := s_S_operations) sl15 sc15 sk15
  have N15 := M15.binds (ps := ["self"]) fun _ _ _ _ _ _ us hl => match us, hl with | [_], _ => rfl
  have M16 := fun_mk (st := s_S_as_of) sl16 sc16 sk16
  have N16 := M16.binds (ps := ["self", "many"]) fun _ _ _ _ _ _ us hl => match us, hl with | [_, _], _ => rfl
  have M17 := fun_mk (st := s_S_twin) sl17 sc17 sk17
  have N17 := M17.binds (ps := ["self"]) fun _ _ _ _ _ _ us hl => match us, hl with | [_], _ => rfl
  have M18 := fun_mk (st := s_S_log) sl18 sc18 sk18
  have N18 := M18.binds (ps := ["self"]) fun _ _ _ _ _ _ us hl => match us, hl with | [_], _ => rfl
  have M19 := fun_mk (st := s_S___eq__) sl19 sc19 sk19
  have N19 := M19.binds (ps := ["self", "other"]) fun _ _ _ _ _ _ us hl => match us, hl with | [_, _], _ => rfl
  have M20 := fun_mk (st := s_S___len__) sl20 sc20 sk20
  have N20 := M20.binds (ps := ["self"]) fun _ _ _ _ _ _ us hl => match us, hl with | [_], _ => rfl
  have M21 := fun_mk (st := s_S___repr__) sl21 sc21 sk21
  have N21 := M21.binds (ps := ["self"]) fun _ _ _ _ _ _ us hl => match us, hl with | [_], _ => rfl
  have Z : TopS K mg cS := ⟨PySem.W.mg_of X G sH, ⟨⟨mf1, _, M1, N1, ⟨sa1, si1, sk1⟩⟩⟩, ⟨⟨mf2, _, M2, N2, ⟨sa2, si2, sk2⟩⟩⟩, ⟨⟨mf3, _, M3, N3, ⟨sa3, si3, sk3⟩⟩⟩, ⟨⟨mf4, _, M4, N4, ⟨sa4, si4, sk4⟩⟩⟩, ⟨⟨mf5, _, M5, N5, ⟨sa5, si5, sk5⟩⟩⟩, ⟨⟨mf6, _, M6, N6, ⟨sa6, si6, sk6⟩⟩⟩, ⟨⟨mf7, _, M7, N7, ⟨sa7, si7, sk7⟩⟩⟩, ⟨⟨mf8, _, M8, N8, ⟨sa8, si8, sk8⟩⟩⟩, ⟨⟨mf9, _, M9, N9, ⟨sa9, si9, sk9⟩⟩⟩, ⟨⟨mf10, _, M10, N10, ⟨sa10, si10, sk10⟩⟩⟩, ⟨⟨mf11, _, M11, N11, ⟨sa11, si11, sk11⟩⟩⟩, ⟨⟨mf12, _, M12, N12, ⟨sa12, si12, sk12⟩⟩⟩, ⟨⟨mf13, _, M13, N13, ⟨sa13, si13, sk13⟩⟩⟩, ⟨⟨mf14, _, M14, N14, ⟨sa14, si14, sk14⟩⟩⟩, ⟨⟨mf15, _, M15, N15, ⟨sa15, si15, sk15⟩⟩⟩, ⟨⟨mf16, _, M16, N16, ⟨sa16, si16, sk16⟩⟩⟩, ⟨⟨mf17, _, M17, N17, ⟨sa17, si17, sk17⟩⟩⟩, ⟨⟨mf18, _, M18, N18, ⟨sa18, si18, sk18⟩⟩⟩, ⟨⟨mf19, _, M19, N19, ⟨sa19, si19, sk19⟩⟩⟩, ⟨⟨mf20, _, M20, N20, ⟨sa20, si20, sk20⟩⟩⟩, ⟨⟨mf21, _, M21, N21, ⟨sa21, si21, sk21⟩⟩⟩, ⟨mf0, _, ⟨tm, sa0, si0, tk⟩, ⟨_, _, _, _, _, _, _, _, _, _, sl0, sc0, rfl⟩, fun s us X hl => match us, hl with | [_, _], _ => PySem.W.binds_K X rfl sd0 rfl rfl rfl⟩, ⟨⟨tg, td, to, ts⟩, np, nS, nT⟩, ⟨tc, spc, tks, tw, tkit⟩⟩
  have SN : StN K cS := ⟨sne, tw⟩
  exact ⟨_, fun s v => .of_eq rfl, fun base _ _ => ok_law F33 T TY Z SN⟩
end Og80
open PySem PySem.W PyProof.Rows
set_option maxHeartbeats 0 in
theorem PySem.Challenge.cw_onlygroups_k80_whole_a_street_made_anew_holds : PySem.Challenge.rw_onlygroups_k80_whole_a_street_made_anew.Holds := by
  w_on; o_law; k_head; (case hw => w_witness2)
  k_fill
  refine OgR.walk_G (l := PySem.Challenge.rw_onlygroups_k80_whole_a_street_made_anew) (n := 63) (k := 17) (x := "_law_script") (sp := fun w => Dw.spLaw _) rfl (by decide) rfl ⟨rfl, by decide, by decide⟩ (fun w h Y => PySem.W.kIn_of Y) ?F (fun _ _ a ns hl hS => ⟨a, ns, rfl, hS, hl, fun _ => rfl⟩)
  case F =>
    intro w mg fa h KX G hmg
    refine' Og80.all_mk KX G hmg ?a0 ?l0 ?c0 ?k0 ?a1 ?l1 ?c1 ?k1 ?a2 ?l2 ?c2 ?k2 ?a3 ?l3 ?c3 ?k3 ?a4 ?l4 ?c4 ?k4 ?a5 ?l5 ?c5 ?k5 ?a6 ?l6 ?c6 ?k6 ?a7 ?l7 ?c7 ?k7 ?a8 ?l8 ?c8 ?k8 ?a9 ?l9 ?c9 ?k9 ?a10 ?l10 ?c10 ?k10 ?a11 ?l11 ?c11 ?k11 ?a12 ?l12 ?c12 ?k12 ?a13 ?l13 ?c13 ?k13 ?a14 ?l14 ?c14 ?k14 ?a15 ?l15 ?c15 ?k15 ?a16 ?l16 ?c16 ?k16 ?a17 ?l17 ?c17 ?k17 ?a18 ?l18 ?c18 ?k18 ?a19 ?l19 ?c19 ?k19 ?a20 ?l20 ?c20 ?k20 ?a21 ?l21 ?c21 ?k21 ?a22 ?l22 ?c22 ?k22 ?a23 ?l23 ?c23 ?k23 ?a24 ?l24 ?c24 ?k24 ?a25 ?l25 ?c25 ?k25 ?a26 ?l26 ?c26 ?k26 ?a27 ?l27 ?c27 ?k27 ?a28 ?l28 ?c28 ?k28 ?a29 ?l29 ?c29 ?k29 ?a30 ?l30 ?c30 ?k30 ?a31 ?l31 ?c31 ?k31 ?a32 ?l32 ?c32 ?k32 ?a33 ?l33 ?c33 ?k33 ?e0 ?lk0 ?e1 ?q1_0 ?q1_1 ?q1_2 ?e2 ?lk2 ?sH ?sa0 ?si0 ?sl0 ?sc0 ?sd0 ?sa1 ?si1 ?sl1 ?sc1 ?sk1 ?sa2 ?si2 ?sl2 ?sc2 ?sk2 ?sa3 ?si3 ?sl3 ?sc3 ?sk3 ?sa4 ?si4 ?sl4 ?sc4 ?sk4 ?sa5 ?si5 ?sl5 ?sc5 ?sk5 ?sa6 ?si6 ?sl6 ?sc6 ?sk6 ?sa7 ?si7 ?sl7 ?sc7 ?sk7 ?sa8 ?si8 ?sl8 ?sc8 ?sk8 ?sa9 ?si9 ?sl9 ?sc9 ?sk9 ?sa10 ?si10 ?sl10 ?sc10 ?sk10 ?sa11 ?si11 ?sl11 ?sc11 ?sk11 ?sa12 ?si12 ?sl12 ?sc12 ?sk12 ?sa13 ?si13 ?sl13 ?sc13 ?sk13 ?sa14 ?si14 ?sl14 ?sc14 ?sk14 ?sa15 ?si15 ?sl15 ?sc15 ?sk15 ?sa16 ?si16 ?sl16 ?sc16 ?sk16 ?sa17 ?si17 ?sl17 ?sc17 ?sk17 ?sa18 ?si18 ?sl18 ?sc18 ?sk18 ?sa19 ?si19 ?sl19 ?sc19 ?sk19 ?sa20 ?si20 ?sl20 ?sc20 ?sk20 ?sa21 ?si21 ?sl21 ?sc21 ?sk21 ?tm ?tk ?tg ?td ?to ?ts ?np ?nS ?nT ?tc ?tw ?tkit ?sne ?z_abs ?z_all ?z_bool ?z_int ?z_isinstance ?z_len ?z_list ?z_max ?z_min ?z_range ?z_repr ?z_reversed ?z_sorted ?z_str ?z_sum ?z_tuple ?z_zip ?spc ?tks ?vcn0 ?vxi0 ?vxo0 ?vxd0 ?vxs0 ?vxg0 ?vxh0 ?vxb0 ?vxc0 ?vxk0 ?vxn0 ?vxm0 ?vxf0 ?vxt0 ?vin0 ?vty0 ?vlI0 ?vcI0 ?vkI0 ?vcn1 ?vxi1 ?vxo1 ?vxd1 ?vxs1 ?vxg1 ?vxh1 ?vxb1 ?vxc1 ?vxk1 ?vxn1 ?vxm1 ?vxf1 ?vxt1 ?vin1 ?vty1 ?vlI1 ?vcI1 ?vkI1 ?vcn2 ?vxi2 ?vxo2 ?vxd2 ?vxs2 ?vxg2 ?vxh2 ?vxb2 ?vxc2 ?vxk2 ?vxn2 ?vxm2 ?vxf2 ?vxt2 ?vin2 ?vty2 ?vlI2 ?vcI2 ?vkI2 ?vcn3 ?vxi3 ?vxo3 ?vxd3 ?vxs3 ?vxg3 ?vxh3 ?vxb3 ?vxc3 ?vxk3 ?vxn3 ?vxm3 ?vxf3 ?vxt3 ?vin3 ?vty3 ?vlI3 ?vcI3 ?vkI3 ?vcn4 ?vxi4 ?vxo4 ?vxd4 ?vxs4 ?vxg4 ?vxh4 ?vxb4 ?vxc4 ?vxk4 ?vxn4 ?vxm4 ?vxf4 ?vxt4 ?vin4 ?vty4 ?vlI4 ?vcI4 ?vkI4 ?vcn5 ?vxi5 ?vxo5 ?vxd5 ?vxs5 ?vxg5 ?vxh5 ?vxb5 ?vxc5 ?vxk5 ?vxn5 ?vxm5 ?vxf5 ?vxt5 ?vin5 ?vty5 ?vlI5 ?vcI5 ?vkI5 ?vkit ?vk_ValueError ?y_ValueError ?vk_LookupError ?y_LookupError ?vk_RuntimeError ?y_RuntimeError ?vk_KeyError ?y_KeyError ?vk_IndexError ?y_IndexError ?vexm
    (case a0 => k_is)
    (case l0 => k_is)
    (case c0 => k_is)
    (case k0 => k_is)
    (case a1 => k_is)
    (case l1 => k_is)
    (case c1 => k_is)
    (case k1 => k_is)
    (case a2 => k_is)
    (case l2 => k_is)
    (case c2 => k_is)
    (case k2 => k_is)
    (case a3 => k_is)
    (case l3 => k_is)
    (case c3 => k_is)
    (case k3 => k_is)
    (case a4 => k_is)
    (case l4 => k_is)
    (case c4 => k_is)
    (case k4 => k_is)
    (case a5 => k_is)
    (case l5 => k_is)
    (case c5 => k_is)
    (case k5 => k_is)
    (case a6 => k_is)
    (case l6 => k_is)
    (case c6 => k_is)
    (case k6 => k_is)
    (case a7 => k_is)
    (case l7 => k_is)
    (case c7 => k_is)
    (case k7 => k_is)
    (case a8 => k_is)
    (case l8 => k_is)
    (case c8 => k_is)
    (case k8 => k_is)
    (case a9 => k_is)
    (case l9 => k_is)
    (case c9 => k_is)
    (case k9 => k_is)
    (case a10 => k_is)
    (case l10 => k_is)
    (case c10 => k_is)
    (case k10 => k_is)
    (case a11 => k_is)
    (case l11 => k_is)
    (case c11 => k_is)
    (case k11 => k_is)
    (case a12 => k_is)
    (case l12 => k_is)
    (case c12 => k_is)
    (case k12 => k_is)
    (case a13 => k_is)
    (case l13 => k_is)
    (case c13 => k_is)
    (case k13 => k_is)
    (case a14 => k_is)
    (case l14 => k_is)
    (case c14 => k_is)
    (case k14 => k_is)
    (case a15 => k_is)
    (case l15 => k_is)
    (case c15 => k_is)
    (case k15 => k_is)
    (case a16 => k_is)
    (case l16 => k_is)
    (case c16 => k_is)
    (case k16 => k_is)
    (case a17 => k_is)
    (case l17 => k_is)
    (case c17 => k_is)
    (case k17 => k_is)
    (case a18 => k_is)
    (case l18 => k_is)
    (case c18 => k_is)
    (case k18 => k_is)
    (case a19 => k_is)
    (case l19 => k_is)
    (case c19 => k_is)
    (case k19 => k_is)
    (case a20 => k_is)
    (case l20 => k_is)
    (case c20 => k_is)
    (case k20 => k_is)
    (case a21 => k_is)
    (case l21 => k_is)
    (case c21 => k_is)
    (case k21 => k_is)
    (case a22 => k_is)
    (case l22 => k_is)
    (case c22 => k_is)
    (case k22 => k_is)
    (case a23 => k_is)
    (case l23 => k_is)
    (case c23 => k_is)
    (case k23 => k_is)
    (case a24 => k_is)
    (case l24 => k_is)
    (case c24 => k_is)
    (case k24 => k_is)
    (case a25 => k_is)
    (case l25 => k_is)
    (case c25 => k_is)
    (case k25 => k_is)
    (case a26 => k_is)
    (case l26 => k_is)
    (case c26 => k_is)
    (case k26 => k_is)
    (case a27 => k_is)
    (case l27 => k_is)
    (case c27 => k_is)
    (case k27 => k_is)
    (case a28 => k_is)
    (case l28 => k_is)
    (case c28 => k_is)
    (case k28 => k_is)
    (case a29 => k_is)
    (case l29 => k_is)
    (case c29 => k_is)
    (case k29 => k_is)
    (case a30 => k_is)
    (case l30 => k_is)
    (case c30 => k_is)
    (case k30 => k_is)
    (case a31 => k_is)
    (case l31 => k_is)
    (case c31 => k_is)
    (case k31 => k_is)
    (case a32 => k_is)
    (case l32 => k_is)
    (case c32 => k_is)
    (case k32 => k_is)
    (case a33 => k_is)
    (case l33 => k_is)
    (case c33 => k_is)
    (case k33 => k_is)
    (case e0 => k_is)
    (case lk0 => k_is)
    (case e1 => k_is)
    (case q1_0 =>
      refine' ⟨?es1039, ?nn1039, ?uu1039, ?l1039, ?k1039, ?n1039, ?r1039⟩
      (case l1039 => exact rfl)
      (case k1039 => exact ⟨⟨_, _, rfl, rfl⟩, ⟨_, _, rfl, rfl⟩, ⟨_, _, rfl, rfl⟩, trivial⟩)
      (case n1039 => exact rfl)
      (case r1039 => exact ⟨_, rfl⟩))
    (case q1_1 =>
      refine' ⟨?es1040, ?nn1040, ?uu1040, ?l1040, ?k1040, ?n1040, ?r1040⟩
      (case l1040 => exact rfl)
      (case k1040 => exact ⟨⟨_, _, rfl, rfl⟩, ⟨_, _, rfl, rfl⟩, ⟨_, _, rfl, rfl⟩, trivial⟩)
      (case n1040 => exact rfl)
      (case r1040 => exact ⟨_, rfl⟩))
    (case q1_2 =>
      refine' ⟨?es1041, ?nn1041, ?uu1041, ?l1041, ?k1041, ?n1041, ?r1041⟩
      (case l1041 => exact rfl)
      (case k1041 => exact ⟨⟨_, _, rfl, rfl⟩, ⟨_, _, rfl, rfl⟩, ⟨_, _, rfl, rfl⟩, trivial⟩)
      (case n1041 => exact rfl)
      (case r1041 => exact ⟨_, rfl⟩))
    (case e2 => k_is)
    (case lk2 => k_is)
    (case sH => k_is)
    (case sa0 => k_is)
    (case si0 => k_is)
    (case sl0 => k_is)
    (case sc0 => k_is)
    (case sd0 => k_is)
    (case sa1 => k_is)
    (case si1 => k_is)
    (case sl1 => k_is)
    (case sc1 => k_is)
    (case sk1 => k_is)
    (case sa2 => k_is)
    (case si2 => k_is)
    (case sl2 => k_is)
    (case sc2 => k_is)
    (case sk2 => k_is)
    (case sa3 => k_is)
    (case si3 => k_is)
    (case sl3 => k_is)
    (case sc3 => k_is)
    (case sk3 => k_is)
    (case sa4 => k_is)
    (case si4 => k_is)
    (case sl4 => k_is)
    (case sc4 => k_is)
    (case sk4 => k_is)
    (case sa5 => k_is)
    (case si5 => k_is)
    (case sl5 => k_is)
    (case sc5 => k_is)
    (case sk5 => k_is)
    (case sa6 => k_is)
    (case si6 => k_is)
    (case sl6 => k_is)
    (case sc6 => k_is)
    (case sk6 => k_is)
    (case sa7 => k_is)
    (case si7 => k_is)
    (case sl7 => k_is)
    (case sc7 => k_is)
    (case sk7 => k_is)
    (case sa8 => k_is)
    (case si8 => k_is)
    (case sl8 => k_is)
    (case sc8 => k_is)
    (case sk8 => k_is)
    (case sa9 => k_is)
    (case si9 => k_is)
    (case sl9 => k_is)
    (case sc9 => k_is)
    (case sk9 => k_is)
    (case sa10 => k_is)
    (case si10 => k_is)
    (case sl10 => k_is)
    (case sc10 => k_is)
    (case sk10 => k_is)
    (case sa11 => k_is)
    (case si11 => k_is)
    (case sl11 => k_is)
    (case sc11 => k_is)
    (case sk11 => k_is)
    (case sa12 => k_is)
    (case si12 => k_is)
    (case sl12 => k_is)
    (case sc12 => k_is)
    (case sk12 => k_is)
    (case sa13 => k_is)
    (case si13 => k_is)
    (case sl13 => k_is)
    (case sc13 => k_is)
    (case sk13 => k_is)
    (case sa14 => k_is)
    (case si14 => k_is)
    (case sl14 => k_is)
    (case sc14 => k_is)
    (case sk14 => k_is)
    (case sa15 => k_is)
    (case si15 => k_is)
    (case sl15 => k_is)
    (case sc15 => k_is)
    (case sk15 => k_is)
    (case sa16 => k_is)
    (case si16 => k_is)
    (case sl16 => k_is)
    (case sc16 => k_is)
    (case sk16 => k_is)
    (case sa17 => k_is)
    (case si17 => k_is)
    (case sl17 => k_is)
    (case sc17 => k_is)
    (case sk17 => k_is)
    (case sa18 => k_is)
    (case si18 => k_is)
    (case sl18 => k_is)
    (case sc18 => k_is)
    (case sk18 => k_is)
    (case sa19 => k_is)
    (case si19 => k_is)
    (case sl19 => k_is)
    (case sc19 => k_is)
    (case sk19 => k_is)
    (case sa20 => k_is)
    (case si20 => k_is)
    (case sl20 => k_is)
    (case sc20 => k_is)
    (case sk20 => k_is)
    (case sa21 => k_is)
    (case si21 => k_is)
    (case sl21 => k_is)
    (case sc21 => k_is)
    (case sk21 => k_is)
    (case tm => k_is)
    (case tk => k_is)
    (case tg => k_is)
    (case td => k_is)
    (case to => k_is)
    (case ts => k_is)
    (case np => k_is)
    (case nS => k_is)
    (case nT => k_is)
    (case tc => k_is)
    (case tw => k_is)
    (case tkit => first | exact rfl | decide +kernel | k_is)
    (case sne => k_is)
    (case z_abs => k_is)
    (case z_all => k_is)
    (case z_bool => k_is)
    (case z_int => k_is)
    (case z_isinstance => k_is)
    (case z_len => k_is)
    (case z_list => k_is)
    (case z_max => k_is)
    (case z_min => k_is)
    (case z_range => k_is)
    (case z_repr => k_is)
    (case z_reversed => k_is)
    (case z_sorted => k_is)
    (case z_str => k_is)
    (case z_sum => k_is)
    (case z_tuple => k_is)
    (case z_zip => k_is)
    (case spc => k_is)
    (case tks => k_is)
    (case vcn0 => k_is)
    (case vxi0 => first | exact rfl | decide +kernel | k_is)
    (case vxo0 => first | exact rfl | decide +kernel | k_is)
    (case vxd0 => k_is)
    (case vxs0 => k_is)
    (case vxg0 => k_is)
    (case vxh0 => k_is)
    (case vxb0 => k_is)
    (case vxc0 => k_is)
    (case vxk0 => k_is)
    (case vxn0 => first | exact rfl | decide +kernel | k_is)
    (case vxm0 => k_is)
    (case vxf0 => k_is)
    (case vxt0 => k_is)
    (case vin0 => k_is)
    (case vty0 => k_is)
    (case vlI0 => k_is)
    (case vcI0 => k_is)
    (case vkI0 => k_is)
    (case vcn1 => k_is)
    (case vxi1 => first | exact rfl | decide +kernel | k_is)
    (case vxo1 => first | exact rfl | decide +kernel | k_is)
    (case vxd1 => k_is)
    (case vxs1 => k_is)
    (case vxg1 => k_is)
    (case vxh1 => k_is)
    (case vxb1 => k_is)
    (case vxc1 => k_is)
    (case vxk1 => k_is)
    (case vxn1 => first | exact rfl | decide +kernel | k_is)
    (case vxm1 => k_is)
    (case vxf1 => k_is)
    (case vxt1 => k_is)
    (case vin1 => k_is)
    (case vty1 => k_is)
    (case vlI1 => k_is)
    (case vcI1 => k_is)
    (case vkI1 => k_is)
    (case vcn2 => k_is)
    (case vxi2 => first | exact rfl | decide +kernel | k_is)
    (case vxo2 => first | exact rfl | decide +kernel | k_is)
    (case vxd2 => k_is)
    (case vxs2 => k_is)
    (case vxg2 => k_is)
    (case vxh2 => k_is)
    (case vxb2 => k_is)
    (case vxc2 => k_is)
    (case vxk2 => k_is)
    (case vxn2 => first | exact rfl | decide +kernel | k_is)
    (case vxm2 => k_is)
    (case vxf2 => k_is)
    (case vxt2 => k_is)
    (case vin2 => k_is)
    (case vty2 => k_is)
    (case vlI2 => k_is)
    (case vcI2 => k_is)
    (case vkI2 => k_is)
    (case vcn3 => k_is)
    (case vxi3 => first | exact rfl | decide +kernel | k_is)
    (case vxo3 => first | exact rfl | decide +kernel | k_is)
    (case vxd3 => k_is)
    (case vxs3 => k_is)
    (case vxg3 => k_is)
    (case vxh3 => k_is)
    (case vxb3 => k_is)
    (case vxc3 => k_is)
    (case vxk3 => k_is)
    (case vxn3 => first | exact rfl | decide +kernel | k_is)
    (case vxm3 => k_is)
    (case vxf3 => k_is)
    (case vxt3 => k_is)
    (case vin3 => k_is)
    (case vty3 => k_is)
    (case vlI3 => k_is)
    (case vcI3 => k_is)
    (case vkI3 => k_is)
    (case vcn4 => k_is)
    (case vxi4 => first | exact rfl | decide +kernel | k_is)
    (case vxo4 => first | exact rfl | decide +kernel | k_is)
    (case vxd4 => k_is)
    (case vxs4 => k_is)
    (case vxg4 => k_is)
    (case vxh4 => k_is)
    (case vxb4 => k_is)
    (case vxc4 => k_is)
    (case vxk4 => k_is)
    (case vxn4 => first | exact rfl | decide +kernel | k_is)
    (case vxm4 => k_is)
    (case vxf4 => k_is)
    (case vxt4 => k_is)
    (case vin4 => k_is)
    (case vty4 => k_is)
    (case vlI4 => k_is)
    (case vcI4 => k_is)
    (case vkI4 => k_is)
    (case vcn5 => k_is)
    (case vxi5 => first | exact rfl | decide +kernel | k_is)
    (case vxo5 => first | exact rfl | decide +kernel | k_is)
    (case vxd5 => k_is)
    (case vxs5 => k_is)
    (case vxg5 => k_is)
    (case vxh5 => k_is)
    (case vxb5 => k_is)
    (case vxc5 => k_is)
    (case vxk5 => k_is)
    (case vxn5 => first | exact rfl | decide +kernel | k_is)
    (case vxm5 => k_is)
    (case vxf5 => k_is)
    (case vxt5 => k_is)
    (case vin5 => k_is)
    (case vty5 => k_is)
    (case vlI5 => k_is)
    (case vcI5 => k_is)
    (case vkI5 => k_is)
    (case vkit => first | exact rfl | decide +kernel | k_is)
    (case vk_ValueError => first | exact rfl | decide +kernel | k_is)
    (case y_ValueError => k_is)
    (case vk_LookupError => first | exact rfl | decide +kernel | k_is)
    (case y_LookupError => k_is)
    (case vk_RuntimeError => first | exact rfl | decide +kernel | k_is)
    (case y_RuntimeError => k_is)
    (case vk_KeyError => first | exact rfl | decide +kernel | k_is)
    (case y_KeyError => k_is)
    (case vk_IndexError => first | exact rfl | decide +kernel | k_is)
    (case y_IndexError => k_is)
    (case vexm => first | exact rfl | decide +kernel | k_is)
