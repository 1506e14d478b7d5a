import PyProof.Rows.All
import Wide.All
import OpenK.AllK
import Wide.FinOn
import HandS.ForMost
import HandS.Wide
import HandS.WideBits
import HandS.FStr
import HandS.IsInst
import HandS.CallLocal
import HandS.More
import HandS.Star
import HandS.Keys
import HandS.Zip
import HandS.Lambda
import KE.SortData
import KE.DatumIndex
import KE.GoesEnum
import KE.GoesMore
import HandS.NoneIn
import HandS.Walk
import HandS.Text
import HandS.Style
import HandS.Ends
import PySem.Challenge.RW_leastequal_k02_whole_lowest_bits_stay
set_option Elab.async false
set_option linter.all false
set_option maxRecDepth 100000
section
set_option maxHeartbeats 4000000
/-! the layer of this proof: defs whose caller's guards are known, repr and sorted of data, .. -/
namespace G1
open PySem PySem.Spec PyProof.Rows L2
/-- a def's promise where no repr is under way around it -/
structure FnG (P : Program) (w : World) (K : PySem.W.Frag) (mg : Str → Option Value) (base : Heap)
    (CX : CXT) (k : Nat) (f : Addr) (fd : FuncData) (ps : List Str) (sp : Sp) : Prop where
  len : ∀ vs H Q E, sp vs H Q E → vs.length = ps.length
  go : ∀ (A : Around) (outer : List Env) (s : Shared) (H : Hp) (args : Args) (us : List Value) (vs : List V) (Q : VK)
    (E : XK), A.guards = some [] → Room k A → Env0 P w K mg base A outer s H → BindsTo s fd args (ps.zip us) →
    Vals vs us → sp vs H Q E →
    codeAny (model P w) A (.call (.ref f) args) (CR CX outer P w H s Q E) s
section
variable {P : Program} {w : World} {K : PySem.W.Frag} {mg : Str → Option Value} {base : Heap}
theorem FnG.mono {CX : CXT} {j k : Nat} {f : Addr} {fd : FuncData} {ps : List Str} {sp : Sp}
    (F : FnG P w K mg base CX j f fd ps sp) (h : j ≤ k) : FnG P w K mg base CX k f fd ps sp :=
  ⟨F.len, fun A outer s H args us vs Q E hg hr =>
    F.go A outer s H args us vs Q E hg (hr.mono h)⟩
/-- by the body -/
theorem okG {x qual : Str} {st : Stmt} {f : Addr} {fd : FuncData} {N ps : List Str} {k : Nat} {sp : Sp}
    (F : Fun K x qual st f fd) (S : FnScope N ps (defScope st))
    (len : ∀ vs H Q E, sp vs H Q E → vs.length = ps.length)
    (hb : ∀ (cdv : Value) (A : Around) (outer : List Env) (s : Shared) (H : Hp) (vs : List V) (Q : VK) (E : XK),
      (A.deeper (envOfC qual (defScope st) s.heap.objs.size f cdv)).guards = some [] →
      Room k (A.deeper (envOfC qual (defScope st) s.heap.objs.size f cdv)) → sp vs H Q E →
      ∃ t, PSs (cxOf CX0 P w K mg base N qual (defScope st) f cdv A outer s H E).nox (defBody st) t ∧
        t { nx := fun _ H' => Q .non H', rt := Q } (start N vs) H) :
    FnG P w K mg base CX0 (k + 1) f fd ps sp := by
  obtain ⟨oc, od, kV, doc, pm, an, cdv, ct, osl, rfl, lk, hcd⟩ := F.ex
  refine ⟨len, fun A outer s H args us vs Q E hg hr e0 bt r hs => ?_⟩
  exact LamX.run_ofS lk hcd S hr e0 bt r (len _ _ _ _ hs) fun hr2 =>
    let ⟨t, h, q⟩ := hb cdv A outer s H vs Q E hg hr2 hs
    ⟨t, h.nox, q⟩
/-- the same for a def that errors may leave -/
theorem okGX {CX : CXT} {x qual : Str} {st : Stmt} {f : Addr} {fd : FuncData} {N ps : List Str} {k : Nat} {sp : Sp}
    (F : Fun K x qual st f fd) (S : FnScope N ps (defScope st))
    (len : ∀ vs H Q E, sp vs H Q E → vs.length = ps.length)
    (hb : ∀ (cdv : Value) (A : Around) (outer : List Env) (s : Shared) (H : Hp) (vs : List V) (Q : VK) (E : XK),
      (A.deeper (envOfC qual (defScope st) s.heap.objs.size f cdv)).guards = some [] →
      Room k (A.deeper (envOfC qual (defScope st) s.heap.objs.size f cdv)) → sp vs H Q E →
      ∃ t, PSs (cxOf CX P w K mg base N qual (defScope st) f cdv A outer s H E) (defBody st) t ∧
        t { nx := fun _ H' => Q .non H', rt := Q } (start N vs) H) :
    FnG P w K mg base CX (k + 1) f fd ps sp := by
  obtain ⟨oc, od, kV, doc, pm, an, cdv, ct, osl, rfl, lk, hcd⟩ := F.ex
  refine ⟨len, fun A outer s H args us vs Q E hg hr e0 bt r hs => ?_⟩
  exact LamX.run_ofS lk hcd S hr e0 bt r (len _ _ _ _ hs) fun hr2 =>
    hb cdv A outer s H vs Q E hg hr2 hs
end
section
variable {X : Cx} {CX : CXT} {k : Nat} {f : Addr} {fd : FuncData} {ps : List Str} {sp : Sp} {dvs : List V}
  {ds : List Value} {E : XK} {x : Str} {p pos : Pos} {e : Expr} {es : List Expr} {t : TA}
theorem run_fnG {pins : List (Addr × Obj)} {σ : L2.St} {H : Hp} {s : Shared} {Q : VK} {us : List Value} {vs : List V}
    (F : FnG X.prog X.w X.K X.mg X.base CX k f fd ps sp) (hg : X.A.guards = some []) (hr : Room k X.A)
    (hb : Binds X.K fd ps ds) (hd : Vals dvs ds) (hx : Passes CX X E)
    (I : Inv X pins σ H s) (r : Vals vs us) (h : sp (vs ++ dvs) H Q E) :
    wpAny (model X.prog X.w) X.A (call (.ref f) us) (EP X pins σ Q) X.xe s := by
  have r2 := r.append hd
  have hl := r2.length.symm.trans (F.len _ _ _ _ h)
  refine wpAny_call (codeAny_mono (F.go X.A X.stack s H ⟨us, []⟩ (us ++ ds) (vs ++ dvs) Q E hg hr I.env0
    (hb s us I.kIn hl) r2 h) fun r s' hq => ?_)
  match r, hq with
  | .error e, hq => exact hx pins σ H s e s' I hq
  | .ok (.ret u), hq => exact I.after hq
theorem pe_callG (F : FnG X.prog X.w X.K X.mg X.base CX k f fd ps sp) (hgd : X.A.guards = some []) (hr : Room k X.A)
    (hg : Gl X x) (hm : X.mg x = some (.ref f)) (hk : PySem.W.keepIn X.K (.ref f) = true)
    (hb : Binds X.K fd ps ds) (hd : Vals dvs ds) (hx : Passes CX X E) (ha : PA X (e :: es) t)
    (hdb : (x == ("__debug__" : Str)) = false := by decide)
    (he : starEach (e :: es) X.env = (false, eval e X.env) :: starEach es X.env := by rfl)
    (hpl : (backTo pos (starEach es X.env)).any (·.1) = false := by rfl) :
    PE X (.Call (.Name x p) (e :: es) [] pos) (tCall sp dvs E t) := by
  constructor
  intro pins s σ H Q I h
  refine wpAny_Call_Name_kw (ld_glob I hg hm ?_ hdb)
  refine PySem.W.callWith_K (h₀ := X.base) I.ok.mod.kin hk
    (thn (ha.run pos pins s σ H _ I h) fun us s1 ⟨vs, H1, I1, r, q⟩ => ⟨I1.kIn, ?_⟩) he hpl
  exact run_fnG F hgd hr hb hd hx I1 r q
end

/-! ### repr of data -/
section
variable {X : Cx}
theorem dp_noDict {K : PySem.W.Frag} {H : Hp} : (∀ {x : V} {d : PyData}, Dp K H x d → d.hasDict = false) := by
  intro x d h
  refine Dp.rec (motive_1 := fun _ d _ => d.hasDict = false) (motive_2 := fun _ ds _ => PyData.hasDictAll ds = false)
    rfl (fun _ => rfl) (fun _ => rfl) (fun _ => rfl) ?_ ?_ rfl ?_ h
  · intro a xs ds _ _ ih
    exact ih
  · intro a xs ds _ _ ih
    exact ih
  · intro v vs d ds _ _ h1 h2
    show (PyData.hasDict d || PyData.hasDictAll ds) = false
    rw [h1, h2]
    rfl
/-- repr(x), x data without dicts -/
def rReprD (K : PySem.W.Frag) : List V → Hp → VK → Prop := fun xs H Q => ∃ x d, xs = [x] ∧ Dp K H x d ∧ d.showable = true ∧
  d.depth ≤ 60 ∧ d.shown.length ≤ sizeLine ∧ Q (.str d.shown) H
theorem call_reprD (hg : X.A.guards = some []) (hu : X.A.units + 64 < cLine) : CallR X (.builtin "repr") (rReprD X.K) := by
  intro pins s σ H xs us Q I r h
  obtain ⟨x, d, rfl, hd, hs, hdp, hz, q⟩ := h
  obtain ⟨u, rfl, r1⟩ := vals1 r
  obtain ⟨as, rd⟩ := Dp.reads I d x u hd r1
  have nd := dp_noDict hd
  cases hd with
  | non =>
    cases r1
    exact PySem.P.repr_of_none ⟨.str _, H, I.tok _, ⟨_, rfl⟩, q⟩
  | bl b =>
    cases r1
    exact PySem.P.repr_of_bool ⟨.str _, H, I.tok _, ⟨_, rfl⟩, q⟩
  | int i =>
    obtain ⟨t, rfl⟩ := r1
    exact PySem.P.repr_of_int (of_decide_eq_true hs) ⟨.str _, H, I.tok _, ⟨_, rfl⟩, q⟩
  | str z =>
    obtain ⟨t, rfl⟩ := r1
    exact PySem.P.repr_of_str ⟨.str _, H, I.tok _, ⟨_, rfl⟩, q⟩ hz
  | lst h1 h2 =>
    cases r1
    exact repr_of_reads' rd hs (PyData.noDict_hsm nd) hg (by omega) (fun _ _ e => e)
      (fun h' u tk hk => ⟨.str _, H, I.kept (fun b o eo => hk b o eo), ⟨_, rfl⟩, q⟩) hz
  | tup h1 h2 =>
    cases r1
    exact repr_of_reads' rd hs (PyData.noDict_hsm nd) hg (by omega) (fun _ _ e => e)
      (fun h' u tk hk => ⟨.str _, H, I.kept (fun b o eo => hk b o eo), ⟨_, rfl⟩, q⟩) hz
end
/-! ### sorted of truths -/
section
variable {X : Cx}
theorem eachB : ∀ {bs : List Bool} {us : List Value}, Vals (bs.map V.bl) us → PySem.W.EachIs (fun v b => v = Value.bool b) us bs
  | [], us, h => by
    cases h
    exact .nil
  | b :: bs, us, h => by
    cases h with
    | cons r1 r2 =>
      cases r1
      exact .cons rfl (eachB r2)
theorem valsB : ∀ {bs : List Bool} {us : List Value}, PySem.W.EachIs (fun v b => v = Value.bool b) us bs → Vals (bs.map V.bl) us
  | [], us, h => by
    cases h
    exact .nil
  | b :: bs, us, h => by
    cases h with
    | cons r1 r2 => exact .cons r1 (valsB r2)
theorem eachImp {α β : Type} {R S : α → β → Prop} (hi : ∀ a b, R a b → S a b) : ∀ {us : List α} {bs : List β}, PySem.W.EachIs R us bs → PySem.W.EachIs S us bs
  | [], _, h => by
    cases h
    exact .nil
  | _ :: _, _, h => by
    cases h with
    | cons r1 r2 => exact .cons (hi _ _ r1) (eachImp hi r2)
def rSortB (K : PySem.W.Frag) : List V → Hp → VK → Prop := fun vs H Q => ∃ (a : Addr) (bs : List Bool), vs = [V.ref a] ∧ SqL K H a (bs.map V.bl) ∧ bs.length ≤ 1000 ∧
  ∀ p, H p = none → Q (.ref p) (upd H p (.lst ((bs.mergeSort (PySem.W.dataLe false PyData.bool)).map V.bl)))
theorem cr_sortedB (hu : X.A.units + 64 < cLine) : CallR X (.builtin "sorted") (rSortB X.K) := by
  intro pins s σ H vs us Q I r h
  obtain ⟨a, bs, rfl, hs, h64, q⟩ := h
  obtain ⟨its, rv, hl, _⟩ := I.list hs
  rw [Vals.ref1 r]
  have he := eachB rv
  have hlen : bs.length ≤ sizeLine := Nat.le_of_lt (small1000 h64)
  refine PySem.W.sorted_data (enc := PyData.bool) (R := fun v b => v = Value.bool b) hl.isList he
    (eachImp (fun v b e => ⟨[], by rw [e]; exact Reads.bool b⟩) he) ?_ ?_ hlen (fun b _ => ?_) fun out h1 h2 => ?_
  · intro d hd d' hd'
    obtain ⟨b, _, rfl⟩ := List.mem_map.mp hd
    obtain ⟨b', _, rfl⟩ := List.mem_map.mp hd'
    rfl
  · refine Or.inr fun d hd => ?_
    obtain ⟨b, _, rfl⟩ := List.mem_map.mp hd
    exact ⟨(by intro z; cases z), (by intro xs z; cases z)⟩
  · show X.A.units + 2 + PyData.depth (PyData.bool b) < cLine
    have : PyData.depth (PyData.bool b) ≤ 1 := by
      first | decide | (unfold PyData.depth; omega)
    omega
  · obtain ⟨ep, he'⟩ := PyProof.Rows.sortedAll_at s.heap its out.toArray
    have hl2 : ((bs.mergeSort (PySem.W.dataLe false PyData.bool)).map V.bl).length ≤ sizeLine := by
      rw [List.length_map, List.length_mergeSort]
      exact hlen
    exact ⟨.ref _, upd H (s.heap.objs.size + 1) (.lst ((bs.mergeSort (PySem.W.dataLe false PyData.bool)).map V.bl)),
      I.laid (t' := s.toks) (fun _ _ => PyProof.Rows.sortedAll_old) (Nat.le_succ _) ⟨hl2, out, ep, valsB h2, by simpa using he'⟩, rfl,
      q _ (I.hok.fresh (Nat.le_succ _))⟩
end
end G1
end
section
set_option maxHeartbeats 4000000
namespace G1
open PySem PySem.Spec PyProof.Rows L2
/-! ### zip of two sequences, each a list (true) or a tuple (false) -/
def SqK (k : Bool) (K : PySem.W.Frag) (H : Hp) (a : Addr) (xs : List V) : Prop := if k = true then SqL K H a xs else SqT K H a xs
def ItK (k : Bool) (h : Heap) (it l : Addr) (i : Nat) : Prop := if k = true then h.IsListIter it l i else h.IsTupleIter it l i
def IsK (k : Bool) (h : Heap) (l : Addr) (its : Array Value) : Prop := if k = true then h.IsList l its else h.IsTuple l its
section
variable {X : Cx} {pins : List (Addr × Obj)} {σ : L2.St} {H : Hp} {s : Shared}
theorem sqK_at {k : Bool} {a : Addr} {xs : List V} (I : Inv X pins σ H s) (h : SqK k X.K H a xs) : ∃ its, Vals xs its ∧ IsK k s.heap a its.toArray ∧ a < s.heap.objs.size := by
  cases k with
  | true =>
    obtain ⟨its, rv, p, _⟩ := I.list (show SqL X.K H a xs from h)
    exact ⟨its, rv, p.isList, p.lt⟩
  | false =>
    obtain ⟨its, rv, p, _⟩ := I.tuple (show SqT X.K H a xs from h)
    obtain ⟨o, ho, _⟩ := id p
    exact ⟨its, rv, p, Heap.lt_size ho⟩
theorem sqK_inj {k : Bool} {a : Addr} {xs ys : List V} (I : Inv X pins σ H s) (h : SqK k X.K H a xs) (h' : SqK k X.K H a ys) : xs = ys := by
  cases k with
  | true => exact I.list_inj h h'
  | false => exact I.tuple_inj h h'
theorem drawsK {prog : Program} {w : World} {A : Around} (hh : A.handled = none) (k : Bool) (it l : Addr) (hne : l ≠ it) (items : Array Value) :
    Draws prog w A it [it, l] items.size (fun i v => items[i]? = some v) fun i h => ItK k h it l i ∧ IsK k h l items := by
  cases k with
  | true => exact Draws.list hh it l hne items
  | false => exact Draws.tuple hh it l hne items
theorem itK_at {k : Bool} {h h' : Heap} {it l : Addr} {i : Nat} (t : ItK k h it l i) (q : ∀ o, h.get? it = some o → h'.get? it = some o) : ItK k h' it l i := by
  cases k with
  | true =>
    obtain ⟨o, ho, hc, hd⟩ := (show h.IsListIter it l i from t)
    exact ⟨o, q _ ho, hc, hd⟩
  | false =>
    obtain ⟨o, ho, hc, hd⟩ := (show h.IsTupleIter it l i from t)
    exact ⟨o, q _ ho, hc, hd⟩
theorem itK_obj {k : Bool} {h : Heap} {it l : Addr} {i : Nat} (t : ItK k h it l i) : ∃ o, h.get? it = some o ∧ ∀ v, o.data ≠ .cell v := by
  cases k with
  | true =>
    obtain ⟨o, ho, hc, hd⟩ := (show h.IsListIter it l i from t)
    exact ⟨o, ho, fun v z => by rw [hd] at z; cases z⟩
  | false =>
    obtain ⟨o, ho, hc, hd⟩ := (show h.IsTupleIter it l i from t)
    exact ⟨o, ho, fun v z => by rw [hd] at z; cases z⟩
end
def ItzM (K : PySem.W.Frag) (k1 k2 : Bool) (a b : Addr) : It :=
  ⟨fun i H => ∃ (xs ys : List V) (x y : V), SqK k1 K H a xs ∧ SqK k2 K H b ys ∧ xs[i]? = some x ∧ ys[i]? = some y,
   fun i H v H' => ∃ T x y, v = .ref T ∧ H T = none ∧ H' = upd H T (.tup [x, y]) ∧ (∀ xs, SqK k1 K H a xs → xs[i]? = some x) ∧ ∀ ys, SqK k2 K H b ys → ys[i]? = some y,
   fun i H => ∃ xs ys : List V, SqK k1 K H a xs ∧ SqK k2 K H b ys ∧ i ≤ xs.length ∧ i ≤ ys.length ∧ (i = xs.length ∨ i = ys.length)⟩
theorem turn_zipM {P : Program} {w : World} {K : PySem.W.Frag} {elts : List Expr} {kk : Nat} {tpos : Pos} {k1 k2 : Bool} {a b z TI TO i1 i2 : Addr} (D : ZipSep2 z TI TO i1 i2 [i1, a] [i2, b]) (ha : a ≠ i1) (hb : b ≠ i2) :
    Turn P w K (.Tuple elts kk tpos) (ItzM K k1 k2 a b) [z, TI, TO, i1, i2] z
      (fun i h => IsZip h z TI TO .none ∧ IsTupOf2 h TI (.ref i1) (.ref i2) ∧ (∃ x y, IsTupOf2 h TO x y) ∧ ItK k1 h i1 a i ∧ ItK k2 h i2 b i) where
  mem := by simp
  obj := fun i h st c hc => by
    obtain ⟨hz, hTI, ⟨x, y, hTO⟩, h1, h2⟩ := st
    have e' : c = z ∨ c = TI ∨ c = TO ∨ c = i1 ∨ c = i2 := by simpa using hc
    rcases e' with rfl | rfl | rfl | rfl | rfl
    · exact ⟨_, hz, fun v q => nomatch q⟩
    · exact ⟨_, hTI, fun v q => nomatch q⟩
    · exact ⟨_, hTO, fun v q => nomatch q⟩
    · exact itK_obj h1
    · exact itK_obj h2
  keep := fun i h h' st k => by
    obtain ⟨hz, hTI, ⟨x, y, hTO⟩, h1, h2⟩ := st
    exact ⟨k _ (by simp) _ hz, k _ (by simp) _ hTI, ⟨x, y, k _ (by simp) _ hTO⟩, itK_at h1 fun o q => k _ (by simp) o q, itK_at h2 fun o q => k _ (by simp) o q⟩
  item := by
    intro X hP hw hK hc i pins s σ H E I hf st hg
    subst hP hw hK
    obtain ⟨hz, hTI, ⟨x0, y0, hTO⟩, h1, h2⟩ := st
    obtain ⟨xs, ys, x, y, hqx, hqy, hx, hy⟩ := hg
    obtain ⟨its, rv, p, _⟩ := sqK_at I hqx
    obtain ⟨its2, rv2, p2, _⟩ := sqK_at I hqy
    obtain ⟨u, hu, ru⟩ := rv.get hx
    obtain ⟨u2, hu2, ru2⟩ := rv2.get hy
    have hzl : z < s.heap.objs.size := Heap.lt_size hz
    have ih : i < its.toArray.size := by
      have := (List.getElem?_eq_some_iff.mp hu).1
      simpa using this
    have ih2 : i < its2.toArray.size := by
      have := (List.getElem?_eq_some_iff.mp hu2).1
      simpa using this
    refine wpAny_pyNext_zipD2_item D (drawsK (A := X.A.in1) (I.ok.hd hc) k1 i1 a ha its.toArray) (drawsK (A := X.A.in1) (I.ok.hd hc) k2 i2 b hb its2.toArray) hz hTI hTO ⟨h1, p⟩ ⟨h2, p2⟩ ih ih2
      fun x1 x2 h' tk e1 e2 z' TO' st1 st2 hT hsz hk => ?_
    have ex1 : u = x1 := by
      have q : some u = some x1 := by rw [← hu, ← e1]; simp
      exact Option.some.inj q
    have ex2 : u2 = x2 := by
      have q : some u2 = some x2 := by rw [← hu2, ← e2]; simp
      exact Option.some.inj q
    subst ex1 ex2
    refine ⟨_, rfl, wpAny_letOwnedTupleGo_zip (s := { s with heap := h', toks := tk }) z' fun h'' z'' sb => ?_⟩
    have hT2 : h''.get? s.heap.objs.size = some { cls := .type "tuple", data := .seq #[u, u2] } := (sb.2 _ (Nat.ne_of_gt hzl)).trans hT
    have new : ObjOk X.prog X.w (upd H s.heap.objs.size (.tup [x, y])) h'' s.heap.objs.size (.tup [x, y]) :=
      ⟨by show 2 ≤ sizeLine; decide, [u, u2], .cons ru (.cons ru2 .nil), ⟨_, hT2, rfl, _, rfl⟩⟩
    have I1 : Inv X pins σ (upd H s.heap.objs.size (.tup [x, y])) { s with heap := h'', toks := tk } :=
      I.turnedNew (t' := tk) (ch := [z, TI, TO, i1, i2]) (fun c o hb q => (sb.2 c (fun q' => hb (by simp [q']))).trans
        (hk c o (fun q' => hb (by simp [q'])) (fun q' => hb (by simp [q'])) (fun q' => hb (by simp [q'])) (fun q' => hb (by simp [q'])) q)) hf (Nat.le_refl _) new
    refine ⟨.ref s.heap.objs.size, _, I1, rfl, ⟨_, x, y, rfl, I.hok.fresh (Nat.le_refl _), rfl, fun l hl => by rw [sqK_inj I hl hqx]; exact hx, fun l hl => by rw [sqK_inj I hl hqy]; exact hy⟩,
      ⟨z'', ?_, ⟨u, u2, ?_⟩, ?_, ?_⟩, fun c hcm => ?_⟩
    · exact (sb.2 _ D.TIz).trans (hk _ _ D.TIz D.TITO D.TIi1 D.TIi2 hTI)
    · exact (sb.2 _ D.TOz).trans TO'
    · exact itK_at st1.1 fun o q => (sb.2 _ D.zi1.symm).trans q
    · exact itK_at st2.1 fun o q => (sb.2 _ D.zi2.symm).trans q
    · have hlt : c < s.heap.objs.size := by
        have e' : c = z ∨ c = TI ∨ c = TO ∨ c = i1 ∨ c = i2 := by simpa using hcm
        rcases e' with rfl | rfl | rfl | rfl | rfl
        · exact hzl
        · exact Heap.lt_size hTI
        · exact Heap.lt_size hTO
        · obtain ⟨_, e1, _⟩ := itK_obj h1; exact Heap.lt_size e1
        · obtain ⟨_, e2, _⟩ := itK_obj h2; exact Heap.lt_size e2
      rw [upd_ne (Nat.ne_of_lt hlt)]
      exact (hf c hcm).1
  done := by
    intro X hP hw hK hc i pins s σ H E I hf st hg
    subst hP hw hK
    obtain ⟨hz, hTI, ⟨x0, y0, hTO⟩, h1, h2⟩ := st
    obtain ⟨xs, ys, hqx, hqy, l1, l2, hend⟩ := hg
    obtain ⟨its, rv, p, _⟩ := sqK_at I hqx
    obtain ⟨its2, rv2, p2, _⟩ := sqK_at I hqy
    have n1 := rv.length
    have n2 := rv2.length
    refine wpAny_pyNext_zipD2_end D (drawsK (A := X.A.in1) (I.ok.hd hc) k1 i1 a ha its.toArray) (drawsK (A := X.A.in1) (I.ok.hd hc) k2 i2 b hb its2.toArray) hz hTI hTO ⟨h1, p⟩ ⟨h2, p2⟩ (by simp; omega) (by simp; omega) (by simp; omega)
      fun h' tk hk => ⟨rfl, I.turnedL (t' := tk) (ch := [z, TI, TO, i1, i2]) (fun c o hb q =>
      hk c o (fun q' => hb (by simp [q'])) (fun q' => hb (by simp [q'])) (fun q' => hb (by simp [q'])) (fun q' => hb (by simp [q'])) q) hf⟩
  self := fun A i s Q E st h => wpAny_pyIter_zip st.1 h
def iZipM (K : PySem.W.Frag) (ta : TA) : TI := fun σ H R => ta σ H fun vs H1 => ∃ k1 k2 a b xs ys, vs = [.ref a, .ref b] ∧ SqK k1 K H1 a xs ∧ SqK k2 K H1 b ys ∧ R (ItzM K k1 k2 a b) H1
theorem beginsK (k : Bool) (l : Addr) (items : Array Value) : ∃ o, Begins (.ref l) o (fun h => IsK k h l items) ∧ ∀ h it, h.get? it = some o → ItK k h it l 0 := by
  cases k with
  | true => exact ⟨_, begins_list l items, fun h it e => ⟨_, e, rfl, rfl⟩⟩
  | false => exact ⟨_, begins_tuple l items, fun h it e => ⟨_, e, rfl, rfl⟩⟩
theorem pi_zipM {X : Cx} {e e2 : Expr} {ta : TA} {p pos tpos : Pos} {elts : List Expr} {kk : Nat} (hg : Gl X "zip") (hm : X.mg "zip" = none) (ha : PA X [e, e2] ta)
    (hs : starEach [e, e2] X.env = (false, eval e X.env) :: starEach [e2] X.env := by rfl) (hpl : (backTo pos (starEach [e2] X.env)).any (·.1) = false := by rfl) :
    PI X (.Tuple elts kk tpos) (.Call (.Name "zip" p) [e, e2] [] pos) (iZipM X.K ta) := by
  refine ⟨fun pins s σ H R I h => ?_⟩
  refine Call_ (ld_blt I hg hm PyProof.Rows.boot_zip (PyProof.Rows.callWith_type1 (thn (ha.run pos pins s σ H _ I h) fun us s1 ⟨vs, H1, I1, r1, q1⟩ => ?_) hs hpl))
  obtain ⟨k1, k2, a, b, xs, ys, rfl, hqx, hqy, q⟩ := q1
  obtain ⟨u1, u2, rfl, r, r'⟩ := vals2 r1
  cases r
  cases r'
  obtain ⟨its, rv, p1, la⟩ := sqK_at I1 hqx
  obtain ⟨its2, rv2, p2, lb⟩ := sqK_at I1 hqy
  obtain ⟨o1, B1, j1⟩ := beginsK k1 a its.toArray
  obtain ⟨o2, B2, j2⟩ := beginsK k2 b its2.toArray
  refine zip_begins2 B1 B2 p1 p2 fun h' hz hTI hTO h1 h2 hsz hk => wpAny_pyIter_zip hz ?_
  have I2 : Inv X pins σ H1 { s1 with heap := h' } := I1.kept (t' := s1.toks) hk
  have D : ZipSep2 (s1.heap.objs.size + 4) (s1.heap.objs.size + 2) (s1.heap.objs.size + 3) s1.heap.objs.size (s1.heap.objs.size + 1) [s1.heap.objs.size, a] [s1.heap.objs.size + 1, b] :=
    zip_sep2 (fun c hc => by rw [List.mem_singleton.mp hc]; exact la) (fun c hc => by rw [List.mem_singleton.mp hc]; exact lb)
  refine ⟨s1.heap.objs.size + 4, [s1.heap.objs.size + 4, s1.heap.objs.size + 2, s1.heap.objs.size + 3, s1.heap.objs.size, s1.heap.objs.size + 1], _, _, H1, rfl, I2,
    turn_zipM D (Nat.ne_of_lt la) (Nat.ne_of_lt (Nat.lt_succ_of_lt lb)), ⟨hz, hTI, ⟨_, _, hTO⟩, j1 _ _ h1, j2 _ _ h2⟩, fun c hcm => ?_, q⟩
  have hle : s1.heap.objs.size ≤ c := by
    simp only [List.mem_cons, List.not_mem_nil, or_false] at hcm
    rcases hcm with rfl | rfl | rfl | rfl | rfl <;> omega
  exact I1.fpOk hle (I1.hok.fresh hle)
theorem walk_zipM {K : PySem.W.Frag} {k1 k2 : Bool} {a b : Addr} {xs ys : List V} {n : Nat} (h1 : xs.length = n) (h2 : ys.length = n) : Walk (ItzM K k1 k2 a b) n (fun H => SqK k1 K H a xs ∧ SqK k2 K H b ys) (YPair (fun i => xs[i]?) (fun i => ys[i]?)) := by
  refine ⟨fun i _ hi q => ?_, fun _ q => ⟨xs, ys, q.1, q.2, by omega, by omega, .inl h1.symm⟩, fun i H v H' _ q y => ?_⟩
  · have g1 : i < xs.length := by omega
    have g2 : i < ys.length := by omega
    exact ⟨xs, ys, xs[i], ys[i], q.1, q.2, by simp [g1], by simp [g2]⟩
  · obtain ⟨T, x, z, h1, h2, h3, h4, h5⟩ := y
    exact ⟨T, x, z, h1, h2, h3, h4 xs q.1, h5 ys q.2⟩
/-! ### d.get(k) of a written dict with text keys -/
def tKGet (K : PySem.W.Frag) (w : World) (td ty : TE) : TE := fun σ H Q => td σ H fun x H1 => ∃ a es n, x = .ref a ∧ KDict K w a es n ∧ ty σ H1 fun y H2 => ∃ (z : Str) (r : Option Value) (v : V), y = .str z ∧ PySem.W.nsIn K a z = some r ∧ RelV v (r.getD .none) ∧ Q v H2
theorem pe_kget {X : Cx} {o e : Expr} {apos cpos : Pos} {td ty : TE} (ho : PE X o td) (he : PE X e ty) (m : M1 X o "get" apos e cpos) : PE X (.Call (.Attribute o "get" apos) [e] [] cpos) (tKGet X.K X.w td ty) := by
  refine ⟨fun pins s σ H Q I h => ?_⟩
  refine wpAny_Call_method m.base m.few m.line PySem.F.plainAttrs_dict PySem.F.slot_dict_get PySem.F.type_dict_get (thn (ho.run pins s σ H _ I h) fun u s1 ⟨x, H1, I1, rx, a, es, n, ex, D, q1⟩ => ?_)
  subst ex
  obtain rfl : u = Value.ref a := rx
  refine ⟨kd_type D I1, fun b e => ?_, ?_⟩
  · cases e
    exact ⟨_, I1.kIn _ _ D.at_, rfl⟩
  rw [m.trees]
  refine Calls.callWith_builtin rfl (Calls.evalArgs_plain (Calls.spliced_cons (thn (he.run pins s1 σ H1 _ I1 q1) fun iv s2 ⟨y, H2, I2, ry, z, r, v, ey, hn, rv, q2⟩ => Calls.spliced_nil ?_)))
  subst ey
  obtain ⟨t, rfl⟩ := (show ∃ t, iv = Value.str z t from ry)
  have hm := PySem.W.mapOf_K (prog := X.prog) (w := X.w) I2.kIn D.at_ D.lit
  refine call_meetsIn PySem.F.slot_dict_get hm.typeIs PySem.F.entry_dict_get (PySem.F.args_dict_get_2 _ _) (meets_dict_get (strKind X.prog X.w) a (strKind_is X.prog X.w z t) D.low) ⟨_, hm, v, H2, I2.tok _, ?_, q2⟩
  show RelV v ((findBy Value.isStrOf es z).getD .none)
  rw [PySem.W.find_K D.at_ hn]
  exact rv
/-! ### a local name that holds some def -/
def HeldG (P : Program) (w : World) (K : PySem.W.Frag) (mg : Str → Option Value) (base : Heap) (k : Nat) (f : Addr) (sp : Sp) : Prop :=
  ∃ fd ps, FnG P w K mg base L2.CX0 k f fd ps sp ∧ PySem.W.keepIn K (.ref f) = true ∧ Binds K fd ps []
def tCallH (P : Program) (w : World) (K : PySem.W.Frag) (mg : Str → Option Value) (base : Heap) (k i : Nat) (t : TA) : TE := fun σ H Q => ∃ f sp, σ[i]? = some (some (.ref f)) ∧ HeldG P w K mg base k f sp ∧ t σ H fun vs H1 => sp vs H1 Q L2.E0
theorem pe_callH {X : Cx} {k i : Nat} {x : Str} {p pos : Pos} {e : Expr} {es : List Expr} {t : TA} (hgd : X.A.guards = some []) (hr : Room k X.A) (hN : X.N[i]? = some x) (hv : Vis X.env.scope x) (ha : PA X (e :: es) t)
    (hdb : (x == ("__debug__" : Str)) = false := by decide) (hcd : (x == ("__classdict__" : Str)) = false := by decide)
    (he : starEach (e :: es) X.env = (false, eval e X.env) :: starEach es X.env := by rfl) (hpl : (backTo pos (starEach es X.env)).any (·.1) = false := by rfl) :
    PE X (.Call (.Name x p) (e :: es) [] pos) (tCallH X.prog X.w X.K X.mg X.base k i t) := by
  constructor
  intro pins s σ H Q I h
  obtain ⟨f, sp, hs, ⟨fd, ps, F, hk, hb⟩, ht⟩ := h
  refine wpAny_Call_Name_kw (thn ((pe_var (pos := p) hN hv hdb hcd).run pins s σ H (fun v H1 => v = .ref f ∧ H1 = H) I ⟨.ref f, hs, rfl, rfl⟩) fun u s1 ⟨v, H1, I1, r1, q1⟩ => ?_)
  obtain ⟨rfl, rfl⟩ := q1
  cases r1
  refine PySem.W.callWith_K (h₀ := X.base) I1.ok.mod.kin hk (thn (ha.run pos pins s1 σ _ _ I1 ht) fun us s2 ⟨vs, H2, I2, r, q⟩ => ⟨I2.kIn, ?_⟩) he hpl
  exact run_fnG (ds := []) (dvs := []) (E := L2.E0) F hgd hr hb .nil pass0 I2 r (by rw [List.append_nil]; exact q)
/-! ### comprehensions whose elements change nothing that stands -/
section
variable {J : It} {n : Nat} {G : Hp → Prop} {Y : Nat → Hp → V → Hp → Prop}
theorem same_new {H1 H : Hp} {D : Addr} {o : HO} (nD : H1 D = none) (s : Same (upd H1 D o) H) : Same H1 H := fun b x e => s b x (by rw [upd_ne (ne_of_none e nD)]; exact e)
theorem set4 {α : Type} {j k : Nat} {a x y : α} (σ : List α) (hjk : j ≠ k) : (((((σ.set k a).set j a).set j x).set k y).set k a).set j a = (σ.set k a).set j a := by
  rw [List.set_set, List.set_set, List.set_comm x a hjk, List.set_set, List.set_set]
theorem thenT {σ : L2.St} {H : Hp} {A : Hp → Prop} {B : Hp → Prop} (h : A H) : tYes σ H fun b H3 => if b = true then A H3 else B H3 := by
  show if true = true then A H else B H
  rw [if_pos rfl]
  exact h
theorem lc_name (w : Walk J n G Y) {j : Nat} {te : TE} {σ : L2.St} {H1 : Hp} {D : Addr} {Qd : Hp → Prop} (xf f : Nat → V) (hy : ∀ i H x H', i < n → G H → Y i H x H' → H' = H ∧ x = xf i) (hz : n ≤ 1000) (nD : H1 D = none)
    (hG : ∀ H', Same H1 H' → G H') (he : ∀ i H (R : VK), i < n → Same H1 H → (∀ H4, Same H H4 → R (f i) H4) → te ((wipe σ [j]).set j (some (xf i))) H R)
    (hd : ∀ H', Same H1 H' → H' D = some (.lst ((List.range n).map f)) → Qd H') :
    ∃ W : Nat → Nat → Hp → Prop, (∃ m, W 0 m (upd H1 D (.lst []))) ∧ ∀ i m H, W i m H →
      (J.stop i H ∧ Qd H) ∨ (J.go i H ∧ ∃ Nx : Hp → Prop, (∀ H', Nx H' → ∃ m', m' < m ∧ W (i + 1) m' H') ∧ ∀ x H', J.yld i H x H' → gName j x (wipe σ [j]) H' fun σ2 H2 => wipe σ2 [j] = wipe σ [j] ∧ tYes σ2 H2 fun b H3 =>
        if b = true then te σ2 H3 fun y H4 => ∃ acc, H4 D = some (.lst acc) ∧ acc.length < sizeLine ∧ Nx (upd H4 D (.lst (acc ++ [y]))) else Nx H3) := by
  refine lc_it w (fun i H => Same H1 H ∧ H D = some (.lst ((List.range i).map f))) ⟨?_, upd_same⟩ (fun i H _ p => hG H p.1) (fun i x H H' hi p y => ?_) fun H p => hd H p.1 p.2
  · exact fun b x e => by
      rw [upd_ne (ne_of_none e nD)]
      exact e
  · obtain ⟨rfl, rfl⟩ := hy i H x H' hi (hG H p.1) y
    refine ⟨?_, thenT (he i H' _ hi p.1 fun H4 s4 => ?_)⟩
    · show ((σ.set j none).set j (some (xf i))).set j none = σ.set j none
      rw [List.set_set, List.set_set]
    · have e4 : H4 D = some (.lst ((List.range i).map f)) := s4 _ _ p.2
      refine ⟨_, e4, ?_, fun b x e => ?_, ?_⟩
      · rw [List.length_map, List.length_range]
        exact Nat.lt_of_lt_of_le hi (Nat.le_of_lt (small1000 hz))
      · rw [upd_ne (ne_of_none e nD)]
        exact s4 _ _ (p.1 _ _ e)
      · rw [upd_same, List.range_succ, List.map_append]
        rfl
/-- two names, the pairs of a zip -/
theorem lc_pair {K : PySem.W.Frag} {xs ys : Nat → Option V} (w : Walk J n G (YPair xs ys)) {j k : Nat} (hjk : j ≠ k) {te : TE} {σ : L2.St} {H1 : Hp} {D : Addr} {Qd : Hp → Prop} (f : Nat → V) (hz : n ≤ 1000) (nD : H1 D = none)
    (hG : ∀ H', Same H1 H' → G H') (he : ∀ i x y H (R : VK), i < n → xs i = some x → ys i = some y → Same H1 H → (∀ H4, Same H H4 → R (f i) H4) → te (((wipe σ [j, k]).set j (some x)).set k (some y)) H R)
    (hd : ∀ H', Same H1 H' → H' D = some (.lst ((List.range n).map f)) → Qd H') :
    ∃ W : Nat → Nat → Hp → Prop, (∃ m, W 0 m (upd H1 D (.lst []))) ∧ ∀ i m H, W i m H →
      (J.stop i H ∧ Qd H) ∨ (J.go i H ∧ ∃ Nx : Hp → Prop, (∀ H', Nx H' → ∃ m', m' < m ∧ W (i + 1) m' H') ∧ ∀ x H', J.yld i H x H' → gTup K 2 (gCons (gName j) (gCons (gName k) gNil)) x (wipe σ [j, k]) H' fun σ2 H2 => wipe σ2 [j, k] = wipe σ [j, k] ∧ tYes σ2 H2 fun b H3 =>
        if b = true then te σ2 H3 fun y H4 => ∃ acc, H4 D = some (.lst acc) ∧ acc.length < sizeLine ∧ Nx (upd H4 D (.lst (acc ++ [y]))) else Nx H3) := by
  refine lc_it w (fun i H => Same H1 H ∧ H D = some (.lst ((List.range i).map f))) ⟨?_, upd_same⟩ (fun i H _ p => hG H p.1) (fun i v H H' hi p hy => ?_) fun H p => hd H p.1 p.2
  · exact fun b x e => by
      rw [upd_ne (ne_of_none e nD)]
      exact e
  · obtain ⟨T, x, y, rfl, nT, rfl, hx, hy⟩ := hy
    have sT : Same H (upd H T (.tup [x, y])) := fun b z e => by
      rw [upd_ne (ne_of_none e nT)]
      exact e
    refine ⟨T, [x, y], rfl, .inl (.inl upd_same), rfl, x, [y], rfl, y, [], rfl, rfl, ?_, thenT (he i x y _ _ hi hx hy (p.1.trans sT) fun H4 s4 => ?_)⟩
    · show (((((σ.set k none).set j none).set j (some x)).set k (some y)).set k none).set j none = (σ.set k none).set j none
      exact set4 σ hjk
    · have e4 : H4 D = some (.lst ((List.range i).map f)) := s4 _ _ (sT _ _ p.2)
      refine ⟨_, e4, ?_, fun b x e => ?_, ?_⟩
      · rw [List.length_map, List.length_range]
        exact Nat.lt_of_lt_of_le hi (Nat.le_of_lt (small1000 hz))
      · rw [upd_ne (ne_of_none e nD)]
        exact s4 _ _ (sT _ _ (p.1 _ _ e))
      · rw [upd_same, List.range_succ, List.map_append]
        rfl
end
/-! ### int(x), len(xs) of one kind -/
section
variable {X : Cx}
def rIntI : List V → Hp → VK → Prop := fun xs H Q => ∃ i, xs = [.int i] ∧ Q (.int i) H
theorem call_intI : CallR X (.type "int") rIntI := by
  intro pins s σ H xs us Q I r h
  obtain ⟨i, rfl, q⟩ := h
  exact call_int1 pins s σ H _ us Q I r (.inl ⟨i, rfl, q⟩)
def rIntB : List V → Hp → VK → Prop := fun xs H Q => ∃ b, xs = [.bl b] ∧ Q (.int (if b = true then 1 else 0)) H
theorem call_intB : CallR X (.type "int") rIntB := by
  intro pins s σ H xs us Q I r h
  obtain ⟨i, rfl, q⟩ := h
  exact call_int1 pins s σ H _ us Q I r (.inr ⟨i, rfl, q⟩)
def rLenL (K : PySem.W.Frag) : List V → Hp → VK → Prop := fun xs H Q => ∃ p ys, xs = [.ref p] ∧ SqL K H p ys ∧ Q (.int ys.length) H
theorem call_lenL : CallR X (.builtin "len") (rLenL X.K) := by
  intro pins s σ H xs us Q I r h
  obtain ⟨p, ys, rfl, hs, q⟩ := h
  exact call_len_seq pins s σ H _ us Q I r ⟨p, ys, rfl, .inl hs, q⟩
end
theorem ixL {K : PySem.W.Frag} {H : Hp} {p : Addr} {xs : List V} {i : Int} {v : V} {Q : VK} (h : SqL K H p xs) (e : atI xs i = some v) (q : Q v H) : rIxL K (.ref p) (.int i) H Q := ⟨p, xs, i, v, rfl, rfl, h, e, q⟩
theorem setL {H : Hp} {p : Addr} {xs : List V} {i : Int} {j : Nat} {v : V} {R : Hp → Prop} (h : H p = some (.lst xs)) (e : ixN xs.length i = some j) (q : R (upd H p (.lst (xs.set j v)))) : rSetL (.ref p) (.int i) v H R := ⟨p, xs, i, j, rfl, rfl, h, e, q⟩
theorem ixK {X : Cx} {K : PySem.W.Frag} {r : PySem.W.Frag → R2} (h : IxR X (r X.K)) (e : X.K = K) : IxR X (r K) := by
  rw [← e]
  exact h
theorem callK {X : Cx} {K : PySem.W.Frag} {f : Value} {r : PySem.W.Frag → List V → Hp → VK → Prop} (h : CallR X f (r X.K)) (e : X.K = K) : CallR X f (r K) := by
  rw [← e]
  exact h
end G1
end
section
set_option maxHeartbeats 4000000
namespace K02
open PySem PySem.Spec PyProof.Rows L2 G1
def topS (i : Nat) : Stmt := PySem.Challenge.pw_leastequal_k02_whole_lowest_bits_stay.main.body.getD i (.Pass ⟨0, 0, 0, 0⟩)
abbrev s_is_integer : Stmt := topS 1
abbrev s_is_within : Stmt := topS 2
abbrev s_is_list : Stmt := topS 3
abbrev s__shown : Stmt := topS 6
abbrev s_integer_of : Stmt := topS 12
abbrev s_shift_of : Stmt := topS 13
abbrev s_check_width : Stmt := topS 17
abbrev s_mask_of : Stmt := topS 18
abbrev s_word : Stmt := topS 19
abbrev s_signed : Stmt := topS 20
abbrev s_shape_of : Stmt := topS 21
abbrev s_worked : Stmt := topS 22
abbrev s__is_of : Stmt := topS 23
abbrev s_action_of : Stmt := topS 24
abbrev s__added : Stmt := topS 25
abbrev s__less_of : Stmt := topS 26
abbrev s__times : Stmt := topS 27
abbrev s__bits_in_both : Stmt := topS 28
abbrev s__bits_in_any : Stmt := topS 29
abbrev s__bits_in_one : Stmt := topS 30
abbrev s__negative : Stmt := topS 31
abbrev s__flipped : Stmt := topS 32
abbrev s__shifted : Stmt := topS 33
abbrev s__chosen : Stmt := topS 34
abbrev s__is_equal : Stmt := topS 35
abbrev s__is_below : Stmt := topS 36
abbrev s__is_less : Stmt := topS 37
abbrev s__are_both : Stmt := topS 38
abbrev s__is_either : Stmt := topS 39
abbrev s__is_not : Stmt := topS 40
abbrev s__law_tray : Stmt := topS 43
abbrev s__law_dip : Stmt := topS 44
abbrev s__law_take : Stmt := topS 45
abbrev s__law_great : Stmt := topS 46
abbrev s__law_word : Stmt := topS 47
abbrev s__law_cut_right : Stmt := topS 48
abbrev s__law_order_right : Stmt := topS 49
abbrev s_law : Stmt := topS 50
theorem sc_is_integer : FnScope ["value"] ["value"] (defScope s_is_integer) :=
  ⟨rfl, rfl, rfl, by decide +kernel, rfl, by decide +kernel, by decide +kernel⟩
theorem sc_is_within : FnScope ["value", "least", "most"] ["value", "least", "most"] (defScope s_is_within) :=
  ⟨rfl, rfl, rfl, by decide +kernel, rfl, by decide +kernel, by decide +kernel⟩
theorem sc_is_list : FnScope ["value"] ["value"] (defScope s_is_list) :=
  ⟨rfl, rfl, rfl, by decide +kernel, rfl, by decide +kernel, by decide +kernel⟩
theorem sc__shown : FnScope ["value"] ["value"] (defScope s__shown) :=
  ⟨rfl, rfl, rfl, by decide +kernel, rfl, by decide +kernel, by decide +kernel⟩
theorem sc_integer_of : FnScope ["item", "digits", "sign"] ["item"] (defScope s_integer_of) :=
  ⟨rfl, rfl, rfl, by decide +kernel, rfl, by decide +kernel, by decide +kernel⟩
theorem sc_shift_of : FnScope ["label", "many"] ["label"] (defScope s_shift_of) :=
  ⟨rfl, rfl, rfl, by decide +kernel, rfl, by decide +kernel, by decide +kernel⟩
theorem sc_check_width : FnScope ["width"] ["width"] (defScope s_check_width) :=
  ⟨rfl, rfl, rfl, by decide +kernel, rfl, by decide +kernel, by decide +kernel⟩
theorem sc_mask_of : FnScope ["width"] ["width"] (defScope s_mask_of) :=
  ⟨rfl, rfl, rfl, by decide +kernel, rfl, by decide +kernel, by decide +kernel⟩
theorem sc_word : FnScope ["number", "width"] ["number", "width"] (defScope s_word) :=
  ⟨rfl, rfl, rfl, by decide +kernel, rfl, by decide +kernel, by decide +kernel⟩
theorem sc_signed : FnScope ["value", "width"] ["value", "width"] (defScope s_signed) :=
  ⟨rfl, rfl, rfl, by decide +kernel, rfl, by decide +kernel, by decide +kernel⟩
theorem sc_shape_of : FnScope ["label"] ["label"] (defScope s_shape_of) :=
  ⟨rfl, rfl, rfl, by decide +kernel, rfl, by decide +kernel, by decide +kernel⟩
theorem sc_worked : FnScope ["label", "width", "values", "shape", "kinds", "action", "first", "one", "two", "three", "value", "kind"] ["label", "width", "values"] (defScope s_worked) :=
  ⟨rfl, rfl, rfl, by decide +kernel, rfl, by decide +kernel, by decide +kernel⟩
theorem sc__is_of : FnScope ["value", "kind", "width"] ["value", "kind", "width"] (defScope s__is_of) :=
  ⟨rfl, rfl, rfl, by decide +kernel, rfl, by decide +kernel, by decide +kernel⟩
theorem sc_action_of : FnScope ["label", "shift"] ["label"] (defScope s_action_of) :=
  ⟨rfl, rfl, rfl, by decide +kernel, rfl, by decide +kernel, by decide +kernel⟩
theorem sc__added : FnScope ["mask", "one", "two", "three"] ["mask", "one", "two", "three"] (defScope s__added) :=
  ⟨rfl, rfl, rfl, by decide +kernel, rfl, by decide +kernel, by decide +kernel⟩
theorem sc__less_of : FnScope ["mask", "one", "two", "three"] ["mask", "one", "two", "three"] (defScope s__less_of) :=
  ⟨rfl, rfl, rfl, by decide +kernel, rfl, by decide +kernel, by decide +kernel⟩
theorem sc__times : FnScope ["mask", "one", "two", "three"] ["mask", "one", "two", "three"] (defScope s__times) :=
  ⟨rfl, rfl, rfl, by decide +kernel, rfl, by decide +kernel, by decide +kernel⟩
theorem sc__bits_in_both : FnScope ["mask", "one", "two", "three"] ["mask", "one", "two", "three"] (defScope s__bits_in_both) :=
  ⟨rfl, rfl, rfl, by decide +kernel, rfl, by decide +kernel, by decide +kernel⟩
theorem sc__bits_in_any : FnScope ["mask", "one", "two", "three"] ["mask", "one", "two", "three"] (defScope s__bits_in_any) :=
  ⟨rfl, rfl, rfl, by decide +kernel, rfl, by decide +kernel, by decide +kernel⟩
theorem sc__bits_in_one : FnScope ["mask", "one", "two", "three"] ["mask", "one", "two", "three"] (defScope s__bits_in_one) :=
  ⟨rfl, rfl, rfl, by decide +kernel, rfl, by decide +kernel, by decide +kernel⟩
theorem sc__negative : FnScope ["mask", "one", "two", "three"] ["mask", "one", "two", "three"] (defScope s__negative) :=
  ⟨rfl, rfl, rfl, by decide +kernel, rfl, by decide +kernel, by decide +kernel⟩
theorem sc__flipped : FnScope ["mask", "one", "two", "three"] ["mask", "one", "two", "three"] (defScope s__flipped) :=
  ⟨rfl, rfl, rfl, by decide +kernel, rfl, by decide +kernel, by decide +kernel⟩
theorem sc__shifted : FnScope ["mask", "shift", "one", "three"] ["mask", "shift", "one", "three"] (defScope s__shifted) :=
  ⟨rfl, rfl, rfl, by decide +kernel, rfl, by decide +kernel, by decide +kernel⟩
theorem sc__chosen : FnScope ["mask", "test", "one", "two"] ["mask", "test", "one", "two"] (defScope s__chosen) :=
  ⟨rfl, rfl, rfl, by decide +kernel, rfl, by decide +kernel, by decide +kernel⟩
theorem sc__is_equal : FnScope ["mask", "one", "two", "three"] ["mask", "one", "two", "three"] (defScope s__is_equal) :=
  ⟨rfl, rfl, rfl, by decide +kernel, rfl, by decide +kernel, by decide +kernel⟩
theorem sc__is_below : FnScope ["mask", "one", "two", "three"] ["mask", "one", "two", "three"] (defScope s__is_below) :=
  ⟨rfl, rfl, rfl, by decide +kernel, rfl, by decide +kernel, by decide +kernel⟩
theorem sc__is_less : FnScope ["mask", "one", "two", "three", "top"] ["mask", "one", "two", "three"] (defScope s__is_less) :=
  ⟨rfl, rfl, rfl, by decide +kernel, rfl, by decide +kernel, by decide +kernel⟩
theorem sc__are_both : FnScope ["mask", "one", "two", "three"] ["mask", "one", "two", "three"] (defScope s__are_both) :=
  ⟨rfl, rfl, rfl, by decide +kernel, rfl, by decide +kernel, by decide +kernel⟩
theorem sc__is_either : FnScope ["mask", "one", "two", "three"] ["mask", "one", "two", "three"] (defScope s__is_either) :=
  ⟨rfl, rfl, rfl, by decide +kernel, rfl, by decide +kernel, by decide +kernel⟩
theorem sc__is_not : FnScope ["mask", "one", "two", "three"] ["mask", "one", "two", "three"] (defScope s__is_not) :=
  ⟨rfl, rfl, rfl, by decide +kernel, rfl, by decide +kernel, by decide +kernel⟩
theorem sc__law_tray : FnScope ["_law_script", "_law_cell"] ["_law_script"] (defScope s__law_tray) :=
  ⟨rfl, rfl, rfl, by decide +kernel, rfl, by decide +kernel, by decide +kernel⟩
theorem sc__law_dip : FnScope ["_law_tray_here", "_law_many", "_law_rest", "_law_turn", "_law_cell", "_law_mixed"] ["_law_tray_here", "_law_many"] (defScope s__law_dip) :=
  ⟨rfl, rfl, rfl, by decide +kernel, rfl, by decide +kernel, by decide +kernel⟩
theorem sc__law_take : FnScope ["_law_tray_here", "_law_some"] ["_law_tray_here", "_law_some"] (defScope s__law_take) :=
  ⟨rfl, rfl, rfl, by decide +kernel, rfl, by decide +kernel, by decide +kernel⟩
theorem sc__law_great : FnScope ["_law_tray_here", "_law_most", "_law_number", "_law_turn"] ["_law_tray_here", "_law_most"] (defScope s__law_great) :=
  ⟨rfl, rfl, rfl, by decide +kernel, rfl, by decide +kernel, by decide +kernel⟩
theorem sc__law_word : FnScope ["_law_tray_here", "_law_limit"] ["_law_tray_here", "_law_limit"] (defScope s__law_word) :=
  ⟨rfl, rfl, rfl, by decide +kernel, rfl, by decide +kernel, by decide +kernel⟩
theorem sc__law_cut_right : FnScope ["_law_tray_here", "_law_width", "_law_less", "_law_limit", "_law_long", "_law_short", "_law_turn", "_law_label", "_law_truth", "_law_spots", "_law_above", "_law_below", "_law_one", "_law_other", "_law_value", "_law_kind", "_law_spot"] ["_law_tray_here"] (defScope s__law_cut_right) :=
  ⟨rfl, rfl, rfl, by decide +kernel, rfl, by decide +kernel, by decide +kernel⟩
theorem sc__law_order_right : FnScope ["_law_tray_here", "_law_width", "_law_limit", "_law_words", "_law_label", "_law_table", "_law_one", "_law_other", "_law_equal", "_law_top", "_law_turned", "_law_due", "_law_turn", "_law_third"] ["_law_tray_here"] (defScope s__law_order_right) :=
  ⟨rfl, rfl, rfl, by decide +kernel, rfl, by decide +kernel, by decide +kernel⟩
theorem sc_law : FnScope ["_law_script", "_law_tray_here", "_law_lap"] ["_law_script"] (defScope s_law) :=
  ⟨rfl, rfl, rfl, by decide +kernel, rfl, by decide +kernel, by decide +kernel⟩
def shapesT : List (Str × Str × List Str) := [("add", "word", ["word", "word"]), ("sub", "word", ["word", "word"]), ("mul", "word", ["word", "word"]), ("and", "word", ["word", "word"]), ("or", "word", ["word", "word"]), ("xor", "word", ["word", "word"]), ("neg", "word", ["word"]), ("flip", "word", ["word"]), ("at", "word", ["word"]), ("if", "word", ["truth", "word", "word"]), ("eq", "truth", ["word", "word"]), ("lt", "truth", ["word", "word"]), ("less", "truth", ["word", "word"]), ("both", "truth", ["truth", "truth"]), ("either", "truth", ["truth", "truth"]), ("no", "truth", ["truth"])]
structure Txt (w : World) (K : PySem.W.Frag) (mg : Str → Option Value) where
  f_is_integer : Addr
  fd_is_integer : FuncData
  F_is_integer : Fun K "is_integer" "is_integer" s_is_integer f_is_integer fd_is_integer
  g_is_integer : mg "is_integer" = some (.ref f_is_integer)
  b_is_integer : Binds K fd_is_integer ["value"] []
  f_is_within : Addr
  fd_is_within : FuncData
  F_is_within : Fun K "is_within" "is_within" s_is_within f_is_within fd_is_within
  g_is_within : mg "is_within" = some (.ref f_is_within)
  b_is_within : Binds K fd_is_within ["value", "least", "most"] []
  f_is_list : Addr
  fd_is_list : FuncData
  F_is_list : Fun K "is_list" "is_list" s_is_list f_is_list fd_is_list
  g_is_list : mg "is_list" = some (.ref f_is_list)
  b_is_list : Binds K fd_is_list ["value"] []
  f__shown : Addr
  fd__shown : FuncData
  F__shown : Fun K "_shown" "_shown" s__shown f__shown fd__shown
  g__shown : mg "_shown" = some (.ref f__shown)
  b__shown : Binds K fd__shown ["value"] []
  f_integer_of : Addr
  fd_integer_of : FuncData
  F_integer_of : Fun K "integer_of" "integer_of" s_integer_of f_integer_of fd_integer_of
  g_integer_of : mg "integer_of" = some (.ref f_integer_of)
  b_integer_of : Binds K fd_integer_of ["item"] []
  f_shift_of : Addr
  fd_shift_of : FuncData
  F_shift_of : Fun K "shift_of" "shift_of" s_shift_of f_shift_of fd_shift_of
  g_shift_of : mg "shift_of" = some (.ref f_shift_of)
  b_shift_of : Binds K fd_shift_of ["label"] []
  f_check_width : Addr
  fd_check_width : FuncData
  F_check_width : Fun K "check_width" "check_width" s_check_width f_check_width fd_check_width
  g_check_width : mg "check_width" = some (.ref f_check_width)
  b_check_width : Binds K fd_check_width ["width"] []
  f_mask_of : Addr
  fd_mask_of : FuncData
  F_mask_of : Fun K "mask_of" "mask_of" s_mask_of f_mask_of fd_mask_of
  g_mask_of : mg "mask_of" = some (.ref f_mask_of)
  b_mask_of : Binds K fd_mask_of ["width"] []
  f_word : Addr
  fd_word : FuncData
  F_word : Fun K "word" "word" s_word f_word fd_word
  g_word : mg "word" = some (.ref f_word)
  b_word : Binds K fd_word ["number", "width"] []
  f_signed : Addr
  fd_signed : FuncData
  F_signed : Fun K "signed" "signed" s_signed f_signed fd_signed
  g_signed : mg "signed" = some (.ref f_signed)
  b_signed : Binds K fd_signed ["value", "width"] []
  f_shape_of : Addr
  fd_shape_of : FuncData
  F_shape_of : Fun K "shape_of" "shape_of" s_shape_of f_shape_of fd_shape_of
  g_shape_of : mg "shape_of" = some (.ref f_shape_of)
  b_shape_of : Binds K fd_shape_of ["label"] []
  f_worked : Addr
  fd_worked : FuncData
  F_worked : Fun K "worked" "worked" s_worked f_worked fd_worked
  g_worked : mg "worked" = some (.ref f_worked)
  b_worked : Binds K fd_worked ["label", "width", "values"] []
  f__is_of : Addr
  fd__is_of : FuncData
  F__is_of : Fun K "_is_of" "_is_of" s__is_of f__is_of fd__is_of
  g__is_of : mg "_is_of" = some (.ref f__is_of)
  b__is_of : Binds K fd__is_of ["value", "kind", "width"] []
  f_action_of : Addr
  fd_action_of : FuncData
  F_action_of : Fun K "action_of" "action_of" s_action_of f_action_of fd_action_of
  g_action_of : mg "action_of" = some (.ref f_action_of)
  b_action_of : Binds K fd_action_of ["label"] []
  f__added : Addr
  fd__added : FuncData
  F__added : Fun K "_added" "_added" s__added f__added fd__added
  g__added : mg "_added" = some (.ref f__added)
  b__added : Binds K fd__added ["mask", "one", "two", "three"] []
  f__less_of : Addr
  fd__less_of : FuncData
  F__less_of : Fun K "_less_of" "_less_of" s__less_of f__less_of fd__less_of
  g__less_of : mg "_less_of" = some (.ref f__less_of)
  b__less_of : Binds K fd__less_of ["mask", "one", "two", "three"] []
  f__times : Addr
  fd__times : FuncData
  F__times : Fun K "_times" "_times" s__times f__times fd__times
  g__times : mg "_times" = some (.ref f__times)
  b__times : Binds K fd__times ["mask", "one", "two", "three"] []
  f__bits_in_both : Addr
  fd__bits_in_both : FuncData
  F__bits_in_both : Fun K "_bits_in_both" "_bits_in_both" s__bits_in_both f__bits_in_both fd__bits_in_both
  g__bits_in_both : mg "_bits_in_both" = some (.ref f__bits_in_both)
  b__bits_in_both : Binds K fd__bits_in_both ["mask", "one", "two", "three"] []
  f__bits_in_any : Addr
  fd__bits_in_any : FuncData
  F__bits_in_any : Fun K "_bits_in_any" "_bits_in_any" s__bits_in_any f__bits_in_any fd__bits_in_any
  g__bits_in_any : mg "_bits_in_any" = some (.ref f__bits_in_any)
  b__bits_in_any : Binds K fd__bits_in_any ["mask", "one", "two", "three"] []
  f__bits_in_one : Addr
  fd__bits_in_one : FuncData
  F__bits_in_one : Fun K "_bits_in_one" "_bits_in_one" s__bits_in_one f__bits_in_one fd__bits_in_one
  g__bits_in_one : mg "_bits_in_one" = some (.ref f__bits_in_one)
  b__bits_in_one : Binds K fd__bits_in_one ["mask", "one", "two", "three"] []
  f__negative : Addr
  fd__negative : FuncData
  F__negative : Fun K "_negative" "_negative" s__negative f__negative fd__negative
  g__negative : mg "_negative" = some (.ref f__negative)
  b__negative : Binds K fd__negative ["mask", "one", "two", "three"] []
  f__flipped : Addr
  fd__flipped : FuncData
  F__flipped : Fun K "_flipped" "_flipped" s__flipped f__flipped fd__flipped
  g__flipped : mg "_flipped" = some (.ref f__flipped)
  b__flipped : Binds K fd__flipped ["mask", "one", "two", "three"] []
  f__shifted : Addr
  fd__shifted : FuncData
  F__shifted : Fun K "_shifted" "_shifted" s__shifted f__shifted fd__shifted
  g__shifted : mg "_shifted" = some (.ref f__shifted)
  b__shifted : Binds K fd__shifted ["mask", "shift", "one", "three"] []
  f__chosen : Addr
  fd__chosen : FuncData
  F__chosen : Fun K "_chosen" "_chosen" s__chosen f__chosen fd__chosen
  g__chosen : mg "_chosen" = some (.ref f__chosen)
  b__chosen : Binds K fd__chosen ["mask", "test", "one", "two"] []
  f__is_equal : Addr
  fd__is_equal : FuncData
  F__is_equal : Fun K "_is_equal" "_is_equal" s__is_equal f__is_equal fd__is_equal
  g__is_equal : mg "_is_equal" = some (.ref f__is_equal)
  b__is_equal : Binds K fd__is_equal ["mask", "one", "two", "three"] []
  f__is_below : Addr
  fd__is_below : FuncData
  F__is_below : Fun K "_is_below" "_is_below" s__is_below f__is_below fd__is_below
  g__is_below : mg "_is_below" = some (.ref f__is_below)
  b__is_below : Binds K fd__is_below ["mask", "one", "two", "three"] []
  f__is_less : Addr
  fd__is_less : FuncData
  F__is_less : Fun K "_is_less" "_is_less" s__is_less f__is_less fd__is_less
  g__is_less : mg "_is_less" = some (.ref f__is_less)
  b__is_less : Binds K fd__is_less ["mask", "one", "two", "three"] []
  f__are_both : Addr
  fd__are_both : FuncData
  F__are_both : Fun K "_are_both" "_are_both" s__are_both f__are_both fd__are_both
  g__are_both : mg "_are_both" = some (.ref f__are_both)
  b__are_both : Binds K fd__are_both ["mask", "one", "two", "three"] []
  f__is_either : Addr
  fd__is_either : FuncData
  F__is_either : Fun K "_is_either" "_is_either" s__is_either f__is_either fd__is_either
  g__is_either : mg "_is_either" = some (.ref f__is_either)
  b__is_either : Binds K fd__is_either ["mask", "one", "two", "three"] []
  f__is_not : Addr
  fd__is_not : FuncData
  F__is_not : Fun K "_is_not" "_is_not" s__is_not f__is_not fd__is_not
  g__is_not : mg "_is_not" = some (.ref f__is_not)
  b__is_not : Binds K fd__is_not ["mask", "one", "two", "three"] []
  f__law_tray : Addr
  fd__law_tray : FuncData
  F__law_tray : Fun K "_law_tray" "_law_tray" s__law_tray f__law_tray fd__law_tray
  g__law_tray : mg "_law_tray" = some (.ref f__law_tray)
  b__law_tray : Binds K fd__law_tray ["_law_script"] []
  f__law_dip : Addr
  fd__law_dip : FuncData
  F__law_dip : Fun K "_law_dip" "_law_dip" s__law_dip f__law_dip fd__law_dip
  g__law_dip : mg "_law_dip" = some (.ref f__law_dip)
  b__law_dip : Binds K fd__law_dip ["_law_tray_here", "_law_many"] []
  f__law_take : Addr
  fd__law_take : FuncData
  F__law_take : Fun K "_law_take" "_law_take" s__law_take f__law_take fd__law_take
  g__law_take : mg "_law_take" = some (.ref f__law_take)
  b__law_take : Binds K fd__law_take ["_law_tray_here", "_law_some"] []
  f__law_great : Addr
  fd__law_great : FuncData
  F__law_great : Fun K "_law_great" "_law_great" s__law_great f__law_great fd__law_great
  g__law_great : mg "_law_great" = some (.ref f__law_great)
  b__law_great : Binds K fd__law_great ["_law_tray_here", "_law_most"] []
  f__law_word : Addr
  fd__law_word : FuncData
  F__law_word : Fun K "_law_word" "_law_word" s__law_word f__law_word fd__law_word
  g__law_word : mg "_law_word" = some (.ref f__law_word)
  b__law_word : Binds K fd__law_word ["_law_tray_here", "_law_limit"] []
  f__law_cut_right : Addr
  fd__law_cut_right : FuncData
  F__law_cut_right : Fun K "_law_cut_right" "_law_cut_right" s__law_cut_right f__law_cut_right fd__law_cut_right
  g__law_cut_right : mg "_law_cut_right" = some (.ref f__law_cut_right)
  b__law_cut_right : Binds K fd__law_cut_right ["_law_tray_here"] []
  f__law_order_right : Addr
  fd__law_order_right : FuncData
  F__law_order_right : Fun K "_law_order_right" "_law_order_right" s__law_order_right f__law_order_right fd__law_order_right
  g__law_order_right : mg "_law_order_right" = some (.ref f__law_order_right)
  b__law_order_right : Binds K fd__law_order_right ["_law_tray_here"] []
  f_law : Addr
  fd_law : FuncData
  F_law : Fun K "law" "law" s_law f_law fd_law
  g_law : mg "law" = some (.ref f_law)
  b_law : Binds K fd_law ["_law_script"] []
  c_DIGITS : ∃ u, mg "DIGITS" = some u ∧ RelV (.str "0123456789") u
  c_MOST_DIGITS : ∃ u, mg "MOST_DIGITS" = some u ∧ RelV (.int 10) u
  c_MOST_WIDTH : ∃ u, mg "MOST_WIDTH" = some u ∧ RelV (.int 300) u
  m_abs : mg "abs" = none
  m_all : mg "all" = none
  m_bool : mg "bool" = none
  m_int : mg "int" = none
  m_isinstance : mg "isinstance" = none
  m_len : mg "len" = none
  m_list : mg "list" = none
  m_range : mg "range" = none
  m_repr : mg "repr" = none
  m_sorted : mg "sorted" = none
  m_str : mg "str" = none
  m_tuple : mg "tuple" = none
  m_zip : mg "zip" = none
  a_SHAPES : Addr
  c_SHAPES : ∃ u, mg "SHAPES" = some u ∧ RelV (.ref a_SHAPES) u
  k_SHAPES : ∃ es n, KDict K w a_SHAPES es n
  v_SHAPES : ∀ p ∈ shapesT, ∃ t, PySem.W.nsIn K a_SHAPES p.1 = some (some (.ref t)) ∧ ∀ H, Dp K H (.ref t) (.tuple [.str p.2.1, .tuple (p.2.2.map PyData.str)])
  a_ACTIONS : Addr
  c_ACTIONS : ∃ u, mg "ACTIONS" = some u ∧ RelV (.ref a_ACTIONS) u
  k_ACTIONS : ∃ es n, KDict K w a_ACTIONS es n
  x_add : PySem.W.nsIn K a_ACTIONS "add" = some (some (.ref f__added))
  x_sub : PySem.W.nsIn K a_ACTIONS "sub" = some (some (.ref f__less_of))
  x_mul : PySem.W.nsIn K a_ACTIONS "mul" = some (some (.ref f__times))
  x_and : PySem.W.nsIn K a_ACTIONS "and" = some (some (.ref f__bits_in_both))
  x_or : PySem.W.nsIn K a_ACTIONS "or" = some (some (.ref f__bits_in_any))
  x_xor : PySem.W.nsIn K a_ACTIONS "xor" = some (some (.ref f__bits_in_one))
  x_neg : PySem.W.nsIn K a_ACTIONS "neg" = some (some (.ref f__negative))
  x_flip : PySem.W.nsIn K a_ACTIONS "flip" = some (some (.ref f__flipped))
  x_if : PySem.W.nsIn K a_ACTIONS "if" = some (some (.ref f__chosen))
  x_eq : PySem.W.nsIn K a_ACTIONS "eq" = some (some (.ref f__is_equal))
  x_lt : PySem.W.nsIn K a_ACTIONS "lt" = some (some (.ref f__is_below))
  x_less : PySem.W.nsIn K a_ACTIONS "less" = some (some (.ref f__is_less))
  x_both : PySem.W.nsIn K a_ACTIONS "both" = some (some (.ref f__are_both))
  x_either : PySem.W.nsIn K a_ACTIONS "either" = some (some (.ref f__is_either))
  x_no : PySem.W.nsIn K a_ACTIONS "no" = some (some (.ref f__is_not))
end K02
end
section
set_option maxHeartbeats 4000000
namespace K02
open PySem PySem.Spec PyProof.Rows L2 G1
abbrev CX0 := L2.CX0
def S1 (p : V → Hp → VK → Prop) : Sp := fun vs H Q _ => ∃ a, vs = [a] ∧ p a H Q
def S2 (p : V → V → Hp → VK → Prop) : Sp := fun vs H Q _ => ∃ a b, vs = [a, b] ∧ p a b H Q
def S3 (p : V → V → V → Hp → VK → Prop) : Sp := fun vs H Q _ => ∃ a b c, vs = [a, b, c] ∧ p a b c H Q
def S4 (p : V → V → V → V → Hp → VK → Prop) : Sp := fun vs H Q _ => ∃ a b c d, vs = [a, b, c, d] ∧ p a b c d H Q
theorem S1_len {p} (vs : List V) (H : Hp) (Q : VK) (E : XK) (h : S1 p vs H Q E) : vs.length = 1 := by obtain ⟨_, rfl, _⟩ := h; rfl
theorem S2_len {p} (vs : List V) (H : Hp) (Q : VK) (E : XK) (h : S2 p vs H Q E) : vs.length = 2 := by obtain ⟨_, _, rfl, _⟩ := h; rfl
theorem S3_len {p} (vs : List V) (H : Hp) (Q : VK) (E : XK) (h : S3 p vs H Q E) : vs.length = 3 := by obtain ⟨_, _, _, rfl, _⟩ := h; rfl
theorem S4_len {p} (vs : List V) (H : Hp) (Q : VK) (E : XK) (h : S4 p vs H Q E) : vs.length = 4 := by obtain ⟨_, _, _, _, rfl, _⟩ := h; rfl
theorem cx_K {CX P w K mg base N q sc f cd A o s H E} : (cxOf CX P w K mg base N q sc f cd A o s H E).K = K := rfl
theorem cx_K' {CX P w K mg base N q sc f cd A o s H E} : (cxOf CX P w K mg base N q sc f cd A o s H E).nox.K = K := rfl
theorem cx_w {CX P w K mg base N q sc f cd A o s H E} : (cxOf CX P w K mg base N q sc f cd A o s H E).w = w := rfl
theorem cx_w' {CX P w K mg base N q sc f cd A o s H E} : (cxOf CX P w K mg base N q sc f cd A o s H E).nox.w = w := rfl
theorem cx_mg' {CX P w K mg base N q sc f cd A o s H E} : (cxOf CX P w K mg base N q sc f cd A o s H E).nox.mg = mg := rfl
theorem cx_P' {CX P w K mg base N q sc f cd A o s H E} : (cxOf CX P w K mg base N q sc f cd A o s H E).nox.prog = P := rfl
theorem cx_b' {CX P w K mg base N q sc f cd A o s H E} : (cxOf CX P w K mg base N q sc f cd A o s H E).nox.base = base := rfl
theorem cx_mg {CX P w K mg base N q sc f cd A o s H E} : (cxOf CX P w K mg base N q sc f cd A o s H E).mg = mg := rfl
theorem cx_P {CX P w K mg base N q sc f cd A o s H E} : (cxOf CX P w K mg base N q sc f cd A o s H E).prog = P := rfl
theorem cx_b {CX P w K mg base N q sc f cd A o s H E} : (cxOf CX P w K mg base N q sc f cd A o s H E).base = base := rfl
local macro_rules | `(tactic| walk_at "rd") => `(tactic| simp only [tPar, tFmt, tJs, tM0, tM1, tSeq, tIfS, gName, gTup, gSub, gNil, gCons, List.cons.injEq, List.replicate_succ, tNot, tB, tRet, tC, tNext, tVar, tOp, tUn, tAnd, tOr, tAndV, tOrV, tNotV, tIf, tTest, tChain, tAsg, tCall, tCons, tNil, tCB, tDrop, tNever, tTup, tLst, tSl, tPart, tNoPart, tB, cx_K, cx_K', cx_w, cx_w', cx_mg', cx_P', cx_b', cx_mg, cx_P, cx_b, gUnl, Nat.reduceAdd, Nat.reduceSub, Nat.sub_self, Nat.zero_add, List.replicate_zero,
  rI, rI0, rU, rEq, rNe, L2.start, List.append_nil, List.cons_append, List.nil_append, List.map_cons, List.map_nil, List.length_cons, List.length_nil, List.getElem?_cons_zero, List.getElem?_cons_succ,
  List.replicate, List.set_cons_zero, List.set_cons_succ, exists_eq_left, exists_eq_left', exists_eq_right, exists_and_left, Option.some.injEq, V.bl.injEq, V.int.injEq, V.str.injEq, V.ref.injEq, true_and, and_true, if_true, if_false, Bool.false_eq_true, Bool.not_true, Bool.not_false, reduceIte, reduceCtorEq, ite_true, ite_false, decide_true, decide_false])
section
variable {P : Program} {w : World} {K : PySem.W.Frag} {mg : Str → Option Value} {base : Heap}
/-! ### checks -/
def sp_is_integer (K : PySem.W.Frag) : Sp := S1 fun x H Q => ∃ t b1 b2, TyX K H x t ∧ PySem.W.kitOne K t (.type "int") = some b1 ∧ PySem.W.kitOne K t (.type "bool") = some b2 ∧ Q (.bl (b1 && !b2)) H
theorem ok_is_integer (T : Txt w K mg) : FnG P w K mg base CX0 1 T.f_is_integer T.fd_is_integer ["value"] (sp_is_integer K) := by
  refine okG T.F_is_integer sc_is_integer S1_len (fun cdv A outer s H vs Q E hg hr h => ?_)
  obtain ⟨v0, rfl, h⟩ := h
  refine ⟨_, (pss_one (ps_ret (pe_and (pe_callB call_isi (by rfl) T.m_isinstance (by decide +kernel) (pa_cons (pv 0) (pa_cons (pe_bltn (v := .ty "int") (by rfl) T.m_int (by decide +kernel) rfl) pa_nil))) (pe_one (pe_not (pe_callB call_isi (by rfl) T.m_isinstance (by decide +kernel) (pa_cons (pv 0) (pa_cons (pe_bltn (v := .ty "bool") (by rfl) T.m_bool (by decide +kernel) rfl) pa_nil)))))))), ?_⟩
  obtain ⟨t, b1, b2, ht, e1, e2, q⟩ := h
  refine ⟨_, rfl, _, _, t, _, b1, rfl, .ty _, ht, e1, b1, rfl, ?_⟩
  cases b1 with
  | false => exact iteF q
  | true =>
    refine iteT ?_
    refine ⟨_, rfl, _, _, t, _, b2, rfl, .ty _, ht, e2, b2, rfl, q⟩
theorem isint_int {K : PySem.W.Frag} {H : Hp} {i : Int} {Q : VK} (q : Q (.bl true) H) : sp_is_integer K [.int i] H Q E0 :=
  ⟨_, rfl, _, true, false, .base (.int i), kit_ty (by decide +kernel), kit_ty (by decide +kernel), q⟩
/-- x an integer, least and most integers or None -/
def bnd : V → Option Int → Prop := fun x o => (x = .non ∧ o = none) ∨ ∃ i, x = .int i ∧ o = some i
def geO (n : Int) : Option Int → Bool
  | none => true
  | some i => decide (i ≤ n)
def leO (n : Int) : Option Int → Bool
  | none => true
  | some i => decide (n ≤ i)
def sp_is_within (K : PySem.W.Frag) : Sp := S3 fun x lo hi H Q => ∃ n a b, x = .int n ∧ bnd lo a ∧ bnd hi b ∧ Q (.bl (geO n a && leO n b)) H
theorem ok_is_within (T : Txt w K mg) : FnG P w K mg base CX0 2 T.f_is_within T.fd_is_within ["value", "least", "most"] (sp_is_within K) := by
  have K_is_integer := ok_is_integer (P := P) (base := base) T
  refine okG T.F_is_within sc_is_within S3_len (fun cdv A outer s H vs Q E hg hr h => ?_)
  obtain ⟨v0, v1, v2, rfl, h⟩ := h
  refine ⟨_, (pss_cons (ps_if (pt_not (pt_val (pe_callG K_is_integer hg (hr.mono (by decide)) (by rfl) T.g_is_integer T.F_is_integer.kp T.b_is_integer .nil pass0 (pa_cons (pv 0) pa_nil))))
        (pss_one (ps_ret pe_bl))
        pss_nil)
      (pss_one (ps_ret (pe_and (pe_or (pe_cmpR op_isN (pv 1) pe_non (nomark _)) (pe_one (pe_cmpR op_ge (pv 0) (pv 1) (nomark _)))) (pe_one (pe_or (pe_cmpR op_isN (pv 2) pe_non (nomark _)) (pe_one (pe_cmpR op_le (pv 0) (pv 2) (nomark _))))))))), ?_⟩
  obtain ⟨n, a, b, rfl, ha, hb, q⟩ := h
  walk_at "rd"
  refine isint_int ⟨_, rfl, ?_⟩
  rcases ha with ⟨rfl, rfl⟩ | ⟨i, rfl, rfl⟩
  · rcases hb with ⟨rfl, rfl⟩ | ⟨j, rfl, rfl⟩
    · exact q
    · exact ⟨_, rfl, q⟩
  · refine ⟨_, rfl, ?_⟩
    have q' : Q (.bl (decide (i ≤ n) && leO n b)) H := q
    cases e : decide (i ≤ n) with
    | false =>
      rw [e] at q'
      exact iteF q'
    | true =>
      rw [e] at q'
      refine iteT ?_
      rcases hb with ⟨rfl, rfl⟩ | ⟨j, rfl, rfl⟩
      · exact q'
      · exact ⟨_, rfl, q'⟩
theorem within_yes {K : PySem.W.Frag} {H : Hp} {n : Int} {x y : V} {a b : Option Int} {Q : VK} (ha : bnd x a) (hb : bnd y b) (h : (geO n a && leO n b) = true) (q : Q (.bl true) H) : sp_is_within K [.int n, x, y] H Q E0 :=
  ⟨_, _, _, rfl, n, a, b, rfl, ha, hb, by rw [h]; exact q⟩
theorem bnd_int (i : Int) : bnd (.int i) (some i) := .inr ⟨i, rfl, rfl⟩
theorem bnd_non : bnd .non none := .inl ⟨rfl, rfl⟩
/-- a list or a tuple, or not: as isinstance tells, whatever is made -/
def sp_is_list (K : PySem.W.Frag) : Sp := S1 fun x H Q => ∃ t b, (∀ H1, Same H H1 → TyX K H1 x t) ∧ PySem.W.kitAny K t [.type "list", .type "tuple"] = some b ∧ ∀ H1, Same H H1 → Q (.bl b) H1
theorem same_upd {H : Hp} {p : Addr} {o : HO} (h : H p = none) : Same H (upd H p o) := fun b x e => by
  rw [upd_ne (ne_of_none e h)]
  exact e
theorem ok_is_list (T : Txt w K mg) : FnG P w K mg base CX0 1 T.f_is_list T.fd_is_list ["value"] (sp_is_list K) := by
  refine okG T.F_is_list sc_is_list S1_len (fun cdv A outer s H vs Q E hg hr h => ?_)
  obtain ⟨v0, rfl, h⟩ := h
  refine ⟨_, (pss_one (ps_ret (pe_callB call_isiT (by rfl) T.m_isinstance (by decide +kernel) (pa_cons (pv 0) (pa_cons (pe_tup (pa_cons (pe_bltn (v := .ty "list") (by rfl) T.m_list (by decide +kernel) rfl) (pa_cons (pe_bltn (v := .ty "tuple") (by rfl) T.m_tuple (by decide +kernel) rfl) pa_nil))) pa_nil))))), ?_⟩
  obtain ⟨t, b, ht, e, q⟩ := h
  walk_at "rd"
  refine ⟨by decide, fun p np => ?_⟩
  have sm := same_upd (o := .tup [V.ty "list", V.ty "tuple"]) np
  exact ⟨_, p, _, t, _, b, rfl, upd_same, .cons (.ty _) (.cons (.ty _) .nil), ht _ sm, e, q _ sm⟩
theorem kit_list {K : PySem.W.Frag} : PySem.W.kitAny K (.type "list") [.type "list", .type "tuple"] = some true :=
  kitAny_cons (b := true) (r := true) (kit_ty (by decide +kernel)) (fun h => by cases h) fun _ => rfl
theorem kit_tuple {K : PySem.W.Frag} : PySem.W.kitAny K (.type "tuple") [.type "list", .type "tuple"] = some true :=
  kitAny_cons (b := false) (r := true) (kit_ty (by decide +kernel)) (fun _ => kitAny_cons (b := true) (r := true) (kit_ty (by decide +kernel)) (fun h => by cases h) fun _ => rfl) fun h => by cases h
theorem ty_sqL {K : PySem.W.Frag} {H : Hp} {a : Addr} {xs : List V} (h : SqL K H a xs) : TyX K H (.ref a) (.type "list") := by
  rcases h with (h | ⟨o, h⟩) | ⟨o, its, n, h, hc, _⟩
  · exact .base (.lst h)
  · exact .base (.frz h)
  · exact .kList h hc
theorem same_seqT {K : PySem.W.Frag} {H H' : Hp} {a : Addr} {xs : List V} (e : Same H H') (h : SqT K H a xs) : SqT K H' a xs := by
  rcases h with (h | ⟨o, h⟩) | h
  · exact .inl (.inl (e _ _ h))
  · exact .inl (.inr ⟨o, e _ _ h⟩)
  · exact .inr h
theorem list_yes {K : PySem.W.Frag} {H : Hp} {p : Addr} {xs : List V} {Q : VK} (h : SqL K H p xs) (q : ∀ H1, Same H H1 → Q (.bl true) H1) : sp_is_list K [.ref p] H Q E0 :=
  ⟨_, rfl, _, true, fun H1 sm => ty_sqL (sm.seq h), kit_list, q⟩
/-! ### words -/
def sp_check_width (_ : PySem.W.Frag) : Sp := S1 fun x H Q => ∃ n : Int, x = .int n ∧ 1 ≤ n ∧ n ≤ 300 ∧ Q .non H
theorem ok_check_width (T : Txt w K mg) : FnG P w K mg base CX0 3 T.f_check_width T.fd_check_width ["width"] (sp_check_width K) := by
  have K_is_within := ok_is_within (P := P) (base := base) T
  refine okG T.F_check_width sc_check_width S1_len (fun cdv A outer s H vs Q E hg hr h => ?_)
  obtain ⟨v0, rfl, h⟩ := h
  refine ⟨_, (pss_one (ps_if (pt_not (pt_val (pe_callG K_is_within hg (hr.mono (by decide)) (by rfl) T.g_is_within T.F_is_within.kp T.b_is_within .nil pass0 (pa_cons (pv 0) (pa_cons pe_int (pa_cons (C8.pe_gc (by rfl) T.c_MOST_WIDTH) pa_nil))))))
        (pss_one ps_never)
        pss_nil)), ?_⟩
  obtain ⟨n, rfl, h1, h2, q⟩ := h
  walk_at "rd"
  refine within_yes (bnd_int _) (bnd_int _) ?_ ⟨_, rfl, iteF q⟩
  show (decide (1 ≤ n) && decide (n ≤ 300)) = true
  rw [decide_eq_true h1, decide_eq_true h2]
  rfl
theorem one_lt : (1 : Int).natAbs < 2 ^ 1000 := Nat.one_lt_two_pow (by decide)
theorem shl_ok {i : Int} {k : Nat} (hi : i.natAbs < 2 ^ 1000) (hk : k ≤ 1000) : CShl i (k : Int) := by
  refine ⟨by omega, ?_⟩
  have b := PyProof.Rows.intBits_le hi
  have : (2 : Int) ^ 27 = 134217728 := by decide
  omega
def sp_mask_of (_ : PySem.W.Frag) : Sp := S1 fun x H Q => ∃ n : Nat, x = .int (n : Int) ∧ n ≤ 300 ∧ Q (.int (2 ^ n - 1)) H
theorem ok_mask_of (T : Txt w K mg) : FnG P w K mg base CX0 1 T.f_mask_of T.fd_mask_of ["width"] (sp_mask_of K) := by
  refine okG T.F_mask_of sc_mask_of S1_len (fun cdv A outer s H vs Q E hg hr h => ?_)
  obtain ⟨v0, rfl, h⟩ := h
  refine ⟨_, (pss_one (ps_ret (pe_op op_sub (pe_op op_shlN pe_int (pv 0)) pe_int))), ?_⟩
  obtain ⟨n, rfl, h1, q⟩ := h
  walk_at "rd"
  refine ⟨n, rfl, shl_ok one_lt (by omega), ?_⟩
  rw [Int.one_mul]
  exact q
def sp_word (_ : PySem.W.Frag) : Sp := S2 fun x y H Q => ∃ (i : Int) (n : Nat), x = .int i ∧ y = .int (n : Int) ∧ 1 ≤ n ∧ n ≤ 300 ∧ Q (.int (i % 2 ^ n)) H
theorem ok_word (T : Txt w K mg) : FnG P w K mg base CX0 4 T.f_word T.fd_word ["number", "width"] (sp_word K) := by
  have K_check_width := ok_check_width (P := P) (base := base) T
  have K_is_within := ok_is_within (P := P) (base := base) T
  have K_mask_of := ok_mask_of (P := P) (base := base) T
  refine okG T.F_word sc_word S2_len (fun cdv A outer s H vs Q E hg hr h => ?_)
  obtain ⟨v0, v1, rfl, h⟩ := h
  refine ⟨_, (pss_cons (ps_if (pt_not (pt_val (pe_callG K_is_within hg (hr.mono (by decide)) (by rfl) T.g_is_within T.F_is_within.kp T.b_is_within .nil pass0 (pa_cons (pv 0) (pa_cons pe_non (pa_cons pe_non pa_nil))))))
        (pss_one ps_never)
        pss_nil)
      (pss_cons (ps_expr (pe_callG K_check_width hg (hr.mono (by decide)) (by rfl) T.g_check_width T.F_check_width.kp T.b_check_width .nil pass0 (pa_cons (pv 1) pa_nil)))
      (pss_one (ps_ret (pe_op op_andM (pv 0) (pe_callG K_mask_of hg (hr.mono (by decide)) (by rfl) T.g_mask_of T.F_mask_of.kp T.b_mask_of .nil pass0 (pa_cons (pv 1) pa_nil))))))), ?_⟩
  obtain ⟨i, n, rfl, rfl, h0, h1, q⟩ := h
  walk_at "rd"
  refine within_yes bnd_non bnd_non rfl ⟨_, rfl, iteF ?_⟩
  refine ⟨_, rfl, n, rfl, by omega, by omega, ?_⟩
  refine ⟨_, rfl, n, rfl, h1, n, rfl, q⟩
def sgn (n : Nat) (v : Int) : Int := if 2 ^ (n - 1) ≤ v then v - 2 ^ n else v
def sp_signed (_ : PySem.W.Frag) : Sp := S2 fun x y H Q => ∃ (v : Int) (n : Nat), x = .int v ∧ y = .int (n : Int) ∧ 1 ≤ n ∧ n ≤ 300 ∧ 0 ≤ v ∧ v < 2 ^ n ∧ Q (.int (sgn n v)) H
theorem ok_signed (T : Txt w K mg) : FnG P w K mg base CX0 4 T.f_signed T.fd_signed ["value", "width"] (sp_signed K) := by
  have K_check_width := ok_check_width (P := P) (base := base) T
  have K_is_within := ok_is_within (P := P) (base := base) T
  have K_mask_of := ok_mask_of (P := P) (base := base) T
  refine okG T.F_signed sc_signed S2_len (fun cdv A outer s H vs Q E hg hr h => ?_)
  obtain ⟨v0, v1, rfl, h⟩ := h
  refine ⟨_, (pss_cons (ps_expr (pe_callG K_check_width hg (hr.mono (by decide)) (by rfl) T.g_check_width T.F_check_width.kp T.b_check_width .nil pass0 (pa_cons (pv 1) pa_nil)))
      (pss_cons (ps_if (pt_not (pt_val (pe_callG K_is_within hg (hr.mono (by decide)) (by rfl) T.g_is_within T.F_is_within.kp T.b_is_within .nil pass0 (pa_cons (pv 0) (pa_cons pe_int (pa_cons (pe_callG K_mask_of hg (hr.mono (by decide)) (by rfl) T.g_mask_of T.F_mask_of.kp T.b_mask_of .nil pass0 (pa_cons (pv 1) pa_nil)) pa_nil))))))
        (pss_one ps_never)
        pss_nil)
      (pss_one (ps_ret (pe_ifExp (pt_truth (pe_op op_shrN (pv 0) (pe_op op_sub (pv 1) pe_int)) (by intro _; rfl)) (pe_op op_sub (pv 0) (pe_op op_shlN pe_int (pv 1))) (pv 0)))))), ?_⟩
  obtain ⟨v, n, rfl, rfl, h0, h1, h2, h3, q⟩ := h
  walk_at "rd"
  refine ⟨_, rfl, n, rfl, by omega, by omega, ?_⟩
  refine ⟨_, rfl, n, rfl, h1, ?_⟩
  refine within_yes (bnd_int _) (bnd_int _) ?_ ⟨_, rfl, iteF ?_⟩
  · show (decide (0 ≤ v) && decide (v ≤ 2 ^ n - 1)) = true
    rw [decide_eq_true h2, decide_eq_true (by omega)]
    rfl
  have hn : (n : Int) - 1 = ((n - 1 : Nat) : Int) := by omega
  have h2n : (2 : Int) ^ n = 2 * 2 ^ (n - 1) := by
    rw [show n = (n - 1) + 1 by omega, Int.pow_succ, Nat.add_sub_cancel, Int.mul_comm]
  have hp : (0 : Int) < 2 ^ (n - 1) := Int.pow_pos (by decide)
  refine ⟨n - 1, hn, _, rfl, ?_⟩
  by_cases hb : 2 ^ (n - 1) ≤ v
  · have e : v / 2 ^ (n - 1) = 1 := by
      refine Int.le_antisymm ?_ ?_
      · have := Int.ediv_lt_of_lt_mul hp (show v < 2 * 2 ^ (n - 1) by omega)
        omega
      · exact (Int.le_ediv_iff_mul_le hp).mpr (by omega)
    rw [e]
    refine iteT ⟨n, rfl, shl_ok one_lt (by omega), ?_⟩
    rw [Int.one_mul]
    have s : sgn n v = v - 2 ^ n := if_pos hb
    rw [← s]
    exact q
  · have e : v / 2 ^ (n - 1) = 0 := Int.ediv_eq_zero_of_lt h2 (by omega)
    rw [e]
    refine iteF ?_
    have s : sgn n v = v := if_neg hb
    rw [s] at q
    exact q
/-! ### the labels' functions -/
def M (n : Nat) : V := .int (2 ^ n - 1)
def sp__added (_ : PySem.W.Frag) : Sp := S4 fun m x y _ H Q => ∃ (n : Nat) (i j : Int), m = M n ∧ x = .int i ∧ y = .int j ∧ Q (.int ((i + j) % 2 ^ n)) H
theorem ok__added (T : Txt w K mg) : FnG P w K mg base CX0 1 T.f__added T.fd__added ["mask", "one", "two", "three"] (sp__added K) := by
  refine okG T.F__added sc__added S4_len (fun cdv A outer s H vs Q E hg hr h => ?_)
  obtain ⟨v0, v1, v2, v3, rfl, h⟩ := h
  refine ⟨_, (pss_one (ps_ret (pe_op op_andM (pe_op op_add (pv 1) (pv 2)) (pv 0)))), ?_⟩
  obtain ⟨n, i, j, rfl, rfl, rfl, q⟩ := h
  walk_at "rd"
  exact ⟨n, rfl, q⟩
def sp__less_of (_ : PySem.W.Frag) : Sp := S4 fun m x y _ H Q => ∃ (n : Nat) (i j : Int), m = M n ∧ x = .int i ∧ y = .int j ∧ Q (.int ((i - j) % 2 ^ n)) H
theorem ok__less_of (T : Txt w K mg) : FnG P w K mg base CX0 1 T.f__less_of T.fd__less_of ["mask", "one", "two", "three"] (sp__less_of K) := by
  refine okG T.F__less_of sc__less_of S4_len (fun cdv A outer s H vs Q E hg hr h => ?_)
  obtain ⟨v0, v1, v2, v3, rfl, h⟩ := h
  refine ⟨_, (pss_one (ps_ret (pe_op op_andM (pe_op op_sub (pv 1) (pv 2)) (pv 0)))), ?_⟩
  obtain ⟨n, i, j, rfl, rfl, rfl, q⟩ := h
  walk_at "rd"
  exact ⟨n, rfl, q⟩
def sp__times (_ : PySem.W.Frag) : Sp := S4 fun m x y _ H Q => ∃ (n : Nat) (i j : Int), m = M n ∧ x = .int i ∧ y = .int j ∧ CMulW i j ∧ Q (.int ((i * j) % 2 ^ n)) H
theorem ok__times (T : Txt w K mg) : FnG P w K mg base CX0 1 T.f__times T.fd__times ["mask", "one", "two", "three"] (sp__times K) := by
  refine okG T.F__times sc__times S4_len (fun cdv A outer s H vs Q E hg hr h => ?_)
  obtain ⟨v0, v1, v2, v3, rfl, h⟩ := h
  refine ⟨_, (pss_one (ps_ret (pe_op op_andM (pe_op op_mulW (pv 1) (pv 2)) (pv 0)))), ?_⟩
  obtain ⟨n, i, j, rfl, rfl, rfl, c, q⟩ := h
  walk_at "rd"
  exact ⟨c, n, rfl, q⟩
def sp__bits_in_both (_ : PySem.W.Frag) : Sp := S4 fun _ x y _ H Q => ∃ (i j : Int), x = .int i ∧ y = .int j ∧ Q (.int (Builtin.bitAnd i j)) H
theorem ok__bits_in_both (T : Txt w K mg) : FnG P w K mg base CX0 1 T.f__bits_in_both T.fd__bits_in_both ["mask", "one", "two", "three"] (sp__bits_in_both K) := by
  refine okG T.F__bits_in_both sc__bits_in_both S4_len (fun cdv A outer s H vs Q E hg hr h => ?_)
  obtain ⟨v0, v1, v2, v3, rfl, h⟩ := h
  refine ⟨_, (pss_one (ps_ret (pe_op op_and (pv 1) (pv 2)))), ?_⟩
  obtain ⟨i, j, rfl, rfl, q⟩ := h
  walk_at "rd"
  exact q
def sp__bits_in_any (_ : PySem.W.Frag) : Sp := S4 fun _ x y _ H Q => ∃ (i j : Int), x = .int i ∧ y = .int j ∧ Q (.int (Builtin.bitOr i j)) H
theorem ok__bits_in_any (T : Txt w K mg) : FnG P w K mg base CX0 1 T.f__bits_in_any T.fd__bits_in_any ["mask", "one", "two", "three"] (sp__bits_in_any K) := by
  refine okG T.F__bits_in_any sc__bits_in_any S4_len (fun cdv A outer s H vs Q E hg hr h => ?_)
  obtain ⟨v0, v1, v2, v3, rfl, h⟩ := h
  refine ⟨_, (pss_one (ps_ret (pe_op op_or (pv 1) (pv 2)))), ?_⟩
  obtain ⟨i, j, rfl, rfl, q⟩ := h
  walk_at "rd"
  exact q
def sp__bits_in_one (_ : PySem.W.Frag) : Sp := S4 fun _ x y _ H Q => ∃ (i j : Int), x = .int i ∧ y = .int j ∧ Q (.int (Builtin.bitXor i j)) H
theorem ok__bits_in_one (T : Txt w K mg) : FnG P w K mg base CX0 1 T.f__bits_in_one T.fd__bits_in_one ["mask", "one", "two", "three"] (sp__bits_in_one K) := by
  refine okG T.F__bits_in_one sc__bits_in_one S4_len (fun cdv A outer s H vs Q E hg hr h => ?_)
  obtain ⟨v0, v1, v2, v3, rfl, h⟩ := h
  refine ⟨_, (pss_one (ps_ret (pe_op op_xor (pv 1) (pv 2)))), ?_⟩
  obtain ⟨i, j, rfl, rfl, q⟩ := h
  walk_at "rd"
  exact q
def sp__negative (_ : PySem.W.Frag) : Sp := S4 fun m x _ _ H Q => ∃ (n : Nat) (i : Int), m = M n ∧ x = .int i ∧ Q (.int ((-i) % 2 ^ n)) H
theorem ok__negative (T : Txt w K mg) : FnG P w K mg base CX0 1 T.f__negative T.fd__negative ["mask", "one", "two", "three"] (sp__negative K) := by
  refine okG T.F__negative sc__negative S4_len (fun cdv A outer s H vs Q E hg hr h => ?_)
  obtain ⟨v0, v1, v2, v3, rfl, h⟩ := h
  refine ⟨_, (pss_one (ps_ret (pe_op op_andM (pe_un un_neg (pv 1)) (pv 0)))), ?_⟩
  obtain ⟨n, i, rfl, rfl, q⟩ := h
  walk_at "rd"
  exact ⟨n, rfl, q⟩
def sp__flipped (_ : PySem.W.Frag) : Sp := S4 fun m x _ _ H Q => ∃ (n : Nat) (i : Int), m = M n ∧ x = .int i ∧ Q (.int (Builtin.bitXor i (2 ^ n - 1))) H
theorem ok__flipped (T : Txt w K mg) : FnG P w K mg base CX0 1 T.f__flipped T.fd__flipped ["mask", "one", "two", "three"] (sp__flipped K) := by
  refine okG T.F__flipped sc__flipped S4_len (fun cdv A outer s H vs Q E hg hr h => ?_)
  obtain ⟨v0, v1, v2, v3, rfl, h⟩ := h
  refine ⟨_, (pss_one (ps_ret (pe_op op_xor (pv 1) (pv 0)))), ?_⟩
  obtain ⟨n, i, rfl, rfl, q⟩ := h
  simp only [M]
  walk_at "rd"
  exact q
def sp__shifted (_ : PySem.W.Frag) : Sp := S4 fun m s x _ H Q => ∃ (n k : Nat) (i : Int), m = M n ∧ s = .int (k : Int) ∧ x = .int i ∧ CShl i (k : Int) ∧ Q (.int ((i * 2 ^ k) % 2 ^ n)) H
theorem ok__shifted (T : Txt w K mg) : FnG P w K mg base CX0 1 T.f__shifted T.fd__shifted ["mask", "shift", "one", "three"] (sp__shifted K) := by
  refine okG T.F__shifted sc__shifted S4_len (fun cdv A outer s H vs Q E hg hr h => ?_)
  obtain ⟨v0, v1, v2, v3, rfl, h⟩ := h
  refine ⟨_, (pss_one (ps_ret (pe_op op_andM (pe_op op_shlN (pv 2) (pv 1)) (pv 0)))), ?_⟩
  obtain ⟨n, k, i, rfl, rfl, rfl, c, q⟩ := h
  walk_at "rd"
  exact ⟨k, rfl, c, n, rfl, q⟩
def sp__chosen (_ : PySem.W.Frag) : Sp := S4 fun _ t x y H Q => ∃ b, t = .bl b ∧ Q (if b = true then x else y) H
theorem ok__chosen (T : Txt w K mg) : FnG P w K mg base CX0 1 T.f__chosen T.fd__chosen ["mask", "test", "one", "two"] (sp__chosen K) := by
  refine okG T.F__chosen sc__chosen S4_len (fun cdv A outer s H vs Q E hg hr h => ?_)
  obtain ⟨v0, v1, v2, v3, rfl, h⟩ := h
  refine ⟨_, (pss_one (ps_ret (pe_ifExp (pt_val (pv 1)) (pv 2) (pv 3)))), ?_⟩
  obtain ⟨b, rfl, q⟩ := h
  walk_at "rd"
  cases b
  · exact iteF q
  · exact iteT q
def sp__is_equal (_ : PySem.W.Frag) : Sp := S4 fun _ x y _ H Q => ∃ (i j : Int), x = .int i ∧ y = .int j ∧ Q (.bl (decide (i = j))) H
theorem dec_int (i j : Int) : decide (V.int i = V.int j) = decide (i = j) := by
  by_cases h : i = j
  · rw [h, decide_eq_true rfl, decide_eq_true rfl]
  · rw [decide_eq_false h, decide_eq_false (fun z => h (V.int.inj z))]
theorem ok__is_equal (T : Txt w K mg) : FnG P w K mg base CX0 1 T.f__is_equal T.fd__is_equal ["mask", "one", "two", "three"] (sp__is_equal K) := by
  refine okG T.F__is_equal sc__is_equal S4_len (fun cdv A outer s H vs Q E hg hr h => ?_)
  obtain ⟨v0, v1, v2, v3, rfl, h⟩ := h
  refine ⟨_, (pss_one (ps_ret (pe_cmpR op_eq (pv 1) (pv 2) (nomark _)))), ?_⟩
  obtain ⟨i, j, rfl, rfl, q⟩ := h
  refine ⟨_, rfl, _, rfl, rfl, ?_⟩
  rw [dec_int]
  exact q
def sp__is_below (_ : PySem.W.Frag) : Sp := S4 fun _ x y _ H Q => ∃ (i j : Int), x = .int i ∧ y = .int j ∧ Q (.bl (decide (i < j))) H
theorem ok__is_below (T : Txt w K mg) : FnG P w K mg base CX0 1 T.f__is_below T.fd__is_below ["mask", "one", "two", "three"] (sp__is_below K) := by
  refine okG T.F__is_below sc__is_below S4_len (fun cdv A outer s H vs Q E hg hr h => ?_)
  obtain ⟨v0, v1, v2, v3, rfl, h⟩ := h
  refine ⟨_, (pss_one (ps_ret (pe_cmpR op_lt (pv 1) (pv 2) (nomark _)))), ?_⟩
  obtain ⟨i, j, rfl, rfl, q⟩ := h
  walk_at "rd"
  exact q
def topM (n : Nat) : Int := Builtin.bitXor (2 ^ n - 1) ((2 ^ n - 1) / 2)
def sp__is_less (_ : PySem.W.Frag) : Sp := S4 fun m x y _ H Q => ∃ (n : Nat) (i j : Int), m = M n ∧ x = .int i ∧ y = .int j ∧ Q (.bl (decide (Builtin.bitXor i (topM n) < Builtin.bitXor j (topM n)))) H
theorem ok__is_less (T : Txt w K mg) : FnG P w K mg base CX0 1 T.f__is_less T.fd__is_less ["mask", "one", "two", "three"] (sp__is_less K) := by
  refine okG T.F__is_less sc__is_less S4_len (fun cdv A outer s H vs Q E hg hr h => ?_)
  obtain ⟨v0, v1, v2, v3, rfl, h⟩ := h
  refine ⟨_, (pss_cons (ps_set (i := 4) sc__is_less.nd rfl (.inl rfl) (pe_op op_xor (pv 0) (pe_op op_shrN (pv 0) pe_int)))
      (pss_one (ps_ret (pe_cmpR op_lt (pe_op op_xor (pv 1) (pv 4)) (pe_op op_xor (pv 2) (pv 4)) (nomark _))))), ?_⟩
  obtain ⟨n, i, j, rfl, rfl, rfl, q⟩ := h
  simp only [M]
  walk_at "rd"
  exact ⟨1, rfl, q⟩
def sp__are_both (_ : PySem.W.Frag) : Sp := S4 fun _ x y _ H Q => ∃ (i j : Bool), x = .bl i ∧ y = .bl j ∧ Q (.bl (i && j)) H
theorem ok__are_both (T : Txt w K mg) : FnG P w K mg base CX0 1 T.f__are_both T.fd__are_both ["mask", "one", "two", "three"] (sp__are_both K) := by
  refine okG T.F__are_both sc__are_both S4_len (fun cdv A outer s H vs Q E hg hr h => ?_)
  obtain ⟨v0, v1, v2, v3, rfl, h⟩ := h
  refine ⟨_, (pss_one (ps_ret (pe_and (pv 1) (pe_one (pv 2))))), ?_⟩
  obtain ⟨i, j, rfl, rfl, q⟩ := h
  walk_at "rd"
  cases i
  · exact iteF q
  · exact iteT q
def sp__is_either (_ : PySem.W.Frag) : Sp := S4 fun _ x y _ H Q => ∃ (i j : Bool), x = .bl i ∧ y = .bl j ∧ Q (.bl (i || j)) H
theorem ok__is_either (T : Txt w K mg) : FnG P w K mg base CX0 1 T.f__is_either T.fd__is_either ["mask", "one", "two", "three"] (sp__is_either K) := by
  refine okG T.F__is_either sc__is_either S4_len (fun cdv A outer s H vs Q E hg hr h => ?_)
  obtain ⟨v0, v1, v2, v3, rfl, h⟩ := h
  refine ⟨_, (pss_one (ps_ret (pe_or (pv 1) (pe_one (pv 2))))), ?_⟩
  obtain ⟨i, j, rfl, rfl, q⟩ := h
  walk_at "rd"
  cases i
  · exact iteF q
  · exact iteT q
def sp__is_not (_ : PySem.W.Frag) : Sp := S4 fun _ x _ _ H Q => ∃ (i : Bool), x = .bl i ∧ Q (.bl (!i)) H
theorem ok__is_not (T : Txt w K mg) : FnG P w K mg base CX0 1 T.f__is_not T.fd__is_not ["mask", "one", "two", "three"] (sp__is_not K) := by
  refine okG T.F__is_not sc__is_not S4_len (fun cdv A outer s H vs Q E hg hr h => ?_)
  obtain ⟨v0, v1, v2, v3, rfl, h⟩ := h
  refine ⟨_, (pss_one (ps_ret (pe_not (pv 1)))), ?_⟩
  obtain ⟨i, rfl, q⟩ := h
  walk_at "rd"
  exact q
def sp__is_of (_ : PySem.W.Frag) : Sp := S3 fun x k y H Q => ∃ (n : Nat), y = .int (n : Int) ∧ n ≤ 300 ∧
  ((k = .str "truth" ∧ ∃ b, x = .bl b ∧ Q (.bl true) H) ∨ (k = .str "word" ∧ ∃ i, x = .int i ∧ 0 ≤ i ∧ i < 2 ^ n ∧ Q (.bl true) H))
theorem ok__is_of (T : Txt w K mg) : FnG P w K mg base CX0 3 T.f__is_of T.fd__is_of ["value", "kind", "width"] (sp__is_of K) := by
  have K_is_within := ok_is_within (P := P) (base := base) T
  have K_mask_of := ok_mask_of (P := P) (base := base) T
  refine okG T.F__is_of sc__is_of S3_len (fun cdv A outer s H vs Q E hg hr h => ?_)
  obtain ⟨v0, v1, v2, rfl, h⟩ := h
  refine ⟨_, (pss_one (ps_ret (pe_ifExp (pt_cmpR op_eq (pv 1) pe_str (nomark _)) (pe_callB call_isi (by rfl) T.m_isinstance (by decide +kernel) (pa_cons (pv 0) (pa_cons (pe_bltn (v := .ty "bool") (by rfl) T.m_bool (by decide +kernel) rfl) pa_nil))) (pe_callG K_is_within hg (hr.mono (by decide)) (by rfl) T.g_is_within T.F_is_within.kp T.b_is_within .nil pass0 (pa_cons (pv 0) (pa_cons pe_int (pa_cons (pe_callG K_mask_of hg (hr.mono (by decide)) (by rfl) T.g_mask_of T.F_mask_of.kp T.b_mask_of .nil pass0 (pa_cons (pv 2) pa_nil)) pa_nil))))))), ?_⟩
  obtain ⟨n, rfl, hn, h⟩ := h
  rcases h with ⟨rfl, b, rfl, q⟩ | ⟨rfl, i, rfl, h1, h2, q⟩
  · refine ⟨_, rfl, rfl, _, rfl, iteT ⟨_, rfl, _, _, .type "bool", _, true, rfl, .ty _, .base (.bl b), kit_ty (by decide +kernel), q⟩⟩
  · refine ⟨_, rfl, rfl, _, rfl, iteF ?_⟩
    walk_at "rd"
    refine ⟨_, rfl, n, rfl, hn, within_yes (bnd_int _) (bnd_int _) ?_ q⟩
    show (decide (0 ≤ i) && decide (i ≤ 2 ^ n - 1)) = true
    rw [decide_eq_true h1, decide_eq_true (by omega)]
    rfl
end
end K02
end
section
set_option maxHeartbeats 4000000
namespace K02
open PySem PySem.Spec PyProof.Rows L2 G1
local macro_rules | `(tactic| walk_at "rd") => `(tactic| simp only [tPar, tFmt, tJs, tM0, tM1, tSeq, tIfS, gName, gTup, gSub, gNil, gCons, List.cons.injEq, List.replicate_succ, tNot, tB, tRet, tC, tNext, tVar, tOp, tUn, tAnd, tOr, tAndV, tOrV, tNotV, tIf, tTest, tChain, tAsg, tCall, tCons, tNil, tCB, tDrop, tNever, tTup, tLst, tSl, tPart, tNoPart, tB, cx_K, cx_K', cx_w, cx_w', cx_mg', cx_P', cx_b', cx_mg, cx_P, cx_b, gUnl, Nat.reduceAdd, Nat.reduceSub, Nat.sub_self, Nat.zero_add, List.replicate_zero,
  rI, rI0, rU, rEq, rNe, L2.start, List.append_nil, List.cons_append, List.nil_append, List.map_cons, List.map_nil, List.length_cons, List.length_nil, List.getElem?_cons_zero, List.getElem?_cons_succ,
  List.replicate, List.set_cons_zero, List.set_cons_succ, exists_eq_left, exists_eq_left', exists_eq_right, exists_and_left, Option.some.injEq, V.bl.injEq, V.int.injEq, V.str.injEq, V.ref.injEq, true_and, and_true, if_true, if_false, Bool.false_eq_true, Bool.not_true, Bool.not_false, reduceIte, reduceCtorEq, ite_true, ite_false, decide_true, decide_false])
section
variable {P : Program} {w : World} {K : PySem.W.Frag} {mg : Str → Option Value} {base : Heap}
/-! ### labels -/
def numT (k : Nat) : Str := Str.ofString (toString (k : Int))
def shlT (k : Nat) : Str := (Str.empty ++ ("shl " : Str)) ++ numT k
def sp_integer_of (_ : PySem.W.Frag) : Sp := S1 fun x H Q => ∃ k : Nat, k < 32 ∧ x = .str (numT k) ∧ ∀ H1, Same H H1 → Q (.int (k : Int)) H1
def allDig (z : Str) : Bool := z.cps.toList.all fun c => decide (c ∈ ("0123456789" : Str).cps.toList)
theorem num_facts : ∀ k, k < 32 → Txt.startswith (numT k) "-" = false ∧ ((numT k).length ≤ 10 ∧ 1 ≤ (numT k).length) ∧ allDig (numT k) = true ∧ (Txt.startswith (numT k) "0" = decide (k = 0)) ∧ intText? (numT k) = some (k : Int) ∧ (decide ((numT k) = ("0" : Str)) = decide (k = 0)) := by
  decide +kernel
theorem dig_at {z : Str} (h : allDig z = true) {i : Nat} (hi : i < z.cps.size) : decide (z.cps[i] ∈ ("0123456789" : Str).cps.toList) = true := by
  unfold allDig at h
  rw [List.all_eq_true] at h
  exact h _ (by simp)
theorem ok_integer_of (T : Txt w K mg) : FnG P w K mg base CX0 1 T.f_integer_of T.fd_integer_of ["item"] (sp_integer_of K) := by
  refine okG T.F_integer_of sc_integer_of S1_len (fun cdv A outer s H vs Q E hg hr h => ?_)
  obtain ⟨v0, rfl, h⟩ := h
  refine ⟨_, (pss_cons (ps_set (i := 1) sc_integer_of.nd rfl (.inl rfl) (pe_ifExp (pt_val (pe_m1 PySem.F.slot_str_startswith PySem.F.type_str_startswith mt_startswith (pv 0) pe_str)) (pe_slice sl_str (pv 0) (po_some pe_int) po_none) (pv 0)))
      (pss_cons (ps_if (PW.pt (pw_or (pt_not (pt_chain op_le op_le pe_int (pe_callB call_len_str (by rfl) T.m_len (by decide +kernel) (pa_cons (pv 1) pa_nil)) (C8.pe_gc (by rfl) T.c_MOST_DIGITS))) (pw_or1 (pt_not (pt_val (pe_callB (cr_all rfl) (by rfl) T.m_all (by decide +kernel) (pa_cons (pe_lc (own := [("sign", 2)]) (g := gName 2) rfl sc_integer_of.nd (pi_str (pv 1)) (blkOk_by (own := [("sign", 2)]) (N := ["item", "digits", "sign"]) (sc := defScope s_integer_of) (by decide +kernel)) (fun _ _ _ _ _ => pg_name (i := 2) sc_integer_of.nd rfl (Or.inl rfl)) (fun _ _ _ _ _ => pts_nil) (fun _ _ _ _ _ => pe_cmpR op_in_sign (pv 2) (C8.pe_gc (by rfl) T.c_DIGITS) rfl)) pa_nil)))))))
        (pss_one (ps_ret pe_non))
        pss_nil)
      (pss_cons (ps_if (PW.pt (pw_and (pt_val (pe_m1 PySem.F.slot_str_startswith PySem.F.type_str_startswith mt_startswith (pv 1) pe_str)) (pw_and1 (pt_cmpR op_ne (pv 0) pe_str (nomark _)))))
        (pss_one (ps_ret pe_non))
        pss_nil)
      (pss_one (ps_ret (pe_callTy call_int_str (by rfl) T.m_int (by decide +kernel) (pa_cons (pv 0) pa_nil))))))), ?_⟩
  obtain ⟨k, hk, rfl, q⟩ := h
  obtain ⟨h1, ⟨h2, h3⟩, h4, h5, h6, h7⟩ := num_facts k hk
  walk_at "rd"
  refine ⟨⟨_, rfl⟩, ?_⟩
  rw [h1]
  refine iteF ⟨Nat.le_of_lt (small1000 (by omega)), ?_⟩
  rw [decide_eq_true (by omega)]
  refine iteT ?_
  rw [decide_eq_true (by omega)]
  refine iteF ?_
  refine ⟨_, rfl, _, rfl, fun D nD => ?_⟩
  refine lc_name walk_str (fun i => .str ⟨#[(numT k).cps[i]!]⟩) (fun _ => .bl true) (fun i H x H' hi _ hy => ?_) (by show (numT k).cps.size ≤ 1000; exact Nat.le_trans h2 (by decide)) nD (fun _ _ => True.intro) (fun i H2 R hi s2 hR => ?_) (fun H2 s2 e2 => ?_)
  · obtain ⟨e, c, hc, rfl⟩ := hy
    refine ⟨e, ?_⟩
    rw [getElem!_pos (numT k).cps i hi]
    rw [Array.getElem?_eq_getElem hi] at hc
    cases hc
    rfl
  · refine ⟨_, rfl, _, rfl, _, rfl, ?_⟩
    have e : decide ((numT k).cps[i]! ∈ ("0123456789" : Str).cps.toList) = true := by
      rw [getElem!_pos (numT k).cps i hi]
      exact dig_at h4 hi
    rw [e]
    exact hR _ (Same.refl _)
  · refine ⟨D, (List.range (numT k).cps.size).map fun _ => true, rfl, .inl (.inl ?_), ?_⟩
    · rw [List.map_map]
      exact e2
    have ea : ((List.range (numT k).cps.size).map fun _ => true).all id = true := by
      rw [List.all_eq_true]
      intro b hb
      obtain ⟨_, _, rfl⟩ := List.mem_map.mp hb
      rfl
    rw [ea]
    refine ⟨_, rfl, iteF ⟨⟨_, rfl⟩, ?_⟩⟩
    have fin : ∃ x, intText? (numT k) = some x ∧ (numT k).length ≤ 640 ∧ Q (V.int x) H2 := ⟨_, h6, by omega, q _ s2⟩
    rw [h5]
    refine ite2 (fun _ => ⟨rfl, ?_⟩) fun _ => fin
    rw [h7]
    refine ite2 (fun z => ?_) fun _ => fin
    cases hk0 : decide (k = 0) with
    | true =>
      rw [hk0] at z
      cases z
    | false => simp_all
def plainL : List Str := shapesT.map (·.1)
/-- what shift_of tells of a label -/
inductive ShL : Str → V → Prop
  | plain (z : Str) (h : z ∈ plainL) : ShL z .non
  | shl (k : Nat) (h1 : 1 ≤ k) (h2 : k < 32) : ShL (shlT k) (.int (k : Int))
def sp_shift_of (_ : PySem.W.Frag) : Sp := S1 fun x H Q => ∃ z v, x = .str z ∧ ShL z v ∧ ∀ H1, Same H H1 → Q v H1
theorem shl_facts : ∀ k, k < 32 → Txt.startswith (shlT k) "shl " = true ∧ (shlT k).length ≤ 1000 ∧ cutS (shlT k) (some 4) none = numT k := by decide +kernel
theorem plain_facts : ∀ z ∈ plainL, Txt.startswith z "shl " = false := by decide +kernel
theorem ok_shift_of (T : Txt w K mg) : FnG P w K mg base CX0 3 T.f_shift_of T.fd_shift_of ["label"] (sp_shift_of K) := by
  have K_integer_of := ok_integer_of (P := P) (base := base) T
  have K_is_within := ok_is_within (P := P) (base := base) T
  refine okG T.F_shift_of sc_shift_of S1_len (fun cdv A outer s H vs Q E hg hr h => ?_)
  obtain ⟨v0, rfl, h⟩ := h
  refine ⟨_, (pss_cons (ps_if (pt_not (pt_val (pe_m1 PySem.F.slot_str_startswith PySem.F.type_str_startswith mt_startswith (pv 0) pe_str)))
        (pss_one (ps_ret pe_non))
        pss_nil)
      (pss_cons (ps_set (i := 1) sc_shift_of.nd rfl (.inl rfl) (pe_callG K_integer_of hg (hr.mono (by decide)) (by rfl) T.g_integer_of T.F_integer_of.kp T.b_integer_of .nil pass0 (pa_cons (pe_slice sl_str (pv 0) (po_some pe_int) po_none) pa_nil)))
      (pss_one (ps_ret (pe_ifExp (pt_val (pe_callG K_is_within hg (hr.mono (by decide)) (by rfl) T.g_is_within T.F_is_within.kp T.b_is_within .nil pass0 (pa_cons (pv 1) (pa_cons pe_int (pa_cons pe_int pa_nil))))) (pv 1) pe_non))))), ?_⟩
  obtain ⟨z, v, rfl, hz, q⟩ := h
  walk_at "rd"
  refine ⟨⟨_, rfl⟩, ?_⟩
  cases hz with
  | plain _ hp =>
    rw [plain_facts z hp]
    exact iteT (q _ (Same.refl H))
  | shl k h1 h2 =>
    obtain ⟨e1, e2, e3⟩ := shl_facts k h2
    rw [e1]
    refine iteF ⟨_, rfl, Nat.le_of_lt (small1000 e2), ?_⟩
    rw [e3]
    refine ⟨_, rfl, k, h2, rfl, fun H1 s1 => ?_⟩
    refine within_yes (bnd_int _) (bnd_int _) ?_ ⟨_, rfl, iteT (q _ s1)⟩
    show (decide ((1 : Int) ≤ (k : Int)) && decide ((k : Int) ≤ 31)) = true
    rw [decide_eq_true (by omega), decide_eq_true (by omega)]
    rfl
/-! ### shapes -/
/-- what a label makes and of what -/
inductive Shp : Str → Str → List Str → Prop
  | plain (z r : Str) (ks : List Str) (h : (z, r, ks) ∈ shapesT) : Shp z r ks
  | shl (k : Nat) (h1 : 1 ≤ k) (h2 : k < 32) : Shp (shlT k) "word" [("word" : Str)]
theorem Shp.sh {z r : Str} {ks : List Str} (h : Shp z r ks) : ∃ v, ShL z v ∧ ((v = .non ∧ (z, r, ks) ∈ shapesT) ∨ (∃ i, v = .int i) ∧ r = "word" ∧ ks = [("word" : Str)]) := by
  cases h with
  | plain _ _ _ h => exact ⟨_, .plain z (List.mem_map.mpr ⟨_, h, rfl⟩), .inl ⟨rfl, h⟩⟩
  | shl k h1 h2 => exact ⟨_, .shl k h1 h2, .inr ⟨⟨_, rfl⟩, rfl, rfl⟩⟩
def sp_shape_of (K : PySem.W.Frag) : Sp := S1 fun x H Q => ∃ z r ks, x = .str z ∧ Shp z r ks ∧ ∀ H1 p q, Same H H1 → SqT K H1 p [.str r, .ref q] → SqT K H1 q (ks.map V.str) → Q (.ref p) H1
theorem dpall_strs {K : PySem.W.Frag} {H : Hp} : ∀ {ks : List Str} {xs : List V}, DpAll K H xs (ks.map PyData.str) → xs = ks.map V.str
  | [], _, h => by
    cases h
    rfl
  | k :: ks, _, h => by
    cases h with
    | cons a b =>
      cases a
      rw [dpall_strs b]
      rfl
theorem ok_shape_of (T : Txt w K mg) : FnG P w K mg base CX0 4 T.f_shape_of T.fd_shape_of ["label"] (sp_shape_of K) := by
  have K_shift_of := ok_shift_of (P := P) (base := base) T
  refine okG T.F_shape_of sc_shape_of S1_len (fun cdv A outer s H vs Q E hg hr h => ?_)
  obtain ⟨v0, rfl, h⟩ := h
  refine ⟨_, (pss_cons (ps_if (pt_not (pt_val (pe_callB call_isi (by rfl) T.m_isinstance (by decide +kernel) (pa_cons (pv 0) (pa_cons (pe_bltn (v := .ty "str") (by rfl) T.m_str (by decide +kernel) rfl) pa_nil)))))
        (pss_one (ps_ret pe_non))
        pss_nil)
      (pss_cons (ps_if (pt_cmpR op_notN (pe_callG K_shift_of hg (hr.mono (by decide)) (by rfl) T.g_shift_of T.F_shift_of.kp T.b_shift_of .nil pass0 (pa_cons (pv 0) pa_nil)) pe_non (nomark _))
        (pss_one (ps_ret (pe_tup (pa_cons pe_str (pa_cons (pe_tup (pa_cons pe_str pa_nil)) pa_nil)))))
        pss_nil)
      (pss_one (ps_ret (pe_kget (C8.pe_gc (by rfl) T.c_SHAPES) (pv 0) ⟨by rfl, by rfl, by rfl, by rfl⟩))))), ?_⟩
  obtain ⟨z, r, ks, rfl, hz, q⟩ := h
  obtain ⟨v, hv, hc⟩ := hz.sh
  walk_at "rd"
  refine ⟨_, _, _, _, true, rfl, .ty _, .base (.str z), kit_ty (by decide +kernel), _, rfl, iteF ?_⟩
  refine ⟨_, rfl, z, v, rfl, hv, fun H1 s1 => ?_⟩
  rcases hc with ⟨rfl, hm⟩ | ⟨⟨i, rfl⟩, rfl, rfl⟩
  · refine iteF ?_
    obtain ⟨es, n, D⟩ := T.k_SHAPES
    obtain ⟨t, ht, hd⟩ := T.v_SHAPES _ hm
    refine ⟨_, es, n, rfl, D, _, rfl, z, _, .ref t, rfl, ht, rfl, ?_⟩
    have d1 := hd H1
    cases d1 with
    | tup hs ha =>
      cases ha with
      | cons a1 a2 =>
        cases a1
        cases a2 with
        | cons b1 b2 =>
          cases b2
          cases b1 with
          | tup hs2 ha2 =>
            have e := dpall_strs ha2
            subst e
            exact q H1 _ _ s1 hs hs2
  · refine iteT ?_
    refine ⟨by decide, fun p2 n2 => ⟨by decide, fun p1 n1 => ?_⟩⟩
    have s2 := same_upd (o := .tup [V.str "word"]) n2
    have s3 := same_upd (o := .tup [V.str "word", V.ref p2]) n1
    exact q _ _ _ ((s1.trans s2).trans s3) (.inl (.inl upd_same)) (.inl (.inl (s3 _ _ upd_same)))
/-! ### what labels make: the values -/
def bI : V → Bool | .bl b => b | _ => false
/-- the label's function and the numbers it takes ahead -/
inductive Act (T : Txt w K mg) : Str → Addr → List V → Prop
  | shl (k : Nat) (h1 : 1 ≤ k) (h2 : k < 32) : Act T (shlT k) T.f__shifted [.int (k : Int)]
  | plain (z : Str) (h : z ∈ plainL) (f : Addr) (e : PySem.W.nsIn K T.a_ACTIONS z = some (some (.ref f))) : Act T z f []
def sp_action_of (K : PySem.W.Frag) (T : Txt w K mg) : Sp := S1 fun x H Q => ∃ z f fs, x = .str z ∧ Act T z f fs ∧ ∀ H1 p q, Same H H1 → SqT K H1 p [.ref f, .ref q] → SqT K H1 q fs → Q (.ref p) H1
theorem ok_action_of (T : Txt w K mg) : FnG P w K mg base CX0 4 T.f_action_of T.fd_action_of ["label"] (sp_action_of K T) := by
  have K_shift_of := ok_shift_of (P := P) (base := base) T
  refine okG T.F_action_of sc_action_of S1_len (fun cdv A outer s H vs Q E hg hr h => ?_)
  obtain ⟨v0, rfl, h⟩ := h
  refine ⟨_, (pss_cons (ps_set (i := 1) sc_action_of.nd rfl (.inl rfl) (pe_callG K_shift_of hg (hr.mono (by decide)) (by rfl) T.g_shift_of T.F_shift_of.kp T.b_shift_of .nil pass0 (pa_cons (pv 0) pa_nil)))
      (pss_cons (ps_if (pt_cmpR op_notN (pv 1) pe_non (nomark _))
        (pss_one (ps_ret (pe_tup (pa_cons (pe_glob (v := .ref T.f__shifted) (by rfl) T.g__shifted rfl) (pa_cons (pe_tup (pa_cons (pv 1) pa_nil)) pa_nil)))))
        pss_nil)
      (pss_one (ps_ret (pe_tup (pa_cons (pe_ix ix_kdict (C8.pe_gc (by rfl) T.c_ACTIONS) (pv 0) (fun _ _ => rfl)) (pa_cons (pe_tup pa_nil) pa_nil))))))), ?_⟩
  obtain ⟨z, f, fs, rfl, hz, q⟩ := h
  walk_at "rd"
  cases hz with
  | shl k h1 h2 =>
    refine ⟨_, rfl, _, _, rfl, .shl k h1 h2, fun H1 s1 => iteT ⟨by decide, fun p2 n2 => ⟨by decide, fun p1 n1 => ?_⟩⟩⟩
    have s2 := same_upd (o := .tup [V.int (k : Int)]) n2
    have s3 := same_upd (o := .tup [V.ref T.f__shifted, V.ref p2]) n1
    exact q _ _ _ ((s1.trans s2).trans s3) (.inl (.inl upd_same)) (.inl (.inl (s3 _ _ upd_same)))
  | plain _ hp _ e =>
    obtain ⟨es, n, D⟩ := T.k_ACTIONS
    refine ⟨_, rfl, _, _, rfl, .plain z hp, fun H1 s1 => iteF ⟨_, _, .ref f, rfl, rfl, ⟨es, n, _, D.at_, D.lit, e, rfl⟩, by decide, fun p2 n2 => ⟨by decide, fun p1 n1 => ?_⟩⟩⟩
    have s2 := same_upd (o := .tup []) n2
    have s3 := same_upd (o := .tup [V.ref f, V.ref p2]) n1
    exact q _ _ _ ((s1.trans s2).trans s3) (.inl (.inl upd_same)) (.inl (.inl (s3 _ _ upd_same)))
end
end K02
end
section
set_option maxHeartbeats 4000000
namespace K02
open PySem PySem.Spec PyProof.Rows L2 G1
local macro_rules | `(tactic| walk_at "rd") => `(tactic| simp only [tPar, tFmt, tJs, tM0, tM1, tSeq, tIfS, gName, gTup, gSub, gNil, gCons, List.cons.injEq, List.replicate_succ, tNot, tB, tRet, tC, tNext, tVar, tOp, tUn, tAnd, tOr, tAndV, tOrV, tNotV, tIf, tTest, tChain, tAsg, tCall, tCons, tNil, tCB, tDrop, tNever, tTup, tLst, tSl, tPart, tNoPart, tB, cx_K, cx_K', cx_w, cx_w', cx_mg', cx_P', cx_b', cx_mg, cx_P, cx_b, gUnl, Nat.reduceAdd, Nat.reduceSub, Nat.sub_self, Nat.zero_add, List.replicate_zero,
  rI, rI0, rU, rEq, rNe, L2.start, List.append_nil, List.cons_append, List.nil_append, List.map_cons, List.map_nil, List.length_cons, List.length_nil, List.getElem?_cons_zero, List.getElem?_cons_succ,
  List.replicate, List.set_cons_zero, List.set_cons_succ, exists_eq_left, exists_eq_left', exists_eq_right, exists_and_left, Option.some.injEq, V.bl.injEq, V.int.injEq, V.str.injEq, V.ref.injEq, true_and, and_true, if_true, if_false, Bool.false_eq_true, Bool.not_true, Bool.not_false, reduceIte, reduceCtorEq, ite_true, ite_false, decide_true, decide_false])
section
variable {P : Program} {w : World} {K : PySem.W.Frag} {mg : Str → Option Value} {base : Heap}
/-! ### worked -/
/-- a list, or a tuple that was made -/
def PV (K : PySem.W.Frag) (H : Hp) (p : Addr) (xs : List V) : Prop := SqL K H p xs ∨ H p = some (.tup xs)
theorem PV.same {K : PySem.W.Frag} {H H' : Hp} {a : Addr} {xs : List V} (h : PV K H a xs) (e : Same H H') : PV K H' a xs := h.elim (fun h => .inl (e.seq h)) fun h => .inr (e _ _ h)
theorem PV.sq {K : PySem.W.Frag} {H : Hp} {a : Addr} {xs : List V} (h : PV K H a xs) : SqL K H a xs ∨ SqT K H a xs := h.elim .inl fun h => .inr (.inl (.inl h))
theorem PV.ts {K : PySem.W.Frag} {H : Hp} {a : Addr} {xs : List V} (h : PV K H a xs) : SqT K H a xs ∨ SqL K H a xs := h.elim .inr fun h => .inl (.inl (.inl h))
theorem PV.k {K : PySem.W.Frag} {H : Hp} {a : Addr} {xs : List V} (h : PV K H a xs) : ∃ k, SqK k K H a xs := h.elim (fun h => ⟨true, h⟩) fun h => ⟨false, .inl (.inl h)⟩
/-- a value as its kind asks -/
def KindOk (n : Nat) (k : Str) (v : V) : Prop := (k = "truth" ∧ ∃ b, v = .bl b) ∨ (k = "word" ∧ ∃ i : Int, v = .int i ∧ 0 ≤ i ∧ i < 2 ^ n)
/-- the label, the values, what comes -/
structure Wk (P : Program) (w : World) (K : PySem.W.Frag) (mg : Str → Option Value) (base : Heap) (T : Txt w K mg) (n : Nat) (z : Str) (xs : List V) (r : V) : Prop where
  at_ : z ≠ "at"
  shp : ∃ (k : Str) (ks : List Str), Shp z k ks ∧ ks.length = xs.length ∧ ∀ (i : Nat) (k : Str) (v : V), ks[i]? = some k → xs[i]? = some v → KindOk n k v
  act : ∃ (f : Addr) (fs : List V) (sp : Sp), Act T z f fs ∧ HeldG P w K mg base 1 f sp ∧ ∀ H Q, Q r H → sp (M n :: (fs ++ (xs ++ [V.int 0, V.int 0, V.int 0])).take 3) H Q E0
def sp_worked (P : Program) (w : World) (K : PySem.W.Frag) (mg : Str → Option Value) (base : Heap) (T : Txt w K mg) : Sp := S3 fun x y v H Q => ∃ z n p xs r, x = .str z ∧ y = .int ((n : Nat) : Int) ∧ 1 ≤ n ∧ n ≤ 300 ∧ v = .ref p ∧
  PV K H p xs ∧ xs.length ≤ 3 ∧ Wk P w K mg base T n z xs r ∧ ∀ H1, Same H H1 → Q r H1
theorem same_sqK {k : Bool} {K : PySem.W.Frag} {H H' : Hp} {a : Addr} {xs : List V} (e : Same H H') (h : SqK k K H a xs) : SqK k K H' a xs := by
  cases k
  · exact same_seqT e h
  · exact e.seq h
theorem same_sqA {K : PySem.W.Frag} {H H' : Hp} {a : Addr} {xs : List V} (e : Same H H') (h : SqL K H a xs ∨ SqT K H a xs) : SqL K H' a xs ∨ SqT K H' a xs := h.elim (fun h => .inl (e.seq h)) fun h => .inr (same_seqT e h)
theorem islist_yes {K : PySem.W.Frag} {H : Hp} {p : Addr} {xs : List V} {Q : VK} (h : PV K H p xs) (q : ∀ H1, Same H H1 → Q (.bl true) H1) : sp_is_list K [.ref p] H Q E0 := by
  rcases h with h | h
  · exact ⟨_, rfl, _, true, fun H1 sm => ty_sqL (sm.seq h), kit_list, q⟩
  · exact ⟨_, rfl, _, true, fun H1 sm => .base (.tup (sm _ _ h)), kit_tuple, q⟩
theorem cut_to (xs : List V) (k : Nat) (h : k ≤ xs.length) : cutV xs none (some (k : Int)) = xs.take k := by
  unfold cutV
  rw [HT.sIx_none, HT.sIx_nat, List.drop_zero, Nat.min_eq_left h, Nat.sub_zero]
theorem all_true (n : Nat) : ((List.range n).map fun _ => true).all id = true := by
  rw [List.all_eq_true]
  intro b hb
  obtain ⟨_, _, rfl⟩ := List.mem_map.mp hb
  rfl
theorem ok_worked (T : Txt w K mg) : FnG P w K mg base CX0 5 T.f_worked T.fd_worked ["label", "width", "values"] (sp_worked P w K mg base T) := by
  have K_shape_of := ok_shape_of (P := P) (base := base) T
  have K_check_width := ok_check_width (P := P) (base := base) T
  have K_action_of := ok_action_of (P := P) (base := base) T
  have K_mask_of := ok_mask_of (P := P) (base := base) T
  have K_is_list := ok_is_list (P := P) (base := base) T
  have K__is_of := ok__is_of (P := P) (base := base) T
  refine okG T.F_worked sc_worked S3_len (fun cdv A outer s H vs Q E hg hr h => ?_)
  obtain ⟨v0, v1, v2, rfl, h⟩ := h
  refine ⟨_, (pss_cons (ps_set (i := 3) sc_worked.nd rfl (.inl rfl) (pe_callG K_shape_of hg (hr.mono (by decide)) (by rfl) T.g_shape_of T.F_shape_of.kp T.b_shape_of .nil pass0 (pa_cons (pv 0) pa_nil)))
      (pss_cons (ps_if (PW.pt (pw_or (pt_cmpR op_isN (pv 3) pe_non (nomark _)) (pw_or1 (pt_cmpR op_eq (pv 0) pe_str (nomark _)))))
        (pss_one ps_never)
        pss_nil)
      (pss_cons (ps_expr (pe_callG K_check_width hg (hr.mono (by decide)) (by rfl) T.g_check_width T.F_check_width.kp T.b_check_width .nil pass0 (pa_cons (pv 1) pa_nil)))
      (pss_cons (ps_set (i := 4) sc_worked.nd rfl (.inl rfl) (pe_ix ix_tup (pv 3) pe_int (fun _ _ => rfl)))
      (pss_cons (ps_if (PW.pt (pw_or (pt_not (pt_val (pe_callG K_is_list hg (hr.mono (by decide)) (by rfl) T.g_is_list T.F_is_list.kp T.b_is_list .nil pass0 (pa_cons (pv 2) pa_nil)))) (pw_or1 (pt_cmpR op_ne (pe_callB call_len_seq (by rfl) T.m_len (by decide +kernel) (pa_cons (pv 2) pa_nil)) (pe_callB call_len_seq (by rfl) T.m_len (by decide +kernel) (pa_cons (pv 4) pa_nil)) (nomark _)))))
        (pss_one ps_never)
        pss_nil)
      (pss_cons (ps_if (pt_not (pt_val (pe_callB (cr_all rfl) (by rfl) T.m_all (by decide +kernel) (pa_cons (pe_lc (own := [("value", 10), ("kind", 11)]) (g := gTup K 2 (gCons (gName 10) (gCons (gName 11) gNil))) rfl sc_worked.nd (pi_zipM (by rfl) T.m_zip (pa_cons (pv 2) (pa_cons (pv 4) pa_nil))) (blkOk_by (own := [("value", 10), ("kind", 11)]) (N := ["label", "width", "values", "shape", "kinds", "action", "first", "one", "two", "three", "value", "kind"]) (sc := defScope s_worked) (by decide +kernel)) (fun _ _ _ _ _ => pg_tup rfl (pgs_cons (pg_name (i := 10) sc_worked.nd rfl (.inl rfl)) (pgs_cons (pg_name (i := 11) sc_worked.nd rfl (.inl rfl)) pgs_nil))) (fun _ _ _ _ _ => pts_nil) (fun _ _ _ _ _ => (pe_callG K__is_of hg (hr.mono (by decide)) (by rfl) T.g__is_of T.F__is_of.kp T.b__is_of .nil pass0 (pa_cons (pv 10) (pa_cons (pv 11) (pa_cons (pv 1) pa_nil)))))) pa_nil))))
        (pss_one ps_never)
        pss_nil)
      (pss_cons (ps_asg (pe_callG K_action_of hg (hr.mono (by decide)) (by rfl) T.g_action_of T.F_action_of.kp T.b_action_of .nil pass0 (pa_cons (pv 0) pa_nil)) (pg_tup (by rfl) (pgs_cons (pg_name (i := 5) sc_worked.nd rfl (.inl rfl)) (pgs_cons (pg_name (i := 6) sc_worked.nd rfl (.inl rfl)) pgs_nil))))
      (pss_cons (ps_asg (pe_slice sl_list (pe_lst (StX.pa_star (pv 6) (StX.pa_star (pv 2) (pa_cons pe_int (pa_cons pe_int (pa_cons pe_int pa_nil)))))) po_none (po_some pe_int)) (pg_unl (by rfl) (pgs_cons (pg_name (i := 7) sc_worked.nd rfl (.inl rfl)) (pgs_cons (pg_name (i := 8) sc_worked.nd rfl (.inl rfl)) (pgs_cons (pg_name (i := 9) sc_worked.nd rfl (.inl rfl)) pgs_nil)))))
      (pss_one (ps_ret (pe_callH (k := 1) (i := 5) hg (hr.mono (by decide)) rfl (Or.inl rfl) (pa_cons (pe_callG K_mask_of hg (hr.mono (by decide)) (by rfl) T.g_mask_of T.F_mask_of.kp T.b_mask_of .nil pass0 (pa_cons (pv 1) pa_nil)) (pa_cons (pv 7) (pa_cons (pv 8) (pa_cons (pv 9) pa_nil))))))))))))))), ?_⟩
  obtain ⟨z, n, p, xs, r, rfl, rfl, hn1, hn, rfl, hp, hl3, W, q⟩ := h
  obtain ⟨ka, ks, hs, hlen, hk⟩ := W.shp
  obtain ⟨f, fs, spA, hact, held, run⟩ := W.act
  obtain ⟨k1, hk1⟩ := hp.k
  walk_at "rd"
  refine ⟨_, rfl, z, ka, ks, rfl, hs, fun H1 pS qS s1 tS tK => ?_⟩
  refine iteF ⟨rfl, ite2 (fun e => absurd (of_decide_eq_true e) W.at_) fun _ => ?_⟩
  refine ⟨_, rfl, n, rfl, by omega, by omega, ?_⟩
  refine ⟨pS, _, 1, .ref qS, rfl, rfl, tS, rfl, ?_⟩
  refine islist_yes (hp.same s1) fun H2 s2 => ⟨_, rfl, iteF ?_⟩
  have s12 := s1.trans s2
  refine ⟨xs, (hp.same s12).sq, qS, rfl, ks.map V.str, .inr (same_seqT s2 tK), rfl, ?_⟩
  rw [List.length_map, hlen, decide_eq_true rfl]
  refine iteF ?_
  refine ⟨_, rfl, _, rfl, k1, false, p, qS, xs, ks.map V.str, rfl, same_sqK s12 hk1, same_seqT s2 tK, fun D nD => ?_⟩
  refine lc_pair (walk_zipM rfl (by rw [List.length_map, hlen])) (by decide) (fun _ => V.bl true) (by omega) nD (fun H3 s3 => ⟨same_sqK (s12.trans s3) hk1, same_seqT (s2.trans s3) tK⟩) (fun i x y H3 R hi hx hy s3 hR => ?_) fun H3 s3 e3 => ?_
  · rw [List.getElem?_map] at hy
    cases hki : ks[i]? with
    | none =>
      rw [hki] at hy
      cases hy
    | some kk =>
      rw [hki] at hy
      cases hy
      refine ⟨_, rfl, _, rfl, _, rfl, _, _, _, rfl, n, rfl, hn, ?_⟩
      rcases hk i kk x hki hx with ⟨rfl, b, rfl⟩ | ⟨rfl, j, rfl, h1, h2⟩
      · exact .inl ⟨rfl, b, rfl, hR _ (Same.refl _)⟩
      · exact .inr ⟨rfl, j, rfl, h1, h2, hR _ (Same.refl _)⟩
  · refine ⟨D, (List.range xs.length).map fun _ => true, rfl, .inl (.inl (by rw [List.map_map]; exact e3)), ?_⟩
    rw [all_true]
    refine ⟨_, rfl, iteF ?_⟩
    have s13 := s12.trans s3
    refine ⟨_, rfl, z, f, fs, rfl, hact, fun H4 p4 q4 s4 t4 t4' => ?_⟩
    refine ⟨p4, rfl, _, t4, rfl, ?_⟩
    have s14 := s13.trans s4
    refine ⟨.ref f, [.ref q4], rfl, .ref q4, [], rfl, rfl, ?_⟩
    refine ⟨_, rfl, q4, fs, rfl, .inl t4', ?_⟩
    refine ⟨_, rfl, p, xs, rfl, (hp.same s14).ts, ?_⟩
    walk_at "rd"
    have hf1 : fs.length ≤ 1 := by
      cases hact with
      | shl k h1 h2 => exact Nat.le_refl _
      | plain _ _ _ _ => exact Nat.zero_le _
    have hL : (fs ++ (xs ++ [V.int 0, V.int 0, V.int 0])).length = fs.length + (xs.length + 3) := by
      rw [List.length_append, List.length_append]
      rfl
    refine ⟨by rw [hL]; exact Nat.le_of_lt (small1000 (by omega)), fun p5 n5 => ⟨p5, _, rfl, .inl (.inl upd_same), fun p6 n6 => ?_⟩⟩
    have ec : cutV (fs ++ (xs ++ [V.int 0, V.int 0, V.int 0])) none (some 3) = (fs ++ (xs ++ [V.int 0, V.int 0, V.int 0])).take 3 := cut_to _ 3 (by omega)
    obtain ⟨o1, o2, o3, e3⟩ : ∃ o1 o2 o3, (fs ++ (xs ++ [V.int 0, V.int 0, V.int 0])).take 3 = [o1, o2, o3] := by
      have hl : ((fs ++ (xs ++ [V.int 0, V.int 0, V.int 0])).take 3).length = 3 := by
        rw [List.length_take]
        omega
      match (fs ++ (xs ++ [V.int 0, V.int 0, V.int 0])).take 3, hl with
      | [a, b, c], _ => exact ⟨a, b, c, rfl⟩
    have sE := (s14.trans (same_upd (o := .lst (fs ++ (xs ++ [V.int 0, V.int 0, V.int 0]))) n5)).trans (same_upd (o := .lst (cutV (fs ++ (xs ++ [V.int 0, V.int 0, V.int 0])) none (some 3))) n6)
    refine ⟨p6, rfl, _, .inl (.inl upd_same), by rw [ec, e3]; rfl, ?_⟩
    rw [ec, e3]
    refine ⟨_, _, rfl, _, _, rfl, _, _, rfl, rfl, ?_⟩
    refine ⟨f, spA, rfl, held, ?_⟩
    refine ⟨_, rfl, _, rfl, n, rfl, hn, ?_⟩
    refine ⟨_, rfl, _, rfl, _, rfl, ?_⟩
    have rn := run _ _ (q _ sE)
    rw [ec, e3] at rn
    exact rn
end
end K02
end
section
set_option maxHeartbeats 4000000
namespace K02
open PySem PySem.Spec PyProof.Rows L2 G1
local macro_rules | `(tactic| walk_at "rd") => `(tactic| simp only [tPar, tFmt, tJs, tM0, tM1, tSeq, tIfS, gName, gTup, gSub, gNil, gCons, List.cons.injEq, List.replicate_succ, tNot, tB, tRet, tC, tNext, tVar, tOp, tUn, tAnd, tOr, tAndV, tOrV, tNotV, tIf, tTest, tChain, tAsg, tCall, tCons, tNil, tCB, tDrop, tNever, tTup, tLst, tSl, tPart, tNoPart, tB, cx_K, cx_K', cx_w, cx_w', cx_mg', cx_P', cx_b', cx_mg, cx_P, cx_b, gUnl, Nat.reduceAdd, Nat.reduceSub, Nat.sub_self, Nat.zero_add, List.replicate_zero,
  rI, rI0, rU, rEq, rNe, L2.start, List.append_nil, List.cons_append, List.nil_append, List.map_cons, List.map_nil, List.length_cons, List.length_nil, List.getElem?_cons_zero, List.getElem?_cons_succ,
  List.replicate, List.set_cons_zero, List.set_cons_succ, exists_eq_left, exists_eq_left', exists_eq_right, exists_and_left, Option.some.injEq, V.bl.injEq, V.int.injEq, V.str.injEq, V.ref.injEq, true_and, and_true, if_true, if_false, Bool.false_eq_true, Bool.not_true, Bool.not_false, reduceIte, reduceCtorEq, ite_true, ite_false, decide_true, decide_false])
section
variable {P : Program} {w : World} {K : PySem.W.Frag} {mg : Str → Option Value} {base : Heap}
/-! ### what draws -/
def SameB (a : Addr) (H H1 : Hp) : Prop := ∀ b o, b ≠ a → H b = some o → H1 b = some o
theorem SameB.refl (a : Addr) (H : Hp) : SameB a H H := fun _ _ _ h => h
theorem SameB.trans {a : Addr} {H H1 H2 : Hp} (s : SameB a H H1) (t : SameB a H1 H2) : SameB a H H2 := fun b o n h => t b o n (s b o n h)
theorem SameB.of {a : Addr} {H H1 : Hp} (s : Same H H1) : SameB a H H1 := fun b o _ h => s b o h
theorem SameB.upd (a : Addr) (H : Hp) (o : HO) : SameB a H (upd H a o) := fun b x n h => by
  rw [upd_ne n]
  exact h
theorem SameB.seq {K : PySem.W.Frag} {H H' : Hp} {a c : Addr} {xs : List V} (e : SameB a H H') (n : c ≠ a) (h : SqL K H c xs) : SqL K H' c xs := by
  rcases h with (h | ⟨o, h⟩) | h
  · exact .inl (.inl (e _ _ n h))
  · exact .inl (.inr ⟨o, e _ _ n h⟩)
  · exact .inr h
structure TrS (K : PySem.W.Frag) (H : Hp) (a c : Addr) (ns : List Int) (t : Nat) (r : Int) : Prop where
  at_ : H a = some (.lst [.ref c, .int (t : Int), .int r])
  cells : SqL K H c (ns.map V.int)
  ne : c ≠ a
  few : ns.length ≤ 60
  low : 0 ≤ r
/-- a tray at a, which may be dipped into n times -/
def Tr (K : PySem.W.Frag) (H : Hp) (a c : Addr) (n : Nat) : Prop := ∃ ns t r, TrS K H a c ns t r ∧ t + n ≤ 1000000
def sp__law_dip (K : PySem.W.Frag) : Sp := S2 fun x y H Q => ∃ (a c : Addr) (m : Int) (n : Nat), x = .ref a ∧ y = .int m ∧ 0 < m ∧ m.natAbs < 2 ^ 400 ∧ Tr K H a c (n + 1) ∧ ∀ (r : Int) H1, 0 ≤ r → r < m → SameB a H H1 → Tr K H1 a c n → Q (.int r) H1
theorem mix3 {M t : Int} (h0 : 0 ≤ M) (h1 : M < 2147483648) (t0 : 0 ≤ t) (t1 : t ≤ 1000000) : (M * (2 * t + 1523) + 82039 * t * t + 7411).natAbs < 2 ^ 64 := by
  have a1 : 0 ≤ M * (2 * t + 1523) := Int.mul_nonneg h0 (by omega)
  have a2 : M * (2 * t + 1523) ≤ 2147483648 * 2001523 := Int.mul_le_mul (by omega) (by omega) (by omega) (by decide)
  have b1 : 0 ≤ 82039 * t * t := Int.mul_nonneg (by omega) t0
  have b2 : 82039 * t * t ≤ 82039000000 * 1000000 := Int.mul_le_mul (by omega) t1 t0 (by decide)
  generalize M * (2 * t + 1523) = x at *
  generalize 82039 * t * t = y at *
  omega
theorem dp_ints {K : PySem.W.Frag} {H : Hp} : ∀ ns : List Int, DpAll K H (ns.map V.int) (ns.map PyData.int)
  | [] => .nil
  | n :: ns => .cons (.int n) (dp_ints ns)
theorem lay_ints (ns : List Int) : PyData.canLayAll0 (ns.map PyData.int) = true := by
  induction ns with
  | nil => rfl
  | cons n r ih =>
    show (PyData.canLay0 (PyData.int n) && PyData.canLayAll0 (r.map PyData.int)) = true
    rw [ih]
    rfl
theorem depth_ints (ns : List Int) : PyData.depthAll (ns.map PyData.int) ≤ 1 := by
  induction ns with
  | nil => exact Nat.zero_le _
  | cons n r ih =>
    show max (PyData.depth (PyData.int n)) (PyData.depthAll (r.map PyData.int)) ≤ 1
    have : PyData.depth (PyData.int n) ≤ 1 := by
      first | decide | (unfold PyData.depth; omega)
    omega
theorem shaped_ints (ns : List Int) : SeqAt.shaped (.list (ns.map PyData.int)) = true := by
  unfold SeqAt.shaped
  rw [Bool.and_eq_true]
  refine ⟨lay_ints ns, decide_eq_true ?_⟩
  have := depth_ints ns
  unfold PyData.depth
  omega
theorem eqv_nil (ns : List Int) : PyData.eqv (.list (ns.map PyData.int)) (.list []) = ns.isEmpty := by
  cases ns <;> rfl
theorem ok__law_dip (T : Txt w K mg) : FnG P w K mg base CX0 1 T.f__law_dip T.fd__law_dip ["_law_tray_here", "_law_many"] (sp__law_dip K) := by
  refine okG T.F__law_dip sc__law_dip S2_len (fun cdv A outer s H vs Q E hg hr h => ?_)
  obtain ⟨v0, v1, rfl, h⟩ := h
  refine ⟨_, (pss_cons (ps_if (pt_cmpR op_gt (pe_ix ix_list (pv 0) pe_int (fun _ _ => rfl)) pe_int (nomark _))
        (pss_cons (ps_set (i := 2) sc__law_dip.nd rfl (.inl rfl) (pe_ix ix_list (pv 0) pe_int (fun _ _ => rfl)))
        (pss_cons (ps_asg (pe_op op_fdivW (pe_callTy call_intI (by rfl) T.m_int (by decide +kernel) (pa_cons (pv 2) pa_nil)) (pv 1)) (pg_sub (pv 0) pe_int set_list))
        (pss_one (ps_ret (pe_op op_mod (pe_callTy call_intI (by rfl) T.m_int (by decide +kernel) (pa_cons (pv 2) pa_nil)) (pv 1))))))
        pss_nil)
      (pss_cons (ps_set (i := 3) sc__law_dip.nd rfl (.inl rfl) (pe_ix ix_list (pv 0) pe_int (fun _ _ => rfl)))
      (pss_cons (ps_asg (pe_op op_add (pv 3) pe_int) (pg_sub (pv 0) pe_int set_list))
      (pss_cons (ps_set (i := 4) sc__law_dip.nd rfl (.inl rfl) (pe_op op_add (pe_op op_mul pe_int (pv 3)) pe_int))
      (C8.pss_cut (ps_if (pt_cmpR (op_neD hr.units) (pe_ix ix_list (pv 0) pe_int (fun _ _ => rfl)) (pe_lst pa_nil) (nomark _))
        (pss_one (ps_set (i := 4) sc__law_dip.nd rfl (.inl rfl) (pe_ix ix_list (pe_ix ix_list (pv 0) pe_int (fun _ _ => rfl)) (pe_op op_mod (pe_callTy call_intI (by rfl) T.m_int (by decide +kernel) (pa_cons (pv 3) pa_nil)) (pe_callB call_lenL (by rfl) T.m_len (by decide +kernel) (pa_cons (pe_ix ix_list (pv 0) pe_int (fun _ _ => rfl)) pa_nil))) (fun _ _ => rfl))))
        pss_nil)
      (pss_cons (ps_if (PW.pt (pw_and (pt_cmpR op_lt (pv 3) (pe_callB call_lenL (by rfl) T.m_len (by decide +kernel) (pa_cons (pe_ix ix_list (pv 0) pe_int (fun _ _ => rfl)) pa_nil)) (nomark _)) (pw_and1 (pt_cmpR op_ge (pe_callB call_abs (by rfl) T.m_abs (by decide +kernel) (pa_cons (pv 4) pa_nil)) (pe_op op_pow pe_int pe_int) (nomark _)))))
        (pss_cons (ps_set (i := 2) sc__law_dip.nd rfl (.inl rfl) (pe_op op_add (pe_op op_mul pe_int (pe_op op_sub (pe_callB call_abs (by rfl) T.m_abs (by decide +kernel) (pa_cons (pv 4) pa_nil)) (pe_op op_pow pe_int pe_int))) (pe_callTy call_intB (by rfl) T.m_int (by decide +kernel) (pa_cons (pe_cmpR op_lt (pv 4) pe_int (nomark _)) pa_nil))))
        (pss_cons (ps_asg (pe_op op_fdivW (pe_callTy call_intI (by rfl) T.m_int (by decide +kernel) (pa_cons (pv 2) pa_nil)) (pv 1)) (pg_sub (pv 0) pe_int set_list))
        (pss_one (ps_ret (pe_op op_mod (pe_callTy call_intI (by rfl) T.m_int (by decide +kernel) (pa_cons (pv 2) pa_nil)) (pv 1))))))
        pss_nil)
      (pss_cons (ps_set (i := 5) sc__law_dip.nd rfl (.inl rfl) (pe_op op_mod (pe_callTy call_intI (by rfl) T.m_int (by decide +kernel) (pa_cons (pe_op op_pow (pe_op op_add (pe_op op_add (pe_op op_mod (pe_callTy call_intI (by rfl) T.m_int (by decide +kernel) (pa_cons (pv 4) pa_nil)) pe_int) (pe_op op_mul pe_int (pv 3))) pe_int) pe_int) pa_nil)) pe_int))
      (pss_cons (ps_set (i := 5) sc__law_dip.nd rfl (.inl rfl) (pe_op op_mod (pe_callTy call_intI (by rfl) T.m_int (by decide +kernel) (pa_cons (pe_op op_pow (pe_op op_add (pe_op op_add (pe_op op_mulW (pv 5) (pe_op op_add (pe_op op_mul pe_int (pv 3)) pe_int)) (pe_op op_mulW (pe_op op_mul pe_int (pv 3)) (pv 3))) pe_int) pe_int) pa_nil)) pe_int))
      (pss_one (ps_ret (pe_op op_mod (pe_callTy call_intI (by rfl) T.m_int (by decide +kernel) (pa_cons (pe_op op_fdivW (pv 5) pe_int) pa_nil)) (pv 1)))))))))))), ?_⟩
  obtain ⟨a, c, m, n, rfl, rfl, hm, hm2, ⟨ns, t, r, S, hb⟩, q⟩ := h
  have hA : SqL K H a [.ref c, .int (t : Int), .int r] := .inl (.inl S.at_)
  walk_at "rd"
  refine ixL hA rfl ⟨_, rfl, ?_⟩
  have hdv : CDivW r m := wide_div hm hm2 (by decide) (by decide)
  refine ite2 (fun e => ?_) fun e => ?_
  · -- what a great one has left
    refine ixL hA rfl ⟨_, rfl, _, rfl, hdv, setL S.at_ (j := 2) rfl ⟨_, rfl, _, rfl, hm, ?_⟩⟩
    have d : (0 : Int) ≤ r / m := Int.ediv_nonneg S.low (by omega)
    refine q _ _ (Int.emod_nonneg _ (by omega)) (Int.emod_lt_of_pos _ hm) (SameB.upd _ _ _) ⟨ns, t, r / m, ⟨upd_same, (SameB.upd _ _ _).seq S.ne S.cells, S.ne, S.few, d⟩, by omega⟩
  · have hA1 : SqL K (upd H a (.lst [.ref c, .int ((t : Int) + 1), .int r])) a [.ref c, .int ((t : Int) + 1), .int r] := .inl (.inl upd_same)
    refine ixL hA rfl ⟨_, rfl, setL S.at_ (j := 1) rfl ⟨_, rfl, .inl (by decide), ?_⟩⟩
    have sB : SameB a H (upd H a (.lst [.ref c, .int ((t : Int) + 1), .int r])) := SameB.upd _ _ _
    have hC1 := sB.seq S.ne S.cells
    -- the cut: a cell is told
    refine ⟨fun σ H1 => ∃ (y2 y5 : Option V) (cell : Int), σ = [some (.ref a), some (.int m), y2, some (.int (t : Int)), some (.int cell), y5] ∧ SameB a H H1 ∧ H1 a = some (.lst [.ref c, .int ((t : Int) + 1), .int r]) ∧ SqL K H1 c (ns.map V.int), ?_, ?_⟩
    · walk_at "rd"
      refine ixL hA1 rfl ⟨Nat.zero_le _, fun p np => ?_⟩
      have sp := same_upd (o := .lst []) np
      have e1 : (upd (upd H a (.lst [.ref c, .int ((t : Int) + 1), .int r])) p (.lst [])) a = some (.lst [.ref c, .int ((t : Int) + 1), .int r]) := sp _ _ upd_same
      have hA2 : SqL K (upd (upd H a (.lst [.ref c, .int ((t : Int) + 1), .int r])) p (.lst [])) a _ := .inl (.inl e1)
      have hC2 := sp.seq hC1
      have sB2 := sB.trans (SameB.of sp)
      refine ⟨_, _, .lst hC2 (dp_ints ns), .lst (.inl (.inl upd_same)) .nil, shaped_ints ns, rfl, _, rfl, ?_⟩
      rw [eqv_nil]
      refine ite2 (fun e => ?_) fun _ => ⟨none, none, _, ⟨rfl, rfl, rfl⟩, sB2, e1, hC2⟩
      have hpos : 0 < ns.length := by
        cases ns with
        | nil => cases e
        | cons x r => exact Nat.succ_pos _
      refine ixL hA2 rfl ⟨_, rfl, ixL hA2 rfl ⟨c, _, rfl, hC2, _, rfl, _, rfl, ?_, ?_⟩⟩
      · rw [List.length_map]
        omega
      · rw [List.length_map]
        have h0 : 0 ≤ (t : Int) % (ns.length : Int) := Int.emod_nonneg _ (by omega)
        have h1 : (t : Int) % (ns.length : Int) < ns.length := Int.emod_lt_of_pos _ (by omega)
        obtain ⟨j, hj⟩ : ∃ j : Nat, (t : Int) % (ns.length : Int) = (j : Int) := ⟨_, (Int.toNat_of_nonneg h0).symm⟩
        rw [hj]
        have hj2 : j < ns.length := by omega
        exact ixL hC2 (atI_nat (by rw [List.getElem?_map, List.getElem?_eq_getElem hj2]; rfl)) ⟨none, none, _, ⟨rfl, rfl, rfl⟩, sB2, e1, hC2⟩
    · rintro σ H1 ⟨y2, y5, cell, rfl, s1, e1, c1⟩
      walk_at "rd"
      have hA3 : SqL K H1 a [.ref c, .int ((t : Int) + 1), .int r] := .inl (.inl e1)
      have m1 : 0 ≤ cell % 2147483647 := Int.emod_nonneg _ (by decide)
      have m2 : cell % 2147483647 < 2147483647 := Int.emod_lt_of_pos _ (by decide)
      have Tr1 : Tr K H1 a c n := ⟨ns, t + 1, r, ⟨by rw [e1]; rfl, c1, S.ne, S.few, S.low⟩, by omega⟩
      refine ixL hA3 rfl ⟨c, _, rfl, c1, _, rfl, ?_⟩
      have e1' := e1
      have p18 : CPow 10 18 := ⟨by decide, by decide, by decide⟩
      refine ite2 (fun e1 => ⟨p18, ite2 (fun e2 => ⟨p18, .inl (by decide), ?_⟩) fun e2 => ?_⟩) fun e1 => ?_
      · refine ⟨_, rfl, _, rfl, ?_⟩
        generalize hz : (2 * ((if cell < 0 then -cell else cell) - 10 ^ Int.toNat 18) + if decide (cell < 0) = true then (1 : Int) else 0) = z
        have z0 : 0 ≤ z := by
          have h2 := of_decide_eq_true e2
          rw [← hz]
          generalize (10 : Int) ^ Int.toNat 18 = u at *
          split <;> split <;> omega
        refine ⟨_, rfl, _, rfl, wide_div hm hm2 (by decide) (by decide), setL e1' (j := 2) rfl ⟨_, rfl, _, rfl, hm, ?_⟩⟩
        refine q _ _ (Int.emod_nonneg _ (by omega)) (Int.emod_lt_of_pos _ hm) (s1.trans (SameB.upd _ _ _)) ⟨ns, t + 1, z / m, ⟨upd_same.trans (by rfl), (SameB.upd _ _ _).seq S.ne c1, S.ne, S.few, Int.ediv_nonneg z0 (by omega)⟩, by omega⟩
      all_goals
        refine ⟨_, rfl, _, rfl, by decide, .inl (by decide), ⟨by decide, by decide, by omega⟩, _, rfl, _, rfl, by decide, .inl (by decide), ?_⟩
        generalize (cell % 2147483647 + 82039 * (t : Int) + 7411) ^ Int.toNat 5 = z
        have z1 : 0 ≤ z % 2147483579 := Int.emod_nonneg _ (by decide)
        have z2 : z % 2147483579 < 2147483579 := Int.emod_lt_of_pos _ (by decide)
        refine ⟨wide_mul (a := 31) (b := 22) (by omega) (by omega) (by decide) (by decide) (by decide), .inl (by decide), wide_mul (a := 37) (b := 22) (by omega) (by omega) (by decide) (by decide) (by decide),
          ⟨by decide, by decide, mix3 z1 (by omega) (by omega) (by omega)⟩, _, rfl, _, rfl, by decide, wide_div (b := 7) (by decide) (by decide) (by decide) (by decide), _, rfl, _, rfl, hm, ?_⟩
        exact q _ _ (Int.emod_nonneg _ (by omega)) (Int.emod_lt_of_pos _ hm) s1 Tr1
end
end K02
end
section
set_option maxHeartbeats 4000000
namespace K02
open PySem PySem.Spec PyProof.Rows L2 G1
local macro_rules | `(tactic| walk_at "rd") => `(tactic| simp only [tPar, tFmt, tJs, tM0, tM1, tSeq, tIfS, gName, gTup, gSub, gNil, gCons, List.cons.injEq, List.replicate_succ, tNot, tB, tRet, tC, tNext, tVar, tOp, tUn, tAnd, tOr, tAndV, tOrV, tNotV, tIf, tTest, tChain, tAsg, tCall, tCons, tNil, tCB, tDrop, tNever, tTup, tLst, tSl, tPart, tNoPart, tB, cx_K, cx_K', cx_w, cx_w', cx_mg', cx_P', cx_b', cx_mg, cx_P, cx_b, gUnl, Nat.reduceAdd, Nat.reduceSub, Nat.sub_self, Nat.zero_add, List.replicate_zero,
  rI, rI0, rU, rEq, rNe, L2.start, List.append_nil, List.cons_append, List.nil_append, List.map_cons, List.map_nil, List.length_cons, List.length_nil, List.getElem?_cons_zero, List.getElem?_cons_succ,
  List.replicate, List.set_cons_zero, List.set_cons_succ, exists_eq_left, exists_eq_left', exists_eq_right, exists_and_left, Option.some.injEq, V.bl.injEq, V.int.injEq, V.str.injEq, V.ref.injEq, true_and, and_true, if_true, if_false, Bool.false_eq_true, Bool.not_true, Bool.not_false, reduceIte, reduceCtorEq, ite_true, ite_false, decide_true, decide_false])
section
variable {P : Program} {w : World} {K : PySem.W.Frag} {mg : Str → Option Value} {base : Heap}
def sp__law_take (K : PySem.W.Frag) : Sp := S2 fun x y H Q => ∃ (a c l : Addr) (xs : List V) (n : Nat), x = .ref a ∧ y = .ref l ∧ SqL K H l xs ∧ l ≠ a ∧ 0 < xs.length ∧ xs.length ≤ 1000 ∧ Tr K H a c (n + 1) ∧ ∀ v H1, v ∈ xs → SameB a H H1 → Tr K H1 a c n → Q v H1
theorem ok__law_take (T : Txt w K mg) : FnG P w K mg base CX0 2 T.f__law_take T.fd__law_take ["_law_tray_here", "_law_some"] (sp__law_take K) := by
  have K__law_dip := ok__law_dip (P := P) (base := base) T
  refine okG T.F__law_take sc__law_take S2_len (fun cdv A outer s H vs Q E hg hr h => ?_)
  obtain ⟨v0, v1, rfl, h⟩ := h
  refine ⟨_, (pss_one (ps_ret (pe_ix ix_list (pv 1) (pe_callG K__law_dip hg (hr.mono (by decide)) (by rfl) T.g__law_dip T.F__law_dip.kp T.b__law_dip .nil pass0 (pa_cons (pv 0) (pa_cons (pe_callB call_lenL (by rfl) T.m_len (by decide +kernel) (pa_cons (pv 1) pa_nil)) pa_nil))) (fun _ _ => rfl)))), ?_⟩
  obtain ⟨a, c, l, xs, n, rfl, rfl, hl, hne, h0, h1, tr, q⟩ := h
  walk_at "rd"
  refine ⟨l, xs, rfl, hl, ?_⟩
  refine ⟨_, _, rfl, a, c, (xs.length : Int), n, rfl, rfl, by omega, ?_, tr, fun r H1 r0 r1 s1 t1 => ?_⟩
  · rw [Int.natAbs_natCast]
    exact Nat.lt_of_le_of_lt h1 (by decide)
  · obtain ⟨j, rfl⟩ : ∃ j : Nat, r = (j : Int) := ⟨_, (Int.toNat_of_nonneg r0).symm⟩
    have hj : j < xs.length := by omega
    exact ixL (s1.seq hne hl) (atI_nat (List.getElem?_eq_getElem hj)) (q _ _ (List.getElem_mem hj) s1 t1)
def sp__law_great (K : PySem.W.Frag) : Sp := S2 fun x y H Q => ∃ (a c : Addr) (m : Int) (n : Nat), x = .ref a ∧ y = .int m ∧ 0 ≤ m ∧ Tr K H a c (n + 11) ∧ ∀ (r : Int) H1, 0 ≤ r → r ≤ m → SameB a H H1 → Tr K H1 a c n → Q (.int r) H1
theorem Tr.less {K : PySem.W.Frag} {H : Hp} {a c : Addr} {n m : Nat} (t : Tr K H a c n) (h : m ≤ n) : Tr K H a c m := by
  obtain ⟨ns, t, r, S, hb⟩ := t
  exact ⟨ns, t, r, S, by omega⟩
theorem ok__law_great (T : Txt w K mg) : FnG P w K mg base CX0 2 T.f__law_great T.fd__law_great ["_law_tray_here", "_law_most"] (sp__law_great K) := by
  have K__law_dip := ok__law_dip (P := P) (base := base) T
  refine okG T.F__law_great sc__law_great S2_len (fun cdv A outer s H vs Q E hg hr h => ?_)
  obtain ⟨v0, v1, rfl, h⟩ := h
  refine ⟨_, (pss_cons (ps_set (i := 2) sc__law_great.nd rfl (.inl rfl) pe_int)
      (pss_cons (ps_for PassesOwn.never rfl (pi_range1 (by rfl) T.m_range (pa_cons pe_int pa_nil)) (pg_name (i := 3) sc__law_great.nd rfl (.inl rfl))
        (pss_one (ps_if (pt_cmpR op_lt (pv 2) (pv 1) (nomark _))
          (pss_one (ps_set (i := 2) sc__law_great.nd rfl (.inl rfl) (pe_op op_add (pe_op op_mul (pv 2) pe_int) (pe_callG K__law_dip hg (hr.mono (by decide)) (by rfl) T.g__law_dip T.F__law_dip.kp T.b__law_dip .nil pass0 (pa_cons (pv 0) (pa_cons pe_int pa_nil))))))
          pss_nil)))
      (pss_one (ps_ret (pe_op op_mod (pe_callTy call_intI (by rfl) T.m_int (by decide +kernel) (pa_cons (pv 2) pa_nil)) (pe_op op_add (pv 1) pe_int)))))), ?_⟩
  obtain ⟨a, c, m, n, rfl, rfl, hm, tr, q⟩ := h
  walk_at "rd"
  refine ⟨_, rfl, by decide, by decide, for_range (n := 11) (fun i σ H' => ∃ (num : Int) (y3 : Option V), σ = [some (.ref a), some (.int m), some (.int num), y3] ∧ SameB a H H' ∧ Tr K H' a c (n + (11 - i))) ⟨0, none, rfl, SameB.refl _ _, tr⟩ ?_ ?_⟩
  · rintro i σ H' hi ⟨num, y3, rfl, s1, t1⟩
    walk_at "rd"
    refine ite2 (fun _ => ?_) fun _ => ⟨num, _, ⟨rfl, rfl⟩, s1, ?_⟩
    · refine ⟨.inr (by decide), ?_⟩
      refine ⟨_, _, rfl, a, c, 268435456, n + (11 - (i + 1)), rfl, rfl, by decide, by decide, ?_, fun r H2 r0 r1 s2 t2 => ?_⟩
      · rw [show n + (11 - (i + 1)) + 1 = n + (11 - i) by omega]
        exact t1
      · exact ⟨_, rfl, _, _, ⟨rfl, rfl⟩, s1.trans s2, t2⟩
    · exact t1.less (by omega)
  · rintro σ H' ⟨num, y3, rfl, s1, t1⟩
    walk_at "rd"
    refine ⟨_, rfl, _, rfl, by omega, ?_⟩
    exact q _ _ (Int.emod_nonneg _ (by omega)) (by have := Int.emod_lt_of_pos num (show 0 < m + 1 by omega); omega) s1 t1
theorem two_le_pow {k : Nat} (h : 1 ≤ k) : (2 : Int) ≤ 2 ^ k := by
  obtain ⟨j, rfl⟩ : ∃ j, k = j + 1 := ⟨k - 1, by omega⟩
  have : (0 : Int) < 2 ^ j := Int.pow_pos (by decide)
  rw [Int.pow_succ]
  omega
theorem tr_ne {K : PySem.W.Frag} {H : Hp} {a c l : Addr} {n : Nat} (t : Tr K H a c n) (h : H l = none) : l ≠ a := by
  obtain ⟨ns, t, r, S, hb⟩ := t
  intro e
  rw [e, S.at_] at h
  cases h
theorem Tr.same {K : PySem.W.Frag} {H H1 : Hp} {a c : Addr} {n : Nat} (t : Tr K H a c n) (s : Same H H1) : Tr K H1 a c n := by
  obtain ⟨ns, t, r, S, hb⟩ := t
  exact ⟨ns, t, r, ⟨s _ _ S.at_, s.seq S.cells, S.ne, S.few, S.low⟩, hb⟩
/-- a word below the limit 2 ^ n -/
def sp__law_word (K : PySem.W.Frag) : Sp := S2 fun x y H Q => ∃ (a c : Addr) (k n : Nat), x = .ref a ∧ y = .int (2 ^ k) ∧ 1 ≤ k ∧ Tr K H a c (n + 23) ∧ ∀ (r : Int) H1, 0 ≤ r → r < 2 ^ k → SameB a H H1 → Tr K H1 a c n → Q (.int r) H1
theorem ok__law_word (T : Txt w K mg) : FnG P w K mg base CX0 3 T.f__law_word T.fd__law_word ["_law_tray_here", "_law_limit"] (sp__law_word K) := by
  have K__law_take := ok__law_take (P := P) (base := base) T
  have K__law_great := ok__law_great (P := P) (base := base) T
  refine okG T.F__law_word sc__law_word S2_len (fun cdv A outer s H vs Q E hg hr h => ?_)
  obtain ⟨v0, v1, rfl, h⟩ := h
  refine ⟨_, (pss_one (ps_ret (pe_callG K__law_take hg (hr.mono (by decide)) (by rfl) T.g__law_take T.F__law_take.kp T.b__law_take .nil pass0 (pa_cons (pv 0) (pa_cons (pe_lst (pa_cons pe_int (pa_cons pe_int (pa_cons (pe_op op_sub (pv 1) pe_int) (pa_cons (pe_op op_fdivW (pv 1) pe_int) (pa_cons (pe_op op_sub (pe_op op_fdivW (pv 1) pe_int) pe_int) (pa_cons (pe_callG K__law_great hg (hr.mono (by decide)) (by rfl) T.g__law_great T.F__law_great.kp T.b__law_great .nil pass0 (pa_cons (pv 0) (pa_cons (pe_op op_sub (pv 1) pe_int) pa_nil))) (pa_cons (pe_callG K__law_great hg (hr.mono (by decide)) (by rfl) T.g__law_great T.F__law_great.kp T.b__law_great .nil pass0 (pa_cons (pv 0) (pa_cons (pe_op op_sub (pv 1) pe_int) pa_nil))) pa_nil)))))))) pa_nil))))), ?_⟩
  obtain ⟨a, c, k, n, rfl, rfl, hk, tr, q⟩ := h
  have hP := two_le_pow hk
  walk_at "rd"
  generalize (2 : Int) ^ k = p at *
  have d2 : CDivW p 2 := wide_div (b := 2) (by decide) (by decide) (by decide) (by decide)
  refine ⟨d2, d2, _, _, rfl, a, c, p - 1, n + 12, rfl, rfl, by omega, tr, fun x H1 x0 x1 s1 t1 => ?_⟩
  refine ⟨_, _, rfl, a, c, p - 1, n + 1, rfl, rfl, by omega, t1, fun y H2 y0 y1 s2 t2 => ⟨by decide, fun l nl => ?_⟩⟩
  have s3 := same_upd (o := .lst [V.int 0, V.int 1, V.int (p - 1), V.int (p / 2), V.int (p / 2 - 1), V.int x, V.int y]) nl
  have na : l ≠ a := tr_ne t2 nl
  refine ⟨_, _, rfl, a, c, l, _, n, rfl, rfl, .inl (.inl upd_same), na, (by show 0 < 7; decide), (by show 7 ≤ 1000; decide), t2.same s3, fun v H3 hv s4 t4 => ?_⟩
  have sE := ((s1.trans s2).trans (SameB.of s3)).trans s4
  have fin : ∀ i : Int, 0 ≤ i → i < p → Q (.int i) H3 := fun i h0 h1 => q i H3 h0 h1 sE t4
  simp only [List.mem_cons, List.not_mem_nil, or_false] at hv
  rcases hv with rfl | rfl | rfl | rfl | rfl | rfl | rfl <;> exact fin _ (by omega) (by omega)
end
end K02
end
section
set_option maxHeartbeats 4000000
namespace K02
open PySem PySem.Spec PyProof.Rows L2
theorem pow_pos2 (n : Nat) : (0 : Int) < 2 ^ n := Int.pow_pos (by decide)
theorem pow_dvd2 {l w : Nat} (h : l ≤ w) : (2 : Int) ^ l ∣ 2 ^ w := ⟨2 ^ (w - l), by rw [← Int.pow_add, Nat.add_sub_cancel' h]⟩
theorem mod_mod2 {l w : Nat} (h : l ≤ w) (i : Int) : i % 2 ^ w % 2 ^ l = i % 2 ^ l := Int.emod_emod_of_dvd i (pow_dvd2 h)
theorem mod_low (i : Int) (n : Nat) : 0 ≤ i % 2 ^ n := Int.emod_nonneg _ (by have := pow_pos2 n; omega)
theorem mod_high (i : Int) (n : Nat) : i % 2 ^ n < 2 ^ n := Int.emod_lt_of_pos _ (pow_pos2 n)
theorem cut_add {l w : Nat} (h : l ≤ w) (i j : Int) : (i + j) % 2 ^ w % 2 ^ l = (i % 2 ^ l + j % 2 ^ l) % 2 ^ l := by
  rw [mod_mod2 h, Int.add_emod]
theorem cut_sub {l w : Nat} (h : l ≤ w) (i j : Int) : (i - j) % 2 ^ w % 2 ^ l = (i % 2 ^ l - j % 2 ^ l) % 2 ^ l := by
  rw [mod_mod2 h, Int.sub_emod]
theorem cut_mul {l w : Nat} (h : l ≤ w) (i j : Int) : (i * j) % 2 ^ w % 2 ^ l = (i % 2 ^ l * (j % 2 ^ l)) % 2 ^ l := by
  rw [mod_mod2 h, Int.mul_emod]
theorem cut_neg {l w : Nat} (h : l ≤ w) (i : Int) : (-i) % 2 ^ w % 2 ^ l = (-(i % 2 ^ l)) % 2 ^ l := by
  rw [mod_mod2 h, ← Int.zero_sub, ← Int.zero_sub, Int.sub_emod, Int.sub_emod 0 (i % 2 ^ l), Int.emod_emod]
theorem cut_shl {l w : Nat} (h : l ≤ w) (i : Int) (k : Nat) : (i * 2 ^ k) % 2 ^ w % 2 ^ l = (i % 2 ^ l * 2 ^ k) % 2 ^ l := by
  have e := Int.mul_emod (i % 2 ^ l) (2 ^ k) (2 ^ l)
  rw [Int.emod_emod] at e
  rw [mod_mod2 h, Int.mul_emod, e]
theorem nat_pow2 (n : Nat) : ((2 ^ n : Nat) : Int) = 2 ^ n := by rw [Int.natCast_pow]; rfl
theorem of_nat {i : Int} (h : 0 ≤ i) : ∃ a : Nat, i = a := ⟨i.toNat, (Int.toNat_of_nonneg h).symm⟩
theorem and_nat (a b : Nat) : Builtin.bitAnd (a : Int) (b : Int) = ((a &&& b : Nat) : Int) := by
  rw [bitAnd_pp (by omega) (by omega)]
  rfl
theorem or_nat (a b : Nat) : Builtin.bitOr (a : Int) (b : Int) = ((a ||| b : Nat) : Int) := by
  rw [Bits.bitOr_pp (by omega) (by omega)]
  rfl
theorem xor_nat (a b : Nat) : Builtin.bitXor (a : Int) (b : Int) = ((a ^^^ b : Nat) : Int) := by
  rw [Bits.bitXor_pp (by omega) (by omega)]
  rfl
theorem mod_nat (a n : Nat) : (a : Int) % 2 ^ n = ((a % 2 ^ n : Nat) : Int) := by
  rw [← nat_pow2, Int.natCast_emod]
theorem lt_nat {a n : Nat} (h : (a : Int) < 2 ^ n) : a < 2 ^ n := by
  rw [← nat_pow2] at h
  exact Int.ofNat_lt.mp h
theorem nat_lt {a n : Nat} (h : a < 2 ^ n) : (a : Int) < 2 ^ n := by
  rw [← nat_pow2]
  exact Int.ofNat_lt.mpr h
theorem cut_and {l : Nat} {i j : Int} (hi : 0 ≤ i) (hj : 0 ≤ j) : Builtin.bitAnd i j % 2 ^ l = Builtin.bitAnd (i % 2 ^ l) (j % 2 ^ l) := by
  obtain ⟨a, rfl⟩ := of_nat hi
  obtain ⟨b, rfl⟩ := of_nat hj
  rw [and_nat, mod_nat, mod_nat, mod_nat, and_nat, Nat.and_mod_two_pow]
theorem cut_or {l : Nat} {i j : Int} (hi : 0 ≤ i) (hj : 0 ≤ j) : Builtin.bitOr i j % 2 ^ l = Builtin.bitOr (i % 2 ^ l) (j % 2 ^ l) := by
  obtain ⟨a, rfl⟩ := of_nat hi
  obtain ⟨b, rfl⟩ := of_nat hj
  rw [or_nat, mod_nat, mod_nat, mod_nat, or_nat, Nat.or_mod_two_pow]
theorem cut_xor {l : Nat} {i j : Int} (hi : 0 ≤ i) (hj : 0 ≤ j) : Builtin.bitXor i j % 2 ^ l = Builtin.bitXor (i % 2 ^ l) (j % 2 ^ l) := by
  obtain ⟨a, rfl⟩ := of_nat hi
  obtain ⟨b, rfl⟩ := of_nat hj
  rw [xor_nat, mod_nat, mod_nat, mod_nat, xor_nat, Nat.xor_mod_two_pow]
theorem and_in {w : Nat} {i j : Int} (hi : 0 ≤ i) (hj : 0 ≤ j) (h1 : i < 2 ^ w) (h2 : j < 2 ^ w) : 0 ≤ Builtin.bitAnd i j ∧ Builtin.bitAnd i j < 2 ^ w := by
  obtain ⟨a, rfl⟩ := of_nat hi
  obtain ⟨b, rfl⟩ := of_nat hj
  rw [and_nat]
  exact ⟨by omega, nat_lt (Nat.and_lt_two_pow _ (lt_nat h2))⟩
theorem or_in {w : Nat} {i j : Int} (hi : 0 ≤ i) (hj : 0 ≤ j) (h1 : i < 2 ^ w) (h2 : j < 2 ^ w) : 0 ≤ Builtin.bitOr i j ∧ Builtin.bitOr i j < 2 ^ w := by
  obtain ⟨a, rfl⟩ := of_nat hi
  obtain ⟨b, rfl⟩ := of_nat hj
  rw [or_nat]
  exact ⟨by omega, nat_lt (Nat.or_lt_two_pow (lt_nat h1) (lt_nat h2))⟩
theorem xor_in {w : Nat} {i j : Int} (hi : 0 ≤ i) (hj : 0 ≤ j) (h1 : i < 2 ^ w) (h2 : j < 2 ^ w) : 0 ≤ Builtin.bitXor i j ∧ Builtin.bitXor i j < 2 ^ w := by
  obtain ⟨a, rfl⟩ := of_nat hi
  obtain ⟨b, rfl⟩ := of_nat hj
  rw [xor_nat]
  exact ⟨by omega, nat_lt (Nat.xor_lt_two_pow (lt_nat h1) (lt_nat h2))⟩
theorem mask_nat (n : Nat) : (2 : Int) ^ n - 1 = ((2 ^ n - 1 : Nat) : Int) := by
  have : 0 < 2 ^ n := Nat.two_pow_pos n
  rw [← nat_pow2]
  omega
theorem cut_mask {l w : Nat} (h : l ≤ w) : ((2 : Int) ^ w - 1) % 2 ^ l = 2 ^ l - 1 := by
  have e : (2 : Int) ^ w - 1 = (2 ^ l - 1) + 2 ^ l * (2 ^ (w - l) - 1) := by
    have : (2 : Int) ^ w = 2 ^ l * 2 ^ (w - l) := by rw [← Int.pow_add, Nat.add_sub_cancel' h]
    rw [this, Int.mul_sub, Int.mul_one]
    omega
  rw [e, Int.add_mul_emod_self_left]
  exact Int.emod_eq_of_lt (by have := pow_pos2 l; omega) (by omega)
/-! ### flips -/
theorem flip_in {w : Nat} {i : Int} (hi : 0 ≤ i) (h1 : i < 2 ^ w) : 0 ≤ Builtin.bitXor i (2 ^ w - 1) ∧ Builtin.bitXor i (2 ^ w - 1) < 2 ^ w :=
  xor_in hi (by have := pow_pos2 w; omega) h1 (by omega)
theorem cut_flip {l w : Nat} (h : l ≤ w) {i : Int} (hi : 0 ≤ i) : Builtin.bitXor i (2 ^ w - 1) % 2 ^ l = Builtin.bitXor (i % 2 ^ l) (2 ^ l - 1) := by
  rw [cut_xor hi (by have := pow_pos2 w; omega), cut_mask h]
/-- the flip is the greatest word less it -/
theorem flip_eq {w : Nat} {i : Int} (hi : 0 ≤ i) (h1 : i < 2 ^ w) : Builtin.bitXor i (2 ^ w - 1) = 2 ^ w - 1 - i := by
  obtain ⟨a, rfl⟩ := of_nat hi
  have ha := lt_nat h1
  rw [mask_nat, xor_nat]
  have e : a ^^^ (2 ^ w - 1) = 2 ^ w - (a + 1) := by
    apply Nat.eq_of_testBit_eq
    intro k
    rw [Nat.testBit_xor, Nat.testBit_two_pow_sub_one, Nat.testBit_two_pow_sub_succ ha]
    by_cases hk : k < w
    · rw [decide_eq_true hk]
      cases a.testBit k <;> rfl
    · have h2 : a < 2 ^ k := Nat.lt_of_lt_of_le ha (Nat.pow_le_pow_right (by decide) (by omega))
      rw [decide_eq_false hk, Nat.testBit_lt_two_pow h2]
      rfl
  rw [e]
  have := Nat.two_pow_pos w
  omega
/-- the top bit turned over -/
theorem xor_top_low {a m : Nat} (h : a < 2 ^ m) : a ^^^ 2 ^ m = 2 ^ m + a := by
  apply Nat.eq_of_testBit_eq
  intro k
  rw [Nat.testBit_xor, Nat.testBit_two_pow]
  by_cases h1 : k < m
  · rw [decide_eq_false (by omega), Nat.testBit_two_pow_add_gt h1]
    cases a.testBit k <;> rfl
  · by_cases h2 : k = m
    · subst h2
      rw [decide_eq_true rfl, Nat.testBit_two_pow_add_eq]
      cases a.testBit k <;> rfl
    · have g1 : a < 2 ^ k := Nat.lt_of_lt_of_le h (Nat.pow_le_pow_right (by decide) (by omega))
      have g2 : 2 ^ m + a < 2 ^ k := by
        have : 2 ^ (m + 1) ≤ 2 ^ k := Nat.pow_le_pow_right (by decide) (by omega)
        rw [Nat.pow_succ] at this
        omega
      rw [decide_eq_false (by omega), Nat.testBit_lt_two_pow g1, Nat.testBit_lt_two_pow g2]
      rfl
theorem xor_top_high {a m : Nat} (h : a < 2 ^ m) : (2 ^ m + a) ^^^ 2 ^ m = a := by
  rw [← xor_top_low h, Nat.xor_assoc, Nat.xor_self, Nat.xor_zero]
theorem top_eq (m : Nat) : Builtin.bitXor ((2 : Int) ^ (m + 1) - 1) ((2 ^ (m + 1) - 1) / 2) = 2 ^ m := by
  have e2 : (2 : Int) ^ (m + 1) = 2 * 2 ^ m := by rw [Int.pow_succ, Int.mul_comm]
  have p := pow_pos2 m
  have e3 : ((2 : Int) ^ (m + 1) - 1) / 2 = 2 ^ m - 1 := by omega
  have e4 := flip_eq (w := m + 1) (i := 2 ^ m - 1) (by omega) (by omega)
  rw [e3]
  have ec : Builtin.bitXor ((2 : Int) ^ (m + 1) - 1) (2 ^ m - 1) = Builtin.bitXor (2 ^ m - 1) (2 ^ (m + 1) - 1) := by
    rw [mask_nat, mask_nat, xor_nat, xor_nat, Nat.xor_comm]
  rw [ec, e4]
  omega
theorem xor_top {m : Nat} {i : Int} (hi : 0 ≤ i) (h : i < 2 ^ (m + 1)) : Builtin.bitXor i (2 ^ m) = if 2 ^ m ≤ i then i - 2 ^ m else i + 2 ^ m := by
  obtain ⟨a, rfl⟩ := of_nat hi
  have ha := lt_nat h
  have hp : a < 2 * 2 ^ m := by
    rw [Nat.pow_succ, Nat.mul_comm] at ha
    exact ha
  rw [← nat_pow2, xor_nat]
  by_cases hb : 2 ^ m ≤ a
  · obtain ⟨b, rfl⟩ : ∃ b, a = 2 ^ m + b := ⟨a - 2 ^ m, by omega⟩
    rw [if_pos (by omega), xor_top_high (by omega)]
    omega
  · rw [if_neg (by omega), xor_top_low (by omega)]
    omega
end K02
end
section
set_option maxHeartbeats 4000000
namespace K02
open PySem PySem.Spec PyProof.Rows L2 G1
section
variable {P : Program} {w : World} {K : PySem.W.Frag} {mg : Str → Option Value} {base : Heap}
/-! ### what worked makes of each label -/
def Args (n : Nat) (ks : List Str) (xs : List V) : Prop := ks.length = xs.length ∧ ∀ (i : Nat) (k : Str) (v : V), ks[i]? = some k → xs[i]? = some v → KindOk n k v
def Wd : Str := "word"
def Tr' : Str := "truth"
theorem kw {n : Nat} {i : Int} (h0 : 0 ≤ i) (h1 : i < 2 ^ n) : KindOk n "word" (.int i) := .inr ⟨rfl, i, rfl, h0, h1⟩
theorem kt {n : Nat} (b : Bool) : KindOk n "truth" (.bl b) := .inl ⟨rfl, b, rfl⟩
theorem args_nil {n : Nat} : Args n [] [] := ⟨rfl, fun i k v h => by simp at h⟩
theorem args_cons {n : Nat} {k : Str} {ks : List Str} {v : V} {xs : List V} (h : KindOk n k v) (r : Args n ks xs) : Args n (k :: ks) (v :: xs) := by
  refine ⟨by rw [List.length_cons, List.length_cons, r.1], fun i k' v' h1 h2 => ?_⟩
  cases i with
  | zero =>
    cases h1
    cases h2
    exact h
  | succ i => exact r.2 i k' v' h1 h2
theorem args_uncons {n : Nat} {k : Str} {ks : List Str} {xs : List V} (h : Args n (k :: ks) xs) : ∃ v r, xs = v :: r ∧ KindOk n k v ∧ Args n ks r := by
  cases xs with
  | nil => cases h.1
  | cons v r => exact ⟨v, r, rfl, h.2 0 k v rfl rfl, ⟨Nat.succ.inj h.1, fun i k' v' h1 h2 => h.2 (i + 1) k' v' h1 h2⟩⟩
theorem args_done {n : Nat} {xs : List V} (h : Args n [] xs) : xs = [] := by
  cases xs with
  | nil => rfl
  | cons v r => cases h.1
theorem un_word {n : Nat} {v : V} (h : KindOk n "word" v) : ∃ i : Int, v = .int i ∧ 0 ≤ i ∧ i < 2 ^ n := by
  rcases h with ⟨e, _⟩ | ⟨_, h⟩
  · exact absurd e (by decide)
  · exact h
theorem un_truth {n : Nat} {v : V} (h : KindOk n "truth" v) : ∃ b, v = .bl b := by
  rcases h with ⟨_, h⟩ | ⟨e, _⟩
  · exact h
  · exact absurd e (by decide)
theorem wk_of (T : Txt w K mg) {n : Nat} {z k : Str} {ks : List Str} {xs : List V} {r : V} {f : Addr} {fs : List V} {sp : Sp} (ha : z ≠ "at") (hs : Shp z k ks) (hk : Args n ks xs) (hf : Act T z f fs) (hh : HeldG P w K mg base 1 f sp)
    (run : ∀ H Q, Q r H → sp (M n :: (fs ++ (xs ++ [V.int 0, V.int 0, V.int 0])).take 3) H Q E0) : Wk P w K mg base T n z xs r :=
  ⟨ha, ⟨k, ks, hs, hk.1, hk.2⟩, ⟨f, fs, sp, hf, hh, run⟩⟩
def W2 : List Str := ["word", "word"]
def W1 : List Str := [("word" : Str)]
def T2 : List Str := ["truth", "truth"]
def T1 : List Str := [("truth" : Str)]
def IF3 : List Str := ["truth", "word", "word"]
section
variable (T : Txt w K mg) {n : Nat} {i j : Int}
theorem a2 (hi : 0 ≤ i) (hi2 : i < 2 ^ n) (hj : 0 ≤ j) (hj2 : j < 2 ^ n) : Args n W2 [.int i, .int j] := args_cons (kw hi hi2) (args_cons (kw hj hj2) args_nil)
theorem a1 (hi : 0 ≤ i) (hi2 : i < 2 ^ n) : Args n W1 [.int i] := args_cons (kw hi hi2) args_nil
theorem wk_add (hi : 0 ≤ i) (hi2 : i < 2 ^ n) (hj : 0 ≤ j) (hj2 : j < 2 ^ n) : Wk P w K mg base T n "add" [.int i, .int j] (.int ((i + j) % 2 ^ n)) :=
  wk_of T (by decide) (.plain _ "word" W2 (by decide +kernel)) (a2 hi hi2 hj hj2) (.plain _ (by decide +kernel) _ T.x_add) ⟨_, _, ok__added T, T.F__added.kp, T.b__added⟩ fun H Q q => ⟨_, _, _, _, rfl, n, i, j, rfl, rfl, rfl, q⟩
theorem wk_sub (hi : 0 ≤ i) (hi2 : i < 2 ^ n) (hj : 0 ≤ j) (hj2 : j < 2 ^ n) : Wk P w K mg base T n "sub" [.int i, .int j] (.int ((i - j) % 2 ^ n)) :=
  wk_of T (by decide) (.plain _ "word" W2 (by decide +kernel)) (a2 hi hi2 hj hj2) (.plain _ (by decide +kernel) _ T.x_sub) ⟨_, _, ok__less_of T, T.F__less_of.kp, T.b__less_of⟩ fun H Q q => ⟨_, _, _, _, rfl, n, i, j, rfl, rfl, rfl, q⟩
theorem mulW_ok (hn : n ≤ 300) (hi : 0 ≤ i) (hi2 : i < 2 ^ n) (hj : 0 ≤ j) (hj2 : j < 2 ^ n) : CMulW i j := by
  obtain ⟨a, rfl⟩ := of_nat hi
  obtain ⟨b, rfl⟩ := of_nat hj
  have h3 : 2 ^ n ≤ 2 ^ 301 := Nat.pow_le_pow_right (by decide) (by omega)
  exact wide_mul (a := 301) (b := 301) (by rw [Int.natAbs_natCast]; exact Nat.lt_of_lt_of_le (lt_nat hi2) h3) (by rw [Int.natAbs_natCast]; exact Nat.lt_of_lt_of_le (lt_nat hj2) h3) (by decide) (by decide) (by decide)
theorem wk_mul (hn : n ≤ 300) (hi : 0 ≤ i) (hi2 : i < 2 ^ n) (hj : 0 ≤ j) (hj2 : j < 2 ^ n) : Wk P w K mg base T n "mul" [.int i, .int j] (.int ((i * j) % 2 ^ n)) :=
  wk_of T (by decide) (.plain _ "word" W2 (by decide +kernel)) (a2 hi hi2 hj hj2) (.plain _ (by decide +kernel) _ T.x_mul) ⟨_, _, ok__times T, T.F__times.kp, T.b__times⟩ fun H Q q => ⟨_, _, _, _, rfl, n, i, j, rfl, rfl, rfl, mulW_ok hn hi hi2 hj hj2, q⟩
theorem wk_and (hi : 0 ≤ i) (hi2 : i < 2 ^ n) (hj : 0 ≤ j) (hj2 : j < 2 ^ n) : Wk P w K mg base T n "and" [.int i, .int j] (.int (Builtin.bitAnd i j)) :=
  wk_of T (by decide) (.plain _ "word" W2 (by decide +kernel)) (a2 hi hi2 hj hj2) (.plain _ (by decide +kernel) _ T.x_and) ⟨_, _, ok__bits_in_both T, T.F__bits_in_both.kp, T.b__bits_in_both⟩ fun H Q q => ⟨_, _, _, _, rfl, i, j, rfl, rfl, q⟩
theorem wk_or (hi : 0 ≤ i) (hi2 : i < 2 ^ n) (hj : 0 ≤ j) (hj2 : j < 2 ^ n) : Wk P w K mg base T n "or" [.int i, .int j] (.int (Builtin.bitOr i j)) :=
  wk_of T (by decide) (.plain _ "word" W2 (by decide +kernel)) (a2 hi hi2 hj hj2) (.plain _ (by decide +kernel) _ T.x_or) ⟨_, _, ok__bits_in_any T, T.F__bits_in_any.kp, T.b__bits_in_any⟩ fun H Q q => ⟨_, _, _, _, rfl, i, j, rfl, rfl, q⟩
theorem wk_xor (hi : 0 ≤ i) (hi2 : i < 2 ^ n) (hj : 0 ≤ j) (hj2 : j < 2 ^ n) : Wk P w K mg base T n "xor" [.int i, .int j] (.int (Builtin.bitXor i j)) :=
  wk_of T (by decide) (.plain _ "word" W2 (by decide +kernel)) (a2 hi hi2 hj hj2) (.plain _ (by decide +kernel) _ T.x_xor) ⟨_, _, ok__bits_in_one T, T.F__bits_in_one.kp, T.b__bits_in_one⟩ fun H Q q => ⟨_, _, _, _, rfl, i, j, rfl, rfl, q⟩
theorem wk_neg (hi : 0 ≤ i) (hi2 : i < 2 ^ n) : Wk P w K mg base T n "neg" [.int i] (.int ((-i) % 2 ^ n)) :=
  wk_of T (by decide) (.plain _ "word" W1 (by decide +kernel)) (a1 hi hi2) (.plain _ (by decide +kernel) _ T.x_neg) ⟨_, _, ok__negative T, T.F__negative.kp, T.b__negative⟩ fun H Q q => ⟨_, _, _, _, rfl, n, i, rfl, rfl, q⟩
theorem wk_flip (hi : 0 ≤ i) (hi2 : i < 2 ^ n) : Wk P w K mg base T n "flip" [.int i] (.int (Builtin.bitXor i (2 ^ n - 1))) :=
  wk_of T (by decide) (.plain _ "word" W1 (by decide +kernel)) (a1 hi hi2) (.plain _ (by decide +kernel) _ T.x_flip) ⟨_, _, ok__flipped T, T.F__flipped.kp, T.b__flipped⟩ fun H Q q => ⟨_, _, _, _, rfl, n, i, rfl, rfl, q⟩
theorem shl_word (hn : n ≤ 300) {k : Nat} (hk : k < 32) (hi : 0 ≤ i) (hi2 : i < 2 ^ n) : CShl i (k : Int) := by
  obtain ⟨a, rfl⟩ := of_nat hi
  exact shl_ok (by rw [Int.natAbs_natCast]; exact Nat.lt_of_lt_of_le (lt_nat hi2) (Nat.pow_le_pow_right (by decide) (by omega))) (by omega)
theorem wk_shl (hn : n ≤ 300) {k : Nat} (h1 : 1 ≤ k) (hk : k < 32) (hi : 0 ≤ i) (hi2 : i < 2 ^ n) : Wk P w K mg base T n (shlT k) [.int i] (.int ((i * 2 ^ k) % 2 ^ n)) :=
  wk_of T (fun e => (by decide +kernel : ∀ k, k < 32 → shlT k ≠ ("at" : Str)) k hk e) (.shl k h1 hk) (a1 hi hi2) (.shl k h1 hk) ⟨_, _, ok__shifted T, T.F__shifted.kp, T.b__shifted⟩ fun H Q q => ⟨_, _, _, _, rfl, n, k, i, rfl, rfl, rfl, shl_word hn hk hi hi2, q⟩
theorem wk_if (b : Bool) (hi : 0 ≤ i) (hi2 : i < 2 ^ n) (hj : 0 ≤ j) (hj2 : j < 2 ^ n) : Wk P w K mg base T n "if" [.bl b, .int i, .int j] (if b = true then .int i else .int j) :=
  wk_of T (by decide) (.plain _ "word" IF3 (by decide +kernel)) (args_cons (kt b) (a2 hi hi2 hj hj2)) (.plain _ (by decide +kernel) _ T.x_if) ⟨_, _, ok__chosen T, T.F__chosen.kp, T.b__chosen⟩ fun H Q q => ⟨_, _, _, _, rfl, b, rfl, q⟩
theorem wk_eq (hi : 0 ≤ i) (hi2 : i < 2 ^ n) (hj : 0 ≤ j) (hj2 : j < 2 ^ n) : Wk P w K mg base T n "eq" [.int i, .int j] (.bl (decide (i = j))) :=
  wk_of T (by decide) (.plain _ "truth" W2 (by decide +kernel)) (a2 hi hi2 hj hj2) (.plain _ (by decide +kernel) _ T.x_eq) ⟨_, _, ok__is_equal T, T.F__is_equal.kp, T.b__is_equal⟩ fun H Q q => ⟨_, _, _, _, rfl, i, j, rfl, rfl, q⟩
theorem wk_lt (hi : 0 ≤ i) (hi2 : i < 2 ^ n) (hj : 0 ≤ j) (hj2 : j < 2 ^ n) : Wk P w K mg base T n "lt" [.int i, .int j] (.bl (decide (i < j))) :=
  wk_of T (by decide) (.plain _ "truth" W2 (by decide +kernel)) (a2 hi hi2 hj hj2) (.plain _ (by decide +kernel) _ T.x_lt) ⟨_, _, ok__is_below T, T.F__is_below.kp, T.b__is_below⟩ fun H Q q => ⟨_, _, _, _, rfl, i, j, rfl, rfl, q⟩
theorem less_sgn (hn : 1 ≤ n) (hi : 0 ≤ i) (hi2 : i < 2 ^ n) (hj : 0 ≤ j) (hj2 : j < 2 ^ n) : decide (Builtin.bitXor i (topM n) < Builtin.bitXor j (topM n)) = decide (sgn n i < sgn n j) := by
  obtain ⟨m, rfl⟩ : ∃ m, n = m + 1 := ⟨n - 1, by omega⟩
  have e2 : (2 : Int) ^ (m + 1) = 2 * 2 ^ m := by rw [Int.pow_succ, Int.mul_comm]
  have et : topM (m + 1) = 2 ^ m := top_eq m
  rw [et, xor_top hi hi2, xor_top hj hj2]
  unfold sgn
  rw [Nat.add_sub_cancel, decide_eq_decide]
  split <;> split <;> omega
theorem wk_less (hn : 1 ≤ n) (hi : 0 ≤ i) (hi2 : i < 2 ^ n) (hj : 0 ≤ j) (hj2 : j < 2 ^ n) : Wk P w K mg base T n "less" [.int i, .int j] (.bl (decide (sgn n i < sgn n j))) :=
  wk_of T (by decide) (.plain _ "truth" W2 (by decide +kernel)) (a2 hi hi2 hj hj2) (.plain _ (by decide +kernel) _ T.x_less) ⟨_, _, ok__is_less T, T.F__is_less.kp, T.b__is_less⟩ fun H Q q => ⟨_, _, _, _, rfl, n, i, j, rfl, rfl, rfl, by rw [less_sgn hn hi hi2 hj hj2]; exact q⟩
end
/-! ### the lowest bits -/
def low (l : Nat) : V → V
  | .int i => .int (i % 2 ^ l)
  | v => v
structure LabOk (P : Program) (w : World) (K : PySem.W.Frag) (mg : Str → Option Value) (base : Heap) (T : Txt w K mg) (z : Str) (ks : List Str) : Prop where
  shp : Shp z "word" ks
  few : 0 < ks.length ∧ ks.length ≤ 3
  cut : ∀ (v l : Nat) (xs : List V), 1 ≤ l → l ≤ v → v ≤ 300 → Args v ks xs → ∃ r : Int, 0 ≤ r ∧ r < 2 ^ v ∧ Wk P w K mg base T v z xs (.int r) ∧ Wk P w K mg base T l z (xs.map (low l)) (.int (r % 2 ^ l))
variable (T : Txt w K mg)
theorem lab2 {z : Str} (hs : Shp z "word" W2) (f : Nat → Int → Int → Int) (hw : ∀ (n : Nat) (i j : Int), 1 ≤ n → n ≤ 300 → 0 ≤ i → i < 2 ^ n → 0 ≤ j → j < 2 ^ n → Wk P w K mg base T n z [.int i, .int j] (.int (f n i j)) ∧ 0 ≤ f n i j ∧ f n i j < 2 ^ n)
    (hc : ∀ (v l : Nat) (i j : Int), l ≤ v → 0 ≤ i → 0 ≤ j → f v i j % 2 ^ l = f l (i % 2 ^ l) (j % 2 ^ l)) : LabOk P w K mg base T z W2 := by
  refine ⟨hs, ⟨by decide, by decide⟩, fun v l xs h1 h2 h3 ha => ?_⟩
  obtain ⟨x, r1, rfl, k1, ha⟩ := args_uncons ha
  obtain ⟨y, r2, rfl, k2, ha⟩ := args_uncons ha
  obtain rfl := args_done ha
  obtain ⟨i, rfl, i0, i1⟩ := un_word k1
  obtain ⟨j, rfl, j0, j1⟩ := un_word k2
  obtain ⟨w1, w2, w3⟩ := hw v i j (by omega) h3 i0 i1 j0 j1
  obtain ⟨u1, _, _⟩ := hw l (i % 2 ^ l) (j % 2 ^ l) h1 (by omega) (mod_low _ _) (mod_high _ _) (mod_low _ _) (mod_high _ _)
  refine ⟨f v i j, w2, w3, w1, ?_⟩
  rw [hc v l i j h2 i0 j0]
  exact u1
theorem lab1 {z : Str} (hs : Shp z "word" W1) (f : Nat → Int → Int) (hw : ∀ (n : Nat) (i : Int), 1 ≤ n → n ≤ 300 → 0 ≤ i → i < 2 ^ n → Wk P w K mg base T n z [.int i] (.int (f n i)) ∧ 0 ≤ f n i ∧ f n i < 2 ^ n)
    (hc : ∀ (v l : Nat) (i : Int), l ≤ v → 0 ≤ i → f v i % 2 ^ l = f l (i % 2 ^ l)) : LabOk P w K mg base T z W1 := by
  refine ⟨hs, ⟨by decide, by decide⟩, fun v l xs h1 h2 h3 ha => ?_⟩
  obtain ⟨x, r1, rfl, k1, ha⟩ := args_uncons ha
  obtain rfl := args_done ha
  obtain ⟨i, rfl, i0, i1⟩ := un_word k1
  obtain ⟨w1, w2, w3⟩ := hw v i (by omega) h3 i0 i1
  obtain ⟨u1, _, _⟩ := hw l (i % 2 ^ l) h1 (by omega) (mod_low _ _) (mod_high _ _)
  refine ⟨f v i, w2, w3, w1, ?_⟩
  rw [hc v l i h2 i0]
  exact u1
theorem labIf : LabOk P w K mg base T "if" IF3 := by
  refine ⟨.plain _ _ _ (by decide +kernel), ⟨by decide, by decide⟩, fun v l xs h1 h2 h3 ha => ?_⟩
  obtain ⟨t, r0, rfl, k0, ha⟩ := args_uncons ha
  obtain ⟨x, r1, rfl, k1, ha⟩ := args_uncons ha
  obtain ⟨y, r2, rfl, k2, ha⟩ := args_uncons ha
  obtain rfl := args_done ha
  obtain ⟨b, rfl⟩ := un_truth k0
  obtain ⟨i, rfl, i0, i1⟩ := un_word k1
  obtain ⟨j, rfl, j0, j1⟩ := un_word k2
  have w1 := wk_if (P := P) (base := base) T b i0 i1 j0 j1
  have u1 := wk_if (P := P) (base := base) T (n := l) b (mod_low i l) (mod_high i l) (mod_low j l) (mod_high j l)
  cases b with
  | true => exact ⟨i, i0, i1, w1, u1⟩
  | false => exact ⟨j, j0, j1, w1, u1⟩
def nineL : List Str := ["add", "sub", "mul", "and", "or", "xor", "neg", "flip", "if"]
inductive LabZ : Str → Prop
  | plain (z : Str) (h : z ∈ nineL) : LabZ z
  | shl (k : Nat) (h1 : 1 ≤ k) (h2 : k < 32) : LabZ (shlT k)
theorem lab_ok {z : Str} (h : LabZ z) : ∃ ks, LabOk P w K mg base T z ks ∧ ((z = "if" ∧ ks = IF3) ∨ (z ≠ "if" ∧ ∀ k ∈ ks, k = "word")) := by
  have w2 : ∀ k ∈ W2, k = "word" := by decide +kernel
  have w1 : ∀ k ∈ W1, k = "word" := by decide +kernel
  cases h with
  | shl k h1 h2 =>
    refine ⟨W1, lab1 T (.shl k h1 h2) (fun n i => (i * 2 ^ k) % 2 ^ n) (fun n i a b c d => ⟨wk_shl T b h1 h2 c d, mod_low _ _, mod_high _ _⟩) (fun v l i a b => cut_shl a i k), .inr ⟨fun e => (by decide +kernel : ∀ k, k < 32 → shlT k ≠ ("if" : Str)) k h2 e, w1⟩⟩
  | plain _ h =>
    simp only [nineL, List.mem_cons, List.not_mem_nil, or_false] at h
    rcases h with rfl | rfl | rfl | rfl | rfl | rfl | rfl | rfl | rfl
    · exact ⟨W2, lab2 T (.plain _ _ _ (by decide +kernel)) (fun n i j => (i + j) % 2 ^ n) (fun n i j a b c d e f => ⟨wk_add T c d e f, mod_low _ _, mod_high _ _⟩) (fun v l i j a b c => cut_add a i j), .inr ⟨by decide, w2⟩⟩
    · exact ⟨W2, lab2 T (.plain _ _ _ (by decide +kernel)) (fun n i j => (i - j) % 2 ^ n) (fun n i j a b c d e f => ⟨wk_sub T c d e f, mod_low _ _, mod_high _ _⟩) (fun v l i j a b c => cut_sub a i j), .inr ⟨by decide, w2⟩⟩
    · exact ⟨W2, lab2 T (.plain _ _ _ (by decide +kernel)) (fun n i j => (i * j) % 2 ^ n) (fun n i j a b c d e f => ⟨wk_mul T b c d e f, mod_low _ _, mod_high _ _⟩) (fun v l i j a b c => cut_mul a i j), .inr ⟨by decide, w2⟩⟩
    · exact ⟨W2, lab2 T (.plain _ _ _ (by decide +kernel)) (fun n i j => Builtin.bitAnd i j) (fun n i j a b c d e f => ⟨wk_and T c d e f, (and_in c e d f).1, (and_in c e d f).2⟩) (fun v l i j a b c => cut_and b c), .inr ⟨by decide, w2⟩⟩
    · exact ⟨W2, lab2 T (.plain _ _ _ (by decide +kernel)) (fun n i j => Builtin.bitOr i j) (fun n i j a b c d e f => ⟨wk_or T c d e f, (or_in c e d f).1, (or_in c e d f).2⟩) (fun v l i j a b c => cut_or b c), .inr ⟨by decide, w2⟩⟩
    · exact ⟨W2, lab2 T (.plain _ _ _ (by decide +kernel)) (fun n i j => Builtin.bitXor i j) (fun n i j a b c d e f => ⟨wk_xor T c d e f, (xor_in c e d f).1, (xor_in c e d f).2⟩) (fun v l i j a b c => cut_xor b c), .inr ⟨by decide, w2⟩⟩
    · exact ⟨W1, lab1 T (.plain _ _ _ (by decide +kernel)) (fun n i => (-i) % 2 ^ n) (fun n i a b c d => ⟨wk_neg T c d, mod_low _ _, mod_high _ _⟩) (fun v l i a b => cut_neg a i), .inr ⟨by decide, w1⟩⟩
    · exact ⟨W1, lab1 T (.plain _ _ _ (by decide +kernel)) (fun n i => Builtin.bitXor i (2 ^ n - 1)) (fun n i a b c d => ⟨wk_flip T c d, (flip_in c d).1, (flip_in c d).2⟩) (fun v l i a b => cut_flip a b), .inr ⟨by decide, w1⟩⟩
    · exact ⟨IF3, labIf T, .inl ⟨rfl, rfl⟩⟩
end
end K02
end
section
set_option maxHeartbeats 4000000
namespace K02
open PySem PySem.Spec PyProof.Rows L2 G1
local macro_rules | `(tactic| walk_at "rd") => `(tactic| simp only [tPar, tFmt, tJs, tM0, tM1, tSeq, tIfS, gName, gTup, gSub, gNil, gCons, List.cons.injEq, List.replicate_succ, tNot, tB, tRet, tC, tNext, tVar, tOp, tUn, tAnd, tOr, tAndV, tOrV, tNotV, tIf, tTest, tChain, tAsg, tCall, tCons, tNil, tCB, tDrop, tNever, tTup, tLst, tSl, tPart, tNoPart, tB, cx_K, cx_K', cx_w, cx_w', cx_mg', cx_P', cx_b', cx_mg, cx_P, cx_b, gUnl, Nat.reduceAdd, Nat.reduceSub, Nat.sub_self, Nat.zero_add, List.replicate_zero,
  rI, rI0, rU, rEq, rNe, L2.start, List.append_nil, List.cons_append, List.nil_append, List.map_cons, List.map_nil, List.length_cons, List.length_nil, List.getElem?_cons_zero, List.getElem?_cons_succ,
  List.replicate, List.set_cons_zero, List.set_cons_succ, exists_eq_left, exists_eq_left', exists_eq_right, exists_and_left, Option.some.injEq, V.bl.injEq, V.int.injEq, V.str.injEq, V.ref.injEq, true_and, and_true, if_true, if_false, Bool.false_eq_true, Bool.not_true, Bool.not_false, reduceIte, reduceCtorEq, ite_true, ite_false, decide_true, decide_false])
section
variable {P : Program} {w : World} {K : PySem.W.Frag} {mg : Str → Option Value} {base : Heap}
/-- a comprehension whose elements dip into the tray at a -/
theorem lc_tray {J : It} {n : Nat} {G : Hp → Prop} {Y : Nat → Hp → V → Hp → Prop} (wk : Walk J n G Y) {a c : Addr} {m kk j : Nat} {te : TE} {σ : L2.St} {H1 : Hp} {D : Addr} {Qd : Hp → Prop} (xf : Nat → V) (Pa : List V → Prop)
    (hy : ∀ i H x H', i < n → G H → Y i H x H' → H' = H ∧ x = xf i) (hz : n ≤ 1000) (tr : Tr K H1 a c (m + kk * n)) (nD : H1 D = none) (hG : ∀ H', SameB a H1 H' → G H') (p0 : Pa [])
    (he : ∀ i acc H (R : VK), i < n → acc.length = i → Pa acc → SameB a H1 H → Tr K H a c (m + kk * (n - i)) → (∀ v H4, Pa (acc ++ [v]) → SameB a H H4 → Tr K H4 a c (m + kk * (n - (i + 1))) → R v H4) → te ((wipe σ [j]).set j (some (xf i))) H R)
    (hd : ∀ acc H', acc.length = n → Pa acc → SameB a H1 H' → Tr K H' a c m → H' D = some (.lst acc) → Qd H') :
    ∃ W : Nat → Nat → Hp → Prop, (∃ m, W 0 m (upd H1 D (.lst []))) ∧ ∀ i m H, W i m H →
      (J.stop i H ∧ Qd H) ∨ (J.go i H ∧ ∃ Nx : Hp → Prop, (∀ H', Nx H' → ∃ m', m' < m ∧ W (i + 1) m' H') ∧ ∀ x H', J.yld i H x H' → gName j x (wipe σ [j]) H' fun σ2 H2 => wipe σ2 [j] = wipe σ [j] ∧ tYes σ2 H2 fun b H3 =>
        if b = true then te σ2 H3 fun y H4 => ∃ acc, H4 D = some (.lst acc) ∧ acc.length < sizeLine ∧ Nx (upd H4 D (.lst (acc ++ [y]))) else Nx H3) := by
  have nDa : D ≠ a := tr_ne tr nD
  have new : ∀ {H : Hp} {o : HO}, SameB a H1 H → SameB a H1 (upd H D o) := fun s b x n e => by
    rw [upd_ne (ne_of_none e nD)]
    exact s b x n e
  have trU : ∀ {H : Hp} {o : HO} {k : Nat}, H1 D = none → SameB a H1 H → Tr K H a c k → (∃ acc, H D = some (.lst acc)) → Tr K (upd H D o) a c k := fun {H o k} nd s t hD => by
    obtain ⟨ns, t, r, S, hb⟩ := t
    obtain ⟨ns1, t1, r1, S1, hb1⟩ := tr
    exact ⟨ns1, t, r, ⟨by rw [upd_ne nDa.symm]; exact S.at_, (new s).seq S1.ne S1.cells, S1.ne, S1.few, S.low⟩, hb⟩
  refine lc_it wk (fun i H => ∃ acc, acc.length = i ∧ Pa acc ∧ SameB a H1 H ∧ Tr K H a c (m + kk * (n - i)) ∧ H D = some (.lst acc)) ⟨[], rfl, p0, new (SameB.refl _ _), ?_, upd_same⟩ (fun i H _ p => hG H (let ⟨_, _, _, s, _⟩ := p; s)) (fun i x H H' hi p y => ?_) fun H p => ?_
  · exact tr.same (same_upd nD)
  · obtain ⟨acc, hl, pa, s, t, e⟩ := p
    obtain ⟨rfl, rfl⟩ := hy i H x H' hi (hG H s) y
    refine ⟨?_, thenT (he i acc H' _ hi hl pa s t fun v H4 pv s4 t4 => ?_)⟩
    · show ((σ.set j none).set j (some (xf i))).set j none = σ.set j none
      rw [List.set_set, List.set_set]
    · have e4 : H4 D = some (.lst acc) := s4 _ _ nDa e
      refine ⟨acc, e4, by rw [hl]; exact Nat.lt_of_lt_of_le hi (Nat.le_of_lt (small1000 hz)), acc ++ [v], by rw [List.length_append, hl]; rfl, pv, new (s.trans s4), ?_, upd_same⟩
      exact trU nD (s.trans s4) t4 ⟨_, e4⟩
  · obtain ⟨acc, hl, pa, s, t, e⟩ := p
    rw [Nat.sub_self, Nat.mul_zero] at t
    exact hd acc H hl pa s t e
theorem at_ints {ls : List Int} {i : Nat} {x : V} (h : (ls.map V.int)[i]? = some x) : x = .int (ls.getD i 0) := by
  rw [List.getElem?_map] at h
  cases e : ls[i]? with
  | none =>
    rw [e] at h
    cases h
  | some y =>
    rw [e] at h
    cases h
    rw [List.getD_eq_getElem?_getD, e]
    rfl
theorem range_getD {α β : Type} (d : α) (g : α → β) (ls : List α) : (List.range ls.length).map (fun i => g (ls.getD i d)) = ls.map g := by
  apply List.ext_getElem?
  intro i
  rw [List.getElem?_map, List.getElem?_map]
  by_cases h : i < ls.length
  · rw [List.getElem?_range h, List.getElem?_eq_getElem h]
    show some (g (ls.getD i d)) = some (g ls[i])
    rw [List.getD_eq_getElem?_getD, List.getElem?_eq_getElem h]
    rfl
  · rw [show (List.range ls.length)[i]? = none from List.getElem?_eq_none (by rw [List.length_range]; omega), List.getElem?_eq_none (show ls.length ≤ i by omega)]
    rfl
theorem seqT_B {K : PySem.W.Frag} {H H' : Hp} {a c : Addr} {n : Nat} {q : Addr} {xs : List V} (t : Tr K H a c n) (h : SqT K H q xs) (s : SameB a H H') : SqT K H' q xs := by
  obtain ⟨ns, t, r, S, hb⟩ := t
  have ne : ∀ {o : HO}, H q = some o → o ≠ .lst [.ref c, .int (t : Int), .int r] → q ≠ a := fun e n z => by
    rw [z, S.at_] at e
    exact n (Option.some.inj e).symm
  rcases h with (h | ⟨o, h⟩) | h
  · exact .inl (.inl (s _ _ (ne h (by intro z; cases z)) h))
  · exact .inl (.inr ⟨o, s _ _ (ne h (by intro z; cases z)) h⟩)
  · exact .inr h
theorem nw {a : Addr} {H H' : Hp} {D : Addr} (s : SameB a H H') (n : H' D = none) (na : D ≠ a) : H D = none := by
  cases hq : H D with
  | none => rfl
  | some o =>
    have := s _ _ na hq
    rw [n] at this
    cases this
/-- a list that stood or is new is changed: what stood elsewhere stands -/
theorem upB {a : Addr} {H H' : Hp} {D : Addr} {o : HO} (s : SameB a H H') (n : H D = none) : SameB a H (upd H' D o) := fun b x h e => by
  rw [upd_ne (ne_of_none e n)]
  exact s b x h e
theorem at_getD {xs : List V} {i : Nat} {x : V} (h : xs[i]? = some x) : x = xs.getD i .non := by
  rw [List.getD_eq_getElem?_getD, h]
  rfl
theorem at_nats {sp : List Nat} {i : Nat} {x : V} (h : (sp.map fun j : Nat => V.int (j : Int))[i]? = some x) : x = .int ((sp.getD i 0 : Nat) : Int) := by
  rw [List.getElem?_map] at h
  cases e : sp[i]? with
  | none =>
    rw [e] at h
    cases h
  | some y =>
    rw [e] at h
    cases h
    rw [List.getD_eq_getElem?_getD, e]
    rfl
theorem at_spot {ls : List Int} {sp : List Nat} (g : Int → V) (h : ∀ j ∈ sp, j < ls.length) {i : Nat} (hi : i < sp.length) : atI (ls.map g) ((sp.getD i 0 : Nat) : Int) = some (g (ls.getD (sp.getD i 0) 0)) := by
  have e : sp.getD i 0 = sp[i] := by
    rw [List.getD_eq_getElem?_getD, List.getElem?_eq_getElem hi]
    rfl
  have hj := h _ (List.getElem_mem hi)
  rw [e]
  refine atI_nat ?_
  rw [List.getElem?_map, List.getElem?_eq_getElem hj, List.getD_eq_getElem?_getD, List.getElem?_eq_getElem hj]
  rfl
theorem getD_in {ls : List Int} {p : Int} (h : ∀ x ∈ ls, 0 ≤ x ∧ x < p) {j : Nat} (hj : j < ls.length) : 0 ≤ ls.getD j 0 ∧ ls.getD j 0 < p := by
  rw [List.getD_eq_getElem?_getD, List.getElem?_eq_getElem hj]
  exact h _ (List.getElem_mem hj)
/-- behind the label's telling -/
def Mid1 (K : PySem.W.Frag) (H : Hp) (a c pl ps : Addr) (W L N : Nat) (ls : List Int) (σ : L2.St) (H' : Hp) : Prop :=
  ∃ (z : Str) (y6 y8 y9 y10 y11 y12 y13 y14 y15 y16 : Option V), LabZ z ∧ σ = [some (.ref a), some (.int (W : Int)), some (.int (L : Int)), some (.int (2 ^ W)), some (.ref pl), some (.ref ps), y6, some (.str z), y8, y9, y10, y11, y12, y13, y14, y15, y16] ∧
    SameB a H H' ∧ Tr K H' a c (N + 7) ∧ H' pl = some (.lst (ls.map V.int)) ∧ H' ps = some (.lst (ls.map fun x => V.int (x % 2 ^ L)))
/-- between two turns -/
def LoopI (K : PySem.W.Frag) (H : Hp) (a c pl ps : Addr) (W L n cnt i : Nat) (σ : L2.St) (H' : Hp) : Prop :=
  ∃ (ls : List Int) (y6 y7 y8 y9 y10 y11 y12 y13 y14 y15 y16 : Option V), σ = [some (.ref a), some (.int (W : Int)), some (.int (L : Int)), some (.int (2 ^ W)), some (.ref pl), some (.ref ps), y6, y7, y8, y9, y10, y11, y12, y13, y14, y15, y16] ∧
    ls.length = 3 + i ∧ (∀ x ∈ ls, 0 ≤ x ∧ x < 2 ^ W) ∧ SameB a H H' ∧ Tr K H' a c (n + 2 + 10 * (cnt - i)) ∧ H' pl = some (.lst (ls.map V.int)) ∧ H' ps = some (.lst (ls.map fun x => V.int (x % 2 ^ L)))
theorem Tr.upN {H H' : Hp} {a c D : Addr} {k0 k : Nat} {o : HO} (t0 : Tr K H a c k0) (t : Tr K H' a c k) (s : SameB a H (upd H' D o)) (na : D ≠ a) : Tr K (upd H' D o) a c k := by
  obtain ⟨ns, t, r, S, hb⟩ := t
  obtain ⟨ns1, t1, r1, S1, hb1⟩ := t0
  exact ⟨ns1, t, r, ⟨by rw [upd_ne na.symm]; exact S.at_, s.seq S1.ne S1.cells, S1.ne, S1.few, S.low⟩, hb⟩
/-- behind the parts' making -/
def Mid2 (K : PySem.W.Frag) (H : Hp) (a c pl ps : Addr) (W L N : Nat) (ls : List Int) (z : Str) (ks : List Str) (σ : L2.St) (H' : Hp) : Prop :=
  ∃ (pa pb : Addr) (xs : List V) (y6 y8 y9 y12 y13 y14 y15 y16 : Option V), σ = [some (.ref a), some (.int (W : Int)), some (.int (L : Int)), some (.int (2 ^ W)), some (.ref pl), some (.ref ps), y6, some (.str z), y8, y9, some (.ref pa), some (.ref pb), y12, y13, y14, y15, y16] ∧
    SameB a H H' ∧ Tr K H' a c N ∧ H' pl = some (.lst (ls.map V.int)) ∧ H' ps = some (.lst (ls.map fun x => V.int (x % 2 ^ L))) ∧ H' pa = some (.lst xs) ∧ H' pb = some (.lst (xs.map (low L))) ∧ pb ≠ pl ∧ Args W ks xs
def sp__law_cut_right (K : PySem.W.Frag) : Sp := S1 fun x H Q => ∃ (a c : Addr) (n : Nat), x = .ref a ∧ Tr K H a c (n + 500) ∧ ∀ H1, SameB a H H1 → Tr K H1 a c n → Q (.bl true) H1
theorem ok__law_cut_right (T : Txt w K mg) : FnG P w K mg base CX0 6 T.f__law_cut_right T.fd__law_cut_right ["_law_tray_here"] (sp__law_cut_right K) := by
  have K__law_take := ok__law_take (P := P) (base := base) T
  have K__law_dip := ok__law_dip (P := P) (base := base) T
  have K__law_word := ok__law_word (P := P) (base := base) T
  have K_word := ok_word (P := P) (base := base) T
  have K_worked := ok_worked (P := P) (base := base) T
  have K_shape_of := ok_shape_of (P := P) (base := base) T
  refine okG T.F__law_cut_right sc__law_cut_right S1_len (fun cdv A outer s H vs Q E hg hr h => ?_)
  obtain ⟨v0, rfl, h⟩ := h
  refine ⟨_, (pss_cons (ps_set (i := 1) sc__law_cut_right.nd rfl (.inl rfl) (pe_callG K__law_take hg (hr.mono (by decide)) (by rfl) T.g__law_take T.F__law_take.kp T.b__law_take .nil pass0 (pa_cons (pv 0) (pa_cons (pe_lst (pa_cons pe_int (pa_cons pe_int (pa_cons pe_int (pa_cons pe_int (pa_cons pe_int (pa_cons pe_int (pa_cons (pe_op op_add pe_int (pe_callG K__law_dip hg (hr.mono (by decide)) (by rfl) T.g__law_dip T.F__law_dip.kp T.b__law_dip .nil pass0 (pa_cons (pv 0) (pa_cons pe_int pa_nil)))) (pa_cons pe_int pa_nil))))))))) pa_nil))))
      (pss_cons (ps_set (i := 2) sc__law_cut_right.nd rfl (.inr rfl) (pe_op op_add pe_int (pe_callG K__law_dip hg (hr.mono (by decide)) (by rfl) T.g__law_dip T.F__law_dip.kp T.b__law_dip .nil pass0 (pa_cons (pv 0) (pa_cons (pe_op op_sub (pv 1) pe_int) pa_nil)))))
      (pss_cons (ps_set (i := 3) sc__law_cut_right.nd rfl (.inr rfl) (pe_op op_shlW pe_int (pv 1)))
      (pss_cons (ps_set (i := 4) sc__law_cut_right.nd rfl (.inr rfl) (pe_lc (own := [("_law_turn", 6)]) (g := gName 6) rfl sc__law_cut_right.nd (pi_range1 (by rfl) T.m_range (pa_cons pe_int pa_nil)) (blkOk_by (own := [("_law_turn", 6)]) (N := ["_law_tray_here", "_law_width", "_law_less", "_law_limit", "_law_long", "_law_short", "_law_turn", "_law_label", "_law_truth", "_law_spots", "_law_above", "_law_below", "_law_one", "_law_other", "_law_value", "_law_kind", "_law_spot"]) (sc := defScope s__law_cut_right) (by decide +kernel)) (fun _ _ _ _ _ => pg_name (i := 6) sc__law_cut_right.nd rfl (Or.inl rfl)) (fun _ _ _ _ _ => pts_nil) (fun _ _ _ _ _ => (pe_callG K__law_word hg (hr.mono (by decide)) (by rfl) T.g__law_word T.F__law_word.kp T.b__law_word .nil pass0 (pa_cons (pv 0) (pa_cons (pv 3) pa_nil))))))
      (pss_cons (ps_set (i := 5) sc__law_cut_right.nd rfl (.inr rfl) (pe_lc (own := [("_law_value", 14)]) (g := gName 14) rfl sc__law_cut_right.nd (pi_list (pv 4)) (blkOk_by (own := [("_law_value", 14)]) (N := ["_law_tray_here", "_law_width", "_law_less", "_law_limit", "_law_long", "_law_short", "_law_turn", "_law_label", "_law_truth", "_law_spots", "_law_above", "_law_below", "_law_one", "_law_other", "_law_value", "_law_kind", "_law_spot"]) (sc := defScope s__law_cut_right) (by decide +kernel)) (fun _ _ _ _ _ => pg_name (i := 14) sc__law_cut_right.nd rfl (Or.inl rfl)) (fun _ _ _ _ _ => pts_nil) (fun _ _ _ _ _ => (pe_callG K_word hg (hr.mono (by decide)) (by rfl) T.g_word T.F_word.kp T.b_word .nil pass0 (pa_cons (pv 14) (pa_cons (pv 2) pa_nil))))))
      (pss_cons (ps_for PassesOwn.never rfl (pi_range1 (by rfl) T.m_range (pa_cons (pe_callG K__law_take hg (hr.mono (by decide)) (by rfl) T.g__law_take T.F__law_take.kp T.b__law_take .nil pass0 (pa_cons (pv 0) (pa_cons (pe_lst (pa_cons pe_int (pa_cons pe_int (pa_cons pe_int pa_nil)))) pa_nil))) pa_nil)) (pg_name (i := 6) sc__law_cut_right.nd rfl (.inl rfl))
        (pss_cons (ps_set (i := 7) sc__law_cut_right.nd rfl (.inl rfl) (pe_callG K__law_take hg (hr.mono (by decide)) (by rfl) T.g__law_take T.F__law_take.kp T.b__law_take .nil pass0 (pa_cons (pv 0) (pa_cons (pe_lst (pa_cons pe_str (pa_cons pe_str (pa_cons pe_str (pa_cons pe_str (pa_cons pe_str (pa_cons pe_str (pa_cons pe_str (pa_cons pe_str (pa_cons pe_str (pa_cons pe_str pa_nil))))))))))) pa_nil))))
        (C8.pss_cut (ps_if (pt_cmpR op_eq (pv 7) pe_str (nomark _))
          (pss_one (ps_set (i := 7) sc__law_cut_right.nd rfl (.inl rfl) (pe_joined (PJ.cons pe_str (PJ.cons (pe_fmt (pe_callG K__law_take hg (hr.mono (by decide)) (by rfl) T.g__law_take T.F__law_take.kp T.b__law_take .nil pass0 (pa_cons (pv 0) (pa_cons (pe_lst (pa_cons pe_int (pa_cons pe_int (pa_cons pe_int (pa_cons (pe_op op_add pe_int (pe_callG K__law_dip hg (hr.mono (by decide)) (by rfl) T.g__law_dip T.F__law_dip.kp T.b__law_dip .nil pass0 (pa_cons (pv 0) (pa_cons pe_int pa_nil)))) pa_nil))))) pa_nil)))) PJ.nil)))))
          pss_nil)
        (pss_cons (ps_set (i := 8) sc__law_cut_right.nd rfl (.inl rfl) (pe_callG K__law_take hg (hr.mono (by decide)) (by rfl) T.g__law_take T.F__law_take.kp T.b__law_take .nil pass0 (pa_cons (pv 0) (pa_cons (pe_lst (pa_cons pe_bl (pa_cons pe_bl pa_nil))) pa_nil))))
        (pss_cons (ps_setLc (i := 9)  (own := [("_law_kind", 15)]) (g := gName 15) (by rfl) sc__law_cut_right.nd rfl rfl (sw_true rfl rfl rfl (by decide +kernel)) (pi_tup (pe_ix ix_tup (pe_callG K_shape_of hg (hr.mono (by decide)) (by rfl) T.g_shape_of T.F_shape_of.kp T.b_shape_of .nil pass0 (pa_cons (pv 7) pa_nil)) pe_int (fun _ _ => rfl))) (blkOk_by (own := [("_law_kind", 15)]) (N := ["_law_tray_here", "_law_width", "_law_less", "_law_limit", "_law_long", "_law_short", "_law_turn", "_law_label", "_law_truth", "_law_spots", "_law_above", "_law_below", "_law_one", "_law_other", "_law_value", "_law_kind", "_law_spot"]) (sc := defScope s__law_cut_right) (by decide +kernel)) (fun _ _ _ _ _ => pg_name (i := 15) sc__law_cut_right.nd rfl (Or.inl rfl)) (fun _ _ _ _ _ => pts_nil) (fun _ _ _ _ _ => (pe_callG K__law_dip hg (hr.mono (by decide)) (by rfl) T.g__law_dip T.F__law_dip.kp T.b__law_dip .nil pass0 (pa_cons (pv 0) (pa_cons (pe_callB (callK (r := rLenL) (K := K) call_lenL rfl) (by rfl) T.m_len (by decide +kernel) (pa_cons (pv 4) pa_nil)) pa_nil)))))
        (pss_cons (ps_setLc (i := 10)  (own := [("_law_spot", 16)]) (g := gName 16) (by rfl) sc__law_cut_right.nd rfl rfl (sw_true rfl rfl rfl (by decide +kernel)) (pi_list (pv 9)) (blkOk_by (own := [("_law_spot", 16)]) (N := ["_law_tray_here", "_law_width", "_law_less", "_law_limit", "_law_long", "_law_short", "_law_turn", "_law_label", "_law_truth", "_law_spots", "_law_above", "_law_below", "_law_one", "_law_other", "_law_value", "_law_kind", "_law_spot"]) (sc := defScope s__law_cut_right) (by decide +kernel)) (fun _ _ _ _ _ => pg_name (i := 16) sc__law_cut_right.nd rfl (Or.inl rfl)) (fun _ _ _ _ _ => pts_nil) (fun _ _ _ _ _ => (pe_ix (ixK (r := rIxL) (K := K) ix_list rfl) (pv 4) (pv 16) (fun _ _ => rfl))))
        (pss_cons (ps_setLc (i := 11)  (own := [("_law_spot", 16)]) (g := gName 16) (by rfl) sc__law_cut_right.nd rfl rfl (sw_true rfl rfl rfl (by decide +kernel)) (pi_list (pv 9)) (blkOk_by (own := [("_law_spot", 16)]) (N := ["_law_tray_here", "_law_width", "_law_less", "_law_limit", "_law_long", "_law_short", "_law_turn", "_law_label", "_law_truth", "_law_spots", "_law_above", "_law_below", "_law_one", "_law_other", "_law_value", "_law_kind", "_law_spot"]) (sc := defScope s__law_cut_right) (by decide +kernel)) (fun _ _ _ _ _ => pg_name (i := 16) sc__law_cut_right.nd rfl (Or.inl rfl)) (fun _ _ _ _ _ => pts_nil) (fun _ _ _ _ _ => (pe_ix (ixK (r := rIxL) (K := K) ix_list rfl) (pv 5) (pv 16) (fun _ _ => rfl))))
        (C8.pss_cut (ps_if (pt_cmpR op_eq (pv 7) pe_str (nomark _))
          (pss_cons (ps_asg (pv 8) (pg_sub (pv 10) pe_int set_list))
          (pss_one (ps_asg (pv 8) (pg_sub (pv 11) pe_int set_list))))
          pss_nil)
        (pss_cons (ps_expr (pe_bm PySem.F.plainAttrs_list PySem.F.slot_list_append PySem.F.type_list_append mt_append (pv 4) (pa_cons (pe_callG K_worked hg (hr.mono (by decide)) (by rfl) T.g_worked T.F_worked.kp T.b_worked .nil pass0 (pa_cons (pv 7) (pa_cons (pv 1) (pa_cons (pv 10) pa_nil)))) pa_nil)))
        (pss_cons (ps_expr (pe_bm PySem.F.plainAttrs_list PySem.F.slot_list_append PySem.F.type_list_append mt_append (pv 5) (pa_cons (pe_callG K_worked hg (hr.mono (by decide)) (by rfl) T.g_worked T.F_worked.kp T.b_worked .nil pass0 (pa_cons (pv 7) (pa_cons (pv 2) (pa_cons (pv 11) pa_nil)))) pa_nil)))
        (pss_one (ps_if (PW.pt (pw_or (pt_not (pt_chain op_le op_lt pe_int (pe_ix ix_list (pv 4) (pe_un un_neg pe_int) (fun _ _ => rfl)) (pv 3))) (pw_or (pt_cmpR op_ne (pe_callG K_word hg (hr.mono (by decide)) (by rfl) T.g_word T.F_word.kp T.b_word .nil pass0 (pa_cons (pe_ix ix_list (pv 4) (pe_un un_neg pe_int) (fun _ _ => rfl)) (pa_cons (pv 2) pa_nil))) (pe_ix ix_list (pv 5) (pe_un un_neg pe_int) (fun _ _ => rfl)) (nomark _)) (pw_or1 (pt_val (pe_callB call_isi (by rfl) T.m_isinstance (by decide +kernel) (pa_cons (pe_ix ix_list (pv 5) (pe_un un_neg pe_int) (fun _ _ => rfl)) (pa_cons (pe_bltn (v := .ty "bool") (by rfl) T.m_bool (by decide +kernel) rfl) pa_nil))))))))
          (pss_one (ps_ret pe_bl))
          pss_nil))))))))))))
      (pss_cons (ps_par (i := 12) (j := 13) (by rfl) sc__law_cut_right.nd rfl rfl (by decide) rfl rfl (pa_cons (pe_callG K__law_take hg (hr.mono (by decide)) (by rfl) T.g__law_take T.F__law_take.kp T.b__law_take .nil pass0 (pa_cons (pv 0) (pa_cons (pv 4) pa_nil))) (pa_cons (pe_callG K__law_take hg (hr.mono (by decide)) (by rfl) T.g__law_take T.F__law_take.kp T.b__law_take .nil pass0 (pa_cons (pv 0) (pa_cons (pv 4) pa_nil))) pa_nil)) (by rfl))
      (pss_one (ps_ret (pe_or (pe_not (pe_callG K_worked hg (hr.mono (by decide)) (by rfl) T.g_worked T.F_worked.kp T.b_worked .nil pass0 (pa_cons pe_str (pa_cons (pv 1) (pa_cons (pe_lst (pa_cons (pv 12) (pa_cons (pv 13) pa_nil))) pa_nil))))) (pe_one (pe_cmpR op_isBl (pe_callG K_worked hg (hr.mono (by decide)) (by rfl) T.g_worked T.F_worked.kp T.b_worked .nil pass0 (pa_cons pe_str (pa_cons (pv 2) (pa_cons (pe_lst (pa_cons (pe_callG K_word hg (hr.mono (by decide)) (by rfl) T.g_word T.F_word.kp T.b_word .nil pass0 (pa_cons (pv 12) (pa_cons (pv 2) pa_nil))) (pa_cons (pe_callG K_word hg (hr.mono (by decide)) (by rfl) T.g_word T.F_word.kp T.b_word .nil pass0 (pa_cons (pv 13) (pa_cons (pv 2) pa_nil))) pa_nil))) pa_nil)))) pe_bl (nomark _))))))))))))), ?_⟩
  obtain ⟨a, c, n, rfl, tr, q⟩ := h
  walk_at "rd"
  refine ⟨_, _, rfl, a, c, 299, n + 499, rfl, rfl, by decide, by decide, tr, fun d H1 d0 d1 s1 t1 => ?_⟩
  refine ⟨_, rfl, by decide, fun p np => ?_⟩
  have sp1 := same_upd (o := .lst [V.int 2, V.int 3, V.int 5, V.int 8, V.int 33, V.int 64, V.int (2 + d), V.int 300]) np
  refine ⟨_, _, rfl, a, c, p, _, n + 498, rfl, rfl, .inl (.inl upd_same), tr_ne t1 np, (by show 0 < 8; decide), (by show 8 ≤ 1000; decide), t1.same sp1, fun v H2 hv s2 t2 => ?_⟩
  obtain ⟨W, rfl, w2, w300⟩ : ∃ W : Nat, v = .int (W : Int) ∧ 2 ≤ W ∧ W ≤ 300 := by
    simp only [List.mem_cons, List.not_mem_nil, or_false] at hv
    rcases hv with rfl | rfl | rfl | rfl | rfl | rfl | rfl | rfl
    · exact ⟨2, rfl, by decide, by decide⟩
    · exact ⟨3, rfl, by decide, by decide⟩
    · exact ⟨5, rfl, by decide, by decide⟩
    · exact ⟨8, rfl, by decide, by decide⟩
    · exact ⟨33, rfl, by decide, by decide⟩
    · exact ⟨64, rfl, by decide, by decide⟩
    · exact ⟨(2 + d).toNat, by rw [Int.toNat_of_nonneg (by omega)], by omega, by omega⟩
    · exact ⟨300, rfl, by decide, by decide⟩
  refine ⟨_, rfl, ?_⟩
  refine ⟨_, _, rfl, a, c, (W : Int) - 1, n + 497, rfl, rfl, by omega, Nat.lt_of_le_of_lt (show ((W : Int) - 1).natAbs ≤ 300 by omega) (by decide), t2, fun e H3 e0 e1 s3 t3 => ?_⟩
  obtain ⟨L, hL⟩ : ∃ L : Nat, 1 + e = (L : Int) := ⟨(1 + e).toNat, (Int.toNat_of_nonneg (by omega)).symm⟩
  refine ⟨_, rfl, _, rfl, shl_ok one_lt (by omega), ?_⟩
  rw [hL, Int.toNat_natCast, Int.one_mul]
  have sA := (s1.trans (SameB.of sp1)).trans (s2.trans s3)
  refine ⟨3, rfl, by decide, by decide, fun pl npl => ?_⟩
  refine lc_tray (a := a) (c := c) (m := n + 428) (kk := 23) walk_range (fun i => .int (0 + (i : Int))) (fun acc => ∃ ls : List Int, acc = ls.map V.int ∧ ∀ x ∈ ls, 0 ≤ x ∧ x < 2 ^ W) (fun i H x H' _ _ y => y) (by decide) (t3.less (by omega)) npl (fun _ _ => True.intro) ⟨[], rfl, by simp⟩ (fun i acc H R hi hl pa s t hR => ?_) fun acc H4 hl pa s4 t4 e4 => ?_
  · refine ⟨_, rfl, _, rfl, _, _, rfl, a, c, W, n + 428 + 23 * (3 - (i + 1)), rfl, rfl, by omega, t.less (by omega), fun r H5 r0 r1 s5 t5 => ?_⟩
    obtain ⟨ls, rfl, hls⟩ := pa
    refine hR _ _ ⟨ls ++ [r], by rw [List.map_append]; rfl, fun x hx => ?_⟩ s5 t5
    rcases List.mem_append.mp hx with h | h
    · exact hls x h
    · rw [List.mem_singleton.mp h]
      exact ⟨r0, r1⟩
  · obtain ⟨ls, rfl, hls⟩ := pa
    rw [List.length_map] at hl
    have npla : pl ≠ a := tr_ne t3 npl
    refine ⟨_, rfl, pl, rfl, ⟨_, .inl (.inl e4)⟩, fun ps nps => ?_⟩
    refine lc_name walk_list (fun i => .int (ls.getD i 0)) (fun i => .int (ls.getD i 0 % 2 ^ L)) (fun i H x H' hi _ y => ⟨y.1, at_ints y.2⟩) (by rw [List.length_map]; omega) nps (fun H5 s5 => .inl (.inl (s5 _ _ e4))) (fun i H5 R hi s5 hR => ?_) fun H5 s5 e5 => ?_
    · exact ⟨_, rfl, _, rfl, _, _, rfl, _, L, rfl, rfl, by omega, by omega, hR _ (Same.refl _)⟩
    · rw [List.length_map, range_getD 0 (fun x => V.int (x % 2 ^ L))] at e5
      have t5 := t4.same s5
      have e5l := s5 _ _ e4
      have npsl : ps ≠ pl := fun z => by
        rw [z, e4] at nps
        cases nps
      have npsa : ps ≠ a := tr_ne t4 nps
      have sB5 := (sA.trans s4).trans (SameB.of s5)
      have hps : H ps = none := by
        cases hq : H ps with
        | none => rfl
        | some o =>
          have := (sA.trans s4) _ _ npsa hq
          rw [nps] at this
          cases this
      have hpl : H pl = none := by
        cases hq : H pl with
        | none => rfl
        | some o =>
          have := sA _ _ npla hq
          rw [npl] at this
          cases this
      refine ⟨_, rfl, by decide, fun p6 n6 => ?_⟩
      have s6 := same_upd (o := .lst [V.int 6, V.int 12, V.int 30]) n6
      refine ⟨_, _, rfl, a, c, p6, _, n + 427, rfl, rfl, .inl (.inl upd_same), tr_ne t5 n6, by decide, by decide, (t5.same s6), fun v H7 hv s7 t7 => ?_⟩
      obtain ⟨cnt, rfl, hc⟩ : ∃ cnt : Nat, v = .int (cnt : Int) ∧ cnt ≤ 30 := by
        simp only [List.mem_cons, List.not_mem_nil, or_false] at hv
        rcases hv with rfl | rfl | rfl
        · exact ⟨6, rfl, by decide⟩
        · exact ⟨12, rfl, by decide⟩
        · exact ⟨30, rfl, by decide⟩
      have s57 := (SameB.of (a := a) s6).trans s7
      refine ⟨_, rfl, by omega, by omega, ?_⟩
      rw [Int.toNat_natCast]
      refine for_range (n := cnt) (LoopI K H a c pl ps W L n cnt)
        ⟨ls, _, _, _, _, _, _, _, _, _, _, _, rfl, hl, hls, sB5.trans s57, t7.less (by omega), s57 _ _ npla e5l, s57 _ _ npsa e5⟩ ?_ ?_
      · rintro i σ H8 hi ⟨ls, y6, y7, y8, y9, y10, y11, y12, y13, y14, y15, y16, rfl, hl, hls, s8, t8, e8l, e8s⟩
        have bud : n + 2 + 10 * (cnt - i) = n + 2 + 10 * (cnt - (i + 1)) + 10 := by omega
        rw [bud] at t8
        generalize hN : n + 2 + 10 * (cnt - (i + 1)) = N at t8
        walk_at "rd"
        refine ⟨by decide, fun pk nk => ?_⟩
        have sk := same_upd (o := .lst [V.str "add", V.str "sub", V.str "mul", V.str "and", V.str "or", V.str "xor", V.str "neg", V.str "flip", V.str "if", V.str "shl"]) nk
        refine ⟨_, _, rfl, a, c, pk, _, N + 9, rfl, rfl, .inl (.inl upd_same), tr_ne t8 nk, (by show 0 < 10; decide), (by show 10 ≤ 1000; decide), t8.same sk, fun v H9 hv s9 t9 => ?_⟩
        have s89 := (SameB.of (a := a) sk).trans s9
        have e9l := s89 _ _ npla e8l
        have e9s := s89 _ _ npsa e8s
        obtain ⟨z0, rfl, hz0⟩ : ∃ z : Str, v = .str z ∧ (z = "shl" ∨ z ∈ nineL) := by
          simp only [List.mem_cons, List.not_mem_nil, or_false] at hv
          rcases hv with rfl | rfl | rfl | rfl | rfl | rfl | rfl | rfl | rfl | rfl
          all_goals first | exact ⟨_, rfl, .inr (by decide +kernel)⟩ | exact ⟨_, rfl, .inl rfl⟩
        -- the label is told
        refine ⟨Mid1 K H a c pl ps W L N ls, ?_, ?_⟩
        · walk_at "rd"
          refine ⟨rfl, ite2 (fun e => ?_) fun e => ?_⟩
          · refine ⟨by decide +kernel, _, _, rfl, a, c, 31, N + 8, rfl, rfl, by decide, by decide, t9, fun x H2 x0 x1 s2 t2 => ?_⟩
            refine ⟨_, rfl, by decide, fun pm nm => ?_⟩
            have sm := same_upd (o := .lst [V.int 1, V.int 2, V.int 7, V.int (1 + x)]) nm
            refine ⟨_, _, rfl, a, c, pm, _, N + 7, rfl, rfl, .inl (.inl upd_same), tr_ne t2 nm, (by show 0 < 4; decide), (by show 4 ≤ 1000; decide), t2.same sm, fun v H3 hv s3 t3 => ?_⟩
            obtain ⟨k, rfl, k1, k2⟩ : ∃ k : Nat, v = .int (k : Int) ∧ 1 ≤ k ∧ k < 32 := by
              simp only [List.mem_cons, List.not_mem_nil, or_false] at hv
              rcases hv with rfl | rfl | rfl | rfl
              · exact ⟨1, rfl, by decide, by decide⟩
              · exact ⟨2, rfl, by decide, by decide⟩
              · exact ⟨7, rfl, by decide, by decide⟩
              · exact ⟨(1 + x).toNat, by rw [Int.toNat_of_nonneg (by omega)], by omega, by omega⟩
            obtain ⟨_, f2, _⟩ := shl_facts k k2
            have s23 := (s2.trans (SameB.of sm)).trans s3
            refine .inr ⟨_, rfl, ?_, Nat.le_of_lt (small1000 f2), ?_⟩
            · rw [Int.natAbs_natCast]
              exact Nat.lt_of_le_of_lt (Nat.log2_le_self k) (by omega)
            · exact ⟨shlT k, _, _, _, _, _, _, _, _, _, _, .shl k k1 k2, rfl, (s8.trans s89).trans s23, t3, s23 _ _ npla e9l, s23 _ _ npsa e9s⟩
          · have hz1 : z0 ∈ nineL := hz0.elim (fun z => absurd (decide_eq_true z) e) id
            exact ⟨z0, _, _, _, _, _, _, _, _, _, _, .plain z0 hz1, rfl, s8.trans s89, t9.less (by omega), e9l, e9s⟩
        · rintro σ H10 ⟨z, y6, y8, y9, y10, y11, y12, y13, y14, y15, y16, hz, rfl, s10, t10, e10l, e10s⟩
          obtain ⟨ks, LO, hks⟩ := lab_ok (P := P) (base := base) T hz
          walk_at "rd"
          refine ⟨by decide, fun pt nt => ?_⟩
          have st := same_upd (o := .lst [V.bl true, V.bl false]) nt
          refine ⟨_, _, rfl, a, c, pt, _, N + 6, rfl, rfl, .inl (.inl upd_same), tr_ne t10 nt, (by show 0 < 2; decide), (by show 2 ≤ 1000; decide), t10.same st, fun v H11 hv s11 t11 => ?_⟩
          obtain ⟨tb, rfl⟩ : ∃ b, v = .bl b := by
            simp only [List.mem_cons, List.not_mem_nil, or_false] at hv
            rcases hv with rfl | rfl
            · exact ⟨_, rfl⟩
            · exact ⟨_, rfl⟩
          have s1011 := (SameB.of (a := a) st).trans s11
          have e11l := s1011 _ _ npla e10l
          have e11s := s1011 _ _ npsa e10s
          -- the spots
          refine ⟨_, rfl, _, rfl, z, "word", ks, rfl, LO.shp, fun H12 p q s12 tS tK => ?_⟩
          refine ⟨p, _, 1, .ref q, rfl, rfl, tS, rfl, q, rfl, ⟨_, tK⟩, fun D nD => ?_⟩
          have t12 := t11.same s12
          refine lc_tray (a := a) (c := c) (m := N + 3) (kk := 1) walk_tup (fun i => (ks.map V.str).getD i .non) (fun acc => ∃ sp : List Nat, acc = sp.map (fun j : Nat => V.int (j : Int)) ∧ ∀ j ∈ sp, j < ls.length) (fun i H x H' hi _ y => ⟨y.1, at_getD y.2⟩)
            (by rw [List.length_map]; have := LO.few; omega) (t12.less (by rw [List.length_map]; have := LO.few; omega)) nD (fun H' s => seqT_B t12 tK s) ⟨[], rfl, by simp⟩ (fun i acc H R hi hl2 pa s t hR => ?_) fun acc H13 hl2 pa s13 t13 e13 => ?_
          · have el := s _ _ npla (s12 _ _ e11l)
            refine ⟨_, rfl, _, rfl, pl, _, rfl, .inl (.inl el), _, _, rfl, a, c, _, N + 3 + 1 * ((ks.map V.str).length - (i + 1)), rfl, rfl, ?_, ?_, t.less (by omega), fun r H5 r0 r1 s5 t5 => ?_⟩
            · rw [List.length_map]
              omega
            · rw [List.length_map, Int.natAbs_natCast]
              exact Nat.lt_of_le_of_lt (show ls.length ≤ 33 by omega) (by decide)
            · obtain ⟨sp, rfl, hsp⟩ := pa
              rw [List.length_map] at r1
              refine hR _ _ ⟨sp ++ [r.toNat], by rw [List.map_append]; show _ ++ [V.int r] = _ ++ [V.int (r.toNat : Int)]; rw [Int.toNat_of_nonneg r0], fun x hx => ?_⟩ s5 t5
              rcases List.mem_append.mp hx with h | h
              · exact hsp x h
              · rw [List.mem_singleton.mp h]
                omega
          obtain ⟨sp, rfl, hsp⟩ := pa
          rw [List.length_map, List.length_map] at hl2
          have few := LO.few
          have nDl : pl ≠ D := fun z => by
            rw [← z, s12 _ _ e11l] at nD
            cases nD
          have e13l := s13 _ _ npla (s12 _ _ e11l)
          have e13s := s13 _ _ npsa (s12 _ _ e11s)
          -- the parts above
          refine ⟨_, rfl, D, rfl, ⟨_, .inl (.inl e13)⟩, fun pa npa => ?_⟩
          refine lc_name walk_list (fun i => .int ((sp.getD i 0 : Nat) : Int)) (fun i => .int (ls.getD (sp.getD i 0) 0)) (fun i H x H' hi _ y => ⟨y.1, at_nats y.2⟩) (by rw [List.length_map]; omega) npa (fun H5 s5 => .inl (.inl (s5 _ _ e13))) (fun i H5 R hi s5 hR => ?_) fun H14 s14 e14 => ?_
          · rw [List.length_map] at hi
            exact ⟨_, rfl, _, rfl, ixL (.inl (.inl (s5 _ _ e13l))) (at_spot V.int hsp hi) (hR _ (Same.refl _))⟩
          rw [List.length_map, range_getD 0 (fun j => V.int (ls.getD j 0))] at e14
          have e14l := s14 _ _ e13l
          have e14s := s14 _ _ e13s
          have e14D := s14 _ _ e13
          -- the parts below
          refine ⟨_, rfl, D, rfl, ⟨_, .inl (.inl e14D)⟩, fun pb npb => ?_⟩
          refine lc_name walk_list (fun i => .int ((sp.getD i 0 : Nat) : Int)) (fun i => .int (ls.getD (sp.getD i 0) 0 % 2 ^ L)) (fun i H x H' hi _ y => ⟨y.1, at_nats y.2⟩) (by rw [List.length_map]; omega) npb (fun H5 s5 => .inl (.inl (s5 _ _ e14D))) (fun i H5 R hi s5 hR => ?_) fun H15 s15 e15 => ?_
          · rw [List.length_map] at hi
            exact ⟨_, rfl, _, rfl, ixL (.inl (.inl (s5 _ _ e14s))) (at_spot (fun x => V.int (x % 2 ^ L)) hsp hi) (hR _ (Same.refl _))⟩
          rw [List.length_map, range_getD 0 (fun j => V.int (ls.getD j 0 % 2 ^ L))] at e15
          have e15l := s15 _ _ e14l
          have e15s := s15 _ _ e14s
          have e15a := s15 _ _ e14
          have t15 := ((t13.same s14).same s15).less (show N ≤ N + 3 by omega)
          have sB15 : SameB a H H15 := ((s10.trans (s1011.trans (SameB.of s12))).trans s13).trans (SameB.of (s14.trans s15))
          refine ⟨Mid2 K H a c pl ps W L N ls z ks, ?_, ?_⟩
          · have hpa : H pa = none := nw ((s10.trans (s1011.trans (SameB.of s12))).trans s13) npa (tr_ne t13 npa)
            have hpb : H pb = none := nw (((s10.trans (s1011.trans (SameB.of s12))).trans s13).trans (SameB.of s14)) npb (tr_ne (t13.same s14) npb)
            have paa : pa ≠ a := tr_ne t13 npa
            have pba : pb ≠ a := tr_ne (t13.same s14) npb
            have nab : pb ≠ pa := fun z => by
              rw [z, e14] at npb
              cases npb
            have nbl : pb ≠ pl := fun z => by
              rw [z, e14l] at npb
              cases npb
            have nbs : pb ≠ ps := fun z => by
              rw [z, e14s] at npb
              cases npb
            have nal : pa ≠ pl := fun z => by
              rw [z, e13l] at npa
              cases npa
            have nas : pa ≠ ps := fun z => by
              rw [z, e13s] at npa
              cases npa
            walk_at "rd"
            refine ⟨rfl, ite2 (fun e => ?_) fun e => ?_⟩
            · rcases hks with ⟨_, rfl⟩ | ⟨hn, _⟩
              · obtain ⟨j0, j1, j2, rfl⟩ : ∃ j0 j1 j2, sp = [j0, j1, j2] := by
                  match sp, hl2 with
                  | [x, y, z], _ => exact ⟨x, y, z, rfl⟩
                have sU : SameB a H (upd H15 pa (.lst [.bl tb, .int (ls.getD j1 0), .int (ls.getD j2 0)])) := upB sB15 hpa
                have e15b : (upd H15 pa (.lst [.bl tb, .int (ls.getD j1 0), .int (ls.getD j2 0)])) pb = some (.lst [.int (ls.getD j0 0 % 2 ^ L), .int (ls.getD j1 0 % 2 ^ L), .int (ls.getD j2 0 % 2 ^ L)]) := by
                  rw [upd_ne nab]
                  exact e15
                refine setL e15a (j := 0) rfl (setL e15b (j := 0) rfl ?_)
                have sU2 : SameB a H (upd (upd H15 pa (.lst [.bl tb, .int (ls.getD j1 0), .int (ls.getD j2 0)])) pb (.lst [.bl tb, .int (ls.getD j1 0 % 2 ^ L), .int (ls.getD j2 0 % 2 ^ L)])) := upB sU hpb
                have k1 := getD_in hls (hsp j1 (by simp))
                have k2 := getD_in hls (hsp j2 (by simp))
                refine ⟨pa, pb, [.bl tb, .int (ls.getD j1 0), .int (ls.getD j2 0)], _, _, _, _, _, _, _, _, rfl, sU2, Tr.upN tr (Tr.upN tr t15 sU paa) sU2 pba, ?_, ?_, ?_, upd_same, nbl, args_cons (kt tb) (a2 k1.1 k1.2 k2.1 k2.2)⟩
                · rw [upd_ne nbl.symm, upd_ne nal.symm]
                  exact e15l
                · rw [upd_ne nbs.symm, upd_ne nas.symm]
                  exact e15s
                · rw [upd_ne nab.symm, upd_same]
                  rfl
              · exact absurd (of_decide_eq_true e) hn
            · rcases hks with ⟨hn, _⟩ | ⟨_, hw⟩
              · exact absurd (decide_eq_true hn) e
              · refine ⟨pa, pb, sp.map fun j => .int (ls.getD j 0), _, _, _, _, _, _, _, _, rfl, sB15, t15, e15l, e15s, e15a, ?_, nbl, ⟨by rw [List.length_map]; exact hl2.symm, fun i k v hk hv => ?_⟩⟩
                · rw [List.map_map]
                  exact e15
                · rw [List.getElem?_map] at hv
                  cases hsi : sp[i]? with
                  | none =>
                    rw [hsi] at hv
                    cases hv
                  | some jj =>
                    rw [hsi] at hv
                    cases hv
                    obtain rfl := hw k (List.mem_of_getElem? hk)
                    have k1 := getD_in hls (hsp jj (List.mem_of_getElem? hsi))
                    exact kw k1.1 k1.2
          · rintro σ H16 ⟨pa, pb, xs, y6, y8, y9, y12, y13, y14, y15, y16, rfl, s16, t16, e16l, e16s, e16a, e16b, nbl, hA⟩
            obtain ⟨r, r0, r1, wkW, wkL⟩ := LO.cut W L xs (by omega) (by omega) w300 hA
            have lxs : xs.length ≤ 3 := by
              have := hA.1
              have := LO.few
              omega
            walk_at "rd"
            refine ⟨_, rfl, .inl ⟨rfl, _, .inl (.inl e16l)⟩, ?_⟩
            refine ⟨_, rfl, _, rfl, _, rfl, _, _, _, rfl, z, W, pa, xs, _, rfl, rfl, by omega, w300, rfl, .inl (.inl (.inl e16a)), lxs, wkW, fun H17 s17 => ?_⟩
            refine ⟨pl, _, _, rfl, rfl, s17 _ _ e16l, ?_, ?_⟩
            · rw [List.length_map]
              exact small1000 (by omega)
            have sB17 : SameB a H (upd H17 pl (.lst (ls.map V.int ++ [.int r]))) := upB (s16.trans (SameB.of s17)) hpl
            have t17 := Tr.upN tr (t16.same s17) sB17 npla
            have e17s : (upd H17 pl (.lst (ls.map V.int ++ [.int r]))) ps = some (.lst (ls.map fun x => V.int (x % 2 ^ L))) := by
              rw [upd_ne npsl]
              exact s17 _ _ e16s
            have e17b : (upd H17 pl (.lst (ls.map V.int ++ [.int r]))) pb = some (.lst (xs.map (low L))) := by
              rw [upd_ne nbl]
              exact s17 _ _ e16b
            refine ⟨_, rfl, .inl ⟨rfl, _, .inl (.inl e17s)⟩, ?_⟩
            refine ⟨_, rfl, _, rfl, _, rfl, _, _, _, rfl, z, L, pb, xs.map (low L), _, rfl, rfl, by omega, by omega, rfl, .inl (.inl (.inl e17b)), by rw [List.length_map]; exact lxs, wkL, fun H18 s18 => ?_⟩
            refine ⟨ps, _, _, rfl, rfl, s18 _ _ e17s, ?_, ?_⟩
            · rw [List.length_map]
              exact small1000 (by omega)
            have sB18 : SameB a H (upd H18 ps (.lst (ls.map (fun x => V.int (x % 2 ^ L)) ++ [.int (r % 2 ^ L)]))) := upB (sB17.trans (SameB.of s18)) hps
            have t18 := Tr.upN tr (t17.same s18) sB18 npsa
            have e18l : (upd H18 ps (.lst (ls.map (fun x => V.int (x % 2 ^ L)) ++ [.int (r % 2 ^ L)]))) pl = some (.lst (ls.map V.int ++ [.int r])) := by
              rw [upd_ne npsl.symm]
              exact s18 _ _ upd_same
            have sqL : SqL K (upd H18 ps (.lst (ls.map (fun x => V.int (x % 2 ^ L)) ++ [.int (r % 2 ^ L)]))) pl (ls.map V.int ++ [.int r]) := .inl (.inl e18l)
            have sqS : SqL K (upd H18 ps (.lst (ls.map (fun x => V.int (x % 2 ^ L)) ++ [.int (r % 2 ^ L)]))) ps (ls.map (fun x => V.int (x % 2 ^ L)) ++ [.int (r % 2 ^ L)]) := .inl (.inl upd_same)
            refine ixL sqL (atI_last _ _) ⟨r, rfl, ?_⟩
            rw [decide_eq_true r0]
            refine iteT ⟨r, rfl, ?_⟩
            rw [decide_eq_true r1]
            refine iteF ?_
            refine ixL sqL (atI_last _ _) ?_
            refine ⟨_, _, rfl, r, L, rfl, rfl, by omega, by omega, ?_⟩
            refine ixL sqS (atI_last _ _) ⟨rfl, ?_⟩
            rw [decide_eq_true rfl]
            refine iteF ?_
            refine ixL sqS (atI_last _ _) ?_
            refine ⟨_, _, _, _, false, rfl, .ty _, .base (.int _), kit_ty (by decide +kernel), _, rfl, iteF ?_⟩
            refine ⟨ls ++ [r], _, _, _, _, _, _, _, _, _, _, _, rfl, by rw [List.length_append, hl]; show 3 + i + 1 = 3 + (i + 1); omega, fun x hx => ?_, sB18, by rw [hN]; exact t18, by rw [List.map_append]; exact e18l, by rw [List.map_append]; exact upd_same⟩
            rcases List.mem_append.mp hx with h | h
            · exact hls x h
            · rw [List.mem_singleton.mp h]
              exact ⟨r0, r1⟩
      · rintro σ H8 ⟨ls, y6, y7, y8, y9, y10, y11, y12, y13, y14, y15, y16, rfl, hl, hls, s8, t8, e8l, e8s⟩
        walk_at "rd"
        have lpos : 0 < (ls.map V.int).length := by
          rw [List.length_map]
          omega
        have lfew : (ls.map V.int).length ≤ 1000 := by
          rw [List.length_map]
          omega
        refine ⟨_, _, rfl, a, c, pl, _, n + 1, rfl, rfl, .inl (.inl e8l), npla, lpos, lfew, t8.less (by omega), fun v H9 hv s9 t9 => ?_⟩
        obtain ⟨x, hx, rfl⟩ := List.mem_map.mp hv
        refine ⟨_, _, rfl, a, c, pl, _, n, rfl, rfl, .inl (.inl (s9 _ _ npla e8l)), npla, lpos, lfew, t9, fun v H10 hv s10 t10 => ?_⟩
        obtain ⟨y, hy, rfl⟩ := List.mem_map.mp hv
        obtain ⟨x0, x1⟩ := hls x hx
        obtain ⟨y0, y1⟩ := hls y hy
        have sE := (s8.trans s9).trans s10
        refine ⟨_, _, ⟨rfl, rfl⟩, by decide, fun p n1 => ?_⟩
        have sp1 := same_upd (o := .lst [V.int x, V.int y]) n1
        refine ⟨_, _, _, rfl, _, W, p, _, _, rfl, rfl, by omega, w300, rfl, .inl (.inl (.inl upd_same)), (by show 2 ≤ 3; decide), wk_eq T x0 x1 y0 y1, fun H11 s11 => ⟨_, rfl, ?_⟩⟩
        have s11' := sp1.trans s11
        by_cases exy : x = y
        · rw [decide_eq_true exy]
          refine iteF ?_
          subst exy
          refine ⟨_, _, rfl, x, L, rfl, rfl, by omega, by omega, ?_⟩
          refine ⟨_, _, rfl, x, L, rfl, rfl, by omega, by omega, ?_⟩
          refine ⟨by decide, fun p2 n2 => ?_⟩
          have sp2 := same_upd (o := .lst [V.int (x % 2 ^ L), V.int (x % 2 ^ L)]) n2
          refine ⟨_, _, _, rfl, _, L, p2, _, _, rfl, rfl, by omega, by omega, rfl, .inl (.inl (.inl upd_same)), (by show 2 ≤ 3; decide), wk_eq T (mod_low x L) (mod_high x L) (mod_low x L) (mod_high x L), fun H12 s12 => ?_⟩
          rw [decide_eq_true rfl]
          refine ⟨true, true, rfl, rfl, ?_⟩
          have sF := s11'.trans (sp2.trans s12)
          exact q _ (sE.trans (SameB.of sF)) (t10.same sF)
        · rw [decide_eq_false exy]
          exact iteT (q _ (sE.trans (SameB.of s11')) (t10.same s11'))
end
end K02
end
section
set_option maxHeartbeats 4000000
namespace K02
open PySem PySem.Spec PyProof.Rows L2 G1
local macro_rules | `(tactic| walk_at "rd") => `(tactic| simp only [tPar, tFmt, tJs, tM0, tM1, tSeq, tIfS, gName, gTup, gSub, gNil, gCons, List.cons.injEq, List.replicate_succ, tNot, tB, tRet, tC, tNext, tVar, tOp, tUn, tAnd, tOr, tAndV, tOrV, tNotV, tIf, tTest, tChain, tAsg, tCall, tCons, tNil, tCB, tDrop, tNever, tTup, tLst, tSl, tPart, tNoPart, tB, cx_K, cx_K', cx_w, cx_w', cx_mg', cx_P', cx_b', cx_mg, cx_P, cx_b, gUnl, Nat.reduceAdd, Nat.reduceSub, Nat.sub_self, Nat.zero_add, List.replicate_zero,
  rI, rI0, rU, rEq, rNe, L2.start, List.append_nil, List.cons_append, List.nil_append, List.map_cons, List.map_nil, List.length_cons, List.length_nil, List.getElem?_cons_zero, List.getElem?_cons_succ,
  List.replicate, List.set_cons_zero, List.set_cons_succ, exists_eq_left, exists_eq_left', exists_eq_right, exists_and_left, Option.some.injEq, V.bl.injEq, V.int.injEq, V.str.injEq, V.ref.injEq, true_and, and_true, if_true, if_false, Bool.false_eq_true, Bool.not_true, Bool.not_false, reduceIte, reduceCtorEq, ite_true, ite_false, decide_true, decide_false])
def lcOf : Stmt → Scope
  | .Assign _ (.ListComp _ _ sc _) _ => sc
  | _ => defScope (.Pass ⟨0, 0, 0, 0⟩)
def stIn (s : Stmt) (i : Nat) : Stmt := match s with
  | .For _ _ b _ _ => b.getD i (.Pass ⟨0, 0, 0, 0⟩)
  | _ => .Pass ⟨0, 0, 0, 0⟩
def cellF (sc : Scope) : Scope := { sc with names := sc.names.map fun y => (y.1, match y.2 with | .free => .cell | k => k) }
theorem pi_listK {X : Cx} {K : PySem.W.Frag} {tg e : Expr} {te : TE} (he : PE X e te) (h : X.K = K) : PI X tg e (iList K te) := by
  rw [← h]
  exact pi_list he
theorem blkOk_nest {N N' : List Str} {sc sc' scope : Scope} {own : List (Str × Nat)} (e : N' = N) (e2 : sc' = sc) (h : blkC N sc scope own = true) : BlkOk N' sc' scope own := by
  rw [e, e2]
  exact blkOk_by h
section
variable {P : Program} {w : World} {K : PySem.W.Frag} {mg : Str → Option Value} {base : Heap}
/-! ### order -/
theorem sgn_top {m : Nat} {i : Int} (hi : 0 ≤ i) (h : i < 2 ^ (m + 1)) : Builtin.bitXor i (2 ^ (m + 1) / 2) = sgn (m + 1) i + 2 ^ m := by
  have e2 : (2 : Int) ^ (m + 1) = 2 * 2 ^ m := by rw [Int.pow_succ, Int.mul_comm]
  have e3 : (2 : Int) ^ (m + 1) / 2 = 2 ^ m := by omega
  rw [e3, xor_top hi h]
  unfold sgn
  rw [Nat.add_sub_cancel]
  split <;> omega
theorem add_top {m : Nat} {i : Int} (hi : 0 ≤ i) (h : i < 2 ^ (m + 1)) : (i + 2 ^ (m + 1) / 2) % 2 ^ (m + 1) = sgn (m + 1) i + 2 ^ m := by
  have e2 : (2 : Int) ^ (m + 1) = 2 * 2 ^ m := by rw [Int.pow_succ, Int.mul_comm]
  have e3 : (2 : Int) ^ (m + 1) / 2 = 2 ^ m := by omega
  have p := pow_pos2 m
  rw [e3]
  unfold sgn
  rw [Nat.add_sub_cancel]
  by_cases hb : 2 ^ m ≤ i
  · rw [if_pos hb]
    have e : i + 2 ^ m = (i - 2 ^ m) + 2 ^ (m + 1) := by omega
    rw [e, Int.add_emod_right, Int.emod_eq_of_lt (by omega) (by omega)]
    omega
  · rw [if_neg hb, Int.emod_eq_of_lt (by omega) (by omega)]
theorem sgn_inj {n : Nat} {i j : Int} (hn : 1 ≤ n) (hi : 0 ≤ i) (hi2 : i < 2 ^ n) (hj : 0 ≤ j) (hj2 : j < 2 ^ n) (h : sgn n i = sgn n j) : i = j := by
  obtain ⟨m, rfl⟩ : ∃ m, n = m + 1 := ⟨n - 1, by omega⟩
  have e2 : (2 : Int) ^ (m + 1) = 2 * 2 ^ m := by rw [Int.pow_succ, Int.mul_comm]
  unfold sgn at h
  rw [Nat.add_sub_cancel] at h
  split at h <;> split at h <;> omega
/-- the sorted of three truths, one of them true -/
theorem sort3 (a b c : Bool) (h : (a = true ∧ b = false ∧ c = false) ∨ (a = false ∧ b = true ∧ c = false) ∨ (a = false ∧ b = false ∧ c = true)) : [a, b, c].mergeSort (PySem.W.dataLe false PyData.bool) = [false, false, true] := by
  have e1 : PySem.W.dataLe false PyData.bool false false = true := by decide +kernel
  have e2 : PySem.W.dataLe false PyData.bool false true = true := by decide +kernel
  have e3 : PySem.W.dataLe false PyData.bool true false = false := by decide +kernel
  have e4 : PySem.W.dataLe false PyData.bool true true = true := by decide +kernel
  rcases h with ⟨rfl, rfl, rfl⟩ | ⟨rfl, rfl, rfl⟩ | ⟨rfl, rfl, rfl⟩ <;> simp [List.mergeSort, List.MergeSort.Internal.splitInTwo, List.merge, e1, e2, e3, e4]
theorem shown3 : PyData.shown (.list [.bool false, .bool false, .bool true]) = ("[False, False, True]" : Str) := by decide +kernel
def MidO (K : PySem.W.Frag) (H : Hp) (a c pw : Addr) (W n : Nat) (σ : L2.St) (H' : Hp) : Prop :=
  ∃ (ls : List Int) (y4 y5 y6 y7 y8 y9 y10 y11 y12 y13 : Option V), σ = [some (.ref a), some (.int (W : Int)), some (.int (2 ^ W)), some (.ref pw), y4, y5, y6, y7, y8, y9, y10, y11, y12, y13] ∧
    ls.length = 3 ∧ (∀ x ∈ ls, 0 ≤ x ∧ x < 2 ^ W) ∧ SameB a H H' ∧ Tr K H' a c n ∧ H' pw = some (.lst (ls.map V.int))
theorem reprB {H : Hp} {b : Bool} {Q : VK} (q : Q (.str (PyData.shown (.bool b))) H) : rReprD K [.bl b] H Q :=
  ⟨_, _, rfl, .bl b, by cases b <;> rfl, by cases b <;> decide +kernel, by cases b <;> decide +kernel, q⟩
theorem reprS {H : Hp} {p : Addr} {Q : VK} (e : H p = some (.lst [V.bl false, V.bl false, V.bl true])) (q : Q (.str "[False, False, True]") H) : rReprD K [.ref p] H Q :=
  ⟨_, _, rfl, .lst (.inl (.inl e)) (.cons (.bl _) (.cons (.bl _) (.cons (.bl _) .nil))), by decide +kernel, by decide +kernel, by rw [shown3]; decide +kernel, by rw [shown3]; exact q⟩
theorem wkd (T : Txt w K mg) {n : Nat} {z : Str} {p : Addr} {xs : List V} {r : V} {H : Hp} {Q : VK} (h1 : 1 ≤ n) (h2 : n ≤ 300) (hp : PV K H p xs) (hl : xs.length ≤ 3) (W : Wk P w K mg base T n z xs r) (q : ∀ H1, Same H H1 → Q r H1) :
    sp_worked P w K mg base T [.str z, .int (n : Int), .ref p] H Q E0 := ⟨_, _, _, rfl, _, _, _, _, _, rfl, rfl, h1, h2, rfl, hp, hl, W, q⟩
/-- a table of three rows -/
def row (key : Int → Int) (ls : List Int) (x : Int) : List V := (List.range ls.length).map fun i => V.bl (decide (key x < key (ls.getD i 0)))
def TabI (key : Int → Int) (ls : List Int) (D : Addr) (H : Hp) (i : Nat) (H' : Hp) : Prop :=
  ∃ acc : List V, acc.length = i ∧ Same H H' ∧ H' D = some (.lst acc) ∧ ∀ k, k < i → ∃ q, q ≠ D ∧ acc[k]? = some (.ref q) ∧ H' q = some (.lst (row key ls (ls.getD k 0)))
def Gz (a pw D : Addr) (W : Nat) (z : Str) (H : Hp) (σ : L2.St) (H' : Hp) : Prop :=
  ∃ (y6 y7 y8 y9 y10 y11 y12 y13 : Option V), σ = [some (.ref a), some (.int (W : Int)), some (.int (2 ^ W)), some (.ref pw), some (.str z), some (.ref D), y6, y7, y8, y9, y10, y11, y12, y13] ∧ Same H H'
def Gz1 (a pw D : Addr) (W : Nat) (z : Str) (i : Nat) (H : Hp) (σ : L2.St) (H' : Hp) : Prop :=
  ∃ (y7 y8 y9 y10 y11 y12 y13 : Option V), σ = [some (.ref a), some (.int (W : Int)), some (.int (2 ^ W)), some (.ref pw), some (.str z), some (.ref D), some (.int (i : Int)), y7, y8, y9, y10, y11, y12, y13] ∧ Same H H'
def Wz (a pw : Addr) (W : Nat) (H : Hp) (σ : L2.St) (H' : Hp) : Prop :=
  ∃ (y4 y5 y6 y7 y8 y10 y11 y12 y13 : Option V), σ = [some (.ref a), some (.int (W : Int)), some (.int (2 ^ W)), some (.ref pw), y4, y5, y6, y7, y8, some (.int (2 ^ W / 2)), y10, y11, y12, y13] ∧ Same H H'
def Wz1 (a pw : Addr) (W : Nat) (x : Int) (H : Hp) (σ : L2.St) (H' : Hp) : Prop :=
  ∃ (y4 y5 y7 y8 y10 y11 y12 y13 : Option V), σ = [some (.ref a), some (.int (W : Int)), some (.int (2 ^ W)), some (.ref pw), y4, y5, some (.int x), y7, y8, some (.int (2 ^ W / 2)), y10, y11, y12, y13] ∧ Same H H'
theorem tab_at {key : Int → Int} {ls : List Int} {D : Addr} {H H' : Hp} {i j : Nat} {Q : VK} (t : TabI key ls D H ls.length H') (hi : i < ls.length) (hj : j < ls.length) (q : Q (.bl (decide (key (ls.getD i 0) < key (ls.getD j 0)))) H') :
    rIxL K (.ref D) (.int (i : Int)) H' fun x H1 => rIxL K x (.int (j : Int)) H1 Q := by
  obtain ⟨acc, hl, s, e, rows⟩ := t
  obtain ⟨r, _, e1, e2⟩ := rows i hi
  refine ixL (.inl (.inl e)) (atI_nat e1) (ixL (.inl (.inl e2)) (atI_nat ?_) q)
  unfold row
  rw [List.getElem?_map, List.getElem?_range hj]
  rfl
theorem word_at {ls : List Int} {pw : Addr} {H : Hp} {i : Nat} {Q : VK} (e : H pw = some (.lst (ls.map V.int))) (hi : i < ls.length) (q : Q (.int (ls.getD i 0)) H) : rIxL K (.ref pw) (.int (i : Int)) H Q := by
  refine ixL (.inl (.inl e)) (atI_nat ?_) q
  rw [List.getElem?_map, List.getD_eq_getElem?_getD, List.getElem?_eq_getElem hi]
  rfl
theorem TabI.same {key : Int → Int} {ls : List Int} {D : Addr} {H H' H2 : Hp} {i : Nat} (t : TabI key ls D H i H') (s : Same H' H2) : TabI key ls D H i H2 := by
  obtain ⟨acc, hl, s1, e, rows⟩ := t
  exact ⟨acc, hl, s1.trans s, s _ _ e, fun k hk => let ⟨r, e0, e1, e2⟩ := rows k hk; ⟨r, e0, e1, s _ _ e2⟩⟩
def Fz (a pw : Addr) (W : Nat) (H : Hp) (σ : L2.St) (H' : Hp) : Prop :=
  ∃ (y4 y5 y6 y7 y8 y9 y10 y11 y12 y13 : Option V), σ = [some (.ref a), some (.int (W : Int)), some (.int (2 ^ W)), some (.ref pw), y4, y5, y6, y7, y8, y9, y10, y11, y12, y13] ∧ Same H H'
def sp__law_order_right (K : PySem.W.Frag) : Sp := S1 fun x H Q => ∃ (a c : Addr) (n : Nat), x = .ref a ∧ Tr K H a c (n + 100) ∧ ∀ H1, SameB a H H1 → Tr K H1 a c n → Q (.bl true) H1
theorem ok__law_order_right (T : Txt w K mg) : FnG P w K mg base CX0 6 T.f__law_order_right T.fd__law_order_right ["_law_tray_here"] (sp__law_order_right K) := by
  have K__law_take := ok__law_take (P := P) (base := base) T
  have K__law_word := ok__law_word (P := P) (base := base) T
  have K__law_dip := ok__law_dip (P := P) (base := base) T
  have K_worked := ok_worked (P := P) (base := base) T
  have K_signed := ok_signed (P := P) (base := base) T
  refine okG T.F__law_order_right sc__law_order_right S1_len (fun cdv A outer s H vs Q E hg hr h => ?_)
  obtain ⟨v0, rfl, h⟩ := h
  refine ⟨_, (pss_cons (ps_set (i := 1) sc__law_order_right.nd rfl (.inr rfl) (pe_callG K__law_take hg (hr.mono (by decide)) (by rfl) T.g__law_take T.F__law_take.kp T.b__law_take .nil pass0 (pa_cons (pv 0) (pa_cons (pe_lst (pa_cons pe_int (pa_cons pe_int (pa_cons pe_int (pa_cons pe_int (pa_cons pe_int (pa_cons (pe_op op_add pe_int (pe_callG K__law_dip hg (hr.mono (by decide)) (by rfl) T.g__law_dip T.F__law_dip.kp T.b__law_dip .nil pass0 (pa_cons (pv 0) (pa_cons pe_int pa_nil)))) (pa_cons pe_int pa_nil)))))))) pa_nil))))
      (pss_cons (ps_set (i := 2) sc__law_order_right.nd rfl (.inr rfl) (pe_op op_shlW pe_int (pv 1)))
      (pss_cons (ps_set (i := 3) sc__law_order_right.nd rfl (.inr rfl) (pe_lc (own := [("_law_turn", 12)]) (g := gName 12) rfl sc__law_order_right.nd (pi_range1 (by rfl) T.m_range (pa_cons pe_int pa_nil)) (blkOk_by (own := [("_law_turn", 12)]) (N := ["_law_tray_here", "_law_width", "_law_limit", "_law_words", "_law_label", "_law_table", "_law_one", "_law_other", "_law_equal", "_law_top", "_law_turned", "_law_due", "_law_turn", "_law_third"]) (sc := defScope s__law_order_right) (by decide +kernel)) (fun _ _ _ _ _ => pg_name (i := 12) sc__law_order_right.nd rfl (Or.inl rfl)) (fun _ _ _ _ _ => pts_nil) (fun _ _ _ _ _ => (pe_callG K__law_word hg (hr.mono (by decide)) (by rfl) T.g__law_word T.F__law_word.kp T.b__law_word .nil pass0 (pa_cons (pv 0) (pa_cons (pv 2) pa_nil))))))
      (C8.pss_cut (ps_if (pt_cmpR op_eq (pe_callG K__law_dip hg (hr.mono (by decide)) (by rfl) T.g__law_dip T.F__law_dip.kp T.b__law_dip .nil pass0 (pa_cons (pv 0) (pa_cons pe_int pa_nil))) pe_int (nomark _))
        (pss_one (ps_asg (pe_ix ix_list (pv 3) (pe_callG K__law_dip hg (hr.mono (by decide)) (by rfl) T.g__law_dip T.F__law_dip.kp T.b__law_dip .nil pass0 (pa_cons (pv 0) (pa_cons pe_int pa_nil))) (fun _ _ => rfl)) (pg_sub (pv 3) pe_int set_list)))
        pss_nil)
      (pss_cons (ps_for PassesOwn.never rfl (pi_tup (pe_tup (pa_cons pe_str (pa_cons pe_str pa_nil)))) (pg_name (i := 4) sc__law_order_right.nd rfl (.inr rfl))
        (pss_cons (ps_set (i := 5) sc__law_order_right.nd rfl (.inr rfl) (pe_lc (own := [("_law_one", 6)]) (g := gName 6) rfl sc__law_order_right.nd (pi_list (pv 3)) (blkOk_by (own := [("_law_one", 6)]) (N := ["_law_tray_here", "_law_width", "_law_limit", "_law_words", "_law_label", "_law_table", "_law_one", "_law_other", "_law_equal", "_law_top", "_law_turned", "_law_due", "_law_turn", "_law_third"]) (sc := defScope s__law_order_right) (by decide +kernel)) (fun _ _ _ _ _ => pg_name (i := 6) sc__law_order_right.nd rfl (Or.inr rfl)) (fun _ _ _ _ _ => pts_nil) (fun _ _ _ _ _ => (pe_lc (own := [("_law_other", 7)]) (g := gName 7) rfl sc__law_order_right.nd (pi_listK (K := K) (pv 3) rfl) (blkOk_nest (own := [("_law_other", 7)]) (N := ["_law_tray_here", "_law_width", "_law_limit", "_law_words", "_law_label", "_law_table", "_law_one", "_law_other", "_law_equal", "_law_top", "_law_turned", "_law_due", "_law_turn", "_law_third"]) (sc := cellF (lcOf (stIn ((defBody s__law_order_right).getD 4 (.Pass ⟨0, 0, 0, 0⟩)) 0))) (by rfl) (by first | rfl | with_unfolding_all rfl | kernel_rfl) (by decide +kernel)) (fun _ _ _ _ _ => pg_name (i := 7) sc__law_order_right.nd rfl (Or.inl rfl)) (fun _ _ _ _ _ => pts_nil) (fun _ _ _ _ _ => (pe_callG K_worked hg (hr.mono (by decide)) (by rfl) T.g_worked T.F_worked.kp T.b_worked .nil pass0 (pa_cons (pv 4) (pa_cons (pv 1) (pa_cons (pe_lst (pa_cons (pv 6) (pa_cons (pv 7) pa_nil))) pa_nil)))))))))
        (pss_one (ps_for PassesOwn.never rfl (pi_range1 (by rfl) T.m_range (pa_cons pe_int pa_nil)) (pg_name (i := 6) sc__law_order_right.nd rfl (.inr rfl))
          (pss_one (ps_for PassesOwn.never rfl (pi_range1 (by rfl) T.m_range (pa_cons pe_int pa_nil)) (pg_name (i := 7) sc__law_order_right.nd rfl (.inr rfl))
            (pss_cons (ps_set (i := 8) sc__law_order_right.nd rfl (.inl rfl) (pe_callG K_worked hg (hr.mono (by decide)) (by rfl) T.g_worked T.F_worked.kp T.b_worked .nil pass0 (pa_cons pe_str (pa_cons (pv 1) (pa_cons (pe_tup (pa_cons (pe_ix ix_list (pv 3) (pv 6) (fun _ _ => rfl)) (pa_cons (pe_ix ix_list (pv 3) (pv 7) (fun _ _ => rfl)) pa_nil))) pa_nil)))))
            (pss_cons (ps_if (PW.pt (pw_or (pt_cmpR op_ne (pe_callB (call_reprD hg hr.units) (by rfl) T.m_repr (by decide +kernel) (pa_cons (pv 8) pa_nil)) (pe_callB (call_reprD hg hr.units) (by rfl) T.m_repr (by decide +kernel) (pa_cons (pe_cmpR op_eq (pe_ix ix_list (pv 3) (pv 6) (fun _ _ => rfl)) (pe_ix ix_list (pv 3) (pv 7) (fun _ _ => rfl)) (nomark _)) pa_nil)) (nomark _)) (pw_or1 (pt_cmpR op_ne (pe_callB (call_reprD hg hr.units) (by rfl) T.m_repr (by decide +kernel) (pa_cons (pe_callB (cr_sortedB hr.units) (by rfl) T.m_sorted (by decide +kernel) (pa_cons (pe_lst (pa_cons (pe_ix ix_list (pe_ix ix_list (pv 5) (pv 6) (fun _ _ => rfl)) (pv 7) (fun _ _ => rfl)) (pa_cons (pe_ix ix_list (pe_ix ix_list (pv 5) (pv 7) (fun _ _ => rfl)) (pv 6) (fun _ _ => rfl)) (pa_cons (pv 8) pa_nil)))) pa_nil)) pa_nil)) pe_str (nomark _)))))
              (pss_one (ps_ret pe_bl))
              pss_nil)
            (pss_one (ps_if (pt_cmpR (op_neD hr.units) (pe_lc (own := [("_law_third", 13)]) (g := gName 13) rfl sc__law_order_right.nd (pi_range1 (by rfl) T.m_range (pa_cons pe_int pa_nil)) (blkOk_by (own := [("_law_third", 13)]) (N := ["_law_tray_here", "_law_width", "_law_limit", "_law_words", "_law_label", "_law_table", "_law_one", "_law_other", "_law_equal", "_law_top", "_law_turned", "_law_due", "_law_turn", "_law_third"]) (sc := defScope s__law_order_right) (by decide +kernel)) (fun _ _ _ _ _ => pg_name (i := 13) sc__law_order_right.nd rfl (Or.inl rfl)) (fun _ _ _ _ _ => (pts_one (PW.pt (pw_and (pt_val (pe_ix (ixK (r := rIxL) (K := K) ix_list rfl) (pe_ix (ixK (r := rIxL) (K := K) ix_list rfl) (pv 5) (pv 6) (fun _ _ => rfl)) (pv 7) (fun _ _ => rfl))) (pw_and (pt_val (pe_ix (ixK (r := rIxL) (K := K) ix_list rfl) (pe_ix (ixK (r := rIxL) (K := K) ix_list rfl) (pv 5) (pv 7) (fun _ _ => rfl)) (pv 13) (fun _ _ => rfl))) (pw_and1 (pt_not (pt_val (pe_ix (ixK (r := rIxL) (K := K) ix_list rfl) (pe_ix (ixK (r := rIxL) (K := K) ix_list rfl) (pv 5) (pv 6) (fun _ _ => rfl)) (pv 13) (fun _ _ => rfl)))))))))) (fun _ _ _ _ _ => pe_int)) (pe_lst pa_nil) (nomark _))
              (pss_one (ps_ret pe_bl))
              pss_nil))))))))))
      (pss_cons (ps_set (i := 9) sc__law_order_right.nd rfl (.inl rfl) (pe_op op_fdivW (pv 2) pe_int))
      (pss_cons (ps_for PassesOwn.never rfl (pi_list (pv 3)) (pg_name (i := 6) sc__law_order_right.nd rfl (.inr rfl))
        (pss_one (ps_for PassesOwn.never rfl (pi_list (pv 3)) (pg_name (i := 7) sc__law_order_right.nd rfl (.inr rfl))
          (pss_cons (ps_set (i := 10) sc__law_order_right.nd rfl (.inl rfl) (pe_lst (pa_cons (pe_callG K_worked hg (hr.mono (by decide)) (by rfl) T.g_worked T.F_worked.kp T.b_worked .nil pass0 (pa_cons pe_str (pa_cons (pv 1) (pa_cons (pe_lst (pa_cons (pv 6) (pa_cons (pv 9) pa_nil))) pa_nil)))) (pa_cons (pe_callG K_worked hg (hr.mono (by decide)) (by rfl) T.g_worked T.F_worked.kp T.b_worked .nil pass0 (pa_cons pe_str (pa_cons (pv 1) (pa_cons (pe_lst (pa_cons (pv 7) (pa_cons (pv 9) pa_nil))) pa_nil)))) pa_nil))))
          (pss_cons (ps_set (i := 11) sc__law_order_right.nd rfl (.inl rfl) (pe_callG K_worked hg (hr.mono (by decide)) (by rfl) T.g_worked T.F_worked.kp T.b_worked .nil pass0 (pa_cons pe_str (pa_cons (pv 1) (pa_cons (pe_lst (pa_cons (pv 6) (pa_cons (pv 7) pa_nil))) pa_nil)))))
          (pss_cons (ps_if (PW.pt (pw_or (pt_cmpR op_ne (pe_callB (call_reprD hg hr.units) (by rfl) T.m_repr (by decide +kernel) (pa_cons (pe_callG K_worked hg (hr.mono (by decide)) (by rfl) T.g_worked T.F_worked.kp T.b_worked .nil pass0 (pa_cons pe_str (pa_cons (pv 1) (pa_cons (pv 10) pa_nil)))) pa_nil)) (pe_callB (call_reprD hg hr.units) (by rfl) T.m_repr (by decide +kernel) (pa_cons (pv 11) pa_nil)) (nomark _)) (pw_or1 (pt_cmpR op_ne (pe_callB (call_reprD hg hr.units) (by rfl) T.m_repr (by decide +kernel) (pa_cons (pe_cmpR op_lt (pe_callG K_signed hg (hr.mono (by decide)) (by rfl) T.g_signed T.F_signed.kp T.b_signed .nil pass0 (pa_cons (pv 6) (pa_cons (pv 1) pa_nil))) (pe_callG K_signed hg (hr.mono (by decide)) (by rfl) T.g_signed T.F_signed.kp T.b_signed .nil pass0 (pa_cons (pv 7) (pa_cons (pv 1) pa_nil))) (nomark _)) pa_nil)) (pe_callB (call_reprD hg hr.units) (by rfl) T.m_repr (by decide +kernel) (pa_cons (pv 11) pa_nil)) (nomark _)))))
            (pss_one (ps_ret pe_bl))
            pss_nil)
          (pss_one (ps_if (pt_cmpR op_ne (pe_callG K_worked hg (hr.mono (by decide)) (by rfl) T.g_worked T.F_worked.kp T.b_worked .nil pass0 (pa_cons pe_str (pa_cons (pv 1) (pa_cons (pe_lst (pa_cons (pv 6) (pa_cons (pv 7) pa_nil))) pa_nil)))) (pe_callG K_worked hg (hr.mono (by decide)) (by rfl) T.g_worked T.F_worked.kp T.b_worked .nil pass0 (pa_cons pe_str (pa_cons (pv 1) (pa_cons (pe_lst (pa_cons (pe_callG K_worked hg (hr.mono (by decide)) (by rfl) T.g_worked T.F_worked.kp T.b_worked .nil pass0 (pa_cons pe_str (pa_cons (pv 1) (pa_cons (pe_lst (pa_cons (pv 7) pa_nil)) pa_nil)))) (pa_cons (pe_callG K_worked hg (hr.mono (by decide)) (by rfl) T.g_worked T.F_worked.kp T.b_worked .nil pass0 (pa_cons pe_str (pa_cons (pv 1) (pa_cons (pe_lst (pa_cons (pv 6) pa_nil)) pa_nil)))) pa_nil))) pa_nil)))) (nomark _))
            (pss_one (ps_ret pe_bl))
            pss_nil))))))))
      (pss_one (ps_ret pe_bl))))))))), ?_⟩
  obtain ⟨a, c, n, rfl, tr, q⟩ := h
  walk_at "rd"
  refine ⟨_, _, rfl, a, c, 300, n + 99, rfl, rfl, by decide, by decide, tr, fun d H1 d0 d1 s1 t1 => ?_⟩
  refine ⟨_, rfl, by decide, fun p np => ?_⟩
  have sp1 := same_upd (o := .lst [V.int 1, V.int 2, V.int 3, V.int 8, V.int 64, V.int (1 + d), V.int 300]) np
  refine ⟨_, _, rfl, a, c, p, _, n + 98, rfl, rfl, .inl (.inl upd_same), tr_ne t1 np, (by show 0 < 7; decide), (by show 7 ≤ 1000; decide), t1.same sp1, fun v H2 hv s2 t2 => ?_⟩
  obtain ⟨W, rfl, w1, w300⟩ : ∃ W : Nat, v = .int (W : Int) ∧ 1 ≤ W ∧ W ≤ 300 := by
    simp only [List.mem_cons, List.not_mem_nil, or_false] at hv
    rcases hv with rfl | rfl | rfl | rfl | rfl | rfl | rfl
    · exact ⟨1, rfl, by decide, by decide⟩
    · exact ⟨2, rfl, by decide, by decide⟩
    · exact ⟨3, rfl, by decide, by decide⟩
    · exact ⟨8, rfl, by decide, by decide⟩
    · exact ⟨64, rfl, by decide, by decide⟩
    · exact ⟨(1 + d).toNat, by rw [Int.toNat_of_nonneg (by omega)], by omega, by omega⟩
    · exact ⟨300, rfl, by decide, by decide⟩
  refine ⟨_, rfl, shl_ok one_lt (by omega), ?_⟩
  rw [Int.toNat_natCast, Int.one_mul]
  have sA := (s1.trans (SameB.of sp1)).trans s2
  refine ⟨3, rfl, by decide, by decide, fun pw npw => ?_⟩
  refine lc_tray (a := a) (c := c) (m := n + 29) (kk := 23) walk_range (fun i => .int (0 + (i : Int))) (fun acc => ∃ ls : List Int, acc = ls.map V.int ∧ ∀ x ∈ ls, 0 ≤ x ∧ x < 2 ^ W) (fun i H x H' _ _ y => y) (by decide) (t2.less (by omega)) npw (fun _ _ => True.intro) ⟨[], rfl, by simp⟩ (fun i acc H R hi hl pa s t hR => ?_) fun acc H4 hl pa s4 t4 e4 => ?_
  · refine ⟨_, rfl, _, rfl, _, _, rfl, a, c, W, n + 29 + 23 * (3 - (i + 1)), rfl, rfl, by omega, t.less (by omega), fun r H5 r0 r1 s5 t5 => ?_⟩
    obtain ⟨ls, rfl, hls⟩ := pa
    refine hR _ _ ⟨ls ++ [r], by rw [List.map_append]; rfl, fun x hx => ?_⟩ s5 t5
    rcases List.mem_append.mp hx with h | h
    · exact hls x h
    · rw [List.mem_singleton.mp h]
      exact ⟨r0, r1⟩
  obtain ⟨ls, rfl, hls⟩ := pa
  rw [List.length_map] at hl
  have npwa : pw ≠ a := tr_ne t2 npw
  have hpw : H pw = none := nw sA npw npwa
  have sB4 := sA.trans s4
  refine ⟨MidO K H a c pw W n, ?_, ?_⟩
  · walk_at "rd"
    refine ⟨_, _, rfl, a, c, 3, n + 28, rfl, rfl, by decide, by decide, t4, fun d H5 d0 d1 s5 t5 => ?_⟩
    have e5 := s5 _ _ npwa e4
    refine ⟨rfl, ite2 (fun e => ?_) fun e => ?_⟩
    · refine ⟨_, _, rfl, a, c, 2, n + 27, rfl, rfl, by decide, by decide, t5, fun f H6 f0 f1 s6 t6 => ?_⟩
      have e6 := s6 _ _ npwa e5
      obtain ⟨x0, x1, x2, rfl⟩ : ∃ x0 x1 x2, ls = [x0, x1, x2] := by
        match ls, hl with
        | [x, y, z], _ => exact ⟨x, y, z, rfl⟩
      obtain ⟨y, hy, hat⟩ : ∃ y, y ∈ [x0, x1, x2] ∧ atI ([x0, x1, x2].map V.int) f = some (.int y) := by
        have hf : f = 0 ∨ f = 1 := by omega
        rcases hf with rfl | rfl
        · exact ⟨x0, by simp, rfl⟩
        · exact ⟨x1, by simp, rfl⟩
      have sU : SameB a H (upd H6 pw (.lst [.int x0, .int x1, .int y])) := upB ((sB4.trans s5).trans s6) hpw
      refine ixL (.inl (.inl e6)) hat (setL e6 (j := 2) rfl ⟨[x0, x1, y], _, _, _, _, _, _, _, _, _, _, rfl, rfl, fun x hx => ?_, sU, Tr.upN tr (t6.less (by omega)) sU npwa, upd_same⟩)
      simp only [List.mem_cons, List.not_mem_nil, or_false] at hx
      rcases hx with rfl | rfl | rfl
      · exact hls _ (by simp)
      · exact hls _ (by simp)
      · exact hls _ hy
    · exact ⟨ls, _, _, _, _, _, _, _, _, _, _, rfl, hl, hls, sB4.trans s5, t5.less (by omega), e5⟩
  · rintro σ H5 ⟨ls, y4, y5, y6, y7, y8, y9, y10, y11, y12, y13, rfl, hl, hls, s5, t5, e5⟩
    walk_at "rd"
    refine ⟨by decide, fun pl npl => ⟨pl, rfl, ⟨_, .inl (.inl upd_same)⟩, ?_⟩⟩
    have hD := same_upd (o := .tup [V.str "lt", V.str "less"]) npl
    generalize hH6 : upd H5 pl (.tup [V.str "lt", V.str "less"]) = H6 at hD ⊢
    have epl : SqT K H6 pl [V.str "lt", V.str "less"] := by
      rw [← hH6]
      exact .inl (.inl upd_same)
    have e6 := hD _ _ e5
    have t6 := t5.same hD
    refine for_it (walk_tup (xs := [V.str "lt", V.str "less"])) (fun i σ H' => Fz a pw W H6 σ H') ⟨_, _, _, _, _, _, _, _, _, _, rfl, Same.refl _⟩ (fun i σ H _ p => ?_) (fun i x σ H7 H' hi p y => ?_) fun σ H7 p => ?_
    · obtain ⟨_, _, _, _, _, _, _, _, _, _, _, s⟩ := p
      exact same_seqT s epl
    · obtain ⟨y4, y5, y6, y7, y8, y9, y10, y11, y12, y13, rfl, s7⟩ := p
      obtain ⟨rfl, hx⟩ := y
      walk_at "rd"
      obtain ⟨z, key, rfl, wkz, inj⟩ : ∃ (z : Str) (key : Int → Int), x = .str z ∧ (∀ i j : Int, 0 ≤ i → i < 2 ^ W → 0 ≤ j → j < 2 ^ W → Wk P w K mg base T W z [.int i, .int j] (.bl (decide (key i < key j)))) ∧ ∀ i j : Int, 0 ≤ i → i < 2 ^ W → 0 ≤ j → j < 2 ^ W → key i = key j → i = j := by
        have hi2 : i = 0 ∨ i = 1 := by
          have : i < 2 := hi
          omega
        rcases hi2 with rfl | rfl
        · cases hx
          exact ⟨"lt", id, rfl, fun i j h1 h2 h3 h4 => wk_lt T h1 h2 h3 h4, fun i j _ _ _ _ h => h⟩
        · cases hx
          exact ⟨"less", sgn W, rfl, fun i j h1 h2 h3 h4 => wk_less T w1 h1 h2 h3 h4, fun i j h1 h2 h3 h4 h => sgn_inj w1 h1 h2 h3 h4 h⟩
      have e7 := s7 _ _ e6
      refine ⟨_, rfl, pw, rfl, ⟨_, .inl (.inl e7)⟩, fun D nD => ?_⟩
      have Dpw : pw ≠ D := fun h => by
        rw [← h, e7] at nD
        cases nD
      refine lc_it (walk_list (xs := ls.map V.int)) (fun i H => TabI key ls D H' i H) ⟨[], rfl, same_upd nD, upd_same, fun k hk => absurd hk (Nat.not_lt_zero _)⟩ (fun i H _ p => ?_) (fun i x H8 H9 hi p y => ?_) fun H8 tab => ?_
      · obtain ⟨acc, _, s, _⟩ := p
        exact .inl (.inl (s _ _ e7))
      · obtain ⟨rfl, hx⟩ := y
        obtain rfl := at_ints hx
        rw [List.length_map] at hi
        obtain ⟨acc, hacc, s8, e8, rows⟩ := p
        refine ⟨rfl, thenT ?_⟩
        have e8w := s8 _ _ e7
        refine ⟨_, rfl, pw, rfl, ⟨_, .inl (.inl e8w)⟩, fun D2 nD2 => ?_⟩
        refine lc_name walk_list (fun i => .int (ls.getD i 0)) (fun j => .bl (decide (key (ls.getD i 0) < key (ls.getD j 0)))) (fun i H x H' hi _ y => ⟨y.1, at_ints y.2⟩) (by rw [List.length_map]; omega) nD2 (fun H5 s5 => .inl (.inl (s5 _ _ e8w))) (fun j H5 R hj s5 hR => ?_) fun H5 s5 e5 => ?_
        · rw [List.length_map] at hj
          have wi := getD_in hls hi
          have wj := getD_in hls hj
          exact ⟨_, rfl, _, rfl, _, rfl, _, rfl, (by show 2 ≤ sizeLine; decide), fun p np => wkd T w1 w300 (.inl (.inl (.inl upd_same))) (by show 2 ≤ 3; decide) (wkz _ _ wi.1 wi.2 wj.1 wj.2) fun H10 s10 => hR _ ((same_upd np).trans s10)⟩
        · have D2D : D2 ≠ D := fun h => by
            rw [h, e8] at nD2
            cases nD2
          have s85 := s8.trans s5
          refine ⟨acc, s5 _ _ e8, by rw [hacc]; exact Nat.lt_of_lt_of_le (show i < 1000 by omega) (Nat.le_of_lt (small1000 (Nat.le_refl _))), acc ++ [.ref D2], by rw [List.length_append, hacc]; rfl, fun b o e => ?_, upd_same, fun k hk => ?_⟩
          · rw [upd_ne (ne_of_none e nD)]
            exact s85 b o e
          · rcases Nat.lt_succ_iff_lt_or_eq.mp hk with hk | rfl
            · obtain ⟨r, rD, e1, e2⟩ := rows k hk
              refine ⟨r, rD, by rw [List.getElem?_append_left (by omega)]; exact e1, ?_⟩
              rw [upd_ne rD]
              exact s5 _ _ e2
            · refine ⟨D2, D2D, by rw [List.getElem?_append_right (by omega), hacc, Nat.sub_self]; rfl, ?_⟩
              rw [upd_ne D2D, e5, List.length_map]
              rfl
      · rw [List.length_map] at tab
        walk_at "rd"
        have s8 : Same H' H8 := let ⟨_, _, s, _⟩ := tab; s
        have e8 := s8 _ _ e7
        refine ⟨3, rfl, by decide, by decide, ?_⟩
        refine for_range (n := 3) (fun i σ H2 => Gz a pw D W z H8 σ H2) ⟨_, _, _, _, _, _, _, _, rfl, Same.refl _⟩ (fun i σ H9 hi p => ?_) fun σ H9 p => ?_
        · obtain ⟨y6, y7, y8, y9, y10, y11, y12, y13, rfl, s9⟩ := p
          walk_at "rd"
          refine ⟨3, rfl, by decide, by decide, ?_⟩
          rw [Int.zero_add]
          refine for_range (n := 3) (fun j σ H3 => Gz1 a pw D W z i H8 σ H3) ⟨_, _, _, _, _, _, _, rfl, s9⟩ (fun j σ H10 hj p => ?_) fun σ H10 p => ?_
          · obtain ⟨y7, y8, y9, y10, y11, y12, y13, rfl, s10⟩ := p
            walk_at "rd"
            rw [Int.zero_add]
            have wi := getD_in hls (show i < ls.length by omega)
            have wj := getD_in hls (show j < ls.length by omega)
            have e10 := s10 _ _ e8
            refine word_at e10 (by omega) (word_at e10 (by omega) ⟨by decide, fun p np => wkd T w1 w300 (.inr upd_same) (by show 2 ≤ 3; decide) (wk_eq T wi.1 wi.2 wj.1 wj.2) fun H11 s11 => ?_⟩)
            have sB11 := (same_upd np).trans s11
            have s811 := s10.trans sB11
            have e11 := sB11 _ _ e10
            have i3 : i < ls.length := by omega
            have j3 : j < ls.length := by omega
            have key1 := inj _ _ wi.1 wi.2 wj.1 wj.2
            refine reprB (word_at e11 i3 (word_at e11 j3 ⟨rfl, ?_⟩))
            simp only [V.int.injEq]
            refine reprB ⟨rfl, ?_⟩
            rw [decide_eq_true rfl]
            refine iteF (tab_at (tab.same s811) i3 j3 (tab_at (tab.same s811) j3 i3 ⟨by decide, fun p2 np2 => ⟨p2, [_, _, _], rfl, .inl (.inl upd_same), (by show 3 ≤ 1000; decide), fun p3 np3 => ?_⟩⟩))
            rw [sort3]
            · have s12 := fun o' => s811.trans ((same_upd np2).trans (same_upd (o := o') np3))
              refine reprS upd_same ⟨rfl, ?_⟩
              rw [decide_eq_true rfl]
              refine iteF ⟨3, rfl, by decide, by decide, fun D3 nD3 => ?_⟩
              refine lc_it walk_range (fun _ H => Same H8 H ∧ H D3 = some (.lst [])) ⟨(s12 _).trans (same_upd nD3), upd_same⟩ (fun _ _ _ _ => True.intro) (fun k x H13 H14 hk p y => ?_) fun H13 p => ?_
              · obtain ⟨rfl, rfl⟩ := y
                obtain ⟨s13, e13⟩ := p
                refine ⟨rfl, ?_⟩
                simp only [wipe, Int.zero_add]
                walk_at "rd"
                refine tab_at (tab.same s13) i3 j3 ⟨_, rfl, ite2 (fun h1 => ?_) fun _ => ⟨s13, e13⟩⟩
                refine tab_at (tab.same s13) j3 (show k < ls.length by omega) ⟨_, rfl, ite2 (fun h2 => ?_) fun _ => ⟨s13, e13⟩⟩
                refine tab_at (tab.same s13) i3 (show k < ls.length by omega) ⟨_, rfl, ?_⟩
                rw [decide_eq_true (Int.lt_trans (of_decide_eq_true h1) (of_decide_eq_true h2))]
                exact iteF ⟨s13, e13⟩
              · obtain ⟨s13, e13⟩ := p
                refine ⟨Nat.zero_le _, fun p4 np4 => ?_⟩
                exact ⟨_, _, .lst (.inl (.inl (same_upd np4 _ _ e13))) .nil, .lst (.inl (.inl upd_same)) .nil, rfl, rfl, _, rfl, iteF ⟨_, _, _, _, _, _, _, rfl, s13.trans (same_upd np4)⟩⟩
            · rcases Int.lt_trichotomy (key (ls.getD i 0)) (key (ls.getD j 0)) with h | h | h
              · exact .inl ⟨decide_eq_true h, decide_eq_false (by omega), decide_eq_false fun e => by rw [e] at h; omega⟩
              · exact .inr (.inr ⟨decide_eq_false (by omega), decide_eq_false (by omega), decide_eq_true (key1 h)⟩)
              · exact .inr (.inl ⟨decide_eq_false (by omega), decide_eq_true h, decide_eq_false fun e => by rw [e] at h; omega⟩)
          · obtain ⟨y7, y8, y9, y10, y11, y12, y13, rfl, s10⟩ := p
            exact ⟨_, _, _, _, _, _, _, _, rfl, s10⟩
        · obtain ⟨y6, y7, y8, y9, y10, y11, y12, y13, rfl, s9⟩ := p
          exact ⟨_, _, _, _, _, _, _, _, _, _, rfl, (s7.trans s8).trans s9⟩
    · obtain ⟨y4, y5, y6, y7, y8, y9, y10, y11, y12, y13, rfl, s7⟩ := p
      walk_at "rd"
      have e7 := s7 _ _ e6
      refine ⟨wide_div (b := 2) (by decide) (by decide) (by decide) (by decide), _, rfl, pw, rfl, ⟨_, .inl (.inl e7)⟩, ?_⟩
      refine for_it (walk_list (xs := ls.map V.int)) (fun _ σ H2 => Wz a pw W H7 σ H2) ⟨_, _, _, _, _, _, _, _, _, rfl, Same.refl _⟩ (fun i σ H _ p => ?_) (fun i x σ H8 H9 hi p y => ?_) fun σ H8 p => ?_
      · obtain ⟨_, _, _, _, _, _, _, _, _, _, s⟩ := p
        exact .inl (.inl (s _ _ e7))
      · obtain ⟨y4, y5, y6, y7, y8, y10, y11, y12, y13, rfl, s8⟩ := p
        obtain ⟨rfl, hx⟩ := y
        obtain rfl := at_ints hx
        rw [List.length_map] at hi
        walk_at "rd"
        have e8 := s8 _ _ e7
        refine ⟨_, rfl, pw, rfl, ⟨_, .inl (.inl e8)⟩, ?_⟩
        refine for_it (walk_list (xs := ls.map V.int)) (fun _ σ H2 => Wz1 a pw W (ls.getD i 0) H7 σ H2) ⟨_, _, _, _, _, _, _, _, rfl, s8⟩ (fun i σ H _ p => ?_) (fun j x σ H10 H11 hj p y => ?_) fun σ H10 p => ?_
        · obtain ⟨_, _, _, _, _, _, _, _, _, s⟩ := p
          exact .inl (.inl (s _ _ e7))
        · obtain ⟨y4, y5, y7, y8, y10, y11, y12, y13, rfl, s10⟩ := p
          obtain ⟨rfl, hx⟩ := y
          obtain rfl := at_ints hx
          rw [List.length_map] at hj
          have wi := getD_in hls hi
          have wj := getD_in hls hj
          generalize ls.getD i 0 = x at *
          generalize ls.getD j 0 = y at *
          walk_at "rd"
          obtain ⟨m, hm⟩ : ∃ m, W = m + 1 := ⟨W - 1, by omega⟩
          have hX : Builtin.bitXor x (2 ^ W / 2) = sgn W x + 2 ^ m := by
            rw [hm] at wi ⊢
            exact sgn_top wi.1 wi.2
          have hA : (y + 2 ^ W / 2) % 2 ^ W = sgn W y + 2 ^ m := by
            rw [hm] at wj ⊢
            exact add_top wj.1 wj.2
          have hh : (0 : Int) ≤ 2 ^ W / 2 ∧ (2 : Int) ^ W / 2 < 2 ^ W := by
            have := pow_pos2 W
            omega
          refine ⟨by decide, fun p1 n1 => wkd T w1 w300 (.inl (.inl (.inl upd_same))) (by show 2 ≤ 3; decide) (wk_xor T wi.1 wi.2 hh.1 hh.2) fun H12 s12 => ?_⟩
          refine ⟨by decide, fun p2 n2 => wkd T w1 w300 (.inl (.inl (.inl upd_same))) (by show 2 ≤ 3; decide) (wk_add T wj.1 wj.2 hh.1 hh.2) fun H13 s13 => ?_⟩
          refine ⟨by decide, fun p3 n3 => ⟨by decide, fun p4 n4 => wkd T w1 w300 (.inl (.inl (.inl upd_same))) (by show 2 ≤ 3; decide) (wk_less T w1 wi.1 wi.2 wj.1 wj.2) fun H14 s14 => ?_⟩⟩
          have e14 := s14 _ _ (same_upd n4 _ _ upd_same)
          have r1 := xor_in wi.1 hh.1 wi.2 hh.2
          refine wkd T w1 w300 (.inl (.inl (.inl e14))) (by show 2 ≤ 3; decide) (wk_lt T r1.1 r1.2 (mod_low _ _) (mod_high _ _)) fun H15 s15 => ?_
          have e1 : decide (Builtin.bitXor x (2 ^ W / 2) < (y + 2 ^ W / 2) % 2 ^ W) = decide (sgn W x < sgn W y) := by
            rw [hX, hA]
            exact decide_eq_decide.mpr (by omega)
          rw [e1]
          refine reprB (reprB ⟨rfl, ?_⟩)
          rw [decide_eq_true rfl]
          refine iteF ⟨_, _, rfl, x, W, rfl, rfl, w1, w300, wi.1, wi.2, ?_⟩
          refine ⟨_, _, rfl, y, W, rfl, rfl, w1, w300, wj.1, wj.2, ⟨_, rfl, _, rfl, reprB (reprB ⟨rfl, ?_⟩)⟩⟩
          rw [decide_eq_true rfl]
          refine iteF ⟨by decide, fun p5 n5 => wkd T w1 w300 (.inl (.inl (.inl upd_same))) (by show 2 ≤ 3; decide) (wk_lt T wi.1 wi.2 wj.1 wj.2) fun H16 s16 => ?_⟩
          refine ⟨by decide, fun p6 n6 => wkd T w1 w300 (.inl (.inl (.inl upd_same))) (by show 1 ≤ 3; decide) (wk_flip T wj.1 wj.2) fun H17 s17 => ?_⟩
          refine ⟨by decide, fun p7 n7 => wkd T w1 w300 (.inl (.inl (.inl upd_same))) (by show 1 ≤ 3; decide) (wk_flip T wi.1 wi.2) fun H18 s18 => ?_⟩
          have fi := flip_in wi.1 wi.2
          have fj := flip_in wj.1 wj.2
          refine ⟨by decide, fun p8 n8 => wkd T w1 w300 (.inl (.inl (.inl upd_same))) (by show 2 ≤ 3; decide) (wk_lt T fj.1 fj.2 fi.1 fi.2) fun H19 s19 => ⟨rfl, ?_⟩⟩
          have e2 : decide (Builtin.bitXor y (2 ^ W - 1) < Builtin.bitXor x (2 ^ W - 1)) = decide (x < y) := by
            rw [flip_eq wi.1 wi.2, flip_eq wj.1 wj.2]
            exact decide_eq_decide.mpr (by omega)
          rw [e2, decide_eq_true rfl]
          refine iteF ⟨_, _, _, _, _, _, _, _, rfl, ?_⟩
          have sa := (((same_upd n1).trans s12).trans ((same_upd n2).trans s13)).trans (((same_upd n3).trans (same_upd n4)).trans (s14.trans s15))
          have sb := (((same_upd n5).trans s16).trans ((same_upd n6).trans s17)).trans (((same_upd n7).trans s18).trans ((same_upd n8).trans s19))
          exact s10.trans (sa.trans sb)
        · obtain ⟨y4, y5, y7, y8, y10, y11, y12, y13, rfl, s10⟩ := p
          exact ⟨_, _, _, _, _, _, _, _, _, rfl, s10⟩
      · obtain ⟨y4, y5, y6, y7, y8, y10, y11, y12, y13, rfl, s8⟩ := p
        walk_at "rd"
        have sF := hD.trans (s7.trans s8)
        exact q _ (s5.trans (SameB.of sF)) (t5.same sF)
end
end K02
end
section
set_option maxHeartbeats 4000000
namespace K02
open PySem PySem.Spec PyProof.Rows L2 G1
local macro_rules | `(tactic| walk_at "rd") => `(tactic| simp only [tPar, tFmt, tJs, tM0, tM1, tSeq, tIfS, gName, gTup, gSub, gNil, gCons, List.cons.injEq, List.replicate_succ, tNot, tB, tRet, tC, tNext, tVar, tOp, tUn, tAnd, tOr, tAndV, tOrV, tNotV, tIf, tTest, tChain, tAsg, tCall, tCons, tNil, tCB, tDrop, tNever, tTup, tLst, tSl, tPart, tNoPart, tB, cx_K, cx_K', cx_w, cx_w', cx_mg', cx_P', cx_b', cx_mg, cx_P, cx_b, gUnl, Nat.reduceAdd, Nat.reduceSub, Nat.sub_self, Nat.zero_add, List.replicate_zero,
  rI, rI0, rU, rEq, rNe, L2.start, List.append_nil, List.cons_append, List.nil_append, List.map_cons, List.map_nil, List.length_cons, List.length_nil, List.getElem?_cons_zero, List.getElem?_cons_succ,
  List.replicate, List.set_cons_zero, List.set_cons_succ, exists_eq_left, exists_eq_left', exists_eq_right, exists_and_left, Option.some.injEq, V.bl.injEq, V.int.injEq, V.str.injEq, V.ref.injEq, true_and, and_true, if_true, if_false, Bool.false_eq_true, Bool.not_true, Bool.not_false, reduceIte, reduceCtorEq, ite_true, ite_false, decide_true, decide_false])
section
variable {P : Program} {w : World} {K : PySem.W.Frag} {mg : Str → Option Value} {base : Heap}
theorem cut_ints (ns : List Int) : ∃ ms : List Int, cutV (ns.map V.int) none (some 60) = ms.map V.int ∧ ms.length ≤ 60 := by
  unfold cutV
  rw [HT.sIx_none, show (some (60 : Int)) = some ((60 : Nat) : Int) from rfl, HT.sIx_nat, List.drop_zero, Nat.sub_zero]
  refine ⟨ns.take (min 60 (ns.map V.int).length), by rw [List.map_take], ?_⟩
  rw [List.length_take]
  omega
def sp__law_tray (K : PySem.W.Frag) : Sp := S1 fun x H Q => ∃ (l : Addr) (ns : List Int), x = .ref l ∧ SqL K H l (ns.map V.int) ∧ ns.length ≤ 1000 ∧ ∀ p H1, SameB p H H1 → (∃ c, Tr K H1 p c 1000000) → Q (.ref p) H1
theorem ok__law_tray (T : Txt w K mg) : FnG P w K mg base CX0 1 T.f__law_tray T.fd__law_tray ["_law_script"] (sp__law_tray K) := by
  refine okG T.F__law_tray sc__law_tray S1_len (fun cdv A outer s H vs Q E hg hr h => ?_)
  obtain ⟨v0, rfl, h⟩ := h
  refine ⟨_, (pss_one (ps_ret (pe_lst (pa_cons (pe_lc (own := [("_law_cell", 1)]) (g := gName 1) rfl sc__law_tray.nd (pi_list (pe_slice sl_list (pv 0) po_none (po_some pe_int))) (blkOk_by (own := [("_law_cell", 1)]) (N := ["_law_script", "_law_cell"]) (sc := defScope s__law_tray) (by decide +kernel)) (fun _ _ _ _ _ => pg_name (i := 1) sc__law_tray.nd rfl (Or.inl rfl)) (fun _ _ _ _ _ => pts_nil) (fun _ _ _ _ _ => (pe_callTy call_intI (by rfl) T.m_int (by decide +kernel) (pa_cons (pv 1) pa_nil)))) (pa_cons pe_int (pa_cons pe_int pa_nil)))))), ?_⟩
  obtain ⟨l, ns, rfl, hl, hn, q⟩ := h
  walk_at "rd"
  obtain ⟨ms, em, hm⟩ := cut_ints ns
  refine ⟨_, rfl, ⟨_, rfl, l, _, rfl, hl, fun r nr => ?_⟩⟩
  rw [em]
  have sr := same_upd (o := .lst (ms.map V.int)) nr
  refine ⟨r, rfl, ⟨_, .inl (.inl upd_same)⟩, fun D nD => ?_⟩
  refine lc_name (walk_list (xs := ms.map V.int)) (fun i => .int (ms.getD i 0)) (fun i => .int (ms.getD i 0)) (fun i H x H' hi _ y => ⟨y.1, at_ints y.2⟩) (by rw [List.length_map]; omega) nD (fun H5 s5 => .inl (.inl (s5 _ _ upd_same))) (fun i H5 R hi s5 hR => ?_) fun H5 s5 e5 => ?_
  · exact ⟨_, rfl, _, rfl, hR _ (Same.refl _)⟩
  · rw [List.length_map, range_getD 0 V.int] at e5
    refine ⟨by decide, fun p np => q p _ (SameB.of ((sr.trans s5).trans (same_upd np))) ⟨D, ms, 0, 0, ⟨upd_same, .inl (.inl (same_upd np _ _ e5)), fun h => ?_, hm, by decide⟩, by decide⟩⟩
    rw [← h, e5] at np
    cases np
def sp_law (K : PySem.W.Frag) : Sp := S1 fun x H Q => ∃ (l : Addr) (ns : List Int), x = .ref l ∧ SqL K H l (ns.map V.int) ∧ ns.length ≤ 1000 ∧ ∀ H1, Q (.bl true) H1
theorem ok_law (T : Txt w K mg) : FnG P w K mg base CX0 7 T.f_law T.fd_law ["_law_script"] (sp_law K) := by
  have K__law_tray := ok__law_tray (P := P) (base := base) T
  have K__law_cut_right := ok__law_cut_right (P := P) (base := base) T
  have K__law_order_right := ok__law_order_right (P := P) (base := base) T
  refine okG T.F_law sc_law S1_len (fun cdv A outer s H vs Q E hg hr h => ?_)
  obtain ⟨v0, rfl, h⟩ := h
  refine ⟨_, (pss_cons (ps_set (i := 1) sc_law.nd rfl (.inl rfl) (pe_callG K__law_tray hg (hr.mono (by decide)) (by rfl) T.g__law_tray T.F__law_tray.kp T.b__law_tray .nil pass0 (pa_cons (pv 0) pa_nil)))
      (pss_cons (ps_for PassesOwn.never rfl (pi_range1 (by rfl) T.m_range (pa_cons pe_int pa_nil)) (pg_name (i := 2) sc_law.nd rfl (.inl rfl))
        (pss_one (ps_if (PW.pt (pw_or (pt_not (pt_val (pe_callG K__law_cut_right hg (hr.mono (by decide)) (by rfl) T.g__law_cut_right T.F__law_cut_right.kp T.b__law_cut_right .nil pass0 (pa_cons (pv 1) pa_nil)))) (pw_or1 (pt_not (pt_val (pe_callG K__law_order_right hg (hr.mono (by decide)) (by rfl) T.g__law_order_right T.F__law_order_right.kp T.b__law_order_right .nil pass0 (pa_cons (pv 1) pa_nil)))))))
          (pss_one (ps_ret pe_bl))
          pss_nil)))
      (pss_one (ps_ret pe_bl)))), ?_⟩
  obtain ⟨l, ns, rfl, hl, hn, q⟩ := h
  walk_at "rd"
  refine ⟨_, rfl, l, ns, rfl, hl, hn, fun p H1 _ ⟨c, t1⟩ => ?_⟩
  refine ⟨2, rfl, by decide, by decide, for_range (n := 2) (fun i σ H' => ∃ y2, σ = [some (.ref l), some (.ref p), y2] ∧ Tr K H' p c (1000 * (2 - i))) ⟨none, rfl, t1.less (by decide)⟩ ?_ ?_⟩
  · rintro i σ H2 hi ⟨y2, rfl, t2⟩
    walk_at "rd"
    obtain ⟨N, hN⟩ : ∃ N, 1000 * (2 - i) = N + 1000 := ⟨1000 * (2 - (i + 1)), by omega⟩
    rw [hN] at t2
    refine ⟨_, rfl, p, c, N + 500, rfl, t2, fun H3 _ t3 => ⟨_, rfl, iteF ?_⟩⟩
    refine ⟨_, rfl, p, c, N + 400, rfl, t3, fun H4 _ t4 => ⟨_, rfl, iteF ?_⟩⟩
    exact t4.less (by omega)
  · rintro σ H2 ⟨y2, rfl, t2⟩
    walk_at "rd"
    exact q _
end
end K02
end
section
set_option maxHeartbeats 4000000
/-! the end: the law's promise, asked by the caller, where no repr is under way -/
namespace G1
open PySem PySem.Spec PyProof.Rows L2
def onlyAt (a : Addr) (o : HO) : Hp := fun b => if b = a then some o else none
theorem onlyAt_here {a b : Addr} {o : HO} (h : b = a) : onlyAt a o b = some o := if_pos h
theorem onlyAt_away {a b : Addr} {o : HO} (h : b ≠ a) : onlyAt a o b = none := if_neg h
theorem call_lawG {P : Program} {w : World} {K : PySem.W.Frag} {mg mb : Str → Option Value} {k : Nat} {fa a : Addr}
    {fd : FuncData} {x : Str} {sp : Sp} {s : Shared} {vs : List Value} {ns : List Int}
    (hK : K.In s.heap) (h1 : s.heap.Ns mainGlobals mg) (h2 : s.heap.Ns builtinsNs mb)
    (h3 : ∀ z : Str, z ≠ "__name__" → mb z = bootBuiltins z) (h4 : s.heap.NoLimit) (h5 : s.gens = #[])
    (obj : s.heap.get? a = some { cls := .type "list", data := .seq vs.toArray })
    (are : IntsAre vs ns) (few : ns.length ≤ sizeLine) (room : Room k callerA)
    (F : ∀ base : Heap, FnG P w K mg base CX0 k fa fd [x] sp)
    (bnd : ∀ (s : Shared) (u : Value), BindsTo s fd ⟨[u], []⟩ [(x, u)])
    (promise : ∀ H : Hp, SqL K H a (ns.map V.int) → sp [.ref a] H (fun v _ => v = .bl true) fun _ _ _ => False) :
    codeAny (model P w) callerA (.call (.ref fa) ⟨[.ref a], []⟩)
      (fun r s2 => r = .ok (.ret (.bool true)) ∧ OldK s.heap s2.heap ∧ s2.os = s.os ∧ AllBare s2.gens) s := by
  have rel := vals_ints are
  have len := are.length
  -- the heap that is tracked: the script, if it is none of the module's own
  obtain ⟨H, seq, ok, only, mine, frz⟩ : ∃ H : Hp, SqL K H a (ns.map V.int) ∧ HOk P w H s.heap ∧
      (∀ b, H b ≠ none → b = a) ∧ (H a ≠ none → K.lookup a = none) ∧ ∀ b u, H b = some u → ∃ o xs, u = .frz o (.lst xs) := by
    cases e : K.lookup a with
    | some o =>
      have same := hK a o e
      rw [obj] at same
      cases same
      refine ⟨fun _ => none, .inr ⟨_, vs.toArray, _, e, rfl, rfl, rfl, ?_, ?_⟩, fun b u z => ?_, fun b z => absurd rfl z,
        fun z => absurd rfl z, fun b u z => ?_⟩
      · rw [List.size_toArray, len]
        exact few
      · simpa using rel
      · cases (show (none : Option HO) = some u from z)
      · cases (show (none : Option HO) = some u from z)
    | none =>
      refine ⟨onlyAt a (.frz { cls := .type "list", data := .seq vs.toArray } (.lst (ns.map V.int))), .inl (.inr ⟨{ cls := .type "list", data := .seq vs.toArray }, onlyAt_here rfl⟩), fun b u z => ?_, fun b z => ?_,
        fun _ => rfl, fun b u z => ?_⟩
      · by_cases q : b = a
        · have z2 := (onlyAt_here q).symm.trans z
          cases z2
          subst q
          exact ⟨obj, by rw [List.length_map]; exact few, vs, _, rel, obj⟩
        · cases (onlyAt_away q).symm.trans z
      · by_cases q : b = a
        · exact q
        · exact absurd (onlyAt_away q) z
      · by_cases q : b = a
        · exact ⟨_, _, (Option.some.inj ((onlyAt_here q).symm.trans z)).symm⟩
        · cases (onlyAt_away q).symm.trans z
  have dictNone : ∀ {b : Addr} {o : Obj} {es : Array DictEntry} {n : Nat}, s.heap.get? b = some o → o.data = .dict es n → H b = none := by
    intro b o es n e d
    cases q : H b with
    | none => rfl
    | some u =>
      obtain rfl := only b (by rw [q]; exact fun z => nomatch z)
      rw [obj] at e
      cases e
      cases (show Data.seq vs.toArray _ = Data.dict es n from d)
  have ns' : ∀ {b : Addr} {m : Str → Option Value}, s.heap.Ns b m → (hidT s.heap H).Ns b m := by
    rintro b m ⟨o, es, n, e, d, r⟩
    exact ⟨o, es, n, hidT_get e (dictNone e d), d, r⟩
  have hK' : K.In (hidT s.heap H) := fun b o e => by
    refine hidT_get (hK b o e) ?_
    cases q : H b with
    | none => rfl
    | some u =>
      obtain rfl := only b (by rw [q]; exact fun z => nomatch z)
      rw [mine (by rw [q]; exact fun z => nomatch z)] at e
      cases e
  have md : Mod K mg (hidT s.heap H) := by
    refine ⟨hK', ns' h1, ⟨mb, ns' h2, h3⟩, ?_⟩
    obtain ⟨mc, c1, c2⟩ := h4
    exact ⟨mc, ns' c1, c2⟩
  have e0 : Env0 P w K mg (hidT s.heap H) callerA [] s H :=
    ⟨rfl, md, fun b o e => of_hidT e, Nat.le_of_eq (hidT_size _ _), trivial, fun b hb => (nomatch hb), ok, .of_eq h5⟩
  have run := (F (hidT s.heap H)).go callerA [] s H ⟨[.ref a], []⟩ [.ref a] [.ref a] _ _ rfl room e0 (bnd s (.ref a)) (.cons rfl .nil) (promise H seq)
  refine codeAny_mono run fun r s2 h => ?_
  match r, h with
  | .error e, h => exact (show False from h).elim
  | .ok .next, h => exact (show False from h).elim
  | .ok .brk, h => exact (show False from h).elim
  | .ok .cont, h => exact (show False from h).elim
  | .ok (.ret u), h =>
    obtain ⟨v, H2, os, bare, un, ok2, rv, q⟩ := h
    obtain rfl : v = .bl true := q
    obtain rfl : u = Value.bool true := rv
    refine ⟨rfl, OldK.of_keep fun b o e => ?_, os, bare⟩
    cases q : H b with
    | none => exact un.keep b o e q (fun z => (nomatch z)) (fun z => nomatch z)
    | some u =>
      obtain ⟨ob, xs, rfl⟩ := frz b u q
      have z2 := un.frzs b ob _ q
      obtain ⟨g1, _⟩ := ok b _ q
      obtain ⟨g2, _⟩ := ok2 b _ z2
      rw [e] at g1
      cases g1
      exact g2
theorem walk_G {l : PySem.W.OpenLaw} {n k : Nat} {q : Program} {loose : List Str} {XP : (Str → Option Value) → Heap → Prop}
    {YP : World → Heap → Prop} {d : DefRec} {K : Params → PySem.W.Frag} {sp : PySem.W.Frag → Sp} {x : Str}
    (hn : l.most = some n) (hn2 : n ≤ sizeLine) (hdf : d.params.defaults = []) (room : Room k callerA)
    (hY : ∀ (w : World) (h : Heap), YP w h → (K w.params).In h)
    (F : ∀ (w : World) (mg : Str → Option Value) (fa : Addr) (h : Heap), (K w.params).In h → h.Ns mainGlobals mg →
      mg d.name = some (.ref fa) → ∃ fd : FuncData, (∀ (s : Shared) (u : Value), BindsTo s fd ⟨[u], []⟩ [(x, u)]) ∧
        ∀ base : Heap, FnG l.prog w (K w.params) mg base CX0 k fa fd [x] (sp (K w.params)))
    (hsp : ∀ (K : PySem.W.Frag) (H : Hp) (a : Addr) (ns : List Int), ns.length ≤ n → SqL K H a (ns.map V.int) →
      sp K [.ref a] H (fun v _ => v = .bl true) fun _ _ _ => False) :
    PySem.W.WalkO q loose XP YP l.row.toRowW d [] (fun f vs => PySem.call f vs) := by
  refine Att.attach_call hn hdf fun w s0 s1 mg mb fa o pm cd doc a vs ns G Y ho hd hcd hmg hobj hints hlen hg => ?_
  have KX := hY w _ Y
  obtain ⟨fd, hb, hF⟩ := F w mg fa _ KX G.T.g hmg
  exact call_lawG KX G.T.g G.T.b G.T.builtins G.T.nolimit hg hobj hints (Nat.le_trans hlen hn2) room hF hb fun H hS => hsp _ H a ns hlen hS
end G1
end
section
set_option maxHeartbeats 4000000
namespace K02
open PySem PySem.Spec PyProof.Rows L2 G1
/-! ### the tables -/
def strsB : List Value → List Str → Bool
  | [], [] => true
  | .str x _ :: r, y :: s => decide (x = y) && strsB r s
  | _, _ => false
def tupOf (K : PySem.W.Frag) : Value → Option (List Value)
  | .ref a => match K.lookup a with
    | some ⟨.type c, _, .seq its _, _⟩ => if c = "tuple" then some its.toList else none
    | _ => none
  | _ => none
def shapeB (K : PySem.W.Frag) (a : Addr) (p : Str × Str × List Str) : Bool :=
  match PySem.W.nsIn K a p.1 with
  | some (some (.ref t)) => (match tupOf K (.ref t) with
    | some [.str s _, .ref q] => decide (s = p.2.1) && decide (p.2.2.length ≤ 1000) && (match tupOf K (.ref q) with
      | some r => strsB r p.2.2
      | none => false)
    | _ => false)
  | _ => false
theorem tupOf_some {K : PySem.W.Frag} {a : Addr} {r : List Value} (h : tupOf K (.ref a) = some r) : ∃ (o : Obj) (its : Array Value) (n : Nat), K.lookup a = some o ∧ o.cls = .type "tuple" ∧ o.data = .seq its n ∧ its.toList = r := by
  unfold tupOf at h
  cases e : K.lookup a with
  | none => simp [e] at h
  | some o =>
    obtain ⟨oc, od, dt, sl⟩ := o
    simp only [e] at h
    split at h
    · rename_i c d its n s q
      cases q
      split at h
      · rename_i hc
        cases h
        exact ⟨_, _, _, rfl, by rw [hc], rfl, rfl⟩
      · cases h
    · cases h
theorem strsB_ok : ∀ {r : List Value} {s : List Str}, strsB r s = true → Vals (s.map V.str) r
  | [], [], _ => .nil
  | [], _ :: _, h => by cases h
  | v :: r, [], h => by cases v <;> cases h
  | v :: r, y :: s, h => by
    cases v with
    | str x t =>
      have h2 : (decide (x = y) && strsB r s) = true := h
      rw [Bool.and_eq_true] at h2
      obtain rfl := of_decide_eq_true h2.1
      exact .cons ⟨t, rfl⟩ (strsB_ok h2.2)
    | _ => cases h
theorem dp_strs {K : PySem.W.Frag} {H : Hp} : ∀ s : List Str, DpAll K H (s.map V.str) (s.map PyData.str)
  | [] => .nil
  | x :: r => .cons (.str x) (dp_strs r)
theorem shapes_of {K : PySem.W.Frag} {a : Addr} (h : shapesT.all (shapeB K a) = true) : ∀ p ∈ shapesT, ∃ t, PySem.W.nsIn K a p.1 = some (some (.ref t)) ∧ ∀ H, Dp K H (.ref t) (.tuple [.str p.2.1, .tuple (p.2.2.map PyData.str)]) := by
  intro p hp
  have h1 := List.all_eq_true.mp h p hp
  unfold shapeB at h1
  split at h1
  · rename_i t e
    refine ⟨t, e, fun H => ?_⟩
    split at h1
    · rename_i s u q e2
      rw [Bool.and_eq_true, Bool.and_eq_true] at h1
      obtain ⟨⟨h2, h3⟩, h4⟩ := h1
      have h2 := of_decide_eq_true h2
      have h3 := of_decide_eq_true h3
      split at h4
      · rename_i r e3
        obtain ⟨o, its, n, l1, l2, l3, l4⟩ := tupOf_some e2
        obtain ⟨o', its', n', m1, m2, m3, m4⟩ := tupOf_some e3
        have hv := strsB_ok h4
        have hl : its'.size = p.2.2.length := by
          rw [← Array.length_toList, m4, ← hv.length, List.length_map]
        have hl2 : its.size = 2 := by
          rw [← Array.length_toList, l4]
          rfl
        refine .tup (xs := [.str p.2.1, .ref q]) (.inr ⟨o, its, n, l1, l2, l3, ?_, ?_⟩) (.cons (.str _) (.cons (.tup (xs := p.2.2.map V.str) (.inr ⟨o', its', n', m1, m2, m3, ?_, ?_⟩) (dp_strs _)) .nil))
        · rw [hl2]
          decide
        · rw [l4, h2]
          exact .cons ⟨u, rfl⟩ (.cons rfl .nil)
        · rw [hl]
          exact Nat.le_of_lt (small1000 h3)
        · rw [m4]
          exact hv
      · cases h4
    · cases h1
  · cases h1
/-! ### the facts of the top, gathered -/
theorem all_mk {l : PySem.W.OpenLaw} {w : World} {K : PySem.W.Frag} {h : Heap} {mg : Str → Option Value} {fa : Addr} (X : K.In h) (G : h.Ns mainGlobals mg) (hfa : mg "law" = some (.ref fa))
    {f0 : Addr} {o0 e0 p0 q0 r0 c0 : Value} {x0 y0 : Option Addr} {z0 : Array (Option Value)}
    (a0 : PySem.W.nsIn K mainGlobals "is_integer" = some (some (.ref f0)))
    (l0 : K.lookup f0 = some ⟨o0, x0, .func (PySem.W.fnOf "is_integer" "is_integer" (defArgs s_is_integer) (defBody s_is_integer) (defScope s_is_integer) .none e0 p0 q0 y0 r0 c0), z0⟩)
    (d0 : PySem.W.codeIn K r0 "is_integer" = true) (k0 : PySem.W.keepIn K (.ref f0) = true)
    {f1 : Addr} {o1 e1 p1 q1 r1 c1 : Value} {x1 y1 : Option Addr} {z1 : Array (Option Value)}
    (a1 : PySem.W.nsIn K mainGlobals "is_within" = some (some (.ref f1)))
    (l1 : K.lookup f1 = some ⟨o1, x1, .func (PySem.W.fnOf "is_within" "is_within" (defArgs s_is_within) (defBody s_is_within) (defScope s_is_within) .none e1 p1 q1 y1 r1 c1), z1⟩)
    (d1 : PySem.W.codeIn K r1 "is_within" = true) (k1 : PySem.W.keepIn K (.ref f1) = true)
    {f2 : Addr} {o2 e2 p2 q2 r2 c2 : Value} {x2 y2 : Option Addr} {z2 : Array (Option Value)}
    (a2 : PySem.W.nsIn K mainGlobals "is_list" = some (some (.ref f2)))
    (l2 : K.lookup f2 = some ⟨o2, x2, .func (PySem.W.fnOf "is_list" "is_list" (defArgs s_is_list) (defBody s_is_list) (defScope s_is_list) .none e2 p2 q2 y2 r2 c2), z2⟩)
    (d2 : PySem.W.codeIn K r2 "is_list" = true) (k2 : PySem.W.keepIn K (.ref f2) = true)
    {f3 : Addr} {o3 e3 p3 q3 r3 c3 : Value} {x3 y3 : Option Addr} {z3 : Array (Option Value)}
    (a3 : PySem.W.nsIn K mainGlobals "_shown" = some (some (.ref f3)))
    (l3 : K.lookup f3 = some ⟨o3, x3, .func (PySem.W.fnOf "_shown" "_shown" (defArgs s__shown) (defBody s__shown) (defScope s__shown) .none e3 p3 q3 y3 r3 c3), z3⟩)
    (d3 : PySem.W.codeIn K r3 "_shown" = true) (k3 : PySem.W.keepIn K (.ref f3) = true)
    {f4 : Addr} {o4 e4 p4 q4 r4 c4 : Value} {x4 y4 : Option Addr} {z4 : Array (Option Value)}
    (a4 : PySem.W.nsIn K mainGlobals "integer_of" = some (some (.ref f4)))
    (l4 : K.lookup f4 = some ⟨o4, x4, .func (PySem.W.fnOf "integer_of" "integer_of" (defArgs s_integer_of) (defBody s_integer_of) (defScope s_integer_of) .none e4 p4 q4 y4 r4 c4), z4⟩)
    (d4 : PySem.W.codeIn K r4 "integer_of" = true) (k4 : PySem.W.keepIn K (.ref f4) = true)
    {f5 : Addr} {o5 e5 p5 q5 r5 c5 : Value} {x5 y5 : Option Addr} {z5 : Array (Option Value)}
    (a5 : PySem.W.nsIn K mainGlobals "shift_of" = some (some (.ref f5)))
    (l5 : K.lookup f5 = some ⟨o5, x5, .func (PySem.W.fnOf "shift_of" "shift_of" (defArgs s_shift_of) (defBody s_shift_of) (defScope s_shift_of) .none e5 p5 q5 y5 r5 c5), z5⟩)
    (d5 : PySem.W.codeIn K r5 "shift_of" = true) (k5 : PySem.W.keepIn K (.ref f5) = true)
    {f6 : Addr} {o6 e6 p6 q6 r6 c6 : Value} {x6 y6 : Option Addr} {z6 : Array (Option Value)}
    (a6 : PySem.W.nsIn K mainGlobals "check_width" = some (some (.ref f6)))
    (l6 : K.lookup f6 = some ⟨o6, x6, .func (PySem.W.fnOf "check_width" "check_width" (defArgs s_check_width) (defBody s_check_width) (defScope s_check_width) .none e6 p6 q6 y6 r6 c6), z6⟩)
    (d6 : PySem.W.codeIn K r6 "check_width" = true) (k6 : PySem.W.keepIn K (.ref f6) = true)
    {f7 : Addr} {o7 e7 p7 q7 r7 c7 : Value} {x7 y7 : Option Addr} {z7 : Array (Option Value)}
    (a7 : PySem.W.nsIn K mainGlobals "mask_of" = some (some (.ref f7)))
    (l7 : K.lookup f7 = some ⟨o7, x7, .func (PySem.W.fnOf "mask_of" "mask_of" (defArgs s_mask_of) (defBody s_mask_of) (defScope s_mask_of) .none e7 p7 q7 y7 r7 c7), z7⟩)
    (d7 : PySem.W.codeIn K r7 "mask_of" = true) (k7 : PySem.W.keepIn K (.ref f7) = true)
    {f8 : Addr} {o8 e8 p8 q8 r8 c8 : Value} {x8 y8 : Option Addr} {z8 : Array (Option Value)}
    (a8 : PySem.W.nsIn K mainGlobals "word" = some (some (.ref f8)))
    (l8 : K.lookup f8 = some ⟨o8, x8, .func (PySem.W.fnOf "word" "word" (defArgs s_word) (defBody s_word) (defScope s_word) .none e8 p8 q8 y8 r8 c8), z8⟩)
    (d8 : PySem.W.codeIn K r8 "word" = true) (k8 : PySem.W.keepIn K (.ref f8) = true)
    {f9 : Addr} {o9 e9 p9 q9 r9 c9 : Value} {x9 y9 : Option Addr} {z9 : Array (Option Value)}
    (a9 : PySem.W.nsIn K mainGlobals "signed" = some (some (.ref f9)))
    (l9 : K.lookup f9 = some ⟨o9, x9, .func (PySem.W.fnOf "signed" "signed" (defArgs s_signed) (defBody s_signed) (defScope s_signed) .none e9 p9 q9 y9 r9 c9), z9⟩)
    (d9 : PySem.W.codeIn K r9 "signed" = true) (k9 : PySem.W.keepIn K (.ref f9) = true)
    {f10 : Addr} {o10 e10 p10 q10 r10 c10 : Value} {x10 y10 : Option Addr} {z10 : Array (Option Value)}
    (a10 : PySem.W.nsIn K mainGlobals "shape_of" = some (some (.ref f10)))
    (l10 : K.lookup f10 = some ⟨o10, x10, .func (PySem.W.fnOf "shape_of" "shape_of" (defArgs s_shape_of) (defBody s_shape_of) (defScope s_shape_of) .none e10 p10 q10 y10 r10 c10), z10⟩)
    (d10 : PySem.W.codeIn K r10 "shape_of" = true) (k10 : PySem.W.keepIn K (.ref f10) = true)
    {f11 : Addr} {o11 e11 p11 q11 r11 c11 : Value} {x11 y11 : Option Addr} {z11 : Array (Option Value)}
    (a11 : PySem.W.nsIn K mainGlobals "worked" = some (some (.ref f11)))
    (l11 : K.lookup f11 = some ⟨o11, x11, .func (PySem.W.fnOf "worked" "worked" (defArgs s_worked) (defBody s_worked) (defScope s_worked) .none e11 p11 q11 y11 r11 c11), z11⟩)
    (d11 : PySem.W.codeIn K r11 "worked" = true) (k11 : PySem.W.keepIn K (.ref f11) = true)
    {f12 : Addr} {o12 e12 p12 q12 r12 c12 : Value} {x12 y12 : Option Addr} {z12 : Array (Option Value)}
    (a12 : PySem.W.nsIn K mainGlobals "_is_of" = some (some (.ref f12)))
    (l12 : K.lookup f12 = some ⟨o12, x12, .func (PySem.W.fnOf "_is_of" "_is_of" (defArgs s__is_of) (defBody s__is_of) (defScope s__is_of) .none e12 p12 q12 y12 r12 c12), z12⟩)
    (d12 : PySem.W.codeIn K r12 "_is_of" = true) (k12 : PySem.W.keepIn K (.ref f12) = true)
    {f13 : Addr} {o13 e13 p13 q13 r13 c13 : Value} {x13 y13 : Option Addr} {z13 : Array (Option Value)}
    (a13 : PySem.W.nsIn K mainGlobals "action_of" = some (some (.ref f13)))
    (l13 : K.lookup f13 = some ⟨o13, x13, .func (PySem.W.fnOf "action_of" "action_of" (defArgs s_action_of) (defBody s_action_of) (defScope s_action_of) .none e13 p13 q13 y13 r13 c13), z13⟩)
    (d13 : PySem.W.codeIn K r13 "action_of" = true) (k13 : PySem.W.keepIn K (.ref f13) = true)
    {f14 : Addr} {o14 e14 p14 q14 r14 c14 : Value} {x14 y14 : Option Addr} {z14 : Array (Option Value)}
    (a14 : PySem.W.nsIn K mainGlobals "_added" = some (some (.ref f14)))
    (l14 : K.lookup f14 = some ⟨o14, x14, .func (PySem.W.fnOf "_added" "_added" (defArgs s__added) (defBody s__added) (defScope s__added) .none e14 p14 q14 y14 r14 c14), z14⟩)
    (d14 : PySem.W.codeIn K r14 "_added" = true) (k14 : PySem.W.keepIn K (.ref f14) = true)
    {f15 : Addr} {o15 e15 p15 q15 r15 c15 : Value} {x15 y15 : Option Addr} {z15 : Array (Option Value)}
    (a15 : PySem.W.nsIn K mainGlobals "_less_of" = some (some (.ref f15)))
    (l15 : K.lookup f15 = some ⟨o15, x15, .func (PySem.W.fnOf "_less_of" "_less_of" (defArgs s__less_of) (defBody s__less_of) (defScope s__less_of) .none e15 p15 q15 y15 r15 c15), z15⟩)
    (d15 : PySem.W.codeIn K r15 "_less_of" = true) (k15 : PySem.W.keepIn K (.ref f15) = true)
    {f16 : Addr} {o16 e16 p16 q16 r16 c16 : Value} {x16 y16 : Option Addr} {z16 : Array (Option Value)}
    (a16 : PySem.W.nsIn K mainGlobals "_times" = some (some (.ref f16)))
    (l16 : K.lookup f16 = some ⟨o16, x16, .func (PySem.W.fnOf "_times" "_times" (defArgs s__times) (defBody s__times) (defScope s__times) .none e16 p16 q16 y16 r16 c16), z16⟩)
    (d16 : PySem.W.codeIn K r16 "_times" = true) (k16 : PySem.W.keepIn K (.ref f16) = true)
    {f17 : Addr} {o17 e17 p17 q17 r17 c17 : Value} {x17 y17 : Option Addr} {z17 : Array (Option Value)}
    (a17 : PySem.W.nsIn K mainGlobals "_bits_in_both" = some (some (.ref f17)))
    (l17 : K.lookup f17 = some ⟨o17, x17, .func (PySem.W.fnOf "_bits_in_both" "_bits_in_both" (defArgs s__bits_in_both) (defBody s__bits_in_both) (defScope s__bits_in_both) .none e17 p17 q17 y17 r17 c17), z17⟩)
    (d17 : PySem.W.codeIn K r17 "_bits_in_both" = true) (k17 : PySem.W.keepIn K (.ref f17) = true)
    {f18 : Addr} {o18 e18 p18 q18 r18 c18 : Value} {x18 y18 : Option Addr} {z18 : Array (Option Value)}
    (a18 : PySem.W.nsIn K mainGlobals "_bits_in_any" = some (some (.ref f18)))
    (l18 : K.lookup f18 = some ⟨o18, x18, .func (PySem.W.fnOf "_bits_in_any" "_bits_in_any" (defArgs s__bits_in_any) (defBody s__bits_in_any) (defScope s__bits_in_any) .none e18 p18 q18 y18 r18 c18), z18⟩)
    (d18 : PySem.W.codeIn K r18 "_bits_in_any" = true) (k18 : PySem.W.keepIn K (.ref f18) = true)
    {f19 : Addr} {o19 e19 p19 q19 r19 c19 : Value} {x19 y19 : Option Addr} {z19 : Array (Option Value)}
    (a19 : PySem.W.nsIn K mainGlobals "_bits_in_one" = some (some (.ref f19)))
    (l19 : K.lookup f19 = some ⟨o19, x19, .func (PySem.W.fnOf "_bits_in_one" "_bits_in_one" (defArgs s__bits_in_one) (defBody s__bits_in_one) (defScope s__bits_in_one) .none e19 p19 q19 y19 r19 c19), z19⟩)
    (d19 : PySem.W.codeIn K r19 "_bits_in_one" = true) (k19 : PySem.W.keepIn K (.ref f19) = true)
    {f20 : Addr} {o20 e20 p20 q20 r20 c20 : Value} {x20 y20 : Option Addr} {z20 : Array (Option Value)}
    (a20 : PySem.W.nsIn K mainGlobals "_negative" = some (some (.ref f20)))
    (l20 : K.lookup f20 = some ⟨o20, x20, .func (PySem.W.fnOf "_negative" "_negative" (defArgs s__negative) (defBody s__negative) (defScope s__negative) .none e20 p20 q20 y20 r20 c20), z20⟩)
    (d20 : PySem.W.codeIn K r20 "_negative" = true) (k20 : PySem.W.keepIn K (.ref f20) = true)
    {f21 : Addr} {o21 e21 p21 q21 r21 c21 : Value} {x21 y21 : Option Addr} {z21 : Array (Option Value)}
    (a21 : PySem.W.nsIn K mainGlobals "_flipped" = some (some (.ref f21)))
    (l21 : K.lookup f21 = some ⟨o21, x21, .func (PySem.W.fnOf "_flipped" "_flipped" (defArgs s__flipped) (defBody s__flipped) (defScope s__flipped) .none e21 p21 q21 y21 r21 c21), z21⟩)
    (d21 : PySem.W.codeIn K r21 "_flipped" = true) (k21 : PySem.W.keepIn K (.ref f21) = true)
    {f22 : Addr} {o22 e22 p22 q22 r22 c22 : Value} {x22 y22 : Option Addr} {z22 : Array (Option Value)}
    (a22 : PySem.W.nsIn K mainGlobals "_shifted" = some (some (.ref f22)))
    (l22 : K.lookup f22 = some ⟨o22, x22, .func (PySem.W.fnOf "_shifted" "_shifted" (defArgs s__shifted) (defBody s__shifted) (defScope s__shifted) .none e22 p22 q22 y22 r22 c22), z22⟩)
    (d22 : PySem.W.codeIn K r22 "_shifted" = true) (k22 : PySem.W.keepIn K (.ref f22) = true)
    {f23 : Addr} {o23 e23 p23 q23 r23 c23 : Value} {x23 y23 : Option Addr} {z23 : Array (Option Value)}
    (a23 : PySem.W.nsIn K mainGlobals "_chosen" = some (some (.ref f23)))
    (l23 : K.lookup f23 = some ⟨o23, x23, .func (PySem.W.fnOf "_chosen" "_chosen" (defArgs s__chosen) (defBody s__chosen) (defScope s__chosen) .none e23 p23 q23 y23 r23 c23), z23⟩)
    (d23 : PySem.W.codeIn K r23 "_chosen" = true) (k23 : PySem.W.keepIn K (.ref f23) = true)
    {f24 : Addr} {o24 e24 p24 q24 r24 c24 : Value} {x24 y24 : Option Addr} {z24 : Array (Option Value)}
    (a24 : PySem.W.nsIn K mainGlobals "_is_equal" = some (some (.ref f24)))
    (l24 : K.lookup f24 = some ⟨o24, x24, .func (PySem.W.fnOf "_is_equal" "_is_equal" (defArgs s__is_equal) (defBody s__is_equal) (defScope s__is_equal) .none e24 p24 q24 y24 r24 c24), z24⟩)
    (d24 : PySem.W.codeIn K r24 "_is_equal" = true) (k24 : PySem.W.keepIn K (.ref f24) = true)
    {f25 : Addr} {o25 e25 p25 q25 r25 c25 : Value} {x25 y25 : Option Addr} {z25 : Array (Option Value)}
    (a25 : PySem.W.nsIn K mainGlobals "_is_below" = some (some (.ref f25)))
    (l25 : K.lookup f25 = some ⟨o25, x25, .func (PySem.W.fnOf "_is_below" "_is_below" (defArgs s__is_below) (defBody s__is_below) (defScope s__is_below) .none e25 p25 q25 y25 r25 c25), z25⟩)
    (d25 : PySem.W.codeIn K r25 "_is_below" = true) (k25 : PySem.W.keepIn K (.ref f25) = true)
    {f26 : Addr} {o26 e26 p26 q26 r26 c26 : Value} {x26 y26 : Option Addr} {z26 : Array (Option Value)}
    (a26 : PySem.W.nsIn K mainGlobals "_is_less" = some (some (.ref f26)))
    (l26 : K.lookup f26 = some ⟨o26, x26, .func (PySem.W.fnOf "_is_less" "_is_less" (defArgs s__is_less) (defBody s__is_less) (defScope s__is_less) .none e26 p26 q26 y26 r26 c26), z26⟩)
    (d26 : PySem.W.codeIn K r26 "_is_less" = true) (k26 : PySem.W.keepIn K (.ref f26) = true)
    {f27 : Addr} {o27 e27 p27 q27 r27 c27 : Value} {x27 y27 : Option Addr} {z27 : Array (Option Value)}
    (a27 : PySem.W.nsIn K mainGlobals "_are_both" = some (some (.ref f27)))
    (l27 : K.lookup f27 = some ⟨o27, x27, .func (PySem.W.fnOf "_are_both" "_are_both" (defArgs s__are_both) (defBody s__are_both) (defScope s__are_both) .none e27 p27 q27 y27 r27 c27), z27⟩)
    (d27 : PySem.W.codeIn K r27 "_are_both" = true) (k27 : PySem.W.keepIn K (.ref f27) = true)
    {f28 : Addr} {o28 e28 p28 q28 r28 c28 : Value} {x28 y28 : Option Addr} {z28 : Array (Option Value)}
    (a28 : PySem.W.nsIn K mainGlobals "_is_either" = some (some (.ref f28)))
    (l28 : K.lookup f28 = some ⟨o28, x28, .func (PySem.W.fnOf "_is_either" "_is_either" (defArgs s__is_either) (defBody s__is_either) (defScope s__is_either) .none e28 p28 q28 y28 r28 c28), z28⟩)
    (d28 : PySem.W.codeIn K r28 "_is_either" = true) (k28 : PySem.W.keepIn K (.ref f28) = true)
    {f29 : Addr} {o29 e29 p29 q29 r29 c29 : Value} {x29 y29 : Option Addr} {z29 : Array (Option Value)}
    (a29 : PySem.W.nsIn K mainGlobals "_is_not" = some (some (.ref f29)))
    (l29 : K.lookup f29 = some ⟨o29, x29, .func (PySem.W.fnOf "_is_not" "_is_not" (defArgs s__is_not) (defBody s__is_not) (defScope s__is_not) .none e29 p29 q29 y29 r29 c29), z29⟩)
    (d29 : PySem.W.codeIn K r29 "_is_not" = true) (k29 : PySem.W.keepIn K (.ref f29) = true)
    {f30 : Addr} {o30 e30 p30 q30 r30 c30 : Value} {x30 y30 : Option Addr} {z30 : Array (Option Value)}
    (a30 : PySem.W.nsIn K mainGlobals "_law_tray" = some (some (.ref f30)))
    (l30 : K.lookup f30 = some ⟨o30, x30, .func (PySem.W.fnOf "_law_tray" "_law_tray" (defArgs s__law_tray) (defBody s__law_tray) (defScope s__law_tray) .none e30 p30 q30 y30 r30 c30), z30⟩)
    (d30 : PySem.W.codeIn K r30 "_law_tray" = true) (k30 : PySem.W.keepIn K (.ref f30) = true)
    {f31 : Addr} {o31 e31 p31 q31 r31 c31 : Value} {x31 y31 : Option Addr} {z31 : Array (Option Value)}
    (a31 : PySem.W.nsIn K mainGlobals "_law_dip" = some (some (.ref f31)))
    (l31 : K.lookup f31 = some ⟨o31, x31, .func (PySem.W.fnOf "_law_dip" "_law_dip" (defArgs s__law_dip) (defBody s__law_dip) (defScope s__law_dip) .none e31 p31 q31 y31 r31 c31), z31⟩)
    (d31 : PySem.W.codeIn K r31 "_law_dip" = true) (k31 : PySem.W.keepIn K (.ref f31) = true)
    {f32 : Addr} {o32 e32 p32 q32 r32 c32 : Value} {x32 y32 : Option Addr} {z32 : Array (Option Value)}
    (a32 : PySem.W.nsIn K mainGlobals "_law_take" = some (some (.ref f32)))
    (l32 : K.lookup f32 = some ⟨o32, x32, .func (PySem.W.fnOf "_law_take" "_law_take" (defArgs s__law_take) (defBody s__law_take) (defScope s__law_take) .none e32 p32 q32 y32 r32 c32), z32⟩)
    (d32 : PySem.W.codeIn K r32 "_law_take" = true) (k32 : PySem.W.keepIn K (.ref f32) = true)
    {f33 : Addr} {o33 e33 p33 q33 r33 c33 : Value} {x33 y33 : Option Addr} {z33 : Array (Option Value)}
    (a33 : PySem.W.nsIn K mainGlobals "_law_great" = some (some (.ref f33)))
    (l33 : K.lookup f33 = some ⟨o33, x33, .func (PySem.W.fnOf "_law_great" "_law_great" (defArgs s__law_great) (defBody s__law_great) (defScope s__law_great) .none e33 p33 q33 y33 r33 c33), z33⟩)
    (d33 : PySem.W.codeIn K r33 "_law_great" = true) (k33 : PySem.W.keepIn K (.ref f33) = true)
    {f34 : Addr} {o34 e34 p34 q34 r34 c34 : Value} {x34 y34 : Option Addr} {z34 : Array (Option Value)}
    (a34 : PySem.W.nsIn K mainGlobals "_law_word" = some (some (.ref f34)))
    (l34 : K.lookup f34 = some ⟨o34, x34, .func (PySem.W.fnOf "_law_word" "_law_word" (defArgs s__law_word) (defBody s__law_word) (defScope s__law_word) .none e34 p34 q34 y34 r34 c34), z34⟩)
    (d34 : PySem.W.codeIn K r34 "_law_word" = true) (k34 : PySem.W.keepIn K (.ref f34) = true)
    {f35 : Addr} {o35 e35 p35 q35 r35 c35 : Value} {x35 y35 : Option Addr} {z35 : Array (Option Value)}
    (a35 : PySem.W.nsIn K mainGlobals "_law_cut_right" = some (some (.ref f35)))
    (l35 : K.lookup f35 = some ⟨o35, x35, .func (PySem.W.fnOf "_law_cut_right" "_law_cut_right" (defArgs s__law_cut_right) (defBody s__law_cut_right) (defScope s__law_cut_right) .none e35 p35 q35 y35 r35 c35), z35⟩)
    (d35 : PySem.W.codeIn K r35 "_law_cut_right" = true) (k35 : PySem.W.keepIn K (.ref f35) = true)
    {f36 : Addr} {o36 e36 p36 q36 r36 c36 : Value} {x36 y36 : Option Addr} {z36 : Array (Option Value)}
    (a36 : PySem.W.nsIn K mainGlobals "_law_order_right" = some (some (.ref f36)))
    (l36 : K.lookup f36 = some ⟨o36, x36, .func (PySem.W.fnOf "_law_order_right" "_law_order_right" (defArgs s__law_order_right) (defBody s__law_order_right) (defScope s__law_order_right) .none e36 p36 q36 y36 r36 c36), z36⟩)
    (d36 : PySem.W.codeIn K r36 "_law_order_right" = true) (k36 : PySem.W.keepIn K (.ref f36) = true)
    {f37 : Addr} {o37 e37 p37 q37 r37 c37 : Value} {x37 y37 : Option Addr} {z37 : Array (Option Value)}
    (a37 : PySem.W.nsIn K mainGlobals "law" = some (some (.ref f37)))
    (l37 : K.lookup f37 = some ⟨o37, x37, .func (PySem.W.fnOf "law" "law" (defArgs s_law) (defBody s_law) (defScope s_law) .none e37 p37 q37 y37 r37 c37), z37⟩)
    (d37 : PySem.W.codeIn K r37 "law" = true) (k37 : PySem.W.keepIn K (.ref f37) = true)
    {t_DIGITS : Tok} (cc_DIGITS : PySem.W.nsIn K mainGlobals "DIGITS" = some (some (.str "0123456789" t_DIGITS)))
    {t_MOST_DIGITS : Tok} (cc_MOST_DIGITS : PySem.W.nsIn K mainGlobals "MOST_DIGITS" = some (some (.int 10 t_MOST_DIGITS)))
    {t_MOST_WIDTH : Tok} (cc_MOST_WIDTH : PySem.W.nsIn K mainGlobals "MOST_WIDTH" = some (some (.int 300 t_MOST_WIDTH)))
    (n_abs : PySem.W.nsIn K mainGlobals "abs" = some none)
    (n_all : PySem.W.nsIn K mainGlobals "all" = some none)
    (n_bool : PySem.W.nsIn K mainGlobals "bool" = some none)
    (n_int : PySem.W.nsIn K mainGlobals "int" = some none)
    (n_isinstance : PySem.W.nsIn K mainGlobals "isinstance" = some none)
    (n_len : PySem.W.nsIn K mainGlobals "len" = some none)
    (n_list : PySem.W.nsIn K mainGlobals "list" = some none)
    (n_range : PySem.W.nsIn K mainGlobals "range" = some none)
    (n_repr : PySem.W.nsIn K mainGlobals "repr" = some none)
    (n_sorted : PySem.W.nsIn K mainGlobals "sorted" = some none)
    (n_str : PySem.W.nsIn K mainGlobals "str" = some none)
    (n_tuple : PySem.W.nsIn K mainGlobals "tuple" = some none)
    (n_zip : PySem.W.nsIn K mainGlobals "zip" = some none)
    {sA aA : Addr} {sE aE : Array DictEntry} {sN aN : Nat}
    (s1 : PySem.W.nsIn K mainGlobals "SHAPES" = some (some (.ref sA))) (s2 : K.lookup sA = some ⟨.type "dict", none, .dict sE sN, #[]⟩) (s3 : PySem.W.KeysLit w.params sE.toList) (s4 : (sA == sysModules) = false) (s5 : (shapesT.all (shapeB K sA)) = true)
    (t1 : PySem.W.nsIn K mainGlobals "ACTIONS" = some (some (.ref aA))) (t2 : K.lookup aA = some ⟨.type "dict", none, .dict aE aN, #[]⟩) (t3 : PySem.W.KeysLit w.params aE.toList) (t4 : (aA == sysModules) = false)
    (v_add : PySem.W.nsIn K aA "add" = some (some (.ref f14)))
    (v_sub : PySem.W.nsIn K aA "sub" = some (some (.ref f15)))
    (v_mul : PySem.W.nsIn K aA "mul" = some (some (.ref f16)))
    (v_and : PySem.W.nsIn K aA "and" = some (some (.ref f17)))
    (v_or : PySem.W.nsIn K aA "or" = some (some (.ref f18)))
    (v_xor : PySem.W.nsIn K aA "xor" = some (some (.ref f19)))
    (v_neg : PySem.W.nsIn K aA "neg" = some (some (.ref f20)))
    (v_flip : PySem.W.nsIn K aA "flip" = some (some (.ref f21)))
    (v_if : PySem.W.nsIn K aA "if" = some (some (.ref f23)))
    (v_eq : PySem.W.nsIn K aA "eq" = some (some (.ref f24)))
    (v_lt : PySem.W.nsIn K aA "lt" = some (some (.ref f25)))
    (v_less : PySem.W.nsIn K aA "less" = some (some (.ref f26)))
    (v_both : PySem.W.nsIn K aA "both" = some (some (.ref f27)))
    (v_either : PySem.W.nsIn K aA "either" = some (some (.ref f28)))
    (v_no : PySem.W.nsIn K aA "no" = some (some (.ref f29)))
    : ∃ fd : FuncData, (∀ (s : Shared) (u : Value), BindsTo s fd ⟨[u], []⟩ [("_law_script", u)]) ∧ ∀ base : Heap, FnG l.prog w K mg base CX0 7 fa fd ["_law_script"] (sp_law K) := by
  have e : f37 = fa := by
    have e1 := hfa.symm.trans (PySem.W.mg_of X G a37)
    cases e1
    rfl
  subst e
  let T : Txt w K mg := {
    f_is_integer := f0, fd_is_integer := _, F_is_integer := fun_mk l0 d0 k0, g_is_integer := PySem.W.mg_of X G a0, b_is_integer := (fun_mk (st := s_is_integer) l0 d0 k0).binds fun _ _ _ _ _ _ us hl => match us, hl with | [_], _ => rfl,
    f_is_within := f1, fd_is_within := _, F_is_within := fun_mk l1 d1 k1, g_is_within := PySem.W.mg_of X G a1, b_is_within := (fun_mk (st := s_is_within) l1 d1 k1).binds fun _ _ _ _ _ _ us hl => match us, hl with | [_, _, _], _ => rfl,
    f_is_list := f2, fd_is_list := _, F_is_list := fun_mk l2 d2 k2, g_is_list := PySem.W.mg_of X G a2, b_is_list := (fun_mk (st := s_is_list) l2 d2 k2).binds fun _ _ _ _ _ _ us hl => match us, hl with | [_], _ => rfl,
    f__shown := f3, fd__shown := _, F__shown := fun_mk l3 d3 k3, g__shown := PySem.W.mg_of X G a3, b__shown := (fun_mk (st := s__shown) l3 d3 k3).binds fun _ _ _ _ _ _ us hl => match us, hl with | [_], _ => rfl,
    f_integer_of := f4, fd_integer_of := _, F_integer_of := fun_mk l4 d4 k4, g_integer_of := PySem.W.mg_of X G a4, b_integer_of := (fun_mk (st := s_integer_of) l4 d4 k4).binds fun _ _ _ _ _ _ us hl => match us, hl with | [_], _ => rfl,
    f_shift_of := f5, fd_shift_of := _, F_shift_of := fun_mk l5 d5 k5, g_shift_of := PySem.W.mg_of X G a5, b_shift_of := (fun_mk (st := s_shift_of) l5 d5 k5).binds fun _ _ _ _ _ _ us hl => match us, hl with | [_], _ => rfl,
    f_check_width := f6, fd_check_width := _, F_check_width := fun_mk l6 d6 k6, g_check_width := PySem.W.mg_of X G a6, b_check_width := (fun_mk (st := s_check_width) l6 d6 k6).binds fun _ _ _ _ _ _ us hl => match us, hl with | [_], _ => rfl,
    f_mask_of := f7, fd_mask_of := _, F_mask_of := fun_mk l7 d7 k7, g_mask_of := PySem.W.mg_of X G a7, b_mask_of := (fun_mk (st := s_mask_of) l7 d7 k7).binds fun _ _ _ _ _ _ us hl => match us, hl with | [_], _ => rfl,
    f_word := f8, fd_word := _, F_word := fun_mk l8 d8 k8, g_word := PySem.W.mg_of X G a8, b_word := (fun_mk (st := s_word) l8 d8 k8).binds fun _ _ _ _ _ _ us hl => match us, hl with | [_, _], _ => rfl,
    f_signed := f9, fd_signed := _, F_signed := fun_mk l9 d9 k9, g_signed := PySem.W.mg_of X G a9, b_signed := (fun_mk (st := s_signed) l9 d9 k9).binds fun _ _ _ _ _ _ us hl => match us, hl with | [_, _], _ => rfl,
    f_shape_of := f10, fd_shape_of := _, F_shape_of := fun_mk l10 d10 k10, g_shape_of := PySem.W.mg_of X G a10, b_shape_of := (fun_mk (st := s_shape_of) l10 d10 k10).binds fun _ _ _ _ _ _ us hl => match us, hl with | [_], _ => rfl,
    f_worked := f11, fd_worked := _, F_worked := fun_mk l11 d11 k11, g_worked := PySem.W.mg_of X G a11, b_worked := (fun_mk (st := s_worked) l11 d11 k11).binds fun _ _ _ _ _ _ us hl => match us, hl with | [_, _, _], _ => rfl,
    f__is_of := f12, fd__is_of := _, F__is_of := fun_mk l12 d12 k12, g__is_of := PySem.W.mg_of X G a12, b__is_of := (fun_mk (st := s__is_of) l12 d12 k12).binds fun _ _ _ _ _ _ us hl => match us, hl with | [_, _, _], _ => rfl,
    f_action_of := f13, fd_action_of := _, F_action_of := fun_mk l13 d13 k13, g_action_of := PySem.W.mg_of X G a13, b_action_of := (fun_mk (st := s_action_of) l13 d13 k13).binds fun _ _ _ _ _ _ us hl => match us, hl with | [_], _ => rfl,
    f__added := f14, fd__added := _, F__added := fun_mk l14 d14 k14, g__added := PySem.W.mg_of X G a14, b__added := (fun_mk (st := s__added) l14 d14 k14).binds fun _ _ _ _ _ _ us hl => match us, hl with | [_, _, _, _], _ => rfl,
    f__less_of := f15, fd__less_of := _, F__less_of := fun_mk l15 d15 k15, g__less_of := PySem.W.mg_of X G a15, b__less_of := (fun_mk (st := s__less_of) l15 d15 k15).binds fun _ _ _ _ _ _ us hl => match us, hl with | [_, _, _, _], _ => rfl,
    f__times := f16, fd__times := _, F__times := fun_mk l16 d16 k16, g__times := PySem.W.mg_of X G a16, b__times := (fun_mk (st := s__times) l16 d16 k16).binds fun _ _ _ _ _ _ us hl => match us, hl with | [_, _, _, _], _ => rfl,
    f__bits_in_both := f17, fd__bits_in_both := _, F__bits_in_both := fun_mk l17 d17 k17, g__bits_in_both := PySem.W.mg_of X G a17, b__bits_in_both := (fun_mk (st := s__bits_in_both) l17 d17 k17).binds fun _ _ _ _ _ _ us hl => match us, hl with | [_, _, _, _], _ => rfl,
    f__bits_in_any := f18, fd__bits_in_any := _, F__bits_in_any := fun_mk l18 d18 k18, g__bits_in_any := PySem.W.mg_of X G a18, b__bits_in_any := (fun_mk (st := s__bits_in_any) l18 d18 k18).binds fun _ _ _ _ _ _ us hl => match us, hl with | [_, _, _, _], _ => rfl,
    f__bits_in_one := f19, fd__bits_in_one := _, F__bits_in_one := fun_mk l19 d19 k19, g__bits_in_one := PySem.W.mg_of X G a19, b__bits_in_one := (fun_mk (st := s__bits_in_one) l19 d19 k19).binds fun _ _ _ _ _ _ us hl => match us, hl with | [_, _, _, _], _ => rfl,
    f__negative := f20, fd__negative := _, F__negative := fun_mk l20 d20 k20, g__negative := PySem.W.mg_of X G a20, b__negative := (fun_mk (st := s__negative) l20 d20 k20).binds fun _ _ _ _ _ _ us hl => match us, hl with | [_, _, _, _], _ => rfl,
    f__flipped := f21, fd__flipped := _, F__flipped := fun_mk l21 d21 k21, g__flipped := PySem.W.mg_of X G a21, b__flipped := (fun_mk (st := s__flipped) l21 d21 k21).binds fun _ _ _ _ _ _ us hl => match us, hl with | [_, _, _, _], _ => rfl,
    f__shifted := f22, fd__shifted := _, F__shifted := fun_mk l22 d22 k22, g__shifted := PySem.W.mg_of X G a22, b__shifted := (fun_mk (st := s__shifted) l22 d22 k22).binds fun _ _ _ _ _ _ us hl => match us, hl with | [_, _, _, _], _ => rfl,
    f__chosen := f23, fd__chosen := _, F__chosen := fun_mk l23 d23 k23, g__chosen := PySem.W.mg_of X G a23, b__chosen := (fun_mk (st := s__chosen) l23 d23 k23).binds fun _ _ _ _ _ _ us hl => match us, hl with | [_, _, _, _], _ => rfl,
    f__is_equal := f24, fd__is_equal := _, F__is_equal := fun_mk l24 d24 k24, g__is_equal := PySem.W.mg_of X G a24, b__is_equal := (fun_mk (st := s__is_equal) l24 d24 k24).binds fun _ _ _ _ _ _ us hl => match us, hl with | [_, _, _, _], _ => rfl,
    f__is_below := f25, fd__is_below := _, F__is_below := fun_mk l25 d25 k25, g__is_below := PySem.W.mg_of X G a25, b__is_below := (fun_mk (st := s__is_below) l25 d25 k25).binds fun _ _ _ _ _ _ us hl => match us, hl with | [_, _, _, _], _ => rfl,
    f__is_less := f26, fd__is_less := _, F__is_less := fun_mk l26 d26 k26, g__is_less := PySem.W.mg_of X G a26, b__is_less := (fun_mk (st := s__is_less) l26 d26 k26).binds fun _ _ _ _ _ _ us hl => match us, hl with | [_, _, _, _], _ => rfl,
    f__are_both := f27, fd__are_both := _, F__are_both := fun_mk l27 d27 k27, g__are_both := PySem.W.mg_of X G a27, b__are_both := (fun_mk (st := s__are_both) l27 d27 k27).binds fun _ _ _ _ _ _ us hl => match us, hl with | [_, _, _, _], _ => rfl,
    f__is_either := f28, fd__is_either := _, F__is_either := fun_mk l28 d28 k28, g__is_either := PySem.W.mg_of X G a28, b__is_either := (fun_mk (st := s__is_either) l28 d28 k28).binds fun _ _ _ _ _ _ us hl => match us, hl with | [_, _, _, _], _ => rfl,
    f__is_not := f29, fd__is_not := _, F__is_not := fun_mk l29 d29 k29, g__is_not := PySem.W.mg_of X G a29, b__is_not := (fun_mk (st := s__is_not) l29 d29 k29).binds fun _ _ _ _ _ _ us hl => match us, hl with | [_, _, _, _], _ => rfl,
    f__law_tray := f30, fd__law_tray := _, F__law_tray := fun_mk l30 d30 k30, g__law_tray := PySem.W.mg_of X G a30, b__law_tray := (fun_mk (st := s__law_tray) l30 d30 k30).binds fun _ _ _ _ _ _ us hl => match us, hl with | [_], _ => rfl,
    f__law_dip := f31, fd__law_dip := _, F__law_dip := fun_mk l31 d31 k31, g__law_dip := PySem.W.mg_of X G a31, b__law_dip := (fun_mk (st := s__law_dip) l31 d31 k31).binds fun _ _ _ _ _ _ us hl => match us, hl with | [_, _], _ => rfl,
    f__law_take := f32, fd__law_take := _, F__law_take := fun_mk l32 d32 k32, g__law_take := PySem.W.mg_of X G a32, b__law_take := (fun_mk (st := s__law_take) l32 d32 k32).binds fun _ _ _ _ _ _ us hl => match us, hl with | [_, _], _ => rfl,
    f__law_great := f33, fd__law_great := _, F__law_great := fun_mk l33 d33 k33, g__law_great := PySem.W.mg_of X G a33, b__law_great := (fun_mk (st := s__law_great) l33 d33 k33).binds fun _ _ _ _ _ _ us hl => match us, hl with | [_, _], _ => rfl,
    f__law_word := f34, fd__law_word := _, F__law_word := fun_mk l34 d34 k34, g__law_word := PySem.W.mg_of X G a34, b__law_word := (fun_mk (st := s__law_word) l34 d34 k34).binds fun _ _ _ _ _ _ us hl => match us, hl with | [_, _], _ => rfl,
    f__law_cut_right := f35, fd__law_cut_right := _, F__law_cut_right := fun_mk l35 d35 k35, g__law_cut_right := PySem.W.mg_of X G a35, b__law_cut_right := (fun_mk (st := s__law_cut_right) l35 d35 k35).binds fun _ _ _ _ _ _ us hl => match us, hl with | [_], _ => rfl,
    f__law_order_right := f36, fd__law_order_right := _, F__law_order_right := fun_mk l36 d36 k36, g__law_order_right := PySem.W.mg_of X G a36, b__law_order_right := (fun_mk (st := s__law_order_right) l36 d36 k36).binds fun _ _ _ _ _ _ us hl => match us, hl with | [_], _ => rfl,
    f_law := f37, fd_law := _, F_law := fun_mk l37 d37 k37, g_law := PySem.W.mg_of X G a37, b_law := (fun_mk (st := s_law) l37 d37 k37).binds fun _ _ _ _ _ _ us hl => match us, hl with | [_], _ => rfl,
    c_DIGITS := ⟨_, PySem.W.mg_of X G cc_DIGITS, ⟨_, rfl⟩⟩,
    c_MOST_DIGITS := ⟨_, PySem.W.mg_of X G cc_MOST_DIGITS, ⟨_, rfl⟩⟩,
    c_MOST_WIDTH := ⟨_, PySem.W.mg_of X G cc_MOST_WIDTH, ⟨_, rfl⟩⟩,
    m_abs := PySem.W.mg_none_of X G n_abs,
    m_all := PySem.W.mg_none_of X G n_all,
    m_bool := PySem.W.mg_none_of X G n_bool,
    m_int := PySem.W.mg_none_of X G n_int,
    m_isinstance := PySem.W.mg_none_of X G n_isinstance,
    m_len := PySem.W.mg_none_of X G n_len,
    m_list := PySem.W.mg_none_of X G n_list,
    m_range := PySem.W.mg_none_of X G n_range,
    m_repr := PySem.W.mg_none_of X G n_repr,
    m_sorted := PySem.W.mg_none_of X G n_sorted,
    m_str := PySem.W.mg_none_of X G n_str,
    m_tuple := PySem.W.mg_none_of X G n_tuple,
    m_zip := PySem.W.mg_none_of X G n_zip,
    a_SHAPES := sA, c_SHAPES := ⟨_, PySem.W.mg_of X G s1, rfl⟩, k_SHAPES := ⟨sE, sN, ⟨s2, s3, s4⟩⟩, v_SHAPES := shapes_of s5,
    a_ACTIONS := aA, c_ACTIONS := ⟨_, PySem.W.mg_of X G t1, rfl⟩, k_ACTIONS := ⟨aE, aN, ⟨t2, t3, t4⟩⟩,
    x_add := v_add,
    x_sub := v_sub,
    x_mul := v_mul,
    x_and := v_and,
    x_or := v_or,
    x_xor := v_xor,
    x_neg := v_neg,
    x_flip := v_flip,
    x_if := v_if,
    x_eq := v_eq,
    x_lt := v_lt,
    x_less := v_less,
    x_both := v_both,
    x_either := v_either,
    x_no := v_no }
  exact ⟨PySem.W.fnOf "law" "law" (defArgs s_law) (defBody s_law) (defScope s_law) .none e37 p37 q37 y37 r37 c37, fun s u => .of_eq rfl, fun base => ok_law (P := l.prog) (base := base) T⟩
theorem walk {l : PySem.W.OpenLaw} {q : Program} {loose : List Str} {XP : (Str → Option Value) → Heap → Prop} {YP : World → Heap → Prop} {d : DefRec} {K : Params → PySem.W.Frag} (hn : l.most = some 63) (hdf : d.params.defaults = [])
    (hY : ∀ (w : World) (h : Heap), YP w h → (K w.params).In h)
    (F : ∀ (w : World) (mg : Str → Option Value) (fa : Addr) (h : Heap), (K w.params).In h → h.Ns mainGlobals mg → mg d.name = some (.ref fa) →
      ∃ fd : FuncData, (∀ (s : Shared) (u : Value), BindsTo s fd ⟨[u], []⟩ [("_law_script", u)]) ∧ ∀ base : Heap, FnG l.prog w (K w.params) mg base CX0 7 fa fd ["_law_script"] (sp_law (K w.params))) :
    PySem.W.WalkO q loose XP YP l.row.toRowW d [] (fun f vs => PySem.call f vs) :=
  walk_G (n := 63) (k := 7) (x := "_law_script") (sp := sp_law) hn (by decide) hdf ⟨rfl, by decide, by decide⟩ hY F
    fun K H a ns hl hS => ⟨.ref a, rfl, a, ns, rfl, hS, Nat.le_trans hl (by decide), fun _ => rfl⟩
end K02
end
open PySem PySem.W PyProof.Rows
set_option maxHeartbeats 0 in
theorem PySem.Challenge.cw_leastequal_k02_whole_lowest_bits_stay_holds : PySem.Challenge.rw_leastequal_k02_whole_lowest_bits_stay.Holds := by
  w_on; o_law; k_head; (case hw => w_witness2)
  k_fill
  refine K02.walk (l := PySem.Challenge.rw_leastequal_k02_whole_lowest_bits_stay) rfl rfl (fun w h Y => PySem.W.kIn_of Y) ?F
  case F =>
    intro w mg fa h KX G hmg
    refine' K02.all_mk KX G hmg ?a0 ?l0 ?d0 ?k0 ?a1 ?l1 ?d1 ?k1 ?a2 ?l2 ?d2 ?k2 ?a3 ?l3 ?d3 ?k3 ?a4 ?l4 ?d4 ?k4 ?a5 ?l5 ?d5 ?k5 ?a6 ?l6 ?d6 ?k6 ?a7 ?l7 ?d7 ?k7 ?a8 ?l8 ?d8 ?k8 ?a9 ?l9 ?d9 ?k9 ?a10 ?l10 ?d10 ?k10 ?a11 ?l11 ?d11 ?k11 ?a12 ?l12 ?d12 ?k12 ?a13 ?l13 ?d13 ?k13 ?a14 ?l14 ?d14 ?k14 ?a15 ?l15 ?d15 ?k15 ?a16 ?l16 ?d16 ?k16 ?a17 ?l17 ?d17 ?k17 ?a18 ?l18 ?d18 ?k18 ?a19 ?l19 ?d19 ?k19 ?a20 ?l20 ?d20 ?k20 ?a21 ?l21 ?d21 ?k21 ?a22 ?l22 ?d22 ?k22 ?a23 ?l23 ?d23 ?k23 ?a24 ?l24 ?d24 ?k24 ?a25 ?l25 ?d25 ?k25 ?a26 ?l26 ?d26 ?k26 ?a27 ?l27 ?d27 ?k27 ?a28 ?l28 ?d28 ?k28 ?a29 ?l29 ?d29 ?k29 ?a30 ?l30 ?d30 ?k30 ?a31 ?l31 ?d31 ?k31 ?a32 ?l32 ?d32 ?k32 ?a33 ?l33 ?d33 ?k33 ?a34 ?l34 ?d34 ?k34 ?a35 ?l35 ?d35 ?k35 ?a36 ?l36 ?d36 ?k36 ?a37 ?l37 ?d37 ?k37 ?cc_DIGITS ?cc_MOST_DIGITS ?cc_MOST_WIDTH ?n_abs ?n_all ?n_bool ?n_int ?n_isinstance ?n_len ?n_list ?n_range ?n_repr ?n_sorted ?n_str ?n_tuple ?n_zip ?s1 ?s2 ?s3 ?s4 ?s5 ?t1 ?t2 ?t3 ?t4 ?v_add ?v_sub ?v_mul ?v_and ?v_or ?v_xor ?v_neg ?v_flip ?v_if ?v_eq ?v_lt ?v_less ?v_both ?v_either ?v_no
    (case a0 => k_is)
    (case l0 => k_is)
    (case d0 => k_is)
    (case k0 => k_is)
    (case a1 => k_is)
    (case l1 => k_is)
    (case d1 => k_is)
    (case k1 => k_is)
    (case a2 => k_is)
    (case l2 => k_is)
    (case d2 => k_is)
    (case k2 => k_is)
    (case a3 => k_is)
    (case l3 => k_is)
    (case d3 => k_is)
    (case k3 => k_is)
    (case a4 => k_is)
    (case l4 => k_is)
    (case d4 => k_is)
    (case k4 => k_is)
    (case a5 => k_is)
    (case l5 => k_is)
    (case d5 => k_is)
    (case k5 => k_is)
    (case a6 => k_is)
    (case l6 => k_is)
    (case d6 => k_is)
    (case k6 => k_is)
    (case a7 => k_is)
    (case l7 => k_is)
    (case d7 => k_is)
    (case k7 => k_is)
    (case a8 => k_is)
    (case l8 => k_is)
    (case d8 => k_is)
    (case k8 => k_is)
    (case a9 => k_is)
    (case l9 => k_is)
    (case d9 => k_is)
    (case k9 => k_is)
    (case a10 => k_is)
    (case l10 => k_is)
    (case d10 => k_is)
    (case k10 => k_is)
    (case a11 => k_is)
    (case l11 => k_is)
    (case d11 => k_is)
    (case k11 => k_is)
    (case a12 => k_is)
    (case l12 => k_is)
    (case d12 => k_is)
    (case k12 => k_is)
    (case a13 => k_is)
    (case l13 => k_is)
    (case d13 => k_is)
    (case k13 => k_is)
    (case a14 => k_is)
    (case l14 => k_is)
    (case d14 => k_is)
    (case k14 => k_is)
    (case a15 => k_is)
    (case l15 => k_is)
    (case d15 => k_is)
    (case k15 => k_is)
    (case a16 => k_is)
    (case l16 => k_is)
    (case d16 => k_is)
    (case k16 => k_is)
    (case a17 => k_is)
    (case l17 => k_is)
    (case d17 => k_is)
    (case k17 => k_is)
    (case a18 => k_is)
    (case l18 => k_is)
    (case d18 => k_is)
    (case k18 => k_is)
    (case a19 => k_is)
    (case l19 => k_is)
    (case d19 => k_is)
    (case k19 => k_is)
    (case a20 => k_is)
    (case l20 => k_is)
    (case d20 => k_is)
    (case k20 => k_is)
    (case a21 => k_is)
    (case l21 => k_is)
    (case d21 => k_is)
    (case k21 => k_is)
    (case a22 => k_is)
    (case l22 => k_is)
    (case d22 => k_is)
    (case k22 => k_is)
    (case a23 => k_is)
    (case l23 => k_is)
    (case d23 => k_is)
    (case k23 => k_is)
    (case a24 => k_is)
    (case l24 => k_is)
    (case d24 => k_is)
    (case k24 => k_is)
    (case a25 => k_is)
    (case l25 => k_is)
    (case d25 => k_is)
    (case k25 => k_is)
    (case a26 => k_is)
    (case l26 => k_is)
    (case d26 => k_is)
    (case k26 => k_is)
    (case a27 => k_is)
    (case l27 => k_is)
    (case d27 => k_is)
    (case k27 => k_is)
    (case a28 => k_is)
    (case l28 => k_is)
    (case d28 => k_is)
    (case k28 => k_is)
    (case a29 => k_is)
    (case l29 => k_is)
    (case d29 => k_is)
    (case k29 => k_is)
    (case a30 => k_is)
    (case l30 => k_is)
    (case d30 => k_is)
    (case k30 => k_is)
    (case a31 => k_is)
    (case l31 => k_is)
    (case d31 => k_is)
    (case k31 => k_is)
    (case a32 => k_is)
    (case l32 => k_is)
    (case d32 => k_is)
    (case k32 => k_is)
    (case a33 => k_is)
    (case l33 => k_is)
    (case d33 => k_is)
    (case k33 => k_is)
    (case a34 => k_is)
    (case l34 => k_is)
    (case d34 => k_is)
    (case k34 => k_is)
    (case a35 => k_is)
    (case l35 => k_is)
    (case d35 => k_is)
    (case k35 => k_is)
    (case a36 => k_is)
    (case l36 => k_is)
    (case d36 => k_is)
    (case k36 => k_is)
    (case a37 => k_is)
    (case l37 => k_is)
    (case d37 => k_is)
    (case k37 => k_is)
    (case cc_DIGITS => k_is)
    (case cc_MOST_DIGITS => k_is)
    (case cc_MOST_WIDTH => k_is)
    (case n_abs => k_is)
    (case n_all => k_is)
    (case n_bool => k_is)
    (case n_int => k_is)
    (case n_isinstance => k_is)
    (case n_len => k_is)
    (case n_list => k_is)
    (case n_range => k_is)
    (case n_repr => k_is)
    (case n_sorted => k_is)
    (case n_str => k_is)
    (case n_tuple => k_is)
    (case n_zip => k_is)
    (case s1 => k_is)
    (case s2 => k_is)
    (case s3 => k_keys)
    (case s4 => rfl)
    (case s5 => kernel_rfl)
    (case t1 => k_is)
    (case t2 => k_is)
    (case t3 => k_keys)
    (case t4 => rfl)
    (case v_add => k_is)
    (case v_sub => k_is)
    (case v_mul => k_is)
    (case v_and => k_is)
    (case v_or => k_is)
    (case v_xor => k_is)
    (case v_neg => k_is)
    (case v_flip => k_is)
    (case v_if => k_is)
    (case v_eq => k_is)
    (case v_lt => k_is)
    (case v_less => k_is)
    (case v_both => k_is)
    (case v_either => k_is)
    (case v_no => k_is)
