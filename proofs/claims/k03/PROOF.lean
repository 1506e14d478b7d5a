import PyProof.Rows.All
import Wide.All
import OpenK.AllK
import Wide.FinOn
import HandS.ForMost
import HandS.Wide
import HandS.WideBits
import HandS.FStr
import HandS.IsInst
import HandS.CallLocal
import HandS.More
import HandS.Star
import HandS.Keys
import HandS.Zip
import HandS.Lambda
import KE.SortData
import KE.DatumIndex
import KE.GoesEnum
import KE.GoesMore
import HandS.NoneIn
import HandS.Walk
import HandS.Exc
import HandS.ExcValue
import HandS.ExcInit
import HandS.ExcField
import HandS.ExcIs
import HandS.ClsMeth
import HandS.Defaults
import KE.KDflt
import HandS.Words
import HandS.Iter
import HandS.Text
import HandS.Style
import HandS.TupAny
import PyProof.ReprLen
import PyProof.P3Eq
import PyProof.Rows.StrIntSpec
import HandS.Dict
import HandS.Flow
import HandS.TupMul
import KE.KDictZip
import KE.GoesZip
import HandS.DictTup
import HandS.WordsExc
import HandS.Ends
import HandS.EndTab
import HandS.EndBits
import KE.KNestM
import PySem.Challenge.RW_leastequal_k03_terms_judged
set_option Elab.async false
set_option linter.all false
set_option maxRecDepth 100000
section
set_option maxHeartbeats 4000000
/-! the layer of this proof: defs whose caller's guards are known, repr and sorted of data, .. -/
namespace G1
open PySem PySem.Spec PyProof.Rows L2
/-- a def's promise where no repr is under way around it -/
structure FnG (P : Program) (w : World) (K : PySem.W.Frag) (mg : Str → Option Value) (base : Heap)
    (CX : CXT) (k : Nat) (f : Addr) (fd : FuncData) (ps : List Str) (sp : Sp) : Prop where
  len : ∀ vs H Q E, sp vs H Q E → vs.length = ps.length
  go : ∀ (A : Around) (outer : List Env) (s : Shared) (H : Hp) (args : Args) (us : List Value) (vs : List V) (Q : VK)
    (E : XK), A.guards = some [] → Room k A → Env0 P w K mg base A outer s H → BindsTo s fd args (ps.zip us) →
    Vals vs us → sp vs H Q E →
    codeAny (model P w) A (.call (.ref f) args) (CR CX outer P w H s Q E) s
section
variable {P : Program} {w : World} {K : PySem.W.Frag} {mg : Str → Option Value} {base : Heap}
theorem FnG.mono {CX : CXT} {j k : Nat} {f : Addr} {fd : FuncData} {ps : List Str} {sp : Sp}
    (F : FnG P w K mg base CX j f fd ps sp) (h : j ≤ k) : FnG P w K mg base CX k f fd ps sp :=
  ⟨F.len, fun A outer s H args us vs Q E hg hr =>
    F.go A outer s H args us vs Q E hg (hr.mono h)⟩
/-- by the body -/
theorem okG {x qual : Str} {st : Stmt} {f : Addr} {fd : FuncData} {N ps : List Str} {k : Nat} {sp : Sp}
    (F : Fun K x qual st f fd) (S : FnScope N ps (defScope st))
    (len : ∀ vs H Q E, sp vs H Q E → vs.length = ps.length)
    (hb : ∀ (cdv : Value) (A : Around) (outer : List Env) (s : Shared) (H : Hp) (vs : List V) (Q : VK) (E : XK),
      (A.deeper (envOfC qual (defScope st) s.heap.objs.size f cdv)).guards = some [] →
      Room k (A.deeper (envOfC qual (defScope st) s.heap.objs.size f cdv)) → sp vs H Q E →
      ∃ t, PSs (cxOf CX0 P w K mg base N qual (defScope st) f cdv A outer s H E).nox (defBody st) t ∧
        t { nx := fun _ H' => Q .non H', rt := Q } (start N vs) H) :
    FnG P w K mg base CX0 (k + 1) f fd ps sp := by
  obtain ⟨oc, od, kV, doc, pm, an, cdv, ct, osl, rfl, lk, hcd⟩ := F.ex
  refine ⟨len, fun A outer s H args us vs Q E hg hr e0 bt r hs => ?_⟩
  exact LamX.run_ofS lk hcd S hr e0 bt r (len _ _ _ _ hs) fun hr2 =>
    let ⟨t, h, q⟩ := hb cdv A outer s H vs Q E hg hr2 hs
    ⟨t, h.nox, q⟩
/-- the same for a def that errors may leave -/
theorem okGX {CX : CXT} {x qual : Str} {st : Stmt} {f : Addr} {fd : FuncData} {N ps : List Str} {k : Nat} {sp : Sp}
    (F : Fun K x qual st f fd) (S : FnScope N ps (defScope st))
    (len : ∀ vs H Q E, sp vs H Q E → vs.length = ps.length)
    (hb : ∀ (cdv : Value) (A : Around) (outer : List Env) (s : Shared) (H : Hp) (vs : List V) (Q : VK) (E : XK),
      (A.deeper (envOfC qual (defScope st) s.heap.objs.size f cdv)).guards = some [] →
      Room k (A.deeper (envOfC qual (defScope st) s.heap.objs.size f cdv)) → sp vs H Q E →
      ∃ t, PSs (cxOf CX P w K mg base N qual (defScope st) f cdv A outer s H E) (defBody st) t ∧
        t { nx := fun _ H' => Q .non H', rt := Q } (start N vs) H) :
    FnG P w K mg base CX (k + 1) f fd ps sp := by
  obtain ⟨oc, od, kV, doc, pm, an, cdv, ct, osl, rfl, lk, hcd⟩ := F.ex
  refine ⟨len, fun A outer s H args us vs Q E hg hr e0 bt r hs => ?_⟩
  exact LamX.run_ofS lk hcd S hr e0 bt r (len _ _ _ _ hs) fun hr2 =>
    hb cdv A outer s H vs Q E hg hr2 hs
end
section
variable {X : Cx} {CX : CXT} {k : Nat} {f : Addr} {fd : FuncData} {ps : List Str} {sp : Sp} {dvs : List V}
  {ds : List Value} {E : XK} {x : Str} {p pos : Pos} {e : Expr} {es : List Expr} {t : TA}
theorem run_fnG {pins : List (Addr × Obj)} {σ : L2.St} {H : Hp} {s : Shared} {Q : VK} {us : List Value} {vs : List V}
    (F : FnG X.prog X.w X.K X.mg X.base CX k f fd ps sp) (hg : X.A.guards = some []) (hr : Room k X.A)
    (hb : Binds X.K fd ps ds) (hd : Vals dvs ds) (hx : Passes CX X E)
    (I : Inv X pins σ H s) (r : Vals vs us) (h : sp (vs ++ dvs) H Q E) :
    wpAny (model X.prog X.w) X.A (call (.ref f) us) (EP X pins σ Q) X.xe s := by
  have r2 := r.append hd
  have hl := r2.length.symm.trans (F.len _ _ _ _ h)
  refine wpAny_call (codeAny_mono (F.go X.A X.stack s H ⟨us, []⟩ (us ++ ds) (vs ++ dvs) Q E hg hr I.env0
    (hb s us I.kIn hl) r2 h) fun r s' hq => ?_)
  match r, hq with
  | .error e, hq => exact hx pins σ H s e s' I hq
  | .ok (.ret u), hq => exact I.after hq
theorem pe_callG (F : FnG X.prog X.w X.K X.mg X.base CX k f fd ps sp) (hgd : X.A.guards = some []) (hr : Room k X.A)
    (hg : Gl X x) (hm : X.mg x = some (.ref f)) (hk : PySem.W.keepIn X.K (.ref f) = true)
    (hb : Binds X.K fd ps ds) (hd : Vals dvs ds) (hx : Passes CX X E) (ha : PA X (e :: es) t)
    (hdb : (x == ("__debug__" : Str)) = false := by decide)
    (he : starEach (e :: es) X.env = (false, eval e X.env) :: starEach es X.env := by rfl)
    (hpl : (backTo pos (starEach es X.env)).any (·.1) = false := by rfl) :
    PE X (.Call (.Name x p) (e :: es) [] pos) (tCall sp dvs E t) := by
  constructor
  intro pins s σ H Q I h
  refine wpAny_Call_Name_kw (ld_glob I hg hm ?_ hdb)
  refine PySem.W.callWith_K (h₀ := X.base) I.ok.mod.kin hk
    (thn (ha.run pos pins s σ H _ I h) fun us s1 ⟨vs, H1, I1, r, q⟩ => ⟨I1.kIn, ?_⟩) he hpl
  exact run_fnG F hgd hr hb hd hx I1 r q
end

/-! ### repr of data -/
section
variable {X : Cx}
theorem dp_noDict {K : PySem.W.Frag} {H : Hp} : (∀ {x : V} {d : PyData}, Dp K H x d → d.hasDict = false) := by
  intro x d h
  refine Dp.rec (motive_1 := fun _ d _ => d.hasDict = false) (motive_2 := fun _ ds _ => PyData.hasDictAll ds = false)
    rfl (fun _ => rfl) (fun _ => rfl) (fun _ => rfl) ?_ ?_ rfl ?_ h
  · intro a xs ds _ _ ih
    exact ih
  · intro a xs ds _ _ ih
    exact ih
  · intro v vs d ds _ _ h1 h2
    show (PyData.hasDict d || PyData.hasDictAll ds) = false
    rw [h1, h2]
    rfl
/-- repr(x), x data without dicts -/
def rReprD (K : PySem.W.Frag) : List V → Hp → VK → Prop := fun xs H Q => ∃ x d, xs = [x] ∧ Dp K H x d ∧ d.showable = true ∧
  d.depth ≤ 60 ∧ d.shown.length ≤ sizeLine ∧ Q (.str d.shown) H
theorem call_reprD (hg : X.A.guards = some []) (hu : X.A.units + 64 < cLine) : CallR X (.builtin "repr") (rReprD X.K) := by
  intro pins s σ H xs us Q I r h
  obtain ⟨x, d, rfl, hd, hs, hdp, hz, q⟩ := h
  obtain ⟨u, rfl, r1⟩ := vals1 r
  obtain ⟨as, rd⟩ := Dp.reads I d x u hd r1
  have nd := dp_noDict hd
  cases hd with
  | non =>
    cases r1
    exact PySem.P.repr_of_none ⟨.str _, H, I.tok _, ⟨_, rfl⟩, q⟩
  | bl b =>
    cases r1
    exact PySem.P.repr_of_bool ⟨.str _, H, I.tok _, ⟨_, rfl⟩, q⟩
  | int i =>
    obtain ⟨t, rfl⟩ := r1
    exact PySem.P.repr_of_int (of_decide_eq_true hs) ⟨.str _, H, I.tok _, ⟨_, rfl⟩, q⟩
  | str z =>
    obtain ⟨t, rfl⟩ := r1
    exact PySem.P.repr_of_str ⟨.str _, H, I.tok _, ⟨_, rfl⟩, q⟩ hz
  | lst h1 h2 =>
    cases r1
    exact repr_of_reads' rd hs (PyData.noDict_hsm nd) hg (by omega) (fun _ _ e => e)
      (fun h' u tk hk => ⟨.str _, H, I.kept (fun b o eo => hk b o eo), ⟨_, rfl⟩, q⟩) hz
  | tup h1 h2 =>
    cases r1
    exact repr_of_reads' rd hs (PyData.noDict_hsm nd) hg (by omega) (fun _ _ e => e)
      (fun h' u tk hk => ⟨.str _, H, I.kept (fun b o eo => hk b o eo), ⟨_, rfl⟩, q⟩) hz
end
/-! ### sorted of truths -/
section
variable {X : Cx}
theorem eachB : ∀ {bs : List Bool} {us : List Value}, Vals (bs.map V.bl) us → PySem.W.EachIs (fun v b => v = Value.bool b) us bs
  | [], us, h => by
    cases h
    exact .nil
  | b :: bs, us, h => by
    cases h with
    | cons r1 r2 =>
      cases r1
      exact .cons rfl (eachB r2)
theorem valsB : ∀ {bs : List Bool} {us : List Value}, PySem.W.EachIs (fun v b => v = Value.bool b) us bs → Vals (bs.map V.bl) us
  | [], us, h => by
    cases h
    exact .nil
  | b :: bs, us, h => by
    cases h with
    | cons r1 r2 => exact .cons r1 (valsB r2)
theorem eachImp {α β : Type} {R S : α → β → Prop} (hi : ∀ a b, R a b → S a b) : ∀ {us : List α} {bs : List β}, PySem.W.EachIs R us bs → PySem.W.EachIs S us bs
  | [], _, h => by
    cases h
    exact .nil
  | _ :: _, _, h => by
    cases h with
    | cons r1 r2 => exact .cons (hi _ _ r1) (eachImp hi r2)
def rSortB (K : PySem.W.Frag) : List V → Hp → VK → Prop := fun vs H Q => ∃ (a : Addr) (bs : List Bool), vs = [V.ref a] ∧ SqL K H a (bs.map V.bl) ∧ bs.length ≤ 1000 ∧
  ∀ p, H p = none → Q (.ref p) (upd H p (.lst ((bs.mergeSort (PySem.W.dataLe false PyData.bool)).map V.bl)))
theorem cr_sortedB (hu : X.A.units + 64 < cLine) : CallR X (.builtin "sorted") (rSortB X.K) := by
  intro pins s σ H vs us Q I r h
  obtain ⟨a, bs, rfl, hs, h64, q⟩ := h
  obtain ⟨its, rv, hl, _⟩ := I.list hs
  rw [Vals.ref1 r]
  have he := eachB rv
  have hlen : bs.length ≤ sizeLine := Nat.le_of_lt (small1000 h64)
  refine PySem.W.sorted_data (enc := PyData.bool) (R := fun v b => v = Value.bool b) hl.isList he
    (eachImp (fun v b e => ⟨[], by rw [e]; exact Reads.bool b⟩) he) ?_ ?_ hlen (fun b _ => ?_) fun out h1 h2 => ?_
  · intro d hd d' hd'
    obtain ⟨b, _, rfl⟩ := List.mem_map.mp hd
    obtain ⟨b', _, rfl⟩ := List.mem_map.mp hd'
    rfl
  · refine Or.inr fun d hd => ?_
    obtain ⟨b, _, rfl⟩ := List.mem_map.mp hd
    exact ⟨(by intro z; cases z), (by intro xs z; cases z)⟩
  · show X.A.units + 2 + PyData.depth (PyData.bool b) < cLine
    have : PyData.depth (PyData.bool b) ≤ 1 := by
      first | decide | (unfold PyData.depth; omega)
    omega
  · obtain ⟨ep, he'⟩ := PyProof.Rows.sortedAll_at s.heap its out.toArray
    have hl2 : ((bs.mergeSort (PySem.W.dataLe false PyData.bool)).map V.bl).length ≤ sizeLine := by
      rw [List.length_map, List.length_mergeSort]
      exact hlen
    exact ⟨.ref _, upd H (s.heap.objs.size + 1) (.lst ((bs.mergeSort (PySem.W.dataLe false PyData.bool)).map V.bl)),
      I.laid (t' := s.toks) (fun _ _ => PyProof.Rows.sortedAll_old) (Nat.le_succ _) ⟨hl2, out, ep, valsB h2, by simpa using he'⟩, rfl,
      q _ (I.hok.fresh (Nat.le_succ _))⟩
end
end G1
end
section
set_option maxHeartbeats 4000000
namespace G1
open PySem PySem.Spec PyProof.Rows L2
/-! ### zip of two sequences, each a list (true) or a tuple (false) -/
def SqK (k : Bool) (K : PySem.W.Frag) (H : Hp) (a : Addr) (xs : List V) : Prop := if k = true then SqL K H a xs else SqT K H a xs
def ItK (k : Bool) (h : Heap) (it l : Addr) (i : Nat) : Prop := if k = true then h.IsListIter it l i else h.IsTupleIter it l i
def IsK (k : Bool) (h : Heap) (l : Addr) (its : Array Value) : Prop := if k = true then h.IsList l its else h.IsTuple l its
section
variable {X : Cx} {pins : List (Addr × Obj)} {σ : L2.St} {H : Hp} {s : Shared}
theorem sqK_at {k : Bool} {a : Addr} {xs : List V} (I : Inv X pins σ H s) (h : SqK k X.K H a xs) : ∃ its, Vals xs its ∧ IsK k s.heap a its.toArray ∧ a < s.heap.objs.size := by
  cases k with
  | true =>
    obtain ⟨its, rv, p, _⟩ := I.list (show SqL X.K H a xs from h)
    exact ⟨its, rv, p.isList, p.lt⟩
  | false =>
    obtain ⟨its, rv, p, _⟩ := I.tuple (show SqT X.K H a xs from h)
    obtain ⟨o, ho, _⟩ := id p
    exact ⟨its, rv, p, Heap.lt_size ho⟩
theorem sqK_inj {k : Bool} {a : Addr} {xs ys : List V} (I : Inv X pins σ H s) (h : SqK k X.K H a xs) (h' : SqK k X.K H a ys) : xs = ys := by
  cases k with
  | true => exact I.list_inj h h'
  | false => exact I.tuple_inj h h'
theorem drawsK {prog : Program} {w : World} {A : Around} (hh : A.handled = none) (k : Bool) (it l : Addr) (hne : l ≠ it) (items : Array Value) :
    Draws prog w A it [it, l] items.size (fun i v => items[i]? = some v) fun i h => ItK k h it l i ∧ IsK k h l items := by
  cases k with
  | true => exact Draws.list hh it l hne items
  | false => exact Draws.tuple hh it l hne items
theorem itK_at {k : Bool} {h h' : Heap} {it l : Addr} {i : Nat} (t : ItK k h it l i) (q : ∀ o, h.get? it = some o → h'.get? it = some o) : ItK k h' it l i := by
  cases k with
  | true =>
    obtain ⟨o, ho, hc, hd⟩ := (show h.IsListIter it l i from t)
    exact ⟨o, q _ ho, hc, hd⟩
  | false =>
    obtain ⟨o, ho, hc, hd⟩ := (show h.IsTupleIter it l i from t)
    exact ⟨o, q _ ho, hc, hd⟩
theorem itK_obj {k : Bool} {h : Heap} {it l : Addr} {i : Nat} (t : ItK k h it l i) : ∃ o, h.get? it = some o ∧ ∀ v, o.data ≠ .cell v := by
  cases k with
  | true =>
    obtain ⟨o, ho, hc, hd⟩ := (show h.IsListIter it l i from t)
    exact ⟨o, ho, fun v z => by rw [hd] at z; cases z⟩
  | false =>
    obtain ⟨o, ho, hc, hd⟩ := (show h.IsTupleIter it l i from t)
    exact ⟨o, ho, fun v z => by rw [hd] at z; cases z⟩
end
def ItzM (K : PySem.W.Frag) (k1 k2 : Bool) (a b : Addr) : It :=
  ⟨fun i H => ∃ (xs ys : List V) (x y : V), SqK k1 K H a xs ∧ SqK k2 K H b ys ∧ xs[i]? = some x ∧ ys[i]? = some y,
   fun i H v H' => ∃ T x y, v = .ref T ∧ H T = none ∧ H' = upd H T (.tup [x, y]) ∧ (∀ xs, SqK k1 K H a xs → xs[i]? = some x) ∧ ∀ ys, SqK k2 K H b ys → ys[i]? = some y,
   fun i H => ∃ xs ys : List V, SqK k1 K H a xs ∧ SqK k2 K H b ys ∧ i ≤ xs.length ∧ i ≤ ys.length ∧ (i = xs.length ∨ i = ys.length)⟩
theorem turn_zipM {P : Program} {w : World} {K : PySem.W.Frag} {elts : List Expr} {kk : Nat} {tpos : Pos} {k1 k2 : Bool} {a b z TI TO i1 i2 : Addr} (D : ZipSep2 z TI TO i1 i2 [i1, a] [i2, b]) (ha : a ≠ i1) (hb : b ≠ i2) :
    Turn P w K (.Tuple elts kk tpos) (ItzM K k1 k2 a b) [z, TI, TO, i1, i2] z
      (fun i h => IsZip h z TI TO .none ∧ IsTupOf2 h TI (.ref i1) (.ref i2) ∧ (∃ x y, IsTupOf2 h TO x y) ∧ ItK k1 h i1 a i ∧ ItK k2 h i2 b i) where
  mem := by simp
  obj := fun i h st c hc => by
    obtain ⟨hz, hTI, ⟨x, y, hTO⟩, h1, h2⟩ := st
    have e' : c = z ∨ c = TI ∨ c = TO ∨ c = i1 ∨ c = i2 := by simpa using hc
    rcases e' with rfl | rfl | rfl | rfl | rfl
    · exact ⟨_, hz, fun v q => nomatch q⟩
    · exact ⟨_, hTI, fun v q => nomatch q⟩
    · exact ⟨_, hTO, fun v q => nomatch q⟩
    · exact itK_obj h1
    · exact itK_obj h2
  keep := fun i h h' st k => by
    obtain ⟨hz, hTI, ⟨x, y, hTO⟩, h1, h2⟩ := st
    exact ⟨k _ (by simp) _ hz, k _ (by simp) _ hTI, ⟨x, y, k _ (by simp) _ hTO⟩, itK_at h1 fun o q => k _ (by simp) o q, itK_at h2 fun o q => k _ (by simp) o q⟩
  item := by
    intro X hP hw hK hc i pins s σ H E I hf st hg
    subst hP hw hK
    obtain ⟨hz, hTI, ⟨x0, y0, hTO⟩, h1, h2⟩ := st
    obtain ⟨xs, ys, x, y, hqx, hqy, hx, hy⟩ := hg
    obtain ⟨its, rv, p, _⟩ := sqK_at I hqx
    obtain ⟨its2, rv2, p2, _⟩ := sqK_at I hqy
    obtain ⟨u, hu, ru⟩ := rv.get hx
    obtain ⟨u2, hu2, ru2⟩ := rv2.get hy
    have hzl : z < s.heap.objs.size := Heap.lt_size hz
    have ih : i < its.toArray.size := by
      have := (List.getElem?_eq_some_iff.mp hu).1
      simpa using this
    have ih2 : i < its2.toArray.size := by
      have := (List.getElem?_eq_some_iff.mp hu2).1
      simpa using this
    refine wpAny_pyNext_zipD2_item D (drawsK (A := X.A.in1) (I.ok.hd hc) k1 i1 a ha its.toArray) (drawsK (A := X.A.in1) (I.ok.hd hc) k2 i2 b hb its2.toArray) hz hTI hTO ⟨h1, p⟩ ⟨h2, p2⟩ ih ih2
      fun x1 x2 h' tk e1 e2 z' TO' st1 st2 hT hsz hk => ?_
    have ex1 : u = x1 := by
      have q : some u = some x1 := by rw [← hu, ← e1]; simp
      exact Option.some.inj q
    have ex2 : u2 = x2 := by
      have q : some u2 = some x2 := by rw [← hu2, ← e2]; simp
      exact Option.some.inj q
    subst ex1 ex2
    refine ⟨_, rfl, wpAny_letOwnedTupleGo_zip (s := { s with heap := h', toks := tk }) z' fun h'' z'' sb => ?_⟩
    have hT2 : h''.get? s.heap.objs.size = some { cls := .type "tuple", data := .seq #[u, u2] } := (sb.2 _ (Nat.ne_of_gt hzl)).trans hT
    have new : ObjOk X.prog X.w (upd H s.heap.objs.size (.tup [x, y])) h'' s.heap.objs.size (.tup [x, y]) :=
      ⟨by show 2 ≤ sizeLine; decide, [u, u2], .cons ru (.cons ru2 .nil), ⟨_, hT2, rfl, _, rfl⟩⟩
    have I1 : Inv X pins σ (upd H s.heap.objs.size (.tup [x, y])) { s with heap := h'', toks := tk } :=
      I.turnedNew (t' := tk) (ch := [z, TI, TO, i1, i2]) (fun c o hb q => (sb.2 c (fun q' => hb (by simp [q']))).trans
        (hk c o (fun q' => hb (by simp [q'])) (fun q' => hb (by simp [q'])) (fun q' => hb (by simp [q'])) (fun q' => hb (by simp [q'])) q)) hf (Nat.le_refl _) new
    refine ⟨.ref s.heap.objs.size, _, I1, rfl, ⟨_, x, y, rfl, I.hok.fresh (Nat.le_refl _), rfl, fun l hl => by rw [sqK_inj I hl hqx]; exact hx, fun l hl => by rw [sqK_inj I hl hqy]; exact hy⟩,
      ⟨z'', ?_, ⟨u, u2, ?_⟩, ?_, ?_⟩, fun c hcm => ?_⟩
    · exact (sb.2 _ D.TIz).trans (hk _ _ D.TIz D.TITO D.TIi1 D.TIi2 hTI)
    · exact (sb.2 _ D.TOz).trans TO'
    · exact itK_at st1.1 fun o q => (sb.2 _ D.zi1.symm).trans q
    · exact itK_at st2.1 fun o q => (sb.2 _ D.zi2.symm).trans q
    · have hlt : c < s.heap.objs.size := by
        have e' : c = z ∨ c = TI ∨ c = TO ∨ c = i1 ∨ c = i2 := by simpa using hcm
        rcases e' with rfl | rfl | rfl | rfl | rfl
        · exact hzl
        · exact Heap.lt_size hTI
        · exact Heap.lt_size hTO
        · obtain ⟨_, e1, _⟩ := itK_obj h1; exact Heap.lt_size e1
        · obtain ⟨_, e2, _⟩ := itK_obj h2; exact Heap.lt_size e2
      rw [upd_ne (Nat.ne_of_lt hlt)]
      exact (hf c hcm).1
  done := by
    intro X hP hw hK hc i pins s σ H E I hf st hg
    subst hP hw hK
    obtain ⟨hz, hTI, ⟨x0, y0, hTO⟩, h1, h2⟩ := st
    obtain ⟨xs, ys, hqx, hqy, l1, l2, hend⟩ := hg
    obtain ⟨its, rv, p, _⟩ := sqK_at I hqx
    obtain ⟨its2, rv2, p2, _⟩ := sqK_at I hqy
    have n1 := rv.length
    have n2 := rv2.length
    refine wpAny_pyNext_zipD2_end D (drawsK (A := X.A.in1) (I.ok.hd hc) k1 i1 a ha its.toArray) (drawsK (A := X.A.in1) (I.ok.hd hc) k2 i2 b hb its2.toArray) hz hTI hTO ⟨h1, p⟩ ⟨h2, p2⟩ (by simp; omega) (by simp; omega) (by simp; omega)
      fun h' tk hk => ⟨rfl, I.turnedL (t' := tk) (ch := [z, TI, TO, i1, i2]) (fun c o hb q =>
      hk c o (fun q' => hb (by simp [q'])) (fun q' => hb (by simp [q'])) (fun q' => hb (by simp [q'])) (fun q' => hb (by simp [q'])) q) hf⟩
  self := fun A i s Q E st h => wpAny_pyIter_zip st.1 h
def iZipM (K : PySem.W.Frag) (ta : TA) : TI := fun σ H R => ta σ H fun vs H1 => ∃ k1 k2 a b xs ys, vs = [.ref a, .ref b] ∧ SqK k1 K H1 a xs ∧ SqK k2 K H1 b ys ∧ R (ItzM K k1 k2 a b) H1
theorem beginsK (k : Bool) (l : Addr) (items : Array Value) : ∃ o, Begins (.ref l) o (fun h => IsK k h l items) ∧ ∀ h it, h.get? it = some o → ItK k h it l 0 := by
  cases k with
  | true => exact ⟨_, begins_list l items, fun h it e => ⟨_, e, rfl, rfl⟩⟩
  | false => exact ⟨_, begins_tuple l items, fun h it e => ⟨_, e, rfl, rfl⟩⟩
theorem pi_zipM {X : Cx} {e e2 : Expr} {ta : TA} {p pos tpos : Pos} {elts : List Expr} {kk : Nat} (hg : Gl X "zip") (hm : X.mg "zip" = none) (ha : PA X [e, e2] ta)
    (hs : starEach [e, e2] X.env = (false, eval e X.env) :: starEach [e2] X.env := by rfl) (hpl : (backTo pos (starEach [e2] X.env)).any (·.1) = false := by rfl) :
    PI X (.Tuple elts kk tpos) (.Call (.Name "zip" p) [e, e2] [] pos) (iZipM X.K ta) := by
  refine ⟨fun pins s σ H R I h => ?_⟩
  refine Call_ (ld_blt I hg hm PyProof.Rows.boot_zip (PyProof.Rows.callWith_type1 (thn (ha.run pos pins s σ H _ I h) fun us s1 ⟨vs, H1, I1, r1, q1⟩ => ?_) hs hpl))
  obtain ⟨k1, k2, a, b, xs, ys, rfl, hqx, hqy, q⟩ := q1
  obtain ⟨u1, u2, rfl, r, r'⟩ := vals2 r1
  cases r
  cases r'
  obtain ⟨its, rv, p1, la⟩ := sqK_at I1 hqx
  obtain ⟨its2, rv2, p2, lb⟩ := sqK_at I1 hqy
  obtain ⟨o1, B1, j1⟩ := beginsK k1 a its.toArray
  obtain ⟨o2, B2, j2⟩ := beginsK k2 b its2.toArray
  refine zip_begins2 B1 B2 p1 p2 fun h' hz hTI hTO h1 h2 hsz hk => wpAny_pyIter_zip hz ?_
  have I2 : Inv X pins σ H1 { s1 with heap := h' } := I1.kept (t' := s1.toks) hk
  have D : ZipSep2 (s1.heap.objs.size + 4) (s1.heap.objs.size + 2) (s1.heap.objs.size + 3) s1.heap.objs.size (s1.heap.objs.size + 1) [s1.heap.objs.size, a] [s1.heap.objs.size + 1, b] :=
    zip_sep2 (fun c hc => by rw [List.mem_singleton.mp hc]; exact la) (fun c hc => by rw [List.mem_singleton.mp hc]; exact lb)
  refine ⟨s1.heap.objs.size + 4, [s1.heap.objs.size + 4, s1.heap.objs.size + 2, s1.heap.objs.size + 3, s1.heap.objs.size, s1.heap.objs.size + 1], _, _, H1, rfl, I2,
    turn_zipM D (Nat.ne_of_lt la) (Nat.ne_of_lt (Nat.lt_succ_of_lt lb)), ⟨hz, hTI, ⟨_, _, hTO⟩, j1 _ _ h1, j2 _ _ h2⟩, fun c hcm => ?_, q⟩
  have hle : s1.heap.objs.size ≤ c := by
    simp only [List.mem_cons, List.not_mem_nil, or_false] at hcm
    rcases hcm with rfl | rfl | rfl | rfl | rfl <;> omega
  exact I1.fpOk hle (I1.hok.fresh hle)
theorem walk_zipM {K : PySem.W.Frag} {k1 k2 : Bool} {a b : Addr} {xs ys : List V} {n : Nat} (h1 : xs.length = n) (h2 : ys.length = n) : Walk (ItzM K k1 k2 a b) n (fun H => SqK k1 K H a xs ∧ SqK k2 K H b ys) (YPair (fun i => xs[i]?) (fun i => ys[i]?)) := by
  refine ⟨fun i _ hi q => ?_, fun _ q => ⟨xs, ys, q.1, q.2, by omega, by omega, .inl h1.symm⟩, fun i H v H' _ q y => ?_⟩
  · have g1 : i < xs.length := by omega
    have g2 : i < ys.length := by omega
    exact ⟨xs, ys, xs[i], ys[i], q.1, q.2, by simp [g1], by simp [g2]⟩
  · obtain ⟨T, x, z, h1, h2, h3, h4, h5⟩ := y
    exact ⟨T, x, z, h1, h2, h3, h4 xs q.1, h5 ys q.2⟩
/-! ### d.get(k) of a written dict with text keys -/
def tKGet (K : PySem.W.Frag) (w : World) (td ty : TE) : TE := fun σ H Q => td σ H fun x H1 => ∃ a es n, x = .ref a ∧ KDict K w a es n ∧ ty σ H1 fun y H2 => ∃ (z : Str) (r : Option Value) (v : V), y = .str z ∧ PySem.W.nsIn K a z = some r ∧ RelV v (r.getD .none) ∧ Q v H2
theorem pe_kget {X : Cx} {o e : Expr} {apos cpos : Pos} {td ty : TE} (ho : PE X o td) (he : PE X e ty) (m : M1 X o "get" apos e cpos) : PE X (.Call (.Attribute o "get" apos) [e] [] cpos) (tKGet X.K X.w td ty) := by
  refine ⟨fun pins s σ H Q I h => ?_⟩
  refine wpAny_Call_method m.base m.few m.line PySem.F.plainAttrs_dict PySem.F.slot_dict_get PySem.F.type_dict_get (thn (ho.run pins s σ H _ I h) fun u s1 ⟨x, H1, I1, rx, a, es, n, ex, D, q1⟩ => ?_)
  subst ex
  obtain rfl : u = Value.ref a := rx
  refine ⟨kd_type D I1, fun b e => ?_, ?_⟩
  · cases e
    exact ⟨_, I1.kIn _ _ D.at_, rfl⟩
  rw [m.trees]
  refine Calls.callWith_builtin rfl (Calls.evalArgs_plain (Calls.spliced_cons (thn (he.run pins s1 σ H1 _ I1 q1) fun iv s2 ⟨y, H2, I2, ry, z, r, v, ey, hn, rv, q2⟩ => Calls.spliced_nil ?_)))
  subst ey
  obtain ⟨t, rfl⟩ := (show ∃ t, iv = Value.str z t from ry)
  have hm := PySem.W.mapOf_K (prog := X.prog) (w := X.w) I2.kIn D.at_ D.lit
  refine call_meetsIn PySem.F.slot_dict_get hm.typeIs PySem.F.entry_dict_get (PySem.F.args_dict_get_2 _ _) (meets_dict_get (strKind X.prog X.w) a (strKind_is X.prog X.w z t) D.low) ⟨_, hm, v, H2, I2.tok _, ?_, q2⟩
  show RelV v ((findBy Value.isStrOf es z).getD .none)
  rw [PySem.W.find_K D.at_ hn]
  exact rv
/-! ### a local name that holds some def -/
def HeldG (P : Program) (w : World) (K : PySem.W.Frag) (mg : Str → Option Value) (base : Heap) (k : Nat) (f : Addr) (sp : Sp) : Prop :=
  ∃ fd ps, FnG P w K mg base L2.CX0 k f fd ps sp ∧ PySem.W.keepIn K (.ref f) = true ∧ Binds K fd ps []
def tCallH (P : Program) (w : World) (K : PySem.W.Frag) (mg : Str → Option Value) (base : Heap) (k i : Nat) (t : TA) : TE := fun σ H Q => ∃ f sp, σ[i]? = some (some (.ref f)) ∧ HeldG P w K mg base k f sp ∧ t σ H fun vs H1 => sp vs H1 Q L2.E0
theorem pe_callH {X : Cx} {k i : Nat} {x : Str} {p pos : Pos} {e : Expr} {es : List Expr} {t : TA} (hgd : X.A.guards = some []) (hr : Room k X.A) (hN : X.N[i]? = some x) (hv : Vis X.env.scope x) (ha : PA X (e :: es) t)
    (hdb : (x == ("__debug__" : Str)) = false := by decide) (hcd : (x == ("__classdict__" : Str)) = false := by decide)
    (he : starEach (e :: es) X.env = (false, eval e X.env) :: starEach es X.env := by rfl) (hpl : (backTo pos (starEach es X.env)).any (·.1) = false := by rfl) :
    PE X (.Call (.Name x p) (e :: es) [] pos) (tCallH X.prog X.w X.K X.mg X.base k i t) := by
  constructor
  intro pins s σ H Q I h
  obtain ⟨f, sp, hs, ⟨fd, ps, F, hk, hb⟩, ht⟩ := h
  refine wpAny_Call_Name_kw (thn ((pe_var (pos := p) hN hv hdb hcd).run pins s σ H (fun v H1 => v = .ref f ∧ H1 = H) I ⟨.ref f, hs, rfl, rfl⟩) fun u s1 ⟨v, H1, I1, r1, q1⟩ => ?_)
  obtain ⟨rfl, rfl⟩ := q1
  cases r1
  refine PySem.W.callWith_K (h₀ := X.base) I1.ok.mod.kin hk (thn (ha.run pos pins s1 σ _ _ I1 ht) fun us s2 ⟨vs, H2, I2, r, q⟩ => ⟨I2.kIn, ?_⟩) he hpl
  exact run_fnG (ds := []) (dvs := []) (E := L2.E0) F hgd hr hb .nil pass0 I2 r (by rw [List.append_nil]; exact q)
/-! ### comprehensions whose elements change nothing that stands -/
section
variable {J : It} {n : Nat} {G : Hp → Prop} {Y : Nat → Hp → V → Hp → Prop}
theorem same_new {H1 H : Hp} {D : Addr} {o : HO} (nD : H1 D = none) (s : Same (upd H1 D o) H) : Same H1 H := fun b x e => s b x (by rw [upd_ne (ne_of_none e nD)]; exact e)
theorem set4 {α : Type} {j k : Nat} {a x y : α} (σ : List α) (hjk : j ≠ k) : (((((σ.set k a).set j a).set j x).set k y).set k a).set j a = (σ.set k a).set j a := by
  rw [List.set_set, List.set_set, List.set_comm x a hjk, List.set_set, List.set_set]
theorem thenT {σ : L2.St} {H : Hp} {A : Hp → Prop} {B : Hp → Prop} (h : A H) : tYes σ H fun b H3 => if b = true then A H3 else B H3 := by
  show if true = true then A H else B H
  rw [if_pos rfl]
  exact h
theorem lc_name (w : Walk J n G Y) {j : Nat} {te : TE} {σ : L2.St} {H1 : Hp} {D : Addr} {Qd : Hp → Prop} (xf f : Nat → V) (hy : ∀ i H x H', i < n → G H → Y i H x H' → H' = H ∧ x = xf i) (hz : n ≤ 1000) (nD : H1 D = none)
    (hG : ∀ H', Same H1 H' → G H') (he : ∀ i H (R : VK), i < n → Same H1 H → (∀ H4, Same H H4 → R (f i) H4) → te ((wipe σ [j]).set j (some (xf i))) H R)
    (hd : ∀ H', Same H1 H' → H' D = some (.lst ((List.range n).map f)) → Qd H') :
    ∃ W : Nat → Nat → Hp → Prop, (∃ m, W 0 m (upd H1 D (.lst []))) ∧ ∀ i m H, W i m H →
      (J.stop i H ∧ Qd H) ∨ (J.go i H ∧ ∃ Nx : Hp → Prop, (∀ H', Nx H' → ∃ m', m' < m ∧ W (i + 1) m' H') ∧ ∀ x H', J.yld i H x H' → gName j x (wipe σ [j]) H' fun σ2 H2 => wipe σ2 [j] = wipe σ [j] ∧ tYes σ2 H2 fun b H3 =>
        if b = true then te σ2 H3 fun y H4 => ∃ acc, H4 D = some (.lst acc) ∧ acc.length < sizeLine ∧ Nx (upd H4 D (.lst (acc ++ [y]))) else Nx H3) := by
  refine lc_it w (fun i H => Same H1 H ∧ H D = some (.lst ((List.range i).map f))) ⟨?_, upd_same⟩ (fun i H _ p => hG H p.1) (fun i x H H' hi p y => ?_) fun H p => hd H p.1 p.2
  · exact fun b x e => by
      rw [upd_ne (ne_of_none e nD)]
      exact e
  · obtain ⟨rfl, rfl⟩ := hy i H x H' hi (hG H p.1) y
    refine ⟨?_, thenT (he i H' _ hi p.1 fun H4 s4 => ?_)⟩
    · show ((σ.set j none).set j (some (xf i))).set j none = σ.set j none
      rw [List.set_set, List.set_set]
    · have e4 : H4 D = some (.lst ((List.range i).map f)) := s4 _ _ p.2
      refine ⟨_, e4, ?_, fun b x e => ?_, ?_⟩
      · rw [List.length_map, List.length_range]
        exact Nat.lt_of_lt_of_le hi (Nat.le_of_lt (small1000 hz))
      · rw [upd_ne (ne_of_none e nD)]
        exact s4 _ _ (p.1 _ _ e)
      · rw [upd_same, List.range_succ, List.map_append]
        rfl
/-- two names, the pairs of a zip -/
theorem lc_pair {K : PySem.W.Frag} {xs ys : Nat → Option V} (w : Walk J n G (YPair xs ys)) {j k : Nat} (hjk : j ≠ k) {te : TE} {σ : L2.St} {H1 : Hp} {D : Addr} {Qd : Hp → Prop} (f : Nat → V) (hz : n ≤ 1000) (nD : H1 D = none)
    (hG : ∀ H', Same H1 H' → G H') (he : ∀ i x y H (R : VK), i < n → xs i = some x → ys i = some y → Same H1 H → (∀ H4, Same H H4 → R (f i) H4) → te (((wipe σ [j, k]).set j (some x)).set k (some y)) H R)
    (hd : ∀ H', Same H1 H' → H' D = some (.lst ((List.range n).map f)) → Qd H') :
    ∃ W : Nat → Nat → Hp → Prop, (∃ m, W 0 m (upd H1 D (.lst []))) ∧ ∀ i m H, W i m H →
      (J.stop i H ∧ Qd H) ∨ (J.go i H ∧ ∃ Nx : Hp → Prop, (∀ H', Nx H' → ∃ m', m' < m ∧ W (i + 1) m' H') ∧ ∀ x H', J.yld i H x H' → gTup K 2 (gCons (gName j) (gCons (gName k) gNil)) x (wipe σ [j, k]) H' fun σ2 H2 => wipe σ2 [j, k] = wipe σ [j, k] ∧ tYes σ2 H2 fun b H3 =>
        if b = true then te σ2 H3 fun y H4 => ∃ acc, H4 D = some (.lst acc) ∧ acc.length < sizeLine ∧ Nx (upd H4 D (.lst (acc ++ [y]))) else Nx H3) := by
  refine lc_it w (fun i H => Same H1 H ∧ H D = some (.lst ((List.range i).map f))) ⟨?_, upd_same⟩ (fun i H _ p => hG H p.1) (fun i v H H' hi p hy => ?_) fun H p => hd H p.1 p.2
  · exact fun b x e => by
      rw [upd_ne (ne_of_none e nD)]
      exact e
  · obtain ⟨T, x, y, rfl, nT, rfl, hx, hy⟩ := hy
    have sT : Same H (upd H T (.tup [x, y])) := fun b z e => by
      rw [upd_ne (ne_of_none e nT)]
      exact e
    refine ⟨T, [x, y], rfl, .inl (.inl upd_same), rfl, x, [y], rfl, y, [], rfl, rfl, ?_, thenT (he i x y _ _ hi hx hy (p.1.trans sT) fun H4 s4 => ?_)⟩
    · show (((((σ.set k none).set j none).set j (some x)).set k (some y)).set k none).set j none = (σ.set k none).set j none
      exact set4 σ hjk
    · have e4 : H4 D = some (.lst ((List.range i).map f)) := s4 _ _ (sT _ _ p.2)
      refine ⟨_, e4, ?_, fun b x e => ?_, ?_⟩
      · rw [List.length_map, List.length_range]
        exact Nat.lt_of_lt_of_le hi (Nat.le_of_lt (small1000 hz))
      · rw [upd_ne (ne_of_none e nD)]
        exact s4 _ _ (sT _ _ (p.1 _ _ e))
      · rw [upd_same, List.range_succ, List.map_append]
        rfl
end
/-! ### int(x), len(xs) of one kind -/
section
variable {X : Cx}
def rIntI : List V → Hp → VK → Prop := fun xs H Q => ∃ i, xs = [.int i] ∧ Q (.int i) H
theorem call_intI : CallR X (.type "int") rIntI := by
  intro pins s σ H xs us Q I r h
  obtain ⟨i, rfl, q⟩ := h
  exact call_int1 pins s σ H _ us Q I r (.inl ⟨i, rfl, q⟩)
def rIntB : List V → Hp → VK → Prop := fun xs H Q => ∃ b, xs = [.bl b] ∧ Q (.int (if b = true then 1 else 0)) H
theorem call_intB : CallR X (.type "int") rIntB := by
  intro pins s σ H xs us Q I r h
  obtain ⟨i, rfl, q⟩ := h
  exact call_int1 pins s σ H _ us Q I r (.inr ⟨i, rfl, q⟩)
def rLenL (K : PySem.W.Frag) : List V → Hp → VK → Prop := fun xs H Q => ∃ p ys, xs = [.ref p] ∧ SqL K H p ys ∧ Q (.int ys.length) H
theorem call_lenL : CallR X (.builtin "len") (rLenL X.K) := by
  intro pins s σ H xs us Q I r h
  obtain ⟨p, ys, rfl, hs, q⟩ := h
  exact call_len_seq pins s σ H _ us Q I r ⟨p, ys, rfl, .inl hs, q⟩
end
theorem ixL {K : PySem.W.Frag} {H : Hp} {p : Addr} {xs : List V} {i : Int} {v : V} {Q : VK} (h : SqL K H p xs) (e : atI xs i = some v) (q : Q v H) : rIxL K (.ref p) (.int i) H Q := ⟨p, xs, i, v, rfl, rfl, h, e, q⟩
theorem setL {H : Hp} {p : Addr} {xs : List V} {i : Int} {j : Nat} {v : V} {R : Hp → Prop} (h : H p = some (.lst xs)) (e : ixN xs.length i = some j) (q : R (upd H p (.lst (xs.set j v)))) : rSetL (.ref p) (.int i) v H R := ⟨p, xs, i, j, rfl, rfl, h, e, q⟩
theorem ixK {X : Cx} {K : PySem.W.Frag} {r : PySem.W.Frag → R2} (h : IxR X (r X.K)) (e : X.K = K) : IxR X (r K) := by
  rw [← e]
  exact h
theorem callK {X : Cx} {K : PySem.W.Frag} {f : Value} {r : PySem.W.Frag → List V → Hp → VK → Prop} (h : CallR X f (r X.K)) (e : X.K = K) : CallR X f (r K) := by
  rw [← e]
  exact h
end G1
end
section
set_option maxHeartbeats 4000000
/-! the layer of these proofs: an error that is caught and kept -/
namespace G2
open PySem PySem.Spec PyProof.Rows L2
/-- an error of the class at C with its dict at d stands at a -/
def ExK (C : Addr) (d : Option Addr) (a : Addr) : HO := .ext fun h =>
  ∃ (oe : Obj) (vs : Array Value), h.get? a = some oe ∧ Zc (.ref C) d oe ∧ oe.data = .fields vs
theorem exK_ok {P : Program} {w : World} {H : Hp} {h : Heap} {a C : Addr} {d : Option Addr} {oe : Obj} {vs : Array Value}
    (e : h.get? a = some oe) (z : Zc (.ref C) d oe) (f : oe.data = .fields vs) : ObjOk P w H h a (ExK C d a) :=
  ⟨⟨oe, vs, e, z, f⟩, ⟨oe, e⟩, fun _ _ ⟨o, v, q, r⟩ k => ⟨o, v, k o q, r⟩⟩
section
variable {X : Cx} {pins : List (Addr × Obj)} {σ : L2.St} {H : Hp} {s t : Shared} {B : Heap} {a C : Addr} {d : Option Addr}
/-- back on the ground, the error kept -/
theorem landK (I : Inv X pins σ H s) (nb : ∀ b o, s.heap.get? b = some o → b ∉ frs X.stack → B.get? b = some o)
    (st : B.StaysIn t.heap) (up : s.heap.UpToSlots t.heap) (os : t.os = s.os) (ag : AllBare t.gens)
    (na : H a = none) (n0 : s.heap.get? a = none) (new : ObjOk X.prog X.w (upd H a (ExK C d a)) t.heap a (ExK C d a)) :
    Inv X pins σ (upd H a (ExK C d a)) t := by
  have fr : ∀ b ∈ frs X.stack, ∀ o, s.heap.get? b = some o → ∃ sl, t.heap.get? b = some { o with slots := sl } := by
    intro b hb o e
    obtain ⟨_, o2, e2, hd⟩ := I.stack.mem hb
    rw [e] at e2
    cases e2
    exact up b o e hd
  have ne : ∀ {b : Addr} {o : Obj}, s.heap.get? b = some o → b ≠ a := by
    intro b o e z
    rw [z, n0] at e
    cases e
  have hok : HOk X.prog X.w (upd H a (ExK C d a)) t.heap :=
    HOk.laidN ((I.inGround nb).kept st) (fun _ _ e => e) na new
  have J := I.call (ch := []) (h' := t.heap) (g' := t.gens) (t' := t.toks) (d' := t.drawn) (H' := upd H a (ExK C d a))
    { keep := fun b o e _ hb _ => st b o (nb b o e hb)
      slot := fun b o e _ hb _ => fr b hb o e
      free := fun b o e n _ => by
        rw [upd_ne (ne e)]
        exact n
      there := fun b o e _ => by
        by_cases hb : b ∈ frs X.stack
        · obtain ⟨sl, q⟩ := fr b hb o e
          exact ⟨_, q⟩
        · exact ⟨o, st b o (nb b o e hb)⟩
      tups := fun b xs e => by
        rw [upd_ne (ne_of_none e na)]
        exact e
      frzs := fun b o u e => by
        rw [upd_ne (ne_of_none e na)]
        exact e
      tbls := fun b ps e => ⟨#[], by
        rw [upd_ne (ne_of_none e na), e]
        simp⟩ } hok ag (fun _ z => nomatch z)
  obtain ⟨b1, b2, b3, b4, b5⟩ := t
  obtain rfl : b5 = s.os := os
  exact J
/-- within the suite, nothing more is pinned -/
theorem inSuite (I : Inv X pins σ H s) (a : Addr) : Inv (X.suite a (X.pn ++ pins)) [] σ H s where
  ok := I.ok.suite _ _
  os := I.os
  bare := I.bare
  base := I.base
  loc := I.loc
  cell := I.cell
  free := I.free
  freeC := I.freeC
  pin := fun p hp => I.pin p (by rw [List.append_nil] at hp; exact hp)
  hok := I.hok
  len := I.len
theorem outSuite {q : List (Addr × Obj)} (I : Inv (X.suite a (X.pn ++ pins)) q σ H s) (ok : X.Ok) : Inv X pins σ H s where
  ok := ok
  os := I.os
  bare := I.bare
  base := I.base
  loc := I.loc
  cell := I.cell
  free := I.free
  freeC := I.freeC
  pin := fun p hp => I.pin p (List.mem_append_left _ hp)
  hok := I.hok
  len := I.len
end
/-- what `except c as n`, n at slot i, wishes of an error of the body; the suite has the error itself at a -/
def wAsK (K : PySem.W.Frag) (c : Value) (i : Nat) (ts : Addr → TS) (Wout : WX) (D : Ends) : WX := fun cls d σ H =>
  ∃ b, PySem.W.exmOne K cls c = some b ∧
    (b = true → ∃ C, cls = .ref C ∧ ∀ a, H a = none →
      ts a { nx := fun σ2 H2 => D.nx (σ2.set i none) H2, rt := D.rt,
             bk := fun σ2 H2 => D.bk (σ2.set i none) H2, ct := fun σ2 H2 => D.ct (σ2.set i none) H2 }
        (σ.set i (some (.ref a))) (upd H a (ExK C d a))) ∧
    (b = false → Wout cls d σ H)
section
variable {X : Cx} {x n : Str} {c : Value} {i : Nat} {body rest : List Stmt} {st0 : Stmt} {np hpos pos : Pos} {tb : WX → TS}
  {ts : Addr → TS} {Wout : WX}
theorem ps_tryK (stk : X.stack = X.env :: X.outer) (frm : X.env.frame = some X.env.locals) (nd : X.N.Nodup)
    (hi : X.N[i]? = some n) (lc : X.env.kindOf n = some .local) (nm : Names X x c) (tk : Takes X Wout)
    (hb : ∀ (W : WX) (pn : List (Addr × Obj)) (xe : Value → Shared → Prop), Takes (X.tr pn xe) W →
      PassesOwn (model X.prog X.w) X.A X.env xe → PSs (X.tr pn xe) body (tb W))
    (hsu : ∀ (a : Addr) (pn : List (Addr × Obj)), PSs (X.suite a pn) (st0 :: rest) (ts a)) :
    PS X (.Try body [.ExceptHandler (some (.Name x np)) (some n) (st0 :: rest) hpos] [] [] pos)
      (fun D σ H => tb (wAsK X.K c i ts Wout D) D σ H) := by
  refine ⟨fun pins s σ H D I h => ?_⟩
  have ok := I.ok
  have frames : X.A.frames = some (X.env :: X.outer) := by
    rw [ok.frames, stk]
  have isLoc : Loc X.env.scope n := .inl lc
  have inTry := hb (wAsK X.K c i ts Wout D) (X.pn ++ pins)
    (fun e s1 => wpAny (model X.prog X.w) X.A (noteFrame e X.env) (fun _ s2 =>
      wpAny (model X.prog X.w) X.A (setFlight e none) (fun _ s3 =>
        wpAny (model X.prog X.w) X.A
          (handleBy e X.env [.ExceptHandler (some (.Name x np)) (some n) (st0 :: rest) hpos]) (SP X pins D) X.xe s3)
        X.xe s2) X.xe s1) (fun u s1 air => ?_) PassesOwn.looking
  · refine wpAny_Try_except (wpAny_mono (inTry.run [] s σ H D (I.toTry _) h) (fun f s1 hsp => ?_) fun e s1 he => he)
    match f, hsp with
    | .next, ⟨σ2, H2, J, q⟩ => exact wpAny_execs_nil ⟨σ2, H2, J.ofTry ok, q⟩
    | .brk, ⟨σ2, H2, J, q⟩ => exact ⟨σ2, H2, J.ofTry ok, q⟩
    | .cont, ⟨σ2, H2, J, q⟩ => exact ⟨σ2, H2, J.ofTry ok, q⟩
    | .ret u, ⟨v, σ2, H2, J, r, q⟩ => exact ⟨v, σ2, H2, J.ofTry ok, r, q⟩
  · obtain ⟨a, B, sI, pins2, σ2, H2, cls, d, rfl, J2, nb, up, sky, na, os, ag, b, hb1, yes, no⟩ := air
    have J : Inv X pins σ2 H2 sI := J2.ofTry ok
    have sky2 : Sky B (X.env :: X.outer) a (Zc cls d) X.env.locals s1.heap := by
      rw [← stk]
      exact sky
    show wpAny (model X.prog X.w) X.A (noteFrame (.ref a) X.env) _ _ _
    refine Sky.land Zc.steady frames frm sky2 fun h3 fl3 up3 => ?_
    have J3 : Inv X pins σ2 H2 { s1 with heap := h3 } := J.landed nb fl3.1 (up.trans up3) os ag
    obtain ⟨oe3, vs3, he3, hz3, hd3⟩ := fl3.there
    have off : ∀ {hh : Heap} {o : Obj} {vs : Array Value}, hh.FunFrames B (X.env :: X.outer) → hh.get? a = some o →
        o.data = .fields vs → a ∉ frs (X.env :: X.outer) := by
      intro hh o vs ff e dd hm
      obtain ⟨_, o2, e2, hnf⟩ := ff.mem hm
      rw [e] at e2
      cases e2
      exact hnf _ dd
    have nfr := off fl3.2.2.1 he3 hd3
    have nfrS : a ∉ frs X.stack := by
      rw [stk]
      exact nfr
    have n0 : sI.heap.get? a = none := by
      cases e : sI.heap.get? a with
      | none => rfl
      | some o =>
        have z := nb a o e nfrS
        rw [fl3.2.1] at z
        cases z
    refine wpAny_handleBy_cons (codeAny_handlers_test ?_) (by intro q; cases q)
    have S3 := inSuite J3 a
    have LT : PySem.W.Looks (model X.prog X.w) h3 (typeOf (.ref a)) cls := by
      intro A Q E s k q
      refine wpAny_typeOf_ref (k _ _ he3) ?_
      rw [hz3.1]
      exact q
    have LM := PySem.W.exm_one (M := model X.prog X.w) (J3.kIn) LT hb1
    have test : ∀ {Q : Value → Shared → Prop} {E : Value → Shared → Prop}, Q c { s1 with heap := h3 } →
        wpAny (model X.prog X.w) (X.A.mark (some (.ref a))) (eval (.Name x np) X.env) Q E { s1 with heap := h3 } := by
      intro Q E q
      obtain ⟨hg, hdbg, hm | ⟨hm, hv, hnn⟩⟩ := nm
      · exact ld_glob (X := X.suite a (X.pn ++ pins)) S3 hg hm q hdbg
      · exact ld_blt (X := X.suite a (X.pn ++ pins)) S3 hg hm hv q hnn hdbg
    refine test (LM.here ?_)
    cases b with
    | true =>
      obtain ⟨C, rfl, here⟩ := yes rfl
      refine codeAny_handlers_suite_as (HandSPX.lands_againZ fl3 fun h4 fl4 up4 => ?_)
      obtain ⟨oe4, vs4, he4, hz4, hd4⟩ := fl4.there
      have J4 := landK (C := C) (d := d) (t := { s1 with heap := h4 }) J nb fl4.1 ((up.trans up3).trans up4) os ag na n0 (exK_ok he4 hz4 hd4)
      have S4 := inSuite J4 a
      refine store_ok (X := X.suite a (X.pn ++ pins)) (v := .ref a) S4 nd hi isLoc rfl (fun s5 S5 => ?_) (.inr lc)
      have run := (hsu a (X.pn ++ pins)).run [] s5 _ _ _ S5 (here a na)
      refine wpAny_mono run (fun f s6 hsp => ?_) fun _ _ z => False.elim z
      have fin : ∀ {σ6 : L2.St} {H6 : Hp} {Q : Shared → Prop}, Inv (X.suite a (X.pn ++ pins)) [] σ6 H6 s6 →
          (∀ s7, Inv X pins (σ6.set i none) H6 s7 → Q s7) →
          wpAny (model X.prog X.w) X.A (do bindName X.env n .none; unbindBehindTheSuite X.env n hpos) (fun _ s7 => Q s7) X.xe s6 :=
        fun S6 hq => gone_ok (outSuite S6 ok) nd hi lc hq
      match f, hsp with
      | .next, ⟨σ6, H6, S6, q6⟩ => exact fin S6 fun s7 J7 => ⟨_, _, J7, q6⟩
      | .brk, ⟨σ6, H6, S6, q6⟩ => exact fin S6 fun s7 J7 => ⟨_, _, J7, q6⟩
      | .cont, ⟨σ6, H6, S6, q6⟩ => exact fin S6 fun s7 J7 => ⟨_, _, J7, q6⟩
      | .ret u, ⟨v6, σ6, H6, S6, r6, q6⟩ => exact fin S6 fun s7 J7 => ⟨_, _, _, J7, r6, q6⟩
    | false =>
      show wpAny _ X.A (handleBy (.ref a) X.env []) _ _ _
      refine wpAny_handleBy_nil ?_
      obtain ⟨k1, k2, k3, oe, vs, T, oT, ts', he, hz, hd, hone, hr⟩ := id fl3
      unfold PySem.passOn
      refine wpAny_bind (wpAny_field he hd hone ?_)
      rw [if_neg (show ¬ ((Value.ref T == Value.none) = true) from by simp)]
      have out : wpAny (model X.prog X.w) X.A (setFlight (.ref a) X.env.frame) (fun _ s4 =>
          wpAny (model X.prog X.w) X.A (throw (.ref a) : Sem Flow) (SP X pins D) X.xe s4) X.xe { s1 with heap := h3 } := by
        rw [frm]
        refine HandSPX.setFlight_upZ fl3 fun h4 hh4 up4 => wpAny_throw (tk _ _ ?_)
        refine ⟨a, B, sI, pins, σ2, H2, cls, d, rfl, J, nb, (up.trans up3).trans up4, .inr (.inr ?_), na, os, ag, no rfl⟩
        rw [stk]
        exact hh4
      first
        | exact wpAny_bind (wpAny_pure (wpAny_bind out))
        | exact wpAny_bind out
end
/-! ### isinstance, the fields, the class above's __init__ -/
theorem ans_same {a C : Addr} {oe : Obj} (hc : oe.cls = .ref C) :
    Answers (fun s => s.heap.get? a = some oe) (.ref a) (.ref C) true := by
  intro dep tk prog w A R s hs
  obtain ⟨h0, g, d, tt, os⟩ := s
  obtain ⟨p, hq⟩ := hs
  have LT : PySem.W.Looks (model prog w) h0 (typeOf (.ref a)) (.ref C) := by
    intro A Q E s k q
    refine wpAny_typeOf_ref (k _ _ p) ?_
    rw [hc]
    exact q
  unfold Builtin.«isinstance.nested»
  refine wpAny_bind (LT.at ?_)
  rw [if_pos (beq_self_eq_true _)]
  first
    | exact wpAny_bind (wpAny_rule (hq tt))
    | exact wpAny_bind (wpAny_rule (wpAny_pure (hq tt)))
    | exact wpAny_rule (hq tt)
    | exact wpAny_pure (hq tt)
/-- isinstance of what may be such an error, of the very class that is asked for -/
def rIsC (K : PySem.W.Frag) : List V → Hp → VK → Prop := fun xs H Q =>
  rIsi K xs H Q ∨ ∃ (a C : Addr) (d : Option Addr), xs = [.ref a, .ref C] ∧ H a = some (ExK C d a) ∧ Q (.bl true) H
theorem call_isC {X : Cx} : CallR X (.builtin "isinstance") (rIsC X.K) := by
  intro pins s σ H xs us Q I r h
  rcases h with h | ⟨a, C, d, rfl, ha, q⟩
  · exact call_isi pins s σ H xs us Q I r h
  · obtain ⟨u1, u2, rfl, r1, r2⟩ := vals2 r
    cases (show u1 = Value.ref a from r1)
    cases (show u2 = Value.ref C from r2)
    obtain ⟨⟨oe, vs, ho, hz, hd⟩, _, _⟩ := I.hok a _ ha
    refine call_isinstance (S := fun _ R s => s.heap.get? a = some oe ∧ ∀ tk, R (.ok (.ret (.bool true))) { s with toks := tk })
      (fun prog w A R s hs => isinstance_outer (ans_same hz.1 0 _ prog w A R s hs) (fun z => nomatch z)) ⟨ho, fun tk => ?_⟩
    exact ⟨.bl true, H, I.tok tk, rfl, q⟩
/-- e.f, e such an error -/
def tFk (K : PySem.W.Frag) (f : Str) (te : TE) : TE := fun σ H Q => te σ H fun x H1 =>
  ∃ (a C dd : Addr) (fs : List (Str × V)) (v : V), x = .ref a ∧ H1 a = some (ExK C (some dd) a) ∧ XfC K C ∧
    PySem.W.findIn K (.ref C) f = some none ∧ H1 dd = some (.xd fs) ∧ fs.lookup f = some v ∧ Q v H1
theorem pe_fk {X : Cx} {e : Expr} {f : Str} {te : TE} {pos : Pos} (he : PE X e te)
    (hb : attributeBase e f X.env (eval e X.env) = eval e X.env := by rfl) : PE X (.Attribute e f pos) (tFk X.K f te) := by
  refine ⟨fun pins s σ H Q I h => ?_⟩
  refine attr_of hb (thn (he.run pins s σ H _ I h) fun u s1 hh => ?_)
  obtain ⟨x, H1, I1, rx, a, C, dd, fs, v, rfl, ha, T, no, hd, l, q⟩ := hh
  obtain rfl : u = Value.ref a := rx
  obtain ⟨⟨oe, vs, ho, hz, hf⟩, _, _⟩ := I1.hok a _ ha
  obtain ⟨mA, hns, hr⟩ := (show ObjOk X.prog X.w H1 s1.heap dd (.xd fs) from I1.hok dd _ hd)
  obtain ⟨od, hod, hl⟩ := lookIn_ns hns
  obtain ⟨u, hu, ru⟩ := RelO.some_of (v := v) (o := mA f) (by
    rw [← l]
    exact hr f)
  have J : PySem.W.InstAt s1.heap a oe C (some od) := by
    refine ⟨ho, hz.1, ?_, ?_⟩
    · unfold PySem.W.notCls
      rw [hf] <;> rfl
    · rw [hz.2]
      exact hod
  have found := PySem.W.findObj_own T.hdC no rfl (by
    rw [hl, hu])
  exact HandSPX.exc_get I1.kIn J T.ga T.gg T.exC found (handed_of ru) ⟨v, H1, I1.tok _, ru, q⟩
/-- D.__init__(self, ..), D an own class that has none of its own, above it ValueError -/
theorem pe_above {X : Cx} {x : Str} {D : Addr} {mc : Value} {pl : Sem Bool} {e : Expr} {es : List Expr} {ta : TA} {p1 p2 pos : Pos}
    (hg : Gl X x) (hm : X.mg x = some (.ref D)) (r : ClX.CRead X.K D mc)
    (at_ : PySem.W.findCls X.K (.ref D) mc "__init__" = some (.val (.builtin "ValueError.__init__"))) (ha : PA X (e :: es) ta)
    (hdb : (x == ("__debug__" : Str)) = false := by decide)
    (hc : eval (.Call (.Attribute (.Name x p1) "__init__" p2) (e :: es) [] pos) X.env = (do
      let ov ← eval (.Name x p1) X.env
      standAt p2.atName
      let (f, first) ← holding [ov] (getMethod ov "__init__" pl)
      callWith pos f first (backTo pos (starEach (e :: es) X.env)) (backToKw pos (keywordEach [] X.env))) := by rfl)
    (he : starEach (e :: es) X.env = (false, eval e X.env) :: starEach es X.env := by rfl)
    (hpl : (backTo pos (starEach es X.env)).any (·.1) = false := by rfl) :
    PE X (.Call (.Attribute (.Name x p1) "__init__" p2) (e :: es) [] pos) (tVeI X.K ta) := by
  refine ⟨fun pins s σ H Q I h => ?_⟩
  refine PySem.W.methodCall_KW (ld_glob I hg hm ?_ hdb) hc
  refine PySem.W.method_cls I.kIn r.ga (PySem.W.cls_value I.kIn r.rd at_ (by decide +kernel) ?_)
  show wpAny _ _ (callWith pos (Value.builtin "ValueError.__init__") [] (backTo pos (starEach (e :: es) X.env)) []) _ _ _
  refine PyProof.Rows.callWith_method1 (thn (ha.run pos pins _ σ H _ (I.tok _) h) fun us s1 hh => ?_) he hpl
  obtain ⟨vs, H1, I1, r1, a, C, ws, rfl, hl, T, ea, q⟩ := hh
  cases r1 with
  | @cons _ u0 _ ur ra rest =>
    obtain rfl : u0 = Value.ref a := ra
    refine oinit_ok T I1 ea ?_ fun s' J => ⟨.non, H1, J, rfl, q⟩
    rw [← Paired.length rest, sizeLine_eq]
    omega
end G2
end
section
set_option maxHeartbeats 4000000
/-! the layer of these proofs: a lambda with one default, handed to a def that calls it -/
namespace G2
open PySem PySem.Spec PyProof.Rows L2 LamX
/-- one parameter, never told, of no name that the def around it has; else captured names and globals -/
structure LamD (N : List Str) (dn : Str) (sc scope : Scope) : Prop where
  kind : scope.kind = .function
  co : scope.isCoroutine = false
  gen : scope.isGenerator = false
  at_ : scope.names.lookup dn = some .local
  noc : ∀ y ∈ scope.names, y.2 ≠ .cell
  one : ∀ y ∈ scope.names, y.2 = .local → y.1 ∉ N
  free : ∀ y ∈ scope.names, y.2 = .free → sc.names.lookup y.1 = some .cell ∨ sc.names.lookup y.1 = some .free
def lamDB (N : List Str) (dn : Str) (sc scope : Scope) : Bool :=
  decide (scope.kind = .function) && !scope.isCoroutine && !scope.isGenerator && decide (scope.names.lookup dn = some .local) &&
    scope.names.all fun y => !decide (y.2 = .cell) && (!decide (y.2 = .local) || decide (y.1 ∉ N)) &&
      (!decide (y.2 = .free) || (decide (sc.names.lookup y.1 = some .cell) || decide (sc.names.lookup y.1 = some .free)))
theorem lamD_by {N : List Str} {dn : Str} {sc scope : Scope} (h : lamDB N dn sc scope = true) : LamD N dn sc scope := by
  unfold lamDB at h
  simp only [Bool.and_eq_true, Bool.or_eq_true, Bool.not_eq_true', decide_eq_true_eq, decide_eq_false_iff_not,
    List.all_eq_true] at h
  obtain ⟨⟨⟨⟨k1, k2⟩, k3⟩, k4⟩, k5⟩ := h
  refine ⟨k1, k2, k3, k4, fun y hy => (k5 y hy).1.1, fun y hy e => ?_, fun y hy e => ?_⟩
  · exact (k5 y hy).1.2.resolve_left (fun z => z e)
  · exact (k5 y hy).2.resolve_left (fun z => z e)
section
variable {X : Cx} {pins : List (Addr × Obj)} {σ : L2.St} {H HZ : Hp} {s s1 : Shared}
theorem LamD.has {dn : Str} {scope : Scope} (L : LamD X.N dn X.env.scope scope) (ok : X.Ok) :
    ∀ y ∈ scope.names, y.2 = .free → ∃ c, X.env.cells.lookup y.1 = some c := by
  intro y hy e
  rcases L.free y hy e with k | k
  · exact ok.has _ (.inl k)
  · exact ok.has _ (.inr k)
abbrev lname (X : Cx) : Str := X.env.qual ++ "<lambda>"
/-- the function object of a lambda whose defaults stand at dv -/
abbrev lamObj (X : Cx) (params : Arguments) (body : Expr) (scope : Scope) (dv doc pm : Value) (c' : Addr) (ctv : Value) : Obj :=
  PySem.W.kdv_obj "<lambda>" (lname X) params (.expr body) scope (cloFrom X.env.cells scope.names []) dv doc pm c' ctv
theorem not_frame {f : Addr} (I : Inv X pins σ H s) (hf : s.heap.objs.size ≤ f) : f ∉ frs X.stack := by
  intro z
  rcases List.mem_cons.mp (I.stkSub _ z) with e | e
  · have lt := I.lt
    rw [← e] at lt
    exact Nat.lt_irrefl _ (Nat.lt_of_lt_of_le lt hf)
  · exact I.nofs hf e
/-- the function behind its default: its code is new, or found in the table -/
theorem lam_tailD {T : List (Addr × Str)} {c P t0 : Addr} {params : Arguments} {body : Expr} {scope : Scope} {pos : Pos} {z : Int} {fl : Nat}
    {E : Value → Shared → Prop} {Q : Value → Shared → Prop} (I : Inv X pins σ H s) (TB : TabB X.base X.mg c P)
    (hcode : X.env.code = .ref c) (hm : (P, lname X) ∈ T) (hu : ∀ p ∈ T, p.1 = P → p.2 = lname X) (hT : Tabs T H)
    (h0 : H t0 = some (.tup [.int z])) (hfree : ∀ y ∈ scope.names, y.2 = .free → ∃ c, X.env.cells.lookup y.1 = some c)
    (h : ∀ (f c' : Addr) (doc pm ctv : Value) (H1 : Hp) (s' : Shared), Inv X pins σ H1 s' → ExtN H H1 → Tabs T H1 →
      s'.heap.get? f = some (lamObj X params body scope (.ref t0) doc pm c' ctv) → H1 f = none →
      f ∉ frs X.stack → H1 c' = some (CodeO c' (lname X)) → Q (.ref f) s') :
    wpAny (model X.prog X.w) X.A (makeTail "<lambda>" (lname X) params (.expr body) scope X.env (.ref t0) .none none pos fl) Q E s := by
  obtain ⟨ps, hP, ht, ha⟩ := hT _ hm
  have bP : s.heap.BuiltinsAt X.mg P := TB.bm.keeps I.bk
  have oP : s.heap.get? P = some { cls := .none, data := .fields ps } := I.hok P _ hP
  cases hc : codeAmong pos ps.toList with
  | some cv =>
    obtain ⟨c', rfl, hco⟩ := ha pos cv hc
    refine PySem.W.kdv_makeTailHit (mg := X.mg) (c := c) (P := P) (ps := ps) (closure_ok hfree) I.ok.glob
      (I.mod.glob.keeps I.bk) hcode (TB.code.keeps I.bk) oP ht hc bP fun ctv doc h' tk hx hsz => ?_
    have J : Inv X pins σ H { s with heap := h'.push (lamObj X params body scope (.ref t0) doc ((X.mg "__name__").getD .none) c' ctv), toks := tk } :=
      I.kept fun b o e => Heap.get?_push_of_some _ (hx b o e)
    exact h h'.objs.size c' doc _ ctv H _ J (ExtN.refl H) hT (Heap.get?_push_size _ rfl) (I.hok.fresh hsz) (not_frame I hsz) hco
  | none =>
    refine PySem.W.kdv_makeTail (mg := X.mg) (c := c) (P := P) (ps := ps) (closure_ok hfree) I.ok.glob
      (I.mod.glob.keeps I.bk) hcode (TB.code.keeps I.bk) oP ht hc TB.gP bP fun c' ctv doc h' tk hx hge hlt hrec htb => ?_
    obtain ⟨c2, oc, vs, t, e2, hoc, hdat, hv⟩ := hrec
    cases e2
    have grown : s.heap.objs.size ≤ h'.objs.size := Nat.le_trans hge (Nat.le_of_lt hlt)
    have nC : H c' = none := I.hok.fresh hge
    have three : (ps ++ #[rawInt pos.line, rawInt pos.col, .ref c']).toList = ps.toList ++ [rawInt pos.line, rawInt pos.col, .ref c'] := by
      simp
    have J := inv_table (t' := tk) (more := #[rawInt pos.line, rawInt pos.col, .ref c'])
      (h' := h'.push (lamObj X params body scope (.ref t0) doc ((X.mg "__name__").getD .none) c' ctv)) I hP
      (fun b o hb e => Heap.get?_push_of_some _ (hx b o hb e)) (Heap.get?_push_of_some _ htb) hge
      ⟨oc, vs, t, Heap.get?_push_of_some _ hoc, hdat, hv⟩
    have ext : ExtN H (upd (upd H P (.tbl (ps ++ #[rawInt pos.line, rawInt pos.col, .ref c']))) c' (CodeO c' (lname X))) := by
      intro b o e n
      have nb : b ≠ P := fun q => by
        rw [q, hP] at e
        exact n ps (Option.some.inj e).symm
      rw [upd_ne (ne_of_none e nC), upd_ne nb]
      exact e
    refine h h'.objs.size c' doc _ ctv _ _ J ext (fun p hp => ?_) (Heap.get?_push_size _ rfl) ?_ (not_frame I grown) upd_same
    · by_cases hb : p.1 = P
      · rw [hu p hp hb, hb]
        refine ⟨ps ++ #[rawInt pos.line, rawInt pos.col, .ref c'], ?_, ?_, fun p2 cv hcv => ?_⟩
        · rw [upd_ne (ne_of_none hP nC), upd_same]
        · rw [three]
          exact PySem.TriplesOk_snoc _ _ _ _ ht
        · rw [three] at hcv
          rcases among_app _ ht hcv with q | q
          · obtain ⟨c0, e1, e2⟩ := ha p2 cv q
            exact ⟨c0, e1, ext _ _ e2 codeO_ne⟩
          · exact ⟨c', q, upd_same⟩
      · obtain ⟨ps2, a1, a2, a3⟩ := hT p hp
        refine ⟨ps2, ?_, a2, fun p2 cv hcv => ?_⟩
        · rw [upd_ne (ne_of_none a1 nC), upd_ne hb]
          exact a1
        · obtain ⟨c0, e1, e2⟩ := a3 p2 cv hcv
          exact ⟨c0, e1, ext _ _ e2 codeO_ne⟩
    · have n2 : h'.objs.size ≠ P := Nat.ne_of_gt (Nat.lt_of_lt_of_le (Heap.lt_size oP) grown)
      rw [upd_ne (Nat.ne_of_gt hlt), upd_ne n2]
      exact I.hok.fresh grown
/-- the lambda is made, its default beside it -/
theorem lam_makeD {T : List (Addr × Str)} {c P : Addr} {params : Arguments} {body : Expr} {scope : Scope} {pos q0 : Pos} {z : Int} {jz : Nat}
    {E : Value → Shared → Prop} {Q : Value → Shared → Prop} (I : Inv X pins σ H s) (TB : TabB X.base X.mg c P)
    (hcode : X.env.code = .ref c) (hm : (P, lname X) ∈ T) (hu : ∀ p ∈ T, p.1 = P → p.2 = lname X) (hT : Tabs T H)
    (hd : params.defaults = [.Constant (.int z) jz q0]) (hk : params.kw_defaults = [])
    (hfree : ∀ y ∈ scope.names, y.2 = .free → ∃ c, X.env.cells.lookup y.1 = some c)
    (h : ∀ (f c' t0 : Addr) (doc pm ctv : Value) (H1 : Hp) (s' : Shared), Inv X pins σ H1 s' → ExtN H H1 → Tabs T H1 →
      H1 t0 = some (.tup [.int z]) → s'.heap.get? f = some (lamObj X params body scope (.ref t0) doc pm c' ctv) → H1 f = none →
      f ∉ frs X.stack → H1 c' = some (CodeO c' (lname X)) → Q (.ref f) s') :
    wpAny (model X.prog X.w) X.A (eval (.Lambda params body scope pos) X.env) Q E s := by
  refine PySem.W.kdv_lam (by rw [hd] <;> rfl) hk ?_
  rw [hd]
  have one : ∀ {Q : Value → Shared → Prop} {E : Value → Shared → Prop}, (∀ t tk, Q (.int z t) { s with toks := tk }) →
      wpAny (model X.prog X.w) X.A (eval (.Constant (.int z) jz q0) X.env) Q E s := by
    intro Q E hq
    exact wpAny_Constant_int (hq _ _)
  refine PySem.W.kdv_all1 (one fun t tk => PySem.W.kdv_all0 ?_)
  have I0 := I.tok tk
  rw [makeFunction_eq]
  simp only [List.zip_nil_right, List.filterMap_nil, List.isEmpty_nil, if_true, pure_bind, List.isEmpty_cons, Bool.false_eq_true, if_false]
  refine wpAny_bind (wpAny_newTextTuple ?_)
  have I1 : Inv X pins σ (upd H s.heap.objs.size (.tup [.int z])) { s with heap := s.heap.push { cls := .type "tuple", data := .seq #[.int z t] }, toks := tk } :=
    I0.laid (fun b o e => Heap.get?_push_of_some _ e) (Nat.le_refl _)
      ⟨(by show 1 ≤ sizeLine; decide), [.int z t], .cons ⟨t, rfl⟩ .nil, ⟨_, Heap.get?_push_size _ rfl, rfl, _, rfl⟩⟩
  have n0 : H s.heap.objs.size = none := I.hok.fresh (Nat.le_refl _)
  have sm : ∀ b o, H b = some o → upd H s.heap.objs.size (.tup [.int z]) b = some o := fun b o e => by
    rw [upd_ne (ne_of_none e n0)]
    exact e
  refine lam_tailD I1 TB hcode hm hu (hT.ext sm) upd_same hfree fun f c' doc pm ctv H1 s' I2 e1 e2 e3 e4 e5 e6 => ?_
  exact h f c' _ doc pm ctv H1 s' I2 ((ExtN.of sm).trans e1) e2 (e1 _ _ upd_same (fun ps z => by cases z)) e3 e4 e5 e6
/-- the lambda's frame, one name bound in it -/
theorem lam_startD {A : Around} {outer : List Env} {E : XK} {scope : Scope} {f c' : Addr} {h1 : Heap} {tk : Nat} {dn : Str} {u : Value}
    (I : Inv X pins σ H s) (L : LamD X.N dn X.env.scope scope) (e0 : Env0 X.prog X.w X.K X.mg X.base A outer s1 HZ)
    (hd : A.handled = none) (un : Un (frs X.stack) [] H HZ s.heap s1.heap)
    (hns : h1.Ns s1.heap.objs.size fun y => ([(dn, u)] : List (Str × Value)).reverse.lookup y)
    (kp : ∀ b o, s1.heap.get? b = some o → h1.get? b = some o) :
    Inv (lamCx X A outer s1 HZ E scope f c') [] σ HZ { s1 with heap := h1, toks := tk } := by
  have there := L.has I.ok
  have clo : ∀ {y c}, (cloFrom X.env.cells scope.names []).lookup y = some c → X.env.cells.lookup y = some c := by
    intro y c e
    rcases cloFrom_mem (PySem.mem_of_lookup e) with hm | ⟨k1, k2⟩
    · cases hm
    · obtain ⟨c1, hc⟩ := there _ k1 rfl
      have hc2 : X.env.cells.lookup y = some c1 := hc
      have eq : c = c1 := by
        rw [k2, hc2] <;> rfl
      rw [eq]
      exact hc2
  have has : ∀ {y}, scope.names.lookup y = some .free → ∃ c, (cloFrom X.env.cells scope.names []).lookup y = some c := by
    intro y hl
    have hy : (y, NameKind.free) ∈ scope.names := PySem.mem_of_lookup hl
    exact mem_lookup (cloFrom_has (cells := X.env.cells) (acc := []) hy)
  have stays : ∀ {c : Addr} {v : Option Value}, H c = none → s.heap.IsCell c v → h1.IsCell c v := by
    rintro c v n ⟨o, ho, hdat⟩
    obtain ⟨sl, q⟩ := un.any ho n (by simp)
    exact ⟨_, kp _ _ q, hdat⟩
  have nil : ∀ b : Addr, b ∉ (lamCx X A outer s1 HZ E scope f c').ex := fun b z => (nomatch (show b ∈ ([] : List Addr) from z))
  have okL : (lamCx X A outer s1 HZ E scope f c').Ok :=
    { mod := e0.mod
      kind := L.kind
      glob := rfl
      blt := rfl
      above := Nat.le_refl _
      inj := fun y z c e1 e2 => I.ok.inj y z c (clo e1) (clo e2)
      has := fun y hy => by
        have hy2 : scope.names.lookup y = some .cell ∨ scope.names.lookup y = some .free := hy
        rcases hy2 with k | k
        · exact absurd rfl (L.noc _ (PySem.mem_of_lookup k))
        · exact has k
      cab := fun y c z _ => by
        have z2 : false = true := z
        cases z2
      hd := fun _ => hd
      frames := Around.frames_deeper e0.frames
      stk := .inr ⟨rfl, rfl⟩
      exf := fun b z => absurd z (nil b)
      bs := e0.bs
      bsz := e0.bsz
      noex := fun b _ _ => nil b
      exfs := fun b z => absurd z (nil b)
      funs := e0.funs
      frf := e0.frf }
  refine { ok := okL, os := rfl, bare := e0.bare, base := Un.kept kp, loc := ⟨_, hns, fun i y v e1 e2 e3 => ?_⟩, cell := fun y c e => ?_,
           free := e0.hok.fresh (Nat.le_refl _), freeC := fun y c e => ?_, pin := fun q hq => (nomatch (show q ∈ ([] : List (Addr × Obj)) ++ [] from hq)),
           hok := e0.hok.kept kp, len := I.len }
  · have e4 : Vis scope y := e3
    rcases e4 with k | k | k
    · exact absurd (List.mem_of_getElem? e1) (L.one _ (PySem.mem_of_lookup k) rfl)
    · exact absurd rfl (L.noc _ (PySem.mem_of_lookup k))
    · obtain ⟨m, hn, hl⟩ := I.loc
      have vis : Vis X.env.scope y := (L.free _ (PySem.mem_of_lookup k) rfl).elim (fun z => .inr (.inl z)) (fun z => .inr (.inr z))
      obtain ⟨w2, r, q⟩ := hl i y v e1 e2 vis
      obtain ⟨c2, h2⟩ := has k
      refine ⟨w2, r, .inr ⟨.inr k, c2, h2, ?_⟩⟩
      have c1 := clo h2
      rcases q with ⟨loc, _⟩ | ⟨_, c3, e5, z⟩
      · have loc2 : X.env.scope.names.lookup y = some .local := loc
        rcases L.free _ (PySem.mem_of_lookup k) rfl with k2 | k2
        · rw [show X.env.scope.names.lookup y = _ from k2] at loc2
          cases loc2
        · rw [show X.env.scope.names.lookup y = _ from k2] at loc2
          cases loc2
      · rw [c1] at e5
        cases e5
        exact stays (I.freeC y _ c1) z
  · obtain ⟨w2, z⟩ := I.cell y c (clo e)
    exact ⟨w2, stays (I.freeC y c (clo e)) z⟩
  · obtain ⟨v, o, ho, hdat⟩ := I.cell y c (clo e)
    exact un.free c o ho (I.freeC y c (clo e)) (by simp)
/-- a(), in the def that got the lambda -/
theorem pe_actD {CXg : CXT} {Eg : XK} {Ng : List Str} {qg : Str} {sg : Scope} {g f c' t0 : Addr} {cdg doc pm ctv : Value} {params : Arguments}
    {body : Expr} {scope : Scope} {k i : Nat} {a dn : Str} {z : Int} {pn : List (Addr × Obj)} {xe : Value → Shared → Prop} {W : WX} {tb : XK → TE}
    {p1 p2 : Pos} (I : Inv X pins σ H s) (L : LamD X.N dn X.env.scope scope)
    (hf : s.heap.get? f = some (lamObj X params body scope (.ref t0) doc pm c' ctv)) (hfn : H f = none) (hfr : f ∉ frs X.stack)
    (hbind : ∀ (s : Shared) (u : Value) (o : Obj) (n : Nat), s.heap.get? t0 = some o → o.data = .seq #[u] n →
      BindsTo s (PySem.W.kdv_fn "<lambda>" (lname X) params (.expr body) scope (cloFrom X.env.cells scope.names []) (.ref t0) doc pm (.ref c') ctv) ⟨[], []⟩ [(dn, u)])
    (tk : Takes ((cxOf CXg X.prog X.w X.K X.mg X.base Ng qg sg g cdg X.A X.stack s H Eg).tr pn xe) W)
    (hr : Room (k + 1) (X.A.deeper (envOfC qg sg s.heap.objs.size g cdg)))
    (hbody : ∀ (A : Around) (outer : List Env) (s : Shared) (H : Hp) (E : XK), A.guards = X.A.guards → Room k (A.deeper (lamEnv X scope s.heap.objs.size f c')) →
      PE (lamCx X A outer s H E scope f c') body (tb E))
    (hN : Ng[i]? = some a) (hv : Vis sg a) (hd : (a == ("__debug__" : Str)) = false := by decide)
    (hcd : (a == ("__classdict__" : Str)) = false := by decide) :
    PE ((cxOf CXg X.prog X.w X.K X.mg X.base Ng qg sg g cdg X.A X.stack s H Eg).tr pn xe) (.Call (.Name a p1) [] [] p2)
      (fun σZ HZ Q => σZ[i]? = some (some (.ref f)) ∧ (HZ c' = some (CodeO c' (lname X)) ∧ HZ t0 = some (.tup [.int z])) ∧
        ∃ E : XK, (∀ cls d H', E cls d H' → W cls d σZ H') ∧ tb E σ HZ Q) := by
  refine ⟨fun pinsZ sZ σZ HZ Q IZ h => ?_⟩
  obtain ⟨slot, ⟨code, dflt⟩, E, hW, ht⟩ := h
  have load := (pe_var (pos := p1) (i := i) hN hv hd hcd).run pinsZ sZ σZ HZ (fun v H1 => v = .ref f ∧ H1 = HZ) IZ ⟨.ref f, slot, rfl, rfl⟩
  refine wpAny_Call_Name_kw (thn load fun u s1 ⟨v, H1, I1, r1, q1⟩ => ?_)
  obtain ⟨rfl, rfl⟩ := q1
  obtain rfl : u = Value.ref f := r1
  have at1 := I1.base.keep f _ hf hfn hfr (fun z => nomatch (show f ∈ ([] : List Addr) from z))
  refine PySem.W.callWith_F0 ⟨_, _, _, _, at1⟩ ?_
  have un : Un (frs X.stack) [] H H1 s.heap s1.heap := I1.base
  obtain ⟨⟨oc, vs, t, hoc, hdc, hvc⟩, _, _⟩ := I1.hok c' _ code
  obtain ⟨_, us, rus, o0, k0, k1, k2, k3⟩ := (show ObjOk X.prog X.w H1 s1.heap t0 (.tup [.int z]) from I1.hok t0 _ dflt)
  cases rus with
  | @cons _ u0 _ ur r0 rr =>
    cases rr
    have rc : codeAny (model X.prog X.w) (X.A.deeper (envOfC qg sg s.heap.objs.size g cdg)) (.call (.ref f) ⟨[], []⟩)
        (CR (L2.CX X.prog X.w) (envOfC qg sg s.heap.objs.size g cdg :: X.stack) X.prog X.w H1 s1 Q E) s1 := by
      refine PySem.W.kla_callFunE hr.depth at1 rfl L.co L.gen rfl ⟨c', oc, vs, t, rfl, hoc, hdc, hvc⟩ ?_
      refine hbind s1 u0 o0 k2 k0 k3 _ _ _ _ ?_
      refine wpAny_newFunctionEnv (fun y hy => L.noc y hy) (fun y hy => ?_) (fun h1 hns hsb => ⟨I1.nolimit.fresh _ hsb, ?_⟩) L.kind
      · obtain rfl := List.mem_singleton.mp hy
        exact L.at_
      · show codeAny _ _ (.expr body (lamEnv X scope s1.heap.objs.size f c')) _ _
        have kp : ∀ b o, s1.heap.get? b = some o → h1.get? b = some o := fun b o e =>
          hsb.extBut b o (Nat.ne_of_lt (Heap.lt_size e)) (Heap.get?_push_of_some _ e)
        have J : Inv (lamCx X (X.A.deeper (envOfC qg sg s.heap.objs.size g cdg)) (envOfC qg sg s.heap.objs.size g cdg :: X.stack) s1 H1 E scope f c') []
            σ H1 { s1 with heap := h1, toks := s1.toks + ([(dn, u0)] : List (Str × Value)).length } :=
          lam_startD (dn := dn) (u := u0) I L I1.env0 hr.hd un hns kp
        have go := (hbody (X.A.deeper (envOfC qg sg s.heap.objs.size g cdg)) _ s1 H1 E rfl (hr.deeper _)).run [] _ _ H1 Q J ht
        refine PySem.W.kla_codeExpr (wpAny_mono go (fun v s' hq => ?_) fun e s' hq => hq)
        obtain ⟨w2, H2, J2, rv, q⟩ := hq
        exact ⟨w2, H2, J2.os, J2.bare, J2.base, J2.hok, rv, q⟩
    refine wpAny_call (codeAny_mono rc fun r s' hq => ?_)
    match r, hq with
    | .error e, hq => exact tk e s' (XE.of_call I1 hW hq)
    | .ok (.ret u), hq => exact I1.after hq
    | .ok .next, hq => exact False.elim hq
    | .ok .brk, hq => exact False.elim hq
    | .ok .cont, hq => exact False.elim hq
/-- the same of a lambda without parameters -/
theorem pe_actP {CXg : CXT} {Eg : XK} {Ng : List Str} {qg : Str} {sg : Scope} {g f c' : Addr} {cdg pm ctv : Value} {params : Arguments}
    {body : Expr} {scope : Scope} {k i : Nat} {a : Str} {pn : List (Addr × Obj)} {xe : Value → Shared → Prop} {W : WX} {tb : XK → TE}
    {p1 p2 : Pos} (I : Inv X pins σ H s) (L : LamS X.env.scope scope)
    (hf : s.heap.get? f = some (PySem.W.kla_obj "<lambda>" (lname X) params body scope (cloFrom X.env.cells scope.names []) pm c' ctv)) (hfn : H f = none) (hfr : f ∉ frs X.stack)
    (hbind : bindArgs (PySem.W.kla_fn "<lambda>" (lname X) params body scope (cloFrom X.env.cells scope.names []) pm (.ref c') ctv) ⟨[], []⟩ = pure [])
    (tk : Takes ((cxOf CXg X.prog X.w X.K X.mg X.base Ng qg sg g cdg X.A X.stack s H Eg).tr pn xe) W)
    (hr : Room (k + 1) (X.A.deeper (envOfC qg sg s.heap.objs.size g cdg)))
    (hbody : ∀ (A : Around) (outer : List Env) (s : Shared) (H : Hp) (E : XK), A.guards = X.A.guards → Room k (A.deeper (lamEnv X scope s.heap.objs.size f c')) →
      PE (lamCx X A outer s H E scope f c') body (tb E))
    (hN : Ng[i]? = some a) (hv : Vis sg a) (hd : (a == ("__debug__" : Str)) = false := by decide)
    (hcd : (a == ("__classdict__" : Str)) = false := by decide) :
    PE ((cxOf CXg X.prog X.w X.K X.mg X.base Ng qg sg g cdg X.A X.stack s H Eg).tr pn xe) (.Call (.Name a p1) [] [] p2)
      (fun σZ HZ Q => σZ[i]? = some (some (.ref f)) ∧ HZ c' = some (CodeO c' (lname X)) ∧
        ∃ E : XK, (∀ cls d H', E cls d H' → W cls d σZ H') ∧ tb E σ HZ Q) := by
  refine ⟨fun pinsZ sZ σZ HZ Q IZ h => ?_⟩
  obtain ⟨slot, code, E, hW, ht⟩ := h
  have load := (pe_var (pos := p1) (i := i) hN hv hd hcd).run pinsZ sZ σZ HZ (fun v H1 => v = .ref f ∧ H1 = HZ) IZ ⟨.ref f, slot, rfl, rfl⟩
  refine wpAny_Call_Name_kw (thn load fun u s1 ⟨v, H1, I1, r1, q1⟩ => ?_)
  obtain ⟨rfl, rfl⟩ := q1
  obtain rfl : u = Value.ref f := r1
  have at1 := I1.base.keep f _ hf hfn hfr (fun z => nomatch (show f ∈ ([] : List Addr) from z))
  refine PySem.W.callWith_F0 ⟨_, _, _, _, at1⟩ ?_
  have un : Un (frs X.stack) [] H H1 s.heap s1.heap := I1.base
  obtain ⟨⟨oc, vs, t, hoc, hdc, hvc⟩, _, _⟩ := I1.hok c' _ code
  have rc : codeAny (model X.prog X.w) (X.A.deeper (envOfC qg sg s.heap.objs.size g cdg)) (.call (.ref f) ⟨[], []⟩)
      (CR (L2.CX X.prog X.w) (envOfC qg sg s.heap.objs.size g cdg :: X.stack) X.prog X.w H1 s1 Q E) s1 := by
    refine PySem.W.kla_callFunE hr.depth at1 rfl L.co L.gen rfl ⟨c', oc, vs, t, rfl, hoc, hdc, hvc⟩ ?_
    rw [hbind]
    refine wpAny_pure (wpAny_newFunctionEnv (fun y hy => (L.own y hy).2) (fun y hy => (nomatch hy)) (fun h1 hns hsb => ⟨I1.nolimit.fresh _ hsb, ?_⟩) L.kind)
    · show codeAny _ _ (.expr body (lamEnv X scope s1.heap.objs.size f c')) _ _
      have kp : ∀ b o, s1.heap.get? b = some o → h1.get? b = some o := fun b o e =>
        hsb.extBut b o (Nat.ne_of_lt (Heap.lt_size e)) (Heap.get?_push_of_some _ e)
      have J : Inv (lamCx X (X.A.deeper (envOfC qg sg s.heap.objs.size g cdg)) (envOfC qg sg s.heap.objs.size g cdg :: X.stack) s1 H1 E scope f c') []
          σ H1 { s1 with heap := h1, toks := s1.toks + ([] : List (Str × Value)).length } :=
        lam_start2 I L I1.env0 hr.hd un hns kp
      have go := (hbody (X.A.deeper (envOfC qg sg s.heap.objs.size g cdg)) _ s1 H1 E rfl (hr.deeper _)).run [] _ _ H1 Q J ht
      refine PySem.W.kla_codeExpr (wpAny_mono go (fun v s' hq => ?_) fun e s' hq => hq)
      obtain ⟨w2, H2, J2, rv, q⟩ := hq
      exact ⟨w2, H2, J2.os, J2.bare, J2.base, J2.hok, rv, q⟩
  refine wpAny_call (codeAny_mono rc fun r s' hq => ?_)
  match r, hq with
  | .error e, hq => exact tk e s' (XE.of_call I1 hW hq)
  | .ok (.ret u), hq => exact I1.after hq
  | .ok .next, hq => exact False.elim hq
  | .ok .brk, hq => exact False.elim hq
  | .ok .cont, hq => exact False.elim hq
end
end G2
end
section
set_option maxHeartbeats 4000000
/-! the layer of these proofs: the call of a def with a lambda -/
namespace G2
open PySem PySem.Spec PyProof.Rows L2 LamX
/-- the def that calls what it got: TT is what it makes of the lambda's reading; G: what must still stand at the call -/
def GivesG (X : Cx) (Ng : List Str) (x : Str) (sg : Scope) (g : Addr) (cdg : Value) (bg : List Stmt) (a : Str)
    (TT : (XK → Hp → VK → Prop) → Hp → VK → Prop) : Prop :=
  ∀ (f : Addr) (G : Hp → Prop) (s : Shared) (H : Hp) (Q : VK) (tl : XK → Hp → VK → Prop),
    (∀ (W : WX) (pn : List (Addr × Obj)) (xe : Value → Shared → Prop) (p1 p2 : Pos),
      Takes ((cxOf C8.CX0 X.prog X.w X.K X.mg X.base Ng x sg g cdg X.A X.stack s H C8.E0).tr pn xe) W →
      PE ((cxOf C8.CX0 X.prog X.w X.K X.mg X.base Ng x sg g cdg X.A X.stack s H C8.E0).tr pn xe) (.Call (.Name a p1) [] [] p2)
        (fun σZ HZ Q => σZ[0]? = some (some (.ref f)) ∧ G HZ ∧ ∃ E : XK, (∀ cls d H', E cls d H' → W cls d σZ H') ∧ tl E HZ Q)) →
    G H → TT tl H Q →
    ∃ t, PSs (cxOf C8.CX0 X.prog X.w X.K X.mg X.base Ng x sg g cdg X.A X.stack s H C8.E0).nox bg t ∧
      t { nx := fun _ H' => Q .non H', rt := Q } (L2.start Ng [.ref f]) H
section
variable {X : Cx} {T : List (Addr × Str)} {TT : (XK → Hp → VK → Prop) → Hp → VK → Prop} {x a : Str} {g c P : Addr} {k : Nat}
  {pg : Arguments} {bg : List Stmt} {sg : Scope} {dV kV doc pm cdv ct oc : Value} {an od : Option Addr} {osl : Array (Option Value)}
  {Ng : List Str} {params : Arguments} {body : Expr} {scope : Scope} {t : XK → TE} {p lpos pos : Pos}
/-- the def is called with the lambda at f -/
theorem run_heard {pins : List (Addr × Obj)} {σ : L2.St} {H : Hp} {s : Shared} {Q : VK} {f : Addr} {G : Hp → Prop} {tl : XK → Hp → VK → Prop}
    (I : Inv X pins σ H s)
    (lk : X.K.lookup g = some ⟨oc, od, .func (PySem.W.fnOf x x pg bg sg dV kV doc pm an cdv ct), osl⟩)
    (hcg : PySem.W.codeIn X.K cdv x = true) (hb : L2.Binds X.K (PySem.W.fnOf x x pg bg sg dV kV doc pm an cdv ct) [a] [])
    (Sg : FnScope Ng [a] sg) (hr : Room (k + 2) X.A) (hG : GivesG X Ng x sg g cdv bg a TT)
    (act : Room (k + 1) (X.A.deeper (envOfC x sg s.heap.objs.size g cdv)) → ∀ (W : WX) (pn : List (Addr × Obj)) (xe : Value → Shared → Prop) (p1 p2 : Pos),
      Takes ((cxOf C8.CX0 X.prog X.w X.K X.mg X.base Ng x sg g cdv X.A X.stack s H C8.E0).tr pn xe) W →
      PE ((cxOf C8.CX0 X.prog X.w X.K X.mg X.base Ng x sg g cdv X.A X.stack s H C8.E0).tr pn xe) (.Call (.Name a p1) [] [] p2)
        (fun σZ HZ Q => σZ[0]? = some (some (.ref f)) ∧ G HZ ∧ ∃ E : XK, (∀ cls d H', E cls d H' → W cls d σZ H') ∧ tl E HZ Q))
    (here : G H) (h : TT tl H Q) : wpAny (model X.prog X.w) X.A (call (.ref g) [.ref f]) (EP X pins σ Q) X.xe s := by
  have rc : codeAny (model X.prog X.w) X.A (.call (.ref g) ⟨[.ref f], []⟩) (CR C8.CX0 X.stack X.prog X.w H s Q C8.E0) s := by
    refine run_ofS (N := Ng) (ps := [a]) (us := [.ref f]) (vs := [.ref f]) lk hcg Sg hr I.env0 (hb s [.ref f] I.kIn rfl)
      (.cons rfl .nil) rfl fun room => ?_
    obtain ⟨t2, ht, q⟩ := hG f G s H Q tl (act room) here h
    exact ⟨t2, ht.nox, q⟩
  refine wpAny_call (codeAny_mono rc fun r s2 hq => ?_)
  match r, hq with
  | .error e, hq => exact (show False from hq).elim
  | .ok (.ret u), hq => exact I.after hq
  | .ok .next, hq => exact False.elim hq
  | .ok .brk, hq => exact False.elim hq
  | .ok .cont, hq => exact False.elim hq
/-- x(lambda: body) -/
theorem pe_lamG (hg : Gl X x) (hm : X.mg x = some (.ref g)) (hk : PySem.W.keepIn X.K (.ref g) = true)
    (lk : X.K.lookup g = some ⟨oc, od, .func (PySem.W.fnOf x x pg bg sg dV kV doc pm an cdv ct), osl⟩)
    (hcg : PySem.W.codeIn X.K cdv x = true) (hb : L2.Binds X.K (PySem.W.fnOf x x pg bg sg dV kV doc pm an cdv ct) [a] [])
    (Sg : FnScope Ng [a] sg) (hNg : Ng[0]? = some a) (hva : Vis sg a) (hG : GivesG X Ng x sg g cdv bg a TT)
    (TB : TabB X.base X.mg c P) (hcode : X.env.code = .ref c) (hmT : (P, lname X) ∈ T) (hu : ∀ p ∈ T, p.1 = P → p.2 = lname X)
    (hr : Room (k + 2) X.A) (L : LamS X.env.scope scope) (hdef : defaultsOf params X.env = ([], []))
    (hbind : ∀ (q : Str) (cl : List (Str × Addr)) (pm cv ctv : Value), bindArgs (PySem.W.kla_fn "<lambda>" q params body scope cl pm cv ctv) ⟨[], []⟩ = pure [])
    (hbody : ∀ (A : Around) (outer : List Env) (s : Shared) (H : Hp) (E : XK) (f c' : Addr), A.guards = X.A.guards → Room k (A.deeper (lamEnv X scope s.heap.objs.size f c')) →
      PE (lamCx X A outer s H E scope f c') body (t E))
    (hdb : (x == ("__debug__" : Str)) = false := by decide) (hd : (a == ("__debug__" : Str)) = false := by decide)
    (hcd : (a == ("__classdict__" : Str)) = false := by decide) :
    PE X (.Call (.Name x p) [.Lambda params body scope lpos] [] pos) (tLam T TT t) := by
  refine ⟨fun pins s σ H Q I h => ?_⟩
  obtain ⟨hT, h⟩ := h
  refine wpAny_Call_Name_kw (ld_glob I hg hm ?_ hdb)
  refine PySem.W.callWith_K (h₀ := X.base) I.ok.mod.kin hk ?_ (by rfl) (by rfl)
  show wpAny _ _ (spliced ((false, eval (.Lambda params body scope lpos) X.env) :: backTo pos (starEach [] X.env))) _ _ s
  refine Calls.spliced_cons (lam_make2 I TB hcode hmT hu hT hdef (L.has I.ok) fun f c' pm' ctv H1 s' I1 eN T1 hf hfn hfr hco => ?_)
  refine Calls.spliced_nil ⟨I1.kIn, ?_⟩
  exact run_heard (G := fun HZ => HZ c' = some (CodeO c' (lname X))) (tl := fun E H' Q' => t E σ H' Q') I1 lk hcg hb Sg hr hG
    (fun room W pn xe p1 p2 tk => pe_actP (i := 0) (tb := t) I1 L hf hfn hfr (hbind _ _ _ _ _) tk room
      (fun A outer s H E hg2 hr2 => hbody A outer s H E f c' hg2 hr2) hNg hva hd hcd) hco (h H1 eN T1)
/-- x(lambda d=z: body) -/
theorem pe_lamD {dn : Str} {z : Int} {jz : Nat} {q0 : Pos} (hg : Gl X x) (hm : X.mg x = some (.ref g)) (hk : PySem.W.keepIn X.K (.ref g) = true)
    (lk : X.K.lookup g = some ⟨oc, od, .func (PySem.W.fnOf x x pg bg sg dV kV doc pm an cdv ct), osl⟩)
    (hcg : PySem.W.codeIn X.K cdv x = true) (hb : L2.Binds X.K (PySem.W.fnOf x x pg bg sg dV kV doc pm an cdv ct) [a] [])
    (Sg : FnScope Ng [a] sg) (hNg : Ng[0]? = some a) (hva : Vis sg a) (hG : GivesG X Ng x sg g cdv bg a TT)
    (TB : TabB X.base X.mg c P) (hcode : X.env.code = .ref c) (hmT : (P, lname X) ∈ T) (hu : ∀ p ∈ T, p.1 = P → p.2 = lname X)
    (hr : Room (k + 2) X.A) (L : LamD X.N dn X.env.scope scope) (hdef : params.defaults = [.Constant (.int z) jz q0])
    (hkw : params.kw_defaults = [])
    (hbind : ∀ (q : Str) (cl : List (Str × Addr)) (t0 : Addr) (dc pm cv ctv : Value) (s : Shared) (u : Value) (o : Obj) (n : Nat),
      s.heap.get? t0 = some o → o.data = .seq #[u] n →
      BindsTo s (PySem.W.kdv_fn "<lambda>" q params (.expr body) scope cl (.ref t0) dc pm cv ctv) ⟨[], []⟩ [(dn, u)])
    (hbody : ∀ (A : Around) (outer : List Env) (s : Shared) (H : Hp) (E : XK) (f c' : Addr), A.guards = X.A.guards → Room k (A.deeper (lamEnv X scope s.heap.objs.size f c')) →
      PE (lamCx X A outer s H E scope f c') body (t E))
    (hdb : (x == ("__debug__" : Str)) = false := by decide) (hd : (a == ("__debug__" : Str)) = false := by decide)
    (hcd : (a == ("__classdict__" : Str)) = false := by decide) :
    PE X (.Call (.Name x p) [.Lambda params body scope lpos] [] pos) (tLam T TT t) := by
  refine ⟨fun pins s σ H Q I h => ?_⟩
  obtain ⟨hT, h⟩ := h
  refine wpAny_Call_Name_kw (ld_glob I hg hm ?_ hdb)
  refine PySem.W.callWith_K (h₀ := X.base) I.ok.mod.kin hk ?_ (by rfl) (by rfl)
  show wpAny _ _ (spliced ((false, eval (.Lambda params body scope lpos) X.env) :: backTo pos (starEach [] X.env))) _ _ s
  refine Calls.spliced_cons (lam_makeD I TB hcode hmT hu hT hdef hkw (L.has I.ok)
    fun f c' t0 dc pm' ctv H1 s' I1 eN T1 h0 hf hfn hfr hco => Calls.spliced_nil ⟨I1.kIn, ?_⟩)
  exact run_heard (G := fun HZ => HZ c' = some (CodeO c' (lname X)) ∧ HZ t0 = some (.tup [.int z])) (tl := fun E H' Q' => t E σ H' Q')
    I1 lk hcg hb Sg hr hG
    (fun room W pn xe p1 p2 tk => pe_actD (i := 0) (tb := t) I1 L hf hfn hfr (fun s u o n => hbind _ _ t0 dc pm' _ ctv s u o n) tk room
      (fun A outer s H E hg2 hr2 => hbody A outer s H E f c' hg2 hr2) hNg hva hd hcd) ⟨hco, h0⟩ (h H1 eN T1)
end
/-! ### a call by names alone -/
section
variable {X : Cx} {CX : CXT} {k : Nat} {f : Addr} {fd : FuncData} {ps ks : List Str} {sp : Sp} {E : XK} {x : Str} {p pos : Pos} {kws : List Keyword} {tk : TA}
  {g : List Value → List Value → List Value} {gV : List V → List V → List V}
theorem pe_callK0 (F : FnOk X.prog X.w X.K X.mg X.base CX k f fd ps sp) (hr : Room k X.A) (hg : Gl X x) (hm : X.mg x = some (.ref f))
    (hk : PySem.W.keepIn X.K (.ref f) = true) (hb : KBinds X.K fd ps ks g gV) (hx : Passes CX X E) (hkw : PK X kws tk)
    (hall : (backToKw pos (keywordEach kws X.env)).all (·.1.isSome) = true := by rfl)
    (hks : (backToKw pos (keywordEach kws X.env)).filterMap (·.1) = ks := by rfl)
    (hdb : (x == ("__debug__" : Str)) = false := by decide)
    (hpl : ((backTo pos (starEach [] X.env)).any (·.1) || (backToKw pos (keywordEach kws X.env)).any (·.1.isNone)) = false := by rfl) :
    PE X (.Call (.Name x p) [] kws pos) (tCallK sp gV E tNil tk) := by
  refine ⟨fun pins s σ H Q I h => ?_⟩
  refine wpAny_Call_Name_kw (ld_glob I hg hm ?_ hdb)
  have h2 : tk σ H fun zs H2 => sp (gV [] zs) H2 Q E := h
  refine PySem.W.callWith_KW0 (h₀ := X.base) I.ok.mod.kin hk hall (thn (hkw.run pos pins s σ H _ I h2) fun ws s2 ⟨zs, H2, I2, rz, q2⟩ => ⟨I2.kIn, ?_⟩) hpl
  rw [hks]
  exact run_fnk F hr hb hx I2 .nil rz q2
/-- the same for a def where no repr is under way -/
theorem run_fnkG {pins : List (Addr × Obj)} {σ : L2.St} {H : Hp} {s : Shared} {Q : VK} {us ws : List Value} {vs zs : List V}
    (F : G1.FnG X.prog X.w X.K X.mg X.base CX k f fd ps sp) (hgd : X.A.guards = some []) (hr : Room k X.A) (hb : KBinds X.K fd ps ks g gV) (hx : Passes CX X E)
    (I : Inv X pins σ H s) (r : Vals vs us) (rz : Vals zs ws) (h : sp (gV vs zs) H Q E) :
    wpAny (model X.prog X.w) X.A (call (.ref f) us (ks.zip ws)) (EP X pins σ Q) X.xe s := by
  have rel := hb.rel r rz
  have len : (g us ws).length = ps.length := by
    rw [← rel.length]
    exact F.len _ _ _ _ h
  refine wpAny_call (codeAny_mono (F.go X.A X.stack s H ⟨us, ks.zip ws⟩ (g us ws) (gV vs zs) Q E hgd hr I.env0 (hb.to s us ws I.kIn len) rel h) fun r s2 hq => ?_)
  match r, hq with
  | .error e, hq => exact hx pins σ H s e s2 I hq
  | .ok (.ret u), hq => exact I.after hq
  | .ok .next, hq => exact False.elim hq
  | .ok .brk, hq => exact False.elim hq
  | .ok .cont, hq => exact False.elim hq
theorem pe_callK0G (F : G1.FnG X.prog X.w X.K X.mg X.base CX k f fd ps sp) (hgd : X.A.guards = some []) (hr : Room k X.A) (hg : Gl X x) (hm : X.mg x = some (.ref f))
    (hk : PySem.W.keepIn X.K (.ref f) = true) (hb : KBinds X.K fd ps ks g gV) (hx : Passes CX X E) (hkw : PK X kws tk)
    (hall : (backToKw pos (keywordEach kws X.env)).all (·.1.isSome) = true := by rfl)
    (hks : (backToKw pos (keywordEach kws X.env)).filterMap (·.1) = ks := by rfl)
    (hdb : (x == ("__debug__" : Str)) = false := by decide)
    (hpl : ((backTo pos (starEach [] X.env)).any (·.1) || (backToKw pos (keywordEach kws X.env)).any (·.1.isNone)) = false := by rfl) :
    PE X (.Call (.Name x p) [] kws pos) (tCallK sp gV E tNil tk) := by
  refine ⟨fun pins s σ H Q I h => ?_⟩
  refine wpAny_Call_Name_kw (ld_glob I hg hm ?_ hdb)
  have h2 : tk σ H fun zs H2 => sp (gV [] zs) H2 Q E := h
  refine PySem.W.callWith_KW0 (h₀ := X.base) I.ok.mod.kin hk hall (thn (hkw.run pos pins s σ H _ I h2) fun ws s2 ⟨zs, H2, I2, rz, q2⟩ => ⟨I2.kIn, ?_⟩) hpl
  rw [hks]
  exact run_fnkG F hgd hr hb hx I2 .nil rz q2
/-- all by names: nothing else binds so -/
def onlyK {α : Type} : List α → List α → List α
  | [], ws => ws
  | _, _ => []
theorem onlyK_rel {vs : List V} {us : List Value} {zs : List V} {ws : List Value} (r : Vals vs us) (rz : Vals zs ws) : Vals (onlyK vs zs) (onlyK us ws) := by
  cases r with
  | nil => exact rz
  | cons _ _ => exact .nil
end
/-- a call that may let an error out, but doesn't here -/
theorem passF {X : Cx} {P : Program} {w : World} : Passes (L2.CX P w) X (fun _ _ _ => False) := by
  intro pins σ H s e s' I h
  obtain ⟨_, _, _, _, _, _, _, _, _, _, _, _, z⟩ := h
  exact z.elim
/-- repr of a text -/
theorem call_reprS {X : Cx} : CallR X (.builtin "repr") (fun xs H Q => ∃ z : Str, xs = [.str z] ∧ (PyData.shown (.str z)).length ≤ sizeLine ∧ Q (.str (PyData.shown (.str z))) H) := by
  intro pins s σ H xs us Q I r h
  obtain ⟨z, rfl, hz, q⟩ := h
  obtain ⟨u, rfl, r1⟩ := vals1 r
  obtain ⟨t, rfl⟩ := r1
  exact PySem.P.repr_of_str ⟨.str _, H, I.tok _, ⟨_, rfl⟩, q⟩ hz
end G2
end
section
set_option maxHeartbeats 4000000
/-! the layer of these proofs: isinstance of an error that is kept, of another class -/
namespace G2
open PySem PySem.Spec PySem.Calls PyProof.Rows PySem.W
section
variable {prog : Program} {w : World} {A : Around} {E : Value → Shared → Prop} {s : Shared} {K : Frag} {x D : Addr} {ox od : Obj}
theorem found_class {a g : Value} (hc : (clsIn K D).isSome = true) (ha : findIn K (.ref D) "__class__" = some (some a))
    (hg : specialIn K a "__get__" = some (some g)) (ht : takesIn K a = some true) (dd : Option Obj) :
    findObj K D dd "__class__" = some (.bind g a) := by
  obtain ⟨cd, hcd⟩ := Option.isSome_iff_exists.mp hc
  unfold findObj
  rw [hcd, Option.bind_some, ha, Option.bind_some]
  simp [hg, ht]
theorem class_of_err {Q : Option Value → Shared → Prop} (T : L2.ExcC K D) (X : K.In s.heap) (I : InstAt s.heap x ox D (some od))
    (h : Q (some (.ref D)) { s with toks := s.toks + 1 }) : wpAny (model prog w) A (getAttr? (.ref x) "__class__") Q E s := by
  have found : findObj K D (some od) "__class__" = some (.bind (.builtin "getset_descriptor.__get__") (.builtin "object.__class__")) := by
    refine found_class ?_ T.ha T.hn T.ht _
    obtain ⟨cd, hc, _⟩ := any_some T.hd
    rw [hc]
    rfl
  obtain ⟨hp, g, d, t, os⟩ := s
  have ty := I.type (M := model prog w)
  have ga := looks_findIn (M := model prog w) X T.hg
  have gt := looks_findIn (M := model prog w) X T.hk
  have find := looks_find (M := model prog w) X I found
  have isExc : Looks (model prog w) hp (isInstance (.ref x) (.type "BaseException")) true := ty.andThen (looks_subIn X T.hs)
  have b0 : (false && onTheHeap (Value.builtin "BaseException.__getattribute__")) = false := rfl
  have b2 : (Value.builtin "BaseException.__getattribute__" == Value.builtin "object.__getattribute__") = false := by decide +kernel
  have b1 : (onTheHeap (Value.ref D) && Value.builtin "BaseException.__getattribute__" == Value.builtin "object.__getattribute__") = false := by
    rw [b2]
    rfl
  unfold getAttr? getAttrBy? getAttrBy
  refine wpAny_bind (wpAny_mkText (wpAny_bind (wpAny_attempt (wpAny_holding (wpAny_bind (ty.at (wpAny_bind (ga.at ?_))))))))
  show wpAny _ _ (if (onTheHeap (Value.ref D) && Value.builtin "BaseException.__getattribute__" ==
    Value.builtin "object.__getattribute__") = true then _ else _) _ _ _
  rw [b1, if_neg Bool.false_ne_true]
  unfold getAttrByItsOwn hookBefore
  refine wpAny_bind ?_
  rw [if_pos (show onTheHeap (Value.ref D) = true from rfl)]
  refine gt.at (wpAny_bind (wpAny_attempt (wpAny_holding ?_)))
  unfold callGetattribute
  rw [b0, if_neg Bool.false_ne_true]
  unfold boundAndCalled
  rw [PySem.F.excAttr_ValueError.ga.bind (.ref x)]
  refine wpAny_bind (wpAny_pure ?_)
  show wpAny _ _ (call (.builtin "BaseException.__getattribute__") [.ref x, .str "__class__" t]) _ _ _
  refine wpAny_call (codeAny_call_builtin PySem.F.excAttr_ValueError.ga.plain PySem.F.entry_bexc_ga ?_)
  refine @check_slot (model prog w) _ _ ⟨hp, g, d, t + 1, os⟩ "BaseException.__getattribute__" "BaseException" "__getattribute__"
    (.ref x) [.str "__class__" t] [] _ (by decide +kernel) (by decide +kernel) isExc (PySem.F.args_bexc_ga (.ref x) (.str "__class__" t)) ?_
  unfold Builtin.«object.__getattribute__»
  refine wpAny_bind (wpAny_of_eq (a := ((Value.ref x : Value), [Value.str "__class__" t])) (by
    first
    | rfl
    | (simp only [slotArgs]; rfl)) ?_)
  refine wpAny_bind (wpAny_pure (wpAny_bind (ty.at (wpAny_bind (find.at ?_)))))
  show wpAny _ _ (holding [Value.builtin "object.__class__"] (call (.builtin "getset_descriptor.__get__")
    [.builtin "object.__class__", .ref x, .ref D]) >>= ret) _ _ _
  refine wpAny_bind (wpAny_holding (wpAny_call (class_get (s := ⟨hp, g, d, t + 1, os⟩) (ox := ox) (od := some od) X I T.hm ?_)))
  refine wpAny_pure ?_
  show wpAny _ _ (handedOut (.ref D)) _ _ _
  rw [handedOut_of (v := .ref D) rfl]
  first
    | exact wpAny_pure (wpAny_pure h)
    | exact wpAny_pure h
    | exact wpAny_pure (wpAny_bind (wpAny_pure (wpAny_pure h)))
theorem kit_err (T : L2.ExcC K D) : KitX K (.ref x) (.ref D) (fun h => ∃ ox od, InstAt h x ox D (some od)) where
  ty := fun _ _ _ ⟨_, _, I⟩ => I.type
  it := fun _ _ X _ => by
    obtain ⟨cdD, hcD, _⟩ := any_some T.hd
    unfold clsIn at hcD
    split at hcD
    · rename_i c' d' cd' sl' ho
      intro A' Q' E' s' k q
      unfold isType loadHead
      exact wpAny_bind (wpAny_loadPart (k _ _ (X _ _ ho)) (wpAny_pure q))
    · cases hcD
  ne := fun h tp dd its n sl X htp => by
    obtain ⟨cdD, hcD, _⟩ := any_some T.hd
    refine Bool.eq_false_iff.mpr fun q => ?_
    obtain rfl : D = tp := Value.ref.inj (beq_iff_eq.mp q)
    unfold clsIn at hcD
    split at hcD
    · rename_i c' d' cd' sl' ho
      cases (X _ _ ho).symm.trans htp
    · cases hcD
  ca := fun X ⟨_, _, I⟩ k => class_of_err T X I k
end
end G2
namespace G2
open PySem PySem.Spec PyProof.Rows L2
/-- isinstance of such an error, any class that is asked for -/
def rIsD (K : PySem.W.Frag) : List V → Hp → VK → Prop := fun xs H Q => rIsC K xs H Q ∨
  ∃ (a C D dd : Addr) (fs : List (Str × V)) (b : Bool), xs = [.ref a, .ref C] ∧ H a = some (ExK D (some dd) a) ∧ H dd = some (.xd fs) ∧ ExcC K D ∧
    PySem.W.kitOne K (.ref D) (.ref C) = some b ∧ Q (.bl b) H
theorem call_isD {X : Cx} : CallR X (.builtin "isinstance") (rIsD X.K) := by
  intro pins s σ H xs us Q I r h
  rcases h with h | ⟨a, C, D, dd, fs, b, rfl, ha, hd, T, e, q⟩
  · exact call_isC pins s σ H xs us Q I r h
  · obtain ⟨u1, u2, rfl, r1, r2⟩ := vals2 r
    cases (show u1 = Value.ref a from r1)
    cases (show u2 = Value.ref C from r2)
    obtain ⟨⟨oe, vs, ho, hz, hf⟩, _, _⟩ := I.hok a _ ha
    obtain ⟨mA, hns, hr⟩ := (show ObjOk X.prog X.w H s.heap dd (.xd fs) from I.hok dd _ hd)
    obtain ⟨od, hod, hl⟩ := lookIn_ns hns
    have J : PySem.W.InstAt s.heap a oe D (some od) := by
      refine ⟨ho, hz.1, ?_, ?_⟩
      · unfold PySem.W.notCls
        rw [hf] <;> rfl
      · rw [hz.2]
        exact hod
    exact PySem.W.kia_one (kit_err T) I.kIn ⟨oe, od, J⟩ e (fun z => nomatch z) fun tk => ⟨.bl b, H, I.tok tk, rfl, q⟩
end G2
end
section
set_option maxHeartbeats 4000000
/-! data without addresses: the layer over readings -/
namespace DL
open PySem PySem.Spec PyProof.Rows L2 G1
inductive D where
  | non | bl (b : Bool) | int (i : Int) | str (x : Str) | lst (ds : List D) | tup (ds : List D) | dic (ks : List Key) (ds : List D) | ob (v : V)
/-- the tables of code of the lambdas in the text -/
class TB where
  T : List (Addr × Str)
variable [TB]
def isTbl : HO → Bool
  | .tbl _ => true
  | _ => false
/-- there, and no table -/
def lv (H : Hp) (b : Addr) : Prop := ∃ o, H b = some o ∧ isTbl o = false
theorem nlv {H : Hp} {b : Addr} (h : H b = none) : ¬ lv H b := fun ⟨o, e, _⟩ => by rw [h] at e; cases e
theorem lv_ne {H : Hp} {b p : Addr} (h : lv H b) (g : ¬ lv H p) : b ≠ p := fun z => g (z ▸ h)
theorem lv_nn {H : Hp} {b : Addr} (h : lv H b) : H b ≠ none := fun z => nlv z h
/-- who may still change what lies at an address: none: nobody -/
abbrev Ow := Addr → Option Nat
abbrev noH : Hp := fun _ => none
def LqO (_ : PySem.W.Frag) (O : Ow) (H : Hp) (p : Addr) (vs : List V) : Prop := O p = none ∧ H p = some (.lst vs)
def TqO (K : PySem.W.Frag) (_ : Ow) (H : Hp) (p : Addr) (vs : List V) : Prop := SqT K H p vs
/-- what is or was a tuple never changes -/
def isTup : HO → Bool
  | .tup _ => true
  | .frz _ (.tup _) => true
  | _ => false
theorem LqO.sq {K : PySem.W.Frag} {O : Ow} {H : Hp} {p : Addr} {vs : List V} (h : LqO K O H p vs) : SqL K H p vs := .inl (.inl h.2)
theorem TqO.sq {K : PySem.W.Frag} {O : Ow} {H : Hp} {p : Addr} {vs : List V} (h : TqO K O H p vs) : SqT K H p vs := h
mutual
def Rep (K : PySem.W.Frag) (O : Ow) (H : Hp) : D → V → Prop
  | .non, v => v = .non
  | .bl b, v => v = .bl b
  | .int i, v => v = .int i
  | .str x, v => v = .str x
  | .lst ds, v => ∃ p vs, v = .ref p ∧ LqO K O H p vs ∧ Reps K O H ds vs
  | .tup ds, v => ∃ p vs, v = .ref p ∧ TqO K O H p vs ∧ Reps K O H ds vs
  | .dic ks ds, v => ∃ p kvs, v = .ref p ∧ (O p = none ∧ H p = some (.dK kvs)) ∧ kvs.map (·.1) = ks ∧ Reps K O H ds (kvs.map (·.2))
  | .ob u, v => v = u
def Reps (K : PySem.W.Frag) (O : Ow) (H : Hp) : List D → List V → Prop
  | [], vs => vs = []
  | d :: ds, vs => ∃ v r, vs = v :: r ∧ Rep K O H d v ∧ Reps K O H ds r
end
structure Le (O : Ow) (H : Hp) (O' : Ow) (H' : Hp) : Prop where
  no : ∀ b o, isTbl o = false → O b = none → H b = some o → O' b = none ∧ H' b = some o
  tp : ∀ b u, isTup u = true → H b = some u → H' b = some u
theorem Le.refl (O : Ow) (H : Hp) : Le O H O H := ⟨fun _ _ _ a b => ⟨a, b⟩, fun _ _ _ h => h⟩
theorem Le.trans {O O1 O2 : Ow} {H H1 H2 : Hp} (a : Le O H O1 H1) (b : Le O1 H1 O2 H2) : Le O H O2 H2 := ⟨fun c o i x y => let ⟨u, v⟩ := a.no c o i x y; b.no c o i u v, fun c u x y => b.tp c u x (a.tp c u x y)⟩
/-- lists that are being made stay -/
def Lk (O : Ow) (H : Hp) (O' : Ow) (H' : Hp) : Prop := ∀ b o k, isTbl o = false → O b = some (1000000 + k) → H b = some o → O' b = O b ∧ H' b = some o
structure LL (O : Ow) (H : Hp) (O' : Ow) (H' : Hp) : Prop where
  le : Le O H O' H'
  lk : Lk O H O' H'
  live : ∀ b, lv H b → lv H' b
theorem LL.refl (O : Ow) (H : Hp) : LL O H O H := ⟨Le.refl O H, fun _ _ _ _ _ h => ⟨rfl, h⟩, fun _ h => h⟩
theorem LL.trans {O O1 O2 : Ow} {H H1 H2 : Hp} (a : LL O H O1 H1) (b : LL O1 H1 O2 H2) : LL O H O2 H2 := ⟨a.le.trans b.le, fun c o k i x y =>
  let ⟨u, v⟩ := a.lk c o k i x y
  let ⟨u2, v2⟩ := b.lk c o k i (u.trans x) v
  ⟨u2.trans u, v2⟩, fun c h => b.live c (a.live c h)⟩
/-- the same but for p, which was not there at the start -/
def LP (p : Addr) (O : Ow) (H : Hp) (O' : Ow) (H' : Hp) : Prop := Le O H O' H' ∧ (∀ b o k, b ≠ p → isTbl o = false → O b = some (1000000 + k) → H b = some o → O' b = O b ∧ H' b = some o) ∧ ∀ b, lv H b → lv H' b
theorem LL.new {p : Addr} {O O1 O2 : Ow} {H H1 H2 : Hp} (a : LL O H O1 H1) (b : LP p O1 H1 O2 H2) (h : ¬ lv H p) : LL O H O2 H2 := ⟨a.le.trans b.1, fun c o k i x y => by
  have n : c ≠ p := lv_ne ⟨o, y, i⟩ h
  obtain ⟨u, v⟩ := a.lk c o k i x y
  obtain ⟨u2, v2⟩ := b.2.1 c o k n i (u.trans x) v
  exact ⟨u2.trans u, v2⟩, fun c h => b.2.2 c (a.live c h)⟩
section
variable {K : PySem.W.Frag} {O O' : Ow} {H H' : Hp}
theorem LqO.le {p : Addr} {vs : List V} (l : Le O H O' H') (h : LqO K O H p vs) : LqO K O' H' p vs := l.no _ _ rfl h.1 h.2
theorem TqO.le {p : Addr} {vs : List V} (l : Le O H O' H') (h : TqO K O H p vs) : TqO K O' H' p vs := by
  rcases h with (h | ⟨o, h⟩) | h
  · exact .inl (.inl (l.tp _ _ rfl h))
  · exact .inl (.inr ⟨o, l.tp _ _ rfl h⟩)
  · exact .inr h
mutual
theorem Rep.le (l : Le O H O' H') : ∀ (d : D) (v : V), Rep K O H d v → Rep K O' H' d v
  | .non, _, h => h
  | .bl _, _, h => h
  | .int _, _, h => h
  | .str _, _, h => h
  | .lst ds, _, ⟨p, vs, e, s, r⟩ => ⟨p, vs, e, s.le l, Reps.le l ds vs r⟩
  | .tup ds, _, ⟨p, vs, e, s, r⟩ => ⟨p, vs, e, s.le l, Reps.le l ds vs r⟩
  | .dic ks ds, _, ⟨p, kvs, e, s, k, r⟩ => ⟨p, kvs, e, l.no _ _ rfl s.1 s.2, k, Reps.le l ds _ r⟩
  | .ob _, _, h => h
theorem Reps.le (l : Le O H O' H') : ∀ (ds : List D) (vs : List V), Reps K O H ds vs → Reps K O' H' ds vs
  | [], _, h => h
  | d :: ds, _, ⟨v, r, e, h1, h2⟩ => ⟨v, r, e, Rep.le l d v h1, Reps.le l ds r h2⟩
end
theorem Reps.len : ∀ {ds : List D} {vs : List V}, Reps K O H ds vs → vs.length = ds.length
  | [], _, h => by rw [show _ = [] from h]; rfl
  | d :: ds, _, ⟨v, r, e, h1, h2⟩ => by rw [e, List.length_cons, List.length_cons, Reps.len h2]
theorem Reps.app : ∀ {ds es : List D} {vs us : List V}, Reps K O H ds vs → Reps K O H es us → Reps K O H (ds ++ es) (vs ++ us)
  | [], _, _, _, h, g => by rw [show _ = [] from h]; exact g
  | d :: ds, _, _, _, ⟨v, r, e, h1, h2⟩, g => by rw [e]; exact ⟨v, _, rfl, h1, Reps.app h2 g⟩
theorem Reps.at : ∀ {ds : List D} {vs : List V} {i : Nat} {d : D}, Reps K O H ds vs → ds[i]? = some d → ∃ v, vs[i]? = some v ∧ Rep K O H d v
  | [], _, _, _, _, g => by cases g
  | d :: ds, _, 0, _, ⟨v, r, e, h1, h2⟩, g => by
    cases g
    rw [e]
    exact ⟨v, rfl, h1⟩
  | d :: ds, _, i + 1, _, ⟨v, r, e, h1, h2⟩, g => by
    rw [e]
    exact Reps.at (i := i) h2 g
theorem Reps.of : ∀ {ds : List D} {vs : List V}, vs.length = ds.length → (∀ (i : Nat) d v, ds[i]? = some d → vs[i]? = some v → Rep K O H d v) → Reps K O H ds vs
  | [], [], _, _ => rfl
  | d :: ds, v :: vs, hl, h => ⟨v, vs, rfl, h 0 d v rfl rfl, Reps.of (by simpa using hl) fun i d v a b => h (i + 1) d v a b⟩
  | [], _ :: _, hl, _ => by cases hl
  | _ :: _, [], hl, _ => by cases hl
theorem Reps.take {ds : List D} {vs : List V} (n : Nat) (h : Reps K O H ds vs) : Reps K O H (ds.take n) (vs.take n) := by
  refine Reps.of (by rw [List.length_take, List.length_take, h.len]) fun i d v a b => ?_
  rw [List.getElem?_take] at a b
  split at a
  · next hi =>
    rw [if_pos hi] at b
    obtain ⟨u, e, r⟩ := h.at a
    rw [e] at b
    cases b
    exact r
  · cases a
theorem Reps.drop {ds : List D} {vs : List V} (n : Nat) (h : Reps K O H ds vs) : Reps K O H (ds.drop n) (vs.drop n) := by
  refine Reps.of (by rw [List.length_drop, List.length_drop, h.len]) fun i d v a b => ?_
  rw [List.getElem?_drop] at a b
  obtain ⟨u, e, r⟩ := h.at a
  rw [e] at b
  cases b
  exact r
theorem Reps.sets {ds : List D} {vs : List V} {d : D} {v : V} (n : Nat) (h : Reps K O H ds vs) (g : Rep K O H d v) : Reps K O H (ds.set n d) (vs.set n v) := by
  refine Reps.of (by rw [List.length_set, List.length_set, h.len]) fun i x y a b => ?_
  rw [List.getElem?_set] at a b
  by_cases e : n = i
  · rw [if_pos e] at a b
    rw [h.len] at b
    split at a
    · next hi =>
      rw [if_pos hi] at b
      cases a
      cases b
      exact g
    · cases a
  · rw [if_neg e] at a b
    obtain ⟨u, e, r⟩ := h.at a
    rw [e] at b
    cases b
    exact r
theorem Reps.map_ {α : Type} {f : α → D} {g : α → V} (h : ∀ x, Rep K O H (f x) (g x)) : ∀ xs : List α, Reps K O H (xs.map f) (xs.map g)
  | [] => rfl
  | x :: xs => ⟨_, _, rfl, h x, Reps.map_ h xs⟩
theorem Reps.uniq {α : Type} {f : α → D} {g : α → V} (h : ∀ x v, Rep K O H (f x) v → v = g x) : ∀ (xs : List α) (vs : List V), Reps K O H (xs.map f) vs → vs = xs.map g
  | [], _, e => e
  | x :: xs, _, ⟨v, r, e, h1, h2⟩ => by
    rw [e, h x v h1, Reps.uniq h xs r h2]
    rfl
end
/-! ### what a top-level list may be read of while it is still somebody's -/
def RepV (K : PySem.W.Frag) (O : Ow) (H : Hp) : D → V → Prop
  | .lst ds, v => ∃ p vs, v = .ref p ∧ H p = some (.lst vs) ∧ Reps K O H ds vs
  | d, v => Rep K O H d v
theorem Rep.v {K : PySem.W.Frag} {O : Ow} {H : Hp} {d : D} {v : V} (h : Rep K O H d v) : RepV K O H d v := by
  cases d with
  | lst ds =>
    obtain ⟨p, vs, e, s, r⟩ := h
    exact ⟨p, vs, e, s.2, r⟩
  | _ => exact h
/-! ### the tray: what draws -/
structure SameX (t : Option Addr) (H H' : Hp) : Prop where
  sm : ∀ b o, t ≠ some b → isTbl o = false → H b = some o → H' b = some o
  tb : LamX.Tabs TB.T H → LamX.Tabs TB.T H'
theorem SameX.refl (t : Option Addr) (H : Hp) : SameX t H H := ⟨fun _ _ _ _ h => h, fun h => h⟩
theorem SameX.trans {t : Option Addr} {H H1 H2 : Hp} (a : SameX t H H1) (b : SameX t H1 H2) : SameX t H H2 := ⟨fun c o n i h => b.sm c o n i (a.sm c o n i h), fun h => b.tb (a.tb h)⟩
theorem SameX.of {t : Option Addr} {H H' : Hp} (a : Same H H') : SameX t H H' := ⟨fun c o _ _ h => a c o h, fun h p hp => (h p hp).ext a⟩
theorem SameX.up {t : Option Addr} {H H' : Hp} (a : SameX none H H') : SameX t H H' := ⟨fun c o _ i h => a.sm c o (fun z => by cases z) i h, a.tb⟩
theorem SameX.lv {H H' : Hp} (a : SameX none H H') {b : Addr} (h : lv H b) : lv H' b := let ⟨o, e, i⟩ := h; ⟨o, a.sm b o (fun z => by cases z) i e, i⟩
theorem SameX.at {H H' : Hp} (a : SameX none H H') {b : Addr} {o : HO} (i : isTbl o = false) (h : H b = some o) : H' b = some o := a.sm b o (fun z => by cases z) i h
structure TrO (K : PySem.W.Frag) (O : Ow) (H : Hp) (a c : Addr) (n : Nat) (ns : List Int) (t : Nat) (r : Int) : Prop where
  own : O a = some 0
  at_ : H a = some (.lst [.ref c, .int (t : Int), .int r])
  cown : O c = none
  cells : H c = some (.lst (ns.map V.int))
  few : ns.length ≤ 63
  low : 0 ≤ r
  left : t + n ≤ 1000000
def TrI (K : PySem.W.Frag) (tr : Option (Addr × Addr)) (O : Ow) (H : Hp) (n : Nat) : Prop := match tr with
  | none => True
  | some (a, c) => ∃ ns t r, TrO K O H a c n ns t r
abbrev tadr (tr : Option (Addr × Addr)) : Option Addr := tr.map (·.1)
/-- from (H, O) on -/
structure Aft (t : Option Addr) (O : Ow) (H : Hp) (O' : Ow) (H' : Hp) : Prop where
  same : SameX t H H'
  own : ∀ b, lv H b → O' b = none → O b = none
theorem Aft.refl (t : Option Addr) (O : Ow) (H : Hp) : Aft t O H O H := ⟨SameX.refl t H, fun _ _ h => h⟩
/-! ### what the slots hold -/
inductive Sl where
  | un | da (d : D) | ow (ds : List D)
structure DS where
  g : List Sl
  n : Nat
structure Err where
  cls : Value
  fs : List (Str × D)
def ErrR (K : PySem.W.Frag) (O : Ow) (H : Hp) (e : Err) (cls : Value) (dd : Option Addr) : Prop :=
  cls = e.cls ∧ ∃ d fs, dd = some d ∧ H d = some (.xd fs) ∧ fs.map (·.1) = e.fs.map (·.1) ∧ Reps K O H (e.fs.map (·.2)) (fs.map (·.2))
structure Par where
  K : PySem.W.Frag
  tr : Option (Addr × Addr)
  O0 : Ow
  H0 : Hp
  E : XK
  Er : Err → Prop
  /-- what is returned is new -/
  fr : Bool := false
def SlR (Θ : Par) (O : Ow) (H : Hp) (i : Nat) : Sl → Option V → Prop
  | .un, _ => True
  | .da d, o => ∃ v, o = some v ∧ Rep Θ.K O H d v
  | .ow ds, o => ∃ p vs, o = some (.ref p) ∧ O p = some (i + 1) ∧ H p = some (.lst vs) ∧ ¬ lv Θ.H0 p ∧ Reps Θ.K O H ds vs
structure Ctx (Θ : Par) (O : Ow) (S : DS) (σ : L2.St) (H : Hp) : Prop where
  len : S.g.length = σ.length
  few : σ.length ≤ 1000
  sl : ∀ (i : Nat) s, S.g[i]? = some s → ∃ o, σ[i]? = some o ∧ SlR Θ O H i s o
  tr : TrI Θ.K Θ.tr O H S.n
  aft : Aft (tadr Θ.tr) Θ.O0 Θ.H0 O H
  ew : ∀ e cls dd O' H', Aft (tadr Θ.tr) Θ.O0 Θ.H0 O' H' → ErrR Θ.K O' H' e cls dd → Θ.Er e → Θ.E cls dd H'
/-- a step: what is nobody's stays, what is somebody's stays, the tray turns -/
structure Stp (t : Option Addr) (O : Ow) (H : Hp) (O' : Ow) (H' : Hp) : Prop where
  same : SameX t H H'
  ow : ∀ b, lv H b → O' b = O b
  ta : ∀ a, t = some a → O a = some 0 ∧ lv H a ∧ lv H' a ∧ ∀ u, isTup u = true → H a ≠ some u
theorem tup_nt {u : HO} (h : isTup u = true) : isTbl u = false := by
  cases u with
  | tbl _ => cases h
  | _ => rfl
theorem Stp.le {t : Option Addr} {O O' : Ow} {H H' : Hp} (h : Stp t O H O' H') : Le O H O' H' := ⟨fun b o i a e =>
  ⟨(h.ow b ⟨o, e, i⟩).trans a, h.same.sm b o (fun z => by have := (h.ta b z).1; rw [a] at this; cases this) i e⟩, fun b u hu e => h.same.sm b u (fun z => (h.ta b z).2.2.2 u hu e) (tup_nt hu) e⟩
theorem Stp.live {t : Option Addr} {O O' : Ow} {H H' : Hp} (h : Stp t O H O' H') {b : Addr} (e : lv H b) : lv H' b := by
  by_cases z : t = some b
  · exact (h.ta b z).2.2.1
  · obtain ⟨o, q, i⟩ := e
    exact ⟨o, h.same.sm b o z i q, i⟩
theorem Stp.ll {t : Option Addr} {O O' : Ow} {H H' : Hp} (h : Stp t O H O' H') : LL O H O' H' := ⟨h.le, fun b o k i a e =>
  ⟨h.ow b ⟨o, e, i⟩, h.same.sm b o (fun z => by
    have := (h.ta b z).1
    rw [a] at this
    have := Option.some.inj this
    omega) i e⟩, fun b e => h.live e⟩
theorem Ctx.step {Θ : Par} {O O' : Ow} {S : DS} {σ : L2.St} {H H' : Hp} {n' : Nat} (c : Ctx Θ O S σ H) (h : Stp (tadr Θ.tr) O H O' H') (t : TrI Θ.K Θ.tr O' H' n') : Ctx Θ O' { S with n := n' } σ H' := by
  refine ⟨c.len, c.few, fun i s hs => ?_, t, ⟨c.aft.same.trans h.same, fun b hb ho => ?_⟩, c.ew⟩
  · obtain ⟨o, e, r⟩ := c.sl i s hs
    refine ⟨o, e, ?_⟩
    cases s with
    | un => exact r
    | da d =>
      obtain ⟨v, e2, r⟩ := r
      exact ⟨v, e2, Rep.le h.le d v r⟩
    | ow ds =>
      obtain ⟨p, vs, e2, op, hp, h0, r⟩ := r
      refine ⟨p, vs, e2, (h.ow p ⟨_, hp, rfl⟩).trans op, h.same.sm p _ (fun z => ?_) rfl hp, h0, Reps.le h.le ds vs r⟩
      have := (h.ta p z).1
      rw [op] at this
      cases this
  · have hl : lv H b := by
      by_cases z : tadr Θ.tr = some b
      · exact (h.ta b z).2.1
      · obtain ⟨o, q, i⟩ := hb
        exact ⟨o, c.aft.same.sm b o z i q, i⟩
    exact c.aft.own b hb ((h.ow b hl).symm.trans ho)
theorem TrI.live {K : PySem.W.Frag} {tr : Option (Addr × Addr)} {O : Ow} {H : Hp} {n : Nat} (t : TrI K tr O H n) {a : Addr} (e : tadr tr = some a) : O a = some 0 ∧ lv H a ∧ ∀ u, isTup u = true → H a ≠ some u := by
  match tr, t, e with
  | some (b, c), ⟨ns, k, r, t⟩, e =>
    cases e
    exact ⟨t.own, ⟨_, t.at_, rfl⟩, fun u hu z => by
      rw [t.at_] at z
      cases z
      cases hu⟩
theorem TrI.less {K : PySem.W.Frag} {tr : Option (Addr × Addr)} {O : Ow} {H : Hp} {n m : Nat} (t : TrI K tr O H n) (h : m ≤ n) : TrI K tr O H m := by
  match tr, t with
  | none, _ => exact True.intro
  | some (b, c), ⟨ns, k, r, t⟩ => exact ⟨ns, k, r, t.own, t.at_, t.cown, t.cells, t.few, t.low, by have := t.left; omega⟩
/-- the owners behind a call -/
def ownA (O : Ow) (H : Hp) (O' : Ow) : Ow := fun b => match H b with | none => O' b | some o => if isTbl o = true then O' b else O b
theorem ownA_old {O O' : Ow} {H : Hp} {b : Addr} (h : lv H b) : ownA O H O' b = O b := by
  obtain ⟨o, e, i⟩ := h
  unfold ownA
  rw [e]
  exact if_neg (by rw [i]; decide)
theorem ownA_new {O O' : Ow} {H : Hp} {b : Addr} (h : ¬ lv H b) : ownA O H O' b = O' b := by
  unfold ownA
  cases e : H b with
  | none => rfl
  | some o =>
    cases i : isTbl o with
    | true => exact if_pos i
    | false => exact absurd ⟨o, e, i⟩ h
theorem ownA_le {t : Option Addr} {O O' : Ow} {H H' : Hp} (a : Aft t O H O' H') : Le O' H' (ownA O H O') H' := by
  refine ⟨fun b o _ e h => ⟨?_, h⟩, fun _ _ _ h => h⟩
  by_cases q : lv H b
  · rw [ownA_old q]
    exact a.own b q e
  · rw [ownA_new q, e]
/-- behind a call that drew: what it says of the tray -/
theorem Ctx.aftT {Θ : Par} {O O' : Ow} {S : DS} {σ : L2.St} {H H' : Hp} {n' : Nat} (c : Ctx Θ O S σ H) (a : Aft (tadr Θ.tr) O H O' H') (t : TrI Θ.K Θ.tr O' H' n') :
    Ctx Θ (ownA O H O') { S with n := n' } σ H' ∧ LL O H (ownA O H O') H' := by
  have st : Stp (tadr Θ.tr) O H (ownA O H O') H' := ⟨a.same, fun b hb => ownA_old hb, fun b e => ⟨(c.tr.live e).1, (c.tr.live e).2.1, (t.live e).2.1, (c.tr.live e).2.2⟩⟩
  refine ⟨c.step st ?_, st.ll⟩
  have hc := c.tr
  have le := ownA_le a
  match Θ.tr, hc, t with
  | none, _, _ => exact True.intro
  | some (b, d), ⟨ns0, k0, r0, t0⟩, ⟨ns, k, r, t⟩ =>
    refine ⟨ns, k, r, ?_, t.at_, (le.no _ _ rfl t.cown t.cells).1, t.cells, t.few, t.low, t.left⟩
    rw [ownA_old ⟨_, t0.at_, rfl⟩]
    exact t0.own
/-- behind a call that drew nothing -/
theorem Ctx.aftN {Θ : Par} {O O' : Ow} {S : DS} {σ : L2.St} {H H' : Hp} (c : Ctx Θ O S σ H) (a : Aft none O H O' H') :
    Ctx Θ (ownA O H O') S σ H' ∧ LL O H (ownA O H O') H' := by
  have sm := a.same
  have le := ownA_le a
  have le0 : Le O H (ownA O H O') H' := ⟨fun b o i e h => ⟨(ownA_old ⟨o, h, i⟩).trans e, sm.at i h⟩, fun b u hu h => sm.at (tup_nt hu) h⟩
  have st : Stp (tadr Θ.tr) O H (ownA O H O') H' := ⟨sm.up, fun b hb => ownA_old hb, fun b e => ⟨(c.tr.live e).1, (c.tr.live e).2.1, sm.lv (c.tr.live e).2.1, (c.tr.live e).2.2⟩⟩
  refine ⟨c.step st ?_, st.ll⟩
  have hc := c.tr
  match Θ.tr, hc with
  | none, _ => exact True.intro
  | some (b, d), ⟨ns0, k0, r0, t0⟩ =>
    exact ⟨ns0, k0, r0, (ownA_old ⟨_, t0.at_, rfl⟩).trans t0.own, sm.at rfl t0.at_, (le0.no _ _ rfl t0.cown t0.cells).1, sm.at rfl t0.cells, t0.few, t0.low, t0.left⟩
end DL
end
section
set_option maxHeartbeats 4000000
namespace DL
variable [TB]
open PySem PySem.Spec PyProof.Rows L2 G1
abbrev FE := DS → (D → DS → Prop) → (Err → Prop) → Prop
abbrev FA := DS → (List D → DS → Prop) → (Err → Prop) → Prop
abbrev FB := DS → (Bool → DS → Prop) → (Err → Prop) → Prop
structure DN where
  nx : DS → Prop
  rt : D → DS → Prop
  bk : DS → Prop := fun _ => False
  ct : DS → Prop := fun _ => False
abbrev FS := DS → DN → (Err → Prop) → Prop
abbrev FP := List D → (D → Prop) → (Err → Prop) → Prop
abbrev FT := Addr → List D → Nat → (D → Nat → Prop) → (Err → Prop) → Prop
abbrev RD := D → D → (D → Prop) → Prop
section
variable (Θ : Par)
def tD (f : FE) : TE := fun σ H Q => ∃ O S C, Ctx Θ O S σ H ∧ f S C Θ.Er ∧ ∀ d S' v O' H', Ctx Θ O' S' σ H' → LL O H O' H' → Rep Θ.K O' H' d v → C d S' → Q v H'
def tDv (f : FE) : TE := fun σ H Q => ∃ O S C, Ctx Θ O S σ H ∧ f S C Θ.Er ∧ ∀ d S' v O' H', Ctx Θ O' S' σ H' → LL O H O' H' → RepV Θ.K O' H' d v → C d S' → Q v H'
/-- a list that was just made -/
def tDN (f : FA) : TE := fun σ H Q => ∃ O S C, Ctx Θ O S σ H ∧ f S C Θ.Er ∧ ∀ ds S' p vs O' H', Ctx Θ O' S' σ H' → LL O H O' H' → O' p = some 1000000 → ¬ lv H p → ¬ lv Θ.H0 p → H' p = some (.lst vs) → Reps Θ.K O' H' ds vs → C ds S' → Q (.ref p) H'
def tDA (f : FA) : TA := fun σ H Q => ∃ O S C, Ctx Θ O S σ H ∧ f S C Θ.Er ∧ ∀ ds S' vs O' H', Ctx Θ O' S' σ H' → LL O H O' H' → Reps Θ.K O' H' ds vs → C ds S' → Q vs H'
inductive RepVs (K : PySem.W.Frag) (O : Ow) (H : Hp) : List D → List V → Prop
  | nil : RepVs K O H [] []
  | cons {d : D} {v : V} {ds : List D} {vs : List V} : RepV K O H d v → RepVs K O H ds vs → RepVs K O H (d :: ds) (v :: vs)
def tDAv (f : FA) : TA := fun σ H Q => ∃ O S C, Ctx Θ O S σ H ∧ f S C Θ.Er ∧ ∀ ds S' vs O' H', Ctx Θ O' S' σ H' → LL O H O' H' → RepVs Θ.K O' H' ds vs → C ds S' → Q vs H'
def tDT (f : FB) : TT := fun σ H Q => ∃ O S C, Ctx Θ O S σ H ∧ f S C Θ.Er ∧ ∀ b S' O' H', Ctx Θ O' S' σ H' → LL O H O' H' → C b S' → Q b H'
def tDS (f : FS) : TS := fun D' σ H => ∃ O S e, Ctx Θ O S σ H ∧ f S e Θ.Er ∧ (∀ O' S' σ' H', Ctx Θ O' S' σ' H' → LL O H O' H' → e.nx S' → D'.nx σ' H') ∧
  (∀ d S' σ' v O' H', Ctx Θ O' S' σ' H' → Rep Θ.K O' H' d v → (Θ.fr = true → ∀ p, v = .ref p → ¬ lv Θ.H0 p) → e.rt d S' → D'.rt v H') ∧ (∀ O' S' σ' H', Ctx Θ O' S' σ' H' → LL O H O' H' → e.bk S' → D'.bk σ' H') ∧ (∀ O' S' σ' H', Ctx Θ O' S' σ' H' → LL O H O' H' → e.ct S' → D'.ct σ' H')
end
section
variable {X : Cx} {Θ : Par} {e : Expr}
theorem pe_imp {t t' : TE} (h : PE X e t) (i : ∀ σ H Q, t' σ H Q → t σ H Q) : PE X e t' := ⟨fun pins s σ H Q I q => h.run pins s σ H Q I (i σ H Q q)⟩
theorem pt_imp {t t' : TT} (h : PT X e t) (i : ∀ σ H Q, t' σ H Q → t σ H Q) : PT X e t' := ⟨fun pins s σ H Q I q => h.run pins s σ H Q I (i σ H Q q)⟩
theorem pw_imp {t t' : TT} (h : PW X e t) (i : ∀ σ H Q, t' σ H Q → t σ H Q) : PW X e t' := ⟨fun wh pins s σ H Q I q => h.run wh pins s σ H Q I (i σ H Q q)⟩
theorem pa_imp {es : List Expr} {t t' : TA} (h : PA X es t) (i : ∀ σ H Q, t' σ H Q → t σ H Q) : PA X es t' := ⟨fun pos pins s σ H Q I q => h.run pos pins s σ H Q I (i σ H Q q)⟩
theorem ps_imp {st : Stmt} {t t' : TS} (h : PS X st t) (i : ∀ Q σ H, t' Q σ H → t Q σ H) : PS X st t' := ⟨fun pins s σ H Q I q => h.run pins s σ H Q I (i Q σ H q)⟩
theorem pss_imp {st : List Stmt} {t t' : TS} (h : PSs X st t) (i : ∀ Q σ H, t' Q σ H → t Q σ H) : PSs X st t' := ⟨fun pins s σ H Q I q => h.run pins s σ H Q I (i Q σ H q)⟩
/-! ### names, constants -/
def dVar (i : Nat) : FE := fun S C _ => ∃ d, S.g[i]? = some (.da d) ∧ C d S
def dVw (i : Nat) : FE := fun S C _ => ∃ ds, S.g[i]? = some (.ow ds) ∧ C (.lst ds) S
def dC (d : D) : FE := fun S C _ => C d S
theorem de_var {i : Nat} (h : PE X e (tVar i)) : PE X e (tD Θ (dVar i)) := pe_imp h fun σ H Q ⟨O, S, C, c, ⟨d, hs, hc⟩, k⟩ => by
  obtain ⟨o, ho, v, rfl, r⟩ := c.sl i _ hs
  exact ⟨v, ho, k d S v O H c (LL.refl _ _) r hc⟩
theorem de_vw {i : Nat} (h : PE X e (tVar i)) : PE X e (tDv Θ (dVw i)) := pe_imp h fun σ H Q ⟨O, S, C, c, ⟨ds, hs, hc⟩, k⟩ => by
  obtain ⟨o, ho, p, vs, rfl, op, hp, h0, r⟩ := c.sl i _ hs
  exact ⟨_, ho, k (.lst ds) S _ O H c (LL.refl _ _) ⟨p, vs, rfl, hp, r⟩ hc⟩
theorem de_v {f : FE} (h : PE X e (tD Θ f)) : PE X e (tDv Θ f) := pe_imp h fun σ H Q ⟨O, S, C, c, hf, k⟩ => ⟨O, S, C, c, hf, fun d S' v O' H' c' l r => k d S' v O' H' c' l r.v⟩
theorem de_c {d : D} {v : V} (h : PE X e (tC v)) (hr : ∀ K O H, Rep K O H d v) : PE X e (tD Θ (dC d)) := pe_imp h fun σ H Q ⟨O, S, C, c, hf, k⟩ => k d S v O H c (LL.refl _ _) (hr _ _ _) hf
theorem de_int {i : Int} (h : PE X e (tC (.int i))) : PE X e (tD Θ (dC (.int i))) := de_c h fun _ _ _ => rfl
theorem de_str {z : Str} (h : PE X e (tC (.str z))) : PE X e (tD Θ (dC (.str z))) := de_c h fun _ _ _ => rfl
theorem de_bl {b : Bool} (h : PE X e (tC (.bl b))) : PE X e (tD Θ (dC (.bl b))) := de_c h fun _ _ _ => rfl
theorem de_non (h : PE X e (tC .non)) : PE X e (tD Θ (dC .non)) := de_c h fun _ _ _ => rfl
theorem de_ob {v : V} (h : PE X e (tC v)) : PE X e (tD Θ (dC (.ob v))) := de_c h fun _ _ _ => rfl
/-- a constant of the text that is a tuple or a list -/
theorem de_k {d : D} {v : V} (h : PE X e (tC v)) (hr : ∀ O H, Rep Θ.K O H d v) : PE X e (tD Θ (dC d)) := pe_imp h fun σ H Q ⟨O, S, C, c, hf, k⟩ => k d S v O H c (LL.refl _ _) (hr _ _) hf
/-! ### operators -/
def OpD (K : PySem.W.Frag) (r : R2) (rd : RD) : Prop := ∀ O H dx dy x y (C : D → Prop) (Q : VK), RepV K O H dx x → RepV K O H dy y → rd dx dy C → (∀ d v O' H', Aft none O H O' H' → Rep K O' H' d v → C d → Q v H') → r x y H Q
def UnD (K : PySem.W.Frag) (r : V → Hp → VK → Prop) (rd : D → (D → Prop) → Prop) : Prop := ∀ O H dx x (C : D → Prop) (Q : VK), RepV K O H dx x → rd dx C → (∀ d v O' H', Aft none O H O' H' → Rep K O' H' d v → C d → Q v H') → r x H Q
def CallD (K : PySem.W.Frag) (r : List V → Hp → VK → Prop) (rd : List D → (D → Prop) → Prop) : Prop := ∀ O H ds vs (C : D → Prop) (Q : VK), RepVs K O H ds vs → rd ds C → (∀ d v O' H', Aft none O H O' H' → Rep K O' H' d v → C d → Q v H') → r vs H Q
def dOp (rd : RD) (fa fb : FE) : FE := fun S C E => fa S (fun x S1 => fb S1 (fun y S2 => rd x y fun d => C d S2) E) E
def dOpL (rd : RD) (i : Nat) (fb : FE) : FE := fun S C E => (∃ ds, S.g[i]? = some (.ow ds)) ∧ fb S (fun y S2 => ∃ ds, S2.g[i]? = some (.ow ds) ∧ rd (.lst ds) y fun d => C d S2) E
def dUn (rd : D → (D → Prop) → Prop) (fa : FE) : FE := fun S C E => fa S (fun x S1 => rd x fun d => C d S1) E
def dCB (rd : List D → (D → Prop) → Prop) (fa : FA) : FE := fun S C E => fa S (fun ds S1 => rd ds fun d => C d S1) E
theorem Aft.lift {K : PySem.W.Frag} {O O' : Ow} {H H' : Hp} {d : D} {v : V} {S : DS} {σ : L2.St} (c : Ctx Θ O S σ H) (a : Aft none O H O' H') (r : Rep K O' H' d v) :
    Ctx Θ (ownA O H O') S σ H' ∧ LL O H (ownA O H O') H' ∧ Rep K (ownA O H O') H' d v :=
  ⟨(c.aftN a).1, (c.aftN a).2, Rep.le (ownA_le a) d v r⟩
theorem RepV.le {K : PySem.W.Frag} {O O' : Ow} {H H' : Hp} {d : D} {v : V} (l : Le O H O' H') (h : Rep K O H d v) : RepV K O' H' d v := (Rep.le l d v h).v
theorem de_op {r : R2} {rd : RD} {fa fb : FE} (hd : OpD Θ.K r rd) (h : PE X e (tOp r (tD Θ fa) (tDv Θ fb))) : PE X e (tD Θ (dOp rd fa fb)) := pe_imp h fun σ H Q ⟨O, S, C, c, hf, k⟩ =>
  ⟨O, S, _, c, hf, fun x S1 v O1 H1 c1 l1 r1 hb => ⟨O1, S1, _, c1, hb, fun y S2 u O2 H2 c2 l2 r2 hq => hd O2 H2 x y v u _ Q (RepV.le l2.le r1) r2 hq fun d z O3 H3 a r3 hc =>
    let ⟨c3, l3, r4⟩ := Aft.lift c2 a r3
    k d S2 z _ H3 c3 ((l1.trans l2).trans l3) r4 hc⟩⟩
theorem de_opL {r : R2} {rd : RD} {i : Nat} {fb : FE} (hd : OpD Θ.K r rd) (h : PE X e (tOp r (tVar i) (tD Θ fb))) : PE X e (tD Θ (dOpL rd i fb)) := pe_imp h fun σ H Q ⟨O, S, C, c, ⟨⟨ds0, hs0⟩, hf⟩, k⟩ => by
  obtain ⟨o0, ho0, p, vs0, rfl, op0, hp0, h00, rr0⟩ := c.sl i _ hs0
  refine ⟨_, ho0, O, S, _, c, hf, fun y S2 u O2 H2 c2 l2 r2 ⟨ds, hs, hq⟩ => ?_⟩
  obtain ⟨o, ho, p', vs, rfl, op, hp', h0', rr⟩ := c2.sl i _ hs
  rw [ho0] at ho
  cases ho
  refine hd O2 H2 (.lst ds) y _ u _ Q ⟨p, vs, rfl, hp', rr⟩ r2.v hq fun d z O3 H3 a r3 hc => ?_
  obtain ⟨c3, l3, r4⟩ := Aft.lift c2 a r3
  exact k d S2 z _ H3 c3 (l2.trans l3) r4 hc
theorem de_un {r : V → Hp → VK → Prop} {rd : D → (D → Prop) → Prop} {fa : FE} (hd : UnD Θ.K r rd) (h : PE X e (tUn r (tDv Θ fa))) : PE X e (tD Θ (dUn rd fa)) := pe_imp h fun σ H Q ⟨O, S, C, c, hf, k⟩ =>
  ⟨O, S, _, c, hf, fun x S1 v O1 H1 c1 l1 r1 hq => hd O1 H1 x v _ Q r1 hq fun d z O3 H3 a r3 hc =>
    let ⟨c3, l3, r4⟩ := Aft.lift c1 a r3
    k d S1 z _ H3 c3 (l1.trans l3) r4 hc⟩
theorem de_cb {r : List V → Hp → VK → Prop} {rd : List D → (D → Prop) → Prop} {fa : FA} (hd : CallD Θ.K r rd) (h : PE X e (tCB r (tDAv Θ fa))) : PE X e (tD Θ (dCB rd fa)) := pe_imp h fun σ H Q ⟨O, S, C, c, hf, k⟩ =>
  ⟨O, S, _, c, hf, fun x S1 v O1 H1 c1 l1 r1 hq => hd O1 H1 x v _ Q r1 hq fun d z O3 H3 a r3 hc =>
    let ⟨c3, l3, r4⟩ := Aft.lift c1 a r3
    k d S1 z _ H3 c3 (l1.trans l3) r4 hc⟩
/-! ### arguments -/
def daNil : FA := fun S C _ => C [] S
def daCons (fa : FE) (fr : FA) : FA := fun S C E => fa S (fun x S1 => fr S1 (fun xs S2 => C (x :: xs) S2) E) E
def daOne (fa : FE) : FA := fun S C E => fa S (fun x S1 => C [x] S1) E
theorem da_nil {es : List Expr} (h : PA X es tNil) : PA X es (tDA Θ daNil) := pa_imp h fun σ H Q ⟨O, S, C, c, hf, k⟩ => k [] S [] O H c (LL.refl _ _) rfl hf
theorem da_cons {es : List Expr} {fa : FE} {fr : FA} (h : PA X es (tCons (tD Θ fa) (tDA Θ fr))) : PA X es (tDA Θ (daCons fa fr)) := pa_imp h fun σ H Q ⟨O, S, C, c, hf, k⟩ =>
  ⟨O, S, _, c, hf, fun x S1 v O1 H1 c1 l1 r1 hb => ⟨O1, S1, _, c1, hb, fun xs S2 us O2 H2 c2 l2 r2 hq => k (x :: xs) S2 (v :: us) O2 H2 c2 (l1.trans l2) ⟨v, us, rfl, Rep.le l2.le x v r1, r2⟩ hq⟩⟩
theorem da_one {es : List Expr} {fa : FE} (h : PA X es (tCons (tDv Θ fa) tNil)) : PA X es (tDAv Θ (daOne fa)) := pa_imp h fun σ H Q ⟨O, S, C, c, hf, k⟩ =>
  ⟨O, S, _, c, hf, fun x S1 v O1 H1 c1 l1 r1 hb => k [x] S1 [v] O1 H1 c1 l1 (.cons r1 .nil) hb⟩
theorem RepVs.of {K : PySem.W.Frag} {O : Ow} {H : Hp} : ∀ {ds : List D} {vs : List V}, Reps K O H ds vs → RepVs K O H ds vs
  | [], _, h => by rw [show _ = [] from h]; exact .nil
  | d :: ds, _, ⟨v, r, e, h1, h2⟩ => by rw [e]; exact .cons h1.v (RepVs.of h2)
theorem da_v {es : List Expr} {f : FA} (h : PA X es (tDAv Θ f)) : PA X es (tDAv Θ f) := h
theorem da_of {es : List Expr} {f : FA} (h : PA X es (tDA Θ f)) : PA X es (tDAv Θ f) := pa_imp h fun σ H Q ⟨O, S, C, c, hf, k⟩ => ⟨O, S, C, c, hf, fun ds S' vs O' H' c' l r => k ds S' vs O' H' c' l (RepVs.of r)⟩
/-! ### calls of defs -/
theorem Ctx.live {O : Ow} {S : DS} {σ : L2.St} {H : Hp} (c : Ctx Θ O S σ H) {b : Addr} (h : lv Θ.H0 b) : lv H b := by
  by_cases z : tadr Θ.tr = some b
  · exact (c.tr.live z).2.1
  · obtain ⟨o, q, i⟩ := h
    exact ⟨o, c.aft.same.sm b o z i q, i⟩
theorem Ctx.aftX {O O' : Ow} {S : DS} {σ : L2.St} {H H' : Hp} (c : Ctx Θ O S σ H) (a : Aft (tadr Θ.tr) O H O' H') : Aft (tadr Θ.tr) Θ.O0 Θ.H0 O' H' :=
  ⟨c.aft.same.trans a.same, fun b h1 h2 => c.aft.own b h1 (a.own b (c.live h1) h2)⟩
theorem Aft.none {t : Option Addr} {O O' : Ow} {H H' : Hp} (a : Aft none O H O' H') : Aft t O H O' H' := ⟨a.same.up, a.own⟩
def spP (K : PySem.W.Frag) (g : FP) : Sp := fun vs H Q E => ∃ O ds C Er, Reps K O H ds vs ∧ g ds C Er ∧ (∀ e cls dd O' H', Aft none O H O' H' → ErrR K O' H' e cls dd → Er e → E cls dd H') ∧ (∀ d v O' H', Aft none O H O' H' → Rep K O' H' d v → C d → Q v H')
def spT (K : PySem.W.Frag) (g : FT) : Sp := fun vs H Q E => ∃ a c O ds n C Er, Reps K O H ds vs ∧ TrI K (some (a, c)) O H n ∧ g a ds n C Er ∧ (∀ e cls dd O' H', Aft (some a) O H O' H' → ErrR K O' H' e cls dd → Er e → E cls dd H') ∧
  (∀ d n' v O' H', Aft (some a) O H O' H' → TrI K (some (a, c)) O' H' n' → Rep K O' H' d v → C d n' → Q v H')
def spTF (K : PySem.W.Frag) (g : FT) : Sp := fun vs H Q E => ∃ a c O ds n C Er, Reps K O H ds vs ∧ TrI K (some (a, c)) O H n ∧ g a ds n C Er ∧ (∀ e cls dd O' H', Aft (some a) O H O' H' → ErrR K O' H' e cls dd → Er e → E cls dd H') ∧
  (∀ d n' v O' H', Aft (some a) O H O' H' → TrI K (some (a, c)) O' H' n' → Rep K O' H' d v → (∀ p, v = .ref p → ¬ lv H p) → C d n' → Q v H')
def dCallP (g : FP) (fa : FA) : FE := fun S C E => fa S (fun ds S1 => g ds (fun d => C d S1) E) E
def dCallT (g : FT) (a : Addr) (fa : FA) : FE := fun S C E => fa S (fun ds S1 => g a ds S1.n (fun d n' => C d { S1 with n := n' }) E) E
theorem de_callP {g : FP} {fa : FA} (h : PE X e (tCall (spP Θ.K g) [] Θ.E (tDA Θ fa))) : PE X e (tD Θ (dCallP g fa)) := pe_imp h fun σ H Q ⟨O, S, C, c, hf, k⟩ =>
  ⟨O, S, _, c, hf, fun ds S1 vs O1 H1 c1 l1 r1 hq => ⟨O1, ds, _, Θ.Er, by rw [List.append_nil]; exact r1, hq, fun e cls dd O' H' a er he => c1.ew e cls dd O' H' (c1.aftX a.none) er he, fun d v O' H' a r hc =>
    let ⟨c3, l3, r4⟩ := Aft.lift c1 a r
    k d S1 v _ H' c3 (l1.trans l3) r4 hc⟩⟩
theorem de_callT {g : FT} {fa : FA} {a c' : Addr} (ht : Θ.tr = some (a, c')) (h : PE X e (tCall (spT Θ.K g) [] Θ.E (tDA Θ fa))) : PE X e (tD Θ (dCallT g a fa)) := pe_imp h fun σ H Q ⟨O, S, C, c, hf, k⟩ =>
  ⟨O, S, _, c, hf, fun ds S1 vs O1 H1 c1 l1 r1 hq => ⟨a, c', O1, ds, S1.n, _, Θ.Er, by rw [List.append_nil]; exact r1, by have := c1.tr; rw [ht] at this; exact this, hq,
    fun e cls dd O' H' af er he => c1.ew e cls dd O' H' (c1.aftX (by rw [ht]; exact af)) er he, fun d n' v O' H' af tr r hc =>
    let ⟨c3, l3⟩ := c1.aftT (by rw [ht]; exact af) (by rw [ht]; exact tr)
    k d _ v _ H' c3 (l1.trans l3) (Rep.le (ownA_le af) d v r) hc⟩⟩
/-! ### displays -/
theorem same_upd {H : Hp} {p : Addr} {o : HO} (h : H p = none) : Same H (upd H p o) := fun b u e => by
  rw [upd_ne (ne_of_none e h)]
  exact e
theorem tabs_upd {H : Hp} {p : Addr} {vs : List V} {o : HO} (hl : H p = some (.lst vs)) (h : LamX.Tabs TB.T H) : LamX.Tabs TB.T (upd H p o) := fun t ht => by
  obtain ⟨ps, h1, h2, h3⟩ := h t ht
  refine ⟨ps, ?_, h2, fun pos cv hc => ?_⟩
  · rw [upd_ne (fun z => by rw [z, hl] at h1; cases h1)]
    exact h1
  · obtain ⟨c0, e1, e2⟩ := h3 pos cv hc
    refine ⟨c0, e1, ?_⟩
    rw [upd_ne (fun z => by rw [z, hl] at e2; unfold LamX.CodeO at e2; cases e2)]
    exact e2
theorem samex_upd {t : Option Addr} {H0 H : Hp} {p : Addr} {vs : List V} {o : HO} (a : SameX t H0 H) (hl : H p = some (.lst vs)) (h0 : ¬ lv H0 p) : SameX t H0 (upd H p o) :=
  ⟨fun b u hb i h => by
    rw [upd_ne (lv_ne ⟨u, h, i⟩ h0)]
    exact a.sm b u hb i h, fun h => tabs_upd hl (a.tb h)⟩
/-- who owns p from here on -/
def setO (O : Ow) (p : Addr) (k : Option Nat) : Ow := fun b => if b = p then k else O b
theorem setO_same {O : Ow} {p : Addr} {k : Option Nat} : setO O p k p = k := if_pos rfl
theorem setO_ne {O : Ow} {p b : Addr} {k : Option Nat} (h : b ≠ p) : setO O p k b = O b := if_neg h
theorem upd_leK {O : Ow} {H : Hp} {p : Addr} {o : HO} {k : Option Nat} (h : H p = none) : Le O H (setO O p k) (upd H p o) := ⟨fun b u _ e hb => by
  have n : b ≠ p := fun z => by rw [z, h] at hb; cases hb
  exact ⟨by rw [setO_ne n]; exact e, by rw [upd_ne n]; exact hb⟩, fun b u _ hb => by
  rw [upd_ne (ne_of_none hb h)]
  exact hb⟩
theorem upd_aft {O : Ow} {H : Hp} {p : Addr} {o : HO} (h : H p = none) : Aft none O H (setO O p none) (upd H p o) :=
  ⟨SameX.of (same_upd h), fun b hb e => by
    have : b ≠ p := lv_ne hb (nlv h)
    rw [setO_ne this] at e
    exact e⟩
theorem rep_newT {K : PySem.W.Frag} {O : Ow} {H : Hp} {p : Addr} {ds : List D} {vs : List V} (h : H p = none) (r : Reps K O H ds vs) : Rep K (setO O p none) (upd H p (.tup vs)) (.tup ds) (.ref p) :=
  ⟨p, vs, rfl, .inl (.inl upd_same), Reps.le (upd_leK h) ds vs r⟩
theorem rep_newL {K : PySem.W.Frag} {O : Ow} {H : Hp} {p : Addr} {ds : List D} {vs : List V} (h : H p = none) (r : Reps K O H ds vs) : Rep K (setO O p none) (upd H p (.lst vs)) (.lst ds) (.ref p) :=
  ⟨p, vs, rfl, ⟨setO_same, upd_same⟩, Reps.le (upd_leK h) ds vs r⟩
def dTup (fa : FA) : FE := fun S C E => fa S (fun ds S1 => ds.length ≤ sizeLine ∧ C (.tup ds) S1) E
theorem de_tup {fa : FA} (h : PE X e (tTup (tDA Θ fa))) : PE X e (tD Θ (dTup fa)) := pe_imp h fun σ H Q ⟨O, S, C, c, hf, k⟩ =>
  ⟨O, S, _, c, hf, fun ds S1 vs O1 H1 c1 l1 r1 ⟨hz, hq⟩ => ⟨by rw [r1.len]; exact hz, fun p hp =>
    let ⟨c3, l3, r4⟩ := Aft.lift c1 (upd_aft hp) (rep_newT hp r1)
    k _ S1 _ _ _ c3 (l1.trans l3) r4 hq⟩⟩
/-- a new list, nobody's yet -/
theorem Ctx.newO {O : Ow} {S : DS} {σ : L2.St} {H : Hp} {p : Addr} {o : HO} (k : Nat) (c : Ctx Θ O S σ H) (h : H p = none) :
    Ctx Θ (setO O p (some k)) S σ (upd H p o) ∧ LL O H (setO O p (some k)) (upd H p o) := by
  have le : Le O H (setO O p (some k)) (upd H p o) := upd_leK h
  have st : Stp (tadr Θ.tr) O H (setO O p (some k)) (upd H p o) := ⟨SameX.of (same_upd h), fun b hb => setO_ne (lv_ne hb (nlv h)), fun b e => by
    have n : b ≠ p := lv_ne (c.tr.live e).2.1 (nlv h)
    exact ⟨(c.tr.live e).1, (c.tr.live e).2.1, (by
      obtain ⟨o, q, i⟩ := (c.tr.live e).2.1
      exact ⟨o, by rw [upd_ne n]; exact q, i⟩), (c.tr.live e).2.2⟩⟩
  refine ⟨c.step st ?_, st.ll⟩
  have hc := c.tr
  match Θ.tr, hc with
  | none, _ => exact True.intro
  | some (b, d), ⟨ns0, k0, r0, t0⟩ =>
    have n : b ≠ p := fun z => by have := t0.at_; rw [z, h] at this; cases this
    exact ⟨ns0, k0, r0, by rw [setO_ne n]; exact t0.own, by rw [upd_ne n]; exact t0.at_, (le.no _ _ rfl t0.cown t0.cells).1, (le.no _ _ rfl t0.cown t0.cells).2, t0.few, t0.low, t0.left⟩
def dLst (fa : FA) : FA := fun S C E => fa S (fun ds S1 => ds.length ≤ sizeLine ∧ C ds S1) E
theorem de_lst {fa : FA} (h : PE X e (tLst (tDA Θ fa))) : PE X e (tDN Θ (dLst fa)) := pe_imp h fun σ H Q ⟨O, S, C, c, hf, k⟩ =>
  ⟨O, S, _, c, hf, fun ds S1 vs O1 H1 c1 l1 r1 ⟨hz, hq⟩ => ⟨by rw [r1.len]; exact hz, fun p hp =>
    let ⟨c3, l3⟩ := c1.newO 1000000 hp
    k ds S1 p vs _ _ c3 (l1.trans l3) setO_same (fun z => nlv hp (l1.live p z)) (fun z => nlv hp (c1.live z)) upd_same (Reps.le l3.le ds vs r1) hq⟩⟩
/-- it is nobody's from here on -/
theorem Ctx.frz {O : Ow} {S : DS} {σ : L2.St} {H : Hp} {p : Addr} {o : HO} {k : Nat} (c : Ctx Θ O S σ H) (hp : O p = some k) (hk : k ≠ 0) (hs : ∀ i ds, S.g[i]? = some (.ow ds) → i + 1 ≠ k) (hl : H p = some o) (hn : lv Θ.H0 p → Θ.O0 p = none) :
    Ctx Θ (setO O p none) S σ H ∧ LP p O H (setO O p none) H := by
  have le : Le O H (setO O p none) H := ⟨fun b u _ e hb => ⟨by
    by_cases z : b = p
    · rw [z, setO_same]
    · rw [setO_ne z]
      exact e, hb⟩, fun _ _ _ h => h⟩
  refine ⟨⟨c.len, c.few, fun i s h => ?_, ?_, ⟨c.aft.same, fun b hb ho => ?_⟩, c.ew⟩, le, fun b o k n _ e h => ⟨setO_ne n, h⟩, fun _ h => h⟩
  · obtain ⟨o', e, r⟩ := c.sl i s h
    refine ⟨o', e, ?_⟩
    cases s with
    | un => exact r
    | da d =>
      obtain ⟨v, e2, r⟩ := r
      exact ⟨v, e2, Rep.le le d v r⟩
    | ow ds =>
      obtain ⟨q, vs, e2, oq, hq, h0, r⟩ := r
      have n : q ≠ p := fun z => by
        rw [z, hp] at oq
        exact hs i ds h (Option.some.inj oq).symm
      exact ⟨q, vs, e2, by rw [setO_ne n]; exact oq, hq, h0, Reps.le le ds vs r⟩
  · have hc := c.tr
    match Θ.tr, hc with
    | none, _ => exact True.intro
    | some (b, d), ⟨ns0, k0, r0, t0⟩ =>
      have n : b ≠ p := fun z => by
        have := t0.own
        rw [z, hp] at this
        exact hk (Option.some.inj this)
      exact ⟨ns0, k0, r0, by rw [setO_ne n]; exact t0.own, t0.at_, (le.no _ _ rfl t0.cown t0.cells).1, t0.cells, t0.few, t0.low, t0.left⟩
  · by_cases z : b = p
    · rw [z] at hb ⊢
      exact hn hb
    · rw [setO_ne z] at ho
      exact c.aft.own b hb ho
end
end DL
end
section
set_option maxHeartbeats 4000000
namespace DL
variable [TB]
open PySem PySem.Spec PyProof.Rows L2 G1
section
variable {X : Cx} {Θ : Par} {e : Expr}
/-! ### a new list: nobody's, or a slot's -/
theorem Ctx.frzN {O : Ow} {S : DS} {σ : L2.St} {H : Hp} {p : Addr} {vs : List V} (c : Ctx Θ O S σ H) (hp : O p = some 1000000) (h0 : ¬ lv Θ.H0 p) (hl : H p = some (.lst vs)) :
    Ctx Θ (setO O p none) S σ H ∧ LP p O H (setO O p none) H :=
  c.frz hp (by decide) (fun i ds hs z => by
    have : i < S.g.length := (List.getElem?_eq_some_iff.mp hs).1
    have := c.len
    have := c.few
    omega) hl fun h => absurd h h0
theorem rep_frz {K : PySem.W.Frag} {O : Ow} {H : Hp} {p : Addr} {vs : List V} {ds : List D} (hl : H p = some (.lst vs)) (l : Le O H (setO O p none) H) (r : Reps K O H ds vs) : Rep K (setO O p none) H (.lst ds) (.ref p) :=
  ⟨p, vs, rfl, ⟨setO_same, hl⟩, Reps.le l ds vs r⟩
def dFz (f : FA) : FE := fun S C E => f S (fun ds S1 => C (.lst ds) S1) E
theorem de_fz {f : FA} (h : PE X e (tDN Θ f)) : PE X e (tD Θ (dFz f)) := pe_imp h fun σ H Q ⟨O, S, C, c, hf, k⟩ =>
  ⟨O, S, _, c, hf, fun ds S1 p vs O1 H1 c1 l1 op hn h0 hl r hc =>
    let ⟨c2, l2⟩ := c1.frzN op h0 hl
    k _ S1 _ _ _ c2 (l1.new l2 hn) (rep_frz hl l2.1 r) hc⟩
theorem getElem?_set_or {α : Type} {xs : List α} {i j : Nat} {x y : α} (h : (xs.set i x)[j]? = some y) : (i = j ∧ y = x ∧ j < xs.length) ∨ (i ≠ j ∧ xs[j]? = some y) := by
  rw [List.getElem?_set] at h
  by_cases e : i = j
  · rw [if_pos e] at h
    split at h
    · cases h
      exact .inl ⟨e, rfl, by omega⟩
    · cases h
  · rw [if_neg e] at h
    exact .inr ⟨e, h⟩
/-- a slot gets a value -/
theorem Ctx.setD {O : Ow} {S : DS} {σ : L2.St} {H : Hp} {i : Nat} {d : D} {v : V} (c : Ctx Θ O S σ H) (r : Rep Θ.K O H d v) : Ctx Θ O { S with g := S.g.set i (.da d) } (σ.set i (some v)) H := by
  refine ⟨by rw [List.length_set, List.length_set]; exact c.len, by rw [List.length_set]; exact c.few, fun j s h => ?_, c.tr, c.aft, c.ew⟩
  rcases getElem?_set_or h with ⟨e, rfl, hj⟩ | ⟨e, h⟩
  · rw [← e]
    exact ⟨some v, by rw [List.getElem?_set, if_pos rfl, if_pos (by rw [← c.len, e]; exact hj)], v, rfl, r⟩
  · obtain ⟨o, ho, hr⟩ := c.sl j s h
    exact ⟨o, by rw [List.getElem?_set, if_neg e]; exact ho, hr⟩
theorem Ctx.unset {O : Ow} {S : DS} {σ : L2.St} {H : Hp} {i : Nat} {o : Option V} (c : Ctx Θ O S σ H) : Ctx Θ O { S with g := S.g.set i .un } (σ.set i o) H := by
  refine ⟨by rw [List.length_set, List.length_set]; exact c.len, by rw [List.length_set]; exact c.few, fun j s h => ?_, c.tr, c.aft, c.ew⟩
  rcases getElem?_set_or h with ⟨e, rfl, hj⟩ | ⟨e, h⟩
  · rw [← e]
    exact ⟨o, by rw [List.getElem?_set, if_pos rfl, if_pos (by rw [← c.len, e]; exact hj)], True.intro⟩
  · obtain ⟨o', ho, hr⟩ := c.sl j s h
    exact ⟨o', by rw [List.getElem?_set, if_neg e]; exact ho, hr⟩
/-- a slot is forgotten -/
theorem Ctx.drop {O : Ow} {S : DS} {σ : L2.St} {H : Hp} {i : Nat} (c : Ctx Θ O S σ H) : Ctx Θ O { S with g := S.g.set i .un } σ H := by
  refine ⟨by rw [List.length_set]; exact c.len, c.few, fun j s h => ?_, c.tr, c.aft, c.ew⟩
  rcases getElem?_set_or h with ⟨e, rfl, hj⟩ | ⟨e, h⟩
  · exact ⟨_, List.getElem?_eq_getElem (by rw [← c.len]; exact hj), True.intro⟩
  · exact c.sl j s h
/-- the list at p is slot i's from here on -/
theorem Ctx.setO {O : Ow} {S : DS} {σ : L2.St} {H : Hp} {i : Nat} {ds : List D} {p : Addr} {vs : List V} (c : Ctx Θ O S σ H) (hp : O p = some 1000000) (h0 : ¬ lv Θ.H0 p) (hl : H p = some (.lst vs)) (r : Reps Θ.K O H ds vs) :
    Ctx Θ (setO O p (some (i + 1))) { S with g := S.g.set i (.ow ds) } (σ.set i (some (.ref p))) H ∧ LP p O H (DL.setO O p (some (i + 1))) H := by
  have le : Le O H (DL.setO O p (some (i + 1))) H := ⟨fun b u _ e hb => ⟨by
    have n : b ≠ p := fun z => by rw [z, hp] at e; cases e
    rw [setO_ne n]
    exact e, hb⟩, fun _ _ _ h => h⟩
  refine ⟨⟨by rw [List.length_set, List.length_set]; exact c.len, by rw [List.length_set]; exact c.few, fun j s h => ?_, ?_, ⟨c.aft.same, fun b hb ho => ?_⟩, c.ew⟩, le, fun b o k n _ e h => ⟨setO_ne n, h⟩, fun _ h => h⟩
  · rcases getElem?_set_or h with ⟨e, rfl, hj⟩ | ⟨e, h⟩
    · rw [← e]
      exact ⟨some (.ref p), by rw [List.getElem?_set, if_pos rfl, if_pos (by rw [← c.len, e]; exact hj)], p, vs, rfl, setO_same, hl, h0, Reps.le le ds vs r⟩
    · obtain ⟨o, ho, hr⟩ := c.sl j s h
      refine ⟨o, by rw [List.getElem?_set, if_neg e]; exact ho, ?_⟩
      cases s with
      | un => exact hr
      | da d =>
        obtain ⟨v, e2, hr⟩ := hr
        exact ⟨v, e2, Rep.le le d v hr⟩
      | ow es =>
        obtain ⟨q, us, e2, oq, hq, g0, hr⟩ := hr
        have n : q ≠ p := fun z => by
          rw [z, hp] at oq
          have : j < S.g.length := (List.getElem?_eq_some_iff.mp h).1
          have := c.len
          have := c.few
          have := Option.some.inj oq
          omega
        exact ⟨q, us, e2, by rw [setO_ne n]; exact oq, hq, g0, Reps.le le es us hr⟩
  · have hc := c.tr
    match Θ.tr, hc with
    | none, _ => exact True.intro
    | some (b, d), ⟨ns0, k0, r0, t0⟩ =>
      have n : b ≠ p := fun z => by
        have := t0.own
        rw [z, hp] at this
        cases this
      exact ⟨ns0, k0, r0, by rw [setO_ne n]; exact t0.own, t0.at_, (le.no _ _ rfl t0.cown t0.cells).1, t0.cells, t0.few, t0.low, t0.left⟩
  · by_cases z : b = p
    · rw [z] at hb
      exact absurd hb h0
    · rw [setO_ne z] at ho
      exact c.aft.own b hb ho
/-- slot i's list changes -/
theorem Ctx.put {O : Ow} {S : DS} {σ : L2.St} {H : Hp} {i : Nat} {ds es : List D} {p : Addr} {vs us : List V} (c : Ctx Θ O S σ H) (hi : S.g[i]? = some (.ow ds)) (ho : σ[i]? = some (some (.ref p))) (hp : O p = some (i + 1)) (hl : H p = some (.lst vs)) (h0 : ¬ lv Θ.H0 p) (r : Reps Θ.K O H es us) :
    Ctx Θ O { S with g := S.g.set i (.ow es) } σ (upd H p (.lst us)) ∧ LL O H O (upd H p (.lst us)) := by
  have ne : ∀ {b : Addr}, O b = none → b ≠ p := fun e z => by rw [z, hp] at e; cases e
  have le : Le O H O (upd H p (.lst us)) := ⟨fun b u _ e hb => ⟨e, by rw [upd_ne (ne e)]; exact hb⟩, fun b u hu hb => by
    have n : b ≠ p := fun z => by
      rw [z, hl] at hb
      cases hb
      cases hu
    rw [upd_ne n]
    exact hb⟩
  refine ⟨⟨by rw [List.length_set]; exact c.len, c.few, fun j s h => ?_, ?_, ⟨samex_upd c.aft.same hl h0, c.aft.own⟩, c.ew⟩, le, fun b o k _ e h => ⟨rfl, ?_⟩, fun b h => ?_⟩
  · rcases getElem?_set_or h with ⟨e, rfl, hj⟩ | ⟨e, h⟩
    · rw [← e]
      exact ⟨_, ho, p, us, rfl, hp, upd_same, h0, Reps.le le es us r⟩
    · obtain ⟨o, ho, hr⟩ := c.sl j s h
      refine ⟨o, ho, ?_⟩
      cases s with
      | un => exact hr
      | da d =>
        obtain ⟨v, e2, hr⟩ := hr
        exact ⟨v, e2, Rep.le le d v hr⟩
      | ow xs =>
        obtain ⟨q, ws, e2, oq, hq, g0, hr⟩ := hr
        have n : q ≠ p := fun z => by
          rw [z, hp] at oq
          have := Option.some.inj oq
          omega
        exact ⟨q, ws, e2, oq, by rw [upd_ne n]; exact hq, g0, Reps.le le xs ws hr⟩
  · have hc := c.tr
    match Θ.tr, hc with
    | none, _ => exact True.intro
    | some (b, d), ⟨ns0, k0, r0, t0⟩ =>
      have n : b ≠ p := fun z => by
        have := t0.own
        rw [z, hp] at this
        cases this
      exact ⟨ns0, k0, r0, t0.own, by rw [upd_ne n]; exact t0.at_, t0.cown, (le.no _ _ rfl t0.cown t0.cells).2, t0.few, t0.low, t0.left⟩
  · have n : b ≠ p := fun z => by
      rw [z, hp] at e
      have : i < S.g.length := (List.getElem?_eq_some_iff.mp hi).1
      have := c.len
      have := c.few
      have := Option.some.inj e
      omega
    rw [upd_ne n]
    exact h
  · by_cases z : b = p
    · exact ⟨_, by rw [z, upd_same], rfl⟩
    · obtain ⟨u, e, i⟩ := h
      exact ⟨u, by rw [upd_ne z]; exact e, i⟩
/-! ### statements -/
section
variable {st : Stmt} {sts : List Stmt}
def dSet (i : Nat) (f : FE) : FS := fun S e E => f S (fun d S1 => e.nx { S1 with g := S1.g.set i (.da d) }) E
def dSetO (i : Nat) (f : FA) : FS := fun S e E => f S (fun ds S1 => e.nx { S1 with g := S1.g.set i (.ow ds) }) E
theorem ds_set {i : Nat} {f : FE} (h : PS X st (tAsg (tD Θ f) (gName i))) : PS X st (tDS Θ (dSet i f)) := ps_imp h fun D' σ H ⟨O, S, e, c, hf, k1, k2, k3, k4⟩ =>
  ⟨O, S, _, c, hf, fun d S1 v O1 H1 c1 l1 r hc => k1 O1 _ _ H1 (c1.setD r) l1 hc⟩
theorem ds_setO {i : Nat} {f : FA} (h : PS X st (tAsg (tDN Θ f) (gName i))) : PS X st (tDS Θ (dSetO i f)) := ps_imp h fun D' σ H ⟨O, S, e, c, hf, k1, k2, k3, k4⟩ =>
  ⟨O, S, _, c, hf, fun ds S1 p vs O1 H1 c1 l1 op hn h0 hl r hc => let ⟨c2, l2⟩ := c1.setO op h0 hl r; k1 _ _ _ H1 c2 (l1.new l2 hn) hc⟩
def dDrop (f : FE) : FS := fun S e E => f S (fun _ S1 => e.nx S1) E
theorem ds_expr {f : FE} (h : PS X st (tDrop (tD Θ f))) : PS X st (tDS Θ (dDrop f)) := ps_imp h fun D' σ H ⟨O, S, e, c, hf, k1, k2, k3, k4⟩ =>
  ⟨O, S, _, c, hf, fun d S1 v O1 H1 c1 l1 r hc => k1 O1 S1 σ H1 c1 l1 hc⟩
def dRet (f : FE) : FS := fun S e E => f S e.rt E
theorem ds_ret {f : FE} (h : PS X st (tRet (tD Θ f))) (hfr : Θ.fr = false := by rfl) : PS X st (tDS Θ (dRet f)) := ps_imp h fun D' σ H ⟨O, S, e, c, hf, k1, k2, k3, k4⟩ =>
  ⟨O, S, _, c, hf, fun d S1 v O1 H1 c1 l1 r hc => k2 d S1 σ v O1 H1 c1 r (fun z => by rw [hfr] at z; cases z) hc⟩
def dRetF (f : FA) : FS := fun S e E => f S (fun ds S1 => e.rt (.lst ds) S1) E
theorem ds_retF {f : FA} (h : PS X st (tRet (tDN Θ f))) : PS X st (tDS Θ (dRetF f)) := ps_imp h fun D' σ H ⟨O, S, e, c, hf, k1, k2, k3, k4⟩ =>
  ⟨O, S, _, c, hf, fun ds S1 p vs O1 H1 c1 l1 op hn h0 hl r hc =>
    let ⟨c2, l2⟩ := c1.frzN op h0 hl
    k2 _ S1 σ _ _ H1 c2 (rep_frz hl l2.1 r) (fun _ q z => by cases z; exact h0) hc⟩
def dRetN : FS := fun S e _ => e.rt .non S
theorem ds_retN (h : PS X st tRetN) : PS X st (tDS Θ dRetN) := ps_imp h fun D' σ H ⟨O, S, e, c, hf, k1, k2, k3, k4⟩ => k2 .non S σ .non O H c rfl (fun _ p z => by cases z) hf
def dNext : FS := fun S e _ => e.nx S
theorem ds_pass (h : PS X st tNext) : PS X st (tDS Θ dNext) := ps_imp h fun D' σ H ⟨O, S, e, c, hf, k1, k2, k3, k4⟩ => k1 O S σ H c (LL.refl _ _) hf
def dBreak : FS := fun S e _ => e.bk S
theorem ds_break (h : PS X st tBreak) : PS X st (tDS Θ dBreak) := ps_imp h fun D' σ H ⟨O, S, e, c, hf, k1, k2, k3, k4⟩ => k3 O S σ H c (LL.refl _ _) hf
def dCont : FS := fun S e _ => e.ct S
theorem ds_cont (h : PS X st tCont) : PS X st (tDS Θ dCont) := ps_imp h fun D' σ H ⟨O, S, e, c, hf, k1, k2, k3, k4⟩ => k4 O S σ H c (LL.refl _ _) hf
def dNever : FS := fun _ _ _ => False
theorem ds_never : PS X st (tDS Θ dNever) := ps_imp ps_never fun D' σ H ⟨O, S, e, c, hf, k1, k2, k3, k4⟩ => hf
def dSeq (f g : FS) : FS := fun S e E => f S { e with nx := fun S1 => g S1 e E } E
theorem dss_nil (h : PSs X sts tNext) : PSs X sts (tDS Θ dNext) := pss_imp h fun D' σ H ⟨O, S, e, c, hf, k1, k2, k3, k4⟩ => k1 O S σ H c (LL.refl _ _) hf
theorem dss_cons {f g : FS} (h : PSs X sts (tSeq (tDS Θ f) (tDS Θ g))) : PSs X sts (tDS Θ (dSeq f g)) := pss_imp h fun D' σ H ⟨O, S, e, c, hf, k1, k2, k3, k4⟩ =>
  ⟨O, S, _, c, hf, fun O1 S1 σ1 H1 c1 l1 hg => ⟨O1, S1, e, c1, hg, fun O2 S2 σ2 H2 c2 l2 q => k1 O2 S2 σ2 H2 c2 (l1.trans l2) q, k2, fun O2 S2 σ2 H2 c2 l2 q => k3 O2 S2 σ2 H2 c2 (l1.trans l2) q, fun O2 S2 σ2 H2 c2 l2 q => k4 O2 S2 σ2 H2 c2 (l1.trans l2) q⟩, k2, k3, k4⟩
/-- with a word of one's own between -/
def dCut (f g : FS) : FS := fun S e E => ∃ Mid : DS → Prop, f S { e with nx := Mid } E ∧ ∀ S1, Mid S1 → g S1 e E
theorem dss_cut {f g : FS} (h : PSs X sts (tSeq (tDS Θ f) (tDS Θ g))) : PSs X sts (tDS Θ (dCut f g)) := pss_imp h fun D' σ H ⟨O, S, e, c, ⟨Mid, hf, hm⟩, k1, k2, k3, k4⟩ =>
  ⟨O, S, _, c, hf, fun O1 S1 σ1 H1 c1 l1 hg => ⟨O1, S1, e, c1, hm S1 hg, fun O2 S2 σ2 H2 c2 l2 q => k1 O2 S2 σ2 H2 c2 (l1.trans l2) q, k2, fun O2 S2 σ2 H2 c2 l2 q => k3 O2 S2 σ2 H2 c2 (l1.trans l2) q, fun O2 S2 σ2 H2 c2 l2 q => k4 O2 S2 σ2 H2 c2 (l1.trans l2) q⟩, k2, k3, k4⟩
def dIfS (t : FB) (f g : FS) : FS := fun S e E => t S (fun b S1 => if b = true then f S1 e E else g S1 e E) E
theorem ds_if {t : FB} {f g : FS} (h : PS X st (tIfS (tDT Θ t) (tDS Θ f) (tDS Θ g))) : PS X st (tDS Θ (dIfS t f g)) := ps_imp h fun D' σ H ⟨O, S, e, c, hf, k1, k2, k3, k4⟩ =>
  ⟨O, S, _, c, hf, fun b S1 O1 H1 c1 l1 q => by
    have kk : (∀ O' S' σ' H', Ctx Θ O' S' σ' H' → LL O1 H1 O' H' → e.nx S' → D'.nx σ' H') ∧ (∀ d S' σ' v O' H', Ctx Θ O' S' σ' H' → Rep Θ.K O' H' d v → (Θ.fr = true → ∀ p, v = .ref p → ¬ lv Θ.H0 p) → e.rt d S' → D'.rt v H') ∧
      (∀ O' S' σ' H', Ctx Θ O' S' σ' H' → LL O1 H1 O' H' → e.bk S' → D'.bk σ' H') ∧ (∀ O' S' σ' H', Ctx Θ O' S' σ' H' → LL O1 H1 O' H' → e.ct S' → D'.ct σ' H') :=
      ⟨fun O2 S2 σ2 H2 c2 l2 q => k1 O2 S2 σ2 H2 c2 (l1.trans l2) q, k2, fun O2 S2 σ2 H2 c2 l2 q => k3 O2 S2 σ2 H2 c2 (l1.trans l2) q, fun O2 S2 σ2 H2 c2 l2 q => k4 O2 S2 σ2 H2 c2 (l1.trans l2) q⟩
    cases b with
    | true => exact iteT ⟨O1, S1, e, c1, by rw [if_pos rfl] at q; exact q, kk⟩
    | false => exact iteF ⟨O1, S1, e, c1, by rw [if_neg (by decide)] at q; exact q, kk⟩⟩
/-- from here on slot i's list is a value -/
def dFrz (i : Nat) (f : FS) : FS := fun S e E => ∃ ds, S.g[i]? = some (.ow ds) ∧ f { S with g := S.g.set i (.da (.lst ds)) } e E
theorem Ctx.frzS {O : Ow} {S : DS} {σ : L2.St} {H : Hp} {i : Nat} {ds : List D} (c : Ctx Θ O S σ H) (hi : S.g[i]? = some (.ow ds)) :
    ∃ O', Ctx Θ O' { S with g := S.g.set i (.da (.lst ds)) } σ H ∧ LL O H O' H := by
  obtain ⟨o, ho, p, vs, rfl, op, hp, h0, r⟩ := c.sl i _ hi
  have c0 : Ctx Θ O { S with g := S.g.set i .un } σ H := c.drop
  obtain ⟨c1, l1⟩ := c0.frz (o := .lst vs) op (by omega) (fun j es hs z => by
    rcases getElem?_set_or hs with ⟨e, h, _⟩ | ⟨e, _⟩
    · cases h
    · omega) hp fun h => absurd h h0
  refine ⟨_, ?_, l1.1, fun b o k _ e h => ?_, fun _ h => h⟩
  rotate_left
  · have n : b ≠ p := fun z => by
      rw [z, op] at e
      have : i < S.g.length := (List.getElem?_eq_some_iff.mp hi).1
      have := c.len
      have := c.few
      have := Option.some.inj e
      omega
    exact ⟨setO_ne n, h⟩
  have c2 := c1.setD (i := i) (rep_frz hp l1.1 r)
  have e1 : σ.set i (some (V.ref p)) = σ := by
    apply List.ext_getElem?
    intro j
    rw [List.getElem?_set]
    split
    · next e =>
      rw [← e] at *
      rw [ho]
      split
      · rfl
      · next q => exact absurd (List.getElem?_eq_some_iff.mp ho).1 q
    · rfl
  rw [e1] at c2
  have e2 : (S.g.set i Sl.un).set i (.da (.lst ds)) = S.g.set i (.da (.lst ds)) := List.set_set ..
  have c2' : Ctx Θ (DL.setO O p none) { S with g := (S.g.set i Sl.un).set i (.da (.lst ds)) } σ H := c2
  rw [e2] at c2'
  exact c2'
theorem ds_frz {i : Nat} {f : FS} (h : PSs X sts (tDS Θ f)) : PSs X sts (tDS Θ (dFrz i f)) := pss_imp h fun D' σ H ⟨O, S, e, c, ⟨ds, hs, hf⟩, k1, k2, k3, k4⟩ =>
  let ⟨O', c', l'⟩ := c.frzS hs
  ⟨O', _, e, c', hf, fun O2 S2 σ2 H2 c2 l2 q => k1 O2 S2 σ2 H2 c2 (l'.trans l2) q, k2, fun O2 S2 σ2 H2 c2 l2 q => k3 O2 S2 σ2 H2 c2 (l'.trans l2) q, fun O2 S2 σ2 H2 c2 l2 q => k4 O2 S2 σ2 H2 c2 (l'.trans l2) q⟩
def dRetO (i : Nat) : FS := fun S e _ => ∃ ds, S.g[i]? = some (.ow ds) ∧ e.rt (.lst ds) { S with g := S.g.set i (.da (.lst ds)) }
theorem ds_retO {i : Nat} (h : PS X st (tRet (tVar i))) : PS X st (tDS Θ (dRetO i)) := ps_imp h fun D' σ H ⟨O, S, e, c, ⟨ds, hi, hf⟩, k1, k2, k3, k4⟩ => by
  obtain ⟨o, ho, p, vs, e1, op, hp, h0, r⟩ := c.sl i _ hi
  subst e1
  obtain ⟨O', c', l'⟩ := c.frzS hi
  obtain ⟨o', ho', v, e2, rv⟩ := c'.sl i (.da (.lst ds)) (by
    rw [List.getElem?_set, if_pos rfl, if_pos (List.getElem?_eq_some_iff.mp hi).1])
  subst e2
  rw [ho] at ho'
  cases ho'
  exact ⟨_, ho, k2 _ _ σ _ O' H c' rv (fun _ q z => by cases z; exact h0) hf⟩
/-! ### targets -/
inductive Tg where
  | nm (i : Nat) | tp (is : List Nat) | ls (is : List Nat)
def gsOf : List Nat → TGs
  | [] => gNil
  | i :: is => gCons (gName i) (gsOf is)
def tgOf (K : PySem.W.Frag) : Tg → TG
  | .nm i => gName i
  | .tp is => gTup K is.length (gsOf is)
  | .ls is => gUnl K is.length (gsOf is)
def setsD (g : List Sl) : List Nat → List D → Option (List Sl)
  | [], [] => some g
  | i :: is, d :: ds => setsD (g.set i (.da d)) is ds
  | _, _ => none
def bindT : Tg → D → List Sl → Option (List Sl)
  | .nm i, d, g => some (g.set i (.da d))
  | .tp is, .tup ds, g => setsD g is ds
  | .ls is, .lst ds, g => setsD g is ds
  | _, _, _ => none
def slotsT : Tg → List Nat
  | .nm i => [i]
  | .tp is => is
  | .ls is => is
def setsV (σ : L2.St) : List Nat → List V → L2.St
  | i :: is, v :: vs => setsV (σ.set i (some v)) is vs
  | _, _ => σ
theorem Ctx.sets {O : Ow} {H : Hp} : ∀ (is : List Nat) (ds : List D) (vs : List V) (S : DS) (σ : L2.St) (g : List Sl) (Q : L2.St → Hp → Prop), Ctx Θ O S σ H → Reps Θ.K O H ds vs → setsD S.g is ds = some g →
    is.length = ds.length ∧ ∃ σ', Ctx Θ O { S with g := g } σ' H ∧ σ' = setsV σ is vs ∧ (Q σ' H → gsOf is vs σ H Q)
  | [], [], vs, S, σ, g, Q, c, r, h => by
    cases h
    exact ⟨rfl, σ, c, by cases vs <;> rfl, fun q => ⟨r, q⟩⟩
  | i :: is, d :: ds, _, S, σ, g, Q, c, ⟨v, vs, e, r1, r2⟩, h => by
    subst e
    obtain ⟨hl, σ', c', e', k⟩ := Ctx.sets is ds vs { S with g := S.g.set i (.da d) } (σ.set i (some v)) g Q (c.setD r1) r2 h
    exact ⟨by rw [List.length_cons, List.length_cons, hl], σ', c', e', fun q => ⟨v, vs, rfl, k q⟩⟩
  | [], _ :: _, _, _, _, _, _, _, _, h => by cases h
  | _ :: _, [], _, _, _, _, _, _, _, h => by cases h
/-- the slots that a target sets -/
theorem bind_tg {O : Ow} {S : DS} {σ : L2.St} {H : Hp} {tg : Tg} {d : D} {v : V} {g : List Sl} {Q : L2.St → Hp → Prop} (c : Ctx Θ O S σ H) (r : Rep Θ.K O H d v) (h : bindT tg d S.g = some g) :
    ∃ σ', Ctx Θ O { S with g := g } σ' H ∧ (∃ vs, σ' = setsV σ (slotsT tg) vs) ∧ (Q σ' H → tgOf Θ.K tg v σ H Q) := by
  cases tg with
  | nm i =>
    cases h
    exact ⟨_, c.setD r, ⟨[v], rfl⟩, id⟩
  | tp is =>
    cases d with
    | tup ds =>
      obtain ⟨p, vs, rfl, hs, r2⟩ := r
      obtain ⟨hl, σ', c', e', k⟩ := Ctx.sets is ds vs S σ g Q c r2 h
      exact ⟨σ', c', ⟨vs, e'⟩, fun q => ⟨p, vs, rfl, hs.sq, by rw [r2.len, hl], k q⟩⟩
    | _ => cases h
  | ls is =>
    cases d with
    | lst ds =>
      obtain ⟨p, vs, rfl, hs, r2⟩ := r
      obtain ⟨hl, σ', c', e', k⟩ := Ctx.sets is ds vs S σ g Q c r2 h
      exact ⟨σ', c', ⟨vs, e'⟩, fun q => ⟨p, vs, rfl, hs.sq, by rw [r2.len, hl], k q⟩⟩
    | _ => cases h
def dAsg (f : FE) (tg : Tg) : FS := fun S e E => f S (fun d S1 => ∃ g, bindT tg d S1.g = some g ∧ e.nx { S1 with g := g }) E
theorem ds_asg {f : FE} {tg : Tg} (h : PS X st (tAsg (tD Θ f) (tgOf Θ.K tg))) : PS X st (tDS Θ (dAsg f tg)) := ps_imp h fun D' σ H ⟨O, S, e, c, hf, k1, k2, k3, k4⟩ =>
  ⟨O, S, _, c, hf, fun d S1 v O1 H1 c1 l1 r ⟨g, hg, hc⟩ =>
    let ⟨σ', c', _, k⟩ := bind_tg (Q := D'.nx) c1 r hg
    k (k1 O1 _ σ' H1 c' l1 hc)⟩
/-- a, b = x, y -/
def dPar (i j : Nat) (fa : FA) : FS := fun S e E => fa S (fun ds S1 => ∃ x y, ds = [x, y] ∧ e.nx { S1 with g := (S1.g.set i (.da x)).set j (.da y) }) E
theorem ds_par {i j : Nat} {fa : FA} (h : PS X st (tPar i j (tDA Θ fa))) : PS X st (tDS Θ (dPar i j fa)) := ps_imp h fun D' σ H ⟨O, S, e, c, hf, k1, k2, k3, k4⟩ =>
  ⟨O, S, _, c, hf, fun ds S1 vs O1 H1 c1 l1 r ⟨x, y, e1, hc⟩ => by
    subst e1
    obtain ⟨v, _, rfl, r1, u, _, rfl, r2, rfl⟩ := r
    exact ⟨v, u, rfl, k1 O1 _ _ H1 ((c1.setD r1).setD r2) l1 hc⟩⟩
end
end
end DL
end
section
set_option maxHeartbeats 4000000
namespace DL
variable [TB]
open PySem PySem.Spec PyProof.Rows L2 G1
section
variable {X : Cx} {Θ : Par} {e : Expr}
/-! ### what is walked -/
structure WalkD (Θ : Par) (J : It) (items : List D) (G : Ow → Hp → Prop) : Prop where
  go : ∀ i O H, i < items.length → G O H → J.go i H
  stop : ∀ O H, G O H → J.stop items.length H
  yld : ∀ i O H x H', i < items.length → G O H → J.yld i H x H' → ∃ O' d, Aft none O H O' H' ∧ items[i]? = some d ∧ Rep Θ.K O' H' d x
  le : ∀ O H O' H', G O H → Le O H O' H' → G O' H'
def tWI (Θ : Par) (f : FA) : TI := fun σ H R => ∃ O S C, Ctx Θ O S σ H ∧ f S C Θ.Er ∧ ∀ items S' O' H' J G, Ctx Θ O' S' σ H' → LL O H O' H' → WalkD Θ J items G → G O' H' → C items S' → R J H'
theorem pi_imp {tg iter : Expr} {t t' : TI} (h : PI X tg iter t) (i : ∀ σ H R, t' σ H R → t σ H R) : PI X tg iter t' := ⟨fun pins s σ H R I q => h.run pins s σ H R I (i σ H R q)⟩
theorem get_of {ds : List D} {i : Nat} (h : i < ds.length) : ds[i]? = some ds[i] := List.getElem?_eq_getElem h
theorem walk_lst {p : Addr} {vs : List V} {ds : List D} : WalkD Θ (Itl Θ.K p) ds (fun O H => LqO Θ.K O H p vs ∧ Reps Θ.K O H ds vs) where
  go := fun i O H hi ⟨q, r⟩ => by
    obtain ⟨v, hv, _⟩ := r.at (get_of hi)
    exact ⟨vs, v, q.sq, hv⟩
  stop := fun O H ⟨q, r⟩ => ⟨vs, q.sq, Nat.le_of_eq r.len⟩
  yld := fun i O H x H' hi ⟨q, r⟩ ⟨e, k⟩ => by
    subst e
    obtain ⟨v, hv, rv⟩ := r.at (get_of hi)
    have := k vs q.sq
    rw [hv] at this
    cases this
    exact ⟨O, _, Aft.refl _ _ _, get_of hi, rv⟩
  le := fun O H O' H' ⟨q, r⟩ l => ⟨q.le l, Reps.le l _ _ r⟩
theorem walk_tpl {p : Addr} {vs : List V} {ds : List D} : WalkD Θ (Itt Θ.K p) ds (fun O H => TqO Θ.K O H p vs ∧ Reps Θ.K O H ds vs) where
  go := fun i O H hi ⟨q, r⟩ => by
    obtain ⟨v, hv, _⟩ := r.at (get_of hi)
    exact ⟨vs, v, q.sq, hv⟩
  stop := fun O H ⟨q, r⟩ => ⟨vs, q.sq, Nat.le_of_eq r.len⟩
  yld := fun i O H x H' hi ⟨q, r⟩ ⟨e, k⟩ => by
    subst e
    obtain ⟨v, hv, rv⟩ := r.at (get_of hi)
    have := k vs q.sq
    rw [hv] at this
    cases this
    exact ⟨O, _, Aft.refl _ _ _, get_of hi, rv⟩
  le := fun O H O' H' ⟨q, r⟩ l => ⟨q.le l, Reps.le l _ _ r⟩
def dItL (f : FE) : FA := fun S C E => f S (fun d S1 => ∃ ds, d = .lst ds ∧ C ds S1) E
def dItT (f : FE) : FA := fun S C E => f S (fun d S1 => ∃ ds, d = .tup ds ∧ C ds S1) E
theorem di_list {tg iter : Expr} {f : FE} (h : PI X tg iter (iList Θ.K (tD Θ f))) : PI X tg iter (tWI Θ (dItL f)) := pi_imp h fun σ H R ⟨O, S, C, c, hf, k⟩ =>
  ⟨O, S, _, c, hf, fun d S1 v O1 H1 c1 l1 r ⟨ds, hd, hc⟩ => by
    subst hd
    obtain ⟨p, vs, rfl, q, r⟩ := r
    exact ⟨p, rfl, ⟨vs, q.sq⟩, k ds S1 O1 H1 _ _ c1 l1 walk_lst ⟨q, r⟩ hc⟩⟩
theorem di_tup {tg iter : Expr} {f : FE} (h : PI X tg iter (iTup Θ.K (tD Θ f))) : PI X tg iter (tWI Θ (dItT f)) := pi_imp h fun σ H R ⟨O, S, C, c, hf, k⟩ =>
  ⟨O, S, _, c, hf, fun d S1 v O1 H1 c1 l1 r ⟨ds, hd, hc⟩ => by
    subst hd
    obtain ⟨p, vs, rfl, q, r⟩ := r
    exact ⟨p, rfl, ⟨vs, q.sq⟩, k ds S1 O1 H1 _ _ c1 l1 walk_tpl ⟨q, r⟩ hc⟩⟩
/-! ### ranges -/
def rngD (lo : Int) (n : Nat) : List D := (List.range n).map fun (i : Nat) => .int (lo + (i : Int))
theorem walk_rng {lo : Int} {n : Nat} : WalkD Θ (Itr lo n) (rngD lo n) (fun _ _ => True) where
  go := fun i O H hi _ => by
    show i < n
    rw [rngD, List.length_map, List.length_range] at hi
    exact hi
  stop := fun O H _ => by
    show n ≤ (rngD lo n).length
    rw [rngD, List.length_map, List.length_range]
    exact Nat.le_refl _
  yld := fun i O H x H' hi _ ⟨e, k⟩ => by
    subst e
    rw [rngD, List.length_map, List.length_range] at hi
    refine ⟨O, .int (lo + (i : Int)), Aft.refl _ _ _, ?_, k⟩
    rw [rngD, List.getElem?_map, List.getElem?_range hi]
    rfl
  le := fun _ _ _ _ h _ => h
def dRng1 (fa : FA) : FA := fun S C E => fa S (fun ds S1 => ∃ j : Int, ds = [.int j] ∧ -(2 ^ 62) ≤ j ∧ j < 2 ^ 62 ∧ C (rngD 0 j.toNat) S1) E
def dRng2 (fa : FA) : FA := fun S C E => fa S (fun ds S1 => ∃ i j : Int, ds = [.int i, .int j] ∧ (-(2 ^ 62) ≤ i ∧ i < 2 ^ 62 ∧ -(2 ^ 62) ≤ j ∧ j < 2 ^ 62) ∧ C (rngD i (j - i).toNat) S1) E
theorem di_rng1 {tg iter : Expr} {fa : FA} (h : PI X tg iter (iRng1 (tDA Θ fa))) : PI X tg iter (tWI Θ (dRng1 fa)) := pi_imp h fun σ H R ⟨O, S, C, c, hf, k⟩ =>
  ⟨O, S, _, c, hf, fun ds S1 vs O1 H1 c1 l1 r ⟨j, e1, h1, h2, hc⟩ => by
    subst e1
    obtain ⟨v, _, rfl, rfl, rfl⟩ := r
    exact ⟨j, rfl, h1, h2, k _ S1 O1 H1 _ _ c1 l1 walk_rng True.intro hc⟩⟩
theorem di_rng2 {tg iter : Expr} {fa : FA} (h : PI X tg iter (iRng2 (tDA Θ fa))) : PI X tg iter (tWI Θ (dRng2 fa)) := pi_imp h fun σ H R ⟨O, S, C, c, hf, k⟩ =>
  ⟨O, S, _, c, hf, fun ds S1 vs O1 H1 c1 l1 r ⟨i, j, e1, h1, hc⟩ => by
    subst e1
    obtain ⟨v, _, rfl, rfl, u, _, rfl, rfl, rfl⟩ := r
    exact ⟨i, j, rfl, h1, k _ S1 O1 H1 _ _ c1 l1 walk_rng True.intro hc⟩⟩
/-! ### for -/
def forD (tg : Tg) (fb : FS) : List D → DS → DN → (Err → Prop) → Prop
  | [], S, e, _ => e.nx S
  | x :: xs, S, e, E => ∃ g, bindT tg x S.g = some g ∧ fb { S with g := g } { nx := fun S2 => forD tg fb xs S2 e E, rt := e.rt, bk := e.nx, ct := fun S2 => forD tg fb xs S2 e E } E
def dFor (fi : FA) (tg : Tg) (fb : FS) : FS := fun S e E => fi S (fun items S1 => forD tg fb items S1 e E) E
theorem drop_at {ds : List D} {i : Nat} {d : D} (h : ds[i]? = some d) : ds.drop i = d :: ds.drop (i + 1) := by
  obtain ⟨hi, e⟩ := List.getElem?_eq_some_iff.mp h
  rw [List.drop_eq_getElem_cons hi, e]
theorem ds_for {st : Stmt} {fi : FA} {tg : Tg} {fb : FS} (h : PS X st (tFor (tWI Θ fi) (tgOf Θ.K tg) (tDS Θ fb))) : PS X st (tDS Θ (dFor fi tg fb)) := ps_imp h fun D' σ H ⟨O, S, e, c, hf, k1, k2, k3, k4⟩ =>
  ⟨O, S, _, c, hf, fun items S1 O1 H1 J G c1 l1 wk g1 hc => by
    refine ⟨fun i m σ2 H2 => ∃ O2 S2, Ctx Θ O2 S2 σ2 H2 ∧ LL O1 H1 O2 H2 ∧ i ≤ items.length ∧ m = items.length - i ∧ forD tg fb (items.drop i) S2 e Θ.Er, ⟨_, O1, S1, c1, LL.refl _ _, Nat.zero_le _, rfl, hc⟩, ?_⟩
    rintro i m σ2 H2 ⟨O2, S2, c2, l2, hi, rfl, hw⟩
    have g2 := wk.le _ _ _ _ g1 l2.le
    by_cases hn : i < items.length
    · refine .inr ⟨wk.go i O2 H2 hn g2, fun σ3 H3 => ∃ O3 S3, Ctx Θ O3 S3 σ3 H3 ∧ LL O1 H1 O3 H3 ∧ forD tg fb (items.drop (i + 1)) S3 e Θ.Er, fun σ3 H3 ⟨O3, S3, c3, l3, q⟩ => ⟨_, by omega, O3, S3, c3, l3, hn, rfl, q⟩, fun x H3 hy => ?_⟩
      obtain ⟨O3, d, a3, hd, r3⟩ := wk.yld i O2 H2 x H3 hn g2 hy
      rw [drop_at hd] at hw
      obtain ⟨g, hg, hb⟩ := hw
      obtain ⟨c3, l3, r4⟩ := Aft.lift c2 a3 r3
      have bk : ∀ Q, _ := fun Q => bind_tg (Q := Q) c3 r4 hg
      obtain ⟨σ4, c4, _, kk⟩ := bk (fun σ2 H2 => tDS Θ fb { D' with nx := fun σ3 H3 => ∃ O3 S3, Ctx Θ O3 S3 σ3 H3 ∧ LL O1 H1 O3 H3 ∧ forD tg fb (items.drop (i + 1)) S3 e Θ.Er, ct := fun σ3 H3 => ∃ O3 S3, Ctx Θ O3 S3 σ3 H3 ∧ LL O1 H1 O3 H3 ∧ forD tg fb (items.drop (i + 1)) S3 e Θ.Er, bk := D'.nx } σ2 H2)
      refine kk ⟨_, _, _, c4, hb, fun O5 S5 σ5 H5 c5 l5 q => ⟨O5, S5, c5, (l2.trans l3).trans l5, q⟩, k2, fun O5 S5 σ5 H5 c5 l5 q => k1 O5 S5 σ5 H5 c5 (((l1.trans l2).trans l3).trans l5) q, fun O5 S5 σ5 H5 c5 l5 q => ⟨O5, S5, c5, (l2.trans l3).trans l5, q⟩⟩
    · have hi2 : i = items.length := by omega
      refine .inl ⟨?_, ?_⟩
      · rw [hi2]
        exact wk.stop O2 H2 g2
      · rw [hi2, List.drop_length] at hw
        exact k1 O2 S2 σ2 H2 c2 (l1.trans l2) hw⟩
/-! ### while -/
def whD (t : FB) (fb : FS) : Nat → DS → DN → (Err → Prop) → Prop
  | 0, _, _, _ => False
  | n + 1, S, e, E => t S (fun b S1 => if b = true then fb S1 { nx := fun S2 => whD t fb n S2 e E, rt := e.rt, bk := e.nx, ct := fun S2 => whD t fb n S2 e E } E else e.nx S1) E
def dWhile (t : FB) (fb : FS) : FS := fun S e E => ∃ n, whD t fb n S e E
theorem ds_while {st : Stmt} {t : FB} {fb : FS} (h : PS X st (tWhile (tDT Θ t) (tDS Θ fb))) : PS X st (tDS Θ (dWhile t fb)) := ps_imp h fun D' σ H ⟨O, S, e, c, ⟨n, hf⟩, k1, k2, k3, k4⟩ => by
  refine ⟨fun m σ2 H2 => ∃ O2 S2, Ctx Θ O2 S2 σ2 H2 ∧ LL O H O2 H2 ∧ whD t fb m S2 e Θ.Er, ⟨n, O, S, c, LL.refl _ _, hf⟩, ?_⟩
  rintro m σ2 H2 ⟨O2, S2, c2, l2, hw⟩
  match m, hw with
  | m + 1, hw =>
    refine ⟨O2, S2, _, c2, hw, fun b S3 O3 H3 c3 l3 q => ?_⟩
    cases b with
    | false =>
      rw [if_neg (by decide)] at q
      exact iteF (k1 O3 S3 σ2 H3 c3 (l2.trans l3) q)
    | true =>
      rw [if_pos rfl] at q
      refine iteT ⟨fun σ4 H4 => ∃ O4 S4, Ctx Θ O4 S4 σ4 H4 ∧ LL O H O4 H4 ∧ whD t fb m S4 e Θ.Er, fun σ4 H4 h4 => ⟨m, Nat.lt_succ_self m, h4⟩, O3, S3, _, c3, q, fun O5 S5 σ5 H5 c5 l5 q => ⟨O5, S5, c5, (l2.trans l3).trans l5, q⟩, k2, fun O5 S5 σ5 H5 c5 l5 q => k1 O5 S5 σ5 H5 c5 ((l2.trans l3).trans l5) q, fun O5 S5 σ5 H5 c5 l5 q => ⟨O5, S5, c5, (l2.trans l3).trans l5, q⟩⟩
/-! ### tests -/
def dTst (f : FE) : FB := fun S C E => f S (fun d S1 => ∃ b, d = .bl b ∧ C b S1) E
theorem dt_val {f : FE} (h : PT X e (tB (tD Θ f))) : PT X e (tDT Θ (dTst f)) := pt_imp h fun σ H Q ⟨O, S, C, c, hf, k⟩ =>
  ⟨O, S, _, c, hf, fun d S1 v O1 H1 c1 l1 r ⟨b, hd, hc⟩ => by
    subst hd
    cases r
    exact ⟨b, rfl, k b S1 O1 H1 c1 l1 hc⟩⟩
/-- the truth of any value -/
def truD : D → Option Bool
  | .non => some false
  | .bl b => some b
  | .int i => some (i != 0)
  | .str x => if x.length ≤ sizeLine then some ((x.length : Int) != 0) else none
  | .lst ds => some !ds.isEmpty
  | .tup ds => some !ds.isEmpty
  | .dic ks _ => some !ks.isEmpty
  | .ob _ => none
theorem isEmpty_len {α β : Type} {xs : List α} {ys : List β} (h : xs.length = ys.length) : xs.isEmpty = ys.isEmpty := by
  cases xs <;> cases ys <;> first | rfl | cases h
theorem tru_of {K : PySem.W.Frag} {O : Ow} {H : Hp} {d : D} {v : V} {b : Bool} (r : RepV K O H d v) (h : truD d = some b) : TruV K v H b := by
  cases d with
  | non =>
    cases r
    cases h
    rfl
  | bl c =>
    cases r
    cases h
    rfl
  | int i =>
    cases r
    cases h
    rfl
  | str x =>
    cases r
    have h : (if x.length ≤ sizeLine then some ((x.length : Int) != 0) else none) = some b := h
    split at h
    · next q =>
      cases h
      exact ⟨q, rfl⟩
    · cases h
  | lst ds =>
    obtain ⟨p, vs, rfl, q, r⟩ := r
    cases h
    exact .inl ⟨vs, .inl (.inl q), by rw [isEmpty_len r.len]⟩
  | tup ds =>
    obtain ⟨p, vs, rfl, q, r⟩ := r
    cases h
    exact .inr (.inl ⟨vs, q.sq, by rw [isEmpty_len r.len]⟩)
  | dic ks ds =>
    obtain ⟨p, kvs, rfl, s, k, r⟩ := r
    cases h
    exact .inr (.inr ⟨kvs, s.2, by rw [← k, isEmpty_len (List.length_map ..)]⟩)
  | ob u => cases h
def dTru (f : FE) : FB := fun S C E => f S (fun d S1 => ∃ b, truD d = some b ∧ C b S1) E
theorem dt_tru {f : FE} (h : PT X e (fun σ H Q => tDv Θ f σ H fun x H' => ∃ k, TruV Θ.K x H' k ∧ Q k H')) : PT X e (tDT Θ (dTru f)) := pt_imp h fun σ H Q ⟨O, S, C, c, hf, k⟩ =>
  ⟨O, S, _, c, hf, fun d S1 v O1 H1 c1 l1 r ⟨b, hd, hc⟩ => ⟨b, tru_of r hd, k b S1 O1 H1 c1 l1 hc⟩⟩
def dNot (t : FB) : FB := fun S C E => t S (fun b S1 => C (!b) S1) E
theorem dt_not {t : FB} (h : PT X e (tNot (tDT Θ t))) : PT X e (tDT Θ (dNot t)) := pt_imp h fun σ H Q ⟨O, S, C, c, hf, k⟩ =>
  ⟨O, S, _, c, hf, fun b S1 O1 H1 c1 l1 hc => k (!b) S1 O1 H1 c1 l1 hc⟩
def dAnd (t u : FB) : FB := fun S C E => t S (fun b S1 => if b = true then u S1 C E else C false S1) E
def dOr (t u : FB) : FB := fun S C E => t S (fun b S1 => if b = true then C true S1 else u S1 C E) E
theorem dw_and {t u : FB} (h : PW X e (tAnd (tDT Θ t) (tDT Θ u))) : PW X e (tDT Θ (dAnd t u)) := pw_imp h fun σ H Q ⟨O, S, C, c, hf, k⟩ =>
  ⟨O, S, _, c, hf, fun b S1 O1 H1 c1 l1 hc => by
    cases b with
    | true =>
      rw [if_pos rfl] at hc
      exact iteT ⟨O1, S1, C, c1, hc, fun b S2 O2 H2 c2 l2 q => k b S2 O2 H2 c2 (l1.trans l2) q⟩
    | false =>
      rw [if_neg (by decide)] at hc
      exact iteF (k false S1 O1 H1 c1 l1 hc)⟩
theorem dw_or {t u : FB} (h : PW X e (tOr (tDT Θ t) (tDT Θ u))) : PW X e (tDT Θ (dOr t u)) := pw_imp h fun σ H Q ⟨O, S, C, c, hf, k⟩ =>
  ⟨O, S, _, c, hf, fun b S1 O1 H1 c1 l1 hc => by
    cases b with
    | false =>
      rw [if_neg (by decide)] at hc
      exact iteF ⟨O1, S1, C, c1, hc, fun b S2 O2 H2 c2 l2 q => k b S2 O2 H2 c2 (l1.trans l2) q⟩
    | true =>
      rw [if_pos rfl] at hc
      exact iteT (k true S1 O1 H1 c1 l1 hc)⟩
/-! ### truths as values, choices -/
def dAndV (fa fb : FE) : FE := fun S C E => fa S (fun d S1 => ∃ b, d = .bl b ∧ if b = true then fb S1 C E else C (.bl false) S1) E
def dOrV (fa fb : FE) : FE := fun S C E => fa S (fun d S1 => ∃ b, d = .bl b ∧ if b = true then C (.bl true) S1 else fb S1 C E) E
def dNotV (fa : FE) : FE := fun S C E => fa S (fun d S1 => ∃ b, d = .bl b ∧ C (.bl (!b)) S1) E
def dIfE (t : FB) (fa fb : FE) : FE := fun S C E => t S (fun b S1 => if b = true then fa S1 C E else fb S1 C E) E
theorem de_and {fa fb : FE} (h : PE X e (tAndV (tD Θ fa) (tD Θ fb))) : PE X e (tD Θ (dAndV fa fb)) := pe_imp h fun σ H Q ⟨O, S, C, c, hf, k⟩ =>
  ⟨O, S, _, c, hf, fun d S1 v O1 H1 c1 l1 r ⟨b, hd, hc⟩ => by
    subst hd
    cases r
    refine ⟨b, rfl, ?_⟩
    cases b with
    | true =>
      rw [if_pos rfl] at hc
      exact iteT ⟨O1, S1, C, c1, hc, fun d S2 v O2 H2 c2 l2 r q => k d S2 v O2 H2 c2 (l1.trans l2) r q⟩
    | false =>
      rw [if_neg (by decide)] at hc
      exact iteF (k (.bl false) S1 _ O1 H1 c1 l1 rfl hc)⟩
theorem de_or {fa fb : FE} (h : PE X e (tOrV (tD Θ fa) (tD Θ fb))) : PE X e (tD Θ (dOrV fa fb)) := pe_imp h fun σ H Q ⟨O, S, C, c, hf, k⟩ =>
  ⟨O, S, _, c, hf, fun d S1 v O1 H1 c1 l1 r ⟨b, hd, hc⟩ => by
    subst hd
    cases r
    refine ⟨b, rfl, ?_⟩
    cases b with
    | false =>
      rw [if_neg (by decide)] at hc
      exact iteF ⟨O1, S1, C, c1, hc, fun d S2 v O2 H2 c2 l2 r q => k d S2 v O2 H2 c2 (l1.trans l2) r q⟩
    | true =>
      rw [if_pos rfl] at hc
      exact iteT (k (.bl true) S1 _ O1 H1 c1 l1 rfl hc)⟩
theorem de_not {fa : FE} (h : PE X e (tNotV (tD Θ fa))) : PE X e (tD Θ (dNotV fa)) := pe_imp h fun σ H Q ⟨O, S, C, c, hf, k⟩ =>
  ⟨O, S, _, c, hf, fun d S1 v O1 H1 c1 l1 r ⟨b, hd, hc⟩ => by
    subst hd
    cases r
    exact ⟨b, rfl, k (.bl (!b)) S1 _ O1 H1 c1 l1 rfl hc⟩⟩
theorem de_ife {t : FB} {fa fb : FE} (h : PE X e (tIf (tDT Θ t) (tD Θ fa) (tD Θ fb))) : PE X e (tD Θ (dIfE t fa fb)) := pe_imp h fun σ H Q ⟨O, S, C, c, hf, k⟩ =>
  ⟨O, S, _, c, hf, fun b S1 O1 H1 c1 l1 hc => by
    cases b with
    | true =>
      rw [if_pos rfl] at hc
      exact iteT ⟨O1, S1, C, c1, hc, fun d S2 v O2 H2 c2 l2 r q => k d S2 v O2 H2 c2 (l1.trans l2) r q⟩
    | false =>
      rw [if_neg (by decide)] at hc
      exact iteF ⟨O1, S1, C, c1, hc, fun d S2 v O2 H2 c2 l2 r q => k d S2 v O2 H2 c2 (l1.trans l2) r q⟩⟩
end
end DL
end
section
set_option maxHeartbeats 4000000
namespace DL
variable [TB]
open PySem PySem.Spec PyProof.Rows L2 G1
section
variable {X : Cx} {Θ : Par} {e : Expr}
/-! ### slots that a comprehension has for itself -/
def wipeD (g : List Sl) : List Nat → List Sl
  | [] => g
  | v :: vs => (wipeD g vs).set v .un
def kp : Sl → Sl
  | .ow _ => .un
  | s => s
def restG (g0 : List Sl) : List Nat → List Sl → List Sl
  | [], g => g
  | v :: vs, g => (restG g0 vs g).set v (kp (g0.getD v .un))
theorem Ctx.wipe {O : Ow} {S : DS} {σ : L2.St} {H : Hp} (c : Ctx Θ O S σ H) : ∀ vs : List Nat, Ctx Θ O { S with g := wipeD S.g vs } (L2.wipe σ vs) H
  | [] => c
  | v :: vs => (Ctx.wipe c vs).unset
theorem wipe_set {σ : L2.St} {j : Nat} {x : Option V} : ∀ {vs : List Nat}, j ∈ vs → L2.wipe (σ.set j x) vs = L2.wipe σ vs
  | v :: vs, h => by
    show (L2.wipe (σ.set j x) vs).set v none = (L2.wipe σ vs).set v none
    by_cases e : j ∈ vs
    · rw [wipe_set e]
    · have e2 : j = v := by
        rcases List.mem_cons.mp h with h | h
        · exact h
        · exact absurd h e
      have out : ∀ {ws : List Nat}, j ∉ ws → L2.wipe (σ.set j x) ws = (L2.wipe σ ws).set j x := by
        intro ws
        induction ws with
        | nil => intro _; rfl
        | cons w ws ih =>
          intro hw
          show (L2.wipe (σ.set j x) ws).set w none = ((L2.wipe σ ws).set w none).set j x
          rw [ih (fun z => hw (List.mem_cons_of_mem _ z)), List.set_comm _ _ (fun z => hw (by rw [z]; exact List.mem_cons_self ..))]
      rw [out e, e2, List.set_set]
theorem wipe_sets {is : List Nat} : ∀ (js : List Nat) (us : List V) (σ : L2.St), (∀ j ∈ js, j ∈ is) → L2.wipe (setsV σ js us) is = L2.wipe σ is
  | [], us, σ, _ => by cases us <;> rfl
  | _ :: _, [], σ, _ => rfl
  | j :: js, u :: us, σ, h => by
    show L2.wipe (setsV (σ.set j (some u)) js us) is = _
    rw [wipe_sets js us _ (fun k hk => h k (List.mem_cons_of_mem _ hk)), wipe_set (h j (List.mem_cons_self ..))]
theorem wipe_idem {σ : L2.St} : ∀ (vs : List Nat), L2.wipe (L2.wipe σ vs) vs = L2.wipe σ vs := by
  have key : ∀ (us vs : List Nat), (∀ u ∈ us, u ∈ vs) → L2.wipe (L2.wipe σ us) vs = L2.wipe σ vs := by
    intro us
    induction us with
    | nil => intro vs _; rfl
    | cons u us ih =>
      intro vs h
      show L2.wipe ((L2.wipe σ us).set u none) vs = _
      rw [wipe_set (h u (List.mem_cons_self ..)), ih vs (fun w hw => h w (List.mem_cons_of_mem _ hw))]
  exact fun vs => key vs vs fun _ h => h
theorem wipe_out {σ : L2.St} {j : Nat} : ∀ {vs : List Nat}, j ∉ vs → (L2.wipe σ vs)[j]? = σ[j]?
  | [], _ => rfl
  | v :: vs, h => by
    show ((L2.wipe σ vs).set v none)[j]? = _
    rw [List.getElem?_set, if_neg (fun z => h (by rw [z]; exact List.mem_cons_self ..)), wipe_out (fun z => h (List.mem_cons_of_mem _ z))]
theorem restG_len {g0 : List Sl} : ∀ {vs : List Nat} {g : List Sl}, (restG g0 vs g).length = g.length
  | [], _ => rfl
  | v :: vs, g => by
    show ((restG g0 vs g).set v _).length = _
    rw [List.length_set, restG_len]
theorem restG_get {g0 : List Sl} {j : Nat} {s : Sl} : ∀ {vs : List Nat} {g : List Sl}, (restG g0 vs g)[j]? = some s → (j ∈ vs ∧ s = kp (g0.getD j .un)) ∨ (j ∉ vs ∧ g[j]? = some s)
  | [], g, h => .inr ⟨(fun z => by cases z), h⟩
  | v :: vs, g, h => by
    rcases getElem?_set_or h with ⟨e, e2, _⟩ | ⟨e, h⟩
    · exact .inl ⟨by rw [e]; exact List.mem_cons_self .., by rw [e2, e]⟩
    · rcases restG_get h with ⟨a, b⟩ | ⟨a, b⟩
      · exact .inl ⟨List.mem_cons_of_mem _ a, b⟩
      · refine .inr ⟨fun z => ?_, b⟩
        rcases List.mem_cons.mp z with z | z
        · exact e z.symm
        · exact a z
theorem Ctx.rest {O O3 : Ow} {S S3 : DS} {σ σ2 : L2.St} {H H3 : Hp} {vs : List Nat} (c : Ctx Θ O S σ H) (c3 : Ctx Θ O3 S3 σ2 H3) (l : LL O H O3 H3) (hw : L2.wipe σ2 vs = L2.wipe σ vs) : Ctx Θ O3 { S3 with g := restG S.g vs S3.g } σ H3 := by
  have hl : σ2.length = σ.length := by rw [← L2.wipe_length σ2 vs, hw, L2.wipe_length]
  refine ⟨by rw [restG_len, c3.len, hl], c.few, fun j s h => ?_, c3.tr, c3.aft, c3.ew⟩
  rcases restG_get h with ⟨a, rfl⟩ | ⟨a, b⟩
  · have hj : j < σ.length := by
      have := (List.getElem?_eq_some_iff.mp h).1
      rw [restG_len, c3.len, hl] at this
      exact this
    have hg : S.g[j]? = some (S.g.getD j .un) := by
      rw [List.getD_eq_getElem?_getD, List.getElem?_eq_getElem (by rw [c.len]; exact hj)]
      rfl
    obtain ⟨o, ho, r⟩ := c.sl j _ hg
    refine ⟨o, ho, ?_⟩
    generalize S.g.getD j .un = s at r
    cases s with
    | un => exact True.intro
    | da d =>
      obtain ⟨v, e, r⟩ := r
      exact ⟨v, e, Rep.le l.le d v r⟩
    | ow ds => exact True.intro
  · obtain ⟨o, ho, r⟩ := c3.sl j s b
    refine ⟨o, ?_, r⟩
    have e1 := wipe_out (σ := σ2) a
    have e2 := wipe_out (σ := σ) a
    rw [← e2, ← hw, e1, ho]
/-- a list that is being made changes -/
theorem Ctx.putR {O : Ow} {S : DS} {σ : L2.St} {H : Hp} {p : Addr} {k : Nat} {vs : List V} {o : HO} (c : Ctx Θ O S σ H) (hp : O p = some (1000000 + k)) (hl : H p = some (.lst vs)) (h0 : ¬ lv Θ.H0 p) (ho : isTbl o = false := by rfl) :
    Ctx Θ O S σ (upd H p o) ∧ LP p O H O (upd H p o) := by
  have ne : ∀ {b : Addr}, O b = none → b ≠ p := fun e z => by rw [z, hp] at e; cases e
  have le : Le O H O (upd H p o) := ⟨fun b u _ e hb => ⟨e, by rw [upd_ne (ne e)]; exact hb⟩, fun b u hu hb => by
    have n : b ≠ p := fun z => by
      rw [z, hl] at hb
      cases hb
      cases hu
    rw [upd_ne n]
    exact hb⟩
  refine ⟨⟨c.len, c.few, fun j s h => ?_, ?_, ⟨samex_upd c.aft.same hl h0, c.aft.own⟩, c.ew⟩, le, fun b u k n _ e h => ⟨rfl, by rw [upd_ne n]; exact h⟩, fun b h => ?_⟩
  · obtain ⟨o', ho, hr⟩ := c.sl j s h
    refine ⟨o', ho, ?_⟩
    cases s with
    | un => exact hr
    | da d =>
      obtain ⟨v, e2, hr⟩ := hr
      exact ⟨v, e2, Rep.le le d v hr⟩
    | ow xs =>
      obtain ⟨q, ws, e2, oq, hq, g0, hr⟩ := hr
      have n : q ≠ p := fun z => by
        rw [z, hp] at oq
        have : j < S.g.length := (List.getElem?_eq_some_iff.mp h).1
        have := c.len
        have := c.few
        have := Option.some.inj oq
        omega
      exact ⟨q, ws, e2, oq, by rw [upd_ne n]; exact hq, g0, Reps.le le xs ws hr⟩
  · have hc := c.tr
    match Θ.tr, hc with
    | none, _ => exact True.intro
    | some (b, d), ⟨ns0, k0, r0, t0⟩ =>
      have n : b ≠ p := fun z => by
        have := t0.own
        rw [z, hp] at this
        have := Option.some.inj this
        omega
      exact ⟨ns0, k0, r0, t0.own, by rw [upd_ne n]; exact t0.at_, t0.cown, (le.no _ _ rfl t0.cown t0.cells).2, t0.few, t0.low, t0.left⟩
  · by_cases z : b = p
    · exact ⟨_, by rw [z, upd_same], ho⟩
    · obtain ⟨u, e, i⟩ := h
      exact ⟨u, by rw [upd_ne z]; exact e, i⟩
/-! ### comprehensions -/
def lcD (tg : Tg) (ft : FB) (fe : FE) : List D → List D → DS → (List D → DS → Prop) → (Err → Prop) → Prop
  | [], acc, S, C, _ => C acc S
  | x :: xs, acc, S, C, E => ∃ g, bindT tg x (wipeD S.g (slotsT tg)) = some g ∧ ft { S with g := g } (fun b S2 => if b = true then
      fe S2 (fun y S3 => lcD tg ft fe xs (acc ++ [y]) { S3 with g := restG S.g (slotsT tg) S3.g } C E) E else lcD tg ft fe xs acc { S2 with g := restG S.g (slotsT tg) S2.g } C E) E
def dLc (fi : FA) (tg : Tg) (ft : FB) (fe : FE) : FA := fun S C E => fi S (fun items S1 => items.length ≤ sizeLine ∧ lcD tg ft fe items [] S1 C E) E
def dYes : FB := fun S C _ => C true S
theorem dts_yes {ifs : List Expr} (h : PTs X ifs tYes) : PTs X ifs (tDT Θ dYes) := ⟨fun pins s σ H Q I ⟨O, S, C, c, hf, k⟩ => h.run pins s σ H Q I (k true S O H c (LL.refl _ _) hf)⟩
theorem lc_tl {fi : FA} {tg : Tg} {ft : FB} {fe : FE} {vs : List Nat} (hv : vs = slotsT tg) (σ : L2.St) (H : Hp) (Q : VK) (h : tDN Θ (dLc fi tg ft fe) σ H Q) : tLc (tWI Θ fi) (tgOf Θ.K tg) (tDT Θ ft) (tD Θ fe) vs σ H Q := by
  subst hv
  obtain ⟨O, S, C, c, hf, k⟩ := h
  refine ⟨O, S, _, c, hf, fun items S1 O1 H1 J G c1 l1 wk g1 ⟨hz, hc⟩ => fun p hp => ?_⟩
  obtain ⟨c2, l2⟩ := c1.newO (o := .lst []) 1000000 hp
  have hn : ¬ lv H p := fun z => nlv hp (l1.live p z)
  have h0 : ¬ lv Θ.H0 p := fun z => nlv hp (c1.live z)
  refine ⟨fun i m H2 => ∃ O2 S2 acc us, Ctx Θ O2 S2 σ H2 ∧ LL O H O2 H2 ∧ G O2 H2 ∧ O2 p = some 1000000 ∧ H2 p = some (.lst us) ∧ Reps Θ.K O2 H2 acc us ∧ acc.length ≤ i ∧ i ≤ items.length ∧ m = items.length - i ∧ lcD tg ft fe (items.drop i) acc S2 C Θ.Er,
    ⟨_, _, S1, [], [], c2, l1.trans l2, wk.le _ _ _ _ g1 l2.le, setO_same, upd_same, rfl, Nat.le_refl _, Nat.zero_le _, rfl, hc⟩, ?_⟩
  rintro i m H2 ⟨O2, S2, acc, us, c2, l2, g2, op, hl, ra, ha, hi, rfl, hw⟩
  by_cases hlt : i < items.length
  · refine .inr ⟨wk.go i O2 H2 hlt g2, fun H' => ∃ O2 S2 acc us, Ctx Θ O2 S2 σ H' ∧ LL O H O2 H' ∧ G O2 H' ∧ O2 p = some 1000000 ∧ H' p = some (.lst us) ∧ Reps Θ.K O2 H' acc us ∧ acc.length ≤ i + 1 ∧ lcD tg ft fe (items.drop (i + 1)) acc S2 C Θ.Er,
      fun H' ⟨O2, S2, acc, us, a1, a2, a3, a4, a5, a6, a7, a8⟩ => ⟨items.length - (i + 1), by omega, O2, S2, acc, us, a1, a2, a3, a4, a5, a6, a7, hlt, rfl, a8⟩, fun x H3 hy => ?_⟩
    obtain ⟨O3', d, a3, hd, r3⟩ := wk.yld i O2 H2 x H3 hlt g2 hy
    rw [drop_at hd] at hw
    obtain ⟨g, hg, hb⟩ := hw
    obtain ⟨c3, l3, r4⟩ := Aft.lift c2 a3 r3
    obtain ⟨op3, hl3⟩ := l3.lk p _ 0 rfl op hl
    generalize hO3 : ownA O2 H2 O3' = O3 at c3 l3 r4 op3
    have c4 := c3.wipe (slotsT tg)
    have bk : ∀ Q, _ := fun Q => bind_tg (tg := tg) (Q := Q) c4 r4 hg
    obtain ⟨σ', c5, ⟨ws, e5⟩, kk⟩ := bk (fun σ2 H2 => L2.wipe σ2 (slotsT tg) = L2.wipe σ (slotsT tg) ∧ tDT Θ ft σ2 H2 fun b H3 =>
      if b = true then tD Θ fe σ2 H3 fun y H4 => ∃ acc, H4 p = some (.lst acc) ∧ acc.length < sizeLine ∧ (fun H' => ∃ O2 S2 acc us, Ctx Θ O2 S2 σ H' ∧ LL O H O2 H' ∧ G O2 H' ∧ O2 p = some 1000000 ∧ H' p = some (.lst us) ∧ Reps Θ.K O2 H' acc us ∧ acc.length ≤ i + 1 ∧ lcD tg ft fe (items.drop (i + 1)) acc S2 C Θ.Er) (upd H4 p (.lst (acc ++ [y]))) else (fun H' => ∃ O2 S2 acc us, Ctx Θ O2 S2 σ H' ∧ LL O H O2 H' ∧ G O2 H' ∧ O2 p = some 1000000 ∧ H' p = some (.lst us) ∧ Reps Θ.K O2 H' acc us ∧ acc.length ≤ i + 1 ∧ lcD tg ft fe (items.drop (i + 1)) acc S2 C Θ.Er) H3)
    have ew : L2.wipe σ' (slotsT tg) = L2.wipe σ (slotsT tg) := by rw [e5, wipe_sets _ _ _ fun _ h => h, wipe_idem]
    refine kk ⟨ew, O3, _, _, c5, hb, fun b S5 O5 H5 c5 l5 hb => ?_⟩
    cases b with
    | false =>
      rw [if_neg (by decide)] at hb
      obtain ⟨op5, hl5⟩ := l5.lk p _ 0 rfl (op3.trans op) hl3
      have l25 := l3.trans l5
      exact iteF ⟨O5, _, acc, us, c3.rest c5 l5 ew, l2.trans l25, wk.le _ _ _ _ g2 l25.le, op5.trans (op3.trans op), hl5, Reps.le l25.le _ _ ra, by omega, hb⟩
    | true =>
      rw [if_pos rfl] at hb
      refine iteT ⟨O5, S5, _, c5, hb, fun y S6 v O6 H6 c6 l6 r6 hq => ?_⟩
      have l36 := l5.trans l6
      obtain ⟨op6, hl6⟩ := l36.lk p _ 0 rfl (op3.trans op) hl3
      have op6' := op6.trans (op3.trans op)
      have l26 := l3.trans l36
      refine ⟨us, hl6, by rw [ra.len]; omega, ?_⟩
      have c7 := c3.rest c6 l36 ew
      obtain ⟨c8, l8⟩ := c7.putR (o := .lst (us ++ [v])) (k := 0) op6' hl6 h0
      exact ⟨O6, _, acc ++ [y], us ++ [v], c8, (l2.trans l26).new l8 hn, wk.le _ _ _ _ (wk.le _ _ _ _ g2 l26.le) l8.1, op6', upd_same, Reps.app (Reps.le (l26.le.trans l8.1) _ _ ra) ⟨v, [], rfl, Rep.le l8.1 _ _ r6, rfl⟩, by rw [List.length_append]; show acc.length + 1 ≤ i + 1; omega, hq⟩
  · have hi2 : i = items.length := by omega
    refine .inl ⟨by rw [hi2]; exact wk.stop O2 H2 g2, ?_⟩
    rw [hi2, List.drop_length] at hw
    exact k acc S2 p us O2 H2 c2 l2 op hn h0 hl ra hw
theorem de_lc {fi : FA} {tg : Tg} {ft : FB} {fe : FE} {vs : List Nat} (h : PE X e (tLc (tWI Θ fi) (tgOf Θ.K tg) (tDT Θ ft) (tD Θ fe) vs)) (hv : vs = slotsT tg := by rfl) : PE X e (tDN Θ (dLc fi tg ft fe)) := pe_imp h (lc_tl hv)
theorem ds_lcO {st : Stmt} {fi : FA} {tg : Tg} {ft : FB} {fe : FE} {vs : List Nat} {i : Nat} (h : PS X st (tAsg (tLc (tWI Θ fi) (tgOf Θ.K tg) (tDT Θ ft) (tD Θ fe) vs) (gName i))) (hv : vs = slotsT tg := by rfl) : PS X st (tDS Θ (dSetO i (dLc fi tg ft fe))) :=
  ds_setO (ps_imp h fun D' σ H q => lc_tl hv σ H _ q)
theorem fz_tl {f : FA} (σ : L2.St) (H : Hp) (Q : VK) (h : tD Θ (dFz f) σ H Q) : tDN Θ f σ H Q := by
  obtain ⟨O, S, C, c, hf, k⟩ := h
  exact ⟨O, S, _, c, hf, fun ds S1 p vs O1 H1 c1 l1 op hn h0 hl r hc =>
    let ⟨c2, l2⟩ := c1.frzN op h0 hl
    k _ S1 _ _ _ c2 (l1.new l2 hn) (rep_frz hl l2.1 r) hc⟩
theorem ds_lc {st : Stmt} {fi : FA} {tg : Tg} {ft : FB} {fe : FE} {vs : List Nat} {i : Nat} (h : PS X st (tAsg (tLc (tWI Θ fi) (tgOf Θ.K tg) (tDT Θ ft) (tD Θ fe) vs) (gName i))) (hv : vs = slotsT tg := by rfl) : PS X st (tDS Θ (dSet i (dFz (dLc fi tg ft fe)))) :=
  ds_set (ps_imp h fun D' σ H q => lc_tl hv σ H _ (fz_tl σ H _ q))
end
end DL
end
section
set_option maxHeartbeats 4000000
namespace DL
variable [TB]
open PySem PySem.Spec PyProof.Rows L2 G1
/-! ### a def by its body -/
theorem reps_args {K : PySem.W.Frag} {O : Ow} {H : Hp} {ds : List D} {vs : List V} (r : Reps K O H ds vs) {i : Nat} {s : Sl} {k : Nat} (h : (ds.map Sl.da ++ List.replicate k Sl.un)[i]? = some s) :
    (∃ d v, s = .da d ∧ vs[i]? = some v ∧ Rep K O H d v) ∨ (s = .un ∧ i < ds.length + k) := by
  by_cases hi : i < ds.length
  · rw [List.getElem?_append_left (by rw [List.length_map]; exact hi), List.getElem?_map, List.getElem?_eq_getElem hi] at h
    obtain ⟨v, hv, rv⟩ := r.at (List.getElem?_eq_getElem hi)
    exact .inl ⟨_, v, (Option.some.inj h).symm, hv, rv⟩
  · rw [List.getElem?_append_right (by rw [List.length_map]; omega), List.getElem?_replicate] at h
    split at h
    · next q =>
      rw [List.length_map] at q
      exact .inr ⟨(Option.some.inj h).symm, by omega⟩
    · cases h
def startD (m : Nat) (ds : List D) : List Sl := ds.map Sl.da ++ List.replicate (m - ds.length) Sl.un
theorem ctx_start {K : PySem.W.Frag} {tr : Option (Addr × Addr)} {O : Ow} {H : Hp} {E : XK} {Er : Err → Prop} {N : List Str} {ds : List D} {vs : List V} {n : Nat} (hN : N.length ≤ 1000) (hl : ds.length ≤ N.length) (r : Reps K O H ds vs) (t : TrI K tr O H n)
    {fr : Bool} (ew : ∀ e cls dd O' H', Aft (tadr tr) O H O' H' → ErrR K O' H' e cls dd → Er e → E cls dd H') : Ctx ⟨K, tr, O, H, E, Er, fr⟩ O ⟨startD N.length ds, n⟩ (L2.start N vs) H := by
  have h1 : (startD N.length ds).length = N.length := by
    unfold startD
    rw [List.length_append, List.length_map, List.length_replicate]
    omega
  have h2 : (L2.start N vs).length = N.length := by
    unfold L2.start
    rw [List.length_append, List.length_map, List.length_replicate, r.len]
    omega
  refine ⟨by rw [h1, h2], by rw [h2]; exact hN, fun i s h => ?_, t, Aft.refl _ _ _, ew⟩
  rcases reps_args r h with ⟨d, v, rfl, hv, rv⟩ | ⟨rfl, hi⟩
  · refine ⟨some v, ?_, v, rfl, rv⟩
    unfold L2.start
    have : i < vs.length := (List.getElem?_eq_some_iff.mp hv).1
    rw [List.getElem?_append_left (by rw [List.length_map]; exact this), List.getElem?_map, hv]
    rfl
  · have : i < (L2.start N vs).length := by rw [h2]; omega
    exact ⟨_, List.getElem?_eq_getElem this, True.intro⟩
section
variable {P : Program} {w : World} {K : PySem.W.Frag} {mg : Str → Option Value} {base : Heap} {x qual : Str} {st : Stmt} {f : Addr} {fd : FuncData} {N ps : List Str} {k : Nat}
/-- no error leaves -/
theorem fnP0 {g : FP} {fb : FS} (F : Fun K x qual st f fd) (S : FnScope N ps (defScope st)) (hl : ∀ ds C E, g ds C E → ds.length = ps.length)
    (hb : ∀ (tr : Option (Addr × Addr)) (O0 : Ow) (H0 : Hp) (Er : Err → Prop) (cdv : Value) (A : Around) (outer : List Env) (s : Shared) (H : Hp) (E : XK), (A.deeper (envOfC qual (defScope st) s.heap.objs.size f cdv)).guards = some [] → Room k (A.deeper (envOfC qual (defScope st) s.heap.objs.size f cdv)) →
      PSs (cxOf CX0 P w K mg base N qual (defScope st) f cdv A outer s H E).nox (defBody st) (tDS ⟨K, tr, O0, H0, E, Er, false⟩ fb))
    (hg : ∀ ds C E, g ds C E → fb ⟨startD N.length ds, 0⟩ ⟨fun _ => C .non, fun d _ => C d, fun _ => False, fun _ => False⟩ E) (hN : N.length ≤ 1000 := by decide) : FnG P w K mg base CX0 (k + 1) f fd ps (spP K g) := by
  have hpl : ps.length ≤ N.length := by have := congrArg List.length S.pre; rw [List.length_take] at this; omega
  refine okG F S (fun vs H Q E ⟨O, ds, C, Er, r, h, _⟩ => by rw [r.len]; exact hl _ _ _ h) fun cdv A outer s H vs Q E hgd hr ⟨O, ds, C, Er, r, h, ew, hq⟩ => ?_
  refine ⟨_, hb none O H Er cdv A outer s H E hgd hr, O, _, _, ctx_start (tr := none) (n := 0) hN (by rw [hl _ _ _ h]; exact hpl) r True.intro ew, hg ds C Er h, fun O' S' σ' H' c _ q => ?_, fun d S' σ' v O' H' c r _ q => ?_, fun _ _ _ _ _ _ q => q, fun _ _ _ _ _ _ q => q⟩
  · exact hq .non .non O' H' c.aft rfl q
  · exact hq d v O' H' c.aft r q
/-- errors may leave -/
theorem fnP {g : FP} {fb : FS} {CX : CXT} (F : Fun K x qual st f fd) (S : FnScope N ps (defScope st)) (hl : ∀ ds C E, g ds C E → ds.length = ps.length)
    (hb : ∀ (tr : Option (Addr × Addr)) (O0 : Ow) (H0 : Hp) (Er : Err → Prop) (cdv : Value) (A : Around) (outer : List Env) (s : Shared) (H : Hp) (E : XK), (A.deeper (envOfC qual (defScope st) s.heap.objs.size f cdv)).guards = some [] → Room k (A.deeper (envOfC qual (defScope st) s.heap.objs.size f cdv)) →
      PSs (cxOf CX P w K mg base N qual (defScope st) f cdv A outer s H E) (defBody st) (tDS ⟨K, tr, O0, H0, E, Er, false⟩ fb))
    (hg : ∀ ds C E, g ds C E → fb ⟨startD N.length ds, 0⟩ ⟨fun _ => C .non, fun d _ => C d, fun _ => False, fun _ => False⟩ E) (hN : N.length ≤ 1000 := by decide) : FnG P w K mg base CX (k + 1) f fd ps (spP K g) := by
  have hpl : ps.length ≤ N.length := by have := congrArg List.length S.pre; rw [List.length_take] at this; omega
  refine okGX F S (fun vs H Q E ⟨O, ds, C, Er, r, h, _⟩ => by rw [r.len]; exact hl _ _ _ h) fun cdv A outer s H vs Q E hgd hr ⟨O, ds, C, Er, r, h, ew, hq⟩ => ?_
  refine ⟨_, hb none O H Er cdv A outer s H E hgd hr, O, _, _, ctx_start (tr := none) (n := 0) hN (by rw [hl _ _ _ h]; exact hpl) r True.intro ew, hg ds C Er h, fun O' S' σ' H' c _ q => ?_, fun d S' σ' v O' H' c r _ q => ?_, fun _ _ _ _ _ _ q => q, fun _ _ _ _ _ _ q => q⟩
  · exact hq .non .non O' H' c.aft rfl q
  · exact hq d v O' H' c.aft r q
/-- the tray among its arguments -/
theorem fnT0 {g : FT} {fb : Addr → FS} (F : Fun K x qual st f fd) (S : FnScope N ps (defScope st)) (hl : ∀ a ds n C E, g a ds n C E → ds.length = ps.length)
    (hb : ∀ (a c : Addr) (O0 : Ow) (H0 : Hp) (Er : Err → Prop) (cdv : Value) (A : Around) (outer : List Env) (s : Shared) (H : Hp) (E : XK), (A.deeper (envOfC qual (defScope st) s.heap.objs.size f cdv)).guards = some [] → Room k (A.deeper (envOfC qual (defScope st) s.heap.objs.size f cdv)) →
      PSs (cxOf CX0 P w K mg base N qual (defScope st) f cdv A outer s H E).nox (defBody st) (tDS ⟨K, some (a, c), O0, H0, E, Er, false⟩ (fb a)))
    (hg : ∀ a ds n C E, g a ds n C E → fb a ⟨startD N.length ds, n⟩ ⟨fun S => ∃ m, m ≤ S.n ∧ C .non m, fun d S => ∃ m, m ≤ S.n ∧ C d m, fun _ => False, fun _ => False⟩ E) (hN : N.length ≤ 1000 := by decide) : FnG P w K mg base CX0 (k + 1) f fd ps (spT K g) := by
  have hpl : ps.length ≤ N.length := by have := congrArg List.length S.pre; rw [List.length_take] at this; omega
  refine okG F S (fun vs H Q E ⟨a, c, O, ds, n, C, Er, r, t, h, _⟩ => by rw [r.len]; exact hl _ _ _ _ _ h) fun cdv A outer s H vs Q E hgd hr ⟨a, c, O, ds, n, C, Er, r, t, h, ew, hq⟩ => ?_
  refine ⟨_, hb a c O H Er cdv A outer s H E hgd hr, O, _, _, ctx_start hN (by rw [hl _ _ _ _ _ h]; exact hpl) r t ew, hg a ds n C Er h, fun O' S' σ' H' c _ q => ?_, fun d S' σ' v O' H' c r _ q => ?_, fun _ _ _ _ _ _ q => q, fun _ _ _ _ _ _ q => q⟩
  · obtain ⟨m, hm, q⟩ := q
    exact hq .non m .non O' H' c.aft (c.tr.less hm) rfl q
  · obtain ⟨m, hm, q⟩ := q
    exact hq d m v O' H' c.aft (c.tr.less hm) r q
/-- the tray among its arguments, a new list comes back -/
theorem fnT0F {g : FT} {fb : Addr → FS} (F : Fun K x qual st f fd) (S : FnScope N ps (defScope st)) (hl : ∀ a ds n C E, g a ds n C E → ds.length = ps.length)
    (hb : ∀ (a c : Addr) (O0 : Ow) (H0 : Hp) (Er : Err → Prop) (cdv : Value) (A : Around) (outer : List Env) (s : Shared) (H : Hp) (E : XK), (A.deeper (envOfC qual (defScope st) s.heap.objs.size f cdv)).guards = some [] → Room k (A.deeper (envOfC qual (defScope st) s.heap.objs.size f cdv)) →
      PSs (cxOf CX0 P w K mg base N qual (defScope st) f cdv A outer s H E).nox (defBody st) (tDS ⟨K, some (a, c), O0, H0, E, Er, true⟩ (fb a)))
    (hg : ∀ a ds n C E, g a ds n C E → fb a ⟨startD N.length ds, n⟩ ⟨fun S => ∃ m, m ≤ S.n ∧ C .non m, fun d S => ∃ m, m ≤ S.n ∧ C d m, fun _ => False, fun _ => False⟩ E) (hN : N.length ≤ 1000 := by decide) : FnG P w K mg base CX0 (k + 1) f fd ps (spTF K g) := by
  have hpl : ps.length ≤ N.length := by have := congrArg List.length S.pre; rw [List.length_take] at this; omega
  refine okG F S (fun vs H Q E ⟨a, c, O, ds, n, C, Er, r, t, h, _⟩ => by rw [r.len]; exact hl _ _ _ _ _ h) fun cdv A outer s H vs Q E hgd hr ⟨a, c, O, ds, n, C, Er, r, t, h, ew, hq⟩ => ?_
  refine ⟨_, hb a c O H Er cdv A outer s H E hgd hr, O, _, _, ctx_start hN (by rw [hl _ _ _ _ _ h]; exact hpl) r t ew, hg a ds n C Er h, fun O' S' σ' H' c _ q => ?_, fun d S' σ' v O' H' c r hf q => ?_, fun _ _ _ _ _ _ q => q, fun _ _ _ _ _ _ q => q⟩
  · obtain ⟨m, hm, q⟩ := q
    exact hq .non m .non O' H' c.aft (c.tr.less hm) rfl (fun p z => by cases z) q
  · obtain ⟨m, hm, q⟩ := q
    exact hq d m v O' H' c.aft (c.tr.less hm) r (hf rfl) q
theorem spT_of {g : FT} {vs : List V} {H : Hp} {Q : VK} {E : XK} (h : spT K g vs H Q E) : spTF K g vs H Q E := by
  obtain ⟨a, c, O, ds, n, C, Er, r, t, h, ew, hq⟩ := h
  exact ⟨a, c, O, ds, n, C, Er, r, t, h, ew, fun d n' v O' H' af tr r _ hc => hq d n' v O' H' af tr r hc⟩
/-- a weaker promise -/
theorem _root_.G1.FnG.imp {CX : CXT} {sp sp0 : Sp} (F : FnG P w K mg base CX k f fd ps sp) (h : ∀ vs H Q E, sp0 vs H Q E → sp vs H Q E) : FnG P w K mg base CX k f fd ps sp0 :=
  ⟨fun vs H Q E q => F.len _ _ _ _ (h _ _ _ _ q), fun A outer s H args us vs Q E hg hr e0 bt r q => F.go A outer s H args us vs Q E hg hr e0 bt r (h _ _ _ _ q)⟩
/-- called where no error comes -/
theorem _root_.G1.FnG.calm {sp : Sp} {sp0 : Sp} (F : FnG P w K mg base (L2.CX P w) k f fd ps sp) (h : ∀ vs H Q E, sp0 vs H Q E → sp vs H Q fun _ _ _ => False) : FnG P w K mg base CX0 k f fd ps sp0 := by
  refine ⟨fun vs H Q E q => F.len _ _ _ _ (h _ _ _ _ q), fun A outer s H args us vs Q E hg hr e0 bt r q => ?_⟩
  refine codeAny_mono (F.go A outer s H args us vs Q _ hg hr e0 bt r (h _ _ _ _ q)) fun r s' hq => ?_
  match r, hq with
  | .ok (.ret u), hq => exact hq
  | .ok .next, hq => exact hq
  | .ok .brk, hq => exact hq
  | .ok .cont, hq => exact hq
  | .error e, hq =>
    obtain ⟨_, _, _, _, _, _, _, _, _, _, _, _, z⟩ := hq
    exact z.elim
theorem spP_calm {g : FP} {vs : List V} {H : Hp} {Q : VK} {E : XK} (h : spP K (fun ds C _ => g ds C fun _ => False) vs H Q E) : spP K g vs H Q fun _ _ _ => False := by
  obtain ⟨O, ds, C, Er, r, h, ew, hq⟩ := h
  exact ⟨O, ds, C, fun _ => False, r, h, fun _ _ _ _ _ _ _ z => z, hq⟩
end
end DL
end
section
set_option maxHeartbeats 4000000
namespace DL
variable [TB]
open PySem PySem.Spec PyProof.Rows L2 G1
/-! ### operators on data -/
section
variable {K : PySem.W.Frag}
def dI0 (g : Int → Int → D) : RD := fun x y C => ∃ i j, x = .int i ∧ y = .int j ∧ C (g i j)
def dI (c : Int → Int → Prop) (g : Int → Int → D) : RD := fun x y C => ∃ i j, x = .int i ∧ y = .int j ∧ c i j ∧ C (g i j)
theorem D_I0 {g : Int → Int → D} {g' : Int → Int → V} (h : ∀ i j O H, Rep K O H (g i j) (g' i j)) : OpD K (rI0 g') (dI0 g) := by
  intro O H dx dy x y C Q rx ry ⟨i, j, e1, e2, hc⟩ hq
  subst e1 e2
  cases rx
  cases ry
  exact ⟨i, j, rfl, rfl, hq _ _ O H (Aft.refl _ _ _) (h i j O H) hc⟩
theorem D_I {c : Int → Int → Prop} {g : Int → Int → D} {g' : Int → Int → V} (h : ∀ i j O H, Rep K O H (g i j) (g' i j)) : OpD K (rI c g') (dI c g) := by
  intro O H dx dy x y C Q rx ry ⟨i, j, e1, e2, hcc, hc⟩ hq
  subst e1 e2
  cases rx
  cases ry
  exact ⟨i, j, rfl, rfl, hcc, hq _ _ O H (Aft.refl _ _ _) (h i j O H) hc⟩
theorem D_sub : OpD K (rI0 fun i j => .int (i - j)) (dI0 fun i j => .int (i - j)) := D_I0 fun _ _ _ _ => rfl
theorem D_mul : OpD K (rI CMul fun i j => .int (i * j)) (dI CMul fun i j => .int (i * j)) := D_I fun _ _ _ _ => rfl
theorem D_mulW : OpD K (rI CMulW fun i j => .int (i * j)) (dI CMulW fun i j => .int (i * j)) := D_I fun _ _ _ _ => rfl
theorem D_fdiv : OpD K (rI CDiv fun i j => .int (i / j)) (dI CDiv fun i j => .int (i / j)) := D_I fun _ _ _ _ => rfl
theorem D_fdivW : OpD K (rI CDivW fun i j => .int (i / j)) (dI CDivW fun i j => .int (i / j)) := D_I fun _ _ _ _ => rfl
theorem D_mod : OpD K (rI (fun _ j => 0 < j) fun i j => .int (i % j)) (dI (fun _ j => 0 < j) fun i j => .int (i % j)) := D_I fun _ _ _ _ => rfl
theorem D_pow : OpD K (rI CPow fun i j => .int (i ^ j.toNat)) (dI CPow fun i j => .int (i ^ j.toNat)) := D_I fun _ _ _ _ => rfl
theorem D_shl : OpD K (rI CShl fun i j => .int (i * 2 ^ j.toNat)) (dI CShl fun i j => .int (i * 2 ^ j.toNat)) := D_I fun _ _ _ _ => rfl
theorem D_shr : OpD K (rI (fun _ j => 0 ≤ j) fun i j => .int (i / 2 ^ j.toNat)) (dI (fun _ j => 0 ≤ j) fun i j => .int (i / 2 ^ j.toNat)) := D_I fun _ _ _ _ => rfl
theorem D_band : OpD K (rI0 fun i j => .int (Builtin.bitAnd i j)) (dI0 fun i j => .int (Builtin.bitAnd i j)) := D_I0 fun _ _ _ _ => rfl
theorem D_bor : OpD K (rI0 fun i j => .int (Builtin.bitOr i j)) (dI0 fun i j => .int (Builtin.bitOr i j)) := D_I0 fun _ _ _ _ => rfl
theorem D_bxor : OpD K (rI0 fun i j => .int (Builtin.bitXor i j)) (dI0 fun i j => .int (Builtin.bitXor i j)) := D_I0 fun _ _ _ _ => rfl
theorem D_lt : OpD K (rI0 fun i j => .bl (decide (i < j))) (dI0 fun i j => .bl (decide (i < j))) := D_I0 fun _ _ _ _ => rfl
theorem D_le : OpD K (rI0 fun i j => .bl (decide (i ≤ j))) (dI0 fun i j => .bl (decide (i ≤ j))) := D_I0 fun _ _ _ _ => rfl
theorem D_gt : OpD K (rI0 fun i j => .bl (decide (j < i))) (dI0 fun i j => .bl (decide (j < i))) := D_I0 fun _ _ _ _ => rfl
theorem D_ge : OpD K (rI0 fun i j => .bl (decide (j ≤ i))) (dI0 fun i j => .bl (decide (j ≤ i))) := D_I0 fun _ _ _ _ => rfl
def dNeg : D → (D → Prop) → Prop := fun x C => ∃ i, x = .int i ∧ C (.int (-i))
theorem D_neg : UnD K (rU fun i => .int (-i)) dNeg := by
  intro O H dx x C Q rx ⟨i, e, hc⟩ hq
  subst e
  cases rx
  exact ⟨i, rfl, hq (.int (-i)) _ O H (Aft.refl _ _ _) rfl hc⟩
/-! a + b of whatever kind -/
def rPlus (K : PySem.W.Frag) : R2 := fun x y H Q => rI0 (fun i j => .int (i + j)) x y H Q ∨ (∃ i j, x = .str i ∧ y = .str j ∧ i.length + j.length ≤ sizeLine ∧ Q (.str (i ++ j)) H) ∨ rCat x y H Q ∨ rCatT K x y H Q
theorem op_plus {X : Cx} : OpR X (binaryOp .Add) (rPlus X.K) := by
  intro pins s σ H x y v u Q I rx ry h
  rcases h with h | h | h | h
  · exact op_add pins s σ H x y v u Q I rx ry h
  · exact op_add_str pins s σ H x y v u Q I rx ry h
  · exact op_cat pins s σ H x y v u Q I rx ry h
  · exact op_catT pins s σ H x y v u Q I rx ry h
def dPlus : RD := fun x y C => match x, y with
  | .int i, .int j => C (.int (i + j))
  | .str a, .str b => a.length + b.length ≤ sizeLine ∧ C (.str (a ++ b))
  | .lst a, .lst b => a.length + b.length ≤ sizeLine ∧ C (.lst (a ++ b))
  | .tup a, .tup b => a ≠ [] ∧ a.length + b.length ≤ sizeLine ∧ C (.tup (a ++ b))
  | _, _ => False
theorem Reps.nil_of {O : Ow} {H : Hp} {ds : List D} {vs : List V} (r : Reps K O H ds vs) : vs = [] ↔ ds = [] := by
  rw [← List.length_eq_zero_iff, ← List.length_eq_zero_iff, r.len]
theorem D_plus : OpD K (rPlus K) dPlus := by
  intro O H dx dy x y C Q rx ry h hq
  unfold dPlus at h
  split at h
  · next i j =>
    cases rx
    cases ry
    exact .inl ⟨_, _, rfl, rfl, hq (.int (i + j)) _ O H (Aft.refl _ _ _) rfl h⟩
  · next a b =>
    cases rx
    cases ry
    exact .inr (.inl ⟨_, _, rfl, rfl, h.1, hq (.str (a ++ b)) _ O H (Aft.refl _ _ _) rfl h.2⟩)
  · obtain ⟨p, vs, rfl, e1, r1⟩ := rx
    obtain ⟨q, us, rfl, e2, r2⟩ := ry
    exact .inr (.inr (.inl ⟨p, q, vs, us, rfl, rfl, e1, e2, by rw [r1.len, r2.len]; exact h.1, fun z hz => hq _ _ _ _ (upd_aft hz) (rep_newL hz (Reps.app r1 r2)) h.2⟩))
  · next a b =>
    obtain ⟨p, vs, rfl, e1, r1⟩ := rx
    obtain ⟨q, us, rfl, e2, r2⟩ := ry
    obtain ⟨hn, hz, hc⟩ := h
    refine .inr (.inr (.inr ⟨p, q, vs, us, rfl, rfl, e1.sq, e2.sq, fun z => hn (r1.nil_of.mp z), by rw [r1.len, r2.len]; exact hz, fun z => ?_, fun z n hn => hq _ _ _ _ (upd_aft hn) (rep_newT hn (Reps.app r1 r2)) hc⟩))
    rw [r2.nil_of.mp z, List.append_nil] at hc
    exact hq (.tup a) _ O H (Aft.refl _ _ _) ⟨p, vs, rfl, e1, r1⟩ hc
  · exact h.elim
/-! ### equality -/
mutual
def toPy : D → Option PyData
  | .non => some .none
  | .bl b => some (.bool b)
  | .int i => some (.int i)
  | .str x => some (.str x)
  | .lst ds => (toPys ds).map .list
  | .tup ds => (toPys ds).map .tuple
  | .dic _ _ => none
  | .ob _ => none
def toPys : List D → Option (List PyData)
  | [] => some []
  | d :: ds => (toPy d).bind fun p => (toPys ds).map fun ps => p :: ps
end
mutual
theorem dp_of {O : Ow} {H : Hp} : ∀ (d : D) (v : V) (p : PyData), Rep K O H d v → toPy d = some p → Dp K H v p
  | .non, _, _, r, h => by cases h; cases r; exact .non
  | .bl b, _, _, r, h => by cases h; cases r; exact .bl b
  | .int i, _, _, r, h => by cases h; cases r; exact .int i
  | .str x, _, _, r, h => by cases h; cases r; exact .str x
  | .lst ds, _, _, ⟨p, vs, e, s, r⟩, h => by
    subst e
    unfold toPy at h
    cases q : toPys ds with
    | none => rw [q] at h; cases h
    | some ps =>
      rw [q] at h
      cases h
      exact .lst s.sq (dps_of ds vs ps r q)
  | .tup ds, _, _, ⟨p, vs, e, s, r⟩, h => by
    subst e
    unfold toPy at h
    cases q : toPys ds with
    | none => rw [q] at h; cases h
    | some ps =>
      rw [q] at h
      cases h
      exact .tup s.sq (dps_of ds vs ps r q)
  | .dic _ _, _, _, _, h => by cases h
  | .ob _, _, _, _, h => by cases h
theorem dps_of {O : Ow} {H : Hp} : ∀ (ds : List D) (vs : List V) (ps : List PyData), Reps K O H ds vs → toPys ds = some ps → DpAll K H vs ps
  | [], _, _, r, h => by
    cases h
    rw [show _ = [] from r]
    exact .nil
  | d :: ds, _, _, ⟨v, vs, e, r1, r2⟩, h => by
    subst e
    unfold toPys at h
    cases q1 : toPy d with
    | none => rw [q1] at h; cases h
    | some p =>
      rw [q1] at h
      cases q2 : toPys ds with
      | none => rw [q2] at h; cases h
      | some ps =>
        rw [q2] at h
        cases h
        exact .cons (dp_of d v p r1 q1) (dps_of ds vs ps r2 q2)
end
theorem dpv_of {O : Ow} {H : Hp} {d : D} {v : V} {p : PyData} (r : RepV K O H d v) (h : toPy d = some p) : Dp K H v p := by
  cases d with
  | lst ds =>
    obtain ⟨q, vs, rfl, s, r⟩ := r
    unfold toPy at h
    cases q : toPys ds with
    | none => rw [q] at h; cases h
    | some ps =>
      rw [q] at h
      cases h
      exact .lst (.inl (.inl s)) (dps_of ds vs ps r q)
  | _ => exact dp_of _ _ _ r h
def flD : D → Option V
  | .non => some .non
  | .bl b => some (.bl b)
  | .int i => some (.int i)
  | .str x => some (.str x)
  | _ => none
def dSc (neg : Bool) : RD := fun x y C => ∃ u v, flD x = some u ∧ flD y = some v ∧ scal u v = true ∧ C (.bl (if neg then !decide (u = v) else decide (u = v)))
def dDat (neg : Bool) : RD := fun x y C => ∃ p q, toPy x = some p ∧ toPy y = some q ∧ SeqAt.shaped p = true ∧ SeqAt.shaped q = true ∧ C (.bl (if neg then !PyData.eqv p q else PyData.eqv p q))
def dEq : RD := fun x y C => dSc false x y C ∨ dDat false x y C
def dNe : RD := fun x y C => dSc true x y C ∨ dDat true x y C
def rEqA (K : PySem.W.Frag) : R2 := fun x y H Q => rEq x y H Q ∨ rEqD K x y H Q
def rNeA (K : PySem.W.Frag) : R2 := fun x y H Q => rNe x y H Q ∨ rNeD K x y H Q
theorem op_eqA {X : Cx} (hu : X.A.units + 64 < cLine) : OpR X (compareOp .Eq) (rEqA X.K) := by
  intro pins s σ H x y v u Q I rx ry h
  rcases h with h | h
  · exact op_eq pins s σ H x y v u Q I rx ry h
  · exact op_eqD hu pins s σ H x y v u Q I rx ry h
theorem op_neA {X : Cx} (hu : X.A.units + 64 < cLine) : OpR X (compareOp .NotEq) (rNeA X.K) := by
  intro pins s σ H x y v u Q I rx ry h
  rcases h with h | h
  · exact op_ne pins s σ H x y v u Q I rx ry h
  · exact op_neD hu pins s σ H x y v u Q I rx ry h
theorem flD_of {O : Ow} {H : Hp} {d : D} {v u : V} (r : RepV K O H d v) (h : flD d = some u) : v = u := by
  cases d with
  | non => cases r; cases h; rfl
  | bl c => cases r; cases h; rfl
  | int i => cases r; cases h; rfl
  | str x => cases r; cases h; rfl
  | _ => cases h
theorem D_eq : OpD K (rEqA K) dEq := by
  intro O H dx dy x y C Q rx ry h hq
  rcases h with ⟨u, v, h1, h2, h3, hc⟩ | ⟨p, q, h1, h2, h3, h4, hc⟩
  · have e1 := flD_of rx h1
    have e2 := flD_of ry h2
    subst e1 e2
    exact .inl ⟨h3, hq (.bl (decide (x = y))) _ O H (Aft.refl _ _ _) rfl hc⟩
  · exact .inr ⟨p, q, dpv_of rx h1, dpv_of ry h2, h3, h4, hq (.bl (PyData.eqv p q)) _ O H (Aft.refl _ _ _) rfl hc⟩
theorem D_ne : OpD K (rNeA K) dNe := by
  intro O H dx dy x y C Q rx ry h hq
  rcases h with ⟨u, v, h1, h2, h3, hc⟩ | ⟨p, q, h1, h2, h3, h4, hc⟩
  · have e1 := flD_of rx h1
    have e2 := flD_of ry h2
    subst e1 e2
    exact .inl ⟨h3, hq (.bl (!decide (x = y))) _ O H (Aft.refl _ _ _) rfl hc⟩
  · exact .inr ⟨p, q, dpv_of rx h1, dpv_of ry h2, h3, h4, hq (.bl (!PyData.eqv p q)) _ O H (Aft.refl _ _ _) rfl hc⟩
/-! ### is None, is True -/
def isN : D → Option Bool
  | .non => some true
  | .ob v => some (decide (v = .non))
  | _ => some false
def dIsN : RD := fun x y C => y = .non ∧ ∃ b, isN x = some b ∧ C (.bl b)
def dNotN : RD := fun x y C => y = .non ∧ ∃ b, isN x = some b ∧ C (.bl (!b))
theorem isN_of {O : Ow} {H : Hp} {d : D} {v : V} {b : Bool} (r : RepV K O H d v) (h : isN d = some b) : decide (v = V.non) = b := by
  cases d with
  | non => cases r; cases h; rfl
  | bl c => cases r; cases h; rfl
  | int i => cases r; cases h; rfl
  | str x => cases r; cases h; rfl
  | lst ds =>
    obtain ⟨p, vs, rfl, _⟩ := r
    cases h
    rfl
  | tup ds =>
    obtain ⟨p, vs, rfl, _⟩ := r
    cases h
    rfl
  | dic ks ds =>
    obtain ⟨p, kvs, rfl, _⟩ := r
    cases h
    rfl
  | ob u =>
    cases r
    cases h
    rfl
theorem D_isN : OpD K (fun x y H Q => y = .non ∧ Q (.bl (decide (x = .non))) H) dIsN := by
  intro O H dx dy x y C Q rx ry ⟨e, b, hb, hc⟩ hq
  subst e
  cases ry
  refine ⟨rfl, ?_⟩
  rw [isN_of rx hb]
  exact hq (.bl b) _ O H (Aft.refl _ _ _) rfl hc
theorem D_notN : OpD K (fun x y H Q => y = .non ∧ Q (.bl (!decide (x = .non))) H) dNotN := by
  intro O H dx dy x y C Q rx ry ⟨e, b, hb, hc⟩ hq
  subst e
  cases ry
  refine ⟨rfl, ?_⟩
  rw [isN_of rx hb]
  exact hq (.bl (!b)) _ O H (Aft.refl _ _ _) rfl hc
def dIsB : RD := fun x y C => ∃ a b, x = .bl a ∧ y = .bl b ∧ C (.bl (decide (a = b)))
theorem D_isB : OpD K rIsB dIsB := by
  intro O H dx dy x y C Q rx ry ⟨a, b, e1, e2, hc⟩ hq
  subst e1 e2
  cases rx
  cases ry
  exact ⟨a, b, rfl, rfl, hq (.bl (decide (a = b))) _ O H (Aft.refl _ _ _) rfl hc⟩
/-! ### in -/
def flV : D → Option V
  | .non => some .non
  | .bl b => some (.bl b)
  | .int i => some (.int i)
  | .str x => some (.str x)
  | _ => none
theorem fl_of {O : Ow} {H : Hp} {d : D} {v u : V} (r : RepV K O H d v) (h : flV d = some u) : v = u ∧ flatV v = true := by
  cases d with
  | non => cases r; cases h; exact ⟨rfl, rfl⟩
  | bl c => cases r; cases h; exact ⟨rfl, rfl⟩
  | int i => cases r; cases h; exact ⟨rfl, rfl⟩
  | str x => cases r; cases h; exact ⟨rfl, rfl⟩
  | _ => cases h
def flVs : List D → Option (List V)
  | [] => some []
  | d :: ds => (flV d).bind fun v => (flVs ds).map fun vs => v :: vs
theorem fls_of {O : Ow} {H : Hp} : ∀ {ds : List D} {vs us : List V}, Reps K O H ds vs → flVs ds = some us → vs = us ∧ vs.all flatV = true
  | [], _, _, r, h => by
    cases h
    rw [show _ = [] from r]
    exact ⟨rfl, rfl⟩
  | d :: ds, _, _, ⟨v, vs, e, r1, r2⟩, h => by
    subst e
    unfold flVs at h
    cases q1 : flV d with
    | none => rw [q1] at h; cases h
    | some u =>
      rw [q1] at h
      cases q2 : flVs ds with
      | none => rw [q2] at h; cases h
      | some us =>
        rw [q2] at h
        cases h
        obtain ⟨e1, f1⟩ := fl_of r1.v q1
        obtain ⟨e2, f2⟩ := fls_of r2 q2
        exact ⟨by rw [e1, e2], by rw [List.all_cons, f1, f2]; rfl⟩
def itemsD : D → Option (List D)
  | .lst ds => some ds
  | .tup ds => some ds
  | _ => none
def dIn (neg : Bool) : RD := fun x y C => ∃ ds u us, itemsD y = some ds ∧ flV x = some u ∧ flVs ds = some us ∧ C (.bl (if neg then !inV u us else inV u us))
theorem D_in (neg : Bool) : OpD K (rIn K neg) (dIn neg) := by
  intro O H dx dy x y C Q rx ry ⟨ds, u, us, h1, h2, h3, hc⟩ hq
  obtain ⟨e1, f1⟩ := fl_of rx h2
  subst e1
  cases dy with
  | lst es =>
    cases h1
    obtain ⟨p, vs, rfl, s, r⟩ := ry
    obtain ⟨e2, f2⟩ := fls_of r h3
    subst e2
    exact ⟨p, vs, rfl, .inl (.inl (.inl s)), f1, f2, hq (.bl _) _ O H (Aft.refl _ _ _) rfl hc⟩
  | tup es =>
    cases h1
    obtain ⟨p, vs, rfl, s, r⟩ := ry
    obtain ⟨e2, f2⟩ := fls_of r h3
    subst e2
    exact ⟨p, vs, rfl, .inr s.sq, f1, f2, hq (.bl _) _ O H (Aft.refl _ _ _) rfl hc⟩
  | _ => cases h1
def dInSign (neg : Bool) : RD := fun x y C => ∃ (c : Nat) (z : Str), x = .str ⟨#[c]⟩ ∧ y = .str z ∧ C (.bl (if neg then !decide (c ∈ z.cps.toList) else decide (c ∈ z.cps.toList)))
theorem D_inSign : OpD K (fun x y H Q => ∃ (c : Nat) (z : Str), x = .str ⟨#[c]⟩ ∧ y = .str z ∧ Q (.bl (decide (c ∈ z.cps.toList))) H) (dInSign false) := by
  intro O H dx dy x y C Q rx ry ⟨c, z, e1, e2, hc⟩ hq
  subst e1 e2
  cases rx
  cases ry
  exact ⟨c, z, rfl, rfl, hq (.bl _) _ O H (Aft.refl _ _ _) rfl hc⟩
theorem D_notInSign : OpD K (fun x y H Q => ∃ (c : Nat) (z : Str), x = .str ⟨#[c]⟩ ∧ y = .str z ∧ Q (.bl (!decide (c ∈ z.cps.toList))) H) (dInSign true) := by
  intro O H dx dy x y C Q rx ry ⟨c, z, e1, e2, hc⟩ hq
  subst e1 e2
  cases rx
  cases ry
  exact ⟨c, z, rfl, rfl, hq (.bl _) _ O H (Aft.refl _ _ _) rfl hc⟩
/-! ### x[i] -/
def dIx : RD := fun x y C => ∃ i, y = .int i ∧ match x with
  | .lst ds => ∃ d, atI ds i = some d ∧ C d
  | .tup ds => ∃ d, atI ds i = some d ∧ C d
  | .str z => z.length ≤ sizeLine ∧ ∃ c, atI z.cps.toList i = some c ∧ C (.str ⟨#[c]⟩)
  | _ => False
theorem atI_reps {O : Ow} {H : Hp} {ds : List D} {vs : List V} {i : Int} {d : D} (r : Reps K O H ds vs) (h : atI ds i = some d) : ∃ v, atI vs i = some v ∧ Rep K O H d v := by
  unfold atI at h ⊢
  rw [r.len]
  cases e : ixN ds.length i with
  | none => rw [e] at h; cases h
  | some j =>
    rw [e] at h
    exact r.at h
theorem D_ix : OpD K (rIx K) dIx := by
  intro O H dx dy x y C Q rx ry ⟨i, e, h⟩ hq
  subst e
  cases ry
  cases dx with
  | lst ds =>
    obtain ⟨d, hd, hc⟩ := h
    obtain ⟨p, vs, rfl, s, r⟩ := rx
    obtain ⟨v, hv, rv⟩ := atI_reps r hd
    exact .inl ⟨p, vs, i, v, rfl, rfl, .inl (.inl s), hv, hq d v O H (Aft.refl _ _ _) rv hc⟩
  | tup ds =>
    obtain ⟨d, hd, hc⟩ := h
    obtain ⟨p, vs, rfl, s, r⟩ := rx
    obtain ⟨v, hv, rv⟩ := atI_reps r hd
    exact .inr (.inl ⟨p, vs, i, v, rfl, rfl, s.sq, hv, hq d v O H (Aft.refl _ _ _) rv hc⟩)
  | str z =>
    cases rx
    obtain ⟨hz, c, h1, hc⟩ := h
    exact .inr (.inr ⟨z, i, c, rfl, rfl, hz, h1, hq (.str _) _ O H (Aft.refl _ _ _) rfl hc⟩)
  | _ => exact h.elim
/-! ### built-in calls -/
def lenD : D → Option Nat
  | .lst ds => some ds.length
  | .tup ds => some ds.length
  | .str z => if z.length ≤ sizeLine then some z.length else none
  | _ => none
def rLenA (K : PySem.W.Frag) : List V → Hp → VK → Prop := fun xs H Q => (∃ p ys, xs = [.ref p] ∧ (SqL K H p ys ∨ SqT K H p ys) ∧ Q (.int ys.length) H) ∨ (∃ z, xs = [.str z] ∧ z.length ≤ sizeLine ∧ Q (.int z.length) H)
theorem call_lenA {X : Cx} : CallR X (.builtin "len") (rLenA X.K) := by
  intro pins s σ H xs us Q I r h
  rcases h with h | h
  · exact call_len_seq pins s σ H xs us Q I r h
  · exact call_len_str pins s σ H xs us Q I r h
def dLen : List D → (D → Prop) → Prop := fun ds C => ∃ d n, ds = [d] ∧ lenD d = some n ∧ C (.int (n : Int))
theorem repv1 {O : Ow} {H : Hp} {d : D} {vs : List V} (r : RepVs K O H [d] vs) : ∃ v, vs = [v] ∧ RepV K O H d v := by
  cases r with
  | cons r1 r2 =>
    cases r2
    exact ⟨_, rfl, r1⟩
theorem repv2 {O : Ow} {H : Hp} {d e : D} {vs : List V} (r : RepVs K O H [d, e] vs) : ∃ v u, vs = [v, u] ∧ RepV K O H d v ∧ RepV K O H e u := by
  cases r with
  | cons r1 r2 =>
    obtain ⟨u, rfl, r3⟩ := repv1 r2
    exact ⟨_, u, rfl, r1, r3⟩
theorem D_len : CallD K (rLenA K) dLen := by
  intro O H ds us C Q r ⟨d, n, e, h, hc⟩ hq
  subst e
  obtain ⟨v, e, rv⟩ := repv1 r
  subst e
  clear r
  cases d with
  | lst es =>
    cases h
    obtain ⟨p, ws, e, s, r⟩ := rv
    subst e
    refine .inl ⟨p, ws, rfl, .inl (.inl (.inl s)), ?_⟩
    rw [r.len]
    exact hq (.int _) _ O H (Aft.refl _ _ _) rfl hc
  | tup es =>
    cases h
    obtain ⟨p, ws, e, s, r⟩ := rv
    subst e
    refine .inl ⟨p, ws, rfl, .inr s.sq, ?_⟩
    rw [r.len]
    exact hq (.int _) _ O H (Aft.refl _ _ _) rfl hc
  | str z =>
    have e : v = .str z := rv
    subst e
    have h : (if z.length ≤ sizeLine then some z.length else none) = some n := h
    split at h
    · next q =>
      cases h
      exact .inr ⟨z, rfl, q, hq (.int _) _ O H (Aft.refl _ _ _) rfl hc⟩
    · cases h
  | _ => cases h
end
end DL
end
section
set_option maxHeartbeats 4000000
namespace DL
variable [TB]
open PySem PySem.Spec PyProof.Rows L2 G1
section
variable {X : Cx} {Θ : Par} {e : Expr}
/-! ### isinstance -/
def kindT : D → Option String
  | .non => some "NoneType"
  | .bl _ => some "bool"
  | .int _ => some "int"
  | .str _ => some "str"
  | .lst _ => some "list"
  | .tup _ => some "tuple"
  | .dic _ _ => some "dict"
  | .ob _ => none
theorem tyx_of {K : PySem.W.Frag} {O : Ow} {H : Hp} {d : D} {v : V} {t : String} (r : RepV K O H d v) (h : kindT d = some t) : TyX K H v (.type t) := by
  cases d with
  | non => cases r; cases h; exact .base .non
  | bl c => cases r; cases h; exact .base (.bl c)
  | int i => cases r; cases h; exact .base (.int i)
  | str x => cases r; cases h; exact .base (.str x)
  | lst ds =>
    obtain ⟨p, vs, e, s, _⟩ := r
    subst e
    cases h
    exact .base (.lst s)
  | tup ds =>
    obtain ⟨p, vs, e, s, _⟩ := r
    subst e
    cases h
    rcases s with (s | ⟨o, s⟩) | ⟨o, its, n, h1, h2, _⟩
    · exact .base (.tup s)
    · exact .fTuple s
    · exact .kTuple h1 h2
  | dic ks ds =>
    obtain ⟨p, kvs, e, s, _⟩ := r
    subst e
    cases h
    exact .base (.dK s.2)
  | ob u => cases h
def isiTab (t : String) : List String → Bool
  | [] => false
  | c :: cs => t == c || (t == "bool" && c == "int") || isiTab t cs
/-- the classes that are asked for -/
def okC (c : String) : Bool := ["int", "bool", "str", "list", "tuple", "dict"].contains c
theorem kit_tab {K : PySem.W.Frag} {d : D} {t c : String} (h : kindT d = some t) (hc : okC c = true) : PySem.W.kitOne K (.type t) (.type c) = some (t == c || (t == "bool" && c == "int")) := by
  have hc2 : c = "int" ∨ c = "bool" ∨ c = "str" ∨ c = "list" ∨ c = "tuple" ∨ c = "dict" := by
    unfold okC at hc
    simpa using hc
  cases d with
  | ob u => cases h
  | _ =>
    cases h
    rcases hc2 with rfl | rfl | rfl | rfl | rfl | rfl <;> exact kit_ty (by decide +kernel)
def dIsi (cs : List String) (fa : FE) : FE := fun S C E => fa S (fun d S1 => ∃ t, kindT d = some t ∧ C (.bl (isiTab t cs)) S1) E
theorem de_isi1 {c : String} {fa : FE} (hc : okC c = true) (h : PE X e (tCB (rIsi Θ.K) (tCons (tDv Θ fa) (tCons (tC (.ty c)) tNil)))) : PE X e (tD Θ (dIsi [c] fa)) := pe_imp h fun σ H Q ⟨O, S, C, ctx, hf, k⟩ =>
  ⟨O, S, _, ctx, hf, fun d S1 v O1 H1 c1 l1 r ⟨t, ht, hq⟩ => ⟨v, .ty c, .type t, .type c, _, rfl, .ty c, tyx_of r ht, kit_tab ht hc, by
    have e1 : (t == c || t == "bool" && c == "int") = isiTab t [c] := by
      unfold isiTab isiTab
      rw [Bool.or_false]
    rw [e1]
    exact k (.bl (isiTab t [c])) S1 _ O1 H1 c1 l1 rfl hq⟩⟩
theorem de_isi2 {a b : String} {fa : FE} (ha : okC a = true) (hb : okC b = true) (h : PE X e (tCB (rIsiT Θ.K) (tCons (tDv Θ fa) (tCons (tTup (tCons (tC (.ty a)) (tCons (tC (.ty b)) tNil))) tNil)))) : PE X e (tD Θ (dIsi [a, b] fa)) := pe_imp h fun σ H Q ⟨O, S, C, ctx, hf, k⟩ =>
  ⟨O, S, _, ctx, hf, fun d S1 v O1 H1 c1 l1 r ⟨t, ht, hq⟩ => ⟨by show 2 ≤ sizeLine; decide, fun p hp => by
    obtain ⟨c2, l2, _⟩ := Aft.lift (K := Θ.K) (d := .non) (v := .non) c1 (upd_aft (o := .tup [V.ty a, V.ty b]) hp) rfl
    have ty1 : TyX Θ.K (upd H1 p (.tup [V.ty a, V.ty b])) v (.type t) := by
      refine tyx_of (O := setO O1 p none) (d := d) ?_ ht
      cases d with
      | lst ds =>
        obtain ⟨q, vs, e1, s, rr⟩ := r
        exact ⟨q, vs, e1, by rw [upd_ne (ne_of_none s hp)]; exact s, Reps.le (upd_leK hp) _ _ rr⟩
      | ob u => cases ht
      | _ => exact (Rep.le (upd_leK hp) _ _ r).v
    refine ⟨v, p, [.ty a, .ty b], .type t, [.type a, .type b], isiTab t [a, b], rfl, upd_same, .cons (.ty a) (.cons (.ty b) .nil), ty1, ?_, k (.bl (isiTab t [a, b])) S1 _ _ _ c2 (l1.trans l2) rfl hq⟩
    have k1 := kit_tab (K := Θ.K) ht ha
    have k2 := kit_tab (K := Θ.K) ht hb
    refine kitAny_cons k1 (fun h1 => kitAny_cons k2 (fun h2 => ?_) fun h2 => ?_) fun h1 => ?_
    · show some false = _
      unfold isiTab isiTab isiTab
      rw [h1, h2]
      rfl
    · unfold isiTab isiTab isiTab
      rw [h1, h2]
      rfl
    · unfold isiTab
      rw [h1]
      rfl⟩⟩
/-! ### repr, int, list, tuple, all, any -/
def dRepr : List D → (D → Prop) → Prop := fun ds C => ∃ d p, ds = [d] ∧ toPy d = some p ∧ p.showable = true ∧ p.depth ≤ 60 ∧ p.shown.length ≤ sizeLine ∧ C (.str p.shown)
theorem D_repr {K : PySem.W.Frag} : CallD K (rReprD K) dRepr := by
  intro O H ds us C Q r ⟨d, p, e, h1, h2, h3, h4, hc⟩ hq
  subst e
  obtain ⟨v, e, rv⟩ := repv1 r
  subst e
  exact ⟨v, p, rfl, dpv_of rv h1, h2, h3, h4, hq (.str _) _ O H (Aft.refl _ _ _) rfl hc⟩
def dInt : List D → (D → Prop) → Prop := fun ds C => (∃ i, ds = [.int i] ∧ C (.int i)) ∨ (∃ b, ds = [.bl b] ∧ C (.int (if b = true then 1 else 0))) ∨ ∃ a n, ds = [.str a] ∧ PySem.intText? a = some n ∧ a.length ≤ 640 ∧ C (.int n)
def rIntA : List V → Hp → VK → Prop := fun xs H Q => ((∃ i, xs = [.int i] ∧ Q (.int i) H) ∨ ∃ k, xs = [.bl k] ∧ Q (.int (if k then 1 else 0)) H) ∨ ∃ a n, xs = [.str a] ∧ PySem.intText? a = some n ∧ a.length ≤ 640 ∧ Q (.int n) H
theorem call_intA : CallR X (.type "int") rIntA := by
  intro pins s σ H xs us Q I r h
  rcases h with h | h
  · exact call_int1 pins s σ H xs us Q I r h
  · exact call_int_str pins s σ H xs us Q I r h
theorem D_int {K : PySem.W.Frag} : CallD K rIntA dInt := by
  intro O H ds us C Q r h hq
  rcases h with ⟨i, e, hc⟩ | ⟨b, e, hc⟩ | ⟨a, n, e, h1, h2, hc⟩
  · subst e
    obtain ⟨v, e, rv⟩ := repv1 r
    subst e
    have e : v = .int i := rv
    subst e
    exact .inl (.inl ⟨i, rfl, hq (.int i) _ O H (Aft.refl _ _ _) rfl hc⟩)
  · subst e
    obtain ⟨v, e, rv⟩ := repv1 r
    subst e
    have e : v = .bl b := rv
    subst e
    exact .inl (.inr ⟨b, rfl, hq (.int _) _ O H (Aft.refl _ _ _) rfl hc⟩)
  · subst e
    obtain ⟨v, e, rv⟩ := repv1 r
    subst e
    have e : v = .str a := rv
    subst e
    exact .inr ⟨a, n, rfl, h1, h2, hq (.int n) _ O H (Aft.refl _ _ _) rfl hc⟩
def dAbs : List D → (D → Prop) → Prop := fun ds C => ∃ i, ds = [.int i] ∧ C (.int (if i < 0 then -i else i))
theorem D_abs {K : PySem.W.Frag} : CallD K (fun xs H Q => ∃ i, xs = [.int i] ∧ Q (.int (if i < 0 then -i else i)) H) dAbs := by
  intro O H ds us C Q r ⟨i, e, hc⟩ hq
  subst e
  obtain ⟨v, e, rv⟩ := repv1 r
  subst e
  have e : v = .int i := rv
  subst e
  exact ⟨i, rfl, hq (.int _) _ O H (Aft.refl _ _ _) rfl hc⟩
def blsD : List D → Option (List Bool)
  | [] => some []
  | .bl b :: ds => (blsD ds).map fun bs => b :: bs
  | _ :: _ => none
theorem bls_of {K : PySem.W.Frag} {O : Ow} {H : Hp} : ∀ {ds : List D} {vs : List V} {bs : List Bool}, Reps K O H ds vs → blsD ds = some bs → vs = bs.map V.bl
  | [], _, _, r, h => by
    cases h
    exact r
  | .bl b :: ds, _, _, ⟨v, vs, e, r1, r2⟩, h => by
    subst e
    unfold blsD at h
    cases q : blsD ds with
    | none => rw [q] at h; cases h
    | some bs =>
      rw [q] at h
      cases h
      rw [show v = .bl b from r1, bls_of r2 q]
      rfl
  | .non :: _, _, _, _, h => by cases h
  | .int _ :: _, _, _, _, h => by cases h
  | .str _ :: _, _, _, _, h => by cases h
  | .lst _ :: _, _, _, _, h => by cases h
  | .tup _ :: _, _, _, _, h => by cases h
  | .dic _ _ :: _, _, _, _, h => by cases h
  | .ob _ :: _, _, _, _, h => by cases h
def dAll : List D → (D → Prop) → Prop := fun ds C => ∃ es bs, ds = [.lst es] ∧ blsD es = some bs ∧ C (.bl (bs.all id))
def dAny : List D → (D → Prop) → Prop := fun ds C => ∃ es bs, ds = [.lst es] ∧ blsD es = some bs ∧ C (.bl (bs.any id))
theorem D_all {K : PySem.W.Frag} : CallD K (rAll K) dAll := by
  intro O H ds us C Q r ⟨es, bs, e, h, hc⟩ hq
  subst e
  obtain ⟨v, e, rv⟩ := repv1 r
  subst e
  obtain ⟨p, vs, e, s, rr⟩ := rv
  subst e
  exact ⟨p, bs, rfl, by rw [← bls_of rr h]; exact .inl (.inl s), hq (.bl _) _ O H (Aft.refl _ _ _) rfl hc⟩
theorem D_any {K : PySem.W.Frag} : CallD K (rAny K) dAny := by
  intro O H ds us C Q r ⟨es, bs, e, h, hc⟩ hq
  subst e
  obtain ⟨v, e, rv⟩ := repv1 r
  subst e
  obtain ⟨p, vs, e, s, rr⟩ := rv
  subst e
  exact ⟨p, bs, rfl, by rw [← bls_of rr h]; exact .inl (.inl s), hq (.bl _) _ O H (Aft.refl _ _ _) rfl hc⟩
def dTupOf : List D → (D → Prop) → Prop := fun ds C => ∃ d es, ds = [d] ∧ itemsD d = some es ∧ C (.tup es)
theorem D_tupOf {K : PySem.W.Frag} : CallD K (fun xs H Q => ∃ p ys, xs = [.ref p] ∧ ((SqL K H p ys ∧ ∀ l, H l = none → Q (.ref l) (upd H l (.tup ys))) ∨ (SqT K H p ys ∧ Q (.ref p) H))) dTupOf := by
  intro O H ds us C Q r ⟨d, es, e, h, hc⟩ hq
  subst e
  obtain ⟨v, e, rv⟩ := repv1 r
  subst e
  cases d with
  | lst xs =>
    cases h
    obtain ⟨p, vs, e, s, rr⟩ := rv
    subst e
    exact ⟨p, vs, rfl, .inl ⟨.inl (.inl s), fun l hl => hq _ _ _ _ (upd_aft hl) (rep_newT hl rr) hc⟩⟩
  | tup xs =>
    cases h
    obtain ⟨p, vs, e, s, rr⟩ := rv
    subst e
    exact ⟨p, vs, rfl, .inr ⟨s.sq, hq (.tup es) _ O H (Aft.refl _ _ _) ⟨p, vs, rfl, s, rr⟩ hc⟩⟩
  | _ => cases h
/-- list(x): a new list -/
def dListOf (fa : FA) : FA := fun S C E => fa S (fun ds S1 => ∃ d es, ds = [d] ∧ itemsD d = some es ∧ C es S1) E
theorem Ctx.newL {O1 O : Ow} {H1 H : Hp} {S : DS} {σ : L2.St} {p : Addr} {vs : List V} {es : List D} (c : Ctx Θ O1 S σ H1) (l : LL O H O1 H1) (hp : H1 p = none) (rr : Reps Θ.K O1 H1 es vs) :
    ∃ O2, Ctx Θ O2 S σ (upd H1 p (.lst vs)) ∧ LL O H O2 (upd H1 p (.lst vs)) ∧ O2 p = some 1000000 ∧ ¬ lv H p ∧ ¬ lv Θ.H0 p ∧ upd H1 p (.lst vs) p = some (.lst vs) ∧ Reps Θ.K O2 (upd H1 p (.lst vs)) es vs := by
  obtain ⟨c2, l2⟩ := c.newO (o := .lst vs) 1000000 hp
  exact ⟨_, c2, l.trans l2, setO_same, fun z => nlv hp (l.live p z), fun z => nlv hp (c.live z), upd_same, Reps.le l2.le _ _ rr⟩
theorem de_listOf {fa : FA} (h : PE X e (tCB (fun xs H Q => ∃ p ys, xs = [.ref p] ∧ (SqL Θ.K H p ys ∨ SqT Θ.K H p ys) ∧ ∀ l, H l = none → Q (.ref l) (upd H l (.lst ys))) (tDAv Θ fa))) : PE X e (tDN Θ (dListOf fa)) := pe_imp h fun σ H Q ⟨O, S, C, c, hf, k⟩ =>
  ⟨O, S, _, c, hf, fun ds S1 us O1 H1 c1 l1 r ⟨d, es, e1, h1, hc⟩ => by
    subst e1
    obtain ⟨v, e, rv⟩ := repv1 r
    subst e
    cases d with
    | lst xs =>
      cases h1
      obtain ⟨p, vs, e, s, rr⟩ := rv
      subst e
      refine ⟨p, vs, rfl, .inl (.inl (.inl s)), fun l hl => ?_⟩
      obtain ⟨O2, a1, a2, a3, a4, a5, a6, a7⟩ := c1.newL l1 hl rr
      exact k _ S1 l vs O2 _ a1 a2 a3 a4 a5 a6 a7 hc
    | tup xs =>
      cases h1
      obtain ⟨p, vs, e, s, rr⟩ := rv
      subst e
      refine ⟨p, vs, rfl, .inr s.sq, fun l hl => ?_⟩
      obtain ⟨O2, a1, a2, a3, a4, a5, a6, a7⟩ := c1.newL l1 hl rr
      exact k _ S1 l vs O2 _ a1 a2 a3 a4 a5 a6 a7 hc
    | _ => cases h1⟩
/-- a call that gives a new list of flat things -/
def dCallTN (g : FT) (a : Addr) (fa : FA) : FA := fun S C E => fa S (fun ds S1 => g a ds S1.n (fun d n' => ∃ es us, d = .lst es ∧ flVs es = some us ∧ C es { S1 with n := n' }) E) E
theorem reps_flat {K : PySem.W.Frag} {O O' : Ow} {H H' : Hp} : ∀ {ds : List D} {vs us : List V}, Reps K O H ds vs → flVs ds = some us → Reps K O' H' ds vs
  | [], _, _, r, _ => r
  | d :: ds, _, _, ⟨v, vs, e, r1, r2⟩, h => by
    subst e
    unfold flVs at h
    cases q1 : flV d with
    | none => rw [q1] at h; cases h
    | some u =>
      rw [q1] at h
      cases q2 : flVs ds with
      | none => rw [q2] at h; cases h
      | some us =>
        refine ⟨v, vs, rfl, ?_, reps_flat r2 q2⟩
        cases d with
        | non => exact r1
        | bl b => exact r1
        | int i => exact r1
        | str x => exact r1
        | _ => cases q1
theorem de_callTN {g : FT} {fa : FA} {a c' : Addr} (ht : Θ.tr = some (a, c')) (h : PE X e (tCall (spTF Θ.K g) [] Θ.E (tDA Θ fa))) : PE X e (tDN Θ (dCallTN g a fa)) := pe_imp h fun σ H Q ⟨O, S, C, c, hf, k⟩ =>
  ⟨O, S, _, c, hf, fun ds S1 vs O1 H1 c1 l1 r1 hq => ⟨a, c', O1, ds, S1.n, _, Θ.Er, by rw [List.append_nil]; exact r1, by have := c1.tr; rw [ht] at this; exact this, hq,
    fun e cls dd O' H' af er he => c1.ew e cls dd O' H' (c1.aftX (by rw [ht]; exact af)) er he, fun d n' v O' H' af tr r fr ⟨es, us, e1, e2, hc⟩ => by
    subst e1
    obtain ⟨p, ws, e3, ⟨op, hp⟩, rr⟩ := r
    subst e3
    have nw := fr p rfl
    have tr1 := c1.tr
    rw [ht] at tr1
    have ow : ∀ b, lv H1 b → setO (ownA O1 H1 O') p (some 1000000) b = O1 b := fun b hb => by
      rw [setO_ne (lv_ne hb nw), ownA_old hb]
    have st : Stp (tadr Θ.tr) O1 H1 (setO (ownA O1 H1 O') p (some 1000000)) H' := ⟨by rw [ht]; exact af.same, ow, fun b e => by
      rw [ht] at e
      exact ⟨(tr1.live e).1, (tr1.live e).2.1, (tr.live e).2.1, (tr1.live e).2.2⟩⟩
    have t2 : TrI Θ.K Θ.tr (setO (ownA O1 H1 O') p (some 1000000)) H' n' := by
      rw [ht]
      obtain ⟨ns0, k0, r0, t0⟩ := tr1
      obtain ⟨ns, kk, r, t⟩ := tr
      exact ⟨ns, kk, r, (ow a ⟨_, t0.at_, rfl⟩).trans t0.own, t.at_, (ow c' ⟨_, t0.cells, rfl⟩).trans t0.cown, t.cells, t.few, t.low, t.left⟩
    have c2 := c1.step st t2
    have h0 : ¬ lv Θ.H0 p := fun z => nw (c1.live z)
    have hn : ¬ lv H p := fun z => nw (l1.live p z)
    exact k es _ p ws _ _ c2 (l1.trans st.ll) setO_same hn h0 hp (reps_flat rr e2) hc⟩⟩
/-! ### slices -/
abbrev FO := DS → (Option Int → DS → Prop) → (Err → Prop) → Prop
def tDO (Θ : Par) (f : FO) : TO := fun σ H Q => ∃ O S C, Ctx Θ O S σ H ∧ f S C Θ.Er ∧ ∀ o S' O' H', Ctx Θ O' S' σ H' → LL O H O' H' → C o S' → Q o H'
theorem po_imp {oe : Option Expr} {t t' : TO} (h : PO X oe t) (i : ∀ σ H Q, t' σ H Q → t σ H Q) : PO X oe t' := ⟨fun pins s σ H Q I q => h.run pins s σ H Q I (i σ H Q q)⟩
def dNoPart : FO := fun S C _ => C none S
def dPart (f : FE) : FO := fun S C E => f S (fun d S1 => ∃ i, d = .int i ∧ C (some i) S1) E
theorem do_none {oe : Option Expr} (h : PO X oe tNoPart) : PO X oe (tDO Θ dNoPart) := po_imp h fun σ H Q ⟨O, S, C, c, hf, k⟩ => k none S O H c (LL.refl _ _) hf
theorem do_some {oe : Option Expr} {f : FE} (h : PO X oe (tPart (tD Θ f))) : PO X oe (tDO Θ (dPart f)) := po_imp h fun σ H Q ⟨O, S, C, c, hf, k⟩ =>
  ⟨O, S, _, c, hf, fun d S1 v O1 H1 c1 l1 r ⟨i, e1, hc⟩ => by
    subst e1
    cases r
    exact ⟨i, rfl, k (some i) S1 O1 H1 c1 l1 hc⟩⟩
def cutD (xs : List D) (lo hi : Option Int) : List D := (xs.drop (HT.sIx xs.length 0 lo)).take (HT.sIx xs.length xs.length hi - HT.sIx xs.length 0 lo)
theorem reps_cut {K : PySem.W.Frag} {O : Ow} {H : Hp} {ds : List D} {vs : List V} {lo hi : Option Int} (r : Reps K O H ds vs) : Reps K O H (cutD ds lo hi) (cutV vs lo hi) := by
  unfold cutD cutV
  rw [r.len]
  exact (r.drop _).take _
/-- a slice of a tuple or a text -/
def dSl (f : FE) (lo hi : FO) : FE := fun S C E => f S (fun d S1 => lo S1 (fun a S2 => hi S2 (fun b S3 => match d with
  | .tup ds => C (.tup (cutD ds a b)) S3
  | .str z => z.length ≤ sizeLine ∧ C (.str (cutS z a b)) S3
  | _ => False) E) E) E
def rSlTS (K : PySem.W.Frag) : V → Option Int → Option Int → Hp → VK → Prop := fun x lo hi H Q => rSlA K x lo hi H Q ∨ rSlS x lo hi H Q
theorem sl_ts {X : Cx} : L2.SlR X (rSlTS X.K) := sl_tupA.or sl_str
theorem sIx_all {α : Type} {xs : List α} {lo hi : Option Int} (h : HT.sIx xs.length 0 lo = 0 ∧ HT.sIx xs.length xs.length hi = xs.length) : (xs.drop (HT.sIx xs.length 0 lo)).take (HT.sIx xs.length xs.length hi - HT.sIx xs.length 0 lo) = xs := by
  rw [h.1, h.2, List.drop_zero, Nat.sub_zero, List.take_length]
theorem de_sl {f : FE} {lo hi : FO} (h : PE X e (tSl (rSlTS Θ.K) (tD Θ f) (tDO Θ lo) (tDO Θ hi))) : PE X e (tD Θ (dSl f lo hi)) := pe_imp h fun σ H Q ⟨O, S, C, c, hf, k⟩ =>
  ⟨O, S, _, c, hf, fun d S1 v O1 H1 c1 l1 r1 h1 => ⟨O1, S1, _, c1, h1, fun a S2 O2 H2 c2 l2 h2 => ⟨O2, S2, _, c2, h2, fun b S3 O3 H3 c3 l3 h3 => by
    have l23 := l2.trans l3
    cases d with
    | tup ds =>
      obtain ⟨p, vs, e1, s, rr⟩ := Rep.le l23.le _ _ r1
      subst e1
      refine .inl ⟨p, vs, rfl, s.sq, fun hw => ?_, fun _ q hq => ?_⟩
      · refine k (.tup (cutD ds a b)) S3 _ O3 H3 c3 (l1.trans l23) ⟨p, vs, rfl, s, ?_⟩ h3
        have rc := reps_cut (lo := a) (hi := b) rr
        unfold cutV at rc
        rw [sIx_all hw] at rc
        exact rc
      · obtain ⟨c4, l4, r4⟩ := Aft.lift c3 (upd_aft hq) (rep_newT hq (reps_cut (lo := a) (hi := b) rr))
        exact k _ S3 _ _ _ c4 ((l1.trans l23).trans l4) r4 h3
    | str z =>
      cases r1
      exact .inr ⟨z, rfl, h3.1, k (.str _) S3 _ O3 H3 c3 (l1.trans l23) rfl h3.2⟩
    | _ => exact h3.elim⟩⟩⟩
/-- a slice of a list: a new list -/
def dSlL (f : FE) (lo hi : FO) : FA := fun S C E => f S (fun d S1 => ∃ ds, d = .lst ds ∧ lo S1 (fun a S2 => hi S2 (fun b S3 => C (cutD ds a b) S3) E) E) E
theorem de_slL {f : FE} {lo hi : FO} (h : PE X e (tSl (rSlL Θ.K) (tD Θ f) (tDO Θ lo) (tDO Θ hi))) : PE X e (tDN Θ (dSlL f lo hi)) := pe_imp h fun σ H Q ⟨O, S, C, c, hf, k⟩ =>
  ⟨O, S, _, c, hf, fun d S1 v O1 H1 c1 l1 r1 ⟨ds, e1, h1⟩ => ⟨O1, S1, _, c1, h1, fun a S2 O2 H2 c2 l2 h2 => ⟨O2, S2, _, c2, h2, fun b S3 O3 H3 c3 l3 h3 => by
    subst e1
    have l23 := l2.trans l3
    obtain ⟨p, vs, e1, s, rr⟩ := Rep.le l23.le _ _ r1
    subst e1
    refine ⟨p, vs, rfl, s.sq, fun q hq => ?_⟩
    obtain ⟨O4, a1, a2, a3, a4, a5, a6, a7⟩ := c3.newL (l1.trans l23) hq (reps_cut (lo := a) (hi := b) rr)
    exact k _ S3 q _ O4 _ a1 a2 a3 a4 a5 a6 a7 h3⟩⟩⟩
/-! ### texts -/
def dFmt (f : FE) : FE := fun S C E => f S (fun d S1 => match d with
  | .str y => y.length ≤ sizeLine ∧ C (.str y) S1
  | .int i => i.natAbs.log2 < 1920 ∧ C (.str (toString i)) S1
  | _ => False) E
theorem de_fmt {f : FE} (h : PE X e (tFmt (tD Θ f))) : PE X e (tD Θ (dFmt f)) := pe_imp h fun σ H Q ⟨O, S, C, c, hf, k⟩ =>
  ⟨O, S, _, c, hf, fun d S1 v O1 H1 c1 l1 r1 h1 => by
    cases d with
    | str y =>
      cases r1
      exact .inl ⟨y, rfl, h1.1, k (.str y) S1 _ O1 H1 c1 l1 rfl h1.2⟩
    | int i =>
      cases r1
      exact .inr ⟨i, rfl, h1.1, k (.str _) S1 _ O1 H1 c1 l1 rfl h1.2⟩
    | _ => exact h1.elim⟩
def dJs : List FE → Str → FE
  | [], acc => fun S C _ => C (.str acc) S
  | f :: fs, acc => fun S C E => f S (fun d S1 => ∃ y, d = .str y ∧ (acc ++ y).length ≤ sizeLine ∧ dJs fs (acc ++ y) S1 C E) E
theorem js_of : ∀ (fs : List FE) (acc : Str) (σ : L2.St) (H : Hp) (Q : VK), tD Θ (dJs fs acc) σ H Q → tJs (fs.map (tD Θ)) acc σ H fun out H1 => Q (.str out) H1
  | [], acc, σ, H, Q, ⟨O, S, C, c, hf, k⟩ => k (.str acc) S _ O H c (LL.refl _ _) rfl hf
  | f :: fs, acc, σ, H, Q, ⟨O, S, C, c, hf, k⟩ => ⟨O, S, _, c, hf, fun d S1 v O1 H1 c1 l1 r1 ⟨y, e1, h1, h2⟩ => by
    subst e1
    cases r1
    exact ⟨y, rfl, h1, js_of fs (acc ++ y) σ H1 Q ⟨O1, S1, C, c1, h2, fun d S' v O' H' c' l' r q => k d S' v O' H' c' (l1.trans l') r q⟩⟩⟩
theorem de_js {fs : List FE} (h : PE X e (fun σ H Q => tJs (fs.map (tD Θ)) Str.empty σ H fun out H1 => Q (.str out) H1)) : PE X e (tD Θ (dJs fs Str.empty)) := pe_imp h fun σ H Q q => js_of fs Str.empty σ H Q q
/-- z.m(x) of a text -/
def dM1 (rd : RD) (fo fe : FE) : FE := fun S C E => fo S (fun x S1 => ∃ a, x = .str a ∧ fe S1 (fun y S2 => rd x y fun d => C d S2) E) E
def MtD1 (K : PySem.W.Frag) (r : V → List V → Hp → VK → Prop) (rd : RD) : Prop := ∀ O H dx dy x y (C : D → Prop) (Q : VK), Rep K O H dx x → Rep K O H dy y → rd dx dy C → (∀ d v O' H', Aft none O H O' H' → Rep K O' H' d v → C d → Q v H') → r x [y] H Q
theorem de_m1 {r : V → List V → Hp → VK → Prop} {rd : RD} {fo fe : FE} (hd : MtD1 Θ.K r rd) (h : PE X e (tM1 r (tD Θ fo) (tD Θ fe))) : PE X e (tD Θ (dM1 rd fo fe)) := pe_imp h fun σ H Q ⟨O, S, C, c, hf, k⟩ =>
  ⟨O, S, _, c, hf, fun x S1 v O1 H1 c1 l1 r1 ⟨a, ea, h1⟩ => by
    subst ea
    cases r1
    exact ⟨⟨a, rfl⟩, O1, S1, _, c1, h1, fun y S2 u O2 H2 c2 l2 r2 h2 => hd O2 H2 (.str a) y _ u _ Q rfl r2 h2 fun d z O3 H3 af r3 hc =>
      let ⟨c3, l3, r4⟩ := Aft.lift c2 af r3
      k d S2 z _ H3 c3 ((l1.trans l2).trans l3) r4 hc⟩⟩
def dStarts : RD := fun x y C => ∃ a b, x = .str a ∧ y = .str b ∧ C (.bl (Txt.startswith a b))
theorem D_starts {K : PySem.W.Frag} : MtD1 K (fun x xs H Q => ∃ a b, x = .str a ∧ xs = [.str b] ∧ Q (.bl (Txt.startswith a b)) H) dStarts := by
  intro O H dx dy x y C Q rx ry ⟨a, b, e1, e2, hc⟩ hq
  subst e1 e2
  cases rx
  cases ry
  exact ⟨a, b, rfl, rfl, hq (.bl _) _ O H (Aft.refl _ _ _) rfl hc⟩
/-! ### a slot's own list -/
def dApp (i : Nat) (fa : FA) : FE := fun S C E => (∃ ds, S.g[i]? = some (.ow ds)) ∧ fa S (fun ys S1 => ∃ y ds, ys = [y] ∧ S1.g[i]? = some (.ow ds) ∧ ds.length < sizeLine ∧ C .non { S1 with g := S1.g.set i (.ow (ds ++ [y])) }) E
theorem de_app {i : Nat} {fa : FA} (h : PE X e (tBM Θ.K "list" rAppend (tVar i) (tDA Θ fa))) : PE X e (tD Θ (dApp i fa)) := pe_imp h fun σ H Q ⟨O, S, C, c, ⟨⟨ds0, hs0⟩, hf⟩, k⟩ => by
  obtain ⟨o0, ho0, p, vs0, e0, op0, hp0, h00, rr0⟩ := c.sl i _ hs0
  subst e0
  refine ⟨_, ho0, .inl ⟨rfl, vs0, .inl (.inl hp0)⟩, O, S, _, c, hf, fun ys S1 us O1 H1 c1 l1 r1 ⟨y, ds, e1, hs, hz, hc⟩ => ?_⟩
  subst e1
  obtain ⟨u, _, e1, r2, e2⟩ := r1
  cases e2
  subst e1
  obtain ⟨o, ho, p', vs, e1, op, hp, h0, rr⟩ := c1.sl i _ hs
  subst e1
  rw [ho0] at ho
  cases ho
  refine ⟨p, vs, u, rfl, rfl, hp, by rw [rr.len]; exact hz, ?_⟩
  obtain ⟨c2, l2⟩ := c1.put (es := ds ++ [y]) (us := vs ++ [u]) hs ho0 op hp h0 (Reps.app rr ⟨u, [], rfl, r2, rfl⟩)
  exact k .non _ .non O1 _ c2 (l1.trans l2) rfl hc
/-- xs[i] = e of a slot's own list -/
def dSetIx (i : Nat) (fi fe : FE) : FS := fun S e E => fe S (fun y S1 => (∃ ds, S1.g[i]? = some (.ow ds)) ∧ fi S1 (fun x S2 => ∃ ds k j, x = .int k ∧ S2.g[i]? = some (.ow ds) ∧ ixN ds.length k = some j ∧ e.nx { S2 with g := S2.g.set i (.ow (ds.set j y)) }) E) E
theorem ds_setIx {st : Stmt} {i : Nat} {fi fe : FE} (h : PS X st (tAsg (tD Θ fe) (gSub (tVar i) (tD Θ fi) rSetL))) : PS X st (tDS Θ (dSetIx i fi fe)) := ps_imp h fun D' σ H ⟨O, S, e, c, hf, k1, k2, k3, k4⟩ =>
  ⟨O, S, _, c, hf, fun y S1 v O1 H1 c1 l1 r1 ⟨⟨ds0, hs0⟩, h1⟩ => by
    obtain ⟨o0, ho0, p, vs0, e0, op0, hp0, h00, rr0⟩ := c1.sl i _ hs0
    subst e0
    refine ⟨_, ho0, O1, S1, _, c1, h1, fun x S2 u O2 H2 c2 l2 r2 ⟨ds, kk, j, e1, hs, hj, hc⟩ => ?_⟩
    subst e1
    cases r2
    obtain ⟨o, ho, p', vs, e1, op, hp, h0, rr⟩ := c2.sl i _ hs
    subst e1
    rw [ho0] at ho
    cases ho
    refine ⟨p, vs, kk, j, rfl, rfl, hp, by rw [rr.len]; exact hj, ?_⟩
    obtain ⟨c3, l3⟩ := c2.put (es := ds.set j y) (us := vs.set j v) hs ho0 op hp h0 (rr.sets j (Rep.le l2.le _ _ r1))
    exact k1 O2 _ σ _ c3 ((l1.trans l2).trans l3) hc⟩
end
end DL
end
section
set_option maxHeartbeats 4000000
namespace DL
variable [TB]
open PySem PySem.Spec PyProof.Rows L2 G1
section
variable {X : Cx} {Θ : Par} {e : Expr}
/-! ### comparisons as tests -/
theorem op_tl {r : R2} {rd : RD} {fa fb : FE} (hd : OpD Θ.K r rd) (σ : L2.St) (H : Hp) (Q : VK) (h : tD Θ (dOp rd fa fb) σ H Q) : tOp r (tD Θ fa) (tDv Θ fb) σ H Q := by
  obtain ⟨O, S, C, c, hf, k⟩ := h
  exact ⟨O, S, _, c, hf, fun x S1 v O1 H1 c1 l1 r1 hb => ⟨O1, S1, _, c1, hb, fun y S2 u O2 H2 c2 l2 r2 hq => hd O2 H2 x y v u _ Q (RepV.le l2.le r1) r2 hq fun d z O3 H3 a r3 hc =>
    let ⟨c3, l3, r4⟩ := Aft.lift c2 a r3
    k d S2 z _ H3 c3 ((l1.trans l2).trans l3) r4 hc⟩⟩
theorem opL_tl {r : R2} {rd : RD} {i : Nat} {fb : FE} (hd : OpD Θ.K r rd) (σ : L2.St) (H : Hp) (Q : VK) (h : tD Θ (dOpL rd i fb) σ H Q) : tOp r (tVar i) (tD Θ fb) σ H Q := by
  obtain ⟨O, S, C, c, ⟨⟨ds0, hs0⟩, hf⟩, k⟩ := h
  obtain ⟨o0, ho0, p, vs0, e0, op0, hp0, h00, rr0⟩ := c.sl i _ hs0
  subst e0
  refine ⟨_, ho0, O, S, _, c, hf, fun y S2 u O2 H2 c2 l2 r2 ⟨ds, hs, hq⟩ => ?_⟩
  obtain ⟨o, ho, p', vs, e1, op, hp', h0', rr⟩ := c2.sl i _ hs
  subst e1
  rw [ho0] at ho
  cases ho
  refine hd O2 H2 (.lst ds) y _ u _ Q ⟨p, vs, rfl, hp', rr⟩ r2.v hq fun d z O3 H3 a r3 hc => ?_
  obtain ⟨c3, l3, r4⟩ := Aft.lift c2 a r3
  exact k d S2 z _ H3 c3 (l2.trans l3) r4 hc
theorem tst_tl {f : FE} {σ : L2.St} {H : Hp} {Q : Bool → Hp → Prop} (h : tDT Θ (dTst f) σ H Q) : tD Θ f σ H fun x H' => ∃ k, x = .bl k ∧ Q k H' := by
  obtain ⟨O, S, C, c, hf, k⟩ := h
  exact ⟨O, S, _, c, hf, fun d S1 v O1 H1 c1 l1 r ⟨b, hd, hc⟩ => by
    subst hd
    cases r
    exact ⟨b, rfl, k b S1 O1 H1 c1 l1 hc⟩⟩
theorem dt_cmp {r : R2} {rd : RD} {fa fb : FE} (hd : OpD Θ.K r rd) (h : PT X e (tTest (tOp r (tD Θ fa) (tDv Θ fb)))) : PT X e (tDT Θ (dTst (dOp rd fa fb))) := pt_imp h fun σ H Q q => op_tl hd σ H _ (tst_tl q)
theorem dt_cmpL {r : R2} {rd : RD} {i : Nat} {fb : FE} (hd : OpD Θ.K r rd) (h : PT X e (tTest (tOp r (tVar i) (tD Θ fb)))) : PT X e (tDT Θ (dTst (dOpL rd i fb))) := pt_imp h fun σ H Q q => opL_tl hd σ H _ (tst_tl q)
/-- a < b < c -/
def dChain (rd rd' : RD) (fa fb fc : FE) : FE := fun S C E => fa S (fun x S1 => fb S1 (fun y S2 => rd x y fun z => ∃ k, z = .bl k ∧ if k = true then fc S2 (fun w S3 => rd' y w fun d => C d S3) E else C (.bl false) S2) E) E
theorem chain_tl {r r' : R2} {rd rd' : RD} {fa fb fc : FE} (hd : OpD Θ.K r rd) (hd' : OpD Θ.K r' rd') (σ : L2.St) (H : Hp) (Q : VK) (h : tD Θ (dChain rd rd' fa fb fc) σ H Q) : tChain r r' (tD Θ fa) (tD Θ fb) (tD Θ fc) σ H Q := by
  obtain ⟨O, S, C, c, hf, k⟩ := h
  exact ⟨O, S, _, c, hf, fun x S1 v O1 H1 c1 l1 r1 hb => ⟨O1, S1, _, c1, hb, fun y S2 u O2 H2 c2 l2 r2 hq => hd O2 H2 x y v u _ _ (RepV.le l2.le r1) r2.v hq fun d z O3 H3 a r3 ⟨kk, e1, hc⟩ => by
    subst e1
    obtain ⟨c3, l3, r4⟩ := Aft.lift c2 a r3
    cases r4
    refine ⟨kk, rfl, ?_⟩
    cases kk with
    | false =>
      rw [if_neg (by decide)] at hc
      exact iteF (k (.bl false) S2 _ _ H3 c3 ((l1.trans l2).trans l3) rfl hc)
    | true =>
      rw [if_pos rfl] at hc
      exact iteT ⟨_, S2, _, c3, hc, fun w' S4 w O4 H4 c4 l4 r5 hq' => hd' O4 H4 y w' u w _ Q (Rep.le (l3.le.trans l4.le) _ _ r2).v r5.v hq' fun d z O5 H5 a5 r6 hc =>
        let ⟨c5, l5, r7⟩ := Aft.lift c4 a5 r6
        k d S4 z _ H5 c5 ((((l1.trans l2).trans l3).trans l4).trans l5) r7 hc⟩⟩⟩
theorem de_chain {r r' : R2} {rd rd' : RD} {fa fb fc : FE} (hd : OpD Θ.K r rd) (hd' : OpD Θ.K r' rd') (h : PE X e (tChain r r' (tD Θ fa) (tD Θ fb) (tD Θ fc))) : PE X e (tD Θ (dChain rd rd' fa fb fc)) := pe_imp h (chain_tl hd hd')
theorem dt_chain {r r' : R2} {rd rd' : RD} {fa fb fc : FE} (hd : OpD Θ.K r rd) (hd' : OpD Θ.K r' rd') (h : PT X e (tTest (tChain r r' (tD Θ fa) (tD Θ fb) (tD Θ fc)))) : PT X e (tDT Θ (dTst (dChain rd rd' fa fb fc))) := pt_imp h fun σ H Q q => chain_tl hd hd' σ H _ (tst_tl q)
/-! ### a list or a tuple is walked -/
def iSeqA (K : PySem.W.Frag) (tl : TE) : TI := fun σ H R => tl σ H fun x H1 => ∃ a, x = .ref a ∧ ((∃ xs, SqL K H1 a xs) ∧ R (Itl K a) H1 ∨ (∃ xs, SqT K H1 a xs) ∧ R (Itt K a) H1)
theorem pi_seqA {tg l : Expr} {tl : TE} (hl : PE X l tl) : PI X tg l (iSeqA X.K tl) := by
  refine ⟨fun pins s σ H R I h => ?_⟩
  refine thn (hl.run pins s σ H _ I h) fun v s1 ⟨x, H1, I1, r1, q1⟩ => ?_
  obtain ⟨a, e, q⟩ := q1
  subst e
  cases r1
  rcases q with ⟨⟨xs, hq⟩, q⟩ | ⟨⟨xs, hq⟩, q⟩
  · obtain ⟨its, rv, p, hz⟩ := I1.list hq
    refine wpAny_pyIter_list p.isList ?_
    refine ⟨s1.heap.objs.size, [s1.heap.objs.size], _, _, H1, rfl, I1.kept (t' := s1.toks) fun b o e => Heap.get?_push_of_some _ e, turn_list a _, ⟨_, Heap.get?_push_size _ rfl, rfl, rfl⟩, fun b hb => ?_, q⟩
    have e : b = s1.heap.objs.size := by simpa using hb
    subst e
    exact I1.fpOk (Nat.le_refl _) (I1.hok.fresh (Nat.le_refl _))
  · obtain ⟨its, rv, p, hz⟩ := I1.tuple hq
    refine wpAny_pyIter_tuple (show s1.heap.IsTuple a its.toArray from p) ?_
    refine ⟨s1.heap.objs.size, [s1.heap.objs.size], _, _, H1, rfl, I1.kept (t' := s1.toks) fun b o e => Heap.get?_push_of_some _ e, turn_tuple a _, ⟨_, Heap.get?_push_size _ rfl, rfl, rfl⟩, fun b hb => ?_, q⟩
    have e : b = s1.heap.objs.size := by simpa using hb
    subst e
    exact I1.fpOk (Nat.le_refl _) (I1.hok.fresh (Nat.le_refl _))
def dItS (f : FE) : FA := fun S C E => f S (fun d S1 => ∃ ds, itemsD d = some ds ∧ C ds S1) E
theorem di_seq {tg iter : Expr} {f : FE} (h : PI X tg iter (iSeqA Θ.K (tD Θ f))) : PI X tg iter (tWI Θ (dItS f)) := pi_imp h fun σ H R ⟨O, S, C, c, hf, k⟩ =>
  ⟨O, S, _, c, hf, fun d S1 v O1 H1 c1 l1 r ⟨ds, hd, hc⟩ => by
    cases d with
    | lst es =>
      cases hd
      obtain ⟨p, vs, e1, q, r⟩ := r
      subst e1
      exact ⟨p, rfl, .inl ⟨⟨vs, q.sq⟩, k _ S1 O1 H1 _ _ c1 l1 walk_lst ⟨q, r⟩ hc⟩⟩
    | tup es =>
      cases hd
      obtain ⟨p, vs, e1, q, r⟩ := r
      subst e1
      exact ⟨p, rfl, .inr ⟨⟨vs, q.sq⟩, k _ S1 O1 H1 _ _ c1 l1 walk_tpl ⟨q, r⟩ hc⟩⟩
    | _ => cases hd⟩
/-! ### zip, enumerate, signs -/
def KSq (K : PySem.W.Frag) (O : Ow) (H : Hp) (k : Bool) (p : Addr) (vs : List V) : Prop := if k = true then LqO K O H p vs else TqO K O H p vs
theorem KSq.sq {K : PySem.W.Frag} {O : Ow} {H : Hp} {k : Bool} {p : Addr} {vs : List V} (h : KSq K O H k p vs) : SqK k K H p vs := by
  cases k with
  | true => exact LqO.sq (by unfold KSq at h; rw [if_pos rfl] at h; exact h)
  | false => exact TqO.sq (by unfold KSq at h; rw [if_neg (by decide)] at h; exact h)
theorem KSq.le {K : PySem.W.Frag} {O O' : Ow} {H H' : Hp} {k : Bool} {p : Addr} {vs : List V} (l : Le O H O' H') (h : KSq K O H k p vs) : KSq K O' H' k p vs := by
  unfold KSq at h ⊢
  split
  · next q => rw [if_pos q] at h; exact LqO.le l h
  · next q => rw [if_neg q] at h; exact TqO.le l h
theorem ksq_of {K : PySem.W.Frag} {O : Ow} {H : Hp} {d : D} {v : V} {ds : List D} (r : Rep K O H d v) (h : itemsD d = some ds) : ∃ k p vs, v = .ref p ∧ KSq K O H k p vs ∧ Reps K O H ds vs := by
  cases d with
  | lst es =>
    cases h
    obtain ⟨p, vs, e1, q, r⟩ := r
    exact ⟨true, p, vs, e1, by unfold KSq; rw [if_pos rfl]; exact q, r⟩
  | tup es =>
    cases h
    obtain ⟨p, vs, e1, q, r⟩ := r
    exact ⟨false, p, vs, e1, by unfold KSq; rw [if_neg (by decide)]; exact q, r⟩
  | _ => cases h
def zipD : List D → List D → List D
  | x :: xs, y :: ys => .tup [x, y] :: zipD xs ys
  | _, _ => []
theorem zipD_at : ∀ {xs ys : List D} {i : Nat}, xs.length = ys.length → i < xs.length → ∃ x y, xs[i]? = some x ∧ ys[i]? = some y ∧ (zipD xs ys)[i]? = some (.tup [x, y])
  | x :: xs, y :: ys, 0, _, _ => ⟨x, y, rfl, rfl, rfl⟩
  | x :: xs, y :: ys, i + 1, hl, hi => zipD_at (xs := xs) (ys := ys) (i := i) (by simpa using hl) (by simpa using hi)
  | [], _, _, _, h => by cases h
  | _ :: _, [], _, h, _ => by cases h
theorem zipD_len : ∀ {xs ys : List D}, xs.length = ys.length → (zipD xs ys).length = xs.length
  | [], _, _ => rfl
  | x :: xs, y :: ys, h => by
    show (zipD xs ys).length + 1 = xs.length + 1
    rw [zipD_len (by simpa using h)]
  | _ :: _, [], h => by cases h
/-- zip of two of one length -/
def dZip (fa : FA) : FA := fun S C E => fa S (fun ds S1 => ∃ a b xs ys, ds = [a, b] ∧ itemsD a = some xs ∧ itemsD b = some ys ∧ xs.length = ys.length ∧ C (zipD xs ys) S1) E
theorem walk_zipD {k1 k2 : Bool} {a b : Addr} {vs us : List V} {xs ys : List D} (hl : xs.length = ys.length) : WalkD Θ (ItzM Θ.K k1 k2 a b) (zipD xs ys) (fun O H => (KSq Θ.K O H k1 a vs ∧ Reps Θ.K O H xs vs) ∧ KSq Θ.K O H k2 b us ∧ Reps Θ.K O H ys us) where
  go := fun i O H hi ⟨⟨q1, r1⟩, q2, r2⟩ => by
    rw [zipD_len hl] at hi
    obtain ⟨x, y, h1, h2, _⟩ := zipD_at hl hi
    obtain ⟨v, hv, _⟩ := r1.at h1
    obtain ⟨u, hu, _⟩ := r2.at h2
    exact ⟨vs, us, v, u, q1.sq, q2.sq, hv, hu⟩
  stop := fun O H ⟨⟨q1, r1⟩, q2, r2⟩ => by
    rw [zipD_len hl]
    exact ⟨vs, us, q1.sq, q2.sq, by rw [r1.len]; omega, by rw [r2.len]; omega, .inl (by rw [r1.len])⟩
  yld := fun i O H x H' hi ⟨⟨q1, r1⟩, q2, r2⟩ y => by
    rw [zipD_len hl] at hi
    obtain ⟨T, v, u, e1, nT, e2, h4, h5⟩ := y
    subst e1 e2
    obtain ⟨dx, dy, h1, h2, h3⟩ := zipD_at hl hi
    obtain ⟨v', hv, rv⟩ := r1.at h1
    obtain ⟨u', hu, ru⟩ := r2.at h2
    have e3 := h4 vs q1.sq
    rw [hv] at e3
    cases e3
    have e4 := h5 us q2.sq
    rw [hu] at e4
    cases e4
    exact ⟨_, _, upd_aft nT, h3, rep_newT nT ⟨v, [u], rfl, rv, u, [], rfl, ru, rfl⟩⟩
  le := fun O H O' H' ⟨⟨q1, r1⟩, q2, r2⟩ l => ⟨⟨q1.le l, Reps.le l _ _ r1⟩, q2.le l, Reps.le l _ _ r2⟩
theorem di_zip {tg iter : Expr} {fa : FA} (h : PI X tg iter (iZipM Θ.K (tDA Θ fa))) : PI X tg iter (tWI Θ (dZip fa)) := pi_imp h fun σ H R ⟨O, S, C, c, hf, k⟩ =>
  ⟨O, S, _, c, hf, fun ds S1 us O1 H1 c1 l1 r ⟨a, b, xs, ys, e1, h1, h2, hl, hc⟩ => by
    subst e1
    obtain ⟨v, _, e1, r1, u, _, e2, r2, e3⟩ := r
    subst e3 e2 e1
    obtain ⟨k1, p, vs, e1, q1, s1⟩ := ksq_of r1 h1
    obtain ⟨k2, q, us, e2, q2, s2⟩ := ksq_of r2 h2
    subst e1 e2
    exact ⟨k1, k2, p, q, vs, us, rfl, q1.sq, q2.sq, k _ S1 O1 H1 _ _ c1 l1 (walk_zipD hl) ⟨⟨q1, s1⟩, q2, s2⟩ hc⟩⟩
def enumD : Nat → List D → List D
  | _, [] => []
  | i, x :: xs => .tup [.int (i : Int), x] :: enumD (i + 1) xs
theorem enumD_len : ∀ {xs : List D} {i : Nat}, (enumD i xs).length = xs.length
  | [], _ => rfl
  | x :: xs, i => by
    show (enumD (i + 1) xs).length + 1 = xs.length + 1
    rw [enumD_len]
theorem enumD_at : ∀ {xs : List D} {i k : Nat} {x : D}, xs[i]? = some x → (enumD k xs)[i]? = some (.tup [.int ((k + i : Nat) : Int), x])
  | x :: xs, 0, k, _, h => by
    cases h
    rfl
  | x :: xs, i + 1, k, y, h => by
    have := enumD_at (xs := xs) (i := i) (k := k + 1) h
    show (enumD (k + 1) xs)[i]? = _
    rw [this, show k + 1 + i = k + (i + 1) by omega]
  | [], _, _, _, h => by cases h
def dEnum (fa : FA) : FA := fun S C E => fa S (fun ds S1 => ∃ xs, ds = [.lst xs] ∧ C (enumD 0 xs) S1) E
theorem walk_enum {a : Addr} {vs : List V} {xs : List D} : WalkD Θ (Ite Θ.K a) (enumD 0 xs) (fun O H => LqO Θ.K O H a vs ∧ Reps Θ.K O H xs vs) where
  go := fun i O H hi ⟨q, r⟩ => by
    rw [enumD_len] at hi
    obtain ⟨v, hv, _⟩ := r.at (get_of hi)
    exact ⟨vs, v, q.sq, hv⟩
  stop := fun O H ⟨q, r⟩ => ⟨vs, q.sq, by rw [enumD_len, r.len]; exact Nat.le_refl _⟩
  yld := fun i O H x H' hi ⟨q, r⟩ ⟨T, v, e1, nT, e2, h3⟩ => by
    subst e1 e2
    rw [enumD_len] at hi
    obtain ⟨v', hv, rv⟩ := r.at (get_of hi)
    have e3 := h3 vs q.sq
    rw [hv] at e3
    cases e3
    have := enumD_at (k := 0) (get_of hi)
    rw [Nat.zero_add] at this
    exact ⟨_, _, upd_aft nT, this, rep_newT nT ⟨.int (i : Int), [v], rfl, rfl, v, [], rfl, rv, rfl⟩⟩
  le := fun O H O' H' ⟨q, r⟩ l => ⟨q.le l, Reps.le l _ _ r⟩
theorem di_enum {tg iter : Expr} {fa : FA} (h : PI X tg iter (iEnum Θ.K (tDA Θ fa))) : PI X tg iter (tWI Θ (dEnum fa)) := pi_imp h fun σ H R ⟨O, S, C, c, hf, k⟩ =>
  ⟨O, S, _, c, hf, fun ds S1 us O1 H1 c1 l1 r ⟨xs, e1, hc⟩ => by
    subst e1
    obtain ⟨v, _, e1, r1, e2⟩ := r
    subst e2 e1
    obtain ⟨p, vs, e1, q, r⟩ := r1
    subst e1
    exact ⟨p, vs, rfl, q.sq, k _ S1 O1 H1 _ _ c1 l1 walk_enum ⟨q, r⟩ hc⟩⟩
def signsD (z : Str) : List D := z.cps.toList.map fun c => .str ⟨#[c]⟩
def dSigns (f : FE) : FA := fun S C E => f S (fun d S1 => ∃ z, d = .str z ∧ C (signsD z) S1) E
theorem walk_signs {z : Str} : WalkD Θ (Its z) (signsD z) (fun _ _ => True) where
  go := fun i O H hi _ => by
    show i < z.cps.size
    unfold signsD at hi
    rw [List.length_map] at hi
    simpa using hi
  stop := fun O H _ => by
    show z.cps.size ≤ (signsD z).length
    unfold signsD
    rw [List.length_map]
    simp
  yld := fun i O H x H' hi _ ⟨e, c, hc, ex⟩ => by
    subst e ex
    refine ⟨O, .str ⟨#[c]⟩, Aft.refl _ _ _, ?_, rfl⟩
    unfold signsD
    rw [List.getElem?_map, show z.cps.toList[i]? = some c by rw [Array.getElem?_toList]; exact hc]
    rfl
  le := fun _ _ _ _ h _ => h
theorem di_signs {tg iter : Expr} {f : FE} (h : PI X tg iter (iStr (tD Θ f))) : PI X tg iter (tWI Θ (dSigns f)) := pi_imp h fun σ H R ⟨O, S, C, c, hf, k⟩ =>
  ⟨O, S, _, c, hf, fun d S1 v O1 H1 c1 l1 r ⟨z, hd, hc⟩ => by
    subst hd
    cases r
    exact ⟨z, rfl, k _ S1 O1 H1 _ _ c1 l1 walk_signs True.intro hc⟩⟩
/-! ### raise -/
def dRaise (er : Err) : FS := fun _ _ E => E er
theorem ds_raise {st : Stmt} {t : TS} {C : Addr} {z : Str} (h : PS X st t) (hk : ∀ D' σ H, (∀ d H', Same H H' → H' d = some (.xd [("part", .str z)]) → Θ.E (.ref C) (some d) H') → t D' σ H) : PS X st (tDS Θ (dRaise ⟨.ref C, [("part", .str z)]⟩)) := ps_imp h fun D' σ H ⟨O, S, e, c, hf, k1, k2, k3, k4⟩ =>
  hk D' σ H fun d H' sm hd => c.ew _ _ _ O H' ⟨c.aft.same.trans (SameX.of sm), c.aft.own⟩ (show ErrR Θ.K O H' ⟨.ref C, [("part", .str z)]⟩ (.ref C) (some d) from ⟨rfl, d, [("part", .str z)], rfl, hd, rfl, (show Reps Θ.K O H' [D.str z] [V.str z] from ⟨.str z, [], rfl, rfl, rfl⟩)⟩) hf
end
end DL
end
section
set_option maxHeartbeats 4000000
namespace DL
variable [TB]
open PySem PySem.Spec PyProof.Rows L2 G1
/-! promises by the number of arguments -/
def F1 (p : D → (D → Prop) → (Err → Prop) → Prop) : FP := fun ds C E => ∃ a, ds = [a] ∧ p a C E
def F2 (p : D → D → (D → Prop) → (Err → Prop) → Prop) : FP := fun ds C E => ∃ a b, ds = [a, b] ∧ p a b C E
def F3 (p : D → D → D → (D → Prop) → (Err → Prop) → Prop) : FP := fun ds C E => ∃ a b c, ds = [a, b, c] ∧ p a b c C E
def F4 (p : D → D → D → D → (D → Prop) → (Err → Prop) → Prop) : FP := fun ds C E => ∃ a b c d, ds = [a, b, c, d] ∧ p a b c d C E
theorem F1_len {p} (ds : List D) (C : D → Prop) (E : Err → Prop) (h : F1 p ds C E) : ds.length = 1 := by obtain ⟨_, rfl, _⟩ := h; rfl
theorem F2_len {p} (ds : List D) (C : D → Prop) (E : Err → Prop) (h : F2 p ds C E) : ds.length = 2 := by obtain ⟨_, _, rfl, _⟩ := h; rfl
theorem F3_len {p} (ds : List D) (C : D → Prop) (E : Err → Prop) (h : F3 p ds C E) : ds.length = 3 := by obtain ⟨_, _, _, rfl, _⟩ := h; rfl
theorem F4_len {p} (ds : List D) (C : D → Prop) (E : Err → Prop) (h : F4 p ds C E) : ds.length = 4 := by obtain ⟨_, _, _, _, rfl, _⟩ := h; rfl
/-- the tray first -/
def T1 (p : Nat → (D → Nat → Prop) → Prop) : FT := fun a ds n C _ => ds = [.ob (.ref a)] ∧ p n C
def T2 (p : D → Nat → (D → Nat → Prop) → Prop) : FT := fun a ds n C _ => ∃ x, ds = [.ob (.ref a), x] ∧ p x n C
def T3 (p : D → D → Nat → (D → Nat → Prop) → Prop) : FT := fun a ds n C _ => ∃ x y, ds = [.ob (.ref a), x, y] ∧ p x y n C
def T4 (p : D → D → D → Nat → (D → Nat → Prop) → Prop) : FT := fun a ds n C _ => ∃ x y z, ds = [.ob (.ref a), x, y, z] ∧ p x y z n C
theorem T1_len {p} (a : Addr) (ds : List D) (n : Nat) (C : D → Nat → Prop) (E : Err → Prop) (h : T1 p a ds n C E) : ds.length = 1 := by obtain ⟨rfl, _⟩ := h; rfl
theorem T2_len {p} (a : Addr) (ds : List D) (n : Nat) (C : D → Nat → Prop) (E : Err → Prop) (h : T2 p a ds n C E) : ds.length = 2 := by obtain ⟨_, rfl, _⟩ := h; rfl
theorem T3_len {p} (a : Addr) (ds : List D) (n : Nat) (C : D → Nat → Prop) (E : Err → Prop) (h : T3 p a ds n C E) : ds.length = 3 := by obtain ⟨_, _, rfl, _⟩ := h; rfl
theorem T4_len {p} (a : Addr) (ds : List D) (n : Nat) (C : D → Nat → Prop) (E : Err → Prop) (h : T4 p a ds n C E) : ds.length = 4 := by obtain ⟨_, _, _, rfl, _⟩ := h; rfl
/-! ### the readings of known data, for simp -/
section
variable {b c : Bool} {i j : Int} {x y : Str} {ds es : List D} {ks : List Key} {v : V} {C : D → Prop}
theorem kT_non : kindT .non = some "NoneType" := rfl
theorem kT_bl : kindT (.bl b) = some "bool" := rfl
theorem kT_int : kindT (.int i) = some "int" := rfl
theorem kT_str : kindT (.str x) = some "str" := rfl
theorem kT_lst : kindT (.lst ds) = some "list" := rfl
theorem kT_tup : kindT (.tup ds) = some "tuple" := rfl
theorem kT_dic : kindT (.dic ks ds) = some "dict" := rfl
theorem isN_non : isN .non = some true := rfl
theorem isN_bl : isN (.bl b) = some false := rfl
theorem isN_int : isN (.int i) = some false := rfl
theorem isN_str : isN (.str x) = some false := rfl
theorem isN_lst : isN (.lst ds) = some false := rfl
theorem isN_tup : isN (.tup ds) = some false := rfl
theorem isN_dic : isN (.dic ks ds) = some false := rfl
theorem lenD_lst : lenD (.lst ds) = some ds.length := rfl
theorem lenD_tup : lenD (.tup ds) = some ds.length := rfl
theorem lenD_str : lenD (.str x) = if x.length ≤ sizeLine then some x.length else none := rfl
theorem it_lst : itemsD (.lst ds) = some ds := rfl
theorem it_tup : itemsD (.tup ds) = some ds := rfl
theorem fl_non : flV .non = some .non := rfl
theorem fl_bl : flV (.bl b) = some (.bl b) := rfl
theorem fl_int : flV (.int i) = some (.int i) := rfl
theorem fl_str : flV (.str x) = some (.str x) := rfl
theorem tru_non : truD .non = some false := rfl
theorem tru_bl : truD (.bl b) = some b := rfl
theorem tru_int : truD (.int i) = some (i != 0) := rfl
theorem tru_lst : truD (.lst ds) = some !ds.isEmpty := rfl
theorem tru_tup : truD (.tup ds) = some !ds.isEmpty := rfl
theorem plus_int : dPlus (.int i) (.int j) C = C (.int (i + j)) := rfl
theorem plus_str : dPlus (.str x) (.str y) C = (x.length + y.length ≤ sizeLine ∧ C (.str (x ++ y))) := rfl
theorem plus_lst : dPlus (.lst ds) (.lst es) C = (ds.length + es.length ≤ sizeLine ∧ C (.lst (ds ++ es))) := rfl
theorem plus_tup : dPlus (.tup ds) (.tup es) C = (ds ≠ [] ∧ ds.length + es.length ≤ sizeLine ∧ C (.tup (ds ++ es))) := rfl
theorem ix_lst : dIx (.lst ds) (.int i) C ↔ ∃ d, atI ds i = some d ∧ C d := ⟨fun ⟨_, e, h⟩ => by cases e; exact h, fun h => ⟨i, rfl, h⟩⟩
theorem ix_tup' : dIx (.tup ds) (.int i) C ↔ ∃ d, atI ds i = some d ∧ C d := ⟨fun ⟨_, e, h⟩ => by cases e; exact h, fun h => ⟨i, rfl, h⟩⟩
theorem ix_str' : dIx (.str x) (.int i) C ↔ x.length ≤ sizeLine ∧ ∃ c, atI x.cps.toList i = some c ∧ C (.str ⟨#[c]⟩) := ⟨fun ⟨_, e, h⟩ => by cases e; exact h, fun h => ⟨i, rfl, h⟩⟩
theorem beq_dec (x y : Str) : (x == y) = decide (x = y) := by
  by_cases h : x = y
  · rw [h, decide_eq_true rfl, beq_self_eq_true]
  · rw [decide_eq_false h, beq_eq_false_iff_ne.mpr h]
theorem beq_deci (x y : Int) : (x == y) = decide (x = y) := by
  by_cases h : x = y
  · rw [h, decide_eq_true rfl, beq_self_eq_true]
  · rw [decide_eq_false h, beq_eq_false_iff_ne.mpr h]
theorem dec_str : decide (V.str x = V.str y) = decide (x = y) := by
  by_cases h : x = y
  · rw [h, decide_eq_true rfl, decide_eq_true rfl]
  · rw [decide_eq_false h, decide_eq_false (fun z => h (V.str.inj z))]
theorem dec_int' : decide (V.int i = V.int j) = decide (i = j) := by
  by_cases h : i = j
  · rw [h, decide_eq_true rfl, decide_eq_true rfl]
  · rw [decide_eq_false h, decide_eq_false (fun z => h (V.int.inj z))]
theorem dec_bl : decide (V.bl b = V.bl c) = (b == c) := by cases b <;> cases c <;> rfl
theorem eqv_str : PyData.eqv (.str x) (.str y) = decide (x = y) := (show PyData.eqv (.str x) (.str y) = (x == y) by unfold PyData.eqv; rfl).trans (beq_dec x y)
theorem eqv_int : PyData.eqv (.int i) (.int j) = decide (i = j) := (show PyData.eqv (.int i) (.int j) = (i == j) by unfold PyData.eqv; rfl).trans (beq_deci i j)
theorem eqv_bl : PyData.eqv (.bool b) (.bool c) = (b == c) := by unfold PyData.eqv; rfl
theorem sc_iff {neg : Bool} {dx dy : D} {u w : V} {p q : PyData} {bb : Bool} (h1 : flD dx = some u) (h2 : flD dy = some w) (h3 : scal u w = true) (h4 : toPy dx = some p) (h5 : toPy dy = some q) (h6 : decide (u = w) = bb) (h7 : PyData.eqv p q = bb) :
    (dSc neg dx dy C ∨ dDat neg dx dy C) ↔ C (.bl (if neg then !bb else bb)) := by
  constructor
  · rintro (⟨u', w', e1, e2, _, h⟩ | ⟨p', q', e1, e2, _, _, h⟩)
    · rw [h1] at e1
      rw [h2] at e2
      cases e1
      cases e2
      rw [h6] at h
      exact h
    · rw [h4] at e1
      rw [h5] at e2
      cases e1
      cases e2
      rw [h7] at h
      exact h
  · intro h
    exact .inl ⟨u, w, h1, h2, h3, by rw [h6]; exact h⟩
theorem qe_str : dEq (.str x) (.str y) C ↔ C (.bl (decide (x = y))) := sc_iff (neg := false) rfl rfl rfl rfl rfl dec_str eqv_str
theorem qn_str : dNe (.str x) (.str y) C ↔ C (.bl (!decide (x = y))) := sc_iff (neg := true) rfl rfl rfl rfl rfl dec_str eqv_str
theorem qe_int : dEq (.int i) (.int j) C ↔ C (.bl (decide (i = j))) := sc_iff (neg := false) rfl rfl rfl rfl rfl dec_int' eqv_int
theorem qn_int : dNe (.int i) (.int j) C ↔ C (.bl (!decide (i = j))) := sc_iff (neg := true) rfl rfl rfl rfl rfl dec_int' eqv_int
theorem qe_bl : dEq (.bl b) (.bl c) C ↔ C (.bl (b == c)) := sc_iff (neg := false) rfl rfl rfl rfl rfl dec_bl eqv_bl
theorem qn_bl : dNe (.bl b) (.bl c) C ↔ C (.bl (!(b == c))) := sc_iff (neg := true) rfl rfl rfl rfl rfl dec_bl eqv_bl
theorem inV_nil {u : V} : inV u [] = false := rfl
theorem inV_cons {u w : V} {us : List V} : inV u (w :: us) = (eqV w u || inV u us) := rfl
theorem eqV_str : eqV (.str x) (.str y) = decide (x = y) := beq_dec x y
theorem eqV_int : eqV (.int i) (.int j) = decide (i = j) := beq_deci i j
theorem eqV_bl : eqV (.bl b) (.bl c) = (b == c) := rfl
end
end DL
end
section
set_option maxHeartbeats 4000000
namespace DL
variable [TB]
open PySem PySem.Spec PyProof.Rows L2 G1
/-! ### comprehensions: turn by turn -/
def turnD (tg : Tg) (ft : FB) (fe : FE) (S : DS) (x : D) (Kt : Option D → DS → Prop) (E : Err → Prop) : Prop :=
  ∃ g, bindT tg x (wipeD S.g (slotsT tg)) = some g ∧ ft { S with g := g } (fun b S2 => if b = true then fe S2 (fun y S3 => Kt (some y) { S3 with g := restG S.g (slotsT tg) S3.g }) E else Kt none { S2 with g := restG S.g (slotsT tg) S2.g }) E
theorem lcD_turn {tg : Tg} {ft : FB} {fe : FE} {x : D} {xs acc : List D} {S : DS} {C : List D → DS → Prop} {E : Err → Prop} (h : turnD tg ft fe S x (fun o S' => lcD tg ft fe xs (acc ++ o.toList) S' C E) E) : lcD tg ft fe (x :: xs) acc S C E := by
  obtain ⟨g, hg, h⟩ := h
  refine ⟨g, hg, ?_⟩
  have e : (fun (b : Bool) (S2 : DS) => if b = true then fe S2 (fun y S3 => lcD tg ft fe xs (acc ++ (some y).toList) { S3 with g := restG S.g (slotsT tg) S3.g } C E) E else lcD tg ft fe xs (acc ++ (none : Option D).toList) { S2 with g := restG S.g (slotsT tg) S2.g } C E) =
      (fun b S2 => if b = true then fe S2 (fun y S3 => lcD tg ft fe xs (acc ++ [y]) { S3 with g := restG S.g (slotsT tg) S3.g } C E) E else lcD tg ft fe xs acc { S2 with g := restG S.g (slotsT tg) S2.g } C E) := by
    funext b S2
    rw [show (none : Option D).toList = [] from rfl, List.append_nil]
    rfl
  rw [← e]
  exact h
/-- each turn leaves all as it was -/
theorem lcD_map {α : Type} {tg : Tg} {ft : FB} {fe : FE} {S : DS} {C : List D → DS → Prop} {E : Err → Prop} (g : α → D) (f : α → Option D) : ∀ (as : List α) (acc : List D), (∀ a ∈ as, ∀ Kt : Option D → DS → Prop, Kt (f a) S → turnD tg ft fe S (g a) Kt E) → C (acc ++ as.filterMap f) S → lcD tg ft fe (as.map g) acc S C E
  | [], acc, _, hc => by
    rw [List.filterMap_nil, List.append_nil] at hc
    exact hc
  | a :: as, acc, h, hc => by
    refine lcD_turn (h a (List.mem_cons_self ..) _ (lcD_map g f as _ (fun b hb => h b (List.mem_cons_of_mem _ hb)) ?_))
    rw [List.append_assoc]
    have e : (f a).toList ++ as.filterMap f = (a :: as).filterMap f := by
      rw [List.filterMap_cons]
      cases f a <;> rfl
    rw [e]
    exact hc
/-- each turn makes one -/
theorem lcD_each {α : Type} {tg : Tg} {ft : FB} {fe : FE} {S : DS} {C : List D → DS → Prop} {E : Err → Prop} (g : α → D) (f : α → D) (as : List α) (h : ∀ a ∈ as, ∀ Kt : Option D → DS → Prop, Kt (some (f a)) S → turnD tg ft fe S (g a) Kt E) (hc : C (as.map f) S) : lcD tg ft fe (as.map g) [] S C E :=
  lcD_map g (fun a => some (f a)) as [] h (by
    have e : ∀ as : List α, as.filterMap (fun a => some (f a)) = as.map f := fun as => by
      induction as with
      | nil => rfl
      | cons a as ih => rw [List.filterMap_cons, List.map_cons, ih]
    rw [List.nil_append, e]
    exact hc)
/-- each turn draws -/
inductive Rel2 {α β : Type} (R : α → β → Prop) : List α → List β → Prop
  | nil : Rel2 R [] []
  | cons {a : α} {b : β} {as : List α} {bs : List β} (h : R a b) (t : Rel2 R as bs) : Rel2 R (a :: as) (b :: bs)
theorem Rel2.len {α β : Type} {R : α → β → Prop} {as : List α} {bs : List β} (h : Rel2 R as bs) : bs.length = as.length := by
  induction h with
  | nil => rfl
  | cons _ _ ih => rw [List.length_cons, List.length_cons, ih]
theorem lcD_rel {α : Type} {tg : Tg} {ft : FB} {fe : FE} {gs : List Sl} {C : List D → DS → Prop} {E : Err → Prop} (g : α → D) (R : α → D → Prop) (kk m : Nat) : ∀ (as : List α) (acc : List D) (n0 : Nat), m + kk * as.length ≤ n0 →
    (∀ a ∈ as, ∀ (n : Nat) (Kt : Option D → DS → Prop), kk ≤ n → (∀ d n', n ≤ n' + kk → R a d → Kt (some d) ⟨gs, n'⟩) → turnD tg ft fe ⟨gs, n⟩ (g a) Kt E) →
    (∀ ds n', m ≤ n' → Rel2 R as ds → C (acc ++ ds) ⟨gs, n'⟩) → lcD tg ft fe (as.map g) acc ⟨gs, n0⟩ C E
  | [], acc, n0, hn, _, hc => by
    have := hc [] n0 (by rw [List.length_nil, Nat.mul_zero] at hn; exact hn) .nil
    rw [List.append_nil] at this
    exact this
  | a :: as, acc, n0, hn, h, hc => by
    rw [List.length_cons, Nat.mul_succ] at hn
    refine lcD_turn (h a (List.mem_cons_self ..) _ _ (by omega) fun d n' h' hd => ?_)
    refine lcD_rel g R kk m as _ n' (by omega) (fun b hb => h b (List.mem_cons_of_mem _ hb)) fun ds n'' hn'' hds => ?_
    rw [List.append_assoc]
    exact hc (d :: ds) n'' hn'' (.cons hd hds)
theorem zipD_map {α β : Type} (f : α → D) (g : β → D) : ∀ (as : List α) (bs : List β), zipD (as.map f) (bs.map g) = (as.zip bs).map fun p => .tup [f p.1, g p.2]
  | [], _ => rfl
  | _ :: _, [] => rfl
  | a :: as, b :: bs => by
    show _ :: zipD (as.map f) (bs.map g) = _
    rw [zipD_map f g as bs]
    rfl
/-! ### data of numbers and texts -/
theorem py_ints : ∀ ns : List Int, toPys (ns.map D.int) = some (ns.map PyData.int)
  | [] => rfl
  | n :: ns => by
    show ((some (PyData.int n)).bind fun p => (toPys (ns.map D.int)).map fun ps => p :: ps) = _
    rw [py_ints ns]
    rfl
theorem lay_ints : ∀ ns : List Int, PyData.canLayAll0 (ns.map PyData.int) = true
  | [] => rfl
  | n :: ns => by
    show (PyData.canLay0 (.int n) && PyData.canLayAll0 (ns.map PyData.int)) = true
    rw [lay_ints ns]
    rfl
theorem dep_ints : ∀ ns : List Int, PyData.depthAll (ns.map PyData.int) = 0
  | [] => rfl
  | n :: ns => by
    show max (PyData.depth (.int n)) (PyData.depthAll (ns.map PyData.int)) = 0
    rw [dep_ints ns]
    rfl
theorem sh_ints (ns : List Int) : SeqAt.shaped (.list (ns.map PyData.int)) = true := by
  show (PyData.canLayAll0 (ns.map PyData.int) && decide (PyData.depthAll (ns.map PyData.int) + 1 ≤ 64)) = true
  rw [lay_ints, dep_ints]
  rfl
theorem eqv_ints : ∀ ns ms : List Int, PyData.eqvAll (ns.map PyData.int) (ms.map PyData.int) = decide (ns = ms)
  | [], [] => rfl
  | n :: ns, m :: ms => by
    show (PyData.eqv (.int n) (.int m) && PyData.eqvAll (ns.map PyData.int) (ms.map PyData.int)) = _
    rw [eqv_ints ns ms, eqv_int]
    by_cases h : n = m
    · by_cases h2 : ns = ms
      · rw [h, h2, decide_eq_true rfl, decide_eq_true rfl, decide_eq_true rfl]; rfl
      · rw [decide_eq_false h2, decide_eq_false (fun z => h2 (List.cons.inj z).2), Bool.and_false]
    · rw [decide_eq_false h, decide_eq_false (fun z => h (List.cons.inj z).1), Bool.false_and]
  | [], _ :: _ => rfl
  | _ :: _, [] => rfl
theorem dat_iff {neg : Bool} {dx dy : D} {p q : PyData} {bb : Bool} {C : D → Prop} (h1 : toPy dx = some p) (h2 : toPy dy = some q) (h3 : SeqAt.shaped p = true) (h4 : SeqAt.shaped q = true) (h5 : PyData.eqv p q = bb) (hc : C (.bl (if neg then !bb else bb))) : dSc neg dx dy C ∨ dDat neg dx dy C :=
  .inr ⟨p, q, h1, h2, h3, h4, by rw [h5]; exact hc⟩
theorem qe_ints {ns ms : List Int} {C : D → Prop} (h : C (.bl (decide (ns = ms)))) : dEq (.lst (ns.map D.int)) (.lst (ms.map D.int)) C :=
  dat_iff (neg := false) (by show (toPys _).map _ = _; rw [py_ints]; rfl) (by show (toPys _).map _ = _; rw [py_ints]; rfl) (sh_ints ns) (sh_ints ms) (eqv_ints ns ms) h
theorem qn_ints {ns ms : List Int} {C : D → Prop} (h : C (.bl (!decide (ns = ms)))) : dNe (.lst (ns.map D.int)) (.lst (ms.map D.int)) C :=
  dat_iff (neg := true) (by show (toPys _).map _ = _; rw [py_ints]; rfl) (by show (toPys _).map _ = _; rw [py_ints]; rfl) (sh_ints ns) (sh_ints ms) (eqv_ints ns ms) h
section
variable {a b c d : D} {l : List D}
theorem at_0 : atI (a :: l) 0 = some a := by
  have e : ixN (a :: l).length 0 = some 0 := by
    unfold ixN
    rw [if_pos (by decide), if_pos (by rw [List.length_cons]; omega)]
    rfl
  unfold atI
  rw [e]
  rfl
theorem at_1 : atI (a :: b :: l) 1 = some b := by
  have e : ixN (a :: b :: l).length 1 = some 1 := by
    unfold ixN
    rw [if_pos (by decide), if_pos (by rw [List.length_cons, List.length_cons]; omega)]
    rfl
  unfold atI
  rw [e]
  rfl
theorem at_2 : atI (a :: b :: c :: l) 2 = some c := by
  have e : ixN (a :: b :: c :: l).length 2 = some 2 := by
    unfold ixN
    rw [if_pos (by decide), if_pos (by rw [List.length_cons, List.length_cons, List.length_cons]; omega)]
    rfl
  unfold atI
  rw [e]
  rfl
theorem at_l1 : atI [a] (-1) = some a := rfl
theorem at_l2 : atI [a, b] (-1) = some b := rfl
theorem at_l3 : atI [a, b, c] (-1) = some c := rfl
theorem at_k2 : atI [a, b] (-2) = some a := rfl
theorem at_k3 : atI [a, b, c] (-2) = some b := rfl
theorem at_nat {α : Type} {xs : List α} {k : Nat} {x : α} (h : xs[k]? = some x) : atI xs (k : Int) = some x := atI_nat h
end
end DL
end
section
set_option maxHeartbeats 4000000
namespace DL
variable [TB]
open PySem PySem.Spec PyProof.Rows L2 G1
/-! ### lists of truths and ints, however shown -/
theorem shown_nat {n : Nat} (h : n < 10 ^ 400) : (Str.ofString (toString (n : Int))).length ≤ 400 := by
  rw [PyProof.Rows.ofString_len]
  show (Nat.repr n).length ≤ 400
  have e := digits10_le (k := 400) (by decide) h
  rw [← String.length_toList, Nat.toList_repr]
  exact e
theorem shown_int {x : Int} (h : x.natAbs < 2 ^ 1000) : (PyData.shown (.int x)).length ≤ 401 := by
  show (Str.ofString (toString x)).length ≤ 401
  have b : (2 : Nat) ^ 1000 < 10 ^ 400 := by decide +kernel
  by_cases g : x < 0
  · rw [len_text_neg g]
    obtain ⟨n, hn⟩ : ∃ n : Nat, 0 - x = n := ⟨(0 - x).toNat, by omega⟩
    rw [hn]
    have := shown_nat (n := n) (by omega)
    omega
  · obtain ⟨n, hn⟩ : ∃ n : Nat, x = n := ⟨x.toNat, by omega⟩
    rw [hn]
    have := shown_nat (n := n) (by omega)
    omega
theorem log_lt {x : Int} (h : x.natAbs < 2 ^ 1000) : x.natAbs.log2 < 1920 := by
  by_cases g : x.natAbs = 0
  · rw [g]
    decide
  · exact Nat.lt_of_lt_of_le ((Nat.log2_lt g).mpr h) (by decide)
/-- a truth or an int that is not too large -/
def Fb (d : D) : Prop := (∃ b, d = .bl b) ∨ ∃ x : Int, d = .int x ∧ x.natAbs < 2 ^ 1000
structure FlatP (ds : List D) (ps : List PyData) : Prop where
  py : toPys ds = some ps
  sh : PyData.showableAll ps = true
  dep : PyData.depthAll ps = 0
  lay : PyData.canLayAll0 ps = true
  len : (PyData.shownAll ps).length = ds.length
  sum : ((PyData.shownAll ps).map (·.length)).sum ≤ 401 * ds.length
theorem flat_py : ∀ ds : List D, (∀ d ∈ ds, Fb d) → ∃ ps, FlatP ds ps
  | [], _ => ⟨[], rfl, rfl, rfl, rfl, rfl, Nat.le_refl _⟩
  | d :: ds, h => by
    obtain ⟨ps, p⟩ := flat_py ds fun d hd => h d (List.mem_cons_of_mem _ hd)
    have one : ∀ q : PyData, toPy d = some q → q.showable = true → q.depth = 0 → q.canLay0 = true → q.shown.length ≤ 401 → ∃ ps, FlatP (d :: ds) ps := by
      intro q h1 h2 h3 h4 h5
      refine ⟨q :: ps, ?_, ?_, ?_, ?_, ?_, ?_⟩
      · show ((toPy d).bind fun p => (toPys ds).map fun ps => p :: ps) = _
        rw [h1, p.py]
        rfl
      · show (q.showable && PyData.showableAll ps) = true
        rw [h2, p.sh]
        rfl
      · show max q.depth (PyData.depthAll ps) = 0
        rw [h3, p.dep]
        rfl
      · show (q.canLay0 && PyData.canLayAll0 ps) = true
        rw [h4, p.lay]
        rfl
      · show (q.shown :: PyData.shownAll ps).length = _
        rw [List.length_cons, List.length_cons, p.len]
      · show ((q.shown :: PyData.shownAll ps).map (·.length)).sum ≤ _
        rw [List.map_cons, List.sum_cons, List.length_cons]
        have := p.sum
        omega
    rcases h d (List.mem_cons_self ..) with ⟨b, rfl⟩ | ⟨x, rfl, hx⟩
    · exact one (.bool b) rfl rfl rfl rfl (by cases b <;> decide +kernel)
    · exact one (.int x) rfl (decide_eq_true (log_lt hx)) rfl rfl (shown_int hx)
theorem flat_lst {ds : List D} {ps : List PyData} (p : FlatP ds ps) (h : ds.length ≤ 1000) :
    toPy (.lst ds) = some (.list ps) ∧ (PyData.list ps).showable = true ∧ (PyData.list ps).depth ≤ 60 ∧ (PyData.list ps).shown.length ≤ sizeLine ∧ SeqAt.shaped (.list ps) = true ∧ PyData.eqv (.list ps) (.list ps) = true := by
  refine ⟨?_, p.sh, ?_, ?_, ?_, SeqAt.eqv_refl _ p.lay⟩
  · show (toPys ds).map _ = _
    rw [p.py]
    rfl
  · show PyData.depthAll ps + 1 ≤ 60
    rw [p.dep]
    decide
  · show (listText (PyData.shownAll ps)).length ≤ sizeLine
    have a := listText_len_le (PyData.shownAll ps)
    have b := p.sum
    rw [p.len] at a
    have c : 500000 ≤ sizeLine := by decide
    omega
  · show (PyData.canLayAll0 ps && decide (PyData.depthAll ps + 1 ≤ 64)) = true
    rw [p.lay, p.dep]
    rfl
theorem qn_flat {ds : List D} {ps : List PyData} {C : D → Prop} (p : FlatP ds ps) (h : ds.length ≤ 1000) (hc : C (.bl false)) : dNe (.lst ds) (.lst ds) C :=
  let ⟨a, _, _, _, b, c⟩ := flat_lst p h
  dat_iff (neg := true) a a b b c hc
theorem lcD_eachD {tg : Tg} {ft : FB} {fe : FE} {S : DS} {C : List D → DS → Prop} {E : Err → Prop} (f : D → D) (as : List D) (h : ∀ a ∈ as, ∀ Kt : Option D → DS → Prop, Kt (some (f a)) S → turnD tg ft fe S a Kt E) (hc : C (as.map f) S) : lcD tg ft fe as [] S C E := by
  have := lcD_each (fun d : D => d) f as h hc
  rwa [List.map_id'] at this
end DL
end
section
set_option maxHeartbeats 4000000
namespace DL
variable [TB]
open PySem PySem.Spec PyProof.Rows L2 G1 G2 LamX
/-! ### what is heard of a lambda -/
def hideL : Sl → Sl
  | .ow _ => .un
  | s => s
def hideS (S : DS) : DS := { S with g := S.g.map hideL }
/-- er: what an error is told as -/
def dHeard (er : Err → D → Prop) (fe : FE) : FE := fun S C _ => fe (hideS S) (fun _ _ => C .non S) (fun e => ∃ d, er e d ∧ C d S)
def EhD (K : PySem.W.Frag) (er : Err → D → Prop) (Q : VK) : XK := fun cls dd H' => ∃ e d O', ErrR K O' H' e cls dd ∧ er e d ∧ ∀ v O2 H2, Aft none O' H' O2 H2 → Rep K O2 H2 d v → Q v H2
def THd (K : PySem.W.Frag) (er : Err → D → Prop) (TT : (XK → Hp → VK → Prop) → Hp → VK → Prop) : Prop := ∀ tl H Q,
  (∀ (E : XK) (Q2 : VK), (∀ cls dd H', EhD K er Q cls dd H' → E cls dd H') → (∀ v H', Q .non H' → Q2 v H') → tl E H Q2) → TT tl H Q
def tHe (K : PySem.W.Frag) (fe : FE) (E : XK) : TE := fun σ H Q => ∃ Θ : Par, Θ.K = K ∧ Θ.E = E ∧ tD Θ fe σ H Q
section
variable {X : Cx} {Θ : Par} {e : Expr} {K : PySem.W.Frag}
theorem pe_he {fe : FE} {E : XK} (h : ∀ tr O0 H0 Er fr, PE X e (tD ⟨K, tr, O0, H0, E, Er, fr⟩ fe)) : PE X e (tHe K fe E) :=
  ⟨fun pins s σ H Q I ⟨Θ, e1, e2, q⟩ => by
    subst e1 e2
    exact (h Θ.tr Θ.O0 Θ.H0 Θ.Er Θ.fr).run pins s σ H Q I q⟩
theorem ctx_hide {O : Ow} {S : DS} {σ : L2.St} {H : Hp} {E : XK} {Er : Err → Prop} (c : Ctx Θ O S σ H) (ew : ∀ e cls dd O' H', Aft none O H O' H' → ErrR Θ.K O' H' e cls dd → Er e → E cls dd H') :
    Ctx ⟨Θ.K, none, O, H, E, Er, false⟩ O (hideS S) σ H := by
  refine ⟨by show (S.g.map hideL).length = _; rw [List.length_map]; exact c.len, c.few, fun i s h => ?_, True.intro, Aft.refl _ _ _, ew⟩
  have h : (S.g.map hideL)[i]? = some s := h
  rw [List.getElem?_map] at h
  cases q : S.g[i]? with
  | none => rw [q] at h; cases h
  | some u =>
    rw [q] at h
    have h : some (hideL u) = some s := h
    obtain ⟨o, ho, r⟩ := c.sl i u q
    refine ⟨o, ho, ?_⟩
    cases h
    cases u with
    | un => exact True.intro
    | da d => exact r
    | ow ds => exact True.intro
theorem nt_of {o : HO} (h : isTbl o = false) : ∀ ps, o ≠ .tbl ps := fun ps z => by
  rw [z] at h
  cases h
theorem de_heard {er : Err → D → Prop} {fe : FE} {TT : (XK → Hp → VK → Prop) → Hp → VK → Prop} (h0 : Tabs TB.T Θ.H0) (hTT : THd Θ.K er TT) (h : PE X e (tLam TB.T TT (tHe Θ.K fe))) : PE X e (tD Θ (dHeard er fe)) := pe_imp h fun σ H Q ⟨O, S, C, c, hf, k⟩ => by
  refine ⟨c.aft.same.tb h0, fun H1 ex tb => hTT _ _ _ fun E Q2 he hn => ?_⟩
  have a1 : Aft none O H O H1 := ⟨⟨fun b o _ i h => ex b o h (nt_of i), fun _ => tb⟩, fun _ _ h => h⟩
  obtain ⟨c1, l1⟩ := c.aftN a1
  generalize ownA O H O = O1 at c1 l1
  refine ⟨⟨Θ.K, none, O1, H1, E, fun e => ∃ d, er e d ∧ C d S, false⟩, rfl, rfl, O1, hideS S, _, ctx_hide c1 (fun e cls dd O' H' a er ⟨d, h1, hc⟩ => ?_), hf, fun d S' v O' H' c' l' r hc => ?_⟩
  · refine he _ _ _ ⟨e, d, O', er, h1, fun v O2 H2 a2 r2 => ?_⟩
    have a3 : Aft none O1 H1 O2 H2 := ⟨a.same.trans a2.same, fun b hb q => a.own b hb (a2.own b (a.same.lv hb) q)⟩
    obtain ⟨c3, l3⟩ := c1.aftN a3
    exact k d S v _ H2 c3 (l1.trans l3) (Rep.le (ownA_le a3) d v r2) hc
  · obtain ⟨c3, l3⟩ := c1.aftN c'.aft
    exact hn v H' (k .non S .non _ H' c3 (l1.trans l3) rfl hc)
/-! ### defs in which lambdas stand -/
def spTL (K : PySem.W.Frag) (g : FT) : Sp := fun vs H Q E => Tabs TB.T H ∧ spT K g vs H Q E
theorem de_callTL {g : FT} {fa : FA} {a c' : Addr} (h0 : Tabs TB.T Θ.H0) (ht : Θ.tr = some (a, c')) (h : PE X e (tCall (spTL Θ.K g) [] Θ.E (tDA Θ fa))) : PE X e (tD Θ (dCallT g a fa)) := pe_imp h fun σ H Q ⟨O, S, C, c, hf, k⟩ =>
  ⟨O, S, _, c, hf, fun ds S1 vs O1 H1 c1 l1 r1 hq => ⟨c1.aft.same.tb h0, a, c', O1, ds, S1.n, _, Θ.Er, by rw [List.append_nil]; exact r1, by have := c1.tr; rw [ht] at this; exact this, hq,
    fun e cls dd O' H' af er he => c1.ew e cls dd O' H' (c1.aftX (by rw [ht]; exact af)) er he, fun d n' v O' H' af tr r hc =>
    let ⟨c3, l3⟩ := c1.aftT (by rw [ht]; exact af) (by rw [ht]; exact tr)
    k d _ v _ H' c3 (l1.trans l3) (Rep.le (ownA_le af) d v r) hc⟩⟩
end
section
variable {P : Program} {w : World} {K : PySem.W.Frag} {mg : Str → Option Value} {base : Heap} {x qual : Str} {st : Stmt} {f : Addr} {fd : FuncData} {N ps : List Str} {k : Nat}
/-- okG, the code told -/
theorem okGc {sp : Sp} {cv : Value} (F : Fun K x qual st f fd) (hc : fd.code = cv) (S : FnScope N ps (defScope st))
    (len : ∀ vs H Q E, sp vs H Q E → vs.length = ps.length)
    (hb : ∀ (A : Around) (outer : List Env) (s : Shared) (H : Hp) (vs : List V) (Q : VK) (E : XK),
      (A.deeper (envOfC qual (defScope st) s.heap.objs.size f cv)).guards = some [] →
      Room k (A.deeper (envOfC qual (defScope st) s.heap.objs.size f cv)) → sp vs H Q E →
      ∃ t, PSs (cxOf CX0 P w K mg base N qual (defScope st) f cv A outer s H E).nox (defBody st) t ∧
        t { nx := fun _ H' => Q .non H', rt := Q } (L2.start N vs) H) :
    FnG P w K mg base CX0 (k + 1) f fd ps sp := by
  obtain ⟨oc, od, kV, doc, pm, an, cdv, ct, osl, rfl, lk, hcd⟩ := F.ex
  obtain rfl : cdv = cv := hc
  refine ⟨len, fun A outer s H args us vs Q E hg hr e0 bt r hs => ?_⟩
  exact LamX.run_ofS lk hcd S hr e0 bt r (len _ _ _ _ hs) fun hr2 =>
    let ⟨t, h, q⟩ := hb A outer s H vs Q E hg hr2 hs
    ⟨t, h.nox, q⟩
theorem fnTL {g : FT} {fb : Addr → FS} {cv : Value} (F : Fun K x qual st f fd) (hc : fd.code = cv) (S : FnScope N ps (defScope st)) (hl : ∀ a ds n C E, g a ds n C E → ds.length = ps.length)
    (hb : ∀ (a c : Addr) (O0 : Ow) (H0 : Hp), Tabs TB.T H0 → ∀ (Er : Err → Prop) (A : Around) (outer : List Env) (s : Shared) (H : Hp) (E : XK), (A.deeper (envOfC qual (defScope st) s.heap.objs.size f cv)).guards = some [] → Room k (A.deeper (envOfC qual (defScope st) s.heap.objs.size f cv)) →
      PSs (cxOf CX0 P w K mg base N qual (defScope st) f cv A outer s H E).nox (defBody st) (tDS ⟨K, some (a, c), O0, H0, E, Er, false⟩ (fb a)))
    (hg : ∀ a ds n C E, g a ds n C E → fb a ⟨startD N.length ds, n⟩ ⟨fun S => ∃ m, m ≤ S.n ∧ C .non m, fun d S => ∃ m, m ≤ S.n ∧ C d m, fun _ => False, fun _ => False⟩ E) (hN : N.length ≤ 1000 := by decide) : FnG P w K mg base CX0 (k + 1) f fd ps (spTL K g) := by
  have hpl : ps.length ≤ N.length := by have := congrArg List.length S.pre; rw [List.length_take] at this; omega
  refine okGc F hc S (fun vs H Q E ⟨_, a, c, O, ds, n, C, Er, r, t, h, _⟩ => by rw [r.len]; exact hl _ _ _ _ _ h) fun A outer s H vs Q E hgd hr ⟨h0, a, c, O, ds, n, C, Er, r, t, h, ew, hq⟩ => ?_
  refine ⟨_, hb a c O H h0 Er A outer s H E hgd hr, O, _, _, ctx_start hN (by rw [hl _ _ _ _ _ h]; exact hpl) r t ew, hg a ds n C Er h, fun O' S' σ' H' c _ q => ?_, fun d S' σ' v O' H' c r _ q => ?_, fun _ _ _ _ _ _ q => q, fun _ _ _ _ _ _ q => q⟩
  · obtain ⟨m, hm, q⟩ := q
    exact hq .non m .non O' H' c.aft (c.tr.less hm) rfl q
  · obtain ⟨m, hm, q⟩ := q
    exact hq d m v O' H' c.aft (c.tr.less hm) r q
end
end DL
end
section
set_option maxHeartbeats 4000000
namespace DL
variable [TB]
open PySem PySem.Spec PyProof.Rows L2 G1
/-! ### a list of lists that are its own -/
structure NQ (Θ : Par) (Hs : Hp) (m : Nat) (O : Ow) (H : Hp) (qs : List Addr) (dss : List (List D)) : Prop where
  len : qs.length = dss.length
  at_ : ∀ (j : Nat) q ds, qs[j]? = some q → dss[j]? = some ds → O q = some (1000000 + (m + j + 1)) ∧ ¬ lv Θ.H0 q ∧ ¬ lv Hs q ∧ ∃ vs, H q = some (.lst vs) ∧ Reps Θ.K O H ds vs
structure Nst (Θ : Par) (i : Nat) (Hs : Hp) (dss : List (List D)) (O : Ow) (σ : L2.St) (H : Hp) : Prop where
  ex : ∃ p qs, σ[i]? = some (some (.ref p)) ∧ O p = some 1000000 ∧ H p = some (.lst (qs.map V.ref)) ∧ ¬ lv Θ.H0 p ∧ ¬ lv Hs p ∧ NQ Θ Hs 0 O H qs dss
section
variable {X : Cx} {Θ : Par} {O O' : Ow} {H H' Hs : Hp} {S : DS} {σ : L2.St} {m : Nat} {qs : List Addr} {dss : List (List D)}
theorem NQ.step (n : NQ Θ Hs m O H qs dss) (l : LL O H O' H') : NQ Θ Hs m O' H' qs dss := ⟨n.len, fun j q ds h1 h2 => by
  obtain ⟨a, b, c, vs, d, r⟩ := n.at_ j q ds h1 h2
  obtain ⟨e1, e2⟩ := l.lk q _ _ rfl a d
  exact ⟨e1.trans a, b, c, vs, e2, Reps.le l.le _ _ r⟩⟩
theorem NQ.stepP {p : Addr} (n : NQ Θ Hs m O H qs dss) (l : LP p O H O' H') (hp : ∀ j, O p ≠ some (1000000 + (m + j + 1))) : NQ Θ Hs m O' H' qs dss := ⟨n.len, fun j q ds h1 h2 => by
  obtain ⟨a, b, c, vs, d, r⟩ := n.at_ j q ds h1 h2
  have ne : q ≠ p := fun z => hp j (by rw [← z]; exact a)
  obtain ⟨e1, e2⟩ := l.2.1 q _ _ ne rfl a d
  exact ⟨e1.trans a, b, c, vs, e2, Reps.le l.1 _ _ r⟩⟩
/-- another tag for a list that is being made -/
theorem Ctx.tag {p : Addr} {o : HO} {k k' : Nat} (c : Ctx Θ O S σ H) (hp : O p = some (1000000 + k)) (hl : H p = some o) (hn : ¬ lv Θ.H0 p) :
    Ctx Θ (DL.setO O p (some (1000000 + k'))) S σ H ∧ LP p O H (DL.setO O p (some (1000000 + k'))) H := by
  have le : Le O H (DL.setO O p (some (1000000 + k'))) H := ⟨fun b u _ e hb => ⟨by
    have n : b ≠ p := fun z => by rw [z, hp] at e; cases e
    rw [setO_ne n]
    exact e, hb⟩, fun _ _ _ h => h⟩
  refine ⟨⟨c.len, c.few, fun i s h => ?_, ?_, ⟨c.aft.same, fun b hb ho => ?_⟩, c.ew⟩, le, fun b o k n _ e h => ⟨setO_ne n, h⟩, fun _ h => h⟩
  · obtain ⟨o', e, r⟩ := c.sl i s h
    refine ⟨o', e, ?_⟩
    cases s with
    | un => exact r
    | da d =>
      obtain ⟨v, e2, r⟩ := r
      exact ⟨v, e2, Rep.le le d v r⟩
    | ow ds =>
      obtain ⟨q, vs, e2, oq, hq, h0, r⟩ := r
      have n : q ≠ p := fun z => by
        rw [z, hp] at oq
        have h1 := Option.some.inj oq
        have h2 : i < S.g.length := (List.getElem?_eq_some_iff.mp h).1
        have := c.len
        have := c.few
        omega
      exact ⟨q, vs, e2, by rw [setO_ne n]; exact oq, hq, h0, Reps.le le ds vs r⟩
  · have hc := c.tr
    match Θ.tr, hc with
    | none, _ => exact True.intro
    | some (b, d), ⟨ns0, k0, r0, t0⟩ =>
      have n : b ≠ p := fun z => by
        have := t0.own
        rw [z, hp] at this
        have := Option.some.inj this
        omega
      exact ⟨ns0, k0, r0, by rw [setO_ne n]; exact t0.own, t0.at_, (le.no _ _ rfl t0.cown t0.cells).1, t0.cells, t0.few, t0.low, t0.left⟩
  · by_cases z : b = p
    · rw [z, setO_same] at ho
      cases ho
    · rw [setO_ne z] at ho
      exact c.aft.own b hb ho
/-- all of them nobody's -/
theorem frz_all : ∀ (qs : List Addr) (dss : List (List D)) (m : Nat) (O : Ow) {p : Addr}, Ctx Θ O S σ H → NQ Θ Hs m O H qs dss → O p = some 1000000 →
    ∃ O', Ctx Θ O' S σ H ∧ Le O H O' H ∧ O' p = some 1000000 ∧ (∀ Oa Ha, LL Oa Ha O H → (∀ q ∈ qs, ¬ lv Ha q) → LL Oa Ha O' H) ∧ Reps Θ.K O' H (dss.map .lst) (qs.map .ref)
  | [], [], m, O, p, c, n, hp => ⟨O, c, Le.refl _ _, hp, fun _ _ l _ => l, rfl⟩
  | [], _ :: _, _, _, _, _, n, _ => by have := n.len; cases this
  | _ :: _, [], _, _, _, _, n, _ => by have := n.len; cases this
  | q :: qs, ds :: dss, m, O, p, c, n, hp => by
    obtain ⟨oq, h0, hs, vs, hl, r⟩ := n.at_ 0 q ds rfl rfl
    obtain ⟨c1, l1⟩ := c.frz oq (by omega) (fun i es h z => by
      have h2 : i < S.g.length := (List.getElem?_eq_some_iff.mp h).1
      have := c.len
      have := c.few
      omega) hl (fun z => absurd z h0)
    have np : p ≠ q := fun z => by
      rw [z, oq] at hp
      have := Option.some.inj hp
      omega
    have n1 : NQ Θ Hs (m + 1) (setO O q none) H qs dss := ⟨Nat.succ.inj n.len, fun j q' ds' h1 h2 => by
      obtain ⟨a, b, c, vs', d, r'⟩ := n.at_ (j + 1) q' ds' h1 h2
      have ne : q' ≠ q := fun z => by
        rw [z, oq] at a
        have := Option.some.inj a
        omega
      exact ⟨by rw [setO_ne ne, a]; congr 2; omega, b, c, vs', d, Reps.le l1.1 _ _ r'⟩⟩
    obtain ⟨O', c2, l2, p2, k2, r2⟩ := frz_all qs dss (m + 1) _ (p := p) c1 n1 (by rw [setO_ne np]; exact hp)
    refine ⟨O', c2, l1.1.trans l2, p2, fun Oa Ha la ha => k2 Oa Ha (la.new l1 (ha q (List.mem_cons_self ..))) fun q' hq => ha q' (List.mem_cons_of_mem _ hq), .ref q, _, rfl, ?_, r2⟩
    obtain ⟨f1, f2⟩ := l2.no q _ rfl setO_same hl
    exact ⟨q, vs, rfl, ⟨f1, f2⟩, Reps.le (l1.1.trans l2) _ _ r⟩
/-- a comprehension whose elements are new lists -/
def lcN (tg : Tg) (ft : FB) (fe : FA) : List D → List (List D) → DS → (List (List D) → DS → Prop) → (Err → Prop) → Prop
  | [], acc, S, C, _ => C acc S
  | x :: xs, acc, S, C, E => ∃ g, bindT tg x (wipeD S.g (slotsT tg)) = some g ∧ ft { S with g := g } (fun b S2 => if b = true then
      fe S2 (fun y S3 => lcN tg ft fe xs (acc ++ [y]) { S3 with g := restG S.g (slotsT tg) S3.g } C E) E else lcN tg ft fe xs acc { S2 with g := restG S.g (slotsT tg) S2.g } C E) E
abbrev FN := DS → (List (List D) → DS → Prop) → (Err → Prop) → Prop
def dLcN (fi : FA) (tg : Tg) (ft : FB) (fe : FA) : FN := fun S C E => fi S (fun items S1 => items.length ≤ sizeLine ∧ lcN tg ft fe items [] S1 C E) E
/-- lists in a new list -/
def tDNN (Θ : Par) (f : FN) : TE := fun σ H Q => ∃ O S C, Ctx Θ O S σ H ∧ f S C Θ.Er ∧ ∀ dss S' p qs O' H', Ctx Θ O' S' σ H' → LL O H O' H' → O' p = some 1000000 → H' p = some (.lst (qs.map V.ref)) → ¬ lv H p → ¬ lv Θ.H0 p → NQ Θ H 0 O' H' qs dss → C dss S' → Q (.ref p) H'
theorem NQ.app {q : Addr} {ds : List D} {vs : List V} (n : NQ Θ Hs 0 O H qs dss) (o : O q = some (1000000 + (dss.length + 1))) (h0 : ¬ lv Θ.H0 q) (hs : ¬ lv Hs q) (hl : H q = some (.lst vs)) (r : Reps Θ.K O H ds vs) : NQ Θ Hs 0 O H (qs ++ [q]) (dss ++ [ds]) := by
  refine ⟨by rw [List.length_append, List.length_append, n.len]; rfl, fun j q' ds' h1 h2 => ?_⟩
  by_cases hj : j < qs.length
  · rw [List.getElem?_append_left hj] at h1
    rw [List.getElem?_append_left (by rw [← n.len]; exact hj)] at h2
    exact n.at_ j q' ds' h1 h2
  · rw [List.getElem?_append_right (by omega)] at h1
    rw [List.getElem?_append_right (by rw [← n.len]; omega)] at h2
    have e : j = qs.length := by
      have := (List.getElem?_eq_some_iff.mp h1).1
      rw [List.length_singleton] at this
      omega
    subst e
    rw [Nat.sub_self] at h1
    rw [n.len, Nat.sub_self] at h2
    cases h1
    cases h2
    exact ⟨by rw [o, n.len, Nat.zero_add], h0, hs, vs, hl, r⟩
theorem lcn_tl {fi : FA} {tg : Tg} {ft : FB} {fe : FA} {vs : List Nat} (hv : vs = slotsT tg) (σ : L2.St) (H : Hp) (Q : VK) (h : tDNN Θ (dLcN fi tg ft fe) σ H Q) : tLc (tWI Θ fi) (tgOf Θ.K tg) (tDT Θ ft) (tDN Θ fe) vs σ H Q := by
  subst hv
  obtain ⟨O, S, C, c, hf, k⟩ := h
  refine ⟨O, S, _, c, hf, fun items S1 O1 H1 J G c1 l1 wk g1 ⟨hz, hc⟩ => fun p hp => ?_⟩
  obtain ⟨c2, l2⟩ := c1.newO (o := .lst []) 1000000 hp
  have hn : ¬ lv H p := fun z => nlv hp (l1.live p z)
  have h0 : ¬ lv Θ.H0 p := fun z => nlv hp (c1.live z)
  refine ⟨fun i m H2 => ∃ O2 S2 acc us, Ctx Θ O2 S2 σ H2 ∧ LL O H O2 H2 ∧ G O2 H2 ∧ O2 p = some 1000000 ∧ H2 p = some (.lst (us.map V.ref)) ∧ NQ Θ H 0 O2 H2 us acc ∧ acc.length ≤ i ∧ i ≤ items.length ∧ m = items.length - i ∧ lcN tg ft fe (items.drop i) acc S2 C Θ.Er,
    ⟨_, _, S1, [], [], c2, l1.trans l2, wk.le _ _ _ _ g1 l2.le, setO_same, upd_same, ⟨rfl, fun _ _ _ z => by cases z⟩, Nat.le_refl _, Nat.zero_le _, rfl, hc⟩, ?_⟩
  rintro i m H2 ⟨O2, S2, acc, us, c2, l2, g2, op, hl, ra, ha, hi, rfl, hw⟩
  by_cases hlt : i < items.length
  · refine .inr ⟨wk.go i O2 H2 hlt g2, fun H' => ∃ O2 S2 acc us, Ctx Θ O2 S2 σ H' ∧ LL O H O2 H' ∧ G O2 H' ∧ O2 p = some 1000000 ∧ H' p = some (.lst (us.map V.ref)) ∧ NQ Θ H 0 O2 H' us acc ∧ acc.length ≤ i + 1 ∧ lcN tg ft fe (items.drop (i + 1)) acc S2 C Θ.Er,
      fun H' ⟨O2, S2, acc, us, a1, a2, a3, a4, a5, a6, a7, a8⟩ => ⟨items.length - (i + 1), by omega, O2, S2, acc, us, a1, a2, a3, a4, a5, a6, a7, hlt, rfl, a8⟩, fun x H3 hy => ?_⟩
    obtain ⟨O3', d, a3, hd, r3⟩ := wk.yld i O2 H2 x H3 hlt g2 hy
    rw [drop_at hd] at hw
    obtain ⟨g, hg, hb⟩ := hw
    obtain ⟨c3, l3, r4⟩ := Aft.lift c2 a3 r3
    obtain ⟨op3, hl3⟩ := l3.lk p _ 0 rfl op hl
    generalize hO3 : ownA O2 H2 O3' = O3 at c3 l3 r4 op3
    have c4 := c3.wipe (slotsT tg)
    have bk : ∀ Q, _ := fun Q => bind_tg (tg := tg) (Q := Q) c4 r4 hg
    obtain ⟨σ', c5, ⟨ws, e5⟩, kk⟩ := bk (fun σ2 H2 => L2.wipe σ2 (slotsT tg) = L2.wipe σ (slotsT tg) ∧ tDT Θ ft σ2 H2 fun b H3 =>
      if b = true then tDN Θ fe σ2 H3 fun y H4 => ∃ acc, H4 p = some (.lst acc) ∧ acc.length < sizeLine ∧ (fun H' => ∃ O2 S2 acc us, Ctx Θ O2 S2 σ H' ∧ LL O H O2 H' ∧ G O2 H' ∧ O2 p = some 1000000 ∧ H' p = some (.lst (us.map V.ref)) ∧ NQ Θ H 0 O2 H' us acc ∧ acc.length ≤ i + 1 ∧ lcN tg ft fe (items.drop (i + 1)) acc S2 C Θ.Er) (upd H4 p (.lst (acc ++ [y]))) else (fun H' => ∃ O2 S2 acc us, Ctx Θ O2 S2 σ H' ∧ LL O H O2 H' ∧ G O2 H' ∧ O2 p = some 1000000 ∧ H' p = some (.lst (us.map V.ref)) ∧ NQ Θ H 0 O2 H' us acc ∧ acc.length ≤ i + 1 ∧ lcN tg ft fe (items.drop (i + 1)) acc S2 C Θ.Er) H3)
    have ew : L2.wipe σ' (slotsT tg) = L2.wipe σ (slotsT tg) := by rw [e5, wipe_sets _ _ _ fun _ h => h, wipe_idem]
    refine kk ⟨ew, O3, _, _, c5, hb, fun b S5 O5 H5 c5 l5 hb => ?_⟩
    cases b with
    | false =>
      rw [if_neg (by decide)] at hb
      obtain ⟨op5, hl5⟩ := l5.lk p _ 0 rfl (op3.trans op) hl3
      have l25 := l3.trans l5
      exact iteF ⟨O5, _, acc, us, c3.rest c5 l5 ew, l2.trans l25, wk.le _ _ _ _ g2 l25.le, op5.trans (op3.trans op), hl5, ra.step l25, by omega, hb⟩
    | true =>
      rw [if_pos rfl] at hb
      refine iteT ⟨O5, S5, _, c5, hb, fun ds S6 q vs O6 H6 c6 l6 oq nq nq0 hq r6 hcont => ?_⟩
      have l36 := l5.trans l6
      obtain ⟨op5, hl5⟩ := l5.lk p _ 0 rfl (op3.trans op) hl3
      obtain ⟨op6, hl6⟩ := l36.lk p _ 0 rfl (op3.trans op) hl3
      have op6' := op6.trans (op3.trans op)
      have l26 := l3.trans l36
      have npq : p ≠ q := fun z => nq (by rw [← z]; exact ⟨_, hl5, rfl⟩)
      have nq2 : ¬ lv H2 q := fun z => nq (l5.live q (l3.live q z))
      have nqH : ¬ lv H q := fun z => nq2 (l2.live q z)
      refine ⟨us.map V.ref, hl6, by rw [List.length_map, ra.len]; omega, ?_⟩
      have c7 := c3.rest c6 l36 ew
      obtain ⟨c8, l8⟩ := c7.tag (k := 0) (k' := acc.length + 1) oq hq nq0
      have op8 : setO O6 q (some (1000000 + (acc.length + 1))) p = some 1000000 := by rw [setO_ne npq]; exact op6'
      obtain ⟨c9, l9⟩ := c8.putR (o := .lst ((us ++ [q]).map V.ref)) (k := 0) op8 hl6 h0
      have hq9 : upd H6 p (.lst ((us ++ [q]).map V.ref)) q = some (.lst vs) := by rw [upd_ne (fun z => npq z.symm)]; exact hq
      have l29 := (l26.new l8 nq2)
      have ra8 := ra.step l29
      have ra9 := (ra8.app setO_same nq0 nqH hq (Reps.le l8.1 _ _ r6)).stepP l9 (fun j z => by
        rw [op8] at z
        have := Option.some.inj z
        omega)
      have em : us.map V.ref ++ [V.ref q] = (us ++ [q]).map V.ref := by rw [List.map_append]; rfl
      rw [em]
      exact ⟨_, _, acc ++ [ds], us ++ [q], c9, ((l2.trans l26).new l8 nqH).new l9 hn, wk.le _ _ _ _ (wk.le _ _ _ _ g2 l29.le) l9.1, op8, upd_same, ra9, by rw [List.length_append]; show acc.length + 1 ≤ i + 1; omega, hcont⟩
  · have hi2 : i = items.length := by omega
    refine .inl ⟨by rw [hi2]; exact wk.stop O2 H2 g2, ?_⟩
    rw [hi2, List.drop_length] at hw
    exact k acc S2 p us O2 H2 c2 l2 op hl hn h0 ra hw
abbrev FNS := List (List D) → DS → (List (List D) → DS → Prop) → (Err → Prop) → Prop
abbrev FG := List (List D) → DS → DN → (Err → Prop) → Prop
def tNs (Θ : Par) (i : Nat) (f : FNS) : TS := fun D' σ H => ∃ Os Hs O S dss C, Ctx Θ O S σ H ∧ LL Os Hs O H ∧ Nst Θ i Hs dss O σ H ∧ f dss S C Θ.Er ∧ ∀ O' S' dss' H', Ctx Θ O' S' σ H' → LL Os Hs O' H' → Nst Θ i Hs dss' O' σ H' → C dss' S' → D'.nx σ H'
def tNg (Θ : Par) (i : Nat) (f : FG) : TS := fun D' σ H => ∃ Os Hs O S dss e, Ctx Θ O S σ H ∧ LL Os Hs O H ∧ Nst Θ i Hs dss O σ H ∧ f dss S e Θ.Er ∧ (∀ O' S' σ' H', Ctx Θ O' S' σ' H' → LL Os Hs O' H' → e.nx S' → D'.nx σ' H') ∧
  (∀ d S' σ' v O' H', Ctx Θ O' S' σ' H' → Rep Θ.K O' H' d v → (Θ.fr = true → ∀ p, v = .ref p → ¬ lv Θ.H0 p) → e.rt d S' → D'.rt v H') ∧ (∀ O' S' σ' H', Ctx Θ O' S' σ' H' → LL Os Hs O' H' → e.bk S' → D'.bk σ' H') ∧ (∀ O' S' σ' H', Ctx Θ O' S' σ' H' → LL Os Hs O' H' → e.ct S' → D'.ct σ' H')
theorem Nst.step {i : Nat} (n : Nst Θ i Hs dss O σ H) (l : LL O H O' H') : Nst Θ i Hs dss O' σ H' := by
  obtain ⟨p, qs, a, b, c, d, e, n⟩ := n
  obtain ⟨e1, e2⟩ := l.lk p _ 0 rfl b c
  exact ⟨p, qs, a, e1.trans b, e2, d, e, n.step l⟩
variable {st : Stmt} {sts : List Stmt} {i : Nat}
def dNcons (f : FNS) (k : FG) : FG := fun dss S e E => f dss S (fun dss1 S1 => k dss1 S1 e E) E
theorem ng_cons {f : FNS} {k : FG} (h : PSs X sts (tSeq (tNs Θ i f) (tNg Θ i k))) : PSs X sts (tNg Θ i (dNcons f k)) := pss_imp h fun D' σ H ⟨Os, Hs, O, S, dss, e, c, l, n, hf, kk⟩ =>
  ⟨Os, Hs, O, S, dss, _, c, l, n, hf, fun O' S' dss' H' c' l' n' hc => ⟨Os, Hs, O', S', dss', e, c', l', n', hc, kk⟩⟩
def dNend (i : Nat) (g : FS) : FG := fun dss S e E => i < S.g.length ∧ g { S with g := S.g.set i (.da (.lst (dss.map .lst))) } e E
theorem ng_end {g : FS} (h : PSs X sts (tDS Θ g)) : PSs X sts (tNg Θ i (dNend i g)) := pss_imp h fun D' σ H ⟨Os, Hs, O, S, dss, e, c, l, n, ⟨hi, hf⟩, k1, k2, k3, k4⟩ => by
  obtain ⟨p, qs, hs, op, hp, p0, ps, n⟩ := n
  have hq : ∀ q ∈ qs, ¬ lv Hs q := fun q hq => by
    obtain ⟨j, hj, e⟩ := List.getElem_of_mem hq
    have h1 : qs[j]? = some q := by rw [List.getElem?_eq_getElem hj, e]
    have hj2 : j < dss.length := by rw [← n.len]; exact hj
    exact (n.at_ j q _ h1 (List.getElem?_eq_getElem hj2)).2.2.1
  obtain ⟨O1, c1, le1, op1, kl, r1⟩ := frz_all qs dss 0 O c n op
  have l1 := kl Os Hs l hq
  obtain ⟨c2, l2⟩ := c1.frzN op1 p0 hp
  have r2 : Rep Θ.K (setO O1 p none) H (.lst (dss.map .lst)) (.ref p) := rep_frz hp l2.1 r1
  have c3 := c2.setD (i := i) r2
  have e1 : σ.set i (some (V.ref p)) = σ := by
    apply List.ext_getElem?
    intro j
    rw [List.getElem?_set]
    split
    · next e =>
      rw [← e] at *
      rw [hs]
      split
      · rfl
      · next q => exact absurd (List.getElem?_eq_some_iff.mp hs).1 q
    · rfl
  rw [e1] at c3
  have l3 := l1.new l2 ps
  exact ⟨_, _, e, c3, hf, fun O' S' σ' H' c' l' q => k1 O' S' σ' H' c' (l3.trans l') q, k2, fun O' S' σ' H' c' l' q => k3 O' S' σ' H' c' (l3.trans l') q, fun O' S' σ' H' c' l' q => k4 O' S' σ' H' c' (l3.trans l') q⟩
def dNbeg (i : Nat) (f : FN) (k : FG) : FS := fun S e E => f S (fun dss S1 => i < S1.g.length ∧ k dss { S1 with g := S1.g.set i .un } e E) E
theorem ds_nst {f : FN} {k : FG} (h : PSs X sts (tSeq (tAsg (tDNN Θ f) (gName i)) (tNg Θ i k))) : PSs X sts (tDS Θ (dNbeg i f k)) := pss_imp h fun D' σ H ⟨O, S, e, c, hf, kk⟩ =>
  ⟨O, S, _, c, hf, fun dss S1 p qs O1 H1 c1 l1 op hp ps p0 n ⟨hi, hc⟩ => by
    have c3' : Ctx Θ O1 { S1 with g := S1.g.set i Sl.un } (σ.set i (some (.ref p))) H1 := c1.unset
    exact ⟨O, H, O1, _, dss, e, c3', l1, ⟨p, qs, by rw [List.getElem?_set, if_pos rfl, if_pos (by rw [← c1.len]; exact hi)], op, hp, p0, ps, n⟩, hc, kk⟩⟩
/-- one of the lists changes -/
theorem nst_put {k : Nat} {ds es : List D} {q : Addr} {p : Addr} {us : List V} (c : Ctx Θ O S σ H) (hs : σ[i]? = some (some (.ref p))) (op : O p = some 1000000) (hp : H p = some (.lst (qs.map V.ref))) (p0 : ¬ lv Θ.H0 p) (ps : ¬ lv Hs p) (n : NQ Θ Hs 0 O H qs dss)
    (hq : qs[k]? = some q) (hd : dss[k]? = some ds) (r : Reps Θ.K O H es us) :
    Ctx Θ O S σ (upd H q (.lst us)) ∧ LP q O H O (upd H q (.lst us)) ∧ ¬ lv Hs q ∧ Nst Θ i Hs (dss.set k es) O σ (upd H q (.lst us)) := by
  obtain ⟨oq, q0, qs0, vs, hl, _⟩ := n.at_ k q ds hq hd
  obtain ⟨c1, l1⟩ := c.putR (o := .lst us) oq hl q0
  have npq : p ≠ q := fun z => by
    rw [z, oq] at op
    have := Option.some.inj op
    omega
  refine ⟨c1, l1, qs0, p, qs, hs, op, by rw [upd_ne npq]; exact hp, p0, ps, by rw [List.length_set]; exact n.len, fun j q' ds' h1 h2 => ?_⟩
  rw [List.getElem?_set] at h2
  by_cases e : k = j
  · rw [if_pos e] at h2
    split at h2
    · cases h2
      subst e
      rw [hq] at h1
      cases h1
      exact ⟨oq, q0, qs0, us, upd_same, Reps.le l1.1 _ _ r⟩
    · cases h2
  · rw [if_neg e] at h2
    obtain ⟨a, b, c2, vs', d, r'⟩ := n.at_ j q' ds' h1 h2
    have ne : q' ≠ q := fun z => by
      rw [z, oq] at a
      have := Option.some.inj a
      omega
    exact ⟨a, b, c2, vs', by rw [upd_ne ne]; exact d, Reps.le l1.1 _ _ r'⟩
theorem nst_at {k : Nat} {ds : List D} (n : NQ Θ Hs 0 O H qs dss) (hd : dss[k]? = some ds) : ∃ q, qs[k]? = some q ∧ atI (qs.map V.ref) (k : Int) = some (.ref q) := by
  have hk : k < qs.length := by rw [n.len]; exact (List.getElem?_eq_some_iff.mp hd).1
  refine ⟨qs[k], List.getElem?_eq_getElem hk, atI_nat ?_⟩
  rw [List.getElem?_map, List.getElem?_eq_getElem hk]
  rfl
def dNset (k : Nat) (fi fe : FE) : FNS := fun dss S C E => fe S (fun y S1 => ∃ ds, dss[k]? = some ds ∧ fi S1 (fun x S2 => ∃ n j, x = .int n ∧ ixN ds.length n = some j ∧ C (dss.set k (ds.set j y)) S2) E) E
theorem ns_set {k : Nat} {z : Int} {fi fe : FE} (hz : z = (k : Int)) (h : PS X st (tAsg (tD Θ fe) (gSub (tOp (rIx Θ.K) (tVar i) (tC (.int z))) (tD Θ fi) rSetL))) : PS X st (tNs Θ i (dNset k fi fe)) := ps_imp h fun D' σ H ⟨Os, Hs, O, S, dss, C, c, l, n, hf, kk⟩ => by
  subst hz
  refine ⟨O, S, _, c, hf, fun y S1 v O1 H1 c1 l1 r1 ⟨ds, hd, h1⟩ => ?_⟩
  obtain ⟨p, qs, hs, op, hp, p0, ps, n1⟩ := n.step l1
  obtain ⟨q, hq, ha⟩ := nst_at n1 hd
  refine ⟨_, hs, .inl ⟨p, _, _, _, rfl, rfl, .inl (.inl hp), ha, O1, S1, _, c1, h1, fun x S2 u O2 H2 c2 l2 r2 ⟨m, j, e1, hj, hc⟩ => ?_⟩⟩
  subst e1
  cases r2
  obtain ⟨p', qs', hs', op', hp', p0', ps', n2⟩ := (n.step l1).step l2
  rw [hs] at hs'
  cases hs'
  have eq : qs'.map V.ref = qs.map V.ref := by
    have := (l2.lk p _ 0 rfl op hp).2
    rw [hp'] at this
    exact HO.lst.inj (Option.some.inj this)
  have hq' : qs'[k]? = some q := by
    have a : (qs'.map V.ref)[k]? = (qs.map V.ref)[k]? := by rw [eq]
    rw [List.getElem?_map, List.getElem?_map, hq] at a
    cases b : qs'[k]? with
    | none => rw [b] at a; cases a
    | some w => rw [b] at a; cases a; rfl
  obtain ⟨oq, q0, qs0, vs, hl, rr⟩ := n2.at_ k q ds hq' hd
  obtain ⟨c3, l3, ns3, n3⟩ := nst_put c2 hs op' hp' p0' ps' n2 hq' hd (rr.sets j (Rep.le l2.le _ _ r1))
  exact ⟨q, vs, m, j, rfl, rfl, hl, by rw [rr.len]; exact hj, kk O2 S2 _ _ c3 (((l.trans l1).trans l2).new l3 ns3) n3 hc⟩
def dNapp (k : Nat) (fa : FA) : FNS := fun dss S C E => (∃ ds, dss[k]? = some ds) ∧ fa S (fun ys S1 => ∃ y ds, ys = [y] ∧ dss[k]? = some ds ∧ ds.length < sizeLine ∧ C (dss.set k (ds ++ [y])) S1) E
theorem ns_app {k : Nat} {z : Int} {fa : FA} (hz : z = (k : Int)) (h : PS X st (tDrop (tBM Θ.K "list" rAppend (tOp (rIx Θ.K) (tVar i) (tC (.int z))) (tDA Θ fa)))) : PS X st (tNs Θ i (dNapp k fa)) := ps_imp h fun D' σ H ⟨Os, Hs, O, S, dss, C, c, l, n, ⟨⟨ds, hd⟩, hf⟩, kk⟩ => by
  subst hz
  obtain ⟨p, qs, hs, op, hp, p0, ps, n1⟩ := id n
  obtain ⟨q, hq, ha⟩ := nst_at n1 hd
  obtain ⟨oq, q0, qs0, vs, hl, rr⟩ := n1.at_ k q ds hq hd
  refine ⟨_, hs, .inl ⟨p, _, _, _, rfl, rfl, .inl (.inl hp), ha, .inl ⟨rfl, vs, .inl (.inl hl)⟩, O, S, _, c, hf, fun ys S1 us O1 H1 c1 l1 r1 ⟨y, ds2, e1, hd2, hz, hc⟩ => ?_⟩⟩
  subst e1
  rw [hd] at hd2
  cases hd2
  obtain ⟨u, _, e1, r2, e2⟩ := r1
  cases e2
  subst e1
  obtain ⟨op1, hp1⟩ := l1.lk p _ 0 rfl op hp
  obtain ⟨oq1, hl1⟩ := l1.lk q _ _ rfl oq hl
  obtain ⟨c3, l3, ns3, n3⟩ := nst_put c1 hs (op1.trans op) hp1 p0 ps (n1.step l1) hq hd (Reps.app (Reps.le l1.le _ _ rr) (show Reps Θ.K O1 H1 [y] [u] from ⟨u, [], rfl, r2, rfl⟩))
  exact ⟨q, vs, u, rfl, rfl, hl1, by rw [rr.len]; exact hz, kk O1 S1 _ _ c3 ((l.trans l1).new l3 ns3) n3 hc⟩
theorem Reps.dropLast {K : PySem.W.Frag} {ds : List D} {vs : List V} (r : Reps K O H ds vs) : Reps K O H ds.dropLast vs.dropLast := by
  rw [List.dropLast_eq_take, List.dropLast_eq_take, r.len]
  exact r.take _
def dNpop (k : Nat) : FNS := fun dss S C _ => ∃ ds, dss[k]? = some ds ∧ 0 < ds.length ∧ C (dss.set k ds.dropLast) S
theorem ns_pop {k : Nat} {z : Int} (hz : z = (k : Int)) (h : PS X st (tDrop (tBM0 Θ.K "list" rPop (tOp (rIx Θ.K) (tVar i) (tC (.int z)))))) : PS X st (tNs Θ i (dNpop k)) := ps_imp h fun D' σ H ⟨Os, Hs, O, S, dss, C, c, l, n, ⟨ds, hd, h0, hc⟩, kk⟩ => by
  subst hz
  obtain ⟨p, qs, hs, op, hp, p0, ps, n1⟩ := id n
  obtain ⟨q, hq, ha⟩ := nst_at n1 hd
  obtain ⟨oq, q0, qs0, vs, hl, rr⟩ := n1.at_ k q ds hq hd
  obtain ⟨c3, l3, ns3, n3⟩ := nst_put c hs op hp p0 ps n1 hq hd (Reps.dropLast rr)
  exact ⟨_, hs, .inl ⟨p, _, _, _, rfl, rfl, .inl (.inl hp), ha, .inl ⟨rfl, vs, .inl (.inl hl)⟩, q, vs, _, rfl, rfl, hl, List.getElem?_eq_getElem (by rw [rr.len]; omega), kk O S _ _ c3 (l.new l3 ns3) n3 hc⟩⟩
end
end DL
end
section
set_option maxHeartbeats 4000000
namespace DL
variable [TB]
open PySem PySem.Spec PyProof.Rows L2 G1
/-! ### dicts -/
theorem tabs_updK {H : Hp} {p : Addr} {vs : List (Key × V)} {o : HO} (hl : H p = some (.dK vs)) (h : LamX.Tabs TB.T H) : LamX.Tabs TB.T (upd H p o) := fun t ht => by
  obtain ⟨ps, h1, h2, h3⟩ := h t ht
  refine ⟨ps, ?_, h2, fun pos cv hc => ?_⟩
  · rw [upd_ne (fun z => by rw [z, hl] at h1; cases h1)]
    exact h1
  · obtain ⟨c0, e1, e2⟩ := h3 pos cv hc
    refine ⟨c0, e1, ?_⟩
    rw [upd_ne (fun z => by rw [z, hl] at e2; unfold LamX.CodeO at e2; cases e2)]
    exact e2
theorem samex_updK {t : Option Addr} {H0 H : Hp} {p : Addr} {vs : List (Key × V)} {o : HO} (a : SameX t H0 H) (hl : H p = some (.dK vs)) (h0 : ¬ lv H0 p) : SameX t H0 (upd H p o) :=
  ⟨fun b u hb i h => by
    rw [upd_ne (lv_ne ⟨u, h, i⟩ h0)]
    exact a.sm b u hb i h, fun h => tabs_updK hl (a.tb h)⟩
section
variable {X : Cx} {Θ : Par} {e : Expr}
theorem Ctx.putK {O : Ow} {S : DS} {σ : L2.St} {H : Hp} {p : Addr} {k : Nat} {vs : List (Key × V)} {o : HO} (c : Ctx Θ O S σ H) (hp : O p = some (1000000 + k)) (hl : H p = some (.dK vs)) (h0 : ¬ lv Θ.H0 p) (ho : isTbl o = false := by rfl) :
    Ctx Θ O S σ (upd H p o) ∧ LP p O H O (upd H p o) := by
  have ne : ∀ {b : Addr}, O b = none → b ≠ p := fun e z => by rw [z, hp] at e; cases e
  have le : Le O H O (upd H p o) := ⟨fun b u _ e hb => ⟨e, by rw [upd_ne (ne e)]; exact hb⟩, fun b u hu hb => by
    have n : b ≠ p := fun z => by
      rw [z, hl] at hb
      cases hb
      cases hu
    rw [upd_ne n]
    exact hb⟩
  refine ⟨⟨c.len, c.few, fun j s h => ?_, ?_, ⟨samex_updK c.aft.same hl h0, c.aft.own⟩, c.ew⟩, le, fun b u k n _ e h => ⟨rfl, by rw [upd_ne n]; exact h⟩, fun b h => ?_⟩
  · obtain ⟨o', ho, hr⟩ := c.sl j s h
    refine ⟨o', ho, ?_⟩
    cases s with
    | un => exact hr
    | da d =>
      obtain ⟨v, e2, hr⟩ := hr
      exact ⟨v, e2, Rep.le le d v hr⟩
    | ow xs =>
      obtain ⟨q, ws, e2, oq, hq, g0, hr⟩ := hr
      have n : q ≠ p := fun z => by
        rw [z, hp] at oq
        have : j < S.g.length := (List.getElem?_eq_some_iff.mp h).1
        have := c.len
        have := c.few
        have := Option.some.inj oq
        omega
      exact ⟨q, ws, e2, oq, by rw [upd_ne n]; exact hq, g0, Reps.le le xs ws hr⟩
  · have hc := c.tr
    match Θ.tr, hc with
    | none, _ => exact True.intro
    | some (b, d), ⟨ns0, k0, r0, t0⟩ =>
      have n : b ≠ p := fun z => by
        have := t0.own
        rw [z, hp] at this
        have := Option.some.inj this
        omega
      exact ⟨ns0, k0, r0, t0.own, by rw [upd_ne n]; exact t0.at_, t0.cown, (le.no _ _ rfl t0.cown t0.cells).2, t0.few, t0.low, t0.left⟩
  · by_cases z : b = p
    · exact ⟨_, by rw [z, upd_same], ho⟩
    · obtain ⟨u, e, i⟩ := h
      exact ⟨u, by rw [upd_ne z]; exact e, i⟩
def dDnew : FE := fun S C _ => C (.dic [] []) S
theorem de_dnew (h : PE X e tDNewK) : PE X e (tD Θ dDnew) := pe_imp h fun σ H Q ⟨O, S, C, c, hf, k⟩ => fun p hp =>
  let ⟨c3, l3, r4⟩ := Aft.lift c (upd_aft (O := O) hp) (show Rep Θ.K (setO O p none) (upd H p (.dK [])) (.dic [] []) (.ref p) from ⟨p, [], rfl, ⟨setO_same, upd_same⟩, rfl, rfl⟩)
  k _ S _ _ _ c3 l3 r4 hf
def dDisp1 (x : Key) (fv : FE) : FE := fun S C E => fv S (fun d S1 => C (.dic [x] [d]) S1) E
theorem de_disp1 {x : Key} {fv : FE} (h : PE X e (tDisp [(tC (kV x), tD Θ fv)])) : PE X e (tD Θ (dDisp1 x fv)) := pe_imp h fun σ H Q ⟨O, S, C, c, hf, k⟩ => fun p hp => by
  obtain ⟨c1, l1⟩ := c.newO (o := .dK []) 1000000 hp
  have nH : ¬ lv H p := nlv hp
  have n0 : ¬ lv Θ.H0 p := fun z => nlv hp (c.live z)
  refine ⟨_, S, _, c1, hf, fun d S1 v O2 H2 c2 l2 r hc => ?_⟩
  obtain ⟨op, hl⟩ := l2.lk p _ 0 rfl setO_same upd_same
  have op2 : O2 p = some 1000000 := op.trans setO_same
  obtain ⟨c3, l3⟩ := c2.putK (o := .dK [(x, v)]) (k := 0) op2 hl n0
  obtain ⟨c4, l4⟩ := c3.frz (p := p) (o := .dK [(x, v)]) (k := 1000000) op2 (by omega) (fun i ds h z => by
    have h2 : i < S1.g.length := (List.getElem?_eq_some_iff.mp h).1
    have := c3.len
    have := c3.few
    omega) upd_same (fun z => absurd z n0)
  refine ⟨hl, [(x, v)], rfl, by show 1 ≤ 15; decide, ?_⟩
  have l5 := (((l1.trans l2).new l3 nH).new l4 nH)
  exact k (.dic [x] [d]) S1 (.ref p) _ _ c4 l5 ⟨p, [(x, v)], rfl, ⟨setO_same, upd_same⟩, rfl, ⟨v, [], rfl, Rep.le (l3.1.trans l4.1) _ _ r, rfl⟩⟩ hc
end
end DL
namespace DL
variable [TB]
open PySem PySem.Spec PyProof.Rows L2 G1 G2 LamX
theorem passL {X : Cx} {A : Around} {outer : List Env} {s : Shared} {H : Hp} {E : XK} {scope : Scope} {f c' : Addr} : Passes (L2.CX X.prog X.w) (lamCx X A outer s H E scope f c') E :=
  passes_call (W := fun cls d _ H => E cls d H) (takes_of rfl rfl rfl rfl) (fun _ _ _ _ h => h)
theorem as_lcn {X : Cx} {Θ : Par} {st : Stmt} {fi : FA} {tg : Tg} {ft : FB} {fe : FA} {vs : List Nat} {i : Nat} (h : PS X st (tAsg (tLc (tWI Θ fi) (tgOf Θ.K tg) (tDT Θ ft) (tDN Θ fe) vs) (gName i))) (hv : vs = slotsT tg := by rfl) : PS X st (tAsg (tDNN Θ (dLcN fi tg ft fe)) (gName i)) :=
  ps_imp h fun D' σ H q => lcn_tl hv σ H _ q
end DL
end
section
set_option maxHeartbeats 4000000
/-! own rules: xs[::-1], del xs[k:], xs.extend(tuple), tuple * 0, 1 -/
namespace R1
open PySem PySem.Spec PyProof.Rows L2 HT
section
variable {prog : Program} {w : World} {A : Around} {E : Value → Shared → Prop} {s : Shared}
theorem extendTW (l : Addr) (items : Array Value) (n : Nat) (b : Addr) (items2 : Array Value) (n2 : Nat) (dd2 : Option Addr) (sl2 : Array (Option Value)) (hs0 : ¬(!items.isEmpty && Builtin.List.listTooLong (items.size + items2.size)) = true) (hs1 : items.size ≤ sizeLine) (hs2 : items.size + items2.size ≤ sizeLine + 1) :
    Meets (Builtin.«list.extend» ⟨[.ref l, .ref b], []⟩) (fun _ R s => s.heap.get? l = some { cls := .type "list", dict := none, data := .seq items n, slots := #[] } ∧ s.heap.get? b = some { cls := .type "tuple", dict := dd2, data := .seq items2 n2, slots := sl2 } ∧ R (.ok (.ret Value.none)) { s with heap := s.heap.update l (Obj.mapSeq fun x => x ++ items2), toks := s.toks }) :=
  .of_wp fun prog w A R s h => by
    obtain ⟨hp, g, d, tk, os⟩ := s; obtain ⟨hl, hb, h⟩ := h; have f1 := AutoSeq1.idx_int; have f2 := AutoSeq1.sub_tuple_tuple; have f3 := AutoSeq1.sub_list_list; have f4 := AutoSeq1.sub_tuple_list; have f5 := AutoSeq1.sub_list_tuple
    have hz' : (items ++ items2).size ≤ sizeLine + 1 := by rw [Array.size_append]; exact hs2
    wp_walk using (wpAny_updateSeq hl rfl (hz := hs1) (_hz' := hz')), AutoSeq1.wpAny_loadPart' hl, AutoSeq1.wpAny_loadPart' hb; exact ⟨_, rfl, h⟩
theorem tuple_mulW1 (l : Addr) (items : Array Value) (n : Nat) (dd : Option Addr) (sl : Array (Option Value)) (u : Tok) :
    Meets (Builtin.«tuple.__mul__» ⟨[.ref l, .int 1 u], []⟩) (fun _ R s => s.heap.get? l = some { cls := .type "tuple", dict := dd, data := .seq items n, slots := sl } ∧ R (.ok (.ret (.ref l))) { s with heap := s.heap, toks := s.toks }) :=
  .of_wp fun prog w A R s h => by
    obtain ⟨hp, g, d, tk, os⟩ := s
    obtain ⟨hl, h⟩ := h
    have f1 := AutoSeq1.idx_int
    have c0 : (decide ((1 : Int) < -(2 ^ 63)) || decide ((1 : Int) ≥ 2 ^ 63)) = false := by decide
    have c1 : (items.isEmpty || (1 : Int) == 1) = true := by rw [show ((1 : Int) == 1) = true from rfl, Bool.or_true]
    wp_walk using AutoSeq1.wpAny_loadPart' hl
    repeat (first
      | (refine wpAny_ite_false (decide_eq_false (by rw [c0]; exact Bool.false_ne_true)) ?_; wp_walk using AutoSeq1.wpAny_loadPart' hl)
      | (refine wpAny_ite_true (decide_eq_true (by rw [c1])) ?_; wp_walk using AutoSeq1.wpAny_loadPart' hl))
    exact ⟨_, rfl, h⟩
theorem tuple_mulW0 (l : Addr) (items : Array Value) (n : Nat) (dd : Option Addr) (sl : Array (Option Value)) (u : Tok) (c1 : (items.isEmpty || (0 : Int) == 1) = false) :
    Meets (Builtin.«tuple.__mul__» ⟨[.ref l, .int 0 u], []⟩) (fun _ R s => s.heap.get? l = some { cls := .type "tuple", dict := dd, data := .seq items n, slots := sl } ∧ R (.ok (.ret (.ref s.heap.objs.size))) { s with heap := s.heap.push { cls := Value.type "tuple", data := Data.seq #[] }, toks := s.toks }) :=
  .of_wp fun prog w A R s h => by
    obtain ⟨hp, g, d, tk, os⟩ := s
    obtain ⟨hl, h⟩ := h
    have f1 := AutoSeq1.idx_int
    have c0 : (decide ((0 : Int) < -(2 ^ 63)) || decide ((0 : Int) ≥ 2 ^ 63)) = false := by decide
    have c2 : (decide ((0 : Int) ≤ 0) || items.isEmpty) = true := by rw [show decide ((0 : Int) ≤ 0) = true from rfl, Bool.true_or]
    wp_walk using AutoSeq1.wpAny_loadPart' hl
    repeat (first
      | (refine wpAny_ite_false (decide_eq_false (by rw [c0]; exact Bool.false_ne_true)) ?_; wp_walk using AutoSeq1.wpAny_loadPart' hl)
      | (refine wpAny_ite_false (decide_eq_false (by rw [c1]; exact Bool.false_ne_true)) ?_; wp_walk using AutoSeq1.wpAny_loadPart' hl)
      | (refine wpAny_ite_true (decide_eq_true (by rw [c2])) ?_; wp_walk using AutoSeq1.wpAny_loadPart' hl))
    exact ⟨_, rfl, h⟩
end
end R1
end
section
set_option maxHeartbeats 4000000
namespace R1
open PySem PySem.Spec PyProof.Rows L2 HT
section
variable {X : Cx}
/-- xs.extend(ys), ys a list or a tuple -/
def rExtA (K : PySem.W.Frag) : V → List V → Hp → VK → Prop := fun x vs H Q => ∃ l b xs zs, x = .ref l ∧ vs = [.ref b] ∧ H l = some (.lst xs) ∧ (SqT K H b zs ∨ H b = some (.lst zs)) ∧ xs.length + zs.length ≤ sizeLine ∧ Q .non (upd H l (.lst (xs ++ zs)))
theorem mt_extA : MtM X "list.extend" (rExtA X.K) := by
  intro pins s σ H x vs v us Q I rx rv h
  obtain ⟨l, b, xs, zs, rfl, rfl, hH, hB, hz, q⟩ := h
  rcases hB with hB | hB
  · cases rx
    obtain ⟨u, rfl, ru⟩ := rv.one
    cases ru
    obtain ⟨z, its, n, r, hl, e⟩ := I.lstM hH
    obtain ⟨its2, r2, ⟨⟨cls, dd, data, sl⟩, ho, hc, n2, hd⟩, hs⟩ := I.tuple hB
    simp only at hc hd
    subst hc hd
    have hl2 := r2.length
    have hsz : its.toArray.size + its2.toArray.size ≤ sizeLine := by rw [List.size_toArray, List.size_toArray]; omega
    have hlong : ¬ (!its.toArray.isEmpty && Builtin.List.listTooLong (its.toArray.size + its2.toArray.size)) = true := by
      rw [notLongL hsz, Bool.and_false]
      exact Bool.false_ne_true
    refine call_meets PySem.F.slot_list_extend ⟨_, e, rfl⟩ PySem.F.entry_list_extend (PySem.F.args_list_extend_2 _ _)
      (extendTW l its.toArray n b its2.toArray n2 dd sl hlong (by rw [List.size_toArray]; omega) (by omega)) ⟨e, ho, ?_⟩
    refine ⟨.non, _, I.lset (its' := its ++ its2) hH e (by simp) (r.append r2) ?_, rfl, q⟩
    rw [List.length_append]
    omega
  · exact mt_extend pins s σ H _ _ v us Q I rx rv ⟨l, b, xs, zs, rfl, rfl, hH, hB, hz, q⟩
/-- tuple * 0, * 1, .. -/
def rRepA (K : PySem.W.Frag) : R2 := fun x y H Q => ∃ l k xs, x = .ref l ∧ y = .int k ∧ SqT K H l xs ∧ xs ≠ [] ∧ 0 ≤ k ∧ k ≤ 1000 ∧ xs.length ≤ 1000 ∧ (k = 1 → Q (.ref l) H) ∧ (k ≠ 1 → ∀ p, H p = none → Q (.ref p) (upd H p (.tup (List.replicate k.toNat xs).flatten)))
theorem op_repA : OpR X (binaryOp .Mult) (rRepA X.K) := by
  intro pins s σ H x y v u Q I rx ry h
  obtain ⟨l, k, xs, rfl, rfl, hT, hne, h1, h2, hz, q1, q⟩ := h
  by_cases h3 : 2 ≤ k
  · exact op_repT pins s σ H _ _ v u Q I rx ry ⟨l, k, xs, rfl, rfl, hT, hne, h3, h2, hz, q (by omega)⟩
  cases rx
  obtain ⟨t, rfl⟩ := ry
  obtain ⟨its, r, ⟨⟨cls, dd, data, sl⟩, ho, hc, n, hd⟩, hs⟩ := I.tuple hT
  simp only at hc hd
  subst hc hd
  have hle : its.length = xs.length := r.length.symm
  have hn : its ≠ [] := fun e => hne (by
    rw [e] at hle
    exact List.eq_nil_of_length_eq_zero hle.symm)
  have hi : its.toArray.isEmpty = false := by
    cases its with
    | nil => exact absurd rfl hn
    | cons a b => rfl
  by_cases h4 : k = 1
  · subst h4
    exact wpAny_binaryOp_repeat_ref (T := "tuple") (U := "int") (by decide) ⟨_, ho, rfl⟩ (fun s' => typeIs_int s' 1 t) noFill_tuple_mul PySem.F.fills_int_mul PySem.F.slot_int_rmul repeat_tuple PySem.F.slot_int_index.lookup
      (call_meets PySem.F.slot_int_rmul (typeIs_int s 1 t) PySem.F.entry_int_rmul (PySem.F.args_int_rmul_2 _ _) (int_rmul_tuple 1 t l its.toArray n dd sl)
        ⟨ho, rfl, ⟨_, ho, rfl⟩, call_meets PySem.F.slot_tuple_mul ⟨_, ho, rfl⟩ PySem.F.entry_tuple_mul (PySem.F.args_tuple_mul_2 _ _) (tuple_mulW1 l its.toArray n dd sl t) ⟨ho, ⟨.ref l, H, I, rfl, q1 rfl⟩⟩⟩)
  · have h5 : k = 0 := by omega
    subst h5
    refine wpAny_binaryOp_repeat_ref (T := "tuple") (U := "int") (by decide) ⟨_, ho, rfl⟩ (fun s' => typeIs_int s' 0 t) noFill_tuple_mul PySem.F.fills_int_mul PySem.F.slot_int_rmul repeat_tuple PySem.F.slot_int_index.lookup
      (call_meets PySem.F.slot_int_rmul (typeIs_int s 0 t) PySem.F.entry_int_rmul (PySem.F.args_int_rmul_2 _ _) (int_rmul_tuple 0 t l its.toArray n dd sl)
        ⟨ho, rfl, ⟨_, ho, rfl⟩, call_meets PySem.F.slot_tuple_mul ⟨_, ho, rfl⟩ PySem.F.entry_tuple_mul (PySem.F.args_tuple_mul_2 _ _) (tuple_mulW0 l its.toArray n dd sl t (by rw [hi]; rfl)) ⟨ho, ?_⟩⟩)
    refine ⟨.ref s.heap.objs.size, _, I.laid (t' := s.toks) (o := .tup (List.replicate (0 : Int).toNat xs).flatten) (fun b ob q => Heap.get?_push_of_some _ q) (Nat.le_refl _) ?_, rfl, q h4 _ (I.hok.fresh (Nat.le_refl _))⟩
    exact ⟨Nat.zero_le _, [], .nil, IsTup.new _ _⟩
end
section
variable {X : Cx} {e : Expr} {te : TE} {pos p2 p3 p4 : Pos} {kk : Nat}
/-! ### xs[::-1] -/
theorem range_rev (n : Nat) : sliceRange ((n : Int) - 1) (-1) (-1) = (List.range n).map fun k => n - 1 - k := by
  unfold sliceRange
  simp only [show ¬ ((-1 : Int) > 0) by decide, if_false]
  simp only [Int.neg_neg, Int.ediv_one]
  have e : (if (n : Int) - 1 > -1 then (n : Int) - 1 - -1 - -1 - 1 else 0).toNat = n := by
    split <;> omega
  rw [e]
  refine List.map_congr_left fun k hk => ?_
  have := List.mem_range.mp hk
  omega
theorem pick_rev (its : List Value) : slicePick its.toArray none none (some (-1)) = its.reverse.toArray := by
  unfold slicePick
  have b : sliceBounds none none (some (-1)) its.toArray.size = (((its.length : Nat) : Int) - 1, -1, -1) := by
    simp [sliceBounds]
  rw [b]
  simp only [range_rev]
  congr 1
  apply List.ext_getElem?
  intro i
  rw [List.filterMap_map]
  have key : ∀ m ≤ its.length, (List.range m).filterMap ((fun x => its.toArray[x]?) ∘ fun k => its.length - 1 - k) = its.reverse.take m := by
    intro m
    induction m with
    | zero => intro _; rfl
    | succ m ih =>
      intro hm
      rw [List.range_succ, List.filterMap_append, ih (by omega), List.take_add_one]
      congr 1
      have h1 : its.length - 1 - m < its.length := by omega
      simp [List.filterMap_cons, List.getElem?_eq_getElem h1, List.getElem?_reverse (show m < its.length by omega)]
  have := key its.length (Nat.le_refl _)
  rw [this, List.take_of_length_le (by rw [List.length_reverse]; exact Nat.le_refl _)]
def tRev (K : PySem.W.Frag) (te : TE) : TE := fun σ H Q => te σ H fun x H1 => ∃ a xs, x = .ref a ∧ SqL K H1 a xs ∧ ∀ p, H1 p = none → Q (.ref p) (upd H1 p (.lst xs.reverse))
theorem pe_rev (he : PE X e te) : PE X (.Subscript e (.Slice none none (some (.UnaryOp .USub (.Constant (.int 1) kk p3) p4)) p2) pos) (tRev X.K te) := by
  refine ⟨fun pins s σ H Q I h => ?_⟩
  refine Subscript_ (thn (he.run pins s σ H _ I h) fun v s1 ⟨x, H1, I1, r1, a, xs, ex, hx, q1⟩ => ?_)
  subst ex
  cases r1
  refine wpAny_Slice (thn (po_none.run pins s1 σ H1 _ I1 (show tNoPart σ H1 (fun o H2 => o = none ∧ H2 = H1) from ⟨rfl, rfl⟩)) fun vl s2 ⟨l, H2, I2, pl, e1, e2⟩ => ?_)
  subst e1 e2
  refine thn (po_none.run pins s2 σ H2 _ I2 (show tNoPart σ H2 (fun o H3 => o = none ∧ H3 = H2) from ⟨rfl, rfl⟩)) fun vu s3 ⟨u, H3, I3, pu, e1, e2⟩ => ?_
  subst e1 e2
  refine thn ((po_some (pe_un un_neg pe_int)).run pins s3 σ H3 (fun o H4 => o = some (-1) ∧ H4 = H3) I3 ⟨1, rfl, -1, rfl, rfl, rfl⟩) fun vs s4 ⟨st, H4, I4, ps, e1, e2⟩ => ?_
  subst e1 e2
  have I5 : Inv X pins σ H4 { s4 with heap := s4.heap.push { cls := .type "slice", data := .fields #[vl, vu, vs] } } := I4.kept (t' := s4.toks) fun b ob q => Heap.get?_push_of_some _ q
  obtain ⟨its, r, ht, hz⟩ := I5.list hx
  have hlen := r.length
  refine tail_any (T := "list") (ops := [.ref a, .ref s4.heap.objs.size]) ht.isList.typeIs slot_list_getitem.lookup ?_ (by with_unfolding_all rfl)
  refine wpAny_getItem_list_slice ht.isList (Heap.IsSliceOf.new ..) pl pu ps (by decide) ?_ (by rw [List.size_toArray] <;> omega)
  rw [pick_rev]
  refine ⟨.ref _, _, I5.laid (t' := s4.toks) (o := .lst xs.reverse) (fun b ob q => Heap.get?_push_of_some _ q) (Nat.le_refl _) ?_, rfl, q1 _ (I5.hok.fresh (Nat.le_refl _))⟩
  exact ⟨by rw [List.length_reverse]; exact hz, _, 0, r.reverse, Heap.get?_push_size _ rfl⟩
end

/-! ### del xs[k:] -/
section
variable {prog : Program} {w : World} {A : Around} {E : Value → Shared → Prop} {s : Shared}
theorem sel_from (its : List Value) (k : Nat) : ∀ (n : Nat), n ≤ its.length → (its.zipIdx.filterMap fun (x, i) => if ((decide ((k : Int) ≤ ((i : Nat) : Int)) && decide (((i : Nat) : Int) < (its.length : Int)) && (((i : Nat) : Int) - (k : Int)) % 1 == 0)) then none else some x) = its.take k := by
  intro _ _
  have key : ∀ (xs : List Value) (j n : Nat), j + xs.length = n → ((xs.zipIdx j).filterMap fun (x, i) => if ((decide ((k : Int) ≤ ((i : Nat) : Int)) && decide (((i : Nat) : Int) < (n : Int)) && (((i : Nat) : Int) - (k : Int)) % 1 == 0)) then none else some x) = xs.take (k - j) := by
    intro xs
    induction xs with
    | nil => intro j n _; simp
    | cons x xs ih =>
      intro j n h
      rw [List.length_cons] at h
      rw [List.zipIdx_cons, List.filterMap_cons]
      have e := ih (j + 1) n (by omega)
      by_cases hk : k ≤ j
      · have c : (decide ((k : Int) ≤ (j : Int)) && decide ((j : Int) < (n : Int)) && ((j : Int) - (k : Int)) % 1 == 0) = true := by
          rw [decide_eq_true (by omega), decide_eq_true (by omega), Int.emod_one]
          rfl
        simp only [c, if_true]
        rw [e, show k - (j + 1) = 0 by omega, show k - j = 0 by omega, List.take_zero, List.take_zero]
      · have c : (decide ((k : Int) ≤ (j : Int)) && decide ((j : Int) < (n : Int)) && ((j : Int) - (k : Int)) % 1 == 0) = false := by
          rw [decide_eq_false (by omega)]
          rfl
        simp only [c, Bool.false_eq_true, if_false]
        rw [e, show k - j = (k - (j + 1)) + 1 by omega, List.take_succ_cons]
  have := key its 0 its.length (by omega)
  rwa [Nat.sub_zero] at this
theorem bounds_from (k n : Nat) (h : k ≤ n) : sliceBounds (some (k : Int)) none none n = ((k : Int), (n : Int), 1) := by
  simp only [sliceBounds, Option.getD_none]
  have h1 : ¬ ((k : Int) < 0) := by omega
  simp only [h1, if_false, show (1 : Int) > 0 by decide, if_true]
  congr 1
  omega
theorem upd_any {l : Addr} {its its' : List Value} {n : Nat} {α : Type} {f : Array Value → Array Value} {k : Unit → Sem α} {Q : α → Shared → Prop} (e : s.heap.get? l = some { cls := .type "list", data := .seq its.toArray n })
    (hf : f its.toArray = its'.toArray) (hz : its'.length ≤ sizeLine) (hsz : its.length ≤ sizeLine) (h : ∀ f : Array Value → Array Value, f its.toArray = its'.toArray → wpAny (model prog w) A (k ()) Q E { s with heap := s.heap.update l (Obj.mapSeq f) }) :
    wpAny (model prog w) A (Builtin.List.listUpdate (.ref l) f >>= k) Q E s :=
  wpAny_bind (wpAny_updateSeq (hz := by rw [List.size_toArray]; exact hsz) (_hz' := by rw [hf, List.size_toArray]; omega) e rfl (h f hf))
theorem delItem_from {l sl : Addr} {its : List Value} {n : Nat} {vl vu : Value} {k : Nat} {Q : Unit → Shared → Prop}
    (e : s.heap.get? l = some { cls := .type "list", data := .seq its.toArray n })
    (hs : s.heap.IsSliceOf sl vl vu .none) (pl : IsPart vl (some (k : Int))) (pu : IsPart vu none) (hk : k ≤ its.length)
    (hsz : its.length ≤ sizeLine) (h : ∀ f : Array Value → Array Value, f its.toArray = (its.take k).toArray → Q () { s with heap := s.heap.update l (Obj.mapSeq f) }) :
    wpAny (model prog w) A (delItem (.ref l) (.ref sl)) Q E s := by
  have hl : s.heap.IsList l its.toArray := PySem.IsL.isList e
  obtain ⟨os, hos, hcs, hds⟩ := id hs
  have hTs : s.TypeIs (.ref sl) "slice" := ⟨os, hos, hcs⟩
  have hstep : ¬ ((rawPart none == rawInt 0) = true) := Bool.false_ne_true
  unfold delItem
  try with_reducible refine wpAny_holding ?_
  first | refine wpAny_bind (wpAny_pure ?_) | skip
  refine wpAny_bind (wpAny_sequenceKey hl.typeIs (by decide) ?_)
  refine wpAny_bind (wpAny_callSpecial?_slot (name := Str.ofString "__delitem__") hl.typeIs PySem.F.slot_list_delitem
    (wpAny_call_entry PySem.F.slot_list_delitem hl.typeIs PySem.F.entry_list_delitem ?_ (PySem.F.args_list_delitem_2 _ _)))
  show wpAny _ _ (Builtin.List.listSubscript? (.ref sl) >>= _) _ _ s
  refine wpAny_bind ?_
  unfold Builtin.List.listSubscript?
  refine wpAny_bind (wpAny_specialOf hTs slice_no_index ?_)
  simp only [Option.isNone_none, if_true]
  refine wpAny_pure ?_
  show wpAny _ _ (typeOf (.ref sl) >>= _) _ _ s
  refine wpAny_bind (wpAny_typeOf hTs ?_)
  first
    | rw [if_neg (by decide)]
    | refine PySem.W.KFB.if_not (by decide) ?_
  rw [listSliceParts_eq]
  refine wpAny_bind (wpAny_bind (wpAny_field hos hds (x := .none) rfl (wpAny_bind (wpAny_listPart .none ?_))))
  rw [if_neg hstep]
  refine wpAny_bind (wpAny_field hos hds (x := vl) rfl (wpAny_bind (wpAny_listPart pl ?_)))
  refine wpAny_bind (wpAny_field hos hds (x := vu) rfl (wpAny_bind (wpAny_listPart pu (wpAny_pure ?_))))
  unfold Builtin.List.listItems
  refine wpAny_bind (wpAny_bind (wpAny_seqItems e rfl (wpAny_pure ?_)))
  refine wpAny_bind (wpAny_of_eq ((sliceIndices_raw (some (k : Int)) none none its.toArray.size (by simp)).trans (congrArg (pure : Int × Int × Int → Sem (Int × Int × Int)) (bounds_from k its.toArray.size (by rw [List.size_toArray]; exact hk)))) ?_)
  refine wpAny_bind (wpAny_rule ?_)
  first | refine wpAny_bind (wpAny_pure ?_) | skip
  refine upd_any (its' := its.take k) e ?hf (by rw [List.length_take]; omega) hsz (fun f hf => ?_)
  case hf =>
    show (List.filterMap (fun (x : Value × Nat) => if (if (1 : Int) > 0 then (decide ((k : Int) ≤ ((x.2 : Nat) : Int)) && decide (((x.2 : Nat) : Int) < (its.toArray.size : Int)) && (((x.2 : Nat) : Int) - (k : Int)) % 1 == 0) else (decide ((its.toArray.size : Int) < ((x.2 : Nat) : Int)) && decide (((x.2 : Nat) : Int) ≤ (k : Int)) && ((k : Int) - ((x.2 : Nat) : Int)) % -1 == 0)) = true then none else some x.1) its.toArray.toList.zipIdx).toArray = _
    simp only [show ((1 : Int) > 0) = True from eq_true (by decide), if_true, List.size_toArray]
    rw [← sel_from its k its.length (Nat.le_refl _)]
  refine wpAny_bind (wpAny_letGo ?_)
  first
    | exact wpAny_bind (wpAny_pure (wpAny_pure ⟨.none, rfl, wpAny_pure (h f hf)⟩))
    | exact wpAny_pure ⟨.none, rfl, wpAny_pure (h f hf)⟩
end
section
variable {X : Cx}
/-- del o[lo:] of a list -/
def tDelFrom (to tl : TE) : TS := fun D σ H => to σ H fun x H1 => tl σ H1 fun y H2 => ∃ (l : Addr) (xs : List V) (k : Nat), x = .ref l ∧ y = .int (k : Int) ∧ H2 l = some (.lst xs) ∧ k ≤ xs.length ∧ D.nx σ (upd H2 l (.lst (xs.take k)))
theorem ps_delFrom {o lo : Expr} {to tl : TE} {tpos p2 pos : Pos} (ho : PE X o to) (hl : PE X lo tl) : PS X (.Delete [.Subscript o (.Slice (some lo) none none p2) tpos] pos) (tDelFrom to tl) := by
  refine ⟨fun pins s σ H D I h => ?_⟩
  refine wpAny_Delete (wpAny_deleteEach_cons (wpAny_delete_Subscript (thn (ho.run pins s σ H _ I h) fun u s1 ⟨x, H1, I1, rx, q1⟩ => ?_)))
  refine wpAny_Slice ?_
  rw [evalPart_some]
  refine thn (hl.run pins s1 σ H1 _ I1 q1) fun vl s2 ⟨y, H2, I2, ry, q2⟩ => ?_
  obtain ⟨l, xs, k, ex, ey, hH, hk, q2⟩ := q2
  subst ex
  subst ey
  cases (show u = Value.ref l from rx)
  obtain ⟨t, rfl⟩ := (show ∃ t, vl = Value.int (k : Int) t from ry)
  rw [evalPart_none]
  refine wpAny_pure ?_
  refine wpAny_pure ?_
  have I4 : Inv X pins σ H2 { s2 with heap := s2.heap.push { cls := .type "slice", data := .fields #[.int (k : Int) t, .none, .none] } } := I2.kept (t' := s2.toks) fun b ob q => Heap.get?_push_of_some _ q
  obtain ⟨z, its, n, r, hlen, e⟩ := I4.lstM hH
  refine delItem_from e (Heap.IsSliceOf.new ..) (.int _ t) .none (by omega) (by omega) fun f hf => wpAny_deleteEach_nil ⟨σ, _, ?_, q2⟩
  exact I4.lset (its' := its.take k) (t' := s2.toks) hH e hf (r.take _) (by rw [List.length_take]; omega)
end
end R1
end
section
set_option maxHeartbeats 4000000
/-! own rule: list(zip(a, b)) -/
namespace R1
open PySem PySem.Spec PyProof.Rows L2 HT PySem.W
section
variable {prog : Program} {w : World} {A : Around} {E : Value → Shared → Prop} {s : Shared} {z TI TO i1 i2 : Addr} {fp1 fp2 : List Addr} {n1 n2 i : Nat} {P1 P2 : Nat → Value → Prop} {St1 St2 : Nat → Heap → Prop}
theorem zipH_next_item {T : Addr} {f : Bool} {oT : Obj} {Q : Value → Shared → Prop} (S : ZipSep2 z TI TO i1 i2 fp1 fp2) (D1 : Draws prog w A i1 fp1 n1 P1 St1) (D2 : Draws prog w A i2 fp2 n2 P2 St2)
    (hz : IsZipHeld s.heap z TI TO T f) (hT : s.heap.get? T = some oT) (hTI : IsTupOf2 s.heap TI (.ref i1) (.ref i2)) (st1 : St1 i s.heap) (st2 : St2 i s.heap) (hlt1 : i < n1) (hlt2 : i < n2)
    (hQ : ∀ x1 x2 h' tk, P1 i x1 → P2 i x2 → IsZipHeld h' z TI TO T true → St1 (i + 1) h' → St2 (i + 1) h' → IsTupOf2 h' s.heap.objs.size x1 x2 → h'.objs.size = s.heap.objs.size + 1 →
      (∀ c o, c ≠ z → c ≠ i1 → c ≠ i2 → s.heap.get? c = some o → h'.get? c = some o) → Q (.ref s.heap.objs.size) { s with heap := h', toks := tk }) :
    wpAny (model prog w) A (Builtin.«zip.__next__» ⟨[.ref z], []⟩) (fun fin s' => ∃ v, fin = .done (.ret v) ∧ Q v s') E s := by
  obtain ⟨hp, g, d, tk0, os⟩ := s
  show wpAny _ _ (field (.ref z) 2 >>= _) _ _ _
  refine wpAny_bind (wpAny_field hz rfl (x := .bool false) rfl ?_)
  show wpAny _ _ (field (.ref z) 3 >>= _) _ _ _
  refine wpAny_bind (wpAny_field hz rfl (x := .ref TI) rfl ?_)
  refine wpAny_bind (wpAny_seqItems hTI rfl ?_)
  show wpAny _ _ (Builtin.SmallTypes.ownedTupleIsFree (.ref z) >>= _) _ _ _
  refine wpAny_bind (wpAny_tupleHeld_zip hz hT fun h₁ hz₁ hs₁ => ?_)
  replace hs₁ : Heap.SameBut z hp h₁ := hs₁
  simp only [Bool.false_eq_true, if_false]
  refine wpAny_bind ?_
  rw [← Array.forIn_toList]
  simp only [List.forIn_cons, List.forIn_nil]
  refine wpAny_bind (wpAny_bind (wpAny_holding ?_))
  show wpAny _ _ (Builtin.SmallTypes.nextOf (.ref i1) >>= _) _ _ ⟨h₁, g, d, tk0, os⟩
  refine wpAny_bind (D1.item i _ _ _ hlt1 (D1.over st1 hs₁ S.zf1) fun x1 p1 tk1 hx1 sn1 hp1 => wpAny_pure ?_)
  replace hp1 : Heap.SameBut i1 h₁ p1 := hp1
  refine wpAny_pure ?_
  refine wpAny_bind (wpAny_bind (wpAny_holding ?_))
  show wpAny _ _ (Builtin.SmallTypes.nextOf (.ref i2) >>= _) _ _ ⟨p1, g, d, tk1, os⟩
  refine wpAny_bind (D2.item i _ _ _ hlt2 (D2.over (D2.over st2 hs₁ S.zf2) hp1 S.sep1_2) fun x2 p2 tk2 hx2 sn2 hp2 => wpAny_pure ?_)
  replace hp2 : Heap.SameBut i2 p1 p2 := hp2
  refine wpAny_pure (wpAny_pure ?_)
  show wpAny _ _ (newTuple [x1, x2] >>= _) _ _ _
  refine wpAny_bind (wpAny_newTuple ?_)
  have hsz : p2.objs.size = hp.objs.size := by rw [hp2.1, hp1.1, hs₁.1]
  have hz3 : IsZipHeld p2 z TI TO T true := hp2.extBut _ _ S.zi2 (hp1.extBut _ _ S.zi1 hz₁)
  have hk : ∀ c o, c ≠ z → c ≠ i1 → c ≠ i2 → hp.get? c = some o → p2.get? c = some o := fun c o c1 c2 c3 e => hp2.extBut _ _ c3 (hp1.extBut _ _ c2 (hs₁.extBut _ _ c1 e))
  have j1 : St1 (i + 1) p2 := D1.over sn1 hp2 S.sep2_1
  refine wpAny_pure ⟨_, rfl, ?_⟩
  show Q (.ref p2.objs.size) _
  have hpp : IsTupOf2 (p2.push { cls := .type "tuple", data := .seq #[x1, x2] }) p2.objs.size x1 x2 := Heap.get?_push_size _ rfl
  have hz4 : (p2.push { cls := .type "tuple", data := .seq #[x1, x2] }).objs.size = p2.objs.size + 1 := Heap.size_push ..
  rw [hsz] at hpp hz4 ⊢
  exact hQ _ _ _ _ hx1 hx2 (Heap.get?_push_of_some _ hz3) (D1.frame _ _ _ j1 fun b _ o e => Heap.get?_push_of_some _ e) (D2.frame _ _ _ sn2 fun b _ o e => Heap.get?_push_of_some _ e) hpp hz4 fun c o c1 c2 c3 e => Heap.get?_push_of_some _ (hk c o c1 c2 c3 e)
theorem zipH_next_end {T : Addr} {f : Bool} {oT : Obj} {Q : Fin → Shared → Prop} (S : ZipSep2 z TI TO i1 i2 fp1 fp2) (D1 : Draws prog w A i1 fp1 n1 P1 St1) (D2 : Draws prog w A i2 fp2 n2 P2 St2)
    (hz : IsZipHeld s.heap z TI TO T f) (hT : s.heap.get? T = some oT) (hTI : IsTupOf2 s.heap TI (.ref i1) (.ref i2)) (st1 : St1 i s.heap) (st2 : St2 i s.heap) (hle1 : i ≤ n1) (hle2 : i ≤ n2) (hend : i = n1 ∨ i = n2)
    (hE : ∀ h' tk e, (∀ c o, c ≠ z → c ≠ i1 → c ≠ i2 → s.heap.get? c = some o → h'.get? c = some o) → (∃ o, h'.get? e = some o ∧ o.cls = .type "StopIteration") → E (.ref e) { s with heap := h', toks := tk }) :
    wpAny (model prog w) A (Builtin.«zip.__next__» ⟨[.ref z], []⟩) Q E s := by
  obtain ⟨hp, g, d, tk0, os⟩ := s
  show wpAny _ _ (field (.ref z) 2 >>= _) _ _ _
  refine wpAny_bind (wpAny_field hz rfl (x := .bool false) rfl ?_)
  show wpAny _ _ (field (.ref z) 3 >>= _) _ _ _
  refine wpAny_bind (wpAny_field hz rfl (x := .ref TI) rfl ?_)
  refine wpAny_bind (wpAny_seqItems hTI rfl ?_)
  show wpAny _ _ (Builtin.SmallTypes.ownedTupleIsFree (.ref z) >>= _) _ _ _
  refine wpAny_bind (wpAny_tupleHeld_zip hz hT fun h₁ hz₁ hs₁ => ?_)
  replace hs₁ : Heap.SameBut z hp h₁ := hs₁
  simp only [Bool.false_eq_true, if_false]
  refine wpAny_bind ?_
  rw [← Array.forIn_toList]
  simp only [List.forIn_cons, List.forIn_nil]
  refine wpAny_bind (wpAny_bind (wpAny_holding ?_))
  show wpAny _ _ (Builtin.SmallTypes.nextOf (.ref i1) >>= _) _ _ ⟨h₁, g, d, tk0, os⟩
  by_cases hlt : i < n1
  · refine wpAny_bind (D1.item i _ _ _ hlt (D1.over st1 hs₁ S.zf1) fun x1 p1 tk1 hx1 sn1 hp1 => wpAny_pure ?_)
    replace hp1 : Heap.SameBut i1 h₁ p1 := hp1
    refine wpAny_pure ?_
    refine wpAny_bind (wpAny_bind (wpAny_holding ?_))
    show wpAny _ _ (Builtin.SmallTypes.nextOf (.ref i2) >>= _) _ _ ⟨p1, g, d, tk1, os⟩
    have hi2 : i = n2 := by omega
    refine wpAny_bind (D2.done ⟨p1, g, d, tk1, os⟩ _ _ (by rw [← hi2]; exact D2.over (D2.over st2 hs₁ S.zf2) hp1 S.sep1_2) fun q e hq he => ?_)
    exact hE q tk1 e (fun c o c1 c2 c3 x => hq _ _ c3 (hp1.extBut _ _ c2 (hs₁.extBut _ _ c1 x))) he
  · have hi1 : i = n1 := by omega
    refine wpAny_bind (D1.done ⟨h₁, g, d, tk0, os⟩ _ _ (by rw [← hi1]; exact D1.over st1 hs₁ S.zf1) fun q e hq he => ?_)
    exact hE q tk0 e (fun c o c1 c2 _ x => hq _ _ c2 (hs₁.extBut _ _ c1 x)) he
/-- a zip that gives out: at first, or with a tuple out -/
def ZSt (h : Heap) (z TI TO i1 i2 S : Addr) (i : Nat) : Prop :=
  (IsZip h z TI TO .none ∧ (∃ a1 a2, IsTupOf2 h TO a1 a2) ∧ i = 0) ∨ ∃ T f oT, IsZipHeld h z TI TO T f ∧ h.get? T = some oT ∧ T ≠ z ∧ T ≠ i1 ∧ T ≠ i2 ∧ T ≠ S
theorem nxtZ {S : Addr} {Q : Option Value → Shared → Prop} (Sp : ZipSep2 z TI TO i1 i2 fp1 fp2) (D1 : Draws prog w A.in1 i1 fp1 n1 P1 St1) (D2 : Draws prog w A.in1 i2 fp2 n2 P2 St2)
    (hst : ZSt s.heap z TI TO i1 i2 S i) (hS : S < s.heap.objs.size) (l1 : i1 < s.heap.objs.size) (l2 : i2 < s.heap.objs.size) (hTI : IsTupOf2 s.heap TI (.ref i1) (.ref i2)) (st1 : St1 i s.heap) (st2 : St2 i s.heap) (hlt1 : i < n1) (hlt2 : i < n2)
    (hQ : ∀ x1 x2 h' tk, P1 i x1 → P2 i x2 → ZSt h' z TI TO i1 i2 S (i + 1) → St1 (i + 1) h' → St2 (i + 1) h' → IsTupOf2 h' s.heap.objs.size x1 x2 → h'.objs.size = s.heap.objs.size + 1 →
      (∀ c o, c ≠ z → c ≠ TO → c ≠ i1 → c ≠ i2 → s.heap.get? c = some o → h'.get? c = some o) → Q (some (.ref s.heap.objs.size)) { s with heap := h', toks := tk }) :
    wpAny (model prog w) A (pyNext (.ref z)) Q E s := by
  rcases hst with ⟨hz, ⟨a1, a2, hTO⟩, hi⟩ | ⟨T, f, oT, hz, hT, t1, t2, t3, t4⟩
  · refine wpAny_pyNext_zipD2_item Sp D1 D2 hz hTI hTO st1 st2 hlt1 hlt2 fun x1 x2 h' tk p1 p2 z' TO' s1 s2 hn hz' hk => ?_
    exact hQ x1 x2 h' tk p1 p2 (.inr ⟨_, false, _, z', hn, Nat.ne_of_gt (Heap.lt_size hz), Nat.ne_of_gt l1, Nat.ne_of_gt l2, Nat.ne_of_gt hS⟩) s1 s2 hn hz' hk
  · have hTy : s.TypeIs (.ref z) "zip" := ⟨_, hz, rfl⟩
    unfold pyNext
    refine wpAny_bind (wpAny_attempt (wpAny_callSpecial?_slot (name := Str.ofString "__next__") hTy PySem.F.slot_zip_next
      (wpAny_call_entry PySem.F.slot_zip_next hTy PySem.F.entry_zip_next
        (zipH_next_item Sp D1 D2 hz hT hTI st1 st2 hlt1 hlt2 fun x1 x2 h' tk p1 p2 z' s1 s2 hn hz' hk => wpAny_pure ?_) (PySem.F.args_zip_next_1 _))))
    exact hQ x1 x2 h' tk p1 p2 (.inr ⟨T, true, oT, z', hk _ _ t1 t2 t3 hT, t1, t2, t3, t4⟩) s1 s2 hn hz' fun c o c1 _ c3 c4 e => hk c o c1 c3 c4 e
theorem finZ {S : Addr} {Q : Option Value → Shared → Prop} (Sp : ZipSep2 z TI TO i1 i2 fp1 fp2) (D1 : Draws prog w A.in1 i1 fp1 n1 P1 St1) (D2 : Draws prog w A.in1 i2 fp2 n2 P2 St2)
    (hst : ZSt s.heap z TI TO i1 i2 S i) (hTI : IsTupOf2 s.heap TI (.ref i1) (.ref i2)) (st1 : St1 i s.heap) (st2 : St2 i s.heap) (hle1 : i ≤ n1) (hle2 : i ≤ n2) (hend : i = n1 ∨ i = n2)
    (hQ : ∀ h' tk, (∀ c o, c ≠ z → c ≠ TO → c ≠ i1 → c ≠ i2 → s.heap.get? c = some o → h'.get? c = some o) → Q none { s with heap := h', toks := tk }) :
    wpAny (model prog w) A (pyNext (.ref z)) Q E s := by
  rcases hst with ⟨hz, ⟨a1, a2, hTO⟩, hi⟩ | ⟨T, f, oT, hz, hT, t1, t2, t3, t4⟩
  · exact wpAny_pyNext_zipD2_end Sp D1 D2 hz hTI hTO st1 st2 hle1 hle2 hend hQ
  · have hTy : s.TypeIs (.ref z) "zip" := ⟨_, hz, rfl⟩
    unfold pyNext
    refine wpAny_bind (wpAny_attempt (wpAny_callSpecial?_slot (name := Str.ofString "__next__") hTy PySem.F.slot_zip_next
      (wpAny_call_entry PySem.F.slot_zip_next hTy PySem.F.entry_zip_next
        (zipH_next_end Sp D1 D2 hz hT hTI st1 st2 hle1 hle2 hend fun h' tk e hk he => ?_) (PySem.F.args_zip_next_1 _))))
    obtain ⟨o, ho, hc⟩ := he
    refine wpAny_bind (wpAny_isInstance (T := "StopIteration") (b := true) ⟨o, ho, hc⟩ isSubtype_stop ?_)
    exact wpAny_pure (hQ _ _ fun c o c1 _ c3 c4 e => hk c o c1 c3 c4 e)
end
end R1
end
section
set_option maxHeartbeats 4000000
namespace R1
open PySem PySem.Spec PyProof.Rows L2 HT PySem.W G1
structure MadeZ (P1 P2 : Nat → Value → Prop) (lo : Addr) (h : Heap) (as : List Addr) : Prop where
  rise : as.Pairwise (· < ·)
  above : ∀ a ∈ as, lo < a
  pairs : ∀ (j : Nat) (a : Addr), as[j]? = some a → ∃ x1 x2, P1 j x1 ∧ P2 j x2 ∧ h.get? a = some { cls := .type "tuple", data := .seq #[x1, x2] }
theorem MadeZ.there {P1 P2 : Nat → Value → Prop} {lo : Addr} {h : Heap} {as : List Addr} (g : MadeZ P1 P2 lo h as) {a : Addr} (ha : a ∈ as) : a < h.objs.size := by
  obtain ⟨j, hj⟩ := List.mem_iff_getElem?.mp ha
  obtain ⟨_, _, _, _, e⟩ := g.pairs j a hj
  exact Heap.lt_size e
section
variable {prog : Program} {w : World} {A : Around} {s : Shared} {R : Result → Shared → Prop} {z TI TO i1 i2 S : Addr} {fp1 fp2 : List Addr} {n n1 n2 : Nat} {P1 P2 : Nat → Value → Prop} {St1 St2 : Nat → Heap → Prop}
theorem loopZ (hh : A.handled = none) (Sp : ZipSep2 z TI TO i1 i2 fp1 fp2) (D1 : ∀ A' : Around, A'.handled = none → Draws prog w A' i1 fp1 n1 P1 St1) (D2 : ∀ A' : Around, A'.handled = none → Draws prog w A' i2 fp2 n2 P2 St2) (hmin : n = min n1 n2)
    (bz : z < S) (bI : TI < S) (bO : TO < S) (b1 : i1 < S) (b2 : i2 < S) (f1 : S ∉ fp1) (f2 : S ∉ fp2) (hn : n ≤ sizeLine) (res : Value) {h₁ : Heap}
    (hR : ∀ h' tk acc c as, (∀ b o, b ≠ S → b ≠ z → b ≠ TO → b ≠ i1 → b ≠ i2 → h₁.get? b = some o → h'.get? b = some o) → h'.get? S = some { cls := .type "list", dict := none, data := .seq acc c, slots := #[] } → as.length = n → MadeZ P1 P2 S h' as →
      acc.toList = as.map Value.ref → R (.ok (.ret res)) { s with heap := h', toks := tk }) :
    ∀ (k i : Nat) (h : Heap) (tk c : Nat) (acc : Array Value) (as : List Addr), n - i = k → i ≤ n → ZSt h z TI TO i1 i2 S i → IsTupOf2 h TI (.ref i1) (.ref i2) → St1 i h → St2 i h →
      (∀ b o, b ≠ S → b ≠ z → b ≠ TO → b ≠ i1 → b ≠ i2 → h₁.get? b = some o → h.get? b = some o) →
      h.get? S = some { cls := .type "list", dict := none, data := .seq acc c, slots := #[] } → acc.toList = as.map Value.ref → as.length = i → MadeZ P1 P2 S h as →
      codeAny (model prog w) A (.builtin "list.extend.loop" ⟨[.ref S, .ref z, res], []⟩) R { s with heap := h, toks := tk } := by
  intro k
  induction k with
  | zero =>
    intro i h tk c acc as hk hi hst hTI s1 s2 hkeep hS hacc hal hG
    obtain rfl : i = n := by omega
    refine codeAny_builtin PySem.F.entry_extend_loop ?_
    rw [Around.under_plainId PySem.F.plain_extend_loop _]
    show wpAny _ A.in1 (pyNext (.ref z) >>= _) _ _ _
    refine wpAny_bind (finZ (s := { s with heap := h, toks := tk }) (A := A.in1) Sp (D1 A.in1.in1 hh) (D2 A.in1.in1 hh) hst hTI s1 s2 (by omega) (by omega) (by omega) fun h' tk' he => ?_)
    refine wpAny_pure (hR h' tk' acc c as (fun b o h0 h1 h2 h3 h4 e => he b o h1 h2 h3 h4 (hkeep b o h0 h1 h2 h3 h4 e)) (he S _ (Nat.ne_of_gt bz) (Nat.ne_of_gt bO) (Nat.ne_of_gt b1) (Nat.ne_of_gt b2) hS) hal ⟨hG.rise, hG.above, fun j a hj => ?_⟩ hacc)
    obtain ⟨x1, x2, p1, p2, e⟩ := hG.pairs j a hj
    have ha := hG.above a (List.mem_of_getElem? hj)
    exact ⟨x1, x2, p1, p2, he a _ (Nat.ne_of_gt (Nat.lt_trans bz ha)) (Nat.ne_of_gt (Nat.lt_trans bO ha)) (Nat.ne_of_gt (Nat.lt_trans b1 ha)) (Nat.ne_of_gt (Nat.lt_trans b2 ha)) e⟩
  | succ k ih =>
    intro i h tk c acc as hk hi hst hTI s1 s2 hkeep hS hacc hal hG
    have hlt : i < n := by omega
    have hsz : acc.size = i := by rw [← Array.length_toList, hacc, List.length_map, hal]
    have hSl : S < h.objs.size := Heap.lt_size hS
    refine codeAny_builtin PySem.F.entry_extend_loop ?_
    rw [Around.under_plainId PySem.F.plain_extend_loop _]
    show wpAny _ A.in1 (pyNext (.ref z) >>= _) _ _ _
    refine wpAny_bind (nxtZ (s := { s with heap := h, toks := tk }) (A := A.in1) (S := S) Sp (D1 A.in1.in1 hh) (D2 A.in1.in1 hh) hst hSl (Nat.lt_trans b1 hSl) (Nat.lt_trans b2 hSl) hTI s1 s2 (by omega) (by omega) fun x1 x2 h' tk' p1 p2 hst' s1' s2' ht hz hkp => ?_)
    dsimp only at ht hz hkp ⊢
    have hS' := hkp S _ (Nat.ne_of_gt bz) (Nat.ne_of_gt bO) (Nat.ne_of_gt b1) (Nat.ne_of_gt b2) hS
    have up : ∀ b o, b ≠ S → h'.get? b = some o → (h'.update S (Obj.mapSeq (·.push (Value.ref h.objs.size)))).get? b = some o := fun b o hb e => (Heap.get?_update_other _ _ (Ne.symm hb)).trans e
    have hTI' := hkp TI _ Sp.TIz Sp.TITO Sp.TIi1 Sp.TIi2 hTI
    show wpAny _ A.in1 (updateSeq S (·.push (Value.ref h.objs.size)) >>= _) _ _ _
    refine wpAny_bind ?_
    refine wpAny_updateSeq hS' rfl (wpAny_pure ⟨plainId_quiet PySem.F.plain_extend_loop _, ih (i + 1) _ tk' _ (acc.push (Value.ref h.objs.size)) (as ++ [h.objs.size]) (by omega) hlt ?_ (up _ _ (Nat.ne_of_lt bI) hTI')
      ((D1 A.in1.in1 hh).frame _ _ _ s1' fun b hb o e => up b o (fun q => f1 (q ▸ hb)) e) ((D2 A.in1.in1 hh).frame _ _ _ s2' fun b hb o e => up b o (fun q => f2 (q ▸ hb)) e)
      (fun b o h0 h1 h2 h3 h4 e => up b o h0 (hkp b o h1 h2 h3 h4 (hkeep b o h0 h1 h2 h3 h4 e))) (Heap.get?_update_self _ hS' rfl) (by rw [Array.toList_push, hacc, List.map_append]; rfl) (by rw [List.length_append, hal]; rfl) ⟨?_, ?_, ?_⟩⟩) (by rw [hsz]; omega) (by show (acc.push (Value.ref h.objs.size)).size ≤ sizeLine + 1; rw [Array.size_push, hsz]; omega)
    · rcases hst' with ⟨_, _, q⟩ | ⟨T, f, oT, q1, q2, t1, t2, t3, t4⟩
      · omega
      · exact .inr ⟨T, f, oT, up _ _ (Nat.ne_of_lt bz) q1, up _ _ t4 q2, t1, t2, t3, t4⟩
    · refine List.pairwise_append.mpr ⟨hG.rise, List.pairwise_singleton _ _, fun a ha b hb => ?_⟩
      rw [List.mem_singleton.mp hb]
      exact hG.there ha
    · intro a ha
      rcases List.mem_append.mp ha with ha | ha
      · exact hG.above a ha
      · rw [List.mem_singleton.mp ha]; exact hSl
    · intro j b hj
      rcases Nat.lt_trichotomy j as.length with h1 | h1 | h1
      · rw [List.getElem?_append_left h1] at hj
        obtain ⟨y1, y2, q1, q2, e3⟩ := hG.pairs j b hj
        have hb := hG.above b (List.mem_of_getElem? hj)
        exact ⟨y1, y2, q1, q2, up b _ (Nat.ne_of_gt hb) (hkp b _ (Nat.ne_of_gt (Nat.lt_trans bz hb)) (Nat.ne_of_gt (Nat.lt_trans bO hb)) (Nat.ne_of_gt (Nat.lt_trans b1 hb)) (Nat.ne_of_gt (Nat.lt_trans b2 hb)) e3)⟩
      · subst h1
        have hb : h.objs.size = b := by simpa using hj
        subst hb
        subst hal
        exact ⟨x1, x2, p1, p2, up _ _ (Nat.ne_of_gt hSl) ht⟩
      · have hnone : (as ++ [h.objs.size])[j]? = none := List.getElem?_eq_none (by rw [List.length_append, List.length_singleton]; omega)
        rw [hnone] at hj; cases hj
end
theorem zip_no_len : typeLookup (.type "zip") "__len__" = pure none := am_miss_of_fast (by decide +kernel)
theorem zip_no_hint : typeLookup (.type "zip") "__length_hint__" = pure none := am_miss_of_fast (by decide +kernel)
section
variable {prog : Program} {w : World} {A : Around} {E : Value → Shared → Prop} {s : Shared} {z TI TO i1 i2 : Addr} {fp1 fp2 : List Addr} {n n1 n2 : Nat} {P1 P2 : Nat → Value → Prop} {St1 St2 : Nat → Heap → Prop}
/-- list(z), z a zip that has not begun -/
theorem call_list_zip {Q : Value → Shared → Prop} (hh : A.handled = none) (Sp : ZipSep2 z TI TO i1 i2 fp1 fp2) (D1 : ∀ A' : Around, A'.handled = none → Draws prog w A' i1 fp1 n1 P1 St1) (D2 : ∀ A' : Around, A'.handled = none → Draws prog w A' i2 fp2 n2 P2 St2) (hmin : n = min n1 n2)
    (hz : IsZip s.heap z TI TO .none) {a1 a2 : Value} (hTO : IsTupOf2 s.heap TO a1 a2) (hTI : IsTupOf2 s.heap TI (.ref i1) (.ref i2)) (s1 : St1 0 s.heap) (s2 : St2 0 s.heap) (l1 : ∀ b ∈ fp1, b < s.heap.objs.size) (l2 : ∀ b ∈ fp2, b < s.heap.objs.size) (hn : n ≤ sizeLine)
    (hQ : ∀ h' tk acc c as, (∀ b o, b ≠ z → b ≠ TO → b ≠ i1 → b ≠ i2 → s.heap.get? b = some o → h'.get? b = some o) → h'.get? s.heap.objs.size = some { cls := .type "list", dict := none, data := .seq acc c, slots := #[] } → as.length = n → MadeZ P1 P2 s.heap.objs.size h' as →
      acc.toList = as.map Value.ref → Q (.ref s.heap.objs.size) { s with heap := h', toks := tk }) :
    wpAny (model prog w) A (call (.type "list") [.ref z]) Q E s := by
  have bz : z < s.heap.objs.size := Heap.lt_size hz
  have bI : TI < s.heap.objs.size := Heap.lt_size hTI
  have bO : TO < s.heap.objs.size := Heap.lt_size hTO
  have b1 : i1 < s.heap.objs.size := l1 _ Sp.mem1
  have b2 : i2 < s.heap.objs.size := l2 _ Sp.mem2
  have f1 : s.heap.objs.size ∉ fp1 := fun q => Nat.lt_irrefl _ (l1 _ q)
  have f2 : s.heap.objs.size ∉ fp2 := fun q => Nat.lt_irrefl _ (l2 _ q)
  refine callType_codes (Q₁ := fun obj s₁ => obj = .ref s.heap.objs.size ∧ s₁ = { s with heap := s.heap.push { cls := .type "list", data := .seq #[] } }) PySem.F.called_list (PySem.F.typeCall_list_1 _) PySem.F.entry_list_init
    (code_list_new _ ⟨rfl, rfl⟩) fun obj s₁ h₁ => ?_
  obtain ⟨rfl, rfl⟩ := h₁
  have hS : (s.heap.push { cls := .type "list", data := .seq #[] }).get? s.heap.objs.size = some { cls := .type "list", data := .seq #[] } := Heap.get?_push_size _ rfl
  refine ⟨⟨_, hS, rfl⟩, PySem.F.args_list_init_2 _ _, ?_⟩
  show wpAny _ A.in1.in1 (do let old ← Builtin.List.listItems (.ref s.heap.objs.size); Builtin.List.listUpdate (.ref s.heap.objs.size) (fun _ => #[]); letGo old.toList.reverse; Builtin.List.listExtendWith (.ref s.heap.objs.size) (.ref z) .none) _ _ _
  refine wpAny_bind ?_
  unfold Builtin.List.listItems
  refine wpAny_bind (wpAny_seqItems hS rfl (wpAny_pure ?_))
  show wpAny _ A.in1.in1 (updateSeq s.heap.objs.size (fun _ => #[]) >>= fun _ => letGo (#[] : Array Value).toList.reverse >>= fun _ => Builtin.List.listExtendWith (.ref s.heap.objs.size) (.ref z) .none) _ _ _
  refine wpAny_bind (wpAny_updateSeq hS rfl ?_)
  have hS2 := Heap.get?_update_self (Obj.mapSeq (fun _ => (#[] : Array Value))) hS rfl
  refine wpAny_bind (wpAny_letGo ?_)
  unfold Builtin.List.listExtendWith
  have up : ∀ (h : Heap) (f : Obj → Obj), (∀ b o, s.heap.get? b = some o → h.get? b = some o) → ∀ b o, s.heap.get? b = some o → (h.update s.heap.objs.size f).get? b = some o := fun h f q b o e =>
    (Heap.get?_update_other _ _ (Ne.symm (Nat.ne_of_lt (Heap.lt_size e)))).trans (q b o e)
  have k1 : ∀ b o, s.heap.get? b = some o → (s.heap.push { cls := .type "list", data := .seq #[] }).get? b = some o := fun b o e => Heap.get?_push_of_some _ e
  have k2 := up _ (Obj.mapSeq (fun _ => (#[] : Array Value))) k1
  have gty : ∀ {h : Heap} {t : Nat}, (∀ b o, s.heap.get? b = some o → h.get? b = some o) → ({ s with heap := h, toks := t } : Shared).TypeIs (.ref z) "zip" := fun {h t} q => ⟨_, q _ _ hz, rfl⟩
  refine wpAny_bind (wpAny_typeOf (gty k2) ?_)
  have h1 : Builtin.List.listSameRef (.ref s.heap.objs.size) (.ref z) = false := by simp [Builtin.List.listSameRef, Nat.ne_of_gt bz]
  have h2 : (Value.type "zip" == Value.type "list") = false := by decide
  have h3 : (Value.type "zip" == Value.type "tuple") = false := by decide
  simp only [h1, h2, h3, Bool.or_false, Bool.false_eq_true, if_false]
  refine wpAny_bind (wpAny_pyIter_zip (s := { s with heap := _ }) (k2 _ _ hz) ?_)
  refine wpAny_bind (wpAny_holding ?_)
  unfold Builtin.List.listLengthHint
  refine wpAny_bind (wpAny_specialOf (gty k2) zip_no_len ?_)
  show wpAny _ A.in1.in1 (specialOf (Value.ref z) (Str.ofString "__length_hint__") >>= _) _ _ _
  refine wpAny_bind (wpAny_specialOf (gty k2) zip_no_hint ?_)
  refine wpAny_pure ?_
  show wpAny _ A.in1.in1 (rule "list.extend.makes-room" >>= fun _ => Builtin.List.listTouch (.ref s.heap.objs.size) >>= fun _ =>
    again (.builtin "list.extend.loop" ⟨[.ref s.heap.objs.size, .ref z, .none], []⟩)) _ _ _
  refine wpAny_bind (wpAny_rule ?_)
  refine wpAny_bind ?_
  show wpAny _ A.in1.in1 (updateSeq s.heap.objs.size (·.push .none) >>= fun _ => updateSeq s.heap.objs.size (·.pop)) _ _ _
  refine wpAny_bind (wpAny_updateSeq hS2 rfl ?_)
  have hS3 := Heap.get?_update_self (Obj.mapSeq (·.push Value.none)) hS2 rfl
  refine wpAny_updateSeq (hz := by seq_fits) hS3 rfl ?_
  have hS4 := Heap.get?_update_self (Obj.mapSeq (·.pop)) hS3 rfl
  have k4 := up _ (Obj.mapSeq (·.pop)) (up _ (Obj.mapSeq (·.push Value.none)) k2)
  refine wpAny_pure ⟨plainId_quiet PySem.F.plain_extend_loop _, ?_⟩
  refine loopZ (A := A.in1) (s := s) (h₁ := s.heap) (P1 := P1) (P2 := P2) hh Sp D1 D2 hmin bz bI bO b1 b2 f1 f2 hn .none (fun h' tk acc c as q1 q2 q3 q4 q5 => ?_) n 0 _ s.toks _ #[] [] (Nat.sub_zero _) (Nat.zero_le _)
    (.inl ⟨k4 _ _ hz, ⟨a1, a2, k4 _ _ hTO⟩, rfl⟩) (k4 _ _ hTI) ((D1 A hh).frame _ _ _ s1 fun b _ o e => k4 b o e) ((D2 A hh).frame _ _ _ s2 fun b _ o e => k4 b o e) (fun b o _ _ _ _ _ e => k4 b o e) hS4 rfl rfl
    ⟨List.Pairwise.nil, (fun _ ha => nomatch ha), (fun j a hj => by simp at hj)⟩
  exact ⟨rfl, hQ h' tk acc c as (fun b o h1 h2 h3 h4 e => q1 b o (Nat.ne_of_lt (Heap.lt_size e)) h1 h2 h3 h4 e) q2 q3 q4 q5⟩
end
end R1
end
section
set_option maxHeartbeats 4000000
namespace R1
open PySem PySem.Spec PyProof.Rows L2 HT PySem.W G1
/-- tuples at as -/
def tupH (H : Hp) (as : List Addr) (vs : List (List V)) : Hp := fun b => match (as.zip vs).lookup b with | some v => some (.tup v) | none => H b
theorem lookup_zip : ∀ {as : List Addr} {vs : List (List V)} {j : Nat} {a : Addr} {v : List V}, as.Nodup → as[j]? = some a → vs[j]? = some v → (as.zip vs).lookup a = some v
  | a :: as, v :: vs, 0, _, _, _, h1, h2 => by
    cases h1
    cases h2
    show List.lookup a ((a, v) :: as.zip vs) = some v
    rw [List.lookup_cons, beq_self_eq_true]
  | a :: as, v :: vs, j + 1, b, u, hn, h1, h2 => by
    rw [List.nodup_cons] at hn
    have ne : b ≠ a := fun z => hn.1 (by rw [← z]; exact List.mem_of_getElem? (show as[j]? = some b from h1))
    show List.lookup b ((a, v) :: as.zip vs) = some u
    rw [List.lookup_cons, beq_eq_false_iff_ne.mpr ne]
    exact lookup_zip hn.2 (show as[j]? = some b from h1) (show vs[j]? = some u from h2)
  | [], _, _, _, _, _, h1, _ => by simp at h1
  | _ :: _, [], _, _, _, _, _, h2 => by simp at h2
theorem lookup_none : ∀ {as : List Addr} {vs : List (List V)} {a : Addr}, a ∉ as → (as.zip vs).lookup a = none
  | [], _, _, _ => rfl
  | _ :: _, [], _, _ => rfl
  | a :: as, v :: vs, b, h => by
    show List.lookup b ((a, v) :: as.zip vs) = none
    rw [List.lookup_cons, beq_eq_false_iff_ne.mpr (fun z => h (by rw [z]; exact List.mem_cons_self ..))]
    exact lookup_none fun z => h (List.mem_cons_of_mem _ z)
theorem tupH_at {H : Hp} {as : List Addr} {vs : List (List V)} {j : Nat} {a : Addr} {v : List V} (hn : as.Nodup) (h1 : as[j]? = some a) (h2 : vs[j]? = some v) : tupH H as vs a = some (.tup v) := by
  unfold tupH
  rw [lookup_zip hn h1 h2]
theorem tupH_out {H : Hp} {as : List Addr} {vs : List (List V)} {a : Addr} (h : a ∉ as) : tupH H as vs a = H a := by
  unfold tupH
  rw [lookup_none h]
def tListZip (K : PySem.W.Frag) (ta : TA) : TE := fun σ H Q => ta σ H fun vs H1 => ∃ k1 k2 a b xs ys, vs = [.ref a, .ref b] ∧ SqK k1 K H1 a xs ∧ SqK k2 K H1 b ys ∧
  ∀ (p : Addr) (as : List Addr) (H' : Hp), as.length = min xs.length ys.length → (∀ c o, H1 c = some o → H' c = some o) → as.Nodup → p ∉ as → H1 p = none → (∀ a ∈ as, H1 a = none) → (∀ c, c ≠ p → c ∉ as → H' c = H1 c) → H' p = some (.lst (as.map V.ref)) → (∀ (j : Nat) (a : Addr) (x y : V), as[j]? = some a → xs[j]? = some x → ys[j]? = some y → H' a = some (.tup [x, y])) → Q (.ref p) H'
theorem nodup_lt {as : List Addr} (h : as.Pairwise (· < ·)) : as.Nodup := h.imp fun {a b} q e => by rw [e] at q; exact absurd q (Nat.lt_irrefl _)
theorem pe_listZip {X : Cx} {e e2 : Expr} {ta : TA} {p p2 pos pos2 : Pos} (hc : X.calm = true) (hgl : Gl X "list") (hml : X.mg "list" = none) (hg : Gl X "zip") (hm : X.mg "zip" = none) (ha : PA X [e, e2] ta)
    (hs : starEach [e, e2] X.env = (false, eval e X.env) :: starEach [e2] X.env := by rfl) (hpl : (backTo pos2 (starEach [e2] X.env)).any (·.1) = false := by rfl) :
    PE X (.Call (.Name "list" p) [.Call (.Name "zip" p2) [e, e2] [] pos2] [] pos) (tListZip X.K ta) := by
  refine ⟨fun pins s σ H Q I h => ?_⟩
  refine wpAny_Call_Name_kw (ld_blt I hgl hml (show bootBuiltins "list" = some (.type "list") by decide +kernel) ?_)
  refine PyProof.Rows.callWith_type1 ?_ rfl rfl
  refine Calls.spliced_cons ?_
  refine wpAny_Call_Name_kw (ld_blt I hg hm PyProof.Rows.boot_zip (PyProof.Rows.callWith_type1 (thn (ha.run pos2 pins s σ H _ I h) fun us s1 ⟨vs, H1, I1, r1, q1⟩ => ?_) hs hpl))
  obtain ⟨k1, k2, a, b, xs, ys, rfl, hqx, hqy, q⟩ := q1
  obtain ⟨u1, u2, rfl, r, r'⟩ := vals2 r1
  cases r
  cases r'
  obtain ⟨its, rv, pp1, la⟩ := sqK_at I1 hqx
  obtain ⟨its2, rv2, pp2, lb⟩ := sqK_at I1 hqy
  obtain ⟨o1, B1, j1⟩ := beginsK k1 a its.toArray
  obtain ⟨o2, B2, j2⟩ := beginsK k2 b its2.toArray
  refine zip_begins2 B1 B2 pp1 pp2 fun h0 hz hTI hTO h1 h2 hsz hk => Calls.spliced_nil ?_
  have hl1 := rv.length
  have hl2 := rv2.length
  have D : ZipSep2 (s1.heap.objs.size + 4) (s1.heap.objs.size + 2) (s1.heap.objs.size + 3) s1.heap.objs.size (s1.heap.objs.size + 1) [s1.heap.objs.size, a] [s1.heap.objs.size + 1, b] :=
    zip_sep2 (fun c hc => by rw [List.mem_singleton.mp hc]; exact la) (fun c hc => by rw [List.mem_singleton.mp hc]; exact lb)
  have hz1 : xs.length ≤ sizeLine := by
    cases k1 with
    | true => exact (I1.list hqx).choose_spec.2.2
    | false => exact (I1.tuple hqx).choose_spec.2.2
  have Ka : IsK k1 h0 a its.toArray := by
    cases k1 with
    | true => exact let ⟨o, e, r⟩ := (show s1.heap.IsList a its.toArray from pp1); (show h0.IsList a its.toArray from ⟨o, hk _ _ e, r⟩)
    | false => exact let ⟨o, e, r⟩ := (show s1.heap.IsTuple a its.toArray from pp1); (show h0.IsTuple a its.toArray from ⟨o, hk _ _ e, r⟩)
  have Kb : IsK k2 h0 b its2.toArray := by
    cases k2 with
    | true => exact let ⟨o, e, r⟩ := (show s1.heap.IsList b its2.toArray from pp2); (show h0.IsList b its2.toArray from ⟨o, hk _ _ e, r⟩)
    | false => exact let ⟨o, e, r⟩ := (show s1.heap.IsTuple b its2.toArray from pp2); (show h0.IsTuple b its2.toArray from ⟨o, hk _ _ e, r⟩)
  have low : ∀ c : Addr, c ≤ s1.heap.objs.size + 4 → c < h0.objs.size := fun c q => by
    rw [hsz]
    exact Nat.lt_succ_of_le q
  refine call_list_zip (s := { s1 with heap := h0 }) (n := min its.toArray.size its2.toArray.size) (P1 := fun i v => its.toArray[i]? = some v) (P2 := fun i v => its2.toArray[i]? = some v) (I.ok.hd hc) D (St1 := fun i h => ItK k1 h s1.heap.objs.size a i ∧ IsK k1 h a its.toArray) (St2 := fun i h => ItK k2 h (s1.heap.objs.size + 1) b i ∧ IsK k2 h b its2.toArray) (fun A' hA => drawsK hA k1 _ a (Nat.ne_of_lt la) its.toArray) (fun A' hA => drawsK hA k2 _ b (Nat.ne_of_lt (Nat.lt_succ_of_lt lb)) its2.toArray) rfl
    hz hTO hTI ⟨j1 _ _ h1, Ka⟩ ⟨j2 _ _ h2, Kb⟩ (fun c hm => ?_) (fun c hm => ?_) (by rw [List.size_toArray, List.size_toArray]; omega) fun h' tk acc c as kp hS hal hG hacc => ?_
  · rcases List.mem_cons.mp hm with z | z
    · exact low c (by rw [z]; exact Nat.le_add_right _ 4)
    · exact low c (Nat.le_trans (Nat.le_of_lt (by rw [List.mem_singleton.mp z]; exact la)) (Nat.le_add_right _ 4))
  · rcases List.mem_cons.mp hm with z | z
    · exact low c (by rw [z]; exact Nat.add_le_add_left (by decide) _)
    · exact low c (Nat.le_trans (Nat.le_of_lt (by rw [List.mem_singleton.mp z]; exact lb)) (Nat.le_add_right _ 4))
  have hS0 : h0.objs.size = s1.heap.objs.size + 5 := hsz
  have keep : ∀ c o, s1.heap.get? c = some o → h'.get? c = some o := fun c o e => by
    have lt := Heap.lt_size e
    have ne : ∀ k : Nat, c ≠ s1.heap.objs.size + k := fun k => Nat.ne_of_lt (Nat.lt_of_lt_of_le lt (Nat.le_add_right _ _))
    exact kp c o (ne 4) (ne 3) (ne 0) (ne 1) (hk c o e)
  have old : ∀ {c : Addr} {o : HO}, H1 c = some o → c < s1.heap.objs.size := fun {c o} e => (I1.hok c o e).lt
  have above : ∀ x ∈ as, s1.heap.objs.size + 5 < x := fun x hx => by
    have := hG.above x hx
    rw [← hS0]
    exact this
  have pS : ∀ {c : Addr}, c < s1.heap.objs.size → c ≠ h0.objs.size := fun {c} q => by
    rw [hS0]
    exact Nat.ne_of_lt (Nat.lt_of_lt_of_le q (Nat.le_add_right _ _))
  have nas : ∀ {c : Addr}, c < s1.heap.objs.size → c ∉ as := fun {c} q z => Nat.lt_irrefl _ (Nat.lt_trans q (Nat.lt_of_le_of_lt (Nat.le_add_right _ 5) (above c z)))
  have hnd : as.Nodup := nodup_lt hG.rise
  have hpa : h0.objs.size ∉ as := fun z => Nat.lt_irrefl _ (hG.above _ z)
  have vlen : as.length = min xs.length ys.length := by rw [hal, List.size_toArray, List.size_toArray]; omega
  have fresh : ∀ {c : Addr}, s1.heap.objs.size ≤ c → H1 c = none := fun {c} q => I1.hok.fresh q
  let vss : List (List V) := (xs.zip ys).map fun q => [q.1, q.2]
  have vat : ∀ (j : Nat) x y, xs[j]? = some x → ys[j]? = some y → vss[j]? = some [x, y] := fun j x y h1 h2 => by
    show ((xs.zip ys).map fun q => [q.1, q.2])[j]? = _
    rw [List.getElem?_map, show (xs.zip ys)[j]? = some (x, y) from List.getElem?_zip_eq_some.mpr ⟨h1, h2⟩]
    rfl
  let Hn : Hp := upd (tupH H1 as vss) h0.objs.size (.lst (as.map V.ref))
  have hno : ∀ c, c ≠ h0.objs.size → c ∉ as → Hn c = H1 c := fun c h1 h2 => by
    show upd _ _ _ c = _
    rw [upd_ne h1, tupH_out h2]
  have hold : ∀ c o, H1 c = some o → Hn c = some o := fun c o e => by rw [hno c (pS (old e)) (nas (old e))]; exact e
  have tupAt : ∀ (j : Nat) x, as[j]? = some x → ∃ u v, xs[j]? = some u ∧ ys[j]? = some v ∧ Hn x = some (.tup [u, v]) := fun j x hj => by
    have hlt := (List.getElem?_eq_some_iff.mp hj).1
    have e1 : xs[j]? = some (xs[j]'(by omega)) := List.getElem?_eq_getElem _
    have e2 : ys[j]? = some (ys[j]'(by omega)) := List.getElem?_eq_getElem _
    refine ⟨_, _, e1, e2, ?_⟩
    show upd _ _ _ x = _
    rw [upd_ne (fun z => hpa (by rw [← z]; exact List.mem_of_getElem? hj))]
    exact tupH_at hnd hj (vat j _ _ e1 e2)
  have I' : Inv X pins σ Hn { s1 with heap := h', toks := tk } := by
    refine I1.un (h' := h') (t' := tk) ⟨fun c o e _ _ _ => keep c o e, fun c o e _ _ _ => ⟨o.slots, keep c o e⟩, fun c o e n _ => ?_, fun c o e _ => ⟨o, keep c o e⟩, fun c o e => hold _ _ e, fun c o u e => hold _ _ e, fun c ps e => ⟨#[], by rw [hold _ _ e]; simp⟩⟩ fun c o e => ?_
    · rw [hno c (pS (Heap.lt_size e)) (nas (Heap.lt_size e))]
      exact n
    · by_cases hcS : c = h0.objs.size
      · subst hcS
        have e' : some (HO.lst (as.map V.ref)) = some o := by rw [← e]; exact upd_same.symm
        cases e'
        refine ⟨by rw [List.length_map, vlen]; exact Nat.le_trans (Nat.min_le_left _ _) hz1, as.map Value.ref, _, ?_, by rw [hS, ← hacc]⟩
        clear hacc hG tupAt hnd hpa above vlen hal e hS nas hno hold
        clear_value Hn
        induction as with
        | nil => exact .nil
        | cons x t ih => exact .cons rfl ih
      · by_cases hca : c ∈ as
        · obtain ⟨j, hj⟩ := List.mem_iff_getElem?.mp hca
          obtain ⟨u, v, e1, e2, e3⟩ := tupAt j c hj
          rw [e3] at e
          cases e
          obtain ⟨y1, y2, p1, p2, e4⟩ := hG.pairs j c hj
          obtain ⟨w1, f1, g1⟩ := rv.get e1
          obtain ⟨w2, f2, g2⟩ := rv2.get e2
          have p1 : its[j]? = some y1 := by simpa using p1
          have p2 : its2[j]? = some y2 := by simpa using p2
          rw [f1] at p1
          rw [f2] at p2
          cases p1
          cases p2
          exact ⟨by show 2 ≤ sizeLine; decide, [y1, y2], .cons g1 (.cons g2 .nil), ⟨_, e4, rfl, _, rfl⟩⟩
        · have e0 := e
          rw [hno c hcS hca] at e0
          exact (I1.hok c o e0).stay (fun d v _ q => keep d v q) (fun d q => hold _ _ q) fun d xs q => hold _ _ q
  refine ⟨.ref h0.objs.size, Hn, I', rfl, q _ as Hn vlen hold hnd hpa (fresh (by rw [hS0]; exact Nat.le_add_right _ _)) (fun x hx => fresh (Nat.le_of_lt (Nat.lt_of_le_of_lt (Nat.le_add_right _ 5) (above x hx)))) hno (show upd _ _ _ _ = _ from upd_same) fun j x u v h1 h2 h3 => ?_⟩
  obtain ⟨u', v', e1, e2, e3⟩ := tupAt j x h1
  rw [h2] at e1
  rw [h3] at e2
  cases e1
  cases e2
  exact e3
end R1
end
section
set_option maxHeartbeats 4000000
namespace DL
variable [TB]
open PySem PySem.Spec PyProof.Rows L2 G1 R1 StX
section
variable {X : Cx} {Θ : Par} {e : Expr}
/-! ### slices of any sequence, as values -/
def dSlA (f : FE) (lo hi : FO) : FE := fun S C E => f S (fun d S1 => lo S1 (fun a S2 => hi S2 (fun b S3 => match d with
  | .tup ds => C (.tup (cutD ds a b)) S3
  | .lst ds => C (.lst (cutD ds a b)) S3
  | .str z => z.length ≤ sizeLine ∧ C (.str (cutS z a b)) S3
  | _ => False) E) E) E
def rSlAll (K : PySem.W.Frag) : V → Option Int → Option Int → Hp → VK → Prop := fun x lo hi H Q => rSlTS K x lo hi H Q ∨ rSlL K x lo hi H Q
theorem sl_all {X : Cx} : L2.SlR X (rSlAll X.K) := sl_ts.or sl_list
theorem de_slA {f : FE} {lo hi : FO} (h : PE X e (tSl (rSlAll Θ.K) (tD Θ f) (tDO Θ lo) (tDO Θ hi))) : PE X e (tD Θ (dSlA f lo hi)) := pe_imp h fun σ H Q ⟨O, S, C, c, hf, k⟩ =>
  ⟨O, S, _, c, hf, fun d S1 v O1 H1 c1 l1 r1 h1 => ⟨O1, S1, _, c1, h1, fun a S2 O2 H2 c2 l2 h2 => ⟨O2, S2, _, c2, h2, fun b S3 O3 H3 c3 l3 h3 => by
    have l23 := l2.trans l3
    cases d with
    | tup ds =>
      obtain ⟨p, vs, e1, s, rr⟩ := Rep.le l23.le _ _ r1
      subst e1
      refine .inl (.inl ⟨p, vs, rfl, s.sq, fun hw => ?_, fun _ q hq => ?_⟩)
      · refine k (.tup (cutD ds a b)) S3 _ O3 H3 c3 (l1.trans l23) ⟨p, vs, rfl, s, ?_⟩ h3
        have rc := reps_cut (lo := a) (hi := b) rr
        unfold cutV at rc
        rw [sIx_all hw] at rc
        exact rc
      · obtain ⟨c4, l4, r4⟩ := Aft.lift c3 (upd_aft hq) (rep_newT hq (reps_cut (lo := a) (hi := b) rr))
        exact k _ S3 _ _ _ c4 ((l1.trans l23).trans l4) r4 h3
    | lst ds =>
      obtain ⟨p, vs, e1, s, rr⟩ := Rep.le l23.le _ _ r1
      subst e1
      refine .inr ⟨p, vs, rfl, s.sq, fun q hq => ?_⟩
      obtain ⟨c4, l4, r4⟩ := Aft.lift c3 (upd_aft hq) (rep_newL hq (reps_cut (lo := a) (hi := b) rr))
      exact k _ S3 _ _ _ c4 ((l1.trans l23).trans l4) r4 h3
    | str z =>
      cases r1
      exact .inl (.inr ⟨z, rfl, h3.1, k (.str _) S3 _ O3 H3 c3 (l1.trans l23) rfl h3.2⟩)
    | _ => exact h3.elim⟩⟩⟩
/-- a slice of a slot's own list: a value -/
def dSlO (i : Nat) (lo hi : FO) : FE := fun S C E => (∃ ds, S.g[i]? = some (.ow ds)) ∧ lo S (fun a S2 => hi S2 (fun b S3 => ∃ ds, S3.g[i]? = some (.ow ds) ∧ C (.lst (cutD ds a b)) S3) E) E
theorem de_slO {i : Nat} {lo hi : FO} (h : PE X e (tSl (rSlL Θ.K) (tVar i) (tDO Θ lo) (tDO Θ hi))) : PE X e (tD Θ (dSlO i lo hi)) := pe_imp h fun σ H Q ⟨O, S, C, c, ⟨⟨ds0, hs0⟩, hf⟩, k⟩ => by
  obtain ⟨o0, ho0, p, vs0, e0, op0, hp0, h00, rr0⟩ := c.sl i _ hs0
  subst e0
  refine ⟨_, ho0, O, S, _, c, hf, fun a S2 O2 H2 c2 l2 h2 => ⟨O2, S2, _, c2, h2, fun b S3 O3 H3 c3 l3 ⟨ds, hs, hc⟩ => ?_⟩⟩
  obtain ⟨o, ho, p', vs, e1, op, hp', h0', rr⟩ := c3.sl i _ hs
  subst e1
  rw [ho0] at ho
  cases ho
  refine ⟨p, vs, rfl, .inl (.inl hp'), fun q hq => ?_⟩
  obtain ⟨c4, l4, r4⟩ := Aft.lift c3 (upd_aft hq) (rep_newL hq (reps_cut (lo := a) (hi := b) rr))
  exact k _ S3 _ _ _ c4 ((l2.trans l3).trans l4) r4 hc
/-! ### xs[::-1] -/
theorem Reps.rev {K : PySem.W.Frag} {O : Ow} {H : Hp} : ∀ {ds : List D} {vs : List V}, Reps K O H ds vs → Reps K O H ds.reverse vs.reverse
  | [], _, h => by rw [show _ = [] from h]; exact (show Reps K O H [] [] from rfl)
  | d :: ds, _, ⟨v, r, e, h1, h2⟩ => by
    rw [e, List.reverse_cons, List.reverse_cons]
    exact Reps.app (Reps.rev h2) ⟨v, [], rfl, h1, rfl⟩
def dRev (f : FE) : FE := fun S C E => f S (fun d S1 => ∃ ds, d = .lst ds ∧ C (.lst ds.reverse) S1) E
theorem de_rev {f : FE} (h : PE X e (tRev Θ.K (tD Θ f))) : PE X e (tD Θ (dRev f)) := pe_imp h fun σ H Q ⟨O, S, C, c, hf, k⟩ =>
  ⟨O, S, _, c, hf, fun d S1 v O1 H1 c1 l1 r1 ⟨ds, e1, hc⟩ => by
    subst e1
    obtain ⟨p, vs, e1, s, rr⟩ := r1
    subst e1
    refine ⟨p, vs, rfl, s.sq, fun q hq => ?_⟩
    obtain ⟨c4, l4, r4⟩ := Aft.lift c1 (upd_aft hq) (rep_newL hq rr.rev)
    exact k _ S1 _ _ _ c4 (l1.trans l4) r4 hc⟩
/-! ### a slot's own list: pop, extend, del xs[k:] -/
theorem Reps.split {K : PySem.W.Frag} {O : Ow} {H : Hp} : ∀ {ds es : List D} {vs : List V}, Reps K O H (ds ++ es) vs → ∃ a b, vs = a ++ b ∧ Reps K O H ds a ∧ Reps K O H es b
  | [], _, vs, h => ⟨[], vs, rfl, rfl, h⟩
  | d :: ds, es, _, ⟨v, r, e, h1, h2⟩ => by
    obtain ⟨a, b, e2, r1, r2⟩ := Reps.split h2
    exact ⟨v :: a, b, by rw [e, e2]; rfl, ⟨v, a, rfl, h1, r1⟩, r2⟩
def dPop (i : Nat) : FE := fun S C _ => ∃ ds d, S.g[i]? = some (.ow (ds ++ [d])) ∧ C d { S with g := S.g.set i (.ow ds) }
theorem de_pop {i : Nat} (h : PE X e (tBM0 Θ.K "list" rPop (tVar i))) : PE X e (tD Θ (dPop i)) := pe_imp h fun σ H Q ⟨O, S, C, c, ⟨ds, d, hs, hc⟩, k⟩ => by
  obtain ⟨o0, ho0, p, vs0, e0, op0, hp0, h00, rr0⟩ := c.sl i _ hs
  subst e0
  obtain ⟨a, b, e1, r1, u, _, e2, ru, e3⟩ := Reps.split rr0
  cases e3
  subst e2 e1
  refine ⟨_, ho0, .inl ⟨rfl, _, .inl (.inl hp0)⟩, p, _, u, rfl, rfl, hp0, by rw [List.length_append, List.length_singleton, Nat.add_sub_cancel, List.getElem?_append_right (Nat.le_refl _), Nat.sub_self]; rfl, ?_⟩
  rw [List.dropLast_concat]
  obtain ⟨c2, l2⟩ := c.put (es := ds) (us := a) hs ho0 op0 hp0 h00 r1
  exact k d _ u O _ c2 l2 (Rep.le l2.le _ _ ru) hc
def dExt (i : Nat) (fa : FA) : FE := fun S C E => (∃ ds, S.g[i]? = some (.ow ds)) ∧ fa S (fun ys S1 => ∃ y es ds, ys = [y] ∧ itemsD y = some es ∧ S1.g[i]? = some (.ow ds) ∧ ds.length + es.length ≤ sizeLine ∧ C .non { S1 with g := S1.g.set i (.ow (ds ++ es)) }) E
theorem de_ext {i : Nat} {fa : FA} (h : PE X e (tBM Θ.K "list" (rExtA Θ.K) (tVar i) (tDA Θ fa))) : PE X e (tD Θ (dExt i fa)) := pe_imp h fun σ H Q ⟨O, S, C, c, ⟨⟨ds0, hs0⟩, hf⟩, k⟩ => by
  obtain ⟨o0, ho0, p, vs0, e0, op0, hp0, h00, rr0⟩ := c.sl i _ hs0
  subst e0
  refine ⟨_, ho0, .inl ⟨rfl, vs0, .inl (.inl hp0)⟩, O, S, _, c, hf, fun ys S1 us O1 H1 c1 l1 r1 ⟨y, es, ds, e1, hy, hs, hz, hc⟩ => ?_⟩
  subst e1
  obtain ⟨u, _, e1, r2, e2⟩ := r1
  cases e2
  subst e1
  obtain ⟨o, ho, p', vs, e1, op, hp, h0, rr⟩ := c1.sl i _ hs
  subst e1
  rw [ho0] at ho
  cases ho
  obtain ⟨kk, q, ws, e1, q1, rq⟩ := ksq_of r2 hy
  subst e1
  refine ⟨p, q, vs, ws, rfl, rfl, hp, ?_, by rw [rr.len, rq.len]; exact hz, ?_⟩
  · cases kk with
    | true =>
      have q2 : LqO Θ.K O1 H1 q ws := by unfold KSq at q1; rw [if_pos rfl] at q1; exact q1
      exact .inr q2.2
    | false =>
      have q2 : TqO Θ.K O1 H1 q ws := by unfold KSq at q1; rw [if_neg (by decide)] at q1; exact q1
      exact .inl q2.sq
  · obtain ⟨c2, l2⟩ := c1.put (es := ds ++ es) (us := vs ++ ws) hs ho0 op hp h0 (Reps.app rr rq)
    exact k .non _ .non O1 _ c2 (l1.trans l2) rfl hc
def dDelFrom (i : Nat) (fl : FE) : FS := fun S e E => (∃ ds, S.g[i]? = some (.ow ds)) ∧ fl S (fun y S1 => ∃ ds, ∃ k : Nat, y = .int (k : Int) ∧ S1.g[i]? = some (.ow ds) ∧ k ≤ ds.length ∧ e.nx { S1 with g := S1.g.set i (.ow (ds.take k)) }) E
theorem ds_delFrom {st : Stmt} {i : Nat} {fl : FE} (h : PS X st (tDelFrom (tVar i) (tD Θ fl))) : PS X st (tDS Θ (dDelFrom i fl)) := ps_imp h fun D' σ H ⟨O, S, e, c, ⟨⟨ds0, hs0⟩, hf⟩, k1, k2, k3, k4⟩ => by
  obtain ⟨o0, ho0, p, vs0, e0, op0, hp0, h00, rr0⟩ := c.sl i _ hs0
  subst e0
  refine ⟨_, ho0, O, S, _, c, hf, fun y S1 v O1 H1 c1 l1 r1 ⟨ds, k, e1, hs, hk, hc⟩ => ?_⟩
  subst e1
  cases r1
  obtain ⟨o, ho, p', vs, e1, op, hp, h0, rr⟩ := c1.sl i _ hs
  subst e1
  rw [ho0] at ho
  cases ho
  refine ⟨p, vs, k, rfl, rfl, hp, by rw [rr.len]; exact hk, ?_⟩
  obtain ⟨c2, l2⟩ := c1.put (es := ds.take k) (us := vs.take k) hs ho0 op hp h0 (rr.take k)
  exact k1 O1 _ σ _ c2 (l1.trans l2) hc
/-! ### a call of a slot that holds a def -/
def dCallH (P : Program) (w : World) (K : PySem.W.Frag) (mg : Str → Option Value) (base : Heap) (k i : Nat) (fa : FA) : FE := fun S C E => ∃ f g, S.g[i]? = some (.da (.ob (.ref f))) ∧ HeldG P w K mg base k f (spP K g) ∧ fa S (fun ds S1 => g ds (fun d => C d S1) fun _ => False) E
theorem de_callH {P : Program} {w : World} {mg : Str → Option Value} {base : Heap} {k i : Nat} {fa : FA} (h : PE X e (tCallH P w Θ.K mg base k i (tDA Θ fa))) : PE X e (tD Θ (dCallH P w Θ.K mg base k i fa)) := pe_imp h fun σ H Q ⟨O, S, C, c, ⟨f, g, hs, hh, hf⟩, kk⟩ => by
  obtain ⟨o0, ho0, v0, e0, r0⟩ := c.sl i _ hs
  subst e0
  cases r0
  refine ⟨f, _, ho0, hh, O, S, _, c, hf, fun ds S1 vs O1 H1 c1 l1 r1 hq => ?_⟩
  exact ⟨O1, ds, _, fun _ => False, r1, hq, fun _ _ _ _ _ _ _ z => z.elim, fun d v O' H' a r hc =>
    let ⟨c3, l3, r4⟩ := Aft.lift c1 a r
    kk d S1 v _ H' c3 (l1.trans l3) r4 hc⟩
/-! ### a star among items -/
def daStar (fa : FE) (fr : FA) : FA := fun S C E => fa S (fun x S1 => ∃ es, itemsD x = some es ∧ fr S1 (fun xs S2 => C (es ++ xs) S2) E) E
theorem da_star {es : List Expr} {fa : FE} {fr : FA} (h : PA X es (tStar Θ.K (tD Θ fa) (tDA Θ fr))) : PA X es (tDA Θ (daStar fa fr)) := pa_imp h fun σ H Q ⟨O, S, C, c, hf, k⟩ =>
  ⟨O, S, _, c, hf, fun x S1 v O1 H1 c1 l1 r1 ⟨es, hx, hb⟩ => by
    obtain ⟨kk, q, ws, e1, q1, rq⟩ := ksq_of r1 hx
    subst e1
    refine ⟨q, ws, rfl, ?_, O1, S1, _, c1, hb, fun xs S2 us O2 H2 c2 l2 r2 hq => k (es ++ xs) S2 (ws ++ us) O2 H2 c2 (l1.trans l2) (Reps.app (Reps.le l2.le _ _ rq) r2) hq⟩
    cases kk with
    | true =>
      have q2 : LqO Θ.K O1 H1 q ws := by unfold KSq at q1; rw [if_pos rfl] at q1; exact q1
      exact .inr q2.sq
    | false =>
      have q2 : TqO Θ.K O1 H1 q ws := by unfold KSq at q1; rw [if_neg (by decide)] at q1; exact q1
      exact .inl q2.sq⟩
/-! ### xs * k -/
def rRepU (K : PySem.W.Frag) : R2 := fun x y H Q => rRep x y H Q ∨ rRepA K x y H Q
theorem op_repU {X : Cx} : OpR X (binaryOp .Mult) (rRepU X.K) := by
  intro pins s σ H x y v u Q I rx ry h
  rcases h with h | h
  · exact op_rep pins s σ H x y v u Q I rx ry h
  · exact op_repA pins s σ H x y v u Q I rx ry h
def repD (k : Nat) (ds : List D) : List D := (List.replicate k ds).flatten
def dRep : RD := fun x y C => match x, y with
  | .lst ds, .int k => 0 ≤ k ∧ k ≤ 1000 ∧ ds.length ≤ 1000 ∧ C (.lst (repD k.toNat ds))
  | .tup ds, .int k => ds ≠ [] ∧ 0 ≤ k ∧ k ≤ 1000 ∧ ds.length ≤ 1000 ∧ C (.tup (repD k.toNat ds))
  | _, _ => False
theorem Reps.rep {K : PySem.W.Frag} {O : Ow} {H : Hp} {ds : List D} {vs : List V} (r : Reps K O H ds vs) : ∀ k : Nat, Reps K O H (repD k ds) (List.replicate k vs).flatten
  | 0 => (show Reps K O H [] [] from rfl)
  | k + 1 => by
    unfold repD
    rw [List.replicate_succ, List.replicate_succ, List.flatten_cons, List.flatten_cons]
    exact Reps.app r (Reps.rep r k)
theorem D_rep {K : PySem.W.Frag} : OpD K (rRepU K) dRep := by
  intro O H dx dy x y C Q rx ry h hq
  unfold dRep at h
  split at h
  · next ds k =>
    obtain ⟨h1, h2, h3, hc⟩ := h
    obtain ⟨p, vs, rfl, e1, r1⟩ := rx
    cases ry
    refine .inl ⟨p, k, vs, rfl, rfl, e1, by omega, by omega, ?_, fun q hq' => hq _ _ _ _ (upd_aft hq') (rep_newL hq' (r1.rep k.toNat)) hc⟩
    rw [r1.len, sizeLine_eq]
    exact Nat.le_trans (Nat.mul_le_mul h3 (show k.toNat ≤ 1000 by omega)) (by decide)
  · next ds k =>
    obtain ⟨hn, h1, h2, h3, hc⟩ := h
    obtain ⟨p, vs, rfl, e1, r1⟩ := rx
    cases ry
    refine .inr ⟨p, k, vs, rfl, rfl, e1.sq, fun z => hn (r1.nil_of.mp z), h1, h2, by rw [r1.len]; exact h3, fun e => ?_, fun _ q hq' => hq _ _ _ _ (upd_aft hq') (rep_newT hq' (r1.rep k.toNat)) hc⟩
    subst e
    have e2 : repD (1 : Int).toNat ds = ds := by
      show (List.replicate 1 ds).flatten = ds
      simp
    rw [e2] at hc
    exact hq (.tup ds) _ O H (Aft.refl _ _ _) ⟨p, vs, rfl, e1, r1⟩ hc
  · exact h.elim
/-! ### list(zip(a, b)) -/
theorem zipD_lenM : ∀ {xs ys : List D}, (zipD xs ys).length = min xs.length ys.length
  | [], _ => by rw [List.length_nil, Nat.zero_min]; rfl
  | x :: xs, [] => by rw [List.length_nil, Nat.min_zero]; rfl
  | x :: xs, y :: ys => by
    show (zipD xs ys).length + 1 = min (xs.length + 1) (ys.length + 1)
    rw [zipD_lenM]
    omega
theorem zipD_atM : ∀ {xs ys : List D} {i : Nat}, i < min xs.length ys.length → ∃ x y, xs[i]? = some x ∧ ys[i]? = some y ∧ (zipD xs ys)[i]? = some (.tup [x, y])
  | x :: xs, y :: ys, 0, _ => ⟨x, y, rfl, rfl, rfl⟩
  | x :: xs, y :: ys, i + 1, hi => zipD_atM (xs := xs) (ys := ys) (i := i) (by rw [List.length_cons, List.length_cons] at hi; omega)
  | [], _, _, h => by rw [List.length_nil, Nat.zero_min] at h; cases h
  | _ :: _, [], _, h => by rw [List.length_nil, Nat.min_zero] at h; cases h
def dListZip (fa : FA) : FE := fun S C E => fa S (fun ds S1 => ∃ a b xs ys, ds = [a, b] ∧ itemsD a = some xs ∧ itemsD b = some ys ∧ C (.lst (zipD xs ys)) S1) E
theorem de_listZip {fa : FA} (h : PE X e (tListZip Θ.K (tDA Θ fa))) : PE X e (tD Θ (dListZip fa)) := pe_imp h fun σ H Q ⟨O, S, C, c, hf, k⟩ =>
  ⟨O, S, _, c, hf, fun ds S1 us O1 H1 c1 l1 r ⟨a, b, xs, ys, e1, h1, h2, hc⟩ => by
    subst e1
    obtain ⟨v, _, e1, r1, u, _, e2, r2, e3⟩ := r
    subst e3 e2 e1
    obtain ⟨k1, p, vs, e1, q1, s1⟩ := ksq_of r1 h1
    obtain ⟨k2, q, ws, e2, q2, s2⟩ := ksq_of r2 h2
    subst e1 e2
    refine ⟨k1, k2, p, q, vs, ws, rfl, q1.sq, q2.sq, fun l as H' hlen hold hnd hpa hp hfr hno hS hT => ?_⟩
    have lvn : ∀ {c : Addr}, lv H1 c → c ≠ l ∧ c ∉ as := fun {c} hc => ⟨lv_ne hc (nlv hp), fun z => nlv (hfr c z) hc⟩
    let O' : Ow := fun c => if c = l ∨ c ∈ as then none else O1 c
    have oo : ∀ {c : Addr}, lv H1 c → O' c = O1 c := fun {c} hc => by
      show (if c = l ∨ c ∈ as then none else O1 c) = _
      rw [if_neg (fun z => z.elim (lvn hc).1 (lvn hc).2)]
    have af : Aft none O1 H1 O' H' := ⟨SameX.of hold, fun c hc e => by rw [oo hc] at e; exact e⟩
    have le : Le O1 H1 O' H' := ⟨fun c o i e hc => ⟨by rw [oo ⟨o, hc, i⟩]; exact e, hold c o hc⟩, fun c o _ hc => hold c o hc⟩
    have rep : Rep Θ.K O' H' (.lst (zipD xs ys)) (.ref l) := by
      refine ⟨l, as.map V.ref, rfl, ⟨if_pos (.inl rfl), hS⟩, Reps.of (by rw [List.length_map, hlen, zipD_lenM, s1.len, s2.len]) fun i d x hd hx => ?_⟩
      have hi : i < min xs.length ys.length := by
        have := (List.getElem?_eq_some_iff.mp hd).1
        rwa [zipD_lenM] at this
      obtain ⟨dx, dy, g1, g2, g3⟩ := zipD_atM hi
      rw [hd] at g3
      cases g3
      obtain ⟨vx, hvx, rx⟩ := s1.at g1
      obtain ⟨vy, hvy, ry⟩ := s2.at g2
      rw [List.getElem?_map] at hx
      cases ha : as[i]? with
      | none => rw [ha] at hx; cases hx
      | some a =>
        rw [ha] at hx
        cases hx
        exact ⟨a, [vx, vy], rfl, .inl (.inl (hT i a vx vy ha hvx hvy)), vx, [vy], rfl, Rep.le le _ _ rx, vy, [], rfl, Rep.le le _ _ ry, rfl⟩
    obtain ⟨c3, l3, r4⟩ := Aft.lift c1 af rep
    exact k _ S1 _ _ _ c3 (l1.trans l3) r4 hc⟩
end
end DL
end
section
set_option maxHeartbeats 4000000
namespace DL
variable [TB]
open PySem PySem.Spec PyProof.Rows L2 G1 R1 StX G2
section
variable {X : Cx} {Θ : Par} {e : Expr}
/-! ### a dict written with text keys -/
/-- the values of a display, from the left -/
def dVals : List FE → DS → (List D → DS → Prop) → (Err → Prop) → Prop
  | [], S, C, _ => C [] S
  | f :: fs, S, C, E => f S (fun d S1 => dVals fs S1 (fun ds S2 => C (d :: ds) S2) E) E
def dDispN (ks : List Str) (fs : List FE) : FE := fun S C E => dVals fs S (fun ds S1 => C (.dic (ks.map fun k => (.inr k : Key)) ds) S1) E
/-- the pairs of a display, over data -/
def trsN (Θ : Par) (ks : List Str) (fs : List FE) : List (TE × TE) := (ks.zip fs).map fun p => (tC (.str p.1), tD Θ p.2)
theorem pairsN : ∀ (ks : List Str) (fs : List FE) (O : Ow) (S : DS) (C : List D → DS → Prop) (σ : L2.St) (H : Hp) (Q : List (V × V) → Hp → Prop), ks.length = fs.length → Ctx Θ O S σ H → dVals fs S C Θ.Er →
    (∀ ds S' vs O' H', ds.length = fs.length → Ctx Θ O' S' σ H' → LL O H O' H' → Reps Θ.K O' H' ds vs → C ds S' → Q ((ks.zip vs).map fun p => (V.str p.1, p.2)) H') → tPairs (trsN Θ ks fs) σ H Q
  | [], [], O, S, C, σ, H, Q, _, c, hf, k => k [] S [] O H rfl c (LL.refl _ _) rfl hf
  | x :: ks, f :: fs, O, S, C, σ, H, Q, hl, c, hf, k => ⟨O, S, _, c, hf, fun d S1 v O1 H1 c1 l1 r1 hb =>
      pairsN ks fs O1 S1 _ σ H1 _ (by simpa using hl) c1 hb fun ds S2 vs O2 H2 hn c2 l2 r2 hc =>
        k (d :: ds) S2 (v :: vs) O2 H2 (by rw [List.length_cons, List.length_cons, hn]) c2 (l1.trans l2) ⟨v, vs, rfl, Rep.le l2.le _ _ r1, r2⟩ hc⟩
  | [], _ :: _, _, _, _, _, _, _, hl, _, _, _ => by cases hl
  | _ :: _, [], _, _, _, _, _, _, hl, _, _, _ => by cases hl
theorem putK_new {k : Key} {v : V} : ∀ (kvs : List (Key × V)), k ∉ kvs.map (·.1) → putK kvs k v = kvs ++ [(k, v)] := fun kvs h => by
  unfold putK
  rw [if_neg]
  intro z
  rw [List.any_eq_true] at z
  obtain ⟨p, hp, e⟩ := z
  exact h (List.mem_map.mpr ⟨p, hp, of_decide_eq_true e⟩)
theorem merge_new : ∀ (more acc : List (Key × V)), ((acc ++ more).map (·.1)).Nodup → mergeK acc more = acc ++ more
  | [], acc, _ => by rw [List.append_nil]; rfl
  | p :: more, acc, h => by
    have hn : p.1 ∉ acc.map (·.1) := fun z => by
      rw [List.map_append, List.nodup_append] at h
      exact h.2.2 p.1 z p.1 (List.mem_map.mpr ⟨p, List.mem_cons_self .., rfl⟩) rfl
    show mergeK (putK acc p.1 p.2) more = _
    rw [putK_new acc hn, merge_new more (acc ++ [(p.1, p.2)]) (by rw [List.append_assoc]; exact h), List.append_assoc]
    rfl
theorem de_dispN {ks : List Str} {fs : List FE} (hl : ks.length = fs.length) (h15 : ks.length ≤ 15) (hn : (ks.map fun k => (Sum.inr k : Key)).Nodup) (h : PE X e (tDisp (trsN Θ ks fs))) : PE X e (tD Θ (dDispN ks fs)) := pe_imp h fun σ H Q ⟨O, S, C, c, hf, k⟩ => fun p hp => by
  obtain ⟨c1, l1⟩ := c.newO (o := .dK []) 1000000 hp
  have nH : ¬ lv H p := nlv hp
  have n0 : ¬ lv Θ.H0 p := fun z => nlv hp (c.live z)
  refine pairsN ks fs _ S _ σ _ _ hl c1 hf fun ds S1 vs O2 H2 hds c2 l2 r hc => ?_
  obtain ⟨op, hl1⟩ := l2.lk p _ 0 rfl setO_same upd_same
  have op2 : O2 p = some 1000000 := op.trans setO_same
  have vl : vs.length = ks.length := by rw [r.len, hds, hl]
  let kvs : List (Key × V) := (ks.zip vs).map fun q => (.inr q.1, q.2)
  have hk1 : kvs.map (·.1) = ks.map fun k => (Sum.inr k : Key) := by
    show ((ks.zip vs).map _).map _ = _
    rw [List.map_map, show ((fun q : Key × V => q.1) ∘ fun q : Str × V => ((Sum.inr q.1 : Key), q.2)) = (fun k => (Sum.inr k : Key)) ∘ Prod.fst from rfl, ← List.map_map, List.map_fst_zip (by omega)]
  have hk2 : kvs.map (·.2) = vs := by
    show ((ks.zip vs).map _).map _ = _
    rw [List.map_map, show ((fun q : Key × V => q.2) ∘ fun q : Str × V => ((Sum.inr q.1 : Key), q.2)) = Prod.snd from rfl, List.map_snd_zip (by omega)]
  have hm : mergeK [] kvs = kvs := merge_new kvs [] (by rw [List.nil_append, hk1]; exact hn)
  refine ⟨hl1, kvs, ?_, ?_, ?_⟩
  · show (ks.zip vs).map _ = ((ks.zip vs).map _).map _
    rw [List.map_map]
    rfl
  · show ((ks.zip vs).map _).length ≤ 15
    rw [List.length_map, List.length_zip]
    omega
  rw [hm]
  obtain ⟨c3, l3⟩ := c2.putK (o := .dK kvs) (k := 0) op2 hl1 n0
  obtain ⟨c4, l4⟩ := c3.frz (p := p) (o := .dK kvs) (k := 1000000) op2 (by omega) (fun i ds h z => by
    have h2 : i < S1.g.length := (List.getElem?_eq_some_iff.mp h).1
    have := c3.len
    have := c3.few
    omega) upd_same (fun z => absurd z n0)
  have l5 := (((l1.trans l2).new l3 nH).new l4 nH)
  refine k (.dic (ks.map fun k => (.inr k : Key)) ds) S1 (.ref p) _ _ c4 l5 ⟨p, kvs, rfl, ⟨setO_same, upd_same⟩, hk1, ?_⟩ hc
  rw [hk2]
  exact Reps.le (l3.1.trans l4.1) _ _ r
/-! ### k in d, d[k] of a dict that is data -/
def lookD : List Key → List D → Str → Option D
  | k :: ks, d :: ds, z => if k = .inr z then some d else lookD ks ds z
  | _, _, _ => none
theorem look_some {K : PySem.W.Frag} {O : Ow} {H : Hp} {z : Str} : ∀ {kvs : List (Key × V)} {ds : List D}, Reps K O H ds (kvs.map (·.2)) → match lookD (kvs.map (·.1)) ds z with
    | some d => ∃ v, valV kvs (.inr z) = some v ∧ Rep K O H d v
    | none => valV kvs (.inr z) = none
  | [], ds, r => by
    have e : ds = [] := by
      cases ds with
      | nil => rfl
      | cons d ds => obtain ⟨v, t, e, _⟩ := r; cases e
    subst e
    exact valV_nil
  | p :: kvs, ds, r => by
    cases ds with
    | nil => cases (show _ = [] from r)
    | cons d ds =>
      obtain ⟨v, t, e, r1, r2⟩ := r
      cases e
      show match (if p.1 = .inr z then some d else lookD (kvs.map (·.1)) ds z) with
        | some d => ∃ v, valV (p :: kvs) (.inr z) = some v ∧ Rep K O H d v
        | none => valV (p :: kvs) (.inr z) = none
      by_cases h : p.1 = .inr z
      · rw [if_pos h, valV_pos h]
        exact ⟨_, rfl, r1⟩
      · rw [if_neg h, valV_neg h]
        exact look_some r2
def dInDic (neg : Bool) (fk fd : FE) : FE := fun S C E => fk S (fun x S1 => fd S1 (fun y S2 => ∃ z ks ds, x = .str z ∧ y = .dic ks ds ∧ C (.bl (if neg then !(lookD ks ds z).isSome else (lookD ks ds z).isSome)) S2) E) E
theorem inDic_tl {fk fd : FE} (σ : L2.St) (H : Hp) (Q : VK) (h : tD Θ (dInDic false fk fd) σ H Q) : tDIn (tD Θ fk) (tD Θ fd) σ H Q := by
  obtain ⟨O, S, C, c, hf, k⟩ := h
  exact ⟨O, S, _, c, hf, fun x S1 v O1 H1 c1 l1 r1 hb => ⟨O1, S1, _, c1, hb, fun y S2 u O2 H2 c2 l2 r2 ⟨z, ks, ds, e1, e2, hc⟩ => by
    subst e1 e2
    cases r1
    obtain ⟨p, kvs, e1, s, e2, r⟩ := r2
    subst e1 e2
    have g := look_some (z := z) r
    refine ⟨p, valV kvs (.inr z), rfl, DGet.k (k := .inr z) s.2, ?_⟩
    have e3 : (valV kvs (.inr z)).isSome = (lookD (kvs.map (·.1)) ds z).isSome := by
      split at g
      · next d e => rw [e]; obtain ⟨v, e, _⟩ := g; rw [e]; rfl
      · next e => rw [e, g]; rfl
    rw [e3]
    exact k (.bl _) S2 _ O2 H2 c2 (l1.trans l2) rfl hc⟩⟩
theorem de_inDic {fk fd : FE} (h : PE X e (tDIn (tD Θ fk) (tD Θ fd))) : PE X e (tD Θ (dInDic false fk fd)) := pe_imp h inDic_tl
theorem dt_inDic {fk fd : FE} (h : PT X e (tTest (tDIn (tD Θ fk) (tD Θ fd)))) : PT X e (tDT Θ (dTst (dInDic false fk fd))) := pt_imp h fun σ H Q q => inDic_tl σ H _ (tst_tl q)
def dGetDic (fd fk : FE) : FE := fun S C E => fd S (fun y S1 => fk S1 (fun x S2 => ∃ z ks ds d, x = .str z ∧ y = .dic ks ds ∧ lookD ks ds z = some d ∧ C d S2) E) E
theorem de_getDic {fk fd : FE} (h : PE X e (tDGet (tD Θ fd) (tD Θ fk))) : PE X e (tD Θ (dGetDic fd fk)) := pe_imp h fun σ H Q ⟨O, S, C, c, hf, k⟩ =>
  ⟨O, S, _, c, hf, fun y S1 v O1 H1 c1 l1 r1 hb => ⟨O1, S1, _, c1, hb, fun x S2 u O2 H2 c2 l2 r2 ⟨z, ks, ds, d, e1, e2, hl, hc⟩ => by
    subst e1 e2
    cases r2
    obtain ⟨p, kvs, e1, s, e2, r⟩ := Rep.le l2.le _ _ r1
    subst e1 e2
    have g := look_some (z := z) r
    rw [hl] at g
    obtain ⟨v, e, rv⟩ := g
    exact ⟨p, v, rfl, by rw [← e]; exact DGet.k (k := .inr z) s.2, k d S2 v O2 H2 c2 (l1.trans l2) rv hc⟩⟩⟩
/-! ### a dict of the module -/
/-- what a dict of the module says: tab: of these keys -/
structure KTab (K : PySem.W.Frag) (w : World) (a : Addr) (keys : List Str) (tab : Str → Option D) : Prop where
  dict : ∃ es n, KDict K w a es n
  at_ : ∀ z ∈ keys, match tab z with
    | some d => ∃ u v, PySem.W.nsIn K a z = some (some u) ∧ RelV v u ∧ ∀ O H, Rep K O H d v
    | none => PySem.W.nsIn K a z = some none
def dInK (neg : Bool) (keys : List Str) (tab : Str → Option D) (a : Addr) : RD := fun x y C => ∃ z, x = .str z ∧ y = .ob (.ref a) ∧ z ∈ keys ∧ C (.bl (if neg then !(tab z).isSome else (tab z).isSome))
def rInK (K : PySem.W.Frag) (neg : Bool) (a : Addr) : R2 := fun x y H Q => ∃ (z : Str) (r : Option Value), x = .str z ∧ y = .ref a ∧ PySem.W.nsIn K a z = some r ∧ Q (.bl (if neg then !r.isSome else r.isSome)) H
theorem op_inK {w : World} {a : Addr} {keys : List Str} {tab : Str → Option D} (T : KTab X.K X.w a keys tab) : OpR X (compareOp .In) (rInK X.K false a) := by
  obtain ⟨es, n, D⟩ := T.dict
  exact op_in_kd D
theorem D_inK {K : PySem.W.Frag} {w : World} {a : Addr} {keys : List Str} {tab : Str → Option D} (T : KTab K w a keys tab) : OpD K (rInK K false a) (dInK false keys tab a) := by
  intro O H dx dy x y C Q rx ry ⟨z, e1, e2, hz, hc⟩ hq
  subst e1 e2
  cases rx
  cases ry
  have g := T.at_ z hz
  cases e : tab z with
  | some d =>
    rw [e] at g hc
    obtain ⟨u, v, g1, _⟩ := g
    exact ⟨z, _, rfl, rfl, g1, hq (.bl true) _ O H (Aft.refl _ _ _) rfl hc⟩
  | none =>
    rw [e] at g hc
    exact ⟨z, _, rfl, rfl, g, hq (.bl false) _ O H (Aft.refl _ _ _) rfl hc⟩
def dIxK (keys : List Str) (tab : Str → Option D) (a : Addr) : RD := fun x y C => ∃ z d, x = .ob (.ref a) ∧ y = .str z ∧ z ∈ keys ∧ tab z = some d ∧ C d
theorem D_ixK {K : PySem.W.Frag} {w : World} {a : Addr} {keys : List Str} {tab : Str → Option D} (T : KTab K w a keys tab) : OpD K (rIxD K w) (dIxK keys tab a) := by
  intro O H dx dy x y C Q rx ry ⟨z, d, e1, e2, hz, ht, hc⟩ hq
  subst e1 e2
  cases rx
  cases ry
  have g := T.at_ z hz
  rw [ht] at g
  obtain ⟨u, v, g1, g2, g3⟩ := g
  obtain ⟨es, n, D⟩ := T.dict
  exact ⟨a, z, v, rfl, rfl, ⟨es, n, u, D.at_, D.lit, g1, g2⟩, hq d v O H (Aft.refl _ _ _) (g3 O H) hc⟩
def dKget (keys : List Str) (tab : Str → Option D) (a : Addr) (fd fk : FE) : FE := fun S C E => fd S (fun x S1 => x = .ob (.ref a) ∧ fk S1 (fun y S2 => ∃ z, y = .str z ∧ z ∈ keys ∧ C ((tab z).getD .non) S2) E) E
theorem de_kget {w : World} {a : Addr} {keys : List Str} {tab : Str → Option D} (T : KTab Θ.K w a keys tab) {fd fk : FE} (h : PE X e (tKGet Θ.K w (tD Θ fd) (tD Θ fk))) : PE X e (tD Θ (dKget keys tab a fd fk)) := pe_imp h fun σ H Q ⟨O, S, C, c, hf, k⟩ =>
  ⟨O, S, _, c, hf, fun x S1 v O1 H1 c1 l1 r1 ⟨e1, hb⟩ => by
    subst e1
    cases r1
    obtain ⟨es, n, D⟩ := T.dict
    refine ⟨a, es, n, rfl, D, O1, S1, _, c1, hb, fun y S2 u O2 H2 c2 l2 r2 ⟨z, e2, hz, hc⟩ => ?_⟩
    subst e2
    cases r2
    have g := T.at_ z hz
    cases e : tab z with
    | some d =>
      rw [e] at g hc
      obtain ⟨u, v, g1, g2, g3⟩ := g
      exact ⟨z, _, v, rfl, g1, g2, k d S2 v O2 H2 c2 (l1.trans l2) (g3 _ _) hc⟩
    | none =>
      rw [e] at g hc
      exact ⟨z, _, .non, rfl, g, rfl, k .non S2 .non O2 H2 c2 (l1.trans l2) rfl hc⟩⟩
/-! ### str(n), z.split(y), a <= b of texts -/
def dStrI : List D → (D → Prop) → Prop := fun ds C => ∃ i, ds = [.int i] ∧ i.natAbs.log2 < 1920 ∧ C (.str (toString i))
theorem D_strI {K : PySem.W.Frag} : CallD K (fun xs H Q => ∃ i, xs = [.int i] ∧ i.natAbs.log2 < 1920 ∧ Q (.str (toString i)) H) dStrI := by
  intro O H ds us C Q r ⟨i, e, h1, hc⟩ hq
  subst e
  obtain ⟨v, e, rv⟩ := repv1 r
  subst e
  have e : v = .int i := rv
  subst e
  exact ⟨i, rfl, h1, hq (.str _) _ O H (Aft.refl _ _ _) rfl hc⟩
theorem reps_strs' {K : PySem.W.Frag} {O : Ow} {H : Hp} (bs : List Str) : Reps K O H (bs.map D.str) (bs.map V.str) := Reps.map_ (f := D.str) (g := V.str) (fun _ => rfl) bs
def dSplit : RD := fun x y C => ∃ a b, x = .str a ∧ y = .str b ∧ (b.length == 0) = false ∧ a.length + 2 ≤ sizeLine ∧ C (.lst ((Txt.split a b).map D.str))
theorem D_split {K : PySem.W.Frag} : MtD1 K (fun x xs H Q => ∃ a b, x = .str a ∧ xs = [.str b] ∧ (b.length == 0) = false ∧ a.length + 2 ≤ sizeLine ∧ rNewStrs (Txt.split a b) H Q) dSplit := by
  intro O H dx dy x y C Q rx ry ⟨a, b, e1, e2, h1, h2, hc⟩ hq
  subst e1 e2
  cases rx
  cases ry
  exact ⟨a, b, rfl, rfl, h1, h2, fun p hp => hq _ _ _ _ (upd_aft hp) (rep_newL hp (reps_strs' (Txt.split a b))) hc⟩
def dLeS : RD := fun x y C => ∃ i j, x = .str i ∧ y = .str j ∧ C (.bl (!decide (j.cps.toList < i.cps.toList)))
theorem D_leS {K : PySem.W.Frag} : OpD K (fun x y H Q => ∃ i j, x = .str i ∧ y = .str j ∧ Q (.bl (!decide (j.cps.toList < i.cps.toList))) H) dLeS := by
  intro O H dx dy x y C Q rx ry ⟨i, j, e1, e2, hc⟩ hq
  subst e1 e2
  cases rx
  cases ry
  exact ⟨i, j, rfl, rfl, hq (.bl _) _ O H (Aft.refl _ _ _) rfl hc⟩
/-! ### raise C(x), x in a slot -/
def dRaiseI (C : Addr) (zs : List Str) (i : Nat) : FS := fun S _ E => ∃ z, S.g[i]? = some (.da (.str z)) ∧ z ∈ zs ∧ E ⟨.ref C, [("part", .str z)]⟩
theorem ds_raiseI {st : Stmt} {t : TS} {C : Addr} {zs : List Str} {i : Nat} (h : PS X st t) (hk : ∀ D' σ H z, σ[i]? = some (some (V.str z)) → z ∈ zs → (∀ d H', Same H H' → H' d = some (.xd [("part", .str z)]) → Θ.E (.ref C) (some d) H') → t D' σ H) :
    PS X st (tDS Θ (dRaiseI C zs i)) := ps_imp h fun D' σ H ⟨O, S, e, c, ⟨z, hs, hz, hf⟩, k1, k2, k3, k4⟩ => by
  obtain ⟨o, ho, v, e1, r⟩ := c.sl i _ hs
  subst e1
  cases r
  exact hk D' σ H z ho hz fun d H' sm hd => c.ew _ _ _ O H' ⟨c.aft.same.trans (SameX.of sm), c.aft.own⟩ (show ErrR Θ.K O H' ⟨.ref C, [("part", .str z)]⟩ (.ref C) (some d) from ⟨rfl, d, [("part", .str z)], rfl, hd, rfl, (show Reps Θ.K O H' [D.str z] [V.str z] from ⟨.str z, [], rfl, rfl, rfl⟩)⟩) hf
end
end DL
end
section
set_option maxHeartbeats 4000000
namespace DL
variable [TB]
open PySem PySem.Spec PyProof.Rows L2 G1
section
variable {K : PySem.W.Frag}
/-! a + b, tuples of any length too -/
def rPlusA (K : PySem.W.Frag) : R2 := fun x y H Q => rPlus K x y H Q ∨ L2.rCatA K x y H Q
theorem op_plusA {X : Cx} : OpR X (binaryOp .Add) (rPlusA X.K) := by
  intro pins s σ H x y v u Q I rx ry h
  rcases h with h | h
  · exact op_plus pins s σ H x y v u Q I rx ry h
  · exact L2.op_catA pins s σ H x y v u Q I rx ry h
def dPlusA : RD := fun x y C => match x, y with
  | .int i, .int j => C (.int (i + j))
  | .str a, .str b => a.length + b.length ≤ sizeLine ∧ C (.str (a ++ b))
  | .lst a, .lst b => a.length + b.length ≤ sizeLine ∧ C (.lst (a ++ b))
  | .tup a, .tup b => a.length + b.length ≤ sizeLine ∧ C (.tup (a ++ b))
  | _, _ => False
theorem D_plusA : OpD K (rPlusA K) dPlusA := by
  intro O H dx dy x y C Q rx ry h hq
  unfold dPlusA at h
  split at h
  · exact .inl (D_plus _ _ _ _ _ _ _ _ rx ry h hq)
  · exact .inl (D_plus _ _ _ _ _ _ _ _ rx ry h hq)
  · exact .inl (D_plus _ _ _ _ _ _ _ _ rx ry h hq)
  · next a b =>
    obtain ⟨p, vs, rfl, e1, r1⟩ := rx
    obtain ⟨q, us, rfl, e2, r2⟩ := ry
    obtain ⟨hz, hc⟩ := h
    refine .inr ⟨p, q, vs, us, rfl, rfl, e1.sq, e2.sq, by rw [r1.len, r2.len]; exact hz, fun z => ?_, fun _ z => ?_, fun z n p' hn => hq _ _ _ _ (upd_aft hn) (rep_newT hn (Reps.app r1 r2)) hc⟩
    · rw [r1.nil_of.mp z, List.nil_append] at hc
      exact hq (.tup b) _ O H (Aft.refl _ _ _) ⟨q, us, rfl, e2, r2⟩ hc
    · rw [r2.nil_of.mp z, List.append_nil] at hc
      exact hq (.tup a) _ O H (Aft.refl _ _ _) ⟨p, vs, rfl, e1, r1⟩ hc
  · exact h.elim
theorem plusA_int {i j : Int} {C : D → Prop} : dPlusA (.int i) (.int j) C = C (.int (i + j)) := rfl
theorem plusA_str {x y : Str} {C : D → Prop} : dPlusA (.str x) (.str y) C = (x.length + y.length ≤ sizeLine ∧ C (.str (x ++ y))) := rfl
theorem plusA_lst {ds es : List D} {C : D → Prop} : dPlusA (.lst ds) (.lst es) C = (ds.length + es.length ≤ sizeLine ∧ C (.lst (ds ++ es))) := rfl
theorem plusA_tup {ds es : List D} {C : D → Prop} : dPlusA (.tup ds) (.tup es) C = (ds.length + es.length ≤ sizeLine ∧ C (.tup (ds ++ es))) := rfl
def dIsnB : RD := fun x y C => ∃ a b, x = .bl a ∧ y = .bl b ∧ C (.bl (!decide (a = b)))
theorem D_isnB : OpD K rNotB dIsnB := by
  intro O H dx dy x y C Q rx ry ⟨a, b, e1, e2, hc⟩ hq
  subst e1 e2
  cases rx
  cases ry
  exact ⟨a, b, rfl, rfl, hq (.bl _) _ O H (Aft.refl _ _ _) rfl hc⟩
theorem de_callHK {X : Cx} {e : Expr} {Θ : Par} {P : Program} {w : World} {mg : Str → Option Value} {base : Heap} {k i : Nat} {fa : FA} (hK : Θ.K = K) (h : PE X e (tCallH P w Θ.K mg base k i (tDA Θ fa))) : PE X e (tD Θ (dCallH P w K mg base k i fa)) := by
  subst hK
  exact de_callH h
/-- a def that is never called -/
theorem fnFalse {P : Program} {w : World} {mg : Str → Option Value} {base : Heap} {CX : CXT} {k : Nat} {f : Addr} {fd : FuncData} {ps : List Str} : FnG P w K mg base CX k f fd ps (spP K fun _ _ _ => False) :=
  ⟨fun _ _ _ _ ⟨_, _, _, _, _, h, _⟩ => h.elim, fun _ _ _ _ _ _ _ _ _ _ _ _ _ _ ⟨_, _, _, _, _, h, _⟩ => h.elim⟩
end
section
open G2
variable {X : Cx} {Θ : Par} {e : Expr} {kws : List Keyword}
theorem pk_impS {t t' : TA} (h : PK X kws t) (i : ∀ σ H Q, t' σ H Q → t σ H Q) : PK X kws t' := ⟨fun pos pins s σ H Q I q => h.run pos pins s σ H Q I (i σ H Q q)⟩
theorem dkk_nil (h : PK X kws tNil) : PK X kws (tDA Θ daNil) := pk_impS h fun σ H Q ⟨O, S, C, c, hf, k⟩ => k [] S [] O H c (LL.refl _ _) rfl hf
theorem dkk_cons {fa : FE} {fr : FA} (h : PK X kws (tCons (tD Θ fa) (tDA Θ fr))) : PK X kws (tDA Θ (daCons fa fr)) := pk_impS h fun σ H Q ⟨O, S, C, c, hf, k⟩ =>
  ⟨O, S, _, c, hf, fun x S1 v O1 H1 c1 l1 r1 hb => ⟨O1, S1, _, c1, hb, fun xs S2 us O2 H2 c2 l2 r2 hq => k (x :: xs) S2 (v :: us) O2 H2 c2 (l1.trans l2) ⟨v, us, rfl, Rep.le l2.le x v r1, r2⟩ hq⟩⟩
theorem de_callPK {g : FP} {fa : FA} (h : PE X e (tCallK (spP Θ.K g) onlyK Θ.E tNil (tDA Θ fa))) : PE X e (tD Θ (dCallP g fa)) := pe_imp h fun σ H Q ⟨O, S, C, c, hf, k⟩ =>
  ⟨O, S, _, c, hf, fun ds S1 vs O1 H1 c1 l1 r1 hq => ⟨O1, ds, _, Θ.Er, r1, hq, fun e cls dd O' H' a er he => c1.ew e cls dd O' H' (c1.aftX a.none) er he, fun d v O' H' a r hc =>
    let ⟨c3, l3, r4⟩ := Aft.lift c1 a r
    k d S1 v _ H' c3 (l1.trans l3) r4 hc⟩⟩
end
end DL
end
section
set_option maxHeartbeats 4000000
namespace DL
variable [TB]
open PySem PySem.Spec PyProof.Rows L2 G1
/-- behind the line that makes the tray -/
def tLaw (K : PySem.W.Frag) (E : XK) (fb : Addr → FS) : TS := fun D' σ H => ∃ a c O0 H0 Er, LamX.Tabs TB.T H0 ∧ tDS ⟨K, some (a, c), O0, H0, E, Er, false⟩ (fb a) D' σ H
theorem law_rest {X : Cx} {sts : List Stmt} {K : PySem.W.Frag} {E : XK} {fb : Addr → FS} (h : ∀ (a c : Addr) (O0 : Ow) (H0 : Hp) (Er : Err → Prop), LamX.Tabs TB.T H0 → PSs X sts (tDS ⟨K, some (a, c), O0, H0, E, Er, false⟩ (fb a))) : PSs X sts (tLaw K E fb) :=
  ⟨fun pins s σ H D' I ⟨a, c, O0, H0, Er, h0, q⟩ => (h a c O0 H0 Er h0).run pins s σ H D' I q⟩
theorem tabs_same {H H1 : Hp} (a : Same H H1) (h : LamX.Tabs TB.T H) : LamX.Tabs TB.T H1 := fun p hp => (h p hp).ext a
/-- a tray at p -/
theorem ctx_tray {K : PySem.W.Frag} {E : XK} {Er : Err → Prop} {l p c : Addr} {H : Hp} {n m : Nat} {ns : List Int} {t : Nat} {r : Int} (nc : c ≠ p) (h1 : H p = some (.lst [.ref c, .int (t : Int), .int r])) (h2 : H c = some (.lst (ns.map V.int))) (hf : ns.length ≤ 63) (hr : 0 ≤ r) (hb : t + n ≤ 1000000) (hm : m ≤ 998)
    (ew : ∀ e cls dd O' H', Aft (some p) (setO (fun _ => none) p (some 0)) H O' H' → ErrR K O' H' e cls dd → Er e → E cls dd H') :
    Ctx ⟨K, some (p, c), setO (fun _ => none) p (some 0), H, E, Er, false⟩ (setO (fun _ => none) p (some 0)) ⟨.un :: .da (.ob (.ref p)) :: List.replicate m .un, n⟩ (some (.ref l) :: some (.ref p) :: List.replicate m none) H := by
  refine ⟨by simp, by simp; omega, fun i s h => ?_, ⟨ns, t, r, setO_same, h1, by rw [setO_ne nc], h2, hf, hr, hb⟩, Aft.refl _ _ _, ew⟩
  match i, h with
  | 0, h =>
    cases h
    exact ⟨_, rfl, True.intro⟩
  | 1, h =>
    cases h
    exact ⟨_, rfl, _, rfl, rfl⟩
  | i + 2, h =>
    have h : (List.replicate m Sl.un)[i]? = some s := h
    rw [List.getElem?_replicate] at h
    split at h
    · cases h
      exact ⟨none, (by show (List.replicate m none)[i]? = some none; rw [List.getElem?_replicate, if_pos ‹_›]), True.intro⟩
    · cases h
end DL
end
section
set_option maxHeartbeats 4000000
namespace K03
open PySem PySem.Spec PyProof.Rows L2 G1 G2 DL
def topS (i : Nat) : Stmt := PySem.Challenge.pw_leastequal_k03_terms_judged.main.body.getD i (.Pass ⟨0, 0, 0, 0⟩)
abbrev s_is_integer : Stmt := topS 1
abbrev s_is_within : Stmt := topS 2
abbrev s_is_list : Stmt := topS 3
abbrev s_are_integers : Stmt := topS 4
abbrev s__in_tuples : Stmt := topS 43
abbrev s__shown : Stmt := topS 12
abbrev s_is_spelling : Stmt := topS 23
abbrev s_is_name : Stmt := topS 24
abbrev s_integer_of : Stmt := topS 25
abbrev s_shift_of : Stmt := topS 26
abbrev s_called : Stmt := topS 27
abbrev s_ended : Stmt := topS 29
abbrev s_bottom_up : Stmt := topS 30
abbrev s_shape_of : Stmt := topS 33
abbrev s_is_number : Stmt := topS 38
abbrev s_is_leaf : Stmt := topS 39
abbrev s_parts_of : Stmt := topS 40
abbrev s_kind_of : Stmt := topS 41
abbrev s_term_of : Stmt := topS 42
abbrev s__form_of : Stmt := topS 45
abbrev s__is_right_leaf : Stmt := topS 46
abbrev s_bounds_of : Stmt := topS 47
abbrev s_checked_term : Stmt := topS 48
abbrev s_many_parts : Stmt := topS 50
abbrev s_many_levels : Stmt := topS 51
abbrev s_spellings_in : Stmt := topS 53
abbrev s_is_term : Stmt := topS 61
abbrev s_is_word : Stmt := topS 62
abbrev s_size_of : Stmt := topS 63
abbrev s_levels_of : Stmt := topS 64
abbrev s_names_in : Stmt := topS 65
abbrev s_flags_in : Stmt := topS 66
abbrev s_places_of : Stmt := topS 67
abbrev s_put_in : Stmt := topS 68
abbrev s_part_at : Stmt := topS 70
abbrev s_with_part : Stmt := topS 71
abbrev s__check_place : Stmt := topS 72
abbrev s__law_trellis : Stmt := topS 75
abbrev s__law_vine : Stmt := topS 76
abbrev s__law_one_of : Stmt := topS 77
abbrev s__law_spelt : Stmt := topS 78
abbrev s__law_drawn : Stmt := topS 79
abbrev s__law_is_spelt : Stmt := topS 80
abbrev s__law_asked : Stmt := topS 81
abbrev s__law_kind : Stmt := topS 82
abbrev s__law_odd : Stmt := topS 83
abbrev s__law_bent : Stmt := topS 84
abbrev s__law_listed : Stmt := topS 85
abbrev s__law_heard : Stmt := topS 86
abbrev s__law_judged_right : Stmt := topS 87
abbrev s__law_many_right : Stmt := topS 88
abbrev s_law : Stmt := topS 89
theorem sc_is_integer : FnScope ["value"] ["value"] (defScope s_is_integer) :=
  ⟨rfl, rfl, rfl, by decide +kernel, rfl, by decide +kernel, by decide +kernel⟩
theorem sc_is_within : FnScope ["value", "least", "most"] ["value", "least", "most"] (defScope s_is_within) :=
  ⟨rfl, rfl, rfl, by decide +kernel, rfl, by decide +kernel, by decide +kernel⟩
theorem sc_is_list : FnScope ["value"] ["value"] (defScope s_is_list) :=
  ⟨rfl, rfl, rfl, by decide +kernel, rfl, by decide +kernel, by decide +kernel⟩
theorem sc_are_integers : FnScope ["value", "least", "most", "one"] ["value", "least", "most"] (defScope s_are_integers) :=
  ⟨rfl, rfl, rfl, by decide +kernel, rfl, by decide +kernel, by decide +kernel⟩
theorem sc__in_tuples : FnScope ["part", "parts"] ["part", "parts"] (defScope s__in_tuples) :=
  ⟨rfl, rfl, rfl, by decide +kernel, rfl, by decide +kernel, by decide +kernel⟩
theorem sc__shown : FnScope ["value"] ["value"] (defScope s__shown) :=
  ⟨rfl, rfl, rfl, by decide +kernel, rfl, by decide +kernel, by decide +kernel⟩
theorem sc_is_spelling : FnScope ["value", "sign"] ["value"] (defScope s_is_spelling) :=
  ⟨rfl, rfl, rfl, by decide +kernel, rfl, by decide +kernel, by decide +kernel⟩
theorem sc_is_name : FnScope ["value"] ["value"] (defScope s_is_name) :=
  ⟨rfl, rfl, rfl, by decide +kernel, rfl, by decide +kernel, by decide +kernel⟩
theorem sc_integer_of : FnScope ["item", "digits", "sign"] ["item"] (defScope s_integer_of) :=
  ⟨rfl, rfl, rfl, by decide +kernel, rfl, by decide +kernel, by decide +kernel⟩
theorem sc_shift_of : FnScope ["label", "many"] ["label"] (defScope s_shift_of) :=
  ⟨rfl, rfl, rfl, by decide +kernel, rfl, by decide +kernel, by decide +kernel⟩
theorem sc_called : FnScope ["label", "items"] ["label"] (defScope s_called) :=
  ⟨rfl, rfl, rfl, by decide +kernel, rfl, by decide +kernel, by decide +kernel⟩
theorem sc_ended : FnScope ["whole", "parts_of", "found", "waiting", "part"] ["whole", "parts_of"] (defScope s_ended) :=
  ⟨rfl, rfl, rfl, by decide +kernel, rfl, by decide +kernel, by decide +kernel⟩
theorem sc_bottom_up : FnScope ["whole", "parts_of", "make", "made", "part", "first", "told"] ["whole", "parts_of", "make"] (defScope s_bottom_up) :=
  ⟨rfl, rfl, rfl, by decide +kernel, rfl, by decide +kernel, by decide +kernel⟩
theorem sc_shape_of : FnScope ["label"] ["label"] (defScope s_shape_of) :=
  ⟨rfl, rfl, rfl, by decide +kernel, rfl, by decide +kernel, by decide +kernel⟩
theorem sc_is_number : FnScope ["value"] ["value"] (defScope s_is_number) :=
  ⟨rfl, rfl, rfl, by decide +kernel, rfl, by decide +kernel, by decide +kernel⟩
theorem sc_is_leaf : FnScope ["term"] ["term"] (defScope s_is_leaf) :=
  ⟨rfl, rfl, rfl, by decide +kernel, rfl, by decide +kernel, by decide +kernel⟩
theorem sc_parts_of : FnScope ["term"] ["term"] (defScope s_parts_of) :=
  ⟨rfl, rfl, rfl, by decide +kernel, rfl, by decide +kernel, by decide +kernel⟩
theorem sc_kind_of : FnScope ["term", "label", "shape"] ["term"] (defScope s_kind_of) :=
  ⟨rfl, rfl, rfl, by decide +kernel, rfl, by decide +kernel, by decide +kernel⟩
theorem sc_term_of : FnScope ["value", "waiting", "part", "wanted", "form"] ["value"] (defScope s_term_of) :=
  ⟨rfl, rfl, rfl, by decide +kernel, rfl, by decide +kernel, by decide +kernel⟩
theorem sc__form_of : FnScope ["value", "label", "many", "shape", "call", "least", "most"] ["value"] (defScope s__form_of) :=
  ⟨rfl, rfl, rfl, by decide +kernel, rfl, by decide +kernel, by decide +kernel⟩
theorem sc__is_right_leaf : FnScope ["value", "label"] ["value"] (defScope s__is_right_leaf) :=
  ⟨rfl, rfl, rfl, by decide +kernel, rfl, by decide +kernel, by decide +kernel⟩
theorem sc_bounds_of : FnScope ["first"] ["first"] (defScope s_bounds_of) :=
  ⟨rfl, rfl, rfl, by decide +kernel, rfl, by decide +kernel, by decide +kernel⟩
theorem sc_checked_term : FnScope ["value", "part", "term"] ["value", "part"] (defScope s_checked_term) :=
  ⟨rfl, rfl, rfl, by decide +kernel, rfl, by decide +kernel, by decide +kernel⟩
theorem sc_many_parts : FnScope ["term"] ["term"] (defScope s_many_parts) :=
  ⟨rfl, rfl, rfl, by decide +kernel, rfl, by decide +kernel, by decide +kernel⟩
theorem sc_many_levels : FnScope ["term"] ["term"] (defScope s_many_levels) :=
  ⟨rfl, rfl, rfl, by decide +kernel, rfl, by decide +kernel, by decide +kernel⟩
theorem sc_spellings_in : FnScope ["term", "leaf", "part"] ["term", "leaf"] (defScope s_spellings_in) :=
  ⟨rfl, rfl, rfl, by decide +kernel, rfl, by decide +kernel, by decide +kernel⟩
theorem sc_is_term : FnScope ["value"] ["value"] (defScope s_is_term) :=
  ⟨rfl, rfl, rfl, by decide +kernel, rfl, by decide +kernel, by decide +kernel⟩
theorem sc_is_word : FnScope ["term"] ["term"] (defScope s_is_word) :=
  ⟨rfl, rfl, rfl, by decide +kernel, rfl, by decide +kernel, by decide +kernel⟩
theorem sc_size_of : FnScope ["term"] ["term"] (defScope s_size_of) :=
  ⟨rfl, rfl, rfl, by decide +kernel, rfl, by decide +kernel, by decide +kernel⟩
theorem sc_levels_of : FnScope ["term"] ["term"] (defScope s_levels_of) :=
  ⟨rfl, rfl, rfl, by decide +kernel, rfl, by decide +kernel, by decide +kernel⟩
theorem sc_names_in : FnScope ["term"] ["term"] (defScope s_names_in) :=
  ⟨rfl, rfl, rfl, by decide +kernel, rfl, by decide +kernel, by decide +kernel⟩
theorem sc_flags_in : FnScope ["term"] ["term"] (defScope s_flags_in) :=
  ⟨rfl, rfl, rfl, by decide +kernel, rfl, by decide +kernel, by decide +kernel⟩
theorem sc_places_of : FnScope ["term", "places", "waiting", "place", "part", "inner", "index", "one"] ["term"] (defScope s_places_of) :=
  ⟨rfl, rfl, rfl, by decide +kernel, rfl, by decide +kernel, by decide +kernel⟩
theorem sc_put_in : FnScope ["term", "values", "whole", "stands"] ["term", "values"] (defScope s_put_in) :=
  ⟨rfl, rfl, rfl, by decide +kernel, rfl, by decide +kernel, by decide +kernel⟩
theorem sc_part_at : FnScope ["term", "place", "whole"] ["term", "place"] (defScope s_part_at) :=
  ⟨rfl, rfl, rfl, by decide +kernel, rfl, by decide +kernel, by decide +kernel⟩
theorem sc_with_part : FnScope ["term", "place", "other", "whole", "made", "passed"] ["term", "place", "other"] (defScope s_with_part) :=
  ⟨rfl, rfl, rfl, by decide +kernel, rfl, by decide +kernel, by decide +kernel⟩
theorem sc__check_place : FnScope ["place"] ["place"] (defScope s__check_place) :=
  ⟨rfl, rfl, rfl, by decide +kernel, rfl, by decide +kernel, by decide +kernel⟩
theorem sc__law_trellis : FnScope ["_law_script", "_law_cell"] ["_law_script"] (defScope s__law_trellis) :=
  ⟨rfl, rfl, rfl, by decide +kernel, rfl, by decide +kernel, by decide +kernel⟩
theorem sc__law_vine : FnScope ["_law_trellis_here", "_law_many", "_law_rest", "_law_at", "_law_cell", "_law_mixed"] ["_law_trellis_here", "_law_many"] (defScope s__law_vine) :=
  ⟨rfl, rfl, rfl, by decide +kernel, rfl, by decide +kernel, by decide +kernel⟩
theorem sc__law_one_of : FnScope ["_law_trellis_here", "_law_some"] ["_law_trellis_here", "_law_some"] (defScope s__law_one_of) :=
  ⟨rfl, rfl, rfl, by decide +kernel, rfl, by decide +kernel, by decide +kernel⟩
theorem sc__law_spelt : FnScope ["_law_trellis_here"] ["_law_trellis_here"] (defScope s__law_spelt) :=
  ⟨rfl, rfl, rfl, by decide +kernel, rfl, by decide +kernel, by decide +kernel⟩
theorem sc__law_drawn : FnScope ["_law_trellis_here", "_law_kind_here", "_law_deep", "_law_number", "_law_label", "_law_inner", "_law_least", "_law_one", "_law_turn"] ["_law_trellis_here", "_law_kind_here", "_law_deep"] (defScope s__law_drawn) :=
  ⟨rfl, rfl, rfl, by decide +kernel, rfl, by decide +kernel, by decide +kernel⟩
theorem sc__law_is_spelt : FnScope ["_law_value", "_law_sign"] ["_law_value"] (defScope s__law_is_spelt) :=
  ⟨rfl, rfl, rfl, by decide +kernel, rfl, by decide +kernel, by decide +kernel⟩
theorem sc__law_asked : FnScope ["_law_label", "_law_many", "_law_two", "_law_items", "_law_known", "_law_tests", "_law_least", "_law_number"] ["_law_label", "_law_many"] (defScope s__law_asked) :=
  ⟨rfl, rfl, rfl, by decide +kernel, rfl, by decide +kernel, by decide +kernel⟩
theorem sc__law_kind : FnScope ["_law_value", "_law_fits", "_law_asked_here", "_law_kinds", "_law_part"] ["_law_value"] (defScope s__law_kind) :=
  ⟨rfl, rfl, rfl, by decide +kernel, rfl, by decide +kernel, by decide +kernel⟩
theorem sc__law_odd : FnScope ["_law_trellis_here", "_law_number", "_law_some"] ["_law_trellis_here"] (defScope s__law_odd) :=
  ⟨rfl, rfl, rfl, by decide +kernel, rfl, by decide +kernel, by decide +kernel⟩
theorem sc__law_bent : FnScope ["_law_trellis_here", "_law_term", "_law_at", "_law_way", "_law_labels"] ["_law_trellis_here", "_law_term"] (defScope s__law_bent) :=
  ⟨rfl, rfl, rfl, by decide +kernel, rfl, by decide +kernel, by decide +kernel⟩
theorem sc__law_listed : FnScope ["_law_trellis_here", "_law_value", "_law_found", "_law_part"] ["_law_trellis_here", "_law_value"] (defScope s__law_listed) :=
  ⟨rfl, rfl, rfl, by decide +kernel, rfl, by decide +kernel, by decide +kernel⟩
theorem sc__law_heard : FnScope ["_law_ask", "_law_caught", "error"] ["_law_ask"] (defScope s__law_heard) :=
  ⟨rfl, rfl, rfl, by decide +kernel, rfl, by decide +kernel, by decide +kernel⟩
theorem sc__law_judged_right : FnScope ["_law_trellis_here", "_law_value", "_law_due", "_law_before", "_law_spare", "_law_heard_here"] ["_law_trellis_here", "_law_value"] (defScope s__law_judged_right) :=
  ⟨rfl, rfl, rfl, by decide +kernel, rfl, by decide +kernel, by decide +kernel⟩
theorem sc__law_many_right : FnScope ["_law_trellis_here", "_law_label", "_law_many", "_law_parts", "_law_turn"] ["_law_trellis_here"] (defScope s__law_many_right) :=
  ⟨rfl, rfl, rfl, by decide +kernel, rfl, by decide +kernel, by decide +kernel⟩
theorem sc_law : FnScope ["_law_script", "_law_trellis_here", "_law_turn", "_law_term"] ["_law_script"] (defScope s_law) :=
  ⟨rfl, rfl, rfl, by decide +kernel, rfl, by decide +kernel, by decide +kernel⟩
abbrev sInitT : Stmt := inClass (topS 14) 0
theorem scInitT : FnScope ["self", "part"] ["self", "part"] (defScope sInitT) :=
  ⟨rfl, rfl, rfl, by decide +kernel, rfl, by decide +kernel, by decide +kernel⟩
def shapesT : List (Str × Str × List Str) := [("add", "word", ["word", "word"]), ("sub", "word", ["word", "word"]), ("mul", "word", ["word", "word"]), ("and", "word", ["word", "word"]), ("or", "word", ["word", "word"]), ("xor", "word", ["word", "word"]), ("neg", "word", ["word"]), ("flip", "word", ["word"]), ("at", "word", ["word"]), ("if", "word", ["truth", "word", "word"]), ("eq", "truth", ["word", "word"]), ("lt", "truth", ["word", "word"]), ("less", "truth", ["word", "word"]), ("both", "truth", ["truth", "truth"]), ("either", "truth", ["truth", "truth"]), ("no", "truth", ["truth"])]
def leafT : List (Str × Str) := [("number", "word"), ("name", "word"), ("flag", "truth"), ("true", "truth"), ("false", "truth")]
/-- the texts in play -/
def labs0 : List Str := ["add", "sub", "mul", "and", "or", "xor", "neg", "flip", "at", "if", "eq", "lt", "less", "both", "either", "no", "number", "name", "flag", "true"]
def labs1 : List Str := ["false", "shl 1", "shl 2", "shl 3", "shl 4", "shl 5", "shl 6", "shl 7", "shl 8", "shl 9", "shl 10", "shl 11", "shl 12", "shl 13", "shl 14", "shl 15", "shl 16", "shl 17", "shl 18", "shl 19"]
def labs2 : List Str := ["shl 20", "shl 21", "shl 22", "shl 23", "shl 24", "shl 25", "shl 26", "shl 27", "shl 28", "shl 29", "shl 30", "shl 31", "call x 0", "call x 1", "call x 2", "call x 3", "call x 4", "call x 5", "call y 0", "call y 1"]
def labs3 : List Str := ["call y 2", "call y 3", "call y 4", "call y 5", "call z 0", "call z 1", "call z 2", "call z 3", "call z 4", "call z 5", "call n2 0", "call n2 1", "call n2 2", "call n2 3", "call n2 4", "call n2 5", "call a 0", "call a 1", "call a 2", "call a 3"]
def labs4 : List Str := ["call a 4", "call a 5", "call longname 0", "call longname 1", "call longname 2", "call longname 3", "call longname 4", "call longname 5", "call f 0", "call f 1", "call f 2", "call f 3", "call f 4", "call f 5", "loop x 0", "loop x 1", "loop x 2", "loop x 3", "loop x 4", "loop x 5"]
def labs5 : List Str := ["loop y 0", "loop y 1", "loop y 2", "loop y 3", "loop y 4", "loop y 5", "loop z 0", "loop z 1", "loop z 2", "loop z 3", "loop z 4", "loop z 5", "loop n2 0", "loop n2 1", "loop n2 2", "loop n2 3", "loop n2 4", "loop n2 5", "loop a 0", "loop a 1"]
def labs6 : List Str := ["loop a 2", "loop a 3", "loop a 4", "loop a 5", "loop longname 0", "loop longname 1", "loop longname 2", "loop longname 3", "loop longname 4", "loop longname 5", "loop f 0", "loop f 1", "loop f 2", "loop f 3", "loop f 4", "loop f 5", "x", "y", "z", "n2"]
def labs7 : List Str := ["a", "longname", "call f 6", "call  f 0", "shl 0", "shl 32", "shl 01", "shl", "shl  1", "call f", "call f 00", "", "Add", "X", "ninesigns", "2x", "0", "1", "2", "3"]
def labs8 : List Str := ["4", "5", "6", "7", "8"]
def labs : List Str := labs0 ++ labs1 ++ labs2 ++ labs3 ++ labs4 ++ labs5 ++ labs6 ++ labs7 ++ labs8
def lookT {α : Type} : List (Str × α) → Str → Option α
  | [], _ => none
  | (k, v) :: r, z => if z = k then some v else lookT r z
def shapeTab (z : Str) : Option D := (lookT shapesT z).map fun p => .tup [.str p.1, .tup (p.2.map D.str)]
def leafTab (z : Str) : Option D := (lookT leafT z).map D.str
def resN : List Str := ["0", "1", "2", "3", "4", "5"]
def noN : List Str := ["true", "false"]
structure Txt (w : World) (K : PySem.W.Frag) (mg : Str → Option Value) where
  f_is_integer : Addr
  fd_is_integer : FuncData
  F_is_integer : Fun K "is_integer" "is_integer" s_is_integer f_is_integer fd_is_integer
  g_is_integer : mg "is_integer" = some (.ref f_is_integer)
  b_is_integer : Binds K fd_is_integer ["value"] []
  f_is_within : Addr
  fd_is_within : FuncData
  F_is_within : Fun K "is_within" "is_within" s_is_within f_is_within fd_is_within
  g_is_within : mg "is_within" = some (.ref f_is_within)
  b_is_within : Binds K fd_is_within ["value", "least", "most"] []
  f_is_list : Addr
  fd_is_list : FuncData
  F_is_list : Fun K "is_list" "is_list" s_is_list f_is_list fd_is_list
  g_is_list : mg "is_list" = some (.ref f_is_list)
  b_is_list : Binds K fd_is_list ["value"] []
  f_are_integers : Addr
  fd_are_integers : FuncData
  F_are_integers : Fun K "are_integers" "are_integers" s_are_integers f_are_integers fd_are_integers
  g_are_integers : mg "are_integers" = some (.ref f_are_integers)
  b_are_integers : Binds K fd_are_integers ["value", "least", "most"] []
  f__in_tuples : Addr
  fd__in_tuples : FuncData
  F__in_tuples : Fun K "_in_tuples" "_in_tuples" s__in_tuples f__in_tuples fd__in_tuples
  g__in_tuples : mg "_in_tuples" = some (.ref f__in_tuples)
  b__in_tuples : Binds K fd__in_tuples ["part", "parts"] []
  f__shown : Addr
  fd__shown : FuncData
  F__shown : Fun K "_shown" "_shown" s__shown f__shown fd__shown
  g__shown : mg "_shown" = some (.ref f__shown)
  b__shown : Binds K fd__shown ["value"] []
  f_is_spelling : Addr
  fd_is_spelling : FuncData
  F_is_spelling : Fun K "is_spelling" "is_spelling" s_is_spelling f_is_spelling fd_is_spelling
  g_is_spelling : mg "is_spelling" = some (.ref f_is_spelling)
  b_is_spelling : Binds K fd_is_spelling ["value"] []
  f_is_name : Addr
  fd_is_name : FuncData
  F_is_name : Fun K "is_name" "is_name" s_is_name f_is_name fd_is_name
  g_is_name : mg "is_name" = some (.ref f_is_name)
  b_is_name : Binds K fd_is_name ["value"] []
  f_integer_of : Addr
  fd_integer_of : FuncData
  F_integer_of : Fun K "integer_of" "integer_of" s_integer_of f_integer_of fd_integer_of
  g_integer_of : mg "integer_of" = some (.ref f_integer_of)
  b_integer_of : Binds K fd_integer_of ["item"] []
  f_shift_of : Addr
  fd_shift_of : FuncData
  F_shift_of : Fun K "shift_of" "shift_of" s_shift_of f_shift_of fd_shift_of
  g_shift_of : mg "shift_of" = some (.ref f_shift_of)
  b_shift_of : Binds K fd_shift_of ["label"] []
  f_called : Addr
  fd_called : FuncData
  F_called : Fun K "called" "called" s_called f_called fd_called
  g_called : mg "called" = some (.ref f_called)
  b_called : Binds K fd_called ["label"] []
  f_ended : Addr
  fd_ended : FuncData
  F_ended : Fun K "ended" "ended" s_ended f_ended fd_ended
  g_ended : mg "ended" = some (.ref f_ended)
  b_ended : Binds K fd_ended ["whole", "parts_of"] []
  f_bottom_up : Addr
  fd_bottom_up : FuncData
  F_bottom_up : Fun K "bottom_up" "bottom_up" s_bottom_up f_bottom_up fd_bottom_up
  g_bottom_up : mg "bottom_up" = some (.ref f_bottom_up)
  b_bottom_up : Binds K fd_bottom_up ["whole", "parts_of", "make"] []
  f_shape_of : Addr
  fd_shape_of : FuncData
  F_shape_of : Fun K "shape_of" "shape_of" s_shape_of f_shape_of fd_shape_of
  g_shape_of : mg "shape_of" = some (.ref f_shape_of)
  b_shape_of : Binds K fd_shape_of ["label"] []
  f_is_number : Addr
  fd_is_number : FuncData
  F_is_number : Fun K "is_number" "is_number" s_is_number f_is_number fd_is_number
  g_is_number : mg "is_number" = some (.ref f_is_number)
  b_is_number : Binds K fd_is_number ["value"] []
  f_is_leaf : Addr
  fd_is_leaf : FuncData
  F_is_leaf : Fun K "is_leaf" "is_leaf" s_is_leaf f_is_leaf fd_is_leaf
  g_is_leaf : mg "is_leaf" = some (.ref f_is_leaf)
  b_is_leaf : Binds K fd_is_leaf ["term"] []
  f_parts_of : Addr
  fd_parts_of : FuncData
  F_parts_of : Fun K "parts_of" "parts_of" s_parts_of f_parts_of fd_parts_of
  g_parts_of : mg "parts_of" = some (.ref f_parts_of)
  b_parts_of : Binds K fd_parts_of ["term"] []
  f_kind_of : Addr
  fd_kind_of : FuncData
  F_kind_of : Fun K "kind_of" "kind_of" s_kind_of f_kind_of fd_kind_of
  g_kind_of : mg "kind_of" = some (.ref f_kind_of)
  b_kind_of : Binds K fd_kind_of ["term"] []
  f_term_of : Addr
  fd_term_of : FuncData
  F_term_of : Fun K "term_of" "term_of" s_term_of f_term_of fd_term_of
  g_term_of : mg "term_of" = some (.ref f_term_of)
  b_term_of : Binds K fd_term_of ["value"] []
  f__form_of : Addr
  fd__form_of : FuncData
  F__form_of : Fun K "_form_of" "_form_of" s__form_of f__form_of fd__form_of
  g__form_of : mg "_form_of" = some (.ref f__form_of)
  b__form_of : Binds K fd__form_of ["value"] []
  f__is_right_leaf : Addr
  fd__is_right_leaf : FuncData
  F__is_right_leaf : Fun K "_is_right_leaf" "_is_right_leaf" s__is_right_leaf f__is_right_leaf fd__is_right_leaf
  g__is_right_leaf : mg "_is_right_leaf" = some (.ref f__is_right_leaf)
  b__is_right_leaf : Binds K fd__is_right_leaf ["value"] []
  f_bounds_of : Addr
  fd_bounds_of : FuncData
  F_bounds_of : Fun K "bounds_of" "bounds_of" s_bounds_of f_bounds_of fd_bounds_of
  g_bounds_of : mg "bounds_of" = some (.ref f_bounds_of)
  b_bounds_of : Binds K fd_bounds_of ["first"] []
  f_checked_term : Addr
  fd_checked_term : FuncData
  F_checked_term : Fun K "checked_term" "checked_term" s_checked_term f_checked_term fd_checked_term
  g_checked_term : mg "checked_term" = some (.ref f_checked_term)
  b_checked_term : Binds K fd_checked_term ["value", "part"] []
  f_many_parts : Addr
  fd_many_parts : FuncData
  F_many_parts : Fun K "many_parts" "many_parts" s_many_parts f_many_parts fd_many_parts
  g_many_parts : mg "many_parts" = some (.ref f_many_parts)
  b_many_parts : Binds K fd_many_parts ["term"] []
  f_many_levels : Addr
  fd_many_levels : FuncData
  F_many_levels : Fun K "many_levels" "many_levels" s_many_levels f_many_levels fd_many_levels
  g_many_levels : mg "many_levels" = some (.ref f_many_levels)
  b_many_levels : Binds K fd_many_levels ["term"] []
  f_spellings_in : Addr
  fd_spellings_in : FuncData
  F_spellings_in : Fun K "spellings_in" "spellings_in" s_spellings_in f_spellings_in fd_spellings_in
  g_spellings_in : mg "spellings_in" = some (.ref f_spellings_in)
  b_spellings_in : Binds K fd_spellings_in ["term", "leaf"] []
  f_is_term : Addr
  fd_is_term : FuncData
  F_is_term : Fun K "is_term" "is_term" s_is_term f_is_term fd_is_term
  g_is_term : mg "is_term" = some (.ref f_is_term)
  b_is_term : Binds K fd_is_term ["value"] []
  f_is_word : Addr
  fd_is_word : FuncData
  F_is_word : Fun K "is_word" "is_word" s_is_word f_is_word fd_is_word
  g_is_word : mg "is_word" = some (.ref f_is_word)
  b_is_word : Binds K fd_is_word ["term"] []
  f_size_of : Addr
  fd_size_of : FuncData
  F_size_of : Fun K "size_of" "size_of" s_size_of f_size_of fd_size_of
  g_size_of : mg "size_of" = some (.ref f_size_of)
  b_size_of : Binds K fd_size_of ["term"] []
  f_levels_of : Addr
  fd_levels_of : FuncData
  F_levels_of : Fun K "levels_of" "levels_of" s_levels_of f_levels_of fd_levels_of
  g_levels_of : mg "levels_of" = some (.ref f_levels_of)
  b_levels_of : Binds K fd_levels_of ["term"] []
  f_names_in : Addr
  fd_names_in : FuncData
  F_names_in : Fun K "names_in" "names_in" s_names_in f_names_in fd_names_in
  g_names_in : mg "names_in" = some (.ref f_names_in)
  b_names_in : Binds K fd_names_in ["term"] []
  f_flags_in : Addr
  fd_flags_in : FuncData
  F_flags_in : Fun K "flags_in" "flags_in" s_flags_in f_flags_in fd_flags_in
  g_flags_in : mg "flags_in" = some (.ref f_flags_in)
  b_flags_in : Binds K fd_flags_in ["term"] []
  f_places_of : Addr
  fd_places_of : FuncData
  F_places_of : Fun K "places_of" "places_of" s_places_of f_places_of fd_places_of
  g_places_of : mg "places_of" = some (.ref f_places_of)
  b_places_of : Binds K fd_places_of ["term"] []
  f_put_in : Addr
  fd_put_in : FuncData
  F_put_in : Fun K "put_in" "put_in" s_put_in f_put_in fd_put_in
  g_put_in : mg "put_in" = some (.ref f_put_in)
  b_put_in : Binds K fd_put_in ["term", "values"] []
  f_part_at : Addr
  fd_part_at : FuncData
  F_part_at : Fun K "part_at" "part_at" s_part_at f_part_at fd_part_at
  g_part_at : mg "part_at" = some (.ref f_part_at)
  b_part_at : Binds K fd_part_at ["term", "place"] []
  f_with_part : Addr
  fd_with_part : FuncData
  F_with_part : Fun K "with_part" "with_part" s_with_part f_with_part fd_with_part
  g_with_part : mg "with_part" = some (.ref f_with_part)
  b_with_part : Binds K fd_with_part ["term", "place", "other"] []
  f__check_place : Addr
  fd__check_place : FuncData
  F__check_place : Fun K "_check_place" "_check_place" s__check_place f__check_place fd__check_place
  g__check_place : mg "_check_place" = some (.ref f__check_place)
  b__check_place : Binds K fd__check_place ["place"] []
  f__law_trellis : Addr
  fd__law_trellis : FuncData
  F__law_trellis : Fun K "_law_trellis" "_law_trellis" s__law_trellis f__law_trellis fd__law_trellis
  g__law_trellis : mg "_law_trellis" = some (.ref f__law_trellis)
  b__law_trellis : Binds K fd__law_trellis ["_law_script"] []
  f__law_vine : Addr
  fd__law_vine : FuncData
  F__law_vine : Fun K "_law_vine" "_law_vine" s__law_vine f__law_vine fd__law_vine
  g__law_vine : mg "_law_vine" = some (.ref f__law_vine)
  b__law_vine : Binds K fd__law_vine ["_law_trellis_here", "_law_many"] []
  f__law_one_of : Addr
  fd__law_one_of : FuncData
  F__law_one_of : Fun K "_law_one_of" "_law_one_of" s__law_one_of f__law_one_of fd__law_one_of
  g__law_one_of : mg "_law_one_of" = some (.ref f__law_one_of)
  b__law_one_of : Binds K fd__law_one_of ["_law_trellis_here", "_law_some"] []
  f__law_spelt : Addr
  fd__law_spelt : FuncData
  F__law_spelt : Fun K "_law_spelt" "_law_spelt" s__law_spelt f__law_spelt fd__law_spelt
  g__law_spelt : mg "_law_spelt" = some (.ref f__law_spelt)
  b__law_spelt : Binds K fd__law_spelt ["_law_trellis_here"] []
  f__law_drawn : Addr
  fd__law_drawn : FuncData
  F__law_drawn : Fun K "_law_drawn" "_law_drawn" s__law_drawn f__law_drawn fd__law_drawn
  g__law_drawn : mg "_law_drawn" = some (.ref f__law_drawn)
  b__law_drawn : Binds K fd__law_drawn ["_law_trellis_here", "_law_kind_here", "_law_deep"] []
  f__law_is_spelt : Addr
  fd__law_is_spelt : FuncData
  F__law_is_spelt : Fun K "_law_is_spelt" "_law_is_spelt" s__law_is_spelt f__law_is_spelt fd__law_is_spelt
  g__law_is_spelt : mg "_law_is_spelt" = some (.ref f__law_is_spelt)
  b__law_is_spelt : Binds K fd__law_is_spelt ["_law_value"] []
  f__law_asked : Addr
  fd__law_asked : FuncData
  F__law_asked : Fun K "_law_asked" "_law_asked" s__law_asked f__law_asked fd__law_asked
  g__law_asked : mg "_law_asked" = some (.ref f__law_asked)
  b__law_asked : Binds K fd__law_asked ["_law_label", "_law_many"] []
  f__law_kind : Addr
  fd__law_kind : FuncData
  F__law_kind : Fun K "_law_kind" "_law_kind" s__law_kind f__law_kind fd__law_kind
  g__law_kind : mg "_law_kind" = some (.ref f__law_kind)
  b__law_kind : Binds K fd__law_kind ["_law_value"] []
  f__law_odd : Addr
  fd__law_odd : FuncData
  F__law_odd : Fun K "_law_odd" "_law_odd" s__law_odd f__law_odd fd__law_odd
  g__law_odd : mg "_law_odd" = some (.ref f__law_odd)
  b__law_odd : Binds K fd__law_odd ["_law_trellis_here"] []
  f__law_bent : Addr
  fd__law_bent : FuncData
  F__law_bent : Fun K "_law_bent" "_law_bent" s__law_bent f__law_bent fd__law_bent
  g__law_bent : mg "_law_bent" = some (.ref f__law_bent)
  b__law_bent : Binds K fd__law_bent ["_law_trellis_here", "_law_term"] []
  f__law_listed : Addr
  fd__law_listed : FuncData
  F__law_listed : Fun K "_law_listed" "_law_listed" s__law_listed f__law_listed fd__law_listed
  g__law_listed : mg "_law_listed" = some (.ref f__law_listed)
  b__law_listed : Binds K fd__law_listed ["_law_trellis_here", "_law_value"] []
  f__law_heard : Addr
  fd__law_heard : FuncData
  F__law_heard : Fun K "_law_heard" "_law_heard" s__law_heard f__law_heard fd__law_heard
  g__law_heard : mg "_law_heard" = some (.ref f__law_heard)
  b__law_heard : Binds K fd__law_heard ["_law_ask"] []
  f__law_judged_right : Addr
  fd__law_judged_right : FuncData
  F__law_judged_right : Fun K "_law_judged_right" "_law_judged_right" s__law_judged_right f__law_judged_right fd__law_judged_right
  g__law_judged_right : mg "_law_judged_right" = some (.ref f__law_judged_right)
  b__law_judged_right : Binds K fd__law_judged_right ["_law_trellis_here", "_law_value"] []
  f__law_many_right : Addr
  fd__law_many_right : FuncData
  F__law_many_right : Fun K "_law_many_right" "_law_many_right" s__law_many_right f__law_many_right fd__law_many_right
  g__law_many_right : mg "_law_many_right" = some (.ref f__law_many_right)
  b__law_many_right : Binds K fd__law_many_right ["_law_trellis_here"] []
  f_law : Addr
  fd_law : FuncData
  F_law : Fun K "law" "law" s_law f_law fd_law
  g_law : mg "law" = some (.ref f_law)
  b_law : Binds K fd_law ["_law_script"] []
  c_LETTERS : ∃ u, mg "LETTERS" = some u ∧ RelV (.str "abcdefghijklmnopqrstuvwxyz") u
  c_DIGITS : ∃ u, mg "DIGITS" = some u ∧ RelV (.str "0123456789") u
  c_MOST_DIGITS : ∃ u, mg "MOST_DIGITS" = some u ∧ RelV (.int 10) u
  c_GREATEST_NUMBER : ∃ u, mg "GREATEST_NUMBER" = some u ∧ RelV (.int 2147483647) u
  c_MOST_PARTS : ∃ u, mg "MOST_PARTS" = some u ∧ RelV (.int 6) u
  m_abs : mg "abs" = none
  m_all : mg "all" = none
  m_bool : mg "bool" = none
  m_dict : mg "dict" = none
  m_enumerate : mg "enumerate" = none
  m_int : mg "int" = none
  m_isinstance : mg "isinstance" = none
  m_len : mg "len" = none
  m_list : mg "list" = none
  m_max : mg "max" = none
  m_range : mg "range" = none
  m_repr : mg "repr" = none
  m_sorted : mg "sorted" = none
  m_str : mg "str" = none
  m_tuple : mg "tuple" = none
  m_zip : mg "zip" = none
  CE : Addr
  g_EqualError : mg "EqualError" = some (.ref CE)
  rE : ClX.CRead K CE (.type "type")
  vE : PySem.W.findCls K (.ref CE) (.type "type") "__init__" = some (.val (.builtin "ValueError.__init__"))
  CT : Addr
  g_BadTerm : mg "BadTerm" = some (.ref CT)
  fIT : Addr
  fdIT : FuncData
  FIT : Fun K "__init__" "BadTerm.__init__" sInitT fIT fdIT
  bIT : Binds K fdIT ["self", "part"] []
  oT : OexC K CT
  iT : PySem.W.findIn K (.ref CT) "__init__" = some (some (.ref fIT))
  tT : PySem.W.typeIn K (.ref fIT) = some (.type "function")
  nT : PySem.W.findIn K (.ref CT) "part" = some none
  xT : XfC K CT
  eT : PySem.W.exmOne K (.ref CT) (.ref CE) = some true
  kT : PySem.W.kitOne K (.type "NoneType") (.ref CT) = some false
  cT : ExcC K CT
  kb_is_term : KBinds K fd_is_term ["value"] ["value"] onlyK onlyK
  kb_is_word : KBinds K fd_is_word ["term"] ["term"] onlyK onlyK
  g_in_tuples_forms : mg "in_tuples_forms" = some (.ref f__in_tuples)
  k_parts_of : PySem.W.keepIn K (.ref f_parts_of) = true
  k__in_tuples : PySem.W.keepIn K (.ref f__in_tuples) = true
  a_SHAPES : Addr
  c_SHAPES : ∃ u, mg "SHAPES" = some u ∧ RelV (.ref a_SHAPES) u
  t_SHAPES : KTab K w a_SHAPES labs shapeTab
  a_LEAF_KINDS : Addr
  c_LEAF_KINDS : ∃ u, mg "LEAF_KINDS" = some u ∧ RelV (.ref a_LEAF_KINDS) u
  t_LEAF_KINDS : KTab K w a_LEAF_KINDS labs leafTab
  v_NO_NAMES : V
  c_NO_NAMES : ∃ u, mg "NO_NAMES" = some u ∧ RelV v_NO_NAMES u
  r_NO_NAMES : ∀ O H, Rep K O H (.tup (noN.map D.str)) v_NO_NAMES
  v_RESULT_NUMBERS : V
  c_RESULT_NUMBERS : ∃ u, mg "RESULT_NUMBERS" = some u ∧ RelV v_RESULT_NUMBERS u
  r_RESULT_NUMBERS : ∀ O H, Rep K O H (.tup (resN.map D.str)) v_RESULT_NUMBERS
  cR : Addr
  code_R : fd__law_judged_right.code = .ref cR
end K03
end
section
set_option maxHeartbeats 4000000
namespace K03
open PySem PySem.Spec PyProof.Rows L2 G1 G2

def S1 (p : V → Hp → VK → Prop) : Sp := fun vs H Q _ => ∃ a, vs = [a] ∧ p a H Q
def S2 (p : V → V → Hp → VK → Prop) : Sp := fun vs H Q _ => ∃ a b, vs = [a, b] ∧ p a b H Q
def S3 (p : V → V → V → Hp → VK → Prop) : Sp := fun vs H Q _ => ∃ a b c, vs = [a, b, c] ∧ p a b c H Q
def S4 (p : V → V → V → V → Hp → VK → Prop) : Sp := fun vs H Q _ => ∃ a b c d, vs = [a, b, c, d] ∧ p a b c d H Q
def S1E (p : V → Hp → VK → XK → Prop) : Sp := fun vs H Q E => ∃ a, vs = [a] ∧ p a H Q E
def S2E (p : V → V → Hp → VK → XK → Prop) : Sp := fun vs H Q E => ∃ a b, vs = [a, b] ∧ p a b H Q E
theorem S1E_len {p} (vs : List V) (H : Hp) (Q : VK) (E : XK) (h : S1E p vs H Q E) : vs.length = 1 := by obtain ⟨_, rfl, _⟩ := h; rfl
theorem S2E_len {p} (vs : List V) (H : Hp) (Q : VK) (E : XK) (h : S2E p vs H Q E) : vs.length = 2 := by obtain ⟨_, _, rfl, _⟩ := h; rfl
theorem S1_len {p} (vs : List V) (H : Hp) (Q : VK) (E : XK) (h : S1 p vs H Q E) : vs.length = 1 := by obtain ⟨_, rfl, _⟩ := h; rfl
theorem S2_len {p} (vs : List V) (H : Hp) (Q : VK) (E : XK) (h : S2 p vs H Q E) : vs.length = 2 := by obtain ⟨_, _, rfl, _⟩ := h; rfl
theorem S3_len {p} (vs : List V) (H : Hp) (Q : VK) (E : XK) (h : S3 p vs H Q E) : vs.length = 3 := by obtain ⟨_, _, _, rfl, _⟩ := h; rfl
theorem S4_len {p} (vs : List V) (H : Hp) (Q : VK) (E : XK) (h : S4 p vs H Q E) : vs.length = 4 := by obtain ⟨_, _, _, _, rfl, _⟩ := h; rfl
theorem cx_K {CX P w K mg base N q sc f cd A o s H E} : (cxOf CX P w K mg base N q sc f cd A o s H E).K = K := rfl
theorem cx_K' {CX P w K mg base N q sc f cd A o s H E} : (cxOf CX P w K mg base N q sc f cd A o s H E).nox.K = K := rfl
theorem cx_w {CX P w K mg base N q sc f cd A o s H E} : (cxOf CX P w K mg base N q sc f cd A o s H E).w = w := rfl
theorem cx_w' {CX P w K mg base N q sc f cd A o s H E} : (cxOf CX P w K mg base N q sc f cd A o s H E).nox.w = w := rfl
theorem cx_mg' {CX P w K mg base N q sc f cd A o s H E} : (cxOf CX P w K mg base N q sc f cd A o s H E).nox.mg = mg := rfl
theorem cx_P' {CX P w K mg base N q sc f cd A o s H E} : (cxOf CX P w K mg base N q sc f cd A o s H E).nox.prog = P := rfl
theorem cx_b' {CX P w K mg base N q sc f cd A o s H E} : (cxOf CX P w K mg base N q sc f cd A o s H E).nox.base = base := rfl
theorem cx_mg {CX P w K mg base N q sc f cd A o s H E} : (cxOf CX P w K mg base N q sc f cd A o s H E).mg = mg := rfl
theorem cx_P {CX P w K mg base N q sc f cd A o s H E} : (cxOf CX P w K mg base N q sc f cd A o s H E).prog = P := rfl
theorem cx_b {CX P w K mg base N q sc f cd A o s H E} : (cxOf CX P w K mg base N q sc f cd A o s H E).base = base := rfl
local macro_rules | `(tactic| walk_at "rd") => `(tactic| simp only [tPar, tFmt, tJs, tM0, tM1, tSeq, tIfS, gName, gTup, gSub, gNil, gCons, List.cons.injEq, List.replicate_succ, tNot, tB, tRet, tC, tNext, tVar, tOp, tUn, tAnd, tOr, tAndV, tOrV, tNotV, tIf, tTest, tChain, tAsg, tCall, tCons, tNil, tCB, tDrop, tNever, tTup, tLst, tSl, tPart, tNoPart, tB, cx_K, cx_K', cx_w, cx_w', cx_mg', cx_P', cx_b', cx_mg, cx_P, cx_b, gUnl, Nat.reduceAdd, Nat.reduceSub, Nat.sub_self, Nat.zero_add, List.replicate_zero,
  rI, rI0, rU, rEq, rNe, L2.start, List.append_nil, List.cons_append, List.nil_append, List.map_cons, List.map_nil, List.length_cons, List.length_nil, List.getElem?_cons_zero, List.getElem?_cons_succ,
  List.replicate, List.set_cons_zero, List.set_cons_succ, exists_eq_left, exists_eq_left', exists_eq_right, exists_and_left, Option.some.injEq, V.bl.injEq, V.int.injEq, V.str.injEq, V.ref.injEq, true_and, and_true, if_true, if_false, Bool.false_eq_true, Bool.not_true, Bool.not_false, reduceIte, reduceCtorEq, ite_true, ite_false, decide_true, decide_false])
section
variable {P : Program} {w : World} {K : PySem.W.Frag} {mg : Str → Option Value} {base : Heap}
/-! ### checks -/
def sp_is_integer (K : PySem.W.Frag) : Sp := S1 fun x H Q => ∃ t b1 b2, TyX K H x t ∧ PySem.W.kitOne K t (.type "int") = some b1 ∧ PySem.W.kitOne K t (.type "bool") = some b2 ∧ Q (.bl (b1 && !b2)) H
theorem ok_is_integer (T : Txt w K mg) : FnG P w K mg base CX0 1 T.f_is_integer T.fd_is_integer ["value"] (sp_is_integer K) := by
  refine okG T.F_is_integer sc_is_integer S1_len (fun cdv A outer s H vs Q E hg hr h => ?_)
  obtain ⟨v0, rfl, h⟩ := h
  refine ⟨_, (pss_one (ps_ret (pe_and (pe_callB call_isi (by rfl) T.m_isinstance (by decide +kernel) (pa_cons (pv 0) (pa_cons (pe_bltn (v := .ty "int") (by rfl) T.m_int (by decide +kernel) rfl) pa_nil))) (pe_one (pe_not (pe_callB call_isi (by rfl) T.m_isinstance (by decide +kernel) (pa_cons (pv 0) (pa_cons (pe_bltn (v := .ty "bool") (by rfl) T.m_bool (by decide +kernel) rfl) pa_nil)))))))), ?_⟩
  obtain ⟨t, b1, b2, ht, e1, e2, q⟩ := h
  refine ⟨_, rfl, _, _, t, _, b1, rfl, .ty _, ht, e1, b1, rfl, ?_⟩
  cases b1 with
  | false => exact iteF q
  | true =>
    refine iteT ?_
    refine ⟨_, rfl, _, _, t, _, b2, rfl, .ty _, ht, e2, b2, rfl, q⟩
theorem isint_int {K : PySem.W.Frag} {H : Hp} {i : Int} {Q : VK} (q : Q (.bl true) H) : sp_is_integer K [.int i] H Q E0 :=
  ⟨_, rfl, _, true, false, .base (.int i), kit_ty (by decide +kernel), kit_ty (by decide +kernel), q⟩
/-- x an integer, least and most integers or None -/
def bnd : V → Option Int → Prop := fun x o => (x = .non ∧ o = none) ∨ ∃ i, x = .int i ∧ o = some i
def geO (n : Int) : Option Int → Bool
  | none => true
  | some i => decide (i ≤ n)
def leO (n : Int) : Option Int → Bool
  | none => true
  | some i => decide (n ≤ i)
def NoInt (K : PySem.W.Frag) (H : Hp) (x : V) : Prop := ∃ t b1 b2, TyX K H x t ∧ PySem.W.kitOne K t (.type "int") = some b1 ∧ PySem.W.kitOne K t (.type "bool") = some b2 ∧ (b1 && !b2) = false
def sp_is_within (K : PySem.W.Frag) : Sp := S3 fun x lo hi H Q => (∃ n a b, x = .int n ∧ bnd lo a ∧ bnd hi b ∧ Q (.bl (geO n a && leO n b)) H) ∨ (NoInt K H x ∧ Q (.bl false) H)
theorem ok_is_within (T : Txt w K mg) : FnG P w K mg base CX0 2 T.f_is_within T.fd_is_within ["value", "least", "most"] (sp_is_within K) := by
  have K_is_integer := ok_is_integer (P := P) (base := base) T
  refine okG T.F_is_within sc_is_within S3_len (fun cdv A outer s H vs Q E hg hr h => ?_)
  obtain ⟨v0, v1, v2, rfl, h⟩ := h
  refine ⟨_, (pss_cons (ps_if (pt_not (pt_val (pe_callG K_is_integer hg (hr.mono (by decide)) (by rfl) T.g_is_integer T.F_is_integer.kp T.b_is_integer .nil pass0 (pa_cons (pv 0) pa_nil))))
        (pss_one (ps_ret pe_bl))
        pss_nil)
      (pss_one (ps_ret (pe_and (pe_or (pe_cmpR op_isN (pv 1) pe_non (nomark _)) (pe_one (pe_cmpR op_ge (pv 0) (pv 1) (nomark _)))) (pe_one (pe_or (pe_cmpR op_isN (pv 2) pe_non (nomark _)) (pe_one (pe_cmpR op_le (pv 0) (pv 2) (nomark _))))))))), ?_⟩
  rcases h with ⟨n, a, b, rfl, ha, hb, q⟩ | ⟨⟨t, b1, b2, ht, e1, e2, e3⟩, q⟩
  · walk_at "rd"
    refine isint_int ⟨_, rfl, ?_⟩
    rcases ha with ⟨rfl, rfl⟩ | ⟨i, rfl, rfl⟩
    · rcases hb with ⟨rfl, rfl⟩ | ⟨j, rfl, rfl⟩
      · exact q
      · exact ⟨_, rfl, q⟩
    · refine ⟨_, rfl, ?_⟩
      have q' : Q (.bl (decide (i ≤ n) && leO n b)) H := q
      cases e : decide (i ≤ n) with
      | false =>
        rw [e] at q'
        exact iteF q'
      | true =>
        rw [e] at q'
        refine iteT ?_
        rcases hb with ⟨rfl, rfl⟩ | ⟨j, rfl, rfl⟩
        · exact q'
        · exact ⟨_, rfl, q'⟩
  · walk_at "rd"
    refine ⟨_, rfl, t, b1, b2, ht, e1, e2, ⟨_, rfl, ?_⟩⟩
    rw [e3]
    exact iteT q
theorem within_yes {K : PySem.W.Frag} {H : Hp} {n : Int} {x y : V} {a b : Option Int} {Q : VK} (ha : bnd x a) (hb : bnd y b) (h : (geO n a && leO n b) = true) (q : Q (.bl true) H) : sp_is_within K [.int n, x, y] H Q E0 :=
  ⟨_, _, _, rfl, .inl ⟨n, a, b, rfl, ha, hb, by rw [h]; exact q⟩⟩
theorem within_out {K : PySem.W.Frag} {H : Hp} {n : Int} {x y : V} {a b : Option Int} {Q : VK} (ha : bnd x a) (hb : bnd y b) (h : (geO n a && leO n b) = false) (q : Q (.bl false) H) : sp_is_within K [.int n, x, y] H Q E0 :=
  ⟨_, _, _, rfl, .inl ⟨n, a, b, rfl, ha, hb, by rw [h]; exact q⟩⟩
theorem within_no {K : PySem.W.Frag} {H : Hp} {v x y : V} {Q : VK} (h : NoInt K H v) (q : Q (.bl false) H) : sp_is_within K [v, x, y] H Q E0 :=
  ⟨_, _, _, rfl, .inr ⟨h, q⟩⟩
theorem bnd_int (i : Int) : bnd (.int i) (some i) := .inr ⟨i, rfl, rfl⟩
theorem bnd_non : bnd .non none := .inl ⟨rfl, rfl⟩
theorem same_upd {H : Hp} {p : Addr} {o : HO} (h : H p = none) : Same H (upd H p o) := fun b x e => by
  rw [upd_ne (ne_of_none e h)]
  exact e
/-- a list or a tuple, or not: as isinstance tells, whatever is made -/
def sp_is_list (K : PySem.W.Frag) : Sp := S1 fun x H Q => ∃ t b, (∀ H1, Same H H1 → TyX K H1 x t) ∧ PySem.W.kitAny K t [.type "list", .type "tuple"] = some b ∧ ∀ H1, Same H H1 → Q (.bl b) H1
theorem ok_is_list (T : Txt w K mg) : FnG P w K mg base CX0 1 T.f_is_list T.fd_is_list ["value"] (sp_is_list K) := by
  refine okG T.F_is_list sc_is_list S1_len (fun cdv A outer s H vs Q E hg hr h => ?_)
  obtain ⟨v0, rfl, h⟩ := h
  refine ⟨_, (pss_one (ps_ret (pe_callB call_isiT (by rfl) T.m_isinstance (by decide +kernel) (pa_cons (pv 0) (pa_cons (pe_tup (pa_cons (pe_bltn (v := .ty "list") (by rfl) T.m_list (by decide +kernel) rfl) (pa_cons (pe_bltn (v := .ty "tuple") (by rfl) T.m_tuple (by decide +kernel) rfl) pa_nil))) pa_nil))))), ?_⟩
  obtain ⟨t, b, ht, e, q⟩ := h
  walk_at "rd"
  refine ⟨by decide, fun p np => ?_⟩
  have sm := same_upd (o := .tup [V.ty "list", V.ty "tuple"]) np
  exact ⟨_, p, _, t, _, b, rfl, upd_same, .cons (.ty _) (.cons (.ty _) .nil), ht _ sm, e, q _ sm⟩
theorem kit_list {K : PySem.W.Frag} : PySem.W.kitAny K (.type "list") [.type "list", .type "tuple"] = some true :=
  kitAny_cons (b := true) (r := true) (kit_ty (by decide +kernel)) (fun h => by cases h) fun _ => rfl
theorem kit_tuple {K : PySem.W.Frag} : PySem.W.kitAny K (.type "tuple") [.type "list", .type "tuple"] = some true :=
  kitAny_cons (b := false) (r := true) (kit_ty (by decide +kernel)) (fun _ => kitAny_cons (b := true) (r := true) (kit_ty (by decide +kernel)) (fun h => by cases h) fun _ => rfl) fun h => by cases h
theorem ty_sqL {K : PySem.W.Frag} {H : Hp} {a : Addr} {xs : List V} (h : SqL K H a xs) : TyX K H (.ref a) (.type "list") := by
  rcases h with (h | ⟨o, h⟩) | ⟨o, its, n, h, hc, _⟩
  · exact .base (.lst h)
  · exact .base (.frz h)
  · exact .kList h hc
theorem same_seqT {K : PySem.W.Frag} {H H' : Hp} {a : Addr} {xs : List V} (e : Same H H') (h : SqT K H a xs) : SqT K H' a xs := by
  rcases h with (h | ⟨o, h⟩) | h
  · exact .inl (.inl (e _ _ h))
  · exact .inl (.inr ⟨o, e _ _ h⟩)
  · exact .inr h
theorem list_yes {K : PySem.W.Frag} {H : Hp} {p : Addr} {xs : List V} {Q : VK} (h : SqL K H p xs) (q : ∀ H1, Same H H1 → Q (.bl true) H1) : sp_is_list K [.ref p] H Q E0 :=
  ⟨_, rfl, _, true, fun H1 sm => ty_sqL (sm.seq h), kit_list, q⟩
/-! ### the errors -/
def three : List Str := ["term", "other"]
def sp__shown (_ : PySem.W.Frag) : Sp := S1 fun x H Q => ∃ z, x = .str z ∧ z ∈ three ∧ ∀ y : Str, y.length ≤ 100 → Q (.str y) H
theorem three_short : ∀ z ∈ three, (PyData.shown (.str z)).length ≤ 100 := by decide +kernel
theorem ok__shown (T : Txt w K mg) : FnOk P w K mg base CX0 1 T.f__shown T.fd__shown ["value"] (sp__shown K) := by
  refine T.F__shown.ok sc__shown S1_len (fun cdv A outer s H vs Q E hr h => ?_)
  obtain ⟨v0, rfl, h⟩ := h
  refine ⟨_, (pss_one (ps_ret (pe_ifExp (pt_val (pe_callB call_isi (by rfl) T.m_isinstance (by decide +kernel) (pa_cons (pv 0) (pa_cons (pe_bltn (v := .ty "str") (by rfl) T.m_str (by decide +kernel) rfl) pa_nil)))) (pe_callB call_reprS (by rfl) T.m_repr (by decide +kernel) (pa_cons (pv 0) pa_nil)) pe_str))), ?_⟩
  obtain ⟨z, rfl, hz, q⟩ := h
  walk_at "rd"
  exact ⟨_, _, _, _, true, rfl, .ty _, .base (.str _), kit_ty (by decide +kernel), _, rfl, iteT ⟨Nat.le_trans (three_short z hz) (by decide), q _ (three_short z hz)⟩⟩
def sp_init (K : PySem.W.Frag) : Sp := S2 fun x y H Q => ∃ a C z, x = .ref a ∧ y = .str z ∧ z ∈ three ∧ OexC K C ∧ PySem.W.findIn K (.ref C) "part" = some none ∧ H a = some (exo a C none) ∧
  ∀ dx, H dx = none → dx ≠ a → Q .non (upd (upd H dx (exd dx [("part", .str z)])) a (exo a C (some dx)))
theorem ok_initT (T : Txt w K mg) : FnOk P w K mg base CX0 2 T.fIT T.fdIT ["self", "part"] (sp_init K) := by
  have K__shown := ok__shown (P := P) (base := base) T
  refine T.FIT.ok scInitT S2_len (fun cdv A outer s H vs Q E hr h => ?_)
  obtain ⟨v0, v1, rfl, h⟩ := h
  refine ⟨_, pss_cons (ps_expr (pe_above (by rfl) T.g_EqualError T.rE T.vE (pa_cons (pv 0) (pa_cons (pe_joined (PJ.cons pe_str (PJ.cons (pe_fmt (pe_call K__shown (hr.mono (by decide)) (by rfl) T.g__shown T.F__shown.kp T.b__shown .nil pass0 (pa_cons (pv 1) pa_nil))) PJ.nil))) pa_nil))))
    (pss_one (ps_ost (pv 0) (pv 1))), ?_⟩
  obtain ⟨a, C, z, rfl, rfl, hz, hC, hP, ha, q⟩ := h
  walk_at "rd"
  refine ⟨_, rfl, by decide, _, rfl, ⟨_, rfl, z, rfl, hz, fun y hy => .inl ⟨y, rfl, Nat.le_trans hy (by decide), ?_, ⟨a, C, _, rfl, (by show 1 ≤ 1000; decide), hC, ha, ?_⟩⟩⟩⟩
  · have e1 : (Str.empty).length = 0 := by decide +kernel
    have e2 : (Str.ofString "no such term: ").length = 14 := by decide +kernel
    rw [PySem.Str.length_append, PySem.Str.length_append, sizeLine_eq, e1, e2]
    omega
  · exact ⟨_, rfl, _, rfl, a, C, rfl, hC, hP, .inl ⟨ha, q⟩⟩
/-! ### words -/
def RB (C : Addr) (z : Str) (H : Hp) (E : XK) : Prop := ∀ d H', Same H H' → H' d = some (.xd [("part", .str z)]) → E (.ref C) (some d) H'
theorem raise_okT (T : Txt w K mg) {z : Str} (hz : z ∈ three) {σ : L2.St} {H : Hp} {E : XK} (h : RB T.CT z H E) :
    tMkO T.CT (sp_init K) [] (tCons (tC (.str z)) tNil) σ H fun cls d H' => E cls d H' := by
  refine ⟨by show 1 ≤ 1000; decide, fun a na => ⟨_, _, rfl, a, T.CT, z, rfl, rfl, hz, T.oT, T.nT, upd_same, fun dx nd ne => ⟨rfl, dx, [("part", .str z)], upd_same, ?_, ?_, ?_⟩⟩⟩
  · rw [upd_ne ne, upd_same]
  · rw [upd_ne ne] at nd
    exact nd
  · rw [upd_ne ne] at nd
    refine h dx _ (fun b o e => ?_) upd_same
    have h1 : b ≠ a := ne_of_none e na
    have h2 : b ≠ dx := ne_of_none e nd
    rw [upd_ne h2, del_ne h1, upd_ne h1, upd_ne h2, upd_ne h1]
    exact e
theorem one_lt : (1 : Int).natAbs < 2 ^ 1000 := Nat.one_lt_two_pow (by decide)
theorem shl_ok {i : Int} {k : Nat} (hi : i.natAbs < 2 ^ 1000) (hk : k ≤ 1000) : CShl i (k : Int) := by
  refine ⟨by omega, ?_⟩
  have b := PyProof.Rows.intBits_le hi
  have : (2 : Int) ^ 27 = 134217728 := by decide
  omega
/-! ### labels -/
def allDig (z : Str) : Bool := (List.range z.cps.size).map (fun i => decide (z.cps[i]! ∈ ("0123456789" : Str).cps.toList)) |>.all id
def digitsOf (z : Str) : Str := if Txt.startswith z "-" = true then cutS z (some 1) none else z
/-- what integer_of tells -/
def intOf (z : Str) : V :=
  if (decide (1 ≤ (digitsOf z).length) && decide ((digitsOf z).length ≤ 10) && allDig (digitsOf z)) = false then .non
  else if (Txt.startswith (digitsOf z) "0" && !decide (z = ("0" : Str))) = true then .non
  else match intText? z with | some i => .int i | none => .non
/-- a text that is read without an error -/
def readB (z : Str) : Bool := decide (z.length ≤ 20) && decide ((digitsOf z).length ≤ 20) &&
  (!(decide (1 ≤ (digitsOf z).length) && decide ((digitsOf z).length ≤ 10) && allDig (digitsOf z)) || (Txt.startswith (digitsOf z) "0" && !decide (z = ("0" : Str))) || (intText? z).isSome)
def sp_integer_of (_ : PySem.W.Frag) : Sp := S1 fun x H Q => ∃ z : Str, x = .str z ∧ readB z = true ∧ ∀ H1, Same H H1 → Q (intOf z) H1
theorem ok_integer_of (T : Txt w K mg) : FnG P w K mg base CX0 1 T.f_integer_of T.fd_integer_of ["item"] (sp_integer_of K) := by
  refine okG T.F_integer_of sc_integer_of S1_len (fun cdv A outer s H vs Q E hg hr h => ?_)
  obtain ⟨v0, rfl, h⟩ := h
  refine ⟨_, (C8.pss_cut (ps_set (i := 1) sc_integer_of.nd rfl (.inl rfl) (pe_ifExp (pt_val (pe_m1 PySem.F.slot_str_startswith PySem.F.type_str_startswith mt_startswith (pv 0) pe_str)) (pe_slice sl_str (pv 0) (po_some pe_int) po_none) (pv 0)))
      (pss_cons (ps_if (PW.pt (pw_or (pt_not (pt_chain op_le op_le pe_int (pe_callB call_len_str (by rfl) T.m_len (by decide +kernel) (pa_cons (pv 1) pa_nil)) (C8.pe_gc (by rfl) T.c_MOST_DIGITS))) (pw_or1 (pt_not (pt_val (pe_callB (cr_all rfl) (by rfl) T.m_all (by decide +kernel) (pa_cons (pe_lc (own := [("sign", 2)]) (g := gName 2) rfl sc_integer_of.nd (pi_str (pv 1)) (blkOk_by (own := [("sign", 2)]) (N := ["item", "digits", "sign"]) (sc := defScope s_integer_of) (by decide +kernel)) (fun _ _ _ _ _ => pg_name (i := 2) sc_integer_of.nd rfl (Or.inl rfl)) (fun _ _ _ _ _ => pts_nil) (fun _ _ _ _ _ => pe_cmpR op_in_sign (pv 2) (C8.pe_gc (by rfl) T.c_DIGITS) rfl)) pa_nil)))))))
        (pss_one (ps_ret pe_non))
        pss_nil)
      (pss_cons (ps_if (PW.pt (pw_and (pt_val (pe_m1 PySem.F.slot_str_startswith PySem.F.type_str_startswith mt_startswith (pv 1) pe_str)) (pw_and1 (pt_cmpR op_ne (pv 0) pe_str (nomark _)))))
        (pss_one (ps_ret pe_non))
        pss_nil)
      (pss_one (ps_ret (pe_callTy call_int_str (by rfl) T.m_int (by decide +kernel) (pa_cons (pv 0) pa_nil))))))), ?_⟩
  obtain ⟨z, rfl, hz, q⟩ := h
  unfold readB at hz
  rw [Bool.and_eq_true, Bool.and_eq_true] at hz
  obtain ⟨⟨z1, z2⟩, z3⟩ := hz
  have z1 := of_decide_eq_true z1
  have z2 := of_decide_eq_true z2
  refine ⟨fun σ H' => H' = H ∧ ∃ y, σ = [some (.str z), some (.str (digitsOf z)), y], ?_, ?_⟩
  · walk_at "rd"
    refine ⟨⟨_, rfl⟩, ?_⟩
    unfold digitsOf
    refine ite2 (fun e => ?_) fun e => ?_
    · exact ⟨_, rfl, Nat.le_trans z1 (by decide), rfl, by rw [if_pos e], _, rfl⟩
    · rw [if_neg e]
      exact ⟨rfl, _, rfl⟩
  · rintro σ H' ⟨rfl, y, rfl⟩
    have hq := q
    unfold intOf at hq
    generalize digitsOf z = d at *
    walk_at "rd"
    refine ⟨Nat.le_trans z2 (by decide), ite2 (fun e1 => ?_) fun e1 => ?_⟩
    · have l1 : decide (1 ≤ d.length) = true := decide_eq_true (by have := of_decide_eq_true e1; omega)
      cases e2 : decide ((d.length : Int) ≤ 10) with
      | false =>
        have l2 : decide (d.length ≤ 10) = false := decide_eq_false (by have := of_decide_eq_false e2; omega)
        have r := hq H' (Same.refl _)
        rw [l2, Bool.and_false, Bool.false_and, if_pos rfl] at r
        exact iteT r
      | true =>
        have l2 : decide (d.length ≤ 10) = true := decide_eq_true (by have := of_decide_eq_true e2; omega)
        refine iteF ⟨_, rfl, _, rfl, fun D nD => ?_⟩
        refine lc_name walk_str (fun i => .str ⟨#[d.cps[i]!]⟩) (fun i => .bl (decide (d.cps[i]! ∈ ("0123456789" : Str).cps.toList))) (fun i H x H' hi _ hy => ?_) (by show d.cps.size ≤ 1000; exact Nat.le_trans z2 (by decide)) nD (fun _ _ => True.intro) (fun i H2 R hi s2 hR => ?_) (fun H2 s2 e2 => ?_)
        · obtain ⟨e, c, hc, rfl⟩ := hy
          refine ⟨e, ?_⟩
          rw [getElem!_pos d.cps i hi]
          rw [Array.getElem?_eq_getElem hi] at hc
          cases hc
          rfl
        · exact ⟨_, rfl, _, rfl, _, rfl, hR _ (Same.refl _)⟩
        · refine ⟨D, (List.range d.cps.size).map fun i => decide (d.cps[i]! ∈ ("0123456789" : Str).cps.toList), rfl, .inl (.inl ?_), ?_⟩
          · rw [List.map_map]
            exact e2
          have r := hq H2 s2
          rw [l1, l2, Bool.true_and, Bool.true_and] at r
          rw [l1, l2, Bool.true_and, Bool.true_and] at z3
          show ∃ c, V.bl (allDig d) = V.bl c ∧ _
          refine ⟨_, rfl, ?_⟩
          cases e3 : allDig d with
          | false =>
            rw [e3, if_pos rfl] at r
            exact iteT r
          | true =>
            rw [e3, if_neg (by decide)] at r
            rw [e3] at z3
            refine iteF ⟨⟨_, rfl⟩, ?_⟩
            have fin : ∀ {b : Bool}, (Txt.startswith d "0" && !decide (z = ("0" : Str))) = false → ∃ x, intText? z = some x ∧ z.length ≤ 640 ∧ Q (V.int x) H2 := by
              intro b hb
              rw [hb] at z3 r
              rw [if_neg (by decide)] at r
              have z4 : (intText? z).isSome = true := by simpa using z3
              obtain ⟨i, hi⟩ := Option.isSome_iff_exists.mp z4
              rw [hi] at r
              exact ⟨i, hi, by omega, r⟩
            cases e4 : Txt.startswith d "0" with
            | false =>
              refine iteF (fin (b := true) ?_)
              rw [e4] <;> rfl
            | true =>
              refine iteT ⟨rfl, ?_⟩
              cases e5 : decide (z = ("0" : Str)) with
              | false =>
                rw [e4, e5, if_pos (by decide)] at r
                exact iteT r
              | true =>
                refine iteF (fin (b := true) ?_)
                rw [e4, e5] <;> rfl
    · have l1 : decide (1 ≤ d.length) = false := decide_eq_false (by intro k; exact e1 (decide_eq_true (by omega)))
      have r := hq H' (Same.refl _)
      rw [l1, Bool.false_and, Bool.false_and, if_pos rfl] at r
      exact r
/-- what shift_of tells -/
def shiftOf (z : Str) : V :=
  if Txt.startswith z "shl " = true then (match intOf (cutS z (some 4) none) with
    | .int i => if (decide (1 ≤ i) && decide (i ≤ 31)) = true then .int i else .non
    | _ => .non)
  else .non
def readS (z : Str) : Bool := decide (z.length ≤ 1000) && (!Txt.startswith z "shl " || readB (cutS z (some 4) none))
theorem intOf_kind (z : Str) : intOf z = .non ∨ ∃ i, intOf z = .int i := by
  unfold intOf
  split
  · exact .inl rfl
  · split
    · exact .inl rfl
    · split
      · exact .inr ⟨_, rfl⟩
      · exact .inl rfl
def sp_shift_of (_ : PySem.W.Frag) : Sp := S1 fun x H Q => ∃ z : Str, x = .str z ∧ readS z = true ∧ ∀ H1, Same H H1 → Q (shiftOf z) H1
theorem ok_shift_of (T : Txt w K mg) : FnG P w K mg base CX0 3 T.f_shift_of T.fd_shift_of ["label"] (sp_shift_of K) := by
  have K_integer_of := ok_integer_of (P := P) (base := base) T
  have K_is_within := ok_is_within (P := P) (base := base) T
  refine okG T.F_shift_of sc_shift_of S1_len (fun cdv A outer s H vs Q E hg hr h => ?_)
  obtain ⟨v0, rfl, h⟩ := h
  refine ⟨_, (pss_cons (ps_if (pt_not (pt_val (pe_m1 PySem.F.slot_str_startswith PySem.F.type_str_startswith mt_startswith (pv 0) pe_str)))
        (pss_one (ps_ret pe_non))
        pss_nil)
      (pss_cons (ps_set (i := 1) sc_shift_of.nd rfl (.inl rfl) (pe_callG K_integer_of hg (hr.mono (by decide)) (by rfl) T.g_integer_of T.F_integer_of.kp T.b_integer_of .nil pass0 (pa_cons (pe_slice sl_str (pv 0) (po_some pe_int) po_none) pa_nil)))
      (pss_one (ps_ret (pe_ifExp (pt_val (pe_callG K_is_within hg (hr.mono (by decide)) (by rfl) T.g_is_within T.F_is_within.kp T.b_is_within .nil pass0 (pa_cons (pv 1) (pa_cons pe_int (pa_cons pe_int pa_nil))))) (pv 1) pe_non))))), ?_⟩
  obtain ⟨z, rfl, hz, q⟩ := h
  unfold readS at hz
  rw [Bool.and_eq_true] at hz
  obtain ⟨z1, z2⟩ := hz
  have z1 := of_decide_eq_true z1
  unfold shiftOf at q
  walk_at "rd"
  refine ⟨⟨_, rfl⟩, ?_⟩
  cases e : Txt.startswith z "shl " with
  | false =>
    rw [e, if_neg (by decide)] at q
    exact iteT (q _ (Same.refl H))
  | true =>
    rw [e, if_pos rfl] at q
    rw [e] at z2
    refine iteF ⟨_, rfl, Nat.le_of_lt (small1000 z1), ⟨_, rfl, _, rfl, z2, fun H1 s1 => ?_⟩⟩
    have r := q H1 s1
    rcases intOf_kind (cutS z (some 4) none) with k | ⟨i, k⟩
    · rw [k] at r ⊢
      exact within_no ⟨_, false, false, .base .non, kit_ty (by decide +kernel), kit_ty (by decide +kernel), rfl⟩ ⟨_, rfl, iteF r⟩
    · rw [k] at r ⊢
      have r : Q (if (decide (1 ≤ i) && decide (i ≤ 31)) = true then .int i else .non) H1 := r
      cases e2 : (decide (1 ≤ i) && decide (i ≤ 31)) with
      | false =>
        rw [e2, if_neg (by decide)] at r
        exact within_out (bnd_int _) (bnd_int _) e2 ⟨_, rfl, iteF r⟩
      | true =>
        rw [e2, if_pos rfl] at r
        exact within_yes (bnd_int _) (bnd_int _) e2 ⟨_, rfl, iteT r⟩
end
end K03
end
section
set_option maxHeartbeats 4000000
namespace K03
open PySem PySem.Spec PyProof.Rows L2 G1 G2
local macro_rules | `(tactic| walk_at "rd") => `(tactic| simp only [tPar, tFmt, tJs, tM0, tM1, tSeq, tIfS, gName, gTup, gSub, gNil, gCons, List.cons.injEq, List.replicate_succ, tNot, tB, tRet, tC, tNext, tVar, tOp, tUn, tAnd, tOr, tAndV, tOrV, tNotV, tIf, tTest, tChain, tAsg, tCall, tCons, tNil, tCB, tDrop, tNever, tTup, tLst, tSl, tPart, tNoPart, tB, cx_K, cx_K', cx_w, cx_w', cx_mg', cx_P', cx_b', cx_mg, cx_P, cx_b, gUnl, Nat.reduceAdd, Nat.reduceSub, Nat.sub_self, Nat.zero_add, List.replicate_zero,
  rI, rI0, rU, rEq, rNe, L2.start, List.append_nil, List.cons_append, List.nil_append, List.map_cons, List.map_nil, List.length_cons, List.length_nil, List.getElem?_cons_zero, List.getElem?_cons_succ,
  List.replicate, List.set_cons_zero, List.set_cons_succ, exists_eq_left, exists_eq_left', exists_eq_right, exists_and_left, Option.some.injEq, V.bl.injEq, V.int.injEq, V.str.injEq, V.ref.injEq, true_and, and_true, if_true, if_false, Bool.false_eq_true, Bool.not_true, Bool.not_false, reduceIte, reduceCtorEq, ite_true, ite_false, decide_true, decide_false])
section
variable {P : Program} {w : World} {K : PySem.W.Frag} {mg : Str → Option Value} {base : Heap}
/-! ### what draws -/
def SameB (a : Addr) (H H1 : Hp) : Prop := ∀ b o, b ≠ a → H b = some o → H1 b = some o
theorem SameB.refl (a : Addr) (H : Hp) : SameB a H H := fun _ _ _ h => h
theorem SameB.trans {a : Addr} {H H1 H2 : Hp} (s : SameB a H H1) (t : SameB a H1 H2) : SameB a H H2 := fun b o n h => t b o n (s b o n h)
theorem SameB.of {a : Addr} {H H1 : Hp} (s : Same H H1) : SameB a H H1 := fun b o _ h => s b o h
theorem SameB.upd (a : Addr) (H : Hp) (o : HO) : SameB a H (upd H a o) := fun b x n h => by
  rw [upd_ne n]
  exact h
theorem SameB.seq {K : PySem.W.Frag} {H H' : Hp} {a c : Addr} {xs : List V} (e : SameB a H H') (n : c ≠ a) (h : SqL K H c xs) : SqL K H' c xs := by
  rcases h with (h | ⟨o, h⟩) | h
  · exact .inl (.inl (e _ _ n h))
  · exact .inl (.inr ⟨o, e _ _ n h⟩)
  · exact .inr h
structure TrS (K : PySem.W.Frag) (H : Hp) (a c : Addr) (ns : List Int) (t : Nat) (r : Int) : Prop where
  at_ : H a = some (.lst [.ref c, .int (t : Int), .int r])
  cells : SqL K H c (ns.map V.int)
  ne : c ≠ a
  few : ns.length ≤ 63
  low : 0 ≤ r
/-- a tray at a, which may be dipped into n times -/
def Tr (K : PySem.W.Frag) (H : Hp) (a c : Addr) (n : Nat) : Prop := ∃ ns t r, TrS K H a c ns t r ∧ t + n ≤ 1000000
def sp__law_vine (K : PySem.W.Frag) : Sp := S2 fun x y H Q => ∃ (a c : Addr) (m : Int) (n : Nat), x = .ref a ∧ y = .int m ∧ 0 < m ∧ m.natAbs < 2 ^ 400 ∧ Tr K H a c (n + 1) ∧ ∀ (r : Int) H1, 0 ≤ r → r < m → SameB a H H1 → Tr K H1 a c n → Q (.int r) H1
theorem mix3 {M t : Int} (h0 : 0 ≤ M) (h1 : M < 2147483648) (t0 : 0 ≤ t) (t1 : t ≤ 1000000) : (M * (2 * t + 3469) + 52567 * t * t + 28087).natAbs < 2 ^ 64 := by
  have a1 : 0 ≤ M * (2 * t + 3469) := Int.mul_nonneg h0 (by omega)
  have a2 : M * (2 * t + 3469) ≤ 2147483648 * 2003469 := Int.mul_le_mul (by omega) (by omega) (by omega) (by decide)
  have b1 : 0 ≤ 52567 * t * t := Int.mul_nonneg (by omega) t0
  have b2 : 52567 * t * t ≤ 52567000000 * 1000000 := Int.mul_le_mul (by omega) t1 t0 (by decide)
  generalize M * (2 * t + 3469) = x at *
  generalize 52567 * t * t = y at *
  omega
theorem dp_ints {K : PySem.W.Frag} {H : Hp} : ∀ ns : List Int, DpAll K H (ns.map V.int) (ns.map PyData.int)
  | [] => .nil
  | n :: ns => .cons (.int n) (dp_ints ns)
theorem lay_ints (ns : List Int) : PyData.canLayAll0 (ns.map PyData.int) = true := by
  induction ns with
  | nil => rfl
  | cons n r ih =>
    show (PyData.canLay0 (PyData.int n) && PyData.canLayAll0 (r.map PyData.int)) = true
    rw [ih]
    rfl
theorem depth_ints (ns : List Int) : PyData.depthAll (ns.map PyData.int) ≤ 1 := by
  induction ns with
  | nil => exact Nat.zero_le _
  | cons n r ih =>
    show max (PyData.depth (PyData.int n)) (PyData.depthAll (r.map PyData.int)) ≤ 1
    have : PyData.depth (PyData.int n) ≤ 1 := by
      first | decide | (unfold PyData.depth; omega)
    omega
theorem shaped_ints (ns : List Int) : SeqAt.shaped (.list (ns.map PyData.int)) = true := by
  unfold SeqAt.shaped
  rw [Bool.and_eq_true]
  refine ⟨lay_ints ns, decide_eq_true ?_⟩
  have := depth_ints ns
  unfold PyData.depth
  omega
theorem eqv_nil (ns : List Int) : PyData.eqv (.list (ns.map PyData.int)) (.list []) = ns.isEmpty := by
  cases ns <;> rfl
theorem ok__law_vine (T : Txt w K mg) : FnG P w K mg base CX0 1 T.f__law_vine T.fd__law_vine ["_law_trellis_here", "_law_many"] (sp__law_vine K) := by
  refine okG T.F__law_vine sc__law_vine S2_len (fun cdv A outer s H vs Q E hg hr h => ?_)
  obtain ⟨v0, v1, rfl, h⟩ := h
  refine ⟨_, (pss_cons (ps_if (pt_cmpR op_gt (pe_ix ix_list (pv 0) pe_int (fun _ _ => rfl)) pe_int (nomark _))
        (pss_cons (ps_set (i := 2) sc__law_vine.nd rfl (.inl rfl) (pe_callTy call_intI (by rfl) T.m_int (by decide +kernel) (pa_cons (pe_ix ix_list (pv 0) pe_int (fun _ _ => rfl)) pa_nil)))
        (pss_cons (ps_asg (pe_op op_fdivW (pv 2) (pv 1)) (pg_sub (pv 0) pe_int set_list))
        (pss_one (ps_ret (pe_op op_mod (pe_callTy call_intI (by rfl) T.m_int (by decide +kernel) (pa_cons (pv 2) pa_nil)) (pv 1))))))
        pss_nil)
      (pss_cons (ps_set (i := 3) sc__law_vine.nd rfl (.inl rfl) (pe_ix ix_list (pv 0) pe_int (fun _ _ => rfl)))
      (pss_cons (ps_asg (pe_op op_add (pv 3) pe_int) (pg_sub (pv 0) pe_int set_list))
      (pss_cons (ps_set (i := 4) sc__law_vine.nd rfl (.inl rfl) (pe_op op_add (pe_op op_mul pe_int (pv 3)) pe_int))
      (C8.pss_cut (ps_if (pt_cmpR (op_neD hr.units) (pe_ix ix_list (pv 0) pe_int (fun _ _ => rfl)) (pe_lst pa_nil) (nomark _))
        (pss_one (ps_set (i := 4) sc__law_vine.nd rfl (.inl rfl) (pe_ix ix_list (pe_ix ix_list (pv 0) pe_int (fun _ _ => rfl)) (pe_op op_mod (pe_callTy call_intI (by rfl) T.m_int (by decide +kernel) (pa_cons (pv 3) pa_nil)) (pe_callB call_lenL (by rfl) T.m_len (by decide +kernel) (pa_cons (pe_ix ix_list (pv 0) pe_int (fun _ _ => rfl)) pa_nil))) (fun _ _ => rfl))))
        pss_nil)
      (pss_cons (ps_if (PW.pt (pw_and (pt_cmpR op_lt (pv 3) (pe_callB call_lenL (by rfl) T.m_len (by decide +kernel) (pa_cons (pe_ix ix_list (pv 0) pe_int (fun _ _ => rfl)) pa_nil)) (nomark _)) (pw_and1 (pt_cmpR op_ge (pe_callB call_abs (by rfl) T.m_abs (by decide +kernel) (pa_cons (pv 4) pa_nil)) (pe_op op_pow pe_int pe_int) (nomark _)))))
        (pss_cons (ps_set (i := 2) sc__law_vine.nd rfl (.inl rfl) (pe_op op_add (pe_op op_mul pe_int (pe_op op_sub (pe_callB call_abs (by rfl) T.m_abs (by decide +kernel) (pa_cons (pv 4) pa_nil)) (pe_op op_pow pe_int pe_int))) (pe_callTy call_intB (by rfl) T.m_int (by decide +kernel) (pa_cons (pe_cmpR op_lt (pv 4) pe_int (nomark _)) pa_nil))))
        (pss_cons (ps_asg (pe_op op_fdivW (pe_callTy call_intI (by rfl) T.m_int (by decide +kernel) (pa_cons (pv 2) pa_nil)) (pv 1)) (pg_sub (pv 0) pe_int set_list))
        (pss_one (ps_ret (pe_op op_mod (pe_callTy call_intI (by rfl) T.m_int (by decide +kernel) (pa_cons (pv 2) pa_nil)) (pv 1))))))
        pss_nil)
      (pss_cons (ps_set (i := 5) sc__law_vine.nd rfl (.inl rfl) (pe_op op_mod (pe_callTy call_intI (by rfl) T.m_int (by decide +kernel) (pa_cons (pe_op op_pow (pe_op op_add (pe_op op_add (pe_op op_mod (pe_callTy call_intI (by rfl) T.m_int (by decide +kernel) (pa_cons (pv 4) pa_nil)) pe_int) (pe_op op_mul pe_int (pv 3))) pe_int) pe_int) pa_nil)) pe_int))
      (pss_cons (ps_set (i := 5) sc__law_vine.nd rfl (.inl rfl) (pe_op op_mod (pe_callTy call_intI (by rfl) T.m_int (by decide +kernel) (pa_cons (pe_op op_pow (pe_op op_add (pe_op op_add (pe_op op_mulW (pv 5) (pe_op op_add (pe_op op_mul pe_int (pv 3)) pe_int)) (pe_op op_mulW (pe_op op_mul pe_int (pv 3)) (pv 3))) pe_int) pe_int) pa_nil)) pe_int))
      (pss_one (ps_ret (pe_op op_mod (pe_callTy call_intI (by rfl) T.m_int (by decide +kernel) (pa_cons (pe_op op_fdivW (pv 5) pe_int) pa_nil)) (pv 1)))))))))))), ?_⟩
  obtain ⟨a, c, m, n, rfl, rfl, hm, hm2, ⟨ns, t, r, S, hb⟩, q⟩ := h
  have hA : SqL K H a [.ref c, .int (t : Int), .int r] := .inl (.inl S.at_)
  walk_at "rd"
  refine ixL hA rfl ⟨_, rfl, ?_⟩
  have hdv : CDivW r m := wide_div hm hm2 (by decide) (by decide)
  refine ite2 (fun e => ?_) fun e => ?_
  · -- what a great one has left
    refine ixL hA rfl ⟨_, rfl, _, rfl, hdv, setL S.at_ (j := 2) rfl ⟨_, rfl, _, rfl, hm, ?_⟩⟩
    have d : (0 : Int) ≤ r / m := Int.ediv_nonneg S.low (by omega)
    refine q _ _ (Int.emod_nonneg _ (by omega)) (Int.emod_lt_of_pos _ hm) (SameB.upd _ _ _) ⟨ns, t, r / m, ⟨upd_same, (SameB.upd _ _ _).seq S.ne S.cells, S.ne, S.few, d⟩, by omega⟩
  · have hA1 : SqL K (upd H a (.lst [.ref c, .int ((t : Int) + 1), .int r])) a [.ref c, .int ((t : Int) + 1), .int r] := .inl (.inl upd_same)
    refine ixL hA rfl ⟨_, rfl, setL S.at_ (j := 1) rfl ⟨_, rfl, .inl (by decide), ?_⟩⟩
    have sB : SameB a H (upd H a (.lst [.ref c, .int ((t : Int) + 1), .int r])) := SameB.upd _ _ _
    have hC1 := sB.seq S.ne S.cells
    -- the cut: a cell is told
    refine ⟨fun σ H1 => ∃ (y2 y5 : Option V) (cell : Int), σ = [some (.ref a), some (.int m), y2, some (.int (t : Int)), some (.int cell), y5] ∧ SameB a H H1 ∧ H1 a = some (.lst [.ref c, .int ((t : Int) + 1), .int r]) ∧ SqL K H1 c (ns.map V.int), ?_, ?_⟩
    · walk_at "rd"
      refine ixL hA1 rfl ⟨Nat.zero_le _, fun p np => ?_⟩
      have sp := same_upd (o := .lst []) np
      have e1 : (upd (upd H a (.lst [.ref c, .int ((t : Int) + 1), .int r])) p (.lst [])) a = some (.lst [.ref c, .int ((t : Int) + 1), .int r]) := sp _ _ upd_same
      have hA2 : SqL K (upd (upd H a (.lst [.ref c, .int ((t : Int) + 1), .int r])) p (.lst [])) a _ := .inl (.inl e1)
      have hC2 := sp.seq hC1
      have sB2 := sB.trans (SameB.of sp)
      refine ⟨_, _, .lst hC2 (dp_ints ns), .lst (.inl (.inl upd_same)) .nil, shaped_ints ns, rfl, _, rfl, ?_⟩
      rw [eqv_nil]
      refine ite2 (fun e => ?_) fun _ => ⟨none, none, _, ⟨rfl, rfl, rfl⟩, sB2, e1, hC2⟩
      have hpos : 0 < ns.length := by
        cases ns with
        | nil => cases e
        | cons x r => exact Nat.succ_pos _
      refine ixL hA2 rfl ⟨_, rfl, ixL hA2 rfl ⟨c, _, rfl, hC2, _, rfl, _, rfl, ?_, ?_⟩⟩
      · rw [List.length_map]
        omega
      · rw [List.length_map]
        have h0 : 0 ≤ (t : Int) % (ns.length : Int) := Int.emod_nonneg _ (by omega)
        have h1 : (t : Int) % (ns.length : Int) < ns.length := Int.emod_lt_of_pos _ (by omega)
        obtain ⟨j, hj⟩ : ∃ j : Nat, (t : Int) % (ns.length : Int) = (j : Int) := ⟨_, (Int.toNat_of_nonneg h0).symm⟩
        rw [hj]
        have hj2 : j < ns.length := by omega
        exact ixL hC2 (atI_nat (by rw [List.getElem?_map, List.getElem?_eq_getElem hj2]; rfl)) ⟨none, none, _, ⟨rfl, rfl, rfl⟩, sB2, e1, hC2⟩
    · rintro σ H1 ⟨y2, y5, cell, rfl, s1, e1, c1⟩
      walk_at "rd"
      have hA3 : SqL K H1 a [.ref c, .int ((t : Int) + 1), .int r] := .inl (.inl e1)
      have m1 : 0 ≤ cell % 2147483489 := Int.emod_nonneg _ (by decide)
      have m2 : cell % 2147483489 < 2147483489 := Int.emod_lt_of_pos _ (by decide)
      have Tr1 : Tr K H1 a c n := ⟨ns, t + 1, r, ⟨by rw [e1]; rfl, c1, S.ne, S.few, S.low⟩, by omega⟩
      refine ixL hA3 rfl ⟨c, _, rfl, c1, _, rfl, ?_⟩
      have e1' := e1
      have p18 : CPow 10 18 := ⟨by decide, by decide, by decide⟩
      refine ite2 (fun e1 => ⟨p18, ite2 (fun e2 => ⟨p18, .inl (by decide), ?_⟩) fun e2 => ?_⟩) fun e1 => ?_
      · refine ⟨_, rfl, _, rfl, ?_⟩
        generalize hz : (2 * ((if cell < 0 then -cell else cell) - 10 ^ Int.toNat 18) + if decide (cell < 0) = true then (1 : Int) else 0) = z
        have z0 : 0 ≤ z := by
          have h2 := of_decide_eq_true e2
          rw [← hz]
          generalize (10 : Int) ^ Int.toNat 18 = u at *
          split <;> split <;> omega
        refine ⟨_, rfl, _, rfl, wide_div hm hm2 (by decide) (by decide), setL e1' (j := 2) rfl ⟨_, rfl, _, rfl, hm, ?_⟩⟩
        refine q _ _ (Int.emod_nonneg _ (by omega)) (Int.emod_lt_of_pos _ hm) (s1.trans (SameB.upd _ _ _)) ⟨ns, t + 1, z / m, ⟨upd_same.trans (by rfl), (SameB.upd _ _ _).seq S.ne c1, S.ne, S.few, Int.ediv_nonneg z0 (by omega)⟩, by omega⟩
      all_goals
        refine ⟨_, rfl, _, rfl, by decide, .inl (by decide), ⟨by decide, by decide, by omega⟩, _, rfl, _, rfl, by decide, .inl (by decide), ?_⟩
        generalize (cell % 2147483489 + 28087 * (t : Int) + 8209) ^ Int.toNat 5 = z
        have z1 : 0 ≤ z % 2147483579 := Int.emod_nonneg _ (by decide)
        have z2 : z % 2147483579 < 2147483579 := Int.emod_lt_of_pos _ (by decide)
        refine ⟨wide_mul (a := 31) (b := 22) (by omega) (by omega) (by decide) (by decide) (by decide), .inl (by decide), wide_mul (a := 37) (b := 22) (by omega) (by omega) (by decide) (by decide) (by decide),
          ⟨by decide, by decide, mix3 z1 (by omega) (by omega) (by omega)⟩, _, rfl, _, rfl, by decide, wide_div (b := 7) (by decide) (by decide) (by decide) (by decide), _, rfl, _, rfl, hm, ?_⟩
        exact q _ _ (Int.emod_nonneg _ (by omega)) (Int.emod_lt_of_pos _ hm) s1 Tr1
def sp__law_one_of (K : PySem.W.Frag) : Sp := S2 fun x y H Q => ∃ (a c l : Addr) (xs : List V) (n : Nat), x = .ref a ∧ y = .ref l ∧ SqL K H l xs ∧ l ≠ a ∧ 0 < xs.length ∧ xs.length ≤ 1000 ∧ Tr K H a c (n + 1) ∧ ∀ v H1, v ∈ xs → SameB a H H1 → Tr K H1 a c n → Q v H1
theorem ok__law_one_of (T : Txt w K mg) : FnG P w K mg base CX0 2 T.f__law_one_of T.fd__law_one_of ["_law_trellis_here", "_law_some"] (sp__law_one_of K) := by
  have K__law_vine := ok__law_vine (P := P) (base := base) T
  refine okG T.F__law_one_of sc__law_one_of S2_len (fun cdv A outer s H vs Q E hg hr h => ?_)
  obtain ⟨v0, v1, rfl, h⟩ := h
  refine ⟨_, (pss_one (ps_ret (pe_ix ix_list (pv 1) (pe_callG K__law_vine hg (hr.mono (by decide)) (by rfl) T.g__law_vine T.F__law_vine.kp T.b__law_vine .nil pass0 (pa_cons (pv 0) (pa_cons (pe_callB call_lenL (by rfl) T.m_len (by decide +kernel) (pa_cons (pv 1) pa_nil)) pa_nil))) (fun _ _ => rfl)))), ?_⟩
  obtain ⟨a, c, l, xs, n, rfl, rfl, hl, hne, h0, h1, tr, q⟩ := h
  walk_at "rd"
  refine ⟨l, xs, rfl, hl, ?_⟩
  refine ⟨_, _, rfl, a, c, (xs.length : Int), n, rfl, rfl, by omega, ?_, tr, fun r H1 r0 r1 s1 t1 => ?_⟩
  · rw [Int.natAbs_natCast]
    exact Nat.lt_of_le_of_lt h1 (by decide)
  · obtain ⟨j, rfl⟩ : ∃ j : Nat, r = (j : Int) := ⟨_, (Int.toNat_of_nonneg r0).symm⟩
    have hj : j < xs.length := by omega
    exact ixL (s1.seq hne hl) (atI_nat (List.getElem?_eq_getElem hj)) (q _ _ (List.getElem_mem hj) s1 t1)
theorem Tr.less {K : PySem.W.Frag} {H : Hp} {a c : Addr} {n m : Nat} (t : Tr K H a c n) (h : m ≤ n) : Tr K H a c m := by
  obtain ⟨ns, t, r, S, hb⟩ := t
  exact ⟨ns, t, r, S, by omega⟩
theorem tr_ne {K : PySem.W.Frag} {H : Hp} {a c l : Addr} {n : Nat} (t : Tr K H a c n) (h : H l = none) : l ≠ a := by
  obtain ⟨ns, t, r, S, hb⟩ := t
  intro e
  rw [e, S.at_] at h
  cases h
theorem Tr.same {K : PySem.W.Frag} {H H1 : Hp} {a c : Addr} {n : Nat} (t : Tr K H a c n) (s : Same H H1) : Tr K H1 a c n := by
  obtain ⟨ns, t, r, S, hb⟩ := t
  exact ⟨ns, t, r, ⟨s _ _ S.at_, s.seq S.cells, S.ne, S.few, S.low⟩, hb⟩
end
end K03
end
section
set_option maxHeartbeats 4000000
namespace K03
open PySem PySem.Spec PyProof.Rows L2 G1 G2
local macro_rules | `(tactic| walk_at "rd") => `(tactic| simp only [tPar, tFmt, tJs, tM0, tM1, tSeq, tIfS, gName, gTup, gSub, gNil, gCons, List.cons.injEq, List.replicate_succ, tNot, tB, tRet, tC, tNext, tVar, tOp, tUn, tAnd, tOr, tAndV, tOrV, tNotV, tIf, tTest, tChain, tAsg, tCall, tCons, tNil, tCB, tDrop, tNever, tTup, tLst, tSl, tPart, tNoPart, tB, cx_K, cx_K', cx_w, cx_w', cx_mg', cx_P', cx_b', cx_mg, cx_P, cx_b, gUnl, Nat.reduceAdd, Nat.reduceSub, Nat.sub_self, Nat.zero_add, List.replicate_zero,
  rI, rI0, rU, rEq, rNe, L2.start, List.append_nil, List.cons_append, List.nil_append, List.map_cons, List.map_nil, List.length_cons, List.length_nil, List.getElem?_cons_zero, List.getElem?_cons_succ,
  List.replicate, List.set_cons_zero, List.set_cons_succ, exists_eq_left, exists_eq_left', exists_eq_right, exists_and_left, Option.some.injEq, V.bl.injEq, V.int.injEq, V.str.injEq, V.ref.injEq, true_and, and_true, if_true, if_false, Bool.false_eq_true, Bool.not_true, Bool.not_false, reduceIte, reduceCtorEq, ite_true, ite_false, decide_true, decide_false])
section
variable {X : Cx}
/-- what `_law_heard` makes of what it asks: an error of C -/
def Eh (CT : Addr) (Q : VK) : XK := fun cls d H' => ∃ dd z, cls = .ref CT ∧ d = some dd ∧ H' dd = some (.xd [("part", V.str z)]) ∧
  ∀ H2, Same H' H2 → Q (.str z) H2
def TTh (CT : Addr) : (XK → Hp → VK → Prop) → Hp → VK → Prop := fun tl H Q =>
  ∀ (E : XK) (Q2 : VK), (∀ cls d H', Eh CT Q cls d H' → E cls d H') → (∀ v H', Q .non H' → Q2 v H') → tl E H Q2
def tAskH (f : Addr) (G : Hp → Prop) (tl : XK → Hp → VK → Prop) : WX → TS := fun W D σ H =>
  σ[0]? = some (some (.ref f)) ∧ G H ∧ ∃ E : XK, (∀ cls d H', E cls d H' → W cls d σ H') ∧ tl E H fun _ H' => D.nx σ H'
theorem heard_gives {w : World} {K : PySem.W.Frag} {mg : Str → Option Value} (T : Txt w K mg) {cdg : Value} (hw : X.w = w) (hK : X.K = K) (hm : X.mg = mg) : GivesG X ["_law_ask", "_law_caught", "error"] "_law_heard" (defScope s__law_heard) T.f__law_heard cdg (defBody s__law_heard) "_law_ask" (TTh T.CT) := by
  subst hw hK hm
  intro f G s H Q tl act hG h
  refine ⟨_, (pss_cons (ps_set (i := 1) sc__law_heard.nd rfl (.inl rfl) pe_non)
    (pss_cons (ps_tryK (i := 2) (c := .ref T.CE) (tb := tAskH f G tl) (ts := fun a => tAsg (tVar 2) (gName 1)) (Wout := fun _ _ _ _ => False) rfl rfl sc__law_heard.nd rfl rfl ⟨by rfl, rfl, .inl T.g_EqualError⟩ LamX.takes0
      (fun W pn xe tk _ => ?_) (fun a pn => pss_one (ps_set (i := 1) sc__law_heard.nd rfl (.inl rfl) (pv 2))))
    (pss_cons (ps_if (pt_val (pe_callB call_isD (by rfl) T.m_isinstance (by decide +kernel) (pa_cons (pv 1) (pa_cons (pe_glob (v := .ref T.CT) (by rfl) T.g_BadTerm rfl) pa_nil))))
        (pss_one (ps_ret (pe_fk (pv 1)))) pss_nil)
    (pss_one (ps_ret (pe_ifExp (pt_cmpR op_isN (pv 1) pe_non (nomark _)) pe_non pe_int)))))), ?_⟩
  · refine ⟨fun pins s' σ H' D I h' => ?_⟩
    exact (pss_one (ps_expr (act W pn xe _ _ tk))).run pins s' σ H' D I h'
  · walk_at "rd"
    refine ⟨rfl, hG, _, fun _ _ _ h => h, h _ _ (fun cls d H' he => ?_) fun v H' hq => ?_⟩
    · obtain ⟨dd, z, rfl, rfl, hx, k⟩ := he
      refine ⟨true, T.eT, fun _ => ⟨T.CT, rfl, fun a na => ?_⟩, fun h => by cases h⟩
      walk_at "rd"
      have ne : dd ≠ a := ne_of_none hx na
      have hx2 := (same_upd (o := ExK T.CT (some dd) a) na) _ _ hx
      refine .inl (.inr ⟨a, T.CT, some dd, rfl, upd_same, _, rfl, iteT ?_⟩)
      refine ⟨_, rfl, a, T.CT, dd, [("part", V.str z)], .str z, rfl, upd_same, T.xT, T.nT, hx2, rfl, ?_⟩
      exact k _ (same_upd na)
    · walk_at "rd"
      exact .inl (.inl ⟨_, _, _, _, false, rfl, .own _, .base .non, T.kT, _, rfl, iteF hq⟩)
end
end K03
end
section
set_option maxHeartbeats 4000000
namespace K03
open PySem PySem.Spec PyProof.Rows L2 G1 G2
local macro_rules | `(tactic| walk_at "rd") => `(tactic| simp only [tPar, tFmt, tJs, tM0, tM1, tSeq, tIfS, gName, gTup, gSub, gNil, gCons, List.cons.injEq, List.replicate_succ, tNot, tB, tRet, tC, tNext, tVar, tOp, tUn, tAnd, tOr, tAndV, tOrV, tNotV, tIf, tTest, tChain, tAsg, tCall, tCons, tNil, tCB, tDrop, tNever, tTup, tLst, tSl, tPart, tNoPart, tB, cx_K, cx_K', cx_w, cx_w', cx_mg', cx_P', cx_b', cx_mg, cx_P, cx_b, gUnl, Nat.reduceAdd, Nat.reduceSub, Nat.sub_self, Nat.zero_add, List.replicate_zero,
  rI, rI0, rU, rEq, rNe, L2.start, List.append_nil, List.cons_append, List.nil_append, List.map_cons, List.map_nil, List.length_cons, List.length_nil, List.getElem?_cons_zero, List.getElem?_cons_succ,
  List.replicate, List.set_cons_zero, List.set_cons_succ, exists_eq_left, exists_eq_left', exists_eq_right, exists_and_left, Option.some.injEq, V.bl.injEq, V.int.injEq, V.str.injEq, V.ref.injEq, true_and, and_true, if_true, if_false, Bool.false_eq_true, Bool.not_true, Bool.not_false, reduceIte, reduceCtorEq, ite_true, ite_false, decide_true, decide_false])
section
variable {P : Program} {w : World} {K : PySem.W.Frag} {mg : Str → Option Value} {base : Heap}
theorem at_ints {ls : List Int} {i : Nat} {x : V} (h : (ls.map V.int)[i]? = some x) : x = .int (ls.getD i 0) := by
  rw [List.getElem?_map] at h
  cases e : ls[i]? with
  | none =>
    rw [e] at h
    cases h
  | some y =>
    rw [e] at h
    cases h
    rw [List.getD_eq_getElem?_getD, e]
    rfl
theorem range_getD {α β : Type} (d : α) (g : α → β) (ls : List α) : (List.range ls.length).map (fun i => g (ls.getD i d)) = ls.map g := by
  apply List.ext_getElem?
  intro i
  rw [List.getElem?_map, List.getElem?_map]
  by_cases h : i < ls.length
  · rw [List.getElem?_range h, List.getElem?_eq_getElem h]
    show some (g (ls.getD i d)) = some (g ls[i])
    rw [List.getD_eq_getElem?_getD, List.getElem?_eq_getElem h]
    rfl
  · rw [show (List.range ls.length)[i]? = none from List.getElem?_eq_none (by rw [List.length_range]; omega), List.getElem?_eq_none (show ls.length ≤ i by omega)]
    rfl
theorem cut_ints (ns : List Int) : ∃ ms : List Int, cutV (ns.map V.int) none (some 63) = ms.map V.int ∧ ms.length ≤ 63 := by
  unfold cutV
  rw [HT.sIx_none, show (some (63 : Int)) = some ((63 : Nat) : Int) from rfl, HT.sIx_nat, List.drop_zero, Nat.sub_zero]
  refine ⟨ns.take (min 63 (ns.map V.int).length), by rw [List.map_take], ?_⟩
  rw [List.length_take]
  omega
def sp__law_trellis (K : PySem.W.Frag) : Sp := S1 fun x H Q => ∃ (l : Addr) (ns : List Int), x = .ref l ∧ SqL K H l (ns.map V.int) ∧ ns.length ≤ 1000 ∧ ∀ p H1, Same H H1 → (∃ c, ∃ ms : List Int, H1 p = some (.lst [.ref c, .int 0, .int 0]) ∧ H1 c = some (.lst (ms.map V.int)) ∧ c ≠ p ∧ ms.length ≤ 63) → Q (.ref p) H1
theorem ok__law_trellis (T : Txt w K mg) : FnG P w K mg base CX0 1 T.f__law_trellis T.fd__law_trellis ["_law_script"] (sp__law_trellis K) := by
  refine okG T.F__law_trellis sc__law_trellis S1_len (fun cdv A outer s H vs Q E hg hr h => ?_)
  obtain ⟨v0, rfl, h⟩ := h
  refine ⟨_, (pss_one (ps_ret (pe_lst (pa_cons (pe_lc (own := [("_law_cell", 1)]) (g := gName 1) rfl sc__law_trellis.nd (pi_list (pe_slice sl_list (pv 0) po_none (po_some pe_int))) (blkOk_by (own := [("_law_cell", 1)]) (N := ["_law_script", "_law_cell"]) (sc := defScope s__law_trellis) (by decide +kernel)) (fun _ _ _ _ _ => pg_name (i := 1) sc__law_trellis.nd rfl (Or.inl rfl)) (fun _ _ _ _ _ => pts_nil) (fun _ _ _ _ _ => (pe_callTy call_intI (by rfl) T.m_int (by decide +kernel) (pa_cons (pv 1) pa_nil)))) (pa_cons pe_int (pa_cons pe_int pa_nil)))))), ?_⟩
  obtain ⟨l, ns, rfl, hl, hn, q⟩ := h
  walk_at "rd"
  obtain ⟨ms, em, hm⟩ := cut_ints ns
  refine ⟨_, rfl, ⟨_, rfl, l, _, rfl, hl, fun r nr => ?_⟩⟩
  rw [em]
  have sr := same_upd (o := .lst (ms.map V.int)) nr
  refine ⟨r, rfl, ⟨_, .inl (.inl upd_same)⟩, fun D nD => ?_⟩
  refine lc_name (walk_list (xs := ms.map V.int)) (fun i => .int (ms.getD i 0)) (fun i => .int (ms.getD i 0)) (fun i H x H' hi _ y => ⟨y.1, at_ints y.2⟩) (by rw [List.length_map]; omega) nD (fun H5 s5 => .inl (.inl (s5 _ _ upd_same))) (fun i H5 R hi s5 hR => ?_) fun H5 s5 e5 => ?_
  · exact ⟨_, rfl, _, rfl, hR _ (Same.refl _)⟩
  · rw [List.length_map, range_getD 0 V.int] at e5
    refine ⟨by decide, fun p np => q p _ ((sr.trans s5).trans (same_upd np)) ⟨D, ms, upd_same, same_upd np _ _ e5, fun h => ?_, by omega⟩⟩
    rw [← h, e5] at np
    cases np
end
end K03
end
section
set_option maxHeartbeats 4000000
namespace K03D
open PySem PySem.Spec PyProof.Rows L2 G1 G2 DL K03
variable [TB]
local macro_rules | `(tactic| walk_at "dl") => `(tactic| simp (decide := true) only [dSlA, dSlO, dRev, dPop, dExt, dDelFrom, dCallH, daStar, dRep, dListZip, dDispN, dVals, dInDic, dGetDic, dInK, dIxK, dKget, dStrI, dSplit, dLeS, dRaiseI, dIsnB, dInSign, lookD, plusA_int, plusA_str, plusA_lst, plusA_tup, dVar, dVw, dC, dOp, dOpL, dUn, dCB, daNil, daCons, daOne, dCallP, dCallT, dTup, dLst, dFz, dSet, dSetO, dDrop, dRet, dRetF, dRetO, dCallTN, dRetN, dNext, dBreak, dCont, dSeq, dCut, dIfS, dFrz, dAsg, dPar, bindT, setsD, slotsT, dItL, dItT, dItS, dRng1, dRng2, dFor, dTst, dTru, dNot, dAnd, dOr, dAndV, dOrV, dNotV, dIfE, dLc, dYes, turnD, wipeD, restG, kp, dI0, dI, dNeg, dIsN, dNotN, dIsB, dLen, dIsi, isiTab, dInt, dAbs, dAll, dAny, dTupOf, dListOf, dNoPart, dPart, dSl, dSlL, dFmt, dJs, dM1, dStarts, dApp, dSetIx, dChain, dZip, dEnum, dSigns, dHeard, hideS, hideL, dLcN, dNbeg, dNend, dNcons, dNset, dNapp, dNpop, dDnew, dDisp1, dRaise, dRepr, dIn, flVs, kT_non, kT_bl, kT_int, kT_str, kT_lst, kT_tup, kT_dic, isN_non, isN_bl, isN_int, isN_str, isN_lst, isN_tup, isN_dic, lenD_lst, lenD_tup, lenD_str, it_lst, it_tup, fl_non, fl_bl, fl_int, fl_str, tru_non, tru_bl, tru_int, tru_lst, tru_tup, plus_int, plus_str, plus_lst, plus_tup, ix_lst, ix_tup', ix_str', qe_str, qn_str, qe_int, qn_int, qe_bl, qn_bl, at_0, at_1, at_2, at_l1, at_l2, at_l3, at_k2, at_k3, inV_nil, inV_cons, eqV_str, eqV_int, eqV_bl, Bool.or_false, Bool.or_true, Bool.true_or, Bool.false_or, Bool.and_true, Bool.and_false, decide_eq_true_eq, Bool.not_eq_true', decide_eq_false_iff_not, eq_self, ne_eq, not_true_eq_false, not_false_eq_true, 
  F1, F2, F3, F4, T1, T2, T3, T4, startD, List.append_nil, List.cons_append, List.nil_append, List.map_cons, List.map_nil, List.length_cons, List.length_nil, List.getElem?_cons_zero, List.getElem?_cons_succ, List.getElem?_nil, List.getD_cons_zero, List.getD_cons_succ, Nat.reduceAdd, Nat.reduceSub, Nat.zero_add, List.replicate, List.replicate_zero, List.replicate_succ, List.set_cons_zero, List.set_cons_succ, List.set_nil,
  exists_eq_left, exists_eq_left', exists_eq_right, exists_eq_right', exists_and_left, Option.some.injEq, Sl.da.injEq, Sl.ow.injEq, D.bl.injEq, D.int.injEq, D.str.injEq, D.tup.injEq, D.lst.injEq, D.ob.injEq, List.cons.injEq, and_true, true_and, and_assoc, if_true, if_false, reduceIte, reduceCtorEq, Bool.false_eq_true, Bool.not_true, Bool.not_false, decide_true, decide_false, false_and, and_false, exists_false, false_or, or_false, Option.bind_some, Option.map_some])

section
variable {P : Program} {w : World} {K : PySem.W.Frag} {mg : Str → Option Value} {base : Heap}
/-! ### checks -/
def g_is_list : FP := F1 fun x C _ => ∃ k, kindT x = some k ∧ C (.bl (k == "list" || k == "tuple"))
theorem ok_is_list (T : Txt w K mg) : FnG P w K mg base CX0 1 T.f_is_list T.fd_is_list ["value"] (spP K g_is_list) := by
  refine fnP0 T.F_is_list sc_is_list F1_len (fun tr O0 H0 Er cdv A outer s H E hgd hr =>
      (pss_one (ds_ret (ps_ret (de_isi2 rfl rfl (pe_callB call_isiT (by rfl) T.m_isinstance (by decide +kernel) (pa_cons (de_v (de_var (pv 0))) (pa_cons (pe_tup (pa_cons (pe_bltn (v := .ty "list") (by rfl) T.m_list (by decide +kernel) rfl) (pa_cons (pe_bltn (v := .ty "tuple") (by rfl) T.m_tuple (by decide +kernel) rfl) pa_nil))) pa_nil)))))))) ?_
  rintro ds C E ⟨x, rfl, k, hk, q⟩
  walk_at "dl"
  refine ⟨k, hk, ?_⟩
  rw [show (("list" : String) == "int") = false from rfl, show (("tuple" : String) == "int") = false from rfl, Bool.and_false, Bool.or_false, Bool.or_false]
  exact q
def g_is_integer : FP := F1 fun x C _ => ∃ k, kindT x = some k ∧ C (.bl (k == "int"))
theorem ok_is_integer (T : Txt w K mg) : FnG P w K mg base CX0 1 T.f_is_integer T.fd_is_integer ["value"] (spP K g_is_integer) := by
  refine fnP0 T.F_is_integer sc_is_integer F1_len (fun tr O0 H0 Er cdv A outer s H E hgd hr =>
      (pss_one (ds_ret (ps_ret (de_and (pe_and (de_isi1 rfl (pe_callB call_isi (by rfl) T.m_isinstance (by decide +kernel) (pa_cons (de_v (de_var (pv 0))) (pa_cons (pe_bltn (v := .ty "int") (by rfl) T.m_int (by decide +kernel) rfl) pa_nil)))) (pe_one (de_not (pe_not (de_isi1 rfl (pe_callB call_isi (by rfl) T.m_isinstance (by decide +kernel) (pa_cons (de_v (de_var (pv 0))) (pa_cons (pe_bltn (v := .ty "bool") (by rfl) T.m_bool (by decide +kernel) rfl) pa_nil))))))))))))) ?_
  rintro ds C E ⟨x, rfl, k, hk, q⟩
  walk_at "dl"
  refine ⟨k, hk, ?_⟩
  by_cases h : k = "int"
  · subst h
    rw [if_pos (by decide)]
    exact ⟨_, hk, q⟩
  · rw [beq_eq_false_iff_ne.mpr h] at q ⊢
    split
    · rename_i e
      refine ⟨k, hk, ?_⟩
      have e2 : (k == "bool") = true := by
        rw [Bool.false_or, Bool.and_eq_true] at e
        exact e.1
      rw [e2]
      exact q
    · exact q
/-- an integer, no truth, from a to b -/
def isw (x : D) (a b : Int) : Bool := match x with
  | .int i => decide (a ≤ i) && decide (i ≤ b)
  | _ => false
def g_is_within : FP := F3 fun x y z C _ => ∃ k a b, kindT x = some k ∧ y = .int a ∧ z = .int b ∧ C (.bl (isw x a b))
theorem ok_is_within (T : Txt w K mg) : FnG P w K mg base CX0 2 T.f_is_within T.fd_is_within ["value", "least", "most"] (spP K g_is_within) := by
  have K_is_integer := ok_is_integer (P := P) (w := w) (base := base) T
  refine fnP0 T.F_is_within sc_is_within F3_len (fun tr O0 H0 Er cdv A outer s H E hgd hr =>
      (dss_cons (pss_cons (ds_if (ps_if (dt_not (pt_not (dt_val (pt_val (de_callP (pe_callG K_is_integer hgd (hr.mono (by decide)) (by rfl) T.g_is_integer T.F_is_integer.kp T.b_is_integer .nil pass0 (da_cons (pa_cons (de_var (pv 0)) (da_nil pa_nil)))))))))
        (pss_one (ds_ret (ps_ret (de_bl pe_bl))))
        (dss_nil pss_nil)))
      (pss_one (ds_ret (ps_ret (de_and (pe_and (de_or (pe_or (de_op D_isN (pe_cmpR op_isN (de_var (pv 1)) (de_v (de_non pe_non)) (nomark _))) (pe_one (de_op D_ge (pe_cmpR op_ge (de_var (pv 0)) (de_v (de_var (pv 1))) (nomark _)))))) (pe_one (de_or (pe_or (de_op D_isN (pe_cmpR op_isN (de_var (pv 2)) (de_v (de_non pe_non)) (nomark _))) (pe_one (de_op D_le (pe_cmpR op_le (de_var (pv 0)) (de_v (de_var (pv 2))) (nomark _))))))))))))))) ?_
  rintro ds C E ⟨x, y, z, rfl, k, a, b, hk, rfl, rfl, q⟩
  walk_at "dl"
  refine ⟨_, rfl, k, hk, ?_⟩
  refine ⟨_, rfl, ?_⟩
  cases x <;> first | (cases hk; exact q) | (cases hk; done) | skip
  rename_i i
  cases hk
  refine (if_neg (by decide)).mpr ⟨_, rfl, ?_⟩
  have q : C (.bl (decide (a ≤ i) && decide (i ≤ b))) := q
  split
  · rename_i h
    rw [decide_eq_true h, Bool.true_and] at q
    exact ⟨_, rfl, q⟩
  · rename_i h
    rw [decide_eq_false h] at q
    exact q
def g_is_number : FP := F1 fun x C _ => ∃ k, kindT x = some k ∧ C (.bl (isw x (-2147483647) 2147483647))
theorem ok_is_number (T : Txt w K mg) : FnG P w K mg base CX0 3 T.f_is_number T.fd_is_number ["value"] (spP K g_is_number) := by
  have K_is_within := ok_is_within (P := P) (w := w) (base := base) T
  refine fnP0 T.F_is_number sc_is_number F1_len (fun tr O0 H0 Er cdv A outer s H E hgd hr =>
      (pss_one (ds_ret (ps_ret (de_callP (pe_callG K_is_within hgd (hr.mono (by decide)) (by rfl) T.g_is_within T.F_is_within.kp T.b_is_within .nil pass0 (da_cons (pa_cons (de_var (pv 0)) (da_cons (pa_cons (de_un D_neg (pe_un un_neg (de_v (de_int (C8.pe_gc (by rfl) T.c_GREATEST_NUMBER))))) (da_cons (pa_cons (de_int (C8.pe_gc (by rfl) T.c_GREATEST_NUMBER)) (da_nil pa_nil))))))))))))) ?_
  rintro ds C E ⟨x, rfl, k, hk, q⟩
  walk_at "dl"
  exact ⟨_, _, _, rfl, k, _, _, hk, rfl, rfl, q⟩
def g_are_integers : FP := F3 fun x y z C _ => x = .lst [] ∧ y = .int 0 ∧ z = .non ∧ C (.bl true)
theorem ok_are_integers (T : Txt w K mg) : FnG P w K mg base CX0 3 T.f_are_integers T.fd_are_integers ["value", "least", "most"] (spP K g_are_integers) := by
  have K_is_list := ok_is_list (P := P) (w := w) (base := base) T
  have K_is_within := ok_is_within (P := P) (w := w) (base := base) T
  refine fnP0 T.F_are_integers sc_are_integers F3_len (fun tr O0 H0 Er cdv A outer s H E hgd hr =>
      (pss_one (ds_ret (ps_ret (de_and (pe_and (de_callP (pe_callG K_is_list hgd (hr.mono (by decide)) (by rfl) T.g_is_list T.F_is_list.kp T.b_is_list .nil pass0 (da_cons (pa_cons (de_var (pv 0)) (da_nil pa_nil))))) (pe_one (de_cb D_all (pe_callB (cr_all rfl) (by rfl) T.m_all (by decide +kernel) (da_one (pa_cons (de_v (de_fz (de_lc (tg := (.nm 3)) (pe_lc (own := [("one", 3)]) rfl sc_are_integers.nd (di_seq (pi_seqA (de_var (pv 0)))) (blkOk_by (own := [("one", 3)]) (N := ["value", "least", "most", "one"]) (sc := defScope s_are_integers) (by decide +kernel)) (fun _ _ _ _ _ => (pg_name (i := 3) sc_are_integers.nd rfl (Or.inl rfl))) (fun _ _ _ _ _ => (dts_yes pts_nil)) (fun _ _ _ _ _ => (de_callP (pe_callG K_is_within hgd (hr.mono (by decide)) (by rfl) T.g_is_within T.F_is_within.kp T.b_is_within .nil pass0 (da_cons (pa_cons (de_var (pv 3)) (da_cons (pa_cons (de_var (pv 1)) (da_cons (pa_cons (de_var (pv 2)) (da_nil pa_nil)))))))))))))) pa_nil))))))))))) ?_
  rintro ds C E ⟨x, y, z, rfl, rfl, rfl, rfl, q⟩
  walk_at "dl"
  refine ⟨_, rfl, _, rfl, _, rfl, ?_⟩
  rw [if_pos (by decide)]
  exact ⟨_, rfl, q⟩
/-! ### spellings -/
def letter (c : Nat) : Bool := decide (c ∈ ("abcdefghijklmnopqrstuvwxyz" : Str).cps.toList)
def digit (c : Nat) : Bool := decide (c ∈ ("0123456789" : Str).cps.toList)
def isSp (z : Str) : Bool := decide (1 ≤ z.length) && decide (z.length ≤ 8) && letter (z.cps[0]!) && z.cps.toList.all fun c => letter c || digit c
theorem len1000 {z : Str} (h : z.length ≤ 1000) : lenD (.str z) = some z.length := if_pos (Nat.le_trans h (by decide))
def spD : D → Bool
  | .str z => isSp z
  | _ => false
def nmD (x : D) : Bool := spD x && match x with
  | .str z => !decide (z ∈ noN)
  | _ => false
theorem fT {A B : Prop} (h : A) : if (false : Bool) = false then A else B := (if_pos rfl).mpr h
theorem fF {A B : Prop} (h : B) : if (true : Bool) = false then A else B := (if_neg (by decide)).mpr h
def shortD : D → Prop
  | .str z => z.length ≤ 1000
  | _ => True
theorem bls_map {α : Type} (f : α → Bool) : ∀ as : List α, blsD (as.map fun a => .bl (f a)) = some (as.map f)
  | [] => rfl
  | a :: as => by
    show (blsD (as.map fun a => .bl (f a))).map _ = _
    rw [bls_map f as]
    rfl
def g_is_spelling : FP := F1 fun x C _ => ∃ k, kindT x = some k ∧ shortD x ∧ C (.bl (spD x))
theorem ok_is_spelling (T : Txt w K mg) : FnG P w K mg base CX0 1 T.f_is_spelling T.fd_is_spelling ["value"] (spP K g_is_spelling) := by
  refine fnP0 T.F_is_spelling sc_is_spelling F1_len (fun tr O0 H0 Er cdv A outer s H E hgd hr =>
      (dss_cons (pss_cons (ds_if (ps_if (PW.pt (dw_or (pw_or (dt_not (pt_not (dt_val (pt_val (de_isi1 rfl (pe_callB call_isi (by rfl) T.m_isinstance (by decide +kernel) (pa_cons (de_v (de_var (pv 0))) (pa_cons (pe_bltn (v := .ty "str") (by rfl) T.m_str (by decide +kernel) rfl) pa_nil)))))))) (dw_or (pw_or (dt_not (pt_not (dt_chain D_le D_le (pt_chain op_le op_le (de_int pe_int) (de_cb D_len (pe_callB call_lenA (by rfl) T.m_len (by decide +kernel) (da_one (pa_cons (de_v (de_var (pv 0))) pa_nil)))) (de_int pe_int))))) (pw_or1 (dt_cmp D_notInSign (pt_cmpR op_notIn_sign (de_op D_ix (pe_ix ix_seq (de_var (pv 0)) (de_v (de_int pe_int)) (fun _ _ => rfl))) (de_v (de_str (C8.pe_gc (by rfl) T.c_LETTERS))) rfl))))))))
        (pss_one (ds_ret (ps_ret (de_bl pe_bl))))
        (dss_nil pss_nil)))
      (pss_one (ds_ret (ps_ret (de_cb D_all (pe_callB (cr_all rfl) (by rfl) T.m_all (by decide +kernel) (da_one (pa_cons (de_v (de_fz (de_lc (tg := (.nm 1)) (pe_lc (own := [("sign", 1)]) rfl sc_is_spelling.nd (di_signs (pi_str (de_var (pv 0)))) (blkOk_by (own := [("sign", 1)]) (N := ["value", "sign"]) (sc := defScope s_is_spelling) (by decide +kernel)) (fun _ _ _ _ _ => (pg_name (i := 1) sc_is_spelling.nd rfl (Or.inl rfl))) (fun _ _ _ _ _ => (dts_yes pts_nil)) (fun _ _ _ _ _ => (de_or (pe_or (de_op D_inSign (pe_cmpR op_in_sign (de_var (pv 1)) (de_v (de_str (C8.pe_gc (by rfl) T.c_LETTERS))) rfl)) (pe_one (de_op D_inSign (pe_cmpR op_in_sign (de_var (pv 1)) (de_v (de_str (C8.pe_gc (by rfl) T.c_DIGITS))) rfl)))))))))) pa_nil)))))))))) ?_
  rintro ds C E ⟨x, rfl, k, hk, hs, q⟩
  walk_at "dl"
  refine ⟨k, hk, ?_⟩
  cases x <;> first | (cases hk; exact (if_pos rfl).mpr q) | (cases hk; done) | skip
  rename_i z
  cases hk
  refine (if_neg (by decide)).mpr ⟨_, len1000 hs, ?_⟩
  have q : C (.bl (isSp z)) := q
  unfold isSp at q
  split
  rotate_left
  · rename_i h
    rw [decide_eq_false (by omega), Bool.false_and, Bool.false_and, Bool.false_and] at q
    exact q
  rename_i h1
  rw [decide_eq_true (show 1 ≤ z.length by omega), Bool.true_and] at q
  split
  · rename_i h
    rw [decide_eq_false (by omega), Bool.false_and, Bool.false_and] at q
    exact q
  rename_i h2
  rw [decide_eq_true (show z.length ≤ 8 by omega), Bool.true_and] at q
  have hz : 0 < z.cps.size := by have : z.length = z.cps.size := rfl; omega
  have e0 : z.cps[0]! = z.cps[0] := getElem!_pos z.cps 0 hz
  rw [e0] at q
  refine ix_str'.mpr ⟨Nat.le_trans hs (by decide), z.cps[0], ?_, z.cps[0], rfl, ?_⟩
  · exact at_nat (k := 0) (by rw [List.getElem?_eq_getElem (by exact hz)]; rfl)
  split
  · rename_i h
    have e : letter z.cps[0] = false := decide_eq_false h
    rw [e, Bool.false_and] at q
    exact q
  rename_i h
  have e : letter z.cps[0] = true := decide_eq_true (Decidable.not_not.mp h)
  rw [e, Bool.true_and] at q
  refine ⟨z, rfl, ?_, ?_⟩
  · unfold signsD
    rw [List.length_map]
    exact Nat.le_trans hs (by decide)
  refine lcD_each (fun c : Nat => .str ⟨#[c]⟩) (fun c => .bl (letter c || digit c)) z.cps.toList (fun c _ Kt hk => ?_) ?_
  · unfold turnD
    walk_at "dl"
    refine ⟨c, rfl, ?_⟩
    split
    · rename_i h
      have e : letter c = true := decide_eq_true h
      rw [e, Bool.true_or] at hk
      exact hk
    · rename_i h
      have e : letter c = false := decide_eq_false h
      rw [e, Bool.false_or] at hk
      exact ⟨c, rfl, hk⟩
  · refine ⟨_, bls_map _ _, ?_⟩
    rw [List.all_map]
    exact q
def g_is_name : FP := F1 fun x C _ => ∃ k, kindT x = some k ∧ shortD x ∧ C (.bl (nmD x))
theorem ok_is_name (T : Txt w K mg) : FnG P w K mg base CX0 2 T.f_is_name T.fd_is_name ["value"] (spP K g_is_name) := by
  have K_is_spelling := ok_is_spelling (P := P) (w := w) (base := base) T
  refine fnP0 T.F_is_name sc_is_name F1_len (fun tr O0 H0 Er cdv A outer s H E hgd hr =>
      (pss_one (ds_ret (ps_ret (de_and (pe_and (de_callP (pe_callG K_is_spelling hgd (hr.mono (by decide)) (by rfl) T.g_is_spelling T.F_is_spelling.kp T.b_is_spelling .nil pass0 (da_cons (pa_cons (de_var (pv 0)) (da_nil pa_nil))))) (pe_one (de_op (D_in true) (pe_cmpR op_notIn_seq (de_var (pv 0)) (de_v (de_k (C8.pe_gc (by rfl) T.c_NO_NAMES) T.r_NO_NAMES)) rfl))))))))) ?_
  rintro ds C E ⟨x, rfl, k, hk, hs, q⟩
  walk_at "dl"
  refine ⟨_, rfl, k, hk, hs, _, rfl, ?_⟩
  unfold nmD at q
  split
  · rename_i e
    cases x <;> try cases e
    rename_i z
    have q : C (.bl (isSp z && !decide (z ∈ noN))) := q
    have e2 : isSp z = true := e
    rw [e2, Bool.true_and] at q
    refine ⟨_, rfl, _, rfl, ?_⟩
    have e3 : inV (V.str z) ((fun vs => V.str "true" :: vs) ((fun vs => V.str "false" :: vs) [])) = decide (z ∈ noN) := by
      show (inV (V.str z) [V.str "true", V.str "false"]) = _
      rw [inV_cons, inV_cons, inV_nil, eqV_str, eqV_str, Bool.or_false]
      unfold noN
      simp only [List.mem_cons, List.not_mem_nil, or_false, eq_comm (a := z)]
      by_cases h1 : ("true" : Str) = z <;> by_cases h2 : ("false" : Str) = z <;> simp [h1, h2]
    rw [e3]
    exact q
  · rename_i e
    rw [Bool.not_eq_true] at e
    rw [e, Bool.false_and] at q
    exact q
end
end K03D
end
section
set_option maxHeartbeats 4000000
namespace K03D
open PySem PySem.Spec PyProof.Rows L2 G1 G2 DL K03
variable [TB]
local macro_rules | `(tactic| walk_at "dl") => `(tactic| simp (decide := true) only [dSlA, dSlO, dRev, dPop, dExt, dDelFrom, dCallH, daStar, dRep, dListZip, dDispN, dVals, dInDic, dGetDic, dInK, dIxK, dKget, dStrI, dSplit, dLeS, dRaiseI, dIsnB, dInSign, lookD, plusA_int, plusA_str, plusA_lst, plusA_tup, dVar, dVw, dC, dOp, dOpL, dUn, dCB, daNil, daCons, daOne, dCallP, dCallT, dTup, dLst, dFz, dSet, dSetO, dDrop, dRet, dRetF, dRetO, dCallTN, dRetN, dNext, dBreak, dCont, dSeq, dCut, dIfS, dFrz, dAsg, dPar, bindT, setsD, slotsT, dItL, dItT, dItS, dRng1, dRng2, dFor, dTst, dTru, dNot, dAnd, dOr, dAndV, dOrV, dNotV, dIfE, dLc, dYes, turnD, wipeD, restG, kp, dI0, dI, dNeg, dIsN, dNotN, dIsB, dLen, dIsi, isiTab, dInt, dAbs, dAll, dAny, dTupOf, dListOf, dNoPart, dPart, dSl, dSlL, dFmt, dJs, dM1, dStarts, dApp, dSetIx, dChain, dZip, dEnum, dSigns, dHeard, hideS, hideL, dLcN, dNbeg, dNend, dNcons, dNset, dNapp, dNpop, dDnew, dDisp1, dRaise, dRepr, dIn, flVs, kT_non, kT_bl, kT_int, kT_str, kT_lst, kT_tup, kT_dic, isN_non, isN_bl, isN_int, isN_str, isN_lst, isN_tup, isN_dic, lenD_lst, lenD_tup, lenD_str, it_lst, it_tup, fl_non, fl_bl, fl_int, fl_str, tru_non, tru_bl, tru_int, tru_lst, tru_tup, plus_int, plus_str, plus_lst, plus_tup, ix_lst, ix_tup', ix_str', qe_str, qn_str, qe_int, qn_int, qe_bl, qn_bl, at_0, at_1, at_2, at_l1, at_l2, at_l3, at_k2, at_k3, inV_nil, inV_cons, eqV_str, eqV_int, eqV_bl, Bool.or_false, Bool.or_true, Bool.true_or, Bool.false_or, Bool.and_true, Bool.and_false, decide_eq_true_eq, Bool.not_eq_true', decide_eq_false_iff_not, eq_self, ne_eq, not_true_eq_false, not_false_eq_true, 
  F1, F2, F3, F4, T1, T2, T3, T4, startD, List.append_nil, List.cons_append, List.nil_append, List.map_cons, List.map_nil, List.length_cons, List.length_nil, List.getElem?_cons_zero, List.getElem?_cons_succ, List.getElem?_nil, List.getD_cons_zero, List.getD_cons_succ, Nat.reduceAdd, Nat.reduceSub, Nat.zero_add, List.replicate, List.replicate_zero, List.replicate_succ, List.set_cons_zero, List.set_cons_succ, List.set_nil,
  exists_eq_left, exists_eq_left', exists_eq_right, exists_eq_right', exists_and_left, Option.some.injEq, Sl.da.injEq, Sl.ow.injEq, D.bl.injEq, D.int.injEq, D.str.injEq, D.tup.injEq, D.lst.injEq, D.ob.injEq, List.cons.injEq, and_true, true_and, and_assoc, if_true, if_false, reduceIte, reduceCtorEq, Bool.false_eq_true, Bool.not_true, Bool.not_false, decide_true, decide_false, false_and, and_false, exists_false, false_or, or_false, Option.bind_some, Option.map_some])

/-! ### labels -/
def shI (z : Str) : Option Int := match shiftOf z with
  | .int i => some i
  | _ => none
def shp (z : Str) : Option (Str × List Str) := if (shI z).isSome then some ("word", ["word"]) else lookT shapesT z
def its (z : Str) : List Str := Txt.split z " "
def cal (z : Str) : Option (Str × Str × Str) := match its z with
  | [a, b, c] => if (decide (a ∈ [("call" : Str), "loop"]) && isSp b && decide (c ∈ resN)) = true then some (a, b, c) else none
  | _ => none
def labOk (z : Str) : Bool := readS z && decide (z.length ≤ 100) && (its z).all fun y => decide (y.length ≤ 100)
theorem labs_ok : ∀ z ∈ labs, labOk z = true := by decide +kernel
theorem lab_len {z : Str} (h : z ∈ labs) : z.length ≤ 100 := by
  have := labs_ok z h
  unfold labOk at this
  rw [Bool.and_eq_true, Bool.and_eq_true] at this
  exact of_decide_eq_true this.1.2
theorem lab_read {z : Str} (h : z ∈ labs) : readS z = true := by
  have := labs_ok z h
  unfold labOk at this
  rw [Bool.and_eq_true, Bool.and_eq_true] at this
  exact this.1.1
theorem lab_its {z : Str} (h : z ∈ labs) : ∀ y ∈ its z, y.length ≤ 100 := fun y hy => by
  have := labs_ok z h
  unfold labOk at this
  rw [Bool.and_eq_true, Bool.and_eq_true] at this
  exact of_decide_eq_true (List.all_eq_true.mp this.2 y hy)
theorem resN_int : ∀ c ∈ resN, c.length ≤ 640 ∧ ∃ n, PySem.intText? c = some n := by
  have h : ∀ c ∈ resN, (decide (c.length ≤ 640) && (PySem.intText? c).isSome) = true := by decide +kernel
  intro c hc
  have := h c hc
  rw [Bool.and_eq_true] at this
  exact ⟨of_decide_eq_true this.1, Option.isSome_iff_exists.mp this.2⟩
theorem flVs_strs : ∀ L : List Str, flVs (L.map D.str) = some (L.map V.str)
  | [] => rfl
  | a :: L => by
    show ((flV (.str a)).bind fun v => (flVs (L.map D.str)).map fun vs => v :: vs) = _
    rw [flVs_strs L]
    rfl
theorem inV_strs (a : Str) : ∀ L : List Str, inV (V.str a) (L.map V.str) = decide (a ∈ L)
  | [] => rfl
  | b :: L => by
    rw [List.map_cons, inV_cons, eqV_str, inV_strs a L]
    by_cases h : b = a
    · subst h
      simp
    · have h' : ¬ a = b := fun z => h z.symm
      by_cases h2 : a ∈ L <;> simp [h, h', h2]
section
variable {P : Program} {w : World} {K : PySem.W.Frag} {mg : Str → Option Value} {base : Heap}
theorem aft_same {O : Ow} {H H1 : Hp} (sm : Same H H1) : Aft none O H O H1 := ⟨SameX.of sm, fun _ _ e => e⟩
def optI : Option Int → D
  | some i => .int i
  | none => .non
def g_shift_of : FP := F1 fun x C _ => ∃ z, x = .str z ∧ z ∈ labs ∧ C (optI (shI z))
theorem dk_shift_of (T : Txt w K mg) : FnG P w K mg base CX0 3 T.f_shift_of T.fd_shift_of ["label"] (spP K g_shift_of) := (K03.ok_shift_of (P := P) (base := base) T).imp fun vs H Q E ⟨O, ds, C, Er, r, ⟨x, e, z, e2, hz, hc⟩, _, hq⟩ => by
  subst e e2
  obtain ⟨v, _, rfl, r, rfl⟩ := r
  cases r
  refine ⟨_, rfl, z, rfl, lab_read hz, fun H1 sm => ?_⟩
  unfold shI at hc
  have k : shiftOf z = .non ∨ ∃ i, shiftOf z = .int i := by
    unfold shiftOf
    split
    · split
      · split
        · exact .inr ⟨_, rfl⟩
        · exact .inl rfl
      · exact .inl rfl
    · exact .inl rfl
  rcases k with k | ⟨i, k⟩
  · rw [k] at hc ⊢
    exact hq .non _ _ _ (aft_same sm) rfl hc
  · rw [k] at hc ⊢
    exact hq (.int i) _ _ _ (aft_same sm) rfl hc
def shapeR : Option (Str × List Str) → D
  | none => .non
  | some p => .tup [.str p.1, .tup (p.2.map D.str)]
def g_shape_of : FP := F1 fun x C _ => ∃ z, x = .str z ∧ z ∈ labs ∧ C (shapeR (shp z))
theorem ok_shape_of (T : Txt w K mg) : FnG P w K mg base CX0 4 T.f_shape_of T.fd_shape_of ["label"] (spP K g_shape_of) := by
  have K_shift_of := dk_shift_of (P := P) (w := w) (base := base) T
  refine fnP0 T.F_shape_of sc_shape_of F1_len (fun tr O0 H0 Er cdv A outer s H E hgd hr =>
      (dss_cons (pss_cons (ds_if (ps_if (dt_not (pt_not (dt_val (pt_val (de_isi1 rfl (pe_callB call_isi (by rfl) T.m_isinstance (by decide +kernel) (pa_cons (de_v (de_var (pv 0))) (pa_cons (pe_bltn (v := .ty "str") (by rfl) T.m_str (by decide +kernel) rfl) pa_nil))))))))
        (pss_one (ds_ret (ps_ret (de_non pe_non))))
        (dss_nil pss_nil)))
      (dss_cons (pss_cons (ds_if (ps_if (dt_cmp D_notN (pt_cmpR op_notN (de_callP (pe_callG K_shift_of hgd (hr.mono (by decide)) (by rfl) T.g_shift_of T.F_shift_of.kp T.b_shift_of .nil pass0 (da_cons (pa_cons (de_var (pv 0)) (da_nil pa_nil))))) (de_v (de_non pe_non)) (nomark _)))
        (pss_one (ds_ret (ps_ret (de_tup (pe_tup (da_cons (pa_cons (de_str pe_str) (da_cons (pa_cons (de_tup (pe_tup (da_cons (pa_cons (de_str pe_str) (da_nil pa_nil))))) (da_nil pa_nil))))))))))
        (dss_nil pss_nil)))
      (pss_one (ds_ret (ps_ret (de_kget T.t_SHAPES (pe_kget (de_ob (C8.pe_gc (by rfl) T.c_SHAPES)) (de_var (pv 0)) ⟨by rfl, by rfl, by rfl, by rfl⟩)))))))))) ?_
  rintro ds C E ⟨x, rfl, z, rfl, hz, q⟩
  walk_at "dl"
  refine ⟨_, rfl, z, rfl, hz, ?_⟩
  unfold shp at q
  cases e : shI z with
  | some i =>
    rw [e, if_pos (show (some i).isSome = true from rfl)] at q
    exact ⟨_, rfl, (if_pos rfl).mpr q⟩
  | none =>
    rw [e, if_neg (show ¬ (none : Option Int).isSome = true by decide)] at q
    refine ⟨_, rfl, (if_neg (by decide)).mpr ⟨hz, ?_⟩⟩
    unfold shapeTab
    cases e2 : lookT shapesT z with
    | none =>
      rw [e2] at q
      exact q
    | some p =>
      rw [e2] at q
      exact q
def g_called : FP := F1 fun x C _ => ∃ z, x = .str z ∧ z ∈ labs ∧ ((cal z = none ∧ C .non) ∨ ∃ a b c, cal z = some (a, b, c) ∧ ∀ n : Int, C (.tup [.str a, .str b, .int n]))
theorem ok_called (T : Txt w K mg) : FnG P w K mg base CX0 2 T.f_called T.fd_called ["label"] (spP K g_called) := by
  have K_is_spelling := ok_is_spelling (P := P) (w := w) (base := base) T
  refine fnP0 T.F_called sc_called F1_len (fun tr O0 H0 Er cdv A outer s H E hgd hr =>
      (dss_cons (pss_cons (ds_set (ps_set (i := 1) sc_called.nd rfl (.inl rfl) (de_m1 D_split (pe_m1 PySem.F.slot_str_split PySem.F.type_str_split mt_split (de_var (pv 0)) (de_str pe_str)))))
      (dss_cons (pss_cons (ds_if (ps_if (PW.pt (dw_or (pw_or (dt_cmp D_ne (pt_cmpR (op_neA hr.units) (de_cb D_len (pe_callB call_lenA (by rfl) T.m_len (by decide +kernel) (da_one (pa_cons (de_v (de_var (pv 1))) pa_nil)))) (de_v (de_int pe_int)) (nomark _))) (pw_or1 (dt_cmp (D_in true) (pt_cmpR op_notIn_seq (de_op D_ix (pe_ix ix_seq (de_var (pv 1)) (de_v (de_int pe_int)) (fun _ _ => rfl))) (de_v (de_tup (pe_tup (da_cons (pa_cons (de_str pe_str) (da_cons (pa_cons (de_str pe_str) (da_nil pa_nil)))))))) rfl))))))
        (pss_one (ds_ret (ps_ret (de_non pe_non))))
        (dss_nil pss_nil)))
      (dss_cons (pss_cons (ds_if (ps_if (PW.pt (dw_or (pw_or (dt_not (pt_not (dt_val (pt_val (de_callP (pe_callG K_is_spelling hgd (hr.mono (by decide)) (by rfl) T.g_is_spelling T.F_is_spelling.kp T.b_is_spelling .nil pass0 (da_cons (pa_cons (de_op D_ix (pe_ix ix_seq (de_var (pv 1)) (de_v (de_int pe_int)) (fun _ _ => rfl))) (da_nil pa_nil))))))))) (pw_or1 (dt_cmp (D_in true) (pt_cmpR op_notIn_seq (de_op D_ix (pe_ix ix_seq (de_var (pv 1)) (de_v (de_int pe_int)) (fun _ _ => rfl))) (de_v (de_k (C8.pe_gc (by rfl) T.c_RESULT_NUMBERS) T.r_RESULT_NUMBERS)) rfl))))))
        (pss_one (ds_ret (ps_ret (de_non pe_non))))
        (dss_nil pss_nil)))
      (pss_one (ds_ret (ps_ret (de_tup (pe_tup (da_cons (pa_cons (de_op D_ix (pe_ix ix_seq (de_var (pv 1)) (de_v (de_int pe_int)) (fun _ _ => rfl))) (da_cons (pa_cons (de_op D_ix (pe_ix ix_seq (de_var (pv 1)) (de_v (de_int pe_int)) (fun _ _ => rfl))) (da_cons (pa_cons (de_cb D_int (pe_callTy call_intA (by rfl) T.m_int (by decide +kernel) (da_one (pa_cons (de_v (de_op D_ix (pe_ix ix_seq (de_var (pv 1)) (de_v (de_int pe_int)) (fun _ _ => rfl)))) pa_nil)))) (da_nil pa_nil))))))))))))))))))) ?_
  rintro ds C E ⟨x, rfl, z, rfl, hz, q⟩
  walk_at "dl"
  refine ⟨Nat.le_trans (Nat.add_le_add_right (lab_len hz) 2) (by decide), ?_⟩
  have hs := lab_its hz
  unfold cal at q
  rw [show Txt.split z (Str.ofString " ") = its z from rfl]
  generalize its z = L at *
  match L, hs, q with
  | [], _, q | [_], _, q | [_, _], _, q | _ :: _ :: _ :: _ :: _, _, q =>
    refine (if_pos ?_).mpr ?_
    · simp
      try omega
    · rcases q with ⟨_, q⟩ | ⟨_, _, _, e, _⟩
      · exact q
      · cases e
  | [a, b, c], hs, q =>
    refine (if_neg (by simp)).mpr ⟨_, at_0, _, rfl, ?_⟩
    have e1 : (eqV (V.str (Str.ofString "call")) (V.str a) || eqV (V.str (Str.ofString "loop")) (V.str a)) = decide (a ∈ [("call" : Str), "loop"]) := by
      rw [← inV_strs]
      show _ = inV (V.str a) [V.str "call", V.str "loop"]
      rw [inV_cons, inV_cons, inV_nil, Bool.or_false]
    simp only [] at q
    rw [e1]
    cases h1 : decide (a ∈ [("call" : Str), "loop"]) with
    | false =>
      rw [h1] at q
      rcases q with ⟨_, q⟩ | ⟨_, _, _, e, _⟩
      · exact q
      · cases e
    | true =>
      refine (if_neg (by decide)).mpr ⟨_, at_1, _, rfl, _, rfl, by show b.length ≤ 1000; have := hs b (by simp); omega, _, rfl, ?_⟩
      rw [h1, Bool.true_and] at q
      show if isSp b = false then _ else _
      cases h2 : isSp b with
      | false =>
        rw [h2] at q
        rcases q with ⟨_, q⟩ | ⟨_, _, _, e, _⟩
        · exact (if_pos rfl).mpr q
        · cases e
      | true =>
        refine (if_neg (by decide)).mpr ⟨_, at_2, _, rfl, _, flVs_strs _, ?_⟩
        rw [inV_strs]
        rw [h2, Bool.true_and] at q
        cases h3 : decide (c ∈ resN) with
        | false =>
          rw [h3] at q
          rcases q with ⟨_, q⟩ | ⟨_, _, _, e, _⟩
          · exact (if_pos rfl).mpr q
          · cases e
        | true =>
          rw [h3, if_pos rfl] at q
          obtain ⟨hl, n, hn⟩ := resN_int c (of_decide_eq_true h3)
          refine (if_neg (by decide)).mpr ⟨_, at_0, _, at_1, _, at_2, .inr (.inr ⟨c, rfl, n, hn, hl, ?_⟩)⟩
          rcases q with ⟨e, q⟩ | ⟨_, _, _, e, q⟩
          · cases e
          · cases e
            exact q n
def loB (a : Str) : Nat := if a = "loop" then 2 else 0
def hiB (a : Str) : Nat := if a = "loop" then 7 else 6
def g_bounds_of : FP := F1 fun x C _ => ∃ a, x = .str a ∧ C (.tup [.int (loB a : Nat), .int (hiB a : Nat)])
theorem ok_bounds_of (T : Txt w K mg) : FnG P w K mg base CX0 1 T.f_bounds_of T.fd_bounds_of ["first"] (spP K g_bounds_of) := by
  refine fnP0 T.F_bounds_of sc_bounds_of F1_len (fun tr O0 H0 Er cdv A outer s H E hgd hr =>
      (pss_one (ds_ret (ps_ret (de_ife (pe_ifExp (dt_cmp D_eq (pt_cmpR (op_eqA hr.units) (de_var (pv 0)) (de_v (de_str pe_str)) (nomark _))) (de_tup (pe_tup (da_cons (pa_cons (de_int pe_int) (da_cons (pa_cons (de_op D_plusA (pe_op op_plusA (de_int (C8.pe_gc (by rfl) T.c_MOST_PARTS)) (de_v (de_int pe_int)))) (da_nil pa_nil))))))) (de_tup (pe_tup (da_cons (pa_cons (de_int pe_int) (da_cons (pa_cons (de_int (C8.pe_gc (by rfl) T.c_MOST_PARTS)) (da_nil pa_nil))))))))))))) ?_
  rintro ds C E ⟨x, rfl, a, rfl, q⟩
  walk_at "dl"
  unfold loB hiB at q
  split
  · rename_i h
    rw [if_pos h, if_pos h] at q
    exact q
  · rename_i h
    rw [if_neg h, if_neg h] at q
    exact q
end
end K03D
end
section
set_option maxHeartbeats 4000000
namespace K03D
open PySem PySem.Spec PyProof.Rows L2 G1 G2 DL K03
variable [TB]
local macro_rules | `(tactic| walk_at "dl") => `(tactic| simp (decide := true) only [dSlA, dSlO, dRev, dPop, dExt, dDelFrom, dCallH, daStar, dRep, dListZip, dDispN, dVals, dInDic, dGetDic, dInK, dIxK, dKget, dStrI, dSplit, dLeS, dRaiseI, dIsnB, dInSign, lookD, plusA_int, plusA_str, plusA_lst, plusA_tup, dVar, dVw, dC, dOp, dOpL, dUn, dCB, daNil, daCons, daOne, dCallP, dCallT, dTup, dLst, dFz, dSet, dSetO, dDrop, dRet, dRetF, dRetO, dCallTN, dRetN, dNext, dBreak, dCont, dSeq, dCut, dIfS, dFrz, dAsg, dPar, bindT, setsD, slotsT, dItL, dItT, dItS, dRng1, dRng2, dFor, dTst, dTru, dNot, dAnd, dOr, dAndV, dOrV, dNotV, dIfE, dLc, dYes, turnD, wipeD, restG, kp, dI0, dI, dNeg, dIsN, dNotN, dIsB, dLen, dIsi, isiTab, dInt, dAbs, dAll, dAny, dTupOf, dListOf, dNoPart, dPart, dSl, dSlL, dFmt, dJs, dM1, dStarts, dApp, dSetIx, dChain, dZip, dEnum, dSigns, dHeard, hideS, hideL, dLcN, dNbeg, dNend, dNcons, dNset, dNapp, dNpop, dDnew, dDisp1, dRaise, dRepr, dIn, flVs, kT_non, kT_bl, kT_int, kT_str, kT_lst, kT_tup, kT_dic, isN_non, isN_bl, isN_int, isN_str, isN_lst, isN_tup, isN_dic, lenD_lst, lenD_tup, lenD_str, it_lst, it_tup, fl_non, fl_bl, fl_int, fl_str, tru_non, tru_bl, tru_int, tru_lst, tru_tup, plus_int, plus_str, plus_lst, plus_tup, ix_lst, ix_tup', ix_str', qe_str, qn_str, qe_int, qn_int, qe_bl, qn_bl, at_0, at_1, at_2, at_l1, at_l2, at_l3, at_k2, at_k3, inV_nil, inV_cons, eqV_str, eqV_int, eqV_bl, Bool.or_false, Bool.or_true, Bool.true_or, Bool.false_or, Bool.and_true, Bool.and_false, decide_eq_true_eq, Bool.not_eq_true', decide_eq_false_iff_not, eq_self, ne_eq, not_true_eq_false, not_false_eq_true, 
  F1, F2, F3, F4, T1, T2, T3, T4, startD, List.append_nil, List.cons_append, List.nil_append, List.map_cons, List.map_nil, List.length_cons, List.length_nil, List.getElem?_cons_zero, List.getElem?_cons_succ, List.getElem?_nil, List.getD_cons_zero, List.getD_cons_succ, Nat.reduceAdd, Nat.reduceSub, Nat.zero_add, List.replicate, List.replicate_zero, List.replicate_succ, List.set_cons_zero, List.set_cons_succ, List.set_nil,
  exists_eq_left, exists_eq_left', exists_eq_right, exists_eq_right', exists_and_left, Option.some.injEq, Sl.da.injEq, Sl.ow.injEq, D.bl.injEq, D.int.injEq, D.str.injEq, D.tup.injEq, D.lst.injEq, D.ob.injEq, List.cons.injEq, and_true, true_and, and_assoc, if_true, if_false, reduceIte, reduceCtorEq, Bool.false_eq_true, Bool.not_true, Bool.not_false, decide_true, decide_false, false_and, and_false, exists_false, false_or, or_false, Option.bind_some, Option.map_some])

/-! ### values in play -/
mutual
def gdB : D → Bool
  | .non => true
  | .bl _ => true
  | .int i => decide (i.natAbs ≤ 2147483648)
  | .str z => decide (z ∈ labs)
  | .lst ds => gdsB ds
  | .tup ds => gdsB ds
  | .dic _ _ => false
  | .ob _ => false
def gdsB : List D → Bool
  | [] => true
  | d :: ds => gdB d && gdsB ds
end
mutual
def wt : D → Nat
  | .lst ds => wts ds + 1
  | .tup ds => wts ds + 1
  | _ => 1
def wts : List D → Nat
  | [] => 0
  | d :: ds => wt d + wts ds
end
theorem gds_mem : ∀ {ds : List D}, gdsB ds = true → ∀ d ∈ ds, gdB d = true
  | [], _, _, h => by cases h
  | e :: ds, g, d, h => by
    have g : (gdB e && gdsB ds) = true := g
    rw [Bool.and_eq_true] at g
    rcases List.mem_cons.mp h with h | h
    · subst h
      exact g.1
    · exact gds_mem g.2 d h
theorem gds_of : ∀ {ds : List D}, (∀ d ∈ ds, gdB d = true) → gdsB ds = true
  | [], _ => rfl
  | e :: ds, h => by
    show (gdB e && gdsB ds) = true
    rw [h e (List.mem_cons_self ..), gds_of fun d hd => h d (List.mem_cons_of_mem _ hd)]
    rfl
theorem wt_pos : ∀ d : D, 1 ≤ wt d
  | .non | .bl _ | .int _ | .str _ | .dic _ _ | .ob _ => Nat.le_refl _
  | .lst ds => Nat.succ_pos _
  | .tup ds => Nat.succ_pos _
theorem len_wts : ∀ ds : List D, ds.length ≤ wts ds
  | [] => Nat.le_refl _
  | d :: ds => by
    have := wt_pos d
    have := len_wts ds
    show ds.length + 1 ≤ wt d + wts ds
    omega
theorem gd_kind {d : D} (h : gdB d = true) : ∃ k, kindT d = some k := by
  cases d <;> first | exact ⟨_, rfl⟩ | cases h
theorem gd_short {d : D} (h : gdB d = true) : shortD d := by
  cases d <;> first | exact True.intro | skip
  rename_i z
  have : z ∈ labs := of_decide_eq_true h
  exact Nat.le_trans (lab_len this) (by decide)
/-! ### forms -/
def leafOk (z : Str) (ps : List D) : Bool := if z ∈ noN then decide (ps.length = 0) else match ps with
  | [p] => if z = "number" then isw p (-2147483647) 2147483647 else if z = "name" then nmD p else spD p
  | _ => false
def askO (z : Str) (n : Nat) : Option (Str × List Str) := match shp z with
  | some p => some p
  | none => match cal z with
    | none => none
    | some c => if loB c.1 ≤ n ∧ n ≤ hiB c.1 then some ("word", List.replicate n "word") else none
def formL (z : Str) (ps : List D) : Option (Str × List Str) := match lookT leafT z with
  | some r => if leafOk z ps = true then some (r, []) else none
  | none => match askO z ps.length with
    | none => none
    | some p => if p.2.length = ps.length then some p else none
def formO : D → Option (Str × List Str)
  | .lst (.str z :: ps) => formL z ps
  | .tup (.str z :: ps) => formL z ps
  | _ => none
/-- a list or a tuple of these -/
def seqD (x : D) (ds : List D) : Prop := x = .lst ds ∨ x = .tup ds
theorem ix_sq {x : D} {ds : List D} {i : Int} {d : D} {C : D → Prop} (hx : seqD x ds) (h : atI ds i = some d) (hc : C d) : dIx x (.int i) C := by
  rcases hx with rfl | rfl
  · exact ix_lst.mpr ⟨d, h, hc⟩
  · exact ix_tup'.mpr ⟨d, h, hc⟩
theorem len_sq {x : D} {ds : List D} (hx : seqD x ds) : lenD x = some ds.length := by
  rcases hx with rfl | rfl <;> rfl
theorem kind_sq {x : D} {ds : List D} (hx : seqD x ds) : ∃ k, kindT x = some k ∧ (k == "list" || k == "tuple") = true := by
  rcases hx with rfl | rfl
  · exact ⟨_, rfl, by decide⟩
  · exact ⟨_, rfl, by decide⟩
theorem rep1 (d : D) : ∀ k : Nat, repD k [d] = List.replicate k d
  | 0 => rfl
  | k + 1 => by
    show [d] ++ repD k [d] = _
    rw [rep1 d k]
    rfl
theorem cut_tail (x : D) (ps : List D) : DL.cutD (x :: ps) (some 1) none = ps := by
  unfold DL.cutD
  have e1 : HT.sIx (x :: ps).length 0 (some 1) = 1 := by
    unfold HT.sIx
    simp
  have e2 : HT.sIx (x :: ps).length (x :: ps).length none = ps.length + 1 := rfl
  rw [e1, e2]
  show ps.take (ps.length + 1 - 1) = ps
  rw [Nat.add_sub_cancel, List.take_length]
theorem leaf_no {z r : Str} (h : lookT leafT z = some r) (hn : z ∈ noN) : r = "truth" := by
  unfold noN at hn
  simp only [List.mem_cons, List.not_mem_nil, or_false] at hn
  rcases hn with rfl | rfl <;> exact (Option.some.inj (h.symm.trans (by decide +kernel)))
theorem formO_sq {x : D} {z : Str} {ps : List D} (hx : seqD x (.str z :: ps)) : formO x = formL z ps := by
  rcases hx with rfl | rfl <;> rfl
section
variable {P : Program} {w : World} {K : PySem.W.Frag} {mg : Str → Option Value} {base : Heap}
def g_is_leaf : FP := F1 fun x C _ => ∃ z ps, x = .tup (.str z :: ps) ∨ x = .lst (.str z :: ps)
theorem leafTab_some {z r : Str} (h : lookT leafT z = some r) : leafTab z = some (.str r) := by
  unfold leafTab
  rw [h]
  rfl
theorem leafTab_none {z : Str} (h : lookT leafT z = none) : leafTab z = none := by
  unfold leafTab
  rw [h]
  rfl
/-- parts, as parts_of tells them -/
def partsR (x : D) : D := match x with
  | .lst (.str z :: ps) => if (lookT leafT z).isSome = true then .tup [] else .lst ps
  | .tup (.str z :: ps) => if (lookT leafT z).isSome = true then .tup [] else .tup ps
  | _ => .non
def g_parts_of : FP := F1 fun x C _ => ∃ z ps, seqD x (.str z :: ps) ∧ z ∈ labs ∧ C (partsR x)
theorem ok_parts_of (T : Txt w K mg) : FnG P w K mg base CX0 1 T.f_parts_of T.fd_parts_of ["term"] (spP K g_parts_of) := by
  refine fnP0 T.F_parts_of sc_parts_of F1_len (fun tr O0 H0 Er cdv A outer s H E hgd hr =>
      (pss_one (ds_ret (ps_ret (de_ife (pe_ifExp (dt_cmp (D_inK T.t_LEAF_KINDS) (pt_cmpR (op_inK (w := w) T.t_LEAF_KINDS) (de_op D_ix (pe_ix ix_seq (de_var (pv 0)) (de_v (de_int pe_int)) (fun _ _ => rfl))) (de_v (de_ob (C8.pe_gc (by rfl) T.c_LEAF_KINDS))) rfl)) (de_tup (pe_tup (da_nil pa_nil))) (de_slA (pe_slice sl_all (de_var (pv 0)) (do_some (po_some (de_int pe_int))) (do_none po_none))))))))) ?_
  rintro ds C E ⟨x, rfl, z, ps, hx, hz, q⟩
  walk_at "dl"
  refine ix_sq hx at_0 ⟨z, rfl, hz, ?_⟩
  cases e : lookT leafT z with
  | some r =>
    rw [leafTab_some e]
    refine iteT ?_
    rcases hx with rfl | rfl
    · have q : C (if (lookT leafT z).isSome = true then D.tup [] else .lst ps) := q
      rw [e] at q
      exact q
    · have q : C (if (lookT leafT z).isSome = true then D.tup [] else .tup ps) := q
      rw [e] at q
      exact q
  | none =>
    rw [leafTab_none e]
    refine iteF ?_
    rcases hx with rfl | rfl
    · have q : C (if (lookT leafT z).isSome = true then D.tup [] else .lst ps) := q
      rw [e] at q
      show C (.lst (DL.cutD _ _ _))
      rw [cut_tail]
      exact q
    · have q : C (if (lookT leafT z).isSome = true then D.tup [] else .tup ps) := q
      rw [e] at q
      show C (.tup (DL.cutD _ _ _))
      rw [cut_tail]
      exact q
def g_kind_of : FP := F1 fun x C _ => ∃ z ps r ks, seqD x (.str z :: ps) ∧ z ∈ labs ∧ formL z ps = some (r, ks) ∧ C (.str r)
theorem ok_kind_of (T : Txt w K mg) : FnG P w K mg base CX0 5 T.f_kind_of T.fd_kind_of ["term"] (spP K g_kind_of) := by
  have K_shape_of := ok_shape_of (P := P) (w := w) (base := base) T
  refine fnP0 T.F_kind_of sc_kind_of F1_len (fun tr O0 H0 Er cdv A outer s H E hgd hr =>
      (dss_cons (pss_cons (ds_set (ps_set (i := 1) sc_kind_of.nd rfl (.inl rfl) (de_op D_ix (pe_ix ix_seq (de_var (pv 0)) (de_v (de_int pe_int)) (fun _ _ => rfl)))))
      (dss_cons (pss_cons (ds_if (ps_if (dt_cmp (D_inK T.t_LEAF_KINDS) (pt_cmpR (op_inK (w := w) T.t_LEAF_KINDS) (de_var (pv 1)) (de_v (de_ob (C8.pe_gc (by rfl) T.c_LEAF_KINDS))) rfl))
        (pss_one (ds_ret (ps_ret (de_op (D_ixK T.t_LEAF_KINDS) (pe_ix ix_kdict (de_ob (C8.pe_gc (by rfl) T.c_LEAF_KINDS)) (de_v (de_var (pv 1))) (fun _ _ => rfl))))))
        (dss_nil pss_nil)))
      (dss_cons (pss_cons (ds_set (ps_set (i := 2) sc_kind_of.nd rfl (.inl rfl) (de_callP (pe_callG K_shape_of hgd (hr.mono (by decide)) (by rfl) T.g_shape_of T.F_shape_of.kp T.b_shape_of .nil pass0 (da_cons (pa_cons (de_var (pv 1)) (da_nil pa_nil)))))))
      (pss_one (ds_ret (ps_ret (de_ife (pe_ifExp (dt_cmp D_isN (pt_cmpR op_isN (de_var (pv 2)) (de_v (de_non pe_non)) (nomark _))) (de_str pe_str) (de_op D_ix (pe_ix ix_seq (de_var (pv 2)) (de_v (de_int pe_int)) (fun _ _ => rfl))))))))))))))) ?_
  rintro ds C E ⟨x, rfl, z, ps, r, ks, hx, hz, hf, q⟩
  walk_at "dl"
  refine ix_sq hx at_0 ⟨z, rfl, hz, ?_⟩
  unfold formL at hf
  cases e : lookT leafT z with
  | some r1 =>
    rw [e] at hf
    rw [leafTab_some e]
    refine iteT ?_
    have hf : (if leafOk z ps = true then some (r1, ([] : List Str)) else none) = some (r, ks) := hf
    split at hf
    · cases hf
      exact ⟨z, rfl, hz, _, leafTab_some e, q⟩
    · cases hf
  | none =>
    rw [e] at hf
    rw [leafTab_none e]
    refine iteF ⟨_, rfl, z, rfl, hz, ?_⟩
    have hf : (match askO z ps.length with | none => none | some p => if p.2.length = ps.length then some p else none) = some (r, ks) := hf
    unfold askO at hf
    cases e2 : shp z with
    | some p =>
      rw [e2] at hf
      have hf : (if p.2.length = ps.length then some p else none) = some (r, ks) := hf
      split at hf
      · cases hf
        refine ⟨_, rfl, (if_neg (by decide)).mpr ?_⟩
        exact ix_tup'.mpr ⟨_, at_0, q⟩
      · cases hf
    | none =>
      rw [e2] at hf
      refine ⟨_, rfl, (if_pos rfl).mpr ?_⟩
      have hf : (match (match cal z with | none => none | some c => if loB c.1 ≤ ps.length ∧ ps.length ≤ hiB c.1 then some (("word" : Str), List.replicate ps.length ("word" : Str)) else none) with | none => none | some p => if p.2.length = ps.length then some p else none) = some (r, ks) := hf
      split at hf
      · cases hf
      · rename_i p e3
        split at e3
        · cases e3
        · split at e3
          · cases e3
            split at hf
            · cases hf
              exact q
            · cases hf
          · cases e3
def g__is_right_leaf : FP := F1 fun x C _ => ∃ z ps, seqD x (.str z :: ps) ∧ z ∈ labs ∧ (lookT leafT z).isSome = true ∧ gdsB ps = true ∧ ps.length ≤ 1000 ∧ C (.bl (leafOk z ps))
theorem ok__is_right_leaf (T : Txt w K mg) : FnG P w K mg base CX0 4 T.f__is_right_leaf T.fd__is_right_leaf ["value"] (spP K g__is_right_leaf) := by
  have K_is_number := ok_is_number (P := P) (w := w) (base := base) T
  have K_is_name := ok_is_name (P := P) (w := w) (base := base) T
  have K_is_spelling := ok_is_spelling (P := P) (w := w) (base := base) T
  refine fnP0 T.F__is_right_leaf sc__is_right_leaf F1_len (fun tr O0 H0 Er cdv A outer s H E hgd hr =>
      (dss_cons (pss_cons (ds_set (ps_set (i := 1) sc__is_right_leaf.nd rfl (.inl rfl) (de_op D_ix (pe_ix ix_seq (de_var (pv 0)) (de_v (de_int pe_int)) (fun _ _ => rfl)))))
      (dss_cons (pss_cons (ds_if (ps_if (dt_cmp (D_in false) (pt_cmpR op_in_seq (de_var (pv 1)) (de_v (de_tup (pe_tup (da_cons (pa_cons (de_str pe_str) (da_cons (pa_cons (de_str pe_str) (da_nil pa_nil)))))))) rfl))
        (pss_one (ds_ret (ps_ret (de_op D_eq (pe_cmpR (op_eqA hr.units) (de_cb D_len (pe_callB call_lenA (by rfl) T.m_len (by decide +kernel) (da_one (pa_cons (de_v (de_var (pv 0))) pa_nil)))) (de_v (de_int pe_int)) (nomark _))))))
        (dss_nil pss_nil)))
      (dss_cons (pss_cons (ds_if (ps_if (dt_cmp D_ne (pt_cmpR (op_neA hr.units) (de_cb D_len (pe_callB call_lenA (by rfl) T.m_len (by decide +kernel) (da_one (pa_cons (de_v (de_var (pv 0))) pa_nil)))) (de_v (de_int pe_int)) (nomark _)))
        (pss_one (ds_ret (ps_ret (de_bl pe_bl))))
        (dss_nil pss_nil)))
      (dss_cons (pss_cons (ds_if (ps_if (dt_cmp D_eq (pt_cmpR (op_eqA hr.units) (de_var (pv 1)) (de_v (de_str pe_str)) (nomark _)))
        (pss_one (ds_ret (ps_ret (de_callP (pe_callG K_is_number hgd (hr.mono (by decide)) (by rfl) T.g_is_number T.F_is_number.kp T.b_is_number .nil pass0 (da_cons (pa_cons (de_op D_ix (pe_ix ix_seq (de_var (pv 0)) (de_v (de_int pe_int)) (fun _ _ => rfl))) (da_nil pa_nil))))))))
        (dss_nil pss_nil)))
      (pss_one (ds_ret (ps_ret (de_ife (pe_ifExp (dt_cmp D_eq (pt_cmpR (op_eqA hr.units) (de_var (pv 1)) (de_v (de_str pe_str)) (nomark _))) (de_callP (pe_callG K_is_name hgd (hr.mono (by decide)) (by rfl) T.g_is_name T.F_is_name.kp T.b_is_name .nil pass0 (da_cons (pa_cons (de_op D_ix (pe_ix ix_seq (de_var (pv 0)) (de_v (de_int pe_int)) (fun _ _ => rfl))) (da_nil pa_nil))))) (de_callP (pe_callG K_is_spelling hgd (hr.mono (by decide)) (by rfl) T.g_is_spelling T.F_is_spelling.kp T.b_is_spelling .nil pass0 (da_cons (pa_cons (de_op D_ix (pe_ix ix_seq (de_var (pv 0)) (de_v (de_int pe_int)) (fun _ _ => rfl))) (da_nil pa_nil))))))))))))))))))) ?_
  rintro ds C E ⟨x, rfl, z, ps, hx, hz, hl, hg, hlen, q⟩
  walk_at "dl"
  refine ix_sq hx at_0 ⟨_, rfl, ?_⟩
  have e1 : (eqV (V.str (Str.ofString "true")) (V.str z) || eqV (V.str (Str.ofString "false")) (V.str z)) = decide (z ∈ noN) := by
    rw [← inV_strs]
    show _ = inV (V.str z) [V.str "true", V.str "false"]
    rw [inV_cons, inV_cons, inV_nil, Bool.or_false]
  rw [e1]
  unfold leafOk at q
  by_cases h1 : z ∈ noN
  · rw [decide_eq_true h1]
    rw [if_pos h1] at q
    refine iteT ⟨_, len_sq hx, ?_⟩
    have e2 : decide ((((D.str z :: ps).length : Nat) : Int) = 1) = decide (ps.length = 0) := by
      rw [List.length_cons]
      apply decide_eq_decide.mpr
      omega
    rw [e2]
    exact q
  · rw [decide_eq_false h1]
    rw [if_neg h1] at q
    refine iteF ⟨_, len_sq hx, ?_⟩
    match ps, hx, hg, hlen, q with
    | [], hx, hg, hlen, q => exact (if_pos (by simp)).mpr q
    | _ :: _ :: _, hx, hg, hlen, q => exact (if_pos (by simp only [List.length_cons]; omega)).mpr q
    | [p], hx, hg, hlen, q =>
      have gp : gdB p = true := gds_mem hg p (List.mem_cons_self ..)
      obtain ⟨k, hk⟩ := gd_kind gp
      refine (if_neg (by simp only [List.length_cons, List.length_nil]; omega)).mpr (qe_str.mpr ⟨_, rfl, ?_⟩)
      have q : C (.bl (if z = "number" then isw p (-2147483647) 2147483647 else if z = "name" then nmD p else spD p)) := q
      by_cases h2 : z = "number"
      · rw [if_pos h2] at q
        rw [decide_eq_true (show z = Str.ofString "number" from h2)]
        exact iteT (ix_sq hx at_1 ⟨_, rfl, k, hk, q⟩)
      · rw [if_neg h2] at q
        rw [decide_eq_false (show ¬ z = Str.ofString "number" from h2)]
        refine iteF (qe_str.mpr ⟨_, rfl, ?_⟩)
        by_cases h3 : z = "name"
        · rw [if_pos h3] at q
          rw [decide_eq_true (show z = Str.ofString "name" from h3)]
          exact iteT (ix_sq hx at_1 ⟨_, rfl, k, hk, gd_short gp, q⟩)
        · rw [if_neg h3] at q
          rw [decide_eq_false (show ¬ z = Str.ofString "name" from h3)]
          exact iteF (ix_sq hx at_1 ⟨_, rfl, k, hk, gd_short gp, q⟩)
def g__form_of : FP := F1 fun x C _ => gdB x = true ∧ wt x ≤ 1000 ∧ C (shapeR (formO x))
theorem ok__form_of (T : Txt w K mg) : FnG P w K mg base CX0 5 T.f__form_of T.fd__form_of ["value"] (spP K g__form_of) := by
  have K_shape_of := ok_shape_of (P := P) (w := w) (base := base) T
  have K_called := ok_called (P := P) (w := w) (base := base) T
  have K_bounds_of := ok_bounds_of (P := P) (w := w) (base := base) T
  have K_is_list := ok_is_list (P := P) (w := w) (base := base) T
  have K__is_right_leaf := ok__is_right_leaf (P := P) (w := w) (base := base) T
  refine fnP0 T.F__form_of sc__form_of F1_len (fun tr O0 H0 Er cdv A outer s H E hgd hr =>
      (dss_cons (pss_cons (ds_if (ps_if (PW.pt (dw_or (pw_or (dt_not (pt_not (dt_val (pt_val (de_callP (pe_callG K_is_list hgd (hr.mono (by decide)) (by rfl) T.g_is_list T.F_is_list.kp T.b_is_list .nil pass0 (da_cons (pa_cons (de_var (pv 0)) (da_nil pa_nil))))))))) (dw_or (pw_or (dt_cmp D_eq (pt_cmpR (op_eqA hr.units) (de_cb D_len (pe_callB call_lenA (by rfl) T.m_len (by decide +kernel) (da_one (pa_cons (de_v (de_var (pv 0))) pa_nil)))) (de_v (de_int pe_int)) (nomark _))) (pw_or1 (dt_not (pt_not (dt_val (pt_val (de_isi1 rfl (pe_callB call_isi (by rfl) T.m_isinstance (by decide +kernel) (pa_cons (de_v (de_op D_ix (pe_ix ix_seq (de_var (pv 0)) (de_v (de_int pe_int)) (fun _ _ => rfl)))) (pa_cons (pe_bltn (v := .ty "str") (by rfl) T.m_str (by decide +kernel) rfl) pa_nil))))))))))))))
        (pss_one (ds_ret (ps_ret (de_non pe_non))))
        (dss_nil pss_nil)))
      (dss_cons (pss_cons (ds_par (ps_par (i := 1) (j := 2) (by rfl) sc__form_of.nd rfl rfl (by decide) rfl rfl (da_cons (pa_cons (de_op D_ix (pe_ix ix_seq (de_var (pv 0)) (de_v (de_int pe_int)) (fun _ _ => rfl))) (da_cons (pa_cons (de_op D_sub (pe_op op_sub (de_cb D_len (pe_callB call_lenA (by rfl) T.m_len (by decide +kernel) (da_one (pa_cons (de_v (de_var (pv 0))) pa_nil)))) (de_v (de_int pe_int)))) (da_nil pa_nil))))) (by rfl)))
      (dss_cons (pss_cons (ds_if (ps_if (dt_cmp (D_inK T.t_LEAF_KINDS) (pt_cmpR (op_inK (w := w) T.t_LEAF_KINDS) (de_var (pv 1)) (de_v (de_ob (C8.pe_gc (by rfl) T.c_LEAF_KINDS))) rfl))
        (pss_one (ds_ret (ps_ret (de_ife (pe_ifExp (dt_val (pt_val (de_callP (pe_callG K__is_right_leaf hgd (hr.mono (by decide)) (by rfl) T.g__is_right_leaf T.F__is_right_leaf.kp T.b__is_right_leaf .nil pass0 (da_cons (pa_cons (de_var (pv 0)) (da_nil pa_nil))))))) (de_tup (pe_tup (da_cons (pa_cons (de_op (D_ixK T.t_LEAF_KINDS) (pe_ix ix_kdict (de_ob (C8.pe_gc (by rfl) T.c_LEAF_KINDS)) (de_v (de_var (pv 1))) (fun _ _ => rfl))) (da_cons (pa_cons (de_tup (pe_tup (da_nil pa_nil))) (da_nil pa_nil))))))) (de_non pe_non))))))
        (dss_nil pss_nil)))
      (dss_cons (pss_cons (ds_set (ps_set (i := 3) sc__form_of.nd rfl (.inl rfl) (de_callP (pe_callG K_shape_of hgd (hr.mono (by decide)) (by rfl) T.g_shape_of T.F_shape_of.kp T.b_shape_of .nil pass0 (da_cons (pa_cons (de_var (pv 1)) (da_nil pa_nil)))))))
      (dss_cons (pss_cons (ds_if (ps_if (dt_cmp D_notN (pt_cmpR op_notN (de_var (pv 3)) (de_v (de_non pe_non)) (nomark _)))
        (pss_one (ds_ret (ps_ret (de_ife (pe_ifExp (dt_cmp D_eq (pt_cmpR (op_eqA hr.units) (de_var (pv 2)) (de_v (de_cb D_len (pe_callB call_lenA (by rfl) T.m_len (by decide +kernel) (da_one (pa_cons (de_v (de_op D_ix (pe_ix ix_seq (de_var (pv 3)) (de_v (de_int pe_int)) (fun _ _ => rfl)))) pa_nil))))) (nomark _))) (de_var (pv 3)) (de_non pe_non))))))
        (dss_nil pss_nil)))
      (dss_cons (pss_cons (ds_set (ps_set (i := 4) sc__form_of.nd rfl (.inl rfl) (de_callP (pe_callG K_called hgd (hr.mono (by decide)) (by rfl) T.g_called T.F_called.kp T.b_called .nil pass0 (da_cons (pa_cons (de_var (pv 1)) (da_nil pa_nil)))))))
      (dss_cons (pss_cons (ds_if (ps_if (dt_cmp D_isN (pt_cmpR op_isN (de_var (pv 4)) (de_v (de_non pe_non)) (nomark _)))
        (pss_one (ds_ret (ps_ret (de_non pe_non))))
        (dss_nil pss_nil)))
      (dss_cons (pss_cons (ds_asg (tg := (.tp [5, 6])) (ps_asg (de_callP (pe_callG K_bounds_of hgd (hr.mono (by decide)) (by rfl) T.g_bounds_of T.F_bounds_of.kp T.b_bounds_of .nil pass0 (da_cons (pa_cons (de_op D_ix (pe_ix ix_seq (de_var (pv 4)) (de_v (de_int pe_int)) (fun _ _ => rfl))) (da_nil pa_nil))))) (pg_tup rfl (pgs_cons (pg_name (i := 5) sc__form_of.nd rfl (.inl rfl)) (pgs_cons (pg_name (i := 6) sc__form_of.nd rfl (.inl rfl)) pgs_nil)))))
      (pss_one (ds_ret (ps_ret (de_ife (pe_ifExp (dt_chain D_le D_le (pt_chain op_le op_le (de_var (pv 5)) (de_var (pv 2)) (de_var (pv 6)))) (de_tup (pe_tup (da_cons (pa_cons (de_str pe_str) (da_cons (pa_cons (de_op D_rep (pe_op op_repU (de_tup (pe_tup (da_cons (pa_cons (de_str pe_str) (da_nil pa_nil))))) (de_v (de_var (pv 2))))) (da_nil pa_nil))))))) (de_non pe_non))))))))))))))))))))))) ?_
  rintro ds C E ⟨x, rfl, hg, hw, q⟩
  walk_at "dl"
  obtain ⟨k, hk⟩ := gd_kind hg
  refine ⟨_, rfl, k, hk, _, rfl, ?_⟩
  by_cases hs : ∃ ds, seqD x ds
  rotate_left
  · have e : (k == "list" || k == "tuple") = false := by
      cases x <;> first | (cases hk; decide) | exact absurd ⟨_, .inl rfl⟩ hs | exact absurd ⟨_, .inr rfl⟩ hs | cases hk
    rw [e]
    refine fT ?_
    cases x <;> first | exact q | exact absurd ⟨_, .inl rfl⟩ hs | exact absurd ⟨_, .inr rfl⟩ hs
  obtain ⟨es, hx⟩ := hs
  obtain ⟨k2, hk2, e⟩ := kind_sq hx
  obtain rfl : k = k2 := Option.some.inj (hk.symm.trans hk2)
  rw [e]
  refine fF ⟨_, len_sq hx, ?_⟩
  match es, hx with
  | [], hx =>
    refine (if_pos rfl).mpr ?_
    rcases hx with rfl | rfl <;> exact q
  | d :: ps, hx =>
    have gs : gdsB (d :: ps) = true := by rcases hx with rfl | rfl <;> exact hg
    have ws : wts (d :: ps) + 1 ≤ 1000 := by rcases hx with rfl | rfl <;> exact hw
    obtain ⟨kd, hkd⟩ := gd_kind (gds_mem gs d (List.mem_cons_self ..))
    refine (if_neg (by simp; omega)).mpr (ix_sq hx at_0 ⟨kd, hkd, ?_⟩)
    by_cases hd : ∃ z, d = .str z
    rotate_left
    · have e : (kd == "str" || kd == "bool" && "str" == "int") = false := by
        cases d <;> first | (cases hkd; decide) | exact absurd ⟨_, rfl⟩ hd | cases hkd
      rw [e]
      refine fT ?_
      rcases hx with rfl | rfl <;> cases d <;> first | exact q | exact absurd ⟨_, rfl⟩ hd
    obtain ⟨z, rfl⟩ := hd
    cases hkd
    refine fF (ix_sq hx at_0 ⟨_, len_sq hx, z, rfl, ?_, ?_⟩)
    · exact of_decide_eq_true (gds_mem gs _ (List.mem_cons_self ..))
    have hz : z ∈ labs := of_decide_eq_true (gds_mem gs _ (List.mem_cons_self ..))
    rw [formO_sq hx] at q
    unfold formL at q
    have gps : gdsB ps = true := gds_of fun d hd => gds_mem gs d (List.mem_cons_of_mem _ hd)
    have lps : ps.length ≤ 1000 := by
      have := len_wts (D.str z :: ps)
      rw [List.length_cons] at this
      omega
    cases e1 : lookT leafT z with
    | some r =>
      rw [leafTab_some e1]
      refine iteT ⟨_, rfl, z, ps, hx, hz, by rw [e1]; rfl, gps, lps, _, rfl, ?_⟩
      rw [e1] at q
      have q : C (shapeR (if leafOk z ps = true then some (r, []) else none)) := q
      cases e2 : leafOk z ps with
      | true =>
        rw [e2] at q
        exact iteT ⟨z, rfl, hz, _, leafTab_some e1, q⟩
      | false =>
        rw [e2] at q
        exact iteF q
    | none =>
      rw [leafTab_none e1]
      refine iteF ⟨_, rfl, z, rfl, hz, ?_⟩
      rw [e1] at q
      have q : C (shapeR (match askO z ps.length with | none => none | some p => if p.2.length = ps.length then some p else none)) := q
      unfold askO at q
      cases e2 : shp z with
      | some p =>
        rw [e2] at q
        have q : C (shapeR (if p.2.length = ps.length then some p else none)) := q
        refine ⟨_, rfl, fT (ix_tup'.mpr ⟨_, at_1, _, rfl, ?_⟩)⟩
        by_cases h : p.2.length = ps.length
        · rw [if_pos h] at q
          refine (if_pos ?_).mpr q
          rw [List.length_map, List.length_cons]
          omega
        · rw [if_neg h] at q
          refine (if_neg ?_).mpr q
          rw [List.length_map, List.length_cons]
          omega
      | none =>
        rw [e2] at q
        refine ⟨_, rfl, fF ⟨_, rfl, z, rfl, hz, ?_⟩⟩
        cases e3 : cal z with
        | none =>
          rw [e3] at q
          exact .inl ⟨rfl, _, rfl, iteT q⟩
        | some c =>
          rw [e3] at q
          refine .inr ⟨_, _, _, rfl, fun n => ⟨_, rfl, iteF (ix_tup'.mpr ⟨_, at_0, _, rfl, _, rfl, _, rfl, ?_⟩)⟩⟩
          have q : C (shapeR (match (if loB c.1 ≤ ps.length ∧ ps.length ≤ hiB c.1 then some (("word" : Str), List.replicate ps.length ("word" : Str)) else none) with | none => none | some p => if p.2.length = ps.length then some p else none)) := q
          have em : (((D.str z :: ps).length : Nat) : Int) - 1 = (ps.length : Int) := by
            rw [List.length_cons]
            omega
          rw [em]
          refine ⟨_, rfl, _, rfl, _, rfl, _, rfl, ?_⟩
          by_cases h1 : loB c.1 ≤ ps.length
          rotate_left
          · rw [if_neg (by omega)] at q
            exact (if_neg (by omega)).mpr q
          refine (if_pos (by omega)).mpr ⟨_, rfl, _, rfl, _, rfl, ?_⟩
          by_cases h2 : ps.length ≤ hiB c.1
          rotate_left
          · rw [if_neg (by omega)] at q
            exact (if_neg (by omega)).mpr q
          refine (if_pos (by omega)).mpr ⟨_, rfl, ?_⟩
          rw [if_pos ⟨h1, h2⟩] at q
          have q : C (shapeR (if (List.replicate ps.length ("word" : Str)).length = ps.length then some (("word" : Str), List.replicate ps.length ("word" : Str)) else none)) := q
          rw [if_pos List.length_replicate] at q
          have q : C (.tup [.str "word", .tup ((List.replicate ps.length ("word" : Str)).map D.str)]) := q
          refine ⟨(by intro z; cases z), by omega, by omega, Nat.le_of_ble_eq_true rfl, ?_⟩
          rw [Int.toNat_natCast, rep1]
          rw [List.map_replicate] at q
          exact q
end
end K03D
end
section
set_option maxHeartbeats 4000000
namespace K03D
open PySem PySem.Spec PyProof.Rows L2 G1 G2 DL K03 R1 StX
variable [TB]
local macro_rules | `(tactic| walk_at "dl") => `(tactic| simp (decide := true) only [dSlA, dSlO, dRev, dPop, dExt, dDelFrom, dCallH, daStar, dRep, dListZip, dDispN, dVals, dInDic, dGetDic, dInK, dIxK, dKget, dStrI, dSplit, dLeS, dRaiseI, dIsnB, dInSign, lookD, plusA_int, plusA_str, plusA_lst, plusA_tup, dVar, dVw, dC, dOp, dOpL, dUn, dCB, daNil, daCons, daOne, dCallP, dCallT, dTup, dLst, dFz, dSet, dSetO, dDrop, dRet, dRetF, dRetO, dCallTN, dRetN, dNext, dBreak, dCont, dSeq, dCut, dIfS, dFrz, dAsg, dPar, bindT, setsD, slotsT, dItL, dItT, dItS, dRng1, dRng2, dFor, dTst, dTru, dNot, dAnd, dOr, dAndV, dOrV, dNotV, dIfE, dLc, dYes, turnD, wipeD, restG, kp, dI0, dI, dNeg, dIsN, dNotN, dIsB, dLen, dIsi, isiTab, dInt, dAbs, dAll, dAny, dTupOf, dListOf, dNoPart, dPart, dSl, dSlL, dFmt, dJs, dM1, dStarts, dApp, dSetIx, dChain, dZip, dEnum, dSigns, dHeard, hideS, hideL, dLcN, dNbeg, dNend, dNcons, dNset, dNapp, dNpop, dDnew, dDisp1, dRaise, dRepr, dIn, flVs, kT_non, kT_bl, kT_int, kT_str, kT_lst, kT_tup, kT_dic, isN_non, isN_bl, isN_int, isN_str, isN_lst, isN_tup, isN_dic, lenD_lst, lenD_tup, lenD_str, it_lst, it_tup, fl_non, fl_bl, fl_int, fl_str, tru_non, tru_bl, tru_int, tru_lst, tru_tup, plus_int, plus_str, plus_lst, plus_tup, ix_lst, ix_tup', ix_str', qe_str, qn_str, qe_int, qn_int, qe_bl, qn_bl, at_0, at_1, at_2, at_l1, at_l2, at_l3, at_k2, at_k3, inV_nil, inV_cons, eqV_str, eqV_int, eqV_bl, Bool.or_false, Bool.or_true, Bool.true_or, Bool.false_or, Bool.and_true, Bool.and_false, decide_eq_true_eq, Bool.not_eq_true', decide_eq_false_iff_not, eq_self, ne_eq, not_true_eq_false, not_false_eq_true, 
  F1, F2, F3, F4, T1, T2, T3, T4, startD, List.append_nil, List.cons_append, List.nil_append, List.map_cons, List.map_nil, List.length_cons, List.length_nil, List.getElem?_cons_zero, List.getElem?_cons_succ, List.getElem?_nil, List.getD_cons_zero, List.getD_cons_succ, Nat.reduceAdd, Nat.reduceSub, Nat.zero_add, List.replicate, List.replicate_zero, List.replicate_succ, List.set_cons_zero, List.set_cons_succ, List.set_nil,
  exists_eq_left, exists_eq_left', exists_eq_right, exists_eq_right', exists_and_left, Option.some.injEq, Sl.da.injEq, Sl.ow.injEq, D.bl.injEq, D.int.injEq, D.str.injEq, D.tup.injEq, D.lst.injEq, D.ob.injEq, List.cons.injEq, and_true, true_and, and_assoc, if_true, if_false, reduceIte, reduceCtorEq, Bool.false_eq_true, Bool.not_true, Bool.not_false, decide_true, decide_false, false_and, and_false, exists_false, false_or, or_false, Option.bind_some, Option.map_some])

/-! ### terms -/
mutual
def kd : D → Option Str
  | .lst ds => kdl ds
  | .tup ds => kdl ds
  | _ => none
def kdl : List D → Option Str
  | [] => none
  | x :: ps => match x with
    | .str z => match formL z ps with
      | none => none
      | some p => if oks ps p.2 = true then some p.1 else none
    | _ => none
def oks : List D → List Str → Bool
  | [], _ => true
  | p :: ps, ks => match ks with
    | [] => true
    | k :: ks => decide (kd p = some k) && oks ps ks
end
def isLf (z : Str) : Bool := (lookT leafT z).isSome
mutual
def post : D → List D
  | .lst ds => postl ds ++ [.lst ds]
  | .tup ds => postl ds ++ [.tup ds]
  | x => [x]
def postl : List D → List D
  | [] => []
  | x :: ps => match x with
    | .str z => if isLf z = true then [] else posts ps
    | _ => []
def posts : List D → List D
  | [] => []
  | d :: ds => post d ++ posts ds
end
mutual
def tupF : D → D
  | .lst ds => .tup (tupl ds)
  | .tup ds => .tup (tupl ds)
  | x => x
def tupl : List D → List D
  | [] => []
  | x :: ps => match x with
    | .str z => .str z :: (if isLf z = true then ps else tupfs ps)
    | y => y :: ps
def tupfs : List D → List D
  | [] => []
  | d :: ds => tupF d :: tupfs ds
end
/-! ### what terms have -/
theorem oks_all : ∀ (ps : List D) (ks : List Str), ks.length = ps.length → oks ps ks = true → ∀ p ∈ ps, (kd p).isSome = true
  | [], _, _, _, _, h => by cases h
  | p :: ps, [], h, _, _, _ => by cases h
  | p :: ps, k :: ks, hl, h, q, hq => by
    have h : (decide (kd p = some k) && oks ps ks) = true := h
    rw [Bool.and_eq_true] at h
    rcases List.mem_cons.mp hq with e | e
    · subst e
      rw [of_decide_eq_true h.1]
      rfl
    · exact oks_all ps ks (Nat.succ.inj hl) h.2 q e
theorem form_nonleaf {z : Str} {ps : List D} {r : Str} {ks : List Str} (h : formL z ps = some (r, ks)) (hl : isLf z = false) : ks.length = ps.length := by
  unfold formL at h
  unfold isLf at hl
  cases e : lookT leafT z with
  | some r => rw [e] at hl; cases hl
  | none =>
    rw [e] at h
    have h : (match askO z ps.length with | none => none | some p => if p.2.length = ps.length then some p else none) = some (r, ks) := h
    split at h
    · cases h
    · rename_i p _
      split at h
      · rename_i hh
        cases h
        exact hh
      · cases h
theorem form_leaf {z : Str} {ps : List D} {r : Str} {ks : List Str} (h : formL z ps = some (r, ks)) (hl : isLf z = true) : ks = [] := by
  unfold formL at h
  unfold isLf at hl
  cases e : lookT leafT z with
  | none => rw [e] at hl; cases hl
  | some r =>
    rw [e] at h
    have h : (if leafOk z ps = true then some (r, ([] : List Str)) else none) = some (_, ks) := h
    split at h
    · cases h
      rfl
    · cases h
def partsL (z : Str) (ps : List D) : List D := if isLf z = true then [] else ps
/-- a term, and what it has -/
structure Tm (x : D) (z : Str) (ps : List D) : Prop where
  sq : seqD x (.str z :: ps)
  lab : z ∈ labs
  gd : gdsB ps = true
  form : ∃ r ks, formL z ps = some (r, ks) ∧ kd x = some r
  kds : ∀ p ∈ partsL z ps, (kd p).isSome = true
  wt_ : wt x = wts ps + 2
theorem kd_sq {x : D} {ds : List D} (h : seqD x ds) : kd x = kdl ds := by rcases h with rfl | rfl <;> rfl
theorem tm_of {x : D} (hk : (kd x).isSome = true) (hg : gdB x = true) : ∃ z ps, Tm x z ps := by
  have hs : ∃ ds, seqD x ds := by cases x <;> first | exact ⟨_, .inl rfl⟩ | exact ⟨_, .inr rfl⟩ | cases hk
  obtain ⟨ds, hs⟩ := hs
  have hgs : gdsB ds = true := by rcases hs with rfl | rfl <;> exact hg
  have e := kd_sq hs
  rw [e] at hk
  match ds, hs, hgs, hk, e with
  | [], _, _, hk, _ => cases hk
  | d :: ps, hs, hgs, hk, e =>
    have hd : ∃ z, d = .str z := by cases d <;> first | exact ⟨_, rfl⟩ | cases hk
    obtain ⟨z, rfl⟩ := hd
    have hk : (match formL z ps with | none => (none : Option Str) | some p => if oks ps p.2 = true then some p.1 else none).isSome = true := hk
    have e : kd x = (match formL z ps with | none => (none : Option Str) | some p => if oks ps p.2 = true then some p.1 else none) := e
    cases hf : formL z ps with
    | none => rw [hf] at hk; cases hk
    | some p =>
      obtain ⟨r, ks⟩ := p
      rw [hf] at hk e
      have hk : (if oks ps ks = true then some r else none).isSome = true := hk
      have e : kd x = (if oks ps ks = true then some r else none) := e
      cases ho : oks ps ks with
      | false => rw [ho] at hk; cases hk
      | true =>
        rw [ho] at e
        refine ⟨z, ps, hs, of_decide_eq_true (gds_mem hgs _ (List.mem_cons_self ..)), gds_of fun d hd => gds_mem hgs d (List.mem_cons_of_mem _ hd), ⟨r, ks, hf, e⟩, fun p hp => ?_, ?_⟩
        · unfold partsL at hp
          split at hp
          · cases hp
          · rename_i hl
            exact oks_all ps ks (form_nonleaf hf (by simpa using hl)) ho p hp
        · rcases hs with rfl | rfl
          · show (1 + wts ps) + 1 = _
            omega
          · show (1 + wts ps) + 1 = _
            omega
theorem wts_app : ∀ a b : List D, wts (a ++ b) = wts a + wts b
  | [], b => (Nat.zero_add _).symm
  | d :: a, b => by
    show wt d + wts (a ++ b) = wt d + wts a + wts b
    rw [wts_app a b]
    omega
theorem wts_parts (z : Str) (ps : List D) : wts (partsL z ps) ≤ wts ps := by
  unfold partsL
  split
  · exact Nat.zero_le _
  · exact Nat.le_refl _
theorem posts_app : ∀ a b : List D, posts (a ++ b) = posts a ++ posts b
  | [], _ => rfl
  | d :: a, b => by
    show post d ++ posts (a ++ b) = (post d ++ posts a) ++ posts b
    rw [posts_app a b, List.append_assoc]
theorem post_sq {x : D} {z : Str} {ps : List D} (h : seqD x (.str z :: ps)) : post x = posts (partsL z ps) ++ [x] := by
  have e : postl (.str z :: ps) = posts (partsL z ps) := by
    show (if isLf z = true then [] else posts ps) = _
    unfold partsL
    split <;> rfl
  rcases h with rfl | rfl
  · show postl _ ++ _ = _
    rw [e]
  · show postl _ ++ _ = _
    rw [e]
theorem partsR_sq {x : D} {z : Str} {ps : List D} (h : seqD x (.str z :: ps)) : seqD (partsR x) (partsL z ps) := by
  have e : (if isLf z = true then ([] : List D) else ps) = partsL z ps := rfl
  rcases h with rfl | rfl
  · show seqD (if isLf z = true then .tup [] else .lst ps) _
    rw [← e]
    split
    · exact .inr rfl
    · exact .inl rfl
  · show seqD (if isLf z = true then .tup [] else .tup ps) _
    rw [← e]
    split
    · exact .inr rfl
    · exact .inr rfl
theorem items_sq {x : D} {ds : List D} (h : seqD x ds) : itemsD x = some ds := by rcases h with rfl | rfl <;> rfl
theorem cut_drop (M ts : List D) : DL.cutD (M ++ ts) (some (M.length : Int)) none = ts := by
  unfold DL.cutD
  have e1 : HT.sIx (M ++ ts).length 0 (some (M.length : Int)) = M.length := by
    unfold HT.sIx
    rw [List.length_append]
    simp
    try (intro h; omega)
  have e2 : HT.sIx (M ++ ts).length (M ++ ts).length none = (M ++ ts).length := rfl
  rw [e1, e2, List.drop_left, List.length_append, Nat.add_sub_cancel_left, List.take_length]
/-! what still waits -/
def oD : Option Str → D
  | none => .non
  | some s => .str s
def enc (q : D × Option Str) : D := .tup [q.1, oD q.2]
def ok1 (q : D × Option Str) : Bool := match q.2 with
  | none => (kd q.1).isSome
  | some k => decide (kd q.1 = some k)
def zipW : List D → List Str → List (D × Option Str)
  | [], _ => []
  | _ :: _, [] => []
  | p :: ps, k :: ks => (p, some k) :: zipW ps ks
theorem ok_zip : ∀ (ps : List D) (ks : List Str), (zipW ps ks).all ok1 = oks ps ks
  | [], _ => rfl
  | _ :: _, [] => rfl
  | p :: ps, k :: ks => by
    show (decide (kd p = some k) && (zipW ps ks).all ok1) = (decide (kd p = some k) && oks ps ks)
    rw [ok_zip ps ks]
theorem enc_zip : ∀ (ps : List D) (ks : List Str), zipD ps (ks.map D.str) = (zipW ps ks).map enc
  | [], _ => rfl
  | _ :: _, [] => rfl
  | p :: ps, k :: ks => by
    show _ :: zipD ps (ks.map D.str) = _ :: (zipW ps ks).map enc
    rw [enc_zip ps ks]
    rfl
theorem wts_zip : ∀ (ps : List D) (ks : List Str), wts ((zipW ps ks).map (·.1)) ≤ wts ps
  | [], _ => Nat.le_refl _
  | _ :: _, [] => Nat.zero_le _
  | p :: ps, k :: ks => by
    show wt p + wts ((zipW ps ks).map (·.1)) ≤ wt p + wts ps
    have := wts_zip ps ks
    omega
theorem mem_zip : ∀ (ps : List D) (ks : List Str), ∀ q ∈ zipW ps ks, q.1 ∈ ps
  | [], _, _, h => by cases h
  | _ :: _, [], _, h => by cases h
  | p :: ps, k :: ks, q, h => by
    rcases List.mem_cons.mp h with e | e
    · subst e
      exact List.mem_cons_self ..
    · exact List.mem_cons_of_mem _ (mem_zip ps ks q e)
theorem form_none {p : D} (h : formO p = none) : kd p = none := by
  have key : ∀ ds, (∀ z ps, ds = D.str z :: ps → formL z ps = none) → kdl ds = none := by
    intro ds hh
    match ds, hh with
    | [], _ => rfl
    | d :: ps, hh =>
      cases d with
      | str z =>
        show (match formL z ps with | none => (none : Option Str) | some p => if oks ps p.2 = true then some p.1 else none) = none
        rw [hh z ps rfl]
      | _ => rfl
  cases p with
  | lst ds => exact key ds fun z ps e => by subst e; exact h
  | tup ds => exact key ds fun z ps e => by subst e; exact h
  | _ => rfl
theorem form_some {p : D} {r : Str} {ks : List Str} (h : formO p = some (r, ks)) : ∃ z ps, seqD p (.str z :: ps) ∧ formL z ps = some (r, ks) ∧ kd p = if oks ps ks = true then some r else none := by
  have key : ∀ ds z ps, ds = D.str z :: ps → formL z ps = some (r, ks) → kdl ds = if oks ps ks = true then some r else none := by
    intro ds z ps e hf
    subst e
    show (match formL z ps with | none => (none : Option Str) | some p => if oks ps p.2 = true then some p.1 else none) = _
    rw [hf]
  cases p with
  | lst ds =>
    match ds, h with
    | [], h => cases h
    | d :: ps, h => cases d <;> first | exact ⟨_, ps, .inl rfl, h, key _ _ ps rfl h⟩ | cases h
  | tup ds =>
    match ds, h with
    | [], h => cases h
    | d :: ps, h => cases d <;> first | exact ⟨_, ps, .inr rfl, h, key _ _ ps rfl h⟩ | cases h
  | _ => cases h
def Good (d : D) : Prop := (kd d).isSome = true ∧ gdB d = true
theorem Tm.goods {x : D} {z : Str} {ps : List D} (h : Tm x z ps) : ∀ p ∈ partsL z ps, Good p := fun p hp => ⟨h.kds p hp, gds_mem h.gd p (by
  unfold partsL at hp
  split at hp
  · cases hp
  · exact hp)⟩
theorem tupF_sq {x : D} {z : Str} {ps : List D} (h : seqD x (.str z :: ps)) : tupF x = .tup (.str z :: (if isLf z = true then ps else tupfs (partsL z ps))) := by
  have e : tupl (.str z :: ps) = .str z :: (if isLf z = true then ps else tupfs (partsL z ps)) := by
    show .str z :: (if isLf z = true then ps else tupfs ps) = _
    unfold partsL
    split <;> rfl
  rcases h with rfl | rfl
  · show D.tup _ = _
    rw [e]
  · show D.tup _ = _
    rw [e]
theorem tupfs_map : ∀ ds : List D, tupfs ds = ds.map tupF
  | [] => rfl
  | d :: ds => by
    show tupF d :: tupfs ds = _
    rw [tupfs_map ds]
    rfl
section
variable {P : Program} {w : World} {K : PySem.W.Frag} {mg : Str → Option Value} {base : Heap}
def g__in_tuples : FP := F2 fun x y C _ => ∃ z ps tl, seqD x (.str z :: ps) ∧ z ∈ labs ∧ y = .lst tl ∧ ps.length ≤ 1000 ∧ tl.length ≤ 1000 ∧ C (.tup (.str z :: (if isLf z = true then ps else tl)))
def g_is_leaf' : FP := F1 fun x C _ => ∃ z ps, seqD x (.str z :: ps) ∧ z ∈ labs ∧ C (.bl (isLf z))
theorem ok_is_leaf (T : Txt w K mg) : FnG P w K mg base CX0 1 T.f_is_leaf T.fd_is_leaf ["term"] (spP K g_is_leaf') := by
  refine fnP0 T.F_is_leaf sc_is_leaf F1_len (fun tr O0 H0 Er cdv A outer s H E hgd hr =>
      (pss_one (ds_ret (ps_ret (de_op (D_inK T.t_LEAF_KINDS) (pe_cmpR (op_inK (w := w) T.t_LEAF_KINDS) (de_op D_ix (pe_ix ix_seq (de_var (pv 0)) (de_v (de_int pe_int)) (fun _ _ => rfl))) (de_v (de_ob (C8.pe_gc (by rfl) T.c_LEAF_KINDS))) rfl)))))) ?_
  rintro ds C E ⟨x, rfl, z, ps, hx, hz, q⟩
  walk_at "dl"
  refine ix_sq hx at_0 ⟨z, rfl, hz, ?_⟩
  unfold isLf at q
  cases e : lookT leafT z with
  | some r =>
    rw [e] at q
    rw [leafTab_some e]
    exact q
  | none =>
    rw [e] at q
    rw [leafTab_none e]
    exact q
theorem ok__in_tuples (T : Txt w K mg) : FnG P w K mg base CX0 2 T.f__in_tuples T.fd__in_tuples ["part", "parts"] (spP K g__in_tuples) := by
  have K_is_leaf := ok_is_leaf (P := P) (w := w) (base := base) T
  refine fnP0 T.F__in_tuples sc__in_tuples F2_len (fun tr O0 H0 Er cdv A outer s H E hgd hr =>
      (pss_one (ds_ret (ps_ret (de_ife (pe_ifExp (dt_val (pt_val (de_callP (pe_callG K_is_leaf hgd (hr.mono (by decide)) (by rfl) T.g_is_leaf T.F_is_leaf.kp T.b_is_leaf .nil pass0 (da_cons (pa_cons (de_var (pv 0)) (da_nil pa_nil))))))) (de_cb D_tupOf (pe_callTy call_tuple_of (by rfl) T.m_tuple (by decide +kernel) (da_one (pa_cons (de_v (de_var (pv 0))) pa_nil)))) (de_tup (pe_tup (da_cons (pa_cons (de_op D_ix (pe_ix ix_seq (de_var (pv 0)) (de_v (de_int pe_int)) (fun _ _ => rfl))) (da_star (pa_star (de_var (pv 1)) (da_nil pa_nil))))))))))))) ?_
  rintro ds C E ⟨x, y, rfl, z, ps, tl, hx, hz, rfl, hp, ht, q⟩
  walk_at "dl"
  refine ⟨_, rfl, z, ps, hx, hz, _, rfl, ?_⟩
  cases e : isLf z with
  | true =>
    rw [e] at q
    exact iteT ⟨_, items_sq hx, q⟩
  | false =>
    rw [e] at q
    exact iteF (ix_sq hx at_0 ⟨Nat.le_trans (Nat.add_le_add_right ht 1) (by decide), q⟩)
def g_ended (P : Program) (w : World) (K : PySem.W.Frag) (mg : Str → Option Value) (base : Heap) : FP := F2 fun x y C _ => ∃ f, y = .ob (.ref f) ∧ HeldG P w K mg base 1 f (spP K g_parts_of) ∧ (kd x).isSome = true ∧ gdB x = true ∧ wt x ≤ 1000 ∧ C (.lst (post x))
theorem ok_ended (T : Txt w K mg) : FnG P w K mg base CX0 2 T.f_ended T.fd_ended ["whole", "parts_of"] (spP K (g_ended P w K mg base)) := by
  refine fnP0 T.F_ended sc_ended F2_len (fun tr O0 H0 Er cdv A outer s H E hgd hr =>
      (dss_cons (pss_cons (ds_setO (ps_set (i := 2) sc_ended.nd rfl (.inl rfl) (de_lst (pe_lst (da_nil pa_nil)))))
      (dss_cons (pss_cons (ds_setO (ps_set (i := 3) sc_ended.nd rfl (.inl rfl) (de_lst (pe_lst (da_cons (pa_cons (de_var (pv 0)) (da_nil pa_nil)))))))
      (dss_cons (pss_cons (ds_while (ps_while PassesOwn.never (dt_tru (pt_truth (de_vw (pv 3)) (by intro _; rfl)))
        (dss_cons (pss_cons (ds_set (ps_set (i := 4) sc_ended.nd rfl (.inl rfl) (de_pop (pe_bm0 PySem.F.plainAttrs_list PySem.F.slot_list_pop PySem.F.type_list_pop mt_pop (pv 3)))))
        (dss_cons (pss_cons (ds_expr (ps_expr (de_app (pe_bm PySem.F.plainAttrs_list PySem.F.slot_list_append PySem.F.type_list_append mt_append (pv 2) (da_cons (pa_cons (de_var (pv 4)) (da_nil pa_nil)))))))
        (pss_one (ds_expr (ps_expr (de_ext (pe_bm PySem.F.plainAttrs_list PySem.F.slot_list_extend PySem.F.type_list_extend mt_extA (pv 3) (da_cons (pa_cons (de_callHK (P := P) (w := w) (K := K) (mg := mg) (base := base) rfl (pe_callH (k := 1) (i := 1) hgd (hr.mono (by decide)) rfl (Or.inl rfl) (da_cons (pa_cons (de_var (pv 4)) (da_nil pa_nil))))) (da_nil pa_nil))))))))))))))
      (ds_frz (i := 2) (pss_one (ds_ret (ps_ret (de_rev (pe_rev (de_var (pv 2))))))))))))))) ?_
  rintro ds C E ⟨x, y, rfl, f, rfl, hf, hk, hg, hw, q⟩
  walk_at "dl"
  have loop : ∀ (n : Nat) (F W : List D) (y : Sl) (e : DN), wts W < n → (∀ d ∈ W, Good d) → F.length + wts W ≤ 1000 → (∀ y', e.nx ⟨[.da x, .da (.ob (.ref f)), .ow (F ++ (posts W).reverse), .ow [], y'], 0⟩) →
      whD (dTru (dVw 3)) (dSeq (dSet 4 (dPop 3)) (dSeq (dDrop (dApp 2 (daCons (dVar 4) daNil))) (dDrop (dExt 3 (daCons (dCallH P w K mg base 1 1 (daCons (dVar 4) daNil)) daNil))))) n ⟨[.da x, .da (.ob (.ref f)), .ow F, .ow W, y], 0⟩ e E := by
    intro n
    induction n with
    | zero => intro F W y e h; exact absurd h (Nat.not_lt_zero _)
    | succ n ih =>
      intro F W y e hn hW hl hq
      unfold whD
      rcases List.eq_nil_or_concat W with rfl | ⟨W0, p, rfl⟩
      · walk_at "dl"
        have := hq y
        rw [show (posts []).reverse = [] from rfl, List.append_nil] at this
        exact this
      · rw [List.concat_eq_append] at *
        have hp : Good p := hW p (List.mem_append_right _ (List.mem_cons_self ..))
        obtain ⟨z, ps, tm⟩ := tm_of hp.1 hp.2
        have w1 : wts (W0 ++ [p]) = wts W0 + (wts ps + 2) := by
          rw [wts_app]
          show wts W0 + (wt p + 0) = _
          rw [tm.wt_]
        have w2 := wts_parts z ps
        walk_at "dl"
        refine (if_pos (by rw [List.isEmpty_eq_false_iff]; exact List.append_ne_nil_of_right_ne_nil _ (by intro z; cases z))).mpr ⟨W0, p, rfl, ⟨_, rfl⟩, ?_, ⟨_, rfl⟩, f, rfl, _, hf, _, rfl, z, ps, tm.sq, tm.lab, partsL z ps, items_sq (partsR_sq tm.sq), ?_, ?_⟩
        · exact Nat.lt_of_le_of_lt (Nat.le_trans (Nat.le_add_right _ _) hl) (by decide)
        · have l1 := len_wts W0
          have l2 := len_wts (partsL z ps)
          exact Nat.le_trans (show W0.length + (partsL z ps).length ≤ 1000 by omega) (by decide)
        · refine ih _ _ _ _ ?_ ?_ ?_ ?_
          · rw [wts_app]
            omega
          · intro d hd
            rcases List.mem_append.mp hd with h | h
            · exact hW d (List.mem_append_left _ h)
            · exact tm.goods d h
          · rw [wts_app, List.length_append, List.length_singleton]
            omega
          · intro y'
            have := hq y'
            rw [posts_app, show posts [p] = post p ++ [] from rfl, List.append_nil, post_sq tm.sq, ← List.append_assoc, ← posts_app, List.reverse_append] at this
            rw [List.append_assoc]
            exact this
  refine ⟨wt x + 1, loop _ [] [x] .un _ ?_ ?_ ?_ ?_⟩
  · show wt x + 0 < wt x + 1
    omega
  · intro d hd
    rw [List.mem_singleton.mp hd]
    exact ⟨hk, hg⟩
  · show 0 + (wt x + 0) ≤ 1000
    omega
  · intro y'
    walk_at "dl"
    rw [List.reverse_reverse, show posts [x] = post x ++ [] from rfl, List.append_nil]
    exact q
def g_bottom_up (P : Program) (w : World) (K : PySem.W.Frag) (mg : Str → Option Value) (base : Heap) : FP := F3 fun x y z C _ => ∃ f g, y = .ob (.ref f) ∧ z = .ob (.ref g) ∧ HeldG P w K mg base 1 f (spP K g_parts_of) ∧ HeldG P w K mg base 2 g (spP K g__in_tuples) ∧ (kd x).isSome = true ∧ gdB x = true ∧ wt x ≤ 1000 ∧ C (tupF x)
theorem ok_bottom_up (T : Txt w K mg) : FnG P w K mg base CX0 3 T.f_bottom_up T.fd_bottom_up ["whole", "parts_of", "make"] (spP K (g_bottom_up P w K mg base)) := by
  have K_ended := ok_ended (P := P) (w := w) (base := base) T
  refine fnP0 T.F_bottom_up sc_bottom_up F3_len (fun tr O0 H0 Er cdv A outer s H E hgd hr =>
      (dss_cons (pss_cons (ds_setO (ps_set (i := 3) sc_bottom_up.nd rfl (.inl rfl) (de_lst (pe_lst (da_nil pa_nil)))))
      (dss_cons (pss_cons (ds_for (tg := (.nm 4)) (ps_for PassesOwn.never rfl (di_seq (pi_seqA (de_callP (pe_callG K_ended hgd (hr.mono (by decide)) (by rfl) T.g_ended T.F_ended.kp T.b_ended .nil pass0 (da_cons (pa_cons (de_var (pv 0)) (da_cons (pa_cons (de_var (pv 1)) (da_nil pa_nil))))))))) (pg_name (i := 4) sc_bottom_up.nd rfl (.inl rfl))
        (dss_cons (pss_cons (ds_set (ps_set (i := 5) sc_bottom_up.nd rfl (.inl rfl) (de_op D_sub (pe_op op_sub (de_cb D_len (pe_callB call_lenA (by rfl) T.m_len (by decide +kernel) (da_one (pa_cons (de_vw (pv 3)) pa_nil)))) (de_v (de_cb D_len (pe_callB call_lenA (by rfl) T.m_len (by decide +kernel) (da_one (pa_cons (de_v (de_callHK (P := P) (w := w) (K := K) (mg := mg) (base := base) rfl (pe_callH (k := 1) (i := 1) hgd (hr.mono (by decide)) rfl (Or.inl rfl) (da_cons (pa_cons (de_var (pv 4)) (da_nil pa_nil)))))) pa_nil)))))))))
        (dss_cons (pss_cons (ds_set (ps_set (i := 6) sc_bottom_up.nd rfl (.inl rfl) (de_slO (pe_slice sl_list (pv 3) (do_some (po_some (de_var (pv 5)))) (do_none po_none)))))
        (dss_cons (pss_cons (ds_delFrom (ps_delFrom (pv 3) (de_var (pv 5))))
        (pss_one (ds_expr (ps_expr (de_app (pe_bm PySem.F.plainAttrs_list PySem.F.slot_list_append PySem.F.type_list_append mt_append (pv 3) (da_cons (pa_cons (de_callHK (P := P) (w := w) (K := K) (mg := mg) (base := base) rfl (pe_callH (k := 2) (i := 2) hgd (hr.mono (by decide)) rfl (Or.inl rfl) (da_cons (pa_cons (de_var (pv 4)) (da_cons (pa_cons (de_var (pv 6)) (da_nil pa_nil))))))) (da_nil pa_nil))))))))))))))))
      (pss_one (ds_ret (ps_ret (de_opL (i := 3) D_ix (pe_ix ix_seq (pv 3) (de_int pe_int) (fun _ _ => rfl))))))))))) ?_
  rintro ds C E ⟨x, y, z, rfl, f, g, rfl, rfl, hf, hg, hk, hgd, hw, q⟩
  walk_at "dl"
  refine ⟨_, _, rfl, f, rfl, hf, hk, hgd, hw, _, rfl, ?_⟩
  generalize hfb : (dSeq (dSet 5 (dOp (dI0 fun i j => D.int (i - j)) (dCB dLen (daOne (dVw 3))) (dCB dLen (daOne (dCallH P w K mg base 1 1 (daCons (dVar 4) daNil))))))
              (dSeq (dSet 6 (dSlO 3 (dPart (dVar 5)) dNoPart)) (dSeq (dDelFrom 3 (dVar 5)) (dDrop (dApp 3 (daCons (dCallH P w K mg base 2 2 (daCons (dVar 4) (daCons (dVar 6) daNil))) daNil)))))) = fb
  have loop : ∀ (n : Nat) (xs : List D) (M R : List D) (y4 y5 y6 : Sl) (e : DN), wts xs < n → (∀ d ∈ xs, Good d) → M.length + wts xs ≤ 1000 →
      (∀ y4 y5 y6, forD (.nm 4) fb R ⟨[.da x, .da (.ob (.ref f)), .da (.ob (.ref g)), .ow (M ++ xs.map tupF), y4, y5, y6], 0⟩ e E) →
      forD (.nm 4) fb (posts xs ++ R) ⟨[.da x, .da (.ob (.ref f)), .da (.ob (.ref g)), .ow M, y4, y5, y6], 0⟩ e E := by
    intro n
    induction n with
    | zero => intro xs M R y4 y5 y6 e h; exact absurd h (Nat.not_lt_zero _)
    | succ n ih =>
      intro xs M R y4 y5 y6 e hn hx hl hq
      match xs, hn, hx, hl, hq with
      | [], _, _, _, hq =>
        have := hq y4 y5 y6
        rw [List.map_nil, List.append_nil] at this
        exact this
      | p :: ys, hn, hx, hl, hq =>
        have hp : Good p := hx p (List.mem_cons_self ..)
        obtain ⟨z, ps, tm⟩ := tm_of hp.1 hp.2
        have w1 : wts (p :: ys) = (wts ps + 2) + wts ys := by
          show wt p + wts ys = _
          rw [tm.wt_]
        have w2 := wts_parts z ps
        rw [w1] at hn hl
        rw [show posts (p :: ys) = post p ++ posts ys from rfl, post_sq tm.sq, List.append_assoc, List.append_assoc]
        refine ih (partsL z ps) M _ _ _ _ _ (by omega) tm.goods (by omega) fun y4 y5 y6 => ?_
        rw [List.cons_append, List.nil_append]
        unfold forD
        subst hfb
        walk_at "dl"
        have lm : ((partsL z ps).map tupF).length = (partsL z ps).length := List.length_map _
        have ed : (((M ++ (partsL z ps).map tupF).length : Nat) : Int) - ((partsL z ps).length : Int) = (M.length : Int) := by
          rw [List.length_append, lm]
          omega
        have l2 := len_wts (partsL z ps)
        refine ⟨f, rfl, _, hf, _, rfl, z, ps, tm.sq, tm.lab, _, len_sq (partsR_sq tm.sq), ⟨_, rfl⟩, ⟨_, rfl⟩, _, M.length, ed, rfl, ?_, ⟨_, rfl⟩, g, rfl, _, hg, ?_⟩
        · rw [List.length_append]
          omega
        rw [ed, cut_drop]
        have l3 := len_wts ps
        refine ⟨_, _, rfl, z, ps, (partsL z ps).map tupF, tm.sq, tm.lab, rfl, by omega, by rw [lm]; omega, ?_, ?_⟩
        · rw [List.take_left]
          exact Nat.lt_of_le_of_lt (show M.length ≤ 1000 by omega) (by decide)
        rw [List.take_left]
        have et : D.tup (.str z :: (if isLf z = true then ps else (partsL z ps).map tupF)) = tupF p := by
          rw [tupF_sq tm.sq, tupfs_map]
        rw [et]
        refine ih ys _ _ _ _ _ _ (by omega) (fun d hd => hx d (List.mem_cons_of_mem _ hd)) (by rw [List.length_append, List.length_singleton]; omega) fun y4 y5 y6 => ?_
        have := hq y4 y5 y6
        rw [List.map_cons] at this
        rw [List.append_assoc]
        exact this
  have := loop (wt x + 1) [x] [] [] .un .un .un ⟨fun S1 => (∃ ds, S1.g[3]? = some (Sl.ow ds)) ∧ ∃ ds, S1.g[3]? = some (Sl.ow ds) ∧ ∃ d, atI ds 0 = some d ∧ C d, fun d _ => C d, fun _ => False, fun _ => False⟩
    (by show wt x + 0 < wt x + 1; omega) (fun d hd => by rw [List.mem_singleton.mp hd]; exact ⟨hk, hgd⟩) (by show 0 + (wt x + 0) ≤ 1000; omega) fun y4 y5 y6 => by
      unfold forD
      exact ⟨⟨_, rfl⟩, _, rfl, tupF x, at_0, q⟩
  rw [show posts [x] = post x ++ [] from rfl, List.append_nil, List.append_nil] at this
  exact this
def g_term_of : FP := F1 fun x C _ => gdB x = true ∧ wt x ≤ 1000 ∧ C (if (kd x).isSome = true then tupF x else .non)
theorem ok_term_of (T : Txt w K mg) : FnG P w K mg base CX0 6 T.f_term_of T.fd_term_of ["value"] (spP K g_term_of) := by
  have K_bottom_up := ok_bottom_up (P := P) (w := w) (base := base) T
  have K__form_of := ok__form_of (P := P) (w := w) (base := base) T
  refine fnP0 T.F_term_of sc_term_of F1_len (fun tr O0 H0 Er cdv A outer s H E hgd hr =>
      (dss_cons (pss_cons (ds_setO (ps_set (i := 1) sc_term_of.nd rfl (.inl rfl) (de_lst (pe_lst (da_cons (pa_cons (de_tup (pe_tup (da_cons (pa_cons (de_var (pv 0)) (da_cons (pa_cons (de_non pe_non) (da_nil pa_nil))))))) (da_nil pa_nil)))))))
      (dss_cons (pss_cons (ds_while (ps_while PassesOwn.never (dt_tru (pt_truth (de_vw (pv 1)) (by intro _; rfl)))
        (dss_cons (pss_cons (ds_asg (tg := (.tp [2, 3])) (ps_asg (de_pop (pe_bm0 PySem.F.plainAttrs_list PySem.F.slot_list_pop PySem.F.type_list_pop mt_pop (pv 1))) (pg_tup rfl (pgs_cons (pg_name (i := 2) sc_term_of.nd rfl (.inl rfl)) (pgs_cons (pg_name (i := 3) sc_term_of.nd rfl (.inl rfl)) pgs_nil)))))
        (dss_cons (pss_cons (ds_set (ps_set (i := 4) sc_term_of.nd rfl (.inl rfl) (de_callP (pe_callG K__form_of hgd (hr.mono (by decide)) (by rfl) T.g__form_of T.F__form_of.kp T.b__form_of .nil pass0 (da_cons (pa_cons (de_var (pv 2)) (da_nil pa_nil)))))))
        (dss_cons (pss_cons (ds_if (ps_if (PW.pt (dw_or (pw_or (dt_cmp D_isN (pt_cmpR op_isN (de_var (pv 4)) (de_v (de_non pe_non)) (nomark _))) (pw_or1 (dt_cmp (D_in true) (pt_cmpR op_notIn_seq (de_var (pv 3)) (de_v (de_tup (pe_tup (da_cons (pa_cons (de_non pe_non) (da_cons (pa_cons (de_op D_ix (pe_ix ix_seq (de_var (pv 4)) (de_v (de_int pe_int)) (fun _ _ => rfl))) (da_nil pa_nil)))))))) rfl))))))
          (pss_one (ds_ret (ps_ret (de_non pe_non))))
          (dss_nil pss_nil)))
        (pss_one (ds_expr (ps_expr (de_ext (pe_bm PySem.F.plainAttrs_list PySem.F.slot_list_extend PySem.F.type_list_extend mt_extA (pv 1) (da_cons (pa_cons (de_listZip (pe_listZip rfl (by rfl) T.m_list (by rfl) T.m_zip (da_cons (pa_cons (de_slA (pe_slice sl_all (de_var (pv 2)) (do_some (po_some (de_int pe_int))) (do_none po_none))) (da_cons (pa_cons (de_op D_ix (pe_ix ix_seq (de_var (pv 4)) (de_v (de_int pe_int)) (fun _ _ => rfl))) (da_nil pa_nil))))))) (da_nil pa_nil))))))))))))))))
      (pss_one (ds_ret (ps_ret (de_callP (pe_callG K_bottom_up hgd (hr.mono (by decide)) (by rfl) T.g_bottom_up T.F_bottom_up.kp T.b_bottom_up .nil pass0 (da_cons (pa_cons (de_var (pv 0)) (da_cons (pa_cons (de_ob (pe_glob (v := .ref T.f_parts_of) (by rfl) T.g_parts_of rfl)) (da_cons (pa_cons (de_ob (pe_glob (v := .ref T.f__in_tuples) (by rfl) T.g_in_tuples_forms rfl)) (da_nil pa_nil))))))))))))))))) ?_
  rintro ds C E ⟨x, rfl, hg, hw, q⟩
  walk_at "dl"
  have loop : ∀ (n : Nat) (W : List (D × Option Str)) (y2 y3 y4 : Sl) (e : DN), wts (W.map (·.1)) < n → (∀ q ∈ W, gdB q.1 = true) → wts (W.map (·.1)) ≤ 1000 →
      (W.all ok1 = true → ∀ y2 y3 y4, e.nx ⟨[.da x, .ow [], y2, y3, y4], 0⟩) → (W.all ok1 = false → ∀ S, e.rt .non S) →
      whD (dTru (dVw 1)) (dSeq (dAsg (dPop 1) (Tg.tp [2, 3])) (dSeq (dSet 4 (dCallP g__form_of (daCons (dVar 2) daNil)))
        (dSeq (dIfS (dOr (dTst (dOp dIsN (dVar 4) (dC D.non))) (dTst (dOp (dIn true) (dVar 3) (dTup (daCons (dC D.non) (daCons (dOp dIx (dVar 4) (dC (D.int 0))) daNil)))))) (dRet (dC D.non)) dNext)
          (dDrop (dExt 1 (daCons (dListZip (daCons (dSlA (dVar 2) (dPart (dC (D.int 1))) dNoPart) (daCons (dOp dIx (dVar 4) (dC (D.int 1))) daNil))) daNil)))))) n ⟨[.da x, .ow (W.map enc), y2, y3, y4], 0⟩ e E := by
    intro n
    induction n with
    | zero => intro W y2 y3 y4 e h; exact absurd h (Nat.not_lt_zero _)
    | succ n ih =>
      intro W y2 y3 y4 e hn hW hl hq1 hq2
      unfold whD
      rcases List.eq_nil_or_concat W with rfl | ⟨W0, p, rfl⟩
      · walk_at "dl"
        exact hq1 rfl y2 y3 y4
      · rw [List.concat_eq_append] at *
        obtain ⟨p, o⟩ := p
        have hp : gdB p = true := hW (p, o) (List.mem_append_right _ (List.mem_cons_self ..))
        rw [List.map_append, wts_app] at hn hl
        have w1 : wts ([(p, o)].map (·.1)) = wt p := Nat.add_zero _
        rw [w1] at hn hl
        rw [List.map_append, show [(p, o)].map enc = [D.tup [p, oD o]] from rfl]
        have ea : (W0 ++ [(p, o)]).all ok1 = (W0.all ok1 && ok1 (p, o)) := by
          rw [List.all_append]
          show (W0.all ok1 && (ok1 (p, o) && true)) = _
          rw [Bool.and_true]
        rw [ea] at hq1 hq2
        walk_at "dl"
        refine (if_pos (by rw [List.isEmpty_eq_false_iff]; exact List.append_ne_nil_of_right_ne_nil _ (by intro z; cases z))).mpr ⟨_, _, rfl, ?_⟩
        refine ⟨_, rfl, _, rfl, _, rfl, hp, ?_, ?_⟩
        · have := wt_pos p
          omega
        cases hf : formO p with
        | none =>
          refine ⟨_, rfl, true, rfl, (if_pos rfl).mpr (hq2 ?_ _)⟩
          have : ok1 (p, o) = false := by
            have k := form_none hf
            cases o with
            | none => show (kd p).isSome = false; rw [k]; rfl
            | some s => show decide (kd p = some s) = false; rw [k]; rfl
          rw [this, Bool.and_false]
        | some c =>
          obtain ⟨r, ks⟩ := c
          obtain ⟨z, ps, sq, hfl, hkd⟩ := form_some hf
          have gp : gdsB ps = true := gds_of fun d hd => gds_mem (ds := .str z :: ps) (by rcases sq with rfl | rfl <;> exact hp) d (List.mem_cons_of_mem _ hd)
          have wp : wt p = wts ps + 2 := by
            rcases sq with rfl | rfl
            · show (1 + wts ps) + 1 = _
              omega
            · show (1 + wts ps) + 1 = _
              omega
          refine ⟨_, rfl, false, rfl, (if_neg (by decide)).mpr ⟨_, rfl, _, rfl, ix_tup'.mpr ⟨_, at_0, ?_⟩⟩⟩
          have hz := wts_zip ps ks
          have fin : ok1 (p, o) = oks ps ks → ∀ y2 y3 y4, whD (dTru (dVw 1)) (dSeq (dAsg (dPop 1) (Tg.tp [2, 3])) (dSeq (dSet 4 (dCallP g__form_of (daCons (dVar 2) daNil)))
        (dSeq (dIfS (dOr (dTst (dOp dIsN (dVar 4) (dC D.non))) (dTst (dOp (dIn true) (dVar 3) (dTup (daCons (dC D.non) (daCons (dOp dIx (dVar 4) (dC (D.int 0))) daNil)))))) (dRet (dC D.non)) dNext)
          (dDrop (dExt 1 (daCons (dListZip (daCons (dSlA (dVar 2) (dPart (dC (D.int 1))) dNoPart) (daCons (dOp dIx (dVar 4) (dC (D.int 1))) daNil))) daNil)))))) n ⟨[.da x, .ow (W0.map enc ++ zipD ps (ks.map D.str)), y2, y3, y4], 0⟩ e E := fun hok y2 y3 y4 => by
            rw [enc_zip, ← List.map_append]
            have ea2 : (W0 ++ zipW ps ks).all ok1 = (W0.all ok1 && ok1 (p, o)) := by
              rw [List.all_append, ok_zip, hok]
            refine ih _ _ _ _ _ ?_ ?_ ?_ ?_ ?_
            · rw [List.map_append, wts_app]
              omega
            · intro q hq
              rcases List.mem_append.mp hq with h | h
              · exact hW q (List.mem_append_left _ h)
              · exact gds_mem gp _ (mem_zip ps ks q h)
            · rw [List.map_append, wts_app]
              omega
            · rw [ea2]
              exact hq1
            · rw [ea2]
              exact hq2
          have lens : (W0.map enc).length + (zipD ps (ks.map D.str)).length ≤ sizeLine := by
            have l1 := len_wts (W0.map (·.1))
            have l2 := len_wts ps
            rw [List.length_map] at l1
            rw [List.length_map, zipD_lenM]
            exact Nat.le_trans (show W0.length + min ps.length (ks.map D.str).length ≤ 1000 by omega) (by decide)
          cases o with
          | none =>
            have hok : ok1 (p, none) = oks ps ks := by
              show (kd p).isSome = _
              rw [hkd]
              cases oks ps ks <;> rfl
            refine ⟨_, rfl, _, rfl, (if_neg ?_).mpr ⟨⟨_, rfl⟩, _, rfl, ?_⟩⟩
            · show ¬ inV V.non [V.non, V.str r] = false
              rw [inV_cons, show eqV V.non V.non = true from rfl, Bool.true_or]
              decide
            · rcases sq with rfl | rfl
              · refine ⟨_, rfl, ix_tup'.mpr ⟨_, at_1, _, rfl, _, rfl, ?_⟩⟩
                rw [cut_tail]
                exact ⟨lens, fin hok _ _ _⟩
              · refine ⟨_, rfl, ix_tup'.mpr ⟨_, at_1, _, rfl, _, rfl, ?_⟩⟩
                rw [cut_tail]
                exact ⟨lens, fin hok _ _ _⟩
          | some s =>
            have ei : inV (V.str s) [V.non, V.str r] = decide (r = s) := by
              rw [inV_cons, inV_cons, inV_nil, eqV_str, show eqV V.non (V.str s) = false from rfl, Bool.false_or, Bool.or_false]
            by_cases hs : r = s
            rotate_left
            · refine ⟨_, rfl, _, rfl, (if_pos ?_).mpr (hq2 ?_ _)⟩
              · show inV (V.str s) [V.non, V.str r] = false
                rw [ei, decide_eq_false hs]
              · have : ok1 (p, some s) = false := by
                  show decide (kd p = some s) = false
                  rw [hkd]
                  refine decide_eq_false ?_
                  split
                  · intro z
                    exact hs (Option.some.inj z)
                  · intro z
                    cases z
                rw [this, Bool.and_false]
            subst hs
            have hok : ok1 (p, some r) = oks ps ks := by
              show decide (kd p = some r) = _
              rw [hkd]
              cases oks ps ks
              · exact decide_eq_false (by intro z; cases z)
              · exact decide_eq_true rfl
            refine ⟨_, rfl, _, rfl, (if_neg ?_).mpr ⟨⟨_, rfl⟩, _, rfl, ?_⟩⟩
            · show ¬ inV (V.str r) [V.non, V.str r] = false
              rw [ei, decide_eq_true rfl]
              decide
            · rcases sq with rfl | rfl
              · refine ⟨_, rfl, ix_tup'.mpr ⟨_, at_1, _, rfl, _, rfl, ?_⟩⟩
                rw [cut_tail]
                exact ⟨lens, fin hok _ _ _⟩
              · refine ⟨_, rfl, ix_tup'.mpr ⟨_, at_1, _, rfl, _, rfl, ?_⟩⟩
                rw [cut_tail]
                exact ⟨lens, fin hok _ _ _⟩
  refine ⟨wt x + 1, loop _ [(x, none)] .un .un .un _ ?_ ?_ ?_ ?_ ?_⟩
  · show wt x + 0 < wt x + 1
    omega
  · intro d hd
    rw [List.mem_singleton.mp hd]
    exact hg
  · show wt x + 0 ≤ 1000
    omega
  · intro hk y2 y3 y4
    have hk : (kd x).isSome = true := by
      have : ((kd x).isSome && true) = true := hk
      rw [Bool.and_true] at this
      exact this
    rw [if_pos hk] at q
    walk_at "dl"
    exact ⟨_, _, _, rfl, _, _, rfl, rfl, ⟨_, _, ok_parts_of T, T.k_parts_of, T.b_parts_of⟩, ⟨_, _, ok__in_tuples T, T.k__in_tuples, T.b__in_tuples⟩, hk, hg, hw, q⟩
  · intro hk S
    have hk : (kd x).isSome = false := by
      have : ((kd x).isSome && true) = false := hk
      rw [Bool.and_true] at this
      exact this
    rw [hk] at q
    exact q
end
end K03D
end
section
set_option maxHeartbeats 4000000
namespace K03D
open PySem PySem.Spec PyProof.Rows L2 G1 G2 DL K03 R1 StX
variable [TB]
local macro_rules | `(tactic| walk_at "dl") => `(tactic| simp (decide := true) only [dSlA, dSlO, dRev, dPop, dExt, dDelFrom, dCallH, daStar, dRep, dListZip, dDispN, dVals, dInDic, dGetDic, dInK, dIxK, dKget, dStrI, dSplit, dLeS, dRaiseI, dIsnB, dInSign, lookD, plusA_int, plusA_str, plusA_lst, plusA_tup, dVar, dVw, dC, dOp, dOpL, dUn, dCB, daNil, daCons, daOne, dCallP, dCallT, dTup, dLst, dFz, dSet, dSetO, dDrop, dRet, dRetF, dRetO, dCallTN, dRetN, dNext, dBreak, dCont, dSeq, dCut, dIfS, dFrz, dAsg, dPar, bindT, setsD, slotsT, dItL, dItT, dItS, dRng1, dRng2, dFor, dTst, dTru, dNot, dAnd, dOr, dAndV, dOrV, dNotV, dIfE, dLc, dYes, turnD, wipeD, restG, kp, dI0, dI, dNeg, dIsN, dNotN, dIsB, dLen, dIsi, isiTab, dInt, dAbs, dAll, dAny, dTupOf, dListOf, dNoPart, dPart, dSl, dSlL, dFmt, dJs, dM1, dStarts, dApp, dSetIx, dChain, dZip, dEnum, dSigns, dHeard, hideS, hideL, dLcN, dNbeg, dNend, dNcons, dNset, dNapp, dNpop, dDnew, dDisp1, dRaise, dRepr, dIn, flVs, kT_non, kT_bl, kT_int, kT_str, kT_lst, kT_tup, kT_dic, isN_non, isN_bl, isN_int, isN_str, isN_lst, isN_tup, isN_dic, lenD_lst, lenD_tup, lenD_str, it_lst, it_tup, fl_non, fl_bl, fl_int, fl_str, tru_non, tru_bl, tru_int, tru_lst, tru_tup, plus_int, plus_str, plus_lst, plus_tup, ix_lst, ix_tup', ix_str', qe_str, qn_str, qe_int, qn_int, qe_bl, qn_bl, at_0, at_1, at_2, at_l1, at_l2, at_l3, at_k2, at_k3, inV_nil, inV_cons, eqV_str, eqV_int, eqV_bl, Bool.or_false, Bool.or_true, Bool.true_or, Bool.false_or, Bool.and_true, Bool.and_false, decide_eq_true_eq, Bool.not_eq_true', decide_eq_false_iff_not, eq_self, ne_eq, not_true_eq_false, not_false_eq_true, 
  F1, F2, F3, F4, T1, T2, T3, T4, startD, List.append_nil, List.cons_append, List.nil_append, List.map_cons, List.map_nil, List.length_cons, List.length_nil, List.getElem?_cons_zero, List.getElem?_cons_succ, List.getElem?_nil, List.getD_cons_zero, List.getD_cons_succ, Nat.reduceAdd, Nat.reduceSub, Nat.zero_add, List.replicate, List.replicate_zero, List.replicate_succ, List.set_cons_zero, List.set_cons_succ, List.set_nil,
  exists_eq_left, exists_eq_left', exists_eq_right, exists_eq_right', exists_and_left, Option.some.injEq, Sl.da.injEq, Sl.ow.injEq, D.bl.injEq, D.int.injEq, D.str.injEq, D.tup.injEq, D.lst.injEq, D.ob.injEq, List.cons.injEq, and_true, true_and, and_assoc, if_true, if_false, reduceIte, reduceCtorEq, Bool.false_eq_true, Bool.not_true, Bool.not_false, decide_true, decide_false, false_and, and_false, exists_false, false_or, or_false, Option.bind_some, Option.map_some])

section
variable {P : Program} {w : World} {K : PySem.W.Frag} {mg : Str → Option Value} {base : Heap}
/-! ### what is raised -/
theorem raise_term (T : Txt w K mg) {i : Nat} {z : Str} {σ : L2.St} {H : Hp} {E : XK} (hs : σ[i]? = some (some (V.str z))) (hz : z ∈ three) (h : RB T.CT z H E) :
    tMkO T.CT (sp_init K) [] (tCons (tVar i) tNil) σ H fun cls d H' => E cls d H' := by
  have := raise_okT T hz (σ := σ) h
  exact ⟨_, hs, this⟩
/-- a BadTerm with this part -/
def eTm (T : Txt w K mg) (z : Str) : Err := ⟨.ref T.CT, [("part", .str z)]⟩
def g_checked_term (T : Txt w K mg) : FP := F2 fun x y C E => gdB x = true ∧ wt x ≤ 1000 ∧ ∃ z, y = .str z ∧ z ∈ three ∧ if (kd x).isSome = true then C (tupF x) else E (eTm T z)
theorem ok_checked_term (T : Txt w K mg) : FnG P w K mg base (L2.CX P w) 7 T.f_checked_term T.fd_checked_term ["value", "part"] (spP K (g_checked_term T)) := by
  have K_term_of := ok_term_of (P := P) (w := w) (base := base) T
  refine fnP T.F_checked_term sc_checked_term F2_len (fun tr O0 H0 Er cdv A outer s H E hgd hr =>
      (dss_cons (pss_cons (ds_set (ps_set (i := 2) sc_checked_term.nd rfl (.inl rfl) (de_callP (pe_callG K_term_of hgd (hr.mono (by decide)) (by rfl) T.g_term_of T.F_term_of.kp T.b_term_of .nil pass0 (da_cons (pa_cons (de_var (pv 0)) (da_nil pa_nil)))))))
      (dss_cons (pss_cons (ds_if (ps_if (dt_cmp D_isN (pt_cmpR op_isN (de_var (pv 2)) (de_v (de_non pe_non)) (nomark _)))
        (pss_one (ds_raiseI (C := T.CT) (zs := three) (i := 1) (ps_raise rfl (takes_of rfl rfl rfl rfl) (pmk_oex T.oT T.iT T.tT (ok_initT (P := P) (base := base) T) (hr.mono (by decide)) T.bIT .nil pass0 (by rfl) T.g_BadTerm (pa_cons (pv 1) pa_nil))) (fun D' σ H z hs hz h => raise_term T hs hz h)))
        (dss_nil pss_nil)))
      (pss_one (ds_ret (ps_ret (de_var (pv 2)))))))))) ?_
  rintro ds C E ⟨x, y, rfl, hg, hw, z, rfl, hz, q⟩
  walk_at "dl"
  refine ⟨_, rfl, hg, hw, ?_⟩
  cases h : (kd x).isSome with
  | true =>
    rw [h, if_pos rfl] at q
    obtain ⟨zz, ps, tm⟩ := tm_of h hg
    refine ⟨false, ?_, iteF ?_⟩
    · rw [if_pos rfl, tupF_sq tm.sq]
      rfl
    · rw [if_pos rfl]
      exact q
  | false =>
    rw [h, if_neg (by decide)] at q
    exact ⟨true, rfl, iteT ⟨hz, q⟩⟩
def g_is_term : FP := F1 fun x C _ => gdB x = true ∧ wt x ≤ 1000 ∧ C (.bl (kd x).isSome)
theorem ok_is_term (T : Txt w K mg) : FnG P w K mg base CX0 7 T.f_is_term T.fd_is_term ["value"] (spP K g_is_term) := by
  have K_term_of := ok_term_of (P := P) (w := w) (base := base) T
  refine fnP0 T.F_is_term sc_is_term F1_len (fun tr O0 H0 Er cdv A outer s H E hgd hr =>
      (pss_one (ds_ret (ps_ret (de_op D_notN (pe_cmpR op_notN (de_callP (pe_callG K_term_of hgd (hr.mono (by decide)) (by rfl) T.g_term_of T.F_term_of.kp T.b_term_of .nil pass0 (da_cons (pa_cons (de_var (pv 0)) (da_nil pa_nil))))) (de_v (de_non pe_non)) (nomark _))))))) ?_
  rintro ds C E ⟨x, rfl, hg, hw, q⟩
  walk_at "dl"
  refine ⟨_, rfl, hg, hw, ?_⟩
  cases h : (kd x).isSome with
  | true =>
    rw [h] at q
    obtain ⟨zz, ps, tm⟩ := tm_of h hg
    refine ⟨false, ?_, q⟩
    rw [if_pos rfl, tupF_sq tm.sq]
    rfl
  | false =>
    rw [h] at q
    exact ⟨true, rfl, q⟩
theorem form_len {z : Str} {ps qs : List D} (hl : isLf z = false) (h : ps.length = qs.length) : formL z ps = formL z qs := by
  unfold isLf at hl
  unfold formL
  cases e : lookT leafT z with
  | some r => rw [e] at hl; cases hl
  | none => rw [h]
theorem tm_tup {x : D} {z : Str} {ps : List D} (tm : Tm x z ps) : ∃ qs, tupF x = .tup (.str z :: qs) ∧ formL z qs = formL z ps := by
  refine ⟨_, tupF_sq tm.sq, ?_⟩
  cases h : isLf z with
  | true => rw [if_pos rfl]
  | false =>
    rw [if_neg (by decide)]
    refine form_len h ?_
    rw [tupfs_map, List.length_map]
    unfold partsL
    rw [h]
    rfl
def g_is_word (T : Txt w K mg) : FP := F1 fun x C E => gdB x = true ∧ wt x ≤ 1000 ∧ match kd x with
  | some r => C (.bl (decide (r = "word")))
  | none => E (eTm T "term")
theorem ok_is_word (T : Txt w K mg) : FnG P w K mg base (L2.CX P w) 8 T.f_is_word T.fd_is_word ["term"] (spP K (g_is_word T)) := by
  have K_kind_of := ok_kind_of (P := P) (w := w) (base := base) T
  have K_checked_term := ok_checked_term (P := P) (w := w) (base := base) T
  refine fnP T.F_is_word sc_is_word F1_len (fun tr O0 H0 Er cdv A outer s H E hgd hr =>
      (pss_one (ds_ret (ps_ret (de_op D_eq (pe_cmpR (op_eqA hr.units) (de_callP (pe_callG K_kind_of hgd (hr.mono (by decide)) (by rfl) T.g_kind_of T.F_kind_of.kp T.b_kind_of .nil pass0 (da_cons (pa_cons (de_callP (pe_callG (E := E) K_checked_term hgd (hr.mono (by decide)) (by rfl) T.g_checked_term T.F_checked_term.kp T.b_checked_term .nil (passes_call (W := fun cls d _ H => E cls d H) (takes_of rfl rfl rfl rfl) (fun _ _ _ _ h => h)) (da_cons (pa_cons (de_var (pv 0)) (da_cons (pa_cons (de_str pe_str) (da_nil pa_nil))))))) (da_nil pa_nil))))) (de_v (de_str pe_str)) (nomark _))))))) ?_
  rintro ds C E ⟨x, rfl, hg, hw, q⟩
  walk_at "dl"
  refine ⟨_, _, rfl, hg, hw, _, rfl, by decide, ?_⟩
  cases h : kd x with
  | none =>
    rw [h] at q
    exact (if_neg (by decide)).mpr q
  | some r =>
    rw [h] at q
    obtain ⟨z, ps, tm⟩ := tm_of (by rw [h]; rfl) hg
    obtain ⟨qs, e1, e2⟩ := tm_tup tm
    obtain ⟨r2, ks, hf, hk⟩ := tm.form
    obtain rfl : r = r2 := Option.some.inj (h.symm.trans hk)
    refine (if_pos rfl).mpr ⟨_, rfl, z, qs, r, ks, .inr e1, tm.lab, e2.trans hf, ?_⟩
    walk_at "dl"
    exact q
def g_refuses (T : Txt w K mg) : FP := F1 fun x C E => gdB x = true ∧ wt x ≤ 1000 ∧ kd x = none ∧ E (eTm T "term")
theorem refuse {T : Txt w K mg} {x : D} {z : Str} {C : D → Prop} {E : Err → Prop} (hg : gdB x = true) (hw : wt x ≤ 1000) (hk : kd x = none) (hz : z ∈ three) (q : E (eTm T z)) : g_checked_term T [x, .str z] C E := by
  refine ⟨_, _, rfl, hg, hw, _, rfl, hz, ?_⟩
  rw [hk]
  exact (if_neg (by decide)).mpr q
theorem ok_size_of (T : Txt w K mg) : FnG P w K mg base (L2.CX P w) 8 T.f_size_of T.fd_size_of ["term"] (spP K (g_refuses T)) := by
  have K_many_parts : FnG P w K mg base CX0 1 T.f_many_parts T.fd_many_parts ["term"] (spP K fun _ _ _ => False) := fnFalse
  have K_checked_term := ok_checked_term (P := P) (w := w) (base := base) T
  refine fnP T.F_size_of sc_size_of F1_len (fun tr O0 H0 Er cdv A outer s H E hgd hr =>
      (pss_one (ds_ret (ps_ret (de_callP (pe_callG K_many_parts hgd (hr.mono (by decide)) (by rfl) T.g_many_parts T.F_many_parts.kp T.b_many_parts .nil pass0 (da_cons (pa_cons (de_callP (pe_callG (E := E) K_checked_term hgd (hr.mono (by decide)) (by rfl) T.g_checked_term T.F_checked_term.kp T.b_checked_term .nil (passes_call (W := fun cls d _ H => E cls d H) (takes_of rfl rfl rfl rfl) (fun _ _ _ _ h => h)) (da_cons (pa_cons (de_var (pv 0)) (da_cons (pa_cons (de_str pe_str) (da_nil pa_nil))))))) (da_nil pa_nil))))))))) ?_
  rintro ds C E ⟨x, rfl, hg, hw, hk, q⟩
  walk_at "dl"
  exact refuse hg hw hk (by decide) q
theorem ok_levels_of (T : Txt w K mg) : FnG P w K mg base (L2.CX P w) 8 T.f_levels_of T.fd_levels_of ["term"] (spP K (g_refuses T)) := by
  have K_many_levels : FnG P w K mg base CX0 1 T.f_many_levels T.fd_many_levels ["term"] (spP K fun _ _ _ => False) := fnFalse
  have K_checked_term := ok_checked_term (P := P) (w := w) (base := base) T
  refine fnP T.F_levels_of sc_levels_of F1_len (fun tr O0 H0 Er cdv A outer s H E hgd hr =>
      (pss_one (ds_ret (ps_ret (de_callP (pe_callG K_many_levels hgd (hr.mono (by decide)) (by rfl) T.g_many_levels T.F_many_levels.kp T.b_many_levels .nil pass0 (da_cons (pa_cons (de_callP (pe_callG (E := E) K_checked_term hgd (hr.mono (by decide)) (by rfl) T.g_checked_term T.F_checked_term.kp T.b_checked_term .nil (passes_call (W := fun cls d _ H => E cls d H) (takes_of rfl rfl rfl rfl) (fun _ _ _ _ h => h)) (da_cons (pa_cons (de_var (pv 0)) (da_cons (pa_cons (de_str pe_str) (da_nil pa_nil))))))) (da_nil pa_nil))))))))) ?_
  rintro ds C E ⟨x, rfl, hg, hw, hk, q⟩
  walk_at "dl"
  exact refuse hg hw hk (by decide) q
theorem ok_names_in (T : Txt w K mg) : FnG P w K mg base (L2.CX P w) 8 T.f_names_in T.fd_names_in ["term"] (spP K (g_refuses T)) := by
  have K_spellings_in : FnG P w K mg base CX0 1 T.f_spellings_in T.fd_spellings_in ["term", "leaf"] (spP K fun _ _ _ => False) := fnFalse
  have K_checked_term := ok_checked_term (P := P) (w := w) (base := base) T
  refine fnP T.F_names_in sc_names_in F1_len (fun tr O0 H0 Er cdv A outer s H E hgd hr =>
      (pss_one (ds_ret (ps_ret (de_callP (pe_callG K_spellings_in hgd (hr.mono (by decide)) (by rfl) T.g_spellings_in T.F_spellings_in.kp T.b_spellings_in .nil pass0 (da_cons (pa_cons (de_callP (pe_callG (E := E) K_checked_term hgd (hr.mono (by decide)) (by rfl) T.g_checked_term T.F_checked_term.kp T.b_checked_term .nil (passes_call (W := fun cls d _ H => E cls d H) (takes_of rfl rfl rfl rfl) (fun _ _ _ _ h => h)) (da_cons (pa_cons (de_var (pv 0)) (da_cons (pa_cons (de_str pe_str) (da_nil pa_nil))))))) (da_cons (pa_cons (de_str pe_str) (da_nil pa_nil))))))))))) ?_
  rintro ds C E ⟨x, rfl, hg, hw, hk, q⟩
  walk_at "dl"
  exact refuse hg hw hk (by decide) q
theorem ok_flags_in (T : Txt w K mg) : FnG P w K mg base (L2.CX P w) 8 T.f_flags_in T.fd_flags_in ["term"] (spP K (g_refuses T)) := by
  have K_spellings_in : FnG P w K mg base CX0 1 T.f_spellings_in T.fd_spellings_in ["term", "leaf"] (spP K fun _ _ _ => False) := fnFalse
  have K_checked_term := ok_checked_term (P := P) (w := w) (base := base) T
  refine fnP T.F_flags_in sc_flags_in F1_len (fun tr O0 H0 Er cdv A outer s H E hgd hr =>
      (pss_one (ds_ret (ps_ret (de_callP (pe_callG K_spellings_in hgd (hr.mono (by decide)) (by rfl) T.g_spellings_in T.F_spellings_in.kp T.b_spellings_in .nil pass0 (da_cons (pa_cons (de_callP (pe_callG (E := E) K_checked_term hgd (hr.mono (by decide)) (by rfl) T.g_checked_term T.F_checked_term.kp T.b_checked_term .nil (passes_call (W := fun cls d _ H => E cls d H) (takes_of rfl rfl rfl rfl) (fun _ _ _ _ h => h)) (da_cons (pa_cons (de_var (pv 0)) (da_cons (pa_cons (de_str pe_str) (da_nil pa_nil))))))) (da_cons (pa_cons (de_str pe_str) (da_nil pa_nil))))))))))) ?_
  rintro ds C E ⟨x, rfl, hg, hw, hk, q⟩
  walk_at "dl"
  exact refuse hg hw hk (by decide) q
theorem ok_places_of (T : Txt w K mg) : FnG P w K mg base (L2.CX P w) 8 T.f_places_of T.fd_places_of ["term"] (spP K (g_refuses T)) := by
  have K_checked_term := ok_checked_term (P := P) (w := w) (base := base) T
  refine fnP T.F_places_of sc_places_of F1_len (fun tr O0 H0 Er cdv A outer s H E hgd hr =>
      (dss_cons (pss_cons (ds_setO (ps_set (i := 1) sc_places_of.nd rfl (.inl rfl) (de_lst (pe_lst (da_nil pa_nil)))))
      (dss_cons (pss_cons (ds_setO (ps_set (i := 2) sc_places_of.nd rfl (.inl rfl) (de_lst (pe_lst (da_cons (pa_cons (de_tup (pe_tup (da_cons (pa_cons (de_tup (pe_tup (da_nil pa_nil))) (da_cons (pa_cons (de_callP (pe_callG (E := E) K_checked_term hgd (hr.mono (by decide)) (by rfl) T.g_checked_term T.F_checked_term.kp T.b_checked_term .nil (passes_call (W := fun cls d _ H => E cls d H) (takes_of rfl rfl rfl rfl) (fun _ _ _ _ h => h)) (da_cons (pa_cons (de_var (pv 0)) (da_cons (pa_cons (de_str pe_str) (da_nil pa_nil))))))) (da_nil pa_nil))))))) (da_nil pa_nil)))))))
      (dss_cons (pss_cons ds_never (pss_one ds_never)))))))) ?_
  rintro ds C E ⟨x, rfl, hg, hw, hk, q⟩
  walk_at "dl"
  exact refuse hg hw hk (by decide) q
def g_refuses2 (T : Txt w K mg) : FP := F2 fun x _ C E => gdB x = true ∧ wt x ≤ 1000 ∧ kd x = none ∧ E (eTm T "term")
theorem ok_put_in (T : Txt w K mg) : FnG P w K mg base (L2.CX P w) 8 T.f_put_in T.fd_put_in ["term", "values"] (spP K (g_refuses2 T)) := by
  have K_checked_term := ok_checked_term (P := P) (w := w) (base := base) T
  refine fnP T.F_put_in sc_put_in F2_len (fun tr O0 H0 Er cdv A outer s H E hgd hr =>
      (dss_cons (pss_cons (ds_set (ps_set (i := 2) sc_put_in.nd rfl (.inl rfl) (de_callP (pe_callG (E := E) K_checked_term hgd (hr.mono (by decide)) (by rfl) T.g_checked_term T.F_checked_term.kp T.b_checked_term .nil (passes_call (W := fun cls d _ H => E cls d H) (takes_of rfl rfl rfl rfl) (fun _ _ _ _ h => h)) (da_cons (pa_cons (de_var (pv 0)) (da_cons (pa_cons (de_str pe_str) (da_nil pa_nil)))))))))
      (dss_cons (pss_cons ds_never (pss_one ds_never)))))) ?_
  rintro ds C E ⟨x, y, rfl, hg, hw, hk, q⟩
  walk_at "dl"
  exact refuse hg hw hk (by decide) q
theorem ok_part_at (T : Txt w K mg) : FnG P w K mg base (L2.CX P w) 8 T.f_part_at T.fd_part_at ["term", "place"] (spP K (g_refuses2 T)) := by
  have K_checked_term := ok_checked_term (P := P) (w := w) (base := base) T
  refine fnP T.F_part_at sc_part_at F2_len (fun tr O0 H0 Er cdv A outer s H E hgd hr =>
      (dss_cons (pss_cons (ds_set (ps_set (i := 2) sc_part_at.nd rfl (.inl rfl) (de_callP (pe_callG (E := E) K_checked_term hgd (hr.mono (by decide)) (by rfl) T.g_checked_term T.F_checked_term.kp T.b_checked_term .nil (passes_call (W := fun cls d _ H => E cls d H) (takes_of rfl rfl rfl rfl) (fun _ _ _ _ h => h)) (da_cons (pa_cons (de_var (pv 0)) (da_cons (pa_cons (de_str pe_str) (da_nil pa_nil)))))))))
      (dss_cons (pss_cons ds_never (pss_one ds_never)))))) ?_
  rintro ds C E ⟨x, y, rfl, hg, hw, hk, q⟩
  walk_at "dl"
  exact refuse hg hw hk (by decide) q
def g__check_place : FP := F1 fun x C _ => x = .lst [] ∧ C .non
theorem ok__check_place (T : Txt w K mg) : FnG P w K mg base CX0 4 T.f__check_place T.fd__check_place ["place"] (spP K g__check_place) := by
  have K_are_integers := ok_are_integers (P := P) (w := w) (base := base) T
  refine fnP0 T.F__check_place sc__check_place F1_len (fun tr O0 H0 Er cdv A outer s H E hgd hr =>
      (pss_one (ds_if (ps_if (dt_not (pt_not (dt_val (pt_val (de_callP (pe_callG K_are_integers hgd (hr.mono (by decide)) (by rfl) T.g_are_integers T.F_are_integers.kp T.b_are_integers .nil pass0 (da_cons (pa_cons (de_var (pv 0)) (da_cons (pa_cons (de_int pe_int) (da_cons (pa_cons (de_non pe_non) (da_nil pa_nil)))))))))))))
        (pss_one ds_never)
        (dss_nil pss_nil))))) ?_
  rintro ds C E ⟨x, rfl, rfl, q⟩
  walk_at "dl"
  exact ⟨_, _, _, rfl, rfl, rfl, rfl, true, rfl, fF q⟩
def g_with_part (T : Txt w K mg) : FP := F3 fun x y u C E => gdB x = true ∧ wt x ≤ 1000 ∧ ((kd x = none ∧ E (eTm T "term")) ∨ ((kd x).isSome = true ∧ y = .lst [] ∧ gdB u = true ∧ wt u ≤ 1000 ∧ kd u = none ∧ E (eTm T "other")))
theorem ok_with_part (T : Txt w K mg) : FnG P w K mg base (L2.CX P w) 8 T.f_with_part T.fd_with_part ["term", "place", "other"] (spP K (g_with_part T)) := by
  have K_checked_term := ok_checked_term (P := P) (w := w) (base := base) T
  have K__check_place := ok__check_place (P := P) (w := w) (base := base) T
  refine fnP T.F_with_part sc_with_part F3_len (fun tr O0 H0 Er cdv A outer s H E hgd hr =>
      (dss_cons (pss_cons (ds_set (ps_set (i := 3) sc_with_part.nd rfl (.inl rfl) (de_callP (pe_callG (E := E) K_checked_term hgd (hr.mono (by decide)) (by rfl) T.g_checked_term T.F_checked_term.kp T.b_checked_term .nil (passes_call (W := fun cls d _ H => E cls d H) (takes_of rfl rfl rfl rfl) (fun _ _ _ _ h => h)) (da_cons (pa_cons (de_var (pv 0)) (da_cons (pa_cons (de_str pe_str) (da_nil pa_nil)))))))))
      (dss_cons (pss_cons (ds_expr (ps_expr (de_callP (pe_callG K__check_place hgd (hr.mono (by decide)) (by rfl) T.g__check_place T.F__check_place.kp T.b__check_place .nil pass0 (da_cons (pa_cons (de_var (pv 1)) (da_nil pa_nil)))))))
      (dss_cons (pss_cons (ds_set (ps_set (i := 4) sc_with_part.nd rfl (.inl rfl) (de_callP (pe_callG (E := E) K_checked_term hgd (hr.mono (by decide)) (by rfl) T.g_checked_term T.F_checked_term.kp T.b_checked_term .nil (passes_call (W := fun cls d _ H => E cls d H) (takes_of rfl rfl rfl rfl) (fun _ _ _ _ h => h)) (da_cons (pa_cons (de_var (pv 2)) (da_cons (pa_cons (de_str pe_str) (da_nil pa_nil)))))))))
      (dss_cons (pss_cons ds_never (dss_cons (pss_cons ds_never (pss_one ds_never)))))))))))) ?_
  rintro ds C E ⟨x, y, u, rfl, hg, hw, h⟩
  walk_at "dl"
  rcases h with ⟨hk, q⟩ | ⟨hk, rfl, hg2, hw2, hk2, q⟩
  · exact refuse hg hw hk (by decide) q
  · refine ⟨_, _, rfl, hg, hw, _, rfl, by decide, ?_⟩
    rw [if_pos hk]
    exact ⟨_, rfl, rfl, refuse hg2 hw2 hk2 (by decide) q⟩
end
end K03D
end
section
set_option maxHeartbeats 4000000
namespace K03D
open PySem PySem.Spec PyProof.Rows L2 G1 G2 DL K03 R1 StX
variable [TB]
local macro_rules | `(tactic| walk_at "dl") => `(tactic| simp (decide := true) only [dSlA, dSlO, dRev, dPop, dExt, dDelFrom, dCallH, daStar, dRep, dListZip, dDispN, dVals, dInDic, dGetDic, dInK, dIxK, dKget, dStrI, dSplit, dLeS, dRaiseI, dIsnB, dInSign, lookD, plusA_int, plusA_str, plusA_lst, plusA_tup, dVar, dVw, dC, dOp, dOpL, dUn, dCB, daNil, daCons, daOne, dCallP, dCallT, dTup, dLst, dFz, dSet, dSetO, dDrop, dRet, dRetF, dRetO, dCallTN, dRetN, dNext, dBreak, dCont, dSeq, dCut, dIfS, dFrz, dAsg, dPar, bindT, setsD, slotsT, dItL, dItT, dItS, dRng1, dRng2, dFor, dTst, dTru, dNot, dAnd, dOr, dAndV, dOrV, dNotV, dIfE, dLc, dYes, turnD, wipeD, restG, kp, dI0, dI, dNeg, dIsN, dNotN, dIsB, dLen, dIsi, isiTab, dInt, dAbs, dAll, dAny, dTupOf, dListOf, dNoPart, dPart, dSl, dSlL, dFmt, dJs, dM1, dStarts, dApp, dSetIx, dChain, dZip, dEnum, dSigns, dHeard, hideS, hideL, dLcN, dNbeg, dNend, dNcons, dNset, dNapp, dNpop, dDnew, dDisp1, dRaise, dRepr, dIn, flVs, kT_non, kT_bl, kT_int, kT_str, kT_lst, kT_tup, kT_dic, isN_non, isN_bl, isN_int, isN_str, isN_lst, isN_tup, isN_dic, lenD_lst, lenD_tup, lenD_str, it_lst, it_tup, fl_non, fl_bl, fl_int, fl_str, tru_non, tru_bl, tru_int, tru_lst, tru_tup, plus_int, plus_str, plus_lst, plus_tup, ix_lst, ix_tup', ix_str', qe_str, qn_str, qe_int, qn_int, qe_bl, qn_bl, at_0, at_1, at_2, at_l1, at_l2, at_l3, at_k2, at_k3, inV_nil, inV_cons, eqV_str, eqV_int, eqV_bl, Bool.or_false, Bool.or_true, Bool.true_or, Bool.false_or, Bool.and_true, Bool.and_false, decide_eq_true_eq, Bool.not_eq_true', decide_eq_false_iff_not, eq_self, ne_eq, not_true_eq_false, not_false_eq_true, 
  F1, F2, F3, F4, T1, T2, T3, T4, startD, List.append_nil, List.cons_append, List.nil_append, List.map_cons, List.map_nil, List.length_cons, List.length_nil, List.getElem?_cons_zero, List.getElem?_cons_succ, List.getElem?_nil, List.getD_cons_zero, List.getD_cons_succ, Nat.reduceAdd, Nat.reduceSub, Nat.zero_add, List.replicate, List.replicate_zero, List.replicate_succ, List.set_cons_zero, List.set_cons_succ, List.set_nil,
  exists_eq_left, exists_eq_left', exists_eq_right, exists_eq_right', exists_and_left, Option.some.injEq, Sl.da.injEq, Sl.ow.injEq, D.bl.injEq, D.int.injEq, D.str.injEq, D.tup.injEq, D.lst.injEq, D.ob.injEq, List.cons.injEq, and_true, true_and, and_assoc, if_true, if_false, reduceIte, reduceCtorEq, Bool.false_eq_true, Bool.not_true, Bool.not_false, decide_true, decide_false, false_and, and_false, exists_false, false_or, or_false, Option.bind_some, Option.map_some])

/-! ### flat lists compared -/
def pyO : Option Str → PyData
  | none => .none
  | some s => .str s
theorem py_opts : ∀ os : List (Option Str), toPys (os.map oD) = some (os.map pyO)
  | [] => rfl
  | o :: os => by
    show ((toPy (oD o)).bind fun p => (toPys (os.map oD)).map fun ps => p :: ps) = _
    rw [py_opts os]
    cases o <;> rfl
theorem lay_opts : ∀ os : List (Option Str), (∀ s, some s ∈ os → PyData.strOk s = true) → PyData.canLayAll0 (os.map pyO) = true
  | [], _ => rfl
  | o :: os, h => by
    show (PyData.canLay0 (pyO o) && PyData.canLayAll0 (os.map pyO)) = true
    rw [lay_opts os fun s hs => h s (List.mem_cons_of_mem _ hs), Bool.and_true]
    cases o with
    | none => rfl
    | some s => exact h s (List.mem_cons_self ..)
theorem dep_opts : ∀ os : List (Option Str), PyData.depthAll (os.map pyO) = 0
  | [] => rfl
  | o :: os => by
    show max (PyData.depth (pyO o)) (PyData.depthAll (os.map pyO)) = 0
    rw [dep_opts os]
    cases o <;> rfl
theorem sh_opts (os : List (Option Str)) (h : ∀ s, some s ∈ os → PyData.strOk s = true) : SeqAt.shaped (.list (os.map pyO)) = true := by
  show (PyData.canLayAll0 (os.map pyO) && decide (PyData.depthAll (os.map pyO) + 1 ≤ 64)) = true
  rw [lay_opts os h, dep_opts]
  rfl
theorem eqv_opts : ∀ (os : List (Option Str)) (ks : List Str), PyData.eqvAll (os.map pyO) ((ks.map some).map pyO) = decide (os = ks.map some)
  | [], [] => rfl
  | [], _ :: _ => rfl
  | _ :: _, [] => rfl
  | o :: os, k :: ks => by
    show (PyData.eqv (pyO o) (.str k) && PyData.eqvAll (os.map pyO) ((ks.map some).map pyO)) = _
    rw [eqv_opts os ks]
    cases o with
    | none =>
      rw [show PyData.eqv (pyO none) (.str k) = false by unfold pyO PyData.eqv; rfl, Bool.false_and]
      exact (decide_eq_false (by intro z; cases z)).symm
    | some s =>
      rw [show PyData.eqv (pyO (some s)) (.str k) = decide (s = k) from eqv_str]
      by_cases h : s = k
      · subst h
        by_cases h2 : os = ks.map some
        · rw [h2]
          simp
        · rw [decide_eq_false h2, Bool.and_false]
          exact (decide_eq_false (by intro z; exact h2 (List.cons.inj z).2)).symm
      · rw [decide_eq_false h, Bool.false_and]
        exact (decide_eq_false (by intro z; exact h (Option.some.inj (List.cons.inj z).1))).symm
theorem qe_opts {os : List (Option Str)} {ks : List Str} {C : D → Prop} (h1 : ∀ s, some s ∈ os → PyData.strOk s = true) (h2 : ∀ s ∈ ks, PyData.strOk s = true) (h : C (.bl (decide (os = ks.map some)))) : dEq (.lst (os.map oD)) (.lst (ks.map D.str)) C := by
  refine dat_iff (neg := false) (p := .list (os.map pyO)) (q := .list ((ks.map some).map pyO)) ?_ ?_ (sh_opts _ h1) (sh_opts _ fun s hs => by
    obtain ⟨k, hk, e⟩ := List.mem_map.mp hs
    cases e
    exact h2 _ hk) (eqv_opts os ks) h
  · show (toPys _).map _ = _
    rw [py_opts]
    rfl
  · show (toPys _).map _ = _
    rw [show ks.map D.str = (ks.map some).map oD by rw [List.map_map]; rfl, py_opts]
    rfl
/-! ### signs -/
theorem letter_eq (c : Nat) : letter c = (decide (97 ≤ c) && decide (c ≤ 122)) := by
  unfold letter
  rw [show ("abcdefghijklmnopqrstuvwxyz" : Str).cps.toList = List.range' 97 26 by decide +kernel]
  rw [Bool.eq_iff_iff, Bool.and_eq_true, decide_eq_true_iff, decide_eq_true_iff, decide_eq_true_iff, List.mem_range'_1]
  omega
theorem digit_eq (c : Nat) : digit c = (decide (48 ≤ c) && decide (c ≤ 57)) := by
  unfold digit
  rw [show ("0123456789" : Str).cps.toList = List.range' 48 10 by decide +kernel]
  rw [Bool.eq_iff_iff, Bool.and_eq_true, decide_eq_true_iff, decide_eq_true_iff, decide_eq_true_iff, List.mem_range'_1]
  omega
theorem lt_one (c d : Nat) : ([c] < [d]) = (c < d) := by
  apply propext
  rw [List.cons_lt_cons_iff]
  constructor
  · rintro (h | ⟨_, h⟩)
    · exact h
    · exact absurd h (by simp)
  · exact .inl
theorem l_a : ("a" : Str).cps.toList = [97] := by decide +kernel
theorem l_z : ("z" : Str).cps.toList = [122] := by decide +kernel
theorem l_0 : ("0" : Str).cps.toList = [48] := by decide +kernel
theorem l_9 : ("9" : Str).cps.toList = [57] := by decide +kernel
theorem filt (L : List Nat) : L.filterMap (fun c => if (letter c || digit c) = true then none else some (D.str ⟨#[c]⟩)) = ((L.filter fun c => !(letter c || digit c)).map fun c => some (⟨#[c]⟩ : Str)).map oD := by
  induction L with
  | nil => rfl
  | cons c L ih =>
    rw [List.filterMap_cons, List.filter_cons]
    cases h : (letter c || digit c) with
    | true =>
      show L.filterMap _ = _
      rw [ih]
      rfl
    | false =>
      show _ :: L.filterMap _ = _
      rw [ih]
      rfl
theorem filt_nil (L : List Nat) : decide (((L.filter fun c => !(letter c || digit c)).map fun c => some (⟨#[c]⟩ : Str)) = ([] : List Str).map some) = L.all fun c => letter c || digit c := by
  induction L with
  | nil => rfl
  | cons c L ih =>
    rw [List.filter_cons, List.all_cons]
    cases h : (letter c || digit c) with
    | true =>
      rw [Bool.true_and]
      exact ih
    | false =>
      rw [Bool.false_and]
      exact decide_eq_false (by intro z; cases z)
section
variable {P : Program} {w : World} {K : PySem.W.Frag} {mg : Str → Option Value} {base : Heap}
/-! ### the law's own reading -/
theorem one_ok {z : Str} {c : Nat} (h : PyData.strOk z = true) (hc : c ∈ z.cps.toList) : PyData.strOk ⟨#[c]⟩ = true := by
  unfold PyData.strOk at h ⊢
  rw [← Array.all_toList] at h ⊢
  have := List.all_eq_true.mp h c hc
  show (decide (c < 0x110000) && true) = true
  rw [this]
  rfl
def okSD : D → Prop
  | .str z => PyData.strOk z = true
  | _ => True
theorem labs_str : ∀ z ∈ labs, (PyData.strOk z && (its z).all PyData.strOk) = true := by decide +kernel
def g__law_is_spelt : FP := F1 fun x C _ => ∃ k, kindT x = some k ∧ shortD x ∧ okSD x ∧ C (.bl (spD x))
theorem ok__law_is_spelt (T : Txt w K mg) : FnG P w K mg base CX0 1 T.f__law_is_spelt T.fd__law_is_spelt ["_law_value"] (spP K g__law_is_spelt) := by
  refine fnP0 T.F__law_is_spelt sc__law_is_spelt F1_len (fun tr O0 H0 Er cdv A outer s H E hgd hr =>
      (dss_cons (pss_cons (ds_if (ps_if (PW.pt (dw_or (pw_or (dt_not (pt_not (dt_val (pt_val (de_isi1 rfl (pe_callB call_isi (by rfl) T.m_isinstance (by decide +kernel) (pa_cons (de_v (de_var (pv 0))) (pa_cons (pe_bltn (v := .ty "str") (by rfl) T.m_str (by decide +kernel) rfl) pa_nil)))))))) (dw_or (pw_or (dt_not (pt_not (dt_chain D_le D_le (pt_chain op_le op_le (de_int pe_int) (de_cb D_len (pe_callB call_lenA (by rfl) T.m_len (by decide +kernel) (da_one (pa_cons (de_v (de_var (pv 0))) pa_nil)))) (de_int pe_int))))) (pw_or1 (dt_not (pt_not (dt_chain D_leS D_leS (pt_chain op_le_str op_le_str (de_str pe_str) (de_op D_ix (pe_ix ix_seq (de_var (pv 0)) (de_v (de_int pe_int)) (fun _ _ => rfl))) (de_str pe_str)))))))))))
        (pss_one (ds_ret (ps_ret (de_bl pe_bl))))
        (dss_nil pss_nil)))
      (pss_one (ds_ret (ps_ret (de_op D_eq (pe_cmpR (op_eqA hr.units) (de_fz (de_lc (tg := (.nm 1)) (pe_lc (own := [("_law_sign", 1)]) rfl sc__law_is_spelt.nd (di_signs (pi_str (de_var (pv 0)))) (blkOk_by (own := [("_law_sign", 1)]) (N := ["_law_value", "_law_sign"]) (sc := defScope s__law_is_spelt) (by decide +kernel)) (fun _ _ _ _ _ => (pg_name (i := 1) sc__law_is_spelt.nd rfl (Or.inl rfl))) (fun _ _ _ _ _ => (pts_one (dt_not (pt_not (PW.pt (dw_or (pw_or (dt_chain D_leS D_leS (pt_chain op_le_str op_le_str (de_str pe_str) (de_var (pv 1)) (de_str pe_str))) (pw_or1 (dt_chain D_leS D_leS (pt_chain op_le_str op_le_str (de_str pe_str) (de_var (pv 1)) (de_str pe_str))))))))))) (fun _ _ _ _ _ => (de_var (pv 1)))))) (de_v (de_fz (de_lst (pe_lst (da_nil pa_nil))))) (nomark _))))))))) ?_
  rintro ds C E ⟨x, rfl, k, hk, hs, hso, q⟩
  walk_at "dl"
  refine ⟨k, hk, ?_⟩
  cases x <;> first | (cases hk; exact (if_pos rfl).mpr q) | (cases hk; done) | skip
  rename_i z
  cases hk
  refine (if_neg (by decide)).mpr ⟨_, len1000 hs, ?_⟩
  have q : C (.bl (isSp z)) := q
  unfold isSp at q
  split
  rotate_left
  · rename_i h
    rw [decide_eq_false (by omega), Bool.false_and, Bool.false_and, Bool.false_and] at q
    exact q
  rename_i h1
  rw [decide_eq_true (show 1 ≤ z.length by omega), Bool.true_and] at q
  split
  · rename_i h
    rw [decide_eq_false (by omega), Bool.false_and, Bool.false_and] at q
    exact q
  rename_i h2
  rw [decide_eq_true (show z.length ≤ 8 by omega), Bool.true_and] at q
  have hz : 0 < z.cps.size := by have : z.length = z.cps.size := rfl; omega
  have e0 : z.cps[0]! = z.cps[0] := getElem!_pos z.cps 0 hz
  rw [e0] at q
  refine ix_str'.mpr ⟨Nat.le_trans hs (by decide), z.cps[0], ?_, _, rfl, ?_⟩
  · exact at_nat (k := 0) (by rw [List.getElem?_eq_getElem (by exact hz)]; rfl)
  generalize z.cps[0] = c0 at *
  rw [show (Str.ofString "a").cps.toList = [97] from l_a, show (Str.ofString "z").cps.toList = [122] from l_z]
  rw [letter_eq] at q
  by_cases ha : 97 ≤ c0
  rotate_left
  · rw [decide_eq_false ha, Bool.false_and, Bool.false_and] at q
    refine (if_neg ?_).mpr q
    intro h
    apply h
    show [c0] < [97]
    rw [lt_one]
    omega
  rw [decide_eq_true ha, Bool.true_and] at q
  refine (if_pos ?_).mpr ⟨_, rfl, ?_⟩
  · intro h
    have h : [c0] < [97] := h
    rw [lt_one] at h
    omega
  rw [show decide ([122] < (⟨#[c0]⟩ : Str).cps.toList) = decide (122 < c0) from decide_eq_decide.mpr (by show [122] < [c0] ↔ _; rw [lt_one])]
  by_cases hb : c0 ≤ 122
  rotate_left
  · rw [decide_eq_false hb, Bool.false_and] at q
    rw [decide_eq_true (by omega)]
    exact fT q
  rw [decide_eq_true hb, Bool.true_and] at q
  rw [decide_eq_false (by omega)]
  refine fF ⟨z, rfl, ?_, ?_⟩
  · unfold signsD
    rw [List.length_map]
    exact Nat.le_trans hs (by decide)
  refine lcD_map (fun c : Nat => .str ⟨#[c]⟩) (fun c => if (letter c || digit c) = true then none else some (.str ⟨#[c]⟩)) z.cps.toList [] (fun c _ Kt hk => ?_) ?_
  · unfold turnD
    walk_at "dl"
    have e1 : letter c = (!decide ([c] < [97]) && !decide ([122] < [c])) := by
      rw [letter_eq]
      simp only [lt_one]
      by_cases h1 : c < 97 <;> by_cases h2 : 122 < c <;> simp [h1, h2] <;> omega
    have e2 : digit c = (!decide ([c] < [48]) && !decide ([57] < [c])) := by
      rw [digit_eq]
      simp only [lt_one]
      by_cases h1 : c < 48 <;> by_cases h2 : 57 < c <;> simp [h1, h2] <;> omega
    have hk : Kt (if (letter c || digit c) = true then none else some (.str ⟨#[c]⟩)) _ := hk
    rw [e1, e2] at hk
    rw [show (Str.ofString "a").cps.toList = [97] from l_a, show (Str.ofString "z").cps.toList = [122] from l_z, show (Str.ofString "0").cps.toList = [48] from l_0, show (Str.ofString "9").cps.toList = [57] from l_9]
    by_cases a1 : [c] < [97] <;> by_cases a2 : [122] < [c] <;> by_cases a3 : [c] < [48] <;> by_cases a4 : [57] < [c] <;> simp [a1, a2, a3, a4] at hk ⊢ <;> exact hk
  · rw [List.nil_append, filt]
    refine qe_opts (ks := []) (fun s hs2 => ?_) (fun s h => by cases h) ?_
    · obtain ⟨c, hc, e⟩ := List.mem_map.mp hs2
      cases e
      exact one_ok hso (List.mem_filter.mp hc).1
    rw [filt_nil]
    exact q
def knownT : List (Str × List Str) := [("add", ["word", "word"]), ("sub", ["word", "word"]), ("mul", ["word", "word"]), ("and", ["word", "word"]), ("or", ["word", "word"]), ("xor", ["word", "word"]), ("neg", ["word"]), ("flip", ["word"]), ("at", ["word"])]
def testsT : List (Str × List Str) := [("eq", ["word", "word"]), ("lt", ["word", "word"]), ("less", ["word", "word"]), ("both", ["truth", "truth"]), ("either", ["truth", "truth"]), ("no", ["truth"])]
def keysT (L : List (Str × List Str)) : List Key := L.map fun p => .inr p.1
def valsT (L : List (Str × List Str)) : List D := L.map fun p => .lst (p.2.map D.str)
def dicT (L : List (Str × List Str)) : D := .dic (keysT L) (valsT L)
theorem look_T (z : Str) : ∀ L : List (Str × List Str), lookD (keysT L) (valsT L) z = (lookT L z).map fun ks => .lst (ks.map D.str)
  | [] => rfl
  | (k, ks) :: L => by
    show (if (Sum.inr k : Key) = .inr z then some (D.lst (ks.map D.str)) else lookD (keysT L) (valsT L) z) = (if z = k then some ks else lookT L z).map _
    rw [look_T z L]
    by_cases h : z = k
    · rw [if_pos h, if_pos (by rw [h])]
      rfl
    · rw [if_neg h, if_neg (by intro e; exact h (Sum.inr.inj e).symm)]
def nums : List Str := (List.range 31).map fun i : Nat => Str.ofString (toString (1 + (i : Int)))
def isShp (z r : Str) (ks : List Str) : Bool := decide (shp z = some (r, ks))
def noShp (z : Str) : Bool := decide (shp z = none)
def factS (z : Str) : Bool := match its z with
  | [a, b] => if a = "shl" ∧ b ∈ nums then isShp z "word" ["word"] else noShp z
  | _ => noShp z
def factA (z : Str) : Bool := isLf z || match lookT knownT z with
  | some ks => isShp z "word" ks
  | none => match lookT testsT z with
    | some ks => isShp z "truth" ks
    | none => if z = "if" then isShp z "word" ["truth", "word", "word"] else factS z
theorem facts_A : ∀ z ∈ labs, factA z = true := by decide +kernel
def askR : Option (Str × List Str) → D
  | none => .non
  | some p => .lst [.str p.1, .lst (p.2.map D.str)]
def g__law_asked : FP := F2 fun x y C _ => ∃ z n, x = .str z ∧ y = .int (n : Nat) ∧ z ∈ labs ∧ isLf z = false ∧ n ≤ 1000 ∧ C (askR (askO z n))
theorem ok__law_asked (T : Txt w K mg) : FnG P w K mg base CX0 2 T.f__law_asked T.fd__law_asked ["_law_label", "_law_many"] (spP K g__law_asked) := by
  have K__law_is_spelt := ok__law_is_spelt (P := P) (w := w) (base := base) T
  refine fnP0 T.F__law_asked sc__law_asked F2_len (fun tr O0 H0 Er cdv A outer s H E hgd hr =>
      (dss_cons (pss_cons (ds_par (ps_par (i := 2) (j := 3) (by rfl) sc__law_asked.nd rfl rfl (by decide) rfl rfl (da_cons (pa_cons (de_fz (de_lst (pe_lst (da_cons (pa_cons (de_str pe_str) (da_cons (pa_cons (de_str pe_str) (da_nil pa_nil)))))))) (da_cons (pa_cons (de_m1 D_split (pe_m1 PySem.F.slot_str_split PySem.F.type_str_split mt_split (de_var (pv 0)) (de_str pe_str))) (da_nil pa_nil))))) (by rfl)))
      (dss_cons (pss_cons (ds_set (ps_set (i := 4) sc__law_asked.nd rfl (.inl rfl) (de_dispN (ks := ["add", "sub", "mul", "and", "or", "xor", "neg", "flip", "at"]) (fs := [_, _, _, _, _, _, _, _, _]) (by rfl) (by decide) (by decide +kernel) (pe_disp (pps_cons pe_str (de_var (pv 2)) (pps_cons pe_str (de_var (pv 2)) (pps_cons pe_str (de_var (pv 2)) (pps_cons pe_str (de_var (pv 2)) (pps_cons pe_str (de_var (pv 2)) (pps_cons pe_str (de_var (pv 2)) (pps_cons pe_str (de_fz (de_lst (pe_lst (da_cons (pa_cons (de_str pe_str) (da_nil pa_nil)))))) (pps_cons pe_str (de_fz (de_lst (pe_lst (da_cons (pa_cons (de_str pe_str) (da_nil pa_nil)))))) (pps_cons pe_str (de_fz (de_lst (pe_lst (da_cons (pa_cons (de_str pe_str) (da_nil pa_nil)))))) pps_nil))))))))) (by rfl) (by rfl) (by simp) (by decide)))))
      (dss_cons (pss_cons (ds_set (ps_set (i := 5) sc__law_asked.nd rfl (.inl rfl) (de_dispN (ks := ["eq", "lt", "less", "both", "either", "no"]) (fs := [_, _, _, _, _, _]) (by rfl) (by decide) (by decide +kernel) (pe_disp (pps_cons pe_str (de_var (pv 2)) (pps_cons pe_str (de_var (pv 2)) (pps_cons pe_str (de_var (pv 2)) (pps_cons pe_str (de_fz (de_lst (pe_lst (da_cons (pa_cons (de_str pe_str) (da_cons (pa_cons (de_str pe_str) (da_nil pa_nil)))))))) (pps_cons pe_str (de_fz (de_lst (pe_lst (da_cons (pa_cons (de_str pe_str) (da_cons (pa_cons (de_str pe_str) (da_nil pa_nil)))))))) (pps_cons pe_str (de_fz (de_lst (pe_lst (da_cons (pa_cons (de_str pe_str) (da_nil pa_nil)))))) pps_nil)))))) (by rfl) (by rfl) (by simp) (by decide)))))
      (dss_cons (pss_cons (ds_if (ps_if (dt_inDic (pt_cmp (pc_din (Nat.lt_of_le_of_lt (Nat.add_le_add_left (by decide) _) hr.units) (de_var (pv 0)) (de_var (pv 4)))))
        (pss_one (ds_ret (ps_ret (de_fz (de_lst (pe_lst (da_cons (pa_cons (de_str pe_str) (da_cons (pa_cons (de_getDic (pe_dget (Nat.lt_of_le_of_lt (Nat.add_le_add_left (by decide) _) hr.units) (de_var (pv 4)) (de_var (pv 0)) (fun _ _ => rfl))) (da_nil pa_nil)))))))))))
        (dss_nil pss_nil)))
      (dss_cons (pss_cons (ds_if (ps_if (dt_inDic (pt_cmp (pc_din (Nat.lt_of_le_of_lt (Nat.add_le_add_left (by decide) _) hr.units) (de_var (pv 0)) (de_var (pv 5)))))
        (pss_one (ds_ret (ps_ret (de_fz (de_lst (pe_lst (da_cons (pa_cons (de_str pe_str) (da_cons (pa_cons (de_getDic (pe_dget (Nat.lt_of_le_of_lt (Nat.add_le_add_left (by decide) _) hr.units) (de_var (pv 5)) (de_var (pv 0)) (fun _ _ => rfl))) (da_nil pa_nil)))))))))))
        (dss_nil pss_nil)))
      (dss_cut (pss_cons (ds_if (ps_if (dt_cmp D_eq (pt_cmpR (op_eqA hr.units) (de_var (pv 0)) (de_v (de_str pe_str)) (nomark _)))
        (pss_one (ds_ret (ps_ret (de_fz (de_lst (pe_lst (da_cons (pa_cons (de_str pe_str) (da_cons (pa_cons (de_fz (de_lst (pe_lst (da_cons (pa_cons (de_str pe_str) (da_cons (pa_cons (de_str pe_str) (da_cons (pa_cons (de_str pe_str) (da_nil pa_nil)))))))))) (da_nil pa_nil)))))))))))
        (dss_nil pss_nil)))
      (dss_cut (pss_cons (ds_if (ps_if (PW.pt (dw_and (pw_and (dt_cmp D_eq (pt_cmpR (op_eqA hr.units) (de_cb D_len (pe_callB call_lenA (by rfl) T.m_len (by decide +kernel) (da_one (pa_cons (de_v (de_var (pv 3))) pa_nil)))) (de_v (de_int pe_int)) (nomark _))) (dw_and (pw_and (dt_cmp D_eq (pt_cmpR (op_eqA hr.units) (de_op D_ix (pe_ix ix_seq (de_var (pv 3)) (de_v (de_int pe_int)) (fun _ _ => rfl))) (de_v (de_str pe_str)) (nomark _))) (pw_and1 (dt_cmp (D_in false) (pt_cmpR op_in_seq (de_op D_ix (pe_ix ix_seq (de_var (pv 3)) (de_v (de_int pe_int)) (fun _ _ => rfl))) (de_v (de_fz (de_lc (tg := (.nm 7)) (pe_lc (own := [("_law_number", 7)]) rfl sc__law_asked.nd (di_rng2 (pi_range2 (by rfl) T.m_range (da_cons (pa_cons (de_int pe_int) (da_cons (pa_cons (de_int pe_int) (da_nil pa_nil))))))) (blkOk_by (own := [("_law_number", 7)]) (N := ["_law_label", "_law_many", "_law_two", "_law_items", "_law_known", "_law_tests", "_law_least", "_law_number"]) (sc := defScope s__law_asked) (by decide +kernel)) (fun _ _ _ _ _ => (pg_name (i := 7) sc__law_asked.nd rfl (Or.inl rfl))) (fun _ _ _ _ _ => (dts_yes pts_nil)) (fun _ _ _ _ _ => (de_cb D_strI (pe_callTy call_str_int (by rfl) T.m_str (by decide +kernel) (da_one (pa_cons (de_v (de_var (pv 7))) pa_nil))))))))) rfl))))))))
        (pss_one (ds_ret (ps_ret (de_fz (de_lst (pe_lst (da_cons (pa_cons (de_str pe_str) (da_cons (pa_cons (de_fz (de_lst (pe_lst (da_cons (pa_cons (de_str pe_str) (da_nil pa_nil)))))) (da_nil pa_nil)))))))))))
        (dss_nil pss_nil)))
      (dss_cons (pss_cons (ds_if (ps_if (PW.pt (dw_and (pw_and (dt_cmp D_eq (pt_cmpR (op_eqA hr.units) (de_cb D_len (pe_callB call_lenA (by rfl) T.m_len (by decide +kernel) (da_one (pa_cons (de_v (de_var (pv 3))) pa_nil)))) (de_v (de_int pe_int)) (nomark _))) (dw_and (pw_and (dt_cmp (D_in false) (pt_cmpR op_in_seq (de_op D_ix (pe_ix ix_seq (de_var (pv 3)) (de_v (de_int pe_int)) (fun _ _ => rfl))) (de_v (de_tup (pe_tup (da_cons (pa_cons (de_str pe_str) (da_cons (pa_cons (de_str pe_str) (da_nil pa_nil)))))))) rfl)) (dw_and (pw_and (dt_val (pt_val (de_callP (pe_callG K__law_is_spelt hgd (hr.mono (by decide)) (by rfl) T.g__law_is_spelt T.F__law_is_spelt.kp T.b__law_is_spelt .nil pass0 (da_cons (pa_cons (de_op D_ix (pe_ix ix_seq (de_var (pv 3)) (de_v (de_int pe_int)) (fun _ _ => rfl))) (da_nil pa_nil))))))) (pw_and1 (dt_cmp (D_in false) (pt_cmpR op_in_seq (de_op D_ix (pe_ix ix_seq (de_var (pv 3)) (de_v (de_int pe_int)) (fun _ _ => rfl))) (de_v (de_tup (pe_tup (da_cons (pa_cons (de_str pe_str) (da_cons (pa_cons (de_str pe_str) (da_cons (pa_cons (de_str pe_str) (da_cons (pa_cons (de_str pe_str) (da_cons (pa_cons (de_str pe_str) (da_cons (pa_cons (de_str pe_str) (da_nil pa_nil)))))))))))))))) rfl))))))))))
        (dss_cons (pss_cons (ds_set (ps_set (i := 6) sc__law_asked.nd rfl (.inl rfl) (de_ife (pe_ifExp (dt_cmp D_eq (pt_cmpR (op_eqA hr.units) (de_op D_ix (pe_ix ix_seq (de_var (pv 3)) (de_v (de_int pe_int)) (fun _ _ => rfl))) (de_v (de_str pe_str)) (nomark _))) (de_int pe_int) (de_int pe_int)))))
        (pss_one (ds_ret (ps_ret (de_ife (pe_ifExp (dt_chain D_le D_le (pt_chain op_le op_le (de_var (pv 6)) (de_var (pv 1)) (de_op D_plusA (pe_op op_plusA (de_int pe_int) (de_v (de_cb D_int (pe_callTy call_intA (by rfl) T.m_int (by decide +kernel) (da_one (pa_cons (de_v (de_op D_eq (pe_cmpR (op_eqA hr.units) (de_op D_ix (pe_ix ix_seq (de_var (pv 3)) (de_v (de_int pe_int)) (fun _ _ => rfl))) (de_v (de_str pe_str)) (nomark _)))) pa_nil))))))))) (de_fz (de_lst (pe_lst (da_cons (pa_cons (de_str pe_str) (da_cons (pa_cons (de_op D_rep (pe_op op_repU (de_fz (de_lst (pe_lst (da_cons (pa_cons (de_str pe_str) (da_nil pa_nil)))))) (de_v (de_var (pv 1))))) (da_nil pa_nil)))))))) (de_non pe_non))))))))
        (dss_nil pss_nil)))
      (pss_one (ds_ret (ps_ret (de_non pe_non))))))))))))))))))))) ?_
  rintro ds C E ⟨x, y, rfl, z, n, rfl, rfl, hz, hl, hn, q⟩
  have fa := facts_A z hz
  unfold factA at fa
  rw [hl, Bool.false_or] at fa
  have hs := labs_str z hz
  rw [Bool.and_eq_true] at hs
  have hi := lab_its hz
  let S0 : DS := ⟨[.da (.str z), .da (.int (n : Nat)), .da (.lst [.str "word", .str "word"]), .da (.lst ((its z).map D.str)), .da (dicT knownT), .da (dicT testsT), .un, .un], 0⟩
  have hS0 : S0 = ⟨[.da (.str z), .da (.int (n : Nat)), .da (.lst [.str "word", .str "word"]), .da (.lst ((its z).map D.str)), .da (dicT knownT), .da (dicT testsT), .un, .un], 0⟩ := rfl
  walk_at "dl"
  refine ⟨Nat.le_trans (Nat.add_le_add_right (lab_len hz) 2) (by decide), _, _, rfl, ?_⟩
  show if (lookD (keysT knownT) (valsT knownT) z).isSome = true then _ else _
  have k1 := look_T z knownT
  rw [k1]
  cases e1 : lookT knownT z with
  | some ks =>
    rw [e1] at fa k1
    have fa : isShp z "word" ks = true := fa
    unfold askO at q
    rw [of_decide_eq_true fa] at q
    exact iteT ⟨_, _, rfl, _, k1, q⟩
  | none =>
    rw [e1] at fa
    refine iteF ⟨_, _, rfl, ?_⟩
    show if (lookD (keysT testsT) (valsT testsT) z).isSome = true then _ else _
    have k2 := look_T z testsT
    rw [k2]
    cases e2 : lookT testsT z with
    | some ks =>
      rw [e2] at fa k2
      have fa : isShp z "truth" ks = true := fa
      unfold askO at q
      rw [of_decide_eq_true fa] at q
      exact iteT ⟨_, _, rfl, _, k2, q⟩
    | none =>
      rw [e2] at fa
      have fa : (if z = "if" then isShp z "word" ["truth", "word", "word"] else factS z) = true := fa
      refine iteF ⟨fun S => S = S0 ∧ ¬ z = "if", ?_, ?_⟩
      · split
        · rename_i h
          rw [if_pos h] at fa
          unfold askO at q
          rw [of_decide_eq_true fa] at q
          exact q
        · rename_i h
          exact ⟨rfl, h⟩
      rintro S1 ⟨rfl, h⟩
      rw [if_neg h] at fa
      rw [hS0]
      walk_at "dl"
      refine ⟨fun S => S = S0 ∧ shp z = none, ?_, ?_⟩
      · unfold factS at fa
        by_cases h2 : (its z).length = 2
        rotate_left
        · refine (if_neg (by rw [List.length_map]; omega)).mpr ⟨rfl, ?_⟩
          generalize its z = L at fa h2
          match L, fa, h2 with
          | [], fa, _ => exact of_decide_eq_true fa
          | [_], fa, _ => exact of_decide_eq_true fa
          | [_, _], _, h2 => exact absurd rfl h2
          | _ :: _ :: _ :: _, fa, _ => exact of_decide_eq_true fa
        obtain ⟨a, b, hL⟩ : ∃ a b, its z = [a, b] := by
          generalize its z = L at h2
          match L, h2 with
          | [a, b], _ => exact ⟨a, b, rfl⟩
        rw [hL] at fa hS0
        have fa : (if a = "shl" ∧ b ∈ nums then isShp z "word" ["word"] else noShp z) = true := fa
        rw [hL]
        refine (if_pos rfl).mpr ⟨_, at_0, qe_str.mpr ⟨_, rfl, ?_⟩⟩
        by_cases ha : a = "shl"
        rotate_left
        · rw [if_neg (fun h => ha h.1)] at fa
          rw [decide_eq_false (show ¬ a = Str.ofString "shl" from ha)]
          exact iteF ⟨hS0.symm, of_decide_eq_true fa⟩
        rw [decide_eq_true (show a = Str.ofString "shl" from ha)]
        refine iteT ⟨_, at_1, ?_⟩
        refine lcD_each (fun i : Nat => .int (1 + (i : Int))) (fun i => .str (Str.ofString (toString (1 + (i : Int))))) (List.range 31) (fun i hi Kt hk => ?_) ?_
        · unfold turnD
          walk_at "dl"
          have := List.mem_range.mp hi
          exact ⟨log_lt (Nat.lt_trans (show (1 + (i : Int)).natAbs < 64 by omega) (by decide +kernel)), hk⟩
        · have e3 : (List.range 31).map (fun i : Nat => D.str (Str.ofString (toString (1 + (i : Int))))) = nums.map D.str := by
            unfold nums
            rw [List.map_map]
            rfl
          rw [e3]
          refine ⟨_, rfl, _, flVs_strs _, ?_⟩
          rw [inV_strs]
          by_cases hb : b ∈ nums
          · rw [if_pos ⟨ha, hb⟩] at fa
            unfold askO at q
            rw [of_decide_eq_true fa] at q
            rw [decide_eq_true hb]
            exact iteT q
          · rw [if_neg (fun h => hb h.2)] at fa
            rw [decide_eq_false hb]
            exact iteF ⟨hS0.symm, of_decide_eq_true fa⟩
      rintro S1 ⟨rfl, hsh⟩
      rw [hS0]
      walk_at "dl"
      unfold askO at q
      rw [hsh] at q
      have q : C (askR (match cal z with | none => none | some c => if loB c.1 ≤ n ∧ n ≤ hiB c.1 then some ("word", List.replicate n "word") else none)) := q
      unfold cal at q
      clear hS0 S0 fa
      have hso := hs.2
      generalize its z = L at q hi hso ⊢
      match L, hi, hso, q with
      | [], _, _, q | [_], _, _, q | [_, _], _, _, q | _ :: _ :: _ :: _ :: _, _, _, q =>
        refine (if_neg ?_).mpr q
        simp
        try omega
      | [a, b, c], hi, hso, q =>
        refine (if_pos (by simp)).mpr ⟨_, at_0, _, rfl, ?_⟩
        have e1 : (eqV (V.str (Str.ofString "call")) (V.str a) || eqV (V.str (Str.ofString "loop")) (V.str a)) = decide (a ∈ [("call" : Str), "loop"]) := by
          rw [← inV_strs]
          show _ = inV (V.str a) [V.str "call", V.str "loop"]
          rw [inV_cons, inV_cons, inV_nil, Bool.or_false]
        simp only [] at q
        rw [e1]
        cases h1 : decide (a ∈ [("call" : Str), "loop"]) with
        | false =>
          rw [h1] at q
          exact iteF q
        | true =>
          have hb : PyData.strOk b = true := by
            have := List.all_eq_true.mp hso b (by simp)
            exact this
          refine iteT ⟨_, at_1, _, rfl, _, rfl, by show b.length ≤ 1000; have := hi b (by simp); omega, hb, _, rfl, ?_⟩
          rw [h1, Bool.true_and] at q
          show if isSp b = true then _ else _
          cases h2 : isSp b with
          | false =>
            rw [h2] at q
            exact iteF q
          | true =>
            refine iteT ⟨_, at_2, _, rfl, ?_⟩
            have e2 : (eqV (V.str (Str.ofString "0")) (V.str c) || (eqV (V.str (Str.ofString "1")) (V.str c) || (eqV (V.str (Str.ofString "2")) (V.str c) || (eqV (V.str (Str.ofString "3")) (V.str c) || (eqV (V.str (Str.ofString "4")) (V.str c) || eqV (V.str (Str.ofString "5")) (V.str c)))))) = decide (c ∈ resN) := by
              rw [← inV_strs]
              show _ = inV (V.str c) [V.str "0", V.str "1", V.str "2", V.str "3", V.str "4", V.str "5"]
              rw [inV_cons, inV_cons, inV_cons, inV_cons, inV_cons, inV_cons, inV_nil, Bool.or_false]
            rw [e2]
            rw [h2, Bool.true_and] at q
            cases h3 : decide (c ∈ resN) with
            | false =>
              rw [h3] at q
              exact iteF q
            | true =>
              rw [h3, if_pos rfl] at q
              have q : C (askR (if loB a ≤ n ∧ n ≤ hiB a then some ("word", List.replicate n "word") else none)) := q
              refine iteT ⟨_, at_0, qe_str.mpr ⟨_, rfl, ?_⟩⟩
              have ha := of_decide_eq_true h1
              simp only [List.mem_cons, List.not_mem_nil, or_false] at ha
              have fin : ∀ (m : Nat), m ≤ 1000 → D.lst (repD (m : Int).toNat [D.str "word"]) = D.lst ((List.replicate m ("word" : Str)).map D.str) := fun m _ => by
                rw [Int.toNat_natCast, rep1, List.map_replicate]
              rcases ha with rfl | rfl
              · rw [show loB "call" = 0 from by decide +kernel, show hiB "call" = 6 from by decide +kernel] at q
                refine iteT ((if_pos (by omega)).mpr ⟨_, at_0, qe_str.mpr (.inr (.inl ⟨_, rfl, ?_⟩))⟩)
                rw [show decide (Str.ofString "call" = Str.ofString "loop") = false by decide +kernel]
                by_cases hh : n ≤ 6
                · rw [if_pos ⟨Nat.zero_le _, hh⟩] at q
                  refine (if_pos (by show (n : Int) ≤ 6 + 0; omega)).mpr ⟨by omega, by omega, ?_⟩
                  rw [fin n hn]
                  exact q
                · rw [if_neg (by omega)] at q
                  exact (if_neg (by show ¬ (n : Int) ≤ 6 + 0; omega)).mpr q
              · rw [show loB "loop" = 2 from by decide +kernel, show hiB "loop" = 7 from by decide +kernel] at q
                rw [show decide (Str.ofString "loop" = Str.ofString "call") = false by decide +kernel]
                refine iteF ?_
                by_cases h4 : 2 ≤ n
                rotate_left
                · rw [if_neg (by omega)] at q
                  exact (if_neg (by omega)).mpr q
                refine (if_pos (by omega)).mpr ⟨_, at_0, qe_str.mpr (.inr (.inl ⟨_, rfl, ?_⟩))⟩
                rw [show decide (Str.ofString "loop" = Str.ofString "loop") = true by decide +kernel]
                by_cases hh : n ≤ 7
                · rw [if_pos ⟨h4, hh⟩] at q
                  refine (if_pos (by show (n : Int) ≤ 6 + 1; omega)).mpr ⟨by omega, by omega, ?_⟩
                  rw [fin n hn]
                  exact q
                · rw [if_neg (by omega)] at q
                  exact (if_neg (by show ¬ (n : Int) ≤ 6 + 1; omega)).mpr q
end
end K03D
end
section
set_option maxHeartbeats 4000000
namespace K03D
open PySem PySem.Spec PyProof.Rows L2 G1 G2 DL K03 R1 StX
variable [TB]
local macro_rules | `(tactic| walk_at "dl") => `(tactic| simp (decide := true) only [dSlA, dSlO, dRev, dPop, dExt, dDelFrom, dCallH, daStar, dRep, dListZip, dDispN, dVals, dInDic, dGetDic, dInK, dIxK, dKget, dStrI, dSplit, dLeS, dRaiseI, dIsnB, dInSign, lookD, plusA_int, plusA_str, plusA_lst, plusA_tup, dVar, dVw, dC, dOp, dOpL, dUn, dCB, daNil, daCons, daOne, dCallP, dCallT, dTup, dLst, dFz, dSet, dSetO, dDrop, dRet, dRetF, dRetO, dCallTN, dRetN, dNext, dBreak, dCont, dSeq, dCut, dIfS, dFrz, dAsg, dPar, bindT, setsD, slotsT, dItL, dItT, dItS, dRng1, dRng2, dFor, dTst, dTru, dNot, dAnd, dOr, dAndV, dOrV, dNotV, dIfE, dLc, dYes, turnD, wipeD, restG, kp, dI0, dI, dNeg, dIsN, dNotN, dIsB, dLen, dIsi, isiTab, dInt, dAbs, dAll, dAny, dTupOf, dListOf, dNoPart, dPart, dSl, dSlL, dFmt, dJs, dM1, dStarts, dApp, dSetIx, dChain, dZip, dEnum, dSigns, dHeard, hideS, hideL, dLcN, dNbeg, dNend, dNcons, dNset, dNapp, dNpop, dDnew, dDisp1, dRaise, dRepr, dIn, flVs, kT_non, kT_bl, kT_int, kT_str, kT_lst, kT_tup, kT_dic, isN_non, isN_bl, isN_int, isN_str, isN_lst, isN_tup, isN_dic, lenD_lst, lenD_tup, lenD_str, it_lst, it_tup, fl_non, fl_bl, fl_int, fl_str, tru_non, tru_bl, tru_int, tru_lst, tru_tup, plus_int, plus_str, plus_lst, plus_tup, ix_lst, ix_tup', ix_str', qe_str, qn_str, qe_int, qn_int, qe_bl, qn_bl, at_0, at_1, at_2, at_l1, at_l2, at_l3, at_k2, at_k3, inV_nil, inV_cons, eqV_str, eqV_int, eqV_bl, Bool.or_false, Bool.or_true, Bool.true_or, Bool.false_or, Bool.and_true, Bool.and_false, decide_eq_true_eq, Bool.not_eq_true', decide_eq_false_iff_not, eq_self, ne_eq, not_true_eq_false, not_false_eq_true, 
  F1, F2, F3, F4, T1, T2, T3, T4, startD, List.append_nil, List.cons_append, List.nil_append, List.map_cons, List.map_nil, List.length_cons, List.length_nil, List.getElem?_cons_zero, List.getElem?_cons_succ, List.getElem?_nil, List.getD_cons_zero, List.getD_cons_succ, Nat.reduceAdd, Nat.reduceSub, Nat.zero_add, List.replicate, List.replicate_zero, List.replicate_succ, List.set_cons_zero, List.set_cons_succ, List.set_nil,
  exists_eq_left, exists_eq_left', exists_eq_right, exists_eq_right', exists_and_left, Option.some.injEq, Sl.da.injEq, Sl.ow.injEq, D.bl.injEq, D.int.injEq, D.str.injEq, D.tup.injEq, D.lst.injEq, D.ob.injEq, List.cons.injEq, and_true, true_and, and_assoc, if_true, if_false, reduceIte, reduceCtorEq, Bool.false_eq_true, Bool.not_true, Bool.not_false, decide_true, decide_false, false_and, and_false, exists_false, false_or, or_false, Option.bind_some, Option.map_some])

mutual
def dep : D → Nat
  | .lst ds => deps ds + 1
  | .tup ds => deps ds + 1
  | _ => 0
def deps : List D → Nat
  | [] => 0
  | d :: ds => max (dep d) (deps ds)
end
theorem deps_mem : ∀ {ds : List D} {d : D}, d ∈ ds → dep d ≤ deps ds
  | e :: ds, d, h => by
    show dep d ≤ max (dep e) (deps ds)
    rcases List.mem_cons.mp h with h | h
    · subst h
      exact Nat.le_max_left _ _
    · exact Nat.le_trans (deps_mem h) (Nat.le_max_right _ _)
theorem wts_mem : ∀ {ds : List D} {d : D}, d ∈ ds → wt d ≤ wts ds
  | e :: ds, d, h => by
    show wt d ≤ wt e + wts ds
    rcases List.mem_cons.mp h with h | h
    · subst h
      exact Nat.le_add_right _ _
    · exact Nat.le_trans (wts_mem h) (Nat.le_add_left _ _)
theorem lookT_isSome {α : Type} (z : Str) : ∀ L : List (Str × α), (lookT L z).isSome = decide (z ∈ L.map (·.1))
  | [] => rfl
  | (k, v) :: L => by
    show (if z = k then some v else lookT L z).isSome = decide (z ∈ k :: L.map (·.1))
    by_cases h : z = k
    · rw [if_pos h, decide_eq_true (by rw [h]; exact List.mem_cons_self ..)]
      rfl
    · rw [if_neg h, lookT_isSome z L]
      apply decide_eq_decide.mpr
      rw [List.mem_cons]
      constructor
      · exact .inr
      · rintro (e | e)
        · exact absurd e h
        · exact e
theorem leaf_cases (z : Str) : isLf z = (decide (z ∈ noN) || decide (z ∈ [("number" : Str), "name", "flag"])) := by
  unfold isLf
  rw [lookT_isSome]
  show decide (z ∈ [("number" : Str), "name", "flag", "true", "false"]) = _
  rw [Bool.eq_iff_iff, Bool.or_eq_true, decide_eq_true_iff, decide_eq_true_iff, decide_eq_true_iff]
  unfold noN
  simp only [List.mem_cons, List.not_mem_nil, or_false]
  constructor
  · rintro (h | h | h | h | h)
    · exact .inr (.inl h)
    · exact .inr (.inr (.inl h))
    · exact .inr (.inr (.inr h))
    · exact .inl (.inl h)
    · exact .inl (.inr h)
  · rintro ((h | h) | h | h | h)
    · exact .inr (.inr (.inr (.inl h)))
    · exact .inr (.inr (.inr (.inr h)))
    · exact .inl h
    · exact .inr (.inl h)
    · exact .inr (.inr (.inl h))
def two (s : Str) : Prop := s = "word" ∨ s = "truth"
theorem two_str {s : Str} (h : two s) : PyData.strOk s = true := by
  rcases h with rfl | rfl <;> decide +kernel
theorem lookT_mem {α : Type} {z : Str} {v : α} : ∀ {L : List (Str × α)}, lookT L z = some v → ∃ k, (k, v) ∈ L
  | [], h => by cases h
  | (k, w) :: L, h => by
    have h : (if z = k then some w else lookT L z) = some v := h
    split at h
    · cases h
      exact ⟨k, List.mem_cons_self ..⟩
    · obtain ⟨k', hk⟩ := lookT_mem h
      exact ⟨k', List.mem_cons_of_mem _ hk⟩
theorem shapes_two : ∀ p ∈ shapesT, two p.2.1 ∧ ∀ k ∈ p.2.2, two k := by
  unfold two
  decide +kernel
theorem leaf_two : ∀ p ∈ leafT, two p.2 := by
  unfold two
  decide +kernel
theorem ask_two {z : Str} {n : Nat} {r : Str} {ks : List Str} (h : askO z n = some (r, ks)) : two r ∧ ∀ k ∈ ks, two k := by
  unfold askO at h
  split at h
  · rename_i p e
    cases h
    unfold shp at e
    split at e
    · cases e
      exact ⟨.inl rfl, fun k hk => by rw [List.mem_singleton.mp hk]; exact .inl rfl⟩
    · obtain ⟨k, hk⟩ := lookT_mem e
      exact shapes_two _ hk
  · split at h
    · cases h
    · split at h
      · cases h
        exact ⟨.inl rfl, fun k hk => by rw [(List.mem_replicate.mp hk).2]; exact .inl rfl⟩
      · cases h
theorem form_two {z : Str} {ps : List D} {r : Str} {ks : List Str} (h : formL z ps = some (r, ks)) : two r := by
  unfold formL at h
  split at h
  · rename_i r' e
    split at h
    · cases h
      obtain ⟨k, hk⟩ := lookT_mem e
      exact leaf_two _ hk
    · cases h
  · split at h
    · cases h
    · rename_i p e
      split at h
      · cases h
        exact (ask_two e).1
      · cases h
theorem kd_two {p : D} {s : Str} (h : kd p = some s) : two s := by
  have key : ∀ ds, kdl ds = some s → two s := by
    intro ds h
    match ds, h with
    | [], h => cases h
    | d :: ps, h =>
      cases d with
      | str z =>
        have h : (match formL z ps with | none => (none : Option Str) | some p => if oks ps p.2 = true then some p.1 else none) = some s := h
        split at h
        · cases h
        · rename_i p e
          split at h
          · cases h
            exact form_two e
          · cases h
      | _ => cases h
  cases p with
  | lst ds => exact key ds h
  | tup ds => exact key ds h
  | _ => cases h
theorem kds_oks : ∀ (ps : List D) (ks : List Str), ks.length = ps.length → decide (ps.map kd = ks.map some) = oks ps ks
  | [], [], _ => rfl
  | [], _ :: _, h => by cases h
  | _ :: _, [], h => by cases h
  | p :: ps, k :: ks, h => by
    show _ = (decide (kd p = some k) && oks ps ks)
    rw [← kds_oks ps ks (Nat.succ.inj h)]
    by_cases h1 : kd p = some k <;> by_cases h2 : ps.map kd = ks.map some <;> simp [h1, h2]
theorem kd_form {x : D} {z : Str} {ps : List D} (h : seqD x (.str z :: ps)) : kd x = match formL z ps with | none => (none : Option Str) | some p => if oks ps p.2 = true then some p.1 else none := by
  rw [kd_sq h]
  rfl
theorem gd_str {d : D} (h : gdB d = true) : okSD d := by
  cases d <;> first | exact True.intro | skip
  rename_i z
  have hz : z ∈ labs := of_decide_eq_true h
  have := labs_str z hz
  rw [Bool.and_eq_true] at this
  exact this.1
theorem lookT_leaf {z : Str} {r : Str} (h : lookT leafT z = some r) : r = if z = "number" ∨ z = "name" then "word" else "truth" := by
  unfold leafT at h
  simp only [lookT] at h
  by_cases h1 : z = "number"
  · simp [h1] at h
    rw [if_pos (.inl h1)]
    exact h.symm
  · by_cases h2 : z = "name"
    · simp [h2] at h
      rw [if_pos (.inr h2)]
      exact h.symm
    · rw [if_neg (by intro h; rcases h with h | h; exact h1 h; exact h2 h)]
      simp only [if_neg h1, if_neg h2] at h
      by_cases h3 : z = "flag"
      · rw [if_pos h3] at h
        exact (Option.some.inj h).symm
      · rw [if_neg h3] at h
        by_cases h4 : z = "true"
        · rw [if_pos h4] at h
          exact (Option.some.inj h).symm
        · rw [if_neg h4] at h
          by_cases h5 : z = "false"
          · rw [if_pos h5] at h
            exact (Option.some.inj h).symm
          · rw [if_neg h5] at h
            cases h
section
variable {P : Program} {w : World} {K : PySem.W.Frag} {mg : Str → Option Value} {base : Heap}
def g__law_kind (n : Nat) : FP := F1 fun x C _ => gdB x = true ∧ wt x ≤ 1000 ∧ dep x < n ∧ C (oD (kd x))
theorem g__law_kind_no {vs H Q E} (h : spP K (g__law_kind 0) vs H Q E) : False := by
  obtain ⟨_, _, _, _, _, ⟨_, _, _, _, h, _⟩, _⟩ := h
  exact Nat.not_lt_zero _ h
theorem g__law_kind_len {n : Nat} (ds : List D) (C : D → Prop) (E : Err → Prop) (h : g__law_kind n ds C E) : ds.length = 1 := F1_len ds C E h
theorem ok__law_kind (T : Txt w K mg) : ∀ n : Nat, FnG P w K mg base CX0 (n + 8) T.f__law_kind T.fd__law_kind ["_law_value"] (spP K (g__law_kind n)) := by
  have K__law_asked := ok__law_asked (P := P) (w := w) (base := base) T
  have K__law_is_spelt := ok__law_is_spelt (P := P) (w := w) (base := base) T
  intro n
  induction n with
  | zero => exact ⟨fun vs H Q E h => (g__law_kind_no h).elim, fun A outer s H args us vs Q E _ _ _ _ _ h => (g__law_kind_no h).elim⟩
  | succ n K__law_kind =>
  refine (show FnG P w K mg base CX0 ((n + 8) + 1) T.f__law_kind T.fd__law_kind ["_law_value"] (spP K (g__law_kind (n + 1))) from fnP0 T.F__law_kind sc__law_kind g__law_kind_len (fun tr O0 H0 Er cdv A outer s H E hgd hr =>
      (dss_cons (pss_cons (ds_if (ps_if (PW.pt (dw_or (pw_or (dt_not (pt_not (dt_val (pt_val (de_isi2 rfl rfl (pe_callB call_isiT (by rfl) T.m_isinstance (by decide +kernel) (pa_cons (de_v (de_var (pv 0))) (pa_cons (pe_tup (pa_cons (pe_bltn (v := .ty "list") (by rfl) T.m_list (by decide +kernel) rfl) (pa_cons (pe_bltn (v := .ty "tuple") (by rfl) T.m_tuple (by decide +kernel) rfl) pa_nil))) pa_nil)))))))) (dw_or (pw_or (dt_cmp D_eq (pt_cmpR (op_eqA hr.units) (de_cb D_len (pe_callB call_lenA (by rfl) T.m_len (by decide +kernel) (da_one (pa_cons (de_v (de_var (pv 0))) pa_nil)))) (de_v (de_int pe_int)) (nomark _))) (pw_or1 (dt_not (pt_not (dt_val (pt_val (de_isi1 rfl (pe_callB call_isi (by rfl) T.m_isinstance (by decide +kernel) (pa_cons (de_v (de_op D_ix (pe_ix ix_seq (de_var (pv 0)) (de_v (de_int pe_int)) (fun _ _ => rfl)))) (pa_cons (pe_bltn (v := .ty "str") (by rfl) T.m_str (by decide +kernel) rfl) pa_nil))))))))))))))
        (pss_one (ds_ret (ps_ret (de_non pe_non))))
        (dss_nil pss_nil)))
      (dss_cons (pss_cons (ds_if (ps_if (dt_cmp (D_in false) (pt_cmpR op_in_seq (de_op D_ix (pe_ix ix_seq (de_var (pv 0)) (de_v (de_int pe_int)) (fun _ _ => rfl))) (de_v (de_tup (pe_tup (da_cons (pa_cons (de_str pe_str) (da_cons (pa_cons (de_str pe_str) (da_nil pa_nil)))))))) rfl))
        (pss_one (ds_ret (ps_ret (de_ife (pe_ifExp (dt_cmp D_eq (pt_cmpR (op_eqA hr.units) (de_cb D_len (pe_callB call_lenA (by rfl) T.m_len (by decide +kernel) (da_one (pa_cons (de_v (de_var (pv 0))) pa_nil)))) (de_v (de_int pe_int)) (nomark _))) (de_str pe_str) (de_non pe_non))))))
        (dss_nil pss_nil)))
      (dss_cons (pss_cons (ds_if (ps_if (dt_cmp (D_in false) (pt_cmpR op_in_seq (de_op D_ix (pe_ix ix_seq (de_var (pv 0)) (de_v (de_int pe_int)) (fun _ _ => rfl))) (de_v (de_tup (pe_tup (da_cons (pa_cons (de_str pe_str) (da_cons (pa_cons (de_str pe_str) (da_cons (pa_cons (de_str pe_str) (da_nil pa_nil)))))))))) rfl))
        (dss_cons (pss_cons (ds_if (ps_if (dt_cmp D_ne (pt_cmpR (op_neA hr.units) (de_cb D_len (pe_callB call_lenA (by rfl) T.m_len (by decide +kernel) (da_one (pa_cons (de_v (de_var (pv 0))) pa_nil)))) (de_v (de_int pe_int)) (nomark _)))
          (pss_one (ds_ret (ps_ret (de_non pe_non))))
          (dss_nil pss_nil)))
        (dss_cons (pss_cons (ds_if (ps_if (dt_cmp D_eq (pt_cmpR (op_eqA hr.units) (de_op D_ix (pe_ix ix_seq (de_var (pv 0)) (de_v (de_int pe_int)) (fun _ _ => rfl))) (de_v (de_str pe_str)) (nomark _)))
          (dss_cons (pss_cons (ds_set (ps_set (i := 1) sc__law_kind.nd rfl (.inl rfl) (de_and (pe_and (de_isi1 rfl (pe_callB call_isi (by rfl) T.m_isinstance (by decide +kernel) (pa_cons (de_v (de_op D_ix (pe_ix ix_seq (de_var (pv 0)) (de_v (de_int pe_int)) (fun _ _ => rfl)))) (pa_cons (pe_bltn (v := .ty "int") (by rfl) T.m_int (by decide +kernel) rfl) pa_nil)))) (de_and (pe_and (de_not (pe_not (de_isi1 rfl (pe_callB call_isi (by rfl) T.m_isinstance (by decide +kernel) (pa_cons (de_v (de_op D_ix (pe_ix ix_seq (de_var (pv 0)) (de_v (de_int pe_int)) (fun _ _ => rfl)))) (pa_cons (pe_bltn (v := .ty "bool") (by rfl) T.m_bool (by decide +kernel) rfl) pa_nil)))))) (pe_one (de_op D_le (pe_cmpR op_le (de_cb D_abs (pe_callB call_abs (by rfl) T.m_abs (by decide +kernel) (da_one (pa_cons (de_v (de_op D_ix (pe_ix ix_seq (de_var (pv 0)) (de_v (de_int pe_int)) (fun _ _ => rfl)))) pa_nil)))) (de_v (de_int pe_int)) (nomark _))))))))))
          (pss_one (ds_ret (ps_ret (de_ife (pe_ifExp (dt_val (pt_val (de_var (pv 1)))) (de_str pe_str) (de_non pe_non))))))))
          (dss_nil pss_nil)))
        (dss_cons (pss_cons (ds_if (ps_if (PW.pt (dw_or (pw_or (dt_not (pt_not (dt_val (pt_val (de_callP (pe_callG K__law_is_spelt hgd (hr.mono (by omega)) (by rfl) T.g__law_is_spelt T.F__law_is_spelt.kp T.b__law_is_spelt .nil pass0 (da_cons (pa_cons (de_op D_ix (pe_ix ix_seq (de_var (pv 0)) (de_v (de_int pe_int)) (fun _ _ => rfl))) (da_nil pa_nil))))))))) (pw_or1 (PW.pt (dw_and (pw_and (dt_cmp D_eq (pt_cmpR (op_eqA hr.units) (de_op D_ix (pe_ix ix_seq (de_var (pv 0)) (de_v (de_int pe_int)) (fun _ _ => rfl))) (de_v (de_str pe_str)) (nomark _))) (pw_and1 (dt_cmp (D_in false) (pt_cmpR op_in_seq (de_op D_ix (pe_ix ix_seq (de_var (pv 0)) (de_v (de_int pe_int)) (fun _ _ => rfl))) (de_v (de_tup (pe_tup (da_cons (pa_cons (de_str pe_str) (da_cons (pa_cons (de_str pe_str) (da_nil pa_nil)))))))) rfl))))))))))
          (pss_one (ds_ret (ps_ret (de_non pe_non))))
          (dss_nil pss_nil)))
        (pss_one (ds_ret (ps_ret (de_ife (pe_ifExp (dt_cmp D_eq (pt_cmpR (op_eqA hr.units) (de_op D_ix (pe_ix ix_seq (de_var (pv 0)) (de_v (de_int pe_int)) (fun _ _ => rfl))) (de_v (de_str pe_str)) (nomark _))) (de_str pe_str) (de_str pe_str))))))))))))
        (dss_nil pss_nil)))
      (dss_cons (pss_cons (ds_set (ps_set (i := 2) sc__law_kind.nd rfl (.inl rfl) (de_callP (pe_callG K__law_asked hgd (hr.mono (by omega)) (by rfl) T.g__law_asked T.F__law_asked.kp T.b__law_asked .nil pass0 (da_cons (pa_cons (de_op D_ix (pe_ix ix_seq (de_var (pv 0)) (de_v (de_int pe_int)) (fun _ _ => rfl))) (da_cons (pa_cons (de_op D_sub (pe_op op_sub (de_cb D_len (pe_callB call_lenA (by rfl) T.m_len (by decide +kernel) (da_one (pa_cons (de_v (de_var (pv 0))) pa_nil)))) (de_v (de_int pe_int)))) (da_nil pa_nil)))))))))
      (dss_cons (pss_cons (ds_if (ps_if (PW.pt (dw_or (pw_or (dt_cmp D_isN (pt_cmpR op_isN (de_var (pv 2)) (de_v (de_non pe_non)) (nomark _))) (pw_or1 (dt_cmp D_ne (pt_cmpR (op_neA hr.units) (de_cb D_len (pe_callB call_lenA (by rfl) T.m_len (by decide +kernel) (da_one (pa_cons (de_v (de_op D_ix (pe_ix ix_seq (de_var (pv 2)) (de_v (de_int pe_int)) (fun _ _ => rfl)))) pa_nil)))) (de_v (de_op D_sub (pe_op op_sub (de_cb D_len (pe_callB call_lenA (by rfl) T.m_len (by decide +kernel) (da_one (pa_cons (de_v (de_var (pv 0))) pa_nil)))) (de_v (de_int pe_int))))) (nomark _)))))))
        (pss_one (ds_ret (ps_ret (de_non pe_non))))
        (dss_nil pss_nil)))
      (dss_cons (pss_cons (ds_lc (tg := (.nm 4)) (ps_setLc (i := 3) (own := [("_law_part", 4)]) (by rfl) sc__law_kind.nd rfl rfl (sw_true rfl rfl rfl (by decide +kernel)) (di_seq (pi_seqA (de_slA (pe_slice sl_all (de_var (pv 0)) (do_some (po_some (de_int pe_int))) (do_none po_none))))) (blkOk_by (own := [("_law_part", 4)]) (N := ["_law_value", "_law_fits", "_law_asked_here", "_law_kinds", "_law_part"]) (sc := defScope s__law_kind) (by decide +kernel)) (fun _ _ _ _ _ => (pg_name (i := 4) sc__law_kind.nd rfl (Or.inl rfl))) (fun _ _ _ _ _ => (dts_yes pts_nil)) (fun _ _ _ _ _ => (de_callP (pe_callG K__law_kind hgd (hr.mono (by omega)) (by rfl) T.g__law_kind T.F__law_kind.kp T.b__law_kind .nil pass0 (da_cons (pa_cons (de_var (pv 4)) (da_nil pa_nil))))))))
      (pss_one (ds_ret (ps_ret (de_ife (pe_ifExp (dt_cmp D_eq (pt_cmpR (op_eqA hr.units) (de_var (pv 3)) (de_v (de_op D_ix (pe_ix ix_seq (de_var (pv 2)) (de_v (de_int pe_int)) (fun _ _ => rfl)))) (nomark _))) (de_op D_ix (pe_ix ix_seq (de_var (pv 2)) (de_v (de_int pe_int)) (fun _ _ => rfl))) (de_non pe_non))))))))))))))))))) ?_).mono (by omega)
  rintro ds C E ⟨x, rfl, hg, hw, hd, q⟩
  walk_at "dl"
  obtain ⟨k, hk⟩ := gd_kind hg
  refine ⟨k, hk, ?_⟩
  by_cases hs : ∃ ds, seqD x ds
  rotate_left
  · have q : C .non := by
      cases x <;> first | exact q | exact absurd ⟨_, .inl rfl⟩ hs | exact absurd ⟨_, .inr rfl⟩ hs
    refine (if_pos ?_).mpr q
    cases x <;> first | (cases hk; rfl) | exact absurd ⟨_, .inl rfl⟩ hs | exact absurd ⟨_, .inr rfl⟩ hs | cases hk
  obtain ⟨es, hx⟩ := hs
  have hgs : gdsB es = true := by rcases hx with rfl | rfl <;> exact hg
  have hws : wts es + 1 ≤ 1000 := by rcases hx with rfl | rfl <;> exact hw
  have hds : deps es < n := by
    have : deps es + 1 < n + 1 := by rcases hx with rfl | rfl <;> exact hd
    omega
  refine (if_neg ?_).mpr ⟨_, len_sq hx, ?_⟩
  · rcases hx with rfl | rfl <;> cases hk <;> decide
  match es, hx, hgs, hws, hds with
  | [], hx, _, _, _ =>
    rw [kd_sq hx] at q
    exact (if_pos rfl).mpr q
  | d :: ps, hx, hgs, hws, hds =>
    refine (if_neg (by simp only [List.length_cons]; omega)).mpr (ix_sq hx at_0 ?_)
    have gd0 : gdB d = true := gds_mem hgs d (List.mem_cons_self ..)
    obtain ⟨k0, hk0⟩ := gd_kind gd0
    refine ⟨k0, hk0, ?_⟩
    by_cases hstr : ∃ z, d = .str z
    rotate_left
    · have q : C .non := by
        rw [kd_sq hx] at q
        cases d <;> first | exact q | exact absurd ⟨_, rfl⟩ hstr
      refine (if_pos ?_).mpr q
      cases d <;> first | (cases hk0; rfl) | exact absurd ⟨_, rfl⟩ hstr | cases hk0
    obtain ⟨z, rfl⟩ := hstr
    cases hk0
    have hz : z ∈ labs := of_decide_eq_true gd0
    have gps : gdsB ps = true := gds_of fun d hd => gds_mem hgs d (List.mem_cons_of_mem _ hd)
    have lps : ps.length ≤ 998 := by
      have := len_wts ps
      have : wts (D.str z :: ps) = 1 + wts ps := rfl
      omega
    refine (if_neg (by decide)).mpr (ix_sq hx at_0 ⟨_, rfl, ?_⟩)
    have e1 : (eqV (V.str (Str.ofString "true")) (V.str z) || eqV (V.str (Str.ofString "false")) (V.str z)) = decide (z ∈ noN) := by
      rw [← inV_strs]
      show _ = inV (V.str z) [V.str "true", V.str "false"]
      rw [inV_cons, inV_cons, inV_nil, Bool.or_false]
    have e2 : (eqV (V.str (Str.ofString "number")) (V.str z) || (eqV (V.str (Str.ofString "name")) (V.str z) || eqV (V.str (Str.ofString "flag")) (V.str z))) = decide (z ∈ [("number" : Str), "name", "flag"]) := by
      rw [← inV_strs]
      show _ = inV (V.str z) [V.str "number", V.str "name", V.str "flag"]
      rw [inV_cons, inV_cons, inV_cons, inV_nil, Bool.or_false]
    rw [kd_form hx] at q
    rw [e1]
    have hlf := leaf_cases z
    cases h1 : decide (z ∈ noN) with
    | true =>
      have h1 := of_decide_eq_true h1
      rw [decide_eq_true h1, Bool.true_or] at hlf
      unfold isLf at hlf
      obtain ⟨r, hr⟩ := Option.isSome_iff_exists.mp hlf
      have er : r = "truth" := leaf_no hr h1
      subst er
      unfold formL at q
      rw [hr] at q
      have q : C (oD (match (if leafOk z ps = true then some (("truth" : Str), ([] : List Str)) else none) with | none => none | some p => if oks ps p.2 = true then some p.1 else none)) := q
      unfold leafOk at q
      rw [if_pos h1] at q
      refine iteT ⟨_, len_sq hx, ?_⟩
      by_cases h : ps.length = 0
      · rw [decide_eq_true h, if_pos rfl] at q
        have hp : ps = [] := List.length_eq_zero_iff.mp h
        subst hp
        exact (if_pos rfl).mpr q
      · rw [decide_eq_false h, if_neg (by decide)] at q
        exact (if_neg (by rw [List.length_cons]; omega)).mpr q
    | false =>
      have h1 := of_decide_eq_false h1
      refine iteF (ix_sq hx at_0 ⟨_, rfl, ?_⟩)
      rw [e2]
      rw [decide_eq_false h1, Bool.false_or] at hlf
      cases h2 : decide (z ∈ [("number" : Str), "name", "flag"]) with
      | true =>
        rw [h2] at hlf
        unfold isLf at hlf
        obtain ⟨r, hr⟩ := Option.isSome_iff_exists.mp hlf
        have er := lookT_leaf hr
        unfold formL at q
        rw [hr] at q
        have q : C (oD (match (if leafOk z ps = true then some (r, ([] : List Str)) else none) with | none => none | some p => if oks ps p.2 = true then some p.1 else none)) := q
        have q : C (oD (if leafOk z ps = true then some r else none)) := by
          cases h : leafOk z ps with
          | true =>
            rw [h] at q
            have : oks ps [] = true := by cases ps <;> rfl
            have q : C (oD (if oks ps [] = true then some r else none)) := q
            rw [this] at q
            exact q
          | false =>
            rw [h] at q
            exact q
        unfold leafOk at q
        rw [if_neg h1] at q
        refine iteT ⟨_, len_sq hx, ?_⟩
        match ps, hx, gps, q with
        | [], hx, _, q => exact (if_pos (by simp)).mpr q
        | _ :: _ :: _, hx, _, q => exact (if_pos (by simp only [List.length_cons]; omega)).mpr q
        | [p], hx, gps, q =>
          have gp : gdB p = true := gds_mem gps p (List.mem_cons_self ..)
          obtain ⟨kp, hkp⟩ := gd_kind gp
          refine (if_neg (by simp only [List.length_cons, List.length_nil]; omega)).mpr (ix_sq hx at_0 (qe_str.mpr ⟨_, rfl, ?_⟩))
          have q : C (oD (if (if z = "number" then isw p (-2147483647) 2147483647 else if z = "name" then nmD p else spD p) = true then some r else none)) := q
          by_cases hn : z = "number"
          · rw [if_pos hn] at q
            rw [if_pos (.inl hn)] at er
            rw [er] at q
            rw [decide_eq_true (show z = Str.ofString "number" from hn)]
            refine iteT (ix_sq hx at_1 ⟨kp, hkp, ?_⟩)
            by_cases hpi : ∃ i, p = .int i
            rotate_left
            · have q : C .non := by
                cases p <;> first | exact q | exact absurd ⟨_, rfl⟩ hpi
              cases p <;> first | (cases hkp; exact (if_neg (by decide)).mpr q) | (cases hkp; exact (if_pos (by decide)).mpr (ix_sq hx at_1 ⟨_, rfl, (if_neg (by decide)).mpr q⟩)) | exact absurd ⟨_, rfl⟩ hpi | cases hkp
            obtain ⟨i, rfl⟩ := hpi
            cases hkp
            refine (if_pos (by decide)).mpr (ix_sq hx at_1 ⟨_, rfl, (if_pos (by decide)).mpr (ix_sq hx at_1 ⟨_, rfl, ?_⟩)⟩)
            have q : C (oD (if (decide (-2147483647 ≤ i) && decide (i ≤ 2147483647)) = true then some ("word" : Str) else none)) := q
            by_cases hi : -2147483647 ≤ i ∧ i ≤ 2147483647
            · rw [decide_eq_true hi.1, decide_eq_true hi.2] at q
              exact (if_pos (by split <;> omega)).mpr q
            · have e : (decide (-2147483647 ≤ i) && decide (i ≤ 2147483647)) = false := by
                rw [Bool.and_eq_false_iff, decide_eq_false_iff_not, decide_eq_false_iff_not]
                by_cases h : -2147483647 ≤ i
                · exact .inr fun h' => hi ⟨h, h'⟩
                · exact .inl h
              rw [e] at q
              exact (if_neg (by split <;> omega)).mpr q
          rw [if_neg hn] at q
          rw [decide_eq_false (show ¬ z = Str.ofString "number" from hn)]
          refine iteF (ix_sq hx at_1 ⟨_, rfl, kp, hkp, gd_short gp, gd_str gp, _, rfl, ?_⟩)
          cases hsp : spD p with
          | false =>
            have q : C .non := by
              have e4 : (if z = "name" then nmD p else spD p) = false := by
                split
                · unfold nmD
                  rw [hsp]
                  rfl
                · exact hsp
              rw [e4] at q
              exact q
            exact fT q
          | true =>
            refine fF (ix_sq hx at_0 (qe_str.mpr ⟨_, rfl, ?_⟩))
            by_cases hm : z = "name"
            · rw [if_pos hm] at q
              rw [if_pos (.inr hm)] at er
              rw [er] at q
              rw [decide_eq_true (show z = Str.ofString "name" from hm)]
              have hy : ∃ y, p = .str y := by cases p <;> first | exact ⟨_, rfl⟩ | cases hsp
              obtain ⟨y, rfl⟩ := hy
              have en : nmD (.str y) = !decide (y ∈ noN) := by
                show (spD (.str y) && !decide (y ∈ noN)) = _
                rw [hsp, Bool.true_and]
              rw [en] at q
              have e3 : (eqV (V.str (Str.ofString "true")) (V.str y) || eqV (V.str (Str.ofString "false")) (V.str y)) = decide (y ∈ noN) := by
                rw [← inV_strs]
                show _ = inV (V.str y) [V.str "true", V.str "false"]
                rw [inV_cons, inV_cons, inV_nil, Bool.or_false]
              refine iteT (ix_sq hx at_1 ⟨_, rfl, ?_⟩)
              rw [e3]
              cases hyn : decide (y ∈ noN) with
              | true =>
                rw [hyn] at q
                exact iteT q
              | false =>
                rw [hyn] at q
                exact iteF (ix_sq hx at_0 (qe_str.mpr ⟨_, rfl, by rw [decide_eq_true (show z = Str.ofString "name" from hm)]; exact iteT q⟩))
            · rw [if_neg hm, hsp, if_pos rfl] at q
              rw [if_neg (by intro h; rcases h with h | h; exact hn h; exact hm h)] at er
              rw [er] at q
              rw [decide_eq_false (show ¬ z = Str.ofString "name" from hm)]
              exact iteF (ix_sq hx at_0 (qe_str.mpr ⟨_, rfl, by rw [decide_eq_false (show ¬ z = Str.ofString "name" from hm)]; exact iteF q⟩))
      | false =>
        rw [h2] at hlf
        have em : (((D.str z :: ps).length : Nat) : Int) - 1 = (ps.length : Int) := by
          rw [List.length_cons]
          omega
        refine iteF (ix_sq hx at_0 ⟨_, len_sq hx, ?_⟩)
        rw [em]
        refine ⟨_, _, rfl, z, ps.length, rfl, rfl, hz, hlf, by omega, ?_⟩
        unfold formL at q
        unfold isLf at hlf
        cases hlt : lookT leafT z with
        | some r => rw [hlt] at hlf; cases hlf
        | none =>
        rw [hlt] at q
        have q : C (oD (match (match askO z ps.length with | none => none | some p => if p.2.length = ps.length then some p else none) with | none => (none : Option Str) | some p => if oks ps p.2 = true then some p.1 else none)) := q
        cases ha : askO z ps.length with
        | none =>
          rw [ha] at q
          exact ⟨true, rfl, iteT q⟩
        | some c =>
          obtain ⟨r, ks⟩ := c
          rw [ha] at q
          have q : C (oD (match (if ks.length = ps.length then some (r, ks) else none) with | none => (none : Option Str) | some p => if oks ps p.2 = true then some p.1 else none)) := q
          refine ⟨false, rfl, iteF (ix_lst.mpr ⟨_, at_1, _, rfl, _, len_sq hx, ?_⟩)⟩
          rw [em, List.length_map]
          by_cases hl : ks.length = ps.length
          rotate_left
          · rw [if_neg hl] at q
            exact (if_pos (show ¬ ((ks.length : Nat) : Int) = (ps.length : Int) by omega)).mpr q
          rw [if_pos hl] at q
          have q : C (oD (if oks ps ks = true then some r else none)) := q
          refine (if_neg (show ¬ ¬ ((ks.length : Nat) : Int) = (ps.length : Int) by omega)).mpr ?_
          have ln : (DL.cutD (D.str z :: ps) (some 1) none).length ≤ sizeLine := by
            rw [cut_tail]
            exact Nat.le_trans lps (by decide)
          have body : ∀ (C2 : List D → DS → Prop) (S : DS), S = ⟨[Sl.da x, Sl.un, Sl.da (askR (some (r, ks))), Sl.un, Sl.un], 0⟩ → C2 (ps.map fun p => oD (kd p)) S → lcD (Tg.nm 4) dYes (dCallP (g__law_kind n) (daCons (dVar 4) daNil)) (DL.cutD (D.str z :: ps) (some 1) none) [] S C2 E := fun C2 S hS hc => by
            subst hS
            rw [cut_tail]
            refine lcD_eachD (fun p => oD (kd p)) ps (fun p hp Kt hk => ?_) hc
            unfold turnD
            walk_at "dl"
            have w1 := wts_mem hp
            have w2 : wts (D.str z :: ps) = 1 + wts ps := rfl
            have d1 := deps_mem hp
            have d2 : deps (D.str z :: ps) = max 0 (deps ps) := rfl
            exact ⟨_, rfl, gds_mem gps p hp, by omega, by omega, hk⟩
          have fin : ∀ KK : Bool → Prop, (oks ps ks = true → KK true) → (oks ps ks = false → KK false) → dEq (.lst (ps.map fun p => oD (kd p))) (.lst (ks.map D.str)) fun d => ∃ b, d = D.bl b ∧ KK b := fun KK q1 q2 => by
            rw [show (ps.map fun p => oD (kd p)) = (ps.map kd).map oD by rw [List.map_map]; rfl]
            refine qe_opts (fun s hs => ?_) (fun s hs => ?_) ⟨_, rfl, ?_⟩
            · obtain ⟨p, _, e⟩ := List.mem_map.mp hs
              exact two_str (kd_two e)
            · exact two_str ((ask_two ha).2 s hs)
            · rw [kds_oks ps ks hl]
              cases ho : oks ps ks with
              | true => exact q1 ho
              | false => exact q2 ho
          rcases hx with rfl | rfl
          all_goals
            refine ⟨ln, body _ _ rfl ⟨_, rfl, _, rfl, ix_lst.mpr ⟨_, at_1, fin _ (fun ho => ?_) fun ho => ?_⟩⟩⟩
            · rw [ho] at q
              exact iteT ⟨_, rfl, ix_lst.mpr ⟨_, at_0, q⟩⟩
            · rw [ho] at q
              exact iteF q
end
end K03D
end
section
set_option maxHeartbeats 4000000
namespace K03D
open PySem PySem.Spec PyProof.Rows L2 G1 G2 DL K03 R1 StX
variable [TB]
local macro_rules | `(tactic| walk_at "dl") => `(tactic| simp (decide := true) only [dSlA, dSlO, dRev, dPop, dExt, dDelFrom, dCallH, daStar, dRep, dListZip, dDispN, dVals, dInDic, dGetDic, dInK, dIxK, dKget, dStrI, dSplit, dLeS, dRaiseI, dIsnB, dInSign, lookD, plusA_int, plusA_str, plusA_lst, plusA_tup, dVar, dVw, dC, dOp, dOpL, dUn, dCB, daNil, daCons, daOne, dCallP, dCallT, dTup, dLst, dFz, dSet, dSetO, dDrop, dRet, dRetF, dRetO, dCallTN, dRetN, dNext, dBreak, dCont, dSeq, dCut, dIfS, dFrz, dAsg, dPar, bindT, setsD, slotsT, dItL, dItT, dItS, dRng1, dRng2, dFor, dTst, dTru, dNot, dAnd, dOr, dAndV, dOrV, dNotV, dIfE, dLc, dYes, turnD, wipeD, restG, kp, dI0, dI, dNeg, dIsN, dNotN, dIsB, dLen, dIsi, isiTab, dInt, dAbs, dAll, dAny, dTupOf, dListOf, dNoPart, dPart, dSl, dSlL, dFmt, dJs, dM1, dStarts, dApp, dSetIx, dChain, dZip, dEnum, dSigns, dHeard, hideS, hideL, dLcN, dNbeg, dNend, dNcons, dNset, dNapp, dNpop, dDnew, dDisp1, dRaise, dRepr, dIn, flVs, kT_non, kT_bl, kT_int, kT_str, kT_lst, kT_tup, kT_dic, isN_non, isN_bl, isN_int, isN_str, isN_lst, isN_tup, isN_dic, lenD_lst, lenD_tup, lenD_str, it_lst, it_tup, fl_non, fl_bl, fl_int, fl_str, tru_non, tru_bl, tru_int, tru_lst, tru_tup, plus_int, plus_str, plus_lst, plus_tup, ix_lst, ix_tup', ix_str', qe_str, qn_str, qe_int, qn_int, qe_bl, qn_bl, at_0, at_1, at_2, at_l1, at_l2, at_l3, at_k2, at_k3, inV_nil, inV_cons, eqV_str, eqV_int, eqV_bl, Bool.or_false, Bool.or_true, Bool.true_or, Bool.false_or, Bool.and_true, Bool.and_false, decide_eq_true_eq, Bool.not_eq_true', decide_eq_false_iff_not, eq_self, ne_eq, not_true_eq_false, not_false_eq_true, 
  F1, F2, F3, F4, T1, T2, T3, T4, startD, List.append_nil, List.cons_append, List.nil_append, List.map_cons, List.map_nil, List.length_cons, List.length_nil, List.getElem?_cons_zero, List.getElem?_cons_succ, List.getElem?_nil, List.getD_cons_zero, List.getD_cons_succ, Nat.reduceAdd, Nat.reduceSub, Nat.zero_add, List.replicate, List.replicate_zero, List.replicate_succ, List.set_cons_zero, List.set_cons_succ, List.set_nil,
  exists_eq_left, exists_eq_left', exists_eq_right, exists_eq_right', exists_and_left, Option.some.injEq, Sl.da.injEq, Sl.ow.injEq, D.bl.injEq, D.int.injEq, D.str.injEq, D.tup.injEq, D.lst.injEq, D.ob.injEq, List.cons.injEq, and_true, true_and, and_assoc, if_true, if_false, reduceIte, reduceCtorEq, Bool.false_eq_true, Bool.not_true, Bool.not_false, decide_true, decide_false, false_and, and_false, exists_false, false_or, or_false, Option.bind_some, Option.map_some])

section
variable {P : Program} {w : World} {K : PySem.W.Frag} {mg : Str → Option Value} {base : Heap}
/-! ### draws -/
theorem tr_in {O : Ow} {H : Hp} {a c : Addr} {n : Nat} (t : TrI K (some (a, c)) O H n) : Tr K H a c n := by
  obtain ⟨ns, t, r, S⟩ := t
  exact ⟨ns, t, r, ⟨S.at_, .inl (.inl S.cells), (fun z => by have := S.own; rw [← z, S.cown] at this; cases this), S.few, S.low⟩, S.left⟩
def ownN (O : Ow) (H : Hp) : Ow := ownA O H fun _ => none
theorem tabs_b {H H1 : Hp} {a : Addr} {vs : List V} (sm : SameB a H H1) (hl : H a = some (.lst vs)) (h : LamX.Tabs TB.T H) : LamX.Tabs TB.T H1 := fun t ht => by
  obtain ⟨ps, h1, h2, h3⟩ := h t ht
  refine ⟨ps, sm _ _ (fun z => by rw [z, hl] at h1; cases h1) h1, h2, fun pos cv hc => ?_⟩
  obtain ⟨c0, e1, e2⟩ := h3 pos cv hc
  exact ⟨c0, e1, sm _ _ (fun z => by rw [z, hl] at e2; unfold LamX.CodeO at e2; cases e2) e2⟩
theorem tr_out {O : Ow} {H H1 : Hp} {a c : Addr} {n n' : Nat} (t : TrI K (some (a, c)) O H n) (sm : SameB a H H1) (t1 : Tr K H1 a c n') : TrI K (some (a, c)) (ownN O H) H1 n' ∧ Aft (some a) O H (ownN O H) H1 ∧ Le O H (ownN O H) H1 := by
  obtain ⟨ns, t, r, S⟩ := t
  obtain ⟨ns', t', r', S', hb⟩ := t1
  have ha : lv H a := ⟨_, S.at_, rfl⟩
  have hc : lv H c := ⟨_, S.cells, rfl⟩
  have nca : c ≠ a := fun z => by have := S.own; rw [← z, S.cown] at this; cases this
  refine ⟨⟨ns, t', r', (ownA_old ha).trans S.own, S'.at_, (ownA_old hc).trans S.cown, sm _ _ nca S.cells, S.few, S'.low, hb⟩, ⟨⟨fun b o n _ e => sm b o (fun z => n (by rw [z])) e, tabs_b sm S.at_⟩, fun b hb e => (ownA_old hb).symm.trans e⟩, ⟨fun b o i e h => ⟨(ownA_old ⟨o, h, i⟩).trans e, sm b o (fun z => ?_) h⟩, fun b u hu h => sm b u (fun z => ?_) h⟩⟩
  · rw [z, S.own] at e
    cases e
  · rw [z, S.at_] at h
    cases h
    cases hu
def g__law_vine : FT := T2 fun x n C => ∃ (m : Int) (n' : Nat), x = .int m ∧ 0 < m ∧ m.natAbs < 2 ^ 400 ∧ n = n' + 1 ∧ ∀ r : Int, 0 ≤ r → r < m → C (.int r) n'
theorem dk__law_vine (T : Txt w K mg) : FnG P w K mg base CX0 1 T.f__law_vine T.fd__law_vine ["_law_trellis_here", "_law_many"] (spT K g__law_vine) := (K03.ok__law_vine (P := P) (base := base) T).imp fun vs H Q E ⟨a, c, O, ds, n, C, Er, r, t, ⟨x, e, m, n', e1, h1, h2, e2, hc⟩, _, hq⟩ => by
  subst e e1 e2
  obtain ⟨_, _, rfl, rfl, _, _, rfl, rfl, rfl⟩ := r
  refine ⟨_, _, rfl, a, c, m, n', rfl, rfl, h1, h2, tr_in t, fun r H1 r0 r1 sm t1 => ?_⟩
  obtain ⟨t2, af, _⟩ := tr_out t sm t1
  exact hq (.int r) n' _ _ _ af t2 rfl (hc r r0 r1)
def g__law_one_of : FT := T2 fun x n C => ∃ (es : List D) (n' : Nat), x = .lst es ∧ 0 < es.length ∧ es.length ≤ 1000 ∧ n = n' + 1 ∧ ∀ d ∈ es, C d n'
theorem reps_mem {O : Ow} {H : Hp} : ∀ {ds : List D} {vs : List V} {v : V}, Reps K O H ds vs → v ∈ vs → ∃ d ∈ ds, Rep K O H d v
  | [], _, _, r, h => by
    rw [show _ = [] from r] at h
    cases h
  | d :: ds, _, _, ⟨u, us, e, r1, r2⟩, h => by
    subst e
    rcases List.mem_cons.mp h with h | h
    · subst h
      exact ⟨d, List.mem_cons_self .., r1⟩
    · obtain ⟨d', h1, h2⟩ := reps_mem r2 h
      exact ⟨d', List.mem_cons_of_mem _ h1, h2⟩
theorem dk__law_one_of (T : Txt w K mg) : FnG P w K mg base CX0 2 T.f__law_one_of T.fd__law_one_of ["_law_trellis_here", "_law_some"] (spT K g__law_one_of) := (K03.ok__law_one_of (P := P) (base := base) T).imp fun vs H Q E ⟨a, c, O, ds, n, C, Er, r, t, ⟨x, e, es, n', e1, h1, h2, e2, hc⟩, _, hq⟩ => by
  subst e e1 e2
  obtain ⟨_, _, rfl, rfl, _, _, rfl, ⟨p, vs, rfl, ⟨o, s⟩, r⟩, rfl⟩ := r
  have own : O a = some 0 := (t.live rfl).1
  refine ⟨_, _, rfl, a, c, p, vs, n', rfl, rfl, .inl (.inl s), fun z => ?_, by rw [r.len]; exact h1, by rw [r.len]; exact h2, tr_in t, fun v H1 hv sm t1 => ?_⟩
  · rw [z, own] at o
    cases o
  · obtain ⟨d, hd, rd⟩ := reps_mem r hv
    obtain ⟨t2, af, le⟩ := tr_out t sm t1
    exact hq d n' v _ _ af t2 (Rep.le le d v rd) (hc d hd)

def names6 : List Str := ["x", "y", "z", "n2", "a", "longname"]
def g__law_spelt : FT := T1 fun n C => ∃ n', n = n' + 1 ∧ ∀ z ∈ names6, C (.str z) n'
theorem vine_go {a : Addr} {n' : Nat} {m : Int} {KK : D → Nat → Prop} {E : Err → Prop} (h0 : 0 < m) (h1 : m ≤ 1000) (h : ∀ r : Int, 0 ≤ r → r < m → KK (.int r) n') : g__law_vine a [.ob (.ref a), .int m] (n' + 1) KK E :=
  ⟨_, rfl, m, n', rfl, h0, Nat.lt_of_le_of_lt (show m.natAbs ≤ 1000 by omega) (by decide +kernel), rfl, h⟩
theorem one_go {a : Addr} {n' : Nat} {es : List D} {KK : D → Nat → Prop} {E : Err → Prop} (h0 : 0 < es.length) (h1 : es.length ≤ 1000) (h : ∀ d ∈ es, KK d n') : g__law_one_of a [.ob (.ref a), .lst es] (n' + 1) KK E :=
  ⟨_, rfl, es, n', rfl, h0, h1, rfl, h⟩
theorem ok__law_spelt (T : Txt w K mg) : FnG P w K mg base CX0 3 T.f__law_spelt T.fd__law_spelt ["_law_trellis_here"] (spT K g__law_spelt) := by
  have K__law_one_of := dk__law_one_of (P := P) (w := w) (base := base) T
  refine fnT0 T.F__law_spelt sc__law_spelt T1_len (fun a c O0 H0 Er cdv A outer s H E hgd hr =>
      (pss_one (ds_ret (ps_ret (de_callT rfl (pe_callG K__law_one_of hgd (hr.mono (by decide)) (by rfl) T.g__law_one_of T.F__law_one_of.kp T.b__law_one_of .nil pass0 (da_cons (pa_cons (de_var (pv 0)) (da_cons (pa_cons (de_fz (de_lst (pe_lst (da_cons (pa_cons (de_str pe_str) (da_cons (pa_cons (de_str pe_str) (da_cons (pa_cons (de_str pe_str) (da_cons (pa_cons (de_str pe_str) (da_cons (pa_cons (de_str pe_str) (da_cons (pa_cons (de_str pe_str) (da_nil pa_nil)))))))))))))))) (da_nil pa_nil))))))))))) ?_
  rintro a ds n C E ⟨rfl, n', rfl, q⟩
  walk_at "dl"
  refine one_go (Nat.succ_pos _) (Nat.le_of_ble_eq_true rfl) fun d hd => ⟨n', Nat.le_refl _, ?_⟩
  have hd : d ∈ names6.map D.str := hd
  obtain ⟨z, hz, rfl⟩ := List.mem_map.mp hd
  exact q z hz
theorem spelt_go {a : Addr} {n' : Nat} {KK : D → Nat → Prop} {E : Err → Prop} (h : ∀ z ∈ names6, KK (.str z) n') : g__law_spelt a [.ob (.ref a)] (n' + 1) KK E := ⟨rfl, n', rfl, h⟩
/-- how often is drawn -/
def dn : Nat → Nat
  | 0 => 10
  | k + 1 => 10 + 4 * dn k
def wd : Nat → Nat
  | 0 => 3
  | k + 1 => 2 + 4 * wd k
structure Drw (k : Str) (deep : Nat) (d : D) : Prop where
  kd_ : kd d = some k
  tup : ∃ z ps, d = .tup (.str z :: ps)
  gd : gdB d = true
  wt_ : wt d ≤ wd deep
  dep_ : dep d ≤ deep + 1
theorem dn_10 (k : Nat) : 10 ≤ dn k := by
  cases k with
  | zero => exact Nat.le_refl _
  | succ k =>
    show 10 ≤ 10 + 4 * dn k
    omega
theorem wd_3 : ∀ k : Nat, 3 ≤ wd k
  | 0 => Nat.le_refl _
  | k + 1 => by
    have := wd_3 k
    show 3 ≤ 2 + 4 * wd k
    omega
theorem names_leaf : ∀ z ∈ names6, z ∈ labs ∧ isSp z = true ∧ ¬ z ∈ noN := by decide +kernel
theorem leaf_drw {z : Str} {ps : List D} {r : Str} (deep : Nat) (h1 : lookT leafT z = some r) (h2 : leafOk z ps = true) (h3 : gdsB ps = true) (h4 : wts ps ≤ 1) (h5 : deps ps = 0) (h6 : z ∈ labs) : Drw r deep (.tup (.str z :: ps)) := by
  refine ⟨?_, ⟨z, ps, rfl⟩, ?_, ?_, ?_⟩
  · rw [kd_form (.inr rfl)]
    unfold formL
    rw [h1]
    show (match (if leafOk z ps = true then some (r, ([] : List Str)) else none) with | none => (none : Option Str) | some p => if oks ps p.2 = true then some p.1 else none) = _
    rw [h2]
    show (if oks ps [] = true then some r else none) = _
    have : oks ps [] = true := by cases ps <;> rfl
    rw [this]
    rfl
  · show (decide (z ∈ labs) && gdsB ps) = true
    rw [h3, decide_eq_true h6]
    rfl
  · have := wd_3 deep
    show (1 + wts ps) + 1 ≤ _
    omega
  · show max 0 (deps ps) + 1 ≤ _
    omega
theorem drw_true (deep : Nat) : Drw "truth" deep (.tup [.str "true"]) := leaf_drw deep (by decide +kernel) (by decide +kernel) rfl (Nat.zero_le _) rfl (by decide +kernel)
theorem drw_false (deep : Nat) : Drw "truth" deep (.tup [.str "false"]) := leaf_drw deep (by decide +kernel) (by decide +kernel) rfl (Nat.zero_le _) rfl (by decide +kernel)
theorem leaf_str {y : Str} (h : y ∈ labs) : gdsB [.str y] = true := by
  show (decide (y ∈ labs) && true) = true
  rw [decide_eq_true h]
  rfl
theorem drw_flag (deep : Nat) {y : Str} (h : y ∈ names6) : Drw "truth" deep (.tup [.str "flag", .str y]) := leaf_drw deep (by decide +kernel) (by
  obtain ⟨h1, h2, h3⟩ := names_leaf y h
  unfold leafOk
  rw [if_neg (by decide +kernel)]
  show (if ("flag" : Str) = "number" then isw (.str y) (-2147483647) 2147483647 else if ("flag" : Str) = "name" then nmD (.str y) else spD (.str y)) = true
  rw [if_neg (by decide +kernel), if_neg (by decide +kernel)]
  exact h2) (leaf_str (names_leaf y h).1) (Nat.le_refl _) rfl (by decide +kernel)
theorem drw_name (deep : Nat) {y : Str} (h : y ∈ names6) : Drw "word" deep (.tup [.str "name", .str y]) := leaf_drw deep (by decide +kernel) (by
  obtain ⟨h1, h2, h3⟩ := names_leaf y h
  unfold leafOk
  rw [if_neg (by decide +kernel)]
  show (if ("name" : Str) = "number" then isw (.str y) (-2147483647) 2147483647 else if ("name" : Str) = "name" then nmD (.str y) else spD (.str y)) = true
  rw [if_neg (by decide +kernel), if_pos rfl]
  show (isSp y && !decide (y ∈ noN)) = true
  rw [h2, decide_eq_false h3]
  rfl) (leaf_str (names_leaf y h).1) (Nat.le_refl _) rfl (by decide +kernel)
theorem drw_num (deep : Nat) {i : Int} (h1 : -2147483647 ≤ i) (h2 : i ≤ 2147483647) : Drw "word" deep (.tup [.str "number", .int i]) := leaf_drw deep (by decide +kernel) (by
  unfold leafOk
  rw [if_neg (by decide +kernel)]
  show (if ("number" : Str) = "number" then isw (.int i) (-2147483647) 2147483647 else if ("number" : Str) = "name" then nmD (.int i) else spD (.int i)) = true
  rw [if_pos rfl]
  show (decide (-2147483647 ≤ i) && decide (i ≤ 2147483647)) = true
  rw [decide_eq_true h1, decide_eq_true h2]
  rfl) (by
  show (decide (i.natAbs ≤ 2147483648) && true) = true
  rw [decide_eq_true (by omega)]
  rfl) (Nat.le_refl _) rfl (by decide +kernel)
theorem oks_rep {k : Str} : ∀ (ds : List D), (∀ d ∈ ds, kd d = some k) → oks ds (List.replicate ds.length k) = true
  | [], _ => rfl
  | d :: ds, h => by
    show (decide (kd d = some k) && oks ds (List.replicate ds.length k)) = true
    rw [decide_eq_true (h d (List.mem_cons_self ..)), oks_rep ds fun e he => h e (List.mem_cons_of_mem _ he)]
    rfl
theorem wts_le {c : Nat} : ∀ (ds : List D), (∀ d ∈ ds, wt d ≤ c) → wts ds ≤ ds.length * c
  | [], _ => Nat.zero_le _
  | d :: ds, h => by
    have h1 := h d (List.mem_cons_self ..)
    have h2 := wts_le ds fun e he => h e (List.mem_cons_of_mem _ he)
    show wt d + wts ds ≤ (ds.length + 1) * c
    rw [Nat.succ_mul]
    omega
theorem deps_le {c : Nat} : ∀ (ds : List D), (∀ d ∈ ds, dep d ≤ c) → deps ds ≤ c
  | [], _ => Nat.zero_le _
  | d :: ds, h => by
    have h1 := h d (List.mem_cons_self ..)
    have h2 := deps_le ds fun e he => h e (List.mem_cons_of_mem _ he)
    show max (dep d) (deps ds) ≤ c
    omega
theorem kd_node {z : Str} {ds : List D} {r : Str} {ks : List Str} (hl : isLf z = false) (ha : askO z ds.length = some (r, ks)) (hlen : ks.length = ds.length) (ho : oks ds ks = true) : kd (.tup (.str z :: ds)) = some r := by
  rw [kd_form (.inr rfl)]
  unfold formL
  unfold isLf at hl
  cases e : lookT leafT z with
  | some r => rw [e] at hl; cases hl
  | none =>
    show (match (match askO z ds.length with | none => none | some p => if p.2.length = ds.length then some p else none) with | none => (none : Option Str) | some p => if oks ds p.2 = true then some p.1 else none) = _
    rw [ha]
    show (match (if ks.length = ds.length then some (r, ks) else none) with | none => (none : Option Str) | some p => if oks ds p.2 = true then some p.1 else none) = _
    rw [if_pos hlen]
    show (if oks ds ks = true then some r else none) = _
    rw [if_pos ho]
theorem drw_node {z : Str} {ds : List D} {r : Str} {ks : List Str} {deep : Nat} (hz : z ∈ labs) (hl : isLf z = false) (ha : askO z ds.length = some (r, ks)) (hlen : ks.length = ds.length) (ho : oks ds ks = true) (hm : ds.length ≤ 4) (hd : ∀ d ∈ ds, gdB d = true ∧ wt d ≤ wd deep ∧ dep d ≤ deep + 1) : Drw r (deep + 1) (.tup (.str z :: ds)) := by
  refine ⟨kd_node hl ha hlen ho, ⟨z, ds, rfl⟩, ?_, ?_, ?_⟩
  · show (decide (z ∈ labs) && gdsB ds) = true
    rw [decide_eq_true hz, gds_of fun d h => (hd d h).1]
    rfl
  · have h1 := wts_le ds fun d h => (hd d h).2.1
    have h2 : ds.length * wd deep ≤ 4 * wd deep := Nat.mul_le_mul_right _ hm
    show (1 + wts ds) + 1 ≤ 2 + 4 * wd deep
    omega
  · have h1 := deps_le ds fun d h => (hd d h).2.2
    show max 0 (deps ds) + 1 ≤ _
    omega
theorem drw_rep {z : Str} {ds : List D} {r k : Str} {deep : Nat} (hz : z ∈ labs) (hl : isLf z = false) (ha : askO z ds.length = some (r, List.replicate ds.length k)) (hm : ds.length ≤ 4) (hd : ∀ d ∈ ds, Drw k deep d) : Drw r (deep + 1) (.tup (.str z :: ds)) :=
  drw_node hz hl ha List.length_replicate (oks_rep ds fun d h => (hd d h).kd_) hm fun d h => ⟨(hd d h).gd, (hd d h).wt_, (hd d h).dep_⟩
def g__law_drawn (n : Nat) : FT := T3 fun x y m C => ∃ k deep m', x = .str k ∧ two k ∧ y = .int (deep : Nat) ∧ deep < n ∧ m = m' + dn deep ∧ ∀ d, Drw k deep d → C d m'
theorem g__law_drawn_no {vs H Q E} (h : spT K (g__law_drawn 0) vs H Q E) : False := by
  obtain ⟨_, _, _, _, _, _, _, _, _, ⟨_, _, _, _, _, _, _, _, _, h, _⟩, _⟩ := h
  exact Nat.not_lt_zero _ h
theorem g__law_drawn_len {n : Nat} (a : Addr) (ds : List D) (m : Nat) (C : D → Nat → Prop) (E : Err → Prop) (h : g__law_drawn n a ds m C E) : ds.length = 3 := T3_len a ds m C E h
def tests6 : List Str := ["eq", "lt", "less", "both", "either", "no"]
def innT (z : Str) : Str := if z ∈ [("eq" : Str), "lt", "less"] then "word" else "truth"
def cntT (z : Str) : Nat := if z = "no" then 1 else 2
def kT_ : Str := "truth"
def kW_ : Str := "word"
theorem tests_ok : ∀ z ∈ tests6, z ∈ labs ∧ isLf z = false ∧ askO z (cntT z) = some (kT_, List.replicate (cntT z) (innT z)) ∧ two (innT z) := by
  unfold two
  decide +kernel
theorem leaf_go {a : Addr} {k : Str} {deep m' M : Nat} {C : D → Nat → Prop} {E : Err → Prop} (hk : two k) (hM : m' + 6 ≤ M) (q : ∀ d, Drw k deep d → C d m') :
    if k = Str.ofString "truth" then
      g__law_spelt a [D.ob (V.ref a)] M
        (fun d n' =>
          g__law_one_of a
            [D.ob (V.ref a),
              D.lst
                [D.tup [D.str (Str.ofString "true")], D.tup [D.str (Str.ofString "false")],
                  D.tup [D.str (Str.ofString "flag"), d]]]
            n' (fun d n' => ∃ m, m ≤ n' ∧ C d m) E)
        E
    else
      g__law_vine a [D.ob (V.ref a), D.int 20] M
        (fun d n' =>
          ∃ i,
            d = D.int i ∧
              g__law_one_of a [D.ob (V.ref a), D.lst [D.int (i - 10), D.int 2147483647, D.int (-2147483647), D.int 0]]
                n'
                (fun d n' =>
                  g__law_spelt a [D.ob (V.ref a)] n'
                    (fun d_1 n' =>
                      g__law_spelt a [D.ob (V.ref a)] n'
                        (fun d_2 n' =>
                          g__law_one_of a
                            [D.ob (V.ref a),
                              D.lst
                                [D.tup [D.str (Str.ofString "number"), d], D.tup [D.str (Str.ofString "name"), d_1],
                                  D.tup [D.str (Str.ofString "name"), d_2]]]
                            n' (fun d n' => ∃ m, m ≤ n' ∧ C d m) E)
                        E)
                    E)
                E)
        E := by
  obtain ⟨t, rfl⟩ : ∃ t, M = t + 6 := ⟨M - 6, by omega⟩
  split
  · rename_i h
    subst h
    refine spelt_go fun y hy => one_go (Nat.succ_pos _) (Nat.le_of_ble_eq_true rfl) fun d hd => ⟨m', by omega, q d ?_⟩
    simp only [List.mem_cons, List.not_mem_nil, or_false] at hd
    rcases hd with rfl | rfl | rfl
    · exact drw_true deep
    · exact drw_false deep
    · exact drw_flag deep hy
  · rename_i h
    have hk : k = "word" := by
      rcases hk with h' | h'
      · exact h'
      · exact absurd h' h
    subst hk
    refine vine_go (by decide) (by decide) fun r r0 r1 => ⟨r, rfl, one_go (Nat.succ_pos _) (Nat.le_of_ble_eq_true rfl) fun d hd => ?_⟩
    refine spelt_go fun y hy => spelt_go fun y2 hy2 => one_go (Nat.succ_pos _) (Nat.le_of_ble_eq_true rfl) fun e he => ⟨m', by omega, q e ?_⟩
    simp only [List.mem_cons, List.not_mem_nil, or_false] at hd he
    rcases he with rfl | rfl | rfl
    · rcases hd with rfl | rfl | rfl | rfl <;> exact drw_num deep (by omega) (by omega)
    · exact drw_name deep hy
    · exact drw_name deep hy2
theorem rel_all {α : Type} {R : α → D → Prop} {Q : D → Prop} {as : List α} {ds : List D} (h : Rel2 R as ds) (hq : ∀ a d, R a d → Q d) : ∀ d ∈ ds, Q d := by
  induction h with
  | nil => intro d hd; cases hd
  | cons h _ ih =>
    intro d hd
    rcases List.mem_cons.mp hd with e | e
    · subst e
      exact hq _ _ h
    · exact ih d e
theorem draws5 {n : Nat} {a : Addr} {dp t c m' : Nat} {ki : Str} {x1 x3 x4 x6 x7 : Sl} {KK : List D → DS → Prop} {E : Err → Prop} (hn : dp < n) (hk : two ki) (ht : m' + dn dp * c ≤ t)
    (q : ∀ ds n', ds.length = c → (∀ d ∈ ds, Drw ki dp d) → m' ≤ n' → KK ds ⟨[.da (.ob (.ref a)), x1, .da (.int ((dp + 1 : Nat) : Int)), x3, x4, .da (.str ki), x6, x7, .un], n'⟩) :
    lcD (Tg.nm 8) dYes (dCallT (g__law_drawn n) a (daCons (dVar 0) (daCons (dVar 5) (daCons (dOp (dI0 fun i j => D.int (i - j)) (dVar 2) (dC (D.int 1))) daNil)))) (rngD 0 c) [] ⟨[.da (.ob (.ref a)), x1, .da (.int ((dp + 1 : Nat) : Int)), x3, x4, .da (.str ki), x6, x7, .un], t⟩ KK E := by
  refine lcD_rel (fun i : Nat => .int (0 + (i : Int))) (fun _ d => Drw ki dp d) (dn dp) m' (List.range c) [] t (by rw [List.length_range]; exact ht) (fun i _ n1 Kt hn1 hkt => ?_) fun ds n' h1 h2 => ?_
  · unfold turnD
    walk_at "dl"
    exact ⟨_, _, rfl, ki, dp, n1 - dn dp, rfl, hk, by congr 1; omega, hn, by omega, fun d hd => hkt d (n1 - dn dp) (by omega) hd⟩
  · rw [List.nil_append]
    refine q ds n' (by rw [h2.len, List.length_range]) (rel_all h2 fun _ _ h => h) h1
theorem draw_go {n : Nat} {a : Addr} {dp M : Nat} {k : Str} {KK : D → Nat → Prop} {E : Err → Prop} (hn : dp < n) (hk : two k) (h : ∀ d, Drw k dp d → KK d M) : g__law_drawn n a [.ob (.ref a), .str k, .int (((dp + 1 : Nat) : Int) - 1)] (M + dn dp) KK E :=
  ⟨_, _, rfl, k, dp, M, rfl, hk, by congr 1; omega, hn, rfl, h⟩
def words13 : List Str := ["add", "sub", "mul", "and", "or", "xor", "neg", "flip", "shl", "at", "if", "call", "loop"]
theorem drawsW {n : Nat} {a : Addr} {dp t c m' : Nat} {x1 x3 x4 x5 x6 x7 : Sl} {KK : List D → DS → Prop} {E : Err → Prop} (hn : dp < n) (ht : m' + dn dp * c ≤ t)
    (q : ∀ ds n', ds.length = c → (∀ d ∈ ds, Drw "word" dp d) → m' ≤ n' → KK ds ⟨[.da (.ob (.ref a)), x1, .da (.int ((dp + 1 : Nat) : Int)), x3, x4, x5, x6, x7, .un], n'⟩) :
    lcD (Tg.nm 8) dYes (dCallT (g__law_drawn n) a (daCons (dVar 0) (daCons (dC (D.str (Str.ofString "word"))) (daCons (dOp (dI0 fun i j => D.int (i - j)) (dVar 2) (dC (D.int 1))) daNil)))) (rngD 0 c) [] ⟨[.da (.ob (.ref a)), x1, .da (.int ((dp + 1 : Nat) : Int)), x3, x4, x5, x6, x7, .un], t⟩ KK E := by
  refine lcD_rel (fun i : Nat => .int (0 + (i : Int))) (fun _ d => Drw "word" dp d) (dn dp) m' (List.range c) [] t (by rw [List.length_range]; exact ht) (fun i _ n1 Kt hn1 hkt => ?_) fun ds n' h1 h2 => ?_
  · unfold turnD
    walk_at "dl"
    exact ⟨_, _, rfl, "word", dp, n1 - dn dp, rfl, .inl rfl, by congr 1; omega, hn, by omega, fun d hd => hkt d (n1 - dn dp) (by omega) hd⟩
  · rw [List.nil_append]
    refine q ds n' (by rw [h2.len, List.length_range]) (rel_all h2 fun _ _ h => h) h1
def clab (c y : Str) (i : Nat) : Str := Str.empty ++ c ++ Str.ofString " " ++ y ++ Str.ofString " " ++ Str.ofString (toString (i : Int))
def askW (z : Str) (n : Nat) : Bool := decide (askO z n = some (kW_, List.replicate n kW_))
def clOk (c y : Str) (i : Nat) : Bool := decide (clab c y i ∈ labs) && !isLf (clab c y i) && askW (clab c y i) (loB c) && askW (clab c y i) (loB c + 1) && askW (clab c y i) (loB c + 2) &&
  decide (c.length ≤ 1000) && decide ((Str.empty ++ c).length ≤ 1000) && decide ((Str.empty ++ c ++ Str.ofString " ").length ≤ 1000) && decide (y.length ≤ 1000) && decide ((Str.empty ++ c ++ Str.ofString " " ++ y).length ≤ 1000) && decide ((Str.empty ++ c ++ Str.ofString " " ++ y ++ Str.ofString " ").length ≤ 1000) && decide ((clab c y i).length ≤ 1000)
theorem cl_ok : ∀ c ∈ [("call" : Str), "loop"], ∀ y ∈ names6, ∀ i ∈ List.range 6, clOk c y i = true := by decide +kernel
structure ClOk (c y : Str) (i : Nat) : Prop where
  lab : clab c y i ∈ labs
  lf : isLf (clab c y i) = false
  ask : ∀ j ≤ 2, askO (clab c y i) (loB c + j) = some (kW_, List.replicate (loB c + j) kW_)
  l1 : c.length ≤ sizeLine
  l2 : (Str.empty ++ c).length ≤ sizeLine
  l3 : (Str.empty ++ c ++ Str.ofString " ").length ≤ sizeLine
  l4 : y.length ≤ sizeLine
  l5 : (Str.empty ++ c ++ Str.ofString " " ++ y).length ≤ sizeLine
  l6 : (Str.empty ++ c ++ Str.ofString " " ++ y ++ Str.ofString " ").length ≤ sizeLine
  l7 : (clab c y i).length ≤ sizeLine
theorem small {n : Nat} (h : n ≤ 1000) : n ≤ sizeLine := Nat.le_trans h (by decide)
theorem ClOk.of {c y : Str} {i : Nat} (hc : c ∈ [("call" : Str), "loop"]) (hy : y ∈ names6) (hi : i < 6) : ClOk c y i := by
  have h := cl_ok c hc y hy i (List.mem_range.mpr hi)
  unfold clOk at h
  simp only [Bool.and_eq_true, decide_eq_true_eq, Bool.not_eq_true'] at h
  obtain ⟨⟨⟨⟨⟨⟨⟨⟨⟨⟨⟨h1, h2⟩, h3⟩, h4⟩, h5⟩, k1⟩, k2⟩, k3⟩, k4⟩, k5⟩, k6⟩, k7⟩ := h
  refine ⟨h1, h2, fun j hj => ?_, small k1, small k2, small k3, small k4, small k5, small k6, small k7⟩
  match j, hj with
  | 0, _ => exact of_decide_eq_true h3
  | 1, _ => exact of_decide_eq_true h4
  | 2, _ => exact of_decide_eq_true h5
def slab (i : Nat) : Str := Str.empty ++ Str.ofString "shl " ++ Str.ofString (toString (i : Int))
theorem sl_ok : ∀ i ∈ List.range 32, 1 ≤ i → slab i ∈ labs ∧ isLf (slab i) = false ∧ askO (slab i) 1 = some (kW_, List.replicate 1 kW_) ∧ (slab i).length ≤ 1000 := by decide +kernel
def oneW (z : Str) : Bool := decide (Str.ofString "neg" = z) || (decide (Str.ofString "flip" = z) || (decide (Str.ofString "shl" = z) || decide (Str.ofString "at" = z)))
def cntW (b : Bool) : Nat := if b = true then 1 else 2
theorem pl_ok : ∀ z ∈ words13, z = "if" ∨ z ∈ [("call" : Str), "loop"] ∨ z = "shl" ∨ (z ∈ labs ∧ isLf z = false ∧ askO z (cntW (oneW z)) = some (kW_, List.replicate (cntW (oneW z)) kW_)) := by decide +kernel
theorem ok__law_drawn (T : Txt w K mg) : ∀ n : Nat, FnG P w K mg base CX0 (n + 8) T.f__law_drawn T.fd__law_drawn ["_law_trellis_here", "_law_kind_here", "_law_deep"] (spT K (g__law_drawn n)) := by
  have K__law_one_of := dk__law_one_of (P := P) (w := w) (base := base) T
  have K__law_vine := dk__law_vine (P := P) (w := w) (base := base) T
  have K__law_spelt := ok__law_spelt (P := P) (w := w) (base := base) T
  intro n
  induction n with
  | zero => exact ⟨fun vs H Q E h => (g__law_drawn_no h).elim, fun A outer s H args us vs Q E _ _ _ _ _ h => (g__law_drawn_no h).elim⟩
  | succ n K__law_drawn =>
  refine (show FnG P w K mg base CX0 ((n + 8) + 1) T.f__law_drawn T.fd__law_drawn ["_law_trellis_here", "_law_kind_here", "_law_deep"] (spT K (g__law_drawn (n + 1))) from fnT0 T.F__law_drawn sc__law_drawn g__law_drawn_len (fun a c O0 H0 Er cdv A outer s H E hgd hr =>
      (dss_cut (pss_cons (ds_if (ps_if (PW.pt (dw_or (pw_or (dt_cmp D_eq (pt_cmpR (op_eqA hr.units) (de_var (pv 2)) (de_v (de_int pe_int)) (nomark _))) (pw_or1 (dt_cmp D_eq (pt_cmpR (op_eqA hr.units) (de_callT rfl (pe_callG K__law_vine hgd (hr.mono (by omega)) (by rfl) T.g__law_vine T.F__law_vine.kp T.b__law_vine .nil pass0 (da_cons (pa_cons (de_var (pv 0)) (da_cons (pa_cons (de_int pe_int) (da_nil pa_nil))))))) (de_v (de_int pe_int)) (nomark _)))))))
        (dss_cons (pss_cons (ds_if (ps_if (dt_cmp D_eq (pt_cmpR (op_eqA hr.units) (de_var (pv 1)) (de_v (de_str pe_str)) (nomark _)))
          (pss_one (ds_ret (ps_ret (de_callT rfl (pe_callG K__law_one_of hgd (hr.mono (by omega)) (by rfl) T.g__law_one_of T.F__law_one_of.kp T.b__law_one_of .nil pass0 (da_cons (pa_cons (de_var (pv 0)) (da_cons (pa_cons (de_fz (de_lst (pe_lst (da_cons (pa_cons (de_tup (pe_tup (da_cons (pa_cons (de_str pe_str) (da_nil pa_nil))))) (da_cons (pa_cons (de_tup (pe_tup (da_cons (pa_cons (de_str pe_str) (da_nil pa_nil))))) (da_cons (pa_cons (de_tup (pe_tup (da_cons (pa_cons (de_str pe_str) (da_cons (pa_cons (de_callT rfl (pe_callG K__law_spelt hgd (hr.mono (by omega)) (by rfl) T.g__law_spelt T.F__law_spelt.kp T.b__law_spelt .nil pass0 (da_cons (pa_cons (de_var (pv 0)) (da_nil pa_nil))))) (da_nil pa_nil))))))) (da_nil pa_nil)))))))))) (da_nil pa_nil))))))))))
          (dss_nil pss_nil)))
        (dss_cons (pss_cons (ds_set (ps_set (i := 3) sc__law_drawn.nd rfl (.inl rfl) (de_callT rfl (pe_callG K__law_one_of hgd (hr.mono (by omega)) (by rfl) T.g__law_one_of T.F__law_one_of.kp T.b__law_one_of .nil pass0 (da_cons (pa_cons (de_var (pv 0)) (da_cons (pa_cons (de_fz (de_lst (pe_lst (da_cons (pa_cons (de_op D_sub (pe_op op_sub (de_callT rfl (pe_callG K__law_vine hgd (hr.mono (by omega)) (by rfl) T.g__law_vine T.F__law_vine.kp T.b__law_vine .nil pass0 (da_cons (pa_cons (de_var (pv 0)) (da_cons (pa_cons (de_int pe_int) (da_nil pa_nil))))))) (de_v (de_int pe_int)))) (da_cons (pa_cons (de_int pe_int) (da_cons (pa_cons (de_un D_neg (pe_un un_neg (de_v (de_int pe_int)))) (da_cons (pa_cons (de_int pe_int) (da_nil pa_nil)))))))))))) (da_nil pa_nil)))))))))
        (pss_one (ds_ret (ps_ret (de_callT rfl (pe_callG K__law_one_of hgd (hr.mono (by omega)) (by rfl) T.g__law_one_of T.F__law_one_of.kp T.b__law_one_of .nil pass0 (da_cons (pa_cons (de_var (pv 0)) (da_cons (pa_cons (de_fz (de_lst (pe_lst (da_cons (pa_cons (de_tup (pe_tup (da_cons (pa_cons (de_str pe_str) (da_cons (pa_cons (de_var (pv 3)) (da_nil pa_nil))))))) (da_cons (pa_cons (de_tup (pe_tup (da_cons (pa_cons (de_str pe_str) (da_cons (pa_cons (de_callT rfl (pe_callG K__law_spelt hgd (hr.mono (by omega)) (by rfl) T.g__law_spelt T.F__law_spelt.kp T.b__law_spelt .nil pass0 (da_cons (pa_cons (de_var (pv 0)) (da_nil pa_nil))))) (da_nil pa_nil))))))) (da_cons (pa_cons (de_tup (pe_tup (da_cons (pa_cons (de_str pe_str) (da_cons (pa_cons (de_callT rfl (pe_callG K__law_spelt hgd (hr.mono (by omega)) (by rfl) T.g__law_spelt T.F__law_spelt.kp T.b__law_spelt .nil pass0 (da_cons (pa_cons (de_var (pv 0)) (da_nil pa_nil))))) (da_nil pa_nil))))))) (da_nil pa_nil)))))))))) (da_nil pa_nil))))))))))))))
        (dss_nil pss_nil)))
      (dss_cut (pss_cons (ds_if (ps_if (dt_cmp D_eq (pt_cmpR (op_eqA hr.units) (de_var (pv 1)) (de_v (de_str pe_str)) (nomark _)))
        (dss_cons (pss_cons (ds_set (ps_set (i := 4) sc__law_drawn.nd rfl (.inl rfl) (de_callT rfl (pe_callG K__law_one_of hgd (hr.mono (by omega)) (by rfl) T.g__law_one_of T.F__law_one_of.kp T.b__law_one_of .nil pass0 (da_cons (pa_cons (de_var (pv 0)) (da_cons (pa_cons (de_fz (de_lst (pe_lst (da_cons (pa_cons (de_str pe_str) (da_cons (pa_cons (de_str pe_str) (da_cons (pa_cons (de_str pe_str) (da_cons (pa_cons (de_str pe_str) (da_cons (pa_cons (de_str pe_str) (da_cons (pa_cons (de_str pe_str) (da_nil pa_nil)))))))))))))))) (da_nil pa_nil)))))))))
        (dss_cut (pss_cons (ds_set (ps_set (i := 5) sc__law_drawn.nd rfl (.inr rfl) (de_ife (pe_ifExp (dt_cmp (D_in false) (pt_cmpR op_in_seq (de_var (pv 4)) (de_v (de_tup (pe_tup (da_cons (pa_cons (de_str pe_str) (da_cons (pa_cons (de_str pe_str) (da_cons (pa_cons (de_str pe_str) (da_nil pa_nil)))))))))) rfl)) (de_str pe_str) (de_str pe_str)))))
        (pss_one (ds_ret (ps_ret (de_cb D_tupOf (pe_callTy call_tuple_of (by rfl) T.m_tuple (by decide +kernel) (da_one (pa_cons (de_v (de_op D_plusA (pe_op op_plusA (de_fz (de_lst (pe_lst (da_cons (pa_cons (de_var (pv 4)) (da_nil pa_nil)))))) (de_v (de_fz (de_lc (tg := (.nm 8)) (pe_lc (own := [("_law_turn", 8)]) rfl sc__law_drawn.nd (di_rng1 (pi_range1 (by rfl) T.m_range (da_cons (pa_cons (de_ife (pe_ifExp (dt_cmp D_eq (pt_cmpR (op_eqA hr.units) (de_var (pv 4)) (de_v (de_str pe_str)) (nomark _))) (de_int pe_int) (de_int pe_int))) (da_nil pa_nil))))) (blkOk_by (own := [("_law_turn", 8)]) (N := ["_law_trellis_here", "_law_kind_here", "_law_deep", "_law_number", "_law_label", "_law_inner", "_law_least", "_law_one", "_law_turn"]) (sc := defScope s__law_drawn) (by decide +kernel)) (fun _ _ _ _ _ => (pg_name (i := 8) sc__law_drawn.nd rfl (Or.inl rfl))) (fun _ _ _ _ _ => (dts_yes pts_nil)) (fun _ _ _ _ _ => (de_callT rfl (pe_callG K__law_drawn hgd (hr.mono (by omega)) (by rfl) T.g__law_drawn T.F__law_drawn.kp T.b__law_drawn .nil pass0 (da_cons (pa_cons (de_var (pv 0)) (da_cons (pa_cons (de_var (pv 5)) (da_cons (pa_cons (de_op D_sub (pe_op op_sub (de_var (pv 2)) (de_v (de_int pe_int)))) (da_nil pa_nil))))))))))))))))) pa_nil)))))))))))
        (dss_nil pss_nil)))
      (dss_cut (pss_cons (ds_set (ps_set (i := 4) sc__law_drawn.nd rfl (.inl rfl) (de_callT rfl (pe_callG K__law_one_of hgd (hr.mono (by omega)) (by rfl) T.g__law_one_of T.F__law_one_of.kp T.b__law_one_of .nil pass0 (da_cons (pa_cons (de_var (pv 0)) (da_cons (pa_cons (de_fz (de_lst (pe_lst (da_cons (pa_cons (de_str pe_str) (da_cons (pa_cons (de_str pe_str) (da_cons (pa_cons (de_str pe_str) (da_cons (pa_cons (de_str pe_str) (da_cons (pa_cons (de_str pe_str) (da_cons (pa_cons (de_str pe_str) (da_cons (pa_cons (de_str pe_str) (da_cons (pa_cons (de_str pe_str) (da_cons (pa_cons (de_str pe_str) (da_cons (pa_cons (de_str pe_str) (da_cons (pa_cons (de_str pe_str) (da_cons (pa_cons (de_str pe_str) (da_cons (pa_cons (de_str pe_str) (da_nil pa_nil)))))))))))))))))))))))))))))) (da_nil pa_nil)))))))))
      (dss_cut (pss_cons (ds_if (ps_if (dt_cmp D_eq (pt_cmpR (op_eqA hr.units) (de_var (pv 4)) (de_v (de_str pe_str)) (nomark _)))
        (pss_one (ds_ret (ps_ret (de_tup (pe_tup (da_cons (pa_cons (de_str pe_str) (da_cons (pa_cons (de_callT rfl (pe_callG K__law_drawn hgd (hr.mono (by omega)) (by rfl) T.g__law_drawn T.F__law_drawn.kp T.b__law_drawn .nil pass0 (da_cons (pa_cons (de_var (pv 0)) (da_cons (pa_cons (de_str pe_str) (da_cons (pa_cons (de_op D_sub (pe_op op_sub (de_var (pv 2)) (de_v (de_int pe_int)))) (da_nil pa_nil))))))))) (da_cons (pa_cons (de_callT rfl (pe_callG K__law_drawn hgd (hr.mono (by omega)) (by rfl) T.g__law_drawn T.F__law_drawn.kp T.b__law_drawn .nil pass0 (da_cons (pa_cons (de_var (pv 0)) (da_cons (pa_cons (de_str pe_str) (da_cons (pa_cons (de_op D_sub (pe_op op_sub (de_var (pv 2)) (de_v (de_int pe_int)))) (da_nil pa_nil))))))))) (da_cons (pa_cons (de_callT rfl (pe_callG K__law_drawn hgd (hr.mono (by omega)) (by rfl) T.g__law_drawn T.F__law_drawn.kp T.b__law_drawn .nil pass0 (da_cons (pa_cons (de_var (pv 0)) (da_cons (pa_cons (de_str pe_str) (da_cons (pa_cons (de_op D_sub (pe_op op_sub (de_var (pv 2)) (de_v (de_int pe_int)))) (da_nil pa_nil))))))))) (da_nil pa_nil))))))))))))))
        (dss_nil pss_nil)))
      (dss_cut (pss_cons (ds_if (ps_if (dt_cmp (D_in false) (pt_cmpR op_in_seq (de_var (pv 4)) (de_v (de_tup (pe_tup (da_cons (pa_cons (de_str pe_str) (da_cons (pa_cons (de_str pe_str) (da_nil pa_nil)))))))) rfl))
        (dss_cons (pss_cons (ds_set (ps_set (i := 6) sc__law_drawn.nd rfl (.inl rfl) (de_ife (pe_ifExp (dt_cmp D_eq (pt_cmpR (op_eqA hr.units) (de_var (pv 4)) (de_v (de_str pe_str)) (nomark _))) (de_int pe_int) (de_int pe_int)))))
        (dss_cut (pss_cons (ds_set (ps_set (i := 4) sc__law_drawn.nd rfl (.inl rfl) (de_js (fs := [_, _, _, _, _]) (pe_joined (PJ.cons (de_fmt (pe_fmt (de_var (pv 4)))) (PJ.cons (de_str pe_str) (PJ.cons (de_fmt (pe_fmt (de_callT rfl (pe_callG K__law_spelt hgd (hr.mono (by omega)) (by rfl) T.g__law_spelt T.F__law_spelt.kp T.b__law_spelt .nil pass0 (da_cons (pa_cons (de_var (pv 0)) (da_nil pa_nil))))))) (PJ.cons (de_str pe_str) (PJ.cons (de_fmt (pe_fmt (de_callT rfl (pe_callG K__law_vine hgd (hr.mono (by omega)) (by rfl) T.g__law_vine T.F__law_vine.kp T.b__law_vine .nil pass0 (da_cons (pa_cons (de_var (pv 0)) (da_cons (pa_cons (de_int pe_int) (da_nil pa_nil))))))))) PJ.nil)))))))))
        (pss_one (ds_ret (ps_ret (de_cb D_tupOf (pe_callTy call_tuple_of (by rfl) T.m_tuple (by decide +kernel) (da_one (pa_cons (de_v (de_op D_plusA (pe_op op_plusA (de_fz (de_lst (pe_lst (da_cons (pa_cons (de_var (pv 4)) (da_nil pa_nil)))))) (de_v (de_fz (de_lc (tg := (.nm 8)) (pe_lc (own := [("_law_turn", 8)]) rfl sc__law_drawn.nd (di_rng1 (pi_range1 (by rfl) T.m_range (da_cons (pa_cons (de_op D_plusA (pe_op op_plusA (de_var (pv 6)) (de_v (de_callT rfl (pe_callG K__law_vine hgd (hr.mono (by omega)) (by rfl) T.g__law_vine T.F__law_vine.kp T.b__law_vine .nil pass0 (da_cons (pa_cons (de_var (pv 0)) (da_cons (pa_cons (de_int pe_int) (da_nil pa_nil)))))))))) (da_nil pa_nil))))) (blkOk_by (own := [("_law_turn", 8)]) (N := ["_law_trellis_here", "_law_kind_here", "_law_deep", "_law_number", "_law_label", "_law_inner", "_law_least", "_law_one", "_law_turn"]) (sc := defScope s__law_drawn) (by decide +kernel)) (fun _ _ _ _ _ => (pg_name (i := 8) sc__law_drawn.nd rfl (Or.inl rfl))) (fun _ _ _ _ _ => (dts_yes pts_nil)) (fun _ _ _ _ _ => (de_callT rfl (pe_callG K__law_drawn hgd (hr.mono (by omega)) (by rfl) T.g__law_drawn T.F__law_drawn.kp T.b__law_drawn .nil pass0 (da_cons (pa_cons (de_var (pv 0)) (da_cons (pa_cons (de_str pe_str) (da_cons (pa_cons (de_op D_sub (pe_op op_sub (de_var (pv 2)) (de_v (de_int pe_int)))) (da_nil pa_nil))))))))))))))))) pa_nil)))))))))))
        (dss_nil pss_nil)))
      (dss_cons (pss_cons (ds_set (ps_set (i := 7) sc__law_drawn.nd rfl (.inl rfl) (de_op (D_in false) (pe_cmpR op_in_seq (de_var (pv 4)) (de_v (de_tup (pe_tup (da_cons (pa_cons (de_str pe_str) (da_cons (pa_cons (de_str pe_str) (da_cons (pa_cons (de_str pe_str) (da_cons (pa_cons (de_str pe_str) (da_nil pa_nil)))))))))))) rfl))))
      (dss_cut (pss_cons (ds_set (ps_set (i := 4) sc__law_drawn.nd rfl (.inl rfl) (de_ife (pe_ifExp (dt_cmp D_eq (pt_cmpR (op_eqA hr.units) (de_var (pv 4)) (de_v (de_str pe_str)) (nomark _))) (de_js (fs := [_, _]) (pe_joined (PJ.cons (de_str pe_str) (PJ.cons (de_fmt (pe_fmt (de_callT rfl (pe_callG K__law_one_of hgd (hr.mono (by omega)) (by rfl) T.g__law_one_of T.F__law_one_of.kp T.b__law_one_of .nil pass0 (da_cons (pa_cons (de_var (pv 0)) (da_cons (pa_cons (de_fz (de_lst (pe_lst (da_cons (pa_cons (de_int pe_int) (da_cons (pa_cons (de_int pe_int) (da_cons (pa_cons (de_op D_plusA (pe_op op_plusA (de_int pe_int) (de_v (de_callT rfl (pe_callG K__law_vine hgd (hr.mono (by omega)) (by rfl) T.g__law_vine T.F__law_vine.kp T.b__law_vine .nil pass0 (da_cons (pa_cons (de_var (pv 0)) (da_cons (pa_cons (de_int pe_int) (da_nil pa_nil)))))))))) (da_nil pa_nil)))))))))) (da_nil pa_nil))))))))) PJ.nil)))) (de_var (pv 4))))))
      (pss_one (ds_ret (ps_ret (de_cb D_tupOf (pe_callTy call_tuple_of (by rfl) T.m_tuple (by decide +kernel) (da_one (pa_cons (de_v (de_op D_plusA (pe_op op_plusA (de_fz (de_lst (pe_lst (da_cons (pa_cons (de_var (pv 4)) (da_nil pa_nil)))))) (de_v (de_fz (de_lc (tg := (.nm 8)) (pe_lc (own := [("_law_turn", 8)]) rfl sc__law_drawn.nd (di_rng1 (pi_range1 (by rfl) T.m_range (da_cons (pa_cons (de_ife (pe_ifExp (dt_val (pt_val (de_var (pv 7)))) (de_int pe_int) (de_int pe_int))) (da_nil pa_nil))))) (blkOk_by (own := [("_law_turn", 8)]) (N := ["_law_trellis_here", "_law_kind_here", "_law_deep", "_law_number", "_law_label", "_law_inner", "_law_least", "_law_one", "_law_turn"]) (sc := defScope s__law_drawn) (by decide +kernel)) (fun _ _ _ _ _ => (pg_name (i := 8) sc__law_drawn.nd rfl (Or.inl rfl))) (fun _ _ _ _ _ => (dts_yes pts_nil)) (fun _ _ _ _ _ => (de_callT rfl (pe_callG K__law_drawn hgd (hr.mono (by omega)) (by rfl) T.g__law_drawn T.F__law_drawn.kp T.b__law_drawn .nil pass0 (da_cons (pa_cons (de_var (pv 0)) (da_cons (pa_cons (de_str pe_str) (da_cons (pa_cons (de_op D_sub (pe_op op_sub (de_var (pv 2)) (de_v (de_int pe_int)))) (da_nil pa_nil))))))))))))))))) pa_nil)))))))))))))))))))))) ?_).mono (by omega)
  rintro a ds m C E ⟨x, y, rfl, k, deep, m', rfl, hk, rfl, hd, rfl, q⟩
  walk_at "dl"
  refine ⟨fun S => ∃ t dp, deep = dp + 1 ∧ m' + dn deep ≤ t + 1 ∧ S = ⟨[Sl.da (D.ob (V.ref a)), Sl.da (D.str k), Sl.da (D.int (deep : Nat)), Sl.un, Sl.un, Sl.un, Sl.un, Sl.un, Sl.un], t⟩, ?_, ?_⟩
  · have d10 := dn_10 deep
    split
    · exact leaf_go hk (by omega) q
    · rename_i hne
      obtain ⟨t, ht⟩ : ∃ t, m' + dn deep = t + 1 := ⟨m' + dn deep - 1, by omega⟩
      rw [ht]
      refine vine_go (by decide) (by decide) fun r r0 r1 => qe_int.mpr ⟨_, rfl, ?_⟩
      split
      · exact leaf_go hk (by omega) q
      · exact ⟨t, deep - 1, by omega, by omega, rfl⟩
  rintro S1 ⟨t, dp, rfl, ht, rfl⟩
  have hdn : dn (dp + 1) = 10 + 4 * dn dp := rfl
  rw [hdn] at ht
  walk_at "dl"
  refine ⟨fun S => k = "word" ∧ S = ⟨[Sl.da (D.ob (V.ref a)), Sl.da (D.str k), Sl.da (D.int ((dp + 1 : Nat) : Int)), Sl.un, Sl.un, Sl.un, Sl.un, Sl.un, Sl.un], t⟩, ?_, ?_⟩
  · split
    rotate_left
    · rename_i h
      refine ⟨?_, rfl⟩
      rcases hk with h' | h'
      · exact h'
      · exact absurd h' h
    rename_i h
    subst h
    obtain ⟨t, rfl⟩ : ∃ t', t = t' + 1 := ⟨t - 1, by omega⟩
    refine one_go (Nat.succ_pos _) (Nat.le_of_ble_eq_true rfl) fun d hd => ?_
    have hd : d ∈ tests6.map D.str := hd
    obtain ⟨z, hz, rfl⟩ := List.mem_map.mp hd
    obtain ⟨f1, f2, f3, f4⟩ := tests_ok z hz
    refine ⟨fun S => S = ⟨[Sl.da (D.ob (V.ref a)), Sl.da (D.str "truth"), Sl.da (D.int ((dp + 1 : Nat) : Int)), Sl.un, Sl.da (.str z), Sl.da (.str (innT z)), Sl.un, Sl.un, Sl.un], t⟩, ⟨_, rfl, ?_⟩, ?_⟩
    · have e1 : (eqV (V.str (Str.ofString "eq")) (V.str z) || (eqV (V.str (Str.ofString "lt")) (V.str z) || eqV (V.str (Str.ofString "less")) (V.str z))) = decide (z ∈ [("eq" : Str), "lt", "less"]) := by
        rw [← inV_strs]
        show _ = inV (V.str z) [V.str "eq", V.str "lt", V.str "less"]
        rw [inV_cons, inV_cons, inV_cons, inV_nil, Bool.or_false]
      rw [e1]
      unfold innT
      split
      · rename_i h
        rw [if_pos (of_decide_eq_true h)]
      · rename_i h
        rw [if_neg (by simpa using h)]
    rintro S1 rfl
    walk_at "dl"
    have fin : ∀ c, cntT z = c → c ≤ 2 → lcD (Tg.nm 8) dYes (dCallT (g__law_drawn n) a (daCons (dVar 0) (daCons (dVar 5) (daCons (dOp (dI0 fun i j => D.int (i - j)) (dVar 2) (dC (D.int 1))) daNil)))) (rngD 0 c) [] ⟨[.da (.ob (.ref a)), Sl.da (D.str "truth"), .da (.int ((dp + 1 : Nat) : Int)), Sl.un, Sl.da (.str z), .da (.str (innT z)), Sl.un, Sl.un, Sl.un], t⟩ (fun ds S1 => 1 + ds.length ≤ sizeLine ∧ ∃ m, m ≤ S1.n ∧ C (D.tup (D.str z :: ds)) m) E := fun c hc h2 => by
      refine draws5 (m' := m') (by omega) f4 ?_ fun ds n' hl hds hn' => ⟨?_, m', hn', q _ ?_⟩
      · have : dn dp * c ≤ dn dp * 2 := Nat.mul_le_mul_left _ h2
        omega
      · rw [hl]
        exact Nat.le_trans (show 1 + c ≤ 1000 by omega) (by decide)
      · exact drw_rep f1 f2 (by rw [hl, ← hc]; exact f3) (by omega) hds
    split
    · rename_i h
      exact fin 1 (by unfold cntT; rw [if_pos h]) (by decide)
    · rename_i h
      exact fin 2 (by unfold cntT; rw [if_neg h]) (by decide)
  rintro S1 ⟨rfl, rfl⟩
  walk_at "dl"
  obtain ⟨t, rfl⟩ : ∃ t', t = t' + 1 := ⟨t - 1, by omega⟩
  refine ⟨fun S => ∃ z ∈ words13, S = ⟨[Sl.da (D.ob (V.ref a)), Sl.da (D.str "word"), Sl.da (D.int ((dp + 1 : Nat) : Int)), Sl.un, Sl.da (.str z), Sl.un, Sl.un, Sl.un, Sl.un], t⟩, ?_, ?_⟩
  · refine one_go (Nat.succ_pos _) (Nat.le_of_ble_eq_true rfl) fun d hd => ?_
    have hd : d ∈ words13.map D.str := hd
    obtain ⟨z, hz, rfl⟩ := List.mem_map.mp hd
    exact ⟨z, hz, rfl⟩
  rintro S1 ⟨z, hz, rfl⟩
  walk_at "dl"
  refine ⟨fun S => ¬ z = "if" ∧ S = ⟨[Sl.da (D.ob (V.ref a)), Sl.da (D.str "word"), Sl.da (D.int ((dp + 1 : Nat) : Int)), Sl.un, Sl.da (.str z), Sl.un, Sl.un, Sl.un, Sl.un], t⟩, ?_, ?_⟩
  · split
    rotate_left
    · rename_i h
      exact ⟨h, rfl⟩
    rename_i h
    obtain ⟨s, rfl⟩ : ∃ s, t = s + dn dp + dn dp + dn dp := ⟨t - 3 * dn dp, by omega⟩
    refine draw_go (by omega) (.inr rfl) fun d1 h1 => draw_go (by omega) (.inl rfl) fun d2 h2 => draw_go (by omega) (.inl rfl) fun d3 h3 => ⟨m', by omega, q _ ?_⟩
    refine drw_node (ks := [kT_, kW_, kW_]) (by decide +kernel) (by decide +kernel) (show askO "if" 3 = some (kW_, [kT_, kW_, kW_]) by decide +kernel) rfl ?_ (show 3 ≤ 4 by decide) fun d hd => ?_
    · show (decide (kd d1 = some kT_) && (decide (kd d2 = some kW_) && (decide (kd d3 = some kW_) && true))) = true
      rw [decide_eq_true (show kd d1 = some kT_ from h1.kd_), decide_eq_true (show kd d2 = some kW_ from h2.kd_), decide_eq_true (show kd d3 = some kW_ from h3.kd_)]
      rfl
    · simp only [List.mem_cons, List.not_mem_nil, or_false] at hd
      rcases hd with rfl | rfl | rfl
      · exact ⟨h1.gd, h1.wt_, h1.dep_⟩
      · exact ⟨h2.gd, h2.wt_, h2.dep_⟩
      · exact ⟨h3.gd, h3.wt_, h3.dep_⟩
  rintro S1 ⟨hif, rfl⟩
  walk_at "dl"
  refine ⟨fun S => ¬ z ∈ [("call" : Str), "loop"] ∧ S = ⟨[Sl.da (D.ob (V.ref a)), Sl.da (D.str "word"), Sl.da (D.int ((dp + 1 : Nat) : Int)), Sl.un, Sl.da (.str z), Sl.un, Sl.un, Sl.un, Sl.un], t⟩, ?_, ?_⟩
  · have e1 : (decide (Str.ofString "call" = z) || decide (Str.ofString "loop" = z)) = decide (z ∈ [("call" : Str), "loop"]) := by
      rw [← inV_strs]
      show _ = inV (V.str z) [V.str "call", V.str "loop"]
      rw [inV_cons, inV_cons, inV_nil, Bool.or_false, eqV_str, eqV_str]
    rw [e1]
    by_cases hc : z ∈ [("call" : Str), "loop"]
    rotate_left
    · rw [decide_eq_false hc]
      exact iteF ⟨hc, rfl⟩
    rw [decide_eq_true hc]
    refine iteT ?_
    obtain ⟨t, rfl⟩ : ∃ t', t = t' + 3 := ⟨t - 3, by omega⟩
    have o1 := fun y hy i hi => ClOk.of (c := z) (y := y) (i := i) hc hy hi
    have p0 := o1 "x" (by decide +kernel) 0 (by decide)
    split
    · rename_i h
      refine ⟨p0.l1, p0.l2, p0.l3, fun S => ∃ y ∈ names6, ∃ i, i < 6 ∧ S = ⟨[Sl.da (D.ob (V.ref a)), Sl.da (D.str "word"), Sl.da (D.int ((dp + 1 : Nat) : Int)), Sl.un, Sl.da (.str (clab z y i)), Sl.un, Sl.da (.int 0), Sl.un, Sl.un], t + 1⟩, ?_, ?_⟩
      · refine spelt_go fun y hy => ⟨(o1 y hy 0 (by decide)).l4, (o1 y hy 0 (by decide)).l5, (o1 y hy 0 (by decide)).l6, vine_go (by decide) (by decide) fun r r0 r1 => ?_⟩
        obtain ⟨i, rfl⟩ : ∃ i : Nat, r = i := ⟨r.toNat, by omega⟩
        have o := o1 y hy i (by omega)
        exact ⟨log_lt (Nat.lt_trans (show (i : Int).natAbs < 64 by omega) (by decide +kernel)), o.l7, y, hy, i, by omega, rfl⟩
      · rintro S1 ⟨y, hy, i, hi, rfl⟩
        have o := o1 y hy i hi
        walk_at "dl"
        refine vine_go (by decide) (by decide) fun r r0 r1 => ?_
        obtain ⟨j, rfl⟩ : ∃ j : Nat, r = j := ⟨r.toNat, by omega⟩
        show ∃ j', D.int (0 + (j : Int)) = D.int j' ∧ _
        have ez : loB z = 0 := by
          rw [h]
          decide +kernel
        refine ⟨_, rfl, by omega, by omega, ?_⟩
        rw [show ((0 : Int) + (j : Int)).toNat = j by omega]
        have hm : dn dp * j ≤ dn dp * 2 := Nat.mul_le_mul_left _ (by omega)
        refine ⟨by unfold rngD; rw [List.length_map, List.length_range]; exact small (by omega), drawsW (m' := m') (by omega) (by omega) fun ds n' hl hds hn' => ⟨small (by omega), m', hn', q _ ?_⟩⟩
        have ha := o.ask j (by omega)
        rw [ez, Nat.zero_add, ← hl] at ha
        exact drw_rep o.lab o.lf ha (by omega) hds
    · rename_i h
      refine ⟨p0.l1, p0.l2, p0.l3, fun S => ∃ y ∈ names6, ∃ i, i < 6 ∧ S = ⟨[Sl.da (D.ob (V.ref a)), Sl.da (D.str "word"), Sl.da (D.int ((dp + 1 : Nat) : Int)), Sl.un, Sl.da (.str (clab z y i)), Sl.un, Sl.da (.int 2), Sl.un, Sl.un], t + 1⟩, ?_, ?_⟩
      · refine spelt_go fun y hy => ⟨(o1 y hy 0 (by decide)).l4, (o1 y hy 0 (by decide)).l5, (o1 y hy 0 (by decide)).l6, vine_go (by decide) (by decide) fun r r0 r1 => ?_⟩
        obtain ⟨i, rfl⟩ : ∃ i : Nat, r = i := ⟨r.toNat, by omega⟩
        have o := o1 y hy i (by omega)
        exact ⟨log_lt (Nat.lt_trans (show (i : Int).natAbs < 64 by omega) (by decide +kernel)), o.l7, y, hy, i, by omega, rfl⟩
      · rintro S1 ⟨y, hy, i, hi, rfl⟩
        have o := o1 y hy i hi
        walk_at "dl"
        refine vine_go (by decide) (by decide) fun r r0 r1 => ?_
        obtain ⟨j, rfl⟩ : ∃ j : Nat, r = j := ⟨r.toNat, by omega⟩
        show ∃ j', D.int (2 + (j : Int)) = D.int j' ∧ _
        have ez : loB z = 2 := by
          simp only [List.mem_cons, List.not_mem_nil, or_false] at hc
          rcases hc with hc | hc
          · exact absurd hc h
          · rw [hc]
            decide +kernel
        refine ⟨_, rfl, by omega, by omega, ?_⟩
        rw [show ((2 : Int) + (j : Int)).toNat = 2 + j by omega]
        have hm : dn dp * (2 + j) ≤ dn dp * 4 := Nat.mul_le_mul_left _ (by omega)
        refine ⟨by unfold rngD; rw [List.length_map, List.length_range]; exact small (by omega), drawsW (m' := m') (by omega) (by omega) fun ds n' hl hds hn' => ⟨small (by omega), m', hn', q _ ?_⟩⟩
        have ha := o.ask j (by omega)
        rw [ez, ← hl] at ha
        exact drw_rep o.lab o.lf ha (by omega) hds
  rintro S1 ⟨hcl, rfl⟩
  walk_at "dl"
  obtain ⟨t, rfl⟩ : ∃ t', t = t' + 2 := ⟨t - 2, by omega⟩
  refine ⟨fun S => ∃ L b s, m' + dn dp * 2 ≤ s ∧ L ∈ labs ∧ isLf L = false ∧ askO L (cntW b) = some (kW_, List.replicate (cntW b) kW_) ∧ S = ⟨[Sl.da (D.ob (V.ref a)), Sl.da (D.str "word"), Sl.da (D.int ((dp + 1 : Nat) : Int)), Sl.un, Sl.da (.str L), Sl.un, Sl.un, Sl.da (.bl b), Sl.un], s⟩, ?_, ?_⟩
  · split
    · rename_i h
      subst h
      refine vine_go (by decide) (by decide) fun r r0 r1 => ?_
      show g__law_one_of a [D.ob (V.ref a), D.lst [D.int 1, D.int 31, D.int (1 + r)]] _ _ _
      refine one_go (Nat.succ_pos _) (Nat.le_of_ble_eq_true rfl) fun d hd => ?_
      have hi : ∃ i : Nat, d = .int i ∧ 1 ≤ i ∧ i < 32 := by
        simp only [List.mem_cons, List.not_mem_nil, or_false] at hd
        rcases hd with rfl | rfl | rfl
        · exact ⟨1, rfl, by decide, by decide⟩
        · exact ⟨31, rfl, by decide, by decide⟩
        · exact ⟨(1 + r).toNat, by congr 1; omega, by omega, by omega⟩
      obtain ⟨i, rfl, i1, i2⟩ := hi
      obtain ⟨f1, f2, f3, f4⟩ := sl_ok i (List.mem_range.mpr i2) i1
      refine ⟨log_lt (Nat.lt_trans (show (i : Int).natAbs < 64 by omega) (by decide +kernel)), small f4, slab i, true, t, by omega, f1, f2, f3, rfl⟩
    · rename_i h
      rcases pl_ok z hz with h1 | h1 | h1 | ⟨f1, f2, f3⟩
      · exact absurd h1 hif
      · exact absurd h1 hcl
      · exact absurd h1 h
      · exact ⟨z, oneW z, t + 2, by omega, f1, f2, f3, rfl⟩
  rintro S1 ⟨L, b, s, hs, f1, f2, f3, rfl⟩
  walk_at "dl"
  cases b with
  | true =>
    refine iteT (drawsW (c := 1) (m' := m') (by omega) (by omega) fun ds n' hl hds hn' => ⟨small (by omega), m', hn', q _ ?_⟩)
    exact drw_rep f1 f2 (by rw [hl]; exact f3) (by omega) hds
  | false =>
    refine iteF (drawsW (c := 2) (m' := m') (by omega) (by omega) fun ds n' hl hds hn' => ⟨small (by omega), m', hn', q _ ?_⟩)
    exact drw_rep f1 f2 (by rw [hl]; exact f3) (by omega) hds
end
end K03D
end
section
set_option maxHeartbeats 4000000
namespace K03D
open PySem PySem.Spec PyProof.Rows L2 G1 G2 DL K03 R1 StX
variable [TB]
local macro_rules | `(tactic| walk_at "dl") => `(tactic| simp (decide := true) only [dSlA, dSlO, dRev, dPop, dExt, dDelFrom, dCallH, daStar, dRep, dListZip, dDispN, dVals, dInDic, dGetDic, dInK, dIxK, dKget, dStrI, dSplit, dLeS, dRaiseI, dIsnB, dInSign, lookD, plusA_int, plusA_str, plusA_lst, plusA_tup, dVar, dVw, dC, dOp, dOpL, dUn, dCB, daNil, daCons, daOne, dCallP, dCallT, dTup, dLst, dFz, dSet, dSetO, dDrop, dRet, dRetF, dRetO, dCallTN, dRetN, dNext, dBreak, dCont, dSeq, dCut, dIfS, dFrz, dAsg, dPar, bindT, setsD, slotsT, dItL, dItT, dItS, dRng1, dRng2, dFor, dTst, dTru, dNot, dAnd, dOr, dAndV, dOrV, dNotV, dIfE, dLc, dYes, turnD, wipeD, restG, kp, dI0, dI, dNeg, dIsN, dNotN, dIsB, dLen, dIsi, isiTab, dInt, dAbs, dAll, dAny, dTupOf, dListOf, dNoPart, dPart, dSl, dSlL, dFmt, dJs, dM1, dStarts, dApp, dSetIx, dChain, dZip, dEnum, dSigns, dHeard, hideS, hideL, dLcN, dNbeg, dNend, dNcons, dNset, dNapp, dNpop, dDnew, dDisp1, dRaise, dRepr, dIn, flVs, kT_non, kT_bl, kT_int, kT_str, kT_lst, kT_tup, kT_dic, isN_non, isN_bl, isN_int, isN_str, isN_lst, isN_tup, isN_dic, lenD_lst, lenD_tup, lenD_str, it_lst, it_tup, fl_non, fl_bl, fl_int, fl_str, tru_non, tru_bl, tru_int, tru_lst, tru_tup, plus_int, plus_str, plus_lst, plus_tup, ix_lst, ix_tup', ix_str', qe_str, qn_str, qe_int, qn_int, qe_bl, qn_bl, at_0, at_1, at_2, at_l1, at_l2, at_l3, at_k2, at_k3, inV_nil, inV_cons, eqV_str, eqV_int, eqV_bl, Bool.or_false, Bool.or_true, Bool.true_or, Bool.false_or, Bool.and_true, Bool.and_false, decide_eq_true_eq, Bool.not_eq_true', decide_eq_false_iff_not, eq_self, ne_eq, not_true_eq_false, not_false_eq_true, 
  F1, F2, F3, F4, T1, T2, T3, T4, startD, List.append_nil, List.cons_append, List.nil_append, List.map_cons, List.map_nil, List.length_cons, List.length_nil, List.getElem?_cons_zero, List.getElem?_cons_succ, List.getElem?_nil, List.getD_cons_zero, List.getD_cons_succ, Nat.reduceAdd, Nat.reduceSub, Nat.zero_add, List.replicate, List.replicate_zero, List.replicate_succ, List.set_cons_zero, List.set_cons_succ, List.set_nil,
  exists_eq_left, exists_eq_left', exists_eq_right, exists_eq_right', exists_and_left, Option.some.injEq, Sl.da.injEq, Sl.ow.injEq, D.bl.injEq, D.int.injEq, D.str.injEq, D.tup.injEq, D.lst.injEq, D.ob.injEq, List.cons.injEq, and_true, true_and, and_assoc, if_true, if_false, reduceIte, reduceCtorEq, Bool.false_eq_true, Bool.not_true, Bool.not_false, decide_true, decide_false, false_and, and_false, exists_false, false_or, or_false, Option.bind_some, Option.map_some])

/-! ### good values as data -/
structure PyG (d : D) (p : PyData) : Prop where
  py : toPy d = some p
  lay : p.canLay0 = true
  dep_ : p.depth ≤ dep d
  sh : p.showable = true
  len : p.shown.length + 4 ≤ 410 * wt d
structure PyGs (ds : List D) (ps : List PyData) : Prop where
  py : toPys ds = some ps
  lay : PyData.canLayAll0 ps = true
  dep_ : PyData.depthAll ps ≤ deps ds
  sh : PyData.showableAll ps = true
  cnt : (PyData.shownAll ps).length = ds.length
  len : ((PyData.shownAll ps).map (·.length)).sum + 4 * ds.length ≤ 410 * wts ds
theorem labs_shown : ∀ z ∈ labs, ((PyData.str z).shown.length ≤ 100 ∧ (PyData.str z).showable = true) := by decide +kernel
mutual
theorem py_good : ∀ d : D, gdB d = true → ∃ p, PyG d p
  | .non, _ => ⟨.none, rfl, rfl, Nat.le_refl _, rfl, by decide +kernel⟩
  | .bl b, _ => ⟨.bool b, rfl, rfl, Nat.le_refl _, rfl, by cases b <;> decide +kernel⟩
  | .int i, h => by
    have hi : i.natAbs < 2 ^ 1000 := Nat.lt_of_le_of_lt (of_decide_eq_true h) (by decide +kernel)
    refine ⟨.int i, rfl, rfl, Nat.le_refl _, decide_eq_true (log_lt hi), ?_⟩
    have := shown_int hi
    show (PyData.int i).shown.length + 4 ≤ 410 * 1
    omega
  | .str z, h => by
    have hz : z ∈ labs := of_decide_eq_true h
    obtain ⟨h1, h2⟩ := labs_shown z hz
    have hs := labs_str z hz
    rw [Bool.and_eq_true] at hs
    refine ⟨.str z, rfl, hs.1, Nat.le_refl _, h2, ?_⟩
    show (PyData.str z).shown.length + 4 ≤ 410 * 1
    omega
  | .lst ds, h => by
    obtain ⟨ps, p⟩ := py_goods ds h
    refine ⟨.list ps, ?_, p.lay, Nat.succ_le_succ p.dep_, p.sh, ?_⟩
    · show (toPys ds).map _ = _
      rw [p.py]
      rfl
    · show (listText (PyData.shownAll ps)).length + 4 ≤ 410 * (wts ds + 1)
      have a := listText_len_le (PyData.shownAll ps)
      have b := p.len
      rw [p.cnt] at a
      omega
  | .tup ds, h => by
    obtain ⟨ps, p⟩ := py_goods ds h
    refine ⟨.tuple ps, ?_, p.lay, Nat.succ_le_succ p.dep_, p.sh, ?_⟩
    · show (toPys ds).map _ = _
      rw [p.py]
      rfl
    · show (tupleText (PyData.shownAll ps)).length + 4 ≤ 410 * (wts ds + 1)
      have a := tupleText_len_le (PyData.shownAll ps)
      have b := p.len
      rw [p.cnt] at a
      omega
  | .dic _ _, h => by cases h
  | .ob _, h => by cases h
theorem py_goods : ∀ ds : List D, gdsB ds = true → ∃ ps, PyGs ds ps
  | [], _ => ⟨[], rfl, rfl, Nat.le_refl _, rfl, rfl, Nat.le_refl _⟩
  | d :: ds, h => by
    have h : (gdB d && gdsB ds) = true := h
    rw [Bool.and_eq_true] at h
    obtain ⟨p, g⟩ := py_good d h.1
    obtain ⟨ps, gs⟩ := py_goods ds h.2
    refine ⟨p :: ps, ?_, ?_, ?_, ?_, ?_, ?_⟩
    · show ((toPy d).bind fun p => (toPys ds).map fun ps => p :: ps) = _
      rw [g.py, gs.py]
      rfl
    · show (p.canLay0 && PyData.canLayAll0 ps) = true
      rw [g.lay, gs.lay]
      rfl
    · show max p.depth (PyData.depthAll ps) ≤ max (dep d) (deps ds)
      have := g.dep_
      have := gs.dep_
      omega
    · show (p.showable && PyData.showableAll ps) = true
      rw [g.sh, gs.sh]
      rfl
    · show (p.shown :: PyData.shownAll ps).length = _
      rw [List.length_cons, List.length_cons, gs.cnt]
    · show ((p.shown :: PyData.shownAll ps).map (·.length)).sum + 4 * (ds.length + 1) ≤ 410 * (wt d + wts ds)
      rw [List.map_cons, List.sum_cons]
      have := g.len
      have := gs.len
      omega
end
theorem shape_good {p : PyData} {d : D} (g : PyG d p) (h : dep d ≤ 60) : SeqAt.shaped p = true := by
  have := g.dep_
  show (p.canLay0 && decide (p.depth ≤ 64)) = true
  rw [g.lay, decide_eq_true (by omega)]
  rfl
/-- t == () -/
theorem qe_emp {ds : List D} {C : D → Prop} (hg : gdsB ds = true) (hd : dep (.tup ds) ≤ 60) (hc : C (.bl ds.isEmpty)) : dEq (.tup ds) (.tup []) C := by
  obtain ⟨ps, p⟩ := py_goods ds hg
  obtain ⟨q, g⟩ := py_good (.tup ds) hg
  have e1 : toPy (.tup ds) = some (.tuple ps) := by
    show (toPys ds).map _ = _
    rw [p.py]
    rfl
  have e2 : q = .tuple ps := Option.some.inj (g.py.symm.trans e1)
  subst e2
  refine dat_iff (neg := false) (p := .tuple ps) (q := .tuple []) e1 rfl (shape_good g hd) (by decide +kernel) ?_ hc
  have hl : ps.isEmpty = ds.isEmpty := by
    have := p.cnt
    cases ds with
    | nil =>
      cases ps with
      | nil => rfl
      | cons x r => cases this
    | cons d r =>
      cases ps with
      | nil => cases this
      | cons x r => rfl
  show PyData.eqvAll ps [] = ds.isEmpty
  rw [← hl]
  cases ps <;> rfl
/-- a good value of at most m knots and n levels -/
structure Gd (m n : Nat) (d : D) : Prop where
  gd : gdB d = true
  wt_ : wt d ≤ m
  dep_ : dep d ≤ n
theorem deps_app : ∀ a b : List D, deps (a ++ b) = max (deps a) (deps b)
  | [], b => (Nat.zero_max _).symm
  | d :: a, b => by
    show max (dep d) (deps (a ++ b)) = max (max (dep d) (deps a)) (deps b)
    rw [deps_app a b]
    omega
theorem gds_app {a b : List D} (h1 : gdsB a = true) (h2 : gdsB b = true) : gdsB (a ++ b) = true := gds_of fun d hd => by
  rcases List.mem_append.mp hd with h | h
  · exact gds_mem h1 d h
  · exact gds_mem h2 d h
theorem gds_take {L : List D} (h : gdsB L = true) (k : Nat) : gdsB (L.take k) = true := gds_of fun d hd => gds_mem h d (List.mem_of_mem_take hd)
theorem gds_drop {L : List D} (h : gdsB L = true) (k : Nat) : gdsB (L.drop k) = true := gds_of fun d hd => gds_mem h d (List.mem_of_mem_drop hd)
theorem wts_cut (L : List D) (k : Nat) : wts (L.take k) + wts (L.drop k) = wts L := by
  rw [← wts_app, List.take_append_drop]
theorem deps_cut (L : List D) (k : Nat) : max (deps (L.take k)) (deps (L.drop k)) = deps L := by
  rw [← deps_app, List.take_append_drop]
theorem wts_drop1 (L : List D) (k : Nat) : wts (L.drop (k + 1)) ≤ wts (L.drop k) := by
  have h := wts_cut (L.drop k) 1
  rw [List.drop_drop] at h
  omega
theorem deps_drop1 (L : List D) (k : Nat) : deps (L.drop (k + 1)) ≤ deps (L.drop k) := by
  have h := deps_cut (L.drop k) 1
  rw [List.drop_drop] at h
  omega
theorem wts_at {L : List D} {k : Nat} (h : k < L.length) : wts (L.take k) + wt L[k] + wts (L.drop (k + 1)) = wts L := by
  have h1 := wts_cut L k
  rw [List.drop_eq_getElem_cons h] at h1
  have : wts (L[k] :: L.drop (k + 1)) = wt L[k] + wts (L.drop (k + 1)) := rfl
  omega
section
variable {P : Program} {w : World} {K : PySem.W.Frag} {mg : Str → Option Value} {base : Heap}
def okd (d : D) : Bool := gdB d && decide (wt d ≤ 5) && decide (dep d ≤ 2)
theorem okd_gd {d : D} (h : okd d = true) : Gd 5 2 d := by
  unfold okd at h
  rw [Bool.and_eq_true, Bool.and_eq_true] at h
  exact ⟨h.1.1, of_decide_eq_true h.1.2, of_decide_eq_true h.2⟩
theorem odd_pick {L : List D} {j : Int} {KK : D → Prop} (h0 : 0 ≤ j) (h1 : j < (L.length : Int)) (hL : L.all okd = true) (hk : ∀ d, Gd 5 2 d → KK d) : dIx (.lst L) (.int j) KK := by
  obtain ⟨i, rfl⟩ : ∃ i : Nat, j = i := ⟨j.toNat, by omega⟩
  have hi : i < L.length := by omega
  exact ix_lst.mpr ⟨_, at_nat (List.getElem?_eq_getElem hi), hk _ (okd_gd (List.all_eq_true.mp hL _ (List.getElem_mem hi)))⟩
def g__law_odd : FT := T1 fun n C => ∃ n', n = n' + 2 ∧ ∀ d, Gd 5 2 d → C d n'
theorem ok__law_odd (T : Txt w K mg) : FnG P w K mg base CX0 2 T.f__law_odd T.fd__law_odd ["_law_trellis_here"] (spT K g__law_odd) := by
  have K__law_vine := dk__law_vine (P := P) (w := w) (base := base) T
  refine fnT0 T.F__law_odd sc__law_odd T1_len (fun a c O0 H0 Er cdv A outer s H E hgd hr =>
      (dss_cons (pss_cons (ds_set (ps_set (i := 1) sc__law_odd.nd rfl (.inl rfl) (de_callT rfl (pe_callG K__law_vine hgd (hr.mono (by decide)) (by rfl) T.g__law_vine T.F__law_vine.kp T.b__law_vine .nil pass0 (da_cons (pa_cons (de_var (pv 0)) (da_cons (pa_cons (de_int pe_int) (da_nil pa_nil)))))))))
      (dss_cons (pss_cons (ds_set (ps_set (i := 2) sc__law_odd.nd rfl (.inl rfl) (de_fz (de_lst (pe_lst (da_cons (pa_cons (de_non pe_non) (da_cons (pa_cons (de_bl pe_bl) (da_cons (pa_cons (de_bl pe_bl) (da_cons (pa_cons (de_var (pv 1)) (da_cons (pa_cons (de_cb D_strI (pe_callTy call_str_int (by rfl) T.m_str (by decide +kernel) (da_one (pa_cons (de_v (de_var (pv 1))) pa_nil)))) (da_cons (pa_cons (de_str pe_str) (da_cons (pa_cons (de_str pe_str) (da_cons (pa_cons (de_fz (de_lst (pe_lst (da_nil pa_nil)))) (da_cons (pa_cons (de_tup (pe_tup (da_nil pa_nil))) (da_cons (pa_cons (de_tup (pe_tup (da_cons (pa_cons (de_str pe_str) (da_nil pa_nil))))) (da_cons (pa_cons (de_tup (pe_tup (da_cons (pa_cons (de_str pe_str) (da_cons (pa_cons (de_int pe_int) (da_nil pa_nil))))))) (da_cons (pa_cons (de_tup (pe_tup (da_cons (pa_cons (de_str pe_str) (da_cons (pa_cons (de_bl pe_bl) (da_nil pa_nil))))))) (da_cons (pa_cons (de_tup (pe_tup (da_cons (pa_cons (de_str pe_str) (da_cons (pa_cons (de_str pe_str) (da_nil pa_nil))))))) (da_nil pa_nil))))))))))))))))))))))))))))))))
      (dss_cons (pss_cons (ds_set (ps_set (i := 2) sc__law_odd.nd rfl (.inl rfl) (de_op D_plusA (pe_op op_plusA (de_var (pv 2)) (de_v (de_fz (de_lst (pe_lst (da_cons (pa_cons (de_tup (pe_tup (da_cons (pa_cons (de_str pe_str) (da_cons (pa_cons (de_str pe_str) (da_nil pa_nil))))))) (da_cons (pa_cons (de_tup (pe_tup (da_cons (pa_cons (de_str pe_str) (da_cons (pa_cons (de_str pe_str) (da_nil pa_nil))))))) (da_cons (pa_cons (de_tup (pe_tup (da_cons (pa_cons (de_str pe_str) (da_cons (pa_cons (de_str pe_str) (da_nil pa_nil))))))) (da_cons (pa_cons (de_tup (pe_tup (da_cons (pa_cons (de_str pe_str) (da_cons (pa_cons (de_str pe_str) (da_nil pa_nil))))))) (da_cons (pa_cons (de_tup (pe_tup (da_cons (pa_cons (de_str pe_str) (da_cons (pa_cons (de_str pe_str) (da_nil pa_nil))))))) (da_cons (pa_cons (de_tup (pe_tup (da_cons (pa_cons (de_str pe_str) (da_cons (pa_cons (de_str pe_str) (da_nil pa_nil))))))) (da_cons (pa_cons (de_tup (pe_tup (da_cons (pa_cons (de_str pe_str) (da_cons (pa_cons (de_int pe_int) (da_nil pa_nil))))))) (da_cons (pa_cons (de_tup (pe_tup (da_cons (pa_cons (de_str pe_str) (da_nil pa_nil))))) (da_nil pa_nil)))))))))))))))))))))))))
      (dss_cons (pss_cons (ds_set (ps_set (i := 2) sc__law_odd.nd rfl (.inl rfl) (de_op D_plusA (pe_op op_plusA (de_var (pv 2)) (de_v (de_fz (de_lst (pe_lst (da_cons (pa_cons (de_tup (pe_tup (da_cons (pa_cons (de_str pe_str) (da_cons (pa_cons (de_str pe_str) (da_cons (pa_cons (de_str pe_str) (da_nil pa_nil))))))))) (da_cons (pa_cons (de_fz (de_lst (pe_lst (da_cons (pa_cons (de_str pe_str) (da_cons (pa_cons (de_str pe_str) (da_nil pa_nil)))))))) (da_cons (pa_cons (de_tup (pe_tup (da_cons (pa_cons (de_str pe_str) (da_cons (pa_cons (de_un D_neg (pe_un un_neg (de_v (de_int pe_int)))) (da_nil pa_nil))))))) (da_cons (pa_cons (de_tup (pe_tup (da_cons (pa_cons (de_str pe_str) (da_nil pa_nil))))) (da_cons (pa_cons (de_tup (pe_tup (da_cons (pa_cons (de_str pe_str) (da_nil pa_nil))))) (da_cons (pa_cons (de_tup (pe_tup (da_cons (pa_cons (de_str pe_str) (da_nil pa_nil))))) (da_cons (pa_cons (de_tup (pe_tup (da_cons (pa_cons (de_str pe_str) (da_cons (pa_cons (de_tup (pe_tup (da_cons (pa_cons (de_str pe_str) (da_cons (pa_cons (de_int pe_int) (da_nil pa_nil))))))) (da_nil pa_nil))))))) (da_nil pa_nil)))))))))))))))))))))))
      (dss_cons (pss_cons (ds_set (ps_set (i := 2) sc__law_odd.nd rfl (.inl rfl) (de_op D_plusA (pe_op op_plusA (de_var (pv 2)) (de_v (de_fz (de_lst (pe_lst (da_cons (pa_cons (de_tup (pe_tup (da_cons (pa_cons (de_str pe_str) (da_cons (pa_cons (de_str pe_str) (da_nil pa_nil))))))) (da_cons (pa_cons (de_tup (pe_tup (da_cons (pa_cons (de_str pe_str) (da_cons (pa_cons (de_un D_neg (pe_un un_neg (de_v (de_int pe_int)))) (da_nil pa_nil))))))) (da_nil pa_nil)))))))))))))
      (pss_one (ds_ret (ps_ret (de_op D_ix (pe_ix ix_seq (de_var (pv 2)) (de_v (de_callT rfl (pe_callG K__law_vine hgd (hr.mono (by decide)) (by rfl) T.g__law_vine T.F__law_vine.kp T.b__law_vine .nil pass0 (da_cons (pa_cons (de_var (pv 0)) (da_cons (pa_cons (de_cb D_len (pe_callB call_lenA (by rfl) T.m_len (by decide +kernel) (da_one (pa_cons (de_v (de_var (pv 2))) pa_nil)))) (da_nil pa_nil)))))))) (fun _ _ => rfl))))))))))))))))) ?_
  rintro a ds n C E ⟨rfl, n', rfl, q⟩
  walk_at "dl"
  refine vine_go (by decide) (by decide) fun r r0 r1 => ⟨r, rfl, log_lt (Nat.lt_trans (show r.natAbs < 64 by omega) (by decide +kernel)), vine_go (by decide) (by decide) fun j j0 j1 => ?_⟩
  refine odd_pick j0 j1 ?_ fun d hd => ⟨n', Nat.le_refl _, q d hd⟩
  obtain rfl | rfl | rfl | rfl | rfl | rfl | rfl | rfl | rfl : r = 0 ∨ r = 1 ∨ r = 2 ∨ r = 3 ∨ r = 4 ∨ r = 5 ∨ r = 6 ∨ r = 7 ∨ r = 8 := by omega
  all_goals decide +kernel
theorem odd_go {a : Addr} {n' : Nat} {KK : D → Nat → Prop} {E : Err → Prop} (h : ∀ d, Gd 5 2 d → KK d n') : g__law_odd a [.ob (.ref a)] (n' + 2) KK E := ⟨rfl, n', rfl, h⟩
theorem cut_take (L : List D) (i : Nat) : DL.cutD L none (some (i : Int)) = L.take i := by
  unfold DL.cutD
  have e1 : HT.sIx L.length 0 none = 0 := rfl
  have e2 : HT.sIx L.length L.length (some (i : Int)) = min i L.length := by
    unfold HT.sIx
    simp
    try omega
  rw [e1, e2, List.drop_zero, Nat.sub_zero]
  rw [Nat.min_comm, List.take_eq_take_iff]
  omega
theorem cut_from (L : List D) (i : Nat) : DL.cutD L (some (i : Int)) none = L.drop i := by
  unfold DL.cutD
  have e1 : HT.sIx L.length 0 (some (i : Int)) = min i L.length := by
    unfold HT.sIx
    simp
    try omega
  have e2 : HT.sIx L.length L.length none = L.length := rfl
  rw [e1, e2]
  have e3 : L.drop (min i L.length) = L.drop i := by
    rcases Nat.le_total i L.length with h | h
    · rw [Nat.min_eq_left h]
    · rw [Nat.min_eq_right h, List.drop_length, List.drop_eq_nil_of_le h]
  rw [e3]
  apply List.take_of_length_le
  rw [List.length_drop]
  omega
def bentL : List Str := ["add", "neg", "if", "eq", "no", "both", "shl 1", "shl 0", "shl 32", "shl 01", "shl", "shl  1", "call f 0", "loop f 0", "call f", "call f 00", "at", "", "Add"]
theorem bent_ok : ∀ z ∈ bentL, z ∈ labs := by decide +kernel
def g__law_bent (n : Nat) : FT := T2 fun x m C => ∃ m' mx, gdB x = true ∧ wt x ≤ mx ∧ mx ≤ 900 ∧ dep x < n ∧ n ≤ 50 ∧ m = m' + 60 + 2 * n ∧ ∀ d, Gd (wt x + 14) (dep x + 2) d → C d m'
theorem g__law_bent_no {vs H Q E} (h : spT K (g__law_bent 0) vs H Q E) : False := by
  obtain ⟨_, _, _, _, _, _, _, _, _, ⟨_, _, _, _, _, _, _, h, _⟩, _⟩ := h
  exact Nat.not_lt_zero _ h
theorem g__law_bent_len {n : Nat} (a : Addr) (ds : List D) (m : Nat) (C : D → Nat → Prop) (E : Err → Prop) (h : g__law_bent n a ds m C E) : ds.length = 2 := T2_len a ds m C E h
theorem rk__law_drawn (T : Txt w K mg) : FnG P w K mg base CX0 (10 + 8) T.f__law_drawn T.fd__law_drawn ["_law_trellis_here", "_law_kind_here", "_law_deep"] (spT K (g__law_drawn 10)) := ok__law_drawn T 10
theorem ok__law_bent (T : Txt w K mg) : ∀ n : Nat, FnG P w K mg base CX0 (n + 20) T.f__law_bent T.fd__law_bent ["_law_trellis_here", "_law_term"] (spT K (g__law_bent n)) := by
  have K__law_drawn := rk__law_drawn (P := P) (w := w) (base := base) T
  have K__law_odd := ok__law_odd (P := P) (w := w) (base := base) T
  have K__law_vine := dk__law_vine (P := P) (w := w) (base := base) T
  have K__law_one_of := dk__law_one_of (P := P) (w := w) (base := base) T
  intro n
  induction n with
  | zero => exact ⟨fun vs H Q E h => (g__law_bent_no h).elim, fun A outer s H args us vs Q E _ _ _ _ _ h => (g__law_bent_no h).elim⟩
  | succ n K__law_bent =>
  refine (show FnG P w K mg base CX0 ((n + 20) + 1) T.f__law_bent T.fd__law_bent ["_law_trellis_here", "_law_term"] (spT K (g__law_bent (n + 1))) from fnT0 T.F__law_bent sc__law_bent g__law_bent_len (fun a c O0 H0 Er cdv A outer s H E hgd hr =>
      (dss_cons (pss_cons (ds_if (ps_if (PW.pt (dw_or (pw_or (dt_not (pt_not (dt_val (pt_val (de_isi1 rfl (pe_callB call_isi (by rfl) T.m_isinstance (by decide +kernel) (pa_cons (de_v (de_var (pv 1))) (pa_cons (pe_bltn (v := .ty "tuple") (by rfl) T.m_tuple (by decide +kernel) rfl) pa_nil)))))))) (pw_or1 (dt_cmp D_eq (pt_cmpR (op_eqA hr.units) (de_var (pv 1)) (de_v (de_tup (pe_tup (da_nil pa_nil)))) (nomark _)))))))
        (pss_one (ds_ret (ps_ret (de_callT rfl (pe_callG K__law_odd hgd (hr.mono (by omega)) (by rfl) T.g__law_odd T.F__law_odd.kp T.b__law_odd .nil pass0 (da_cons (pa_cons (de_var (pv 0)) (da_nil pa_nil))))))))
        (dss_nil pss_nil)))
      (dss_cut (pss_cons (ds_if (ps_if (PW.pt (dw_and (pw_and (dt_cmp D_gt (pt_cmpR op_gt (de_cb D_len (pe_callB call_lenA (by rfl) T.m_len (by decide +kernel) (da_one (pa_cons (de_v (de_var (pv 1))) pa_nil)))) (de_v (de_int pe_int)) (nomark _))) (dw_and (pw_and (dt_val (pt_val (de_isi1 rfl (pe_callB call_isi (by rfl) T.m_isinstance (by decide +kernel) (pa_cons (de_v (de_op D_ix (pe_ix ix_seq (de_var (pv 1)) (de_v (de_int pe_int)) (fun _ _ => rfl)))) (pa_cons (pe_bltn (v := .ty "tuple") (by rfl) T.m_tuple (by decide +kernel) rfl) pa_nil)))))) (pw_and1 (dt_cmp D_gt (pt_cmpR op_gt (de_callT rfl (pe_callG K__law_vine hgd (hr.mono (by omega)) (by rfl) T.g__law_vine T.F__law_vine.kp T.b__law_vine .nil pass0 (da_cons (pa_cons (de_var (pv 0)) (da_cons (pa_cons (de_int pe_int) (da_nil pa_nil))))))) (de_v (de_int pe_int)) (nomark _)))))))))
        (dss_cons (pss_cons (ds_set (ps_set (i := 2) sc__law_bent.nd rfl (.inl rfl) (de_op D_plusA (pe_op op_plusA (de_int pe_int) (de_v (de_callT rfl (pe_callG K__law_vine hgd (hr.mono (by omega)) (by rfl) T.g__law_vine T.F__law_vine.kp T.b__law_vine .nil pass0 (da_cons (pa_cons (de_var (pv 0)) (da_cons (pa_cons (de_op D_sub (pe_op op_sub (de_cb D_len (pe_callB call_lenA (by rfl) T.m_len (by decide +kernel) (da_one (pa_cons (de_v (de_var (pv 1))) pa_nil)))) (de_v (de_int pe_int)))) (da_nil pa_nil))))))))))))
        (pss_one (ds_ret (ps_ret (de_op D_plusA (pe_op op_plusA (de_op D_plusA (pe_op op_plusA (de_slA (pe_slice sl_all (de_var (pv 1)) (do_none po_none) (do_some (po_some (de_var (pv 2)))))) (de_v (de_tup (pe_tup (da_cons (pa_cons (de_callT rfl (pe_callG K__law_bent hgd (hr.mono (by omega)) (by rfl) T.g__law_bent T.F__law_bent.kp T.b__law_bent .nil pass0 (da_cons (pa_cons (de_var (pv 0)) (da_cons (pa_cons (de_op D_ix (pe_ix ix_seq (de_var (pv 1)) (de_v (de_var (pv 2))) (fun _ _ => rfl))) (da_nil pa_nil))))))) (da_nil pa_nil)))))))) (de_v (de_slA (pe_slice sl_all (de_var (pv 1)) (do_some (po_some (de_op D_plusA (pe_op op_plusA (de_var (pv 2)) (de_v (de_int pe_int)))))) (do_none po_none)))))))))))
        (dss_nil pss_nil)))
      (dss_cons (pss_cons (ds_par (ps_par (i := 3) (j := 2) (by rfl) sc__law_bent.nd rfl rfl (by decide) rfl rfl (da_cons (pa_cons (de_callT rfl (pe_callG K__law_vine hgd (hr.mono (by omega)) (by rfl) T.g__law_vine T.F__law_vine.kp T.b__law_vine .nil pass0 (da_cons (pa_cons (de_var (pv 0)) (da_cons (pa_cons (de_int pe_int) (da_nil pa_nil))))))) (da_cons (pa_cons (de_callT rfl (pe_callG K__law_vine hgd (hr.mono (by omega)) (by rfl) T.g__law_vine T.F__law_vine.kp T.b__law_vine .nil pass0 (da_cons (pa_cons (de_var (pv 0)) (da_cons (pa_cons (de_op D_plusA (pe_op op_plusA (de_cb D_len (pe_callB call_lenA (by rfl) T.m_len (by decide +kernel) (da_one (pa_cons (de_v (de_var (pv 1))) pa_nil)))) (de_v (de_int pe_int)))) (da_nil pa_nil))))))) (da_nil pa_nil))))) (by rfl)))
      (dss_cons (pss_cons (ds_if (ps_if (dt_cmp D_eq (pt_cmpR (op_eqA hr.units) (de_var (pv 3)) (de_v (de_int pe_int)) (nomark _)))
        (pss_one (ds_ret (ps_ret (de_callT rfl (pe_callG K__law_odd hgd (hr.mono (by omega)) (by rfl) T.g__law_odd T.F__law_odd.kp T.b__law_odd .nil pass0 (da_cons (pa_cons (de_var (pv 0)) (da_nil pa_nil))))))))
        (dss_nil pss_nil)))
      (dss_cons (pss_cons (ds_if (ps_if (dt_cmp D_eq (pt_cmpR (op_eqA hr.units) (de_var (pv 3)) (de_v (de_int pe_int)) (nomark _)))
        (dss_cons (pss_cons (ds_set (ps_set (i := 4) sc__law_bent.nd rfl (.inl rfl) (de_fz (de_lst (pe_lst (da_cons (pa_cons (de_str pe_str) (da_cons (pa_cons (de_str pe_str) (da_cons (pa_cons (de_str pe_str) (da_cons (pa_cons (de_str pe_str) (da_cons (pa_cons (de_str pe_str) (da_cons (pa_cons (de_str pe_str) (da_cons (pa_cons (de_str pe_str) (da_cons (pa_cons (de_str pe_str) (da_cons (pa_cons (de_str pe_str) (da_cons (pa_cons (de_str pe_str) (da_cons (pa_cons (de_str pe_str) (da_cons (pa_cons (de_str pe_str) (da_cons (pa_cons (de_str pe_str) (da_cons (pa_cons (de_str pe_str) (da_cons (pa_cons (de_str pe_str) (da_cons (pa_cons (de_str pe_str) (da_cons (pa_cons (de_str pe_str) (da_cons (pa_cons (de_str pe_str) (da_cons (pa_cons (de_str pe_str) (da_nil pa_nil))))))))))))))))))))))))))))))))))))))))))))
        (pss_one (ds_ret (ps_ret (de_op D_plusA (pe_op op_plusA (de_tup (pe_tup (da_cons (pa_cons (de_callT rfl (pe_callG K__law_one_of hgd (hr.mono (by omega)) (by rfl) T.g__law_one_of T.F__law_one_of.kp T.b__law_one_of .nil pass0 (da_cons (pa_cons (de_var (pv 0)) (da_cons (pa_cons (de_var (pv 4)) (da_nil pa_nil))))))) (da_nil pa_nil))))) (de_v (de_slA (pe_slice sl_all (de_var (pv 1)) (do_some (po_some (de_int pe_int))) (do_none po_none)))))))))))
        (dss_nil pss_nil)))
      (dss_cons (pss_cons (ds_if (ps_if (dt_cmp D_eq (pt_cmpR (op_eqA hr.units) (de_var (pv 3)) (de_v (de_int pe_int)) (nomark _)))
        (pss_one (ds_ret (ps_ret (de_op D_plusA (pe_op op_plusA (de_op D_plusA (pe_op op_plusA (de_slA (pe_slice sl_all (de_var (pv 1)) (do_none po_none) (do_some (po_some (de_var (pv 2)))))) (de_v (de_tup (pe_tup (da_cons (pa_cons (de_callT rfl (pe_callG K__law_odd hgd (hr.mono (by omega)) (by rfl) T.g__law_odd T.F__law_odd.kp T.b__law_odd .nil pass0 (da_cons (pa_cons (de_var (pv 0)) (da_nil pa_nil))))) (da_nil pa_nil)))))))) (de_v (de_slA (pe_slice sl_all (de_var (pv 1)) (do_some (po_some (de_var (pv 2)))) (do_none po_none)))))))))
        (dss_nil pss_nil)))
      (dss_cons (pss_cons (ds_if (ps_if (dt_cmp D_eq (pt_cmpR (op_eqA hr.units) (de_var (pv 3)) (de_v (de_int pe_int)) (nomark _)))
        (pss_one (ds_ret (ps_ret (de_op D_plusA (pe_op op_plusA (de_slA (pe_slice sl_all (de_var (pv 1)) (do_none po_none) (do_some (po_some (de_var (pv 2)))))) (de_v (de_slA (pe_slice sl_all (de_var (pv 1)) (do_some (po_some (de_op D_plusA (pe_op op_plusA (de_var (pv 2)) (de_v (de_int pe_int)))))) (do_none po_none)))))))))
        (dss_nil pss_nil)))
      (dss_cons (pss_cons (ds_if (ps_if (dt_cmp D_eq (pt_cmpR (op_eqA hr.units) (de_var (pv 3)) (de_v (de_int pe_int)) (nomark _)))
        (pss_one (ds_ret (ps_ret (de_op D_plusA (pe_op op_plusA (de_var (pv 1)) (de_v (de_tup (pe_tup (da_cons (pa_cons (de_callT rfl (pe_callG K__law_drawn hgd (hr.mono (by omega)) (by rfl) T.g__law_drawn T.F__law_drawn.kp T.b__law_drawn .nil pass0 (da_cons (pa_cons (de_var (pv 0)) (da_cons (pa_cons (de_callT rfl (pe_callG K__law_one_of hgd (hr.mono (by omega)) (by rfl) T.g__law_one_of T.F__law_one_of.kp T.b__law_one_of .nil pass0 (da_cons (pa_cons (de_var (pv 0)) (da_cons (pa_cons (de_fz (de_lst (pe_lst (da_cons (pa_cons (de_str pe_str) (da_cons (pa_cons (de_str pe_str) (da_nil pa_nil)))))))) (da_nil pa_nil))))))) (da_cons (pa_cons (de_int pe_int) (da_nil pa_nil))))))))) (da_nil pa_nil)))))))))))
        (dss_nil pss_nil)))
      (pss_one (ds_ret (ps_ret (de_callT rfl (pe_callG K__law_drawn hgd (hr.mono (by omega)) (by rfl) T.g__law_drawn T.F__law_drawn.kp T.b__law_drawn .nil pass0 (da_cons (pa_cons (de_var (pv 0)) (da_cons (pa_cons (de_callT rfl (pe_callG K__law_one_of hgd (hr.mono (by omega)) (by rfl) T.g__law_one_of T.F__law_one_of.kp T.b__law_one_of .nil pass0 (da_cons (pa_cons (de_var (pv 0)) (da_cons (pa_cons (de_fz (de_lst (pe_lst (da_cons (pa_cons (de_str pe_str) (da_cons (pa_cons (de_str pe_str) (da_nil pa_nil)))))))) (da_nil pa_nil))))))) (da_cons (pa_cons (de_int pe_int) (da_nil pa_nil))))))))))))))))))))))))))))) ?_).mono (by omega)
  rintro a ds m C E ⟨x, rfl, m', mx, hg, hw, hmx, hd, hn, rfl, q⟩
  obtain ⟨M, hM⟩ : ∃ M, m' + 60 + 2 * (n + 1) = M + 2 := ⟨m' + 58 + 2 * (n + 1), by omega⟩
  rw [hM]
  by_cases hx : ∃ L, x = .tup L
  rotate_left
  · obtain ⟨k, hk⟩ := gd_kind hg
    walk_at "dl"
    refine ⟨k, hk, (if_pos ?_).mpr (odd_go fun d hd => ⟨m', by omega, q d ⟨hd.gd, by have := hd.wt_; omega, by have := hd.dep_; omega⟩⟩)⟩
    cases x <;> first | (cases hk; decide) | exact absurd ⟨_, rfl⟩ hx | cases hk
  obtain ⟨L, rfl⟩ := hx
  have gl : gdsB L = true := hg
  have wl : wts L + 1 ≤ mx := hw
  have dl_ : deps L + 1 < n + 1 := hd
  have q' : ∀ L', gdsB L' = true → wts L' ≤ wts L + 14 → deps L' ≤ deps L + 2 → C (.tup L') m' := fun L' h1 h2 h3 => q _ ⟨h1, show wts L' + 1 ≤ wts L + 1 + 14 by omega, show deps L' + 1 ≤ deps L + 1 + 2 by omega⟩
  have ll := len_wts L
  walk_at "dl"
  refine qe_emp gl (show deps L + 1 ≤ 60 by omega) ⟨_, rfl, ?_⟩
  match L, gl, wl, dl_, q', ll with
  | [], _, _, _, q', _ =>
    exact iteT (odd_go fun d hd => ⟨m', by omega, q d ⟨hd.gd, by have := hd.wt_; omega, by have := hd.dep_; omega⟩⟩)
  | d0 :: ps, gl, wl, dl_, q', ll =>
  refine iteF ⟨fun S => ∃ t, m' + 59 ≤ t ∧ S = ⟨[.da (.ob (.ref a)), .da (.tup (d0 :: ps)), .un, .un, .un], t⟩, ?_, ?_⟩
  · have lw : (d0 :: ps).length ≤ 900 := by omega
    split
    rotate_left
    · exact ⟨M + 2, by omega, rfl⟩
    rename_i h1
    have h1' : 1 < (d0 :: ps).length := by omega
    obtain ⟨k1, hk1⟩ := gd_kind (gds_mem gl _ (List.getElem_mem h1'))
    refine ⟨_, at_nat (k := 1) (List.getElem?_eq_getElem h1'), k1, hk1, ?_⟩
    split
    rotate_left
    · exact ⟨M + 2, by omega, rfl⟩
    refine vine_go (by decide) (by decide) fun r r0 r1 => ⟨r, rfl, ?_⟩
    split
    rotate_left
    · exact ⟨M + 1, by omega, rfl⟩
    refine vine_go (by omega) (by omega) fun r2 r20 r21 => ?_
    obtain ⟨j, rfl⟩ : ∃ j : Nat, r2 = j := ⟨r2.toNat, by omega⟩
    have ej : (1 : Int) + (j : Int) = ((1 + j : Nat) : Int) := by omega
    have hk : 1 + j < (d0 :: ps).length := by omega
    show ∃ i, D.int (1 + (j : Int)) = D.int i ∧ _
    rw [ej]
    refine ⟨_, rfl, ix_tup'.mpr ⟨_, at_nat (List.getElem?_eq_getElem hk), ?_⟩⟩
    have hy := List.getElem_mem hk
    have wy := wts_mem hy
    have dy := deps_mem hy
    refine ⟨_, rfl, m', mx, gds_mem gl _ hy, by omega, hmx, by omega, by omega, by omega, fun d2 hd2 => ?_⟩
    rw [cut_take]
    have el : ((1 + j : Nat) : Int) + 1 = ((1 + j + 1 : Nat) : Int) := by omega
    refine ⟨small (by rw [List.length_take]; omega), ?_⟩
    show ∃ i, D.int (((1 + j : Nat) : Int) + 1) = D.int i ∧ _
    rw [el]
    refine ⟨_, rfl, ?_⟩
    rw [cut_from]
    refine ⟨small (by rw [List.length_append, List.length_take, List.length_drop, List.length_singleton]; omega), m', by omega, q' _ ?_ ?_ ?_⟩
    · exact gds_app (gds_app (gds_take gl _) (by show (gdB d2 && true) = true; rw [hd2.gd]; rfl)) (gds_drop gl _)
    · have h := wts_at hk
      have h2 := hd2.wt_
      rw [wts_app, wts_app]
      have : wts [d2] = wt d2 := Nat.add_zero _
      omega
    · have h := deps_cut (d0 :: ps) (1 + j)
      have h3 := deps_drop1 (d0 :: ps) (1 + j)
      have h2 := hd2.dep_
      rw [deps_app, deps_app]
      have : deps [d2] = dep d2 := Nat.max_zero _
      omega
  rintro S1 ⟨t, ht, rfl⟩
  have lw : (d0 :: ps).length ≤ 900 := by omega
  obtain ⟨s, rfl⟩ : ∃ s, t = s + 2 := ⟨t - 2, by omega⟩
  walk_at "dl"
  refine vine_go (by decide) (by decide) fun r r0 r1 => vine_go (by omega) (by rw [List.length_cons] at lw; omega) fun r2 r20 r21 => qe_int.mpr ⟨_, rfl, ?_⟩
  obtain ⟨i, rfl⟩ : ∃ i : Nat, r2 = i := ⟨r2.toNat, by omega⟩
  have hi : i ≤ (d0 :: ps).length := by rw [List.length_cons]; omega
  have dr : ∀ (k : Str) (KK : D → Nat → Prop) (s : Nat), two k → m' + 50 ≤ s → (∀ d n', Gd 14 2 d → m' ≤ n' → KK d n') → g__law_drawn 10 a [D.ob (V.ref a), .str k, D.int 1] s KK E := fun k KK s hk hs h =>
    ⟨_, _, rfl, k, 1, s - 50, rfl, hk, rfl, by decide, by show s = s - 50 + 50; omega, fun d hd => h d _ ⟨hd.gd, hd.wt_, hd.dep_⟩ (by omega)⟩
  have two_of : ∀ (KK : D → Nat → Prop), (∀ k, two k → KK (.str k) (s - 1)) → g__law_one_of a [D.ob (V.ref a), D.lst [D.str (Str.ofString "word"), D.str (Str.ofString "truth")]] s KK E := fun KK h => by
    obtain ⟨s', rfl⟩ : ∃ s', s = s' + 1 := ⟨s - 1, by omega⟩
    refine one_go (Nat.succ_pos _) (Nat.le_of_ble_eq_true rfl) fun d hd => ?_
    simp only [List.mem_cons, List.not_mem_nil, or_false] at hd
    rcases hd with rfl | rfl
    · exact h _ (.inl rfl)
    · exact h _ (.inr rfl)
  split
  · obtain ⟨s', rfl⟩ : ∃ s', s = s' + 2 := ⟨s - 2, by omega⟩
    exact odd_go fun d hd => ⟨m', by omega, q d ⟨hd.gd, by have := hd.wt_; omega, by have := hd.dep_; omega⟩⟩
  refine qe_int.mpr ⟨_, rfl, ?_⟩
  split
  · obtain ⟨s', rfl⟩ : ∃ s', s = s' + 1 := ⟨s - 1, by omega⟩
    refine one_go (Nat.succ_pos _) (Nat.le_of_ble_eq_true rfl) fun d hd => ?_
    have hd : d ∈ bentL.map D.str := hd
    obtain ⟨z, hz, rfl⟩ := List.mem_map.mp hd
    rw [cut_tail]
    refine ⟨small (by rw [List.length_cons] at lw; omega), m', by omega, q' _ ?_ ?_ ?_⟩
    · show (decide (z ∈ labs) && gdsB ps) = true
      rw [decide_eq_true (bent_ok z hz), gds_of fun d hd => gds_mem gl d (List.mem_cons_of_mem _ hd)]
      rfl
    · have := wt_pos d0
      show 1 + wts ps ≤ (wt d0 + wts ps) + 14
      omega
    · show max 0 (deps ps) ≤ max (dep d0) (deps ps) + 2
      omega
  refine qe_int.mpr ⟨_, rfl, ?_⟩
  split
  · obtain ⟨s', rfl⟩ : ∃ s', s = s' + 2 := ⟨s - 2, by omega⟩
    refine ⟨_, rfl, odd_go fun d hd => ?_⟩
    rw [cut_take]
    refine ⟨small (by rw [List.length_take]; omega), _, rfl, ?_⟩
    rw [cut_from]
    refine ⟨small (by rw [List.length_append, List.length_take, List.length_drop, List.length_singleton]; omega), m', by omega, q' _ ?_ ?_ ?_⟩
    · exact gds_app (gds_app (gds_take gl _) (by show (gdB d && true) = true; rw [hd.gd]; rfl)) (gds_drop gl _)
    · have h := wts_cut (d0 :: ps) i
      have h2 := hd.wt_
      rw [wts_app, wts_app]
      have : wts [d] = wt d := Nat.add_zero _
      omega
    · have h := deps_cut (d0 :: ps) i
      have h2 := hd.dep_
      rw [deps_app, deps_app]
      have : deps [d] = dep d := Nat.max_zero _
      omega
  refine qe_int.mpr ⟨_, rfl, ?_⟩
  split
  · have el : (i : Int) + 1 = ((i + 1 : Nat) : Int) := by omega
    refine ⟨_, rfl, ?_⟩
    show ∃ i_1, D.int ((i : Int) + 1) = D.int i_1 ∧ _
    rw [el]
    refine ⟨_, rfl, ?_⟩
    rw [cut_take, cut_from]
    refine ⟨small (by rw [List.length_take, List.length_drop]; omega), m', by omega, q' _ ?_ ?_ ?_⟩
    · exact gds_app (gds_take gl _) (gds_drop gl _)
    · have h := wts_cut (d0 :: ps) i
      have h2 := wts_drop1 (d0 :: ps) i
      rw [wts_app]
      omega
    · have h := deps_cut (d0 :: ps) i
      have h2 := deps_drop1 (d0 :: ps) i
      rw [deps_app]
      omega
  refine qe_int.mpr ⟨_, rfl, ?_⟩
  split
  · refine two_of _ fun k hk => dr k _ _ hk (by omega) fun d n' hd hn' => ⟨small (by rw [List.length_cons] at lw; omega), m', hn', ?_⟩
    rw [← List.cons_append]
    refine q' _ ?_ ?_ ?_
    · exact gds_app gl (by show (gdB d && true) = true; rw [hd.gd]; rfl)
    · have h2 := hd.wt_
      rw [wts_app]
      have : wts [d] = wt d := Nat.add_zero _
      omega
    · have h2 := hd.dep_
      rw [deps_app]
      have : deps [d] = dep d := Nat.max_zero _
      omega
  · exact two_of _ fun k hk => dr k _ _ hk (by omega) fun d n' hd hn' => ⟨m', hn', q d ⟨hd.gd, by have := hd.wt_; omega, by have := hd.dep_; omega⟩⟩
end
end K03D
end
section
set_option maxHeartbeats 4000000
namespace K03D
open PySem PySem.Spec PyProof.Rows L2 G1 G2 DL K03 R1 StX
variable [TB]
local macro_rules | `(tactic| walk_at "dl") => `(tactic| simp (decide := true) only [dSlA, dSlO, dRev, dPop, dExt, dDelFrom, dCallH, daStar, dRep, dListZip, dDispN, dVals, dInDic, dGetDic, dInK, dIxK, dKget, dStrI, dSplit, dLeS, dRaiseI, dIsnB, dInSign, lookD, plusA_int, plusA_str, plusA_lst, plusA_tup, dVar, dVw, dC, dOp, dOpL, dUn, dCB, daNil, daCons, daOne, dCallP, dCallT, dTup, dLst, dFz, dSet, dSetO, dDrop, dRet, dRetF, dRetO, dCallTN, dRetN, dNext, dBreak, dCont, dSeq, dCut, dIfS, dFrz, dAsg, dPar, bindT, setsD, slotsT, dItL, dItT, dItS, dRng1, dRng2, dFor, dTst, dTru, dNot, dAnd, dOr, dAndV, dOrV, dNotV, dIfE, dLc, dYes, turnD, wipeD, restG, kp, dI0, dI, dNeg, dIsN, dNotN, dIsB, dLen, dIsi, isiTab, dInt, dAbs, dAll, dAny, dTupOf, dListOf, dNoPart, dPart, dSl, dSlL, dFmt, dJs, dM1, dStarts, dApp, dSetIx, dChain, dZip, dEnum, dSigns, dHeard, hideS, hideL, dLcN, dNbeg, dNend, dNcons, dNset, dNapp, dNpop, dDnew, dDisp1, dRaise, dRepr, dIn, flVs, kT_non, kT_bl, kT_int, kT_str, kT_lst, kT_tup, kT_dic, isN_non, isN_bl, isN_int, isN_str, isN_lst, isN_tup, isN_dic, lenD_lst, lenD_tup, lenD_str, it_lst, it_tup, fl_non, fl_bl, fl_int, fl_str, tru_non, tru_bl, tru_int, tru_lst, tru_tup, plus_int, plus_str, plus_lst, plus_tup, ix_lst, ix_tup', ix_str', qe_str, qn_str, qe_int, qn_int, qe_bl, qn_bl, at_0, at_1, at_2, at_l1, at_l2, at_l3, at_k2, at_k3, inV_nil, inV_cons, eqV_str, eqV_int, eqV_bl, Bool.or_false, Bool.or_true, Bool.true_or, Bool.false_or, Bool.and_true, Bool.and_false, decide_eq_true_eq, Bool.not_eq_true', decide_eq_false_iff_not, eq_self, ne_eq, not_true_eq_false, not_false_eq_true, 
  F1, F2, F3, F4, T1, T2, T3, T4, startD, List.append_nil, List.cons_append, List.nil_append, List.map_cons, List.map_nil, List.length_cons, List.length_nil, List.getElem?_cons_zero, List.getElem?_cons_succ, List.getElem?_nil, List.getD_cons_zero, List.getD_cons_succ, Nat.reduceAdd, Nat.reduceSub, Nat.zero_add, List.replicate, List.replicate_zero, List.replicate_succ, List.set_cons_zero, List.set_cons_succ, List.set_nil,
  exists_eq_left, exists_eq_left', exists_eq_right, exists_eq_right', exists_and_left, Option.some.injEq, Sl.da.injEq, Sl.ow.injEq, D.bl.injEq, D.int.injEq, D.str.injEq, D.tup.injEq, D.lst.injEq, D.ob.injEq, List.cons.injEq, and_true, true_and, and_assoc, if_true, if_false, reduceIte, reduceCtorEq, Bool.false_eq_true, Bool.not_true, Bool.not_false, decide_true, decide_false, false_and, and_false, exists_false, false_or, or_false, Option.bind_some, Option.map_some])

/-- each turn draws as often as its thing tells -/
theorem lcD_cost {tg : Tg} {ft : FB} {fe : FE} {gs : List Sl} {C : List D → DS → Prop} {E : Err → Prop} (R : D → D → Prop) (cost : D → Nat) (m : Nat) : ∀ (as : List D) (acc : List D) (n0 : Nat), m + (as.map cost).sum ≤ n0 →
    (∀ a ∈ as, ∀ (n : Nat) (Kt : Option D → DS → Prop), cost a ≤ n → (∀ d n', n ≤ n' + cost a → R a d → Kt (some d) ⟨gs, n'⟩) → turnD tg ft fe ⟨gs, n⟩ a Kt E) →
    (∀ ds n', m ≤ n' → Rel2 R as ds → C (acc ++ ds) ⟨gs, n'⟩) → lcD tg ft fe as acc ⟨gs, n0⟩ C E
  | [], acc, n0, hn, _, hc => by
    have := hc [] n0 (by rw [List.map_nil, List.sum_nil] at hn; exact hn) .nil
    rw [List.append_nil] at this
    exact this
  | a :: as, acc, n0, hn, h, hc => by
    rw [List.map_cons, List.sum_cons] at hn
    refine lcD_turn (h a (List.mem_cons_self ..) _ _ (by omega) fun d n' h' hd => ?_)
    refine lcD_cost R cost m as _ n' (by omega) (fun b hb => h b (List.mem_cons_of_mem _ hb)) fun ds n'' hn'' hds => ?_
    rw [List.append_assoc]
    exact hc (d :: ds) n'' hn'' (.cons hd hds)
/-- as good, with as much -/
structure Lk' (x d : D) : Prop where
  gd : gdB d = true
  wt_ : wt d = wt x
  dep_ : dep d = dep x
theorem wts_sum : ∀ ds : List D, (ds.map wt).sum = wts ds
  | [] => rfl
  | d :: ds => by
    rw [List.map_cons, List.sum_cons, wts_sum ds]
    rfl
theorem lk_all {as ds : List D} (h : Rel2 Lk' as ds) : gdsB ds = true ∧ wts ds = wts as ∧ deps ds = deps as := by
  induction h with
  | nil => exact ⟨rfl, rfl, rfl⟩
  | @cons a b as ds h _ ih =>
    obtain ⟨h1, h2, h3⟩ := ih
    refine ⟨?_, ?_, ?_⟩
    · show (gdB b && gdsB ds) = true
      rw [h.gd, h1]
      rfl
    · show wt b + wts ds = wt a + wts as
      rw [h.wt_, h2]
    · show max (dep b) (deps ds) = max (dep a) (deps as)
      rw [h.dep_, h3]
section
variable {P : Program} {w : World} {K : PySem.W.Frag} {mg : Str → Option Value} {base : Heap}
def g__law_listed (n : Nat) : FT := T2 fun x m C => ∃ m', gdB x = true ∧ wt x ≤ 1000 ∧ dep x < n ∧ m = m' + wt x ∧ ∀ d, Lk' x d → C d m'
theorem g__law_listed_no {vs H Q E} (h : spT K (g__law_listed 0) vs H Q E) : False := by
  obtain ⟨_, _, _, _, _, _, _, _, _, ⟨_, _, _, _, _, h, _⟩, _⟩ := h
  exact Nat.not_lt_zero _ h
theorem g__law_listed_len {n : Nat} (a : Addr) (ds : List D) (m : Nat) (C : D → Nat → Prop) (E : Err → Prop) (h : g__law_listed n a ds m C E) : ds.length = 2 := T2_len a ds m C E h
theorem ok__law_listed (T : Txt w K mg) : ∀ n : Nat, FnG P w K mg base CX0 (n + 8) T.f__law_listed T.fd__law_listed ["_law_trellis_here", "_law_value"] (spT K (g__law_listed n)) := by
  have K__law_vine := dk__law_vine (P := P) (w := w) (base := base) T
  intro n
  induction n with
  | zero => exact ⟨fun vs H Q E h => (g__law_listed_no h).elim, fun A outer s H args us vs Q E _ _ _ _ _ h => (g__law_listed_no h).elim⟩
  | succ n K__law_listed =>
  refine (show FnG P w K mg base CX0 ((n + 8) + 1) T.f__law_listed T.fd__law_listed ["_law_trellis_here", "_law_value"] (spT K (g__law_listed (n + 1))) from fnT0 T.F__law_listed sc__law_listed g__law_listed_len (fun a c O0 H0 Er cdv A outer s H E hgd hr =>
      (dss_cons (pss_cons (ds_if (ps_if (dt_not (pt_not (dt_val (pt_val (de_isi1 rfl (pe_callB call_isi (by rfl) T.m_isinstance (by decide +kernel) (pa_cons (de_v (de_var (pv 1))) (pa_cons (pe_bltn (v := .ty "tuple") (by rfl) T.m_tuple (by decide +kernel) rfl) pa_nil))))))))
        (pss_one (ds_ret (ps_ret (de_var (pv 1)))))
        (dss_nil pss_nil)))
      (dss_cons (pss_cons (ds_lc (tg := (.nm 3)) (ps_setLc (i := 2) (own := [("_law_part", 3)]) (by rfl) sc__law_listed.nd rfl rfl (sw_true rfl rfl rfl (by decide +kernel)) (di_seq (pi_seqA (de_var (pv 1)))) (blkOk_by (own := [("_law_part", 3)]) (N := ["_law_trellis_here", "_law_value", "_law_found", "_law_part"]) (sc := defScope s__law_listed) (by decide +kernel)) (fun _ _ _ _ _ => (pg_name (i := 3) sc__law_listed.nd rfl (Or.inl rfl))) (fun _ _ _ _ _ => (dts_yes pts_nil)) (fun _ _ _ _ _ => (de_callT rfl (pe_callG K__law_listed hgd (hr.mono (by omega)) (by rfl) T.g__law_listed T.F__law_listed.kp T.b__law_listed .nil pass0 (da_cons (pa_cons (de_var (pv 0)) (da_cons (pa_cons (de_var (pv 3)) (da_nil pa_nil))))))))))
      (pss_one (ds_ret (ps_ret (de_ife (pe_ifExp (dt_cmp D_eq (pt_cmpR (op_eqA hr.units) (de_callT rfl (pe_callG K__law_vine hgd (hr.mono (by omega)) (by rfl) T.g__law_vine T.F__law_vine.kp T.b__law_vine .nil pass0 (da_cons (pa_cons (de_var (pv 0)) (da_cons (pa_cons (de_int pe_int) (da_nil pa_nil))))))) (de_v (de_int pe_int)) (nomark _))) (de_var (pv 2)) (de_cb D_tupOf (pe_callTy call_tuple_of (by rfl) T.m_tuple (by decide +kernel) (da_one (pa_cons (de_v (de_var (pv 2))) pa_nil)))))))))))))) ?_).mono (by omega)
  rintro a ds m C E ⟨x, rfl, m', hg, hw, hd, rfl, q⟩
  by_cases hx : ∃ L, x = .tup L
  rotate_left
  · obtain ⟨k, hk⟩ := gd_kind hg
    walk_at "dl"
    refine ⟨k, hk, (if_pos ?_).mpr ⟨m', by omega, q x ⟨hg, rfl, rfl⟩⟩⟩
    cases x <;> first | (cases hk; decide) | exact absurd ⟨_, rfl⟩ hx | cases hk
  obtain ⟨L, rfl⟩ := hx
  walk_at "dl"
  have ll := len_wts L
  have ew : wt (.tup L) = wts L + 1 := rfl
  have ed : dep (.tup L) = deps L + 1 := rfl
  refine ⟨small (by omega), lcD_cost Lk' wt (m' + 1) L [] _ (by rw [wts_sum]; omega) (fun e he n1 Kt hn1 hkt => ?_) fun ds n' hn' hds => ?_⟩
  · unfold turnD
    walk_at "dl"
    have w1 := wts_mem he
    have d1 := deps_mem he
    exact ⟨_, rfl, n1 - wt e, gds_mem (show gdsB L = true from hg) e he, by omega, by omega, by omega, fun d hd => hkt d (n1 - wt e) (by omega) hd⟩
  · obtain ⟨h1, h2, h3⟩ := lk_all hds
    obtain ⟨t, rfl⟩ : ∃ t, n' = t + 1 := ⟨n' - 1, by omega⟩
    rw [List.nil_append]
    refine ⟨_, rfl, vine_go (by decide) (by decide) fun r r0 r1 => qe_int.mpr ⟨_, rfl, ?_⟩⟩
    split
    · exact ⟨_, rfl, m', by omega, q _ ⟨h1, by show wts ds + 1 = _; omega, by show deps ds + 1 = _; omega⟩⟩
    · exact ⟨_, rfl, ds, rfl, m', by omega, q _ ⟨h1, by show wts ds + 1 = _; omega, by show deps ds + 1 = _; omega⟩⟩
end
end K03D
end
section
set_option maxHeartbeats 4000000
namespace K03D
open PySem PySem.Spec PyProof.Rows L2 G1 G2 DL K03 R1 StX
variable [TB]
local macro_rules | `(tactic| walk_at "dl") => `(tactic| simp (decide := true) only [dSlA, dSlO, dRev, dPop, dExt, dDelFrom, dCallH, daStar, dRep, dListZip, dDispN, dVals, dInDic, dGetDic, dInK, dIxK, dKget, dStrI, dSplit, dLeS, dRaiseI, dIsnB, dInSign, lookD, plusA_int, plusA_str, plusA_lst, plusA_tup, dVar, dVw, dC, dOp, dOpL, dUn, dCB, daNil, daCons, daOne, dCallP, dCallT, dTup, dLst, dFz, dSet, dSetO, dDrop, dRet, dRetF, dRetO, dCallTN, dRetN, dNext, dBreak, dCont, dSeq, dCut, dIfS, dFrz, dAsg, dPar, bindT, setsD, slotsT, dItL, dItT, dItS, dRng1, dRng2, dFor, dTst, dTru, dNot, dAnd, dOr, dAndV, dOrV, dNotV, dIfE, dLc, dYes, turnD, wipeD, restG, kp, dI0, dI, dNeg, dIsN, dNotN, dIsB, dLen, dIsi, isiTab, dInt, dAbs, dAll, dAny, dTupOf, dListOf, dNoPart, dPart, dSl, dSlL, dFmt, dJs, dM1, dStarts, dApp, dSetIx, dChain, dZip, dEnum, dSigns, dHeard, hideS, hideL, dLcN, dNbeg, dNend, dNcons, dNset, dNapp, dNpop, dDnew, dDisp1, dRaise, dRepr, dIn, flVs, kT_non, kT_bl, kT_int, kT_str, kT_lst, kT_tup, kT_dic, isN_non, isN_bl, isN_int, isN_str, isN_lst, isN_tup, isN_dic, lenD_lst, lenD_tup, lenD_str, it_lst, it_tup, fl_non, fl_bl, fl_int, fl_str, tru_non, tru_bl, tru_int, tru_lst, tru_tup, plus_int, plus_str, plus_lst, plus_tup, ix_lst, ix_tup', ix_str', qe_str, qn_str, qe_int, qn_int, qe_bl, qn_bl, at_0, at_1, at_2, at_l1, at_l2, at_l3, at_k2, at_k3, inV_nil, inV_cons, eqV_str, eqV_int, eqV_bl, Bool.or_false, Bool.or_true, Bool.true_or, Bool.false_or, Bool.and_true, Bool.and_false, decide_eq_true_eq, Bool.not_eq_true', decide_eq_false_iff_not, eq_self, ne_eq, not_true_eq_false, not_false_eq_true, 
  F1, F2, F3, F4, T1, T2, T3, T4, startD, List.append_nil, List.cons_append, List.nil_append, List.map_cons, List.map_nil, List.length_cons, List.length_nil, List.getElem?_cons_zero, List.getElem?_cons_succ, List.getElem?_nil, List.getD_cons_zero, List.getD_cons_succ, Nat.reduceAdd, Nat.reduceSub, Nat.zero_add, List.replicate, List.replicate_zero, List.replicate_succ, List.set_cons_zero, List.set_cons_succ, List.set_nil,
  exists_eq_left, exists_eq_left', exists_eq_right, exists_eq_right', exists_and_left, Option.some.injEq, Sl.da.injEq, Sl.ow.injEq, D.bl.injEq, D.int.injEq, D.str.injEq, D.tup.injEq, D.lst.injEq, D.ob.injEq, List.cons.injEq, and_true, true_and, and_assoc, if_true, if_false, reduceIte, reduceCtorEq, Bool.false_eq_true, Bool.not_true, Bool.not_false, decide_true, decide_false, false_and, and_false, exists_false, false_or, or_false, Option.bind_some, Option.map_some])

section
variable {P : Program} {w : World} {K : PySem.W.Frag} {mg : Str → Option Value} {base : Heap}
theorem ok0_is_word (T : Txt w K mg) : FnG P w K mg base CX0 8 T.f_is_word T.fd_is_word ["term"] (spP K fun ds C _ => (g_is_word T) ds C fun _ => False) := (ok_is_word (P := P) (base := base) T).calm fun _ _ _ _ h => spP_calm h
theorem ok0_size_of (T : Txt w K mg) : FnG P w K mg base CX0 8 T.f_size_of T.fd_size_of ["term"] (spP K fun ds C _ => (g_refuses T) ds C fun _ => False) := (ok_size_of (P := P) (base := base) T).calm fun _ _ _ _ h => spP_calm h
theorem ok0_levels_of (T : Txt w K mg) : FnG P w K mg base CX0 8 T.f_levels_of T.fd_levels_of ["term"] (spP K fun ds C _ => (g_refuses T) ds C fun _ => False) := (ok_levels_of (P := P) (base := base) T).calm fun _ _ _ _ h => spP_calm h
theorem ok0_names_in (T : Txt w K mg) : FnG P w K mg base CX0 8 T.f_names_in T.fd_names_in ["term"] (spP K fun ds C _ => (g_refuses T) ds C fun _ => False) := (ok_names_in (P := P) (base := base) T).calm fun _ _ _ _ h => spP_calm h
theorem ok0_flags_in (T : Txt w K mg) : FnG P w K mg base CX0 8 T.f_flags_in T.fd_flags_in ["term"] (spP K fun ds C _ => (g_refuses T) ds C fun _ => False) := (ok_flags_in (P := P) (base := base) T).calm fun _ _ _ _ h => spP_calm h
theorem ok0_places_of (T : Txt w K mg) : FnG P w K mg base CX0 8 T.f_places_of T.fd_places_of ["term"] (spP K fun ds C _ => (g_refuses T) ds C fun _ => False) := (ok_places_of (P := P) (base := base) T).calm fun _ _ _ _ h => spP_calm h
theorem ok0_put_in (T : Txt w K mg) : FnG P w K mg base CX0 8 T.f_put_in T.fd_put_in ["term", "values"] (spP K fun ds C _ => (g_refuses2 T) ds C fun _ => False) := (ok_put_in (P := P) (base := base) T).calm fun _ _ _ _ h => spP_calm h
theorem ok0_part_at (T : Txt w K mg) : FnG P w K mg base CX0 8 T.f_part_at T.fd_part_at ["term", "place"] (spP K fun ds C _ => (g_refuses2 T) ds C fun _ => False) := (ok_part_at (P := P) (base := base) T).calm fun _ _ _ _ h => spP_calm h
theorem ok0_with_part (T : Txt w K mg) : FnG P w K mg base CX0 8 T.f_with_part T.fd_with_part ["term", "place", "other"] (spP K fun ds C _ => (g_with_part T) ds C fun _ => False) := (ok_with_part (P := P) (base := base) T).calm fun _ _ _ _ h => spP_calm h
theorem rk__law_kind (T : Txt w K mg) : FnG P w K mg base CX0 (20 + 8) T.f__law_kind T.fd__law_kind ["_law_value"] (spP K (g__law_kind 20)) := ok__law_kind T 20
/-- what `_law_heard` tells an error as -/
def erH (T : Txt w K mg) : Err → D → Prop := fun e d => ∃ z, e = eTm T z ∧ d = .str z
theorem err_of {O : Ow} {H : Hp} {C : Addr} {z : Str} {cls : Value} {dd : Option Addr} (h : ErrR K O H ⟨.ref C, [("part", .str z)]⟩ cls dd) : cls = .ref C ∧ ∃ a, dd = some a ∧ H a = some (.xd [("part", V.str z)]) := by
  obtain ⟨e, d, fs, e2, hd, h1, h2⟩ := h
  refine ⟨e, d, e2, ?_⟩
  match fs, h1, h2 with
  | [], h1, _ => exact absurd (congrArg List.length h1) (by show ¬ (0 = 1); decide)
  | [(x, v)], h1, h2 =>
    obtain ⟨v', r, e3, hv, e4⟩ := h2
    obtain rfl : x = "part" := (List.cons.inj h1).1
    obtain rfl : v = v' := (List.cons.inj e3).1
    obtain rfl : v = .str z := hv
    exact hd
  | _ :: _ :: t, h1, _ =>
    have h3 := congrArg List.length h1
    rw [List.length_map] at h3
    exact absurd h3 (by show ¬ (t.length + 1 + 1 = 1); omega)
theorem thd_heard (T : Txt w K mg) : THd K (erH T) (TTh T.CT) := fun tl H Q => by
  refine fun h E Q2 hE hn => h E Q2 (fun cls dd H' ⟨e, d, O', er, ⟨z, hz, hd⟩, k⟩ => ?_) hn
  subst hz hd
  obtain ⟨rfl, a, rfl, ha⟩ := err_of er
  exact hE _ _ _ ⟨a, z, rfl, rfl, ha, fun H2 sm => k _ O' H2 (aft_same sm) rfl⟩
def g__law_judged_right : FT := T2 fun x n C => gdB x = true ∧ wt x ≤ 900 ∧ dep x < 20 ∧ C (.bl true) n
theorem ok__law_judged_right (T : Txt w K mg) {PT : Addr} (tB : LamX.TabB base mg T.cR PT) (hT : (TB.T : List (Addr × Str)) = [(PT, ("_law_judged_right.<locals>.<lambda>" : Str))]) : FnG P w K mg base CX0 30 T.f__law_judged_right T.fd__law_judged_right ["_law_trellis_here", "_law_value"] (spTL K g__law_judged_right) := by
  have K__law_kind := rk__law_kind (P := P) (w := w) (base := base) T
  have K_is_term := ok_is_term (P := P) (w := w) (base := base) T
  have K_is_word := ok_is_word (P := P) (w := w) (base := base) T
  have K0_is_word := ok0_is_word (P := P) (w := w) (base := base) T
  have K_size_of := ok_size_of (P := P) (w := w) (base := base) T
  have K0_size_of := ok0_size_of (P := P) (w := w) (base := base) T
  have K_levels_of := ok_levels_of (P := P) (w := w) (base := base) T
  have K0_levels_of := ok0_levels_of (P := P) (w := w) (base := base) T
  have K_names_in := ok_names_in (P := P) (w := w) (base := base) T
  have K0_names_in := ok0_names_in (P := P) (w := w) (base := base) T
  have K_flags_in := ok_flags_in (P := P) (w := w) (base := base) T
  have K0_flags_in := ok0_flags_in (P := P) (w := w) (base := base) T
  have K_places_of := ok_places_of (P := P) (w := w) (base := base) T
  have K0_places_of := ok0_places_of (P := P) (w := w) (base := base) T
  have K_put_in := ok_put_in (P := P) (w := w) (base := base) T
  have K0_put_in := ok0_put_in (P := P) (w := w) (base := base) T
  have K_part_at := ok_part_at (P := P) (w := w) (base := base) T
  have K0_part_at := ok0_part_at (P := P) (w := w) (base := base) T
  have K_with_part := ok_with_part (P := P) (w := w) (base := base) T
  have K0_with_part := ok0_with_part (P := P) (w := w) (base := base) T
  obtain ⟨oc2, od2, kV2, doc2, pm2, an2, cdv2, ct2, osl2, efh, lkh, hch⟩ := T.F__law_heard.ex
  have bh := T.b__law_heard
  rw [efh] at bh lkh
  have hmT : (PT, ("_law_judged_right.<locals>.<lambda>" : Str)) ∈ TB.T := by rw [hT]; exact List.mem_singleton.mpr rfl
  have huT : ∀ p ∈ TB.T, p.1 = PT → p.2 = ("_law_judged_right.<locals>.<lambda>" : Str) := fun p hp _ => by rw [hT] at hp; rw [List.mem_singleton.mp hp]
  refine fnTL T.F__law_judged_right T.code_R sc__law_judged_right T2_len (fun a c O0 H0 h0 Er A outer s H E hgd hr =>
      (dss_cons (pss_cons (ds_par (ps_par (i := 2) (j := 3) (by rfl) sc__law_judged_right.nd rfl rfl (by decide) rfl rfl (da_cons (pa_cons (de_callP (pe_callG K__law_kind hgd (hr.mono (by decide)) (by rfl) T.g__law_kind T.F__law_kind.kp T.b__law_kind .nil pass0 (da_cons (pa_cons (de_var (pv 1)) (da_nil pa_nil))))) (da_cons (pa_cons (de_cb D_repr (pe_callB (call_reprD hgd hr.units) (by rfl) T.m_repr (by decide +kernel) (da_one (pa_cons (de_v (de_var (pv 1))) pa_nil)))) (da_nil pa_nil))))) (by rfl)))
      (dss_cut (pss_cons (ds_if (ps_if (dt_cmp D_ne (pt_cmpR (op_neA hr.units) (de_cb D_repr (pe_callB (call_reprD hgd hr.units) (by rfl) T.m_repr (by decide +kernel) (da_one (pa_cons (de_v (de_fz (de_lst (pe_lst (da_cons (pa_cons (de_callP (pe_callG K_is_term hgd (hr.mono (by decide)) (by rfl) T.g_is_term T.F_is_term.kp T.b_is_term .nil pass0 (da_cons (pa_cons (de_var (pv 1)) (da_nil pa_nil))))) (da_cons (pa_cons (de_callPK (pe_callK0G K_is_term hgd (hr.mono (by decide)) (by rfl) T.g_is_term T.F_is_term.kp T.kb_is_term pass0 (dkk_cons (pk_cons (de_var (pv 1)) (dkk_nil pk_nil))))) (da_nil pa_nil))))))))) pa_nil)))) (de_v (de_cb D_repr (pe_callB (call_reprD hgd hr.units) (by rfl) T.m_repr (by decide +kernel) (da_one (pa_cons (de_v (de_fz (de_lst (pe_lst (da_cons (pa_cons (de_op D_notN (pe_cmpR op_notN (de_var (pv 2)) (de_v (de_non pe_non)) (nomark _))) (da_cons (pa_cons (de_op D_notN (pe_cmpR op_notN (de_var (pv 2)) (de_v (de_non pe_non)) (nomark _))) (da_nil pa_nil))))))))) pa_nil))))) (nomark _)))
        (pss_one (ds_ret (ps_ret (de_bl pe_bl))))
        (dss_nil pss_nil)))
      (dss_cut (pss_cons (ds_if (ps_if (dt_cmp D_notN (pt_cmpR op_notN (de_var (pv 2)) (de_v (de_non pe_non)) (nomark _)))
        (pss_one (ds_ret (ps_ret (de_and (pe_and (de_op D_eq (pe_cmpR (op_eqA hr.units) (de_cb D_repr (pe_callB (call_reprD hgd hr.units) (by rfl) T.m_repr (by decide +kernel) (da_one (pa_cons (de_v (de_fz (de_lst (pe_lst (da_cons (pa_cons (de_callP (pe_callG K0_is_word hgd (hr.mono (by decide)) (by rfl) T.g_is_word T.F_is_word.kp T.b_is_word .nil pass0 (da_cons (pa_cons (de_var (pv 1)) (da_nil pa_nil))))) (da_cons (pa_cons (de_callPK (pe_callK0G K0_is_word hgd (hr.mono (by decide)) (by rfl) T.g_is_word T.F_is_word.kp T.kb_is_word pass0 (dkk_cons (pk_cons (de_var (pv 1)) (dkk_nil pk_nil))))) (da_nil pa_nil))))))))) pa_nil)))) (de_v (de_cb D_repr (pe_callB (call_reprD hgd hr.units) (by rfl) T.m_repr (by decide +kernel) (da_one (pa_cons (de_v (de_fz (de_lst (pe_lst (da_cons (pa_cons (de_op D_eq (pe_cmpR (op_eqA hr.units) (de_var (pv 2)) (de_v (de_str pe_str)) (nomark _))) (da_cons (pa_cons (de_op D_eq (pe_cmpR (op_eqA hr.units) (de_var (pv 2)) (de_v (de_str pe_str)) (nomark _))) (da_nil pa_nil))))))))) pa_nil))))) (nomark _))) (pe_one (de_op D_eq (pe_cmpR (op_eqA hr.units) (de_cb D_repr (pe_callB (call_reprD hgd hr.units) (by rfl) T.m_repr (by decide +kernel) (da_one (pa_cons (de_v (de_var (pv 1))) pa_nil)))) (de_v (de_var (pv 3))) (nomark _)))))))))
        (dss_nil pss_nil)))
      (dss_cons (pss_cons (ds_set (ps_set (i := 4) sc__law_judged_right.nd rfl (.inr rfl) (de_tup (pe_tup (da_cons (pa_cons (de_str pe_str) (da_cons (pa_cons (de_str pe_str) (da_nil pa_nil)))))))))
      (dss_cut (pss_cons (ds_set (ps_set (i := 5) sc__law_judged_right.nd rfl (.inl rfl) (de_fz (de_lst (pe_lst (da_cons (pa_cons (de_heard h0 (thd_heard T) (pe_lamG (k := 8) (by rfl) T.g__law_heard T.F__law_heard.kp lkh hch bh sc__law_heard rfl (.inl rfl) (heard_gives (cdg := cdv2) T rfl rfl rfl) tB rfl hmT huT (hr.mono (by decide)) (LamX.lamS_by (sc := defScope s__law_judged_right) (by decide +kernel)) rfl (fun _ _ _ _ _ => rfl) (fun A2 o2 s2 H2 E2 f2 c2 hg2 hr2 => pe_he fun tr2 OO2 Z2 Er2 fr2 => (de_callP (pe_callG (E := E2) K_is_word (hg2.trans hgd) hr2 (by rfl) T.g_is_word T.F_is_word.kp T.b_is_word .nil passL (da_cons (pa_cons (de_var (pv 1)) (da_nil pa_nil)))))))) (da_cons (pa_cons (de_heard h0 (thd_heard T) (pe_lamD (k := 8) (dn := "_law_a1") (z := 0) (by rfl) T.g__law_heard T.F__law_heard.kp lkh hch bh sc__law_heard rfl (.inl rfl) (heard_gives (cdg := cdv2) T rfl rfl rfl) tB rfl hmT huT (hr.mono (by decide)) (lamD_by (N := ["_law_trellis_here", "_law_value", "_law_due", "_law_before", "_law_spare", "_law_heard_here"]) (sc := defScope s__law_judged_right) (by decide +kernel)) rfl rfl (fun _ _ _ _ _ _ _ _ _ _ _ h1 h2 => BindsTo.of_defaults rfl h1 h2 rfl rfl) (fun A2 o2 s2 H2 E2 f2 c2 hg2 hr2 => pe_he fun tr2 OO2 Z2 Er2 fr2 => (de_callP (pe_callG (E := E2) K_size_of (hg2.trans hgd) hr2 (by rfl) T.g_size_of T.F_size_of.kp T.b_size_of .nil passL (da_cons (pa_cons (de_var (pv 1)) (da_nil pa_nil)))))))) (da_cons (pa_cons (de_heard h0 (thd_heard T) (pe_lamD (k := 8) (dn := "_law_a2") (z := 0) (by rfl) T.g__law_heard T.F__law_heard.kp lkh hch bh sc__law_heard rfl (.inl rfl) (heard_gives (cdg := cdv2) T rfl rfl rfl) tB rfl hmT huT (hr.mono (by decide)) (lamD_by (N := ["_law_trellis_here", "_law_value", "_law_due", "_law_before", "_law_spare", "_law_heard_here"]) (sc := defScope s__law_judged_right) (by decide +kernel)) rfl rfl (fun _ _ _ _ _ _ _ _ _ _ _ h1 h2 => BindsTo.of_defaults rfl h1 h2 rfl rfl) (fun A2 o2 s2 H2 E2 f2 c2 hg2 hr2 => pe_he fun tr2 OO2 Z2 Er2 fr2 => (de_callP (pe_callG (E := E2) K_levels_of (hg2.trans hgd) hr2 (by rfl) T.g_levels_of T.F_levels_of.kp T.b_levels_of .nil passL (da_cons (pa_cons (de_var (pv 1)) (da_nil pa_nil)))))))) (da_nil pa_nil))))))))))))
      (dss_cut (pss_cons (ds_set (ps_set (i := 5) sc__law_judged_right.nd rfl (.inl rfl) (de_op D_plusA (pe_op op_plusA (de_var (pv 5)) (de_v (de_fz (de_lst (pe_lst (da_cons (pa_cons (de_heard h0 (thd_heard T) (pe_lamG (k := 8) (by rfl) T.g__law_heard T.F__law_heard.kp lkh hch bh sc__law_heard rfl (.inl rfl) (heard_gives (cdg := cdv2) T rfl rfl rfl) tB rfl hmT huT (hr.mono (by decide)) (LamX.lamS_by (sc := defScope s__law_judged_right) (by decide +kernel)) rfl (fun _ _ _ _ _ => rfl) (fun A2 o2 s2 H2 E2 f2 c2 hg2 hr2 => pe_he fun tr2 OO2 Z2 Er2 fr2 => (de_callP (pe_callG (E := E2) K_names_in (hg2.trans hgd) hr2 (by rfl) T.g_names_in T.F_names_in.kp T.b_names_in .nil passL (da_cons (pa_cons (de_var (pv 1)) (da_nil pa_nil)))))))) (da_cons (pa_cons (de_heard h0 (thd_heard T) (pe_lamD (k := 8) (dn := "_law_a1") (z := 0) (by rfl) T.g__law_heard T.F__law_heard.kp lkh hch bh sc__law_heard rfl (.inl rfl) (heard_gives (cdg := cdv2) T rfl rfl rfl) tB rfl hmT huT (hr.mono (by decide)) (lamD_by (N := ["_law_trellis_here", "_law_value", "_law_due", "_law_before", "_law_spare", "_law_heard_here"]) (sc := defScope s__law_judged_right) (by decide +kernel)) rfl rfl (fun _ _ _ _ _ _ _ _ _ _ _ h1 h2 => BindsTo.of_defaults rfl h1 h2 rfl rfl) (fun A2 o2 s2 H2 E2 f2 c2 hg2 hr2 => pe_he fun tr2 OO2 Z2 Er2 fr2 => (de_callP (pe_callG (E := E2) K_flags_in (hg2.trans hgd) hr2 (by rfl) T.g_flags_in T.F_flags_in.kp T.b_flags_in .nil passL (da_cons (pa_cons (de_var (pv 1)) (da_nil pa_nil)))))))) (da_cons (pa_cons (de_heard h0 (thd_heard T) (pe_lamD (k := 8) (dn := "_law_a2") (z := 0) (by rfl) T.g__law_heard T.F__law_heard.kp lkh hch bh sc__law_heard rfl (.inl rfl) (heard_gives (cdg := cdv2) T rfl rfl rfl) tB rfl hmT huT (hr.mono (by decide)) (lamD_by (N := ["_law_trellis_here", "_law_value", "_law_due", "_law_before", "_law_spare", "_law_heard_here"]) (sc := defScope s__law_judged_right) (by decide +kernel)) rfl rfl (fun _ _ _ _ _ _ _ _ _ _ _ h1 h2 => BindsTo.of_defaults rfl h1 h2 rfl rfl) (fun A2 o2 s2 H2 E2 f2 c2 hg2 hr2 => pe_he fun tr2 OO2 Z2 Er2 fr2 => (de_callP (pe_callG (E := E2) K_places_of (hg2.trans hgd) hr2 (by rfl) T.g_places_of T.F_places_of.kp T.b_places_of .nil passL (da_cons (pa_cons (de_var (pv 1)) (da_nil pa_nil)))))))) (da_nil pa_nil)))))))))))))))
      (dss_cut (pss_cons (ds_set (ps_set (i := 5) sc__law_judged_right.nd rfl (.inl rfl) (de_op D_plusA (pe_op op_plusA (de_var (pv 5)) (de_v (de_fz (de_lst (pe_lst (da_cons (pa_cons (de_heard h0 (thd_heard T) (pe_lamG (k := 8) (by rfl) T.g__law_heard T.F__law_heard.kp lkh hch bh sc__law_heard rfl (.inl rfl) (heard_gives (cdg := cdv2) T rfl rfl rfl) tB rfl hmT huT (hr.mono (by decide)) (LamX.lamS_by (sc := defScope s__law_judged_right) (by decide +kernel)) rfl (fun _ _ _ _ _ => rfl) (fun A2 o2 s2 H2 E2 f2 c2 hg2 hr2 => pe_he fun tr2 OO2 Z2 Er2 fr2 => (de_callP (pe_callG (E := E2) K_put_in (hg2.trans hgd) hr2 (by rfl) T.g_put_in T.F_put_in.kp T.b_put_in .nil passL (da_cons (pa_cons (de_var (pv 1)) (da_cons (pa_cons (de_int pe_int) (da_nil pa_nil)))))))))) (da_cons (pa_cons (de_heard h0 (thd_heard T) (pe_lamD (k := 8) (dn := "_law_a1") (z := 0) (by rfl) T.g__law_heard T.F__law_heard.kp lkh hch bh sc__law_heard rfl (.inl rfl) (heard_gives (cdg := cdv2) T rfl rfl rfl) tB rfl hmT huT (hr.mono (by decide)) (lamD_by (N := ["_law_trellis_here", "_law_value", "_law_due", "_law_before", "_law_spare", "_law_heard_here"]) (sc := defScope s__law_judged_right) (by decide +kernel)) rfl rfl (fun _ _ _ _ _ _ _ _ _ _ _ h1 h2 => BindsTo.of_defaults rfl h1 h2 rfl rfl) (fun A2 o2 s2 H2 E2 f2 c2 hg2 hr2 => pe_he fun tr2 OO2 Z2 Er2 fr2 => (de_callP (pe_callG (E := E2) K_part_at (hg2.trans hgd) hr2 (by rfl) T.g_part_at T.F_part_at.kp T.b_part_at .nil passL (da_cons (pa_cons (de_var (pv 1)) (da_cons (pa_cons (de_int pe_int) (da_nil pa_nil)))))))))) (da_cons (pa_cons (de_heard h0 (thd_heard T) (pe_lamD (k := 8) (dn := "_law_a2") (z := 0) (by rfl) T.g__law_heard T.F__law_heard.kp lkh hch bh sc__law_heard rfl (.inl rfl) (heard_gives (cdg := cdv2) T rfl rfl rfl) tB rfl hmT huT (hr.mono (by decide)) (lamD_by (N := ["_law_trellis_here", "_law_value", "_law_due", "_law_before", "_law_spare", "_law_heard_here"]) (sc := defScope s__law_judged_right) (by decide +kernel)) rfl rfl (fun _ _ _ _ _ _ _ _ _ _ _ h1 h2 => BindsTo.of_defaults rfl h1 h2 rfl rfl) (fun A2 o2 s2 H2 E2 f2 c2 hg2 hr2 => pe_he fun tr2 OO2 Z2 Er2 fr2 => (de_callP (pe_callG (E := E2) K_with_part (hg2.trans hgd) hr2 (by rfl) T.g_with_part T.F_with_part.kp T.b_with_part .nil passL (da_cons (pa_cons (de_var (pv 1)) (da_cons (pa_cons (de_int pe_int) (da_cons (pa_cons (de_var (pv 1)) (da_nil pa_nil)))))))))))) (da_nil pa_nil)))))))))))))))
      (dss_cut (pss_cons (ds_if (ps_if (dt_cmp D_ne (pt_cmpR (op_neA hr.units) (de_var (pv 5)) (de_v (de_op D_rep (pe_op op_repU (de_fz (de_lst (pe_lst (da_cons (pa_cons (de_str pe_str) (da_nil pa_nil)))))) (de_v (de_int pe_int))))) (nomark _)))
        (pss_one (ds_ret (ps_ret (de_bl pe_bl))))
        (dss_nil pss_nil)))
      (pss_one (ds_ret (ps_ret (de_and (pe_and (de_op D_eq (pe_cmpR (op_eqA hr.units) (de_heard h0 (thd_heard T) (pe_lamG (k := 8) (by rfl) T.g__law_heard T.F__law_heard.kp lkh hch bh sc__law_heard rfl (.inl rfl) (heard_gives (cdg := cdv2) T rfl rfl rfl) tB rfl hmT huT (hr.mono (by decide)) (LamX.lamS_by (sc := defScope s__law_judged_right) (by decide +kernel)) rfl (fun _ _ _ _ _ => rfl) (fun A2 o2 s2 H2 E2 f2 c2 hg2 hr2 => pe_he fun tr2 OO2 Z2 Er2 fr2 => (de_callP (pe_callG (E := E2) K_with_part (hg2.trans hgd) hr2 (by rfl) T.g_with_part T.F_with_part.kp T.b_with_part .nil passL (da_cons (pa_cons (de_var (pv 4)) (da_cons (pa_cons (de_fz (de_lst (pe_lst (da_nil pa_nil)))) (da_cons (pa_cons (de_var (pv 1)) (da_nil pa_nil)))))))))))) (de_v (de_str pe_str)) (nomark _))) (pe_one (de_op D_eq (pe_cmpR (op_eqA hr.units) (de_cb D_repr (pe_callB (call_reprD hgd hr.units) (by rfl) T.m_repr (by decide +kernel) (da_one (pa_cons (de_v (de_var (pv 1))) pa_nil)))) (de_v (de_var (pv 3))) (nomark _)))))))))))))))))))))))))) ?_
  rintro a ds n C E ⟨x, rfl, hg, hw, hd, q⟩
  have hw2 : wt x ≤ 1000 := by omega
  obtain ⟨p, g⟩ := py_good x hg
  have g1 := g.dep_
  have g2 := g.len
  have gl : p.shown.length ≤ sizeLine := Nat.le_trans (show p.shown.length ≤ 500000 by omega) (by decide)
  have gd60 : p.depth ≤ 60 := by omega
  have ql : ∀ b c : Bool, ∃ y, toPy (D.lst [D.bl b, D.bl c]) = some y ∧ y.showable = true ∧ y.depth ≤ 60 ∧ y.shown.length ≤ sizeLine ∧ y = .list [.bool b, .bool c] := fun b c => ⟨_, rfl, rfl, by cases b <;> cases c <;> decide +kernel, by cases b <;> cases c <;> decide +kernel, rfl⟩
  walk_at "dl"
  refine ⟨_, rfl, hg, hw2, hd, p, g.py, g.sh, gd60, gl, fun S => S = ⟨[.da (.ob (.ref a)), .da x, .da (oD (kd x)), .da (.str p.shown), .un, .un], n⟩, ⟨_, rfl, hg, hw2, _, rfl, hg, hw2, ?_⟩, ?_⟩
  · have eb : isN (oD (kd x)) = some (!(kd x).isSome) := by cases kd x <;> rfl
    obtain ⟨y, y1, y2, y3, y4, rfl⟩ := ql (kd x).isSome (kd x).isSome
    refine ⟨_, y1, y2, y3, y4, _, eb, _, eb, ?_⟩
    rw [Bool.not_not]
    exact ⟨_, y1, y2, y3, y4, (if_neg (fun h => h rfl)).mpr rfl⟩
  rintro S1 rfl
  walk_at "dl"
  cases hk : kd x with
  | some r =>
    refine ⟨fun _ => False, ⟨false, rfl, fT ?_⟩, fun _ h => h.elim⟩
    obtain ⟨y, y1, y2, y3, y4, rfl⟩ := ql (decide (r = "word")) (decide (r = "word"))
    refine ⟨_, rfl, hg, hw2, ?_⟩
    rw [hk]
    refine ⟨_, rfl, hg, hw2, ?_⟩
    rw [hk]
    refine ⟨_, y1, y2, y3, y4, qe_str.mpr (qe_str.mpr ⟨_, y1, y2, y3, y4, ?_⟩)⟩
    refine (if_pos rfl).mpr ⟨p, g.py, g.sh, gd60, gl, n, Nat.le_refl _, ?_⟩
    rw [decide_eq_true rfl]
    exact q
  | none =>
  refine ⟨fun S => S = ⟨[.da (.ob (.ref a)), .da x, .da .non, .da (.str p.shown), .un, .un], n⟩, ⟨true, rfl, fF rfl⟩, ?_⟩
  rintro S1 rfl
  have hear : ∀ {KK : D → Prop} {R : D → Prop}, R (.str "term") → g_refuses T [x] KK (fun e => ∃ d, erH T e d ∧ R d) := fun h => ⟨_, rfl, hg, hw2, hk, _, ⟨_, rfl, rfl⟩, h⟩
  have hear2 : ∀ {KK : D → Prop} {R : D → Prop} {y : D}, R (.str "term") → g_refuses2 T [x, y] KK (fun e => ∃ d, erH T e d ∧ R d) := fun h => ⟨_, _, rfl, hg, hw2, hk, _, ⟨_, rfl, rfl⟩, h⟩
  have hearw : ∀ {KK : D → Prop} {R : D → Prop}, R (.str "term") → g_is_word T [x] KK (fun e => ∃ d, erH T e d ∧ R d) := fun h => ⟨_, rfl, hg, hw2, by rw [hk]; exact ⟨_, ⟨_, rfl, rfl⟩, h⟩⟩
  have hearp : ∀ {KK : D → Prop} {R : D → Prop} {y z : D}, R (.str "term") → g_with_part T [x, y, z] KK (fun e => ∃ d, erH T e d ∧ R d) := fun h => ⟨_, _, _, rfl, hg, hw2, .inl ⟨hk, _, ⟨_, rfl, rfl⟩, h⟩⟩
  walk_at "dl"
  refine ⟨fun S => S = ⟨[.da (.ob (.ref a)), .da x, .da .non, .da (.str p.shown), .da (.tup [.str "name", .str "x"]), .da (.lst [.str "term", .str "term", .str "term"])], n⟩, hearw (hear (hear rfl)), ?_⟩
  rintro S1 rfl
  walk_at "dl"
  refine ⟨fun S => S = ⟨[.da (.ob (.ref a)), .da x, .da .non, .da (.str p.shown), .da (.tup [.str "name", .str "x"]), .da (.lst [.str "term", .str "term", .str "term", .str "term", .str "term", .str "term"])], n⟩, hear (hear (hear rfl)), ?_⟩
  rintro S1 rfl
  walk_at "dl"
  refine ⟨fun S => S = ⟨[.da (.ob (.ref a)), .da x, .da .non, .da (.str p.shown), .da (.tup [.str "name", .str "x"]), .da (.lst [.str "term", .str "term", .str "term", .str "term", .str "term", .str "term", .str "term", .str "term", .str "term"])], n⟩, hear2 (hear2 (hearp rfl)), ?_⟩
  rintro S1 rfl
  walk_at "dl"
  refine ⟨fun S => S = ⟨[.da (.ob (.ref a)), .da x, .da .non, .da (.str p.shown), .da (.tup [.str "name", .str "x"]), .da (.lst [.str "term", .str "term", .str "term", .str "term", .str "term", .str "term", .str "term", .str "term", .str "term"])], n⟩, ?_, ?_⟩
  · refine dat_iff (neg := true) (bb := true) rfl rfl (by decide +kernel) (by decide +kernel) (by decide +kernel) ⟨_, rfl, ?_⟩
    exact (if_neg (by decide)).mpr rfl
  rintro S1 rfl
  walk_at "dl"
  refine ⟨_, _, _, rfl, by decide +kernel, by decide +kernel, .inr ⟨by decide +kernel, rfl, hg, hw2, hk, _, ⟨_, rfl, rfl⟩, ?_⟩⟩
  refine qe_str.mpr ⟨_, rfl, ?_⟩
  refine (if_pos (by decide +kernel)).mpr ?_
  refine ⟨p, g.py, g.sh, gd60, gl, n, Nat.le_refl _, ?_⟩
  rw [decide_eq_true rfl]
  exact q
end
end K03D
end
section
set_option maxHeartbeats 4000000
namespace K03D
open PySem PySem.Spec PyProof.Rows L2 G1 G2 DL K03 R1 StX
variable [TB]
local macro_rules | `(tactic| walk_at "dl") => `(tactic| simp (decide := true) only [dSlA, dSlO, dRev, dPop, dExt, dDelFrom, dCallH, daStar, dRep, dListZip, dDispN, dVals, dInDic, dGetDic, dInK, dIxK, dKget, dStrI, dSplit, dLeS, dRaiseI, dIsnB, dInSign, lookD, plusA_int, plusA_str, plusA_lst, plusA_tup, dVar, dVw, dC, dOp, dOpL, dUn, dCB, daNil, daCons, daOne, dCallP, dCallT, dTup, dLst, dFz, dSet, dSetO, dDrop, dRet, dRetF, dRetO, dCallTN, dRetN, dNext, dBreak, dCont, dSeq, dCut, dIfS, dFrz, dAsg, dPar, bindT, setsD, slotsT, dItL, dItT, dItS, dRng1, dRng2, dFor, dTst, dTru, dNot, dAnd, dOr, dAndV, dOrV, dNotV, dIfE, dLc, dYes, turnD, wipeD, restG, kp, dI0, dI, dNeg, dIsN, dNotN, dIsB, dLen, dIsi, isiTab, dInt, dAbs, dAll, dAny, dTupOf, dListOf, dNoPart, dPart, dSl, dSlL, dFmt, dJs, dM1, dStarts, dApp, dSetIx, dChain, dZip, dEnum, dSigns, dHeard, hideS, hideL, dLcN, dNbeg, dNend, dNcons, dNset, dNapp, dNpop, dDnew, dDisp1, dRaise, dRepr, dIn, flVs, kT_non, kT_bl, kT_int, kT_str, kT_lst, kT_tup, kT_dic, isN_non, isN_bl, isN_int, isN_str, isN_lst, isN_tup, isN_dic, lenD_lst, lenD_tup, lenD_str, it_lst, it_tup, fl_non, fl_bl, fl_int, fl_str, tru_non, tru_bl, tru_int, tru_lst, tru_tup, plus_int, plus_str, plus_lst, plus_tup, ix_lst, ix_tup', ix_str', qe_str, qn_str, qe_int, qn_int, qe_bl, qn_bl, at_0, at_1, at_2, at_l1, at_l2, at_l3, at_k2, at_k3, inV_nil, inV_cons, eqV_str, eqV_int, eqV_bl, Bool.or_false, Bool.or_true, Bool.true_or, Bool.false_or, Bool.and_true, Bool.and_false, decide_eq_true_eq, Bool.not_eq_true', decide_eq_false_iff_not, eq_self, ne_eq, not_true_eq_false, not_false_eq_true, 
  F1, F2, F3, F4, T1, T2, T3, T4, startD, List.append_nil, List.cons_append, List.nil_append, List.map_cons, List.map_nil, List.length_cons, List.length_nil, List.getElem?_cons_zero, List.getElem?_cons_succ, List.getElem?_nil, List.getD_cons_zero, List.getD_cons_succ, Nat.reduceAdd, Nat.reduceSub, Nat.zero_add, List.replicate, List.replicate_zero, List.replicate_succ, List.set_cons_zero, List.set_cons_succ, List.set_nil,
  exists_eq_left, exists_eq_left', exists_eq_right, exists_eq_right', exists_and_left, Option.some.injEq, Sl.da.injEq, Sl.ow.injEq, D.bl.injEq, D.int.injEq, D.str.injEq, D.tup.injEq, D.lst.injEq, D.ob.injEq, List.cons.injEq, and_true, true_and, and_assoc, if_true, if_false, reduceIte, reduceCtorEq, Bool.false_eq_true, Bool.not_true, Bool.not_false, decide_true, decide_false, false_and, and_false, exists_false, false_or, or_false, Option.bind_some, Option.map_some])

section
variable {P : Program} {w : World} {K : PySem.W.Frag} {mg : Str → Option Value} {base : Heap}
theorem rk__law_listed (T : Txt w K mg) : FnG P w K mg base CX0 (20 + 8) T.f__law_listed T.fd__law_listed ["_law_trellis_here", "_law_value"] (spT K (g__law_listed 20)) := ok__law_listed T 20
theorem rk__law_bent (T : Txt w K mg) : FnG P w K mg base CX0 (20 + 20) T.f__law_bent T.fd__law_bent ["_law_trellis_here", "_law_term"] (spT K (g__law_bent 20)) := ok__law_bent T 20
theorem judged_go {a : Addr} {x : D} {n : Nat} {KK : D → Nat → Prop} {E : Err → Prop} {w0 d0 : Nat} (h : Gd w0 d0 x) (hw : w0 ≤ 900) (hd : d0 < 20) (q : KK (.bl true) n) : g__law_judged_right a [.ob (.ref a), x] n KK E :=
  ⟨_, rfl, h.gd, by have := h.wt_; omega, by have := h.dep_; omega, q⟩
def g__law_many_right : FT := T1 fun n C => ∃ n', n = n' + 2000 ∧ C (.bl true) n'
structure ManyOk (z : Str) (m : Nat) : Prop where
  lab : z ∈ labs
  lf : isLf z = false
  yes : askO z m = some (kW_, List.replicate m kW_)
  no : askO z (m + 1) = none
  few : m ≤ 7
theorem many_call : ManyOk "call f 0" 6 := ⟨by decide +kernel, by decide +kernel, by decide +kernel, by decide +kernel, by decide⟩
theorem many_loop : ManyOk "loop f 0" 7 := ⟨by decide +kernel, by decide +kernel, by decide +kernel, by decide +kernel, by decide⟩
theorem words_gd {ds : List D} (h : ∀ d ∈ ds, Drw "word" 1 d) (hl : ds.length ≤ 8) : gdsB ds = true ∧ wts ds ≤ 112 ∧ deps ds ≤ 2 := by
  refine ⟨gds_of fun d hd => (h d hd).gd, ?_, deps_le ds fun d hd => (h d hd).dep_⟩
  have h1 := wts_le (c := 14) ds fun d hd => (h d hd).wt_
  have : ds.length * 14 ≤ 8 * 14 := Nat.mul_le_mul_right _ hl
  omega
theorem node_gd {z : Str} {ds : List D} (hz : z ∈ labs) (h : ∀ d ∈ ds, Drw "word" 1 d) (hl : ds.length ≤ 8) : Gd 114 3 (.tup (.str z :: ds)) ∧ Gd 114 3 (.lst (.str z :: ds)) := by
  obtain ⟨h1, h2, h3⟩ := words_gd h hl
  have a1 : gdsB (.str z :: ds) = true := by
    show (decide (z ∈ labs) && gdsB ds) = true
    rw [h1, decide_eq_true hz]
    rfl
  have a2 : wts (.str z :: ds) + 1 ≤ 114 := by
    show (1 + wts ds) + 1 ≤ 114
    omega
  have a3 : deps (.str z :: ds) + 1 ≤ 3 := by
    show max 0 (deps ds) + 1 ≤ 3
    omega
  exact ⟨⟨a1, a2, a3⟩, ⟨a1, a2, a3⟩⟩
theorem many_step {a : Addr} {z : Str} {m : Nat} (o : ManyOk z m) {rest : List D} {s1 s2 s3 : Sl} {t M : Nat} {e : DN} {E : Err → Prop} (ht : M + 400 ≤ t)
    (q : ∀ s1 s2 s3 t', M ≤ t' → forD (Tg.tp [1, 2]) (dSeq
      (dSet 3
        (dFz
          (dLc (dRng1 (daCons (dOp dPlusA (dVar 2) (dC (D.int 1))) daNil)) (Tg.nm 4) dYes
            (dCallT (g__law_drawn 10) a
              (daCons (dVar 0) (daCons (dC (D.str (Str.ofString "word"))) (daCons (dC (D.int 1)) daNil)))))))
      (dSeq
        (dIfS
          (dOr
            (dNot
              (dTst
                (dCallT g__law_judged_right a
                  (daCons (dVar 0)
                    (daCons
                      (dOp dPlusA (dTup (daCons (dVar 1) daNil))
                        (dCB dTupOf (daOne (dSlA (dVar 3) dNoPart (dPart (dVar 2))))))
                      daNil)))))
            (dNot
              (dTst
                (dCallT g__law_judged_right a
                  (daCons (dVar 0) (daCons (dOp dPlusA (dFz (dLst (daCons (dVar 1) daNil))) (dVar 3)) daNil))))))
          (dRet (dC (D.bl false))) dNext)
        (dIfS
          (dOr
            (dTst
              (dOp dIsnB
                (dCallP g_is_term
                  (daCons
                    (dOp dPlusA (dTup (daCons (dVar 1) daNil))
                      (dCB dTupOf (daOne (dSlA (dVar 3) (dPart (dC (D.int 1))) dNoPart))))
                    daNil))
                (dC (D.bl true))))
            (dTst
              (dOp dIsnB
                (dCallP g_is_term
                  (daCons (dOp dPlusA (dTup (daCons (dVar 1) daNil)) (dCB dTupOf (daOne (dVar 3)))) daNil))
                (dC (D.bl false)))))
          (dRet (dC (D.bl false))) dNext))) rest ⟨[.da (.ob (.ref a)), s1, s2, s3, .un], t'⟩ e E) :
    forD (Tg.tp [1, 2]) (dSeq
      (dSet 3
        (dFz
          (dLc (dRng1 (daCons (dOp dPlusA (dVar 2) (dC (D.int 1))) daNil)) (Tg.nm 4) dYes
            (dCallT (g__law_drawn 10) a
              (daCons (dVar 0) (daCons (dC (D.str (Str.ofString "word"))) (daCons (dC (D.int 1)) daNil)))))))
      (dSeq
        (dIfS
          (dOr
            (dNot
              (dTst
                (dCallT g__law_judged_right a
                  (daCons (dVar 0)
                    (daCons
                      (dOp dPlusA (dTup (daCons (dVar 1) daNil))
                        (dCB dTupOf (daOne (dSlA (dVar 3) dNoPart (dPart (dVar 2))))))
                      daNil)))))
            (dNot
              (dTst
                (dCallT g__law_judged_right a
                  (daCons (dVar 0) (daCons (dOp dPlusA (dFz (dLst (daCons (dVar 1) daNil))) (dVar 3)) daNil))))))
          (dRet (dC (D.bl false))) dNext)
        (dIfS
          (dOr
            (dTst
              (dOp dIsnB
                (dCallP g_is_term
                  (daCons
                    (dOp dPlusA (dTup (daCons (dVar 1) daNil))
                      (dCB dTupOf (daOne (dSlA (dVar 3) (dPart (dC (D.int 1))) dNoPart))))
                    daNil))
                (dC (D.bl true))))
            (dTst
              (dOp dIsnB
                (dCallP g_is_term
                  (daCons (dOp dPlusA (dTup (daCons (dVar 1) daNil)) (dCB dTupOf (daOne (dVar 3)))) daNil))
                (dC (D.bl false)))))
          (dRet (dC (D.bl false))) dNext))) (.tup [.str z, .int (m : Nat)] :: rest) ⟨[.da (.ob (.ref a)), s1, s2, s3, .un], t⟩ e E := by
  have hm := o.few
  unfold forD
  walk_at "dl"
  rw [show ((m : Int) + 1).toNat = m + 1 by omega]
  refine ⟨by omega, by omega, by unfold rngD; rw [List.length_map, List.length_range]; exact small (by omega), ?_⟩
  refine lcD_rel (fun i : Nat => .int (0 + (i : Int))) (fun _ d => Drw "word" 1 d) 50 M (List.range (m + 1)) [] t (by rw [List.length_range]; omega) (fun i _ n1 Kt hn1 hkt => ?_) fun ds n' h1 h2 => ?_
  · unfold turnD
    walk_at "dl"
    exact ⟨_, _, rfl, "word", 1, n1 - 50, rfl, .inl rfl, rfl, by decide, by show n1 = n1 - 50 + 50; omega, fun d hd => hkt d (n1 - 50) (by omega) hd⟩
  have hl : ds.length = m + 1 := by rw [h2.len, List.length_range]
  have hds : ∀ d ∈ ds, Drw "word" 1 d := rel_all h2 fun _ _ h => h
  rw [List.nil_append]
  have ht : ∀ d ∈ ds.take m, Drw "word" 1 d := fun d hd => hds d (List.mem_of_mem_take hd)
  have hr : ∀ d ∈ ds.drop 1, Drw "word" 1 d := fun d hd => hds d (List.mem_of_mem_drop hd)
  have lt_ : (ds.take m).length = m := by rw [List.length_take]; omega
  have lr : (ds.drop 1).length = m := by rw [List.length_drop]; omega
  walk_at "dl"
  rw [cut_take]
  have ec : DL.cutD ds (some 1) none = ds.drop 1 := cut_from ds 1
  rw [ec]
  have k1 : kd (.tup (.str z :: ds.drop 1)) = some kW_ := kd_node o.lf (by rw [lr]; exact o.yes) (by rw [List.length_replicate, lr]) (by
    have := oks_rep (ds.drop 1) fun d hd => (hr d hd).kd_
    rw [lr] at this
    exact this)
  have k2 : kd (.tup (.str z :: ds)) = none := by
    rw [kd_form (.inr rfl)]
    unfold formL
    have lf := o.lf
    unfold isLf at lf
    cases e : lookT leafT z with
    | some r => rw [e] at lf; cases lf
    | none =>
      show (match (match askO z ds.length with | none => none | some p => if p.2.length = ds.length then some p else none) with | none => (none : Option Str) | some p => if oks ds p.2 = true then some p.1 else none) = _
      rw [hl, o.no]
  have g1 := (node_gd o.lab ht (by omega)).1
  have g2 := (node_gd o.lab hds (by omega)).2
  have g3 := (node_gd o.lab hr (by omega)).1
  have g4 := (node_gd o.lab hds (by omega)).1
  refine ⟨small (by omega), judged_go g1 (by decide) (by decide) ⟨true, rfl, fF ⟨small (by omega), judged_go g2 (by decide) (by decide) ⟨true, rfl, fF ⟨small (by omega), ?_⟩⟩⟩⟩⟩
  refine ⟨_, rfl, g3.gd, by have := g3.wt_; omega, true, by rw [k1]; rfl, (if_neg (by decide)).mpr ⟨small (by omega), ?_⟩⟩
  refine ⟨_, rfl, g4.gd, by have := g4.wt_; omega, false, by rw [k2]; rfl, (if_neg (by decide)).mpr ?_⟩
  exact q _ _ _ _ h1
theorem ok__law_many_right (T : Txt w K mg) {PT : Addr} (tB : LamX.TabB base mg T.cR PT) (hT : (TB.T : List (Addr × Str)) = [(PT, ("_law_judged_right.<locals>.<lambda>" : Str))]) : FnG P w K mg base CX0 32 T.f__law_many_right T.fd__law_many_right ["_law_trellis_here"] (spTL K g__law_many_right) := by
  have K__law_drawn := rk__law_drawn (P := P) (w := w) (base := base) T
  have K__law_judged_right := ok__law_judged_right (P := P) (w := w) (base := base) T tB hT
  have K_is_term := ok_is_term (P := P) (w := w) (base := base) T
  refine fnTL T.F__law_many_right rfl sc__law_many_right T1_len (fun a c O0 H0 h0 Er A outer s H E hgd hr =>
      (dss_cons (pss_cons (ds_for (tg := (.tp [1, 2])) (ps_for PassesOwn.never rfl (di_seq (pi_seqA (de_tup (pe_tup (da_cons (pa_cons (de_tup (pe_tup (da_cons (pa_cons (de_str pe_str) (da_cons (pa_cons (de_int pe_int) (da_nil pa_nil))))))) (da_cons (pa_cons (de_tup (pe_tup (da_cons (pa_cons (de_str pe_str) (da_cons (pa_cons (de_int pe_int) (da_nil pa_nil))))))) (da_nil pa_nil))))))))) (pg_tup rfl (pgs_cons (pg_name (i := 1) sc__law_many_right.nd rfl (.inl rfl)) (pgs_cons (pg_name (i := 2) sc__law_many_right.nd rfl (.inl rfl)) pgs_nil)))
        (dss_cons (pss_cons (ds_lc (tg := (.nm 4)) (ps_setLc (i := 3) (own := [("_law_turn", 4)]) (by rfl) sc__law_many_right.nd rfl rfl (sw_true rfl rfl rfl (by decide +kernel)) (di_rng1 (pi_range1 (by rfl) T.m_range (da_cons (pa_cons (de_op D_plusA (pe_op op_plusA (de_var (pv 2)) (de_v (de_int pe_int)))) (da_nil pa_nil))))) (blkOk_by (own := [("_law_turn", 4)]) (N := ["_law_trellis_here", "_law_label", "_law_many", "_law_parts", "_law_turn"]) (sc := defScope s__law_many_right) (by decide +kernel)) (fun _ _ _ _ _ => (pg_name (i := 4) sc__law_many_right.nd rfl (Or.inl rfl))) (fun _ _ _ _ _ => (dts_yes pts_nil)) (fun _ _ _ _ _ => (de_callT rfl (pe_callG K__law_drawn hgd (hr.mono (by decide)) (by rfl) T.g__law_drawn T.F__law_drawn.kp T.b__law_drawn .nil pass0 (da_cons (pa_cons (de_var (pv 0)) (da_cons (pa_cons (de_str pe_str) (da_cons (pa_cons (de_int pe_int) (da_nil pa_nil))))))))))))
        (dss_cons (pss_cons (ds_if (ps_if (PW.pt (dw_or (pw_or (dt_not (pt_not (dt_val (pt_val (de_callTL h0 rfl (pe_callG K__law_judged_right hgd (hr.mono (by decide)) (by rfl) T.g__law_judged_right T.F__law_judged_right.kp T.b__law_judged_right .nil pass0 (da_cons (pa_cons (de_var (pv 0)) (da_cons (pa_cons (de_op D_plusA (pe_op op_plusA (de_tup (pe_tup (da_cons (pa_cons (de_var (pv 1)) (da_nil pa_nil))))) (de_v (de_cb D_tupOf (pe_callTy call_tuple_of (by rfl) T.m_tuple (by decide +kernel) (da_one (pa_cons (de_v (de_slA (pe_slice sl_all (de_var (pv 3)) (do_none po_none) (do_some (po_some (de_var (pv 2))))))) pa_nil))))))) (da_nil pa_nil))))))))))) (pw_or1 (dt_not (pt_not (dt_val (pt_val (de_callTL h0 rfl (pe_callG K__law_judged_right hgd (hr.mono (by decide)) (by rfl) T.g__law_judged_right T.F__law_judged_right.kp T.b__law_judged_right .nil pass0 (da_cons (pa_cons (de_var (pv 0)) (da_cons (pa_cons (de_op D_plusA (pe_op op_plusA (de_fz (de_lst (pe_lst (da_cons (pa_cons (de_var (pv 1)) (da_nil pa_nil)))))) (de_v (de_var (pv 3))))) (da_nil pa_nil)))))))))))))))
          (pss_one (ds_ret (ps_ret (de_bl pe_bl))))
          (dss_nil pss_nil)))
        (pss_one (ds_if (ps_if (PW.pt (dw_or (pw_or (dt_cmp D_isnB (pt_cmpR op_notBl (de_callP (pe_callG K_is_term hgd (hr.mono (by decide)) (by rfl) T.g_is_term T.F_is_term.kp T.b_is_term .nil pass0 (da_cons (pa_cons (de_op D_plusA (pe_op op_plusA (de_tup (pe_tup (da_cons (pa_cons (de_var (pv 1)) (da_nil pa_nil))))) (de_v (de_cb D_tupOf (pe_callTy call_tuple_of (by rfl) T.m_tuple (by decide +kernel) (da_one (pa_cons (de_v (de_slA (pe_slice sl_all (de_var (pv 3)) (do_some (po_some (de_int pe_int))) (do_none po_none)))) pa_nil))))))) (da_nil pa_nil))))) (de_v (de_bl pe_bl)) (nomark _))) (pw_or1 (dt_cmp D_isnB (pt_cmpR op_notBl (de_callP (pe_callG K_is_term hgd (hr.mono (by decide)) (by rfl) T.g_is_term T.F_is_term.kp T.b_is_term .nil pass0 (da_cons (pa_cons (de_op D_plusA (pe_op op_plusA (de_tup (pe_tup (da_cons (pa_cons (de_var (pv 1)) (da_nil pa_nil))))) (de_v (de_cb D_tupOf (pe_callTy call_tuple_of (by rfl) T.m_tuple (by decide +kernel) (da_one (pa_cons (de_v (de_var (pv 3))) pa_nil))))))) (da_nil pa_nil))))) (de_v (de_bl pe_bl)) (nomark _)))))))
          (pss_one (ds_ret (ps_ret (de_bl pe_bl))))
          (dss_nil pss_nil))))))))))
      (pss_one (ds_ret (ps_ret (de_bl pe_bl))))))) ?_
  rintro a ds n C E ⟨rfl, n', rfl, q⟩
  walk_at "dl"
  refine many_step many_call (M := n' + 1000) (by omega) fun s1 s2 s3 t ht => many_step many_loop (M := n') (by omega) fun s1 s2 s3 t' ht' => ?_
  unfold forD
  exact ⟨n', ht', q⟩
end
end K03D
end
section
set_option maxHeartbeats 4000000
namespace K03D
open PySem PySem.Spec PyProof.Rows L2 G1 G2 DL K03 R1 StX
variable [TB]
local macro_rules | `(tactic| walk_at "dl") => `(tactic| simp (decide := true) only [dSlA, dSlO, dRev, dPop, dExt, dDelFrom, dCallH, daStar, dRep, dListZip, dDispN, dVals, dInDic, dGetDic, dInK, dIxK, dKget, dStrI, dSplit, dLeS, dRaiseI, dIsnB, dInSign, lookD, plusA_int, plusA_str, plusA_lst, plusA_tup, dVar, dVw, dC, dOp, dOpL, dUn, dCB, daNil, daCons, daOne, dCallP, dCallT, dTup, dLst, dFz, dSet, dSetO, dDrop, dRet, dRetF, dRetO, dCallTN, dRetN, dNext, dBreak, dCont, dSeq, dCut, dIfS, dFrz, dAsg, dPar, bindT, setsD, slotsT, dItL, dItT, dItS, dRng1, dRng2, dFor, dTst, dTru, dNot, dAnd, dOr, dAndV, dOrV, dNotV, dIfE, dLc, dYes, turnD, wipeD, restG, kp, dI0, dI, dNeg, dIsN, dNotN, dIsB, dLen, dIsi, isiTab, dInt, dAbs, dAll, dAny, dTupOf, dListOf, dNoPart, dPart, dSl, dSlL, dFmt, dJs, dM1, dStarts, dApp, dSetIx, dChain, dZip, dEnum, dSigns, dHeard, hideS, hideL, dLcN, dNbeg, dNend, dNcons, dNset, dNapp, dNpop, dDnew, dDisp1, dRaise, dRepr, dIn, flVs, kT_non, kT_bl, kT_int, kT_str, kT_lst, kT_tup, kT_dic, isN_non, isN_bl, isN_int, isN_str, isN_lst, isN_tup, isN_dic, lenD_lst, lenD_tup, lenD_str, it_lst, it_tup, fl_non, fl_bl, fl_int, fl_str, tru_non, tru_bl, tru_int, tru_lst, tru_tup, plus_int, plus_str, plus_lst, plus_tup, ix_lst, ix_tup', ix_str', qe_str, qn_str, qe_int, qn_int, qe_bl, qn_bl, at_0, at_1, at_2, at_l1, at_l2, at_l3, at_k2, at_k3, inV_nil, inV_cons, eqV_str, eqV_int, eqV_bl, Bool.or_false, Bool.or_true, Bool.true_or, Bool.false_or, Bool.and_true, Bool.and_false, decide_eq_true_eq, Bool.not_eq_true', decide_eq_false_iff_not, eq_self, ne_eq, not_true_eq_false, not_false_eq_true, 
  F1, F2, F3, F4, T1, T2, T3, T4, startD, List.append_nil, List.cons_append, List.nil_append, List.map_cons, List.map_nil, List.length_cons, List.length_nil, List.getElem?_cons_zero, List.getElem?_cons_succ, List.getElem?_nil, List.getD_cons_zero, List.getD_cons_succ, Nat.reduceAdd, Nat.reduceSub, Nat.zero_add, List.replicate, List.replicate_zero, List.replicate_succ, List.set_cons_zero, List.set_cons_succ, List.set_nil,
  exists_eq_left, exists_eq_left', exists_eq_right, exists_eq_right', exists_and_left, Option.some.injEq, Sl.da.injEq, Sl.ow.injEq, D.bl.injEq, D.int.injEq, D.str.injEq, D.tup.injEq, D.lst.injEq, D.ob.injEq, List.cons.injEq, and_true, true_and, and_assoc, if_true, if_false, reduceIte, reduceCtorEq, Bool.false_eq_true, Bool.not_true, Bool.not_false, decide_true, decide_false, false_and, and_false, exists_false, false_or, or_false, Option.bind_some, Option.map_some])

section
variable {P : Program} {w : World} {K : PySem.W.Frag} {mg : Str → Option Value} {base : Heap}
theorem dn_mono : ∀ r : Nat, r < 4 → dn r ≤ 850 ∧ wd r ≤ 234 := by decide
theorem listed_go {a : Addr} {x : D} {n M : Nat} {KK : D → Nat → Prop} {E : Err → Prop} {w0 d0 : Nat} (h : Gd w0 d0 x) (hw : w0 ≤ 900) (hd : d0 < 20) (hn : M + w0 ≤ n) (q : ∀ d n', Gd w0 d0 d → M ≤ n' → KK d n') : g__law_listed 20 a [.ob (.ref a), x] n KK E := by
  have h1 := h.wt_
  have h2 := h.dep_
  exact ⟨_, rfl, n - wt x, h.gd, by omega, by omega, by omega, fun d hd => q d _ ⟨hd.gd, by rw [hd.wt_]; exact h1, by rw [hd.dep_]; exact h2⟩ (by omega)⟩
theorem bent_go {a : Addr} {x : D} {n M : Nat} {KK : D → Nat → Prop} {E : Err → Prop} {w0 d0 : Nat} (h : Gd w0 d0 x) (hw : w0 ≤ 900) (hd : d0 < 20) (hn : M + 100 ≤ n) (q : ∀ d n', Gd (w0 + 14) (d0 + 2) d → M ≤ n' → KK d n') : g__law_bent 20 a [.ob (.ref a), x] n KK E := by
  have h1 := h.wt_
  have h2 := h.dep_
  exact ⟨_, rfl, n - 100, 900, h.gd, by omega, by omega, by omega, by decide, by omega, fun d hd => q d _ ⟨hd.gd, by have := hd.wt_; omega, by have := hd.dep_; omega⟩ (by omega)⟩
theorem turn_step {p : Addr} {x : D} {rest : List D} {s2 s3 : Sl} {t M : Nat} {e : DN} {E : Err → Prop} (ht : M + 3000 ≤ t)
    (q : ∀ s2 s3 t', M ≤ t' → forD (Tg.nm 2) (dSeq
                  (dSet 3
                    (dCallT (g__law_drawn 10) p
                      (daCons (dVar 1)
                        (daCons
                          (dCallT g__law_one_of p
                            (daCons (dVar 1)
                              (daCons
                                (dFz
                                  (dLst
                                    (daCons (dC (D.str (Str.ofString "word")))
                                      (daCons (dC (D.str (Str.ofString "truth"))) daNil))))
                                daNil)))
                          (daCons (dCallT g__law_vine p (daCons (dVar 1) (daCons (dC (D.int 4)) daNil))) daNil)))))
                  (dSeq
                    (dIfS
                      (dOr
                        (dNot
                          (dTst
                            (dCallT g__law_judged_right p
                              (daCons (dVar 1)
                                (daCons (dCallT (g__law_listed 20) p (daCons (dVar 1) (daCons (dVar 3) daNil)))
                                  daNil)))))
                        (dNot
                          (dTst
                            (dCallT g__law_judged_right p
                              (daCons (dVar 1)
                                (daCons (dCallT (g__law_bent 20) p (daCons (dVar 1) (daCons (dVar 3) daNil)))
                                  daNil))))))
                      (dRet (dC (D.bl false))) dNext)
                    (dIfS
                      (dNot
                        (dTst
                          (dCallT g__law_judged_right p
                            (daCons (dVar 1)
                              (daCons
                                (dCallT (g__law_listed 20) p
                                  (daCons (dVar 1)
                                    (daCons
                                      (dCallT (g__law_bent 20) p
                                        (daCons (dVar 1)
                                          (daCons
                                            (dCallT (g__law_bent 20) p
                                              (daCons (dVar 1)
                                                (daCons
                                                  (dTup
                                                    (daCons (dC (D.str (Str.ofString "add")))
                                                      (daCons (dVar 3) (daCons (dVar 3) daNil))))
                                                  daNil)))
                                            daNil)))
                                      daNil)))
                                daNil)))))
                      (dRet (dC (D.bl false))) dNext))) rest ⟨[.un, .da (.ob (.ref p)), s2, s3], t'⟩ e E) :
    forD (Tg.nm 2) (dSeq
                  (dSet 3
                    (dCallT (g__law_drawn 10) p
                      (daCons (dVar 1)
                        (daCons
                          (dCallT g__law_one_of p
                            (daCons (dVar 1)
                              (daCons
                                (dFz
                                  (dLst
                                    (daCons (dC (D.str (Str.ofString "word")))
                                      (daCons (dC (D.str (Str.ofString "truth"))) daNil))))
                                daNil)))
                          (daCons (dCallT g__law_vine p (daCons (dVar 1) (daCons (dC (D.int 4)) daNil))) daNil)))))
                  (dSeq
                    (dIfS
                      (dOr
                        (dNot
                          (dTst
                            (dCallT g__law_judged_right p
                              (daCons (dVar 1)
                                (daCons (dCallT (g__law_listed 20) p (daCons (dVar 1) (daCons (dVar 3) daNil)))
                                  daNil)))))
                        (dNot
                          (dTst
                            (dCallT g__law_judged_right p
                              (daCons (dVar 1)
                                (daCons (dCallT (g__law_bent 20) p (daCons (dVar 1) (daCons (dVar 3) daNil)))
                                  daNil))))))
                      (dRet (dC (D.bl false))) dNext)
                    (dIfS
                      (dNot
                        (dTst
                          (dCallT g__law_judged_right p
                            (daCons (dVar 1)
                              (daCons
                                (dCallT (g__law_listed 20) p
                                  (daCons (dVar 1)
                                    (daCons
                                      (dCallT (g__law_bent 20) p
                                        (daCons (dVar 1)
                                          (daCons
                                            (dCallT (g__law_bent 20) p
                                              (daCons (dVar 1)
                                                (daCons
                                                  (dTup
                                                    (daCons (dC (D.str (Str.ofString "add")))
                                                      (daCons (dVar 3) (daCons (dVar 3) daNil))))
                                                  daNil)))
                                            daNil)))
                                      daNil)))
                                daNil)))))
                      (dRet (dC (D.bl false))) dNext))) (x :: rest) ⟨[.un, .da (.ob (.ref p)), s2, s3], t⟩ e E := by
  unfold forD
  walk_at "dl"
  obtain ⟨s, rfl⟩ : ∃ s, t = s + 2 := ⟨t - 2, by omega⟩
  refine one_go (Nat.succ_pos _) (Nat.le_of_ble_eq_true rfl) fun k0 hk0 => vine_go (by decide) (by decide) fun r r0 r1 => ?_
  obtain ⟨k, rfl, hk⟩ : ∃ k, k0 = .str k ∧ two k := by
    simp only [List.mem_cons, List.not_mem_nil, or_false] at hk0
    rcases hk0 with rfl | rfl
    · exact ⟨_, rfl, .inl rfl⟩
    · exact ⟨_, rfl, .inr rfl⟩
  obtain ⟨i, rfl⟩ : ∃ i : Nat, r = i := ⟨r.toNat, by omega⟩
  obtain ⟨dn1, wd1⟩ := dn_mono i (by omega)
  refine ⟨_, _, rfl, k, i, s - dn i, rfl, hk, rfl, by omega, by omega, fun d hd => ?_⟩
  have gd0 : Gd 234 4 d := ⟨hd.gd, Nat.le_trans hd.wt_ wd1, by have := hd.dep_; omega⟩
  have ga : Gd 470 5 (.tup [.str "add", d, d]) := by
    refine ⟨?_, ?_, ?_⟩
    · show (decide (("add" : Str) ∈ labs) && (gdB d && (gdB d && true))) = true
      rw [gd0.gd, decide_eq_true (by decide +kernel)]
      rfl
    · have := gd0.wt_
      show (1 + (wt d + (wt d + 0))) + 1 ≤ 470
      omega
    · have := gd0.dep_
      show max 0 (max (dep d) (max (dep d) 0)) + 1 ≤ 5
      omega
  refine listed_go (M := M + 1800) gd0 (by decide) (by decide) (by omega) fun d1 n1 h1 hn1 => judged_go h1 (by decide) (by decide) ⟨true, rfl, fF ?_⟩
  refine bent_go (M := M + 1700) gd0 (by decide) (by decide) (by omega) fun d2 n2 h2 hn2 => judged_go h2 (by decide) (by decide) ⟨true, rfl, fF ?_⟩
  refine bent_go (M := M + 1500) ga (by decide) (by decide) (by omega) fun d3 n3 h3 hn3 => bent_go (M := M + 1300) h3 (by decide) (by decide) (by omega) fun d4 n4 h4 hn4 => ?_
  refine listed_go (M := M) h4 (by decide) (by decide) (by omega) fun d5 n5 h5 hn5 => judged_go h5 (by decide) (by decide) ⟨true, rfl, fF ?_⟩
  exact q _ _ _ hn5
def sp_law (K : PySem.W.Frag) : Sp := S1 fun x H Q => ∃ (l : Addr) (ns : List Int), x = .ref l ∧ SqL K H l (ns.map V.int) ∧ ns.length ≤ 1000 ∧ LamX.Tabs TB.T H ∧ ∀ H1, Q (.bl true) H1
theorem ok_law (T : Txt w K mg) {PT : Addr} (tB : LamX.TabB base mg T.cR PT) (hT : (TB.T : List (Addr × Str)) = [(PT, ("_law_judged_right.<locals>.<lambda>" : Str))]) : FnG P w K mg base CX0 43 T.f_law T.fd_law ["_law_script"] (sp_law K) := by
  have K__law_trellis := K03.ok__law_trellis (P := P) (w := w) (base := base) T
  have K__law_vine := dk__law_vine (P := P) (w := w) (base := base) T
  have K__law_one_of := dk__law_one_of (P := P) (w := w) (base := base) T
  have K__law_drawn := rk__law_drawn (P := P) (w := w) (base := base) T
  have K__law_listed := rk__law_listed (P := P) (w := w) (base := base) T
  have K__law_bent := rk__law_bent (P := P) (w := w) (base := base) T
  have K__law_odd := ok__law_odd (P := P) (w := w) (base := base) T
  have K__law_judged_right := ok__law_judged_right (P := P) (w := w) (base := base) T tB hT
  have K__law_many_right := ok__law_many_right (P := P) (w := w) (base := base) T tB hT
  refine okG T.F_law sc_law S1_len (fun cdv A outer s H vs Q E hgd hr h => ?_)
  obtain ⟨v0, rfl, h⟩ := h
  refine ⟨_, pss_cons (ps_set (i := 1) sc_law.nd rfl (.inl rfl) (pe_callG K__law_trellis hgd (hr.mono (by decide)) (by rfl) T.g__law_trellis T.F__law_trellis.kp T.b__law_trellis .nil pass0 (pa_cons (pv 0) pa_nil)))
    (law_rest (K := K) (E := E) fun a c O0 H0 Er h0 =>
      (dss_cut (pss_cons (ds_if (ps_if (PW.pt (dw_and (pw_and (dt_cmp D_eq (pt_cmpR (op_eqA hr.units) (de_callT rfl (pe_callG K__law_vine hgd (hr.mono (by decide)) (by rfl) T.g__law_vine T.F__law_vine.kp T.b__law_vine .nil pass0 (da_cons (pa_cons (de_var (pv 1)) (da_cons (pa_cons (de_int pe_int) (da_nil pa_nil))))))) (de_v (de_int pe_int)) (nomark _))) (pw_and1 (dt_not (pt_not (dt_val (pt_val (de_callTL h0 rfl (pe_callG K__law_many_right hgd (hr.mono (by decide)) (by rfl) T.g__law_many_right T.F__law_many_right.kp T.b__law_many_right .nil pass0 (da_cons (pa_cons (de_var (pv 1)) (da_nil pa_nil)))))))))))))
        (pss_one (ds_ret (ps_ret (de_bl pe_bl))))
        (dss_nil pss_nil)))
      (dss_cut (pss_cons (ds_for (tg := (.nm 2)) (ps_for PassesOwn.never rfl (di_rng1 (pi_range1 (by rfl) T.m_range (da_cons (pa_cons (de_int pe_int) (da_nil pa_nil))))) (pg_name (i := 2) sc_law.nd rfl (.inl rfl))
        (dss_cons (pss_cons (ds_set (ps_set (i := 3) sc_law.nd rfl (.inl rfl) (de_callT rfl (pe_callG K__law_drawn hgd (hr.mono (by decide)) (by rfl) T.g__law_drawn T.F__law_drawn.kp T.b__law_drawn .nil pass0 (da_cons (pa_cons (de_var (pv 1)) (da_cons (pa_cons (de_callT rfl (pe_callG K__law_one_of hgd (hr.mono (by decide)) (by rfl) T.g__law_one_of T.F__law_one_of.kp T.b__law_one_of .nil pass0 (da_cons (pa_cons (de_var (pv 1)) (da_cons (pa_cons (de_fz (de_lst (pe_lst (da_cons (pa_cons (de_str pe_str) (da_cons (pa_cons (de_str pe_str) (da_nil pa_nil)))))))) (da_nil pa_nil))))))) (da_cons (pa_cons (de_callT rfl (pe_callG K__law_vine hgd (hr.mono (by decide)) (by rfl) T.g__law_vine T.F__law_vine.kp T.b__law_vine .nil pass0 (da_cons (pa_cons (de_var (pv 1)) (da_cons (pa_cons (de_int pe_int) (da_nil pa_nil))))))) (da_nil pa_nil)))))))))))
        (dss_cons (pss_cons (ds_if (ps_if (PW.pt (dw_or (pw_or (dt_not (pt_not (dt_val (pt_val (de_callTL h0 rfl (pe_callG K__law_judged_right hgd (hr.mono (by decide)) (by rfl) T.g__law_judged_right T.F__law_judged_right.kp T.b__law_judged_right .nil pass0 (da_cons (pa_cons (de_var (pv 1)) (da_cons (pa_cons (de_callT rfl (pe_callG K__law_listed hgd (hr.mono (by decide)) (by rfl) T.g__law_listed T.F__law_listed.kp T.b__law_listed .nil pass0 (da_cons (pa_cons (de_var (pv 1)) (da_cons (pa_cons (de_var (pv 3)) (da_nil pa_nil))))))) (da_nil pa_nil))))))))))) (pw_or1 (dt_not (pt_not (dt_val (pt_val (de_callTL h0 rfl (pe_callG K__law_judged_right hgd (hr.mono (by decide)) (by rfl) T.g__law_judged_right T.F__law_judged_right.kp T.b__law_judged_right .nil pass0 (da_cons (pa_cons (de_var (pv 1)) (da_cons (pa_cons (de_callT rfl (pe_callG K__law_bent hgd (hr.mono (by decide)) (by rfl) T.g__law_bent T.F__law_bent.kp T.b__law_bent .nil pass0 (da_cons (pa_cons (de_var (pv 1)) (da_cons (pa_cons (de_var (pv 3)) (da_nil pa_nil))))))) (da_nil pa_nil)))))))))))))))
          (pss_one (ds_ret (ps_ret (de_bl pe_bl))))
          (dss_nil pss_nil)))
        (pss_one (ds_if (ps_if (dt_not (pt_not (dt_val (pt_val (de_callTL h0 rfl (pe_callG K__law_judged_right hgd (hr.mono (by decide)) (by rfl) T.g__law_judged_right T.F__law_judged_right.kp T.b__law_judged_right .nil pass0 (da_cons (pa_cons (de_var (pv 1)) (da_cons (pa_cons (de_callT rfl (pe_callG K__law_listed hgd (hr.mono (by decide)) (by rfl) T.g__law_listed T.F__law_listed.kp T.b__law_listed .nil pass0 (da_cons (pa_cons (de_var (pv 1)) (da_cons (pa_cons (de_callT rfl (pe_callG K__law_bent hgd (hr.mono (by decide)) (by rfl) T.g__law_bent T.F__law_bent.kp T.b__law_bent .nil pass0 (da_cons (pa_cons (de_var (pv 1)) (da_cons (pa_cons (de_callT rfl (pe_callG K__law_bent hgd (hr.mono (by decide)) (by rfl) T.g__law_bent T.F__law_bent.kp T.b__law_bent .nil pass0 (da_cons (pa_cons (de_var (pv 1)) (da_cons (pa_cons (de_tup (pe_tup (da_cons (pa_cons (de_str pe_str) (da_cons (pa_cons (de_var (pv 3)) (da_cons (pa_cons (de_var (pv 3)) (da_nil pa_nil))))))))) (da_nil pa_nil))))))) (da_nil pa_nil))))))) (da_nil pa_nil))))))) (da_nil pa_nil)))))))))))
          (pss_one (ds_ret (ps_ret (de_bl pe_bl))))
          (dss_nil pss_nil))))))))))
      (pss_one (ds_ret (ps_ret (de_callTL h0 rfl (pe_callG K__law_judged_right hgd (hr.mono (by decide)) (by rfl) T.g__law_judged_right T.F__law_judged_right.kp T.b__law_judged_right .nil pass0 (da_cons (pa_cons (de_var (pv 1)) (da_cons (pa_cons (de_callT rfl (pe_callG K__law_odd hgd (hr.mono (by decide)) (by rfl) T.g__law_odd T.F__law_odd.kp T.b__law_odd .nil pass0 (da_cons (pa_cons (de_var (pv 1)) (da_nil pa_nil))))) (da_nil pa_nil))))))))))))))), ?_⟩
  obtain ⟨l, ns, rfl, hl, hn, tb, q⟩ := h
  refine ⟨_, rfl, _, rfl, l, ns, rfl, hl, hn, fun p H1 sm ⟨c, ms, hp, hc, nc, hm⟩ => ?_⟩
  have tb1 := tabs_same sm tb
  refine ⟨p, c, DL.setO (fun _ => none) p (some 0), H1, fun _ => False, tb1, _, _, ⟨fun _ => False, fun d _ => d = .bl true, fun _ => False, fun _ => False⟩, ctx_tray (l := l) (n := 1000000) (m := 2) (t := 0) (r := 0) nc hp hc hm (by decide) (by decide) (by decide) (fun _ _ _ _ _ _ _ z => z.elim), ?_, fun _ _ _ _ _ _ z => z.elim, fun d S' σ' v O' H' c' r _ e => ?_, fun _ _ _ _ _ _ z => z, fun _ _ _ _ _ _ z => z⟩
  · walk_at "dl"
    refine ⟨fun S => ∃ t, 900000 ≤ t ∧ S = ⟨[Sl.un, Sl.da (D.ob (V.ref p)), Sl.un, Sl.un], t⟩, ?_, ?_⟩
    · refine vine_go (n' := 999999) (by decide) (by decide) fun r r0 r1 => qe_int.mpr ⟨_, rfl, ?_⟩
      split
      · exact ⟨rfl, 997999, rfl, true, rfl, fF ⟨997999, by decide, rfl⟩⟩
      · exact ⟨999999, by decide, rfl⟩
    rintro S1 ⟨t, ht, rfl⟩
    refine ⟨fun S => ∃ t s2 s3, 800000 ≤ t ∧ S = ⟨[Sl.un, Sl.da (D.ob (V.ref p)), s2, s3], t⟩, ?_, ?_⟩
    · rw [show rngD 0 (Int.toNat 4) = [.int 0, .int 1, .int 2, .int 3] from rfl]
      refine turn_step (M := 890000) (by omega) fun s2 s3 t1 h1 => turn_step (M := 880000) (by omega) fun s2 s3 t2 h2 => turn_step (M := 870000) (by omega) fun s2 s3 t3 h3 => turn_step (M := 860000) (by omega) fun s2 s3 t4 h4 => ?_
      unfold forD
      exact ⟨t4, s2, s3, by omega, rfl⟩
    rintro S1 ⟨t, s2, s3, ht, rfl⟩
    obtain ⟨t', rfl⟩ : ∃ t', t = t' + 2 := ⟨t - 2, by omega⟩
    exact ⟨_, rfl, _, rfl, odd_go fun d hd => judged_go hd (by decide) (by decide) rfl⟩
  · subst e
    cases r
    exact q H'
end
end K03D
end
section
set_option maxHeartbeats 4000000
/-! the end: the law's promise, asked by the caller, where no repr is under way; one table of lambdas -/
namespace G1
open PySem PySem.Spec PyProof.Rows L2 LamX
theorem call_lawGT {P : Program} {w : World} {K : PySem.W.Frag} {mg mb : Str → Option Value} {k : Nat} {fa a c0 PT : Addr}
    {fd : FuncData} {x : Str} {sp : Sp} {s : Shared} {vs : List Value} {ns : List Int}
    (hK : K.In s.heap) (h1 : s.heap.Ns mainGlobals mg) (h2 : s.heap.Ns builtinsNs mb)
    (h3 : ∀ z : Str, z ≠ "__name__" → mb z = bootBuiltins z) (h4 : s.heap.NoLimit) (h5 : s.gens = #[])
    (tab : s.heap.get? PT = some { cls := .none, data := .fields #[] }) (free : K.lookup PT = none) (hd : PySem.W.CodeHd s.heap c0 PT)
    (hbm : ∃ (bm : Addr) (ob : Obj), mg "__builtins__" = some (.ref bm) ∧ bm ≠ builtinsNs ∧ s.heap.get? bm = some ob ∧ ob.cls = .type "module" ∧ ob.dict = some builtinsNs ∧ ob.data = .plain)
    (obj : s.heap.get? a = some { cls := .type "list", data := .seq vs.toArray })
    (are : IntsAre vs ns) (few : ns.length ≤ sizeLine) (room : Room k callerA)
    (F : ∀ base : Heap, TabB base mg c0 PT → FnG P w K mg base CX0 k fa fd [x] sp)
    (bnd : ∀ (s : Shared) (u : Value), BindsTo s fd ⟨[u], []⟩ [(x, u)])
    (promise : ∀ H : Hp, H PT = some (.tbl #[]) → SqL K H a (ns.map V.int) → sp [.ref a] H (fun v _ => v = .bl true) fun _ _ _ => False) :
    codeAny (model P w) callerA (.call (.ref fa) ⟨[.ref a], []⟩)
      (fun r s2 => r = .ok (.ret (.bool true)) ∧ OldK s.heap s2.heap ∧ s2.os = s.os ∧ AllBare s2.gens) s := by
  have rel := vals_ints are
  have len := are.length
  have apart : a ≠ PT := fun z => by
    rw [z, tab] at obj
    have q := congrArg Obj.data (Option.some.inj obj)
    cases (show Data.fields #[] = Data.seq vs.toArray _ from q)
  -- what is tracked: the table, and the script if it is none of the module's own
  obtain ⟨u0, hu0⟩ : ∃ u0 : Option HO, (u0 = none ∧ ∃ o, K.lookup a = some o) ∨ (u0 = some (.frz { cls := .type "list", data := .seq vs.toArray } (.lst (ns.map V.int))) ∧ K.lookup a = none) := by
    cases e : K.lookup a with
    | some o => exact ⟨_, .inl ⟨rfl, o, rfl⟩⟩
    | none => exact ⟨_, .inr ⟨rfl, rfl⟩⟩
  obtain ⟨H, HA, HP, HN⟩ : ∃ H : Hp, H a = u0 ∧ H PT = some (.tbl #[]) ∧ ∀ b, b ≠ a → b ≠ PT → H b = none :=
    ⟨fun b => if b = a then u0 else if b = PT then some (.tbl #[]) else none, if_pos rfl, (if_neg (fun z => apart z.symm)).trans (if_pos rfl), fun b n1 n2 => (if_neg n1).trans (if_neg n2)⟩
  have seq : SqL K H a (ns.map V.int) := by
    rcases hu0 with ⟨_, o, e⟩ | ⟨e, _⟩
    · have same := hK a o e
      rw [obj] at same
      cases same
      refine .inr ⟨_, vs.toArray, _, e, rfl, rfl, rfl, ?_, ?_⟩
      · rw [List.size_toArray, len]
        exact few
      · simpa using rel
    · exact .inl (.inr ⟨_, by rw [HA, e]⟩)
  have only : ∀ b, H b ≠ none → b = a ∨ b = PT := fun b hb => by
    by_cases n1 : b = a
    · exact .inl n1
    · by_cases n2 : b = PT
      · exact .inr n2
      · exact absurd (HN b n1 n2) hb
  have mine : H a ≠ none → K.lookup a = none := fun z => by
    rcases hu0 with ⟨e, _⟩ | ⟨_, e⟩
    · exact absurd (HA.trans e) z
    · exact e
  have kinds : ∀ b u, H b = some u → (b = PT ∧ u = .tbl #[]) ∨ (b = a ∧ u = .frz { cls := .type "list", data := .seq vs.toArray } (.lst (ns.map V.int))) := fun b u e => by
    rcases only b (by rw [e]; exact fun z => nomatch z) with rfl | rfl
    · rcases hu0 with ⟨e2, _⟩ | ⟨e2, _⟩
      · rw [HA, e2] at e
        cases e
      · rw [HA, e2] at e
        exact .inr ⟨rfl, (Option.some.inj e).symm⟩
    · rw [HP] at e
      exact .inl ⟨rfl, (Option.some.inj e).symm⟩
  have ok : HOk P w H s.heap := fun b u e => by
    rcases kinds b u e with ⟨rfl, rfl⟩ | ⟨rfl, rfl⟩
    · exact tab
    · exact ⟨obj, by rw [List.length_map]; exact few, vs, _, rel, obj⟩
  have other : ∀ {b : Addr} {o : Obj}, s.heap.get? b = some o → (∀ vs n, o.data ≠ .seq vs n) → o.data ≠ .fields #[] → H b = none := fun {b o} e n1 n2 => by
    cases q : H b with
    | none => rfl
    | some u =>
      rcases kinds b u q with ⟨rfl, _⟩ | ⟨rfl, _⟩
      · rw [tab] at e
        cases e
        exact absurd rfl n2
      · rw [obj] at e
        cases e
        exact absurd rfl (n1 _ _)
  have keepG : ∀ {b : Addr} {o : Obj}, s.heap.get? b = some o → (∀ vs n, o.data ≠ .seq vs n) → o.data ≠ .fields #[] → (hidT s.heap H).get? b = some o := fun e n1 n2 => hidT_get e (other e n1 n2)
  have ns' : ∀ {b : Addr} {m : Str → Option Value}, s.heap.Ns b m → (hidT s.heap H).Ns b m := by
    rintro b m ⟨o, es, n, e, d, r⟩
    exact ⟨o, es, n, keepG e (fun vs n z => by rw [d] at z; cases z) (fun z => by rw [d] at z; cases z), d, r⟩
  have hK' : K.In (hidT s.heap H) := fun b o e => by
    refine hidT_get (hK b o e) ?_
    cases q : H b with
    | none => rfl
    | some u =>
      rcases only b (by rw [q]; exact fun z => nomatch z) with rfl | rfl
      · rw [mine (by rw [q]; exact fun z => nomatch z)] at e
        cases e
      · rw [free] at e
        cases e
  have md : Mod K mg (hidT s.heap H) := by
    refine ⟨hK', ns' h1, ⟨mb, ns' h2, h3⟩, ?_⟩
    obtain ⟨mc, c1, c2⟩ := h4
    exact ⟨mc, ns' c1, c2⟩
  have tB : TabB (hidT s.heap H) mg c0 PT := by
    refine ⟨?_, ?_, fun z => ?_⟩
    · obtain ⟨o, us, file, tf, flags, tg, inF, text, tt, e1, r1, r2, r3, rest⟩ := hd
      refine ⟨o, us, file, tf, flags, tg, inF, text, tt, keepG e1 (fun vs n z => by rw [r2] at z; cases z) (fun z => ?_), r1, r2, r3, rest⟩
      rw [r2] at z
      cases z
      simp at r3
    · obtain ⟨bm, ob, b1, b2, b3, b4, b5, b6⟩ := hbm
      refine ⟨bm, ob, b1, b2, fun z => ?_, fun z => ?_, keepG b3 (fun vs n z => by rw [b6] at z; cases z) (fun z => by rw [b6] at z; cases z), b4, b5, b6⟩
      · obtain ⟨o, es, n, e, d, _⟩ := h1
        rw [z, e] at b3
        cases b3
        rw [d] at b6
        cases b6
      · rw [z, tab] at b3
        cases b3
        cases b6
    · obtain ⟨o, es, n, e, d, _⟩ := h1
      rw [z, tab] at e
      cases e
      cases d
  have e0 : Env0 P w K mg (hidT s.heap H) callerA [] s H :=
    ⟨rfl, md, fun b o e => of_hidT e, Nat.le_of_eq (hidT_size _ _), trivial, fun b hb => (nomatch hb), ok, .of_eq h5⟩
  have run := (F (hidT s.heap H) tB).go callerA [] s H ⟨[.ref a], []⟩ [.ref a] [.ref a] _ _ rfl room e0 (bnd s (.ref a)) (.cons rfl .nil) (promise H HP seq)
  refine codeAny_mono run fun r s2 h => ?_
  match r, h with
  | .error e, h => exact (show False from h).elim
  | .ok .next, h => exact (show False from h).elim
  | .ok .brk, h => exact (show False from h).elim
  | .ok .cont, h => exact (show False from h).elim
  | .ok (.ret u), h =>
    obtain ⟨v, H2, os, bare, un, ok2, rv, q⟩ := h
    obtain rfl : v = .bl true := q
    obtain rfl : u = Value.bool true := rv
    have key : ∀ b o, b ≠ PT → s.heap.get? b = some o → s2.heap.get? b = some o := fun b o nb e => by
      cases q : H b with
      | none => exact un.keep b o e q (fun z => (nomatch z)) (fun z => nomatch z)
      | some u =>
        rcases kinds b u q with ⟨z, _⟩ | ⟨_, rfl⟩
        · exact absurd z nb
        · have z2 := un.frzs b _ _ q
          obtain ⟨g1, _⟩ := ok b _ q
          obtain ⟨g2, _⟩ := ok2 b _ z2
          rw [e] at g1
          cases g1
          exact g2
    obtain ⟨more, hm⟩ := un.tbls PT #[] HP
    have grown := ok2 PT _ hm
    refine ⟨rfl, ⟨fun b o e => ?_, fun b o e => ?_⟩, os, bare⟩
    · by_cases hb : b = PT
      · subst hb
        rw [tab] at e
        cases e
        exact .inr (.inl ⟨(hd.tab tab).isCodeTable, rfl, #[], more, rfl, by rw [Array.empty_append] at grown ⊢; exact grown⟩)
      · exact .inl (key b o hb e)
    · by_cases hb : b = PT
      · subst hb
        exact ⟨_, grown⟩
      · exact ⟨o, key b o hb e⟩
end G1
end
section
set_option maxHeartbeats 4000000
namespace G1
open PySem PySem.Spec PyProof.Rows L2 LamX
def LawAtG (l : PySem.W.OpenLaw) (w : World) (K : PySem.W.Frag) (k n : Nat) (x : Str) (mg : Str → Option Value) (h : Heap) (fa : Addr) : Prop :=
  ∃ (fd : FuncData) (c0 PT : Addr) (sp : Sp), h.get? PT = some { cls := .none, data := .fields #[] } ∧ K.lookup PT = none ∧ PySem.W.CodeHd h c0 PT ∧ (∀ (s : Shared) (u : Value), BindsTo s fd ⟨[u], []⟩ [(x, u)]) ∧
    (∀ (H : Hp) (a : Addr) (ns : List Int), ns.length ≤ n → H PT = some (.tbl #[]) → SqL K H a (ns.map V.int) → sp [.ref a] H (fun v _ => v = .bl true) fun _ _ _ => False) ∧
    ∀ base : Heap, TabB base mg c0 PT → FnG l.prog w K mg base CX0 k fa fd [x] sp
theorem walk_GT {l : PySem.W.OpenLaw} {n k : Nat} {q : Program} {loose : List Str} {XP : (Str → Option Value) → Heap → Prop}
    {YP : World → Heap → Prop} {d : DefRec} {K : Params → PySem.W.Frag} {x : Str}
    (hn : l.most = some n) (hn2 : n ≤ sizeLine) (hdf : d.params.defaults = []) (room : Room k callerA)
    (hY : ∀ (w : World) (h : Heap), YP w h → (K w.params).In h)
    (F : ∀ (w : World) (mg : Str → Option Value) (fa : Addr) (h : Heap), YP w h → (K w.params).In h → h.Ns mainGlobals mg →
      mg d.name = some (.ref fa) → LawAtG l w (K w.params) k n x mg h fa) :
    PySem.W.WalkO q loose XP YP l.row.toRowW d [] (fun f vs => PySem.call f vs) := by
  refine Att.attach_callB hn hdf fun w s0 s1 mg mb fa o pm cd doc a vs ns G Y ho hd hcd hmg hobj hints hlen _ hg => ?_
  have KX := hY w _ Y
  obtain ⟨fd, c0, PT, sp, p1, p2, p3, hb, hsp, hF⟩ := F w mg fa _ Y KX G.T.g hmg
  exact call_lawGT KX G.T.g G.T.b G.T.builtins G.T.nolimit hg p1 p2 p3 G.T.bmain hobj hints (Nat.le_trans hlen hn2) room hF hb fun H hH hS => hsp H a ns hlen hH hS
end G1
namespace K03
open PySem PySem.Spec PyProof.Rows L2 G1 G2 LamX DL
theorem kb_mk1 {K : PySem.W.Frag} {fd : FuncData} {x : Str} (h : ∀ (s : Shared) (a : Value), BindsTo s fd ⟨[], [(x, a)]⟩ [(x, a)]) : KBinds K fd [x] [x] onlyK onlyK := by
  refine ⟨fun s us ws _ hl => ?_, fun r rz => onlyK_rel r rz⟩
  cases us with
  | nil =>
    match ws, hl with
    | [a], _ => exact h s a
  | cons u r => cases hl
/-! ### the tables -/
def tupOf (K : PySem.W.Frag) : Value → Option (List Value)
  | .ref a => match K.lookup a with
    | some ⟨.type c, _, .seq its _, _⟩ => if c = "tuple" then some its.toList else none
    | _ => none
  | _ => none
theorem tupOf_some {K : PySem.W.Frag} {a : Addr} {r : List Value} (h : tupOf K (.ref a) = some r) : ∃ (o : Obj) (its : Array Value) (n : Nat), K.lookup a = some o ∧ o.cls = .type "tuple" ∧ o.data = .seq its n ∧ its.toList = r := by
  unfold tupOf at h
  cases e : K.lookup a with
  | none => simp [e] at h
  | some o =>
    obtain ⟨oc, od, dt, sl⟩ := o
    simp only [e] at h
    split at h
    · rename_i c d its n s q
      cases q
      split at h
      · rename_i hc
        cases h
        exact ⟨_, _, _, rfl, by rw [hc], rfl, rfl⟩
      · cases h
    · cases h
mutual
def repB (K : PySem.W.Frag) : D → Value → Bool
  | .str x, v => match v with
    | .str y _ => decide (x = y)
    | _ => false
  | .tup ds, v => match tupOf K v with
    | some r => decide (r.length ≤ 1000) && repsB K ds r
    | none => false
  | _, _ => false
def repsB (K : PySem.W.Frag) : List D → List Value → Bool
  | [], vs => vs.isEmpty
  | d :: ds, vs => match vs with
    | v :: vs => repB K d v && repsB K ds vs
    | [] => false
end
theorem tupOf_ref {K : PySem.W.Frag} {v : Value} {r : List Value} (h : tupOf K v = some r) : ∃ a, v = .ref a := by
  cases v <;> first | exact ⟨_, rfl⟩ | cases h
mutual
theorem rep_of {K : PySem.W.Frag} : ∀ (d : D) (v : Value), repB K d v = true → ∃ u : V, RelV u v ∧ ∀ O H, Rep K O H d u
  | .str x, v, h => by
    cases v with
    | str y t =>
      obtain rfl : x = y := of_decide_eq_true h
      exact ⟨.str x, ⟨t, rfl⟩, fun _ _ => rfl⟩
    | _ => cases h
  | .tup ds, v, h => by
    unfold repB at h
    split at h
    · rename_i r e
      rw [Bool.and_eq_true] at h
      obtain ⟨us, hv, hr⟩ := reps_of ds r h.2
      obtain ⟨a, rfl⟩ := tupOf_ref e
      obtain ⟨o, its, n, l1, l2, l3, l4⟩ := tupOf_some e
      have hs : its.size ≤ sizeLine := by
        rw [← Array.length_toList, l4]
        exact Nat.le_trans (of_decide_eq_true h.1) (by decide)
      refine ⟨.ref a, rfl, fun O H => ⟨a, us, rfl, .inr ⟨o, its, n, l1, l2, l3, hs, ?_⟩, hr O H⟩⟩
      rw [l4]
      exact hv
    · cases h
  | .non, _, h => by cases h
  | .bl _, _, h => by cases h
  | .int _, _, h => by cases h
  | .lst _, _, h => by cases h
  | .dic _ _, _, h => by cases h
  | .ob _, _, h => by cases h
theorem reps_of {K : PySem.W.Frag} : ∀ (ds : List D) (vs : List Value), repsB K ds vs = true → ∃ us : List V, Vals us vs ∧ ∀ O H, Reps K O H ds us
  | [], vs, h => by
    cases vs with
    | nil => exact ⟨[], .nil, fun _ _ => rfl⟩
    | cons _ _ => cases h
  | d :: ds, [], h => by cases h
  | d :: ds, v :: vs, h => by
    have h : (repB K d v && repsB K ds vs) = true := h
    rw [Bool.and_eq_true] at h
    obtain ⟨u, h1, h2⟩ := rep_of d v h.1
    obtain ⟨us, h3, h4⟩ := reps_of ds vs h.2
    exact ⟨u :: us, .cons h1 h3, fun O H => ⟨u, us, rfl, h2 O H, h4 O H⟩⟩
end
def tabB (K : PySem.W.Frag) (a : Addr) (tab : Str → Option D) (z : Str) : Bool := match tab z with
  | some d => match PySem.W.nsIn K a z with
    | some (some u) => repB K d u
    | _ => false
  | none => match PySem.W.nsIn K a z with
    | some none => true
    | _ => false
theorem tab_of {K : PySem.W.Frag} {a : Addr} {tab : Str → Option D} {keys : List Str} (h : keys.all (tabB K a tab) = true) : ∀ z ∈ keys, match tab z with
    | some d => ∃ u v, PySem.W.nsIn K a z = some (some u) ∧ RelV v u ∧ ∀ O H, Rep K O H d v
    | none => PySem.W.nsIn K a z = some none := by
  intro z hz
  have h1 := List.all_eq_true.mp h z hz
  unfold tabB at h1
  cases e : tab z with
  | none =>
    rw [e] at h1
    simp only [] at h1 ⊢
    split at h1
    · assumption
    · cases h1
  | some d =>
    rw [e] at h1
    simp only [] at h1 ⊢
    split at h1
    · rename_i u e2
      obtain ⟨v, h2, h3⟩ := rep_of d u h1
      exact ⟨u, v, e2, h2, h3⟩
    · cases h1
/-! ### the facts of the top, gathered -/
theorem all_mk {l : PySem.W.OpenLaw} {w : World} {K : PySem.W.Frag} {h : Heap} {mg : Str → Option Value} {fa : Addr} (X : K.In h) (G : h.Ns mainGlobals mg) (hfa : mg "law" = some (.ref fa))
    {f0 : Addr} {o0 e0 p0 q0 r0 c0 : Value} {x0 y0 : Option Addr} {z0 : Array (Option Value)}
    (a0 : PySem.W.nsIn K mainGlobals "is_integer" = some (some (.ref f0)))
    (l0 : K.lookup f0 = some ⟨o0, x0, .func (PySem.W.fnOf "is_integer" "is_integer" (defArgs s_is_integer) (defBody s_is_integer) (defScope s_is_integer) .none e0 p0 q0 y0 r0 c0), z0⟩)
    (d0 : PySem.W.codeIn K r0 "is_integer" = true) (k0 : PySem.W.keepIn K (.ref f0) = true)
    {f1 : Addr} {o1 e1 p1 q1 r1 c1 : Value} {x1 y1 : Option Addr} {z1 : Array (Option Value)}
    (a1 : PySem.W.nsIn K mainGlobals "is_within" = some (some (.ref f1)))
    (l1 : K.lookup f1 = some ⟨o1, x1, .func (PySem.W.fnOf "is_within" "is_within" (defArgs s_is_within) (defBody s_is_within) (defScope s_is_within) .none e1 p1 q1 y1 r1 c1), z1⟩)
    (d1 : PySem.W.codeIn K r1 "is_within" = true) (k1 : PySem.W.keepIn K (.ref f1) = true)
    {f2 : Addr} {o2 e2 p2 q2 r2 c2 : Value} {x2 y2 : Option Addr} {z2 : Array (Option Value)}
    (a2 : PySem.W.nsIn K mainGlobals "is_list" = some (some (.ref f2)))
    (l2 : K.lookup f2 = some ⟨o2, x2, .func (PySem.W.fnOf "is_list" "is_list" (defArgs s_is_list) (defBody s_is_list) (defScope s_is_list) .none e2 p2 q2 y2 r2 c2), z2⟩)
    (d2 : PySem.W.codeIn K r2 "is_list" = true) (k2 : PySem.W.keepIn K (.ref f2) = true)
    {f3 : Addr} {o3 e3 p3 q3 r3 c3 : Value} {x3 y3 : Option Addr} {z3 : Array (Option Value)}
    (a3 : PySem.W.nsIn K mainGlobals "are_integers" = some (some (.ref f3)))
    (l3 : K.lookup f3 = some ⟨o3, x3, .func (PySem.W.fnOf "are_integers" "are_integers" (defArgs s_are_integers) (defBody s_are_integers) (defScope s_are_integers) .none e3 p3 q3 y3 r3 c3), z3⟩)
    (d3 : PySem.W.codeIn K r3 "are_integers" = true) (k3 : PySem.W.keepIn K (.ref f3) = true)
    {f4 : Addr} {o4 e4 p4 q4 r4 c4 : Value} {x4 y4 : Option Addr} {z4 : Array (Option Value)}
    (a4 : PySem.W.nsIn K mainGlobals "_in_tuples" = some (some (.ref f4)))
    (l4 : K.lookup f4 = some ⟨o4, x4, .func (PySem.W.fnOf "_in_tuples" "_in_tuples" (defArgs s__in_tuples) (defBody s__in_tuples) (defScope s__in_tuples) .none e4 p4 q4 y4 r4 c4), z4⟩)
    (d4 : PySem.W.codeIn K r4 "_in_tuples" = true) (k4 : PySem.W.keepIn K (.ref f4) = true)
    {f5 : Addr} {o5 e5 p5 q5 r5 c5 : Value} {x5 y5 : Option Addr} {z5 : Array (Option Value)}
    (a5 : PySem.W.nsIn K mainGlobals "_shown" = some (some (.ref f5)))
    (l5 : K.lookup f5 = some ⟨o5, x5, .func (PySem.W.fnOf "_shown" "_shown" (defArgs s__shown) (defBody s__shown) (defScope s__shown) .none e5 p5 q5 y5 r5 c5), z5⟩)
    (d5 : PySem.W.codeIn K r5 "_shown" = true) (k5 : PySem.W.keepIn K (.ref f5) = true)
    {f6 : Addr} {o6 e6 p6 q6 r6 c6 : Value} {x6 y6 : Option Addr} {z6 : Array (Option Value)}
    (a6 : PySem.W.nsIn K mainGlobals "is_spelling" = some (some (.ref f6)))
    (l6 : K.lookup f6 = some ⟨o6, x6, .func (PySem.W.fnOf "is_spelling" "is_spelling" (defArgs s_is_spelling) (defBody s_is_spelling) (defScope s_is_spelling) .none e6 p6 q6 y6 r6 c6), z6⟩)
    (d6 : PySem.W.codeIn K r6 "is_spelling" = true) (k6 : PySem.W.keepIn K (.ref f6) = true)
    {f7 : Addr} {o7 e7 p7 q7 r7 c7 : Value} {x7 y7 : Option Addr} {z7 : Array (Option Value)}
    (a7 : PySem.W.nsIn K mainGlobals "is_name" = some (some (.ref f7)))
    (l7 : K.lookup f7 = some ⟨o7, x7, .func (PySem.W.fnOf "is_name" "is_name" (defArgs s_is_name) (defBody s_is_name) (defScope s_is_name) .none e7 p7 q7 y7 r7 c7), z7⟩)
    (d7 : PySem.W.codeIn K r7 "is_name" = true) (k7 : PySem.W.keepIn K (.ref f7) = true)
    {f8 : Addr} {o8 e8 p8 q8 r8 c8 : Value} {x8 y8 : Option Addr} {z8 : Array (Option Value)}
    (a8 : PySem.W.nsIn K mainGlobals "integer_of" = some (some (.ref f8)))
    (l8 : K.lookup f8 = some ⟨o8, x8, .func (PySem.W.fnOf "integer_of" "integer_of" (defArgs s_integer_of) (defBody s_integer_of) (defScope s_integer_of) .none e8 p8 q8 y8 r8 c8), z8⟩)
    (d8 : PySem.W.codeIn K r8 "integer_of" = true) (k8 : PySem.W.keepIn K (.ref f8) = true)
    {f9 : Addr} {o9 e9 p9 q9 r9 c9 : Value} {x9 y9 : Option Addr} {z9 : Array (Option Value)}
    (a9 : PySem.W.nsIn K mainGlobals "shift_of" = some (some (.ref f9)))
    (l9 : K.lookup f9 = some ⟨o9, x9, .func (PySem.W.fnOf "shift_of" "shift_of" (defArgs s_shift_of) (defBody s_shift_of) (defScope s_shift_of) .none e9 p9 q9 y9 r9 c9), z9⟩)
    (d9 : PySem.W.codeIn K r9 "shift_of" = true) (k9 : PySem.W.keepIn K (.ref f9) = true)
    {f10 : Addr} {o10 e10 p10 q10 r10 c10 : Value} {x10 y10 : Option Addr} {z10 : Array (Option Value)}
    (a10 : PySem.W.nsIn K mainGlobals "called" = some (some (.ref f10)))
    (l10 : K.lookup f10 = some ⟨o10, x10, .func (PySem.W.fnOf "called" "called" (defArgs s_called) (defBody s_called) (defScope s_called) .none e10 p10 q10 y10 r10 c10), z10⟩)
    (d10 : PySem.W.codeIn K r10 "called" = true) (k10 : PySem.W.keepIn K (.ref f10) = true)
    {f11 : Addr} {o11 e11 p11 q11 r11 c11 : Value} {x11 y11 : Option Addr} {z11 : Array (Option Value)}
    (a11 : PySem.W.nsIn K mainGlobals "ended" = some (some (.ref f11)))
    (l11 : K.lookup f11 = some ⟨o11, x11, .func (PySem.W.fnOf "ended" "ended" (defArgs s_ended) (defBody s_ended) (defScope s_ended) .none e11 p11 q11 y11 r11 c11), z11⟩)
    (d11 : PySem.W.codeIn K r11 "ended" = true) (k11 : PySem.W.keepIn K (.ref f11) = true)
    {f12 : Addr} {o12 e12 p12 q12 r12 c12 : Value} {x12 y12 : Option Addr} {z12 : Array (Option Value)}
    (a12 : PySem.W.nsIn K mainGlobals "bottom_up" = some (some (.ref f12)))
    (l12 : K.lookup f12 = some ⟨o12, x12, .func (PySem.W.fnOf "bottom_up" "bottom_up" (defArgs s_bottom_up) (defBody s_bottom_up) (defScope s_bottom_up) .none e12 p12 q12 y12 r12 c12), z12⟩)
    (d12 : PySem.W.codeIn K r12 "bottom_up" = true) (k12 : PySem.W.keepIn K (.ref f12) = true)
    {f13 : Addr} {o13 e13 p13 q13 r13 c13 : Value} {x13 y13 : Option Addr} {z13 : Array (Option Value)}
    (a13 : PySem.W.nsIn K mainGlobals "shape_of" = some (some (.ref f13)))
    (l13 : K.lookup f13 = some ⟨o13, x13, .func (PySem.W.fnOf "shape_of" "shape_of" (defArgs s_shape_of) (defBody s_shape_of) (defScope s_shape_of) .none e13 p13 q13 y13 r13 c13), z13⟩)
    (d13 : PySem.W.codeIn K r13 "shape_of" = true) (k13 : PySem.W.keepIn K (.ref f13) = true)
    {f14 : Addr} {o14 e14 p14 q14 r14 c14 : Value} {x14 y14 : Option Addr} {z14 : Array (Option Value)}
    (a14 : PySem.W.nsIn K mainGlobals "is_number" = some (some (.ref f14)))
    (l14 : K.lookup f14 = some ⟨o14, x14, .func (PySem.W.fnOf "is_number" "is_number" (defArgs s_is_number) (defBody s_is_number) (defScope s_is_number) .none e14 p14 q14 y14 r14 c14), z14⟩)
    (d14 : PySem.W.codeIn K r14 "is_number" = true) (k14 : PySem.W.keepIn K (.ref f14) = true)
    {f15 : Addr} {o15 e15 p15 q15 r15 c15 : Value} {x15 y15 : Option Addr} {z15 : Array (Option Value)}
    (a15 : PySem.W.nsIn K mainGlobals "is_leaf" = some (some (.ref f15)))
    (l15 : K.lookup f15 = some ⟨o15, x15, .func (PySem.W.fnOf "is_leaf" "is_leaf" (defArgs s_is_leaf) (defBody s_is_leaf) (defScope s_is_leaf) .none e15 p15 q15 y15 r15 c15), z15⟩)
    (d15 : PySem.W.codeIn K r15 "is_leaf" = true) (k15 : PySem.W.keepIn K (.ref f15) = true)
    {f16 : Addr} {o16 e16 p16 q16 r16 c16 : Value} {x16 y16 : Option Addr} {z16 : Array (Option Value)}
    (a16 : PySem.W.nsIn K mainGlobals "parts_of" = some (some (.ref f16)))
    (l16 : K.lookup f16 = some ⟨o16, x16, .func (PySem.W.fnOf "parts_of" "parts_of" (defArgs s_parts_of) (defBody s_parts_of) (defScope s_parts_of) .none e16 p16 q16 y16 r16 c16), z16⟩)
    (d16 : PySem.W.codeIn K r16 "parts_of" = true) (k16 : PySem.W.keepIn K (.ref f16) = true)
    {f17 : Addr} {o17 e17 p17 q17 r17 c17 : Value} {x17 y17 : Option Addr} {z17 : Array (Option Value)}
    (a17 : PySem.W.nsIn K mainGlobals "kind_of" = some (some (.ref f17)))
    (l17 : K.lookup f17 = some ⟨o17, x17, .func (PySem.W.fnOf "kind_of" "kind_of" (defArgs s_kind_of) (defBody s_kind_of) (defScope s_kind_of) .none e17 p17 q17 y17 r17 c17), z17⟩)
    (d17 : PySem.W.codeIn K r17 "kind_of" = true) (k17 : PySem.W.keepIn K (.ref f17) = true)
    {f18 : Addr} {o18 e18 p18 q18 r18 c18 : Value} {x18 y18 : Option Addr} {z18 : Array (Option Value)}
    (a18 : PySem.W.nsIn K mainGlobals "term_of" = some (some (.ref f18)))
    (l18 : K.lookup f18 = some ⟨o18, x18, .func (PySem.W.fnOf "term_of" "term_of" (defArgs s_term_of) (defBody s_term_of) (defScope s_term_of) .none e18 p18 q18 y18 r18 c18), z18⟩)
    (d18 : PySem.W.codeIn K r18 "term_of" = true) (k18 : PySem.W.keepIn K (.ref f18) = true)
    {f19 : Addr} {o19 e19 p19 q19 r19 c19 : Value} {x19 y19 : Option Addr} {z19 : Array (Option Value)}
    (a19 : PySem.W.nsIn K mainGlobals "_form_of" = some (some (.ref f19)))
    (l19 : K.lookup f19 = some ⟨o19, x19, .func (PySem.W.fnOf "_form_of" "_form_of" (defArgs s__form_of) (defBody s__form_of) (defScope s__form_of) .none e19 p19 q19 y19 r19 c19), z19⟩)
    (d19 : PySem.W.codeIn K r19 "_form_of" = true) (k19 : PySem.W.keepIn K (.ref f19) = true)
    {f20 : Addr} {o20 e20 p20 q20 r20 c20 : Value} {x20 y20 : Option Addr} {z20 : Array (Option Value)}
    (a20 : PySem.W.nsIn K mainGlobals "_is_right_leaf" = some (some (.ref f20)))
    (l20 : K.lookup f20 = some ⟨o20, x20, .func (PySem.W.fnOf "_is_right_leaf" "_is_right_leaf" (defArgs s__is_right_leaf) (defBody s__is_right_leaf) (defScope s__is_right_leaf) .none e20 p20 q20 y20 r20 c20), z20⟩)
    (d20 : PySem.W.codeIn K r20 "_is_right_leaf" = true) (k20 : PySem.W.keepIn K (.ref f20) = true)
    {f21 : Addr} {o21 e21 p21 q21 r21 c21 : Value} {x21 y21 : Option Addr} {z21 : Array (Option Value)}
    (a21 : PySem.W.nsIn K mainGlobals "bounds_of" = some (some (.ref f21)))
    (l21 : K.lookup f21 = some ⟨o21, x21, .func (PySem.W.fnOf "bounds_of" "bounds_of" (defArgs s_bounds_of) (defBody s_bounds_of) (defScope s_bounds_of) .none e21 p21 q21 y21 r21 c21), z21⟩)
    (d21 : PySem.W.codeIn K r21 "bounds_of" = true) (k21 : PySem.W.keepIn K (.ref f21) = true)
    {f22 : Addr} {o22 e22 p22 q22 r22 c22 : Value} {x22 y22 : Option Addr} {z22 : Array (Option Value)}
    (a22 : PySem.W.nsIn K mainGlobals "checked_term" = some (some (.ref f22)))
    (l22 : K.lookup f22 = some ⟨o22, x22, .func (PySem.W.fnOf "checked_term" "checked_term" (defArgs s_checked_term) (defBody s_checked_term) (defScope s_checked_term) .none e22 p22 q22 y22 r22 c22), z22⟩)
    (d22 : PySem.W.codeIn K r22 "checked_term" = true) (k22 : PySem.W.keepIn K (.ref f22) = true)
    {f23 : Addr} {o23 e23 p23 q23 r23 c23 : Value} {x23 y23 : Option Addr} {z23 : Array (Option Value)}
    (a23 : PySem.W.nsIn K mainGlobals "many_parts" = some (some (.ref f23)))
    (l23 : K.lookup f23 = some ⟨o23, x23, .func (PySem.W.fnOf "many_parts" "many_parts" (defArgs s_many_parts) (defBody s_many_parts) (defScope s_many_parts) .none e23 p23 q23 y23 r23 c23), z23⟩)
    (d23 : PySem.W.codeIn K r23 "many_parts" = true) (k23 : PySem.W.keepIn K (.ref f23) = true)
    {f24 : Addr} {o24 e24 p24 q24 r24 c24 : Value} {x24 y24 : Option Addr} {z24 : Array (Option Value)}
    (a24 : PySem.W.nsIn K mainGlobals "many_levels" = some (some (.ref f24)))
    (l24 : K.lookup f24 = some ⟨o24, x24, .func (PySem.W.fnOf "many_levels" "many_levels" (defArgs s_many_levels) (defBody s_many_levels) (defScope s_many_levels) .none e24 p24 q24 y24 r24 c24), z24⟩)
    (d24 : PySem.W.codeIn K r24 "many_levels" = true) (k24 : PySem.W.keepIn K (.ref f24) = true)
    {f25 : Addr} {o25 e25 p25 q25 r25 c25 : Value} {x25 y25 : Option Addr} {z25 : Array (Option Value)}
    (a25 : PySem.W.nsIn K mainGlobals "spellings_in" = some (some (.ref f25)))
    (l25 : K.lookup f25 = some ⟨o25, x25, .func (PySem.W.fnOf "spellings_in" "spellings_in" (defArgs s_spellings_in) (defBody s_spellings_in) (defScope s_spellings_in) .none e25 p25 q25 y25 r25 c25), z25⟩)
    (d25 : PySem.W.codeIn K r25 "spellings_in" = true) (k25 : PySem.W.keepIn K (.ref f25) = true)
    {f26 : Addr} {o26 e26 p26 q26 r26 c26 : Value} {x26 y26 : Option Addr} {z26 : Array (Option Value)}
    (a26 : PySem.W.nsIn K mainGlobals "is_term" = some (some (.ref f26)))
    (l26 : K.lookup f26 = some ⟨o26, x26, .func (PySem.W.fnOf "is_term" "is_term" (defArgs s_is_term) (defBody s_is_term) (defScope s_is_term) .none e26 p26 q26 y26 r26 c26), z26⟩)
    (d26 : PySem.W.codeIn K r26 "is_term" = true) (k26 : PySem.W.keepIn K (.ref f26) = true)
    {f27 : Addr} {o27 e27 p27 q27 r27 c27 : Value} {x27 y27 : Option Addr} {z27 : Array (Option Value)}
    (a27 : PySem.W.nsIn K mainGlobals "is_word" = some (some (.ref f27)))
    (l27 : K.lookup f27 = some ⟨o27, x27, .func (PySem.W.fnOf "is_word" "is_word" (defArgs s_is_word) (defBody s_is_word) (defScope s_is_word) .none e27 p27 q27 y27 r27 c27), z27⟩)
    (d27 : PySem.W.codeIn K r27 "is_word" = true) (k27 : PySem.W.keepIn K (.ref f27) = true)
    {f28 : Addr} {o28 e28 p28 q28 r28 c28 : Value} {x28 y28 : Option Addr} {z28 : Array (Option Value)}
    (a28 : PySem.W.nsIn K mainGlobals "size_of" = some (some (.ref f28)))
    (l28 : K.lookup f28 = some ⟨o28, x28, .func (PySem.W.fnOf "size_of" "size_of" (defArgs s_size_of) (defBody s_size_of) (defScope s_size_of) .none e28 p28 q28 y28 r28 c28), z28⟩)
    (d28 : PySem.W.codeIn K r28 "size_of" = true) (k28 : PySem.W.keepIn K (.ref f28) = true)
    {f29 : Addr} {o29 e29 p29 q29 r29 c29 : Value} {x29 y29 : Option Addr} {z29 : Array (Option Value)}
    (a29 : PySem.W.nsIn K mainGlobals "levels_of" = some (some (.ref f29)))
    (l29 : K.lookup f29 = some ⟨o29, x29, .func (PySem.W.fnOf "levels_of" "levels_of" (defArgs s_levels_of) (defBody s_levels_of) (defScope s_levels_of) .none e29 p29 q29 y29 r29 c29), z29⟩)
    (d29 : PySem.W.codeIn K r29 "levels_of" = true) (k29 : PySem.W.keepIn K (.ref f29) = true)
    {f30 : Addr} {o30 e30 p30 q30 r30 c30 : Value} {x30 y30 : Option Addr} {z30 : Array (Option Value)}
    (a30 : PySem.W.nsIn K mainGlobals "names_in" = some (some (.ref f30)))
    (l30 : K.lookup f30 = some ⟨o30, x30, .func (PySem.W.fnOf "names_in" "names_in" (defArgs s_names_in) (defBody s_names_in) (defScope s_names_in) .none e30 p30 q30 y30 r30 c30), z30⟩)
    (d30 : PySem.W.codeIn K r30 "names_in" = true) (k30 : PySem.W.keepIn K (.ref f30) = true)
    {f31 : Addr} {o31 e31 p31 q31 r31 c31 : Value} {x31 y31 : Option Addr} {z31 : Array (Option Value)}
    (a31 : PySem.W.nsIn K mainGlobals "flags_in" = some (some (.ref f31)))
    (l31 : K.lookup f31 = some ⟨o31, x31, .func (PySem.W.fnOf "flags_in" "flags_in" (defArgs s_flags_in) (defBody s_flags_in) (defScope s_flags_in) .none e31 p31 q31 y31 r31 c31), z31⟩)
    (d31 : PySem.W.codeIn K r31 "flags_in" = true) (k31 : PySem.W.keepIn K (.ref f31) = true)
    {f32 : Addr} {o32 e32 p32 q32 r32 c32 : Value} {x32 y32 : Option Addr} {z32 : Array (Option Value)}
    (a32 : PySem.W.nsIn K mainGlobals "places_of" = some (some (.ref f32)))
    (l32 : K.lookup f32 = some ⟨o32, x32, .func (PySem.W.fnOf "places_of" "places_of" (defArgs s_places_of) (defBody s_places_of) (defScope s_places_of) .none e32 p32 q32 y32 r32 c32), z32⟩)
    (d32 : PySem.W.codeIn K r32 "places_of" = true) (k32 : PySem.W.keepIn K (.ref f32) = true)
    {f33 : Addr} {o33 e33 p33 q33 r33 c33 : Value} {x33 y33 : Option Addr} {z33 : Array (Option Value)}
    (a33 : PySem.W.nsIn K mainGlobals "put_in" = some (some (.ref f33)))
    (l33 : K.lookup f33 = some ⟨o33, x33, .func (PySem.W.fnOf "put_in" "put_in" (defArgs s_put_in) (defBody s_put_in) (defScope s_put_in) .none e33 p33 q33 y33 r33 c33), z33⟩)
    (d33 : PySem.W.codeIn K r33 "put_in" = true) (k33 : PySem.W.keepIn K (.ref f33) = true)
    {f34 : Addr} {o34 e34 p34 q34 r34 c34 : Value} {x34 y34 : Option Addr} {z34 : Array (Option Value)}
    (a34 : PySem.W.nsIn K mainGlobals "part_at" = some (some (.ref f34)))
    (l34 : K.lookup f34 = some ⟨o34, x34, .func (PySem.W.fnOf "part_at" "part_at" (defArgs s_part_at) (defBody s_part_at) (defScope s_part_at) .none e34 p34 q34 y34 r34 c34), z34⟩)
    (d34 : PySem.W.codeIn K r34 "part_at" = true) (k34 : PySem.W.keepIn K (.ref f34) = true)
    {f35 : Addr} {o35 e35 p35 q35 r35 c35 : Value} {x35 y35 : Option Addr} {z35 : Array (Option Value)}
    (a35 : PySem.W.nsIn K mainGlobals "with_part" = some (some (.ref f35)))
    (l35 : K.lookup f35 = some ⟨o35, x35, .func (PySem.W.fnOf "with_part" "with_part" (defArgs s_with_part) (defBody s_with_part) (defScope s_with_part) .none e35 p35 q35 y35 r35 c35), z35⟩)
    (d35 : PySem.W.codeIn K r35 "with_part" = true) (k35 : PySem.W.keepIn K (.ref f35) = true)
    {f36 : Addr} {o36 e36 p36 q36 r36 c36 : Value} {x36 y36 : Option Addr} {z36 : Array (Option Value)}
    (a36 : PySem.W.nsIn K mainGlobals "_check_place" = some (some (.ref f36)))
    (l36 : K.lookup f36 = some ⟨o36, x36, .func (PySem.W.fnOf "_check_place" "_check_place" (defArgs s__check_place) (defBody s__check_place) (defScope s__check_place) .none e36 p36 q36 y36 r36 c36), z36⟩)
    (d36 : PySem.W.codeIn K r36 "_check_place" = true) (k36 : PySem.W.keepIn K (.ref f36) = true)
    {f37 : Addr} {o37 e37 p37 q37 r37 c37 : Value} {x37 y37 : Option Addr} {z37 : Array (Option Value)}
    (a37 : PySem.W.nsIn K mainGlobals "_law_trellis" = some (some (.ref f37)))
    (l37 : K.lookup f37 = some ⟨o37, x37, .func (PySem.W.fnOf "_law_trellis" "_law_trellis" (defArgs s__law_trellis) (defBody s__law_trellis) (defScope s__law_trellis) .none e37 p37 q37 y37 r37 c37), z37⟩)
    (d37 : PySem.W.codeIn K r37 "_law_trellis" = true) (k37 : PySem.W.keepIn K (.ref f37) = true)
    {f38 : Addr} {o38 e38 p38 q38 r38 c38 : Value} {x38 y38 : Option Addr} {z38 : Array (Option Value)}
    (a38 : PySem.W.nsIn K mainGlobals "_law_vine" = some (some (.ref f38)))
    (l38 : K.lookup f38 = some ⟨o38, x38, .func (PySem.W.fnOf "_law_vine" "_law_vine" (defArgs s__law_vine) (defBody s__law_vine) (defScope s__law_vine) .none e38 p38 q38 y38 r38 c38), z38⟩)
    (d38 : PySem.W.codeIn K r38 "_law_vine" = true) (k38 : PySem.W.keepIn K (.ref f38) = true)
    {f39 : Addr} {o39 e39 p39 q39 r39 c39 : Value} {x39 y39 : Option Addr} {z39 : Array (Option Value)}
    (a39 : PySem.W.nsIn K mainGlobals "_law_one_of" = some (some (.ref f39)))
    (l39 : K.lookup f39 = some ⟨o39, x39, .func (PySem.W.fnOf "_law_one_of" "_law_one_of" (defArgs s__law_one_of) (defBody s__law_one_of) (defScope s__law_one_of) .none e39 p39 q39 y39 r39 c39), z39⟩)
    (d39 : PySem.W.codeIn K r39 "_law_one_of" = true) (k39 : PySem.W.keepIn K (.ref f39) = true)
    {f40 : Addr} {o40 e40 p40 q40 r40 c40 : Value} {x40 y40 : Option Addr} {z40 : Array (Option Value)}
    (a40 : PySem.W.nsIn K mainGlobals "_law_spelt" = some (some (.ref f40)))
    (l40 : K.lookup f40 = some ⟨o40, x40, .func (PySem.W.fnOf "_law_spelt" "_law_spelt" (defArgs s__law_spelt) (defBody s__law_spelt) (defScope s__law_spelt) .none e40 p40 q40 y40 r40 c40), z40⟩)
    (d40 : PySem.W.codeIn K r40 "_law_spelt" = true) (k40 : PySem.W.keepIn K (.ref f40) = true)
    {f41 : Addr} {o41 e41 p41 q41 r41 c41 : Value} {x41 y41 : Option Addr} {z41 : Array (Option Value)}
    (a41 : PySem.W.nsIn K mainGlobals "_law_drawn" = some (some (.ref f41)))
    (l41 : K.lookup f41 = some ⟨o41, x41, .func (PySem.W.fnOf "_law_drawn" "_law_drawn" (defArgs s__law_drawn) (defBody s__law_drawn) (defScope s__law_drawn) .none e41 p41 q41 y41 r41 c41), z41⟩)
    (d41 : PySem.W.codeIn K r41 "_law_drawn" = true) (k41 : PySem.W.keepIn K (.ref f41) = true)
    {f42 : Addr} {o42 e42 p42 q42 r42 c42 : Value} {x42 y42 : Option Addr} {z42 : Array (Option Value)}
    (a42 : PySem.W.nsIn K mainGlobals "_law_is_spelt" = some (some (.ref f42)))
    (l42 : K.lookup f42 = some ⟨o42, x42, .func (PySem.W.fnOf "_law_is_spelt" "_law_is_spelt" (defArgs s__law_is_spelt) (defBody s__law_is_spelt) (defScope s__law_is_spelt) .none e42 p42 q42 y42 r42 c42), z42⟩)
    (d42 : PySem.W.codeIn K r42 "_law_is_spelt" = true) (k42 : PySem.W.keepIn K (.ref f42) = true)
    {f43 : Addr} {o43 e43 p43 q43 r43 c43 : Value} {x43 y43 : Option Addr} {z43 : Array (Option Value)}
    (a43 : PySem.W.nsIn K mainGlobals "_law_asked" = some (some (.ref f43)))
    (l43 : K.lookup f43 = some ⟨o43, x43, .func (PySem.W.fnOf "_law_asked" "_law_asked" (defArgs s__law_asked) (defBody s__law_asked) (defScope s__law_asked) .none e43 p43 q43 y43 r43 c43), z43⟩)
    (d43 : PySem.W.codeIn K r43 "_law_asked" = true) (k43 : PySem.W.keepIn K (.ref f43) = true)
    {f44 : Addr} {o44 e44 p44 q44 r44 c44 : Value} {x44 y44 : Option Addr} {z44 : Array (Option Value)}
    (a44 : PySem.W.nsIn K mainGlobals "_law_kind" = some (some (.ref f44)))
    (l44 : K.lookup f44 = some ⟨o44, x44, .func (PySem.W.fnOf "_law_kind" "_law_kind" (defArgs s__law_kind) (defBody s__law_kind) (defScope s__law_kind) .none e44 p44 q44 y44 r44 c44), z44⟩)
    (d44 : PySem.W.codeIn K r44 "_law_kind" = true) (k44 : PySem.W.keepIn K (.ref f44) = true)
    {f45 : Addr} {o45 e45 p45 q45 r45 c45 : Value} {x45 y45 : Option Addr} {z45 : Array (Option Value)}
    (a45 : PySem.W.nsIn K mainGlobals "_law_odd" = some (some (.ref f45)))
    (l45 : K.lookup f45 = some ⟨o45, x45, .func (PySem.W.fnOf "_law_odd" "_law_odd" (defArgs s__law_odd) (defBody s__law_odd) (defScope s__law_odd) .none e45 p45 q45 y45 r45 c45), z45⟩)
    (d45 : PySem.W.codeIn K r45 "_law_odd" = true) (k45 : PySem.W.keepIn K (.ref f45) = true)
    {f46 : Addr} {o46 e46 p46 q46 r46 c46 : Value} {x46 y46 : Option Addr} {z46 : Array (Option Value)}
    (a46 : PySem.W.nsIn K mainGlobals "_law_bent" = some (some (.ref f46)))
    (l46 : K.lookup f46 = some ⟨o46, x46, .func (PySem.W.fnOf "_law_bent" "_law_bent" (defArgs s__law_bent) (defBody s__law_bent) (defScope s__law_bent) .none e46 p46 q46 y46 r46 c46), z46⟩)
    (d46 : PySem.W.codeIn K r46 "_law_bent" = true) (k46 : PySem.W.keepIn K (.ref f46) = true)
    {f47 : Addr} {o47 e47 p47 q47 r47 c47 : Value} {x47 y47 : Option Addr} {z47 : Array (Option Value)}
    (a47 : PySem.W.nsIn K mainGlobals "_law_listed" = some (some (.ref f47)))
    (l47 : K.lookup f47 = some ⟨o47, x47, .func (PySem.W.fnOf "_law_listed" "_law_listed" (defArgs s__law_listed) (defBody s__law_listed) (defScope s__law_listed) .none e47 p47 q47 y47 r47 c47), z47⟩)
    (d47 : PySem.W.codeIn K r47 "_law_listed" = true) (k47 : PySem.W.keepIn K (.ref f47) = true)
    {f48 : Addr} {o48 e48 p48 q48 r48 c48 : Value} {x48 y48 : Option Addr} {z48 : Array (Option Value)}
    (a48 : PySem.W.nsIn K mainGlobals "_law_heard" = some (some (.ref f48)))
    (l48 : K.lookup f48 = some ⟨o48, x48, .func (PySem.W.fnOf "_law_heard" "_law_heard" (defArgs s__law_heard) (defBody s__law_heard) (defScope s__law_heard) .none e48 p48 q48 y48 r48 c48), z48⟩)
    (d48 : PySem.W.codeIn K r48 "_law_heard" = true) (k48 : PySem.W.keepIn K (.ref f48) = true)
    {f49 : Addr} {o49 e49 p49 q49 r49 c49 : Value} {x49 y49 : Option Addr} {z49 : Array (Option Value)}
    (a49 : PySem.W.nsIn K mainGlobals "_law_judged_right" = some (some (.ref f49)))
    (l49 : K.lookup f49 = some ⟨o49, x49, .func (PySem.W.fnOf "_law_judged_right" "_law_judged_right" (defArgs s__law_judged_right) (defBody s__law_judged_right) (defScope s__law_judged_right) .none e49 p49 q49 y49 r49 c49), z49⟩)
    (d49 : PySem.W.codeIn K r49 "_law_judged_right" = true) (k49 : PySem.W.keepIn K (.ref f49) = true)
    {f50 : Addr} {o50 e50 p50 q50 r50 c50 : Value} {x50 y50 : Option Addr} {z50 : Array (Option Value)}
    (a50 : PySem.W.nsIn K mainGlobals "_law_many_right" = some (some (.ref f50)))
    (l50 : K.lookup f50 = some ⟨o50, x50, .func (PySem.W.fnOf "_law_many_right" "_law_many_right" (defArgs s__law_many_right) (defBody s__law_many_right) (defScope s__law_many_right) .none e50 p50 q50 y50 r50 c50), z50⟩)
    (d50 : PySem.W.codeIn K r50 "_law_many_right" = true) (k50 : PySem.W.keepIn K (.ref f50) = true)
    {f51 : Addr} {o51 e51 p51 q51 r51 c51 : Value} {x51 y51 : Option Addr} {z51 : Array (Option Value)}
    (a51 : PySem.W.nsIn K mainGlobals "law" = some (some (.ref f51)))
    (l51 : K.lookup f51 = some ⟨o51, x51, .func (PySem.W.fnOf "law" "law" (defArgs s_law) (defBody s_law) (defScope s_law) .none e51 p51 q51 y51 r51 c51), z51⟩)
    (d51 : PySem.W.codeIn K r51 "law" = true) (k51 : PySem.W.keepIn K (.ref f51) = true)
    {t_LETTERS : Tok} (cc_LETTERS : PySem.W.nsIn K mainGlobals "LETTERS" = some (some (.str "abcdefghijklmnopqrstuvwxyz" t_LETTERS)))
    {t_DIGITS : Tok} (cc_DIGITS : PySem.W.nsIn K mainGlobals "DIGITS" = some (some (.str "0123456789" t_DIGITS)))
    {t_MOST_DIGITS : Tok} (cc_MOST_DIGITS : PySem.W.nsIn K mainGlobals "MOST_DIGITS" = some (some (.int 10 t_MOST_DIGITS)))
    {t_GREATEST_NUMBER : Tok} (cc_GREATEST_NUMBER : PySem.W.nsIn K mainGlobals "GREATEST_NUMBER" = some (some (.int 2147483647 t_GREATEST_NUMBER)))
    {t_MOST_PARTS : Tok} (cc_MOST_PARTS : PySem.W.nsIn K mainGlobals "MOST_PARTS" = some (some (.int 6 t_MOST_PARTS)))
    (n_abs : PySem.W.nsIn K mainGlobals "abs" = some none)
    (n_all : PySem.W.nsIn K mainGlobals "all" = some none)
    (n_bool : PySem.W.nsIn K mainGlobals "bool" = some none)
    (n_dict : PySem.W.nsIn K mainGlobals "dict" = some none)
    (n_enumerate : PySem.W.nsIn K mainGlobals "enumerate" = some none)
    (n_int : PySem.W.nsIn K mainGlobals "int" = some none)
    (n_isinstance : PySem.W.nsIn K mainGlobals "isinstance" = some none)
    (n_len : PySem.W.nsIn K mainGlobals "len" = some none)
    (n_list : PySem.W.nsIn K mainGlobals "list" = some none)
    (n_max : PySem.W.nsIn K mainGlobals "max" = some none)
    (n_range : PySem.W.nsIn K mainGlobals "range" = some none)
    (n_repr : PySem.W.nsIn K mainGlobals "repr" = some none)
    (n_sorted : PySem.W.nsIn K mainGlobals "sorted" = some none)
    (n_str : PySem.W.nsIn K mainGlobals "str" = some none)
    (n_tuple : PySem.W.nsIn K mainGlobals "tuple" = some none)
    (n_zip : PySem.W.nsIn K mainGlobals "zip" = some none)
    {CE CR PT : Addr}
    {CT fIT : Addr} {nmT qnT : Str} {NT : Addr} {bsT : List Value} {snT : List Str} {subT : List Value} {abT : Bool} {colT : Option Bool} {ddT : Option Addr} {m0T m1T m2T m3T m5T : Option Value}
    {oIT eIT pIT qIT rIT cIT : Value} {xIT yIT : Option Addr} {zIT : Array (Option Value)}
    (gE : PySem.W.nsIn K mainGlobals "EqualError" = some (some (.ref CE)))
    (rd : PySem.W.readsIn K CE (.type "type") = true)
    (rg : PySem.W.specialIn K (.ref CE) "__getattribute__" = some (some (.builtin "type.__getattribute__")))
    (vE : PySem.W.findCls K (.ref CE) (.type "type") "__init__" = some (.val (.builtin "ValueError.__init__")))
    (gT : PySem.W.nsIn K mainGlobals "BadTerm" = some (some (.ref CT)))
    (iT : PySem.W.findIn K (.ref CT) "__init__" = some (some (.ref fIT)))
    (lIT : K.lookup fIT = some ⟨oIT, xIT, .func (PySem.W.fnOf "__init__" "BadTerm.__init__" (defArgs sInitT) (defBody sInitT) (defScope sInitT) .none eIT pIT qIT yIT rIT cIT), zIT⟩)
    (dIT : PySem.W.codeIn K rIT "BadTerm.__init__" = true)
    (kIT : PySem.W.keepIn K (.ref fIT) = true)
    (tIT : PySem.W.typeIn K (.ref fIT) = some (.type "function"))
    (xLT : K.lookup CT = some (excClassObj nmT qnT CT NT bsT [.ref CE, .type "ValueError", .type "Exception", .type "BaseException", .type "object"] true snT subT abT colT ddT m0T m1T m2T m3T m5T "ValueError.__new__"))
    (saT : PySem.W.findIn K (.ref CT) "__setattr__" = some (some (.builtin "object.__setattr__")))
    (eCT : PySem.W.subIn K (.ref CT) (.type "BaseException") = some true)
    (tCT : PySem.W.typeIn K (.ref CT) = some (.type "type"))
    (kCT : PySem.W.keepIn K (.ref CT) = true)
    (nPT : PySem.W.findIn K (.ref CT) "part" = some none)
    (gaT : PySem.W.findIn K (.ref CT) "__getattribute__" = some (some (.builtin "BaseException.__getattribute__")))
    (ggT : PySem.W.findIn K (.ref CT) "__getattr__" = some none)
    (hCT : PySem.W.hasDictIn K CT = true)
    (exT : PySem.W.exmOne K (.ref CT) (.ref CE) = some true)
    (nkT : PySem.W.kitOne K (.type "NoneType") (.ref CT) = some false)
    (h_a : PySem.W.findIn K (.ref CT) "__class__" = some (some (.builtin "object.__class__")))
    (h_n : PySem.W.specialIn K (.builtin "object.__class__") "__get__" = some (some (.builtin "getset_descriptor.__get__")))
    (h_t : PySem.W.takesIn K (.builtin "object.__class__") = some true)
    (h_m : PySem.W.mroIn K CT (.type "object") = some true)
    (cR0 : r49 = .ref CR)
    (al : PySem.W.nsIn K mainGlobals "in_tuples_forms" = some (some (.ref f4)))
    {sA aA nA rA : Addr} {sE aE : Array DictEntry} {sN aN : Nat}
    (s1 : PySem.W.nsIn K mainGlobals "SHAPES" = some (some (.ref sA))) (s2 : K.lookup sA = some ⟨.type "dict", none, .dict sE sN, #[]⟩) (s3 : PySem.W.KeysLit w.params sE.toList) (s4 : (sA == sysModules) = false) (s5 : (labs.all (tabB K sA shapeTab)) = true)
    (t1 : PySem.W.nsIn K mainGlobals "LEAF_KINDS" = some (some (.ref aA))) (t2 : K.lookup aA = some ⟨.type "dict", none, .dict aE aN, #[]⟩) (t3 : PySem.W.KeysLit w.params aE.toList) (t4 : (aA == sysModules) = false) (t5 : (labs.all (tabB K aA leafTab)) = true)
    (u1 : PySem.W.nsIn K mainGlobals "NO_NAMES" = some (some (.ref nA))) (u2 : repB K (.tup (noN.map D.str)) (.ref nA) = true)
    (v1 : PySem.W.nsIn K mainGlobals "RESULT_NUMBERS" = some (some (.ref rA))) (v2 : repB K (.tup (resN.map D.str)) (.ref rA) = true)
    (pT : h.get? PT = some { cls := .none, data := .fields #[] }) (pK : K.lookup PT = none) (pC : PySem.W.codeHdIn K CR PT = true)
    : LawAtG l w K 43 63 "_law_script" mg h fa := by
  have e : f51 = fa := by
    have e1 := hfa.symm.trans (PySem.W.mg_of X G a51)
    cases e1
    rfl
  subst e
  obtain ⟨uNO, hNO, rNO⟩ := rep_of _ _ u2
  obtain ⟨uRN, hRN, rRN⟩ := rep_of _ _ v2
  let T : Txt w K mg := {
    f_is_integer := f0, fd_is_integer := _, F_is_integer := fun_mk l0 d0 k0, g_is_integer := PySem.W.mg_of X G a0, b_is_integer := (fun_mk (st := s_is_integer) l0 d0 k0).binds fun _ _ _ _ _ _ us hl => match us, hl with | [_], _ => rfl,
    f_is_within := f1, fd_is_within := _, F_is_within := fun_mk l1 d1 k1, g_is_within := PySem.W.mg_of X G a1, b_is_within := (fun_mk (st := s_is_within) l1 d1 k1).binds fun _ _ _ _ _ _ us hl => match us, hl with | [_, _, _], _ => rfl,
    f_is_list := f2, fd_is_list := _, F_is_list := fun_mk l2 d2 k2, g_is_list := PySem.W.mg_of X G a2, b_is_list := (fun_mk (st := s_is_list) l2 d2 k2).binds fun _ _ _ _ _ _ us hl => match us, hl with | [_], _ => rfl,
    f_are_integers := f3, fd_are_integers := _, F_are_integers := fun_mk l3 d3 k3, g_are_integers := PySem.W.mg_of X G a3, b_are_integers := (fun_mk (st := s_are_integers) l3 d3 k3).binds fun _ _ _ _ _ _ us hl => match us, hl with | [_, _, _], _ => rfl,
    f__in_tuples := f4, fd__in_tuples := _, F__in_tuples := fun_mk l4 d4 k4, g__in_tuples := PySem.W.mg_of X G a4, b__in_tuples := (fun_mk (st := s__in_tuples) l4 d4 k4).binds fun _ _ _ _ _ _ us hl => match us, hl with | [_, _], _ => rfl,
    f__shown := f5, fd__shown := _, F__shown := fun_mk l5 d5 k5, g__shown := PySem.W.mg_of X G a5, b__shown := (fun_mk (st := s__shown) l5 d5 k5).binds fun _ _ _ _ _ _ us hl => match us, hl with | [_], _ => rfl,
    f_is_spelling := f6, fd_is_spelling := _, F_is_spelling := fun_mk l6 d6 k6, g_is_spelling := PySem.W.mg_of X G a6, b_is_spelling := (fun_mk (st := s_is_spelling) l6 d6 k6).binds fun _ _ _ _ _ _ us hl => match us, hl with | [_], _ => rfl,
    f_is_name := f7, fd_is_name := _, F_is_name := fun_mk l7 d7 k7, g_is_name := PySem.W.mg_of X G a7, b_is_name := (fun_mk (st := s_is_name) l7 d7 k7).binds fun _ _ _ _ _ _ us hl => match us, hl with | [_], _ => rfl,
    f_integer_of := f8, fd_integer_of := _, F_integer_of := fun_mk l8 d8 k8, g_integer_of := PySem.W.mg_of X G a8, b_integer_of := (fun_mk (st := s_integer_of) l8 d8 k8).binds fun _ _ _ _ _ _ us hl => match us, hl with | [_], _ => rfl,
    f_shift_of := f9, fd_shift_of := _, F_shift_of := fun_mk l9 d9 k9, g_shift_of := PySem.W.mg_of X G a9, b_shift_of := (fun_mk (st := s_shift_of) l9 d9 k9).binds fun _ _ _ _ _ _ us hl => match us, hl with | [_], _ => rfl,
    f_called := f10, fd_called := _, F_called := fun_mk l10 d10 k10, g_called := PySem.W.mg_of X G a10, b_called := (fun_mk (st := s_called) l10 d10 k10).binds fun _ _ _ _ _ _ us hl => match us, hl with | [_], _ => rfl,
    f_ended := f11, fd_ended := _, F_ended := fun_mk l11 d11 k11, g_ended := PySem.W.mg_of X G a11, b_ended := (fun_mk (st := s_ended) l11 d11 k11).binds fun _ _ _ _ _ _ us hl => match us, hl with | [_, _], _ => rfl,
    f_bottom_up := f12, fd_bottom_up := _, F_bottom_up := fun_mk l12 d12 k12, g_bottom_up := PySem.W.mg_of X G a12, b_bottom_up := (fun_mk (st := s_bottom_up) l12 d12 k12).binds fun _ _ _ _ _ _ us hl => match us, hl with | [_, _, _], _ => rfl,
    f_shape_of := f13, fd_shape_of := _, F_shape_of := fun_mk l13 d13 k13, g_shape_of := PySem.W.mg_of X G a13, b_shape_of := (fun_mk (st := s_shape_of) l13 d13 k13).binds fun _ _ _ _ _ _ us hl => match us, hl with | [_], _ => rfl,
    f_is_number := f14, fd_is_number := _, F_is_number := fun_mk l14 d14 k14, g_is_number := PySem.W.mg_of X G a14, b_is_number := (fun_mk (st := s_is_number) l14 d14 k14).binds fun _ _ _ _ _ _ us hl => match us, hl with | [_], _ => rfl,
    f_is_leaf := f15, fd_is_leaf := _, F_is_leaf := fun_mk l15 d15 k15, g_is_leaf := PySem.W.mg_of X G a15, b_is_leaf := (fun_mk (st := s_is_leaf) l15 d15 k15).binds fun _ _ _ _ _ _ us hl => match us, hl with | [_], _ => rfl,
    f_parts_of := f16, fd_parts_of := _, F_parts_of := fun_mk l16 d16 k16, g_parts_of := PySem.W.mg_of X G a16, b_parts_of := (fun_mk (st := s_parts_of) l16 d16 k16).binds fun _ _ _ _ _ _ us hl => match us, hl with | [_], _ => rfl,
    f_kind_of := f17, fd_kind_of := _, F_kind_of := fun_mk l17 d17 k17, g_kind_of := PySem.W.mg_of X G a17, b_kind_of := (fun_mk (st := s_kind_of) l17 d17 k17).binds fun _ _ _ _ _ _ us hl => match us, hl with | [_], _ => rfl,
    f_term_of := f18, fd_term_of := _, F_term_of := fun_mk l18 d18 k18, g_term_of := PySem.W.mg_of X G a18, b_term_of := (fun_mk (st := s_term_of) l18 d18 k18).binds fun _ _ _ _ _ _ us hl => match us, hl with | [_], _ => rfl,
    f__form_of := f19, fd__form_of := _, F__form_of := fun_mk l19 d19 k19, g__form_of := PySem.W.mg_of X G a19, b__form_of := (fun_mk (st := s__form_of) l19 d19 k19).binds fun _ _ _ _ _ _ us hl => match us, hl with | [_], _ => rfl,
    f__is_right_leaf := f20, fd__is_right_leaf := _, F__is_right_leaf := fun_mk l20 d20 k20, g__is_right_leaf := PySem.W.mg_of X G a20, b__is_right_leaf := (fun_mk (st := s__is_right_leaf) l20 d20 k20).binds fun _ _ _ _ _ _ us hl => match us, hl with | [_], _ => rfl,
    f_bounds_of := f21, fd_bounds_of := _, F_bounds_of := fun_mk l21 d21 k21, g_bounds_of := PySem.W.mg_of X G a21, b_bounds_of := (fun_mk (st := s_bounds_of) l21 d21 k21).binds fun _ _ _ _ _ _ us hl => match us, hl with | [_], _ => rfl,
    f_checked_term := f22, fd_checked_term := _, F_checked_term := fun_mk l22 d22 k22, g_checked_term := PySem.W.mg_of X G a22, b_checked_term := (fun_mk (st := s_checked_term) l22 d22 k22).binds fun _ _ _ _ _ _ us hl => match us, hl with | [_, _], _ => rfl,
    f_many_parts := f23, fd_many_parts := _, F_many_parts := fun_mk l23 d23 k23, g_many_parts := PySem.W.mg_of X G a23, b_many_parts := (fun_mk (st := s_many_parts) l23 d23 k23).binds fun _ _ _ _ _ _ us hl => match us, hl with | [_], _ => rfl,
    f_many_levels := f24, fd_many_levels := _, F_many_levels := fun_mk l24 d24 k24, g_many_levels := PySem.W.mg_of X G a24, b_many_levels := (fun_mk (st := s_many_levels) l24 d24 k24).binds fun _ _ _ _ _ _ us hl => match us, hl with | [_], _ => rfl,
    f_spellings_in := f25, fd_spellings_in := _, F_spellings_in := fun_mk l25 d25 k25, g_spellings_in := PySem.W.mg_of X G a25, b_spellings_in := (fun_mk (st := s_spellings_in) l25 d25 k25).binds fun _ _ _ _ _ _ us hl => match us, hl with | [_, _], _ => rfl,
    f_is_term := f26, fd_is_term := _, F_is_term := fun_mk l26 d26 k26, g_is_term := PySem.W.mg_of X G a26, b_is_term := (fun_mk (st := s_is_term) l26 d26 k26).binds fun _ _ _ _ _ _ us hl => match us, hl with | [_], _ => rfl,
    f_is_word := f27, fd_is_word := _, F_is_word := fun_mk l27 d27 k27, g_is_word := PySem.W.mg_of X G a27, b_is_word := (fun_mk (st := s_is_word) l27 d27 k27).binds fun _ _ _ _ _ _ us hl => match us, hl with | [_], _ => rfl,
    f_size_of := f28, fd_size_of := _, F_size_of := fun_mk l28 d28 k28, g_size_of := PySem.W.mg_of X G a28, b_size_of := (fun_mk (st := s_size_of) l28 d28 k28).binds fun _ _ _ _ _ _ us hl => match us, hl with | [_], _ => rfl,
    f_levels_of := f29, fd_levels_of := _, F_levels_of := fun_mk l29 d29 k29, g_levels_of := PySem.W.mg_of X G a29, b_levels_of := (fun_mk (st := s_levels_of) l29 d29 k29).binds fun _ _ _ _ _ _ us hl => match us, hl with | [_], _ => rfl,
    f_names_in := f30, fd_names_in := _, F_names_in := fun_mk l30 d30 k30, g_names_in := PySem.W.mg_of X G a30, b_names_in := (fun_mk (st := s_names_in) l30 d30 k30).binds fun _ _ _ _ _ _ us hl => match us, hl with | [_], _ => rfl,
    f_flags_in := f31, fd_flags_in := _, F_flags_in := fun_mk l31 d31 k31, g_flags_in := PySem.W.mg_of X G a31, b_flags_in := (fun_mk (st := s_flags_in) l31 d31 k31).binds fun _ _ _ _ _ _ us hl => match us, hl with | [_], _ => rfl,
    f_places_of := f32, fd_places_of := _, F_places_of := fun_mk l32 d32 k32, g_places_of := PySem.W.mg_of X G a32, b_places_of := (fun_mk (st := s_places_of) l32 d32 k32).binds fun _ _ _ _ _ _ us hl => match us, hl with | [_], _ => rfl,
    f_put_in := f33, fd_put_in := _, F_put_in := fun_mk l33 d33 k33, g_put_in := PySem.W.mg_of X G a33, b_put_in := (fun_mk (st := s_put_in) l33 d33 k33).binds fun _ _ _ _ _ _ us hl => match us, hl with | [_, _], _ => rfl,
    f_part_at := f34, fd_part_at := _, F_part_at := fun_mk l34 d34 k34, g_part_at := PySem.W.mg_of X G a34, b_part_at := (fun_mk (st := s_part_at) l34 d34 k34).binds fun _ _ _ _ _ _ us hl => match us, hl with | [_, _], _ => rfl,
    f_with_part := f35, fd_with_part := _, F_with_part := fun_mk l35 d35 k35, g_with_part := PySem.W.mg_of X G a35, b_with_part := (fun_mk (st := s_with_part) l35 d35 k35).binds fun _ _ _ _ _ _ us hl => match us, hl with | [_, _, _], _ => rfl,
    f__check_place := f36, fd__check_place := _, F__check_place := fun_mk l36 d36 k36, g__check_place := PySem.W.mg_of X G a36, b__check_place := (fun_mk (st := s__check_place) l36 d36 k36).binds fun _ _ _ _ _ _ us hl => match us, hl with | [_], _ => rfl,
    f__law_trellis := f37, fd__law_trellis := _, F__law_trellis := fun_mk l37 d37 k37, g__law_trellis := PySem.W.mg_of X G a37, b__law_trellis := (fun_mk (st := s__law_trellis) l37 d37 k37).binds fun _ _ _ _ _ _ us hl => match us, hl with | [_], _ => rfl,
    f__law_vine := f38, fd__law_vine := _, F__law_vine := fun_mk l38 d38 k38, g__law_vine := PySem.W.mg_of X G a38, b__law_vine := (fun_mk (st := s__law_vine) l38 d38 k38).binds fun _ _ _ _ _ _ us hl => match us, hl with | [_, _], _ => rfl,
    f__law_one_of := f39, fd__law_one_of := _, F__law_one_of := fun_mk l39 d39 k39, g__law_one_of := PySem.W.mg_of X G a39, b__law_one_of := (fun_mk (st := s__law_one_of) l39 d39 k39).binds fun _ _ _ _ _ _ us hl => match us, hl with | [_, _], _ => rfl,
    f__law_spelt := f40, fd__law_spelt := _, F__law_spelt := fun_mk l40 d40 k40, g__law_spelt := PySem.W.mg_of X G a40, b__law_spelt := (fun_mk (st := s__law_spelt) l40 d40 k40).binds fun _ _ _ _ _ _ us hl => match us, hl with | [_], _ => rfl,
    f__law_drawn := f41, fd__law_drawn := _, F__law_drawn := fun_mk l41 d41 k41, g__law_drawn := PySem.W.mg_of X G a41, b__law_drawn := (fun_mk (st := s__law_drawn) l41 d41 k41).binds fun _ _ _ _ _ _ us hl => match us, hl with | [_, _, _], _ => rfl,
    f__law_is_spelt := f42, fd__law_is_spelt := _, F__law_is_spelt := fun_mk l42 d42 k42, g__law_is_spelt := PySem.W.mg_of X G a42, b__law_is_spelt := (fun_mk (st := s__law_is_spelt) l42 d42 k42).binds fun _ _ _ _ _ _ us hl => match us, hl with | [_], _ => rfl,
    f__law_asked := f43, fd__law_asked := _, F__law_asked := fun_mk l43 d43 k43, g__law_asked := PySem.W.mg_of X G a43, b__law_asked := (fun_mk (st := s__law_asked) l43 d43 k43).binds fun _ _ _ _ _ _ us hl => match us, hl with | [_, _], _ => rfl,
    f__law_kind := f44, fd__law_kind := _, F__law_kind := fun_mk l44 d44 k44, g__law_kind := PySem.W.mg_of X G a44, b__law_kind := (fun_mk (st := s__law_kind) l44 d44 k44).binds fun _ _ _ _ _ _ us hl => match us, hl with | [_], _ => rfl,
    f__law_odd := f45, fd__law_odd := _, F__law_odd := fun_mk l45 d45 k45, g__law_odd := PySem.W.mg_of X G a45, b__law_odd := (fun_mk (st := s__law_odd) l45 d45 k45).binds fun _ _ _ _ _ _ us hl => match us, hl with | [_], _ => rfl,
    f__law_bent := f46, fd__law_bent := _, F__law_bent := fun_mk l46 d46 k46, g__law_bent := PySem.W.mg_of X G a46, b__law_bent := (fun_mk (st := s__law_bent) l46 d46 k46).binds fun _ _ _ _ _ _ us hl => match us, hl with | [_, _], _ => rfl,
    f__law_listed := f47, fd__law_listed := _, F__law_listed := fun_mk l47 d47 k47, g__law_listed := PySem.W.mg_of X G a47, b__law_listed := (fun_mk (st := s__law_listed) l47 d47 k47).binds fun _ _ _ _ _ _ us hl => match us, hl with | [_, _], _ => rfl,
    f__law_heard := f48, fd__law_heard := _, F__law_heard := fun_mk l48 d48 k48, g__law_heard := PySem.W.mg_of X G a48, b__law_heard := (fun_mk (st := s__law_heard) l48 d48 k48).binds fun _ _ _ _ _ _ us hl => match us, hl with | [_], _ => rfl,
    f__law_judged_right := f49, fd__law_judged_right := _, F__law_judged_right := fun_mk l49 d49 k49, g__law_judged_right := PySem.W.mg_of X G a49, b__law_judged_right := (fun_mk (st := s__law_judged_right) l49 d49 k49).binds fun _ _ _ _ _ _ us hl => match us, hl with | [_, _], _ => rfl,
    f__law_many_right := f50, fd__law_many_right := _, F__law_many_right := fun_mk l50 d50 k50, g__law_many_right := PySem.W.mg_of X G a50, b__law_many_right := (fun_mk (st := s__law_many_right) l50 d50 k50).binds fun _ _ _ _ _ _ us hl => match us, hl with | [_], _ => rfl,
    f_law := f51, fd_law := _, F_law := fun_mk l51 d51 k51, g_law := PySem.W.mg_of X G a51, b_law := (fun_mk (st := s_law) l51 d51 k51).binds fun _ _ _ _ _ _ us hl => match us, hl with | [_], _ => rfl,
    c_LETTERS := ⟨_, PySem.W.mg_of X G cc_LETTERS, ⟨_, rfl⟩⟩,
    c_DIGITS := ⟨_, PySem.W.mg_of X G cc_DIGITS, ⟨_, rfl⟩⟩,
    c_MOST_DIGITS := ⟨_, PySem.W.mg_of X G cc_MOST_DIGITS, ⟨_, rfl⟩⟩,
    c_GREATEST_NUMBER := ⟨_, PySem.W.mg_of X G cc_GREATEST_NUMBER, ⟨_, rfl⟩⟩,
    c_MOST_PARTS := ⟨_, PySem.W.mg_of X G cc_MOST_PARTS, ⟨_, rfl⟩⟩,
    m_abs := PySem.W.mg_none_of X G n_abs,
    m_all := PySem.W.mg_none_of X G n_all,
    m_bool := PySem.W.mg_none_of X G n_bool,
    m_dict := PySem.W.mg_none_of X G n_dict,
    m_enumerate := PySem.W.mg_none_of X G n_enumerate,
    m_int := PySem.W.mg_none_of X G n_int,
    m_isinstance := PySem.W.mg_none_of X G n_isinstance,
    m_len := PySem.W.mg_none_of X G n_len,
    m_list := PySem.W.mg_none_of X G n_list,
    m_max := PySem.W.mg_none_of X G n_max,
    m_range := PySem.W.mg_none_of X G n_range,
    m_repr := PySem.W.mg_none_of X G n_repr,
    m_sorted := PySem.W.mg_none_of X G n_sorted,
    m_str := PySem.W.mg_none_of X G n_str,
    m_tuple := PySem.W.mg_none_of X G n_tuple,
    m_zip := PySem.W.mg_none_of X G n_zip,
    CE := CE, g_EqualError := PySem.W.mg_of X G gE, rE := ⟨rd, rg⟩, vE := vE,
    CT := CT, g_BadTerm := PySem.W.mg_of X G gT, fIT := fIT, fdIT := _, FIT := fun_mk (st := sInitT) lIT dIT kIT, bIT := (fun_mk (st := sInitT) lIT dIT kIT).binds fun _ _ _ _ _ _ us hl => match us, hl with | [_, _], _ => rfl,
    oT := ⟨⟨nmT, qnT, NT, bsT, _, snT, subT, abT, colT, ddT, m0T, m1T, m2T, m3T, m5T, xLT, rfl⟩, saT, eCT, tCT, kCT⟩, iT := iT, tT := tIT, nT := nPT, xT := ⟨gaT, ggT, eCT, hCT⟩, eT := exT, kT := nkT,
    cT := ⟨gaT, ggT, eCT, hCT, h_a, h_n, h_t, h_m⟩,
    kb_is_term := kb_mk1 fun s a => .of_eq rfl, kb_is_word := kb_mk1 fun s a => .of_eq rfl, cR := CR, code_R := cR0,
    g_in_tuples_forms := PySem.W.mg_of X G al, k_parts_of := k16, k__in_tuples := k4,
    a_SHAPES := sA, c_SHAPES := ⟨_, PySem.W.mg_of X G s1, rfl⟩, t_SHAPES := ⟨⟨sE, sN, ⟨s2, s3, s4⟩⟩, tab_of s5⟩,
    a_LEAF_KINDS := aA, c_LEAF_KINDS := ⟨_, PySem.W.mg_of X G t1, rfl⟩, t_LEAF_KINDS := ⟨⟨aE, aN, ⟨t2, t3, t4⟩⟩, tab_of t5⟩,
    v_NO_NAMES := uNO, c_NO_NAMES := ⟨_, PySem.W.mg_of X G u1, hNO⟩, r_NO_NAMES := rNO,
    v_RESULT_NUMBERS := uRN, c_RESULT_NUMBERS := ⟨_, PySem.W.mg_of X G v1, hRN⟩, r_RESULT_NUMBERS := rRN }
  letI : DL.TB := ⟨[(PT, ("_law_judged_right.<locals>.<lambda>" : Str))]⟩
  exact ⟨PySem.W.fnOf "law" "law" (defArgs s_law) (defBody s_law) (defScope s_law) .none e51 p51 q51 y51 r51 c51, CR, PT, K03D.sp_law K, pT, pK, PySem.W.codeHd_of_K X pC, fun s u => .of_eq rfl,
    fun H a ns hl hH hS => ⟨.ref a, rfl, a, ns, rfl, hS, Nat.le_trans hl (by decide), fun p hp => by rw [List.mem_singleton.mp hp]; exact TabS.nil hH, fun _ => rfl⟩,
    fun base tB => K03D.ok_law (P := l.prog) (base := base) T tB rfl⟩
end K03
end
open PySem PySem.W PyProof.Rows
set_option maxHeartbeats 0 in
theorem PySem.Challenge.cw_leastequal_k03_terms_judged_holds : PySem.Challenge.rw_leastequal_k03_terms_judged.Holds := by
  w_on; o_law; k_head; (case hw => w_witness2)
  k_fill
  refine G1.walk_GT (l := PySem.Challenge.rw_leastequal_k03_terms_judged) (n := 63) (k := 43) (x := "_law_script") rfl (by decide) rfl ⟨rfl, by decide, by decide⟩ (fun w h Y => PySem.W.km_in_of Y) ?F
  case F =>
    intro w mg fa h Y KX G hmg
    have hT := PySem.W.km_tabs_of Y
    refine' K03.all_mk KX G hmg ?a0 ?l0 ?d0 ?k0 ?a1 ?l1 ?d1 ?k1 ?a2 ?l2 ?d2 ?k2 ?a3 ?l3 ?d3 ?k3 ?a4 ?l4 ?d4 ?k4 ?a5 ?l5 ?d5 ?k5 ?a6 ?l6 ?d6 ?k6 ?a7 ?l7 ?d7 ?k7 ?a8 ?l8 ?d8 ?k8 ?a9 ?l9 ?d9 ?k9 ?a10 ?l10 ?d10 ?k10 ?a11 ?l11 ?d11 ?k11 ?a12 ?l12 ?d12 ?k12 ?a13 ?l13 ?d13 ?k13 ?a14 ?l14 ?d14 ?k14 ?a15 ?l15 ?d15 ?k15 ?a16 ?l16 ?d16 ?k16 ?a17 ?l17 ?d17 ?k17 ?a18 ?l18 ?d18 ?k18 ?a19 ?l19 ?d19 ?k19 ?a20 ?l20 ?d20 ?k20 ?a21 ?l21 ?d21 ?k21 ?a22 ?l22 ?d22 ?k22 ?a23 ?l23 ?d23 ?k23 ?a24 ?l24 ?d24 ?k24 ?a25 ?l25 ?d25 ?k25 ?a26 ?l26 ?d26 ?k26 ?a27 ?l27 ?d27 ?k27 ?a28 ?l28 ?d28 ?k28 ?a29 ?l29 ?d29 ?k29 ?a30 ?l30 ?d30 ?k30 ?a31 ?l31 ?d31 ?k31 ?a32 ?l32 ?d32 ?k32 ?a33 ?l33 ?d33 ?k33 ?a34 ?l34 ?d34 ?k34 ?a35 ?l35 ?d35 ?k35 ?a36 ?l36 ?d36 ?k36 ?a37 ?l37 ?d37 ?k37 ?a38 ?l38 ?d38 ?k38 ?a39 ?l39 ?d39 ?k39 ?a40 ?l40 ?d40 ?k40 ?a41 ?l41 ?d41 ?k41 ?a42 ?l42 ?d42 ?k42 ?a43 ?l43 ?d43 ?k43 ?a44 ?l44 ?d44 ?k44 ?a45 ?l45 ?d45 ?k45 ?a46 ?l46 ?d46 ?k46 ?a47 ?l47 ?d47 ?k47 ?a48 ?l48 ?d48 ?k48 ?a49 ?l49 ?d49 ?k49 ?a50 ?l50 ?d50 ?k50 ?a51 ?l51 ?d51 ?k51 ?cc_LETTERS ?cc_DIGITS ?cc_MOST_DIGITS ?cc_GREATEST_NUMBER ?cc_MOST_PARTS ?n_abs ?n_all ?n_bool ?n_dict ?n_enumerate ?n_int ?n_isinstance ?n_len ?n_list ?n_max ?n_range ?n_repr ?n_sorted ?n_str ?n_tuple ?n_zip ?gE ?rd ?rg ?vE ?gT ?iT ?lIT ?dIT ?kIT ?tIT ?xLT ?saT ?eCT ?tCT ?kCT ?nPT ?gaT ?ggT ?hCT ?exT ?nkT ?h_a ?h_n ?h_t ?h_m ?cR0 ?al ?s1 ?s2 ?s3 ?s4 ?s5 ?t1 ?t2 ?t3 ?t4 ?t5 ?u1 ?u2 ?v1 ?v2 ?pT ?pK ?pC
    (case a0 => k_is)
    (case l0 => k_is)
    (case d0 => k_is)
    (case k0 => k_is)
    (case a1 => k_is)
    (case l1 => k_is)
    (case d1 => k_is)
    (case k1 => k_is)
    (case a2 => k_is)
    (case l2 => k_is)
    (case d2 => k_is)
    (case k2 => k_is)
    (case a3 => k_is)
    (case l3 => k_is)
    (case d3 => k_is)
    (case k3 => k_is)
    (case a4 => k_is)
    (case l4 => k_is)
    (case d4 => k_is)
    (case k4 => k_is)
    (case a5 => k_is)
    (case l5 => k_is)
    (case d5 => k_is)
    (case k5 => k_is)
    (case a6 => k_is)
    (case l6 => k_is)
    (case d6 => k_is)
    (case k6 => k_is)
    (case a7 => k_is)
    (case l7 => k_is)
    (case d7 => k_is)
    (case k7 => k_is)
    (case a8 => k_is)
    (case l8 => k_is)
    (case d8 => k_is)
    (case k8 => k_is)
    (case a9 => k_is)
    (case l9 => k_is)
    (case d9 => k_is)
    (case k9 => k_is)
    (case a10 => k_is)
    (case l10 => k_is)
    (case d10 => k_is)
    (case k10 => k_is)
    (case a11 => k_is)
    (case l11 => k_is)
    (case d11 => k_is)
    (case k11 => k_is)
    (case a12 => k_is)
    (case l12 => k_is)
    (case d12 => k_is)
    (case k12 => k_is)
    (case a13 => k_is)
    (case l13 => k_is)
    (case d13 => k_is)
    (case k13 => k_is)
    (case a14 => k_is)
    (case l14 => k_is)
    (case d14 => k_is)
    (case k14 => k_is)
    (case a15 => k_is)
    (case l15 => k_is)
    (case d15 => k_is)
    (case k15 => k_is)
    (case a16 => k_is)
    (case l16 => k_is)
    (case d16 => k_is)
    (case k16 => k_is)
    (case a17 => k_is)
    (case l17 => k_is)
    (case d17 => k_is)
    (case k17 => k_is)
    (case a18 => k_is)
    (case l18 => k_is)
    (case d18 => k_is)
    (case k18 => k_is)
    (case a19 => k_is)
    (case l19 => k_is)
    (case d19 => k_is)
    (case k19 => k_is)
    (case a20 => k_is)
    (case l20 => k_is)
    (case d20 => k_is)
    (case k20 => k_is)
    (case a21 => k_is)
    (case l21 => k_is)
    (case d21 => k_is)
    (case k21 => k_is)
    (case a22 => k_is)
    (case l22 => k_is)
    (case d22 => k_is)
    (case k22 => k_is)
    (case a23 => k_is)
    (case l23 => k_is)
    (case d23 => k_is)
    (case k23 => k_is)
    (case a24 => k_is)
    (case l24 => k_is)
    (case d24 => k_is)
    (case k24 => k_is)
    (case a25 => k_is)
    (case l25 => k_is)
    (case d25 => k_is)
    (case k25 => k_is)
    (case a26 => k_is)
    (case l26 => k_is)
    (case d26 => k_is)
    (case k26 => k_is)
    (case a27 => k_is)
    (case l27 => k_is)
    (case d27 => k_is)
    (case k27 => k_is)
    (case a28 => k_is)
    (case l28 => k_is)
    (case d28 => k_is)
    (case k28 => k_is)
    (case a29 => k_is)
    (case l29 => k_is)
    (case d29 => k_is)
    (case k29 => k_is)
    (case a30 => k_is)
    (case l30 => k_is)
    (case d30 => k_is)
    (case k30 => k_is)
    (case a31 => k_is)
    (case l31 => k_is)
    (case d31 => k_is)
    (case k31 => k_is)
    (case a32 => k_is)
    (case l32 => k_is)
    (case d32 => k_is)
    (case k32 => k_is)
    (case a33 => k_is)
    (case l33 => k_is)
    (case d33 => k_is)
    (case k33 => k_is)
    (case a34 => k_is)
    (case l34 => k_is)
    (case d34 => k_is)
    (case k34 => k_is)
    (case a35 => k_is)
    (case l35 => k_is)
    (case d35 => k_is)
    (case k35 => k_is)
    (case a36 => k_is)
    (case l36 => k_is)
    (case d36 => k_is)
    (case k36 => k_is)
    (case a37 => k_is)
    (case l37 => k_is)
    (case d37 => k_is)
    (case k37 => k_is)
    (case a38 => k_is)
    (case l38 => k_is)
    (case d38 => k_is)
    (case k38 => k_is)
    (case a39 => k_is)
    (case l39 => k_is)
    (case d39 => k_is)
    (case k39 => k_is)
    (case a40 => k_is)
    (case l40 => k_is)
    (case d40 => k_is)
    (case k40 => k_is)
    (case a41 => k_is)
    (case l41 => k_is)
    (case d41 => k_is)
    (case k41 => k_is)
    (case a42 => k_is)
    (case l42 => k_is)
    (case d42 => k_is)
    (case k42 => k_is)
    (case a43 => k_is)
    (case l43 => k_is)
    (case d43 => k_is)
    (case k43 => k_is)
    (case a44 => k_is)
    (case l44 => k_is)
    (case d44 => k_is)
    (case k44 => k_is)
    (case a45 => k_is)
    (case l45 => k_is)
    (case d45 => k_is)
    (case k45 => k_is)
    (case a46 => k_is)
    (case l46 => k_is)
    (case d46 => k_is)
    (case k46 => k_is)
    (case a47 => k_is)
    (case l47 => k_is)
    (case d47 => k_is)
    (case k47 => k_is)
    (case a48 => k_is)
    (case l48 => k_is)
    (case d48 => k_is)
    (case k48 => k_is)
    (case a49 => k_is)
    (case l49 => k_is)
    (case d49 => k_is)
    (case k49 => k_is)
    (case a50 => k_is)
    (case l50 => k_is)
    (case d50 => k_is)
    (case k50 => k_is)
    (case a51 => k_is)
    (case l51 => k_is)
    (case d51 => k_is)
    (case k51 => k_is)
    (case cc_LETTERS => k_is)
    (case cc_DIGITS => k_is)
    (case cc_MOST_DIGITS => k_is)
    (case cc_GREATEST_NUMBER => k_is)
    (case cc_MOST_PARTS => k_is)
    (case n_abs => k_is)
    (case n_all => k_is)
    (case n_bool => k_is)
    (case n_dict => k_is)
    (case n_enumerate => k_is)
    (case n_int => k_is)
    (case n_isinstance => k_is)
    (case n_len => k_is)
    (case n_list => k_is)
    (case n_max => k_is)
    (case n_range => k_is)
    (case n_repr => k_is)
    (case n_sorted => k_is)
    (case n_str => k_is)
    (case n_tuple => k_is)
    (case n_zip => k_is)
    (case gE => k_is)
    (case rd => first | k_is | kernel_rfl)
    (case rg => first | k_is | kernel_rfl)
    (case vE => first | k_is | kernel_rfl)
    (case gT => k_is)
    (case iT => k_is)
    (case lIT => k_is)
    (case dIT => k_is)
    (case kIT => k_is)
    (case tIT => k_is)
    (case xLT => k_is)
    (case saT => k_is)
    (case eCT => k_is)
    (case tCT => k_is)
    (case kCT => k_is)
    (case nPT => k_is)
    (case gaT => k_is)
    (case ggT => k_is)
    (case hCT => k_is)
    (case exT => first | k_is | kernel_rfl)
    (case nkT => first | k_is | kernel_rfl)
    (case h_a => first | k_is | kernel_rfl)
    (case h_n => first | k_is | kernel_rfl)
    (case h_t => first | k_is | kernel_rfl)
    (case h_m => first | k_is | kernel_rfl)
    (case cR0 => exact rfl)
    (case al => k_is)
    (case s1 => k_is)
    (case s2 => k_is)
    (case s3 => k_keys)
    (case s4 => rfl)
    (case s5 => kernel_rfl)
    (case t1 => k_is)
    (case t2 => k_is)
    (case t3 => k_keys)
    (case t4 => rfl)
    (case t5 => kernel_rfl)
    (case u1 => k_is)
    (case u2 => kernel_rfl)
    (case v1 => k_is)
    (case v2 => kernel_rfl)
    (case pT => exact hT _ (List.mem_cons_of_mem _ List.mem_cons_self))
    (case pK => kernel_rfl)
    (case pC => kernel_rfl)
