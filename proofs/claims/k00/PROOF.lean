import PyProof.Rows.All
import Wide.All
import OpenK.AllK
import Wide.FinOn
import HandS.ForMost
import HandS.Wide
import HandS.WideBits
import HandS.FStr
import HandS.IsInst
import HandS.CallLocal
import HandS.More
import HandS.Star
import HandS.Keys
import HandS.Zip
import HandS.Lambda
import KE.SortData
import KE.DatumIndex
import KE.GoesEnum
import KE.GoesMore
import HandS.NoneIn
import HandS.Walk
import HandS.Exc
import HandS.ExcValue
import HandS.ExcInit
import HandS.ExcField
import HandS.ClsMeth
import HandS.Defaults
import KE.KDflt
import HandS.WordsExc
import HandS.Style
import HandS.Dict
import HandS.Ends
import HandS.EndBits
import HandS.EndTab
import KE.KNestM
import PySem.Challenge.RW_leastequal_k00_words_and_their_signs
set_option Elab.async false
set_option linter.all false
set_option maxRecDepth 100000
section
set_option maxHeartbeats 4000000
/-! the layer of this proof: defs whose caller's guards are known, repr and sorted of data, .. -/
namespace G1
open PySem PySem.Spec PyProof.Rows L2
/-- a def's promise where no repr is under way around it -/
structure FnG (P : Program) (w : World) (K : PySem.W.Frag) (mg : Str → Option Value) (base : Heap)
    (CX : CXT) (k : Nat) (f : Addr) (fd : FuncData) (ps : List Str) (sp : Sp) : Prop where
  len : ∀ vs H Q E, sp vs H Q E → vs.length = ps.length
  go : ∀ (A : Around) (outer : List Env) (s : Shared) (H : Hp) (args : Args) (us : List Value) (vs : List V) (Q : VK)
    (E : XK), A.guards = some [] → Room k A → Env0 P w K mg base A outer s H → BindsTo s fd args (ps.zip us) →
    Vals vs us → sp vs H Q E →
    codeAny (model P w) A (.call (.ref f) args) (CR CX outer P w H s Q E) s
section
variable {P : Program} {w : World} {K : PySem.W.Frag} {mg : Str → Option Value} {base : Heap}
theorem FnG.mono {CX : CXT} {j k : Nat} {f : Addr} {fd : FuncData} {ps : List Str} {sp : Sp}
    (F : FnG P w K mg base CX j f fd ps sp) (h : j ≤ k) : FnG P w K mg base CX k f fd ps sp :=
  ⟨F.len, fun A outer s H args us vs Q E hg hr =>
    F.go A outer s H args us vs Q E hg (hr.mono h)⟩
/-- by the body -/
theorem okG {x qual : Str} {st : Stmt} {f : Addr} {fd : FuncData} {N ps : List Str} {k : Nat} {sp : Sp}
    (F : Fun K x qual st f fd) (S : FnScope N ps (defScope st))
    (len : ∀ vs H Q E, sp vs H Q E → vs.length = ps.length)
    (hb : ∀ (cdv : Value) (A : Around) (outer : List Env) (s : Shared) (H : Hp) (vs : List V) (Q : VK) (E : XK),
      (A.deeper (envOfC qual (defScope st) s.heap.objs.size f cdv)).guards = some [] →
      Room k (A.deeper (envOfC qual (defScope st) s.heap.objs.size f cdv)) → sp vs H Q E →
      ∃ t, PSs (cxOf CX0 P w K mg base N qual (defScope st) f cdv A outer s H E).nox (defBody st) t ∧
        t { nx := fun _ H' => Q .non H', rt := Q } (start N vs) H) :
    FnG P w K mg base CX0 (k + 1) f fd ps sp := by
  obtain ⟨oc, od, kV, doc, pm, an, cdv, ct, osl, rfl, lk, hcd⟩ := F.ex
  refine ⟨len, fun A outer s H args us vs Q E hg hr e0 bt r hs => ?_⟩
  exact LamX.run_ofS lk hcd S hr e0 bt r (len _ _ _ _ hs) fun hr2 =>
    let ⟨t, h, q⟩ := hb cdv A outer s H vs Q E hg hr2 hs
    ⟨t, h.nox, q⟩
/-- the same for a def that errors may leave -/
theorem okGX {CX : CXT} {x qual : Str} {st : Stmt} {f : Addr} {fd : FuncData} {N ps : List Str} {k : Nat} {sp : Sp}
    (F : Fun K x qual st f fd) (S : FnScope N ps (defScope st))
    (len : ∀ vs H Q E, sp vs H Q E → vs.length = ps.length)
    (hb : ∀ (cdv : Value) (A : Around) (outer : List Env) (s : Shared) (H : Hp) (vs : List V) (Q : VK) (E : XK),
      (A.deeper (envOfC qual (defScope st) s.heap.objs.size f cdv)).guards = some [] →
      Room k (A.deeper (envOfC qual (defScope st) s.heap.objs.size f cdv)) → sp vs H Q E →
      ∃ t, PSs (cxOf CX P w K mg base N qual (defScope st) f cdv A outer s H E) (defBody st) t ∧
        t { nx := fun _ H' => Q .non H', rt := Q } (start N vs) H) :
    FnG P w K mg base CX (k + 1) f fd ps sp := by
  obtain ⟨oc, od, kV, doc, pm, an, cdv, ct, osl, rfl, lk, hcd⟩ := F.ex
  refine ⟨len, fun A outer s H args us vs Q E hg hr e0 bt r hs => ?_⟩
  exact LamX.run_ofS lk hcd S hr e0 bt r (len _ _ _ _ hs) fun hr2 =>
    hb cdv A outer s H vs Q E hg hr2 hs
end
section
variable {X : Cx} {CX : CXT} {k : Nat} {f : Addr} {fd : FuncData} {ps : List Str} {sp : Sp} {dvs : List V}
  {ds : List Value} {E : XK} {x : Str} {p pos : Pos} {e : Expr} {es : List Expr} {t : TA}
theorem run_fnG {pins : List (Addr × Obj)} {σ : L2.St} {H : Hp} {s : Shared} {Q : VK} {us : List Value} {vs : List V}
    (F : FnG X.prog X.w X.K X.mg X.base CX k f fd ps sp) (hg : X.A.guards = some []) (hr : Room k X.A)
    (hb : Binds X.K fd ps ds) (hd : Vals dvs ds) (hx : Passes CX X E)
    (I : Inv X pins σ H s) (r : Vals vs us) (h : sp (vs ++ dvs) H Q E) :
    wpAny (model X.prog X.w) X.A (call (.ref f) us) (EP X pins σ Q) X.xe s := by
  have r2 := r.append hd
  have hl := r2.length.symm.trans (F.len _ _ _ _ h)
  refine wpAny_call (codeAny_mono (F.go X.A X.stack s H ⟨us, []⟩ (us ++ ds) (vs ++ dvs) Q E hg hr I.env0
    (hb s us I.kIn hl) r2 h) fun r s' hq => ?_)
  match r, hq with
  | .error e, hq => exact hx pins σ H s e s' I hq
  | .ok (.ret u), hq => exact I.after hq
theorem pe_callG (F : FnG X.prog X.w X.K X.mg X.base CX k f fd ps sp) (hgd : X.A.guards = some []) (hr : Room k X.A)
    (hg : Gl X x) (hm : X.mg x = some (.ref f)) (hk : PySem.W.keepIn X.K (.ref f) = true)
    (hb : Binds X.K fd ps ds) (hd : Vals dvs ds) (hx : Passes CX X E) (ha : PA X (e :: es) t)
    (hdb : (x == ("__debug__" : Str)) = false := by decide)
    (he : starEach (e :: es) X.env = (false, eval e X.env) :: starEach es X.env := by rfl)
    (hpl : (backTo pos (starEach es X.env)).any (·.1) = false := by rfl) :
    PE X (.Call (.Name x p) (e :: es) [] pos) (tCall sp dvs E t) := by
  constructor
  intro pins s σ H Q I h
  refine wpAny_Call_Name_kw (ld_glob I hg hm ?_ hdb)
  refine PySem.W.callWith_K (h₀ := X.base) I.ok.mod.kin hk
    (thn (ha.run pos pins s σ H _ I h) fun us s1 ⟨vs, H1, I1, r, q⟩ => ⟨I1.kIn, ?_⟩) he hpl
  exact run_fnG F hgd hr hb hd hx I1 r q
end

/-! ### repr of data -/
section
variable {X : Cx}
theorem dp_noDict {K : PySem.W.Frag} {H : Hp} : (∀ {x : V} {d : PyData}, Dp K H x d → d.hasDict = false) := by
  intro x d h
  refine Dp.rec (motive_1 := fun _ d _ => d.hasDict = false) (motive_2 := fun _ ds _ => PyData.hasDictAll ds = false)
    rfl (fun _ => rfl) (fun _ => rfl) (fun _ => rfl) ?_ ?_ rfl ?_ h
  · intro a xs ds _ _ ih
    exact ih
  · intro a xs ds _ _ ih
    exact ih
  · intro v vs d ds _ _ h1 h2
    show (PyData.hasDict d || PyData.hasDictAll ds) = false
    rw [h1, h2]
    rfl
/-- repr(x), x data without dicts -/
def rReprD (K : PySem.W.Frag) : List V → Hp → VK → Prop := fun xs H Q => ∃ x d, xs = [x] ∧ Dp K H x d ∧ d.showable = true ∧
  d.depth ≤ 60 ∧ d.shown.length ≤ sizeLine ∧ Q (.str d.shown) H
theorem call_reprD (hg : X.A.guards = some []) (hu : X.A.units + 64 < cLine) : CallR X (.builtin "repr") (rReprD X.K) := by
  intro pins s σ H xs us Q I r h
  obtain ⟨x, d, rfl, hd, hs, hdp, hz, q⟩ := h
  obtain ⟨u, rfl, r1⟩ := vals1 r
  obtain ⟨as, rd⟩ := Dp.reads I d x u hd r1
  have nd := dp_noDict hd
  cases hd with
  | non =>
    cases r1
    exact PySem.P.repr_of_none ⟨.str _, H, I.tok _, ⟨_, rfl⟩, q⟩
  | bl b =>
    cases r1
    exact PySem.P.repr_of_bool ⟨.str _, H, I.tok _, ⟨_, rfl⟩, q⟩
  | int i =>
    obtain ⟨t, rfl⟩ := r1
    exact PySem.P.repr_of_int (of_decide_eq_true hs) ⟨.str _, H, I.tok _, ⟨_, rfl⟩, q⟩
  | str z =>
    obtain ⟨t, rfl⟩ := r1
    exact PySem.P.repr_of_str ⟨.str _, H, I.tok _, ⟨_, rfl⟩, q⟩ hz
  | lst h1 h2 =>
    cases r1
    exact repr_of_reads' rd hs (PyData.noDict_hsm nd) hg (by omega) (fun _ _ e => e)
      (fun h' u tk hk => ⟨.str _, H, I.kept (fun b o eo => hk b o eo), ⟨_, rfl⟩, q⟩) hz
  | tup h1 h2 =>
    cases r1
    exact repr_of_reads' rd hs (PyData.noDict_hsm nd) hg (by omega) (fun _ _ e => e)
      (fun h' u tk hk => ⟨.str _, H, I.kept (fun b o eo => hk b o eo), ⟨_, rfl⟩, q⟩) hz
end
/-! ### sorted of truths -/
section
variable {X : Cx}
theorem eachB : ∀ {bs : List Bool} {us : List Value}, Vals (bs.map V.bl) us → PySem.W.EachIs (fun v b => v = Value.bool b) us bs
  | [], us, h => by
    cases h
    exact .nil
  | b :: bs, us, h => by
    cases h with
    | cons r1 r2 =>
      cases r1
      exact .cons rfl (eachB r2)
theorem valsB : ∀ {bs : List Bool} {us : List Value}, PySem.W.EachIs (fun v b => v = Value.bool b) us bs → Vals (bs.map V.bl) us
  | [], us, h => by
    cases h
    exact .nil
  | b :: bs, us, h => by
    cases h with
    | cons r1 r2 => exact .cons r1 (valsB r2)
theorem eachImp {α β : Type} {R S : α → β → Prop} (hi : ∀ a b, R a b → S a b) : ∀ {us : List α} {bs : List β}, PySem.W.EachIs R us bs → PySem.W.EachIs S us bs
  | [], _, h => by
    cases h
    exact .nil
  | _ :: _, _, h => by
    cases h with
    | cons r1 r2 => exact .cons (hi _ _ r1) (eachImp hi r2)
def rSortB (K : PySem.W.Frag) : List V → Hp → VK → Prop := fun vs H Q => ∃ (a : Addr) (bs : List Bool), vs = [V.ref a] ∧ SqL K H a (bs.map V.bl) ∧ bs.length ≤ 1000 ∧
  ∀ p, H p = none → Q (.ref p) (upd H p (.lst ((bs.mergeSort (PySem.W.dataLe false PyData.bool)).map V.bl)))
theorem cr_sortedB (hu : X.A.units + 64 < cLine) : CallR X (.builtin "sorted") (rSortB X.K) := by
  intro pins s σ H vs us Q I r h
  obtain ⟨a, bs, rfl, hs, h64, q⟩ := h
  obtain ⟨its, rv, hl, _⟩ := I.list hs
  rw [Vals.ref1 r]
  have he := eachB rv
  have hlen : bs.length ≤ sizeLine := Nat.le_of_lt (small1000 h64)
  refine PySem.W.sorted_data (enc := PyData.bool) (R := fun v b => v = Value.bool b) hl.isList he
    (eachImp (fun v b e => ⟨[], by rw [e]; exact Reads.bool b⟩) he) ?_ ?_ hlen (fun b _ => ?_) fun out h1 h2 => ?_
  · intro d hd d' hd'
    obtain ⟨b, _, rfl⟩ := List.mem_map.mp hd
    obtain ⟨b', _, rfl⟩ := List.mem_map.mp hd'
    rfl
  · refine Or.inr fun d hd => ?_
    obtain ⟨b, _, rfl⟩ := List.mem_map.mp hd
    exact ⟨(by intro z; cases z), (by intro xs z; cases z)⟩
  · show X.A.units + 2 + PyData.depth (PyData.bool b) < cLine
    have : PyData.depth (PyData.bool b) ≤ 1 := by
      first | decide | (unfold PyData.depth; omega)
    omega
  · obtain ⟨ep, he'⟩ := PyProof.Rows.sortedAll_at s.heap its out.toArray
    have hl2 : ((bs.mergeSort (PySem.W.dataLe false PyData.bool)).map V.bl).length ≤ sizeLine := by
      rw [List.length_map, List.length_mergeSort]
      exact hlen
    exact ⟨.ref _, upd H (s.heap.objs.size + 1) (.lst ((bs.mergeSort (PySem.W.dataLe false PyData.bool)).map V.bl)),
      I.laid (t' := s.toks) (fun _ _ => PyProof.Rows.sortedAll_old) (Nat.le_succ _) ⟨hl2, out, ep, valsB h2, by simpa using he'⟩, rfl,
      q _ (I.hok.fresh (Nat.le_succ _))⟩
end
end G1
end
section
set_option maxHeartbeats 4000000
namespace G1
open PySem PySem.Spec PyProof.Rows L2
/-! ### zip of two sequences, each a list (true) or a tuple (false) -/
def SqK (k : Bool) (K : PySem.W.Frag) (H : Hp) (a : Addr) (xs : List V) : Prop := if k = true then SqL K H a xs else SqT K H a xs
def ItK (k : Bool) (h : Heap) (it l : Addr) (i : Nat) : Prop := if k = true then h.IsListIter it l i else h.IsTupleIter it l i
def IsK (k : Bool) (h : Heap) (l : Addr) (its : Array Value) : Prop := if k = true then h.IsList l its else h.IsTuple l its
section
variable {X : Cx} {pins : List (Addr × Obj)} {σ : L2.St} {H : Hp} {s : Shared}
theorem sqK_at {k : Bool} {a : Addr} {xs : List V} (I : Inv X pins σ H s) (h : SqK k X.K H a xs) : ∃ its, Vals xs its ∧ IsK k s.heap a its.toArray ∧ a < s.heap.objs.size := by
  cases k with
  | true =>
    obtain ⟨its, rv, p, _⟩ := I.list (show SqL X.K H a xs from h)
    exact ⟨its, rv, p.isList, p.lt⟩
  | false =>
    obtain ⟨its, rv, p, _⟩ := I.tuple (show SqT X.K H a xs from h)
    obtain ⟨o, ho, _⟩ := id p
    exact ⟨its, rv, p, Heap.lt_size ho⟩
theorem sqK_inj {k : Bool} {a : Addr} {xs ys : List V} (I : Inv X pins σ H s) (h : SqK k X.K H a xs) (h' : SqK k X.K H a ys) : xs = ys := by
  cases k with
  | true => exact I.list_inj h h'
  | false => exact I.tuple_inj h h'
theorem drawsK {prog : Program} {w : World} {A : Around} (hh : A.handled = none) (k : Bool) (it l : Addr) (hne : l ≠ it) (items : Array Value) :
    Draws prog w A it [it, l] items.size (fun i v => items[i]? = some v) fun i h => ItK k h it l i ∧ IsK k h l items := by
  cases k with
  | true => exact Draws.list hh it l hne items
  | false => exact Draws.tuple hh it l hne items
theorem itK_at {k : Bool} {h h' : Heap} {it l : Addr} {i : Nat} (t : ItK k h it l i) (q : ∀ o, h.get? it = some o → h'.get? it = some o) : ItK k h' it l i := by
  cases k with
  | true =>
    obtain ⟨o, ho, hc, hd⟩ := (show h.IsListIter it l i from t)
    exact ⟨o, q _ ho, hc, hd⟩
  | false =>
    obtain ⟨o, ho, hc, hd⟩ := (show h.IsTupleIter it l i from t)
    exact ⟨o, q _ ho, hc, hd⟩
theorem itK_obj {k : Bool} {h : Heap} {it l : Addr} {i : Nat} (t : ItK k h it l i) : ∃ o, h.get? it = some o ∧ ∀ v, o.data ≠ .cell v := by
  cases k with
  | true =>
    obtain ⟨o, ho, hc, hd⟩ := (show h.IsListIter it l i from t)
    exact ⟨o, ho, fun v z => by rw [hd] at z; cases z⟩
  | false =>
    obtain ⟨o, ho, hc, hd⟩ := (show h.IsTupleIter it l i from t)
    exact ⟨o, ho, fun v z => by rw [hd] at z; cases z⟩
end
def ItzM (K : PySem.W.Frag) (k1 k2 : Bool) (a b : Addr) : It :=
  ⟨fun i H => ∃ (xs ys : List V) (x y : V), SqK k1 K H a xs ∧ SqK k2 K H b ys ∧ xs[i]? = some x ∧ ys[i]? = some y,
   fun i H v H' => ∃ T x y, v = .ref T ∧ H T = none ∧ H' = upd H T (.tup [x, y]) ∧ (∀ xs, SqK k1 K H a xs → xs[i]? = some x) ∧ ∀ ys, SqK k2 K H b ys → ys[i]? = some y,
   fun i H => ∃ xs ys : List V, SqK k1 K H a xs ∧ SqK k2 K H b ys ∧ i ≤ xs.length ∧ i ≤ ys.length ∧ (i = xs.length ∨ i = ys.length)⟩
theorem turn_zipM {P : Program} {w : World} {K : PySem.W.Frag} {elts : List Expr} {kk : Nat} {tpos : Pos} {k1 k2 : Bool} {a b z TI TO i1 i2 : Addr} (D : ZipSep2 z TI TO i1 i2 [i1, a] [i2, b]) (ha : a ≠ i1) (hb : b ≠ i2) :
    Turn P w K (.Tuple elts kk tpos) (ItzM K k1 k2 a b) [z, TI, TO, i1, i2] z
      (fun i h => IsZip h z TI TO .none ∧ IsTupOf2 h TI (.ref i1) (.ref i2) ∧ (∃ x y, IsTupOf2 h TO x y) ∧ ItK k1 h i1 a i ∧ ItK k2 h i2 b i) where
  mem := by simp
  obj := fun i h st c hc => by
    obtain ⟨hz, hTI, ⟨x, y, hTO⟩, h1, h2⟩ := st
    have e' : c = z ∨ c = TI ∨ c = TO ∨ c = i1 ∨ c = i2 := by simpa using hc
    rcases e' with rfl | rfl | rfl | rfl | rfl
    · exact ⟨_, hz, fun v q => nomatch q⟩
    · exact ⟨_, hTI, fun v q => nomatch q⟩
    · exact ⟨_, hTO, fun v q => nomatch q⟩
    · exact itK_obj h1
    · exact itK_obj h2
  keep := fun i h h' st k => by
    obtain ⟨hz, hTI, ⟨x, y, hTO⟩, h1, h2⟩ := st
    exact ⟨k _ (by simp) _ hz, k _ (by simp) _ hTI, ⟨x, y, k _ (by simp) _ hTO⟩, itK_at h1 fun o q => k _ (by simp) o q, itK_at h2 fun o q => k _ (by simp) o q⟩
  item := by
    intro X hP hw hK hc i pins s σ H E I hf st hg
    subst hP hw hK
    obtain ⟨hz, hTI, ⟨x0, y0, hTO⟩, h1, h2⟩ := st
    obtain ⟨xs, ys, x, y, hqx, hqy, hx, hy⟩ := hg
    obtain ⟨its, rv, p, _⟩ := sqK_at I hqx
    obtain ⟨its2, rv2, p2, _⟩ := sqK_at I hqy
    obtain ⟨u, hu, ru⟩ := rv.get hx
    obtain ⟨u2, hu2, ru2⟩ := rv2.get hy
    have hzl : z < s.heap.objs.size := Heap.lt_size hz
    have ih : i < its.toArray.size := by
      have := (List.getElem?_eq_some_iff.mp hu).1
      simpa using this
    have ih2 : i < its2.toArray.size := by
      have := (List.getElem?_eq_some_iff.mp hu2).1
      simpa using this
    refine wpAny_pyNext_zipD2_item D (drawsK (A := X.A.in1) (I.ok.hd hc) k1 i1 a ha its.toArray) (drawsK (A := X.A.in1) (I.ok.hd hc) k2 i2 b hb its2.toArray) hz hTI hTO ⟨h1, p⟩ ⟨h2, p2⟩ ih ih2
      fun x1 x2 h' tk e1 e2 z' TO' st1 st2 hT hsz hk => ?_
    have ex1 : u = x1 := by
      have q : some u = some x1 := by rw [← hu, ← e1]; simp
      exact Option.some.inj q
    have ex2 : u2 = x2 := by
      have q : some u2 = some x2 := by rw [← hu2, ← e2]; simp
      exact Option.some.inj q
    subst ex1 ex2
    refine ⟨_, rfl, wpAny_letOwnedTupleGo_zip (s := { s with heap := h', toks := tk }) z' fun h'' z'' sb => ?_⟩
    have hT2 : h''.get? s.heap.objs.size = some { cls := .type "tuple", data := .seq #[u, u2] } := (sb.2 _ (Nat.ne_of_gt hzl)).trans hT
    have new : ObjOk X.prog X.w (upd H s.heap.objs.size (.tup [x, y])) h'' s.heap.objs.size (.tup [x, y]) :=
      ⟨by show 2 ≤ sizeLine; decide, [u, u2], .cons ru (.cons ru2 .nil), ⟨_, hT2, rfl, _, rfl⟩⟩
    have I1 : Inv X pins σ (upd H s.heap.objs.size (.tup [x, y])) { s with heap := h'', toks := tk } :=
      I.turnedNew (t' := tk) (ch := [z, TI, TO, i1, i2]) (fun c o hb q => (sb.2 c (fun q' => hb (by simp [q']))).trans
        (hk c o (fun q' => hb (by simp [q'])) (fun q' => hb (by simp [q'])) (fun q' => hb (by simp [q'])) (fun q' => hb (by simp [q'])) q)) hf (Nat.le_refl _) new
    refine ⟨.ref s.heap.objs.size, _, I1, rfl, ⟨_, x, y, rfl, I.hok.fresh (Nat.le_refl _), rfl, fun l hl => by rw [sqK_inj I hl hqx]; exact hx, fun l hl => by rw [sqK_inj I hl hqy]; exact hy⟩,
      ⟨z'', ?_, ⟨u, u2, ?_⟩, ?_, ?_⟩, fun c hcm => ?_⟩
    · exact (sb.2 _ D.TIz).trans (hk _ _ D.TIz D.TITO D.TIi1 D.TIi2 hTI)
    · exact (sb.2 _ D.TOz).trans TO'
    · exact itK_at st1.1 fun o q => (sb.2 _ D.zi1.symm).trans q
    · exact itK_at st2.1 fun o q => (sb.2 _ D.zi2.symm).trans q
    · have hlt : c < s.heap.objs.size := by
        have e' : c = z ∨ c = TI ∨ c = TO ∨ c = i1 ∨ c = i2 := by simpa using hcm
        rcases e' with rfl | rfl | rfl | rfl | rfl
        · exact hzl
        · exact Heap.lt_size hTI
        · exact Heap.lt_size hTO
        · obtain ⟨_, e1, _⟩ := itK_obj h1; exact Heap.lt_size e1
        · obtain ⟨_, e2, _⟩ := itK_obj h2; exact Heap.lt_size e2
      rw [upd_ne (Nat.ne_of_lt hlt)]
      exact (hf c hcm).1
  done := by
    intro X hP hw hK hc i pins s σ H E I hf st hg
    subst hP hw hK
    obtain ⟨hz, hTI, ⟨x0, y0, hTO⟩, h1, h2⟩ := st
    obtain ⟨xs, ys, hqx, hqy, l1, l2, hend⟩ := hg
    obtain ⟨its, rv, p, _⟩ := sqK_at I hqx
    obtain ⟨its2, rv2, p2, _⟩ := sqK_at I hqy
    have n1 := rv.length
    have n2 := rv2.length
    refine wpAny_pyNext_zipD2_end D (drawsK (A := X.A.in1) (I.ok.hd hc) k1 i1 a ha its.toArray) (drawsK (A := X.A.in1) (I.ok.hd hc) k2 i2 b hb its2.toArray) hz hTI hTO ⟨h1, p⟩ ⟨h2, p2⟩ (by simp; omega) (by simp; omega) (by simp; omega)
      fun h' tk hk => ⟨rfl, I.turnedL (t' := tk) (ch := [z, TI, TO, i1, i2]) (fun c o hb q =>
      hk c o (fun q' => hb (by simp [q'])) (fun q' => hb (by simp [q'])) (fun q' => hb (by simp [q'])) (fun q' => hb (by simp [q'])) q) hf⟩
  self := fun A i s Q E st h => wpAny_pyIter_zip st.1 h
def iZipM (K : PySem.W.Frag) (ta : TA) : TI := fun σ H R => ta σ H fun vs H1 => ∃ k1 k2 a b xs ys, vs = [.ref a, .ref b] ∧ SqK k1 K H1 a xs ∧ SqK k2 K H1 b ys ∧ R (ItzM K k1 k2 a b) H1
theorem beginsK (k : Bool) (l : Addr) (items : Array Value) : ∃ o, Begins (.ref l) o (fun h => IsK k h l items) ∧ ∀ h it, h.get? it = some o → ItK k h it l 0 := by
  cases k with
  | true => exact ⟨_, begins_list l items, fun h it e => ⟨_, e, rfl, rfl⟩⟩
  | false => exact ⟨_, begins_tuple l items, fun h it e => ⟨_, e, rfl, rfl⟩⟩
theorem pi_zipM {X : Cx} {e e2 : Expr} {ta : TA} {p pos tpos : Pos} {elts : List Expr} {kk : Nat} (hg : Gl X "zip") (hm : X.mg "zip" = none) (ha : PA X [e, e2] ta)
    (hs : starEach [e, e2] X.env = (false, eval e X.env) :: starEach [e2] X.env := by rfl) (hpl : (backTo pos (starEach [e2] X.env)).any (·.1) = false := by rfl) :
    PI X (.Tuple elts kk tpos) (.Call (.Name "zip" p) [e, e2] [] pos) (iZipM X.K ta) := by
  refine ⟨fun pins s σ H R I h => ?_⟩
  refine Call_ (ld_blt I hg hm PyProof.Rows.boot_zip (PyProof.Rows.callWith_type1 (thn (ha.run pos pins s σ H _ I h) fun us s1 ⟨vs, H1, I1, r1, q1⟩ => ?_) hs hpl))
  obtain ⟨k1, k2, a, b, xs, ys, rfl, hqx, hqy, q⟩ := q1
  obtain ⟨u1, u2, rfl, r, r'⟩ := vals2 r1
  cases r
  cases r'
  obtain ⟨its, rv, p1, la⟩ := sqK_at I1 hqx
  obtain ⟨its2, rv2, p2, lb⟩ := sqK_at I1 hqy
  obtain ⟨o1, B1, j1⟩ := beginsK k1 a its.toArray
  obtain ⟨o2, B2, j2⟩ := beginsK k2 b its2.toArray
  refine zip_begins2 B1 B2 p1 p2 fun h' hz hTI hTO h1 h2 hsz hk => wpAny_pyIter_zip hz ?_
  have I2 : Inv X pins σ H1 { s1 with heap := h' } := I1.kept (t' := s1.toks) hk
  have D : ZipSep2 (s1.heap.objs.size + 4) (s1.heap.objs.size + 2) (s1.heap.objs.size + 3) s1.heap.objs.size (s1.heap.objs.size + 1) [s1.heap.objs.size, a] [s1.heap.objs.size + 1, b] :=
    zip_sep2 (fun c hc => by rw [List.mem_singleton.mp hc]; exact la) (fun c hc => by rw [List.mem_singleton.mp hc]; exact lb)
  refine ⟨s1.heap.objs.size + 4, [s1.heap.objs.size + 4, s1.heap.objs.size + 2, s1.heap.objs.size + 3, s1.heap.objs.size, s1.heap.objs.size + 1], _, _, H1, rfl, I2,
    turn_zipM D (Nat.ne_of_lt la) (Nat.ne_of_lt (Nat.lt_succ_of_lt lb)), ⟨hz, hTI, ⟨_, _, hTO⟩, j1 _ _ h1, j2 _ _ h2⟩, fun c hcm => ?_, q⟩
  have hle : s1.heap.objs.size ≤ c := by
    simp only [List.mem_cons, List.not_mem_nil, or_false] at hcm
    rcases hcm with rfl | rfl | rfl | rfl | rfl <;> omega
  exact I1.fpOk hle (I1.hok.fresh hle)
theorem walk_zipM {K : PySem.W.Frag} {k1 k2 : Bool} {a b : Addr} {xs ys : List V} {n : Nat} (h1 : xs.length = n) (h2 : ys.length = n) : Walk (ItzM K k1 k2 a b) n (fun H => SqK k1 K H a xs ∧ SqK k2 K H b ys) (YPair (fun i => xs[i]?) (fun i => ys[i]?)) := by
  refine ⟨fun i _ hi q => ?_, fun _ q => ⟨xs, ys, q.1, q.2, by omega, by omega, .inl h1.symm⟩, fun i H v H' _ q y => ?_⟩
  · have g1 : i < xs.length := by omega
    have g2 : i < ys.length := by omega
    exact ⟨xs, ys, xs[i], ys[i], q.1, q.2, by simp [g1], by simp [g2]⟩
  · obtain ⟨T, x, z, h1, h2, h3, h4, h5⟩ := y
    exact ⟨T, x, z, h1, h2, h3, h4 xs q.1, h5 ys q.2⟩
/-! ### d.get(k) of a written dict with text keys -/
def tKGet (K : PySem.W.Frag) (w : World) (td ty : TE) : TE := fun σ H Q => td σ H fun x H1 => ∃ a es n, x = .ref a ∧ KDict K w a es n ∧ ty σ H1 fun y H2 => ∃ (z : Str) (r : Option Value) (v : V), y = .str z ∧ PySem.W.nsIn K a z = some r ∧ RelV v (r.getD .none) ∧ Q v H2
theorem pe_kget {X : Cx} {o e : Expr} {apos cpos : Pos} {td ty : TE} (ho : PE X o td) (he : PE X e ty) (m : M1 X o "get" apos e cpos) : PE X (.Call (.Attribute o "get" apos) [e] [] cpos) (tKGet X.K X.w td ty) := by
  refine ⟨fun pins s σ H Q I h => ?_⟩
  refine wpAny_Call_method m.base m.few m.line PySem.F.plainAttrs_dict PySem.F.slot_dict_get PySem.F.type_dict_get (thn (ho.run pins s σ H _ I h) fun u s1 ⟨x, H1, I1, rx, a, es, n, ex, D, q1⟩ => ?_)
  subst ex
  obtain rfl : u = Value.ref a := rx
  refine ⟨kd_type D I1, fun b e => ?_, ?_⟩
  · cases e
    exact ⟨_, I1.kIn _ _ D.at_, rfl⟩
  rw [m.trees]
  refine Calls.callWith_builtin rfl (Calls.evalArgs_plain (Calls.spliced_cons (thn (he.run pins s1 σ H1 _ I1 q1) fun iv s2 ⟨y, H2, I2, ry, z, r, v, ey, hn, rv, q2⟩ => Calls.spliced_nil ?_)))
  subst ey
  obtain ⟨t, rfl⟩ := (show ∃ t, iv = Value.str z t from ry)
  have hm := PySem.W.mapOf_K (prog := X.prog) (w := X.w) I2.kIn D.at_ D.lit
  refine call_meetsIn PySem.F.slot_dict_get hm.typeIs PySem.F.entry_dict_get (PySem.F.args_dict_get_2 _ _) (meets_dict_get (strKind X.prog X.w) a (strKind_is X.prog X.w z t) D.low) ⟨_, hm, v, H2, I2.tok _, ?_, q2⟩
  show RelV v ((findBy Value.isStrOf es z).getD .none)
  rw [PySem.W.find_K D.at_ hn]
  exact rv
/-! ### a local name that holds some def -/
def HeldG (P : Program) (w : World) (K : PySem.W.Frag) (mg : Str → Option Value) (base : Heap) (k : Nat) (f : Addr) (sp : Sp) : Prop :=
  ∃ fd ps, FnG P w K mg base L2.CX0 k f fd ps sp ∧ PySem.W.keepIn K (.ref f) = true ∧ Binds K fd ps []
def tCallH (P : Program) (w : World) (K : PySem.W.Frag) (mg : Str → Option Value) (base : Heap) (k i : Nat) (t : TA) : TE := fun σ H Q => ∃ f sp, σ[i]? = some (some (.ref f)) ∧ HeldG P w K mg base k f sp ∧ t σ H fun vs H1 => sp vs H1 Q L2.E0
theorem pe_callH {X : Cx} {k i : Nat} {x : Str} {p pos : Pos} {e : Expr} {es : List Expr} {t : TA} (hgd : X.A.guards = some []) (hr : Room k X.A) (hN : X.N[i]? = some x) (hv : Vis X.env.scope x) (ha : PA X (e :: es) t)
    (hdb : (x == ("__debug__" : Str)) = false := by decide) (hcd : (x == ("__classdict__" : Str)) = false := by decide)
    (he : starEach (e :: es) X.env = (false, eval e X.env) :: starEach es X.env := by rfl) (hpl : (backTo pos (starEach es X.env)).any (·.1) = false := by rfl) :
    PE X (.Call (.Name x p) (e :: es) [] pos) (tCallH X.prog X.w X.K X.mg X.base k i t) := by
  constructor
  intro pins s σ H Q I h
  obtain ⟨f, sp, hs, ⟨fd, ps, F, hk, hb⟩, ht⟩ := h
  refine wpAny_Call_Name_kw (thn ((pe_var (pos := p) hN hv hdb hcd).run pins s σ H (fun v H1 => v = .ref f ∧ H1 = H) I ⟨.ref f, hs, rfl, rfl⟩) fun u s1 ⟨v, H1, I1, r1, q1⟩ => ?_)
  obtain ⟨rfl, rfl⟩ := q1
  cases r1
  refine PySem.W.callWith_K (h₀ := X.base) I1.ok.mod.kin hk (thn (ha.run pos pins s1 σ _ _ I1 ht) fun us s2 ⟨vs, H2, I2, r, q⟩ => ⟨I2.kIn, ?_⟩) he hpl
  exact run_fnG (ds := []) (dvs := []) (E := L2.E0) F hgd hr hb .nil pass0 I2 r (by rw [List.append_nil]; exact q)
/-! ### comprehensions whose elements change nothing that stands -/
section
variable {J : It} {n : Nat} {G : Hp → Prop} {Y : Nat → Hp → V → Hp → Prop}
theorem same_new {H1 H : Hp} {D : Addr} {o : HO} (nD : H1 D = none) (s : Same (upd H1 D o) H) : Same H1 H := fun b x e => s b x (by rw [upd_ne (ne_of_none e nD)]; exact e)
theorem set4 {α : Type} {j k : Nat} {a x y : α} (σ : List α) (hjk : j ≠ k) : (((((σ.set k a).set j a).set j x).set k y).set k a).set j a = (σ.set k a).set j a := by
  rw [List.set_set, List.set_set, List.set_comm x a hjk, List.set_set, List.set_set]
theorem thenT {σ : L2.St} {H : Hp} {A : Hp → Prop} {B : Hp → Prop} (h : A H) : tYes σ H fun b H3 => if b = true then A H3 else B H3 := by
  show if true = true then A H else B H
  rw [if_pos rfl]
  exact h
theorem lc_name (w : Walk J n G Y) {j : Nat} {te : TE} {σ : L2.St} {H1 : Hp} {D : Addr} {Qd : Hp → Prop} (xf f : Nat → V) (hy : ∀ i H x H', i < n → G H → Y i H x H' → H' = H ∧ x = xf i) (hz : n ≤ 1000) (nD : H1 D = none)
    (hG : ∀ H', Same H1 H' → G H') (he : ∀ i H (R : VK), i < n → Same H1 H → (∀ H4, Same H H4 → R (f i) H4) → te ((wipe σ [j]).set j (some (xf i))) H R)
    (hd : ∀ H', Same H1 H' → H' D = some (.lst ((List.range n).map f)) → Qd H') :
    ∃ W : Nat → Nat → Hp → Prop, (∃ m, W 0 m (upd H1 D (.lst []))) ∧ ∀ i m H, W i m H →
      (J.stop i H ∧ Qd H) ∨ (J.go i H ∧ ∃ Nx : Hp → Prop, (∀ H', Nx H' → ∃ m', m' < m ∧ W (i + 1) m' H') ∧ ∀ x H', J.yld i H x H' → gName j x (wipe σ [j]) H' fun σ2 H2 => wipe σ2 [j] = wipe σ [j] ∧ tYes σ2 H2 fun b H3 =>
        if b = true then te σ2 H3 fun y H4 => ∃ acc, H4 D = some (.lst acc) ∧ acc.length < sizeLine ∧ Nx (upd H4 D (.lst (acc ++ [y]))) else Nx H3) := by
  refine lc_it w (fun i H => Same H1 H ∧ H D = some (.lst ((List.range i).map f))) ⟨?_, upd_same⟩ (fun i H _ p => hG H p.1) (fun i x H H' hi p y => ?_) fun H p => hd H p.1 p.2
  · exact fun b x e => by
      rw [upd_ne (ne_of_none e nD)]
      exact e
  · obtain ⟨rfl, rfl⟩ := hy i H x H' hi (hG H p.1) y
    refine ⟨?_, thenT (he i H' _ hi p.1 fun H4 s4 => ?_)⟩
    · show ((σ.set j none).set j (some (xf i))).set j none = σ.set j none
      rw [List.set_set, List.set_set]
    · have e4 : H4 D = some (.lst ((List.range i).map f)) := s4 _ _ p.2
      refine ⟨_, e4, ?_, fun b x e => ?_, ?_⟩
      · rw [List.length_map, List.length_range]
        exact Nat.lt_of_lt_of_le hi (Nat.le_of_lt (small1000 hz))
      · rw [upd_ne (ne_of_none e nD)]
        exact s4 _ _ (p.1 _ _ e)
      · rw [upd_same, List.range_succ, List.map_append]
        rfl
/-- two names, the pairs of a zip -/
theorem lc_pair {K : PySem.W.Frag} {xs ys : Nat → Option V} (w : Walk J n G (YPair xs ys)) {j k : Nat} (hjk : j ≠ k) {te : TE} {σ : L2.St} {H1 : Hp} {D : Addr} {Qd : Hp → Prop} (f : Nat → V) (hz : n ≤ 1000) (nD : H1 D = none)
    (hG : ∀ H', Same H1 H' → G H') (he : ∀ i x y H (R : VK), i < n → xs i = some x → ys i = some y → Same H1 H → (∀ H4, Same H H4 → R (f i) H4) → te (((wipe σ [j, k]).set j (some x)).set k (some y)) H R)
    (hd : ∀ H', Same H1 H' → H' D = some (.lst ((List.range n).map f)) → Qd H') :
    ∃ W : Nat → Nat → Hp → Prop, (∃ m, W 0 m (upd H1 D (.lst []))) ∧ ∀ i m H, W i m H →
      (J.stop i H ∧ Qd H) ∨ (J.go i H ∧ ∃ Nx : Hp → Prop, (∀ H', Nx H' → ∃ m', m' < m ∧ W (i + 1) m' H') ∧ ∀ x H', J.yld i H x H' → gTup K 2 (gCons (gName j) (gCons (gName k) gNil)) x (wipe σ [j, k]) H' fun σ2 H2 => wipe σ2 [j, k] = wipe σ [j, k] ∧ tYes σ2 H2 fun b H3 =>
        if b = true then te σ2 H3 fun y H4 => ∃ acc, H4 D = some (.lst acc) ∧ acc.length < sizeLine ∧ Nx (upd H4 D (.lst (acc ++ [y]))) else Nx H3) := by
  refine lc_it w (fun i H => Same H1 H ∧ H D = some (.lst ((List.range i).map f))) ⟨?_, upd_same⟩ (fun i H _ p => hG H p.1) (fun i v H H' hi p hy => ?_) fun H p => hd H p.1 p.2
  · exact fun b x e => by
      rw [upd_ne (ne_of_none e nD)]
      exact e
  · obtain ⟨T, x, y, rfl, nT, rfl, hx, hy⟩ := hy
    have sT : Same H (upd H T (.tup [x, y])) := fun b z e => by
      rw [upd_ne (ne_of_none e nT)]
      exact e
    refine ⟨T, [x, y], rfl, .inl (.inl upd_same), rfl, x, [y], rfl, y, [], rfl, rfl, ?_, thenT (he i x y _ _ hi hx hy (p.1.trans sT) fun H4 s4 => ?_)⟩
    · show (((((σ.set k none).set j none).set j (some x)).set k (some y)).set k none).set j none = (σ.set k none).set j none
      exact set4 σ hjk
    · have e4 : H4 D = some (.lst ((List.range i).map f)) := s4 _ _ (sT _ _ p.2)
      refine ⟨_, e4, ?_, fun b x e => ?_, ?_⟩
      · rw [List.length_map, List.length_range]
        exact Nat.lt_of_lt_of_le hi (Nat.le_of_lt (small1000 hz))
      · rw [upd_ne (ne_of_none e nD)]
        exact s4 _ _ (sT _ _ (p.1 _ _ e))
      · rw [upd_same, List.range_succ, List.map_append]
        rfl
end
/-! ### int(x), len(xs) of one kind -/
section
variable {X : Cx}
def rIntI : List V → Hp → VK → Prop := fun xs H Q => ∃ i, xs = [.int i] ∧ Q (.int i) H
theorem call_intI : CallR X (.type "int") rIntI := by
  intro pins s σ H xs us Q I r h
  obtain ⟨i, rfl, q⟩ := h
  exact call_int1 pins s σ H _ us Q I r (.inl ⟨i, rfl, q⟩)
def rIntB : List V → Hp → VK → Prop := fun xs H Q => ∃ b, xs = [.bl b] ∧ Q (.int (if b = true then 1 else 0)) H
theorem call_intB : CallR X (.type "int") rIntB := by
  intro pins s σ H xs us Q I r h
  obtain ⟨i, rfl, q⟩ := h
  exact call_int1 pins s σ H _ us Q I r (.inr ⟨i, rfl, q⟩)
def rLenL (K : PySem.W.Frag) : List V → Hp → VK → Prop := fun xs H Q => ∃ p ys, xs = [.ref p] ∧ SqL K H p ys ∧ Q (.int ys.length) H
theorem call_lenL : CallR X (.builtin "len") (rLenL X.K) := by
  intro pins s σ H xs us Q I r h
  obtain ⟨p, ys, rfl, hs, q⟩ := h
  exact call_len_seq pins s σ H _ us Q I r ⟨p, ys, rfl, .inl hs, q⟩
end
theorem ixL {K : PySem.W.Frag} {H : Hp} {p : Addr} {xs : List V} {i : Int} {v : V} {Q : VK} (h : SqL K H p xs) (e : atI xs i = some v) (q : Q v H) : rIxL K (.ref p) (.int i) H Q := ⟨p, xs, i, v, rfl, rfl, h, e, q⟩
theorem setL {H : Hp} {p : Addr} {xs : List V} {i : Int} {j : Nat} {v : V} {R : Hp → Prop} (h : H p = some (.lst xs)) (e : ixN xs.length i = some j) (q : R (upd H p (.lst (xs.set j v)))) : rSetL (.ref p) (.int i) v H R := ⟨p, xs, i, j, rfl, rfl, h, e, q⟩
theorem ixK {X : Cx} {K : PySem.W.Frag} {r : PySem.W.Frag → R2} (h : IxR X (r X.K)) (e : X.K = K) : IxR X (r K) := by
  rw [← e]
  exact h
theorem callK {X : Cx} {K : PySem.W.Frag} {f : Value} {r : PySem.W.Frag → List V → Hp → VK → Prop} (h : CallR X f (r X.K)) (e : X.K = K) : CallR X f (r K) := by
  rw [← e]
  exact h
end G1
end
section
set_option maxHeartbeats 4000000
/-! the layer of these proofs: an error that is caught and kept -/
namespace G2
open PySem PySem.Spec PyProof.Rows L2
/-- an error of the class at C with its dict at d stands at a -/
def ExK (C : Addr) (d : Option Addr) (a : Addr) : HO := .ext fun h =>
  ∃ (oe : Obj) (vs : Array Value), h.get? a = some oe ∧ Zc (.ref C) d oe ∧ oe.data = .fields vs
theorem exK_ok {P : Program} {w : World} {H : Hp} {h : Heap} {a C : Addr} {d : Option Addr} {oe : Obj} {vs : Array Value}
    (e : h.get? a = some oe) (z : Zc (.ref C) d oe) (f : oe.data = .fields vs) : ObjOk P w H h a (ExK C d a) :=
  ⟨⟨oe, vs, e, z, f⟩, ⟨oe, e⟩, fun _ _ ⟨o, v, q, r⟩ k => ⟨o, v, k o q, r⟩⟩
section
variable {X : Cx} {pins : List (Addr × Obj)} {σ : L2.St} {H : Hp} {s t : Shared} {B : Heap} {a C : Addr} {d : Option Addr}
/-- back on the ground, the error kept -/
theorem landK (I : Inv X pins σ H s) (nb : ∀ b o, s.heap.get? b = some o → b ∉ frs X.stack → B.get? b = some o)
    (st : B.StaysIn t.heap) (up : s.heap.UpToSlots t.heap) (os : t.os = s.os) (ag : AllBare t.gens)
    (na : H a = none) (n0 : s.heap.get? a = none) (new : ObjOk X.prog X.w (upd H a (ExK C d a)) t.heap a (ExK C d a)) :
    Inv X pins σ (upd H a (ExK C d a)) t := by
  have fr : ∀ b ∈ frs X.stack, ∀ o, s.heap.get? b = some o → ∃ sl, t.heap.get? b = some { o with slots := sl } := by
    intro b hb o e
    obtain ⟨_, o2, e2, hd⟩ := I.stack.mem hb
    rw [e] at e2
    cases e2
    exact up b o e hd
  have ne : ∀ {b : Addr} {o : Obj}, s.heap.get? b = some o → b ≠ a := by
    intro b o e z
    rw [z, n0] at e
    cases e
  have hok : HOk X.prog X.w (upd H a (ExK C d a)) t.heap :=
    HOk.laidN ((I.inGround nb).kept st) (fun _ _ e => e) na new
  have J := I.call (ch := []) (h' := t.heap) (g' := t.gens) (t' := t.toks) (d' := t.drawn) (H' := upd H a (ExK C d a))
    { keep := fun b o e _ hb _ => st b o (nb b o e hb)
      slot := fun b o e _ hb _ => fr b hb o e
      free := fun b o e n _ => by
        rw [upd_ne (ne e)]
        exact n
      there := fun b o e _ => by
        by_cases hb : b ∈ frs X.stack
        · obtain ⟨sl, q⟩ := fr b hb o e
          exact ⟨_, q⟩
        · exact ⟨o, st b o (nb b o e hb)⟩
      tups := fun b xs e => by
        rw [upd_ne (ne_of_none e na)]
        exact e
      frzs := fun b o u e => by
        rw [upd_ne (ne_of_none e na)]
        exact e
      tbls := fun b ps e => ⟨#[], by
        rw [upd_ne (ne_of_none e na), e]
        simp⟩ } hok ag (fun _ z => nomatch z)
  obtain ⟨b1, b2, b3, b4, b5⟩ := t
  obtain rfl : b5 = s.os := os
  exact J
/-- within the suite, nothing more is pinned -/
theorem inSuite (I : Inv X pins σ H s) (a : Addr) : Inv (X.suite a (X.pn ++ pins)) [] σ H s where
  ok := I.ok.suite _ _
  os := I.os
  bare := I.bare
  base := I.base
  loc := I.loc
  cell := I.cell
  free := I.free
  freeC := I.freeC
  pin := fun p hp => I.pin p (by rw [List.append_nil] at hp; exact hp)
  hok := I.hok
  len := I.len
theorem outSuite {q : List (Addr × Obj)} (I : Inv (X.suite a (X.pn ++ pins)) q σ H s) (ok : X.Ok) : Inv X pins σ H s where
  ok := ok
  os := I.os
  bare := I.bare
  base := I.base
  loc := I.loc
  cell := I.cell
  free := I.free
  freeC := I.freeC
  pin := fun p hp => I.pin p (List.mem_append_left _ hp)
  hok := I.hok
  len := I.len
end
/-- what `except c as n`, n at slot i, wishes of an error of the body; the suite has the error itself at a -/
def wAsK (K : PySem.W.Frag) (c : Value) (i : Nat) (ts : Addr → TS) (Wout : WX) (D : Ends) : WX := fun cls d σ H =>
  ∃ b, PySem.W.exmOne K cls c = some b ∧
    (b = true → ∃ C, cls = .ref C ∧ ∀ a, H a = none →
      ts a { nx := fun σ2 H2 => D.nx (σ2.set i none) H2, rt := D.rt,
             bk := fun σ2 H2 => D.bk (σ2.set i none) H2, ct := fun σ2 H2 => D.ct (σ2.set i none) H2 }
        (σ.set i (some (.ref a))) (upd H a (ExK C d a))) ∧
    (b = false → Wout cls d σ H)
section
variable {X : Cx} {x n : Str} {c : Value} {i : Nat} {body rest : List Stmt} {st0 : Stmt} {np hpos pos : Pos} {tb : WX → TS}
  {ts : Addr → TS} {Wout : WX}
theorem ps_tryK (stk : X.stack = X.env :: X.outer) (frm : X.env.frame = some X.env.locals) (nd : X.N.Nodup)
    (hi : X.N[i]? = some n) (lc : X.env.kindOf n = some .local) (nm : Names X x c) (tk : Takes X Wout)
    (hb : ∀ (W : WX) (pn : List (Addr × Obj)) (xe : Value → Shared → Prop), Takes (X.tr pn xe) W →
      PassesOwn (model X.prog X.w) X.A X.env xe → PSs (X.tr pn xe) body (tb W))
    (hsu : ∀ (a : Addr) (pn : List (Addr × Obj)), PSs (X.suite a pn) (st0 :: rest) (ts a)) :
    PS X (.Try body [.ExceptHandler (some (.Name x np)) (some n) (st0 :: rest) hpos] [] [] pos)
      (fun D σ H => tb (wAsK X.K c i ts Wout D) D σ H) := by
  refine ⟨fun pins s σ H D I h => ?_⟩
  have ok := I.ok
  have frames : X.A.frames = some (X.env :: X.outer) := by
    rw [ok.frames, stk]
  have isLoc : Loc X.env.scope n := .inl lc
  have inTry := hb (wAsK X.K c i ts Wout D) (X.pn ++ pins)
    (fun e s1 => wpAny (model X.prog X.w) X.A (noteFrame e X.env) (fun _ s2 =>
      wpAny (model X.prog X.w) X.A (setFlight e none) (fun _ s3 =>
        wpAny (model X.prog X.w) X.A
          (handleBy e X.env [.ExceptHandler (some (.Name x np)) (some n) (st0 :: rest) hpos]) (SP X pins D) X.xe s3)
        X.xe s2) X.xe s1) (fun u s1 air => ?_) PassesOwn.looking
  · refine wpAny_Try_except (wpAny_mono (inTry.run [] s σ H D (I.toTry _) h) (fun f s1 hsp => ?_) fun e s1 he => he)
    match f, hsp with
    | .next, ⟨σ2, H2, J, q⟩ => exact wpAny_execs_nil ⟨σ2, H2, J.ofTry ok, q⟩
    | .brk, ⟨σ2, H2, J, q⟩ => exact ⟨σ2, H2, J.ofTry ok, q⟩
    | .cont, ⟨σ2, H2, J, q⟩ => exact ⟨σ2, H2, J.ofTry ok, q⟩
    | .ret u, ⟨v, σ2, H2, J, r, q⟩ => exact ⟨v, σ2, H2, J.ofTry ok, r, q⟩
  · obtain ⟨a, B, sI, pins2, σ2, H2, cls, d, rfl, J2, nb, up, sky, na, os, ag, b, hb1, yes, no⟩ := air
    have J : Inv X pins σ2 H2 sI := J2.ofTry ok
    have sky2 : Sky B (X.env :: X.outer) a (Zc cls d) X.env.locals s1.heap := by
      rw [← stk]
      exact sky
    show wpAny (model X.prog X.w) X.A (noteFrame (.ref a) X.env) _ _ _
    refine Sky.land Zc.steady frames frm sky2 fun h3 fl3 up3 => ?_
    have J3 : Inv X pins σ2 H2 { s1 with heap := h3 } := J.landed nb fl3.1 (up.trans up3) os ag
    obtain ⟨oe3, vs3, he3, hz3, hd3⟩ := fl3.there
    have off : ∀ {hh : Heap} {o : Obj} {vs : Array Value}, hh.FunFrames B (X.env :: X.outer) → hh.get? a = some o →
        o.data = .fields vs → a ∉ frs (X.env :: X.outer) := by
      intro hh o vs ff e dd hm
      obtain ⟨_, o2, e2, hnf⟩ := ff.mem hm
      rw [e] at e2
      cases e2
      exact hnf _ dd
    have nfr := off fl3.2.2.1 he3 hd3
    have nfrS : a ∉ frs X.stack := by
      rw [stk]
      exact nfr
    have n0 : sI.heap.get? a = none := by
      cases e : sI.heap.get? a with
      | none => rfl
      | some o =>
        have z := nb a o e nfrS
        rw [fl3.2.1] at z
        cases z
    refine wpAny_handleBy_cons (codeAny_handlers_test ?_) (by intro q; cases q)
    have S3 := inSuite J3 a
    have LT : PySem.W.Looks (model X.prog X.w) h3 (typeOf (.ref a)) cls := by
      intro A Q E s k q
      refine wpAny_typeOf_ref (k _ _ he3) ?_
      rw [hz3.1]
      exact q
    have LM := PySem.W.exm_one (M := model X.prog X.w) (J3.kIn) LT hb1
    have test : ∀ {Q : Value → Shared → Prop} {E : Value → Shared → Prop}, Q c { s1 with heap := h3 } →
        wpAny (model X.prog X.w) (X.A.mark (some (.ref a))) (eval (.Name x np) X.env) Q E { s1 with heap := h3 } := by
      intro Q E q
      obtain ⟨hg, hdbg, hm | ⟨hm, hv, hnn⟩⟩ := nm
      · exact ld_glob (X := X.suite a (X.pn ++ pins)) S3 hg hm q hdbg
      · exact ld_blt (X := X.suite a (X.pn ++ pins)) S3 hg hm hv q hnn hdbg
    refine test (LM.here ?_)
    cases b with
    | true =>
      obtain ⟨C, rfl, here⟩ := yes rfl
      refine codeAny_handlers_suite_as (HandSPX.lands_againZ fl3 fun h4 fl4 up4 => ?_)
      obtain ⟨oe4, vs4, he4, hz4, hd4⟩ := fl4.there
      have J4 := landK (C := C) (d := d) (t := { s1 with heap := h4 }) J nb fl4.1 ((up.trans up3).trans up4) os ag na n0 (exK_ok he4 hz4 hd4)
      have S4 := inSuite J4 a
      refine store_ok (X := X.suite a (X.pn ++ pins)) (v := .ref a) S4 nd hi isLoc rfl (fun s5 S5 => ?_) (.inr lc)
      have run := (hsu a (X.pn ++ pins)).run [] s5 _ _ _ S5 (here a na)
      refine wpAny_mono run (fun f s6 hsp => ?_) fun _ _ z => False.elim z
      have fin : ∀ {σ6 : L2.St} {H6 : Hp} {Q : Shared → Prop}, Inv (X.suite a (X.pn ++ pins)) [] σ6 H6 s6 →
          (∀ s7, Inv X pins (σ6.set i none) H6 s7 → Q s7) →
          wpAny (model X.prog X.w) X.A (do bindName X.env n .none; unbindBehindTheSuite X.env n hpos) (fun _ s7 => Q s7) X.xe s6 :=
        fun S6 hq => gone_ok (outSuite S6 ok) nd hi lc hq
      match f, hsp with
      | .next, ⟨σ6, H6, S6, q6⟩ => exact fin S6 fun s7 J7 => ⟨_, _, J7, q6⟩
      | .brk, ⟨σ6, H6, S6, q6⟩ => exact fin S6 fun s7 J7 => ⟨_, _, J7, q6⟩
      | .cont, ⟨σ6, H6, S6, q6⟩ => exact fin S6 fun s7 J7 => ⟨_, _, J7, q6⟩
      | .ret u, ⟨v6, σ6, H6, S6, r6, q6⟩ => exact fin S6 fun s7 J7 => ⟨_, _, _, J7, r6, q6⟩
    | false =>
      show wpAny _ X.A (handleBy (.ref a) X.env []) _ _ _
      refine wpAny_handleBy_nil ?_
      obtain ⟨k1, k2, k3, oe, vs, T, oT, ts', he, hz, hd, hone, hr⟩ := id fl3
      unfold PySem.passOn
      refine wpAny_bind (wpAny_field he hd hone ?_)
      rw [if_neg (show ¬ ((Value.ref T == Value.none) = true) from by simp)]
      have out : wpAny (model X.prog X.w) X.A (setFlight (.ref a) X.env.frame) (fun _ s4 =>
          wpAny (model X.prog X.w) X.A (throw (.ref a) : Sem Flow) (SP X pins D) X.xe s4) X.xe { s1 with heap := h3 } := by
        rw [frm]
        refine HandSPX.setFlight_upZ fl3 fun h4 hh4 up4 => wpAny_throw (tk _ _ ?_)
        refine ⟨a, B, sI, pins, σ2, H2, cls, d, rfl, J, nb, (up.trans up3).trans up4, .inr (.inr ?_), na, os, ag, no rfl⟩
        rw [stk]
        exact hh4
      first
        | exact wpAny_bind (wpAny_pure (wpAny_bind out))
        | exact wpAny_bind out
end
/-! ### isinstance, the fields, the class above's __init__ -/
theorem ans_same {a C : Addr} {oe : Obj} (hc : oe.cls = .ref C) :
    Answers (fun s => s.heap.get? a = some oe) (.ref a) (.ref C) true := by
  intro dep tk prog w A R s hs
  obtain ⟨h0, g, d, tt, os⟩ := s
  obtain ⟨p, hq⟩ := hs
  have LT : PySem.W.Looks (model prog w) h0 (typeOf (.ref a)) (.ref C) := by
    intro A Q E s k q
    refine wpAny_typeOf_ref (k _ _ p) ?_
    rw [hc]
    exact q
  unfold Builtin.«isinstance.nested»
  refine wpAny_bind (LT.at ?_)
  rw [if_pos (beq_self_eq_true _)]
  first
    | exact wpAny_bind (wpAny_rule (hq tt))
    | exact wpAny_bind (wpAny_rule (wpAny_pure (hq tt)))
    | exact wpAny_rule (hq tt)
    | exact wpAny_pure (hq tt)
/-- isinstance of what may be such an error, of the very class that is asked for -/
def rIsC (K : PySem.W.Frag) : List V → Hp → VK → Prop := fun xs H Q =>
  rIsi K xs H Q ∨ ∃ (a C : Addr) (d : Option Addr), xs = [.ref a, .ref C] ∧ H a = some (ExK C d a) ∧ Q (.bl true) H
theorem call_isC {X : Cx} : CallR X (.builtin "isinstance") (rIsC X.K) := by
  intro pins s σ H xs us Q I r h
  rcases h with h | ⟨a, C, d, rfl, ha, q⟩
  · exact call_isi pins s σ H xs us Q I r h
  · obtain ⟨u1, u2, rfl, r1, r2⟩ := vals2 r
    cases (show u1 = Value.ref a from r1)
    cases (show u2 = Value.ref C from r2)
    obtain ⟨⟨oe, vs, ho, hz, hd⟩, _, _⟩ := I.hok a _ ha
    refine call_isinstance (S := fun _ R s => s.heap.get? a = some oe ∧ ∀ tk, R (.ok (.ret (.bool true))) { s with toks := tk })
      (fun prog w A R s hs => isinstance_outer (ans_same hz.1 0 _ prog w A R s hs) (fun z => nomatch z)) ⟨ho, fun tk => ?_⟩
    exact ⟨.bl true, H, I.tok tk, rfl, q⟩
/-- e.f, e such an error -/
def tFk (K : PySem.W.Frag) (f : Str) (te : TE) : TE := fun σ H Q => te σ H fun x H1 =>
  ∃ (a C dd : Addr) (fs : List (Str × V)) (v : V), x = .ref a ∧ H1 a = some (ExK C (some dd) a) ∧ XfC K C ∧
    PySem.W.findIn K (.ref C) f = some none ∧ H1 dd = some (.xd fs) ∧ fs.lookup f = some v ∧ Q v H1
theorem pe_fk {X : Cx} {e : Expr} {f : Str} {te : TE} {pos : Pos} (he : PE X e te)
    (hb : attributeBase e f X.env (eval e X.env) = eval e X.env := by rfl) : PE X (.Attribute e f pos) (tFk X.K f te) := by
  refine ⟨fun pins s σ H Q I h => ?_⟩
  refine attr_of hb (thn (he.run pins s σ H _ I h) fun u s1 hh => ?_)
  obtain ⟨x, H1, I1, rx, a, C, dd, fs, v, rfl, ha, T, no, hd, l, q⟩ := hh
  obtain rfl : u = Value.ref a := rx
  obtain ⟨⟨oe, vs, ho, hz, hf⟩, _, _⟩ := I1.hok a _ ha
  obtain ⟨mA, hns, hr⟩ := (show ObjOk X.prog X.w H1 s1.heap dd (.xd fs) from I1.hok dd _ hd)
  obtain ⟨od, hod, hl⟩ := lookIn_ns hns
  obtain ⟨u, hu, ru⟩ := RelO.some_of (v := v) (o := mA f) (by
    rw [← l]
    exact hr f)
  have J : PySem.W.InstAt s1.heap a oe C (some od) := by
    refine ⟨ho, hz.1, ?_, ?_⟩
    · unfold PySem.W.notCls
      rw [hf] <;> rfl
    · rw [hz.2]
      exact hod
  have found := PySem.W.findObj_own T.hdC no rfl (by
    rw [hl, hu])
  exact HandSPX.exc_get I1.kIn J T.ga T.gg T.exC found (handed_of ru) ⟨v, H1, I1.tok _, ru, q⟩
/-- D.__init__(self, ..), D an own class that has none of its own, above it ValueError -/
theorem pe_above {X : Cx} {x : Str} {D : Addr} {mc : Value} {pl : Sem Bool} {e : Expr} {es : List Expr} {ta : TA} {p1 p2 pos : Pos}
    (hg : Gl X x) (hm : X.mg x = some (.ref D)) (r : ClX.CRead X.K D mc)
    (at_ : PySem.W.findCls X.K (.ref D) mc "__init__" = some (.val (.builtin "ValueError.__init__"))) (ha : PA X (e :: es) ta)
    (hdb : (x == ("__debug__" : Str)) = false := by decide)
    (hc : eval (.Call (.Attribute (.Name x p1) "__init__" p2) (e :: es) [] pos) X.env = (do
      let ov ← eval (.Name x p1) X.env
      standAt p2.atName
      let (f, first) ← holding [ov] (getMethod ov "__init__" pl)
      callWith pos f first (backTo pos (starEach (e :: es) X.env)) (backToKw pos (keywordEach [] X.env))) := by rfl)
    (he : starEach (e :: es) X.env = (false, eval e X.env) :: starEach es X.env := by rfl)
    (hpl : (backTo pos (starEach es X.env)).any (·.1) = false := by rfl) :
    PE X (.Call (.Attribute (.Name x p1) "__init__" p2) (e :: es) [] pos) (tVeI X.K ta) := by
  refine ⟨fun pins s σ H Q I h => ?_⟩
  refine PySem.W.methodCall_KW (ld_glob I hg hm ?_ hdb) hc
  refine PySem.W.method_cls I.kIn r.ga (PySem.W.cls_value I.kIn r.rd at_ (by decide +kernel) ?_)
  show wpAny _ _ (callWith pos (Value.builtin "ValueError.__init__") [] (backTo pos (starEach (e :: es) X.env)) []) _ _ _
  refine PyProof.Rows.callWith_method1 (thn (ha.run pos pins _ σ H _ (I.tok _) h) fun us s1 hh => ?_) he hpl
  obtain ⟨vs, H1, I1, r1, a, C, ws, rfl, hl, T, ea, q⟩ := hh
  cases r1 with
  | @cons _ u0 _ ur ra rest =>
    obtain rfl : u0 = Value.ref a := ra
    refine oinit_ok T I1 ea ?_ fun s' J => ⟨.non, H1, J, rfl, q⟩
    rw [← Paired.length rest, sizeLine_eq]
    omega
end G2
end
section
set_option maxHeartbeats 4000000
/-! the layer of these proofs: a lambda with one default, handed to a def that calls it -/
namespace G2
open PySem PySem.Spec PyProof.Rows L2 LamX
/-- one parameter, never told, of no name that the def around it has; else captured names and globals -/
structure LamD (N : List Str) (dn : Str) (sc scope : Scope) : Prop where
  kind : scope.kind = .function
  co : scope.isCoroutine = false
  gen : scope.isGenerator = false
  at_ : scope.names.lookup dn = some .local
  noc : ∀ y ∈ scope.names, y.2 ≠ .cell
  one : ∀ y ∈ scope.names, y.2 = .local → y.1 ∉ N
  free : ∀ y ∈ scope.names, y.2 = .free → sc.names.lookup y.1 = some .cell ∨ sc.names.lookup y.1 = some .free
def lamDB (N : List Str) (dn : Str) (sc scope : Scope) : Bool :=
  decide (scope.kind = .function) && !scope.isCoroutine && !scope.isGenerator && decide (scope.names.lookup dn = some .local) &&
    scope.names.all fun y => !decide (y.2 = .cell) && (!decide (y.2 = .local) || decide (y.1 ∉ N)) &&
      (!decide (y.2 = .free) || (decide (sc.names.lookup y.1 = some .cell) || decide (sc.names.lookup y.1 = some .free)))
theorem lamD_by {N : List Str} {dn : Str} {sc scope : Scope} (h : lamDB N dn sc scope = true) : LamD N dn sc scope := by
  unfold lamDB at h
  simp only [Bool.and_eq_true, Bool.or_eq_true, Bool.not_eq_true', decide_eq_true_eq, decide_eq_false_iff_not,
    List.all_eq_true] at h
  obtain ⟨⟨⟨⟨k1, k2⟩, k3⟩, k4⟩, k5⟩ := h
  refine ⟨k1, k2, k3, k4, fun y hy => (k5 y hy).1.1, fun y hy e => ?_, fun y hy e => ?_⟩
  · exact (k5 y hy).1.2.resolve_left (fun z => z e)
  · exact (k5 y hy).2.resolve_left (fun z => z e)
section
variable {X : Cx} {pins : List (Addr × Obj)} {σ : L2.St} {H HZ : Hp} {s s1 : Shared}
theorem LamD.has {dn : Str} {scope : Scope} (L : LamD X.N dn X.env.scope scope) (ok : X.Ok) :
    ∀ y ∈ scope.names, y.2 = .free → ∃ c, X.env.cells.lookup y.1 = some c := by
  intro y hy e
  rcases L.free y hy e with k | k
  · exact ok.has _ (.inl k)
  · exact ok.has _ (.inr k)
abbrev lname (X : Cx) : Str := X.env.qual ++ "<lambda>"
/-- the function object of a lambda whose defaults stand at dv -/
abbrev lamObj (X : Cx) (params : Arguments) (body : Expr) (scope : Scope) (dv doc pm : Value) (c' : Addr) (ctv : Value) : Obj :=
  PySem.W.kdv_obj "<lambda>" (lname X) params (.expr body) scope (cloFrom X.env.cells scope.names []) dv doc pm c' ctv
theorem not_frame {f : Addr} (I : Inv X pins σ H s) (hf : s.heap.objs.size ≤ f) : f ∉ frs X.stack := by
  intro z
  rcases List.mem_cons.mp (I.stkSub _ z) with e | e
  · have lt := I.lt
    rw [← e] at lt
    exact Nat.lt_irrefl _ (Nat.lt_of_lt_of_le lt hf)
  · exact I.nofs hf e
/-- the function behind its default: its code is new, or found in the table -/
theorem lam_tailD {T : List (Addr × Str)} {c P t0 : Addr} {params : Arguments} {body : Expr} {scope : Scope} {pos : Pos} {z : Int} {fl : Nat}
    {E : Value → Shared → Prop} {Q : Value → Shared → Prop} (I : Inv X pins σ H s) (TB : TabB X.base X.mg c P)
    (hcode : X.env.code = .ref c) (hm : (P, lname X) ∈ T) (hu : ∀ p ∈ T, p.1 = P → p.2 = lname X) (hT : Tabs T H)
    (h0 : H t0 = some (.tup [.int z])) (hfree : ∀ y ∈ scope.names, y.2 = .free → ∃ c, X.env.cells.lookup y.1 = some c)
    (h : ∀ (f c' : Addr) (doc pm ctv : Value) (H1 : Hp) (s' : Shared), Inv X pins σ H1 s' → ExtN H H1 → Tabs T H1 →
      s'.heap.get? f = some (lamObj X params body scope (.ref t0) doc pm c' ctv) → H1 f = none →
      f ∉ frs X.stack → H1 c' = some (CodeO c' (lname X)) → Q (.ref f) s') :
    wpAny (model X.prog X.w) X.A (makeTail "<lambda>" (lname X) params (.expr body) scope X.env (.ref t0) .none none pos fl) Q E s := by
  obtain ⟨ps, hP, ht, ha⟩ := hT _ hm
  have bP : s.heap.BuiltinsAt X.mg P := TB.bm.keeps I.bk
  have oP : s.heap.get? P = some { cls := .none, data := .fields ps } := I.hok P _ hP
  cases hc : codeAmong pos ps.toList with
  | some cv =>
    obtain ⟨c', rfl, hco⟩ := ha pos cv hc
    refine PySem.W.kdv_makeTailHit (mg := X.mg) (c := c) (P := P) (ps := ps) (closure_ok hfree) I.ok.glob
      (I.mod.glob.keeps I.bk) hcode (TB.code.keeps I.bk) oP ht hc bP fun ctv doc h' tk hx hsz => ?_
    have J : Inv X pins σ H { s with heap := h'.push (lamObj X params body scope (.ref t0) doc ((X.mg "__name__").getD .none) c' ctv), toks := tk } :=
      I.kept fun b o e => Heap.get?_push_of_some _ (hx b o e)
    exact h h'.objs.size c' doc _ ctv H _ J (ExtN.refl H) hT (Heap.get?_push_size _ rfl) (I.hok.fresh hsz) (not_frame I hsz) hco
  | none =>
    refine PySem.W.kdv_makeTail (mg := X.mg) (c := c) (P := P) (ps := ps) (closure_ok hfree) I.ok.glob
      (I.mod.glob.keeps I.bk) hcode (TB.code.keeps I.bk) oP ht hc TB.gP bP fun c' ctv doc h' tk hx hge hlt hrec htb => ?_
    obtain ⟨c2, oc, vs, t, e2, hoc, hdat, hv⟩ := hrec
    cases e2
    have grown : s.heap.objs.size ≤ h'.objs.size := Nat.le_trans hge (Nat.le_of_lt hlt)
    have nC : H c' = none := I.hok.fresh hge
    have three : (ps ++ #[rawInt pos.line, rawInt pos.col, .ref c']).toList = ps.toList ++ [rawInt pos.line, rawInt pos.col, .ref c'] := by
      simp
    have J := inv_table (t' := tk) (more := #[rawInt pos.line, rawInt pos.col, .ref c'])
      (h' := h'.push (lamObj X params body scope (.ref t0) doc ((X.mg "__name__").getD .none) c' ctv)) I hP
      (fun b o hb e => Heap.get?_push_of_some _ (hx b o hb e)) (Heap.get?_push_of_some _ htb) hge
      ⟨oc, vs, t, Heap.get?_push_of_some _ hoc, hdat, hv⟩
    have ext : ExtN H (upd (upd H P (.tbl (ps ++ #[rawInt pos.line, rawInt pos.col, .ref c']))) c' (CodeO c' (lname X))) := by
      intro b o e n
      have nb : b ≠ P := fun q => by
        rw [q, hP] at e
        exact n ps (Option.some.inj e).symm
      rw [upd_ne (ne_of_none e nC), upd_ne nb]
      exact e
    refine h h'.objs.size c' doc _ ctv _ _ J ext (fun p hp => ?_) (Heap.get?_push_size _ rfl) ?_ (not_frame I grown) upd_same
    · by_cases hb : p.1 = P
      · rw [hu p hp hb, hb]
        refine ⟨ps ++ #[rawInt pos.line, rawInt pos.col, .ref c'], ?_, ?_, fun p2 cv hcv => ?_⟩
        · rw [upd_ne (ne_of_none hP nC), upd_same]
        · rw [three]
          exact PySem.TriplesOk_snoc _ _ _ _ ht
        · rw [three] at hcv
          rcases among_app _ ht hcv with q | q
          · obtain ⟨c0, e1, e2⟩ := ha p2 cv q
            exact ⟨c0, e1, ext _ _ e2 codeO_ne⟩
          · exact ⟨c', q, upd_same⟩
      · obtain ⟨ps2, a1, a2, a3⟩ := hT p hp
        refine ⟨ps2, ?_, a2, fun p2 cv hcv => ?_⟩
        · rw [upd_ne (ne_of_none a1 nC), upd_ne hb]
          exact a1
        · obtain ⟨c0, e1, e2⟩ := a3 p2 cv hcv
          exact ⟨c0, e1, ext _ _ e2 codeO_ne⟩
    · have n2 : h'.objs.size ≠ P := Nat.ne_of_gt (Nat.lt_of_lt_of_le (Heap.lt_size oP) grown)
      rw [upd_ne (Nat.ne_of_gt hlt), upd_ne n2]
      exact I.hok.fresh grown
/-- the lambda is made, its default beside it -/
theorem lam_makeD {T : List (Addr × Str)} {c P : Addr} {params : Arguments} {body : Expr} {scope : Scope} {pos q0 : Pos} {z : Int} {jz : Nat}
    {E : Value → Shared → Prop} {Q : Value → Shared → Prop} (I : Inv X pins σ H s) (TB : TabB X.base X.mg c P)
    (hcode : X.env.code = .ref c) (hm : (P, lname X) ∈ T) (hu : ∀ p ∈ T, p.1 = P → p.2 = lname X) (hT : Tabs T H)
    (hd : params.defaults = [.Constant (.int z) jz q0]) (hk : params.kw_defaults = [])
    (hfree : ∀ y ∈ scope.names, y.2 = .free → ∃ c, X.env.cells.lookup y.1 = some c)
    (h : ∀ (f c' t0 : Addr) (doc pm ctv : Value) (H1 : Hp) (s' : Shared), Inv X pins σ H1 s' → ExtN H H1 → Tabs T H1 →
      H1 t0 = some (.tup [.int z]) → s'.heap.get? f = some (lamObj X params body scope (.ref t0) doc pm c' ctv) → H1 f = none →
      f ∉ frs X.stack → H1 c' = some (CodeO c' (lname X)) → Q (.ref f) s') :
    wpAny (model X.prog X.w) X.A (eval (.Lambda params body scope pos) X.env) Q E s := by
  refine PySem.W.kdv_lam (by rw [hd] <;> rfl) hk ?_
  rw [hd]
  have one : ∀ {Q : Value → Shared → Prop} {E : Value → Shared → Prop}, (∀ t tk, Q (.int z t) { s with toks := tk }) →
      wpAny (model X.prog X.w) X.A (eval (.Constant (.int z) jz q0) X.env) Q E s := by
    intro Q E hq
    exact wpAny_Constant_int (hq _ _)
  refine PySem.W.kdv_all1 (one fun t tk => PySem.W.kdv_all0 ?_)
  have I0 := I.tok tk
  rw [makeFunction_eq]
  simp only [List.zip_nil_right, List.filterMap_nil, List.isEmpty_nil, if_true, pure_bind, List.isEmpty_cons, Bool.false_eq_true, if_false]
  refine wpAny_bind (wpAny_newTextTuple ?_)
  have I1 : Inv X pins σ (upd H s.heap.objs.size (.tup [.int z])) { s with heap := s.heap.push { cls := .type "tuple", data := .seq #[.int z t] }, toks := tk } :=
    I0.laid (fun b o e => Heap.get?_push_of_some _ e) (Nat.le_refl _)
      ⟨(by show 1 ≤ sizeLine; decide), [.int z t], .cons ⟨t, rfl⟩ .nil, ⟨_, Heap.get?_push_size _ rfl, rfl, _, rfl⟩⟩
  have n0 : H s.heap.objs.size = none := I.hok.fresh (Nat.le_refl _)
  have sm : ∀ b o, H b = some o → upd H s.heap.objs.size (.tup [.int z]) b = some o := fun b o e => by
    rw [upd_ne (ne_of_none e n0)]
    exact e
  refine lam_tailD I1 TB hcode hm hu (hT.ext sm) upd_same hfree fun f c' doc pm ctv H1 s' I2 e1 e2 e3 e4 e5 e6 => ?_
  exact h f c' _ doc pm ctv H1 s' I2 ((ExtN.of sm).trans e1) e2 (e1 _ _ upd_same (fun ps z => by cases z)) e3 e4 e5 e6
/-- the lambda's frame, one name bound in it -/
theorem lam_startD {A : Around} {outer : List Env} {E : XK} {scope : Scope} {f c' : Addr} {h1 : Heap} {tk : Nat} {dn : Str} {u : Value}
    (I : Inv X pins σ H s) (L : LamD X.N dn X.env.scope scope) (e0 : Env0 X.prog X.w X.K X.mg X.base A outer s1 HZ)
    (hd : A.handled = none) (un : Un (frs X.stack) [] H HZ s.heap s1.heap)
    (hns : h1.Ns s1.heap.objs.size fun y => ([(dn, u)] : List (Str × Value)).reverse.lookup y)
    (kp : ∀ b o, s1.heap.get? b = some o → h1.get? b = some o) :
    Inv (lamCx X A outer s1 HZ E scope f c') [] σ HZ { s1 with heap := h1, toks := tk } := by
  have there := L.has I.ok
  have clo : ∀ {y c}, (cloFrom X.env.cells scope.names []).lookup y = some c → X.env.cells.lookup y = some c := by
    intro y c e
    rcases cloFrom_mem (PySem.mem_of_lookup e) with hm | ⟨k1, k2⟩
    · cases hm
    · obtain ⟨c1, hc⟩ := there _ k1 rfl
      have hc2 : X.env.cells.lookup y = some c1 := hc
      have eq : c = c1 := by
        rw [k2, hc2] <;> rfl
      rw [eq]
      exact hc2
  have has : ∀ {y}, scope.names.lookup y = some .free → ∃ c, (cloFrom X.env.cells scope.names []).lookup y = some c := by
    intro y hl
    have hy : (y, NameKind.free) ∈ scope.names := PySem.mem_of_lookup hl
    exact mem_lookup (cloFrom_has (cells := X.env.cells) (acc := []) hy)
  have stays : ∀ {c : Addr} {v : Option Value}, H c = none → s.heap.IsCell c v → h1.IsCell c v := by
    rintro c v n ⟨o, ho, hdat⟩
    obtain ⟨sl, q⟩ := un.any ho n (by simp)
    exact ⟨_, kp _ _ q, hdat⟩
  have nil : ∀ b : Addr, b ∉ (lamCx X A outer s1 HZ E scope f c').ex := fun b z => (nomatch (show b ∈ ([] : List Addr) from z))
  have okL : (lamCx X A outer s1 HZ E scope f c').Ok :=
    { mod := e0.mod
      kind := L.kind
      glob := rfl
      blt := rfl
      above := Nat.le_refl _
      inj := fun y z c e1 e2 => I.ok.inj y z c (clo e1) (clo e2)
      has := fun y hy => by
        have hy2 : scope.names.lookup y = some .cell ∨ scope.names.lookup y = some .free := hy
        rcases hy2 with k | k
        · exact absurd rfl (L.noc _ (PySem.mem_of_lookup k))
        · exact has k
      cab := fun y c z _ => by
        have z2 : false = true := z
        cases z2
      hd := fun _ => hd
      frames := Around.frames_deeper e0.frames
      stk := .inr ⟨rfl, rfl⟩
      exf := fun b z => absurd z (nil b)
      bs := e0.bs
      bsz := e0.bsz
      noex := fun b _ _ => nil b
      exfs := fun b z => absurd z (nil b)
      funs := e0.funs
      frf := e0.frf }
  refine { ok := okL, os := rfl, bare := e0.bare, base := Un.kept kp, loc := ⟨_, hns, fun i y v e1 e2 e3 => ?_⟩, cell := fun y c e => ?_,
           free := e0.hok.fresh (Nat.le_refl _), freeC := fun y c e => ?_, pin := fun q hq => (nomatch (show q ∈ ([] : List (Addr × Obj)) ++ [] from hq)),
           hok := e0.hok.kept kp, len := I.len }
  · have e4 : Vis scope y := e3
    rcases e4 with k | k | k
    · exact absurd (List.mem_of_getElem? e1) (L.one _ (PySem.mem_of_lookup k) rfl)
    · exact absurd rfl (L.noc _ (PySem.mem_of_lookup k))
    · obtain ⟨m, hn, hl⟩ := I.loc
      have vis : Vis X.env.scope y := (L.free _ (PySem.mem_of_lookup k) rfl).elim (fun z => .inr (.inl z)) (fun z => .inr (.inr z))
      obtain ⟨w2, r, q⟩ := hl i y v e1 e2 vis
      obtain ⟨c2, h2⟩ := has k
      refine ⟨w2, r, .inr ⟨.inr k, c2, h2, ?_⟩⟩
      have c1 := clo h2
      rcases q with ⟨loc, _⟩ | ⟨_, c3, e5, z⟩
      · have loc2 : X.env.scope.names.lookup y = some .local := loc
        rcases L.free _ (PySem.mem_of_lookup k) rfl with k2 | k2
        · rw [show X.env.scope.names.lookup y = _ from k2] at loc2
          cases loc2
        · rw [show X.env.scope.names.lookup y = _ from k2] at loc2
          cases loc2
      · rw [c1] at e5
        cases e5
        exact stays (I.freeC y _ c1) z
  · obtain ⟨w2, z⟩ := I.cell y c (clo e)
    exact ⟨w2, stays (I.freeC y c (clo e)) z⟩
  · obtain ⟨v, o, ho, hdat⟩ := I.cell y c (clo e)
    exact un.free c o ho (I.freeC y c (clo e)) (by simp)
/-- a(), in the def that got the lambda -/
theorem pe_actD {CXg : CXT} {Eg : XK} {Ng : List Str} {qg : Str} {sg : Scope} {g f c' t0 : Addr} {cdg doc pm ctv : Value} {params : Arguments}
    {body : Expr} {scope : Scope} {k i : Nat} {a dn : Str} {z : Int} {pn : List (Addr × Obj)} {xe : Value → Shared → Prop} {W : WX} {tb : XK → TE}
    {p1 p2 : Pos} (I : Inv X pins σ H s) (L : LamD X.N dn X.env.scope scope)
    (hf : s.heap.get? f = some (lamObj X params body scope (.ref t0) doc pm c' ctv)) (hfn : H f = none) (hfr : f ∉ frs X.stack)
    (hbind : ∀ (s : Shared) (u : Value) (o : Obj) (n : Nat), s.heap.get? t0 = some o → o.data = .seq #[u] n →
      BindsTo s (PySem.W.kdv_fn "<lambda>" (lname X) params (.expr body) scope (cloFrom X.env.cells scope.names []) (.ref t0) doc pm (.ref c') ctv) ⟨[], []⟩ [(dn, u)])
    (tk : Takes ((cxOf CXg X.prog X.w X.K X.mg X.base Ng qg sg g cdg X.A X.stack s H Eg).tr pn xe) W)
    (hr : Room (k + 1) (X.A.deeper (envOfC qg sg s.heap.objs.size g cdg)))
    (hbody : ∀ (A : Around) (outer : List Env) (s : Shared) (H : Hp) (E : XK), Room k (A.deeper (lamEnv X scope s.heap.objs.size f c')) →
      PE (lamCx X A outer s H E scope f c') body (tb E))
    (hN : Ng[i]? = some a) (hv : Vis sg a) (hd : (a == ("__debug__" : Str)) = false := by decide)
    (hcd : (a == ("__classdict__" : Str)) = false := by decide) :
    PE ((cxOf CXg X.prog X.w X.K X.mg X.base Ng qg sg g cdg X.A X.stack s H Eg).tr pn xe) (.Call (.Name a p1) [] [] p2)
      (fun σZ HZ Q => σZ[i]? = some (some (.ref f)) ∧ (HZ c' = some (CodeO c' (lname X)) ∧ HZ t0 = some (.tup [.int z])) ∧
        ∃ E : XK, (∀ cls d H', E cls d H' → W cls d σZ H') ∧ tb E σ HZ Q) := by
  refine ⟨fun pinsZ sZ σZ HZ Q IZ h => ?_⟩
  obtain ⟨slot, ⟨code, dflt⟩, E, hW, ht⟩ := h
  have load := (pe_var (pos := p1) (i := i) hN hv hd hcd).run pinsZ sZ σZ HZ (fun v H1 => v = .ref f ∧ H1 = HZ) IZ ⟨.ref f, slot, rfl, rfl⟩
  refine wpAny_Call_Name_kw (thn load fun u s1 ⟨v, H1, I1, r1, q1⟩ => ?_)
  obtain ⟨rfl, rfl⟩ := q1
  obtain rfl : u = Value.ref f := r1
  have at1 := I1.base.keep f _ hf hfn hfr (fun z => nomatch (show f ∈ ([] : List Addr) from z))
  refine PySem.W.callWith_F0 ⟨_, _, _, _, at1⟩ ?_
  have un : Un (frs X.stack) [] H H1 s.heap s1.heap := I1.base
  obtain ⟨⟨oc, vs, t, hoc, hdc, hvc⟩, _, _⟩ := I1.hok c' _ code
  obtain ⟨_, us, rus, o0, k0, k1, k2, k3⟩ := (show ObjOk X.prog X.w H1 s1.heap t0 (.tup [.int z]) from I1.hok t0 _ dflt)
  cases rus with
  | @cons _ u0 _ ur r0 rr =>
    cases rr
    have rc : codeAny (model X.prog X.w) (X.A.deeper (envOfC qg sg s.heap.objs.size g cdg)) (.call (.ref f) ⟨[], []⟩)
        (CR (L2.CX X.prog X.w) (envOfC qg sg s.heap.objs.size g cdg :: X.stack) X.prog X.w H1 s1 Q E) s1 := by
      refine PySem.W.kla_callFunE hr.depth at1 rfl L.co L.gen rfl ⟨c', oc, vs, t, rfl, hoc, hdc, hvc⟩ ?_
      refine hbind s1 u0 o0 k2 k0 k3 _ _ _ _ ?_
      refine wpAny_newFunctionEnv (fun y hy => L.noc y hy) (fun y hy => ?_) (fun h1 hns hsb => ⟨I1.nolimit.fresh _ hsb, ?_⟩) L.kind
      · obtain rfl := List.mem_singleton.mp hy
        exact L.at_
      · show codeAny _ _ (.expr body (lamEnv X scope s1.heap.objs.size f c')) _ _
        have kp : ∀ b o, s1.heap.get? b = some o → h1.get? b = some o := fun b o e =>
          hsb.extBut b o (Nat.ne_of_lt (Heap.lt_size e)) (Heap.get?_push_of_some _ e)
        have J : Inv (lamCx X (X.A.deeper (envOfC qg sg s.heap.objs.size g cdg)) (envOfC qg sg s.heap.objs.size g cdg :: X.stack) s1 H1 E scope f c') []
            σ H1 { s1 with heap := h1, toks := s1.toks + ([(dn, u0)] : List (Str × Value)).length } :=
          lam_startD (dn := dn) (u := u0) I L I1.env0 hr.hd un hns kp
        have go := (hbody _ _ s1 H1 E (hr.deeper _)).run [] _ _ H1 Q J ht
        refine PySem.W.kla_codeExpr (wpAny_mono go (fun v s' hq => ?_) fun e s' hq => hq)
        obtain ⟨w2, H2, J2, rv, q⟩ := hq
        exact ⟨w2, H2, J2.os, J2.bare, J2.base, J2.hok, rv, q⟩
    refine wpAny_call (codeAny_mono rc fun r s' hq => ?_)
    match r, hq with
    | .error e, hq => exact tk e s' (XE.of_call I1 hW hq)
    | .ok (.ret u), hq => exact I1.after hq
    | .ok .next, hq => exact False.elim hq
    | .ok .brk, hq => exact False.elim hq
    | .ok .cont, hq => exact False.elim hq
/-- the same of a lambda without parameters -/
theorem pe_actP {CXg : CXT} {Eg : XK} {Ng : List Str} {qg : Str} {sg : Scope} {g f c' : Addr} {cdg pm ctv : Value} {params : Arguments}
    {body : Expr} {scope : Scope} {k i : Nat} {a : Str} {pn : List (Addr × Obj)} {xe : Value → Shared → Prop} {W : WX} {tb : XK → TE}
    {p1 p2 : Pos} (I : Inv X pins σ H s) (L : LamS X.env.scope scope)
    (hf : s.heap.get? f = some (PySem.W.kla_obj "<lambda>" (lname X) params body scope (cloFrom X.env.cells scope.names []) pm c' ctv)) (hfn : H f = none) (hfr : f ∉ frs X.stack)
    (hbind : bindArgs (PySem.W.kla_fn "<lambda>" (lname X) params body scope (cloFrom X.env.cells scope.names []) pm (.ref c') ctv) ⟨[], []⟩ = pure [])
    (tk : Takes ((cxOf CXg X.prog X.w X.K X.mg X.base Ng qg sg g cdg X.A X.stack s H Eg).tr pn xe) W)
    (hr : Room (k + 1) (X.A.deeper (envOfC qg sg s.heap.objs.size g cdg)))
    (hbody : ∀ (A : Around) (outer : List Env) (s : Shared) (H : Hp) (E : XK), Room k (A.deeper (lamEnv X scope s.heap.objs.size f c')) →
      PE (lamCx X A outer s H E scope f c') body (tb E))
    (hN : Ng[i]? = some a) (hv : Vis sg a) (hd : (a == ("__debug__" : Str)) = false := by decide)
    (hcd : (a == ("__classdict__" : Str)) = false := by decide) :
    PE ((cxOf CXg X.prog X.w X.K X.mg X.base Ng qg sg g cdg X.A X.stack s H Eg).tr pn xe) (.Call (.Name a p1) [] [] p2)
      (fun σZ HZ Q => σZ[i]? = some (some (.ref f)) ∧ HZ c' = some (CodeO c' (lname X)) ∧
        ∃ E : XK, (∀ cls d H', E cls d H' → W cls d σZ H') ∧ tb E σ HZ Q) := by
  refine ⟨fun pinsZ sZ σZ HZ Q IZ h => ?_⟩
  obtain ⟨slot, code, E, hW, ht⟩ := h
  have load := (pe_var (pos := p1) (i := i) hN hv hd hcd).run pinsZ sZ σZ HZ (fun v H1 => v = .ref f ∧ H1 = HZ) IZ ⟨.ref f, slot, rfl, rfl⟩
  refine wpAny_Call_Name_kw (thn load fun u s1 ⟨v, H1, I1, r1, q1⟩ => ?_)
  obtain ⟨rfl, rfl⟩ := q1
  obtain rfl : u = Value.ref f := r1
  have at1 := I1.base.keep f _ hf hfn hfr (fun z => nomatch (show f ∈ ([] : List Addr) from z))
  refine PySem.W.callWith_F0 ⟨_, _, _, _, at1⟩ ?_
  have un : Un (frs X.stack) [] H H1 s.heap s1.heap := I1.base
  obtain ⟨⟨oc, vs, t, hoc, hdc, hvc⟩, _, _⟩ := I1.hok c' _ code
  have rc : codeAny (model X.prog X.w) (X.A.deeper (envOfC qg sg s.heap.objs.size g cdg)) (.call (.ref f) ⟨[], []⟩)
      (CR (L2.CX X.prog X.w) (envOfC qg sg s.heap.objs.size g cdg :: X.stack) X.prog X.w H1 s1 Q E) s1 := by
    refine PySem.W.kla_callFunE hr.depth at1 rfl L.co L.gen rfl ⟨c', oc, vs, t, rfl, hoc, hdc, hvc⟩ ?_
    rw [hbind]
    refine wpAny_pure (wpAny_newFunctionEnv (fun y hy => (L.own y hy).2) (fun y hy => (nomatch hy)) (fun h1 hns hsb => ⟨I1.nolimit.fresh _ hsb, ?_⟩) L.kind)
    · show codeAny _ _ (.expr body (lamEnv X scope s1.heap.objs.size f c')) _ _
      have kp : ∀ b o, s1.heap.get? b = some o → h1.get? b = some o := fun b o e =>
        hsb.extBut b o (Nat.ne_of_lt (Heap.lt_size e)) (Heap.get?_push_of_some _ e)
      have J : Inv (lamCx X (X.A.deeper (envOfC qg sg s.heap.objs.size g cdg)) (envOfC qg sg s.heap.objs.size g cdg :: X.stack) s1 H1 E scope f c') []
          σ H1 { s1 with heap := h1, toks := s1.toks + ([] : List (Str × Value)).length } :=
        lam_start2 I L I1.env0 hr.hd un hns kp
      have go := (hbody _ _ s1 H1 E (hr.deeper _)).run [] _ _ H1 Q J ht
      refine PySem.W.kla_codeExpr (wpAny_mono go (fun v s' hq => ?_) fun e s' hq => hq)
      obtain ⟨w2, H2, J2, rv, q⟩ := hq
      exact ⟨w2, H2, J2.os, J2.bare, J2.base, J2.hok, rv, q⟩
  refine wpAny_call (codeAny_mono rc fun r s' hq => ?_)
  match r, hq with
  | .error e, hq => exact tk e s' (XE.of_call I1 hW hq)
  | .ok (.ret u), hq => exact I1.after hq
  | .ok .next, hq => exact False.elim hq
  | .ok .brk, hq => exact False.elim hq
  | .ok .cont, hq => exact False.elim hq
end
end G2
end
section
set_option maxHeartbeats 4000000
/-! the layer of these proofs: the call of a def with a lambda -/
namespace G2
open PySem PySem.Spec PyProof.Rows L2 LamX
/-- the def that calls what it got: TT is what it makes of the lambda's reading; G: what must still stand at the call -/
def GivesG (X : Cx) (Ng : List Str) (x : Str) (sg : Scope) (g : Addr) (cdg : Value) (bg : List Stmt) (a : Str)
    (TT : (XK → Hp → VK → Prop) → Hp → VK → Prop) : Prop :=
  ∀ (f : Addr) (G : Hp → Prop) (s : Shared) (H : Hp) (Q : VK) (tl : XK → Hp → VK → Prop),
    (∀ (W : WX) (pn : List (Addr × Obj)) (xe : Value → Shared → Prop) (p1 p2 : Pos),
      Takes ((cxOf C8.CX0 X.prog X.w X.K X.mg X.base Ng x sg g cdg X.A X.stack s H C8.E0).tr pn xe) W →
      PE ((cxOf C8.CX0 X.prog X.w X.K X.mg X.base Ng x sg g cdg X.A X.stack s H C8.E0).tr pn xe) (.Call (.Name a p1) [] [] p2)
        (fun σZ HZ Q => σZ[0]? = some (some (.ref f)) ∧ G HZ ∧ ∃ E : XK, (∀ cls d H', E cls d H' → W cls d σZ H') ∧ tl E HZ Q)) →
    G H → TT tl H Q →
    ∃ t, PSs (cxOf C8.CX0 X.prog X.w X.K X.mg X.base Ng x sg g cdg X.A X.stack s H C8.E0).nox bg t ∧
      t { nx := fun _ H' => Q .non H', rt := Q } (L2.start Ng [.ref f]) H
section
variable {X : Cx} {T : List (Addr × Str)} {TT : (XK → Hp → VK → Prop) → Hp → VK → Prop} {x a : Str} {g c P : Addr} {k : Nat}
  {pg : Arguments} {bg : List Stmt} {sg : Scope} {dV kV doc pm cdv ct oc : Value} {an od : Option Addr} {osl : Array (Option Value)}
  {Ng : List Str} {params : Arguments} {body : Expr} {scope : Scope} {t : XK → TE} {p lpos pos : Pos}
/-- the def is called with the lambda at f -/
theorem run_heard {pins : List (Addr × Obj)} {σ : L2.St} {H : Hp} {s : Shared} {Q : VK} {f : Addr} {G : Hp → Prop} {tl : XK → Hp → VK → Prop}
    (I : Inv X pins σ H s)
    (lk : X.K.lookup g = some ⟨oc, od, .func (PySem.W.fnOf x x pg bg sg dV kV doc pm an cdv ct), osl⟩)
    (hcg : PySem.W.codeIn X.K cdv x = true) (hb : L2.Binds X.K (PySem.W.fnOf x x pg bg sg dV kV doc pm an cdv ct) [a] [])
    (Sg : FnScope Ng [a] sg) (hr : Room (k + 2) X.A) (hG : GivesG X Ng x sg g cdv bg a TT)
    (act : Room (k + 1) (X.A.deeper (envOfC x sg s.heap.objs.size g cdv)) → ∀ (W : WX) (pn : List (Addr × Obj)) (xe : Value → Shared → Prop) (p1 p2 : Pos),
      Takes ((cxOf C8.CX0 X.prog X.w X.K X.mg X.base Ng x sg g cdv X.A X.stack s H C8.E0).tr pn xe) W →
      PE ((cxOf C8.CX0 X.prog X.w X.K X.mg X.base Ng x sg g cdv X.A X.stack s H C8.E0).tr pn xe) (.Call (.Name a p1) [] [] p2)
        (fun σZ HZ Q => σZ[0]? = some (some (.ref f)) ∧ G HZ ∧ ∃ E : XK, (∀ cls d H', E cls d H' → W cls d σZ H') ∧ tl E HZ Q))
    (here : G H) (h : TT tl H Q) : wpAny (model X.prog X.w) X.A (call (.ref g) [.ref f]) (EP X pins σ Q) X.xe s := by
  have rc : codeAny (model X.prog X.w) X.A (.call (.ref g) ⟨[.ref f], []⟩) (CR C8.CX0 X.stack X.prog X.w H s Q C8.E0) s := by
    refine run_ofS (N := Ng) (ps := [a]) (us := [.ref f]) (vs := [.ref f]) lk hcg Sg hr I.env0 (hb s [.ref f] I.kIn rfl)
      (.cons rfl .nil) rfl fun room => ?_
    obtain ⟨t2, ht, q⟩ := hG f G s H Q tl (act room) here h
    exact ⟨t2, ht.nox, q⟩
  refine wpAny_call (codeAny_mono rc fun r s2 hq => ?_)
  match r, hq with
  | .error e, hq => exact (show False from hq).elim
  | .ok (.ret u), hq => exact I.after hq
  | .ok .next, hq => exact False.elim hq
  | .ok .brk, hq => exact False.elim hq
  | .ok .cont, hq => exact False.elim hq
/-- x(lambda: body) -/
theorem pe_lamG (hg : Gl X x) (hm : X.mg x = some (.ref g)) (hk : PySem.W.keepIn X.K (.ref g) = true)
    (lk : X.K.lookup g = some ⟨oc, od, .func (PySem.W.fnOf x x pg bg sg dV kV doc pm an cdv ct), osl⟩)
    (hcg : PySem.W.codeIn X.K cdv x = true) (hb : L2.Binds X.K (PySem.W.fnOf x x pg bg sg dV kV doc pm an cdv ct) [a] [])
    (Sg : FnScope Ng [a] sg) (hNg : Ng[0]? = some a) (hva : Vis sg a) (hG : GivesG X Ng x sg g cdv bg a TT)
    (TB : TabB X.base X.mg c P) (hcode : X.env.code = .ref c) (hmT : (P, lname X) ∈ T) (hu : ∀ p ∈ T, p.1 = P → p.2 = lname X)
    (hr : Room (k + 2) X.A) (L : LamS X.env.scope scope) (hdef : defaultsOf params X.env = ([], []))
    (hbind : ∀ (q : Str) (cl : List (Str × Addr)) (pm cv ctv : Value), bindArgs (PySem.W.kla_fn "<lambda>" q params body scope cl pm cv ctv) ⟨[], []⟩ = pure [])
    (hbody : ∀ (A : Around) (outer : List Env) (s : Shared) (H : Hp) (E : XK) (f c' : Addr), Room k (A.deeper (lamEnv X scope s.heap.objs.size f c')) →
      PE (lamCx X A outer s H E scope f c') body (t E))
    (hdb : (x == ("__debug__" : Str)) = false := by decide) (hd : (a == ("__debug__" : Str)) = false := by decide)
    (hcd : (a == ("__classdict__" : Str)) = false := by decide) :
    PE X (.Call (.Name x p) [.Lambda params body scope lpos] [] pos) (tLam T TT t) := by
  refine ⟨fun pins s σ H Q I h => ?_⟩
  obtain ⟨hT, h⟩ := h
  refine wpAny_Call_Name_kw (ld_glob I hg hm ?_ hdb)
  refine PySem.W.callWith_K (h₀ := X.base) I.ok.mod.kin hk ?_ (by rfl) (by rfl)
  show wpAny _ _ (spliced ((false, eval (.Lambda params body scope lpos) X.env) :: backTo pos (starEach [] X.env))) _ _ s
  refine Calls.spliced_cons (lam_make2 I TB hcode hmT hu hT hdef (L.has I.ok) fun f c' pm' ctv H1 s' I1 eN T1 hf hfn hfr hco => ?_)
  refine Calls.spliced_nil ⟨I1.kIn, ?_⟩
  exact run_heard (G := fun HZ => HZ c' = some (CodeO c' (lname X))) (tl := fun E H' Q' => t E σ H' Q') I1 lk hcg hb Sg hr hG
    (fun room W pn xe p1 p2 tk => pe_actP (i := 0) (tb := t) I1 L hf hfn hfr (hbind _ _ _ _ _) tk room
      (fun A outer s H E hr2 => hbody A outer s H E f c' hr2) hNg hva hd hcd) hco (h H1 eN T1)
/-- x(lambda d=z: body) -/
theorem pe_lamD {dn : Str} {z : Int} {jz : Nat} {q0 : Pos} (hg : Gl X x) (hm : X.mg x = some (.ref g)) (hk : PySem.W.keepIn X.K (.ref g) = true)
    (lk : X.K.lookup g = some ⟨oc, od, .func (PySem.W.fnOf x x pg bg sg dV kV doc pm an cdv ct), osl⟩)
    (hcg : PySem.W.codeIn X.K cdv x = true) (hb : L2.Binds X.K (PySem.W.fnOf x x pg bg sg dV kV doc pm an cdv ct) [a] [])
    (Sg : FnScope Ng [a] sg) (hNg : Ng[0]? = some a) (hva : Vis sg a) (hG : GivesG X Ng x sg g cdv bg a TT)
    (TB : TabB X.base X.mg c P) (hcode : X.env.code = .ref c) (hmT : (P, lname X) ∈ T) (hu : ∀ p ∈ T, p.1 = P → p.2 = lname X)
    (hr : Room (k + 2) X.A) (L : LamD X.N dn X.env.scope scope) (hdef : params.defaults = [.Constant (.int z) jz q0])
    (hkw : params.kw_defaults = [])
    (hbind : ∀ (q : Str) (cl : List (Str × Addr)) (t0 : Addr) (dc pm cv ctv : Value) (s : Shared) (u : Value) (o : Obj) (n : Nat),
      s.heap.get? t0 = some o → o.data = .seq #[u] n →
      BindsTo s (PySem.W.kdv_fn "<lambda>" q params (.expr body) scope cl (.ref t0) dc pm cv ctv) ⟨[], []⟩ [(dn, u)])
    (hbody : ∀ (A : Around) (outer : List Env) (s : Shared) (H : Hp) (E : XK) (f c' : Addr), Room k (A.deeper (lamEnv X scope s.heap.objs.size f c')) →
      PE (lamCx X A outer s H E scope f c') body (t E))
    (hdb : (x == ("__debug__" : Str)) = false := by decide) (hd : (a == ("__debug__" : Str)) = false := by decide)
    (hcd : (a == ("__classdict__" : Str)) = false := by decide) :
    PE X (.Call (.Name x p) [.Lambda params body scope lpos] [] pos) (tLam T TT t) := by
  refine ⟨fun pins s σ H Q I h => ?_⟩
  obtain ⟨hT, h⟩ := h
  refine wpAny_Call_Name_kw (ld_glob I hg hm ?_ hdb)
  refine PySem.W.callWith_K (h₀ := X.base) I.ok.mod.kin hk ?_ (by rfl) (by rfl)
  show wpAny _ _ (spliced ((false, eval (.Lambda params body scope lpos) X.env) :: backTo pos (starEach [] X.env))) _ _ s
  refine Calls.spliced_cons (lam_makeD I TB hcode hmT hu hT hdef hkw (L.has I.ok)
    fun f c' t0 dc pm' ctv H1 s' I1 eN T1 h0 hf hfn hfr hco => Calls.spliced_nil ⟨I1.kIn, ?_⟩)
  exact run_heard (G := fun HZ => HZ c' = some (CodeO c' (lname X)) ∧ HZ t0 = some (.tup [.int z])) (tl := fun E H' Q' => t E σ H' Q')
    I1 lk hcg hb Sg hr hG
    (fun room W pn xe p1 p2 tk => pe_actD (i := 0) (tb := t) I1 L hf hfn hfr (fun s u o n => hbind _ _ t0 dc pm' _ ctv s u o n) tk room
      (fun A outer s H E hr2 => hbody A outer s H E f c' hr2) hNg hva hd hcd) ⟨hco, h0⟩ (h H1 eN T1)
end
/-! ### a call by names alone -/
section
variable {X : Cx} {CX : CXT} {k : Nat} {f : Addr} {fd : FuncData} {ps ks : List Str} {sp : Sp} {E : XK} {x : Str} {p pos : Pos} {kws : List Keyword} {tk : TA}
  {g : List Value → List Value → List Value} {gV : List V → List V → List V}
theorem pe_callK0 (F : FnOk X.prog X.w X.K X.mg X.base CX k f fd ps sp) (hr : Room k X.A) (hg : Gl X x) (hm : X.mg x = some (.ref f))
    (hk : PySem.W.keepIn X.K (.ref f) = true) (hb : KBinds X.K fd ps ks g gV) (hx : Passes CX X E) (hkw : PK X kws tk)
    (hall : (backToKw pos (keywordEach kws X.env)).all (·.1.isSome) = true := by rfl)
    (hks : (backToKw pos (keywordEach kws X.env)).filterMap (·.1) = ks := by rfl)
    (hdb : (x == ("__debug__" : Str)) = false := by decide)
    (hpl : ((backTo pos (starEach [] X.env)).any (·.1) || (backToKw pos (keywordEach kws X.env)).any (·.1.isNone)) = false := by rfl) :
    PE X (.Call (.Name x p) [] kws pos) (tCallK sp gV E tNil tk) := by
  refine ⟨fun pins s σ H Q I h => ?_⟩
  refine wpAny_Call_Name_kw (ld_glob I hg hm ?_ hdb)
  have h2 : tk σ H fun zs H2 => sp (gV [] zs) H2 Q E := h
  refine PySem.W.callWith_KW0 (h₀ := X.base) I.ok.mod.kin hk hall (thn (hkw.run pos pins s σ H _ I h2) fun ws s2 ⟨zs, H2, I2, rz, q2⟩ => ⟨I2.kIn, ?_⟩) hpl
  rw [hks]
  exact run_fnk F hr hb hx I2 .nil rz q2
/-- all by names: nothing else binds so -/
def onlyK {α : Type} : List α → List α → List α
  | [], ws => ws
  | _, _ => []
theorem onlyK_rel {vs : List V} {us : List Value} {zs : List V} {ws : List Value} (r : Vals vs us) (rz : Vals zs ws) : Vals (onlyK vs zs) (onlyK us ws) := by
  cases r with
  | nil => exact rz
  | cons _ _ => exact .nil
end
/-- a call that may let an error out, but doesn't here -/
theorem passF {X : Cx} {P : Program} {w : World} : Passes (L2.CX P w) X (fun _ _ _ => False) := by
  intro pins σ H s e s' I h
  obtain ⟨_, _, _, _, _, _, _, _, _, _, _, _, z⟩ := h
  exact z.elim
/-- repr of a text -/
theorem call_reprS {X : Cx} : CallR X (.builtin "repr") (fun xs H Q => ∃ z : Str, xs = [.str z] ∧ (PyData.shown (.str z)).length ≤ sizeLine ∧ Q (.str (PyData.shown (.str z))) H) := by
  intro pins s σ H xs us Q I r h
  obtain ⟨z, rfl, hz, q⟩ := h
  obtain ⟨u, rfl, r1⟩ := vals1 r
  obtain ⟨t, rfl⟩ := r1
  exact PySem.P.repr_of_str ⟨.str _, H, I.tok _, ⟨_, rfl⟩, q⟩ hz
end G2
end
section
set_option maxHeartbeats 4000000
namespace K00
open PySem PySem.Spec PyProof.Rows L2 G1 G2
def topS (i : Nat) : Stmt := PySem.Challenge.pw_leastequal_k00_words_and_their_signs.main.body.getD i (.Pass ⟨0, 0, 0, 0⟩)
abbrev s_is_integer : Stmt := topS 1
abbrev s_is_within : Stmt := topS 2
abbrev s__shown : Stmt := topS 5
abbrev s_check_width : Stmt := topS 10
abbrev s_mask_of : Stmt := topS 11
abbrev s_word : Stmt := topS 12
abbrev s_signed : Stmt := topS 13
abbrev s__law_tray : Stmt := topS 15
abbrev s__law_dip : Stmt := topS 16
abbrev s__law_take : Stmt := topS 17
abbrev s__law_great : Stmt := topS 18
abbrev s__law_word : Stmt := topS 19
abbrev s__law_width : Stmt := topS 20
abbrev s__law_any : Stmt := topS 21
abbrev s__law_heard : Stmt := topS 22
abbrev s__law_rests_right : Stmt := topS 23
abbrev s__law_signs_right : Stmt := topS 24
abbrev s__law_refused_right : Stmt := topS 25
abbrev s_law : Stmt := topS 26
theorem sc_is_integer : FnScope ["value"] ["value"] (defScope s_is_integer) :=
  ⟨rfl, rfl, rfl, by decide +kernel, rfl, by decide +kernel, by decide +kernel⟩
theorem sc_is_within : FnScope ["value", "least", "most"] ["value", "least", "most"] (defScope s_is_within) :=
  ⟨rfl, rfl, rfl, by decide +kernel, rfl, by decide +kernel, by decide +kernel⟩
theorem sc__shown : FnScope ["value"] ["value"] (defScope s__shown) :=
  ⟨rfl, rfl, rfl, by decide +kernel, rfl, by decide +kernel, by decide +kernel⟩
theorem sc_check_width : FnScope ["width"] ["width"] (defScope s_check_width) :=
  ⟨rfl, rfl, rfl, by decide +kernel, rfl, by decide +kernel, by decide +kernel⟩
theorem sc_mask_of : FnScope ["width"] ["width"] (defScope s_mask_of) :=
  ⟨rfl, rfl, rfl, by decide +kernel, rfl, by decide +kernel, by decide +kernel⟩
theorem sc_word : FnScope ["number", "width"] ["number", "width"] (defScope s_word) :=
  ⟨rfl, rfl, rfl, by decide +kernel, rfl, by decide +kernel, by decide +kernel⟩
theorem sc_signed : FnScope ["value", "width"] ["value", "width"] (defScope s_signed) :=
  ⟨rfl, rfl, rfl, by decide +kernel, rfl, by decide +kernel, by decide +kernel⟩
theorem sc__law_tray : FnScope ["_law_script", "_law_cell"] ["_law_script"] (defScope s__law_tray) :=
  ⟨rfl, rfl, rfl, by decide +kernel, rfl, by decide +kernel, by decide +kernel⟩
theorem sc__law_dip : FnScope ["_law_tray_here", "_law_many", "_law_rest", "_law_turn", "_law_cell", "_law_mixed"] ["_law_tray_here", "_law_many"] (defScope s__law_dip) :=
  ⟨rfl, rfl, rfl, by decide +kernel, rfl, by decide +kernel, by decide +kernel⟩
theorem sc__law_take : FnScope ["_law_tray_here", "_law_some"] ["_law_tray_here", "_law_some"] (defScope s__law_take) :=
  ⟨rfl, rfl, rfl, by decide +kernel, rfl, by decide +kernel, by decide +kernel⟩
theorem sc__law_great : FnScope ["_law_tray_here", "_law_most", "_law_number", "_law_turn"] ["_law_tray_here", "_law_most"] (defScope s__law_great) :=
  ⟨rfl, rfl, rfl, by decide +kernel, rfl, by decide +kernel, by decide +kernel⟩
theorem sc__law_word : FnScope ["_law_tray_here", "_law_limit"] ["_law_tray_here", "_law_limit"] (defScope s__law_word) :=
  ⟨rfl, rfl, rfl, by decide +kernel, rfl, by decide +kernel, by decide +kernel⟩
theorem sc__law_width : FnScope ["_law_tray_here"] ["_law_tray_here"] (defScope s__law_width) :=
  ⟨rfl, rfl, rfl, by decide +kernel, rfl, by decide +kernel, by decide +kernel⟩
theorem sc__law_any : FnScope ["_law_tray_here", "_law_limit", "_law_near"] ["_law_tray_here", "_law_limit"] (defScope s__law_any) :=
  ⟨rfl, rfl, rfl, by decide +kernel, rfl, by decide +kernel, by decide +kernel⟩
theorem sc__law_heard : FnScope ["_law_ask", "_law_caught", "error"] ["_law_ask"] (defScope s__law_heard) :=
  ⟨rfl, rfl, rfl, by decide +kernel, rfl, by decide +kernel, by decide +kernel⟩
theorem sc__law_rests_right : FnScope ["_law_tray_here", "_law_width_here", "_law_limit", "_law_one", "_law_other", "_law_told", "_law_also", "_law_here", "_law_there", "_law_due", "_law_less"] ["_law_tray_here"] (defScope s__law_rests_right) :=
  ⟨rfl, rfl, rfl, by decide +kernel, rfl, by decide +kernel, by decide +kernel⟩
theorem sc__law_signs_right : FnScope ["_law_tray_here", "_law_width_here", "_law_limit", "_law_value", "_law_told"] ["_law_tray_here"] (defScope s__law_signs_right) :=
  ⟨rfl, rfl, rfl, by decide +kernel, rfl, by decide +kernel, by decide +kernel⟩
theorem sc__law_refused_right : FnScope ["_law_tray_here", "_law_width_here", "_law_limit", "_law_odd", "_law_wide", "_law_beyond", "_law_heard_here"] ["_law_tray_here"] (defScope s__law_refused_right) :=
  ⟨rfl, rfl, rfl, by decide +kernel, rfl, by decide +kernel, by decide +kernel⟩
theorem sc_law : FnScope ["_law_script", "_law_tray_here", "_law_lap"] ["_law_script"] (defScope s_law) :=
  ⟨rfl, rfl, rfl, by decide +kernel, rfl, by decide +kernel, by decide +kernel⟩
abbrev sInit : Stmt := inClass (topS 6) 0
theorem scInit : FnScope ["self", "part"] ["self", "part"] (defScope sInit) :=
  ⟨rfl, rfl, rfl, by decide +kernel, rfl, by decide +kernel, by decide +kernel⟩
structure Txt (w : World) (K : PySem.W.Frag) (mg : Str → Option Value) where
  f_is_integer : Addr
  fd_is_integer : FuncData
  F_is_integer : Fun K "is_integer" "is_integer" s_is_integer f_is_integer fd_is_integer
  g_is_integer : mg "is_integer" = some (.ref f_is_integer)
  b_is_integer : Binds K fd_is_integer ["value"] []
  f_is_within : Addr
  fd_is_within : FuncData
  F_is_within : Fun K "is_within" "is_within" s_is_within f_is_within fd_is_within
  g_is_within : mg "is_within" = some (.ref f_is_within)
  b_is_within : Binds K fd_is_within ["value", "least", "most"] []
  f__shown : Addr
  fd__shown : FuncData
  F__shown : Fun K "_shown" "_shown" s__shown f__shown fd__shown
  g__shown : mg "_shown" = some (.ref f__shown)
  b__shown : Binds K fd__shown ["value"] []
  f_check_width : Addr
  fd_check_width : FuncData
  F_check_width : Fun K "check_width" "check_width" s_check_width f_check_width fd_check_width
  g_check_width : mg "check_width" = some (.ref f_check_width)
  b_check_width : Binds K fd_check_width ["width"] []
  f_mask_of : Addr
  fd_mask_of : FuncData
  F_mask_of : Fun K "mask_of" "mask_of" s_mask_of f_mask_of fd_mask_of
  g_mask_of : mg "mask_of" = some (.ref f_mask_of)
  b_mask_of : Binds K fd_mask_of ["width"] []
  f_word : Addr
  fd_word : FuncData
  F_word : Fun K "word" "word" s_word f_word fd_word
  g_word : mg "word" = some (.ref f_word)
  b_word : Binds K fd_word ["number", "width"] []
  f_signed : Addr
  fd_signed : FuncData
  F_signed : Fun K "signed" "signed" s_signed f_signed fd_signed
  g_signed : mg "signed" = some (.ref f_signed)
  b_signed : Binds K fd_signed ["value", "width"] []
  f__law_tray : Addr
  fd__law_tray : FuncData
  F__law_tray : Fun K "_law_tray" "_law_tray" s__law_tray f__law_tray fd__law_tray
  g__law_tray : mg "_law_tray" = some (.ref f__law_tray)
  b__law_tray : Binds K fd__law_tray ["_law_script"] []
  f__law_dip : Addr
  fd__law_dip : FuncData
  F__law_dip : Fun K "_law_dip" "_law_dip" s__law_dip f__law_dip fd__law_dip
  g__law_dip : mg "_law_dip" = some (.ref f__law_dip)
  b__law_dip : Binds K fd__law_dip ["_law_tray_here", "_law_many"] []
  f__law_take : Addr
  fd__law_take : FuncData
  F__law_take : Fun K "_law_take" "_law_take" s__law_take f__law_take fd__law_take
  g__law_take : mg "_law_take" = some (.ref f__law_take)
  b__law_take : Binds K fd__law_take ["_law_tray_here", "_law_some"] []
  f__law_great : Addr
  fd__law_great : FuncData
  F__law_great : Fun K "_law_great" "_law_great" s__law_great f__law_great fd__law_great
  g__law_great : mg "_law_great" = some (.ref f__law_great)
  b__law_great : Binds K fd__law_great ["_law_tray_here", "_law_most"] []
  f__law_word : Addr
  fd__law_word : FuncData
  F__law_word : Fun K "_law_word" "_law_word" s__law_word f__law_word fd__law_word
  g__law_word : mg "_law_word" = some (.ref f__law_word)
  b__law_word : Binds K fd__law_word ["_law_tray_here", "_law_limit"] []
  f__law_width : Addr
  fd__law_width : FuncData
  F__law_width : Fun K "_law_width" "_law_width" s__law_width f__law_width fd__law_width
  g__law_width : mg "_law_width" = some (.ref f__law_width)
  b__law_width : Binds K fd__law_width ["_law_tray_here"] []
  f__law_any : Addr
  fd__law_any : FuncData
  F__law_any : Fun K "_law_any" "_law_any" s__law_any f__law_any fd__law_any
  g__law_any : mg "_law_any" = some (.ref f__law_any)
  b__law_any : Binds K fd__law_any ["_law_tray_here", "_law_limit"] []
  f__law_heard : Addr
  fd__law_heard : FuncData
  F__law_heard : Fun K "_law_heard" "_law_heard" s__law_heard f__law_heard fd__law_heard
  g__law_heard : mg "_law_heard" = some (.ref f__law_heard)
  b__law_heard : Binds K fd__law_heard ["_law_ask"] []
  f__law_rests_right : Addr
  fd__law_rests_right : FuncData
  F__law_rests_right : Fun K "_law_rests_right" "_law_rests_right" s__law_rests_right f__law_rests_right fd__law_rests_right
  g__law_rests_right : mg "_law_rests_right" = some (.ref f__law_rests_right)
  b__law_rests_right : Binds K fd__law_rests_right ["_law_tray_here"] []
  f__law_signs_right : Addr
  fd__law_signs_right : FuncData
  F__law_signs_right : Fun K "_law_signs_right" "_law_signs_right" s__law_signs_right f__law_signs_right fd__law_signs_right
  g__law_signs_right : mg "_law_signs_right" = some (.ref f__law_signs_right)
  b__law_signs_right : Binds K fd__law_signs_right ["_law_tray_here"] []
  f__law_refused_right : Addr
  fd__law_refused_right : FuncData
  F__law_refused_right : Fun K "_law_refused_right" "_law_refused_right" s__law_refused_right f__law_refused_right fd__law_refused_right
  g__law_refused_right : mg "_law_refused_right" = some (.ref f__law_refused_right)
  b__law_refused_right : Binds K fd__law_refused_right ["_law_tray_here"] []
  f_law : Addr
  fd_law : FuncData
  F_law : Fun K "law" "law" s_law f_law fd_law
  g_law : mg "law" = some (.ref f_law)
  b_law : Binds K fd_law ["_law_script"] []
  c_MOST_WIDTH : ∃ u, mg "MOST_WIDTH" = some u ∧ RelV (.int 300) u
  m_abs : mg "abs" = none
  m_int : mg "int" = none
  m_bool : mg "bool" = none
  m_isinstance : mg "isinstance" = none
  m_len : mg "len" = none
  m_min : mg "min" = none
  m_range : mg "range" = none
  m_repr : mg "repr" = none
  m_str : mg "str" = none
  CE : Addr
  g_EqualError : mg "EqualError" = some (.ref CE)
  CB : Addr
  g_BadNumber : mg "BadNumber" = some (.ref CB)
  CT : Addr
  g_BadTerm : mg "BadTerm" = some (.ref CT)
  fI : Addr
  fdI : FuncData
  FI : Fun K "__init__" "BadNumber.__init__" sInit fI fdI
  bI : Binds K fdI ["self", "part"] []
  oB : OexC K CB
  iB : PySem.W.findIn K (.ref CB) "__init__" = some (some (.ref fI))
  tI : PySem.W.typeIn K (.ref fI) = some (.type "function")
  nP : PySem.W.findIn K (.ref CB) "part" = some none
  xB : XfC K CB
  rE : ClX.CRead K CE (.type "type")
  vE : PySem.W.findCls K (.ref CE) (.type "type") "__init__" = some (.val (.builtin "ValueError.__init__"))
  exE : PySem.W.exmOne K (.ref CB) (.ref CE) = some true
  kB : PySem.W.kitOne K (.type "NoneType") (.ref CB) = some false
  kT : PySem.W.kitOne K (.type "NoneType") (.ref CT) = some false
  kb_word : KBinds K fd_word ["number", "width"] ["number", "width"] onlyK onlyK
  kb_signed : KBinds K fd_signed ["value", "width"] ["value", "width"] onlyK onlyK
  cR : Addr
  code_R : fd__law_refused_right.code = .ref cR
end K00
end
section
set_option maxHeartbeats 4000000
namespace K00
open PySem PySem.Spec PyProof.Rows L2 G1 G2
abbrev CX0 := L2.CX0
def S1 (p : V → Hp → VK → Prop) : Sp := fun vs H Q _ => ∃ a, vs = [a] ∧ p a H Q
def S2 (p : V → V → Hp → VK → Prop) : Sp := fun vs H Q _ => ∃ a b, vs = [a, b] ∧ p a b H Q
def S3 (p : V → V → V → Hp → VK → Prop) : Sp := fun vs H Q _ => ∃ a b c, vs = [a, b, c] ∧ p a b c H Q
def S4 (p : V → V → V → V → Hp → VK → Prop) : Sp := fun vs H Q _ => ∃ a b c d, vs = [a, b, c, d] ∧ p a b c d H Q
def S1E (p : V → Hp → VK → XK → Prop) : Sp := fun vs H Q E => ∃ a, vs = [a] ∧ p a H Q E
def S2E (p : V → V → Hp → VK → XK → Prop) : Sp := fun vs H Q E => ∃ a b, vs = [a, b] ∧ p a b H Q E
theorem S1E_len {p} (vs : List V) (H : Hp) (Q : VK) (E : XK) (h : S1E p vs H Q E) : vs.length = 1 := by obtain ⟨_, rfl, _⟩ := h; rfl
theorem S2E_len {p} (vs : List V) (H : Hp) (Q : VK) (E : XK) (h : S2E p vs H Q E) : vs.length = 2 := by obtain ⟨_, _, rfl, _⟩ := h; rfl
theorem S1_len {p} (vs : List V) (H : Hp) (Q : VK) (E : XK) (h : S1 p vs H Q E) : vs.length = 1 := by obtain ⟨_, rfl, _⟩ := h; rfl
theorem S2_len {p} (vs : List V) (H : Hp) (Q : VK) (E : XK) (h : S2 p vs H Q E) : vs.length = 2 := by obtain ⟨_, _, rfl, _⟩ := h; rfl
theorem S3_len {p} (vs : List V) (H : Hp) (Q : VK) (E : XK) (h : S3 p vs H Q E) : vs.length = 3 := by obtain ⟨_, _, _, rfl, _⟩ := h; rfl
theorem S4_len {p} (vs : List V) (H : Hp) (Q : VK) (E : XK) (h : S4 p vs H Q E) : vs.length = 4 := by obtain ⟨_, _, _, _, rfl, _⟩ := h; rfl
theorem cx_K {CX P w K mg base N q sc f cd A o s H E} : (cxOf CX P w K mg base N q sc f cd A o s H E).K = K := rfl
theorem cx_K' {CX P w K mg base N q sc f cd A o s H E} : (cxOf CX P w K mg base N q sc f cd A o s H E).nox.K = K := rfl
theorem cx_w {CX P w K mg base N q sc f cd A o s H E} : (cxOf CX P w K mg base N q sc f cd A o s H E).w = w := rfl
theorem cx_w' {CX P w K mg base N q sc f cd A o s H E} : (cxOf CX P w K mg base N q sc f cd A o s H E).nox.w = w := rfl
theorem cx_mg' {CX P w K mg base N q sc f cd A o s H E} : (cxOf CX P w K mg base N q sc f cd A o s H E).nox.mg = mg := rfl
theorem cx_P' {CX P w K mg base N q sc f cd A o s H E} : (cxOf CX P w K mg base N q sc f cd A o s H E).nox.prog = P := rfl
theorem cx_b' {CX P w K mg base N q sc f cd A o s H E} : (cxOf CX P w K mg base N q sc f cd A o s H E).nox.base = base := rfl
theorem cx_mg {CX P w K mg base N q sc f cd A o s H E} : (cxOf CX P w K mg base N q sc f cd A o s H E).mg = mg := rfl
theorem cx_P {CX P w K mg base N q sc f cd A o s H E} : (cxOf CX P w K mg base N q sc f cd A o s H E).prog = P := rfl
theorem cx_b {CX P w K mg base N q sc f cd A o s H E} : (cxOf CX P w K mg base N q sc f cd A o s H E).base = base := rfl
local macro_rules | `(tactic| walk_at "rd") => `(tactic| simp only [tPar, tFmt, tJs, tM0, tM1, tSeq, tIfS, gName, gTup, gSub, gNil, gCons, List.cons.injEq, List.replicate_succ, tNot, tB, tRet, tC, tNext, tVar, tOp, tUn, tAnd, tOr, tAndV, tOrV, tNotV, tIf, tTest, tChain, tAsg, tCall, tCons, tNil, tCB, tDrop, tNever, tTup, tLst, tSl, tPart, tNoPart, tB, cx_K, cx_K', cx_w, cx_w', cx_mg', cx_P', cx_b', cx_mg, cx_P, cx_b, gUnl, Nat.reduceAdd, Nat.reduceSub, Nat.sub_self, Nat.zero_add, List.replicate_zero,
  rI, rI0, rU, rEq, rNe, L2.start, List.append_nil, List.cons_append, List.nil_append, List.map_cons, List.map_nil, List.length_cons, List.length_nil, List.getElem?_cons_zero, List.getElem?_cons_succ,
  List.replicate, List.set_cons_zero, List.set_cons_succ, exists_eq_left, exists_eq_left', exists_eq_right, exists_and_left, Option.some.injEq, V.bl.injEq, V.int.injEq, V.str.injEq, V.ref.injEq, true_and, and_true, if_true, if_false, Bool.false_eq_true, Bool.not_true, Bool.not_false, reduceIte, reduceCtorEq, ite_true, ite_false, decide_true, decide_false])
section
variable {P : Program} {w : World} {K : PySem.W.Frag} {mg : Str → Option Value} {base : Heap}
/-! ### checks -/
def sp_is_integer (K : PySem.W.Frag) : Sp := S1 fun x H Q => ∃ t b1 b2, TyX K H x t ∧ PySem.W.kitOne K t (.type "int") = some b1 ∧ PySem.W.kitOne K t (.type "bool") = some b2 ∧ Q (.bl (b1 && !b2)) H
theorem ok_is_integer (T : Txt w K mg) : FnOk P w K mg base CX0 1 T.f_is_integer T.fd_is_integer ["value"] (sp_is_integer K) := by
  refine T.F_is_integer.ok sc_is_integer S1_len (fun cdv A outer s H vs Q E hr h => ?_)
  obtain ⟨v0, rfl, h⟩ := h
  refine ⟨_, (pss_one (ps_ret (pe_and (pe_callB call_isi (by rfl) T.m_isinstance (by decide +kernel) (pa_cons (pv 0) (pa_cons (pe_bltn (v := .ty "int") (by rfl) T.m_int (by decide +kernel) rfl) pa_nil))) (pe_one (pe_not (pe_callB call_isi (by rfl) T.m_isinstance (by decide +kernel) (pa_cons (pv 0) (pa_cons (pe_bltn (v := .ty "bool") (by rfl) T.m_bool (by decide +kernel) rfl) pa_nil)))))))), ?_⟩
  obtain ⟨t, b1, b2, ht, e1, e2, q⟩ := h
  refine ⟨_, rfl, _, _, t, _, b1, rfl, .ty _, ht, e1, b1, rfl, ?_⟩
  cases b1 with
  | false => exact iteF q
  | true =>
    refine iteT ?_
    refine ⟨_, rfl, _, _, t, _, b2, rfl, .ty _, ht, e2, b2, rfl, q⟩
theorem isint_int {K : PySem.W.Frag} {H : Hp} {i : Int} {Q : VK} (q : Q (.bl true) H) : sp_is_integer K [.int i] H Q E0 :=
  ⟨_, rfl, _, true, false, .base (.int i), kit_ty (by decide +kernel), kit_ty (by decide +kernel), q⟩
/-- x an integer, least and most integers or None -/
def bnd : V → Option Int → Prop := fun x o => (x = .non ∧ o = none) ∨ ∃ i, x = .int i ∧ o = some i
def geO (n : Int) : Option Int → Bool
  | none => true
  | some i => decide (i ≤ n)
def leO (n : Int) : Option Int → Bool
  | none => true
  | some i => decide (n ≤ i)
def NoInt (K : PySem.W.Frag) (H : Hp) (x : V) : Prop := ∃ t b1 b2, TyX K H x t ∧ PySem.W.kitOne K t (.type "int") = some b1 ∧ PySem.W.kitOne K t (.type "bool") = some b2 ∧ (b1 && !b2) = false
def sp_is_within (K : PySem.W.Frag) : Sp := S3 fun x lo hi H Q => (∃ n a b, x = .int n ∧ bnd lo a ∧ bnd hi b ∧ Q (.bl (geO n a && leO n b)) H) ∨ (NoInt K H x ∧ Q (.bl false) H)
theorem ok_is_within (T : Txt w K mg) : FnOk P w K mg base CX0 2 T.f_is_within T.fd_is_within ["value", "least", "most"] (sp_is_within K) := by
  have K_is_integer := ok_is_integer (P := P) (base := base) T
  refine T.F_is_within.ok sc_is_within S3_len (fun cdv A outer s H vs Q E hr h => ?_)
  obtain ⟨v0, v1, v2, rfl, h⟩ := h
  refine ⟨_, (pss_cons (ps_if (pt_not (pt_val (pe_call K_is_integer (hr.mono (by decide)) (by rfl) T.g_is_integer T.F_is_integer.kp T.b_is_integer .nil pass0 (pa_cons (pv 0) pa_nil))))
        (pss_one (ps_ret pe_bl))
        pss_nil)
      (pss_one (ps_ret (pe_and (pe_or (pe_cmpR op_isN (pv 1) pe_non (nomark _)) (pe_one (pe_cmpR op_ge (pv 0) (pv 1) (nomark _)))) (pe_one (pe_or (pe_cmpR op_isN (pv 2) pe_non (nomark _)) (pe_one (pe_cmpR op_le (pv 0) (pv 2) (nomark _))))))))), ?_⟩
  rcases h with ⟨n, a, b, rfl, ha, hb, q⟩ | ⟨⟨t, b1, b2, ht, e1, e2, e3⟩, q⟩
  · walk_at "rd"
    refine isint_int ⟨_, rfl, ?_⟩
    rcases ha with ⟨rfl, rfl⟩ | ⟨i, rfl, rfl⟩
    · rcases hb with ⟨rfl, rfl⟩ | ⟨j, rfl, rfl⟩
      · exact q
      · exact ⟨_, rfl, q⟩
    · refine ⟨_, rfl, ?_⟩
      have q' : Q (.bl (decide (i ≤ n) && leO n b)) H := q
      cases e : decide (i ≤ n) with
      | false =>
        rw [e] at q'
        exact iteF q'
      | true =>
        rw [e] at q'
        refine iteT ?_
        rcases hb with ⟨rfl, rfl⟩ | ⟨j, rfl, rfl⟩
        · exact q'
        · exact ⟨_, rfl, q'⟩
  · walk_at "rd"
    refine ⟨_, rfl, t, b1, b2, ht, e1, e2, ⟨_, rfl, ?_⟩⟩
    rw [e3]
    exact iteT q
theorem within_yes {K : PySem.W.Frag} {H : Hp} {n : Int} {x y : V} {a b : Option Int} {Q : VK} (ha : bnd x a) (hb : bnd y b) (h : (geO n a && leO n b) = true) (q : Q (.bl true) H) : sp_is_within K [.int n, x, y] H Q E0 :=
  ⟨_, _, _, rfl, .inl ⟨n, a, b, rfl, ha, hb, by rw [h]; exact q⟩⟩
theorem within_out {K : PySem.W.Frag} {H : Hp} {n : Int} {x y : V} {a b : Option Int} {Q : VK} (ha : bnd x a) (hb : bnd y b) (h : (geO n a && leO n b) = false) (q : Q (.bl false) H) : sp_is_within K [.int n, x, y] H Q E0 :=
  ⟨_, _, _, rfl, .inl ⟨n, a, b, rfl, ha, hb, by rw [h]; exact q⟩⟩
theorem within_no {K : PySem.W.Frag} {H : Hp} {v x y : V} {Q : VK} (h : NoInt K H v) (q : Q (.bl false) H) : sp_is_within K [v, x, y] H Q E0 :=
  ⟨_, _, _, rfl, .inr ⟨h, q⟩⟩
theorem bnd_int (i : Int) : bnd (.int i) (some i) := .inr ⟨i, rfl, rfl⟩
theorem bnd_non : bnd .non none := .inl ⟨rfl, rfl⟩
theorem same_upd {H : Hp} {p : Addr} {o : HO} (h : H p = none) : Same H (upd H p o) := fun b x e => by
  rw [upd_ne (ne_of_none e h)]
  exact e
/-! ### the error -/
def three : List Str := ["number", "width", "value"]
def sp__shown (_ : PySem.W.Frag) : Sp := S1 fun x H Q => ∃ z, x = .str z ∧ z ∈ three ∧ ∀ y : Str, y.length ≤ 100 → Q (.str y) H
theorem three_short : ∀ z ∈ three, (PyData.shown (.str z)).length ≤ 100 := by decide +kernel
theorem ok__shown (T : Txt w K mg) : FnOk P w K mg base CX0 1 T.f__shown T.fd__shown ["value"] (sp__shown K) := by
  refine T.F__shown.ok sc__shown S1_len (fun cdv A outer s H vs Q E hr h => ?_)
  obtain ⟨v0, rfl, h⟩ := h
  refine ⟨_, (pss_one (ps_ret (pe_ifExp (pt_val (pe_callB call_isi (by rfl) T.m_isinstance (by decide +kernel) (pa_cons (pv 0) (pa_cons (pe_bltn (v := .ty "str") (by rfl) T.m_str (by decide +kernel) rfl) pa_nil)))) (pe_callB call_reprS (by rfl) T.m_repr (by decide +kernel) (pa_cons (pv 0) pa_nil)) pe_str))), ?_⟩
  obtain ⟨z, rfl, hz, q⟩ := h
  walk_at "rd"
  exact ⟨_, _, _, _, true, rfl, .ty _, .base (.str _), kit_ty (by decide +kernel), _, rfl, iteT ⟨Nat.le_trans (three_short z hz) (by decide), q _ (three_short z hz)⟩⟩
def sp_init (K : PySem.W.Frag) : Sp := S2 fun x y H Q => ∃ a C z, x = .ref a ∧ y = .str z ∧ z ∈ three ∧ OexC K C ∧ PySem.W.findIn K (.ref C) "part" = some none ∧ H a = some (exo a C none) ∧
  ∀ dx, H dx = none → dx ≠ a → Q .non (upd (upd H dx (exd dx [("part", .str z)])) a (exo a C (some dx)))
theorem ok_init (T : Txt w K mg) : FnOk P w K mg base CX0 2 T.fI T.fdI ["self", "part"] (sp_init K) := by
  have K__shown := ok__shown (P := P) (base := base) T
  refine T.FI.ok scInit S2_len (fun cdv A outer s H vs Q E hr h => ?_)
  obtain ⟨v0, v1, rfl, h⟩ := h
  refine ⟨_, pss_cons (ps_expr (pe_above (by rfl) T.g_EqualError T.rE T.vE (pa_cons (pv 0) (pa_cons (pe_joined (PJ.cons pe_str (PJ.cons (pe_fmt (pe_call K__shown (hr.mono (by decide)) (by rfl) T.g__shown T.F__shown.kp T.b__shown .nil pass0 (pa_cons (pv 1) pa_nil))) PJ.nil))) pa_nil))))
    (pss_one (ps_ost (pv 0) (pv 1))), ?_⟩
  obtain ⟨a, C, z, rfl, rfl, hz, hC, hP, ha, q⟩ := h
  walk_at "rd"
  refine ⟨_, rfl, by decide, _, rfl, ⟨_, rfl, z, rfl, hz, fun y hy => .inl ⟨y, rfl, Nat.le_trans hy (by decide), ?_, ⟨a, C, _, rfl, (by show 1 ≤ 1000; decide), hC, ha, ?_⟩⟩⟩⟩
  · have e1 : (Str.empty).length = 0 := by decide +kernel
    have e2 : (Str.ofString "no such number: ").length = 16 := by decide +kernel
    rw [PySem.Str.length_append, PySem.Str.length_append, sizeLine_eq, e1, e2]
    omega
  · exact ⟨_, rfl, _, rfl, a, C, rfl, hC, hP, .inl ⟨ha, q⟩⟩
/-! ### words -/
def RB (C : Addr) (z : Str) (H : Hp) (E : XK) : Prop := ∀ d H', Same H H' → H' d = some (.xd [("part", .str z)]) → E (.ref C) (some d) H'
def BadW (K : PySem.W.Frag) (H : Hp) (x : V) : Prop := NoInt K H x ∨ ∃ n : Int, x = .int n ∧ ¬ (1 ≤ n ∧ n ≤ 300)
theorem raise_ok (T : Txt w K mg) {z : Str} (hz : z ∈ three) {σ : L2.St} {H : Hp} {E : XK} (h : RB T.CB z H E) :
    tMkO T.CB (sp_init K) [] (tCons (tC (.str z)) tNil) σ H fun cls d H' => E cls d H' := by
  refine ⟨by show 1 ≤ 1000; decide, fun a na => ⟨_, _, rfl, a, T.CB, z, rfl, rfl, hz, T.oB, T.nP, upd_same, fun dx nd ne => ⟨rfl, dx, [("part", .str z)], upd_same, ?_, ?_, ?_⟩⟩⟩
  · rw [upd_ne ne, upd_same]
  · rw [upd_ne ne] at nd
    exact nd
  · rw [upd_ne ne] at nd
    refine h dx _ (fun b o e => ?_) upd_same
    have h1 : b ≠ a := ne_of_none e na
    have h2 : b ≠ dx := ne_of_none e nd
    rw [upd_ne h2, del_ne h1, upd_ne h1, upd_ne h2, upd_ne h1]
    exact e
def sp_check_width (K : PySem.W.Frag) (C : Addr) : Sp := S1E fun x H Q E => (∃ n : Int, x = .int n ∧ 1 ≤ n ∧ n ≤ 300 ∧ Q .non H) ∨ (BadW K H x ∧ RB C "width" H E)
theorem ok_check_width (T : Txt w K mg) : FnOk P w K mg base (L2.CX P w) 4 T.f_check_width T.fd_check_width ["width"] (sp_check_width K T.CB) := by
  have K_is_within := ok_is_within (P := P) (base := base) T
  refine T.F_check_width.okX sc_check_width S1E_len (fun cdv A outer s H vs Q E hr h => ?_)
  obtain ⟨v0, rfl, h⟩ := h
  refine ⟨_, (pss_one (ps_if (pt_not (pt_val (pe_call K_is_within (hr.mono (by decide)) (by rfl) T.g_is_within T.F_is_within.kp T.b_is_within .nil pass0 (pa_cons (pv 0) (pa_cons pe_int (pa_cons (C8.pe_gc (by rfl) T.c_MOST_WIDTH) pa_nil))))))
        (pss_one (ps_raise rfl (takes_of rfl rfl rfl rfl) (pmk_oex T.oB T.iB T.tI (ok_init (P := P) (base := base) T) (hr.mono (by decide)) T.bI .nil pass0 (by rfl) T.g_BadNumber (pa_cons pe_str pa_nil))))
        pss_nil)), ?_⟩
  rcases h with ⟨n, rfl, h1, h2, q⟩ | ⟨hw | ⟨n, rfl, hn⟩, r⟩
  · walk_at "rd"
    refine within_yes (bnd_int _) (bnd_int _) ?_ ⟨_, rfl, iteF q⟩
    show (decide (1 ≤ n) && decide (n ≤ 300)) = true
    rw [decide_eq_true h1, decide_eq_true h2]
    rfl
  · walk_at "rd"
    exact within_no hw ⟨_, rfl, iteT (raise_ok T (by decide +kernel) r)⟩
  · walk_at "rd"
    refine within_out (bnd_int _) (bnd_int _) ?_ ⟨_, rfl, iteT (raise_ok T (by decide +kernel) r)⟩
    show (decide (1 ≤ n) && decide (n ≤ 300)) = false
    rw [Bool.and_eq_false_iff]
    by_cases h1 : 1 ≤ n
    · exact .inr (decide_eq_false (by omega))
    · exact .inl (decide_eq_false h1)
theorem one_lt : (1 : Int).natAbs < 2 ^ 1000 := Nat.one_lt_two_pow (by decide)
theorem shl_ok {i : Int} {k : Nat} (hi : i.natAbs < 2 ^ 1000) (hk : k ≤ 1000) : CShl i (k : Int) := by
  refine ⟨by omega, ?_⟩
  have b := PyProof.Rows.intBits_le hi
  have : (2 : Int) ^ 27 = 134217728 := by decide
  omega
def sp_mask_of (_ : PySem.W.Frag) : Sp := S1 fun x H Q => ∃ n : Nat, x = .int (n : Int) ∧ n ≤ 300 ∧ Q (.int (2 ^ n - 1)) H
theorem ok_mask_of (T : Txt w K mg) : FnOk P w K mg base CX0 1 T.f_mask_of T.fd_mask_of ["width"] (sp_mask_of K) := by
  refine T.F_mask_of.ok sc_mask_of S1_len (fun cdv A outer s H vs Q E hr h => ?_)
  obtain ⟨v0, rfl, h⟩ := h
  refine ⟨_, (pss_one (ps_ret (pe_op op_sub (pe_op op_shlN pe_int (pv 0)) pe_int))), ?_⟩
  obtain ⟨n, rfl, h1, q⟩ := h
  walk_at "rd"
  refine ⟨n, rfl, shl_ok one_lt (by omega), ?_⟩
  rw [Int.one_mul]
  exact q
def sp_word (K : PySem.W.Frag) (C : Addr) : Sp := S2E fun x y H Q E => (∃ (i : Int) (n : Nat), x = .int i ∧ y = .int (n : Int) ∧ 1 ≤ n ∧ n ≤ 300 ∧ Q (.int (i % 2 ^ n)) H) ∨
  (NoInt K H x ∧ RB C "number" H E) ∨ ((∃ i : Int, x = .int i) ∧ BadW K H y ∧ RB C "width" H E)
theorem ok_word (T : Txt w K mg) : FnOk P w K mg base (L2.CX P w) 5 T.f_word T.fd_word ["number", "width"] (sp_word K T.CB) := by
  have K_check_width := ok_check_width (P := P) (base := base) T
  have K_is_within := ok_is_within (P := P) (base := base) T
  have K_mask_of := ok_mask_of (P := P) (base := base) T
  refine T.F_word.okX sc_word S2E_len (fun cdv A outer s H vs Q E hr h => ?_)
  obtain ⟨v0, v1, rfl, h⟩ := h
  refine ⟨_, (pss_cons (ps_if (pt_not (pt_val (pe_call K_is_within (hr.mono (by decide)) (by rfl) T.g_is_within T.F_is_within.kp T.b_is_within .nil pass0 (pa_cons (pv 0) (pa_cons pe_non (pa_cons pe_non pa_nil))))))
        (pss_one (ps_raise rfl (takes_of rfl rfl rfl rfl) (pmk_oex T.oB T.iB T.tI (ok_init (P := P) (base := base) T) (hr.mono (by decide)) T.bI .nil pass0 (by rfl) T.g_BadNumber (pa_cons pe_str pa_nil))))
        pss_nil)
      (pss_cons (ps_expr (pe_call (E := E) K_check_width (hr.mono (by decide)) (by rfl) T.g_check_width T.F_check_width.kp T.b_check_width .nil (passes_call (W := fun cls d _ H => E cls d H) (takes_of rfl rfl rfl rfl) (fun _ _ _ _ h => h)) (pa_cons (pv 1) pa_nil)))
      (pss_one (ps_ret (pe_op op_andM (pv 0) (pe_call K_mask_of (hr.mono (by decide)) (by rfl) T.g_mask_of T.F_mask_of.kp T.b_mask_of .nil pass0 (pa_cons (pv 1) pa_nil))))))), ?_⟩
  rcases h with ⟨i, n, rfl, rfl, h0, h1, q⟩ | ⟨hx, r⟩ | ⟨⟨i, rfl⟩, hy, r⟩
  · walk_at "rd"
    refine within_yes bnd_non bnd_non rfl ⟨_, rfl, iteF ?_⟩
    exact ⟨_, rfl, .inl ⟨n, rfl, by omega, by omega, ⟨_, rfl, n, rfl, h1, n, rfl, q⟩⟩⟩
  · walk_at "rd"
    exact within_no hx ⟨_, rfl, iteT (raise_ok T (by decide +kernel) r)⟩
  · walk_at "rd"
    refine within_yes bnd_non bnd_non rfl ⟨_, rfl, iteF ⟨_, rfl, .inr ⟨hy, r⟩⟩⟩
def sgn (n : Nat) (v : Int) : Int := if 2 ^ (n - 1) ≤ v then v - 2 ^ n else v
def sp_signed (K : PySem.W.Frag) (C : Addr) : Sp := S2E fun x y H Q E => (∃ (v : Int) (n : Nat), x = .int v ∧ y = .int (n : Int) ∧ 1 ≤ n ∧ n ≤ 300 ∧ 0 ≤ v ∧ v < 2 ^ n ∧ Q (.int (sgn n v)) H) ∨
  (BadW K H y ∧ RB C "width" H E) ∨ (∃ n : Nat, y = .int (n : Int) ∧ 1 ≤ n ∧ n ≤ 300 ∧ (NoInt K H x ∨ ∃ v : Int, x = .int v ∧ ¬ (0 ≤ v ∧ v < 2 ^ n)) ∧ RB C "value" H E)
theorem ok_signed (T : Txt w K mg) : FnOk P w K mg base (L2.CX P w) 5 T.f_signed T.fd_signed ["value", "width"] (sp_signed K T.CB) := by
  have K_check_width := ok_check_width (P := P) (base := base) T
  have K_is_within := ok_is_within (P := P) (base := base) T
  have K_mask_of := ok_mask_of (P := P) (base := base) T
  refine T.F_signed.okX sc_signed S2E_len (fun cdv A outer s H vs Q E hr h => ?_)
  obtain ⟨v0, v1, rfl, h⟩ := h
  refine ⟨_, (pss_cons (ps_expr (pe_call (E := E) K_check_width (hr.mono (by decide)) (by rfl) T.g_check_width T.F_check_width.kp T.b_check_width .nil (passes_call (W := fun cls d _ H => E cls d H) (takes_of rfl rfl rfl rfl) (fun _ _ _ _ h => h)) (pa_cons (pv 1) pa_nil)))
      (pss_cons (ps_if (pt_not (pt_val (pe_call K_is_within (hr.mono (by decide)) (by rfl) T.g_is_within T.F_is_within.kp T.b_is_within .nil pass0 (pa_cons (pv 0) (pa_cons pe_int (pa_cons (pe_call K_mask_of (hr.mono (by decide)) (by rfl) T.g_mask_of T.F_mask_of.kp T.b_mask_of .nil pass0 (pa_cons (pv 1) pa_nil)) pa_nil))))))
        (pss_one (ps_raise rfl (takes_of rfl rfl rfl rfl) (pmk_oex T.oB T.iB T.tI (ok_init (P := P) (base := base) T) (hr.mono (by decide)) T.bI .nil pass0 (by rfl) T.g_BadNumber (pa_cons pe_str pa_nil))))
        pss_nil)
      (pss_one (ps_ret (pe_ifExp (pt_truth (pe_op op_shrN (pv 0) (pe_op op_sub (pv 1) pe_int)) (by intro _; rfl)) (pe_op op_sub (pv 0) (pe_op op_shlN pe_int (pv 1))) (pv 0)))))), ?_⟩
  rcases h with ⟨v, n, rfl, rfl, h0, h1, h2, h3, q⟩ | ⟨hy, r⟩ | ⟨n, rfl, h0, h1, hx | ⟨v, rfl, hv⟩, r⟩
  · walk_at "rd"
    refine ⟨_, rfl, .inl ⟨n, rfl, by omega, by omega, ?_⟩⟩
    refine ⟨_, rfl, n, rfl, h1, ?_⟩
    refine within_yes (bnd_int _) (bnd_int _) ?_ ⟨_, rfl, iteF ?_⟩
    · show (decide (0 ≤ v) && decide (v ≤ 2 ^ n - 1)) = true
      rw [decide_eq_true h2, decide_eq_true (by omega)]
      rfl
    have hn : (n : Int) - 1 = ((n - 1 : Nat) : Int) := by omega
    have h2n : (2 : Int) ^ n = 2 * 2 ^ (n - 1) := by
      rw [show n = (n - 1) + 1 by omega, Int.pow_succ, Nat.add_sub_cancel, Int.mul_comm]
    have hp : (0 : Int) < 2 ^ (n - 1) := Int.pow_pos (by decide)
    refine ⟨n - 1, hn, _, rfl, ?_⟩
    by_cases hb : 2 ^ (n - 1) ≤ v
    · have e : v / 2 ^ (n - 1) = 1 := by
        refine Int.le_antisymm ?_ ?_
        · have := Int.ediv_lt_of_lt_mul hp (show v < 2 * 2 ^ (n - 1) by omega)
          omega
        · exact (Int.le_ediv_iff_mul_le hp).mpr (by omega)
      rw [e]
      refine iteT ⟨n, rfl, shl_ok one_lt (by omega), ?_⟩
      rw [Int.one_mul]
      have s : sgn n v = v - 2 ^ n := if_pos hb
      rw [← s]
      exact q
    · have e : v / 2 ^ (n - 1) = 0 := Int.ediv_eq_zero_of_lt h2 (by omega)
      rw [e]
      refine iteF ?_
      have s : sgn n v = v := if_neg hb
      rw [s] at q
      exact q
  · walk_at "rd"
    exact ⟨_, rfl, .inr ⟨hy, r⟩⟩
  · walk_at "rd"
    refine ⟨_, rfl, .inl ⟨n, rfl, by omega, by omega, ⟨_, rfl, n, rfl, h1, ?_⟩⟩⟩
    exact within_no hx ⟨_, rfl, iteT (raise_ok T (by decide +kernel) r)⟩
  · walk_at "rd"
    refine ⟨_, rfl, .inl ⟨n, rfl, by omega, by omega, ⟨_, rfl, n, rfl, h1, ?_⟩⟩⟩
    refine within_out (bnd_int _) (bnd_int _) ?_ ⟨_, rfl, iteT (raise_ok T (by decide +kernel) r)⟩
    show (decide (0 ≤ v) && decide (v ≤ 2 ^ n - 1)) = false
    rw [Bool.and_eq_false_iff]
    by_cases h2 : 0 ≤ v
    · exact .inr (decide_eq_false (by omega))
    · exact .inl (decide_eq_false h2)
end
end K00
end
section
set_option maxHeartbeats 4000000
namespace K00
open PySem PySem.Spec PyProof.Rows L2 G1 G2
local macro_rules | `(tactic| walk_at "rd") => `(tactic| simp only [tPar, tFmt, tJs, tM0, tM1, tSeq, tIfS, gName, gTup, gSub, gNil, gCons, List.cons.injEq, List.replicate_succ, tNot, tB, tRet, tC, tNext, tVar, tOp, tUn, tAnd, tOr, tAndV, tOrV, tNotV, tIf, tTest, tChain, tAsg, tCall, tCons, tNil, tCB, tDrop, tNever, tTup, tLst, tSl, tPart, tNoPart, tB, cx_K, cx_K', cx_w, cx_w', cx_mg', cx_P', cx_b', cx_mg, cx_P, cx_b, gUnl, Nat.reduceAdd, Nat.reduceSub, Nat.sub_self, Nat.zero_add, List.replicate_zero,
  rI, rI0, rU, rEq, rNe, L2.start, List.append_nil, List.cons_append, List.nil_append, List.map_cons, List.map_nil, List.length_cons, List.length_nil, List.getElem?_cons_zero, List.getElem?_cons_succ,
  List.replicate, List.set_cons_zero, List.set_cons_succ, exists_eq_left, exists_eq_left', exists_eq_right, exists_and_left, Option.some.injEq, V.bl.injEq, V.int.injEq, V.str.injEq, V.ref.injEq, true_and, and_true, if_true, if_false, Bool.false_eq_true, Bool.not_true, Bool.not_false, reduceIte, reduceCtorEq, ite_true, ite_false, decide_true, decide_false])
section
variable {P : Program} {w : World} {K : PySem.W.Frag} {mg : Str → Option Value} {base : Heap}
/-! ### what draws -/
def SameB (a : Addr) (H H1 : Hp) : Prop := ∀ b o, b ≠ a → H b = some o → H1 b = some o
theorem SameB.refl (a : Addr) (H : Hp) : SameB a H H := fun _ _ _ h => h
theorem SameB.trans {a : Addr} {H H1 H2 : Hp} (s : SameB a H H1) (t : SameB a H1 H2) : SameB a H H2 := fun b o n h => t b o n (s b o n h)
theorem SameB.of {a : Addr} {H H1 : Hp} (s : Same H H1) : SameB a H H1 := fun b o _ h => s b o h
theorem SameB.upd (a : Addr) (H : Hp) (o : HO) : SameB a H (upd H a o) := fun b x n h => by
  rw [upd_ne n]
  exact h
theorem SameB.seq {K : PySem.W.Frag} {H H' : Hp} {a c : Addr} {xs : List V} (e : SameB a H H') (n : c ≠ a) (h : SqL K H c xs) : SqL K H' c xs := by
  rcases h with (h | ⟨o, h⟩) | h
  · exact .inl (.inl (e _ _ n h))
  · exact .inl (.inr ⟨o, e _ _ n h⟩)
  · exact .inr h
structure TrS (K : PySem.W.Frag) (H : Hp) (a c : Addr) (ns : List Int) (t : Nat) (r : Int) : Prop where
  at_ : H a = some (.lst [.ref c, .int (t : Int), .int r])
  cells : SqL K H c (ns.map V.int)
  ne : c ≠ a
  few : ns.length ≤ 60
  low : 0 ≤ r
/-- a tray at a, which may be dipped into n times -/
def Tr (K : PySem.W.Frag) (H : Hp) (a c : Addr) (n : Nat) : Prop := ∃ ns t r, TrS K H a c ns t r ∧ t + n ≤ 1000000
def sp__law_dip (K : PySem.W.Frag) : Sp := S2 fun x y H Q => ∃ (a c : Addr) (m : Int) (n : Nat), x = .ref a ∧ y = .int m ∧ 0 < m ∧ m.natAbs < 2 ^ 400 ∧ Tr K H a c (n + 1) ∧ ∀ (r : Int) H1, 0 ≤ r → r < m → SameB a H H1 → Tr K H1 a c n → Q (.int r) H1
theorem mix3 {M t : Int} (h0 : 0 ≤ M) (h1 : M < 2147483648) (t0 : 0 ≤ t) (t1 : t ≤ 1000000) : (M * (2 * t + 1523) + 82039 * t * t + 7411).natAbs < 2 ^ 64 := by
  have a1 : 0 ≤ M * (2 * t + 1523) := Int.mul_nonneg h0 (by omega)
  have a2 : M * (2 * t + 1523) ≤ 2147483648 * 2001523 := Int.mul_le_mul (by omega) (by omega) (by omega) (by decide)
  have b1 : 0 ≤ 82039 * t * t := Int.mul_nonneg (by omega) t0
  have b2 : 82039 * t * t ≤ 82039000000 * 1000000 := Int.mul_le_mul (by omega) t1 t0 (by decide)
  generalize M * (2 * t + 1523) = x at *
  generalize 82039 * t * t = y at *
  omega
theorem dp_ints {K : PySem.W.Frag} {H : Hp} : ∀ ns : List Int, DpAll K H (ns.map V.int) (ns.map PyData.int)
  | [] => .nil
  | n :: ns => .cons (.int n) (dp_ints ns)
theorem lay_ints (ns : List Int) : PyData.canLayAll0 (ns.map PyData.int) = true := by
  induction ns with
  | nil => rfl
  | cons n r ih =>
    show (PyData.canLay0 (PyData.int n) && PyData.canLayAll0 (r.map PyData.int)) = true
    rw [ih]
    rfl
theorem depth_ints (ns : List Int) : PyData.depthAll (ns.map PyData.int) ≤ 1 := by
  induction ns with
  | nil => exact Nat.zero_le _
  | cons n r ih =>
    show max (PyData.depth (PyData.int n)) (PyData.depthAll (r.map PyData.int)) ≤ 1
    have : PyData.depth (PyData.int n) ≤ 1 := by
      first | decide | (unfold PyData.depth; omega)
    omega
theorem shaped_ints (ns : List Int) : SeqAt.shaped (.list (ns.map PyData.int)) = true := by
  unfold SeqAt.shaped
  rw [Bool.and_eq_true]
  refine ⟨lay_ints ns, decide_eq_true ?_⟩
  have := depth_ints ns
  unfold PyData.depth
  omega
theorem eqv_nil (ns : List Int) : PyData.eqv (.list (ns.map PyData.int)) (.list []) = ns.isEmpty := by
  cases ns <;> rfl
theorem ok__law_dip (T : Txt w K mg) : FnOk P w K mg base CX0 1 T.f__law_dip T.fd__law_dip ["_law_tray_here", "_law_many"] (sp__law_dip K) := by
  refine T.F__law_dip.ok sc__law_dip S2_len (fun cdv A outer s H vs Q E hr h => ?_)
  obtain ⟨v0, v1, rfl, h⟩ := h
  refine ⟨_, (pss_cons (ps_if (pt_cmpR op_gt (pe_ix ix_list (pv 0) pe_int (fun _ _ => rfl)) pe_int (nomark _))
        (pss_cons (ps_set (i := 2) sc__law_dip.nd rfl (.inl rfl) (pe_ix ix_list (pv 0) pe_int (fun _ _ => rfl)))
        (pss_cons (ps_asg (pe_op op_fdivW (pe_callTy call_intI (by rfl) T.m_int (by decide +kernel) (pa_cons (pv 2) pa_nil)) (pv 1)) (pg_sub (pv 0) pe_int set_list))
        (pss_one (ps_ret (pe_op op_mod (pe_callTy call_intI (by rfl) T.m_int (by decide +kernel) (pa_cons (pv 2) pa_nil)) (pv 1))))))
        pss_nil)
      (pss_cons (ps_set (i := 3) sc__law_dip.nd rfl (.inl rfl) (pe_ix ix_list (pv 0) pe_int (fun _ _ => rfl)))
      (pss_cons (ps_asg (pe_op op_add (pv 3) pe_int) (pg_sub (pv 0) pe_int set_list))
      (pss_cons (ps_set (i := 4) sc__law_dip.nd rfl (.inl rfl) (pe_op op_add (pe_op op_mul pe_int (pv 3)) pe_int))
      (C8.pss_cut (ps_if (pt_cmpR (op_neD hr.units) (pe_ix ix_list (pv 0) pe_int (fun _ _ => rfl)) (pe_lst pa_nil) (nomark _))
        (pss_one (ps_set (i := 4) sc__law_dip.nd rfl (.inl rfl) (pe_ix ix_list (pe_ix ix_list (pv 0) pe_int (fun _ _ => rfl)) (pe_op op_mod (pe_callTy call_intI (by rfl) T.m_int (by decide +kernel) (pa_cons (pv 3) pa_nil)) (pe_callB call_lenL (by rfl) T.m_len (by decide +kernel) (pa_cons (pe_ix ix_list (pv 0) pe_int (fun _ _ => rfl)) pa_nil))) (fun _ _ => rfl))))
        pss_nil)
      (pss_cons (ps_if (PW.pt (pw_and (pt_cmpR op_lt (pv 3) (pe_callB call_lenL (by rfl) T.m_len (by decide +kernel) (pa_cons (pe_ix ix_list (pv 0) pe_int (fun _ _ => rfl)) pa_nil)) (nomark _)) (pw_and1 (pt_cmpR op_ge (pe_callB call_abs (by rfl) T.m_abs (by decide +kernel) (pa_cons (pv 4) pa_nil)) (pe_op op_pow pe_int pe_int) (nomark _)))))
        (pss_cons (ps_set (i := 2) sc__law_dip.nd rfl (.inl rfl) (pe_op op_add (pe_op op_mul pe_int (pe_op op_sub (pe_callB call_abs (by rfl) T.m_abs (by decide +kernel) (pa_cons (pv 4) pa_nil)) (pe_op op_pow pe_int pe_int))) (pe_callTy call_intB (by rfl) T.m_int (by decide +kernel) (pa_cons (pe_cmpR op_lt (pv 4) pe_int (nomark _)) pa_nil))))
        (pss_cons (ps_asg (pe_op op_fdivW (pe_callTy call_intI (by rfl) T.m_int (by decide +kernel) (pa_cons (pv 2) pa_nil)) (pv 1)) (pg_sub (pv 0) pe_int set_list))
        (pss_one (ps_ret (pe_op op_mod (pe_callTy call_intI (by rfl) T.m_int (by decide +kernel) (pa_cons (pv 2) pa_nil)) (pv 1))))))
        pss_nil)
      (pss_cons (ps_set (i := 5) sc__law_dip.nd rfl (.inl rfl) (pe_op op_mod (pe_callTy call_intI (by rfl) T.m_int (by decide +kernel) (pa_cons (pe_op op_pow (pe_op op_add (pe_op op_add (pe_op op_mod (pe_callTy call_intI (by rfl) T.m_int (by decide +kernel) (pa_cons (pv 4) pa_nil)) pe_int) (pe_op op_mul pe_int (pv 3))) pe_int) pe_int) pa_nil)) pe_int))
      (pss_cons (ps_set (i := 5) sc__law_dip.nd rfl (.inl rfl) (pe_op op_mod (pe_callTy call_intI (by rfl) T.m_int (by decide +kernel) (pa_cons (pe_op op_pow (pe_op op_add (pe_op op_add (pe_op op_mulW (pv 5) (pe_op op_add (pe_op op_mul pe_int (pv 3)) pe_int)) (pe_op op_mulW (pe_op op_mul pe_int (pv 3)) (pv 3))) pe_int) pe_int) pa_nil)) pe_int))
      (pss_one (ps_ret (pe_op op_mod (pe_callTy call_intI (by rfl) T.m_int (by decide +kernel) (pa_cons (pe_op op_fdivW (pv 5) pe_int) pa_nil)) (pv 1)))))))))))), ?_⟩
  obtain ⟨a, c, m, n, rfl, rfl, hm, hm2, ⟨ns, t, r, S, hb⟩, q⟩ := h
  have hA : SqL K H a [.ref c, .int (t : Int), .int r] := .inl (.inl S.at_)
  walk_at "rd"
  refine ixL hA rfl ⟨_, rfl, ?_⟩
  have hdv : CDivW r m := wide_div hm hm2 (by decide) (by decide)
  refine ite2 (fun e => ?_) fun e => ?_
  · -- what a great one has left
    refine ixL hA rfl ⟨_, rfl, _, rfl, hdv, setL S.at_ (j := 2) rfl ⟨_, rfl, _, rfl, hm, ?_⟩⟩
    have d : (0 : Int) ≤ r / m := Int.ediv_nonneg S.low (by omega)
    refine q _ _ (Int.emod_nonneg _ (by omega)) (Int.emod_lt_of_pos _ hm) (SameB.upd _ _ _) ⟨ns, t, r / m, ⟨upd_same, (SameB.upd _ _ _).seq S.ne S.cells, S.ne, S.few, d⟩, by omega⟩
  · have hA1 : SqL K (upd H a (.lst [.ref c, .int ((t : Int) + 1), .int r])) a [.ref c, .int ((t : Int) + 1), .int r] := .inl (.inl upd_same)
    refine ixL hA rfl ⟨_, rfl, setL S.at_ (j := 1) rfl ⟨_, rfl, .inl (by decide), ?_⟩⟩
    have sB : SameB a H (upd H a (.lst [.ref c, .int ((t : Int) + 1), .int r])) := SameB.upd _ _ _
    have hC1 := sB.seq S.ne S.cells
    -- the cut: a cell is told
    refine ⟨fun σ H1 => ∃ (y2 y5 : Option V) (cell : Int), σ = [some (.ref a), some (.int m), y2, some (.int (t : Int)), some (.int cell), y5] ∧ SameB a H H1 ∧ H1 a = some (.lst [.ref c, .int ((t : Int) + 1), .int r]) ∧ SqL K H1 c (ns.map V.int), ?_, ?_⟩
    · walk_at "rd"
      refine ixL hA1 rfl ⟨Nat.zero_le _, fun p np => ?_⟩
      have sp := same_upd (o := .lst []) np
      have e1 : (upd (upd H a (.lst [.ref c, .int ((t : Int) + 1), .int r])) p (.lst [])) a = some (.lst [.ref c, .int ((t : Int) + 1), .int r]) := sp _ _ upd_same
      have hA2 : SqL K (upd (upd H a (.lst [.ref c, .int ((t : Int) + 1), .int r])) p (.lst [])) a _ := .inl (.inl e1)
      have hC2 := sp.seq hC1
      have sB2 := sB.trans (SameB.of sp)
      refine ⟨_, _, .lst hC2 (dp_ints ns), .lst (.inl (.inl upd_same)) .nil, shaped_ints ns, rfl, _, rfl, ?_⟩
      rw [eqv_nil]
      refine ite2 (fun e => ?_) fun _ => ⟨none, none, _, ⟨rfl, rfl, rfl⟩, sB2, e1, hC2⟩
      have hpos : 0 < ns.length := by
        cases ns with
        | nil => cases e
        | cons x r => exact Nat.succ_pos _
      refine ixL hA2 rfl ⟨_, rfl, ixL hA2 rfl ⟨c, _, rfl, hC2, _, rfl, _, rfl, ?_, ?_⟩⟩
      · rw [List.length_map]
        omega
      · rw [List.length_map]
        have h0 : 0 ≤ (t : Int) % (ns.length : Int) := Int.emod_nonneg _ (by omega)
        have h1 : (t : Int) % (ns.length : Int) < ns.length := Int.emod_lt_of_pos _ (by omega)
        obtain ⟨j, hj⟩ : ∃ j : Nat, (t : Int) % (ns.length : Int) = (j : Int) := ⟨_, (Int.toNat_of_nonneg h0).symm⟩
        rw [hj]
        have hj2 : j < ns.length := by omega
        exact ixL hC2 (atI_nat (by rw [List.getElem?_map, List.getElem?_eq_getElem hj2]; rfl)) ⟨none, none, _, ⟨rfl, rfl, rfl⟩, sB2, e1, hC2⟩
    · rintro σ H1 ⟨y2, y5, cell, rfl, s1, e1, c1⟩
      walk_at "rd"
      have hA3 : SqL K H1 a [.ref c, .int ((t : Int) + 1), .int r] := .inl (.inl e1)
      have m1 : 0 ≤ cell % 2147483647 := Int.emod_nonneg _ (by decide)
      have m2 : cell % 2147483647 < 2147483647 := Int.emod_lt_of_pos _ (by decide)
      have Tr1 : Tr K H1 a c n := ⟨ns, t + 1, r, ⟨by rw [e1]; rfl, c1, S.ne, S.few, S.low⟩, by omega⟩
      refine ixL hA3 rfl ⟨c, _, rfl, c1, _, rfl, ?_⟩
      have e1' := e1
      have p18 : CPow 10 18 := ⟨by decide, by decide, by decide⟩
      refine ite2 (fun e1 => ⟨p18, ite2 (fun e2 => ⟨p18, .inl (by decide), ?_⟩) fun e2 => ?_⟩) fun e1 => ?_
      · refine ⟨_, rfl, _, rfl, ?_⟩
        generalize hz : (2 * ((if cell < 0 then -cell else cell) - 10 ^ Int.toNat 18) + if decide (cell < 0) = true then (1 : Int) else 0) = z
        have z0 : 0 ≤ z := by
          have h2 := of_decide_eq_true e2
          rw [← hz]
          generalize (10 : Int) ^ Int.toNat 18 = u at *
          split <;> split <;> omega
        refine ⟨_, rfl, _, rfl, wide_div hm hm2 (by decide) (by decide), setL e1' (j := 2) rfl ⟨_, rfl, _, rfl, hm, ?_⟩⟩
        refine q _ _ (Int.emod_nonneg _ (by omega)) (Int.emod_lt_of_pos _ hm) (s1.trans (SameB.upd _ _ _)) ⟨ns, t + 1, z / m, ⟨upd_same.trans (by rfl), (SameB.upd _ _ _).seq S.ne c1, S.ne, S.few, Int.ediv_nonneg z0 (by omega)⟩, by omega⟩
      all_goals
        refine ⟨_, rfl, _, rfl, by decide, .inl (by decide), ⟨by decide, by decide, by omega⟩, _, rfl, _, rfl, by decide, .inl (by decide), ?_⟩
        generalize (cell % 2147483647 + 82039 * (t : Int) + 7411) ^ Int.toNat 5 = z
        have z1 : 0 ≤ z % 2147483579 := Int.emod_nonneg _ (by decide)
        have z2 : z % 2147483579 < 2147483579 := Int.emod_lt_of_pos _ (by decide)
        refine ⟨wide_mul (a := 31) (b := 22) (by omega) (by omega) (by decide) (by decide) (by decide), .inl (by decide), wide_mul (a := 37) (b := 22) (by omega) (by omega) (by decide) (by decide) (by decide),
          ⟨by decide, by decide, mix3 z1 (by omega) (by omega) (by omega)⟩, _, rfl, _, rfl, by decide, wide_div (b := 7) (by decide) (by decide) (by decide) (by decide), _, rfl, _, rfl, hm, ?_⟩
        exact q _ _ (Int.emod_nonneg _ (by omega)) (Int.emod_lt_of_pos _ hm) s1 Tr1
end
end K00
end
section
set_option maxHeartbeats 4000000
namespace K00
open PySem PySem.Spec PyProof.Rows L2 G1 G2
local macro_rules | `(tactic| walk_at "rd") => `(tactic| simp only [tPar, tFmt, tJs, tM0, tM1, tSeq, tIfS, gName, gTup, gSub, gNil, gCons, List.cons.injEq, List.replicate_succ, tNot, tB, tRet, tC, tNext, tVar, tOp, tUn, tAnd, tOr, tAndV, tOrV, tNotV, tIf, tTest, tChain, tAsg, tCall, tCons, tNil, tCB, tDrop, tNever, tTup, tLst, tSl, tPart, tNoPart, tB, cx_K, cx_K', cx_w, cx_w', cx_mg', cx_P', cx_b', cx_mg, cx_P, cx_b, gUnl, Nat.reduceAdd, Nat.reduceSub, Nat.sub_self, Nat.zero_add, List.replicate_zero,
  rI, rI0, rU, rEq, rNe, L2.start, List.append_nil, List.cons_append, List.nil_append, List.map_cons, List.map_nil, List.length_cons, List.length_nil, List.getElem?_cons_zero, List.getElem?_cons_succ,
  List.replicate, List.set_cons_zero, List.set_cons_succ, exists_eq_left, exists_eq_left', exists_eq_right, exists_and_left, Option.some.injEq, V.bl.injEq, V.int.injEq, V.str.injEq, V.ref.injEq, true_and, and_true, if_true, if_false, Bool.false_eq_true, Bool.not_true, Bool.not_false, reduceIte, reduceCtorEq, ite_true, ite_false, decide_true, decide_false])
section
variable {P : Program} {w : World} {K : PySem.W.Frag} {mg : Str → Option Value} {base : Heap}
def sp__law_take (K : PySem.W.Frag) : Sp := S2 fun x y H Q => ∃ (a c l : Addr) (xs : List V) (n : Nat), x = .ref a ∧ y = .ref l ∧ SqL K H l xs ∧ l ≠ a ∧ 0 < xs.length ∧ xs.length ≤ 1000 ∧ Tr K H a c (n + 1) ∧ ∀ v H1, v ∈ xs → SameB a H H1 → Tr K H1 a c n → Q v H1
theorem ok__law_take (T : Txt w K mg) : FnOk P w K mg base CX0 2 T.f__law_take T.fd__law_take ["_law_tray_here", "_law_some"] (sp__law_take K) := by
  have K__law_dip := ok__law_dip (P := P) (base := base) T
  refine T.F__law_take.ok sc__law_take S2_len (fun cdv A outer s H vs Q E hr h => ?_)
  obtain ⟨v0, v1, rfl, h⟩ := h
  refine ⟨_, (pss_one (ps_ret (pe_ix ix_list (pv 1) (pe_call K__law_dip (hr.mono (by decide)) (by rfl) T.g__law_dip T.F__law_dip.kp T.b__law_dip .nil pass0 (pa_cons (pv 0) (pa_cons (pe_callB call_lenL (by rfl) T.m_len (by decide +kernel) (pa_cons (pv 1) pa_nil)) pa_nil))) (fun _ _ => rfl)))), ?_⟩
  obtain ⟨a, c, l, xs, n, rfl, rfl, hl, hne, h0, h1, tr, q⟩ := h
  walk_at "rd"
  refine ⟨l, xs, rfl, hl, ?_⟩
  refine ⟨_, _, rfl, a, c, (xs.length : Int), n, rfl, rfl, by omega, ?_, tr, fun r H1 r0 r1 s1 t1 => ?_⟩
  · rw [Int.natAbs_natCast]
    exact Nat.lt_of_le_of_lt h1 (by decide)
  · obtain ⟨j, rfl⟩ : ∃ j : Nat, r = (j : Int) := ⟨_, (Int.toNat_of_nonneg r0).symm⟩
    have hj : j < xs.length := by omega
    exact ixL (s1.seq hne hl) (atI_nat (List.getElem?_eq_getElem hj)) (q _ _ (List.getElem_mem hj) s1 t1)
def sp__law_great (K : PySem.W.Frag) : Sp := S2 fun x y H Q => ∃ (a c : Addr) (m : Int) (n : Nat), x = .ref a ∧ y = .int m ∧ 0 ≤ m ∧ Tr K H a c (n + 11) ∧ ∀ (r : Int) H1, 0 ≤ r → r ≤ m → SameB a H H1 → Tr K H1 a c n → Q (.int r) H1
theorem Tr.less {K : PySem.W.Frag} {H : Hp} {a c : Addr} {n m : Nat} (t : Tr K H a c n) (h : m ≤ n) : Tr K H a c m := by
  obtain ⟨ns, t, r, S, hb⟩ := t
  exact ⟨ns, t, r, S, by omega⟩
theorem ok__law_great (T : Txt w K mg) : FnOk P w K mg base CX0 2 T.f__law_great T.fd__law_great ["_law_tray_here", "_law_most"] (sp__law_great K) := by
  have K__law_dip := ok__law_dip (P := P) (base := base) T
  refine T.F__law_great.ok sc__law_great S2_len (fun cdv A outer s H vs Q E hr h => ?_)
  obtain ⟨v0, v1, rfl, h⟩ := h
  refine ⟨_, (pss_cons (ps_set (i := 2) sc__law_great.nd rfl (.inl rfl) pe_int)
      (pss_cons (ps_for PassesOwn.never rfl (pi_range1 (by rfl) T.m_range (pa_cons pe_int pa_nil)) (pg_name (i := 3) sc__law_great.nd rfl (.inl rfl))
        (pss_one (ps_if (pt_cmpR op_lt (pv 2) (pv 1) (nomark _))
          (pss_one (ps_set (i := 2) sc__law_great.nd rfl (.inl rfl) (pe_op op_add (pe_op op_mul (pv 2) pe_int) (pe_call K__law_dip (hr.mono (by decide)) (by rfl) T.g__law_dip T.F__law_dip.kp T.b__law_dip .nil pass0 (pa_cons (pv 0) (pa_cons pe_int pa_nil))))))
          pss_nil)))
      (pss_one (ps_ret (pe_op op_mod (pe_callTy call_intI (by rfl) T.m_int (by decide +kernel) (pa_cons (pv 2) pa_nil)) (pe_op op_add (pv 1) pe_int)))))), ?_⟩
  obtain ⟨a, c, m, n, rfl, rfl, hm, tr, q⟩ := h
  walk_at "rd"
  refine ⟨_, rfl, by decide, by decide, for_range (n := 11) (fun i σ H' => ∃ (num : Int) (y3 : Option V), σ = [some (.ref a), some (.int m), some (.int num), y3] ∧ SameB a H H' ∧ Tr K H' a c (n + (11 - i))) ⟨0, none, rfl, SameB.refl _ _, tr⟩ ?_ ?_⟩
  · rintro i σ H' hi ⟨num, y3, rfl, s1, t1⟩
    walk_at "rd"
    refine ite2 (fun _ => ?_) fun _ => ⟨num, _, ⟨rfl, rfl⟩, s1, ?_⟩
    · refine ⟨.inr (by decide), ?_⟩
      refine ⟨_, _, rfl, a, c, 268435456, n + (11 - (i + 1)), rfl, rfl, by decide, by decide, ?_, fun r H2 r0 r1 s2 t2 => ?_⟩
      · rw [show n + (11 - (i + 1)) + 1 = n + (11 - i) by omega]
        exact t1
      · exact ⟨_, rfl, _, _, ⟨rfl, rfl⟩, s1.trans s2, t2⟩
    · exact t1.less (by omega)
  · rintro σ H' ⟨num, y3, rfl, s1, t1⟩
    walk_at "rd"
    refine ⟨_, rfl, _, rfl, by omega, ?_⟩
    exact q _ _ (Int.emod_nonneg _ (by omega)) (by have := Int.emod_lt_of_pos num (show 0 < m + 1 by omega); omega) s1 t1
theorem two_le_pow {k : Nat} (h : 1 ≤ k) : (2 : Int) ≤ 2 ^ k := by
  obtain ⟨j, rfl⟩ : ∃ j, k = j + 1 := ⟨k - 1, by omega⟩
  have : (0 : Int) < 2 ^ j := Int.pow_pos (by decide)
  rw [Int.pow_succ]
  omega
theorem tr_ne {K : PySem.W.Frag} {H : Hp} {a c l : Addr} {n : Nat} (t : Tr K H a c n) (h : H l = none) : l ≠ a := by
  obtain ⟨ns, t, r, S, hb⟩ := t
  intro e
  rw [e, S.at_] at h
  cases h
theorem Tr.same {K : PySem.W.Frag} {H H1 : Hp} {a c : Addr} {n : Nat} (t : Tr K H a c n) (s : Same H H1) : Tr K H1 a c n := by
  obtain ⟨ns, t, r, S, hb⟩ := t
  exact ⟨ns, t, r, ⟨s _ _ S.at_, s.seq S.cells, S.ne, S.few, S.low⟩, hb⟩
/-- a word below the limit 2 ^ n -/
def sp__law_word (K : PySem.W.Frag) : Sp := S2 fun x y H Q => ∃ (a c : Addr) (k n : Nat), x = .ref a ∧ y = .int (2 ^ k) ∧ 1 ≤ k ∧ Tr K H a c (n + 23) ∧ ∀ (r : Int) H1, 0 ≤ r → r < 2 ^ k → SameB a H H1 → Tr K H1 a c n → Q (.int r) H1
theorem ok__law_word (T : Txt w K mg) : FnOk P w K mg base CX0 3 T.f__law_word T.fd__law_word ["_law_tray_here", "_law_limit"] (sp__law_word K) := by
  have K__law_take := ok__law_take (P := P) (base := base) T
  have K__law_great := ok__law_great (P := P) (base := base) T
  refine T.F__law_word.ok sc__law_word S2_len (fun cdv A outer s H vs Q E hr h => ?_)
  obtain ⟨v0, v1, rfl, h⟩ := h
  refine ⟨_, (pss_one (ps_ret (pe_call K__law_take (hr.mono (by decide)) (by rfl) T.g__law_take T.F__law_take.kp T.b__law_take .nil pass0 (pa_cons (pv 0) (pa_cons (pe_lst (pa_cons pe_int (pa_cons pe_int (pa_cons (pe_op op_sub (pv 1) pe_int) (pa_cons (pe_op op_fdivW (pv 1) pe_int) (pa_cons (pe_op op_sub (pe_op op_fdivW (pv 1) pe_int) pe_int) (pa_cons (pe_call K__law_great (hr.mono (by decide)) (by rfl) T.g__law_great T.F__law_great.kp T.b__law_great .nil pass0 (pa_cons (pv 0) (pa_cons (pe_op op_sub (pv 1) pe_int) pa_nil))) (pa_cons (pe_call K__law_great (hr.mono (by decide)) (by rfl) T.g__law_great T.F__law_great.kp T.b__law_great .nil pass0 (pa_cons (pv 0) (pa_cons (pe_op op_sub (pv 1) pe_int) pa_nil))) pa_nil)))))))) pa_nil))))), ?_⟩
  obtain ⟨a, c, k, n, rfl, rfl, hk, tr, q⟩ := h
  have hP := two_le_pow hk
  walk_at "rd"
  generalize (2 : Int) ^ k = p at *
  have d2 : CDivW p 2 := wide_div (b := 2) (by decide) (by decide) (by decide) (by decide)
  refine ⟨d2, d2, _, _, rfl, a, c, p - 1, n + 12, rfl, rfl, by omega, tr, fun x H1 x0 x1 s1 t1 => ?_⟩
  refine ⟨_, _, rfl, a, c, p - 1, n + 1, rfl, rfl, by omega, t1, fun y H2 y0 y1 s2 t2 => ⟨by decide, fun l nl => ?_⟩⟩
  have s3 := same_upd (o := .lst [V.int 0, V.int 1, V.int (p - 1), V.int (p / 2), V.int (p / 2 - 1), V.int x, V.int y]) nl
  have na : l ≠ a := tr_ne t2 nl
  refine ⟨_, _, rfl, a, c, l, _, n, rfl, rfl, .inl (.inl upd_same), na, (by show 0 < 7; decide), (by show 7 ≤ 1000; decide), t2.same s3, fun v H3 hv s4 t4 => ?_⟩
  have sE := ((s1.trans s2).trans (SameB.of s3)).trans s4
  have fin : ∀ i : Int, 0 ≤ i → i < p → Q (.int i) H3 := fun i h0 h1 => q i H3 h0 h1 sE t4
  simp only [List.mem_cons, List.not_mem_nil, or_false] at hv
  rcases hv with rfl | rfl | rfl | rfl | rfl | rfl | rfl <;> exact fin _ (by omega) (by omega)
end
end K00
end
section
set_option maxHeartbeats 4000000
namespace K00
open PySem PySem.Spec PyProof.Rows L2 G1 G2
local macro_rules | `(tactic| walk_at "rd") => `(tactic| simp only [tPar, tFmt, tJs, tM0, tM1, tSeq, tIfS, gName, gTup, gSub, gNil, gCons, List.cons.injEq, List.replicate_succ, tNot, tB, tRet, tC, tNext, tVar, tOp, tUn, tAnd, tOr, tAndV, tOrV, tNotV, tIf, tTest, tChain, tAsg, tCall, tCons, tNil, tCB, tDrop, tNever, tTup, tLst, tSl, tPart, tNoPart, tB, cx_K, cx_K', cx_w, cx_w', cx_mg', cx_P', cx_b', cx_mg, cx_P, cx_b, gUnl, Nat.reduceAdd, Nat.reduceSub, Nat.sub_self, Nat.zero_add, List.replicate_zero,
  rI, rI0, rU, rEq, rNe, L2.start, List.append_nil, List.cons_append, List.nil_append, List.map_cons, List.map_nil, List.length_cons, List.length_nil, List.getElem?_cons_zero, List.getElem?_cons_succ,
  List.replicate, List.set_cons_zero, List.set_cons_succ, exists_eq_left, exists_eq_left', exists_eq_right, exists_and_left, Option.some.injEq, V.bl.injEq, V.int.injEq, V.str.injEq, V.ref.injEq, true_and, and_true, if_true, if_false, Bool.false_eq_true, Bool.not_true, Bool.not_false, reduceIte, reduceCtorEq, ite_true, ite_false, decide_true, decide_false])
section
variable {P : Program} {w : World} {K : PySem.W.Frag} {mg : Str → Option Value} {base : Heap}
/-- a comprehension whose elements dip into the tray at a -/
theorem lc_tray {J : It} {n : Nat} {G : Hp → Prop} {Y : Nat → Hp → V → Hp → Prop} (wk : Walk J n G Y) {a c : Addr} {m kk j : Nat} {te : TE} {σ : L2.St} {H1 : Hp} {D : Addr} {Qd : Hp → Prop} (xf : Nat → V) (Pa : List V → Prop)
    (hy : ∀ i H x H', i < n → G H → Y i H x H' → H' = H ∧ x = xf i) (hz : n ≤ 1000) (tr : Tr K H1 a c (m + kk * n)) (nD : H1 D = none) (hG : ∀ H', SameB a H1 H' → G H') (p0 : Pa [])
    (he : ∀ i acc H (R : VK), i < n → acc.length = i → Pa acc → SameB a H1 H → Tr K H a c (m + kk * (n - i)) → (∀ v H4, Pa (acc ++ [v]) → SameB a H H4 → Tr K H4 a c (m + kk * (n - (i + 1))) → R v H4) → te ((wipe σ [j]).set j (some (xf i))) H R)
    (hd : ∀ acc H', acc.length = n → Pa acc → SameB a H1 H' → Tr K H' a c m → H' D = some (.lst acc) → Qd H') :
    ∃ W : Nat → Nat → Hp → Prop, (∃ m, W 0 m (upd H1 D (.lst []))) ∧ ∀ i m H, W i m H →
      (J.stop i H ∧ Qd H) ∨ (J.go i H ∧ ∃ Nx : Hp → Prop, (∀ H', Nx H' → ∃ m', m' < m ∧ W (i + 1) m' H') ∧ ∀ x H', J.yld i H x H' → gName j x (wipe σ [j]) H' fun σ2 H2 => wipe σ2 [j] = wipe σ [j] ∧ tYes σ2 H2 fun b H3 =>
        if b = true then te σ2 H3 fun y H4 => ∃ acc, H4 D = some (.lst acc) ∧ acc.length < sizeLine ∧ Nx (upd H4 D (.lst (acc ++ [y]))) else Nx H3) := by
  have nDa : D ≠ a := tr_ne tr nD
  have new : ∀ {H : Hp} {o : HO}, SameB a H1 H → SameB a H1 (upd H D o) := fun s b x n e => by
    rw [upd_ne (ne_of_none e nD)]
    exact s b x n e
  have trU : ∀ {H : Hp} {o : HO} {k : Nat}, H1 D = none → SameB a H1 H → Tr K H a c k → (∃ acc, H D = some (.lst acc)) → Tr K (upd H D o) a c k := fun {H o k} nd s t hD => by
    obtain ⟨ns, t, r, S, hb⟩ := t
    obtain ⟨ns1, t1, r1, S1, hb1⟩ := tr
    exact ⟨ns1, t, r, ⟨by rw [upd_ne nDa.symm]; exact S.at_, (new s).seq S1.ne S1.cells, S1.ne, S1.few, S.low⟩, hb⟩
  refine lc_it wk (fun i H => ∃ acc, acc.length = i ∧ Pa acc ∧ SameB a H1 H ∧ Tr K H a c (m + kk * (n - i)) ∧ H D = some (.lst acc)) ⟨[], rfl, p0, new (SameB.refl _ _), ?_, upd_same⟩ (fun i H _ p => hG H (let ⟨_, _, _, s, _⟩ := p; s)) (fun i x H H' hi p y => ?_) fun H p => ?_
  · exact tr.same (same_upd nD)
  · obtain ⟨acc, hl, pa, s, t, e⟩ := p
    obtain ⟨rfl, rfl⟩ := hy i H x H' hi (hG H s) y
    refine ⟨?_, thenT (he i acc H' _ hi hl pa s t fun v H4 pv s4 t4 => ?_)⟩
    · show ((σ.set j none).set j (some (xf i))).set j none = σ.set j none
      rw [List.set_set, List.set_set]
    · have e4 : H4 D = some (.lst acc) := s4 _ _ nDa e
      refine ⟨acc, e4, by rw [hl]; exact Nat.lt_of_lt_of_le hi (Nat.le_of_lt (small1000 hz)), acc ++ [v], by rw [List.length_append, hl]; rfl, pv, new (s.trans s4), ?_, upd_same⟩
      exact trU nD (s.trans s4) t4 ⟨_, e4⟩
  · obtain ⟨acc, hl, pa, s, t, e⟩ := p
    rw [Nat.sub_self, Nat.mul_zero] at t
    exact hd acc H hl pa s t e
theorem at_ints {ls : List Int} {i : Nat} {x : V} (h : (ls.map V.int)[i]? = some x) : x = .int (ls.getD i 0) := by
  rw [List.getElem?_map] at h
  cases e : ls[i]? with
  | none =>
    rw [e] at h
    cases h
  | some y =>
    rw [e] at h
    cases h
    rw [List.getD_eq_getElem?_getD, e]
    rfl
theorem range_getD {α β : Type} (d : α) (g : α → β) (ls : List α) : (List.range ls.length).map (fun i => g (ls.getD i d)) = ls.map g := by
  apply List.ext_getElem?
  intro i
  rw [List.getElem?_map, List.getElem?_map]
  by_cases h : i < ls.length
  · rw [List.getElem?_range h, List.getElem?_eq_getElem h]
    show some (g (ls.getD i d)) = some (g ls[i])
    rw [List.getD_eq_getElem?_getD, List.getElem?_eq_getElem h]
    rfl
  · rw [show (List.range ls.length)[i]? = none from List.getElem?_eq_none (by rw [List.length_range]; omega), List.getElem?_eq_none (show ls.length ≤ i by omega)]
    rfl
theorem seqT_B {K : PySem.W.Frag} {H H' : Hp} {a c : Addr} {n : Nat} {q : Addr} {xs : List V} (t : Tr K H a c n) (h : SqT K H q xs) (s : SameB a H H') : SqT K H' q xs := by
  obtain ⟨ns, t, r, S, hb⟩ := t
  have ne : ∀ {o : HO}, H q = some o → o ≠ .lst [.ref c, .int (t : Int), .int r] → q ≠ a := fun e n z => by
    rw [z, S.at_] at e
    exact n (Option.some.inj e).symm
  rcases h with (h | ⟨o, h⟩) | h
  · exact .inl (.inl (s _ _ (ne h (by intro z; cases z)) h))
  · exact .inl (.inr ⟨o, s _ _ (ne h (by intro z; cases z)) h⟩)
  · exact .inr h
theorem nw {a : Addr} {H H' : Hp} {D : Addr} (s : SameB a H H') (n : H' D = none) (na : D ≠ a) : H D = none := by
  cases hq : H D with
  | none => rfl
  | some o =>
    have := s _ _ na hq
    rw [n] at this
    cases this
/-- a list that stood or is new is changed: what stood elsewhere stands -/
theorem upB {a : Addr} {H H' : Hp} {D : Addr} {o : HO} (s : SameB a H H') (n : H D = none) : SameB a H (upd H' D o) := fun b x h e => by
  rw [upd_ne (ne_of_none e n)]
  exact s b x h e
theorem at_getD {xs : List V} {i : Nat} {x : V} (h : xs[i]? = some x) : x = xs.getD i .non := by
  rw [List.getD_eq_getElem?_getD, h]
  rfl
theorem at_nats {sp : List Nat} {i : Nat} {x : V} (h : (sp.map fun j : Nat => V.int (j : Int))[i]? = some x) : x = .int ((sp.getD i 0 : Nat) : Int) := by
  rw [List.getElem?_map] at h
  cases e : sp[i]? with
  | none =>
    rw [e] at h
    cases h
  | some y =>
    rw [e] at h
    cases h
    rw [List.getD_eq_getElem?_getD, e]
    rfl
theorem cut_ints (ns : List Int) : ∃ ms : List Int, cutV (ns.map V.int) none (some 60) = ms.map V.int ∧ ms.length ≤ 60 := by
  unfold cutV
  rw [HT.sIx_none, show (some (60 : Int)) = some ((60 : Nat) : Int) from rfl, HT.sIx_nat, List.drop_zero, Nat.sub_zero]
  refine ⟨ns.take (min 60 (ns.map V.int).length), by rw [List.map_take], ?_⟩
  rw [List.length_take]
  omega
def sp__law_tray (K : PySem.W.Frag) : Sp := S1 fun x H Q => ∃ (l : Addr) (ns : List Int), x = .ref l ∧ SqL K H l (ns.map V.int) ∧ ns.length ≤ 1000 ∧ ∀ p H1, Same H H1 → (∃ c, Tr K H1 p c 1000000) → Q (.ref p) H1
theorem ok__law_tray (T : Txt w K mg) : FnOk P w K mg base CX0 1 T.f__law_tray T.fd__law_tray ["_law_script"] (sp__law_tray K) := by
  refine T.F__law_tray.ok sc__law_tray S1_len (fun cdv A outer s H vs Q E hr h => ?_)
  obtain ⟨v0, rfl, h⟩ := h
  refine ⟨_, (pss_one (ps_ret (pe_lst (pa_cons (pe_lc (own := [("_law_cell", 1)]) (g := gName 1) rfl sc__law_tray.nd (pi_list (pe_slice sl_list (pv 0) po_none (po_some pe_int))) (blkOk_by (own := [("_law_cell", 1)]) (N := ["_law_script", "_law_cell"]) (sc := defScope s__law_tray) (by decide +kernel)) (fun _ _ _ _ _ => pg_name (i := 1) sc__law_tray.nd rfl (Or.inl rfl)) (fun _ _ _ _ _ => pts_nil) (fun _ _ _ _ _ => (pe_callTy call_intI (by rfl) T.m_int (by decide +kernel) (pa_cons (pv 1) pa_nil)))) (pa_cons pe_int (pa_cons pe_int pa_nil)))))), ?_⟩
  obtain ⟨l, ns, rfl, hl, hn, q⟩ := h
  walk_at "rd"
  obtain ⟨ms, em, hm⟩ := cut_ints ns
  refine ⟨_, rfl, ⟨_, rfl, l, _, rfl, hl, fun r nr => ?_⟩⟩
  rw [em]
  have sr := same_upd (o := .lst (ms.map V.int)) nr
  refine ⟨r, rfl, ⟨_, .inl (.inl upd_same)⟩, fun D nD => ?_⟩
  refine lc_name (walk_list (xs := ms.map V.int)) (fun i => .int (ms.getD i 0)) (fun i => .int (ms.getD i 0)) (fun i H x H' hi _ y => ⟨y.1, at_ints y.2⟩) (by rw [List.length_map]; omega) nD (fun H5 s5 => .inl (.inl (s5 _ _ upd_same))) (fun i H5 R hi s5 hR => ?_) fun H5 s5 e5 => ?_
  · exact ⟨_, rfl, _, rfl, hR _ (Same.refl _)⟩
  · rw [List.length_map, range_getD 0 V.int] at e5
    refine ⟨by decide, fun p np => q p _ ((sr.trans s5).trans (same_upd np)) ⟨D, ms, 0, 0, ⟨upd_same, .inl (.inl (same_upd np _ _ e5)), fun h => ?_, hm, by decide⟩, by decide⟩⟩
    rw [← h, e5] at np
    cases np
def sp__law_width (K : PySem.W.Frag) : Sp := S1 fun x H Q => ∃ (a c : Addr) (n : Nat), x = .ref a ∧ Tr K H a c (n + 2) ∧ ∀ (W : Nat) H1, 1 ≤ W → W ≤ 300 → SameB a H H1 → Tr K H1 a c n → Q (.int (W : Int)) H1
theorem ok__law_width (T : Txt w K mg) : FnOk P w K mg base CX0 3 T.f__law_width T.fd__law_width ["_law_tray_here"] (sp__law_width K) := by
  have K__law_take := ok__law_take (P := P) (base := base) T
  have K__law_dip := ok__law_dip (P := P) (base := base) T
  refine T.F__law_width.ok sc__law_width S1_len (fun cdv A outer s H vs Q E hr h => ?_)
  obtain ⟨v0, rfl, h⟩ := h
  refine ⟨_, (pss_one (ps_ret (pe_call K__law_take (hr.mono (by decide)) (by rfl) T.g__law_take T.F__law_take.kp T.b__law_take .nil pass0 (pa_cons (pv 0) (pa_cons (pe_lst (pa_cons pe_int (pa_cons pe_int (pa_cons pe_int (pa_cons pe_int (pa_cons pe_int (pa_cons pe_int (pa_cons pe_int (pa_cons pe_int (pa_cons (pe_op op_add pe_int (pe_call K__law_dip (hr.mono (by decide)) (by rfl) T.g__law_dip T.F__law_dip.kp T.b__law_dip .nil pass0 (pa_cons (pv 0) (pa_cons pe_int pa_nil)))) (pa_cons pe_int (pa_cons pe_int pa_nil)))))))))))) pa_nil))))), ?_⟩
  obtain ⟨a, c, n, rfl, tr, q⟩ := h
  walk_at "rd"
  refine ⟨_, _, rfl, a, c, 300, n + 1, rfl, rfl, by decide, by decide, tr, fun d H1 d0 d1 s1 t1 => ?_⟩
  refine ⟨_, rfl, by decide, fun p np => ?_⟩
  have sp1 := same_upd (o := .lst [V.int 1, V.int 2, V.int 3, V.int 4, V.int 8, V.int 31, V.int 32, V.int 64, V.int (1 + d), V.int 299, V.int 300]) np
  refine ⟨_, _, rfl, a, c, p, _, n, rfl, rfl, .inl (.inl upd_same), tr_ne t1 np, (by show 0 < 11; decide), (by show 11 ≤ 1000; decide), t1.same sp1, fun v H2 hv s2 t2 => ?_⟩
  have sA := (s1.trans (SameB.of sp1)).trans s2
  have fin : ∀ W : Nat, v = .int (W : Int) → 1 ≤ W → W ≤ 300 → Q v H2 := fun W e h1 h2 => by
    rw [e]
    exact q W H2 h1 h2 sA t2
  simp only [List.mem_cons, List.not_mem_nil, or_false] at hv
  rcases hv with h | h | h | h | h | h | h | h | h | h | h
  · exact fin 1 h (by decide) (by decide)
  · exact fin 2 h (by decide) (by decide)
  · exact fin 3 h (by decide) (by decide)
  · exact fin 4 h (by decide) (by decide)
  · exact fin 8 h (by decide) (by decide)
  · exact fin 31 h (by decide) (by decide)
  · exact fin 32 h (by decide) (by decide)
  · exact fin 64 h (by decide) (by decide)
  · exact fin (1 + d).toNat (by rw [h, Int.toNat_of_nonneg (by omega)]) (by omega) (by omega)
  · exact fin 299 h (by decide) (by decide)
  · exact fin 300 h (by decide) (by decide)
theorem pow_abs {k : Nat} (h : k ≤ 300) : ((2 : Int) ^ k).natAbs ≤ 2 ^ 300 := by
  rw [Int.natAbs_pow]
  exact Nat.pow_le_pow_right (by decide) h
theorem ten40 : (0 : Int) ≤ 10 ^ Int.toNat 40 ∧ ((10 : Int) ^ Int.toNat 40).natAbs ≤ 2 ^ 300 ∧ ((10 : Int) ^ Int.toNat 40).natAbs < 2 ^ 140 := by decide +kernel
theorem ten80 : (0 : Int) ≤ 10 ^ Int.toNat 40 * 10 ^ Int.toNat 40 ∧ ((10 : Int) ^ Int.toNat 40 * 10 ^ Int.toNat 40).natAbs ≤ 2 ^ 300 := by decide +kernel
def sp__law_any (K : PySem.W.Frag) : Sp := S2 fun x y H Q => ∃ (a c : Addr) (k n : Nat), x = .ref a ∧ y = .int (2 ^ k) ∧ k ≤ 300 ∧ Tr K H a c (n + 30) ∧ ∀ (i : Int) H1, i.natAbs < 2 ^ 310 → SameB a H H1 → Tr K H1 a c n → Q (.int i) H1
theorem ok__law_any (T : Txt w K mg) : FnOk P w K mg base CX0 3 T.f__law_any T.fd__law_any ["_law_tray_here", "_law_limit"] (sp__law_any K) := by
  have K__law_take := ok__law_take (P := P) (base := base) T
  have K__law_great := ok__law_great (P := P) (base := base) T
  refine T.F__law_any.ok sc__law_any S2_len (fun cdv A outer s H vs Q E hr h => ?_)
  obtain ⟨v0, v1, rfl, h⟩ := h
  refine ⟨_, (pss_cons (ps_set (i := 2) sc__law_any.nd rfl (.inl rfl) (pe_call K__law_take (hr.mono (by decide)) (by rfl) T.g__law_take T.F__law_take.kp T.b__law_take .nil pass0 (pa_cons (pv 0) (pa_cons (pe_lst (pa_cons pe_int (pa_cons (pv 1) (pa_cons (pe_op op_fdivW (pv 1) pe_int) (pa_cons (pe_call K__law_great (hr.mono (by decide)) (by rfl) T.g__law_great T.F__law_great.kp T.b__law_great .nil pass0 (pa_cons (pv 0) (pa_cons (pe_op op_mulW (pe_op op_pow pe_int pe_int) (pe_op op_pow pe_int pe_int)) pa_nil))) (pa_cons (pe_call K__law_great (hr.mono (by decide)) (by rfl) T.g__law_great T.F__law_great.kp T.b__law_great .nil pass0 (pa_cons (pv 0) (pa_cons (pe_op op_pow pe_int pe_int) pa_nil))) (pa_cons (pe_op op_mul pe_int (pv 1)) pa_nil))))))) pa_nil))))
      (pss_one (ps_ret (pe_op op_add (pe_op op_mulW (pe_call K__law_take (hr.mono (by decide)) (by rfl) T.g__law_take T.F__law_take.kp T.b__law_take .nil pass0 (pa_cons (pv 0) (pa_cons (pe_lst (pa_cons pe_int (pa_cons (pe_un un_neg pe_int) pa_nil))) pa_nil))) (pv 2)) (pe_call K__law_take (hr.mono (by decide)) (by rfl) T.g__law_take T.F__law_take.kp T.b__law_take .nil pass0 (pa_cons (pv 0) (pa_cons (pe_lst (pa_cons pe_int (pa_cons pe_int (pa_cons (pe_un un_neg pe_int) pa_nil)))) pa_nil))))))), ?_⟩
  obtain ⟨a, c, k, n, rfl, rfl, hk, tr, q⟩ := h
  walk_at "rd"
  have hp : (0 : Int) < 2 ^ k := Int.pow_pos (by decide)
  have hp2 := pow_abs hk
  have b310 : (2 : Nat) ^ 310 = 1024 * 2 ^ 300 := by decide +kernel
  have b302 : (2 : Nat) ^ 302 = 4 * 2 ^ 300 := by decide +kernel
  have c10 : CPow 10 40 := ⟨by decide, by decide, by decide⟩
  obtain ⟨t1, t2, t3⟩ := ten40
  obtain ⟨e1, e2⟩ := ten80
  have hm : CMulW (10 ^ Int.toNat 40) (10 ^ Int.toNat 40) := wide_mul t3 t3 (by decide) (by decide) (by decide)
  refine ⟨wide_div (b := 2) (by decide) (by decide) (by decide) (by decide), c10, c10, hm, ?_⟩
  generalize (10 : Int) ^ Int.toNat 40 * 10 ^ Int.toNat 40 = m2 at *
  generalize (10 : Int) ^ Int.toNat 40 = m1 at *
  generalize (2 : Int) ^ k = p at *
  refine ⟨_, _, rfl, a, c, m2, n + 19, rfl, rfl, e1, tr, fun x H1 x0 x1 s1 t1' => ⟨c10, ?_⟩⟩
  refine ⟨_, _, rfl, a, c, m1, n + 8, rfl, rfl, t1, t1', fun y H2 y0 y1 s2 t2' => ⟨.inl (by decide), by decide, fun l nl => ?_⟩⟩
  have s3 := same_upd (o := .lst [V.int 0, V.int p, V.int (p / 2), V.int x, V.int y, V.int (3 * p)]) nl
  refine ⟨_, _, rfl, a, c, l, _, n + 7, rfl, rfl, .inl (.inl upd_same), tr_ne t2' nl, (by show 0 < 6; decide), (by show 6 ≤ 1000; decide), t2'.same s3, fun v H3 hv s4 t4 => ?_⟩
  have sE := ((s1.trans s2).trans (SameB.of s3)).trans s4
  obtain ⟨z, rfl, hz⟩ : ∃ z : Int, v = .int z ∧ z.natAbs < 2 ^ 302 := by
    rw [b302]
    simp only [List.mem_cons, List.not_mem_nil, or_false] at hv
    generalize (2 : Nat) ^ 300 = B at *
    rcases hv with rfl | rfl | rfl | rfl | rfl | rfl <;> exact ⟨_, rfl, by omega⟩
  refine ⟨by decide, fun l2 nl2 => ?_⟩
  have s5 := same_upd (o := .lst [V.int 1, V.int (-1)]) nl2
  refine ⟨_, _, rfl, a, c, l2, _, n + 6, rfl, rfl, .inl (.inl upd_same), tr_ne t4 nl2, (by show 0 < 2; decide), (by show 2 ≤ 1000; decide), t4.same s5, fun v H4 hv s6 t6 => ?_⟩
  obtain ⟨i, rfl, hi⟩ : ∃ i : Int, v = .int i ∧ (i = 1 ∨ i = -1) := by
    simp only [List.mem_cons, List.not_mem_nil, or_false] at hv
    rcases hv with rfl | rfl
    · exact ⟨_, rfl, .inl rfl⟩
    · exact ⟨_, rfl, .inr rfl⟩
  refine ⟨i, rfl, z, rfl, wide_mul (a := 2) (by rcases hi with rfl | rfl <;> decide) hz (by decide) (by decide) (by decide), by decide, fun l3 nl3 => ?_⟩
  have s7 := same_upd (o := .lst [V.int 0, V.int 1, V.int (-1)]) nl3
  refine ⟨_, _, rfl, a, c, l3, _, n + 5, rfl, rfl, .inl (.inl upd_same), tr_ne t6 nl3, (by show 0 < 3; decide), (by show 3 ≤ 1000; decide), t6.same s7, fun v H5 hv s8 t8 => ?_⟩
  have sF := (sE.trans ((SameB.of s5).trans s6)).trans ((SameB.of s7).trans s8)
  obtain ⟨u, rfl, hu⟩ : ∃ u : Int, v = .int u ∧ u.natAbs ≤ 1 := by
    simp only [List.mem_cons, List.not_mem_nil, or_false] at hv
    rcases hv with rfl | rfl | rfl <;> exact ⟨_, rfl, by decide⟩
  refine ⟨u, rfl, q _ H5 ?_ sF (t8.less (by omega))⟩
  rw [b310]
  rw [b302] at hz
  have hB : 0 < (2 : Nat) ^ 300 := by decide +kernel
  generalize (2 : Nat) ^ 300 = B at *
  rcases hi with rfl | rfl <;> omega
end
end K00
end
section
set_option maxHeartbeats 4000000
namespace K00
open PySem PySem.Spec PyProof.Rows L2 G1 G2
local macro_rules | `(tactic| walk_at "rd") => `(tactic| simp only [tPar, tFmt, tJs, tM0, tM1, tSeq, tIfS, gName, gTup, gSub, gNil, gCons, List.cons.injEq, List.replicate_succ, tNot, tB, tRet, tC, tNext, tVar, tOp, tUn, tAnd, tOr, tAndV, tOrV, tNotV, tIf, tTest, tChain, tAsg, tCall, tCons, tNil, tCB, tDrop, tNever, tTup, tLst, tSl, tPart, tNoPart, tB, cx_K, cx_K', cx_w, cx_w', cx_mg', cx_P', cx_b', cx_mg, cx_P, cx_b, gUnl, Nat.reduceAdd, Nat.reduceSub, Nat.sub_self, Nat.zero_add, List.replicate_zero,
  rI, rI0, rU, rEq, rNe, L2.start, List.append_nil, List.cons_append, List.nil_append, List.map_cons, List.map_nil, List.length_cons, List.length_nil, List.getElem?_cons_zero, List.getElem?_cons_succ,
  List.replicate, List.set_cons_zero, List.set_cons_succ, exists_eq_left, exists_eq_left', exists_eq_right, exists_and_left, Option.some.injEq, V.bl.injEq, V.int.injEq, V.str.injEq, V.ref.injEq, true_and, and_true, if_true, if_false, Bool.false_eq_true, Bool.not_true, Bool.not_false, reduceIte, reduceCtorEq, ite_true, ite_false, decide_true, decide_false])
section
variable {P : Program} {w : World} {K : PySem.W.Frag} {mg : Str → Option Value} {base : Heap}
theorem wd {C : Addr} {H : Hp} {Q : VK} {E : XK} {i : Int} {W : Nat} (w1 : 1 ≤ W) (w300 : W ≤ 300) (q : Q (.int (i % 2 ^ W)) H) : sp_word K C [.int i, .int (W : Int)] H Q E :=
  ⟨_, _, rfl, .inl ⟨i, W, rfl, rfl, w1, w300, q⟩⟩
def sp__law_rests_right (K : PySem.W.Frag) : Sp := S1 fun x H Q => ∃ (a c : Addr) (n : Nat), x = .ref a ∧ Tr K H a c (n + 100) ∧ ∀ H1, SameB a H H1 → Tr K H1 a c n → Q (.bl true) H1
theorem ok__law_rests_right (T : Txt w K mg) : FnOk P w K mg base CX0 6 T.f__law_rests_right T.fd__law_rests_right ["_law_tray_here"] (sp__law_rests_right K) := by
  have K__law_width := ok__law_width (P := P) (base := base) T
  have K_word := ok_word (P := P) (base := base) T
  have K__law_any := ok__law_any (P := P) (base := base) T
  refine T.F__law_rests_right.ok sc__law_rests_right S1_len (fun cdv A outer s H vs Q E hr h => ?_)
  obtain ⟨v0, rfl, h⟩ := h
  refine ⟨_, (pss_cons (ps_set (i := 1) sc__law_rests_right.nd rfl (.inl rfl) (pe_call K__law_width (hr.mono (by decide)) (by rfl) T.g__law_width T.F__law_width.kp T.b__law_width .nil pass0 (pa_cons (pv 0) pa_nil)))
      (pss_cons (ps_set (i := 2) sc__law_rests_right.nd rfl (.inl rfl) (pe_op op_shlW pe_int (pv 1)))
      (pss_cons (ps_par (i := 3) (j := 4) (by rfl) sc__law_rests_right.nd rfl rfl (by decide) rfl rfl (pa_cons (pe_call K__law_any (hr.mono (by decide)) (by rfl) T.g__law_any T.F__law_any.kp T.b__law_any .nil pass0 (pa_cons (pv 0) (pa_cons (pv 2) pa_nil))) (pa_cons (pe_call K__law_any (hr.mono (by decide)) (by rfl) T.g__law_any T.F__law_any.kp T.b__law_any .nil pass0 (pa_cons (pv 0) (pa_cons (pv 2) pa_nil))) pa_nil)) (by rfl))
      (pss_cons (ps_set (i := 5) sc__law_rests_right.nd rfl (.inl rfl) (pe_callK0 K_word (hr.mono (by decide)) (by rfl) T.g_word T.F_word.kp T.kb_word passF (pk_cons (pv 3) (pk_cons (pv 1) pk_nil))))
      (pss_cons (ps_if (PW.pt (pw_or (pt_val (pe_callB call_isi (by rfl) T.m_isinstance (by decide +kernel) (pa_cons (pv 5) (pa_cons (pe_bltn (v := .ty "bool") (by rfl) T.m_bool (by decide +kernel) rfl) pa_nil)))) (pw_or (pt_not (pt_val (pe_callB call_isi (by rfl) T.m_isinstance (by decide +kernel) (pa_cons (pv 5) (pa_cons (pe_bltn (v := .ty "int") (by rfl) T.m_int (by decide +kernel) rfl) pa_nil))))) (pw_or (pt_cmpR op_ne (pv 5) (pe_op op_sub (pv 3) (pe_op op_mulW (pe_op op_fdivW (pv 3) (pv 2)) (pv 2))) (nomark _)) (pw_or1 (pt_not (pt_chain op_le op_lt pe_int (pv 5) (pv 2))))))))
        (pss_one (ps_ret pe_bl))
        pss_nil)
      (pss_cons (ps_set (i := 6) sc__law_rests_right.nd rfl (.inl rfl) (pe_call K_word (hr.mono (by decide)) (by rfl) T.g_word T.F_word.kp T.b_word .nil passF (pa_cons (pv 4) (pa_cons (pv 1) pa_nil))))
      (pss_cons (ps_if (PW.pt (pw_or (pt_cmpR op_ne (pe_call K_word (hr.mono (by decide)) (by rfl) T.g_word T.F_word.kp T.b_word .nil passF (pa_cons (pv 5) (pa_cons (pv 1) pa_nil))) (pv 5) (nomark _)) (pw_or (pt_cmpR op_ne (pe_call K_word (hr.mono (by decide)) (by rfl) T.g_word T.F_word.kp T.b_word .nil passF (pa_cons (pe_op op_add (pv 3) (pv 2)) (pa_cons (pv 1) pa_nil))) (pv 5) (nomark _)) (pw_or1 (pt_cmpR op_ne (pe_call K_word (hr.mono (by decide)) (by rfl) T.g_word T.F_word.kp T.b_word .nil passF (pa_cons (pe_op op_sub (pv 3) (pe_op op_mul pe_int (pv 2))) (pa_cons (pv 1) pa_nil))) (pv 5) (nomark _))))))
        (pss_one (ps_ret pe_bl))
        pss_nil)
      (pss_cons (ps_if (PW.pt (pw_or (pt_cmpR op_ne (pe_call K_word (hr.mono (by decide)) (by rfl) T.g_word T.F_word.kp T.b_word .nil passF (pa_cons (pe_op op_add (pv 3) (pv 4)) (pa_cons (pv 1) pa_nil))) (pe_op op_mod (pe_callTy call_intI (by rfl) T.m_int (by decide +kernel) (pa_cons (pe_op op_add (pv 5) (pv 6)) pa_nil)) (pv 2)) (nomark _)) (pw_or1 (pt_cmpR op_ne (pe_call K_word (hr.mono (by decide)) (by rfl) T.g_word T.F_word.kp T.b_word .nil passF (pa_cons (pe_op op_sub (pv 3) (pv 4)) (pa_cons (pv 1) pa_nil))) (pe_op op_mod (pe_callTy call_intI (by rfl) T.m_int (by decide +kernel) (pa_cons (pe_op op_sub (pe_op op_add (pv 5) (pv 2)) (pv 6)) pa_nil)) (pv 2)) (nomark _)))))
        (pss_one (ps_ret pe_bl))
        pss_nil)
      (pss_cons (ps_par (i := 7) (j := 8) (by rfl) sc__law_rests_right.nd rfl rfl (by decide) rfl rfl (pa_cons (pe_op op_mod (pe_callTy call_intI (by rfl) T.m_int (by decide +kernel) (pa_cons (pv 3) pa_nil)) (pe_op op_pow pe_int pe_int)) (pa_cons (pe_op op_mod (pe_callTy call_intI (by rfl) T.m_int (by decide +kernel) (pa_cons (pv 4) pa_nil)) (pe_op op_pow pe_int pe_int)) pa_nil)) (by rfl))
      (pss_cons (ps_set (i := 9) sc__law_rests_right.nd rfl (.inl rfl) (pe_op op_mulW (pe_call K_word (hr.mono (by decide)) (by rfl) T.g_word T.F_word.kp T.b_word .nil passF (pa_cons (pv 7) (pa_cons (pv 1) pa_nil))) (pe_call K_word (hr.mono (by decide)) (by rfl) T.g_word T.F_word.kp T.b_word .nil passF (pa_cons (pv 8) (pa_cons (pv 1) pa_nil)))))
      (pss_cons (ps_if (PW.pt (pw_or (pt_cmpR op_ne (pe_call K_word (hr.mono (by decide)) (by rfl) T.g_word T.F_word.kp T.b_word .nil passF (pa_cons (pe_op op_mulW (pv 7) (pv 8)) (pa_cons (pv 1) pa_nil))) (pe_op op_sub (pv 9) (pe_op op_mulW (pe_op op_fdivW (pv 9) (pv 2)) (pv 2))) (nomark _)) (pw_or1 (pt_cmpR op_ne (pe_call K_word (hr.mono (by decide)) (by rfl) T.g_word T.F_word.kp T.b_word .nil passF (pa_cons (pe_un un_neg (pv 3)) (pa_cons (pv 1) pa_nil))) (pe_op op_mod (pe_callTy call_intI (by rfl) T.m_int (by decide +kernel) (pa_cons (pe_op op_sub (pv 2) (pv 5)) pa_nil)) (pv 2)) (nomark _)))))
        (pss_one (ps_ret pe_bl))
        pss_nil)
      (pss_cons (ps_for PassesOwn.never rfl (pi_range2 (by rfl) T.m_range (pa_cons pe_int (pa_cons (pe_op op_add (pe_callB (call_min2 rfl) (by rfl) T.m_min (by decide +kernel) (pa_cons (pv 1) (pa_cons pe_int pa_nil))) pe_int) pa_nil))) (pg_name (i := 10) sc__law_rests_right.nd rfl (.inl rfl))
        (pss_one (ps_if (pt_cmpR op_ne (pe_call K_word (hr.mono (by decide)) (by rfl) T.g_word T.F_word.kp T.b_word .nil passF (pa_cons (pv 5) (pa_cons (pv 10) pa_nil))) (pe_call K_word (hr.mono (by decide)) (by rfl) T.g_word T.F_word.kp T.b_word .nil passF (pa_cons (pv 3) (pa_cons (pv 10) pa_nil))) (nomark _))
          (pss_one (ps_ret pe_bl))
          pss_nil)))
      (pss_one (ps_ret pe_bl)))))))))))))), ?_⟩
  obtain ⟨a, c, n, rfl, tr, q⟩ := h
  walk_at "rd"
  refine ⟨_, rfl, a, c, n + 98, rfl, tr, fun W H1 w1 w300 s1 t1 => ⟨_, rfl, shl_ok one_lt (by omega), ?_⟩⟩
  simp only [Int.toNat_natCast, Int.one_mul]
  refine ⟨_, _, rfl, a, c, W, n + 68, rfl, rfl, w300, t1, fun i H2 hi s2 t2 => ?_⟩
  refine ⟨_, _, rfl, a, c, W, n + 38, rfl, rfl, w300, t2, fun j H3 hj s3 t3 => ⟨_, _, ⟨rfl, rfl⟩, ?_⟩⟩
  have hp : (0 : Int) < 2 ^ W := Int.pow_pos (by decide)
  have hpa : ((2 : Int) ^ W).natAbs < 2 ^ 301 := Nat.lt_of_le_of_lt (pow_abs w300) (by decide +kernel)
  have em : i % 2 ^ W = i - i / 2 ^ W * 2 ^ W := by
    rw [Int.emod_def, Int.mul_comm]
  have m0 : 0 ≤ i % 2 ^ W := Int.emod_nonneg _ (by omega)
  have m1 : i % 2 ^ W < 2 ^ W := Int.emod_lt_of_pos _ hp
  have dv : (i / 2 ^ W).natAbs < 2 ^ 310 := Nat.lt_of_le_of_lt (Int.natAbs_ediv_le_natAbs _ _) hi
  refine ⟨_, rfl, _, rfl, ⟨_, _, rfl, .inl ⟨i, W, rfl, rfl, w1, w300, ?_⟩⟩⟩
  refine ⟨_, _, _, _, false, rfl, .ty _, .base (.int _), kit_ty (by decide +kernel), _, rfl, iteF ?_⟩
  refine ⟨_, _, _, _, true, rfl, .ty _, .base (.int _), kit_ty (by decide +kernel), _, rfl, iteF ?_⟩
  refine ⟨i, rfl, wide_div hp hpa (by decide) (by decide), wide_mul dv hpa (by decide) (by decide) (by decide), i, rfl, rfl, ?_⟩
  rw [← em, decide_eq_true rfl]
  refine iteF ⟨_, rfl, ?_⟩
  rw [decide_eq_true m0]
  refine iteT ⟨_, rfl, ?_⟩
  rw [decide_eq_true m1]
  refine iteF ⟨_, _, rfl, .inl ⟨j, W, rfl, rfl, w1, w300, ?_⟩⟩
  have f1 : (i + 2 ^ W) % 2 ^ W = i % 2 ^ W := Int.add_emod_right ..
  have f2 : (i - 3 * 2 ^ W) % 2 ^ W = i % 2 ^ W := by
    rw [Int.sub_emod, Int.mul_emod_left, Int.sub_zero, Int.emod_emod]
  have f3 : (i % 2 ^ W + j % 2 ^ W) % 2 ^ W = (i + j) % 2 ^ W := (Int.add_emod ..).symm
  have f4 : (i % 2 ^ W + 2 ^ W - j % 2 ^ W) % 2 ^ W = (i - j) % 2 ^ W := by
    rw [show i % 2 ^ W + 2 ^ W - j % 2 ^ W = (i % 2 ^ W - j % 2 ^ W) + 2 ^ W by omega, Int.add_emod_right, ← Int.sub_emod]
  refine wd w1 w300 ⟨rfl, ?_⟩
  rw [Int.emod_emod, decide_eq_true rfl]
  refine iteF ⟨i, rfl, wd w1 w300 ⟨rfl, ?_⟩⟩
  rw [f1, decide_eq_true rfl]
  refine iteF ⟨.inl (by decide), i, rfl, wd w1 w300 ⟨rfl, ?_⟩⟩
  rw [f2, decide_eq_true rfl]
  refine iteF ⟨i, rfl, j, rfl, wd w1 w300 ⟨_, rfl, _, rfl, ⟨_, rfl, ⟨_, rfl, hp, rfl, ?_⟩⟩⟩⟩
  rw [f3, decide_eq_true rfl]
  refine iteF ⟨i, rfl, j, rfl, wd w1 w300 ⟨_, rfl, _, rfl, ⟨_, rfl, ⟨_, rfl, hp, rfl, ?_⟩⟩⟩⟩
  rw [f4, decide_eq_true rfl]
  have c10 : CPow 10 40 := ⟨by decide, by decide, by decide⟩
  have p10 : (0 : Int) < 10 ^ Int.toNat 40 := by decide +kernel
  obtain ⟨t1', t2', t3'⟩ := ten40
  refine iteF ⟨_, rfl, ⟨c10, _, rfl, p10, ⟨_, rfl, ⟨c10, _, rfl, p10, _, _, ⟨rfl, rfl⟩, ?_⟩⟩⟩⟩
  have x1 : (i % 10 ^ Int.toNat 40).natAbs < 2 ^ 140 := by
    have := Int.emod_nonneg i (show (10 : Int) ^ Int.toNat 40 ≠ 0 by omega)
    have := Int.emod_lt_of_pos i p10
    omega
  have y1 : (j % 10 ^ Int.toNat 40).natAbs < 2 ^ 140 := by
    have := Int.emod_nonneg j (show (10 : Int) ^ Int.toNat 40 ≠ 0 by omega)
    have := Int.emod_lt_of_pos j p10
    omega
  generalize i % 10 ^ Int.toNat 40 = u at *
  generalize j % 10 ^ Int.toNat 40 = v at *
  have small : ∀ z : Int, (z % 2 ^ W).natAbs < 2 ^ 301 := by
    intro z
    have := Int.emod_nonneg z (show (2 : Int) ^ W ≠ 0 by omega)
    have := Int.emod_lt_of_pos z hp
    omega
  have big := wide_lt (small u) (small v)
  have dv2 : ((u % 2 ^ W) * (v % 2 ^ W) / 2 ^ W).natAbs < 2 ^ (301 + 301) := Nat.lt_of_le_of_lt (Int.natAbs_ediv_le_natAbs _ _) big
  have f5 : (u * v) % 2 ^ W = (u % 2 ^ W) * (v % 2 ^ W) - (u % 2 ^ W) * (v % 2 ^ W) / 2 ^ W * 2 ^ W := by
    rw [Int.mul_emod, Int.emod_def, Int.mul_comm (2 ^ W)]
  have f6 : (2 ^ W - i % 2 ^ W) % 2 ^ W = (-i) % 2 ^ W := by
    have e : i % 2 ^ W + 2 ^ W * (i / 2 ^ W) = i := Int.emod_add_mul_ediv ..
    rw [show 2 ^ W - i % 2 ^ W = -i + 2 ^ W * (1 + i / 2 ^ W) by
      rw [Int.mul_add, Int.mul_one]
      omega, Int.add_mul_emod_self_left]
  refine wd w1 w300 (wd w1 w300 ⟨_, rfl, _, rfl, wide_mul (small u) (small v) (by decide) (by decide) (by decide), _, rfl, _, rfl, wide_mul x1 y1 (by decide) (by decide) (by decide), ?_⟩)
  refine wd w1 w300 ⟨wide_div hp hpa (by decide) (by decide), wide_mul dv2 hpa (by decide) (by decide) (by decide), rfl, ?_⟩
  rw [← f5, decide_eq_true rfl]
  refine iteF ⟨_, rfl, wd w1 w300 ⟨_, rfl, ⟨_, rfl, ⟨_, rfl, hp, rfl, ?_⟩⟩⟩⟩
  rw [f6, decide_eq_true rfl]
  obtain ⟨m, hm, hm1, hm2⟩ : ∃ m : Nat, (if (6 : Int) < (W : Int) then (6 : Int) else (W : Int)) = (m : Int) ∧ m ≤ W ∧ m ≤ 6 := by
    split
    · exact ⟨6, rfl, by omega, by omega⟩
    · exact ⟨W, rfl, by omega, by omega⟩
  refine iteF ⟨_, rfl, _, _, rfl, _, _, rfl, rfl, 1, _, rfl, ?_, ?_⟩
  · rw [hm]
    omega
  rw [hm, show ((m : Int) + 1 - 1).toNat = m by omega]
  refine for_range (n := m) (fun k σ H' => H' = H3 ∧ ∃ y, σ = [some (.ref a), some (.int (W : Int)), some (.int (2 ^ W)), some (.int i), some (.int j), some (.int (i % 2 ^ W)), some (.int (j % 2 ^ W)),
    some (.int u), some (.int v), some (.int (u % 2 ^ W * (v % 2 ^ W))), y]) ⟨rfl, none, rfl⟩ ?_ ?_
  · rintro k σ H4 hk ⟨rfl, y, rfl⟩
    walk_at "rd"
    rw [show 1 + (k : Int) = ((k + 1 : Nat) : Int) by omega]
    refine wd (by omega) (by omega) (wd (by omega) (by omega) ⟨rfl, ?_⟩)
    rw [Int.emod_emod_of_dvd i (show (2 : Int) ^ (k + 1) ∣ 2 ^ W from ⟨2 ^ (W - (k + 1)), by rw [← Int.pow_add, Nat.add_sub_cancel' (by omega)]⟩), decide_eq_true rfl]
    exact iteF ⟨rfl, _, rfl⟩
  · rintro σ H4 ⟨rfl, y, rfl⟩
    walk_at "rd"
    exact q _ ((s1.trans s2).trans s3) (t3.less (by omega))
end
end K00
end
section
set_option maxHeartbeats 4000000
namespace K00
open PySem PySem.Spec PyProof.Rows L2 G1 G2
local macro_rules | `(tactic| walk_at "rd") => `(tactic| simp only [tPar, tFmt, tJs, tM0, tM1, tSeq, tIfS, gName, gTup, gSub, gNil, gCons, List.cons.injEq, List.replicate_succ, tNot, tB, tRet, tC, tNext, tVar, tOp, tUn, tAnd, tOr, tAndV, tOrV, tNotV, tIf, tTest, tChain, tAsg, tCall, tCons, tNil, tCB, tDrop, tNever, tTup, tLst, tSl, tPart, tNoPart, tB, cx_K, cx_K', cx_w, cx_w', cx_mg', cx_P', cx_b', cx_mg, cx_P, cx_b, gUnl, Nat.reduceAdd, Nat.reduceSub, Nat.sub_self, Nat.zero_add, List.replicate_zero,
  rI, rI0, rU, rEq, rNe, L2.start, List.append_nil, List.cons_append, List.nil_append, List.map_cons, List.map_nil, List.length_cons, List.length_nil, List.getElem?_cons_zero, List.getElem?_cons_succ,
  List.replicate, List.set_cons_zero, List.set_cons_succ, exists_eq_left, exists_eq_left', exists_eq_right, exists_and_left, Option.some.injEq, V.bl.injEq, V.int.injEq, V.str.injEq, V.ref.injEq, true_and, and_true, if_true, if_false, Bool.false_eq_true, Bool.not_true, Bool.not_false, reduceIte, reduceCtorEq, ite_true, ite_false, decide_true, decide_false])
section
variable {P : Program} {w : World} {K : PySem.W.Frag} {mg : Str → Option Value} {base : Heap}
theorem sgn_facts {W : Nat} {v : Int} (w1 : 1 ≤ W) (v0 : 0 ≤ v) (v1 : v < 2 ^ W) : (-2 ^ W ≤ 2 * sgn W v ∧ 2 * sgn W v < 2 ^ W) ∧ sgn W v % 2 ^ W = v ∧ (2 * v < 2 ^ W → sgn W v = v) ∧
    (¬ 2 * v < 2 ^ W → sgn W v = v - 2 ^ W) ∧ sgn (W + 1) v = v ∧ (0 ≤ sgn W v % 2 ^ (W + 1) ∧ sgn W v % 2 ^ (W + 1) < 2 ^ (W + 1)) ∧ sgn (W + 1) (sgn W v % 2 ^ (W + 1)) = sgn W v := by
  obtain ⟨m, rfl⟩ : ∃ m, W = m + 1 := ⟨W - 1, by omega⟩
  have e2 : (2 : Int) ^ (m + 1) = 2 * 2 ^ m := by rw [Int.pow_succ, Int.mul_comm]
  have e3 : (2 : Int) ^ (m + 1 + 1) = 2 * 2 ^ (m + 1) := by rw [Int.pow_succ, Int.mul_comm]
  have hq : (0 : Int) < 2 ^ m := Int.pow_pos (by decide)
  have hW : sgn (m + 1) v = if 2 ^ m ≤ v then v - 2 ^ (m + 1) else v := rfl
  have hW1 : ∀ u, sgn (m + 1 + 1) u = if 2 ^ (m + 1) ≤ u then u - 2 ^ (m + 1 + 1) else u := fun u => rfl
  rw [hW1, hW1, hW, e3]
  generalize (2 : Int) ^ (m + 1) = p at *
  generalize (2 : Int) ^ m = r at *
  by_cases hb : r ≤ v
  · have z1 : (v - p) % p = v := by
      rw [show v - p = v + p * (-1) by omega, Int.add_mul_emod_self_left, Int.emod_eq_of_lt (by omega) (by omega)]
    have z2 : (v - p) % (2 * p) = v + p := by
      rw [show v - p = (v + p) + 2 * p * (-1) by omega, Int.add_mul_emod_self_left, Int.emod_eq_of_lt (by omega) (by omega)]
    rw [if_pos hb, z1, z2, if_neg (show ¬ p ≤ v by omega), if_pos (show p ≤ v + p by omega)]
    refine ⟨⟨by omega, by omega⟩, rfl, fun h => by omega, fun _ => rfl, rfl, ⟨by omega, by omega⟩, by omega⟩
  · have z1 : v % p = v := Int.emod_eq_of_lt (by omega) (by omega)
    have z2 : v % (2 * p) = v := Int.emod_eq_of_lt (by omega) (by omega)
    rw [if_neg hb, z1, z2, if_neg (show ¬ p ≤ v by omega)]
    refine ⟨⟨by omega, by omega⟩, rfl, fun _ => rfl, fun h => by omega, rfl, ⟨by omega, by omega⟩, rfl⟩
theorem sd {C : Addr} {H : Hp} {Q : VK} {E : XK} {v : Int} {W : Nat} (w1 : 1 ≤ W) (w300 : W ≤ 300) (v0 : 0 ≤ v) (v1 : v < 2 ^ W) (q : Q (.int (sgn W v)) H) : sp_signed K C [.int v, .int (W : Int)] H Q E :=
  ⟨_, _, rfl, .inl ⟨v, W, rfl, rfl, w1, w300, v0, v1, q⟩⟩
def sp__law_signs_right (K : PySem.W.Frag) : Sp := S1 fun x H Q => ∃ (a c : Addr) (n : Nat), x = .ref a ∧ Tr K H a c (n + 100) ∧ ∀ H1, SameB a H H1 → Tr K H1 a c n → Q (.bl true) H1
theorem ok__law_signs_right (T : Txt w K mg) : FnOk P w K mg base CX0 6 T.f__law_signs_right T.fd__law_signs_right ["_law_tray_here"] (sp__law_signs_right K) := by
  have K__law_width := ok__law_width (P := P) (base := base) T
  have K__law_word := ok__law_word (P := P) (base := base) T
  have K_signed := ok_signed (P := P) (base := base) T
  have K_word := ok_word (P := P) (base := base) T
  refine T.F__law_signs_right.ok sc__law_signs_right S1_len (fun cdv A outer s H vs Q E hr h => ?_)
  obtain ⟨v0, rfl, h⟩ := h
  refine ⟨_, (pss_cons (ps_set (i := 1) sc__law_signs_right.nd rfl (.inl rfl) (pe_call K__law_width (hr.mono (by decide)) (by rfl) T.g__law_width T.F__law_width.kp T.b__law_width .nil pass0 (pa_cons (pv 0) pa_nil)))
      (pss_cons (ps_set (i := 2) sc__law_signs_right.nd rfl (.inl rfl) (pe_op op_shlW pe_int (pv 1)))
      (pss_cons (ps_for PassesOwn.never rfl (pi_tup (pe_tup (pa_cons (pe_call K__law_word (hr.mono (by decide)) (by rfl) T.g__law_word T.F__law_word.kp T.b__law_word .nil pass0 (pa_cons (pv 0) (pa_cons (pv 2) pa_nil))) (pa_cons (pe_call K__law_word (hr.mono (by decide)) (by rfl) T.g__law_word T.F__law_word.kp T.b__law_word .nil pass0 (pa_cons (pv 0) (pa_cons (pv 2) pa_nil))) (pa_cons (pe_op op_fdivW (pv 2) pe_int) (pa_cons (pe_op op_sub (pe_op op_fdivW (pv 2) pe_int) pe_int) (pa_cons (pe_op op_sub (pv 2) pe_int) (pa_cons pe_int pa_nil)))))))) (pg_name (i := 3) sc__law_signs_right.nd rfl (.inl rfl))
        (pss_cons (ps_set (i := 4) sc__law_signs_right.nd rfl (.inl rfl) (pe_callK0 K_signed (hr.mono (by decide)) (by rfl) T.g_signed T.F_signed.kp T.kb_signed passF (pk_cons (pv 3) (pk_cons (pv 1) pk_nil))))
        (pss_cons (ps_if (PW.pt (pw_or (pt_val (pe_callB call_isi (by rfl) T.m_isinstance (by decide +kernel) (pa_cons (pv 4) (pa_cons (pe_bltn (v := .ty "bool") (by rfl) T.m_bool (by decide +kernel) rfl) pa_nil)))) (pw_or (pt_not (pt_val (pe_callB call_isi (by rfl) T.m_isinstance (by decide +kernel) (pa_cons (pv 4) (pa_cons (pe_bltn (v := .ty "int") (by rfl) T.m_int (by decide +kernel) rfl) pa_nil))))) (pw_or1 (pt_not (pt_chain op_le op_lt (pe_un un_neg (pv 2)) (pe_op op_mul pe_int (pv 4)) (pv 2)))))))
          (pss_one (ps_ret pe_bl))
          pss_nil)
        (pss_cons (ps_if (PW.pt (pw_or (pt_cmpR op_ne (pe_call K_word (hr.mono (by decide)) (by rfl) T.g_word T.F_word.kp T.b_word .nil passF (pa_cons (pv 4) (pa_cons (pv 1) pa_nil))) (pv 3) (nomark _)) (pw_or1 (pt_cmpR op_ne (pv 4) (pe_ifExp (pt_cmpR op_lt (pe_op op_mul pe_int (pv 3)) (pv 2) (nomark _)) (pv 3) (pe_op op_sub (pv 3) (pv 2))) (nomark _)))))
          (pss_one (ps_ret pe_bl))
          pss_nil)
        (pss_one (ps_if (PW.pt (pw_and (pt_cmpR op_lt (pv 1) pe_int (nomark _)) (pw_and1 (PW.pt (pw_or (pt_cmpR op_ne (pe_call K_signed (hr.mono (by decide)) (by rfl) T.g_signed T.F_signed.kp T.b_signed .nil passF (pa_cons (pv 3) (pa_cons (pe_op op_add (pv 1) pe_int) pa_nil))) (pv 3) (nomark _)) (pw_or1 (pt_cmpR op_ne (pe_call K_signed (hr.mono (by decide)) (by rfl) T.g_signed T.F_signed.kp T.b_signed .nil passF (pa_cons (pe_call K_word (hr.mono (by decide)) (by rfl) T.g_word T.F_word.kp T.b_word .nil passF (pa_cons (pv 4) (pa_cons (pe_op op_add (pv 1) pe_int) pa_nil))) (pa_cons (pe_op op_add (pv 1) pe_int) pa_nil))) (pv 4) (nomark _))))))))
          (pss_one (ps_ret pe_bl))
          pss_nil))))))
      (pss_one (ps_ret pe_bl))))), ?_⟩
  obtain ⟨a, c, n, rfl, tr, q⟩ := h
  walk_at "rd"
  refine ⟨_, rfl, a, c, n + 98, rfl, tr, fun W H1 w1 w300 s1 t1 => ⟨_, rfl, shl_ok one_lt (by omega), ?_⟩⟩
  simp only [Int.toNat_natCast, Int.one_mul]
  have hp : (0 : Int) < 2 ^ W := Int.pow_pos (by decide)
  have d2 : CDivW (2 ^ W) 2 := wide_div (b := 2) (by decide) (by decide) (by decide) (by decide)
  have two : (2 : Int) ≤ 2 ^ W := two_le_pow w1
  refine ⟨_, rfl, _, rfl, ⟨_, _, rfl, a, c, W, n + 75, rfl, rfl, w1, t1, fun x H2 x0 x1 s2 t2 => ⟨_, rfl, _, rfl, ⟨_, _, rfl, a, c, W, n + 52, rfl, rfl, w1, t2, fun y H3 y0 y1 s3 t3 => ?_⟩⟩⟩⟩
  refine ⟨_, rfl, _, _, rfl, rfl, d2, ?_⟩
  refine ⟨_, rfl, _, _, rfl, rfl, d2, _, _, rfl, rfl, ?_⟩
  refine ⟨_, rfl, _, _, rfl, rfl, ?_⟩
  refine ⟨(by show 6 ≤ sizeLine; decide), fun pt npt => ⟨pt, rfl, ⟨_, .inl (.inl upd_same)⟩, ?_⟩⟩
  have s4 := same_upd (o := .tup [V.int x, V.int y, V.int (2 ^ W / 2), V.int (2 ^ W / 2 - 1), V.int (2 ^ W - 1), V.int 0]) npt
  have e4 : upd H3 pt (.tup [V.int x, V.int y, V.int (2 ^ W / 2), V.int (2 ^ W / 2 - 1), V.int (2 ^ W - 1), V.int 0]) pt = some (.tup [V.int x, V.int y, V.int (2 ^ W / 2), V.int (2 ^ W / 2 - 1), V.int (2 ^ W - 1), V.int 0]) := upd_same
  generalize hH4 : upd H3 pt (.tup [V.int x, V.int y, V.int (2 ^ W / 2), V.int (2 ^ W / 2 - 1), V.int (2 ^ W - 1), V.int 0]) = H4 at s4 e4 ⊢
  refine for_it (walk_tup (xs := [V.int x, V.int y, V.int (2 ^ W / 2), V.int (2 ^ W / 2 - 1), V.int (2 ^ W - 1), V.int 0])) (fun _ σ H' => H' = H4 ∧ ∃ y3 y4, σ = [some (.ref a), some (.int (W : Int)), some (.int (2 ^ W)), y3, y4]) ⟨rfl, _, _, rfl⟩ (fun i σ H _ p => ?_) (fun i v σ H5 H6 hi p y => ?_) fun σ H5 p => ?_
  · rw [p.1]
    exact .inl (.inl e4)
  · obtain ⟨rfl, y3, y4, rfl⟩ := p
    obtain ⟨rfl, hv⟩ := y
    obtain ⟨v, rfl, v0, v1⟩ : ∃ u : Int, v = .int u ∧ 0 ≤ u ∧ u < 2 ^ W := by
      have hm := List.mem_of_getElem? hv
      simp only [List.mem_cons, List.not_mem_nil, or_false] at hm
      generalize (2 : Int) ^ W = pp at *
      rcases hm with rfl | rfl | rfl | rfl | rfl | rfl <;> exact ⟨_, rfl, by omega, by omega⟩
    walk_at "rd"
    refine ⟨_, rfl, _, rfl, ⟨_, _, rfl, .inl ⟨v, W, rfl, rfl, w1, w300, v0, v1, ?_⟩⟩⟩
    walk_at "rd"
    obtain ⟨⟨g1, g2⟩, g3, g4, g5, g6, ⟨g7, g8⟩, g9⟩ := sgn_facts w1 v0 v1
    have v2 : v < 2 ^ (W + 1) := by
      rw [Int.pow_succ]
      omega
    refine ⟨_, _, _, _, false, rfl, .ty _, .base (.int _), kit_ty (by decide +kernel), _, rfl, iteF ?_⟩
    refine ⟨_, _, _, _, true, rfl, .ty _, .base (.int _), kit_ty (by decide +kernel), _, rfl, iteF ⟨.inl (by decide), ?_⟩⟩
    rw [decide_eq_true g1]
    refine iteT ?_
    rw [decide_eq_true g2]
    refine iteF (wd w1 w300 ⟨rfl, ?_⟩)
    rw [g3, decide_eq_true rfl]
    refine iteF ⟨.inl (by decide), ite2 (fun e => ?_) fun e => ?_⟩
    · refine ⟨rfl, ?_⟩
      rw [decide_eq_true (g4 (of_decide_eq_true e))]
      refine iteF (ite2 (fun e3 => ?_) fun _ => ⟨rfl, _, rfl⟩)
      have W3 := of_decide_eq_true e3
      rw [show (W : Int) + 1 = ((W + 1 : Nat) : Int) by omega]
      refine sd (by omega) (by omega) v0 v2 ⟨rfl, ?_⟩
      rw [g6, decide_eq_true rfl]
      refine iteF (wd (by omega) (by omega) (sd (by omega) (by omega) g7 g8 ⟨rfl, ?_⟩))
      rw [g9, decide_eq_true rfl]
      exact iteF ⟨rfl, _, rfl⟩
    · refine ⟨rfl, ?_⟩
      rw [decide_eq_true (g5 fun h => e (decide_eq_true h))]
      refine iteF (ite2 (fun e3 => ?_) fun _ => ⟨rfl, _, rfl⟩)
      have W3 := of_decide_eq_true e3
      rw [show (W : Int) + 1 = ((W + 1 : Nat) : Int) by omega]
      refine sd (by omega) (by omega) v0 v2 ⟨rfl, ?_⟩
      rw [g6, decide_eq_true rfl]
      refine iteF (wd (by omega) (by omega) (sd (by omega) (by omega) g7 g8 ⟨rfl, ?_⟩))
      rw [g9, decide_eq_true rfl]
      exact iteF ⟨rfl, _, rfl⟩
  · obtain ⟨rfl, y3, y4, rfl⟩ := p
    walk_at "rd"
    exact q _ (((s1.trans s2).trans s3).trans (SameB.of s4)) ((t3.same s4).less (by omega))
end
end K00
end
section
set_option maxHeartbeats 4000000
namespace K00
open PySem PySem.Spec PyProof.Rows L2 G1 G2
local macro_rules | `(tactic| walk_at "rd") => `(tactic| simp only [tPar, tFmt, tJs, tM0, tM1, tSeq, tIfS, gName, gTup, gSub, gNil, gCons, List.cons.injEq, List.replicate_succ, tNot, tB, tRet, tC, tNext, tVar, tOp, tUn, tAnd, tOr, tAndV, tOrV, tNotV, tIf, tTest, tChain, tAsg, tCall, tCons, tNil, tCB, tDrop, tNever, tTup, tLst, tSl, tPart, tNoPart, tB, cx_K, cx_K', cx_w, cx_w', cx_mg', cx_P', cx_b', cx_mg, cx_P, cx_b, gUnl, Nat.reduceAdd, Nat.reduceSub, Nat.sub_self, Nat.zero_add, List.replicate_zero,
  rI, rI0, rU, rEq, rNe, L2.start, List.append_nil, List.cons_append, List.nil_append, List.map_cons, List.map_nil, List.length_cons, List.length_nil, List.getElem?_cons_zero, List.getElem?_cons_succ,
  List.replicate, List.set_cons_zero, List.set_cons_succ, exists_eq_left, exists_eq_left', exists_eq_right, exists_and_left, Option.some.injEq, V.bl.injEq, V.int.injEq, V.str.injEq, V.ref.injEq, true_and, and_true, if_true, if_false, Bool.false_eq_true, Bool.not_true, Bool.not_false, reduceIte, reduceCtorEq, ite_true, ite_false, decide_true, decide_false])
section
variable {X : Cx}
/-- what `_law_heard` makes of what it asks -/
def Eh (CB : Addr) (Q : VK) : XK := fun cls d H' => ∃ dd z, cls = .ref CB ∧ d = some dd ∧ H' dd = some (.xd [("part", V.str z)]) ∧
  ∀ p H2, Same H' H2 → H2 p = some (.tup [.str "BadNumber", .str z]) → Q (.ref p) H2
def TTh (CB : Addr) : (XK → Hp → VK → Prop) → Hp → VK → Prop := fun tl H Q =>
  ∀ (E : XK) (Q2 : VK), (∀ cls d H', Eh CB Q cls d H' → E cls d H') → (∀ v H', Q .non H' → Q2 v H') → tl E H Q2
def tAskH (f : Addr) (G : Hp → Prop) (tl : XK → Hp → VK → Prop) : WX → TS := fun W D σ H =>
  σ[0]? = some (some (.ref f)) ∧ G H ∧ ∃ E : XK, (∀ cls d H', E cls d H' → W cls d σ H') ∧ tl E H fun _ H' => D.nx σ H'
theorem heard_gives {w : World} {K : PySem.W.Frag} {mg : Str → Option Value} (T : Txt w K mg) {cdg : Value} (hw : X.w = w) (hK : X.K = K) (hm : X.mg = mg) : GivesG X ["_law_ask", "_law_caught", "error"] "_law_heard" (defScope s__law_heard) T.f__law_heard cdg (defBody s__law_heard) "_law_ask" (TTh T.CB) := by
  subst hw hK hm
  intro f G s H Q tl act hG h
  refine ⟨_, (pss_cons (ps_set (i := 1) sc__law_heard.nd rfl (.inl rfl) pe_non)
    (pss_cons (ps_tryK (i := 2) (c := .ref T.CE) (tb := tAskH f G tl) (ts := fun a => tAsg (tVar 2) (gName 1)) (Wout := fun _ _ _ _ => False) rfl rfl sc__law_heard.nd rfl rfl ⟨by rfl, rfl, .inl T.g_EqualError⟩ LamX.takes0
      (fun W pn xe tk _ => ?_) (fun a pn => pss_one (ps_set (i := 1) sc__law_heard.nd rfl (.inl rfl) (pv 2))))
    (pss_cons (ps_if (pt_val (pe_callB call_isC (by rfl) T.m_isinstance (by decide +kernel) (pa_cons (pv 1) (pa_cons (pe_glob (v := .ref T.CB) (by rfl) T.g_BadNumber rfl) pa_nil))))
        (pss_one (ps_ret (pe_tup (pa_cons pe_str (pa_cons (pe_fk (pv 1)) pa_nil))))) pss_nil)
    (pss_cons (ps_if (pt_val (pe_callB call_isC (by rfl) T.m_isinstance (by decide +kernel) (pa_cons (pv 1) (pa_cons (pe_glob (v := .ref T.CT) (by rfl) T.g_BadTerm rfl) pa_nil))))
        (pss_one (ps_ret (pe_tup (pa_cons pe_str (pa_cons (pe_fk (pv 1)) pa_nil))))) pss_nil)
    (pss_one (ps_ret (pe_ifExp (pt_cmpR op_isN (pv 1) pe_non (nomark _)) pe_non (pe_tup (pa_cons pe_str (pa_cons pe_non pa_nil)))))))))), ?_⟩
  · refine ⟨fun pins s' σ H' D I h' => ?_⟩
    exact (pss_one (ps_expr (act W pn xe _ _ tk))).run pins s' σ H' D I h'
  · walk_at "rd"
    refine ⟨rfl, hG, _, fun _ _ _ h => h, h _ _ (fun cls d H' he => ?_) fun v H' hq => ?_⟩
    · obtain ⟨dd, z, rfl, rfl, hx, k⟩ := he
      refine ⟨true, T.exE, fun _ => ⟨T.CB, rfl, fun a na => ?_⟩, fun h => by cases h⟩
      walk_at "rd"
      have ne : dd ≠ a := ne_of_none hx na
      refine .inr ⟨a, T.CB, some dd, rfl, upd_same, _, rfl, iteT ?_⟩
      refine ⟨_, rfl, a, T.CB, dd, [("part", V.str z)], .str z, rfl, upd_same, T.xB, T.nP, ?_, rfl, ?_⟩
      · rw [upd_ne ne]
        exact hx
      · exact ⟨(by show 2 ≤ sizeLine; decide), fun p np => k p _ ((same_upd na).trans (same_upd np)) upd_same⟩
    · walk_at "rd"
      refine .inl ⟨_, _, _, _, false, rfl, .own _, .base .non, T.kB, _, rfl, iteF ?_⟩
      exact .inl ⟨_, _, _, _, false, rfl, .own _, .base .non, T.kT, _, rfl, iteF hq⟩
end
end K00
end
section
set_option maxHeartbeats 4000000
namespace K00
open PySem PySem.Spec PyProof.Rows L2 G1 G2 LamX
local macro_rules | `(tactic| walk_at "rd") => `(tactic| simp only [tPar, tFmt, tJs, tM0, tM1, tSeq, tIfS, gName, gTup, gSub, gNil, gCons, List.cons.injEq, List.replicate_succ, tNot, tB, tRet, tC, tNext, tVar, tOp, tUn, tAnd, tOr, tAndV, tOrV, tNotV, tIf, tTest, tChain, tAsg, tCall, tCons, tNil, tCB, tDrop, tNever, tTup, tLst, tSl, tPart, tNoPart, tB, cx_K, cx_K', cx_w, cx_w', cx_mg', cx_P', cx_b', cx_mg, cx_P, cx_b, gUnl, Nat.reduceAdd, Nat.reduceSub, Nat.sub_self, Nat.zero_add, List.replicate_zero,
  rI, rI0, rU, rEq, rNe, L2.start, List.append_nil, List.cons_append, List.nil_append, List.map_cons, List.map_nil, List.length_cons, List.length_nil, List.getElem?_cons_zero, List.getElem?_cons_succ,
  List.replicate, List.set_cons_zero, List.set_cons_succ, exists_eq_left, exists_eq_left', exists_eq_right, exists_and_left, Option.some.injEq, V.bl.injEq, V.int.injEq, V.str.injEq, V.ref.injEq, true_and, and_true, if_true, if_false, Bool.false_eq_true, Bool.not_true, Bool.not_false, reduceIte, reduceCtorEq, ite_true, ite_false, decide_true, decide_false])
def QN : Str := "_law_refused_right.<locals>.<lambda>"
theorem passL {X : Cx} {A : Around} {outer : List Env} {s : Shared} {H : Hp} {E : XK} {scope : Scope} {f c' : Addr} : Passes (L2.CX X.prog X.w) (lamCx X A outer s H E scope f c') E :=
  passes_call (W := fun cls d _ H => E cls d H) (takes_of rfl rfl rfl rfl) (fun _ _ _ _ h => h)
section
variable {P : Program} {w : World} {K : PySem.W.Frag} {mg : Str → Option Value} {base : Heap}
/-! ### what stays -/
def KeepA (a : Addr) (H H1 : Hp) : Prop := ∀ b u, b ≠ a → H b = some u → (∀ ps, u ≠ .tbl ps) → H1 b = some u
theorem KeepA.ofB {a : Addr} {H H1 : Hp} (s : SameB a H H1) : KeepA a H H1 := fun b u n e _ => s b u n e
theorem KeepA.ofN {a : Addr} {H H1 : Hp} (s : ExtN H H1) : KeepA a H H1 := fun b u _ e n => s b u e n
theorem KeepA.of {a : Addr} {H H1 : Hp} (s : Same H H1) : KeepA a H H1 := fun b u _ e _ => s b u e
theorem KeepA.trans {a : Addr} {H H1 H2 : Hp} (s : KeepA a H H1) (t : KeepA a H1 H2) : KeepA a H H2 := fun b u n e z => t b u n (s b u n e z) z
inductive OddV (H : Hp) (a : Addr) : V → Prop
  | non : OddV H a .non
  | bl (b : Bool) : OddV H a (.bl b)
  | str (z : Str) : OddV H a (.str z)
  | lst {p : Addr} {xs : List V} (n : p ≠ a) (e : H p = some (.lst xs)) : OddV H a (.ref p)
  | tup {p : Addr} {xs : List V} (n : p ≠ a) (e : H p = some (.tup xs)) : OddV H a (.ref p)
  | dic {p : Addr} {xs : List (Key × V)} (n : p ≠ a) (e : H p = some (.dK xs)) : OddV H a (.ref p)
theorem OddV.to {H H1 : Hp} {a : Addr} {v : V} (o : OddV H a v) (k : KeepA a H H1) : OddV H1 a v := by
  cases o with
  | non => exact .non
  | bl b => exact .bl b
  | str z => exact .str z
  | lst n e => exact .lst n (k _ _ n e fun ps z => by cases z)
  | tup n e => exact .tup n (k _ _ n e fun ps z => by cases z)
  | dic n e => exact .dic n (k _ _ n e fun ps z => by cases z)
theorem OddV.no {H : Hp} {a : Addr} {v : V} (o : OddV H a v) : NoInt K H v := by
  cases o with
  | non => exact ⟨_, false, false, .base .non, kit_ty (by decide +kernel), kit_ty (by decide +kernel), rfl⟩
  | bl b => exact ⟨_, true, true, .base (.bl b), kit_ty (by decide +kernel), kit_ty (by decide +kernel), rfl⟩
  | str z => exact ⟨_, false, false, .base (.str z), kit_ty (by decide +kernel), kit_ty (by decide +kernel), rfl⟩
  | lst n e => exact ⟨_, false, false, .base (.lst e), kit_ty (by decide +kernel), kit_ty (by decide +kernel), rfl⟩
  | tup n e => exact ⟨_, false, false, .base (.tup e), kit_ty (by decide +kernel), kit_ty (by decide +kernel), rfl⟩
  | dic n e => exact ⟨_, false, false, .base (.dK e), kit_ty (by decide +kernel), kit_ty (by decide +kernel), rfl⟩
theorem Tr.keepN {H H1 : Hp} {a c : Addr} {n : Nat} (t : Tr K H a c n) (s : ExtN H H1) : Tr K H1 a c n := by
  obtain ⟨ns, t, r, S, hb⟩ := t
  refine ⟨ns, t, r, ⟨s _ _ S.at_ fun ps z => (by cases z), ?_, S.ne, S.few, S.low⟩, hb⟩
  rcases S.cells with (h | ⟨o, h⟩) | h
  · exact .inl (.inl (s _ _ h fun ps z => (by cases z)))
  · exact .inl (.inr ⟨o, s _ _ h fun ps z => (by cases z)⟩)
  · exact .inr h
theorem tabB {H H1 : Hp} {a c : Addr} {n : Nat} {PT : Addr} {q : Str} (t : Tr K H a c n) (s : SameB a H H1) (b : TabS H PT q) : TabS H1 PT q := by
  obtain ⟨ns, i, r, S, hb⟩ := t
  obtain ⟨ps, h1, h2, h3⟩ := b
  refine ⟨ps, s _ _ (fun z => ?_) h1, h2, fun pos cv hc => ?_⟩
  · rw [z, S.at_] at h1
    cases h1
  · obtain ⟨c0, e1, e2⟩ := h3 pos cv hc
    refine ⟨c0, e1, s _ _ (fun z => ?_) e2⟩
    rw [z, S.at_] at e2
    unfold CodeO at e2
    cases e2
theorem tabU {H : Hp} {D PT : Addr} {q : Str} {xs : List V} {o : HO} (b : TabS H PT q) (e : H D = some (.lst xs)) : TabS (upd H D o) PT q := by
  obtain ⟨ps, h1, h2, h3⟩ := b
  refine ⟨ps, ?_, h2, fun pos cv hc => ?_⟩
  · rw [upd_ne (fun z => by rw [z, e] at h1; cases h1)]
    exact h1
  · obtain ⟨c0, e1, e2⟩ := h3 pos cv hc
    refine ⟨c0, e1, ?_⟩
    rw [upd_ne (fun z => by rw [z, e] at e2; unfold CodeO at e2; cases e2)]
    exact e2
theorem word_num {CB : Addr} {H : Hp} {v y : V} {Q Q2 : VK} {E : XK} (hE : ∀ cls d H', Eh CB Q cls d H' → E cls d H') (no : NoInt K H v)
    (k : ∀ p H2, Same H H2 → H2 p = some (.tup [.str "BadNumber", .str "number"]) → Q (.ref p) H2) : sp_word K CB [v, y] H Q2 E :=
  ⟨_, _, rfl, .inr (.inl ⟨no, fun d H' sm hd => hE _ _ _ ⟨d, _, rfl, rfl, hd, fun p H2 s2 e2 => k p H2 (sm.trans s2) e2⟩⟩)⟩
theorem word_wid {CB : Addr} {H : Hp} {i : Int} {y : V} {Q Q2 : VK} {E : XK} (hE : ∀ cls d H', Eh CB Q cls d H' → E cls d H') (no : BadW K H y)
    (k : ∀ p H2, Same H H2 → H2 p = some (.tup [.str "BadNumber", .str "width"]) → Q (.ref p) H2) : sp_word K CB [.int i, y] H Q2 E :=
  ⟨_, _, rfl, .inr (.inr ⟨⟨i, rfl⟩, no, fun d H' sm hd => hE _ _ _ ⟨d, _, rfl, rfl, hd, fun p H2 s2 e2 => k p H2 (sm.trans s2) e2⟩⟩)⟩
theorem signed_wid {CB : Addr} {H : Hp} {v y : V} {Q Q2 : VK} {E : XK} (hE : ∀ cls d H', Eh CB Q cls d H' → E cls d H') (no : BadW K H y)
    (k : ∀ p H2, Same H H2 → H2 p = some (.tup [.str "BadNumber", .str "width"]) → Q (.ref p) H2) : sp_signed K CB [v, y] H Q2 E :=
  ⟨_, _, rfl, .inr (.inl ⟨no, fun d H' sm hd => hE _ _ _ ⟨d, _, rfl, rfl, hd, fun p H2 s2 e2 => k p H2 (sm.trans s2) e2⟩⟩)⟩
theorem signed_val {CB : Addr} {H : Hp} {v : V} {W : Nat} {Q Q2 : VK} {E : XK} (hE : ∀ cls d H', Eh CB Q cls d H' → E cls d H') (w1 : 1 ≤ W) (w300 : W ≤ 300) (no : NoInt K H v ∨ ∃ i : Int, v = .int i ∧ ¬ (0 ≤ i ∧ i < 2 ^ W))
    (k : ∀ p H2, Same H H2 → H2 p = some (.tup [.str "BadNumber", .str "value"]) → Q (.ref p) H2) : sp_signed K CB [v, .int (W : Int)] H Q2 E :=
  ⟨_, _, rfl, .inr (.inr ⟨W, rfl, w1, w300, no, fun d H' sm hd => hE _ _ _ ⟨d, _, rfl, rfl, hd, fun p H2 s2 e2 => k p H2 (sm.trans s2) e2⟩⟩)⟩
def sp__law_refused_right (K : PySem.W.Frag) (PT : Addr) : Sp := S1 fun x H Q => ∃ (a c : Addr) (n : Nat), x = .ref a ∧ Tr K H a c (n + 100) ∧ TabS H PT QN ∧ ∀ H1, Tr K H1 a c n → TabS H1 PT QN → Q (.bl true) H1
theorem ok__law_refused_right (T : Txt w K mg) {PT : Addr} (TB : TabB base mg T.cR PT) : FnOk P w K mg base CX0 8 T.f__law_refused_right T.fd__law_refused_right ["_law_tray_here"] (sp__law_refused_right K PT) := by
  have K__law_width := ok__law_width (P := P) (base := base) T
  have K__law_take := ok__law_take (P := P) (base := base) T
  have K_word := ok_word (P := P) (base := base) T
  have K_signed := ok_signed (P := P) (base := base) T
  obtain ⟨oc, od, kV, doc, pm, an, cdv, ct, osl, efd, lk, hcd⟩ := T.F__law_refused_right.ex
  obtain ⟨oc2, od2, kV2, doc2, pm2, an2, cdv2, ct2, osl2, efh, lkh, hch⟩ := T.F__law_heard.ex
  have bh := T.b__law_heard
  rw [efh] at bh lkh
  have hcode := T.code_R
  rw [efd] at lk hcode ⊢
  obtain rfl : cdv = .ref T.cR := hcode
  have tab1 : ∀ p ∈ [(PT, QN)], p.1 = PT → p.2 = QN := fun p hp _ => by rw [List.mem_singleton.mp hp]
  refine fn_of lk hcd sc__law_refused_right S1_len fun A outer s H vs Q E hr h => ?_
  obtain ⟨v0, rfl, h⟩ := h
  suffices hh : ∃ t, PSs (cxOf CX0 P w K mg base ["_law_tray_here", "_law_width_here", "_law_limit", "_law_odd", "_law_wide", "_law_beyond", "_law_heard_here"] "_law_refused_right" (defScope s__law_refused_right) T.f__law_refused_right (.ref T.cR) A outer s H E).nox (defBody s__law_refused_right) t ∧
      t { nx := fun _ H' => Q .non H', rt := Q } (L2.start ["_law_tray_here", "_law_width_here", "_law_limit", "_law_odd", "_law_wide", "_law_beyond", "_law_heard_here"] [v0]) H from
    let ⟨t, h, q⟩ := hh; ⟨t, h.nox, q⟩
  refine ⟨_, (pss_cons (ps_set (i := 1) sc__law_refused_right.nd rfl (.inr rfl) (pe_call K__law_width (hr.mono (by decide)) (by rfl) T.g__law_width T.F__law_width.kp T.b__law_width .nil pass0 (pa_cons (pv 0) pa_nil)))
      (pss_cons (ps_set (i := 2) sc__law_refused_right.nd rfl (.inr rfl) (pe_op op_shlW pe_int (pv 1)))
      (pss_cons (ps_set (i := 3) sc__law_refused_right.nd rfl (.inr rfl) (pe_call K__law_take (hr.mono (by decide)) (by rfl) T.g__law_take T.F__law_take.kp T.b__law_take .nil pass0 (pa_cons (pv 0) (pa_cons (pe_lst (pa_cons pe_non (pa_cons pe_bl (pa_cons pe_bl (pa_cons pe_str (pa_cons (pe_lst (pa_cons pe_int pa_nil)) (pa_cons (pe_tup pa_nil) (pa_cons (pe_dnewK) pa_nil)))))))) pa_nil))))
      (pss_cons (ps_set (i := 4) sc__law_refused_right.nd rfl (.inr rfl) (pe_call K__law_take (hr.mono (by decide)) (by rfl) T.g__law_take T.F__law_take.kp T.b__law_take .nil pass0 (pa_cons (pv 0) (pa_cons (pe_lst (pa_cons pe_int (pa_cons pe_int (pa_cons (pe_un un_neg pe_int) (pa_cons pe_non (pa_cons pe_bl (pa_cons pe_str (pa_cons (pe_lst (pa_cons pe_int pa_nil)) (pa_cons (pe_op op_pow pe_int pe_int) pa_nil))))))))) pa_nil))))
      (pss_cons (ps_set (i := 5) sc__law_refused_right.nd rfl (.inr rfl) (pe_call K__law_take (hr.mono (by decide)) (by rfl) T.g__law_take T.F__law_take.kp T.b__law_take .nil pass0 (pa_cons (pv 0) (pa_cons (pe_lst (pa_cons (pv 2) (pa_cons (pe_un un_neg pe_int) (pa_cons (pe_op op_add (pv 2) pe_int) (pa_cons (pe_un un_neg (pv 2)) (pa_cons pe_non (pa_cons pe_bl (pa_cons pe_str (pa_cons (pe_lst (pa_cons pe_int pa_nil)) pa_nil))))))))) pa_nil))))
      (pss_cons (ps_set (i := 6) sc__law_refused_right.nd rfl (.inl rfl) (pe_lst (pa_cons (pe_lamG (k := 5) (by rfl) T.g__law_heard T.F__law_heard.kp lkh hch bh sc__law_heard rfl (.inl rfl) (heard_gives (cdg := cdv2) T rfl rfl rfl) TB rfl (List.mem_singleton.mpr rfl) tab1 (hr.mono (by decide)) (LamX.lamS_by (sc := defScope s__law_refused_right) (by decide +kernel)) rfl (fun _ _ _ _ _ => rfl) (fun A2 o2 s2 H2 E2 f2 c2 hr2 => pe_call (E := E2) K_word hr2 (by rfl) T.g_word T.F_word.kp T.b_word .nil passL (pa_cons (pv 3) (pa_cons (pv 1) pa_nil)))) (pa_cons (pe_lamD (k := 5) (dn := "_law_a1") (z := 0) (by rfl) T.g__law_heard T.F__law_heard.kp lkh hch bh sc__law_heard rfl (.inl rfl) (heard_gives (cdg := cdv2) T rfl rfl rfl) TB rfl (List.mem_singleton.mpr rfl) tab1 (hr.mono (by decide)) (lamD_by (N := ["_law_tray_here", "_law_width_here", "_law_limit", "_law_odd", "_law_wide", "_law_beyond", "_law_heard_here"]) (sc := defScope s__law_refused_right) (by decide +kernel)) rfl rfl (fun _ _ _ _ _ _ _ _ _ _ _ h1 h2 => BindsTo.of_defaults rfl h1 h2 rfl rfl) (fun A2 o2 s2 H2 E2 f2 c2 hr2 => pe_call (E := E2) K_word hr2 (by rfl) T.g_word T.F_word.kp T.b_word .nil passL (pa_cons (pv 3) (pa_cons (pv 4) pa_nil)))) (pa_cons (pe_lamD (k := 5) (dn := "_law_a2") (z := 0) (by rfl) T.g__law_heard T.F__law_heard.kp lkh hch bh sc__law_heard rfl (.inl rfl) (heard_gives (cdg := cdv2) T rfl rfl rfl) TB rfl (List.mem_singleton.mpr rfl) tab1 (hr.mono (by decide)) (lamD_by (N := ["_law_tray_here", "_law_width_here", "_law_limit", "_law_odd", "_law_wide", "_law_beyond", "_law_heard_here"]) (sc := defScope s__law_refused_right) (by decide +kernel)) rfl rfl (fun _ _ _ _ _ _ _ _ _ _ _ h1 h2 => BindsTo.of_defaults rfl h1 h2 rfl rfl) (fun A2 o2 s2 H2 E2 f2 c2 hr2 => pe_call (E := E2) K_word hr2 (by rfl) T.g_word T.F_word.kp T.b_word .nil passL (pa_cons (pv 2) (pa_cons (pv 4) pa_nil)))) pa_nil)))))
      (pss_cons (ps_if (pt_cmpR (op_neD hr.units) (pv 6) (pe_lst (pa_cons (pe_tup (pa_cons pe_str (pa_cons pe_str pa_nil))) (pa_cons (pe_tup (pa_cons pe_str (pa_cons pe_str pa_nil))) (pa_cons (pe_tup (pa_cons pe_str (pa_cons pe_str pa_nil))) pa_nil)))) (nomark _))
        (pss_one (ps_ret pe_bl))
        pss_nil)
      (pss_cons (ps_set (i := 6) sc__law_refused_right.nd rfl (.inl rfl) (pe_lst (pa_cons (pe_lamG (k := 5) (by rfl) T.g__law_heard T.F__law_heard.kp lkh hch bh sc__law_heard rfl (.inl rfl) (heard_gives (cdg := cdv2) T rfl rfl rfl) TB rfl (List.mem_singleton.mpr rfl) tab1 (hr.mono (by decide)) (LamX.lamS_by (sc := defScope s__law_refused_right) (by decide +kernel)) rfl (fun _ _ _ _ _ => rfl) (fun A2 o2 s2 H2 E2 f2 c2 hr2 => pe_call (E := E2) K_signed hr2 (by rfl) T.g_signed T.F_signed.kp T.b_signed .nil passL (pa_cons (pv 5) (pa_cons (pv 1) pa_nil)))) (pa_cons (pe_lamD (k := 5) (dn := "_law_a1") (z := 0) (by rfl) T.g__law_heard T.F__law_heard.kp lkh hch bh sc__law_heard rfl (.inl rfl) (heard_gives (cdg := cdv2) T rfl rfl rfl) TB rfl (List.mem_singleton.mpr rfl) tab1 (hr.mono (by decide)) (lamD_by (N := ["_law_tray_here", "_law_width_here", "_law_limit", "_law_odd", "_law_wide", "_law_beyond", "_law_heard_here"]) (sc := defScope s__law_refused_right) (by decide +kernel)) rfl rfl (fun _ _ _ _ _ _ _ _ _ _ _ h1 h2 => BindsTo.of_defaults rfl h1 h2 rfl rfl) (fun A2 o2 s2 H2 E2 f2 c2 hr2 => pe_call (E := E2) K_signed hr2 (by rfl) T.g_signed T.F_signed.kp T.b_signed .nil passL (pa_cons (pv 5) (pa_cons (pv 4) pa_nil)))) pa_nil))))
      (pss_cons (ps_expr (pe_bm PySem.F.plainAttrs_list PySem.F.slot_list_append PySem.F.type_list_append mt_append (pv 6) (pa_cons (pe_lamG (k := 5) (by rfl) T.g__law_heard T.F__law_heard.kp lkh hch bh sc__law_heard rfl (.inl rfl) (heard_gives (cdg := cdv2) T rfl rfl rfl) TB rfl (List.mem_singleton.mpr rfl) tab1 (hr.mono (by decide)) (LamX.lamS_by (sc := defScope s__law_refused_right) (by decide +kernel)) rfl (fun _ _ _ _ _ => rfl) (fun A2 o2 s2 H2 E2 f2 c2 hr2 => pe_call (E := E2) K_signed hr2 (by rfl) T.g_signed T.F_signed.kp T.b_signed .nil passL (pa_cons pe_int (pa_cons (pv 4) pa_nil)))) pa_nil)))
      (pss_cons (ps_if (pt_cmpR (op_neD hr.units) (pv 6) (pe_lst (pa_cons (pe_tup (pa_cons pe_str (pa_cons pe_str pa_nil))) (pa_cons (pe_tup (pa_cons pe_str (pa_cons pe_str pa_nil))) (pa_cons (pe_tup (pa_cons pe_str (pa_cons pe_str pa_nil))) pa_nil)))) (nomark _))
        (pss_one (ps_ret pe_bl))
        pss_nil)
      (pss_one (ps_ret (pe_and (pe_cmpR op_isN (pe_lamG (k := 5) (by rfl) T.g__law_heard T.F__law_heard.kp lkh hch bh sc__law_heard rfl (.inl rfl) (heard_gives (cdg := cdv2) T rfl rfl rfl) TB rfl (List.mem_singleton.mpr rfl) tab1 (hr.mono (by decide)) (LamX.lamS_by (sc := defScope s__law_refused_right) (by decide +kernel)) rfl (fun _ _ _ _ _ => rfl) (fun A2 o2 s2 H2 E2 f2 c2 hr2 => pe_call (E := E2) K_signed hr2 (by rfl) T.g_signed T.F_signed.kp T.b_signed .nil passL (pa_cons (pe_op op_sub (pv 2) pe_int) (pa_cons (pv 1) pa_nil)))) pe_non (nomark _)) (pe_one (pe_cmpR op_isN (pe_lamD (k := 5) (dn := "_law_a1") (z := 0) (by rfl) T.g__law_heard T.F__law_heard.kp lkh hch bh sc__law_heard rfl (.inl rfl) (heard_gives (cdg := cdv2) T rfl rfl rfl) TB rfl (List.mem_singleton.mpr rfl) tab1 (hr.mono (by decide)) (lamD_by (N := ["_law_tray_here", "_law_width_here", "_law_limit", "_law_odd", "_law_wide", "_law_beyond", "_law_heard_here"]) (sc := defScope s__law_refused_right) (by decide +kernel)) rfl rfl (fun _ _ _ _ _ _ _ _ _ _ _ h1 h2 => BindsTo.of_defaults rfl h1 h2 rfl rfl) (fun A2 o2 s2 H2 E2 f2 c2 hr2 => pe_call (E := E2) K_word hr2 (by rfl) T.g_word T.F_word.kp T.b_word .nil passL (pa_cons (pe_un un_neg (pv 2)) (pa_cons (pv 1) pa_nil)))) pe_non (nomark _)))))))))))))))), ?_⟩
  obtain ⟨a, c, n, rfl, tr, tb, q⟩ := h
  walk_at "rd"
  refine ⟨_, rfl, a, c, n + 98, rfl, tr, fun W H1 w1 w300 s1 t1 => ⟨_, rfl, shl_ok one_lt (by omega), ?_⟩⟩
  simp only [Int.toNat_natCast, Int.one_mul]
  have hp : (0 : Int) < 2 ^ W := Int.pow_pos (by decide)
  have tb1 := tabB tr s1 tb
  -- an odd value
  refine ⟨by decide, fun p1 np1 => ⟨Nat.zero_le _, fun p2 np2 => fun p3 np3 => ⟨(by show 7 ≤ sizeLine; decide), fun p4 np4 => ?_⟩⟩⟩
  have x1 := same_upd (o := .lst [V.int 7]) np1
  have x2 := same_upd (o := .tup []) np2
  have x3 := same_upd (o := .dK []) np3
  have x4 := same_upd (o := .lst [V.non, V.bl true, V.bl false, V.str "7", V.ref p1, V.ref p2, V.ref p3]) np4
  have n1 := tr_ne t1 np1
  have n2 := tr_ne (t1.same x1) np2
  have n3 := tr_ne ((t1.same x1).same x2) np3
  refine ⟨_, _, rfl, a, c, p4, _, n + 97, rfl, rfl, .inl (.inl upd_same), tr_ne (((t1.same x1).same x2).same x3) np4, (by show 0 < 7; decide), (by show 7 ≤ 1000; decide), (((t1.same x1).same x2).same x3).same x4, fun v3 H3 hv s3 t3 => ?_⟩
  have o3 : OddV H3 a v3 := by
    simp only [List.mem_cons, List.not_mem_nil, or_false] at hv
    rcases hv with rfl | rfl | rfl | rfl | rfl | rfl | rfl
    · exact .non
    · exact .bl _
    · exact .bl _
    · exact .str _
    · exact .lst n1 (s3 _ _ n1 (x4 _ _ (x3 _ _ (x2 _ _ upd_same))))
    · exact .tup n2 (s3 _ _ n2 (x4 _ _ (x3 _ _ upd_same)))
    · exact .dic n3 (s3 _ _ n3 (x4 _ _ upd_same))
  have tb3 := tabB ((((t1.same x1).same x2).same x3).same x4) s3 ((((tb1.ext x1).ext x2).ext x3).ext x4)
  -- a bad width
  refine ⟨by decide, fun p5 np5 => ⟨⟨by decide, by decide, by decide⟩, (by show 8 ≤ sizeLine; decide), fun p6 np6 => ?_⟩⟩
  have x5 := same_upd (o := .lst [V.int 8]) np5
  have x6 := same_upd (o := .lst [V.int 0, V.int 301, V.int (-1), V.non, V.bl true, V.str "8", V.ref p5, V.int (10 ^ Int.toNat 20)]) np6
  have n5 := tr_ne t3 np5
  refine ⟨_, _, rfl, a, c, p6, _, n + 96, rfl, rfl, .inl (.inl upd_same), tr_ne (t3.same x5) np6, (by show 0 < 8; decide), (by show 8 ≤ 1000; decide), (t3.same x5).same x6, fun v4 H4 hv s4 t4 => ?_⟩
  have o4 : OddV H4 a v4 ∨ ∃ i : Int, v4 = .int i ∧ ¬ (1 ≤ i ∧ i ≤ 300) := by
    simp only [List.mem_cons, List.not_mem_nil, or_false] at hv
    rcases hv with rfl | rfl | rfl | rfl | rfl | rfl | rfl | rfl
    · exact .inr ⟨_, rfl, by decide⟩
    · exact .inr ⟨_, rfl, by decide⟩
    · exact .inr ⟨_, rfl, by decide⟩
    · exact .inl .non
    · exact .inl (.bl _)
    · exact .inl (.str _)
    · exact .inl (.lst n5 (s4 _ _ n5 (x6 _ _ upd_same)))
    · exact .inr ⟨_, rfl, by decide +kernel⟩
  have o3 := o3.to (((KeepA.of x5).trans (KeepA.of x6)).trans (KeepA.ofB s4))
  have tb4 := tabB ((t3.same x5).same x6) s4 ((tb3.ext x5).ext x6)
  -- what is no word
  refine ⟨by decide, fun p7 np7 => ⟨(by show 8 ≤ sizeLine; decide), fun p8 np8 => ?_⟩⟩
  have x7 := same_upd (o := .lst [V.int 0]) np7
  have x8 := same_upd (o := .lst [V.int (2 ^ W), V.int (-1), V.int (2 ^ W + 1), V.int (-2 ^ W), V.non, V.bl true, V.str "1", V.ref p7]) np8
  have n7 := tr_ne t4 np7
  refine ⟨_, _, rfl, a, c, p8, _, n + 95, rfl, rfl, .inl (.inl upd_same), tr_ne (t4.same x7) np8, (by show 0 < 8; decide), (by show 8 ≤ 1000; decide), (t4.same x7).same x8, fun v5 H5 hv s5 t5 => ?_⟩
  have o5 : OddV H5 a v5 ∨ ∃ i : Int, v5 = .int i ∧ ¬ (0 ≤ i ∧ i < 2 ^ W) := by
    simp only [List.mem_cons, List.not_mem_nil, or_false] at hv
    rcases hv with rfl | rfl | rfl | rfl | rfl | rfl | rfl | rfl
    · exact .inr ⟨_, rfl, by omega⟩
    · exact .inr ⟨_, rfl, by omega⟩
    · exact .inr ⟨_, rfl, by omega⟩
    · exact .inr ⟨_, rfl, by omega⟩
    · exact .inl .non
    · exact .inl (.bl _)
    · exact .inl (.str _)
    · exact .inl (.lst n7 (s5 _ _ n7 (x8 _ _ upd_same)))
  have k45 := ((KeepA.of (a := a) x7).trans (KeepA.of x8)).trans (KeepA.ofB s5)
  have o3 := o3.to k45
  have o4 := o4.imp (fun o => o.to k45) id
  have tb5 := tabB ((t4.same x7).same x8) s5 ((tb4.ext x7).ext x8)
  have bad : ∀ {H : Hp}, KeepA a H5 H → BadW K H v4 := fun k => o4.elim (fun o => .inl (o.to k).no) .inr
  have off : ∀ {H : Hp}, KeepA a H5 H → NoInt K H v5 ∨ ∃ i : Int, v5 = .int i ∧ ¬ (0 ≤ i ∧ i < 2 ^ W) := fun k => o5.imp (fun o => (o.to k).no) id
  have tabs : ∀ {H : Hp}, TabS H PT QN → Tabs [(PT, QN)] H := fun b p hp => by
    rw [List.mem_singleton.mp hp]
    exact b
  -- what is heard of word
  refine ⟨tabs tb5, fun H6 e6 b6 E2 Q2 hE hQ => ⟨_, rfl, _, rfl, word_num hE (o3.to (KeepA.ofN e6)).no fun r1 H7 y7 f7 => ?_⟩⟩
  clear hE hQ
  have g7 : ExtN H5 H7 := e6.trans (ExtN.of y7)
  refine ⟨b6.ext y7, fun H8 e8 b8 E2 Q2 hE hQ => ⟨_, rfl, _, rfl, word_num hE (o3.to (KeepA.ofN (g7.trans e8))).no fun r2 H9 y9 f9 => ?_⟩⟩
  clear hE hQ
  have g9 : ExtN H5 H9 := (g7.trans e8).trans (ExtN.of y9)
  have f7 := (e8.trans (ExtN.of y9)) _ _ f7 (fun ps z => by cases z)
  refine ⟨b8.ext y9, fun H10 e10 b10 E2 Q2 hE hQ => ⟨_, rfl, _, rfl, word_wid hE (bad (KeepA.ofN (g9.trans e10))) fun r3 H11 y11 f11 => ?_⟩⟩
  clear hE hQ
  have g11 : ExtN H5 H11 := (g9.trans e10).trans (ExtN.of y11)
  have f7 := (e10.trans (ExtN.of y11)) _ _ f7 (fun ps z => by cases z)
  have f9 := (e10.trans (ExtN.of y11)) _ _ f9 (fun ps z => by cases z)
  have b11 := b10.ext y11
  refine ⟨by decide, fun L1 m1 => ⟨by decide, fun q1 m2 => ⟨by decide, fun q2 m3 => ⟨by decide, fun q3 m4 => ⟨by decide, fun L2 m5 => ?_⟩⟩⟩⟩⟩
  have z1 := same_upd (o := .lst [V.ref r1, V.ref r2, V.ref r3]) m1
  have z2 := same_upd (o := .tup [V.str "BadNumber", V.str "number"]) m2
  have z3 := same_upd (o := .tup [V.str "BadNumber", V.str "number"]) m3
  have z4 := same_upd (o := .tup [V.str "BadNumber", V.str "width"]) m4
  have z5 := same_upd (o := .lst [V.ref q1, V.ref q2, V.ref q3]) m5
  have zz := z1.trans (z2.trans (z3.trans (z4.trans z5)))
  have D1 := (Dp.lst (K := K) (.inl (.inl (z5 _ _ (z4 _ _ (z3 _ _ (z2 _ _ upd_same)))))) (.cons (.tup (.inl (.inl (zz _ _ f7))) (.cons (.str _) (.cons (.str _) .nil))) (.cons (.tup (.inl (.inl (zz _ _ f9))) (.cons (.str _) (.cons (.str _) .nil)))
    (.cons (.tup (.inl (.inl (zz _ _ f11))) (.cons (.str _) (.cons (.str _) .nil))) .nil))))
  have D2 := (Dp.lst (K := K) (.inl (.inl (upd_same (H := upd (upd (upd (upd H11 L1 (.lst [V.ref r1, V.ref r2, V.ref r3])) q1 (.tup [V.str "BadNumber", V.str "number"])) q2 (.tup [V.str "BadNumber", V.str "number"])) q3 (.tup [V.str "BadNumber", V.str "width"])) (a := L2) (o := .lst [V.ref q1, V.ref q2, V.ref q3]))))
    (.cons (.tup (.inl (.inl (z5 _ _ (z4 _ _ (z3 _ _ upd_same))))) (.cons (.str _) (.cons (.str _) .nil))) (.cons (.tup (.inl (.inl (z5 _ _ (z4 _ _ upd_same)))) (.cons (.str _) (.cons (.str _) .nil))) (.cons (.tup (.inl (.inl (z5 _ _ upd_same))) (.cons (.str _) (.cons (.str _) .nil))) .nil))))
  refine ⟨_, _, D1, D2, by decide +kernel, by decide +kernel, _, rfl, ?_⟩
  rw [show PyData.eqv (.list [.tuple [.str "BadNumber", .str "number"], .tuple [.str "BadNumber", .str "number"], .tuple [.str "BadNumber", .str "width"]]) (.list [.tuple [.str "BadNumber", .str "number"], .tuple [.str "BadNumber", .str "number"], .tuple [.str "BadNumber", .str "width"]]) = true by decide +kernel]
  refine iteF ?_
  have b12 := b11.ext zz
  have g12 : ExtN H5 _ := g11.trans (ExtN.of zz)
  clear z1 z2 z3 z4 z5 D1 D2
  generalize upd (upd (upd (upd (upd H11 L1 _) q1 _) q2 _) q3 _) L2 _ = H12 at *
  -- what is heard of signed
  refine ⟨b12, fun H13 e13 b13 E2 Q2 hE hQ => ⟨_, rfl, _, rfl, signed_val hE w1 w300 (off (KeepA.ofN (g12.trans e13))) fun r4 H14 y14 f14 => ?_⟩⟩
  clear hE hQ
  have g14 : ExtN H5 H14 := (g12.trans e13).trans (ExtN.of y14)
  refine ⟨b13.ext y14, fun H15 e15 b15 E2 Q2 hE hQ => ⟨_, rfl, _, rfl, signed_wid hE (bad (KeepA.ofN (g14.trans e15))) fun r5 H16 y16 f16 => ?_⟩⟩
  clear hE hQ
  have g16 : ExtN H5 H16 := (g14.trans e15).trans (ExtN.of y16)
  have f14 := (e15.trans (ExtN.of y16)) _ _ f14 (fun ps z => by cases z)
  have b16 := b15.ext y16
  refine ⟨by decide, fun L3 m6 => ⟨_, rfl, .inl ⟨rfl, _, .inl (.inl upd_same)⟩, ?_⟩⟩
  have z6 := same_upd (o := .lst [V.ref r4, V.ref r5]) m6
  refine ⟨b16.ext z6, fun H17 e17 b17 E2 Q2 hE hQ => ⟨_, rfl, signed_wid hE (bad (KeepA.ofN ((g16.trans (ExtN.of z6)).trans e17))) fun r6 H18 y18 f18 => ?_⟩⟩
  clear hE hQ
  have e18 : H18 L3 = some (.lst [V.ref r4, V.ref r5]) := y18 _ _ (e17 _ _ upd_same (fun ps z => by cases z))
  have g18 : ExtN H16 H18 := ((ExtN.of z6).trans e17).trans (ExtN.of y18)
  refine ⟨L3, _, _, rfl, rfl, e18, (by show 2 < sizeLine; decide), ?_⟩
  have k18 : ExtN H16 (upd H18 L3 (.lst [V.ref r4, V.ref r5, V.ref r6])) := fun b o e nt => by
    rw [upd_ne (ne_of_none e m6)]
    exact g18 b o e nt
  have f14 := k18 _ _ f14 (fun ps z => by cases z)
  have f16 := k18 _ _ f16 (fun ps z => by cases z)
  have n63 : r6 ≠ L3 := fun z => by
    rw [z, e18] at f18
    cases f18
  have f18 : (upd H18 L3 (.lst [V.ref r4, V.ref r5, V.ref r6])) r6 = _ := (upd_ne n63).trans f18
  have b18 : TabS H18 PT QN := (b17.ext y18) (PT, QN) (List.mem_singleton.mpr rfl)
  have b19 := tabs (tabU (o := .lst [V.ref r4, V.ref r5, V.ref r6]) b18 e18)
  have g19 := g16.trans k18
  have e19 : (upd H18 L3 (.lst [V.ref r4, V.ref r5, V.ref r6])) L3 = some (.lst [V.ref r4, V.ref r5, V.ref r6]) := upd_same
  have app : ([V.ref r4, V.ref r5] ++ [V.ref r6] : List V) = [V.ref r4, V.ref r5, V.ref r6] := rfl
  rw [app]
  clear app
  generalize upd H18 L3 (.lst [V.ref r4, V.ref r5, V.ref r6]) = H19 at *
  refine ⟨by decide, fun q1 m2 => ⟨by decide, fun q2 m3 => ⟨by decide, fun q3 m4 => ⟨by decide, fun L4 m5 => ?_⟩⟩⟩⟩
  have z2 := same_upd (o := .tup [V.str "BadNumber", V.str "value"]) m2
  have z3 := same_upd (o := .tup [V.str "BadNumber", V.str "width"]) m3
  have z4 := same_upd (o := .tup [V.str "BadNumber", V.str "width"]) m4
  have z5 := same_upd (o := .lst [V.ref q1, V.ref q2, V.ref q3]) m5
  have zz := z2.trans (z3.trans (z4.trans z5))
  have D1 := (Dp.lst (K := K) (.inl (.inl (zz _ _ e19))) (.cons (.tup (.inl (.inl (zz _ _ f14))) (.cons (.str _) (.cons (.str _) .nil))) (.cons (.tup (.inl (.inl (zz _ _ f16))) (.cons (.str _) (.cons (.str _) .nil)))
    (.cons (.tup (.inl (.inl (zz _ _ f18))) (.cons (.str _) (.cons (.str _) .nil))) .nil))))
  have D2 := (Dp.lst (K := K) (.inl (.inl (upd_same (H := upd (upd (upd H19 q1 (.tup [V.str "BadNumber", V.str "value"])) q2 (.tup [V.str "BadNumber", V.str "width"])) q3 (.tup [V.str "BadNumber", V.str "width"])) (a := L4) (o := .lst [V.ref q1, V.ref q2, V.ref q3]))))
    (.cons (.tup (.inl (.inl (z5 _ _ (z4 _ _ (z3 _ _ upd_same))))) (.cons (.str _) (.cons (.str _) .nil))) (.cons (.tup (.inl (.inl (z5 _ _ (z4 _ _ upd_same)))) (.cons (.str _) (.cons (.str _) .nil))) (.cons (.tup (.inl (.inl (z5 _ _ upd_same))) (.cons (.str _) (.cons (.str _) .nil))) .nil))))
  refine ⟨_, _, D1, D2, by decide +kernel, by decide +kernel, _, rfl, ?_⟩
  rw [show PyData.eqv (.list [.tuple [.str "BadNumber", .str "value"], .tuple [.str "BadNumber", .str "width"], .tuple [.str "BadNumber", .str "width"]]) (.list [.tuple [.str "BadNumber", .str "value"], .tuple [.str "BadNumber", .str "width"], .tuple [.str "BadNumber", .str "width"]]) = true by decide +kernel]
  refine iteF ?_
  have b20 := b19.ext zz
  have g20 : ExtN H5 _ := g19.trans (ExtN.of zz)
  clear z2 z3 z4 z5 D1 D2
  generalize upd (upd (upd (upd H19 q1 _) q2 _) q3 _) L4 _ = H20 at *
  have two : (2 : Int) ≤ 2 ^ W := two_le_pow w1
  refine ⟨b20, fun H21 e21 b21 E2 Q2 hE hQ => ⟨_, rfl, _, _, rfl, rfl, ⟨_, rfl, sd w1 w300 (by omega) (by omega) (hQ _ _ ?_)⟩⟩⟩
  clear hE hQ
  show (if decide (V.non = V.non) = true then _ else _)
  rw [decide_eq_true rfl]
  refine iteT ⟨b21, fun H22 e22 b22 E2 Q2 hE hQ => ⟨_, rfl, _, rfl, ⟨_, rfl, wd w1 w300 (hQ _ _ ?_)⟩⟩⟩
  clear hE hQ
  show Q (V.bl (decide (V.non = V.non))) _
  rw [decide_eq_true rfl]
  exact q _ ((t5.less (by omega)).keepN ((g20.trans e21).trans e22)) (b22 (PT, QN) (List.mem_singleton.mpr rfl))
end
end K00
end
section
set_option maxHeartbeats 4000000
namespace K00
open PySem PySem.Spec PyProof.Rows L2 G1 G2 LamX
local macro_rules | `(tactic| walk_at "rd") => `(tactic| simp only [tPar, tFmt, tJs, tM0, tM1, tSeq, tIfS, gName, gTup, gSub, gNil, gCons, List.cons.injEq, List.replicate_succ, tNot, tB, tRet, tC, tNext, tVar, tOp, tUn, tAnd, tOr, tAndV, tOrV, tNotV, tIf, tTest, tChain, tAsg, tCall, tCons, tNil, tCB, tDrop, tNever, tTup, tLst, tSl, tPart, tNoPart, tB, cx_K, cx_K', cx_w, cx_w', cx_mg', cx_P', cx_b', cx_mg, cx_P, cx_b, gUnl, Nat.reduceAdd, Nat.reduceSub, Nat.sub_self, Nat.zero_add, List.replicate_zero,
  rI, rI0, rU, rEq, rNe, L2.start, List.append_nil, List.cons_append, List.nil_append, List.map_cons, List.map_nil, List.length_cons, List.length_nil, List.getElem?_cons_zero, List.getElem?_cons_succ,
  List.replicate, List.set_cons_zero, List.set_cons_succ, exists_eq_left, exists_eq_left', exists_eq_right, exists_and_left, Option.some.injEq, V.bl.injEq, V.int.injEq, V.str.injEq, V.ref.injEq, true_and, and_true, if_true, if_false, Bool.false_eq_true, Bool.not_true, Bool.not_false, reduceIte, reduceCtorEq, ite_true, ite_false, decide_true, decide_false])
section
variable {P : Program} {w : World} {K : PySem.W.Frag} {mg : Str → Option Value} {base : Heap}
def sp_law (K : PySem.W.Frag) (PT : Addr) : Sp := S1 fun x H Q => ∃ (l : Addr) (ns : List Int), x = .ref l ∧ SqL K H l (ns.map V.int) ∧ ns.length ≤ 1000 ∧ TabS H PT QN ∧ ∀ H1, Q (.bl true) H1
theorem ok_law (T : Txt w K mg) {PT : Addr} (TB : TabB base mg T.cR PT) : FnOk P w K mg base CX0 9 T.f_law T.fd_law ["_law_script"] (sp_law K PT) := by
  have K__law_tray := ok__law_tray (P := P) (base := base) T
  have K__law_rests_right := ok__law_rests_right (P := P) (base := base) T
  have K__law_signs_right := ok__law_signs_right (P := P) (base := base) T
  have K__law_refused_right := ok__law_refused_right (P := P) (base := base) T TB
  refine T.F_law.ok sc_law S1_len (fun cdv A outer s H vs Q E hr h => ?_)
  obtain ⟨v0, rfl, h⟩ := h
  refine ⟨_, (pss_cons (ps_set (i := 1) sc_law.nd rfl (.inl rfl) (pe_call K__law_tray (hr.mono (by decide)) (by rfl) T.g__law_tray T.F__law_tray.kp T.b__law_tray .nil pass0 (pa_cons (pv 0) pa_nil)))
      (pss_cons (ps_for PassesOwn.never rfl (pi_range1 (by rfl) T.m_range (pa_cons pe_int pa_nil)) (pg_name (i := 2) sc_law.nd rfl (.inl rfl))
        (pss_one (ps_if (PW.pt (pw_or (pt_not (pt_val (pe_call K__law_rests_right (hr.mono (by decide)) (by rfl) T.g__law_rests_right T.F__law_rests_right.kp T.b__law_rests_right .nil pass0 (pa_cons (pv 1) pa_nil)))) (pw_or (pt_not (pt_val (pe_call K__law_signs_right (hr.mono (by decide)) (by rfl) T.g__law_signs_right T.F__law_signs_right.kp T.b__law_signs_right .nil pass0 (pa_cons (pv 1) pa_nil)))) (pw_or1 (pt_not (pt_val (pe_call K__law_refused_right (hr.mono (by decide)) (by rfl) T.g__law_refused_right T.F__law_refused_right.kp T.b__law_refused_right .nil pass0 (pa_cons (pv 1) pa_nil))))))))
          (pss_one (ps_ret pe_bl))
          pss_nil)))
      (pss_one (ps_ret pe_bl)))), ?_⟩
  obtain ⟨l, ns, rfl, hl, hn, tb, q⟩ := h
  walk_at "rd"
  refine ⟨_, rfl, l, ns, rfl, hl, hn, fun p H1 s1 ⟨c, t1⟩ => ?_⟩
  have tb1 := tb.ext s1
  refine ⟨4, rfl, by decide, by decide, for_range (n := 4) (fun i σ H' => ∃ y2, σ = [some (.ref l), some (.ref p), y2] ∧ Tr K H' p c (1000 * (4 - i)) ∧ TabS H' PT QN) ⟨none, rfl, t1.less (by decide), tb1⟩ ?_ ?_⟩
  · rintro i σ H2 hi ⟨y2, rfl, t2, tb2⟩
    walk_at "rd"
    obtain ⟨N, hN⟩ : ∃ N, 1000 * (4 - i) = N + 1000 := ⟨1000 * (4 - (i + 1)), by omega⟩
    rw [hN] at t2
    refine ⟨_, rfl, p, c, N + 900, rfl, t2, fun H3 s3 t3 => ⟨_, rfl, iteF ?_⟩⟩
    have tb3 := tabB t2 s3 tb2
    refine ⟨_, rfl, p, c, N + 800, rfl, t3, fun H4 s4 t4 => ⟨_, rfl, iteF ?_⟩⟩
    have tb4 := tabB t3 s4 tb3
    refine ⟨_, rfl, p, c, N + 700, rfl, t4, tb4, fun H5 t5 tb5 => ⟨_, rfl, iteF ?_⟩⟩
    exact ⟨t5.less (by omega), tb5⟩
  · rintro σ H2 ⟨y2, rfl, t2, tb2⟩
    walk_at "rd"
    exact q _
end
end K00
end
section
set_option maxHeartbeats 4000000
namespace K00
open PySem PySem.Spec PyProof.Rows L2 G1 G2 LamX
theorem kb_mk {K : PySem.W.Frag} {fd : FuncData} {x y : Str} (h : ∀ (s : Shared) (a b : Value), BindsTo s fd ⟨[], [(x, a), (y, b)]⟩ [(x, a), (y, b)]) : KBinds K fd [x, y] [x, y] onlyK onlyK := by
  refine ⟨fun s us ws _ hl => ?_, fun r rz => onlyK_rel r rz⟩
  cases us with
  | nil =>
    match ws, hl with
    | [a, b], _ => exact h s a b
  | cons u r => cases hl
/-! ### the facts of the top, gathered -/
theorem all_mk {l : PySem.W.OpenLaw} {w : World} {K : PySem.W.Frag} {h : Heap} {mg : Str → Option Value} {fa : Addr} (X : K.In h) (G : h.Ns mainGlobals mg) (hfa : mg "law" = some (.ref fa))
    {f0 : Addr} {o0 e0 p0 q0 r0 c0 : Value} {x0 y0 : Option Addr} {z0 : Array (Option Value)}
    (a0 : PySem.W.nsIn K mainGlobals "is_integer" = some (some (.ref f0)))
    (l0 : K.lookup f0 = some ⟨o0, x0, .func (PySem.W.fnOf "is_integer" "is_integer" (defArgs s_is_integer) (defBody s_is_integer) (defScope s_is_integer) .none e0 p0 q0 y0 r0 c0), z0⟩)
    (d0 : PySem.W.codeIn K r0 "is_integer" = true) (k0 : PySem.W.keepIn K (.ref f0) = true)
    {f1 : Addr} {o1 e1 p1 q1 r1 c1 : Value} {x1 y1 : Option Addr} {z1 : Array (Option Value)}
    (a1 : PySem.W.nsIn K mainGlobals "is_within" = some (some (.ref f1)))
    (l1 : K.lookup f1 = some ⟨o1, x1, .func (PySem.W.fnOf "is_within" "is_within" (defArgs s_is_within) (defBody s_is_within) (defScope s_is_within) .none e1 p1 q1 y1 r1 c1), z1⟩)
    (d1 : PySem.W.codeIn K r1 "is_within" = true) (k1 : PySem.W.keepIn K (.ref f1) = true)
    {f2 : Addr} {o2 e2 p2 q2 r2 c2 : Value} {x2 y2 : Option Addr} {z2 : Array (Option Value)}
    (a2 : PySem.W.nsIn K mainGlobals "_shown" = some (some (.ref f2)))
    (l2 : K.lookup f2 = some ⟨o2, x2, .func (PySem.W.fnOf "_shown" "_shown" (defArgs s__shown) (defBody s__shown) (defScope s__shown) .none e2 p2 q2 y2 r2 c2), z2⟩)
    (d2 : PySem.W.codeIn K r2 "_shown" = true) (k2 : PySem.W.keepIn K (.ref f2) = true)
    {f3 : Addr} {o3 e3 p3 q3 r3 c3 : Value} {x3 y3 : Option Addr} {z3 : Array (Option Value)}
    (a3 : PySem.W.nsIn K mainGlobals "check_width" = some (some (.ref f3)))
    (l3 : K.lookup f3 = some ⟨o3, x3, .func (PySem.W.fnOf "check_width" "check_width" (defArgs s_check_width) (defBody s_check_width) (defScope s_check_width) .none e3 p3 q3 y3 r3 c3), z3⟩)
    (d3 : PySem.W.codeIn K r3 "check_width" = true) (k3 : PySem.W.keepIn K (.ref f3) = true)
    {f4 : Addr} {o4 e4 p4 q4 r4 c4 : Value} {x4 y4 : Option Addr} {z4 : Array (Option Value)}
    (a4 : PySem.W.nsIn K mainGlobals "mask_of" = some (some (.ref f4)))
    (l4 : K.lookup f4 = some ⟨o4, x4, .func (PySem.W.fnOf "mask_of" "mask_of" (defArgs s_mask_of) (defBody s_mask_of) (defScope s_mask_of) .none e4 p4 q4 y4 r4 c4), z4⟩)
    (d4 : PySem.W.codeIn K r4 "mask_of" = true) (k4 : PySem.W.keepIn K (.ref f4) = true)
    {f5 : Addr} {o5 e5 p5 q5 r5 c5 : Value} {x5 y5 : Option Addr} {z5 : Array (Option Value)}
    (a5 : PySem.W.nsIn K mainGlobals "word" = some (some (.ref f5)))
    (l5 : K.lookup f5 = some ⟨o5, x5, .func (PySem.W.fnOf "word" "word" (defArgs s_word) (defBody s_word) (defScope s_word) .none e5 p5 q5 y5 r5 c5), z5⟩)
    (d5 : PySem.W.codeIn K r5 "word" = true) (k5 : PySem.W.keepIn K (.ref f5) = true)
    {f6 : Addr} {o6 e6 p6 q6 r6 c6 : Value} {x6 y6 : Option Addr} {z6 : Array (Option Value)}
    (a6 : PySem.W.nsIn K mainGlobals "signed" = some (some (.ref f6)))
    (l6 : K.lookup f6 = some ⟨o6, x6, .func (PySem.W.fnOf "signed" "signed" (defArgs s_signed) (defBody s_signed) (defScope s_signed) .none e6 p6 q6 y6 r6 c6), z6⟩)
    (d6 : PySem.W.codeIn K r6 "signed" = true) (k6 : PySem.W.keepIn K (.ref f6) = true)
    {f7 : Addr} {o7 e7 p7 q7 r7 c7 : Value} {x7 y7 : Option Addr} {z7 : Array (Option Value)}
    (a7 : PySem.W.nsIn K mainGlobals "_law_tray" = some (some (.ref f7)))
    (l7 : K.lookup f7 = some ⟨o7, x7, .func (PySem.W.fnOf "_law_tray" "_law_tray" (defArgs s__law_tray) (defBody s__law_tray) (defScope s__law_tray) .none e7 p7 q7 y7 r7 c7), z7⟩)
    (d7 : PySem.W.codeIn K r7 "_law_tray" = true) (k7 : PySem.W.keepIn K (.ref f7) = true)
    {f8 : Addr} {o8 e8 p8 q8 r8 c8 : Value} {x8 y8 : Option Addr} {z8 : Array (Option Value)}
    (a8 : PySem.W.nsIn K mainGlobals "_law_dip" = some (some (.ref f8)))
    (l8 : K.lookup f8 = some ⟨o8, x8, .func (PySem.W.fnOf "_law_dip" "_law_dip" (defArgs s__law_dip) (defBody s__law_dip) (defScope s__law_dip) .none e8 p8 q8 y8 r8 c8), z8⟩)
    (d8 : PySem.W.codeIn K r8 "_law_dip" = true) (k8 : PySem.W.keepIn K (.ref f8) = true)
    {f9 : Addr} {o9 e9 p9 q9 r9 c9 : Value} {x9 y9 : Option Addr} {z9 : Array (Option Value)}
    (a9 : PySem.W.nsIn K mainGlobals "_law_take" = some (some (.ref f9)))
    (l9 : K.lookup f9 = some ⟨o9, x9, .func (PySem.W.fnOf "_law_take" "_law_take" (defArgs s__law_take) (defBody s__law_take) (defScope s__law_take) .none e9 p9 q9 y9 r9 c9), z9⟩)
    (d9 : PySem.W.codeIn K r9 "_law_take" = true) (k9 : PySem.W.keepIn K (.ref f9) = true)
    {f10 : Addr} {o10 e10 p10 q10 r10 c10 : Value} {x10 y10 : Option Addr} {z10 : Array (Option Value)}
    (a10 : PySem.W.nsIn K mainGlobals "_law_great" = some (some (.ref f10)))
    (l10 : K.lookup f10 = some ⟨o10, x10, .func (PySem.W.fnOf "_law_great" "_law_great" (defArgs s__law_great) (defBody s__law_great) (defScope s__law_great) .none e10 p10 q10 y10 r10 c10), z10⟩)
    (d10 : PySem.W.codeIn K r10 "_law_great" = true) (k10 : PySem.W.keepIn K (.ref f10) = true)
    {f11 : Addr} {o11 e11 p11 q11 r11 c11 : Value} {x11 y11 : Option Addr} {z11 : Array (Option Value)}
    (a11 : PySem.W.nsIn K mainGlobals "_law_word" = some (some (.ref f11)))
    (l11 : K.lookup f11 = some ⟨o11, x11, .func (PySem.W.fnOf "_law_word" "_law_word" (defArgs s__law_word) (defBody s__law_word) (defScope s__law_word) .none e11 p11 q11 y11 r11 c11), z11⟩)
    (d11 : PySem.W.codeIn K r11 "_law_word" = true) (k11 : PySem.W.keepIn K (.ref f11) = true)
    {f12 : Addr} {o12 e12 p12 q12 r12 c12 : Value} {x12 y12 : Option Addr} {z12 : Array (Option Value)}
    (a12 : PySem.W.nsIn K mainGlobals "_law_width" = some (some (.ref f12)))
    (l12 : K.lookup f12 = some ⟨o12, x12, .func (PySem.W.fnOf "_law_width" "_law_width" (defArgs s__law_width) (defBody s__law_width) (defScope s__law_width) .none e12 p12 q12 y12 r12 c12), z12⟩)
    (d12 : PySem.W.codeIn K r12 "_law_width" = true) (k12 : PySem.W.keepIn K (.ref f12) = true)
    {f13 : Addr} {o13 e13 p13 q13 r13 c13 : Value} {x13 y13 : Option Addr} {z13 : Array (Option Value)}
    (a13 : PySem.W.nsIn K mainGlobals "_law_any" = some (some (.ref f13)))
    (l13 : K.lookup f13 = some ⟨o13, x13, .func (PySem.W.fnOf "_law_any" "_law_any" (defArgs s__law_any) (defBody s__law_any) (defScope s__law_any) .none e13 p13 q13 y13 r13 c13), z13⟩)
    (d13 : PySem.W.codeIn K r13 "_law_any" = true) (k13 : PySem.W.keepIn K (.ref f13) = true)
    {f14 : Addr} {o14 e14 p14 q14 r14 c14 : Value} {x14 y14 : Option Addr} {z14 : Array (Option Value)}
    (a14 : PySem.W.nsIn K mainGlobals "_law_heard" = some (some (.ref f14)))
    (l14 : K.lookup f14 = some ⟨o14, x14, .func (PySem.W.fnOf "_law_heard" "_law_heard" (defArgs s__law_heard) (defBody s__law_heard) (defScope s__law_heard) .none e14 p14 q14 y14 r14 c14), z14⟩)
    (d14 : PySem.W.codeIn K r14 "_law_heard" = true) (k14 : PySem.W.keepIn K (.ref f14) = true)
    {f15 : Addr} {o15 e15 p15 q15 r15 c15 : Value} {x15 y15 : Option Addr} {z15 : Array (Option Value)}
    (a15 : PySem.W.nsIn K mainGlobals "_law_rests_right" = some (some (.ref f15)))
    (l15 : K.lookup f15 = some ⟨o15, x15, .func (PySem.W.fnOf "_law_rests_right" "_law_rests_right" (defArgs s__law_rests_right) (defBody s__law_rests_right) (defScope s__law_rests_right) .none e15 p15 q15 y15 r15 c15), z15⟩)
    (d15 : PySem.W.codeIn K r15 "_law_rests_right" = true) (k15 : PySem.W.keepIn K (.ref f15) = true)
    {f16 : Addr} {o16 e16 p16 q16 r16 c16 : Value} {x16 y16 : Option Addr} {z16 : Array (Option Value)}
    (a16 : PySem.W.nsIn K mainGlobals "_law_signs_right" = some (some (.ref f16)))
    (l16 : K.lookup f16 = some ⟨o16, x16, .func (PySem.W.fnOf "_law_signs_right" "_law_signs_right" (defArgs s__law_signs_right) (defBody s__law_signs_right) (defScope s__law_signs_right) .none e16 p16 q16 y16 r16 c16), z16⟩)
    (d16 : PySem.W.codeIn K r16 "_law_signs_right" = true) (k16 : PySem.W.keepIn K (.ref f16) = true)
    {f17 : Addr} {o17 e17 p17 q17 r17 c17 : Value} {x17 y17 : Option Addr} {z17 : Array (Option Value)}
    (a17 : PySem.W.nsIn K mainGlobals "_law_refused_right" = some (some (.ref f17)))
    (l17 : K.lookup f17 = some ⟨o17, x17, .func (PySem.W.fnOf "_law_refused_right" "_law_refused_right" (defArgs s__law_refused_right) (defBody s__law_refused_right) (defScope s__law_refused_right) .none e17 p17 q17 y17 r17 c17), z17⟩)
    (d17 : PySem.W.codeIn K r17 "_law_refused_right" = true) (k17 : PySem.W.keepIn K (.ref f17) = true)
    {f18 : Addr} {o18 e18 p18 q18 r18 c18 : Value} {x18 y18 : Option Addr} {z18 : Array (Option Value)}
    (a18 : PySem.W.nsIn K mainGlobals "law" = some (some (.ref f18)))
    (l18 : K.lookup f18 = some ⟨o18, x18, .func (PySem.W.fnOf "law" "law" (defArgs s_law) (defBody s_law) (defScope s_law) .none e18 p18 q18 y18 r18 c18), z18⟩)
    (d18 : PySem.W.codeIn K r18 "law" = true) (k18 : PySem.W.keepIn K (.ref f18) = true)
    {t_MOST_WIDTH : Tok} (cc_MOST_WIDTH : PySem.W.nsIn K mainGlobals "MOST_WIDTH" = some (some (.int 300 t_MOST_WIDTH)))
    (n_abs : PySem.W.nsIn K mainGlobals "abs" = some none)
    (n_int : PySem.W.nsIn K mainGlobals "int" = some none)
    (n_bool : PySem.W.nsIn K mainGlobals "bool" = some none)
    (n_isinstance : PySem.W.nsIn K mainGlobals "isinstance" = some none)
    (n_len : PySem.W.nsIn K mainGlobals "len" = some none)
    (n_min : PySem.W.nsIn K mainGlobals "min" = some none)
    (n_range : PySem.W.nsIn K mainGlobals "range" = some none)
    (n_repr : PySem.W.nsIn K mainGlobals "repr" = some none)
    (n_str : PySem.W.nsIn K mainGlobals "str" = some none)
    {CE CB CT fI cR PT : Addr} {nm qn : Str} {N : Addr} {bs : List Value} {sn : List Str} {sub : List Value} {ab : Bool} {col : Option Bool} {dd : Option Addr} {m0 m1 m2 m3 m5 : Option Value}
    {oI eI pI qI rI cI : Value} {xI yI : Option Addr} {zI : Array (Option Value)}
    (gE : PySem.W.nsIn K mainGlobals "EqualError" = some (some (.ref CE)))
    (gB : PySem.W.nsIn K mainGlobals "BadNumber" = some (some (.ref CB)))
    (gT : PySem.W.nsIn K mainGlobals "BadTerm" = some (some (.ref CT)))
    (iB : PySem.W.findIn K (.ref CB) "__init__" = some (some (.ref fI)))
    (lI : K.lookup fI = some ⟨oI, xI, .func (PySem.W.fnOf "__init__" "BadNumber.__init__" (defArgs sInit) (defBody sInit) (defScope sInit) .none eI pI qI yI rI cI), zI⟩)
    (dI : PySem.W.codeIn K rI "BadNumber.__init__" = true)
    (kI : PySem.W.keepIn K (.ref fI) = true)
    (tI : PySem.W.typeIn K (.ref fI) = some (.type "function"))
    (xL : K.lookup CB = some (excClassObj nm qn CB N bs [.ref CE, .type "ValueError", .type "Exception", .type "BaseException", .type "object"] true sn sub ab col dd m0 m1 m2 m3 m5 "ValueError.__new__"))
    (sa : PySem.W.findIn K (.ref CB) "__setattr__" = some (some (.builtin "object.__setattr__")))
    (eC : PySem.W.subIn K (.ref CB) (.type "BaseException") = some true)
    (tC : PySem.W.typeIn K (.ref CB) = some (.type "type"))
    (kC : PySem.W.keepIn K (.ref CB) = true)
    (nP : PySem.W.findIn K (.ref CB) "part" = some none)
    (ga : PySem.W.findIn K (.ref CB) "__getattribute__" = some (some (.builtin "BaseException.__getattribute__")))
    (gg : PySem.W.findIn K (.ref CB) "__getattr__" = some none)
    (hC : PySem.W.hasDictIn K CB = true)
    (rd : PySem.W.readsIn K CE (.type "type") = true)
    (rg : PySem.W.specialIn K (.ref CE) "__getattribute__" = some (some (.builtin "type.__getattribute__")))
    (vE : PySem.W.findCls K (.ref CE) (.type "type") "__init__" = some (.val (.builtin "ValueError.__init__")))
    (exE : PySem.W.exmOne K (.ref CB) (.ref CE) = some true)
    (nB : PySem.W.kitOne K (.type "NoneType") (.ref CB) = some false)
    (nT : PySem.W.kitOne K (.type "NoneType") (.ref CT) = some false)
    (cR0 : r17 = .ref cR)
    (pT : h.get? PT = some { cls := .none, data := .fields #[] })
    (pK : K.lookup PT = none)
    (pC : PySem.W.codeHdIn K cR PT = true)
    : LawAtS l w K CX0 9 63 "_law_script" mg fa h := by
  have e : f18 = fa := by
    have e1 := hfa.symm.trans (PySem.W.mg_of X G a18)
    cases e1
    rfl
  subst e
  let T : Txt w K mg := {
    f_is_integer := f0, fd_is_integer := _, F_is_integer := fun_mk l0 d0 k0, g_is_integer := PySem.W.mg_of X G a0, b_is_integer := (fun_mk (st := s_is_integer) l0 d0 k0).binds fun _ _ _ _ _ _ us hl => match us, hl with | [_], _ => rfl,
    f_is_within := f1, fd_is_within := _, F_is_within := fun_mk l1 d1 k1, g_is_within := PySem.W.mg_of X G a1, b_is_within := (fun_mk (st := s_is_within) l1 d1 k1).binds fun _ _ _ _ _ _ us hl => match us, hl with | [_, _, _], _ => rfl,
    f__shown := f2, fd__shown := _, F__shown := fun_mk l2 d2 k2, g__shown := PySem.W.mg_of X G a2, b__shown := (fun_mk (st := s__shown) l2 d2 k2).binds fun _ _ _ _ _ _ us hl => match us, hl with | [_], _ => rfl,
    f_check_width := f3, fd_check_width := _, F_check_width := fun_mk l3 d3 k3, g_check_width := PySem.W.mg_of X G a3, b_check_width := (fun_mk (st := s_check_width) l3 d3 k3).binds fun _ _ _ _ _ _ us hl => match us, hl with | [_], _ => rfl,
    f_mask_of := f4, fd_mask_of := _, F_mask_of := fun_mk l4 d4 k4, g_mask_of := PySem.W.mg_of X G a4, b_mask_of := (fun_mk (st := s_mask_of) l4 d4 k4).binds fun _ _ _ _ _ _ us hl => match us, hl with | [_], _ => rfl,
    f_word := f5, fd_word := _, F_word := fun_mk l5 d5 k5, g_word := PySem.W.mg_of X G a5, b_word := (fun_mk (st := s_word) l5 d5 k5).binds fun _ _ _ _ _ _ us hl => match us, hl with | [_, _], _ => rfl,
    f_signed := f6, fd_signed := _, F_signed := fun_mk l6 d6 k6, g_signed := PySem.W.mg_of X G a6, b_signed := (fun_mk (st := s_signed) l6 d6 k6).binds fun _ _ _ _ _ _ us hl => match us, hl with | [_, _], _ => rfl,
    f__law_tray := f7, fd__law_tray := _, F__law_tray := fun_mk l7 d7 k7, g__law_tray := PySem.W.mg_of X G a7, b__law_tray := (fun_mk (st := s__law_tray) l7 d7 k7).binds fun _ _ _ _ _ _ us hl => match us, hl with | [_], _ => rfl,
    f__law_dip := f8, fd__law_dip := _, F__law_dip := fun_mk l8 d8 k8, g__law_dip := PySem.W.mg_of X G a8, b__law_dip := (fun_mk (st := s__law_dip) l8 d8 k8).binds fun _ _ _ _ _ _ us hl => match us, hl with | [_, _], _ => rfl,
    f__law_take := f9, fd__law_take := _, F__law_take := fun_mk l9 d9 k9, g__law_take := PySem.W.mg_of X G a9, b__law_take := (fun_mk (st := s__law_take) l9 d9 k9).binds fun _ _ _ _ _ _ us hl => match us, hl with | [_, _], _ => rfl,
    f__law_great := f10, fd__law_great := _, F__law_great := fun_mk l10 d10 k10, g__law_great := PySem.W.mg_of X G a10, b__law_great := (fun_mk (st := s__law_great) l10 d10 k10).binds fun _ _ _ _ _ _ us hl => match us, hl with | [_, _], _ => rfl,
    f__law_word := f11, fd__law_word := _, F__law_word := fun_mk l11 d11 k11, g__law_word := PySem.W.mg_of X G a11, b__law_word := (fun_mk (st := s__law_word) l11 d11 k11).binds fun _ _ _ _ _ _ us hl => match us, hl with | [_, _], _ => rfl,
    f__law_width := f12, fd__law_width := _, F__law_width := fun_mk l12 d12 k12, g__law_width := PySem.W.mg_of X G a12, b__law_width := (fun_mk (st := s__law_width) l12 d12 k12).binds fun _ _ _ _ _ _ us hl => match us, hl with | [_], _ => rfl,
    f__law_any := f13, fd__law_any := _, F__law_any := fun_mk l13 d13 k13, g__law_any := PySem.W.mg_of X G a13, b__law_any := (fun_mk (st := s__law_any) l13 d13 k13).binds fun _ _ _ _ _ _ us hl => match us, hl with | [_, _], _ => rfl,
    f__law_heard := f14, fd__law_heard := _, F__law_heard := fun_mk l14 d14 k14, g__law_heard := PySem.W.mg_of X G a14, b__law_heard := (fun_mk (st := s__law_heard) l14 d14 k14).binds fun _ _ _ _ _ _ us hl => match us, hl with | [_], _ => rfl,
    f__law_rests_right := f15, fd__law_rests_right := _, F__law_rests_right := fun_mk l15 d15 k15, g__law_rests_right := PySem.W.mg_of X G a15, b__law_rests_right := (fun_mk (st := s__law_rests_right) l15 d15 k15).binds fun _ _ _ _ _ _ us hl => match us, hl with | [_], _ => rfl,
    f__law_signs_right := f16, fd__law_signs_right := _, F__law_signs_right := fun_mk l16 d16 k16, g__law_signs_right := PySem.W.mg_of X G a16, b__law_signs_right := (fun_mk (st := s__law_signs_right) l16 d16 k16).binds fun _ _ _ _ _ _ us hl => match us, hl with | [_], _ => rfl,
    f__law_refused_right := f17, fd__law_refused_right := _, F__law_refused_right := fun_mk l17 d17 k17, g__law_refused_right := PySem.W.mg_of X G a17, b__law_refused_right := (fun_mk (st := s__law_refused_right) l17 d17 k17).binds fun _ _ _ _ _ _ us hl => match us, hl with | [_], _ => rfl,
    f_law := f18, fd_law := _, F_law := fun_mk l18 d18 k18, g_law := PySem.W.mg_of X G a18, b_law := (fun_mk (st := s_law) l18 d18 k18).binds fun _ _ _ _ _ _ us hl => match us, hl with | [_], _ => rfl,
    c_MOST_WIDTH := ⟨_, PySem.W.mg_of X G cc_MOST_WIDTH, ⟨_, rfl⟩⟩,
    m_abs := PySem.W.mg_none_of X G n_abs,
    m_int := PySem.W.mg_none_of X G n_int,
    m_bool := PySem.W.mg_none_of X G n_bool,
    m_isinstance := PySem.W.mg_none_of X G n_isinstance,
    m_len := PySem.W.mg_none_of X G n_len,
    m_min := PySem.W.mg_none_of X G n_min,
    m_range := PySem.W.mg_none_of X G n_range,
    m_repr := PySem.W.mg_none_of X G n_repr,
    m_str := PySem.W.mg_none_of X G n_str,
    CE := CE, g_EqualError := PySem.W.mg_of X G gE, CB := CB, g_BadNumber := PySem.W.mg_of X G gB, CT := CT, g_BadTerm := PySem.W.mg_of X G gT,
    fI := fI, fdI := _, FI := fun_mk (st := sInit) lI dI kI, bI := (fun_mk (st := sInit) lI dI kI).binds fun _ _ _ _ _ _ us hl => match us, hl with | [_, _], _ => rfl,
    oB := ⟨⟨nm, qn, N, bs, _, sn, sub, ab, col, dd, m0, m1, m2, m3, m5, xL, rfl⟩, sa, eC, tC, kC⟩, iB := iB, tI := tI, nP := nP, xB := ⟨ga, gg, eC, hC⟩, rE := ⟨rd, rg⟩, vE := vE, exE := exE, kB := nB, kT := nT,
    kb_word := kb_mk fun s a b => .of_eq rfl, kb_signed := kb_mk fun s a b => .of_eq rfl, cR := cR, code_R := cR0 }
  have one : ∀ {q : Addr × Addr → Prop}, q (cR, PT) → ∀ p ∈ [(cR, PT)], q p := fun h p hp => by
    rw [List.mem_singleton.mp hp]
    exact h
  exact ⟨PySem.W.fnOf "law" "law" (defArgs s_law) (defBody s_law) (defScope s_law) .none e18 p18 q18 y18 r18 c18, [(cR, PT)], sp_law K PT, one pT, one pK, one (PySem.W.codeHd_of_K X pC), fun s u => .of_eq rfl,
    fun H a ns hl _ hH hS => ⟨.ref a, rfl, a, ns, rfl, hS, Nat.le_trans hl (by decide), TabS.nil (hH (cR, PT) List.mem_cons_self), fun _ => rfl⟩,
    fun base _ _ TB => ok_law (P := l.prog) (base := base) T (TB (cR, PT) List.mem_cons_self)⟩
end K00
end
open PySem PySem.W PyProof.Rows
set_option maxHeartbeats 0 in
theorem PySem.Challenge.cw_leastequal_k00_words_and_their_signs_holds : PySem.Challenge.rw_leastequal_k00_words_and_their_signs.Holds := by
  w_on; o_law; k_head; (case hw => w_witness2)
  k_fill
  refine LamX.walk_ofTs (l := PySem.Challenge.rw_leastequal_k00_words_and_their_signs) (n := 63) (k := 9) (x := "_law_script") (CX := fun _ => L2.CX0) rfl (by decide) rfl ⟨rfl, by decide, by decide⟩ (fun w h Y => PySem.W.km_in_of Y) ?F (fun _ _ _ _ _ z => z)
  case F =>
    intro w mg fa h Y KX G hmg
    have hT := PySem.W.km_tabs_of Y
    refine' K00.all_mk KX G hmg ?a0 ?l0 ?d0 ?k0 ?a1 ?l1 ?d1 ?k1 ?a2 ?l2 ?d2 ?k2 ?a3 ?l3 ?d3 ?k3 ?a4 ?l4 ?d4 ?k4 ?a5 ?l5 ?d5 ?k5 ?a6 ?l6 ?d6 ?k6 ?a7 ?l7 ?d7 ?k7 ?a8 ?l8 ?d8 ?k8 ?a9 ?l9 ?d9 ?k9 ?a10 ?l10 ?d10 ?k10 ?a11 ?l11 ?d11 ?k11 ?a12 ?l12 ?d12 ?k12 ?a13 ?l13 ?d13 ?k13 ?a14 ?l14 ?d14 ?k14 ?a15 ?l15 ?d15 ?k15 ?a16 ?l16 ?d16 ?k16 ?a17 ?l17 ?d17 ?k17 ?a18 ?l18 ?d18 ?k18 ?cc_MOST_WIDTH ?n_abs ?n_int ?n_bool ?n_isinstance ?n_len ?n_min ?n_range ?n_repr ?n_str ?gE ?gB ?gT ?iB ?lI ?dI ?kI ?tI ?xL ?sa ?eC ?tC ?kC ?nP ?ga ?gg ?hC ?rd ?rg ?vE ?exE ?nB ?nT ?cR0 ?pT ?pK ?pC
    (case a0 => k_is)
    (case l0 => k_is)
    (case d0 => k_is)
    (case k0 => k_is)
    (case a1 => k_is)
    (case l1 => k_is)
    (case d1 => k_is)
    (case k1 => k_is)
    (case a2 => k_is)
    (case l2 => k_is)
    (case d2 => k_is)
    (case k2 => k_is)
    (case a3 => k_is)
    (case l3 => k_is)
    (case d3 => k_is)
    (case k3 => k_is)
    (case a4 => k_is)
    (case l4 => k_is)
    (case d4 => k_is)
    (case k4 => k_is)
    (case a5 => k_is)
    (case l5 => k_is)
    (case d5 => k_is)
    (case k5 => k_is)
    (case a6 => k_is)
    (case l6 => k_is)
    (case d6 => k_is)
    (case k6 => k_is)
    (case a7 => k_is)
    (case l7 => k_is)
    (case d7 => k_is)
    (case k7 => k_is)
    (case a8 => k_is)
    (case l8 => k_is)
    (case d8 => k_is)
    (case k8 => k_is)
    (case a9 => k_is)
    (case l9 => k_is)
    (case d9 => k_is)
    (case k9 => k_is)
    (case a10 => k_is)
    (case l10 => k_is)
    (case d10 => k_is)
    (case k10 => k_is)
    (case a11 => k_is)
    (case l11 => k_is)
    (case d11 => k_is)
    (case k11 => k_is)
    (case a12 => k_is)
    (case l12 => k_is)
    (case d12 => k_is)
    (case k12 => k_is)
    (case a13 => k_is)
    (case l13 => k_is)
    (case d13 => k_is)
    (case k13 => k_is)
    (case a14 => k_is)
    (case l14 => k_is)
    (case d14 => k_is)
    (case k14 => k_is)
    (case a15 => k_is)
    (case l15 => k_is)
    (case d15 => k_is)
    (case k15 => k_is)
    (case a16 => k_is)
    (case l16 => k_is)
    (case d16 => k_is)
    (case k16 => k_is)
    (case a17 => k_is)
    (case l17 => k_is)
    (case d17 => k_is)
    (case k17 => k_is)
    (case a18 => k_is)
    (case l18 => k_is)
    (case d18 => k_is)
    (case k18 => k_is)
    (case cc_MOST_WIDTH => k_is)
    (case n_abs => k_is)
    (case n_int => k_is)
    (case n_bool => k_is)
    (case n_isinstance => k_is)
    (case n_len => k_is)
    (case n_min => k_is)
    (case n_range => k_is)
    (case n_repr => k_is)
    (case n_str => k_is)
    (case gE => k_is)
    (case gB => k_is)
    (case gT => k_is)
    (case iB => k_is)
    (case lI => k_is)
    (case dI => k_is)
    (case kI => k_is)
    (case tI => k_is)
    (case xL => k_is)
    (case sa => k_is)
    (case eC => k_is)
    (case tC => k_is)
    (case kC => k_is)
    (case nP => k_is)
    (case ga => k_is)
    (case gg => k_is)
    (case hC => k_is)
    (case rd => first | k_is | kernel_rfl)
    (case rg => first | k_is | kernel_rfl)
    (case vE => first | k_is | kernel_rfl)
    (case exE => first | k_is | kernel_rfl)
    (case nB => first | k_is | kernel_rfl)
    (case nT => first | k_is | kernel_rfl)
    (case cR0 => exact rfl)
    (case pT => exact hT _ List.mem_cons_self)
    (case pK => kernel_rfl)
    (case pC => kernel_rfl)
