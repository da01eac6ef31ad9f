import PyProof.Rows.All
import Wide.All
import OpenK.AllK
import Wide.FinOn
import HandS.ForMost
import HandS.IsInst
import KE.KRevSl
import PyProof.SliceStr2
import OpenK.KMore
import HandS.ForExc
import HandS.ExcInit
import HandS.ExcValue
import HandS.ExcField
import HandS.ExcIs
import HandS.DeepEq
import KE.SortData
import HandS.SortInts
import HandS.Property
import HandS.DictComp
import HandS.WordsExc
import HandS.Walk
import HandS.ForSpec
import HandS.TupAny
import HandS.Zip
import HandS.DictEq
import HandS.OwnEq
import HandS.ExcOwn
import HandS.TryMany
import HandS.MakeKwOnly
import HandS.Finally
import HandS.TupLe
import HandS.Deep
import HandS.FStr
import HandS.Star
import KE.KFmtOwn
import PyProof.InstNe
import HandS.TupMul
import PyProof.CallStr
import KE.KCallOwn
import PyProof.NeKinds
import HandS.TupLen
import PyProof.DictFindH
import HandS.ExcCtx
import HandS.ExcInitHot
import HandS.SuiteRaise
import HandS.RaiseFrom
import HandS.Text
import HandS.ClsMeth
import HandS.Style
import HandS.CallSlots
import HandS.Strs
import PyProof.DictCalls
import PySem.Challenge.RW_surerests_k11_wiring_texts
set_option Elab.async false
set_option linter.all false
set_option maxRecDepth 100000
namespace Rl
open PySem PySem.Spec PyProof.Rows L2
/-! ### globals, defs of the text, calls -/
theorem pe_glb {X : Cx} {x : Str} {p : Pos} {v : V} (hg : Gl X x) (h : ∃ u, X.mg x = some u ∧ RelV v u) (hd : (x == ("__debug__" : Str)) = false := by decide) : PE X (.Name x p) (tC v) := by
  obtain ⟨u, h1, h2⟩ := h
  exact pe_glob hg h1 h2 (hd := hd)
structure FnE (K : PySem.W.Frag) (mg : Str → Option Value) (x qual : Str) (st : Stmt) (ps : List Str) where
  f : Addr
  fd : FuncData
  F : Fun K x qual st f fd
  g : mg x = some (.ref f)
  b : Binds K fd ps []
section
variable {X : Cx} {x qual : Str} {st : Stmt} {ps : List Str} {sp : Sp} {k : Nat} {e : Expr} {es : List Expr} {p pos : Pos} {t tk : TA} {kws : List Keyword} {ks : List Str} {g : List Value → List Value → List Value} {gV : List V → List V → List V}
theorem pcall (M : FnE X.K X.mg x qual st ps) (F : FnOk X.prog X.w X.K X.mg X.base CX0 k M.f M.fd ps sp) (hr : Room k X.A) (hg : Gl X x) (hx : Passes CX0 X E0) (ha : PA X (e :: es) t)
    (hdb : (x == ("__debug__" : Str)) = false := by decide) (he : starEach (e :: es) X.env = (false, eval e X.env) :: starEach es X.env := by rfl) (hpl : (backTo pos (starEach es X.env)).any (·.1) = false := by rfl) :
    PE X (.Call (.Name x p) (e :: es) [] pos) (tCall sp [] E0 t) := pe_call F hr hg M.g M.F.kp M.b .nil hx ha (hdb := hdb) (he := he) (hpl := hpl)
theorem pcall0 (M : FnE X.K X.mg x qual st ps) (F : FnOk X.prog X.w X.K X.mg X.base CX0 k M.f M.fd ps sp) (hr : Room k X.A) (hg : Gl X x) (hx : Passes CX0 X E0)
    (hdb : (x == ("__debug__" : Str)) = false := by decide) :
    PE X (.Call (.Name x p) [] [] pos) (tCall sp [] E0 tNil) := pe_call0 F hr hg M.g M.F.kp M.b .nil hx (hdb := hdb)
/-- f(k = v, ..), keywords alone -/
theorem pe_callK0 {CX : CXT} {f : Addr} {fd : FuncData} {E : XK} (F : FnOk X.prog X.w X.K X.mg X.base CX k f fd ps sp) (hr : Room k X.A) (hg : Gl X x) (hm : X.mg x = some (.ref f)) (hk : PySem.W.keepIn X.K (.ref f) = true) (hb : KBinds X.K fd ps ks g gV) (hx : Passes CX X E)
    (hkw : PK X kws tk) (hall : (backToKw pos (keywordEach kws X.env)).all (·.1.isSome) = true := by rfl) (hks : (backToKw pos (keywordEach kws X.env)).filterMap (·.1) = ks := by rfl)
    (hdb : (x == ("__debug__" : Str)) = false := by decide)
    (hpl : ((backTo pos (starEach [] X.env)).any (·.1) || (backToKw pos (keywordEach kws X.env)).any (·.1.isNone)) = false := by rfl) :
    PE X (.Call (.Name x p) [] kws pos) (tCallK sp gV E tNil tk) := by
  refine ⟨fun pins s σ H Q I h => ?_⟩
  refine wpAny_Call_Name_kw (ld_glob I hg hm ?_ hdb)
  refine PySem.W.callWith_KW0 (h₀ := X.base) I.ok.mod.kin hk hall ?_ hpl
  refine thn (hkw.run pos pins s σ H _ I h) fun ws s2 ⟨zs, H2, I2, rz, q2⟩ => ⟨I2.kIn, ?_⟩
  rw [hks]
  exact run_fnk (us := []) (vs := []) F hr hb hx I2 .nil rz q2
end
/-! ### z[::-1] of a text -/
def revStr (z : Str) : Str := ⟨((Builtin.Str.strSliceIndices none none (-1) z.length).filterMap (z.cps[·]?)).toArray⟩
theorem revStr_length (z : Str) : (revStr z).length ≤ z.length := by
  show (((Builtin.Str.strSliceIndices none none (-1) z.length).filterMap (z.cps[·]?)).toArray).size ≤ z.length
  rw [List.size_toArray]
  refine Nat.le_trans (List.length_filterMap_le _ _) ?_
  have e : Builtin.Str.strSliceIndices none none (-1) z.length = (List.range z.length).map fun k => z.length - 1 - k := PySem.W.krv_sliceRange z.length
  rw [e, List.length_map, List.length_range]
  exact Nat.le_refl _
def tRevS (te : TE) : TE := fun σ H Q => te σ H fun x H1 => ∃ z, x = .str z ∧ z.length ≤ sizeLine ∧ Q (.str (revStr z)) H1
theorem pe_revS {X : Cx} {e : Expr} {te : TE} {k : Nat} {p1 p2 p3 pos : Pos} (he : PE X e te) : PE X (.Subscript e (.Slice none none (some (.UnaryOp .USub (.Constant (.int 1) k p1) p2)) p3) pos) (tRevS te) := by
  refine ⟨fun pins s σ H Q I h => ?_⟩
  refine Subscript_ (thn (he.run pins s σ H _ I h) fun v s1 ⟨x, H1, I1, r1, q1⟩ => ?_)
  obtain ⟨z, ex, hz, q⟩ := q1
  subst ex
  obtain ⟨t, rfl⟩ := r1
  have hst : PO X (some (.UnaryOp .USub (.Constant (.int 1) k p1) p2)) (tPart (tUn (rU fun i => .int (-i)) (tC (.int 1)))) := po_some (pe_un un_neg pe_int)
  refine wpAny_Slice (thn (po_none.run pins s1 σ H1 (fun o H2 => o = none ∧ H2 = H1) I1 ⟨rfl, rfl⟩) fun vl s2 ⟨l, H2, I2, pl, el, e2⟩ => ?_)
  subst el e2
  refine thn (po_none.run pins s2 σ H2 (fun o H3 => o = none ∧ H3 = H2) I2 ⟨rfl, rfl⟩) fun vu s3 ⟨u, H3, I3, pu, eu, e3⟩ => ?_
  subst eu e3
  refine thn (hst.run pins s3 σ H3 (fun o H4 => o = some (-1) ∧ H4 = H3) I3 ⟨1, rfl, -1, rfl, rfl, rfl⟩) fun vs s4 ⟨o, H4, I4, ps, eo, e4⟩ => ?_
  subst eo e4
  have I5 : Inv X pins σ H4 { s4 with heap := s4.heap.push { cls := .type "slice", data := .fields #[vl, vu, vs] } } := I4.kept (t' := s4.toks) fun b ob q => Heap.get?_push_of_some _ q
  obtain ⟨l', el1, el2⟩ := IsPart.raw pl
  obtain ⟨u', eu1, eu2⟩ := IsPart.raw pu
  obtain ⟨w', ew1, ew2⟩ := IsPart.raw ps
  have hl0 : l' = none := by cases l' <;> simp_all
  have hu0 : u' = none := by cases u' <;> simp_all
  obtain ⟨tw, hw0⟩ : ∃ tw, w' = some ((-1 : Int), tw) := by
    cases w' with
    | none => simp at ew2
    | some a =>
      obtain ⟨a1, a2⟩ := a
      simp at ew2
      exact ⟨a2, by rw [← ew2]⟩
  subst hl0 hu0 hw0
  have hsl : (s4.heap.push { cls := .type "slice", data := .fields #[vl, vu, vs] }).IsSlice s4.heap.objs.size none none (some ((-1 : Int), tw)) := by
    obtain ⟨o, h1, h2, h3⟩ := Heap.IsSliceOf.new s4.heap vl vu vs
    exact ⟨o, h1, h2, by rw [h3, el1, eu1, ew1] <;> rfl⟩
  show wpAny (model X.prog X.w) X.A (subscriptTail e (.Slice none none (some (.UnaryOp .USub (.Constant (.int 1) k p1) p2)) p3) (.str z t) (.ref s4.heap.objs.size)) (EP X pins σ Q) X.xe { s4 with heap := s4.heap.push { cls := .type "slice", data := .fields #[vl, vu, vs] } }
  refine tail_any (ops := [.str z t, .ref s4.heap.objs.size]) (typeIs_str _ _ _) (F.slot_str_getitem.lookup) ?_ (by with_unfolding_all rfl)
  refine wpAny_getItem_str_slice (l := none) (u := none) (st := some ((-1 : Int), tw)) hsl rfl ?_
  have hl := revStr_length z
  exact ⟨Nat.le_trans hl hz, .str _, H4, I5.tok _, ⟨_, rfl⟩, q⟩
theorem cx_K {CX : CXT} {P : Program} {w : World} {K : PySem.W.Frag} {mg : Str → Option Value} {base : Heap} {N : List Str} {qual : Str} {scope : Scope} {f : Addr} {cd : Value} {A : Around} {outer : List Env} {s : Shared} {H : Hp} {E : XK} : (cxOf CX P w K mg base N qual scope f cd A outer s H E).K = K := rfl
/-! ### joints: what holds behind a statement -/
theorem cutS {t u : TS} {D : Ends} {σ : L2.St} {H : Hp} (R : L2.St → Hp → Prop) (h : ∀ nx : L2.St → Hp → Prop, (∀ σ' H', R σ' H' → nx σ' H') → t { D with nx := nx } σ H) (hR : ∀ σ' H', R σ' H' → u D σ' H') : tSeq t u D σ H := h (u D) hR
end Rl

set_option Elab.async false
set_option linter.all false
set_option maxRecDepth 100000
namespace Dr
open PySem PySem.Spec PyProof.Rows L2 Rl
/-! ### small words -/
theorem sq {K : PySem.W.Frag} {H : Hp} {p : Addr} {xs : List V} (h : H p = some (.lst xs)) : SqL K H p xs := .inl (.inl h)
theorem st {K : PySem.W.Frag} {H : Hp} {p : Addr} {xs : List V} (h : H p = some (.tup xs)) : SqT K H p xs := .inl (.inl h)
theorem sz {n : Nat} (h : n ≤ 100000) : n ≤ sizeLine := Nat.le_trans h (by decide)
theorem szl {n : Nat} (h : n < 100000) : n < sizeLine := Nat.lt_of_lt_of_le h (by decide)
theorem at0 {xs : List V} {x : V} : atI (x :: xs) 0 = some x := atI_nat (j := 0) rfl
theorem at1 {xs : List V} {x y : V} : atI (x :: y :: xs) 1 = some y := atI_nat (j := 1) rfl
theorem at2 {xs : List V} {x y z : V} : atI (x :: y :: z :: xs) 2 = some z := atI_nat (j := 2) rfl
/-- o[i] of a list, where it is to be stored again -/
def rGetL (K : PySem.W.Frag) : V → V → Hp → VK → Prop := fun o i H Q => ∃ p xs k v, o = .ref p ∧ i = .int k ∧ 0 ≤ k ∧ SqL K H p xs ∧ xs[k.toNat]? = some v ∧ Q v H
theorem pg_list {X : Cx} : PGet X (rGetL X.K) := by
  intro pins s σ H x y v u Q I rx ry h
  obtain ⟨p, xs, k, z, rfl, rfl, h0, hq, he, q⟩ := h
  cases rx
  obtain ⟨t, rfl⟩ := ry
  obtain ⟨its, r, pl, hz⟩ := I.list hq
  obtain ⟨w, ew, rw'⟩ := r.get he
  have hl := r.length
  have hn := line63
  have hlt := (List.getElem?_eq_some_iff.mp he).1
  exact wpAny_getItem_list pl.isList h0 (by omega) (by simpa using ew) ⟨z, H, I, rw', q⟩
theorem ixN_nat {n k : Nat} (h : k < n) : ixN n (k : Int) = some k := by
  unfold ixN
  rw [if_pos (Int.natCast_nonneg k), if_pos (by omega), Int.toNat_natCast]
theorem ixN_0 {n : Nat} (h : 0 < n) : ixN n 0 = some 0 := ixN_nat (k := 0) h
theorem ixN_of {n : Nat} {z : Int} (h0 : 0 ≤ z) (h : z < n) : ixN n z = some z.toNat := by
  unfold ixN
  rw [if_pos h0, if_pos h]
/-- an item at a place within the list -/
theorem at_in {xs : List V} {z : Int} (h0 : 0 ≤ z) (h : z < xs.length) : ∃ v, v ∈ xs ∧ xs[z.toNat]? = some v ∧ atI xs z = some v := by
  have hl : z.toNat < xs.length := by omega
  have e : xs[z.toNat]? = some xs[z.toNat] := List.getElem?_eq_getElem hl
  exact ⟨xs[z.toNat], List.getElem_mem hl, e, at_of (by omega) e⟩
theorem at_ints {ns : List Int} {z : Int} (h0 : 0 ≤ z) (h : z < ns.length) : ∃ c, atI (ns.map V.int) z = some (.int c) := by
  obtain ⟨v, hm, _, h2⟩ := at_in (xs := ns.map V.int) h0 (by rw [List.length_map]; exact h)
  obtain ⟨c, _, rfl⟩ := List.mem_map.mp hm
  exact ⟨c, h2⟩
/-! ### == of ints in lists -/
theorem dp_ints {K : PySem.W.Frag} {H : Hp} : ∀ ns : List Int, DpAll K H (ns.map V.int) (ns.map PyData.int)
  | [] => .nil
  | n :: r => .cons (.int n) (dp_ints r)
theorem canLay_ints : ∀ ns : List Int, PyData.canLayAll0 (ns.map PyData.int) = true
  | [] => rfl
  | n :: r => by
    show (PyData.canLay0 (.int n) && PyData.canLayAll0 (r.map PyData.int)) = true
    rw [canLay_ints r]
    rfl
theorem depthAll_ints : ∀ ns : List Int, PyData.depthAll (ns.map PyData.int) ≤ 1
  | [] => Nat.zero_le _
  | n :: r => by
    have ih := depthAll_ints r
    simp only [List.map_cons, PyData.depthAll, PyData.depth]
    omega
theorem depth_ints (ns : List Int) : (PyData.list (ns.map PyData.int)).depth ≤ 64 := by
  have := depthAll_ints ns
  simp only [PyData.depth]
  omega
theorem shaped_ints (ns : List Int) : SeqAt.shaped (.list (ns.map PyData.int)) = true := by
  unfold SeqAt.shaped
  rw [show PyData.canLay0 (.list (ns.map PyData.int)) = PyData.canLayAll0 (ns.map PyData.int) from rfl, canLay_ints, decide_eq_true (depth_ints ns)]
  rfl
theorem eqv_nil_ints (ns : List Int) : PyData.eqv (.list (ns.map PyData.int)) (.list []) = ns.isEmpty := by
  cases ns <;> rfl
/-! ### a comprehension over a text's signs -/
theorem lc_str {x : Str} {g : TG} {tt : TT} {te : TE} {vs : List Nat} {σ : L2.St} {H1 : Hp} {D : Addr} {Qd : Hp → Prop} (Pv : Nat → Hp → Prop) (h0 : Pv 0 (upd H1 D (.lst [])))
    (hs : ∀ i c H, x.cps[i]? = some c → Pv i H → g (.str ⟨#[c]⟩) (wipe σ vs) H fun σ2 H2 => wipe σ2 vs = wipe σ vs ∧ tt σ2 H2 fun b H3 =>
      if b = true then te σ2 H3 fun y H4 => ∃ acc, H4 D = some (.lst acc) ∧ acc.length < sizeLine ∧ Pv (i + 1) (upd H4 D (.lst (acc ++ [y]))) else Pv (i + 1) H3) (hd : ∀ H, Pv x.cps.size H → Qd H) :
    ∃ W : Nat → Nat → Hp → Prop, (∃ m, W 0 m (upd H1 D (.lst []))) ∧ ∀ i m H, W i m H →
      ((Its x).stop i H ∧ Qd H) ∨ ((Its x).go i H ∧ ∃ Nx : Hp → Prop, (∀ H', Nx H' → ∃ m', m' < m ∧ W (i + 1) m' H') ∧ ∀ v H', (Its x).yld i H v H' → g v (wipe σ vs) H' fun σ2 H2 => wipe σ2 vs = wipe σ vs ∧ tt σ2 H2 fun b H3 =>
        if b = true then te σ2 H3 fun y H4 => ∃ acc, H4 D = some (.lst acc) ∧ acc.length < sizeLine ∧ Nx (upd H4 D (.lst (acc ++ [y]))) else Nx H3) := by
  refine ⟨fun i m H => m = x.cps.size - i ∧ i ≤ x.cps.size ∧ Pv i H, ⟨x.cps.size, by simp, Nat.zero_le _, h0⟩, ?_⟩
  rintro i m H ⟨rfl, hi, p⟩
  by_cases hlt : i < x.cps.size
  · refine .inr ⟨hlt, Pv (i + 1), fun H' p' => ⟨x.cps.size - (i + 1), by omega, rfl, hlt, p'⟩, fun v H' y => ?_⟩
    obtain ⟨e, c, hc, rfl⟩ := y
    subst e
    exact hs i c _ hc p
  · have e : i = x.cps.size := by omega
    subst e
    exact .inl ⟨Nat.le_refl _, hd _ p⟩
/-! ### what a draw leaves -/
/-- the cells of the drawing state's own -/
def vol (H : Hp) (s b : Addr) : Prop := b = s ∨ ∃ A B x, H s = some (.lst [.ref A, .ref B, x]) ∧ (b = A ∨ b = B)
def Kp (s : Addr) (H H' : Hp) : Prop := ∀ b o, H b = some o → ¬ vol H s b → H' b = some o ∧ ¬ vol H' s b
theorem Kp.refl {s : Addr} (H : Hp) : Kp s H H := fun _ _ h v => ⟨h, v⟩
theorem Kp.trans {s : Addr} {H H1 H2 : Hp} (a : Kp s H H1) (b : Kp s H1 H2) : Kp s H H2 := fun c o h v => b c o (a c o h v).1 (a c o h v).2
theorem Kp.of_same {s : Addr} {H H' : Hp} {u : HO} (hs : H s = some u) (h : Same H H') : Kp s H H' := fun b o e v => by
  refine ⟨h _ _ e, fun q => v ?_⟩
  rcases q with q | ⟨A, B, x, q, e⟩
  · exact .inl q
  · rw [h _ _ hs] at q
    rw [← hs] at q
    exact .inr ⟨A, B, x, q, e⟩
theorem same_new {H : Hp} {p : Addr} {o : HO} (h : H p = none) : Same H (upd H p o) := fun b x e => by
  rw [upd_ne (ne_of_none e h)]
  exact e
theorem Same.mut {H H' : Hp} {p : Addr} {o : HO} (k : Same H H') (h : H p = none) : Same H (upd H' p o) := fun b x e => by
  rw [upd_ne (ne_of_none e h)]
  exact k _ _ e
theorem vol_new {H : Hp} {s p b : Addr} {o : HO} (hs : s ≠ p) : vol (upd H p o) s b ↔ vol H s b := by
  unfold vol
  rw [upd_ne hs]
theorem Kp.new {H : Hp} {s p : Addr} {o u : HO} (hs : H s = some u) (hp : H p = none) : Kp s H (upd H p o) := fun b x h v =>
  ⟨by rw [upd_ne (ne_of_none h hp)]; exact h, fun q => v ((vol_new (ne_of_none hs hp)).mp q)⟩
/-- an object that H does not know changes -/
theorem Kp.mut {H H' : Hp} {s p : Addr} {o u : HO} (k : Kp s H H') (hs : H s = some u) (hp : H p = none) : Kp s H (upd H' p o) := fun b x h v =>
  ⟨by rw [upd_ne (ne_of_none h hp)]; exact (k b x h v).1, fun q => (k b x h v).2 ((vol_new (ne_of_none hs hp)).mp q)⟩
structure StAt (H : Hp) (s A B : Addr) (bigs cells : List Int) (n : Int) : Prop where
  st : H s = some (.lst [.ref A, .ref B, .int n])
  ha : H A = some (.lst (bigs.map V.int))
  hb : H B = some (.lst (cells.map V.int))
  ab : A ≠ B
  la : bigs.length ≤ 100
  lb : cells.length ≤ 100
  nb : 0 < cells.length
/-- a drawing state that has drawn at most N times -/
def Ds (H : Hp) (s : Addr) (N : Nat) : Prop := ∃ A B bigs cells n, StAt H s A B bigs cells (n : Nat) ∧ n ≤ N
theorem StAt.sa {H : Hp} {s A B : Addr} {bigs cells : List Int} {n : Int} (h : StAt H s A B bigs cells n) : s ≠ A := ne_of h.st h.ha (by
  intro e
  have e := HO.lst.inj e
  cases bigs with
  | nil => cases e
  | cons x r => cases e)
theorem StAt.sb {H : Hp} {s A B : Addr} {bigs cells : List Int} {n : Int} (h : StAt H s A B bigs cells n) : s ≠ B := ne_of h.st h.hb (by
  intro e
  have e := HO.lst.inj e
  cases cells with
  | nil => cases e
  | cons x r => cases e)
theorem StAt.new {H : Hp} {s A B p : Addr} {o : HO} {bigs cells : List Int} {n : Int} (h : StAt H s A B bigs cells n) (hp : H p = none) : StAt (upd H p o) s A B bigs cells n :=
  ⟨by rw [upd_ne (ne_of_none h.st hp)]; exact h.st, by rw [upd_ne (ne_of_none h.ha hp)]; exact h.ha, by rw [upd_ne (ne_of_none h.hb hp)]; exact h.hb, h.ab, h.la, h.lb, h.nb⟩
theorem StAt.volA {H : Hp} {s A B b : Addr} {bigs cells : List Int} {n : Int} (h : StAt H s A B bigs cells n) : vol H s b ↔ b = s ∨ b = A ∨ b = B := by
  unfold vol
  rw [h.st]
  constructor
  · rintro (e | ⟨A', B', x, e, q⟩)
    · exact .inl e
    · cases e
      exact .inr q
  · rintro (e | e)
    · exact .inl e
    · exact .inr ⟨_, _, _, rfl, e⟩
theorem Ds.new {H : Hp} {s p : Addr} {o : HO} {N : Nat} (h : Ds H s N) (hp : H p = none) : Ds (upd H p o) s N := by
  obtain ⟨A, B, bigs, cells, n, S, l⟩ := h
  exact ⟨A, B, bigs, cells, n, S.new hp, l⟩
theorem Ds.mono {H : Hp} {s : Addr} {N M : Nat} (h : Ds H s N) (l : N ≤ M) : Ds H s M := by
  obtain ⟨A, B, bigs, cells, n, S, l'⟩ := h
  exact ⟨A, B, bigs, cells, n, S, Nat.le_trans l' l⟩
theorem Ds.ex_ {H : Hp} {s : Addr} {N : Nat} (h : Ds H s N) : ∃ u, H s = some u := by
  obtain ⟨A, B, bigs, cells, n, S, l⟩ := h
  exact ⟨_, S.st⟩
theorem Ds.kp {H : Hp} {s p : Addr} {o : HO} {N : Nat} (h : Ds H s N) (hp : H p = none) : Kp s H (upd H p o) := by
  obtain ⟨u, hu⟩ := h.ex_
  exact Kp.new hu hp
/-- a new object is none of the state's own, whatever it holds -/
theorem Ds.nvol {H : Hp} {s p : Addr} {o : HO} {N : Nat} (h : Ds H s N) (hp : H p = none) : ¬ vol (upd H p o) s p := by
  obtain ⟨A, B, bigs, cells, n, S, l⟩ := h
  rw [(S.new hp).volA]
  rintro (e | e | e)
  · exact ne_of_none S.st hp e.symm
  · exact ne_of_none S.ha hp e.symm
  · exact ne_of_none S.hb hp e.symm
/-- a store into an object that is none of the state's own -/
theorem Ds.mut {H : Hp} {s p : Addr} {o : HO} {N : Nat} (h : Ds H s N) (hp : ¬ vol H s p) : Ds (upd H p o) s N ∧ ∀ b, vol (upd H p o) s b ↔ vol H s b := by
  obtain ⟨A, B, bigs, cells, n, S, l⟩ := h
  have hp' := hp
  rw [S.volA] at hp
  have h1 : s ≠ p := fun e => hp (.inl e.symm)
  have h2 : A ≠ p := fun e => hp (.inr (.inl e.symm))
  have h3 : B ≠ p := fun e => hp (.inr (.inr e.symm))
  have S' : StAt (upd H p o) s A B bigs cells n := ⟨by rw [upd_ne h1]; exact S.st, by rw [upd_ne h2]; exact S.ha, by rw [upd_ne h3]; exact S.hb, S.ab, S.la, S.lb, S.nb⟩
  exact ⟨⟨A, B, bigs, cells, n, S', l⟩, fun b => vol_new h1⟩
theorem cut1 (xs : List V) : cutV xs (some 1) none = xs.drop 1 := by
  unfold cutV
  rw [show HT.sIx xs.length 0 (some 1) = min 1 xs.length from HT.sIx_nat xs.length 0 1, HT.sIx_none]
  cases xs with
  | nil => rfl
  | cons x r =>
    rw [show min 1 (x :: r).length = 1 by
      rw [List.length_cons]
      omega]
    show (List.take ((x :: r).length - 1) r) = r
    rw [List.length_cons, Nat.add_sub_cancel]
    exact List.take_length
section
variable {H : Hp} {s A B q : Addr} {bigs cells new : List Int} {n m : Int}
theorem StAt.tick (S : StAt H s A B bigs cells n) : StAt (upd H s (.lst [.ref A, .ref B, .int m])) s A B bigs cells m ∧ Kp s H (upd H s (.lst [.ref A, .ref B, .int m])) := by
  have S' : StAt (upd H s (.lst [.ref A, .ref B, .int m])) s A B bigs cells m := ⟨upd_same, by rw [upd_ne S.sa.symm]; exact S.ha, by rw [upd_ne S.sb.symm]; exact S.hb, S.ab, S.la, S.lb, S.nb⟩
  refine ⟨S', fun b o hb hv => ?_⟩
  rw [S.volA] at hv
  rw [S'.volA]
  exact ⟨by rw [upd_ne (fun e => hv (.inl e))]; exact hb, hv⟩
theorem StAt.putA (S : StAt H s A B bigs cells n) (l : new.length ≤ 100) : StAt (upd H A (.lst (new.map V.int))) s A B new cells n ∧ Kp s H (upd H A (.lst (new.map V.int))) := by
  have S' : StAt (upd H A (.lst (new.map V.int))) s A B new cells n := ⟨by rw [upd_ne S.sa]; exact S.st, upd_same, by rw [upd_ne S.ab.symm]; exact S.hb, S.ab, l, S.lb, S.nb⟩
  refine ⟨S', fun b o hb hv => ?_⟩
  rw [S.volA] at hv
  rw [S'.volA]
  exact ⟨by rw [upd_ne (fun e => hv (.inr (.inl e)))]; exact hb, hv⟩
theorem StAt.next (S : StAt H s A B bigs cells n) (nq : H q = none) (l : new.length ≤ 100) :
    StAt (upd (upd H q (.lst (new.map V.int))) s (.lst [.ref q, .ref B, .int m])) s q B new cells m ∧ Kp s H (upd (upd H q (.lst (new.map V.int))) s (.lst [.ref q, .ref B, .int m])) := by
  have qs : q ≠ s := (ne_of_none S.st nq).symm
  have qB : q ≠ B := (ne_of_none S.hb nq).symm
  have S' : StAt (upd (upd H q (.lst (new.map V.int))) s (.lst [.ref q, .ref B, .int m])) s q B new cells m :=
    ⟨upd_same, by rw [upd_ne qs, upd_same], by rw [upd_ne S.sb.symm, upd_ne qB.symm]; exact S.hb, qB, l, S.lb, S.nb⟩
  refine ⟨S', fun b o hb hv => ?_⟩
  rw [S.volA] at hv
  rw [S'.volA]
  refine ⟨by rw [upd_ne (fun e => hv (.inl e)), upd_ne (ne_of_none hb nq)]; exact hb, ?_⟩
  rintro (e | e | e)
  · exact hv (.inl e)
  · exact ne_of_none hb nq e
  · exact hv (.inr (.inr e))
end
/-- a draw: a number from 0 to z - 1 -/
def spDraw : Sp := fun vs H Q _ => ∃ (s : Addr) (N : Nat) (z : Int), vs = [.ref s, .int z] ∧ Ds H s N ∧ N < 1000000 ∧ 0 < z ∧ z < 100000000 ∧
  ∀ (d : Int) (H' : Hp), 0 ≤ d → d < z → Ds H' s (N + 1) → Kp s H H' → Q (.int d) H'
def spStart (K : PySem.W.Frag) : Sp := fun vs H Q _ => ∃ (a : Addr) (ns : List Int), vs = [.ref a] ∧ SqL K H a (ns.map V.int) ∧ ns.length ≤ 63 ∧
  ∀ (s : Addr) (H' : Hp), Same H H' → H s = none → Ds H' s 0 → (∀ b o, H b = some o → ¬ vol H' s b) → Q (.ref s) H'
end Dr

set_option Elab.async false
set_option linter.all false
set_option maxRecDepth 100000
namespace Tx
open PySem PySem.Spec PyProof.Rows L2 Rl Dr
/-! ### keywords of one or more parameters -/
theorem kbinds {K : PySem.W.Frag} {x qual : Str} {st : Stmt} {f : Addr} {fd : FuncData} {ps ks : List Str} {g : List Value → List Value → List Value} {gV : List V → List V → List V} (F : Fun K x qual st f fd)
    (h : ∀ (kV doc pm : Value) (an : Option Addr) (cdv ct : Value) (us ws : List Value), (g us ws).length = ps.length → bindArgs (PySem.W.fnOf x qual (defArgs st) (defBody st) (defScope st) .none kV doc pm an cdv ct) ⟨us, ks.zip ws⟩ = pure (ps.zip (g us ws)))
    (hr : ∀ {vs : List V} {us : List Value} {zs : List V} {ws : List Value}, Vals vs us → Vals zs ws → Vals (gV vs zs) (g us ws)) : KBinds K fd ps ks g gV := by
  obtain ⟨oc, od, kV, doc, pm, an, cdv, ct, osl, rfl, lk, hcd⟩ := F.ex
  exact ⟨fun s us ws _ hl => .of_eq (h kV doc pm an cdv ct us ws hl), hr⟩
/-! ### texts of small signs -/
def OkS (z : Str) : Prop := ∀ c ∈ z.cps.toList, c < 128
theorem OkS.strOk {z : Str} (h : OkS z) : PyData.strOk z = true := by
  unfold PyData.strOk
  rw [← Array.all_toList]
  refine List.all_eq_true.mpr fun c hc => decide_eq_true ?_
  have := h c hc
  omega
theorem app_cps (a b : Str) : (a ++ b).cps.toList = a.cps.toList ++ b.cps.toList := by
  show (a.cps ++ b.cps).toList = _
  exact Array.toList_append
theorem app_len (a b : Str) : (a ++ b).length = a.length + b.length := by
  show (a.cps ++ b.cps).size = a.cps.size + b.cps.size
  exact Array.size_append
theorem OkS.app {a b : Str} (ha : OkS a) (hb : OkS b) : OkS (a ++ b) := fun c hc => by
  rw [app_cps] at hc
  rcases List.mem_append.mp hc with h | h
  · exact ha c h
  · exact hb c h
theorem okS_one {c : Nat} (h : c < 128) : OkS ⟨#[c]⟩ := fun d hd => by
  have e : d = c := by simpa using hd
  omega
theorem OkS.rev {z : Str} (h : OkS z) : OkS (revStr z) := fun c hc => by
  unfold revStr at hc
  obtain ⟨i, _, e⟩ := List.mem_filterMap.mp hc
  exact h c (Array.mem_toList_iff.mpr (Array.mem_of_getElem? e))
theorem OkS.at {z : Str} {i c : Nat} (h : OkS z) (e : z.cps[i]? = some c) : c < 128 := h c (Array.mem_toList_iff.mpr (Array.mem_of_getElem? e))
theorem okS_join {sep : Str} (hs : OkS sep) : ∀ {l : List Str}, (∀ z ∈ l, OkS z) → OkS (Str.join sep l)
  | [], _ => fun c hc => by cases hc
  | [x], h => h x (by simp)
  | x :: y :: r, h => ((h x (by simp)).app hs).app (okS_join hs (l := y :: r) fun z hz => h z (List.mem_cons_of_mem _ hz))
theorem join_len_ones {l : List Str} (h : ∀ z ∈ l, z.length = 1) : (Txt.join Str.empty l).length = l.length := by
  rw [TL.join_eq]
  induction l with
  | nil => rfl
  | cons x r ih =>
    cases r with
    | nil => exact h x (by simp)
    | cons y r =>
      show (x ++ Str.empty ++ Str.join Str.empty (y :: r)).length = _
      rw [app_len, app_len, ih fun z hz => h z (List.mem_cons_of_mem _ hz), h x (by simp)]
      show 1 + 0 + (y :: r).length = (y :: r).length + 1
      omega
/-- lists of texts -/
theorem dp_strs {K : PySem.W.Frag} {H : Hp} : ∀ zs : List Str, DpAll K H (zs.map V.str) (zs.map PyData.str)
  | [] => .nil
  | z :: r => .cons (.str z) (dp_strs r)
theorem canLay_strs : ∀ zs : List Str, (∀ z ∈ zs, OkS z) → PyData.canLayAll0 (zs.map PyData.str) = true
  | [], _ => rfl
  | z :: r, h => by
    show (PyData.strOk z && PyData.canLayAll0 (r.map PyData.str)) = true
    rw [canLay_strs r fun y hy => h y (List.mem_cons_of_mem _ hy), (h z (by simp)).strOk]
    rfl
theorem depthAll_strs : ∀ zs : List Str, PyData.depthAll (zs.map PyData.str) ≤ 1
  | [] => Nat.zero_le _
  | z :: r => by
    have ih := depthAll_strs r
    simp only [List.map_cons, PyData.depthAll, PyData.depth]
    omega
theorem shaped_strs {zs : List Str} (h : ∀ z ∈ zs, OkS z) : SeqAt.shaped (.list (zs.map PyData.str)) = true := by
  have hd : (PyData.list (zs.map PyData.str)).depth ≤ 64 := by
    have := depthAll_strs zs
    simp only [PyData.depth]
    omega
  unfold SeqAt.shaped
  rw [show PyData.canLay0 (.list (zs.map PyData.str)) = PyData.canLayAll0 (zs.map PyData.str) from rfl, canLay_strs zs h, decide_eq_true hd]
  rfl
theorem eqv_nil_strs (zs : List Str) : PyData.eqv (.list (zs.map PyData.str)) (.list []) = zs.isEmpty := by
  cases zs <;> rfl
end Tx

set_option Elab.async false
set_option linter.all false
set_option maxRecDepth 100000
set_option maxHeartbeats 4000000
namespace Ex
open PySem PySem.Spec PyProof.Rows L2 Rl Dr Tx
/-! ### an own exception class called with keywords alone: BaseException.__new__ passes them by, the own __init__ takes them -/
namespace Kw
open Builtin Builtin.ObjectAttr PySem.HandSPX
section
variable {cn qn : Str} {cA nA : Addr} {b0 mr mrB : List Value} {dc : Bool} {sl : List Str} {su : List Value} {abs : Bool} {co : Option Bool} {df : Option Addr} {z0 z1 z2 z3 z5 : Option Value} {tB nI iI : String}
variable {prog : Program} {w : World} {hp : Heap} {ge : Array GenState} {dw : Drawn} {tk : Nat} {os : OsState} {named : List (Str × Value)}
theorem fits {M : Model} {A : Around} {E : Value → Shared → Prop} {Q : Unit → Shared → Prop} (B : ExcBaseFacts tB nI iI mrB) (same : ∀ Y : String, mr.contains (.type Y) = mrB.contains (.type Y))
    (oC : hp.get? cA = some (excClassObj cn qn cA nA b0 mr dc sl su abs co df z0 z1 z2 z3 z5 nI)) (fin : Q () ⟨hp, ge, dw, tk, os⟩) : wpAny M A (checkBuiltinCall nI ⟨[.ref cA], named⟩) Q E ⟨hp, ge, dw, tk, os⟩ := by
  have inB : (Value.ref cA :: mr).contains (.type tB) = true := by simp only [List.contains_cons, same, B.hasB, Bool.or_true]
  have star := B.noStar
  simp only [checkBuiltinCall, B.newKind, B.newSplit, B.newRow]
  repeat (first
    | refine wpAny_loadPart_at oC ?_
    | (refine wpAny_isSubtype_exc oC ?_; rw [inB])
    | refine wpAny_staticBase_exc oC ?_
    | refine wpAny_madeBy_exc oC ?_
    | simp only [bne_self_eq_false, Bool.false_eq_true, if_false]
    | wp_step)
  exact fin
theorem lays {A : Around} {R : Result → Shared → Prop} (B : ExcBaseFacts tB nI iI mrB) (same : ∀ Y : String, mr.contains (.type Y) = mrB.contains (.type Y))
    (oC : hp.get? cA = some (excClassObj cn qn cA nA b0 mr dc sl su abs co df z0 z1 z2 z3 z5 nI))
    (fin : R (.ok (.ret (.ref (hp.objs.size + 1)))) ⟨(hp.push (PySem.W.kdv_tup [])).push (excO cA hp.objs.size), ge, dw, tk, os⟩) : codeAny (model prog w) A (.builtin nI ⟨[.ref cA], named⟩) R ⟨hp, ge, dw, tk, os⟩ := by
  have ends := B.ends
  have inB : (Value.ref cA :: mr).contains (.type tB) = true := by simp only [List.contains_cons, same, B.hasB, Bool.or_true]
  have noA : (Value.ref cA :: mr).contains (.type "AttributeError") = false := by simp only [List.contains_cons, same, B.noAttr]; rfl
  have noN : (Value.ref cA :: mr).contains (.type "NameError") = false := by simp only [List.contains_cons, same, B.noName]; rfl
  refine codeAny_builtinAt B.entry ?_
  unfold Builtin.«BaseException.__new__»
  refine PySem.wpAt_bind ?_
  show PySem.wpAt _ _ _ (stack >>= _) _ _ _
  refine PySem.wpAt_bind (PySem.wpAt_stack fun p0 p1 => PySem.wpAt_of_wpAny ?_)
  wp_walk
  refine PySem.wpAt_of_wpAny ?_
  rw [B.owner]
  repeat (first
    | with_reducible refine wpAny_madeHere_exc B.canon oC ?_
    | with_reducible refine wpAny_loadPart_at oC ?_
    | (with_reducible refine wpAny_isSubtype_exc oC ?_; first | rw [inB] | rw [noA] | rw [noN])
    | wp_step)
  show R _ _
  rw [Heap.size_push]
  exact fin
theorem calls {A : Around} {R : Result → Shared → Prop} {iA : Addr} (B : ExcBaseFacts tB nI iI mrB) (same : ∀ Y : String, mr.contains (.type Y) = mrB.contains (.type Y))
    (oC : hp.get? cA = some (excClassObj cn qn cA nA b0 mr dc sl su abs co df z0 z1 z2 z3 z5 nI))
    (at_ : W.Looks (model prog w) hp (typeLookup (.ref cA) "__init__") (some (.ref iA))) (bd : ∀ me, W.Looks (model prog w) hp (bindSpecial (.ref iA) me) (.ref iA, [me]))
    (body : codeAny (model prog w) (A.under (.builtin "type.__call__" ⟨[.ref cA], named⟩)) (.call (.ref iA) ⟨[.ref (hp.objs.size + 1)], named⟩) (W.InitBack (hp.objs.size + 1) R) ⟨(hp.push (PySem.W.kdv_tup [])).push (excO cA hp.objs.size), ge, dw, tk, os⟩) :
    codeAny (model prog w) A (.call (.ref cA) ⟨[], named⟩) R ⟨hp, ge, dw, tk, os⟩ := by
  have look := tc_lookup
  have bind := tc_bind (.ref cA)
  have isT : (⟨hp, ge, dw, tk, os⟩ : Shared).TypeIs (.ref cA) "type" := ⟨_, oC, rfl⟩
  have still : ∀ b o, hp.get? b = some o → ((hp.push (PySem.W.kdv_tup [])).push (excO cA hp.objs.size)).get? b = some o := fun b o q => Heap.get?_push_of_some _ (Heap.get?_push_of_some _ q)
  have oC' := still _ _ oC
  have oE : ((hp.push (PySem.W.kdv_tup [])).push (excO cA hp.objs.size)).get? (hp.objs.size + 1) = some (excO cA hp.objs.size) := by heap_get
  have own : (Value.ref cA :: mr).contains (.ref cA) = true := by simp
  refine codeAny_of_tree ?_
  show wpAny _ _ (callAny (.ref cA) _) _ _ _
  repeat (any_goals (first
    | assumption
    | with_reducible refine wpAny_loadPart_at oC ?_
    | wp_step))
  refine ⟨rfl, codeAny_call_builtin_at (Code.quiet_builtin _ (by decide +kernel)) entry_typeCall (wpAny_check_type_call_sub oC ?_)⟩
  repeat (first
    | with_reducible refine wpAny_loadPart_at oC ?_
    | with_reducible refine wpAny_madeBy_exc oC ?_
    | wp_step)
  refine codeAny_call_builtin_code (Code.quiet_builtin _ B.quiet) (fits B same oC (lays B same oC ?_))
  show wpAny _ _ _ _ _ _
  unfold isInstance
  repeat (first
    | with_reducible refine wpAny_loadPart_at oE ?_
    | (with_reducible refine wpAny_isSubtype_exc oC' ?_; rw [own])
    | wp_step)
  show wpAny _ _ (typeLookup (.ref cA) _) _ _ _
  refine (at_.keeps still).at (wpAny_holding (wpAny_bind (((bd (.ref (hp.objs.size + 1))).keeps still).at (wpAny_bind (wpAny_call (codeAny_mono body fun r s' z => ?_))))))
  cases r with
  | error er => exact z
  | ok fl =>
    cases fl with
    | ret v =>
      obtain ⟨ez, z'⟩ := z
      subst ez
      refine wpAny_pure ?_
      first
        | exact wpAny_pure (wpAny_pure z')
        | (wp_walk; exact z')
    | next => exact False.elim z
    | brk => exact False.elim z
    | cont => exact False.elim z
end
end Kw
end Ex

set_option Elab.async false
set_option linter.all false
set_option maxRecDepth 100000
set_option maxHeartbeats 4000000
namespace Ex
open PySem PySem.Spec PyProof.Rows L2 Rl Dr Tx
/-! ### an own exception as a value -/
/-- C(e, ..) -/
def tOex (C : Addr) (sp : Sp) (ta : TA) : TE := fun σ H Q => ta σ H fun vs H1 => vs.length ≤ 1000 ∧ ∀ a, H1 a = none → sp (.ref a :: vs) (upd H1 a (exo a C none)) (fun v H2 => v = .non ∧ Q (.ref a) H2) E0
section
variable {X : Cx} {C fI : Addr} {k : Nat} {fd : FuncData} {ps ks : List Str} {sp : Sp} {x : Str} {p pos : Pos} {e : Expr} {es : List Expr} {ta tk : TA} {kws : List Keyword}
theorem pe_oex (T : OexC X.K C) (iC : PySem.W.findIn X.K (.ref C) "__init__" = some (some (.ref fI))) (tI : PySem.W.typeIn X.K (.ref fI) = some (.type "function"))
    (F1 : FnOk X.prog X.w X.K X.mg X.base CX0 k fI fd ps sp) (hr : Room (k + 1) X.A) (hb : Binds X.K fd ps []) (hx : Passes CX0 X E0) (hg : Gl X x) (hm : X.mg x = some (.ref C)) (ha : PA X (e :: es) ta)
    (hdb : (x == ("__debug__" : Str)) = false := by decide) (he : starEach (e :: es) X.env = (false, eval e X.env) :: starEach es X.env := by rfl) (hpl : (backTo pos (starEach es X.env)).any (·.1) = false := by rfl) :
    PE X (.Call (.Name x p) (e :: es) [] pos) (tOex C sp ta) := by
  refine ⟨fun pins s σ H Q I h => wpAny_Call_Name_kw (ld_glob I hg hm ?_ hdb)⟩
  obtain ⟨nm, qn, N, bs, bm, sn, sub, ab, col, dd, k0, k1, k2, k3, k5, lC, lM⟩ := T.cls
  refine PySem.W.callWith_K (h₀ := X.base) I.ok.mod.kin T.kC (thn (ha.run pos pins s σ H _ I h) fun us s1 hv => ?_) he hpl
  obtain ⟨vs, H1, I1, r1, nz, go⟩ := hv
  refine ⟨I1.kIn, ?_⟩
  show wpAny _ _ (call (.ref C) us) _ _ _
  obtain ⟨m0, gs, dr, tk0, os⟩ := s1
  have free1 : H1 (m0.objs.size + 1) = none := I1.hok.fresh (Nat.le_succ _)
  have go1 := go _ free1
  have stays : ∀ b o, m0.get? b = some o → ((m0.push (PySem.W.kdv_tup us)).push (PySem.HandSPX.excO C m0.objs.size)).get? b = some o := fun b o q => Heap.get?_push_of_some _ (Heap.get?_push_of_some _ q)
  have made : ((m0.push (PySem.W.kdv_tup us)).push (PySem.HandSPX.excO C m0.objs.size)).get? (m0.objs.size + 1) = some (PySem.HandSPX.excO C m0.objs.size) := by heap_get
  have J : Inv X pins σ (upd H1 (m0.objs.size + 1) (exo (m0.objs.size + 1) C none)) ⟨(m0.push (PySem.W.kdv_tup us)).push (PySem.HandSPX.excO C m0.objs.size), gs, dr, tk0, os⟩ :=
    I1.laid (t' := tk0) (o := exo (m0.objs.size + 1) C none) stays (Nat.le_succ _) (exo_ok made)
  have rv : Vals (V.ref (m0.objs.size + 1) :: vs) (Value.ref (m0.objs.size + 1) :: us) := .cons rfl r1
  have len1 : (Value.ref (m0.objs.size + 1) :: us).length = ps.length := by rw [← rv.length]; exact F1.len _ _ _ _ go1
  have room : us.length ≤ sizeLine := by
    rw [← Paired.length r1]
    exact sz (by omega)
  have hbt := hb ⟨_, gs, dr, tk0, os⟩ (Value.ref (m0.objs.size + 1) :: us) J.kIn (by rw [List.append_nil]; exact len1)
  rw [List.append_nil] at hbt
  have body := F1.run (X.A.under (.builtin "type.__call__" ⟨.ref C :: us, []⟩)) X.stack _ _ ⟨Value.ref (m0.objs.size + 1) :: us, []⟩ _ _ _ E0 (hr.make C us []) (J.env0.make C us []) hbt rv go1
  refine wpAny_call (PySem.HandSPX.call_own F.excBase_ValueError (fun Y => PySem.HandSPX.refsVE_contains Y bm lM) (I1.kIn _ _ lC) (PySem.W.looks_findIn I1.kIn iC) (fun self => PySem.W.bind_fn I1.kIn self tI) room
    (codeAny_mono body fun r s' z => ?_))
  cases r with
  | error er => exact hx pins σ _ _ er s' J z
  | ok fl =>
    cases fl with
    | ret u =>
      obtain ⟨v, H3, J3, rv3, ev, q3⟩ := J.after z
      subst ev
      exact ⟨rv3, .ref _, H3, J3, rfl, q3⟩
    | next => exact False.elim z
    | brk => exact False.elim z
    | cont => exact False.elim z
/-- C(k = v), keywords alone: gV puts the values in the parameters' order -/
def tOexK (C : Addr) (sp : Sp) (gV : List V → List V → List V) (tk : TA) : TE := fun σ H Q => tk σ H fun zs H1 => ∀ a, H1 a = none → sp (gV [.ref a] zs) (upd H1 a (exo a C none)) (fun v H2 => v = .non ∧ Q (.ref a) H2) E0
theorem pe_oexK {g : List Value → List Value → List Value} {gV : List V → List V → List V} (T : OexC X.K C) (iC : PySem.W.findIn X.K (.ref C) "__init__" = some (some (.ref fI))) (tI : PySem.W.typeIn X.K (.ref fI) = some (.type "function"))
    (F1 : FnOk X.prog X.w X.K X.mg X.base CX0 k fI fd ps sp) (hr : Room (k + 1) X.A) (hb : KBinds X.K fd ps ks g gV) (hx : Passes CX0 X E0) (hg : Gl X x) (hm : X.mg x = some (.ref C)) (hkw : PK X kws tk)
    (hall : (backToKw pos (keywordEach kws X.env)).all (·.1.isSome) = true := by rfl) (hks : (backToKw pos (keywordEach kws X.env)).filterMap (·.1) = ks := by rfl) (hdb : (x == ("__debug__" : Str)) = false := by decide)
    (hpl : ((backTo pos (starEach [] X.env)).any (·.1) || (backToKw pos (keywordEach kws X.env)).any (·.1.isNone)) = false := by rfl) :
    PE X (.Call (.Name x p) [] kws pos) (tOexK C sp gV tk) := by
  refine ⟨fun pins s σ H Q I h => wpAny_Call_Name_kw (ld_glob I hg hm ?_ hdb)⟩
  obtain ⟨nm, qn, N, bs, bm, sn, sub, ab, col, dd, k0, k1, k2, k3, k5, lC, lM⟩ := T.cls
  refine PySem.W.callWith_KW0 (h₀ := X.base) I.ok.mod.kin T.kC hall (thn (hkw.run pos pins s σ H _ I h) fun ws s1 hv => ?_) hpl
  obtain ⟨zs, H1, I1, r1, go⟩ := hv
  refine ⟨I1.kIn, ?_⟩
  rw [hks]
  show wpAny _ _ (call (.ref C) [] (ks.zip ws)) _ _ _
  obtain ⟨m0, gs, dr, tk0, os⟩ := s1
  have free1 : H1 (m0.objs.size + 1) = none := I1.hok.fresh (Nat.le_succ _)
  have go1 := go _ free1
  have stays : ∀ b o, m0.get? b = some o → ((m0.push (PySem.W.kdv_tup [])).push (PySem.HandSPX.excO C m0.objs.size)).get? b = some o := fun b o q => Heap.get?_push_of_some _ (Heap.get?_push_of_some _ q)
  have made : ((m0.push (PySem.W.kdv_tup [])).push (PySem.HandSPX.excO C m0.objs.size)).get? (m0.objs.size + 1) = some (PySem.HandSPX.excO C m0.objs.size) := by heap_get
  have J : Inv X pins σ (upd H1 (m0.objs.size + 1) (exo (m0.objs.size + 1) C none)) ⟨(m0.push (PySem.W.kdv_tup [])).push (PySem.HandSPX.excO C m0.objs.size), gs, dr, tk0, os⟩ :=
    I1.laid (t' := tk0) (o := exo (m0.objs.size + 1) C none) stays (Nat.le_succ _) (exo_ok made)
  have rself : Vals [V.ref (m0.objs.size + 1)] [Value.ref (m0.objs.size + 1)] := .cons rfl .nil
  have rv := hb.rel rself r1
  have len1 : (g [Value.ref (m0.objs.size + 1)] ws).length = ps.length := by rw [← rv.length]; exact F1.len _ _ _ _ go1
  have hbt := hb.to ⟨_, gs, dr, tk0, os⟩ [Value.ref (m0.objs.size + 1)] ws J.kIn len1
  have body := F1.run (X.A.under (.builtin "type.__call__" ⟨[.ref C], ks.zip ws⟩)) X.stack _ _ ⟨[Value.ref (m0.objs.size + 1)], ks.zip ws⟩ _ _ _ E0 (hr.make C [] (ks.zip ws)) (J.env0.make C [] (ks.zip ws)) hbt rv go1
  refine wpAny_call (Kw.calls F.excBase_ValueError (fun Y => PySem.HandSPX.refsVE_contains Y bm lM) (I1.kIn _ _ lC) (PySem.W.looks_findIn I1.kIn iC) (fun self => PySem.W.bind_fn I1.kIn self tI)
    (codeAny_mono body fun r s' z => ?_))
  cases r with
  | error er => exact hx pins σ _ _ er s' J z
  | ok fl =>
    cases fl with
    | ret u =>
      obtain ⟨v, H3, J3, rv3, ev, q3⟩ := J.after z
      subst ev
      exact ⟨rv3, .ref _, H3, J3, rfl, q3⟩
    | next => exact False.elim z
    | brk => exact False.elim z
    | cont => exact False.elim z
/-- C() of an own exception class without an own __init__ -/
theorem pe_exc0 {bmB : List Value} {B newId initId : String} (F : ExcBaseFacts B newId initId bmB) (q : PySem.W.excIn X.K C bmB newId = true) (gC : X.mg x = some (.ref C)) (kC : PySem.W.keepIn X.K (.ref C) = true) (hg : Gl X x)
    (hdb : (x == ("__debug__" : Str)) = false := by decide) :
    PE X (.Call (.Name x p) [] [] pos) (fun _ H Q => ∀ a, H a = none → Q (.ref a) (upd H a (ExO (.ref C) a))) := by
  refine ⟨fun pins s σ H Q I h => wpAny_Call_Name_kw (ld_glob I hg gC ?_ hdb)⟩
  refine PySem.W.callWith_K0 I.kIn kC ?_
  show wpAny _ _ (call (.ref C) []) _ _ _
  obtain ⟨bm, N, nm, qn, bs, hdct, sn, sub, ab, col, dd, k0, k1, k2, k3, k5, mN, hC, hN, hni, T⟩ := exc_obj I.kIn q
  refine wpAny_call_exc_subT F T hC hN hni (fun h' a hm => ?_) (Nat.zero_le _)
  have gone : H a = none := I.hok.gone hm.new
  obtain ⟨t0, ht, _, _⟩ := hm.there
  exact ⟨.ref a, upd H a (ExO (.ref C) a), I.laidN hm.keeps hm.new gone (exO_ok ht ⟨rfl, rfl⟩ rfl rfl rfl (show 4 < 6 by decide)), rfl, h a gone⟩
/-- e.f of such an exception -/
def tOfl (K : PySem.W.Frag) (f : Str) (te : TE) : TE := fun σ H Q => te σ H fun x H1 => ∃ (a C d : Addr) (fs : List (Str × V)) (v : V), x = .ref a ∧ XfC K C ∧ PySem.W.findIn K (.ref C) f = some none ∧ H1 a = some (exo a C (some d)) ∧ H1 d = some (exd d fs) ∧ fs.lookup f = some v ∧ Q v H1
theorem pe_ofl {te : TE} {n : Str} (he : PE X e te) (hb : attributeBase e n X.env (eval e X.env) = eval e X.env := by rfl) : PE X (.Attribute e n pos) (tOfl X.K n te) := by
  refine ⟨fun pins s σ H Q I h => attr_of hb (thn (he.run pins s σ H _ I h) fun u s1 hh => ?_)⟩
  obtain ⟨x, H1, I1, rx, a, C, d, fs, v, ex, T, hno, ea, ed, l, q⟩ := hh
  subst ex
  obtain rfl : u = Value.ref a := rx
  obtain ⟨t1, ho⟩ := exo_at I1.hok ea
  obtain ⟨mA, hns, hr⟩ := exd_at I1.hok ed
  obtain ⟨od, hd, hl⟩ := lookIn_ns hns
  obtain ⟨u, hu, ru⟩ := RelO.some_of (v := v) (o := mA n) (by rw [← l]; exact hr n)
  have J : PySem.W.InstAt s1.heap a { cls := .ref C, dict := some d, data := .fields #[.ref t1, .none, .none, .none, .bool false, .none] } C (some od) := ⟨ho, rfl, rfl, hd⟩
  exact HandSPX.exc_get I1.kIn J T.ga T.gg T.exC (PySem.W.findObj_own T.hdC hno rfl (by rw [hl, hu])) (handed_of ru) ⟨v, H1, I1.tok _, ru, q⟩
end
/-! ### isinstance of such an exception -/
section
open PySem.W PySem.Calls
variable {prog : Program} {w : World} {A : Around} {E : Value → Shared → Prop} {K : PySem.W.Frag} {x D : Addr} {ox : Obj} {od : Option Obj}
theorem found_class (C : ExcC K D) : findObj K D od "__class__" = some (.bind (.builtin "getset_descriptor.__get__") (.builtin "object.__class__")) := by
  obtain ⟨cd, hc, _⟩ := any_some C.hd
  unfold findObj
  rw [hc, Option.bind_some, C.ha, Option.bind_some]
  simp [C.hn, C.ht]
theorem class_of {s : Shared} {Q : Option Value → Shared → Prop} (C : ExcC K D) (X : K.In s.heap) (I : InstAt s.heap x ox D od) (fin : Q (some (.ref D)) { s with toks := s.toks + 1 }) : wpAny (model prog w) A (getAttr? (.ref x) "__class__") Q E s := by
  obtain ⟨hp, ge, dw, tk, os⟩ := s
  have tyL := I.type (M := model prog w)
  have gaL := looks_findIn (M := model prog w) X C.hg
  have gtL := looks_findIn (M := model prog w) X C.hk
  have foL := looks_find (M := model prog w) X I (found_class C)
  have suL : Looks (model prog w) hp (isInstance (.ref x) (.type "BaseException")) true := tyL.andThen (looks_subIn X C.hs)
  have other : (Value.builtin "BaseException.__getattribute__" == Value.builtin "object.__getattribute__") = false := by decide +kernel
  have c1 : (onTheHeap (Value.ref D) && Value.builtin "BaseException.__getattribute__" == Value.builtin "object.__getattribute__") = false := by
    rw [other]
    rfl
  have c2 : (false && onTheHeap (Value.builtin "BaseException.__getattribute__")) = false := rfl
  unfold getAttr? getAttrBy? getAttrBy
  refine wpAny_bind (wpAny_mkText (wpAny_bind (wpAny_attempt (wpAny_holding (wpAny_bind (tyL.at (wpAny_bind (gaL.at ?_))))))))
  refine (show wpAny _ _ (if (onTheHeap (Value.ref D) && Value.builtin "BaseException.__getattribute__" == Value.builtin "object.__getattribute__") = true then _ else _) _ _ _ from ?_)
  rw [c1, if_neg Bool.false_ne_true]
  unfold getAttrByItsOwn hookBefore
  refine wpAny_bind ?_
  rw [if_pos (show onTheHeap (Value.ref D) = true from rfl)]
  refine gtL.at (wpAny_bind (wpAny_attempt (wpAny_holding ?_)))
  unfold callGetattribute
  rw [c2, if_neg Bool.false_ne_true]
  unfold boundAndCalled
  rw [PySem.F.excAttr_ValueError.ga.bind (.ref x)]
  refine wpAny_bind (wpAny_pure ?_)
  refine (show wpAny _ _ (call (.builtin "BaseException.__getattribute__") [.ref x, .str "__class__" tk]) _ _ _ from wpAny_call (codeAny_call_builtin PySem.F.excAttr_ValueError.ga.plain PySem.F.entry_bexc_ga ?_))
  refine @check_slot (model prog w) _ _ ⟨hp, ge, dw, tk + 1, os⟩ "BaseException.__getattribute__" "BaseException" "__getattribute__" (.ref x) [.str "__class__" tk] [] _ (by decide +kernel) (by decide +kernel) suL
    (PySem.F.args_bexc_ga (.ref x) (.str "__class__" tk)) ?_
  unfold Builtin.«object.__getattribute__»
  refine wpAny_bind (wpAny_of_eq (a := ((Value.ref x : Value), [Value.str "__class__" tk])) rfl (wpAny_bind (wpAny_pure (wpAny_bind (tyL.at (wpAny_bind (foL.at ?_)))))))
  refine (show wpAny _ _ (holding [Value.builtin "object.__class__"] (call (.builtin "getset_descriptor.__get__") [.builtin "object.__class__", .ref x, .ref D]) >>= ret) _ _ _ from ?_)
  refine wpAny_bind (wpAny_holding (wpAny_call (class_get (s := ⟨hp, ge, dw, tk + 1, os⟩) (ox := ox) (od := od) X I C.hm (wpAny_pure ?_))))
  refine (show wpAny _ _ (handedOut (.ref D)) _ _ _ from ?_)
  rw [handedOut_of (v := .ref D) rfl]
  first
    | exact wpAny_pure (wpAny_pure fin)
    | exact wpAny_pure fin
    | exact wpAny_pure (wpAny_bind (wpAny_pure (wpAny_pure fin)))
theorem kit_own (C : ExcC K D) : KitX K (.ref x) (.ref D) (fun h => InstAt h x ox D od) where
  ty := fun _ _ _ I => I.type
  it := fun _ _ X _ => by
    obtain ⟨cdD, hcD, _⟩ := any_some C.hd
    unfold clsIn at hcD
    split at hcD
    · rename_i lD
      intro A' Q' E' s' k q
      unfold isType loadHead
      exact wpAny_bind (wpAny_loadPart (k _ _ (X _ _ lD)) (wpAny_pure q))
    · cases hcD
  ne := fun h tp dd its n sl X htp => Bool.eq_false_iff.mpr fun q => by
    obtain ⟨cdD, hcD, _⟩ := any_some C.hd
    have e : D = tp := Value.ref.inj (beq_iff_eq.mp q)
    unfold clsIn at hcD
    split at hcD
    · rename_i lD
      have z := X _ _ lD
      rw [e, htp] at z
      cases z
    · cases hcD
  ca := fun X I k => class_of C X I k
end
/-- what stands at a is an exception of the class at C -/
def IsEx (H : Hp) (a C : Addr) : Prop := (∃ d fs, H a = some (exo a C (some d)) ∧ H d = some (exd d fs)) ∨ H a = some (ExO (.ref C) a)
def rIsx (K : PySem.W.Frag) : List V → Hp → VK → Prop := fun xs H Q => ∃ (a C : Addr) (c : V) (u : Value) (b : Bool), xs = [.ref a, c] ∧ ClsV c u ∧ ExcC K C ∧ IsEx H a C ∧ PySem.W.kitOne K (.ref C) u = some b ∧ Q (.bl b) H
theorem call_isx {X : Cx} : CallR X (.builtin "isinstance") (rIsx X.K) := by
  intro pins s σ H xs us Q I r h
  obtain ⟨a, C, c, u, b, rfl, k, T, hx, e, q⟩ := h
  obtain ⟨u1, u2, rfl, r1, r2⟩ := vals2 r
  have e2 := k.eq r2
  subst e2
  cases (show u1 = Value.ref a from r1)
  rcases hx with ⟨d, fs, ea, ed⟩ | ea
  · obtain ⟨t1, ho⟩ := exo_at I.hok ea
    obtain ⟨mA, hns, _⟩ := exd_at I.hok ed
    obtain ⟨od, hd, _⟩ := lookIn_ns hns
    exact PySem.W.kia_one (kit_own (od := some od) T) I.kIn ⟨ho, rfl, rfl, hd⟩ e (fun z => nomatch z) fun tk => ⟨.bl b, H, I.tok tk, rfl, q⟩
  · obtain ⟨⟨oe, vs, ho, hz, hd, _⟩, _, _⟩ := (show ObjOk X.prog X.w H s.heap a (ExO (.ref C) a) from I.hok a _ ea)
    exact PySem.W.kia_one (kit_own (od := none) T) I.kIn ⟨ho, hz.1, by unfold PySem.W.notCls; rw [hd] <;> rfl, by rw [hz.2]; trivial⟩ e (fun z => nomatch z) fun tk => ⟨.bl b, H, I.tok tk, rfl, q⟩
end Ex

set_option Elab.async false
set_option linter.all false
set_option maxRecDepth 100000
set_option maxHeartbeats 4000000
namespace Er
open PySem PySem.Spec PyProof.Rows L2 Rl Dr Tx Ex
/-! ### the package's error classes: each under the root, the root under ValueError -/
structure RootE (K : PySem.W.Frag) (mg : Str → Option Value) (name : Str) where
  C : Addr
  g : mg name = some (.ref C)
  isC : (PySem.W.clsIn K C).isSome = true
  tyC : PySem.W.typeIn K (.ref C) = some (.type "type")
/-- what is asked of the written part once -/
structure ObjCl (K : PySem.W.Frag) : Prop where
  hn : PySem.W.specialIn K (.builtin "object.__class__") "__get__" = some (some (.builtin "getset_descriptor.__get__"))
  ht : PySem.W.takesIn K (.builtin "object.__class__") = some true
structure ErrB (K : PySem.W.Frag) (mg : Str → Option Value) (name : Str) (R : Addr) where
  C : Addr
  obj : ∃ nm q N bs sn sub ab col dd k0 k1 k2 k3 k5, K.lookup C = some (excClassObj nm q C N bs (.ref R :: PySem.HandSPX.veTail) true sn sub ab col dd k0 k1 k2 k3 k5 "ValueError.__new__")
  g : mg name = some (.ref C)
  kC : PySem.W.keepIn K (.ref C) = true
  sa : PySem.W.findIn K (.ref C) "__setattr__" = some (some (.builtin "object.__setattr__"))
  ga : PySem.W.findIn K (.ref C) "__getattribute__" = some (some (.builtin "BaseException.__getattribute__"))
  gg : PySem.W.findIn K (.ref C) "__getattr__" = some none
  exC : PySem.W.subIn K (.ref C) (.type "BaseException") = some true
  tyC : PySem.W.typeIn K (.ref C) = some (.type "type")
  hd : PySem.W.hasDictIn K C = true
  ha : PySem.W.findIn K (.ref C) "__class__" = some (some (.builtin "object.__class__"))
  hm : PySem.W.mroIn K C (.type "object") = some true
structure ErrF (K : PySem.W.Frag) (mg : Str → Option Value) (name qual fld : Str) (st : Stmt) (R : Addr) extends ErrB K mg name R where
  f : Addr
  fd : FuncData
  F : Fun K "__init__" qual st f fd
  b : Binds K fd ["self", fld] []
  iC : PySem.W.findIn K (.ref C) "__init__" = some (some (.ref f))
  tI : PySem.W.typeIn K (.ref f) = some (.type "function")
  no : PySem.W.findIn K (.ref C) fld = some none
structure ErrN (K : PySem.W.Frag) (mg : Str → Option Value) (name : Str) (R : Addr) extends ErrB K mg name R where
  q : PySem.W.excIn K C PySem.HandSPX.veTail "ValueError.__new__" = true
section
variable {K : PySem.W.Frag} {mg : Str → Option Value} {name qual fld : Str} {st : Stmt} {R : Addr}
theorem ErrB.oex (E : ErrB K mg name R) : OexC K E.C := by
  obtain ⟨nm, q, N, bs, sn, sub, ab, col, dd, k0, k1, k2, k3, k5, h⟩ := E.obj
  exact ⟨⟨nm, q, N, bs, _, sn, sub, ab, col, dd, k0, k1, k2, k3, k5, h, by show PySem.HandSPX.refsVE PySem.HandSPX.veTail = true; decide +kernel⟩, E.sa, E.exC, E.tyC, E.kC⟩
theorem ErrB.xf (E : ErrB K mg name R) : XfC K E.C := ⟨E.ga, E.gg, E.exC, E.hd⟩
theorem ErrB.ec (E : ErrB K mg name R) (O : ObjCl K) : ExcC K E.C := ⟨E.ga, E.gg, E.exC, E.hd, E.ha, O.hn, O.ht, E.hm⟩
theorem ErrB.isC (E : ErrB K mg name R) : (PySem.W.clsIn K E.C).isSome = true := by
  obtain ⟨nm, q, N, bs, sn, sub, ab, col, dd, k0, k1, k2, k3, k5, h⟩ := E.obj
  unfold PySem.W.clsIn
  rw [h]
  rfl
theorem ErrB.mro (E : ErrB K mg name R) (v : Value) : PySem.W.subIn K (.ref E.C) v = some ((Value.ref E.C :: Value.ref R :: PySem.HandSPX.veTail).contains v) := by
  obtain ⟨nm, q, N, bs, sn, sub, ab, col, dd, k0, k1, k2, k3, k5, h⟩ := E.obj
  show PySem.W.mroIn K E.C v = _
  unfold PySem.W.mroIn PySem.W.clsIn
  rw [h]
  rfl
theorem ErrB.kit (E : ErrB K mg name R) {D : Addr} (h1 : (PySem.W.clsIn K D).isSome = true) (h2 : PySem.W.typeIn K (.ref D) = some (.type "type")) : PySem.W.kitOne K (.ref E.C) (.ref D) = some (decide (D = E.C) || decide (D = R)) := by
  unfold PySem.W.kitOne
  by_cases e : E.C = D
  · rw [e, if_pos (by simp), decide_eq_true rfl, Bool.true_or]
  · rw [if_neg (by simpa using e)]
    show (if ((PySem.W.clsIn K D).isSome && PySem.W.typeIn K (.ref D) == some (.type "type")) = true then PySem.W.subIn K (.ref E.C) (.ref D) else none) = _
    rw [h1, h2, if_pos (by rfl), E.mro]
    congr 1
    simp only [List.contains_cons]
    have e1 : ((Value.ref D == Value.ref E.C) : Bool) = decide (D = E.C) := by
      rw [Bool.eq_iff_iff]
      simp
    have e2 : ((Value.ref D == Value.ref R) : Bool) = decide (D = R) := by
      rw [Bool.eq_iff_iff]
      simp
    have e3 : ∀ z : String, (Value.ref D == Value.type z) = false := fun z => beq_eq_false_iff_ne.mpr fun q => nomatch q
    rw [e1, e2, e3, e3, e3, e3]
    simp
theorem ErrB.kitV (E : ErrB K mg name R) : PySem.W.kitOne K (.ref E.C) (.type "ValueError") = some true := by
  unfold PySem.W.kitOne
  rw [if_neg (by simp)]
  show (if PySem.W.kitMeta "ValueError" = true then PySem.W.subIn K (.ref E.C) (.type "ValueError") else none) = _
  rw [if_pos (by decide +kernel), E.mro]
  simp
def kb2 {α : Type} : List α → List α → List α
  | [u], [w] => [u, w]
  | _, _ => []
theorem ErrF.kb (E : ErrF K mg name qual fld st R) (h : ∀ (kV doc pm : Value) (an : Option Addr) (cdv ct u w : Value), bindArgs (PySem.W.fnOf "__init__" qual (defArgs st) (defBody st) (defScope st) .none kV doc pm an cdv ct) ⟨[u], [(fld, w)]⟩ = pure ([("self", u), (fld, w)] : List (Str × Value))) :
    KBinds K E.fd ["self", fld] [fld] kb2 kb2 := by
  refine kbinds E.F (fun kV doc pm an cdv ct us ws hl => ?_) (fun {vs us zs ws} r1 r2 => ?_)
  · unfold kb2 at hl ⊢
    split at hl
    · exact h ..
    · cases hl
  · have e1 := r1.length
    have e2 := r2.length
    by_cases hu : vs.length = 1 ∧ zs.length = 1
    · obtain ⟨h1, h2⟩ := hu
      match vs, us, zs, ws, r1, r2, h1, h2 with
      | [_], [_], [_], [_], .cons p .nil, .cons q .nil, _, _ => exact .cons p (.cons q .nil)
    · have a1 : kb2 vs zs = [] := by
        unfold kb2
        split
        · exact absurd ⟨rfl, rfl⟩ hu
        · rfl
      have a2 : kb2 us ws = [] := by
        unfold kb2
        split
        · exact absurd ⟨e1, e2⟩ hu
        · rfl
      rw [a1, a2]
      exact .nil
end
/-- __init__ of such a class -/
def spInit (C : Addr) (fld : Str) : Sp := fun vs H Q _ => ∃ (a : Addr) (v : V), vs = [.ref a, v] ∧ H a = some (exo a C none) ∧
  ∀ (H' : Hp) (d : Addr), (∀ b o, H b = some o → b ≠ a → H' b = some o) → H' a = some (exo a C (some d)) → H' d = some (exd d [(fld, v)]) → Q .non H'
theorem init_read {K : PySem.W.Frag} {mg : Str → Option Value} {name qual fld : Str} {st : Stmt} {R : Addr} (E : ErrF K mg name qual fld st R) {vs : List V} {H : Hp} {Q : VK} {X : XK} (h : spInit E.C fld vs H Q X) :
    tOst K fld (tVar 0) (tVar 1) { nx := fun _ H' => Q .non H', rt := Q } (start ["self", fld] vs) H := by
  obtain ⟨a, v, rfl, ha, k⟩ := h
  refine ⟨v, rfl, .ref a, rfl, a, E.C, rfl, E.oex, E.no, .inl ⟨ha, fun dx nd ne => ?_⟩⟩
  refine k _ dx (fun b o hb hne => ?_) upd_same ?_
  · rw [upd_ne hne, upd_ne (ne_of_none hb nd)]
    exact hb
  · rw [upd_ne ne, upd_same]
end Er

set_option Elab.async false
set_option linter.all false
set_option maxRecDepth 100000
set_option maxHeartbeats 2000000
namespace So
open PySem PySem.Spec PyProof.Rows L2 Rl Dr Tx
open PySem.W (EachIs AllAlike Sortable dataLe)
/-! ### sorted of a list of data -/
/-- the items in the order of the data that they stand for -/
def sortD (xs : List V) (ds : List PyData) : List V := ((xs.zip ds).mergeSort (dataLe false fun p : V × PyData => p.2)).map (·.1)
theorem sortD_perm {xs : List V} {ds : List PyData} (h : xs.length = ds.length) : (sortD xs ds).Perm xs := by
  unfold sortD
  have e : (xs.zip ds).map (·.1) = xs := List.map_fst_zip (Nat.le_of_eq h)
  have p := (List.mergeSort_perm (xs.zip ds) (dataLe false fun p : V × PyData => p.2)).map (·.1)
  rw [e] at p
  exact p
theorem dpAll_length {K : PySem.W.Frag} {H : Hp} : ∀ {xs : List V} {ds : List PyData}, DpAll K H xs ds → xs.length = ds.length
  | _, _, .nil => rfl
  | _, _, .cons _ t => congrArg (· + 1) (dpAll_length t)
theorem each_rel {K : PySem.W.Frag} {H : Hp} : ∀ {xs : List V} {ds : List PyData} {us : List Value}, DpAll K H xs ds → Vals xs us → EachIs (fun (v : Value) (p : V × PyData) => RelV p.1 v) us (xs.zip ds)
  | _, _, _, .nil, .nil => .nil
  | _, _, _, .cons _ t, .cons r s => .cons r (each_rel t s)
theorem each_reads {X : Cx} {pins : List (Addr × Obj)} {σ : L2.St} {H : Hp} {s : Shared} (I : Inv X pins σ H s) : ∀ {xs : List V} {ds : List PyData} {us : List Value}, DpAll X.K H xs ds → Vals xs us → EachIs (fun (v : Value) (p : V × PyData) => ∃ as, Reads s.heap v p.2 as) us (xs.zip ds)
  | _, _, _, .nil, .nil => .nil
  | _, _, _, .cons h t, .cons r q => .cons (Dp.reads I _ _ _ h r) (each_reads I t q)
theorem vals_each : ∀ {us : List Value} {ps : List (V × PyData)}, EachIs (fun (v : Value) (p : V × PyData) => RelV p.1 v) us ps → Vals (ps.map (·.1)) us
  | _, _, .nil => .nil
  | _, _, .cons r t => .cons r (vals_each t)
def rSortL (K : PySem.W.Frag) : List V → Hp → VK → Prop := fun vs H Q => ∃ (a : Addr) (xs : List V) (ds : List PyData), vs = [.ref a] ∧ SqL K H a xs ∧ DpAll K H xs ds ∧ AllAlike ds ∧ Sortable ds ∧ (∀ d ∈ ds, d.depth ≤ 32) ∧
  ∀ p, H p = none → Q (.ref p) (upd H p (.lst (sortD xs ds)))
theorem cr_sortL {X : Cx} (hu : X.A.units + 64 < cLine) : CallR X (.builtin "sorted") (rSortL X.K) := by
  intro pins s σ H vs us Q I r h
  obtain ⟨a, xs, ds, rfl, hs, hd, hal, hso, hdep, q⟩ := h
  obtain ⟨its, rv, hl, hz⟩ := I.list hs
  rw [Vals.ref1 r]
  have len := dpAll_length hd
  have ez : (xs.zip ds).map (·.2) = ds := List.map_snd_zip (Nat.le_of_eq len.symm)
  refine PySem.W.sorted_data (R := fun v p => RelV p.1 v) (enc := fun p : V × PyData => p.2) hl.isList (each_rel hd rv) (each_reads I hd rv) (by rw [ez]; exact hal) (by rw [ez]; exact hso) ?_ (fun b hb => ?_) fun out ho hr => ?_
  · rw [List.length_zip]
    exact Nat.le_trans (Nat.min_le_left _ _) hz
  · have hm : b.2 ∈ ds := by
      rw [← ez]
      exact List.mem_map.mpr ⟨b, hb, rfl⟩
    have := hdep _ hm
    omega
  · obtain ⟨ep, he'⟩ := PyProof.Rows.sortedAll_at s.heap its out.toArray
    have rel : Vals (sortD xs ds) out := vals_each hr
    refine ⟨.ref (s.heap.objs.size + 1), upd H (s.heap.objs.size + 1) (.lst (sortD xs ds)), I.laid (t' := s.toks) (fun _ _ => PyProof.Rows.sortedAll_old) (Nat.le_succ _) ⟨?_, out, ep, rel, he'⟩, rfl, q _ (I.hok.fresh (Nat.le_succ _))⟩
    rw [(sortD_perm len).length_eq]
    exact hz
/-! ### sorted of a tuple of data -/
def gH (h : Heap) (vs : List Value) : Heap := (h.push (seqObj "list" #[] 0)).update h.objs.size (Obj.mapSeq (· ++ vs.toArray))
open PySem.W in
theorem gather {P : Program} {w : World} {A : Around} {E : Value → Shared → Prop} {s : Shared} {l : Addr} {o : Obj} {vs : List Value} {n : Nat} {Q : List Value → Shared → Prop} (ho : s.heap.get? l = some o) (hc : o.cls = .type "tuple") (hd : o.data = .seq vs.toArray n) (hz : vs.length ≤ sizeLine)
    (h : Q vs { s with heap := gH s.heap vs }) : wpAny (model P w) A (collect (.ref l)) Q E s := by
  unfold collect
  refine wpAny_bind <| wpAny_runValue <| codeAny_builtin entry_proto_collect' ?_
  show wpAny _ _ (newList [] >>= fun x => again (.builtin "list.__iadd__" ⟨[x, .ref l], []⟩)) _ _ s
  refine wpAny_bind <| wpAny_newList <| wpAny_pure ⟨Code.quiet_builtin _ (by decide +kernel), codeAny_builtin entry_list_iadd' ?_⟩
  show wpAny _ _ (Builtin.List.listExtendWith (.ref s.heap.objs.size) (.ref l) (.ref s.heap.objs.size)) _ _ ({ s with heap := s.heap.push (seqObj "list" #[] 0) } : Shared)
  unfold Builtin.List.listExtendWith
  have old : (s.heap.push (seqObj "list" #[] 0)).get? l = some o := Heap.get?_push_of_some _ ho
  have new : (s.heap.push (seqObj "list" #[] 0)).get? s.heap.objs.size = some (seqObj "list" #[] 0) := Heap.get?_push_size _ rfl
  refine wpAny_bind <| wpAny_typeOf (T := "tuple") ⟨o, old, hc⟩ ?_
  have yes : (Value.type "tuple" == Value.type "tuple") = true := by decide +kernel
  rw [if_pos (by rw [yes, Bool.or_true])]
  refine wpAny_bind <| listItems_at old hd ?_
  refine wpAny_bind <| listItems_at (xs := #[]) (n := 0) new rfl ?_
  rw [if_neg (by simp)]
  have small : (#[] ++ vs.toArray : Array Value).size ≤ sizeLine + 1 := by
    simp only [Array.size_append, List.size_toArray, List.length_nil]
    omega
  refine wpAny_bind <| listUpdate_at (xs := #[]) (n := 0) new rfl ?_ (Nat.zero_le _) small
  refine wpAny_pure ?_
  dsimp only
  refine wpAny_bind <| wpAny_load (get?_update_seq new _) ?_
  show wpAny _ _ (pure ((#[] : Array Value) ++ vs.toArray).toList) Q E _
  rw [show ((#[] : Array Value) ++ vs.toArray).toList = vs by simp]
  exact wpAny_pure h
theorem gH_size (h : Heap) (vs : List Value) : (gH h vs).objs.size = h.objs.size + 1 := by
  unfold gH
  rw [Heap.size_update, Heap.size_push]
section
open PySem.W
variable {P : Program} {w : World} {A : Around} {E : Value → Shared → Prop} {s : Shared}
theorem sorted_gathered {l : Addr} {o : Obj} {vs : List Value} {n : Nat} {Q : Value → Shared → Prop} (ho : s.heap.get? l = some o) (hc : o.cls = .type "tuple") (hd : o.data = .seq vs.toArray n) (hz : vs.length ≤ sizeLine)
    (inner : ∀ E' : Value → Shared → Prop, wpAny (model P w) A.in1.in1 (Builtin.«list.sort» ⟨[.ref (s.heap.objs.size + 1)], []⟩)
      (fun f s' => f = .done (.ret .none) ∧ Q (.ref (s.heap.objs.size + 1)) s') E' { s with heap := copyHeap s.heap vs }) :
    wpAny (model P w) A (call (.builtin "sorted") [.ref l]) Q E s := by
  refine call_function_entry_kw kind_sorted plain_sorted entry_sorted (args_sorted1 _) ?_
  unfold Builtin.«sorted»
  refine wpAny_bind (m := checkCount "sorted" 1 1 _) <| wpAny_pure ?_
  refine wpAny_bind <| gather ho hc hd hz ?_
  refine wpAny_bind <| wpAny_newList ?_ hz
  have e : (gH s.heap vs).objs.size = s.heap.objs.size + 1 := gH_size _ _
  show wpAny _ _ _ _ _ ({ s with heap := copyHeap s.heap vs } : Shared)
  rw [e]
  refine wpAny_bind <| wpAny_holding <| wpAny_call_entry_kw slot_list_sort ⟨_, copyHeap_at s.heap vs, rfl⟩ entry_list_sort ?_ (args_list_sort _)
  show wpAny (model P w) A.in1.in1 (Builtin.«list.sort» ⟨[.ref (s.heap.objs.size + 1)], []⟩) _ _ _
  refine wpAny_mono (inner _) (fun f s' hf => ?_) fun _ _ z => z
  obtain ⟨rfl, hq⟩ := hf
  exact ⟨_, rfl, wpAny_pure ⟨_, rfl, hq⟩⟩
end
def rSortT (K : PySem.W.Frag) : List V → Hp → VK → Prop := fun vs H Q => ∃ (a : Addr) (xs : List V) (ds : List PyData), vs = [.ref a] ∧ SqT K H a xs ∧ DpAll K H xs ds ∧ AllAlike ds ∧ Sortable ds ∧ (∀ d ∈ ds, d.depth ≤ 32) ∧
  ∀ p, H p = none → Q (.ref p) (upd H p (.lst (sortD xs ds)))
theorem cr_sortT {X : Cx} (hu : X.A.units + 64 < cLine) : CallR X (.builtin "sorted") (rSortT X.K) := by
  intro pins s σ H vs us Q I r h
  obtain ⟨a, xs, ds, rfl, hs, hd, hal, hso, hdep, q⟩ := h
  obtain ⟨its, rv, hl, hz⟩ := I.tuple hs
  rw [Vals.ref1 r]
  have len := dpAll_length hd
  have ez : (xs.zip ds).map (·.2) = ds := List.map_snd_zip (Nat.le_of_eq len.symm)
  have hlen := rv.length
  obtain ⟨o, ho, hc, n, hdat⟩ := hl
  have er := each_reads I hd rv
  have er' : EachIs (fun (v : Value) (p : V × PyData) => ∃ as, Reads (PySem.W.sortingHeap (PySem.W.copyHeap s.heap its) (s.heap.objs.size + 1) its) v p.2 as) its (xs.zip ds) :=
    er.mono fun _ _ ⟨as, x⟩ => ⟨as, PyProof.Rows.Reads.keeps (fun _ _ => PySem.W.sorting_copy_old) x⟩
  refine sorted_gathered ho hc hdat (by omega) fun E' => PySem.W.list_sort_vals (κ := _) (PySem.W.copyHeap_at s.heap its)
    (PySem.W.SortsAt.data (PySem.W.each_map (R := fun v d => ∃ as, Reads (PySem.W.sortingHeap (PySem.W.copyHeap s.heap its) (s.heap.objs.size + 1) its) v d as) (fun p : V × PyData => p.2) er') (by rw [ez]; exact hal) (by rw [ez]; exact hso) (PySem.W.bound_map fun b hb => ?_)) (by omega) ⟨rfl, ?_⟩
  · have hm : b.2 ∈ ds := by
      rw [← ez]
      exact List.mem_map.mpr ⟨b, hb, rfl⟩
    have := hdep _ hm
    show X.A.units + 2 + b.2.depth < cLine
    omega
  · have vz := PySem.W.sortVals_data (R := fun (v : Value) (p : V × PyData) => RelV p.1 v) (enc := fun p : V × PyData => p.2) false (each_rel hd rv) er' (by rw [ez]; exact hal)
    obtain ⟨ep, he'⟩ := PyProof.Rows.sortedAll_at s.heap its (PySem.W.sortVals _ false its its).toArray
    have rel := vals_each vz
    refine ⟨.ref (s.heap.objs.size + 1), upd H (s.heap.objs.size + 1) (.lst (sortD xs ds)), I.laid (t' := s.toks) (fun _ _ => PyProof.Rows.sortedAll_old) (Nat.le_succ _) ⟨?_, _, ep, rel, he'⟩, rfl, q _ (I.hok.fresh (Nat.le_succ _))⟩
    rw [(sortD_perm len).length_eq]
    exact hz
/-- of a list or of a tuple -/
def rSortS (K : PySem.W.Frag) : List V → Hp → VK → Prop := fun vs H Q => rSortL K vs H Q ∨ rSortT K vs H Q
theorem cr_sortS {X : Cx} (hu : X.A.units + 64 < cLine) : CallR X (.builtin "sorted") (rSortS X.K) := CallR.or (cr_sortL hu) (cr_sortT hu)
end So

set_option Elab.async false
set_option linter.all false
set_option maxRecDepth 100000
set_option maxHeartbeats 2000000
namespace Wi
open PySem PySem.Spec PyProof.Rows L2 Rl Dr Tx Ex Er So
/-! ### what the top has written of a class with methods -/
structure WcE (K : PySem.W.Frag) (mg : Str → Option Value) (x : Str) where
  C : Addr
  g : mg x = some (.ref C)
  cl : Cls K C
  isC : (PySem.W.clsIn K C).isSome = true
  tyC : PySem.W.typeIn K (.ref C) = some (.type "type")
  ha : PySem.W.findIn K (.ref C) "__class__" = some (some (.builtin "object.__class__"))
  hm : PySem.W.mroIn K C (.type "object") = some true
theorem isC_mro {K : PySem.W.Frag} {C : Addr} {v : Value} {r : Bool} (h : PySem.W.mroIn K C v = some r) : (PySem.W.clsIn K C).isSome = true := by
  unfold PySem.W.mroIn at h
  cases e : PySem.W.clsIn K C with
  | none =>
    rw [e] at h
    cases h
  | some c => rfl
structure MeE (K : PySem.W.Frag) (C : Addr) (m qual : Str) (st : Stmt) (ps : List Str) where
  f : Addr
  fd : FuncData
  F : Fun K m qual st f fd
  b : Binds K fd ps []
  m : Meth K C m f
structure PrE (K : PySem.W.Frag) (C : Addr) (m qual : Str) (st : Stmt) where
  p : Addr
  f : Addr
  fd : FuncData
  F : Fun K m qual st f fd
  b : Binds K fd ["self"] []
  hp : PropOf K C m p f
structure MkE (K : PySem.W.Frag) (C : Addr) (qual : Str) (st : Stmt) (ps : List Str) where
  f : Addr
  fd : FuncData
  F : Fun K "__init__" qual st f fd
  b : Binds K fd ps []
  M : Mk K C f
/-- a tuple that the top has written -/
structure ConT (K : PySem.W.Frag) (mg : Str → Option Value) (x : Str) (xs : List V) where
  a : Addr
  g : mg x = some (.ref a)
  sq : ∀ H, SqT K H a xs
/-! ### calls that may raise, from a body that may raise -/
theorem pX {P : Program} {w : World} {K : PySem.W.Frag} {mg : Str → Option Value} {base : Heap} {N : List Str} {qual : Str} {scope : Scope} {f : Addr} {cd : Value} {A : Around} {outer : List Env} {s : Shared} {H : Hp} {E : XK} :
    Passes (L2.CX P w) (cxOf (L2.CX P w) P w K mg base N qual scope f cd A outer s H E) E :=
  passes_call (takes_of rfl rfl rfl rfl) (fun _ _ _ _ h => h)
section
variable {X : Cx}
theorem pcallX {x qual : Str} {st : Stmt} {ps : List Str} {k : Nat} {sp : Sp} {e : Expr} {es : List Expr} {t : TA} {E : XK} {p pos : Pos} (M : FnE X.K X.mg x qual st ps) (F : FnOk X.prog X.w X.K X.mg X.base (L2.CX X.prog X.w) k M.f M.fd ps sp) (hr : Room k X.A) (hg : Gl X x) (hx : Passes (L2.CX X.prog X.w) X E) (ha : PA X (e :: es) t)
    (hdb : (x == ("__debug__" : Str)) = false := by decide) (he : starEach (e :: es) X.env = (false, eval e X.env) :: starEach es X.env := by rfl) (hpl : (backTo pos (starEach es X.env)).any (·.1) = false := by rfl) :
    PE X (.Call (.Name x p) (e :: es) [] pos) (tCall sp [] E t) := pe_call F hr hg M.g M.F.kp M.b .nil hx ha (hdb := hdb) (he := he) (hpl := hpl)
end
section
variable {X : Cx}
/-- a field, K by its name -/
theorem pe_fldK {K : PySem.W.Frag} {e : Expr} {ta : TE} {f : Str} {pos : Pos} (he : PE X e ta) (hK : X.K = K := by rfl) (hb : attributeBase e f X.env (eval e X.env) = eval e X.env := by rfl) : PE X (.Attribute e f pos) (tFld K ta f) := by
  subst hK
  exact pe_fld he hb
end
section
variable {X : Cx}
/-- a tuple of names as a target, K and the number by name -/
theorem pg_tupK {K : PySem.W.Frag} (n : Nat) {es : List Expr} {k : Nat} {t : TGs} {pos : Pos} (hc : X.calm = true) (h : PGs X es t) (hK : X.K = K := by rfl)
    (hn : (assignEach es X.env).length = n := by rfl) (hst : (assignEach es X.env).findIdx? (·.1) = none := by rfl) : PG X (.Tuple es k pos) (gTup K n t) := by
  subst hK
  exact pg_tup hc h hn hst
end
/-! ### any value, and what the checks say of it -/
inductive AnyV (H : Hp) : V → Prop where
  | non : AnyV H .non
  | bl (b : Bool) : AnyV H (.bl b)
  | int (i : Int) : AnyV H (.int i)
  | str (z : Str) : AnyV H (.str z)
  | lst {a : Addr} {xs : List V} (h : H a = some (.lst xs)) : AnyV H (.ref a)
  | tup {a : Addr} {xs : List V} (h : H a = some (.tup xs)) : AnyV H (.ref a)
  | dK {a : Addr} {kvs : List (Key × V)} (h : H a = some (.dK kvs)) : AnyV H (.ref a)
theorem AnyV.same {H H' : Hp} {v : V} (h : AnyV H v) (s : Same H H') : AnyV H' v := by
  cases h with
  | non => exact .non
  | bl b => exact .bl b
  | int i => exact .int i
  | str z => exact .str z
  | lst h => exact .lst (s _ _ h)
  | tup h => exact .tup (s _ _ h)
  | dK h => exact .dK (s _ _ h)
def isI : V → Bool
  | .int _ => true
  | .bl _ => true
  | _ => false
def isB : V → Bool
  | .bl _ => true
  | _ => false
def isS : V → Bool
  | .str _ => true
  | _ => false
def isT (H : Hp) : V → Bool
  | .ref a => match H a with
    | some (.tup _) => true
    | _ => false
  | _ => false
theorem isT_of {H : Hp} {a : Addr} {o : HO} (h : H a = some o) : isT H (.ref a) = (match o with | .tup _ => true | _ => false) := by
  unfold isT
  simp only [h]
  cases o <;> rfl
/-- what isinstance says of such a value -/
theorem AnyV.kit {K : PySem.W.Frag} {H : Hp} {v : V} (h : AnyV H v) : ∃ t, TyX K H v t ∧ PySem.W.kitOne K t (.type "int") = some (isI v) ∧ PySem.W.kitOne K t (.type "bool") = some (isB v) ∧ PySem.W.kitOne K t (.type "str") = some (isS v) ∧ PySem.W.kitOne K t (.type "tuple") = some (isT H v) := by
  cases h with
  | non => exact ⟨_, .base .non, kit_ty (by decide +kernel), kit_ty (by decide +kernel), kit_ty (by decide +kernel), kit_ty (show kitB "NoneType" "tuple" = some false by decide +kernel)⟩
  | bl b => exact ⟨_, .base (.bl b), kit_ty (show kitB "bool" "int" = some true by decide +kernel), kit_ty (show kitB "bool" "bool" = some true by decide +kernel), kit_ty (show kitB "bool" "str" = some false by decide +kernel), kit_ty (show kitB "bool" "tuple" = some false by decide +kernel)⟩
  | int i => exact ⟨_, .base (.int i), kit_ty (show kitB "int" "int" = some true by decide +kernel), kit_ty (show kitB "int" "bool" = some false by decide +kernel), kit_ty (show kitB "int" "str" = some false by decide +kernel), kit_ty (show kitB "int" "tuple" = some false by decide +kernel)⟩
  | str z => exact ⟨_, .base (.str z), kit_ty (show kitB "str" "int" = some false by decide +kernel), kit_ty (show kitB "str" "bool" = some false by decide +kernel), kit_ty (show kitB "str" "str" = some true by decide +kernel), kit_ty (show kitB "str" "tuple" = some false by decide +kernel)⟩
  | lst h => exact ⟨_, .base (.lst h), kit_ty (show kitB "list" "int" = some false by decide +kernel), kit_ty (show kitB "list" "bool" = some false by decide +kernel), kit_ty (show kitB "list" "str" = some false by decide +kernel), by rw [isT_of h]; exact kit_ty (show kitB "list" "tuple" = some false by decide +kernel)⟩
  | tup h => exact ⟨_, .base (.tup h), kit_ty (show kitB "tuple" "int" = some false by decide +kernel), kit_ty (show kitB "tuple" "bool" = some false by decide +kernel), kit_ty (show kitB "tuple" "str" = some false by decide +kernel), by rw [isT_of h]; exact kit_ty (show kitB "tuple" "tuple" = some true by decide +kernel)⟩
  | dK h => exact ⟨_, .base (.dK h), kit_ty (show kitB "dict" "int" = some false by decide +kernel), kit_ty (show kitB "dict" "bool" = some false by decide +kernel), kit_ty (show kitB "dict" "str" = some false by decide +kernel), by rw [isT_of h]; exact kit_ty (show kitB "dict" "tuple" = some false by decide +kernel)⟩
/-- a value and, of a tuple, its items -/
structure AnyT (H : Hp) (v : V) : Prop where
  any : AnyV H v
  its : ∀ a xs, v = .ref a → H a = some (.tup xs) → xs.length ≤ 100 ∧ ∀ x ∈ xs, AnyV H x
/-- a whole number from lo to hi -/
def whole (v : V) (lo hi : Int) : Bool := match v with
  | .int n => decide (lo ≤ n) && decide (n ≤ hi)
  | _ => false
/-- the three words of a tuple of three texts -/
def three (H : Hp) (v : V) : Option (Str × Str × Str) := match v with
  | .ref a => match H a with
    | some (.tup [.str x, .str y, .str z]) => some (x, y, z)
    | _ => none
  | _ => none
abbrev SG : List Str := ["+", "-", "?"]
/-- an arrow between these parts -/
def arrowOf (ns : List Str) (H : Hp) (v : V) : Option (Str × Str × Str) := (three H v).filter fun t => decide (t.1 ∈ ns) && decide (t.2.1 ∈ ns) && decide (t.2.2 ∈ SG)
theorem three_same {H H' : Hp} {v : V} (h : AnyV H v) (s : Same H H') : three H' v = three H v := by
  cases h with
  | non => rfl
  | bl b => rfl
  | int i => rfl
  | str z => rfl
  | lst h => unfold three; simp only [h, s _ _ h]
  | tup h => unfold three; simp only [h, s _ _ h]
  | dK h => unfold three; simp only [h, s _ _ h]
/-! ### sorted texts: the list is the only one -/
def leS (x y : Str) : Prop := x.cps.toList ≤ y.cps.toList
theorem leS_trans {x y z : Str} (a : leS x y) (b : leS y z) : leS x z := List.le_trans a b
theorem leS_anti {x y : Str} (a : leS x y) (b : leS y x) : x = y := by
  have e : x.cps.toList = y.cps.toList := List.le_antisymm a b
  cases x
  cases y
  simp only [Str.mk.injEq]
  exact Array.toList_inj.mp e
theorem rising_le : ∀ (r : List Str) (p : Str), risingS p r = true → (p :: r).Pairwise leS
  | [], p, _ => List.pairwise_singleton _ _
  | x :: r, p, h => by
    have h' : (!ltCps x.cps.toList p.cps.toList && risingS x r) = true := h
    rw [Bool.and_eq_true] at h'
    have ih := rising_le r x h'.2
    have px : leS p x := by
      have q := h'.1
      rw [ltCps_eq] at q
      have q2 : ¬ x.cps.toList < p.cps.toList := by simpa using q
      exact q2
    refine List.pairwise_cons.mpr ⟨fun y hy => ?_, ih⟩
    rcases List.mem_cons.mp hy with rfl | hy
    · exact px
    · exact leS_trans px ((List.pairwise_cons.mp ih).1 y hy)
theorem sorted_le {l : List Str} (h : sortedS l = true) : l.Pairwise leS := by
  cases l with
  | nil => exact .nil
  | cons x r => exact rising_le r x h
theorem sorted_one {l m : List Str} (h : sortedS l = true) (h' : sortedS m = true) (p : l.Perm m) : l = m :=
  List.Perm.eq_of_pairwise (fun _ _ _ _ a b => leS_anti a b) (sorted_le h) (sorted_le h') p
/-! ### a walk over a list or over a tuple -/
def SqS (K : PySem.W.Frag) (H : Hp) (a : Addr) (xs : List V) : Prop := SqL K H a xs ∨ SqT K H a xs
def iSeq (K : PySem.W.Frag) (tl : TE) : TI := fun σ H R => tl σ H fun x H1 => ∃ a xs, x = .ref a ∧ ((SqL K H1 a xs ∧ R (Itl K a) H1) ∨ (SqT K H1 a xs ∧ R (Itt K a) H1))
theorem pi_seq {X : Cx} {tg l : Expr} {tl : TE} (hl : PE X l tl) : PI X tg l (iSeq X.K tl) := ⟨fun pins s σ H R I h => by
  refine thn (hl.run pins s σ H _ I h) fun v s1 z => ?_
  obtain ⟨x, H1, I1, r1, a, xs, rfl, q⟩ := z
  cases r1
  have fp : ∀ b, b ∈ [s1.heap.objs.size] → FpOk X pins H1 b := fun b hb => by
    obtain rfl : b = s1.heap.objs.size := by simpa using hb
    exact I1.fpOk (Nat.le_refl _) (I1.hok.fresh (Nat.le_refl _))
  rcases q with ⟨hq, q⟩ | ⟨hq, q⟩
  · obtain ⟨its, rv, p, hz⟩ := I1.list hq
    exact wpAny_pyIter_list p.isList ⟨_, _, _, _, H1, rfl, I1.kept (t' := s1.toks) fun b o e => Heap.get?_push_of_some _ e, turn_list a _, ⟨_, Heap.get?_push_size _ rfl, rfl, rfl⟩, fp, q⟩
  · obtain ⟨its, rv, p, hz⟩ := I1.tuple hq
    exact wpAny_pyIter_tuple (show s1.heap.IsTuple a its.toArray from p) ⟨_, _, _, _, H1, rfl, I1.kept (t' := s1.toks) fun b o e => Heap.get?_push_of_some _ e, turn_tuple a _, ⟨_, Heap.get?_push_size _ rfl, rfl, rfl⟩, fp, q⟩⟩
theorem for_seq {K : PySem.W.Frag} {a : Addr} {xs : List V} {g : TG} {tb : TS} {D : Ends} {σ : L2.St} {H : Hp} (Pv : Nat → L2.St → Hp → Prop) (h0 : Pv 0 σ H) (hq : (∀ i σ H, Pv i σ H → SqL K H a xs) ∨ (∀ i σ H, Pv i σ H → SqT K H a xs))
    (hs : ∀ i x σ H, xs[i]? = some x → Pv i σ H → g x σ H fun σ2 H2 => tb { D with nx := Pv (i + 1), ct := Pv (i + 1), bk := D.nx } σ2 H2) (hd : ∀ σ H, Pv xs.length σ H → D.nx σ H) :
    (SqL K H a xs ∧ ∃ W : Nat → Nat → L2.St → Hp → Prop, (∃ m, W 0 m σ H) ∧ ∀ i m σ H, W i m σ H → ((Itl K a).stop i H ∧ D.nx σ H) ∨ ((Itl K a).go i H ∧ ∃ N : L2.St → Hp → Prop, (∀ σ' H', N σ' H' → ∃ m', m' < m ∧ W (i + 1) m' σ' H') ∧
      ∀ x H', (Itl K a).yld i H x H' → g x σ H' fun σ2 H2 => tb { D with nx := N, ct := N, bk := D.nx } σ2 H2)) ∨
    (SqT K H a xs ∧ ∃ W : Nat → Nat → L2.St → Hp → Prop, (∃ m, W 0 m σ H) ∧ ∀ i m σ H, W i m σ H → ((Itt K a).stop i H ∧ D.nx σ H) ∨ ((Itt K a).go i H ∧ ∃ N : L2.St → Hp → Prop, (∀ σ' H', N σ' H' → ∃ m', m' < m ∧ W (i + 1) m' σ' H') ∧
      ∀ x H', (Itt K a).yld i H x H' → g x σ H' fun σ2 H2 => tb { D with nx := N, ct := N, bk := D.nx } σ2 H2)) := by
  rcases hq with hq | hq
  · exact .inl ⟨hq _ _ _ h0, for_list Pv h0 (fun i σ H _ p => hq i σ H p) hs hd⟩
  · exact .inr ⟨hq _ _ _ h0, for_tup Pv h0 (fun i σ H _ p => hq i σ H p) hs hd⟩
/-! ### an own exception made ahead of raise -/
def spInitX (C : Addr) (fld : Str) : Sp := fun vs H Q _ => ∃ (a : Addr) (v : V), vs = [.ref a, v] ∧ H a = some (exo a C none) ∧
  ∀ (H' : Hp) (d : Addr), H d = none → (∀ b o, H b = some o → b ≠ a → H' b = some o) → H' a = some (exo a C (some d)) → H' d = some (exd d [(fld, v)]) → Q .non H'
theorem init_readX {K : PySem.W.Frag} {mg : Str → Option Value} {name qual fld : Str} {st : Stmt} {R : Addr} (E : ErrF K mg name qual fld st R) {vs : List V} {H : Hp} {Q : VK} {X : XK} (h : spInitX E.C fld vs H Q X) :
    tOst K fld (tVar 0) (tVar 1) { nx := fun _ H' => Q .non H', rt := Q } (start ["self", fld] vs) H := by
  obtain ⟨a, v, rfl, ha, k⟩ := h
  refine ⟨v, rfl, .ref a, rfl, a, E.C, rfl, E.oex, E.no, .inl ⟨ha, fun dx nd ne => ?_⟩⟩
  refine k _ dx nd (fun b o hb hne => ?_) upd_same ?_
  · rw [upd_ne hne, upd_ne (ne_of_none hb nd)]
    exact hb
  · rw [upd_ne ne, upd_same]
theorem mk_end {C : Addr} {fld : Str} {v : V} {H1 : Hp} {Q : XK} (k : ∀ d H', Same H1 H' → H1 d = none → H' d = some (.xd [(fld, v)]) → Q (.ref C) (some d) H') :
    [v].length ≤ 1000 ∧ ∀ a, H1 a = none → spInitX C fld (.ref a :: ([v] ++ [])) (upd H1 a (exo a C none))
      (fun v H2 => v = .non ∧ ∃ (d : Addr) (fs : List (Str × V)), H2 a = some (exo a C (some d)) ∧ H2 d = some (exd d fs) ∧ H1 d = none ∧ Q (.ref C) (some d) (upd (del H2 a) d (.xd fs))) (fun _ _ _ => False) := by
  refine ⟨by show 1 ≤ 1000; decide, fun a ha => ⟨a, v, rfl, upd_same, fun H' d nd kp ea ed => ⟨rfl, d, _, ea, ed, ?_, ?_⟩⟩⟩
  · by_cases e : d = a
    · rw [e]
      exact ha
    · rw [upd_ne e] at nd
      exact nd
  · have n1 : H1 d = none := by
      by_cases e : d = a
      · rw [e]
        exact ha
      · rw [upd_ne e] at nd
        exact nd
    refine k d _ (fun b o e => ?_) n1 upd_same
    have nb : b ≠ a := ne_of_none e ha
    rw [upd_ne (ne_of_none e n1), del_ne nb]
    exact kp b o (by rw [upd_ne nb]; exact e) nb
/-- an error with one field flies -/
def Flies (E : XK) (C : Addr) (fld : Str) (v : V) (H : Hp) : Prop := ∀ d H', Same H H' → H' d = some (.xd [(fld, v)]) → E (.ref C) (some d) H'
theorem Flies.same {E : XK} {C : Addr} {fld : Str} {v : V} {H H' : Hp} (h : Flies E C fld v H) (s : Same H H') : Flies E C fld v H' := fun d H2 s2 e => h d H2 (s.trans s2) e
theorem mk_flies {C : Addr} {fld : Str} {v : V} {H1 : Hp} {Q : XK} (k : Flies Q C fld v H1) :
    [v].length ≤ 1000 ∧ ∀ a, H1 a = none → spInitX C fld (.ref a :: ([v] ++ [])) (upd H1 a (exo a C none))
      (fun v H2 => v = .non ∧ ∃ (d : Addr) (fs : List (Str × V)), H2 a = some (exo a C (some d)) ∧ H2 d = some (exd d fs) ∧ H1 d = none ∧ Q (.ref C) (some d) (upd (del H2 a) d (.xd fs))) (fun _ _ _ => False) :=
  mk_end fun d H' s _ e => k d H' s e
/-! ### arguments of any values -/
theorem same_seqT {K : PySem.W.Frag} {H H' : Hp} {a : Addr} {xs : List V} (s : Same H H') (h : SqT K H a xs) : SqT K H' a xs := by
  rcases h with (h | ⟨o, h⟩) | h
  · exact .inl (.inl (s _ _ h))
  · exact .inl (.inr ⟨o, s _ _ h⟩)
  · exact .inr h
theorem SqS.same {K : PySem.W.Frag} {H H' : Hp} {b : Addr} {xs : List V} (h : SqS K H b xs) (s : Same H H') : SqS K H' b xs := by
  rcases h with h | h
  · exact .inl (s.seq h)
  · exact .inr (same_seqT s h)
theorem arrow_same {ns : List Str} {H H' : Hp} {v : V} (h : AnyV H v) (s : Same H H') : arrowOf ns H' v = arrowOf ns H v := by
  unfold arrowOf
  rw [three_same h s]
theorem AnyT.same {H H' : Hp} {v : V} (h : AnyT H v) (s : Same H H') : AnyT H' v := ⟨h.any.same s, fun a xs e ha => by
  subst e
  cases h.any with
  | lst q => rw [s _ _ q] at ha; cases ha
  | dK q => rw [s _ _ q] at ha; cases ha
  | tup q =>
    rw [s _ _ q] at ha
    cases ha
    obtain ⟨h1, h2⟩ := h.its _ _ rfl q
    exact ⟨h1, fun x hx => (h2 x hx).same s⟩⟩
/-- a list or a tuple of any values -/
structure ArrsD (K : PySem.W.Frag) (H : Hp) (b : Addr) (xs : List V) : Prop where
  sq : SqS K H b xs
  few : xs.length ≤ 1000
  any : ∀ x ∈ xs, AnyT H x
/-! ### a walk over pairs of two tuples -/
theorem walk_pairsT {K : PySem.W.Frag} {a b : Addr} {xs ys : List V} (hl : xs.length = ys.length) :
    Walk (RZ.ItzT K a b) xs.length (fun H => SqT K H a xs ∧ SqT K H b ys) (YPair (fun i => xs[i]?) (fun i => ys[i]?)) where
  goes i H hi q := ⟨xs, ys, _, _, q.1, q.2, List.getElem?_eq_getElem hi, List.getElem?_eq_getElem (hl ▸ hi)⟩
  stops H q := ⟨xs, ys, q.1, q.2, Or.inl (Nat.le_refl _)⟩
  yields i H v H' _ q y := by
    rcases y with ⟨c, u, v, e1, e2, e3, k1, k2⟩
    exact ⟨c, u, v, e1, e2, e3, k1 _ q.1, k2 _ q.2⟩
/-! ### two walks, one within the other -/
section
variable {J J1 : It} {n n1 : Nat} {G G1 : Hp → Prop} {Y Y1 : Nat → Hp → V → Hp → Prop}
theorem in_it (w : Walk J1 n1 G1 Y1) {g1 : TG} {tt1 : TT} {te : TE} {vs1 : List Nat} {σ2 : L2.St} {H4 : Hp} {D : Addr} {Nx : Hp → Prop} (Pv : Nat → Hp → Prop) (h0 : Pv 0 H4) (hG : ∀ j H, j ≤ n1 → Pv j H → G1 H)
    (hs : ∀ j x H H', j < n1 → Pv j H → Y1 j H x H' → g1 x (wipe σ2 vs1) H' fun σ3 H5 => wipe σ3 vs1 = wipe σ2 vs1 ∧ tt1 σ3 H5 fun b H6 =>
      if b = true then te σ3 H6 fun y H7 => ∃ acc, H7 D = some (.lst acc) ∧ acc.length < sizeLine ∧ Pv (j + 1) (upd H7 D (.lst (acc ++ [y]))) else Pv (j + 1) H6) (hd : ∀ H, Pv n1 H → Nx H) :
    ∃ W1 : Nat → Nat → Hp → Prop, (∃ m, W1 0 m H4) ∧ ∀ j k H, W1 j k H →
      (J1.stop j H ∧ Nx H) ∨ (J1.go j H ∧ ∃ Nx1 : Hp → Prop, (∀ H', Nx1 H' → ∃ k', k' < k ∧ W1 (j + 1) k' H') ∧ ∀ x H', J1.yld j H x H' → g1 x (wipe σ2 vs1) H' fun σ3 H5 => wipe σ3 vs1 = wipe σ2 vs1 ∧ tt1 σ3 H5 fun b H6 =>
        if b = true then te σ3 H6 fun y H7 => ∃ acc, H7 D = some (.lst acc) ∧ acc.length < sizeLine ∧ Nx1 (upd H7 D (.lst (acc ++ [y]))) else Nx1 H6) := by
  refine ⟨fun j k H => k = n1 - j ∧ j ≤ n1 ∧ Pv j H, ⟨_, rfl, Nat.zero_le _, h0⟩, fun j k H ⟨ek, hj, p⟩ => ?_⟩
  subst ek
  rcases Nat.lt_or_ge j n1 with lt | ge
  · exact Or.inr ⟨w.goes j H lt (hG j H hj p), Pv (j + 1), fun H' p' => ⟨_, Nat.sub_lt_sub_left lt (Nat.lt_succ_self j), rfl, lt, p'⟩, fun x H' y => hs j x H H' lt p (w.yields j H x H' lt (hG j H hj p) y)⟩
  · obtain rfl : j = n1 := Nat.le_antisymm hj ge
    exact Or.inl ⟨w.stops H (hG _ H hj p), hd H p⟩
theorem out_it (w : Walk J n G Y) {g : TG} {tt : TT} {inner : L2.St → Hp → (Hp → Prop) → Prop} {vs : List Nat} {σ : L2.St} {H1 : Hp} {D : Addr} {Qd : Hp → Prop} (Pv : Nat → Hp → Prop) (h0 : Pv 0 (upd H1 D (.lst []))) (hG : ∀ i H, i ≤ n → Pv i H → G H)
    (hs : ∀ i x H H', i < n → Pv i H → Y i H x H' → g x (wipe σ vs) H' fun σ2 H2 => wipe σ2 vs = wipe σ vs ∧ tt σ2 H2 fun b H3 => if b = true then inner σ2 H3 (Pv (i + 1)) else Pv (i + 1) H3) (hd : ∀ H, Pv n H → Qd H) :
    ∃ W : Nat → Nat → Hp → Prop, (∃ m, W 0 m (upd H1 D (.lst []))) ∧ ∀ i m H, W i m H →
      (J.stop i H ∧ Qd H) ∨ (J.go i H ∧ ∃ Nx : Hp → Prop, (∀ H', Nx H' → ∃ m', m' < m ∧ W (i + 1) m' H') ∧ ∀ x H', J.yld i H x H' → g x (wipe σ vs) H' fun σ2 H2 => wipe σ2 vs = wipe σ vs ∧ tt σ2 H2 fun b H3 =>
        if b = true then inner σ2 H3 Nx else Nx H3) := by
  refine ⟨fun i m H => m = n - i ∧ i ≤ n ∧ Pv i H, ⟨_, rfl, Nat.zero_le _, h0⟩, fun i m H ⟨em, hi, p⟩ => ?_⟩
  subst em
  rcases Nat.lt_or_ge i n with lt | ge
  · exact Or.inr ⟨w.goes i H lt (hG i H hi p), Pv (i + 1), fun H' p' => ⟨_, Nat.sub_lt_sub_left lt (Nat.lt_succ_self i), rfl, lt, p'⟩, fun x H' y => hs i x H H' lt p (w.yields i H x H' lt (hG i H hi p) y)⟩
  · obtain rfl : i = n := Nat.le_antisymm hi ge
    exact Or.inl ⟨w.stops H (hG _ H hi p), hd H p⟩
end
theorem paired_snoc {α β : Type} {R : α → β → Prop} {a : α} {b : β} (r : R a b) : ∀ {xs : List α} {l : List β}, Paired R xs l → Paired R (xs ++ [a]) (l ++ [b])
  | _, _, .nil => .cons r .nil
  | _, _, .cons h t => .cons h (paired_snoc r t)
theorem paired_get {α β : Type} {R : α → β → Prop} : ∀ {xs : List α} {l : List β} {i : Nat} {a : α}, Paired R xs l → xs[i]? = some a → ∃ b, l[i]? = some b ∧ R a b
  | _, _, _, _, .nil, e => by simp at e
  | _, _, 0, _, .cons h _, e => by
    cases Option.some.inj e
    exact ⟨_, rfl, h⟩
  | _, _, i + 1, _, .cons _ t, e => paired_get (i := i) t e
/-! ### isinstance of an own class, asked of any value -/
def onlyTys (T : String) : Bool := match PySem.fastBuiltinMro T with
  | some l => l.all fun v => match v with
    | .type _ => true
    | _ => false
  | none => false
theorem sub_never {K : PySem.W.Frag} {C : Addr} {T : String} (h : onlyTys T = true) : PySem.W.subIn K (.type T) (.ref C) = some false := by
  show (PySem.fastBuiltinMro T).map (·.contains (Value.ref C)) = some false
  unfold onlyTys at h
  cases e : PySem.fastBuiltinMro T with
  | none =>
    rw [e] at h
    cases h
  | some l =>
    rw [e] at h
    dsimp only at h
    show some (l.contains (Value.ref C)) = some false
    congr 1
    cases c : l.contains (Value.ref C) with
    | false => rfl
    | true =>
      have m : Value.ref C ∈ l := by simpa using c
      have := List.all_eq_true.mp h _ m
      cases this
section
variable {K : PySem.W.Frag} {mg : Str → Option Value} {x : Str}
theorem WcE.kit_b (W : WcE K mg x) {T : String} (h : onlyTys T = true) : PySem.W.kitOne K (.type T) (.ref W.C) = some false := by
  unfold PySem.W.kitOne
  have n : ((Value.type T == Value.ref W.C) : Bool) = false := beq_eq_false_iff_ne.mpr fun q => nomatch q
  rw [n, if_neg Bool.false_ne_true]
  show (if ((PySem.W.clsIn K W.C).isSome && PySem.W.typeIn K (.ref W.C) == some (.type "type")) = true then PySem.W.subIn K (.type T) (.ref W.C) else none) = _
  rw [W.isC, W.tyC, if_pos (by rfl)]
  exact sub_never h
theorem WcE.nf_b (W : WcE K mg x) {T : String} (h : onlyTys T = true) : PySem.W.notFirst K W.C (.type T) = true := by
  unfold PySem.W.notFirst
  rw [sub_never h]
  simp
theorem WcE.nf_self (W : WcE K mg x) : PySem.W.notFirst K W.C (.ref W.C) = true := by
  unfold PySem.W.notFirst
  simp
theorem WcE.kit_self (W : WcE K mg x) : PySem.W.kitOne K (.ref W.C) (.ref W.C) = some true := by
  unfold PySem.W.kitOne
  rw [if_pos (by simp)]
theorem WcE.ty_self (W : WcE K mg x) (O : ObjCl K) {H : Hp} {a dx : Addr} {fs : List (Str × V)} (h : H a = some (.ins W.C dx fs)) : TyX K H (.ref a) (.ref W.C) := .base (.ins h W.cl W.ha O.hn O.ht W.hm)
theorem AnyV.kitC {H : Hp} {v : V} (h : AnyV H v) (W : WcE K mg x) : ∃ t, TyX K H v t ∧ PySem.W.kitOne K t (.ref W.C) = some false ∧ PySem.W.notFirst K W.C t = true := by
  have q : ∀ {T : String}, onlyTys T = true → TyX K H v (.type T) → ∃ t, TyX K H v t ∧ PySem.W.kitOne K t (.ref W.C) = some false ∧ PySem.W.notFirst K W.C t = true := fun h t => ⟨_, t, W.kit_b h, W.nf_b h⟩
  cases h with
  | non => exact q (by decide +kernel) (.base .non)
  | bl b => exact q (by decide +kernel) (.base (.bl b))
  | int i => exact q (by decide +kernel) (.base (.int i))
  | str z => exact q (by decide +kernel) (.base (.str z))
  | lst h => exact q (by decide +kernel) (.base (.lst h))
  | tup h => exact q (by decide +kernel) (.base (.tup h))
  | dK h => exact q (by decide +kernel) (.base (.dK h))
end
end Wi

set_option Elab.async false
set_option linter.all false
set_option maxRecDepth 100000
set_option maxHeartbeats 2000000
namespace Cmp
open PySem PySem.Spec PyProof.Rows L2 Rl Dr Tx Ex Er So Wi
/-! ### == of two dicts of flat values, both answers -/
def hitsB (ls : List (Key × V)) : List (Key × V) → Bool
  | [] => true
  | p :: r => match valV ls p.1 with
    | some v => eqV p.2 v && hitsB ls r
    | none => false
def eqKvs (ks ls : List (Key × V)) : Bool := ks.length == ls.length && hitsB ls ks
def rEqK : R2 := fun x y H Q => ∃ a b ks ls, x = .ref a ∧ y = .ref b ∧ H a = some (.dK ks) ∧ H b = some (.dK ls) ∧ (∀ p ∈ ks, flatV p.2 = true) ∧ (∀ k v, valV ls k = some v → flatV v = true) ∧ Q (.bl (eqKvs ks ls)) H
theorem hits_both {P : Program} {w : World} {A : Around} {s : Shared} {ls : List (Key × V)} {vb : List (Key × Value)} (rb : KV ls vb) (fl : ∀ k v, valV ls k = some v → flatV v = true) : ∀ {ks : List (Key × V)} {va : List (Key × Value)}, KV ks va → (∀ p ∈ ks, flatV p.2 = true) → PySem.W.KeqHitsP P w A s vb va (hitsB ls ks)
  | _, _, .nil, _ => .nil
  | (k, x) :: r, (k', u) :: r', .cons h t, hf => by
    obtain ⟨e, ru⟩ := h
    obtain rfl : k = k' := e
    have v1 := rb.val k
    show PySem.W.KeqHitsP P w A s vb ((k, u) :: r') (match valV ls k with | some v => eqV x v && hitsB ls r | none => false)
    cases c : valV ls k with
    | none =>
      rw [c] at v1
      cases c2 : valueAt vb k with
      | none => exact .miss c2
      | some y =>
        rw [c2] at v1
        exact v1.elim
    | some v =>
      rw [c] at v1
      cases c2 : valueAt vb k with
      | none =>
        rw [c2] at v1
        exact v1.elim
      | some y =>
        rw [c2] at v1
        exact .hit c2 (fun E Q q => eqAt_V ru v1 (hf _ (List.mem_cons_self)) (fl k v c) P w E Q q) (hits_both rb fl t fun p hp => hf p (List.mem_cons_of_mem _ hp))
theorem op_eqK {X : Cx} (hu : X.A.units < cLine) : OpR X (compareOp .Eq) rEqK := by
  intro pins s σ H x y v u Q I rx ry h
  obtain ⟨a, b, ks, ls, rfl, rfl, ea, eb, hf, fl, q⟩ := h
  obtain rfl : v = Value.ref a := rx
  obtain rfl : u = Value.ref b := ry
  obtain ⟨_, ya, va, ra, da⟩ := (show ObjOk X.prog X.w H s.heap a (.dK ks) from I.hok a _ ea)
  obtain ⟨_, yb, vb, rb, db⟩ := (show ObjOk X.prog X.w H s.heap b (.dK ls) from I.hok b _ eb)
  refine PySem.W.rcP_dicts (knd := mixKind X.prog X.w) ya yb da db hu (fun _ => hits_both rb fl ra hf) _ _ ⟨.bl (eqKvs ks ls), H, I.tok _, ?_, q⟩
  show Value.bool (va.length == vb.length && hitsB ls ks) = Value.bool (eqKvs ks ls)
  rw [← ra.length, ← rb.length]
  rfl
/-! ### == by a class's own def, both answers, the other side any value -/
def spEqI (R : Addr → V → Bool → Hp → Prop) : Sp := fun vs H Q _ => ∃ a y r, vs = [.ref a, y] ∧ R a y r H ∧ ∀ H', Same H H' → Q (.bl r) H'
def rEqI (K : PySem.W.Frag) (C : Addr) (R : Addr → V → Bool → Hp → Prop) : R2 := fun x y H Q => ∃ a dx fs t r, x = .ref a ∧ H a = some (.ins C dx fs) ∧ TyX K H y t ∧ PySem.W.notFirst K C t = true ∧ R a y r H ∧ ∀ H', Same H H' → Q (.bl r) H'
theorem op_eqI {X : Cx} {CX : CXT} {C f : Addr} {fd : FuncData} {ps : List Str} {n : Nat} {R : Addr → V → Bool → Hp → Prop} {E : XK} (F : FnOk X.prog X.w X.K X.mg X.base CX n f fd ps (spEqI R)) (hr : Room n X.A)
    (hs : PySem.W.findIn X.K (.ref C) "__eq__" = some (some (.ref f))) (hf : PySem.W.isFn X.K (.ref f) = true) (hb : Binds X.K fd ps []) (hx : Passes CX X E) : OpR X (compareOp .Eq) (rEqI X.K C R) := by
  intro pins s σ H x y v u Q I rx ry h
  obtain ⟨a, dx, fs, t, r, rfl, ha, ty, nf, hR, q⟩ := h
  cases rx
  obtain ⟨Z, kx, pz, _⟩ := kit_of I ry ty
  obtain ⟨mA, J, _⟩ := ins_get I.hok ha
  obtain ⟨od, J, _⟩ := J.look
  obtain ⟨m, fr⟩ := I.fr
  have hsp : spEqI R [.ref a, y] H (fun v H' => (∃ b, v = V.bl b) ∧ Q v H') E := ⟨a, y, r, rfl, hR, fun H' s => ⟨⟨r, rfl⟩, q H' s⟩⟩
  have two : Vals [V.ref a, y] [Value.ref a, u] := .cons rfl (.cons ry .nil)
  have hl := F.len _ _ _ _ hsp
  have bd := hb s [.ref a, u] I.kIn (by simpa using hl)
  simp only [List.append_nil] at bd
  show wpAny (model X.prog X.w) X.A (richCompare .Eq (.ref a) u) (EP X pins σ Q) X.xe s
  refine PySem.W.cmp_K (op := .Eq) hr.units0 fr I.ok.mod.kin J (kx.ty _ _ I.kIn pz) nf hs hf ?_
  refine wpAny_call (codeAny_mono (F.run X.A X.stack s H ⟨[.ref a, u], []⟩ _ _ _ E hr I.env0 bd two hsp) fun o s' ho => ?_)
  match o, ho with
  | .error e, ho => exact hx pins σ H s e s' I ho
  | .ok (.ret z), ho =>
    obtain ⟨zz, H', I', rz, ⟨b, rfl⟩, qz⟩ := I.after ho
    cases rz
    exact ⟨.bl b, H', I', rfl, qz⟩
  | .ok .next, ho => exact False.elim ho
  | .ok .brk, ho => exact False.elim ho
  | .ok .cont, ho => exact False.elim ho
end Cmp

set_option Elab.async false
set_option linter.all false
set_option maxRecDepth 100000
set_option maxHeartbeats 2000000
namespace Vw
open PySem PySem.Spec PyProof.Rows L2 Rl Dr _root_.Tx Ex Er So Wi
/-! ### the heap without the drawing state's own cells -/
open Classical in
noncomputable def Vw (s : Addr) (H : Hp) : Hp := fun b => if vol H s b then none else H b
theorem vw_in {s b : Addr} {H : Hp} (h : ¬ vol H s b) : Vw s H b = H b := if_neg h
theorem vw_at {s b : Addr} {H : Hp} {o : HO} (h : Vw s H b = some o) : H b = some o ∧ ¬ vol H s b := by
  unfold Vw at h
  split at h
  · cases h
  · rename_i n
    exact ⟨h, n⟩
theorem vw_sub {s : Addr} {H : Hp} : Same (Vw s H) H := fun _ _ h => (vw_at h).1
theorem vw_kp {s : Addr} {H H' : Hp} (k : Kp s H H') : Same (Vw s H) (Vw s H') := fun b o h => by
  obtain ⟨h1, h2⟩ := vw_at h
  obtain ⟨k1, k2⟩ := k b o h1 h2
  rw [vw_in k2]
  exact k1
theorem vw_none {s b : Addr} {H : Hp} (h : H b = none) : Vw s H b = none := by
  unfold Vw
  split
  · rfl
  · exact h
theorem vw_new {s p : Addr} {H : Hp} {o : HO} {N : Nat} (D : Ds H s N) (hp : H p = none) : Vw s (upd H p o) = upd (Vw s H) p o := by
  obtain ⟨u, hu⟩ := D.ex_
  have sp : s ≠ p := ne_of_none hu hp
  funext b
  by_cases e : b = p
  · subst e
    rw [vw_in (D.nvol hp), upd_same, upd_same]
  · rw [upd_ne e]
    unfold Vw
    rw [upd_ne e]
    by_cases v : vol H s b
    · rw [if_pos v, if_pos ((vol_new sp).mpr v)]
    · rw [if_neg v, if_neg fun z => v ((vol_new sp).mp z)]
theorem vw_mut {s p : Addr} {H : Hp} {o x : HO} {N : Nat} (D : Ds H s N) (hp : Vw s H p = some x) : Vw s (upd H p o) = upd (Vw s H) p o ∧ Ds (upd H p o) s N := by
  obtain ⟨h1, h2⟩ := vw_at hp
  obtain ⟨D2, v⟩ := D.mut (o := o) h2
  refine ⟨?_, D2⟩
  funext b
  by_cases e : b = p
  · subst e
    rw [vw_in (fun z => h2 ((v b).mp z)), upd_same, upd_same]
  · rw [upd_ne e]
    unfold Vw
    rw [upd_ne e]
    by_cases w : vol H s b
    · rw [if_pos w, if_pos ((v b).mpr w)]
    · rw [if_neg w, if_neg fun z => w ((v b).mp z)]
theorem Ds.same {s : Addr} {H H' : Hp} {N : Nat} (D : Ds H s N) (h : Same H H') : Ds H' s N := by
  obtain ⟨A, B, bigs, cells, n, S, l⟩ := D
  exact ⟨A, B, bigs, cells, n, ⟨h _ _ S.st, h _ _ S.ha, h _ _ S.hb, S.ab, S.la, S.lb, S.nb⟩, l⟩
theorem vw_same {s : Addr} {H H' : Hp} {N : Nat} (D : Ds H s N) (h : Same H H') : Same (Vw s H) (Vw s H') := by
  obtain ⟨u, hu⟩ := D.ex_
  exact vw_kp (Kp.of_same hu h)
/-- what is no list stands in the view -/
theorem vw_nl {s b : Addr} {H : Hp} {o : HO} {N : Nat} (D : Ds H s N) (h : H b = some o) (n : ∀ xs, o ≠ .lst xs) : Vw s H b = some o := by
  obtain ⟨A, B, bigs, cells, k, S, l⟩ := D
  rw [vw_in (fun z => ?_), h]
  rw [S.volA] at z
  rcases z with rfl | rfl | rfl
  · rw [S.st] at h; exact n _ (Option.some.inj h).symm
  · rw [S.ha] at h; exact n _ (Option.some.inj h).symm
  · rw [S.hb] at h; exact n _ (Option.some.inj h).symm
/-- what is new behind a call stands in the view -/
theorem vw_fresh {s b : Addr} {H H' : Hp} {o : HO} {N : Nat} (D : Ds H s N) (h : Same H H') (n : H b = none) (e : H' b = some o) : Vw s H' b = some o := by
  obtain ⟨A, B, bigs, cells, k, S, l⟩ := D
  have S' : StAt H' s A B bigs cells k := ⟨h _ _ S.st, h _ _ S.ha, h _ _ S.hb, S.ab, S.la, S.lb, S.nb⟩
  rw [vw_in (fun z => ?_), e]
  rw [S'.volA] at z
  rcases z with rfl | rfl | rfl
  · rw [S.st] at n; cases n
  · rw [S.ha] at n; cases n
  · rw [S.hb] at n; cases n
/-- a view that grew, and one object of it that was made anew -/
theorem same_upd {G G' : Hp} {p : Addr} {o : HO} (h : Same G G') (n : G p = none) : Same G (upd G' p o) := Same.mut h n
/-! ### lists in another order -/
theorem erase_perm {α : Type} : ∀ {l : List α} {k : Nat} {y : α}, l[k]? = some y → (y :: l.eraseIdx k).Perm l
  | [], _, _, h => by simp at h
  | x :: r, 0, y, h => by
    cases Option.some.inj h
    exact .refl _
  | x :: r, k + 1, y, h => (List.Perm.swap x y (r.eraseIdx k)).trans ((erase_perm (l := r) (k := k) h).cons x)
theorem perm_pop {α : Type} {told left xs : List α} {k : Nat} {y : α} (p : (told ++ left).Perm xs) (hy : left[k]? = some y) : (told ++ [y] ++ left.eraseIdx k).Perm xs := by
  refine List.Perm.trans ?_ p
  rw [List.append_assoc]
  exact List.Perm.append_left told (erase_perm hy)
theorem paired_perm {α β : Type} {R : α → β → Prop} {xs ys : List α} (p : ys.Perm xs) : ∀ {l : List β}, Paired R xs l → ∃ l', Paired R ys l' ∧ l'.Perm l := by
  induction p with
  | nil => exact fun h => ⟨_, h, .refl _⟩
  | cons x _ ih =>
    intro l h
    cases h with
    | cons r t =>
      obtain ⟨l', a, b⟩ := ih t
      exact ⟨_, .cons r a, b.cons _⟩
  | swap x y l0 =>
    intro l h
    cases h with
    | cons r t =>
      cases t with
      | cons r2 t2 => exact ⟨_, .cons r2 (.cons r t2), .swap _ _ _⟩
  | trans _ _ ih1 ih2 =>
    intro l h
    obtain ⟨l1, a1, b1⟩ := ih2 h
    obtain ⟨l2, a2, b2⟩ := ih1 a1
    exact ⟨l2, a2, b2.trans b1⟩
/-- an object made -/
theorem vmk {s p : Addr} {H : Hp} {o : HO} {N : Nat} (D : Ds H s N) (np : H p = none) : Ds (upd H p o) s N ∧ Same H (upd H p o) ∧ Same (Vw s H) (Vw s (upd H p o)) ∧ Vw s (upd H p o) p = some o := by
  refine ⟨D.new np, same_new np, ?_, ?_⟩
  · rw [vw_new D np]
    exact same_new (vw_none np)
  · rw [vw_new D np, upd_same]
/-- an object of the view changed -/
theorem vmut {s p : Addr} {H : Hp} {x : HO} (o : HO) {N : Nat} (D : Ds H s N) (hv : Vw s H p = some x) : Ds (upd H p o) s N ∧ Vw s (upd H p o) p = some o ∧ (∀ b, b ≠ p → Vw s (upd H p o) b = Vw s H b) ∧
    (∀ G, Same G (Vw s H) → G p = none → Same G (Vw s (upd H p o))) := by
  obtain ⟨e, D'⟩ := vw_mut (o := o) D hv
  refine ⟨D', ?_, fun b nb => ?_, fun G g n => ?_⟩
  · rw [e, upd_same]
  · rw [e, upd_ne nb]
  · rw [e]
    exact Same.mut g n
/-- a tuple, or another thing that is no list, made by a call -/
theorem vkeep {s : Addr} {H H' : Hp} {N : Nat} (D : Ds H s N) (h : Same H H') : Ds H' s N ∧ Same (Vw s H) (Vw s H') := ⟨Ds.same D h, vw_same D h⟩
/-! ### texts in another order -/
theorem perm_strs {ys : List V} {zs : List Str} (p : ys.Perm (zs.map V.str)) : ∃ zs' : List Str, ys = zs'.map V.str ∧ zs'.Perm zs := by
  have r : Paired (fun v z => v = V.str z) (zs.map V.str) zs := by
    clear p
    induction zs with
    | nil => exact .nil
    | cons z r ih => exact .cons rfl ih
  obtain ⟨zs', h, q⟩ := paired_perm p r
  refine ⟨zs', ?_, q⟩
  clear q p r
  induction h with
  | nil => rfl
  | cons e _ ih => rw [e, ih]; rfl
theorem cutTo (xs : List V) (n : Nat) : cutV xs none (some (n : Int)) = xs.take n := by
  unfold cutV
  rw [HT.sIx_none, show HT.sIx xs.length xs.length (some (n : Int)) = min n xs.length from HT.sIx_nat xs.length xs.length n]
  show List.take (min n xs.length - 0) (List.drop 0 xs) = _
  rw [Nat.sub_zero, List.drop_zero]
  by_cases h : n ≤ xs.length
  · rw [Nat.min_eq_left h]
  · rw [Nat.min_eq_right (by omega), List.take_of_length_le (Nat.le_refl _), List.take_of_length_le (by omega)]
/-! ### draws, by the view -/
theorem draw_v {s : Addr} {H : Hp} {Q : VK} {X : XK} {N : Nat} {z : Int} (D : Ds H s N) (h1 : N < 1000000) (h2 : 0 < z) (h3 : z < 100000000)
    (k : ∀ (d : Int) (H' : Hp), 0 ≤ d → d < z → Ds H' s (N + 1) → Same (Vw s H) (Vw s H') → Q (.int d) H') : spDraw [.ref s, .int z] H Q X :=
  ⟨s, N, z, rfl, D, h1, h2, h3, fun d H' a b D' K' => k d H' a b D' (vw_kp K')⟩
theorem seqIx {d : Int} {n : Nat} (h0 : 0 ≤ d) (h : d < n) : seqIndex? d n = some d.toNat := by
  unfold seqIndex?
  have e : (if d < 0 then d + (n : Int) else d) = d := if_neg (by omega)
  simp only [e]
  rw [if_pos]
  simp only [Bool.and_eq_true, decide_eq_true_eq]
  exact ⟨h0, h⟩
end Vw

set_option Elab.async false
set_option linter.all false
set_option maxRecDepth 100000
set_option maxHeartbeats 2000000
namespace Try
open PySem PySem.Spec PyProof.Rows L2 Rl Dr _root_.Tx Ex Er So Wi
theorem room65 {A : Around} {k : Nat} (hr : Room k A) : A.units + 65 < cLine := by
  have := hr.un
  omega
/-! ### calls within a try's body: what may fly is told for every row of slots -/
def EvW (W : WX) (n : Nat) : XK := fun cls d H => ∀ σ : L2.St, σ.length = n → W cls d σ H
theorem passW {X : Cx} {W : WX} {n : Nat} (tk : Takes X W) (hn : X.N.length = n) : Passes (L2.CX X.prog X.w) X (EvW W n) := fun _ σ _ _ e s' I c =>
  tk e s' (XE.of_call I (fun _ _ _ h => h σ (I.len.trans hn)) c)
/-! ### try: body, except A as n: .., except B as n: .. -/
abbrev Cl := Value × (Addr → Value → Option Addr → TS)
/-- the ends of a suite: its name's slot is emptied -/
def shut (D : Ends) (i : Nat) : Ends := { nx := fun σ H => D.nx (σ.set i none) H, rt := D.rt, bk := fun σ H => D.bk (σ.set i none) H, ct := fun σ H => D.ct (σ.set i none) H }
def wEach (K : PySem.W.Frag) (i : Nat) (Wo : WX) (D : Ends) : List Cl → WX
  | [] => Wo
  | k :: r => fun cls d σ H => ∃ b, PySem.W.exmOne K cls k.1 = some b ∧ (if b = true then ∀ a, H a = none → k.2 a cls d (shut D i) (σ.set i (some (.ref a))) H else wEach K i Wo D r cls d σ H)
inductive Hds (X : Cx) (n : Str) : List ExceptHandler → List Cl → Prop
  | nil : Hds X n [] []
  | cons {x : Str} {k : Cl} {b₀ : Stmt} {su : List Stmt} {p q : Pos} {hs : List ExceptHandler} {l : List Cl} (hc : Names X x k.1)
      (run : ∀ (a : Addr) (oe : Obj) (cls : Value) (d : Option Addr) (pn : List (Addr × Obj)), Zc cls d oe → (∃ vs, oe.data = .fields vs) → PSs (X.suite a ((a, oe) :: pn)) (b₀ :: su) (k.2 a cls d)) (r : Hds X n hs l) :
      Hds X n (.ExceptHandler (some (.Name x p)) (some n) (b₀ :: su) q :: hs) (k :: l)
section
variable {X : Cx} {n : Str} {i : Nat} {pins : List (Addr × Obj)} {D : Ends}
/-- the suite's own ends, seen from outside -/
theorem shut_sp {a : Addr} {pr : Addr × Obj} {q : Pos} {f : Flow} {s : Shared} (ok : X.Ok) (hN : X.N.Nodup) (hi : X.N[i]? = some n) (hl : X.env.kindOf n = some .local)
    (z : SP (X.suite a (pr :: (X.pn ++ pins))) [] (shut D i) f s) : wpAny (model X.prog X.w) X.A (do bindName X.env n .none; unbindBehindTheSuite X.env n q) (fun _ s2 => SP X pins D f s2) X.xe s := by
  cases f with
  | ret u => obtain ⟨v, t, G, V, r, h⟩ := z; exact gone_ok (V.unsuite ok) hN hi hl fun _ U => ⟨v, _, _, U, r, h⟩
  | next => obtain ⟨t, G, V, h⟩ := z; exact gone_ok (V.unsuite ok) hN hi hl fun _ U => ⟨_, _, U, h⟩
  | brk => obtain ⟨t, G, V, h⟩ := z; exact gone_ok (V.unsuite ok) hN hi hl fun _ U => ⟨_, _, U, h⟩
  | cont => obtain ⟨t, G, V, h⟩ := z; exact gone_ok (V.unsuite ok) hN hi hl fun _ U => ⟨_, _, U, h⟩
theorem ps_try_each {body : List Stmt} {h₀ : ExceptHandler} {hs : List ExceptHandler} {l : List Cl} {pos : Pos} {tb : WX → TS} {Wo : WX} (hst : X.stack = X.env :: X.outer) (hfr : X.env.frame = some X.env.locals) (hN : X.N.Nodup) (hi : X.N[i]? = some n)
    (hl : X.env.kindOf n = some .local) (tk : Takes X Wo) (hb : ∀ (W : WX) (pn : List (Addr × Obj)) (xe : Value → Shared → Prop), Takes (X.tr pn xe) W → PassesOwn (model X.prog X.w) X.A X.env xe → PSs (X.tr pn xe) body (tb W))
    (hh : Hds X n (h₀ :: hs) l) : PS X (.Try body (h₀ :: hs) [] [] pos) (fun D σ H => tb (wEach X.K i Wo D l) D σ H) := by
  refine ⟨fun pins s σ H D I h => wpAny_Try_except ?_⟩
  have ok := I.ok
  let net : Value → Shared → Prop := fun e t => wpAny (model X.prog X.w) X.A (noteFrame e X.env) (fun _ t => wpAny (model X.prog X.w) X.A (setFlight e none) (fun _ t => wpAny (model X.prog X.w) X.A (handleBy e X.env (h₀ :: hs)) (SP X pins D) X.xe t) X.xe t) X.xe t
  have caught : Takes (X.tr (X.pn ++ pins) net) (wEach X.K i Wo D l) := fun u t xx => by
    obtain ⟨a, B, tI, ps, σ1, H1, cls, d, eu, V, nb, up, sky, na, os, ag, w⟩ := xx
    subst eu
    replace V : Inv X pins σ1 H1 tI := V.ofTry ok
    show wpAny _ X.A (noteFrame (.ref a) X.env) _ _ t
    refine Sky.land Zc.steady (by rw [ok.frames, hst]) hfr (by rw [← hst]; exact sky) fun g fl upg => ?_
    have at_ : ∀ {k : Heap}, t.heap.UpToSlots k → (HandSPX.FlyingZ B (X.env :: X.outer) a (Zc cls d) k) → ∃ oe, (∃ vs, oe.data = .fields vs) ∧ Zc cls d oe ∧ k.get? a = some oe ∧ Inv X pins σ1 H1 { t with heap := k } ∧ Inv (X.suite a ((a, oe) :: (X.pn ++ pins))) [] σ1 H1 { t with heap := k } := by
      intro k upk flk
      have U : Inv X pins σ1 H1 { t with heap := k } := V.landed nb flk.1 (up.trans upk) os ag
      obtain ⟨oe, vs, ge, gz, gd⟩ := flk.there
      have nf : a ∉ frs (X.env :: X.outer) := fun m => by
        obtain ⟨_, o2, e2, n2⟩ := flk.2.2.1.mem m
        rw [ge] at e2
        exact n2 _ (by rw [← Option.some.inj e2]; exact gd)
      have n1 : a ≠ X.env.locals := fun z => nf (List.mem_filterMap.mpr ⟨X.env, List.mem_cons_self, by rw [hfr, z]⟩)
      have n2 : a ∉ X.fs := fun m => by
        obtain ⟨v, mv, ev⟩ := List.mem_filterMap.mp m
        exact nf (List.mem_filterMap.mpr ⟨v, List.mem_cons_of_mem _ mv, ev⟩)
      exact ⟨oe, ⟨vs, gd⟩, gz, ge, U, U.suite ge gd na n1 n2⟩
    obtain ⟨oe, ⟨vs, gd⟩, gz, ge, U, Z⟩ := at_ upg fl
    have goes : ∀ {ks : List ExceptHandler} {m : List Cl}, Hds X n ks m → wEach X.K i Wo D m cls d σ1 H1 → wpAny (model X.prog X.w) X.A (handleBy (.ref a) X.env ks) (SP X pins D) X.xe { t with heap := g } := by
      intro ks m hk
      induction hk with
      | nil =>
        intro w
        refine wpAny_handleBy_nil ?_
        obtain ⟨c1, c2, c3, o1, v1, T1, oT, ts1, q1, q2, q3, q4, q5⟩ := id fl
        unfold PySem.passOn
        refine wpAny_bind (wpAny_field q1 q3 q4 ?_)
        rw [if_neg (by simp)]
        have out : wpAny (model X.prog X.w) X.A (setFlight (.ref a) X.env.frame) (fun _ t4 => wpAny (model X.prog X.w) X.A (throw (.ref a) : Sem Flow) (SP X pins D) X.xe t4) X.xe { t with heap := g } := by
          rw [hfr]
          exact HandSPX.setFlight_upZ fl fun k hk upk => wpAny_throw (tk _ _ ⟨a, B, tI, pins, σ1, H1, cls, d, rfl, V, nb, (up.trans upg).trans upk, .inr (.inr (by rw [hst]; exact hk)), na, os, ag, w⟩)
        first
          | exact wpAny_bind (wpAny_pure (wpAny_bind out))
          | exact wpAny_bind out
      | @cons x k b₀ su p q hs2 l2 hc run _ ih =>
        intro w
        obtain ⟨b, eb, w⟩ := w
        refine wpAny_handleBy_cons (codeAny_handlers_test ?_) (by intro q; cases q)
        have ty : PySem.W.Looks (model X.prog X.w) g (typeOf (.ref a)) cls := fun _ _ _ _ k2 z => wpAny_typeOf_ref (k2 _ _ ge) (by rw [gz.1]; exact z)
        have say : ∀ {Q : Value → Shared → Prop} {E : Value → Shared → Prop}, Q k.1 { t with heap := g } → wpAny (model X.prog X.w) (X.A.mark (some (.ref a))) (eval (.Name x p) X.env) Q E { t with heap := g } := fun z => by
          rcases hc with ⟨y1, y2, y3 | ⟨y3, y4, y5⟩⟩
          · exact ld_glob (X := X.suite a ((a, oe) :: (X.pn ++ pins))) Z y1 y3 z y2
          · exact ld_blt (X := X.suite a ((a, oe) :: (X.pn ++ pins))) Z y1 y3 y4 z y5 y2
        refine say ((PySem.W.exm_one (M := model X.prog X.w) U.kIn ty eb).here ?_)
        cases b with
        | false => exact ih w
        | true =>
          refine codeAny_handlers_suite_as (HandSPX.lands_againZ fl fun k4 fl4 up4 => ?_)
          obtain ⟨o4, d4, z4, g4, U4, Z4⟩ := at_ (upg.trans up4) fl4
          refine store_ok (X := X.suite a ((a, o4) :: (X.pn ++ pins))) (v := .ref a) Z4 hN hi (.inl hl) rfl (fun t5 Z5 => ?_) (.inr hl)
          exact wpAny_mono ((run a o4 cls d (X.pn ++ pins) z4 d4).run [] t5 _ H1 _ Z5 (w a na)) (fun f t6 sp => shut_sp ok hN hi hl sp) (fun _ _ z => False.elim z)
    exact goes hh w
  refine wpAny_mono ((hb (wEach X.K i Wo D l) (X.pn ++ pins) net caught PassesOwn.looking).run [] s σ H D (I.toTry _) h) (fun f t sp => ?_) (fun _ _ z => z)
  cases f with
  | ret u => obtain ⟨v, t1, G, V, r, z⟩ := sp; exact ⟨v, t1, G, V.ofTry ok, r, z⟩
  | next => obtain ⟨t1, G, V, z⟩ := sp; exact wpAny_execs_nil ⟨t1, G, V.ofTry ok, z⟩
  | brk => obtain ⟨t1, G, V, z⟩ := sp; exact ⟨t1, G, V.ofTry ok, z⟩
  | cont => obtain ⟨t1, G, V, z⟩ := sp; exact ⟨t1, G, V.ofTry ok, z⟩
end
/-! ### a method, a class, called with keywords alone -/
def tMethK (C : Addr) (m : Str) (sp : Sp) (gV : List V → List V → List V) (E : XK) (ta : TE) (tk : TA) : TE := fun σ H Q => ta σ H fun x H1 => ∃ a dx fs, x = .ref a ∧ H1 a = some (.ins C dx fs) ∧ fs.lookup m = none ∧ tk σ H1 fun zs H2 => sp (gV [.ref a] zs) H2 Q E
section
variable {X : Cx} {CX : CXT} {k : Nat} {f C : Addr} {fd : FuncData} {ps ks : List Str} {sp : Sp} {E : XK} {x m : Str} {p pos apos : Pos} {o : Expr} {kws : List Keyword} {ta : TE} {tk : TA} {g : List Value → List Value → List Value} {gV : List V → List V → List V}
theorem pe_methK0 {pl : Sem Bool} (ho : PE X o ta) (c : Cls X.K C) (hm : Meth X.K C m f) (F : FnOk X.prog X.w X.K X.mg X.base CX k f fd ps sp) (hr : Room k X.A) (hb : KBinds X.K fd ps ks g gV) (hx : Passes CX X E) (hkw : PK X kws tk)
    (hall : (backToKw pos (keywordEach kws X.env)).all (·.1.isSome) = true := by rfl) (hks : (backToKw pos (keywordEach kws X.env)).filterMap (·.1) = ks := by rfl)
    (hpl : ((backTo pos (starEach [] X.env)).any (·.1) || (backToKw pos (keywordEach kws X.env)).any (·.1.isNone)) = false := by rfl)
    (ht : eval (.Call (.Attribute o m apos) [] kws pos) X.env = (eval o X.env >>= fun ov => standAt apos.atName >>= fun _ => holding [ov] (getMethod ov m pl) >>= fun q => callWith pos q.1 q.2 (backTo pos (starEach [] X.env)) (backToKw pos (keywordEach kws X.env))) := by rfl) :
    PE X (.Call (.Attribute o m apos) [] kws pos) (tMethK C m sp gV E ta tk) := ⟨fun pins s σ H Q I h => by
  refine PySem.W.methodCall_KW (pl := pl) (thn (ho.run pins s σ H _ I h) fun u s1 z => ?_) ht
  obtain ⟨v, H1, I1, rv, a, dx, fs, rfl, ea, l, q⟩ := z
  cases rv
  refine getmeth_ok I1 ea c hm l (PySem.W.callWith_KW0 (first := [.ref a]) (h₀ := X.base) I.ok.mod.kin hm.kp hall (thn (hkw.run pos pins s1 σ H1 _ I1 q) fun ws s2 z => ?_) hpl)
  obtain ⟨zs, H2, I2, rz, q2⟩ := z
  refine ⟨I2.kIn, ?_⟩
  rw [hks]
  exact run_fnk (us := [.ref a]) (vs := [.ref a]) F hr hb hx I2 (.cons rfl .nil) rz q2⟩
theorem kbn_of {n j : Nat} (hb : KBinds X.K fd ps ks g gV) (hj : ks.length = j) (hl : ∀ us ws : List Value, us.length = n → ws.length = j → (g us ws).length = ps.length) : KBn X.K fd ps n ks g gV :=
  ⟨fun s us ws X0 l1 l2 => hb.to s us ws X0 (hl us ws l1 (l2.trans hj)), fun a b => hb.rel a b⟩
end
/-! ### != of lists -/
open SeqAt MeetsSeq MeetsSeq2 MeetsSeq3 AutoSeq1 SeqRoads2 in
section
variable {prog : Program} {w : World}
/-- from the i-th items on all are equal: the loop says no -/
theorem ne_turns {l b : Addr} {xs ys : Array Value} {n n' : Nat} {u u' : Option Addr} {z z' : Array (Option Value)} (hs : xs.size = ys.size) (k : Nat) : ∀ i : Nat, xs.size - i = k → MeetsIn prog w (Builtin.«list.__eq__.loop» ⟨[.ref l, .ref b, rawInt i, rawInt 3], []⟩)
    (fun A R s => s.heap.get? l = some { cls := .type "list", dict := u, data := .seq xs n, slots := z } ∧ s.heap.get? b = some { cls := .type "list", dict := u', data := .seq ys n', slots := z' } ∧
      (∀ j (h1 : j < xs.size) (h2 : j < ys.size), EqP prog w A.in1 s xs[j] ys[j] true) ∧ R (.ok (.ret (.bool false))) s) := by
  induction k with
  | zero =>
    intro i hk A R s ⟨hl, hb, he, h⟩
    obtain ⟨hp, g, d, tk, os⟩ := s
    have e1 : xs[((i : Nat) : Int).toNat]? = none := by simp; omega
    have e2 : ys[((i : Nat) : Int).toNat]? = none := by simp; omega
    wp_walk using wpAny_loadPart' hl, wpAny_loadPart' hb
    rw [e1, e2]
    wp_walk using wpAny_loadPart' hl, wpAny_loadPart' hb
    show R (.ok (.ret (.bool (xs.size != ys.size)))) _
    rw [show (xs.size != ys.size) = false by simp [hs]]
    exact h
  | succ k ih =>
    intro i hk A R s ⟨hl, hb, he, h⟩
    obtain ⟨hp, g, d, tk, os⟩ := s
    have i1 : i < xs.size := by omega
    have i2 : i < ys.size := by omega
    have e1 : xs[((i : Nat) : Int).toNat]? = some xs[i] := by simp [i1]
    have e2 : ys[((i : Nat) : Int).toNat]? = some ys[i] := by simp [i2]
    wp_walk using wpAny_loadPart' hl, wpAny_loadPart' hb
    rw [e1, e2]
    refine wpAny_bind (he i i1 i2 _ _ ?_)
    wp_walk
    rw [show ((i : Int) + 1) = ((i + 1 : Nat) : Int) by push_cast; rfl]
    refine ⟨plainId_quiet plain_eq_loop _, codeAny_builtin entry_eq_loop ?_⟩
    rw [Around.under_plainId plain_eq_loop _]
    exact ih (i + 1) (by omega) A R _ ⟨hl, hb, he, h⟩
theorem ne_whole {l b : Addr} {xs ys : Array Value} {n n' : Nat} {u u' : Option Addr} {z z' : Array (Option Value)} (hs : xs.size = ys.size) : MeetsIn prog w (Builtin.«list.__ne__» ⟨[.ref l, .ref b], []⟩)
    (fun A R s => s.heap.get? l = some { cls := .type "list", dict := u, data := .seq xs n, slots := z } ∧ s.heap.get? b = some { cls := .type "list", dict := u', data := .seq ys n', slots := z' } ∧
      (∀ j (h1 : j < xs.size) (h2 : j < ys.size), EqP prog w A.in1 s xs[j] ys[j] true) ∧ R (.ok (.ret (.bool false))) s) := by
  intro A R s ⟨hl, hb, he, h⟩
  obtain ⟨hp, g, d, tk, os⟩ := s
  have f3 := AutoSeq1.sub_list_list
  have no : ¬ (xs.size != ys.size) = true := by simp [hs]
  wp_walk using wpAny_loadPart' hl, wpAny_loadPart' hb
  refine ⟨plainId_quiet plain_eq_loop _, codeAny_builtin entry_eq_loop ?_⟩
  rw [Around.under_plainId plain_eq_loop _]
  exact ne_turns hs _ 0 rfl A R _ ⟨hl, hb, he, h⟩
theorem ne_same {A : Around} {s : Shared} {l b : Addr} {xs ys : Array Value} {E Q : Value → Shared → Prop} (hl : s.heap.IsList l xs) (hb : s.heap.IsList b ys) (hs : xs.size = ys.size) (hu : A.units < cLine)
    (he : ∀ j (h1 : j < xs.size) (h2 : j < ys.size), EqP prog w A.in1 s xs[j] ys[j] true) (h : Q (.bool false) s) : wpAny (model prog w) A (richCompare .NotEq (.ref l) (.ref b)) Q E s := by
  obtain ⟨⟨c, u, da, z⟩, o1, rfl, n, rfl⟩ := id hl
  obtain ⟨⟨c', u', da', z'⟩, o2, rfl, n', rfl⟩ := id hb
  have no : Value.bool false ≠ Value.notImplemented := fun x => nomatch x
  exact wpAny_richCompare_same_room (op := .NotEq) ⟨_, o1, rfl⟩ ⟨_, o2, rfl⟩ F.slot_list_ne (call_meetsIn F.slot_list_ne ⟨_, o1, rfl⟩ F.entry_list_ne (F.args_list_ne_2 _ _) (ne_whole hs) ⟨o1, o2, he, no, h⟩) hu
end
section
variable {X : Cx}
/-- items that are the same, or equal lists and dicts of such -/
def rNeV (K : PySem.W.Frag) : R2 := fun x y H Q => ∃ a b xs ys n, x = .ref a ∧ y = .ref b ∧ SqL K H a xs ∧ SqL K H b ys ∧ n ≤ 60 ∧ Paired (EqV K H n) xs ys ∧ Q (.bl false) H
theorem op_neV (hu : X.A.units + 64 < cLine) : OpR X (compareOp .NotEq) (rNeV X.K) := by
  intro pins s σ H x y v u Q I rx ry h
  obtain ⟨a, b, xs, ys, n, rfl, rfl, ha, hb, hn, hp, q⟩ := h
  cases rx
  cases ry
  obtain ⟨us, r1, p1, _⟩ := I.list ha
  obtain ⟨ws, r2, p2, _⟩ := I.list hb
  have hs : us.toArray.size = ws.toArray.size := by
    rw [List.size_toArray, List.size_toArray, ← r1.length, ← r2.length]
    exact Paired.length hp
  refine ne_same p1.isList p2.isList hs (by omega) (fun j h1 h2 => ?_) ⟨.bl false, H, I, rfl, q⟩
  have k := items_run (eqV_run I n X.A.in1 (by show X.A.units + 1 + n < cLine; omega)) hp r1 r2 j (by simpa using h1) (by simpa using h2)
  simpa using k
def rNeM (K : PySem.W.Frag) : R2 := fun x y H Q => rNeD K x y H Q ∨ rNeV K x y H Q
theorem op_neM (hu : X.A.units + 64 < cLine) : OpR X (compareOp .NotEq) (rNeM X.K) := by
  intro pins s σ H x y v u Q I rx ry h
  rcases h with h | h
  · exact op_neD hu pins s σ H x y v u Q I rx ry h
  · exact op_neV hu pins s σ H x y v u Q I rx ry h
/-- a list against the empty list -/
def rNeE (K : PySem.W.Frag) : R2 := fun x y H Q => ∃ a b xs, x = .ref a ∧ y = .ref b ∧ SqL K H a xs ∧ SqL K H b [] ∧ Q (.bl (!xs.isEmpty)) H
theorem op_neE (hu : X.A.units + 64 < cLine) : OpR X (compareOp .NotEq) (rNeE X.K) := by
  intro pins s σ H x y v u Q I rx ry h
  obtain ⟨a, b, xs, rfl, rfl, ha, hb, q⟩ := h
  cases xs with
  | nil => exact op_neV hu pins s σ H _ _ v u Q I rx ry ⟨a, b, [], [], 1, rfl, rfl, ha, hb, by decide, .nil, q⟩
  | cons z r =>
    cases rx
    cases ry
    obtain ⟨us, r1, p1, _⟩ := I.list ha
    obtain ⟨ws, r2, p2, _⟩ := I.list hb
    have hs : (us.toArray.size != ws.toArray.size) = true := by
      rw [List.size_toArray, List.size_toArray, ← r1.length, ← r2.length]
      rfl
    exact SeqAt.RcNeAt.lists_lengths p1.isList p2.isList hs (by omega) _ _ _ _ ⟨.bl true, H, I, rfl, q⟩
end
end Try

set_option Elab.async false
set_option linter.all false
set_option maxRecDepth 100000
set_option maxHeartbeats 4000000
namespace Try
open PySem PySem.Spec PyProof.Rows L2 Rl Dr _root_.Tx Ex Er So Wi
/-! ### tuple * n, n = 1 too: the tuple itself -/
theorem tup_once (l : Addr) (its : Array Value) (n : Nat) (dd : Option Addr) (sl : Array (Option Value)) (u : Tok) :
    Meets (Builtin.«tuple.__mul__» ⟨[.ref l, .int 1 u], []⟩) (fun _ R s => s.heap.get? l = some { cls := .type "tuple", dict := dd, data := .seq its n, slots := sl } ∧ R (.ok (.ret (Value.ref l))) s) := .of_wp fun prog w A R s h => by
  obtain ⟨hp, g, d, tk, os⟩ := s
  obtain ⟨hl, h⟩ := h
  have f1 := AutoSeq1.idx_int
  wp_walk using wpAny_loadPart' hl
  exact ⟨_, rfl, h⟩
def rRepA (K : PySem.W.Frag) : R2 := fun x y H Q => ∃ l k xs, x = .ref l ∧ y = .int k ∧ SqT K H l xs ∧ xs ≠ [] ∧ 1 ≤ k ∧ k ≤ 1000 ∧ xs.length ≤ 1000 ∧ (k = 1 → Q (.ref l) H) ∧ (k ≠ 1 → ∀ p, H p = none → Q (.ref p) (upd H p (.tup (List.replicate k.toNat xs).flatten)))
theorem op_repA {X : Cx} : OpR X (binaryOp .Mult) (rRepA X.K) := by
  intro pins s σ H x y v u Q I rx ry h
  obtain ⟨l, k, xs, rfl, rfl, hT, hne, h1, h2, hz, q1, q2⟩ := h
  by_cases e : k = 1
  · subst e
    cases rx
    obtain ⟨t, rfl⟩ := ry
    obtain ⟨its, r, ⟨⟨cls, dd, data, sl⟩, ho, rfl, n, rfl⟩, hs⟩ := I.tuple hT
    exact wpAny_binaryOp_repeat_ref (T := "tuple") (U := "int") (by decide) ⟨_, ho, rfl⟩ (fun s' => typeIs_int s' 1 t) noFill_tuple_mul F.fills_int_mul F.slot_int_rmul repeat_tuple F.slot_int_index.lookup
      (call_meets F.slot_int_rmul (typeIs_int s 1 t) F.entry_int_rmul (F.args_int_rmul_2 _ _) (int_rmul_tuple 1 t l its.toArray n dd sl)
        ⟨ho, rfl, ⟨_, ho, rfl⟩, call_meets F.slot_tuple_mul ⟨_, ho, rfl⟩ F.entry_tuple_mul (F.args_tuple_mul_2 _ _) (tup_once l its.toArray n dd sl t) ⟨ho, .ref l, H, I, rfl, q1 rfl⟩⟩)
  · exact op_repT pins s σ H _ _ v u Q I rx ry ⟨l, k, xs, rfl, rfl, hT, hne, by omega, h2, hz, q2 e⟩
/-! ### an own def, run around deeper -/
theorem run_at {X : Cx} {CX : CXT} {n : Nat} {f : Addr} {fd : FuncData} {ps : List Str} {sp : Sp} {E : XK} {A : Around} {pins : List (Addr × Obj)} {σ : L2.St} {H : Hp} {s : Shared} {Q : VK} {us : List Value} {vs : List V} (fr : A.frames = X.A.frames)
    (F : FnOk X.prog X.w X.K X.mg X.base CX n f fd ps sp) (hr : Room n A) (hb : Binds X.K fd ps []) (hx : Passes CX X E) (I : Inv X pins σ H s) (r : Vals vs us) (h : sp vs H Q E) : wpAny (model X.prog X.w) A (call (.ref f) us) (EP X pins σ Q) X.xe s := by
  have e0 : Env0 X.prog X.w X.K X.mg X.base A X.stack s H := by
    have e := I.env0
    exact ⟨by rw [fr]; exact e.frames, e.mod, e.bs, e.bsz, e.funs, e.frf, e.hok, e.bare⟩
  have hl : us.length = ps.length := by rw [← r.length]; exact F.len _ _ _ _ h
  have bd := hb s us I.kIn (by simpa using hl)
  rw [List.append_nil] at bd
  refine wpAny_call (codeAny_mono (F.run A X.stack s H ⟨us, []⟩ us vs Q E hr e0 bd r h) fun o s' ho => ?_)
  match o, ho with
  | .error e, ho => exact hx pins σ H s e s' I ho
  | .ok (.ret z), ho => exact I.after ho
  | .ok .next, ho => exact False.elim ho
  | .ok .brk, ho => exact False.elim ho
  | .ok .cont, ho => exact False.elim ho
/-- str(o), o's class with an own __str__ -/
def rStrO (C : Addr) (sp : Sp) (E : XK) : List V → Hp → VK → Prop := fun xs H Q => ∃ a dx fs, xs = [.ref a] ∧ H a = some (.ins C dx fs) ∧ sp [.ref a] H (fun v H' => (∃ z, v = V.str z) ∧ Q v H') E
theorem call_strO {X : Cx} {CX : CXT} {n : Nat} {C f : Addr} {fd : FuncData} {ps : List Str} {sp : Sp} {E : XK} (F : FnOk X.prog X.w X.K X.mg X.base CX n f fd ps sp) (hr : Room (n + 2) X.A) (hm : Meth X.K C "__str__" f) (hb : Binds X.K fd ps []) (hx : Passes CX X E) :
    CallR X (.type "str") (rStrO C sp E) := by
  intro pins s σ H xs us Q I r h
  obtain ⟨a, dx, fs, rfl, ha, hs⟩ := h
  rw [Vals.ref1 r]
  obtain ⟨mA, J, _⟩ := ins_get I.hok ha
  obtain ⟨od, J, _⟩ := J.look
  have hr2 : Room n X.A.in1.in1 := hr.in1.in1
  refine PySem.W.kso_call hr2.units0 I.kIn J hm.at_ hm.fn (wpAny_mono (run_at (A := X.A.in1.in1) (vs := [V.ref a]) rfl F hr2 hb hx I (.cons rfl .nil) hs) (fun v s' z => ?_) fun _ _ z => z)
  obtain ⟨x, H', I', rx, ⟨y, rfl⟩, q⟩ := z
  obtain ⟨t, rfl⟩ := rx
  exact ⟨.str y, H', I', ⟨t, rfl⟩, q⟩
/-! ### != by the class's own == -/
open Builtin in
theorem ifBound_B {M : Model} {A : Around} {E : Value → Shared → Prop} {s : Shared} {K : PySem.W.Frag} {x C : Addr} {ox od : Obj} {name : Str} {id : String} {args : List Value} {Q : Option Value → Shared → Prop} (X : K.In s.heap) (I : PySem.W.InstAt s.heap x ox C od)
    (hs : PySem.W.findIn K (.ref C) name = some (some (.builtin id))) (hb : ∀ self, bindSpecial (.builtin id) self = pure (.builtin id, [self])) (h : wpAny M A (call (.builtin id) (.ref x :: args)) (fun v => Q (some v)) E s) :
    wpAny M A (callSpecialIfBound? (.ref x) name args) Q E s := by
  have fin : wpAny M A (call (.builtin id) ([.ref x] ++ args) >>= fun v => pure (some v)) Q E s := wpAny_bind (wpAny_mono h (fun v s' z => wpAny_pure z) fun _ _ z => z)
  simp only [callSpecialIfBound?, bindSpecialIfBound?]
  refine wpAny_holding (wpAny_bind (wpAny_bind (wpAny_bind (I.type.here ((PySem.W.looks_findIn X hs).here (wpAny_bind (wpAny_askSetting (wpAny_ite ?_))))))))
  split
  · exact wpAny_bind ((PySem.W.Looks.of_pure (hb _)).here (wpAny_pure (by exact fin)))
  · exact wpAny_tryCatch (wpAny_bind ((PySem.W.Looks.of_pure (hb _)).here (wpAny_pure (by exact fin))))
open Builtin in
/-- != of an instance and an instance of the same class -/
theorem ne_own {prog : Program} {w : World} {A : Around} {E : Value → Shared → Prop} {s : Shared} {K : PySem.W.Frag} {x y C f : Addr} {ox od oy oe : Obj} {Q : Value → Shared → Prop} (hu : A.units + 1 < cLine) (X : K.In s.heap) (I : PySem.W.InstAt s.heap x ox C od) (J : PySem.W.InstAt s.heap y oy C oe)
    (hn : PySem.W.findIn K (.ref C) "__ne__" = some (some (.builtin "object.__ne__"))) (hm : PySem.W.mroIn K C (.type "object") = some true) (hs : PySem.W.findIn K (.ref C) "__eq__" = some (some (.ref f))) (hf : PySem.W.isFn K (.ref f) = true)
    (h : wpAny (model prog w) A.in1 (call (.ref f) [.ref x, .ref y]) (fun v s' => ∃ b, v = .bool b ∧ Q (.bool (!b)) s') E s) : wpAny (model prog w) A (richCompare .NotEq (.ref x) (.ref y)) Q E s := by
  have one : wpAny (model prog w) A (tryCompare (.ref x) (cmpInfo .NotEq).2.1 (.ref y)) (fun r s' => ∃ b, r = some (.bool b) ∧ Q (.bool b) s') E s := by
    unfold tryCompare
    refine wpAny_bind (ifBound_B X I hn F.slot_object_ne.bind (wpAny_call (codeAny_call_builtin F.slot_object_ne.plain F.entry_object_ne (PySem.W.check_slot (i := "object.__ne__") (owner := "object") (n := "__ne__") (by decide +kernel) (by decide +kernel) (I.type.andThen (PySem.W.looks_mroIn X hm)) (F.args_object_ne_2 _ _) ?_))))
    unfold Builtin.«object.__ne__»
    refine wpAny_bind (m := slotArgs "__ne__" 1 _) (wpAny_pure ?_)
    refine wpAny_bind (m := cRoomFor _ _) (wpAny_cRoomFor hu ?_)
    refine wpAny_bind (m := callSpecialIfBound? (.ref x) (Str.ofString "__eq__") _) (PySem.W.ifBound_K X I hs hf (wpAny_mono h (fun v s' z => ?_) fun _ _ z => z))
    obtain ⟨b, rfl, q⟩ := z
    refine wpAny_bind (wpAny_truthy_bool ?_)
    first
      | exact wpAny_pure (wpAny_pure ⟨_, rfl, q⟩)
      | exact ⟨_, rfl, wpAny_pure ⟨_, rfl, q⟩⟩
      | exact wpAny_pure ⟨_, rfl, wpAny_pure ⟨_, rfl, q⟩⟩
  unfold richCompare
  simp only [oneThing_ref]
  refine wpAny_holding (wpAny_bind (wpAny_cRoomFor (Nat.lt_of_succ_lt hu) (wpAny_bind (I.type.here (wpAny_bind (J.type.here ?_))))))
  rw [if_neg (by simp)]
  refine wpAny_bind (wpAny_pure ?_)
  simp only [Bool.false_eq_true, if_false]
  refine wpAny_bind (wpAny_mono one (fun r s' z => ?_) fun _ _ z => z)
  obtain ⟨b, rfl, q⟩ := z
  exact wpAny_pure q
/-- o != q, both of the class -/
def rNeI (C : Addr) (R : Addr → V → Bool → Hp → Prop) : R2 := fun x y H Q => ∃ a b dx dy fs gs r, x = .ref a ∧ y = .ref b ∧ H a = some (.ins C dx fs) ∧ H b = some (.ins C dy gs) ∧ R a (.ref b) r H ∧ ∀ H', Same H H' → Q (.bl (!r)) H'
theorem op_neI {X : Cx} {CX : CXT} {C f : Addr} {fd : FuncData} {ps : List Str} {n : Nat} {R : Addr → V → Bool → Hp → Prop} {E : XK} (F : FnOk X.prog X.w X.K X.mg X.base CX n f fd ps (Cmp.spEqI R)) (hr : Room (n + 1) X.A)
    (hn : PySem.W.findIn X.K (.ref C) "__ne__" = some (some (.builtin "object.__ne__"))) (hm : PySem.W.mroIn X.K C (.type "object") = some true) (ht : Meth X.K C "__eq__" f) (hb : Binds X.K fd ps []) (hx : Passes CX X E) : OpR X (compareOp .NotEq) (rNeI C R) := by
  intro pins s σ H x y v u Q I rx ry h
  obtain ⟨a, b, dx, dy, fs, gs, r, rfl, rfl, ha, hb', hR, q⟩ := h
  cases rx
  cases ry
  obtain ⟨mA, J, _⟩ := ins_get I.hok ha
  obtain ⟨mB, J', _⟩ := ins_get I.hok hb'
  obtain ⟨od, J, _⟩ := J.look
  obtain ⟨oe, J', _⟩ := J'.look
  have hu : X.A.units + 1 < cLine := hu_of hr
  have hsp : Cmp.spEqI R [.ref a, .ref b] H (fun v H' => v = .bl r ∧ Same H H') E := ⟨a, .ref b, r, rfl, hR, fun H' s => ⟨rfl, s⟩⟩
  refine ne_own hu I.kIn J J' hn hm ht.at_ ht.fn (wpAny_mono (run_at (A := X.A.in1) (vs := [V.ref a, V.ref b]) rfl F hr.in1 hb hx I (.cons rfl (.cons rfl .nil)) hsp) (fun v s' z => ?_) fun _ _ z => z)
  obtain ⟨x, H', I', rx, rfl, sm⟩ := z
  cases rx
  exact ⟨r, rfl, .bl (!r), H', I', rfl, q H' sm⟩
/-! ### C(k = v, ..) where KBinds tells the binding -/
theorem pe_makeW {X : Cx} {CX : CXT} {k : Nat} {f C : Addr} {fd : FuncData} {ps ks : List Str} {sp : Sp} {E : XK} {x : Str} {p pos : Pos} {kws : List Keyword} {tk : TA} {g : List Value → List Value → List Value} {gV : List V → List V → List V}
    (M : Mk X.K C f) (F : FnOk X.prog X.w X.K X.mg X.base CX k f fd ps sp) (hr : Room (k + 1) X.A) (hg : Gl X x) (hm : X.mg x = some (.ref C)) (hb : KBinds X.K fd ps ks g gV) (hl : ∀ us ws : List Value, us.length = 1 → ws.length = ks.length → (g us ws).length = ps.length) (hx : Passes CX X E) (hkw : PK X kws tk)
    (hall : (backToKw pos (keywordEach kws X.env)).all (·.1.isSome) = true := by rfl) (hks : (backToKw pos (keywordEach kws X.env)).filterMap (·.1) = ks := by rfl) (hdb : (x == ("__debug__" : Str)) = false := by decide)
    (hpl : ((backTo pos (starEach [] X.env)).any (·.1) || (backToKw pos (keywordEach kws X.env)).any (·.1.isNone)) = false := by rfl) : PE X (.Call (.Name x p) [] kws pos) (tMakeK C 0 ks.length sp gV E tNil tk) :=
  pe_makeK0 M F hr hg hm (kbn_of hb rfl hl) hx hkw hall hks hdb hpl
end Try

set_option Elab.async false
set_option linter.all false
set_option maxRecDepth 100000
set_option maxHeartbeats 4000000
namespace Try
open PySem PySem.Spec PyProof.Rows L2 Rl Dr _root_.Tx Ex Er So Wi
open AutoSeq1 (wpAny_loadPart')
/-! ### == of a builtin value and an instance: the value's own == declines -/
theorem meets_int_ins (b : Int) (u : Tok) (a C dx : Addr) : Meets (Builtin.«int.__eq__» ⟨[.int b u, .ref a], []⟩) (fun _ R s => s.heap.get? a = some (PySem.W.instObj C dx) ∧ R (.ok (.ret .notImplemented)) s) := .of_wp fun prog w A R s h => by
  obtain ⟨hp, g, d, tk, os⟩ := s
  obtain ⟨hl, h⟩ := h
  unfold PySem.W.instObj at hl
  wp_walk using wpAny_loadPart' hl, wpAny_load hl
  exact ⟨_, rfl, h⟩
theorem meets_str_ins (b : Str) (u : Tok) (a C dx : Addr) : Meets (Builtin.«str.__eq__» ⟨[.str b u, .ref a], []⟩) (fun _ R s => s.heap.get? a = some (PySem.W.instObj C dx) ∧ R (.ok (.ret .notImplemented)) s) := .of_wp fun prog w A R s h => by
  obtain ⟨hp, g, d, tk, os⟩ := s
  obtain ⟨hl, h⟩ := h
  unfold PySem.W.instObj at hl
  wp_walk using wpAny_loadPart' hl, wpAny_load hl
  exact ⟨_, rfl, h⟩
section
variable {prog : Program} {w : World} {A : Around} {E : Value → Shared → Prop} {s : Shared} {K : PySem.W.Frag} {a C dx : Addr}
theorem decl_none {Q : Value → Shared → Prop} (h : Q .notImplemented s) : wpAny (model prog w) A (call (.builtin "NoneType.__eq__") [.none, .ref a]) Q E s :=
  call_gives F.slot_NoneType_eq rfl F.entry_NoneType_eq (F.args_NoneType_eq_2 _ _) (m := .val .notImplemented) (.of_wp fun M A E s Q h => by obtain ⟨hp, g, d, tk, os⟩ := s; wp_walk; exact ⟨_, rfl, h⟩) h
theorem decl_int {b : Int} {u : Tok} {Q : Value → Shared → Prop} (hl : s.heap.get? a = some (PySem.W.instObj C dx)) (h : Q .notImplemented s) : wpAny (model prog w) A (call (.builtin "int.__eq__") [.int b u, .ref a]) Q E s :=
  call_meets F.slot_int_eq (typeIs_int s b u) F.entry_int_eq (F.args_int_eq_2 _ _) (meets_int_ins b u a C dx) ⟨hl, h⟩
theorem decl_str {b : Str} {u : Tok} {Q : Value → Shared → Prop} (hl : s.heap.get? a = some (PySem.W.instObj C dx)) (h : Q .notImplemented s) : wpAny (model prog w) A (call (.builtin "str.__eq__") [.str b u, .ref a]) Q E s :=
  call_meets F.slot_str_eq (typeIs_str s b u) F.entry_str_eq (F.args_str_eq_2 _ _) (meets_str_ins b u a C dx) ⟨hl, h⟩
theorem decl_list {b : Addr} {its : Array Value} {Q : Value → Shared → Prop} (hb : s.heap.IsList b its) (hi : ∀ (A : Around) (Q : Bool → Shared → Prop) (E : Value → Shared → Prop), Q false s → wpAny (model prog w) A (isInstance (.ref a) (.type "list")) Q E s) (h : Q .notImplemented s) :
    wpAny (model prog w) A (call (.builtin "list.__eq__") [.ref b, .ref a]) Q E s := by
  obtain ⟨⟨c, u, da, z⟩, o1, rfl, n, rfl⟩ := id hb
  refine wpAny_call_entry F.slot_list_eq ⟨_, o1, rfl⟩ F.entry_list_eq ?_ (F.args_list_eq_2 _ _)
  obtain ⟨hp, g, d, tk, os⟩ := s
  wp_walk using hi _ _ _
  exact ⟨_, rfl, h⟩
theorem decl_tuple {b : Addr} {its : Array Value} {Q : Value → Shared → Prop} (hb : s.heap.IsTuple b its) (hi : ∀ (A : Around) (Q : Bool → Shared → Prop) (E : Value → Shared → Prop), Q false s → wpAny (model prog w) A (isInstance (.ref a) (.type "tuple")) Q E s) (h : Q .notImplemented s) :
    wpAny (model prog w) A (call (.builtin "tuple.__eq__") [.ref b, .ref a]) Q E s := by
  obtain ⟨⟨c, u, da, z⟩, o1, rfl, n, rfl⟩ := id hb
  refine wpAny_call_entry F.slot_tuple_eq ⟨_, o1, rfl⟩ F.entry_tuple_eq ?_ (F.args_tuple_eq_2 _ _)
  obtain ⟨hp, g, d, tk, os⟩ := s
  wp_walk using hi _ _ _
  exact ⟨_, rfl, h⟩
theorem decl_dict {b : Addr} {Q : Value → Shared → Prop} (hb : s.TypeIs (.ref b) "dict") (hi : ∀ (A : Around) (Q : Bool → Shared → Prop) (E : Value → Shared → Prop), Q false s → wpAny (model prog w) A (isInstance (.ref a) (.type "dict")) Q E s) (h : Q .notImplemented s) :
    wpAny (model prog w) A (call (.builtin "dict.__eq__") [.ref b, .ref a]) Q E s := by
  refine wpAny_call_entry F.slot_dict_eq hb F.entry_dict_eq ?_ (F.args_dict_eq_2 _ _)
  obtain ⟨hp, g, d, tk, os⟩ := s
  wp_walk using hi _ _ _
  exact ⟨_, rfl, h⟩
/-- == where the value's own == declines and the instance's def is asked -/
theorem rc_odd {u : Value} {T id : String} {f : Addr} {od : Obj} {Q : Value → Shared → Prop} (hu : A.units < cLine) (X : K.In s.heap) (hT : s.TypeIs u T) (h1 : Slot T (cmpInfo .Eq).2.1 id) (hc : ∀ Q' : Value → Shared → Prop, Q' .notImplemented s → wpAny (model prog w) A (call (.builtin id) [u, .ref a]) Q' E s)
    (J : PySem.W.InstAt s.heap a (PySem.W.instObj C dx) C (some od)) (hm : PySem.W.mroIn K C (.type T) = some false) (hs : PySem.W.findIn K (.ref C) "__eq__" = some (some (.ref f))) (hf : PySem.W.isFn K (.ref f) = true)
    (h : wpAny (model prog w) A (call (.ref f) [.ref a, u]) (fun v s' => v = .bool false ∧ Q (.bool false) s') E s) : wpAny (model prog w) A (richCompare .Eq u (.ref a)) Q E s := by
  rcases hi : cmpInfo CmpOp.Eq with ⟨sym, fn, r⟩
  rw [hi] at h1
  have er : r = "__eq__" := by
    have : (cmpInfo CmpOp.Eq).2.2 = r := by rw [hi]
    exact this.symm
  subst er
  simp only [richCompare, hi, hT.oneThing_none]
  refine wpAny_holding (wpAny_bind (wpAny_cRoomFor hu (wpAny_bind (wpAny_typeOf hT (wpAny_bind (J.type.here ?_))))))
  have ne : (Value.type T != Value.ref C) = true := by simp
  simp only [ne, if_true]
  refine wpAny_bind ((PySem.W.looks_subIn X (show PySem.W.subIn K (.ref C) (.type T) = some false from hm)).here ?_)
  simp only [Bool.false_eq_true, if_false, Bool.not_false, if_true]
  refine wpAny_bind (m := tryCompare u _ _) (wpAny_tryCompare_declines hT h1 (hc _ ⟨rfl, ?_⟩))
  refine wpAny_bind (m := tryCompare (.ref a) _ u) ?_
  unfold tryCompare
  refine wpAny_bind (PySem.W.ifBound_K X J hs hf (wpAny_mono h (fun v s' z => ?_) fun _ _ z => z))
  obtain ⟨rfl, q⟩ := z
  first
    | exact wpAny_pure (wpAny_pure q)
    | exact wpAny_pure q
end
/-! ### x in a list, the items' == running defs of the text -/
open SeqAt MeetsSeq MeetsSeq2 MeetsSeq3 SeqRoads2 in
section
variable {prog : Program} {w : World} {A : Around} {R : Result → Shared → Prop}
def Reads1 (prog : Program) (w : World) (A : Around) (R : Result → Shared → Prop) (l : Addr) (x : Value) (N : Nat) (I : Nat → Shared → Prop) : Prop := ∀ i s, I i s → ∃ (its : Array Value) (n : Nat) (u : Option Addr) (z : Array (Option Value)),
  s.heap.get? l = some { cls := .type "list", dict := u, data := .seq its n, slots := z } ∧ its.size = N ∧ ∀ h : i < its.size, wpAny (model prog w) A.in1 (eqBool its[i] x) (fun r s' => r = false ∧ I (i + 1) s') (fun e s' => R (.error e) s') s
theorem nin_turns {l : Addr} {x : Value} {N : Nat} {I : Nat → Shared → Prop} (hl : Reads1 prog w A R l x N I) (fin : ∀ s, I N s → R (.ok (.ret (.bool false))) s) (k : Nat) : ∀ i : Nat, N - i = k → i ≤ N → ∀ s, I i s →
    wpAny (model prog w) A.in1 (Builtin.«list.__contains__.loop» ⟨[.ref l, x, rawInt i], []⟩) (fun f s' => match f with | .done f => R (.ok f) s' | .again c => c.quiet = true ∧ codeAny (model prog w) A c R s') (fun e s' => R (.error e) s') s := by
  induction k with
  | zero =>
    intro i hk hi s h
    obtain ⟨its, n, u, z, hg, hs, _⟩ := hl _ _ h
    obtain rfl : i = N := by omega
    have done := fin s h
    obtain ⟨hp, g, d, tk, os⟩ := s
    wp_walk using wpAny_loadPart' hg
    have e1 : its[((i : Nat) : Int).toNat]? = none := by simp; omega
    rw [e1]
    wp_walk
    exact done
  | succ k ih =>
    intro i hk hi s h
    obtain ⟨its, n, u, z, hg, hs, turn⟩ := hl _ _ h
    have lt : i < its.size := by omega
    have t := turn lt
    obtain ⟨hp, g, d, tk, os⟩ := s
    wp_walk using wpAny_loadPart' hg
    have e1 : its[((i : Nat) : Int).toNat]? = some its[i] := by simp [lt]
    rw [e1]
    refine wpAny_bind (wpAny_mono t (fun r s2 z => ?_) fun _ _ z => z)
    obtain ⟨rfl, z⟩ := z
    have next := ih (i + 1) (by omega) (by omega) s2 z
    obtain ⟨hp2, g2, d2, tk2, os2⟩ := s2
    wp_walk
    rw [show ((i : Int) + 1) = ((i + 1 : Nat) : Int) by omega]
    refine ⟨plainId_quiet plain_contains_loop _, codeAny_builtin entry_contains_loop ?_⟩
    rw [Around.under_plainId plain_contains_loop _]
    exact next
theorem notIn_run {s : Shared} {l : Addr} {x : Value} {N : Nat} {I : Nat → Shared → Prop} {Q E : Value → Shared → Prop} (hl : Reads1 prog w A (wants (fun v s' => ∃ b, v = .bool b ∧ Q (.bool (!b)) s') E) l x N I) (fin : ∀ s, I N s → Q (.bool true) s) (h : I 0 s) :
    wpAny (model prog w) A (compareOp .NotIn x (.ref l)) Q E s := by
  obtain ⟨its, n, u, z, hg, hs, _⟩ := hl _ _ h
  show wpAny _ A (do return .bool (!(← contains (.ref l) x))) Q E s
  refine wpAny_bind (wpAny_contains_slot ⟨_, hg, rfl⟩ F.slot_list_contains (wpAny_mono (call_meetsIn (S := fun A' R' s' => A' = A ∧ R' = wants (fun v s' => ∃ b, v = .bool b ∧ Q (.bool (!b)) s') E ∧ s' = s) F.slot_list_contains ⟨_, hg, rfl⟩ F.entry_list_contains (F.args_list_contains_2 _ _) ?_ ⟨rfl, rfl, rfl⟩) (fun v s' hv => ?_) fun _ _ e => e))
  · intro A' R' s' ⟨e1, e2, e3⟩
    subst e1 e2 e3
    obtain ⟨hp, g, d, tk, os⟩ := s'
    wp_walk using wpAny_loadPart' hg
    refine ⟨plainId_quiet plain_contains_loop _, codeAny_builtin entry_contains_loop ?_⟩
    rw [Around.under_plainId plain_contains_loop _]
    exact nin_turns hl (fun s z => ⟨_, rfl, fin s z⟩) _ 0 rfl (Nat.zero_le _) _ h
  · obtain ⟨b, rfl, hq⟩ := hv
    exact wpAny_truthy_bool (wpAny_pure hq)
end
section
variable {X : Cx} {CX : CXT} {C f : Addr} {fd : FuncData} {ps : List Str} {n : Nat} {R : Addr → V → Bool → Hp → Prop} {E : XK}
/-- the class is under none of these -/
structure NoBase (K : PySem.W.Frag) (C : Addr) : Prop where
  l : PySem.W.mroIn K C (.type "list") = some false
  t : PySem.W.mroIn K C (.type "tuple") = some false
  d : PySem.W.mroIn K C (.type "dict") = some false
  s : PySem.W.mroIn K C (.type "str") = some false
  i : PySem.W.mroIn K C (.type "int") = some false
  n : PySem.W.mroIn K C (.type "NoneType") = some false
theorem eq_odd {A : Around} {pins : List (Addr × Obj)} {σ : L2.St} {H : Hp} {s : Shared} {a dx : Addr} {fs : List (Str × V)} {v : V} {u : Value} {Q : Bool → Shared → Prop} (fr : A.frames = X.A.frames) (Fo : FnOk X.prog X.w X.K X.mg X.base CX n f fd ps (Cmp.spEqI R)) (hr : Room n A) (ht : Meth X.K C "__eq__" f)
    (hb : Binds X.K fd ps []) (hx : Passes CX X E) (B : NoBase X.K C) (I : Inv X pins σ H s) (ha : H a = some (.ins C dx fs)) (hv : AnyV H v) (nb : isB v = false) (rv : RelV v u) (hR : R a v false H) (q : ∀ s' H', Inv X pins σ H' s' → Same H H' → Q false s') :
    wpAny (model X.prog X.w) A (eqBool u (.ref a)) Q X.xe s := by
  obtain ⟨mA, J0, _⟩ := ins_get I.hok ha
  obtain ⟨od, J, _⟩ := J0.look
  have at_ := J0.obj
  have hsp : Cmp.spEqI R [.ref a, v] H (fun w H' => w = .bl false ∧ Same H H') E := ⟨a, v, false, rfl, hR, fun H' s => ⟨rfl, s⟩⟩
  have run : ∀ (Q' : Value → Shared → Prop), (∀ s' H', Inv X pins σ H' s' → Same H H' → Q' (.bool false) s') → wpAny (model X.prog X.w) A (call (.ref f) [.ref a, u]) (fun w s' => w = .bool false ∧ Q' (.bool false) s') X.xe s := fun Q' q' =>
    wpAny_mono (run_at (vs := [V.ref a, v]) fr Fo hr hb hx I (.cons rfl (.cons rv .nil)) hsp) (fun w s' z => by
      obtain ⟨y, H', I', ry, rfl, sm⟩ := z
      cases ry
      exact ⟨rfl, q' s' H' I' sm⟩) fun _ _ z => z
  have lk : ∀ T, PySem.W.mroIn X.K C (.type T) = some false → ∀ (A : Around) (Q : Bool → Shared → Prop) (E : Value → Shared → Prop), Q false s → wpAny (model X.prog X.w) A (isInstance (.ref a) (.type T)) Q E s := fun T h A Q E z => (show PySem.W.Looks (model X.prog X.w) s.heap (isInstance (.ref a) (.type T)) false from J.type.andThen (PySem.W.looks_mroIn I.kIn h)).here z
  have go : (u == Value.ref a) = false → wpAny (model X.prog X.w) A (richCompare .Eq u (.ref a)) (fun w s' => wpAny (model X.prog X.w) A (truthOfDropped w) Q X.xe s') X.xe s → wpAny (model X.prog X.w) A (eqBool u (.ref a)) Q X.xe s := fun ne h => by
    unfold eqBool
    refine wpAny_holding ?_
    rw [ne]
    simp only [Bool.false_eq_true, if_false]
    cases u <;> exact wpAny_bind h
  have end_ : ∀ s' H', Inv X pins σ H' s' → Same H H' → wpAny (model X.prog X.w) A (truthOfDropped (.bool false)) Q X.xe s' := fun s' H' I' sm => wpAny_truthy_bool (q s' H' I' sm)
  have hu := hr.units0
  cases hv with
  | bl b => cases nb
  | non =>
    obtain rfl : u = Value.none := rv
    exact go (by simp) (rc_odd hu I.kIn rfl F.slot_NoneType_eq (fun _ z => decl_none z) J B.n ht.at_ ht.fn (run (fun w s' => wpAny (model X.prog X.w) A (truthOfDropped w) Q X.xe s') end_))
  | int i =>
    obtain ⟨t, rfl⟩ := rv
    exact go (by simp) (rc_odd hu I.kIn (typeIs_int s i t) F.slot_int_eq (fun _ z => decl_int at_ z) J B.i ht.at_ ht.fn (run (fun w s' => wpAny (model X.prog X.w) A (truthOfDropped w) Q X.xe s') end_))
  | str y =>
    obtain ⟨t, rfl⟩ := rv
    exact go (by simp) (rc_odd hu I.kIn (typeIs_str s y t) F.slot_str_eq (fun _ z => decl_str at_ z) J B.s ht.at_ ht.fn (run (fun w s' => wpAny (model X.prog X.w) A (truthOfDropped w) Q X.xe s') end_))
  | @lst b xs h =>
    obtain rfl : u = Value.ref b := rv
    obtain ⟨its, _, pl, _⟩ := I.list (sq h)
    have ne : b ≠ a := ne_of h ha (fun z => by cases z)
    exact go (by simpa using ne) (rc_odd hu I.kIn pl.isList.typeIs F.slot_list_eq (fun _ z => decl_list pl.isList (lk _ B.l) z) J B.l ht.at_ ht.fn (run (fun w s' => wpAny (model X.prog X.w) A (truthOfDropped w) Q X.xe s') end_))
  | @tup b xs h =>
    obtain rfl : u = Value.ref b := rv
    obtain ⟨its, _, pl, _⟩ := I.tuple (st h)
    have ne : b ≠ a := ne_of h ha (fun z => by cases z)
    exact go (by simpa using ne) (rc_odd hu I.kIn (show s.heap.IsTuple b its.toArray from pl).typeIs F.slot_tuple_eq (fun _ z => decl_tuple pl (lk _ B.t) z) J B.t ht.at_ ht.fn (run (fun w s' => wpAny (model X.prog X.w) A (truthOfDropped w) Q X.xe s') end_))
  | @dK b kvs h =>
    obtain rfl : u = Value.ref b := rv
    obtain ⟨_, ya, va, ra, da⟩ := (show ObjOk X.prog X.w H s.heap b (.dK kvs) from I.hok b _ h)
    have ne : b ≠ a := ne_of h ha (fun z => by cases z)
    exact go (by simpa using ne) (rc_odd hu I.kIn da.typeIs F.slot_dict_eq (fun _ z => decl_dict da.typeIs (lk _ B.d) z) J B.d ht.at_ ht.fn (run (fun w s' => wpAny (model X.prog X.w) A (truthOfDropped w) Q X.xe s') end_))
/-- x not in a list of builtin values, x of an own class with an own == that says no to each -/
def rNotInO (C : Addr) (R : Addr → V → Bool → Hp → Prop) : R2 := fun x y H Q => ∃ a dx fs l xs, x = .ref a ∧ y = .ref l ∧ H a = some (.ins C dx fs) ∧ H l = some (.lst xs) ∧ (∀ v ∈ xs, AnyV H v ∧ isB v = false) ∧ (∀ v ∈ xs, ∀ H', Same H H' → R a v false H') ∧ ∀ H', Same H H' → Q (.bl true) H'
theorem op_notInO (Fo : FnOk X.prog X.w X.K X.mg X.base CX n f fd ps (Cmp.spEqI R)) (hr : Room (n + 1) X.A) (ht : Meth X.K C "__eq__" f) (hb : Binds X.K fd ps []) (hx : Passes CX X E) (B : NoBase X.K C) : OpR X (compareOp .NotIn) (rNotInO C R) := by
  intro pins s σ H x y v u Q I rx ry h
  obtain ⟨a, dx, fs, l, xs, rfl, rfl, ha, hl, hv, hR, q⟩ := h
  cases rx
  cases ry
  refine notIn_run (N := xs.length) (I := fun _ s' => ∃ H', Inv X pins σ H' s' ∧ Same H H') (fun i s1 z => ?_) (fun s1 z => ?_) ⟨H, I, Same.refl _⟩
  · obtain ⟨H1, I1, s1'⟩ := z
    obtain ⟨its, rv, pl, _⟩ := I1.list (sq (s1' _ _ hl))
    obtain ⟨⟨c, u, da, z⟩, o1, rfl, m, rfl⟩ := id pl.isList
    have len := rv.length
    refine ⟨its.toArray, m, u, z, o1, by rw [List.size_toArray]; omega, fun h => ?_⟩
    have hi : i < xs.length := by rw [List.size_toArray] at h; omega
    obtain ⟨w, ew, rw'⟩ := rv.get (List.getElem?_eq_getElem hi)
    have mv := hv _ (List.getElem_mem hi)
    have e : its.toArray[i] = w := by
      have : its[i]? = some w := ew
      have h2 := (List.getElem?_eq_some_iff.mp this).2
      simpa using h2
    rw [e]
    exact eq_odd (A := X.A.in1) rfl Fo hr.in1 ht hb hx B I1 (s1' _ _ ha) (mv.1.same s1') mv.2 rw' (hR _ (List.getElem_mem hi) _ s1') fun s2 H2 I2 s2' => ⟨rfl, H2, I2, s1'.trans s2'⟩
  · obtain ⟨H1, I1, s1'⟩ := z
    exact ⟨.bl true, H1, I1, rfl, q H1 s1'⟩
end
end Try

set_option Elab.async false
set_option linter.all false
set_option maxRecDepth 100000
set_option maxHeartbeats 2000000
namespace DcT
open PySem PySem.Spec PyProof.Rows L2 Rl Dr _root_.Tx Ex Er So Wi
/-! ### a dict comprehension whose keys are tuples -/
theorem put_tup {X : Cx} {ps : List (Addr × Obj)} {σ : L2.St} {G : Hp} {s : Shared} {E : Value → Shared → Prop} {a b : Addr} {l : List (List Key × V)} {ks : List Key} {x : V} {r : Value} {Q : Unit → Shared → Prop} (hu : X.A.units + 1 < cLine) (J : Inv X ps σ G s) (ha : G a = some (.dT l)) (few : l.length < sizeLine)
    (hb : G b = some (.tup (ks.map kV))) (rx : RelV x r) (go : ∀ s2, Inv X ps σ (upd G a (.dT (putK l ks x))) s2 → Q () s2) : wpAny (model X.prog X.w) X.A (dictSet a (.ref b) r) Q E s := by
  obtain ⟨n0, ns, raw, kt, old⟩ := dt_of J.hok ha
  have few' := length_putK l ks x
  have nraw : raw.length ≤ sizeLine := by
    rw [← Paired.length kt]
    exact n0
  refine wpAny_dictSet_heap (hsz := nraw) (show X.A.units < cLine by omega) (key_of J.hok hb) old fun h2 new same => go _ ?_
  obtain ⟨ob, es, ep, at2, ex2, da2, ent2, _, nd2⟩ := new
  exact d_write J (by rw [ha]; trivial) same ⟨ob, at2⟩ ⟨by omega, ns, _, KT.keeps (kt.put ks hb rx) (fun c ys ec => by rw [upd_ne (ne_of ec ha fun z => by cases z)]; exact ec), ob, es, ep, at2, ex2, da2, ent2, nd2⟩
section
variable {X : Cx}
def tDcT (wi : TI) (g : TG) (tt : TT) (tk tv : TE) (vs : List Nat) : TE := fun σ H Q => wi σ H fun J G => ∀ d, G d = none → ∃ W : Nat → Nat → Hp → Prop, (∃ m, W 0 m (upd G d (.dT []))) ∧ ∀ i m G, W i m G →
  (J.stop i G ∧ Q (.ref d) G) ∨
  (J.go i G ∧ ∃ nx : Hp → Prop, (∀ G2, nx G2 → ∃ m2, m2 < m ∧ W (i + 1) m2 G2) ∧ ∀ x G2, J.yld i G x G2 → g x (wipe σ vs) G2 fun σ2 G3 => wipe σ2 vs = wipe σ vs ∧ tt σ2 G3 fun yes G4 =>
    if yes = true then tk σ2 G4 fun y G5 => tv σ2 G5 fun z G6 => ∃ l ks b, y = .ref b ∧ G6 b = some (.tup (ks.map kV)) ∧ G6 d = some (.dT l) ∧ l.length < sizeLine ∧ nx (upd G6 d (.dT (putK l ks z))) else nx G4)
/-- what the turns of the block keep -/
structure Kp5 (X : Cx) (s0 : Shared) (G0 : Hp) (sc : Scope) (ce : Env) (fp : List Addr) (σw : L2.St) (tn : Nat → Heap → Prop) (W : Nat → Nat → Hp → Prop) (n : Nat) (s : Shared) (i : Nat) (G : Hp) : Prop where
  inv : Inv (X.blk s0 G0 sc ce fp) [] σw G s
  at_ : tn i s.heap
  free : ∀ b ∈ fp, G b = none
  w : W i n G
theorem dcT_core {ps : List (Addr × Obj)} {s : Shared} {σ : L2.St} {H : Hp} {Q : VK} {kx vx tg iter : Expr} {ifs : List Expr} {scope : Scope} {own : List (Str × Nat)} {pos pos' : Pos} {wi : TI} {g : TG} {tt : TT} {tk tv : TE} {use : Option (Value → Sem Unit)} {Qf : Value → Shared → Prop}
    (hu : X.A.units + 1 < cLine) (hc : X.calm = true) (hN : X.N.Nodup) (I0 : Inv X ps σ H s) (hi : PI X tg iter wi) (ok : BlkOk X.N X.env.scope scope own)
    (hg : ∀ (s : Shared) (H : Hp) (C : Addr) (cl : List (Str × Addr)) (fp : List Addr), PG (X.blk s H scope (compEnvC scope cl C X.env) fp) tg g)
    (ht : ∀ (s : Shared) (H : Hp) (C : Addr) (cl : List (Str × Addr)) (fp : List Addr), PTs (X.blk s H scope (compEnvC scope cl C X.env) fp) ifs tt)
    (hk : ∀ (s : Shared) (H : Hp) (C : Addr) (cl : List (Str × Addr)) (fp : List Addr), PE (X.blk s H scope (compEnvC scope cl C X.env) fp) kx tk)
    (hv : ∀ (s : Shared) (H : Hp) (C : Addr) (cl : List (Str × Addr)) (fp : List Addr), PE (X.blk s H scope (compEnvC scope cl C X.env) fp) vx tv) (hs : ∀ x, foldedSetIterable iter X.env x = pure x)
    (wish : tDcT wi g tt tk tv (own.map (·.2)) σ H Q)
    (last : ∀ d C s2 m G, Inv X ps σ G s2 → Q (.ref d) G → s2.heap.Ns C m → FpOk X ps G C → compPost (model X.prog X.w) X.A X.xe use Qf (.ref d) C (.ok .next) s2) :
    wpAny (model X.prog X.w) X.A (comprehension (.DictComp kx vx [⟨tg, iter, ifs, 0⟩] scope pos) scope X.env pos' newDict false (eval iter X.env) use) Qf X.xe s := by
  refine wpAny_comprehension_free (use := use) rfl hs (closure_ok fun y hy e => (ok.free y hy e).elim (fun k => I0.ok.has _ (.inl k)) fun k => I0.ok.has _ (.inr k)) ok.kind (fun y hy e => by rw [ok.uniq y hy, e]) (thn (hi.run ps s σ H _ I0 wish) fun xv sA hx => thn hx fun itv sB hB => ?_)
  obtain ⟨it, fp, tn, J, GB, rfl, IB, T, tB, fB, q⟩ := hB
  refine wpAny_newObj_type (newEnv_comp ?_)
  obtain ⟨d, ed⟩ : ∃ d, d = sB.heap.objs.size := ⟨_, rfl⟩
  rw [← ed]
  have nd : GB d = none := IB.hok.fresh (Nat.le_of_eq ed.symm)
  obtain ⟨W, ⟨m0, w0⟩, turn⟩ := q d nd
  generalize eC : (Shared.mk (sB.heap.push { cls := .type "dict", data := .dict #[] }) sB.gens sB.drawn sB.toks sB.os) = sC
  have hC : sC.heap = sB.heap.push { cls := .type "dict", data := .dict #[] } := by rw [← eC]
  have IC : Inv X ps σ (upd GB d (.dT [])) sC := by
    subst eC
    rw [ed]
    exact IB.laid (t' := sB.toks) (fun b o e => Heap.get?_push_of_some _ e) (Nat.le_refl _) (dt_empty sB.heap IB.big)
  have old : ∀ b ∈ fp, b < sB.heap.objs.size := fun b hb => by
    obtain ⟨o, e, _⟩ := T.obj _ _ tB b hb
    exact Heap.lt_size e
  have fC : ∀ b ∈ fp, FpOk X ps (upd GB d (.dT [])) b ∧ b < sC.heap.objs.size := fun b hb => by
    have lt := old b hb
    refine ⟨⟨?_, (fB b hb).2⟩, by rw [hC, Heap.size_push]; exact Nat.lt_succ_of_lt lt⟩
    rw [upd_ne (fun z => Nat.lt_irrefl b (Nat.lt_of_lt_of_eq lt (z.trans ed).symm))]
    exact (fB b hb).1
  have tC : tn 0 sC.heap := T.keep _ _ _ tB fun b _ o e => by
    rw [hC]
    exact Heap.get?_push_of_some _ e
  have ID := block_start IC ok hN fC
  have nfp : ∀ b ∈ fp, (upd GB d (.dT [])) b = none := fun b hb => (fC b hb).1.1
  have cells : ∀ {α : Prop}, (∀ cl : List (Str × Addr), cl = cellsFrom (sC.heap.objs.size + 1) scope.names (cloFrom X.env.cells scope.names []) → α) → α := fun k => k _ rfl
  refine cells fun cl ecl => ?_
  rw [← ecl] at ID ⊢
  have pg := hg sC (upd GB d (.dT [])) sC.heap.objs.size cl fp
  have pt := ht sC (upd GB d (.dT [])) sC.heap.objs.size cl fp
  have pk := hk sC (upd GB d (.dT [])) sC.heap.objs.size cl fp
  have pv := hv sC (upd GB d (.dT [])) sC.heap.objs.size cl fp
  have cL : (compEnvC scope cl sC.heap.objs.size X.env).locals = sC.heap.objs.size := rfl
  show codeAny _ _ (.compStart _ 0 (.ref it) (.ref d) (compEnvC scope cl sC.heap.objs.size X.env)) (compPost _ _ _ use Qf (.ref d) sC.heap.objs.size) _
  generalize compEnvC scope cl sC.heap.objs.size X.env = ce at ID pg pt pk pv cL ⊢
  generalize upd GB d (.dT []) = GC at IC ID pg pt pk pv w0 nfp fC
  have tD : ∀ sD : Shared, sD.heap = pushCells (sC.heap.push { cls := .type "dict", data := .dict #[] }) scope.names → tn 0 sD.heap := fun sD e => T.keep _ _ _ tC fun b _ o eb => by
    rw [e]
    exact pushCells_keeps _ _ _ _ (Heap.get?_push_of_some _ eb)
  have tD' := tD _ (show (Shared.mk (pushCells (sC.heap.push { cls := .type "dict", data := .dict #[] }) scope.names) sC.gens sC.drawn sC.toks sC.os).heap = _ from rfl)
  generalize (Shared.mk (pushCells (sC.heap.push { cls := .type "dict", data := .dict #[] }) scope.names) sC.gens sC.drawn sC.toks sC.os) = sD at ID tD' ⊢
  have fpk : ∀ {σ' : L2.St} {G : Hp} {s' : Shared}, Inv (X.blk sC GC scope ce fp) [] σ' G s' → (∀ b ∈ fp, G b = none) → ∀ b ∈ fp, FpOk (X.blk sC GC scope ce fp) [] G b := fun J n b hb =>
    ⟨n b hb, (J.ok.exf b hb).1, J.ok.exfs b hb, .inl hb, fun x c e => (J.ok.exf b hb).2 x c e, fun p hp => by
      have hp' : p ∈ ([] : List (Addr × Obj)) := by simpa using hp
      cases hp'⟩
  have loop : codeAny (model X.prog X.w) X.A (.compLoop (.DictComp kx vx [⟨tg, iter, ifs, 0⟩] scope pos) 0 (.ref it) (.ref d) ce) (compPost (model X.prog X.w) X.A X.xe use Qf (.ref d) sC.heap.objs.size) sD := by
    refine compLoop_anyD (fun n s' => ∃ i G, Kp5 X sC GC scope ce fp (wipe σ (own.map (·.2))) tn W n s' i G) (fun n s5 hI => ?_) m0 ⟨0, GC, ID, tD', nfp, w0⟩
    obtain ⟨i, G5, k5⟩ := hI
    rcases turn i n G5 k5.w with ⟨stop, fin⟩ | ⟨go, nx, hnx, step⟩
    · refine thnF (T.done (X.blk sC GC scope ce fp) rfl rfl rfl hc i [] s5 _ G5 (fun _ _ => False) k5.inv (fpk k5.inv k5.free) k5.at_ stop) fun r s6 hr => ?_
      obtain ⟨rfl, I6⟩ := hr
      have back : Inv X ps σ G5 s6 := IC.call' (ch := fp) I6.os I6.base I6.hok I6.bare fun b hb => ⟨(fC b hb).1.2.2.2.1, (fC b hb).1.2.1, (fC b hb).1.2.2.2.2.1, (fC b hb).1.2.2.2.2.2⟩
      have none5 : G5 sC.heap.objs.size = none := cL ▸ I6.free
      obtain ⟨m, hn, _⟩ := I6.loc
      have hn2 : s6.heap.Ns ce.locals m := hn
      rw [cL] at hn2
      exact last d _ s6 m G5 back fin hn2 (IC.fpOk (Nat.le_refl _) none5)
    · refine thnF (T.item (X.blk sC GC scope ce fp) rfl rfl rfl hc i [] s5 _ G5 (fun _ _ => False) k5.inv (fpk k5.inv k5.free) k5.at_ go) fun r s6 hr => ?_
      obtain ⟨u, rfl, own6⟩ := hr
      refine thnF own6 fun _ s7 h7 => ?_
      obtain ⟨x, G7, I7, r7, y7, t7, n7⟩ := h7
      refine thnF (pg.run _ s7 _ G7 x u _ (I7.pinned (fpk I7 n7) (T.obj _ _ t7)) r7 (step x G7 y7)) fun _ s8 h8 => ?_
      obtain ⟨σ8, G8, I8, same8, q8⟩ := h8
      refine thnF (pt.run _ s8 σ8 G8 _ I8 q8) fun yes s9 h9 => ?_
      obtain ⟨G9, I9, q9⟩ := h9
      have again : ∀ {s' : Shared} {G : Hp}, Inv (X.blk sC GC scope ce fp) ([] ++ pinsAt fp s7.heap) σ8 G s' → nx G → ∃ m, m < n ∧ ∃ i G, Kp5 X sC GC scope ce fp (wipe σ (own.map (·.2))) tn W m s' i G := fun {s' G} J hn => by
        obtain ⟨m2, lt, w2⟩ := hnx G hn
        have pinned : ∀ b ∈ fp, ∀ o, s7.heap.get? b = some o → s'.heap.get? b = some o ∧ G b = none := fun b hb o e => by
          obtain ⟨a1, a2, _⟩ := J.pin (b, o) (List.mem_append_right _ (List.mem_append_right _ (mem_pinsAt hb e)))
          exact ⟨a1, a2⟩
        refine ⟨m2, lt, i + 1, G, (J.unpinned (pins := [])).weak (by rw [← same8, wipe_length]) (fun j v e => ?_), T.keep _ _ _ t7 fun b hb o e => (pinned b hb o e).1, fun b hb => ?_, w2⟩
        · rw [← same8] at e
          exact (wipe_some e).1
        · obtain ⟨o, e, _⟩ := T.obj _ _ t7 b hb
          exact (pinned b hb o e).2
      cases yes with
      | false =>
        rw [if_neg Bool.false_ne_true] at q9 ⊢
        exact again I9 q9
      | true =>
        rw [if_pos rfl] at q9 ⊢
        refine thnF (pk.run _ s9 σ8 G9 _ I9 q9) fun uk s10 h10 => ?_
        obtain ⟨yk, G10, I10, r10, q10⟩ := h10
        refine thnF (pv.run _ s10 σ8 G10 _ I10 q10) fun uv s11 h11 => ?_
        obtain ⟨yv, G11, I11, r11, l, ks, b, rfl, eb, ed11, few, hn⟩ := h11
        cases (show uk = Value.ref b from r10)
        exact put_tup (X := X.blk sC GC scope ce fp) hu I11 ed11 few eb r11 fun s12 I12 => again I12 hn
  exact codeAny_compStart_dict loop (T.self X.A 0 _ _ _ tD' loop)
theorem pe_dcT {kx vx tg iter : Expr} {ifs : List Expr} {scope : Scope} {own : List (Str × Nat)} {pos : Pos} {wi : TI} {g : TG} {tt : TT} {tk tv : TE} (hu : X.A.units + 1 < cLine) (hc : X.calm = true) (hN : X.N.Nodup) (hi : PI X tg iter wi) (ok : BlkOk X.N X.env.scope scope own)
    (hg : ∀ (s : Shared) (H : Hp) (C : Addr) (cl : List (Str × Addr)) (fp : List Addr), PG (X.blk s H scope (compEnvC scope cl C X.env) fp) tg g)
    (ht : ∀ (s : Shared) (H : Hp) (C : Addr) (cl : List (Str × Addr)) (fp : List Addr), PTs (X.blk s H scope (compEnvC scope cl C X.env) fp) ifs tt)
    (hk : ∀ (s : Shared) (H : Hp) (C : Addr) (cl : List (Str × Addr)) (fp : List Addr), PE (X.blk s H scope (compEnvC scope cl C X.env) fp) kx tk)
    (hv : ∀ (s : Shared) (H : Hp) (C : Addr) (cl : List (Str × Addr)) (fp : List Addr), PE (X.blk s H scope (compEnvC scope cl C X.env) fp) vx tv) (hs : ∀ x, foldedSetIterable iter X.env x = pure x := by intro _; rfl) :
    PE X (.DictComp kx vx [⟨tg, iter, ifs, 0⟩] scope pos) (tDcT wi g tt tk tv (own.map (·.2))) := ⟨fun pins s σ H Q I h => by
  rw [arm_eval_DictComp]
  refine dcT_core hu hc hN I hi ok hg ht hk hv hs h fun d C s2 m G J q hn f => ⟨m, hn, fun h2 sb => ?_⟩
  obtain ⟨f0, f1, f2, f3, f4, _⟩ := f
  exact ⟨.ref d, G, J.turned (t' := s2.toks) (fun b o hb e => (sb.2 b hb).trans e) f0 f1 f3 f4 (by assumption), rfl, q⟩⟩
end
end DcT

set_option Elab.async false
set_option linter.all false
set_option maxRecDepth 100000
set_option maxHeartbeats 2000000
/-! raising so that nothing is noted as the context -/
namespace RlN
open PySem PySem.Spec PyProof.Rows L2 Rl
section
variable {X : Cx} {CX : CXT}
theorem pmk_oexN {e : Expr} {es : List Expr} {ta : TA} {p pos : Pos} {x : Str} {C fI : Addr} {k : Nat} {fd : FuncData} {ps : List Str} {sp : Sp}
    (T : OexC X.K C) (iC : PySem.W.findIn X.K (.ref C) "__init__" = some (some (.ref fI))) (tI : PySem.W.typeIn X.K (.ref fI) = some (.type "function")) (F1 : FnOk X.prog X.w X.K X.mg X.base CX k fI fd ps sp) (hr : Room (k + 1) X.A) (hb : Binds X.K fd ps [])
    (hx : Passes CX X fun _ _ _ => False) (hg : Gl X x) (hm : X.mg x = some (.ref C)) (ha : PA X (e :: es) ta) (hdb : (x == ("__debug__" : Str)) = false := by decide) (he : starEach (e :: es) X.env = (false, eval e X.env) :: starEach es X.env := by rfl)
    (hpl : (backTo pos (starEach es X.env)).any (·.1) = false := by rfl) : L2N.PMk X (.Call (.Name x p) (e :: es) [] pos) (tMkO C sp [] ta) := by
  intro pins s σ H Q I h
  obtain ⟨nm, q, N, bs, bm, sn, sub, ab, col, dd, k0, k1, k2, k3, k5, hC, hbm⟩ := T.cls
  refine wpAny_Call_Name_kw (ld_glob I hg hm (PySem.W.callWith_K (h₀ := X.base) I.ok.mod.kin T.kC (thn (ha.run pos pins s σ H _ I h) fun us s1 z => ?_) he hpl) hdb)
  obtain ⟨vs, H1, I1, r1, hz, q1⟩ := z
  refine ⟨I1.kIn, ?_⟩
  obtain ⟨hp, g, dr, tk, os⟩ := s1
  have hsz := Nat.le_succ hp.objs.size
  have hn := HOk.fresh I1.hok hsz
  have hq := q1 (hp.objs.size + 1) hn
  have kk : ∀ b o, hp.get? b = some o → ((hp.push (PySem.W.kdv_tup us)).push (HandSPX.excO C hp.objs.size)).get? b = some o := fun b o e => Heap.get?_push_of_some _ (Heap.get?_push_of_some _ e)
  have hget : ((hp.push (PySem.W.kdv_tup us)).push (HandSPX.excO C hp.objs.size)).get? (hp.objs.size + 1) = some (HandSPX.excO C hp.objs.size) := Heap.get?_push_at (by simp) rfl
  have I2 := Inv.laid (t' := tk) I1 kk hsz (exo_ok hget)
  rw [List.append_nil] at hq
  have r2 : Vals (V.ref (hp.objs.size + 1) :: vs) (Value.ref (hp.objs.size + 1) :: us) := .cons rfl r1
  have hl : (Value.ref (hp.objs.size + 1) :: us).length = ps.length := by
    rw [← r2.length]
    exact F1.len _ _ _ _ hq
  have hus : us.length ≤ sizeLine := by
    rw [← r1.length, sizeLine_eq]
    omega
  refine wpAny_call (HandSPX.call_own F.excBase_ValueError (fun Y => HandSPX.refsVE_contains Y bm hbm) (I1.kIn C _ hC) (PySem.W.looks_findIn I1.kIn iC) (fun self => PySem.W.bind_fn I1.kIn self tI) hus ?_)
  have bd := hb ⟨(hp.push (PySem.W.kdv_tup us)).push (HandSPX.excO C hp.objs.size), g, dr, tk, os⟩ (Value.ref (hp.objs.size + 1) :: us) I2.kIn (by simpa using hl)
  rw [List.append_nil] at bd
  refine codeAny_mono (F1.run _ X.stack _ _ ⟨Value.ref (hp.objs.size + 1) :: us, []⟩ _ _ _ _ (hr.make C us []) (I2.env0.make C us []) bd r2 hq) fun r s' hq' => ?_
  match r, hq' with
  | .error er, z => exact hx pins σ _ _ er s' I2 z
  | .ok .next, z => exact z.elim
  | .ok .brk, z => exact z.elim
  | .ok .cont, z => exact z.elim
  | .ok (.ret u), z =>
    obtain ⟨v, H2, os2, bare2, un2, hok2, rv, ev, d, fs, ea, ed, hd1, q2⟩ := z
    subst ev
    obtain ⟨h2, g2, d2, t2, os'⟩ := s'
    obtain ⟨t0, G, V, up, na, ga, nH⟩ := mk_end0 (d2 := d2) (t2 := t2) I1 hsz kk un2 hok2 os2 bare2 ea ed hd1
    exact ⟨rv, _, _, _, _, _, _, _, rfl, V, up, na, ga, ⟨rfl, rfl, fun vs e => by cases e; rfl⟩, rfl, rfl, nH, rfl, bare2, raises_own T.exC T.tyC, q2⟩
/-- what takes all, takes these too -/
theorem takesN {W : WX} (tk : L2.Takes X W) : L2N.Takes X W := fun u s' h => by
  obtain ⟨a, B, sI, pins, σ, H, cls, d, e, I, b, up, sky, n, os, ag, w⟩ := h
  refine tk u s' ⟨a, B, sI, pins, σ, H, cls, d, e, I, b, up, ?_, n, os, ag, w⟩
  have im : ∀ o, L2N.Zn cls d o → Zc cls d o := fun o z => z.zc
  rcases sky with ⟨a1, a2, a3, oe, vs, e1, e2, e3⟩ | h | ⟨a1, a2, a3, a4⟩
  · exact .inl ⟨a1, a2, a3, oe, vs, e1, im _ e2, e3⟩
  · exact .inr (.inl (L2H.flyingZ_imp im h))
  · exact .inr (.inr ⟨a1, a2, a3, L2H.tracedZ_imp im a4⟩)
theorem CXN_imp {P : Program} {w : World} {outer : List Env} {H : Hp} {s : Shared} {E : XK} {u : Value} {s' : Shared} (h : L2N.CX P w outer H s E u s') : L2.CX P w outer H s E u s' := by
  obtain ⟨a, B, H', cls, d, e, fl, r⟩ := h
  exact ⟨a, B, H', cls, d, e, L2H.flyingZ_imp (fun o z => z.zc) fl, r⟩
end
section
variable {P : Program} {w : World} {K : PySem.W.Frag} {mg : Str → Option Value} {base : Heap} {k : Nat} {f : Addr} {fd : FuncData} {ps : List Str} {sp : Sp}
/-- a def of the narrower kind is one of the wider -/
theorem okN_X (F : FnOk P w K mg base (L2N.CX P w) k f fd ps sp) : FnOk P w K mg base (L2.CX P w) k f fd ps sp := ⟨F.len, fun A outer s H args us vs Q E hr e0 hb r h => codeAny_mono (F.run A outer s H args us vs Q E hr e0 hb r h) fun r s' z => by
  match r, z with
  | .error e, z => exact CXN_imp z
  | .ok (.ret u), z => exact z
  | .ok .next, z => exact z.elim
  | .ok .brk, z => exact z.elim
  | .ok .cont, z => exact z.elim⟩
theorem okN {x qual : Str} {st : Stmt} {N : List Str} (F : Fun K x qual st f fd) (S : FnScope N ps (defScope st)) (len : ∀ vs H Q E, sp vs H Q E → vs.length = ps.length)
    (hbody : ∀ (cdv : Value) (A : Around) (outer : List Env) (s : Shared) (H : Hp) (vs : List V) (Q : VK) (E : XK), Room k (A.deeper (PyProof.Rows.envOfC qual (defScope st) s.heap.objs.size f cdv)) → sp vs H Q E →
      ∃ t, PSs (cxOf (L2N.CX P w) P w K mg base N qual (defScope st) f cdv A outer s H E) (defBody st) t ∧ t { nx := fun _ H' => Q .non H', rt := Q } (L2.start N vs) H) : FnOk P w K mg base (L2N.CX P w) (k + 1) f fd ps sp := by
  obtain ⟨oc, od, kV, doc, pm, an, cdv, ct, osl, rfl, lk, hcd⟩ := F.ex
  exact fn_of lk hcd S len fun A outer s H vs Q E hr hsp => hbody cdv A outer s H vs Q E hr hsp
theorem pXN {P : Program} {w : World} {K : PySem.W.Frag} {mg : Str → Option Value} {base : Heap} {N : List Str} {qual : Str} {scope : Scope} {f : Addr} {cd : Value} {A : Around} {outer : List Env} {s : Shared} {H : Hp} {E : XK} :
    Passes (L2N.CX P w) (cxOf (L2N.CX P w) P w K mg base N qual scope f cd A outer s H E) E :=
  L2N.passes_call (L2N.takes_of rfl rfl rfl rfl) (fun _ _ _ _ h => h)
theorem pcallN {X : Cx} {x qual : Str} {st : Stmt} {ps : List Str} {k : Nat} {sp : Sp} {e : Expr} {es : List Expr} {t : TA} {E : XK} {p pos : Pos} (M : FnE X.K X.mg x qual st ps) (F : FnOk X.prog X.w X.K X.mg X.base (L2N.CX X.prog X.w) k M.f M.fd ps sp) (hr : Room k X.A) (hg : Gl X x) (hx : Passes (L2N.CX X.prog X.w) X E) (ha : PA X (e :: es) t)
    (hdb : (x == ("__debug__" : Str)) = false := by decide) (he : starEach (e :: es) X.env = (false, eval e X.env) :: starEach es X.env := by rfl) (hpl : (backTo pos (starEach es X.env)).any (·.1) = false := by rfl) :
    PE X (.Call (.Name x p) (e :: es) [] pos) (tCall sp [] E t) := pe_call F hr hg M.g M.F.kp M.b .nil hx ha (hdb := hdb) (he := he) (hpl := hpl)
end
end RlN

set_option Elab.async false
set_option linter.all false
set_option maxRecDepth 100000
set_option maxHeartbeats 2000000
namespace Dl
open PySem PySem.Spec PyProof.Rows L2 Rl Dr _root_.Tx Ex Er So Wi Vw
/-! ### a part of the heap put aside -/
def dels (H : Hp) (hd : List Addr) : Hp := fun a => if a ∈ hd then none else H a
def puts (H' H : Hp) (hd : List Addr) : Hp := fun a => if a ∈ hd then H a else H' a
def PlainO : HO → Prop
  | .lst _ => True
  | .dK _ => True
  | .dT _ => True
  | _ => False
def HidOk (H : Hp) (hd : List Addr) : Prop := ∀ p ∈ hd, ∃ o, H p = some o ∧ PlainO o
def KeepT (H H' : Hp) : Prop := ∀ b xs, H b = some (.tup xs) → H' b = some (.tup xs)
theorem dels_in {H : Hp} {hd : List Addr} {a : Addr} (h : a ∈ hd) : dels H hd a = none := if_pos h
theorem dels_out {H : Hp} {hd : List Addr} {a : Addr} (h : a ∉ hd) : dels H hd a = H a := if_neg h
theorem puts_in {H' H : Hp} {hd : List Addr} {a : Addr} (h : a ∈ hd) : puts H' H hd a = H a := if_pos h
theorem puts_out {H' H : Hp} {hd : List Addr} {a : Addr} (h : a ∉ hd) : puts H' H hd a = H' a := if_neg h
theorem dels_nil {H : Hp} : dels H [] = H := by
  funext a
  exact dels_out (by simp)
theorem dels_sub {H : Hp} {hd : List Addr} : Same (dels H hd) H := fun a o h => by
  unfold dels at h
  split at h
  · cases h
  · exact h
theorem not_hid {H : Hp} {hd : List Addr} {a : Addr} {o : HO} (hh : HidOk H hd) (h : H a = some o) (n : ¬ PlainO o) : a ∉ hd := fun m => by
  obtain ⟨o2, e, q⟩ := hh a m
  rw [h] at e
  cases e
  exact n q
section
variable {X : Cx} {pins : List (Addr × Obj)} {σ σ' : L2.St} {H H' : Hp} {s s' : Shared} {hd : List Addr}
theorem plain_obj {P : Program} {w : World} {h : Heap} {p : Addr} {o : HO} (x : ObjOk P w H h p o) (q : PlainO o) : ∃ ob, h.get? p = some ob ∧ ∀ v, ob.data ≠ .cell v := by
  cases o with
  | lst xs =>
    obtain ⟨_, its, n, _, e⟩ := x
    exact ⟨_, e, fun v z => nomatch z⟩
  | dK kvs =>
    obtain ⟨_, _, vs, _, ob, es, ep, e, c, dd, _⟩ := x
    exact ⟨ob, e, fun v z => by rw [dd] at z; cases z⟩
  | dT kvs =>
    obtain ⟨_, _, xs, _, ob, es, ep, e, c, dd, _⟩ := x
    exact ⟨ob, e, fun v z => by rw [dd] at z; cases z⟩
  | _ => exact q.elim
theorem plain_move {P : Program} {w : World} {h h' : Heap} {G : Hp} {p : Addr} {o : HO} {ob : Obj} (x : ObjOk P w H h p o) (q : PlainO o) (e : h.get? p = some ob) (e' : h'.get? p = some ob) (kt : ∀ b xs, H b = some (.tup xs) → G b = some (.tup xs)) : ObjOk P w G h' p o := by
  have go : ∀ ob', h.get? p = some ob' → h'.get? p = some ob' := fun ob' z => by
    rw [e] at z
    rw [e', z]
  cases o with
  | lst xs =>
    obtain ⟨a, its, n, r, z⟩ := x
    exact ⟨a, its, n, r, go _ z⟩
  | dK kvs =>
    obtain ⟨a, y, vs, r, ob', es, ep, z, c⟩ := x
    exact ⟨a, y, vs, r, ob', es, ep, go _ z, c⟩
  | dT kvs =>
    obtain ⟨a, y, xs, r, ob', es, ep, z, c⟩ := x
    exact ⟨a, y, xs, Paired.mapP r fun p q z => ⟨z.1, kt _ _ z.2.1, z.2.2⟩, ob', es, ep, go _ z, c⟩
  | _ => exact q.elim
/-- what leans on no hidden object -/
theorem objOk_dels {P : Program} {w : World} {h : Heap} {p : Addr} {o : HO} (hh : HidOk H hd) (x : ObjOk P w H h p o) : ObjOk P w (dels H hd) h p o :=
  x.stay (fun _ _ _ e => e) (fun b e => by rw [dels_out (not_hid hh e id)]; exact e) (fun b xs e => by rw [dels_out (not_hid hh e id)]; exact e)
theorem Inv.hide (I : Inv X pins σ H s) (hh : HidOk H hd) : Inv X (pins ++ pinsAt hd s.heap) σ (dels H hd) s := by
  have u := I.base
  refine ⟨I.ok, I.os, I.bare, ⟨u.keep, u.slot, fun b o e n x => ?_, u.there, fun b xs e => ?_, fun b o v e => ?_, fun b ps e => ?_⟩, I.loc, I.cell, ?_, fun x c e => ?_, fun p hp => ?_, fun b o e => ?_, I.len⟩
  · by_cases m : b ∈ hd
    · exact dels_in m
    · rw [dels_out m]
      exact u.free b o e n x
  · have q := u.tups b xs e
    rw [dels_out (not_hid hh q id)]
    exact q
  · have q := u.frzs b o v e
    rw [dels_out (not_hid hh q id)]
    exact q
  · obtain ⟨more, q⟩ := u.tbls b ps e
    exact ⟨more, by rw [dels_out (not_hid hh q id)]; exact q⟩
  · by_cases m : X.env.locals ∈ hd
    · exact dels_in m
    · rw [dels_out m]
      exact I.free
  · by_cases m : c ∈ hd
    · exact dels_in m
    · rw [dels_out m]
      exact I.freeC x c e
  · have old : ∀ p ∈ X.pn ++ pins, s.heap.get? p.1 = some p.2 ∧ dels H hd p.1 = none ∧ p.1 ≠ X.env.locals ∧ p.1 ∉ X.fs ∧ ∀ v, p.2.data ≠ .cell v := fun p hp => by
      obtain ⟨a, b, c, d, e⟩ := I.pin p hp
      refine ⟨a, ?_, c, d, e⟩
      by_cases m : p.1 ∈ hd
      · exact dels_in m
      · rw [dels_out m]
        exact b
    rcases List.mem_append.mp hp with h | h
    · exact old p (List.mem_append_left _ h)
    · rcases List.mem_append.mp h with h | h
      · exact old p (List.mem_append_right _ h)
      · obtain ⟨m, e⟩ := of_pinsAt h
        obtain ⟨o, ho, q⟩ := hh p.1 m
        obtain ⟨ob, e2, nc⟩ := plain_obj (I.hok _ _ ho) q
        rw [e] at e2
        cases e2
        refine ⟨e, dels_in m, fun z => ?_, fun z => ?_, nc⟩
        · rw [z, I.free] at ho
          cases ho
        · have hn := I.stkFree
          by_cases hs : X.stack = X.outer
          · have := I.stkFree p.1 (by rw [hs]; exact z)
            rw [this] at ho
            cases ho
          · have h2 : X.stack = X.env :: X.outer := (I.ok.stk.resolve_left hs).1
            have := I.stkFree p.1 (by
              rw [h2]
              obtain ⟨v, mv, ev⟩ := List.mem_filterMap.mp z
              exact List.mem_filterMap.mpr ⟨v, List.mem_cons_of_mem _ mv, ev⟩)
            rw [this] at ho
            cases ho
  · have q := dels_sub b o e
    exact objOk_dels hh (I.hok b o q)
theorem Inv.unhide (I : Inv X pins σ H s) (hh : HidOk H hd) (kt : KeepT H H') (I' : Inv X (pins ++ pinsAt hd s.heap) σ' H' s') : (∀ p ∈ hd, H' p = none) ∧ Inv X pins σ' (puts H' H hd) s' := by
  have at_ : ∀ p ∈ hd, ∃ o ob, H p = some o ∧ PlainO o ∧ s.heap.get? p = some ob ∧ s'.heap.get? p = some ob ∧ H' p = none := fun p m => by
    obtain ⟨o, ho, q⟩ := hh p m
    obtain ⟨ob, e, nc⟩ := plain_obj (I.hok _ _ ho) q
    obtain ⟨a, b, _⟩ := I'.pin (p, ob) (List.mem_append_right _ (List.mem_append_right _ (mem_pinsAt m e)))
    exact ⟨o, ob, ho, q, e, a, b⟩
  have no : ∀ p ∈ hd, H' p = none := fun p m => (at_ p m).choose_spec.choose_spec.2.2.2.2
  refine ⟨no, ?_⟩
  have u := I'.base
  have u0 := I.base
  have tp : ∀ b xs, H' b = some (.tup xs) → puts H' H hd b = some (.tup xs) := fun b xs e => by
    rw [puts_out (fun m => by rw [no b m] at e; cases e)]
    exact e
  refine ⟨I'.ok, I'.os, I'.bare, ⟨u.keep, u.slot, fun b o e n x => ?_, u.there, fun b xs e => ?_, fun b o v e => ?_, fun b ps e => ?_⟩, I'.loc, I'.cell, ?_, fun x c e => ?_, fun p hp => ?_, fun b o e => ?_, I'.len⟩
  · by_cases m : b ∈ hd
    · rw [puts_in m]
      exact u0.free b o e n x
    · rw [puts_out m]
      exact u.free b o e n x
  · exact tp _ _ (u.tups b xs e)
  · have q := u.frzs b o v e
    rw [puts_out (fun m => by rw [no b m] at q; cases q)]
    exact q
  · obtain ⟨more, q⟩ := u.tbls b ps e
    exact ⟨more, by rw [puts_out (fun m => by rw [no b m] at q; cases q)]; exact q⟩
  · by_cases m : X.env.locals ∈ hd
    · rw [puts_in m]
      exact I.free
    · rw [puts_out m]
      exact I'.free
  · by_cases m : c ∈ hd
    · rw [puts_in m]
      exact I.freeC x c e
    · rw [puts_out m]
      exact I'.freeC x c e
  · have hp' : p ∈ X.pn ++ (pins ++ pinsAt hd s.heap) := by
      rcases List.mem_append.mp hp with h | h
      · exact List.mem_append_left _ h
      · exact List.mem_append_right _ (List.mem_append_left _ h)
    obtain ⟨a, b, c, d, e⟩ := I'.pin p hp'
    refine ⟨a, ?_, c, d, e⟩
    by_cases m : p.1 ∈ hd
    · rw [puts_in m]
      exact (I.pin p hp).2.1
    · rw [puts_out m]
      exact b
  · by_cases m : b ∈ hd
    · rw [puts_in m] at e
      obtain ⟨o2, ob, e2, q, g1, g2, _⟩ := at_ b m
      rw [e] at e2
      cases e2
      exact plain_move (I.hok b o e) q g1 g2 fun c xs r => tp _ _ (kt _ _ r)
    · rw [puts_out m] at e
      refine (I'.hok b o e).stay (fun c v _ r => r) (fun c r => ?_) tp
      rw [puts_out (fun m => by rw [no c m] at r; cases r)]
      exact r
theorem pe_frame {e : Expr} {t : TE} (h : PE X e t) : PE X e (fun σ H Q => ∃ hd, HidOk H hd ∧ t σ (dels H hd) fun v H' => KeepT H H' ∧ ((∀ p ∈ hd, H' p = none) → Q v (puts H' H hd))) := ⟨fun pins s σ H Q I ⟨hd, hh, q⟩ =>
  thn (h.run _ s σ _ _ (Inv.hide I hh) q) fun u s1 ⟨v, H', I', r, kt, k⟩ => by
    obtain ⟨no, I2⟩ := Inv.unhide I hh kt I'
    exact ⟨v, _, I2, r, k no⟩⟩
theorem pt_frame {e : Expr} {t : TT} (h : PT X e t) : PT X e (fun σ H Q => ∃ hd, HidOk H hd ∧ t σ (dels H hd) fun v H' => KeepT H H' ∧ ((∀ p ∈ hd, H' p = none) → Q v (puts H' H hd))) := ⟨fun pins s σ H Q I ⟨hd, hh, q⟩ =>
  thn (h.run _ s σ _ _ (Inv.hide I hh) q) fun u s1 ⟨H', I', kt, k⟩ => by
    obtain ⟨no, I2⟩ := Inv.unhide I hh kt I'
    exact ⟨_, I2, k no⟩⟩
theorem pa_frame {es : List Expr} {t : TA} (h : PA X es t) : PA X es (fun σ H Q => ∃ hd, HidOk H hd ∧ t σ (dels H hd) fun vs H' => KeepT H H' ∧ ((∀ p ∈ hd, H' p = none) → Q vs (puts H' H hd))) := ⟨fun pos pins s σ H Q I ⟨hd, hh, q⟩ =>
  thn (h.run pos _ s σ _ _ (Inv.hide I hh) q) fun u s1 ⟨v, H', I', r, kt, k⟩ => by
    obtain ⟨no, I2⟩ := Inv.unhide I hh kt I'
    exact ⟨v, _, I2, r, k no⟩⟩
end
end Dl

set_option Elab.async false
set_option linter.all false
set_option maxRecDepth 100000
set_option maxHeartbeats 2000000
namespace Dl
open PySem PySem.Spec PyProof.Rows L2 Rl Dr _root_.Tx Ex Er So Wi Vw
/-! ### data -/
inductive D where
  | non | bl (b : Bool) | int (i : Int) | str (x : Str)
  | tup (l : List D) | lst (l : List D)
  | dk (l : List (Key × D)) | dt (l : List (List Key × D))
  | obj (c : Nat) (fs : List D)
  | sta (s : Addr)
  | exc (a dx : Addr) (f : Str) (x : D)
/-- the program's classes, and the field of each error -/
structure Cn where
  /-- the classes of objects, by a number; the names of their fields -/
  cm : Nat → Option Addr
  fn : Nat → List Str
  /-- the errors, by a number; the field of each -/
  xm : Nat → Option Addr
  ef : Nat → Option Str
  /-- the dict that is walked now -/
  lk : Option Addr := none
/-- read; not known to the object, unless it is the one that is walked -/
def RdL (lk : Option Addr) (H : Hp) (a : Addr) (u : HO) : Prop := H a = some u ∨ (lk = some a ∧ ∃ o, H a = some (.frz o u))
theorem RdL.rd {lk : Option Addr} {H : Hp} {a : Addr} {u : HO} (h : RdL lk H a u) : Rd H a u := h.imp id And.right
mutual
inductive Rp (K : PySem.W.Frag) (cn : Cn) (H : Hp) : V → D → Prop
  | non : Rp K cn H .non .non
  | bl (b : Bool) : Rp K cn H (.bl b) (.bl b)
  | int (i : Int) : Rp K cn H (.int i) (.int i)
  | str (x : Str) (h : OkS x) : Rp K cn H (.str x) (.str x)
  | tup {a : Addr} {xs : List V} {ds : List D} : H a = some (.tup xs) → RpA K cn H xs ds → Rp K cn H (.ref a) (.tup ds)
  | lst {a : Addr} {xs : List V} {ds : List D} : H a = some (.lst xs) → RpA K cn H xs ds → Rp K cn H (.ref a) (.lst ds)
  | dk {a : Addr} {kvs : List (Key × V)} {l : List (Key × D)} : RdL cn.lk H a (.dK kvs) → RpK K cn H kvs l → Rp K cn H (.ref a) (.dk l)
  | dt {a : Addr} {kvs : List (List Key × V)} {l : List (List Key × D)} : RdL cn.lk H a (.dT kvs) → RpT K cn H kvs l → Rp K cn H (.ref a) (.dt l)
  | obj {a C dx : Addr} {c : Nat} {fs : List (Str × V)} {l : List D} : cn.cm c = some C → H a = some (.ins C dx fs) → (∀ m, m ∉ cn.fn c → fs.lookup m = none) → RpF K cn H fs (cn.fn c) l → Rp K cn H (.ref a) (.obj c l)
  | sta (s : Addr) : Rp K cn H (.ref s) (.sta s)
  | exc {a dx : Addr} {f : Str} {v : V} {x : D} : H dx = some (.xd [(f, v)]) → Rp K cn H v x → Rp K cn H (.ref a) (.exc a dx f x)
inductive RpA (K : PySem.W.Frag) (cn : Cn) (H : Hp) : List V → List D → Prop
  | nil : RpA K cn H [] []
  | cons {v : V} {vs : List V} {d : D} {ds : List D} : Rp K cn H v d → RpA K cn H vs ds → RpA K cn H (v :: vs) (d :: ds)
inductive RpK (K : PySem.W.Frag) (cn : Cn) (H : Hp) : List (Key × V) → List (Key × D) → Prop
  | nil : RpK K cn H [] []
  | cons {k : Key} {v : V} {vs : List (Key × V)} {d : D} {ds : List (Key × D)} : OkS (match k with | .inr x => x | .inl _ => "") → Rp K cn H v d → RpK K cn H vs ds → RpK K cn H ((k, v) :: vs) ((k, d) :: ds)
inductive RpT (K : PySem.W.Frag) (cn : Cn) (H : Hp) : List (List Key × V) → List (List Key × D) → Prop
  | nil : RpT K cn H [] []
  | cons {k : List Key} {v : V} {vs : List (List Key × V)} {d : D} {ds : List (List Key × D)} : Rp K cn H v d → RpT K cn H vs ds → RpT K cn H ((k, v) :: vs) ((k, d) :: ds)
inductive RpF (K : PySem.W.Frag) (cn : Cn) (H : Hp) : List (Str × V) → List Str → List D → Prop
  | nil {fs : List (Str × V)} : RpF K cn H fs [] []
  | cons {fs : List (Str × V)} {f : Str} {ns : List Str} {v : V} {d : D} {l : List D} : fs.lookup f = some v → Rp K cn H v d → RpF K cn H fs ns l → RpF K cn H fs (f :: ns) (d :: l)
end
section
variable {K : PySem.W.Frag} {cn : Cn} {H H' : Hp}
mutual
theorem Rp.mono (s : Same H H') : ∀ {v : V} {d : D}, Rp K cn H v d → Rp K cn H' v d
  | _, _, .non => .non
  | _, _, .bl b => .bl b
  | _, _, .int i => .int i
  | _, _, .str x h => .str x h
  | _, _, .tup h t => .tup (s _ _ h) (RpA.mono s t)
  | _, _, .lst h t => .lst (s _ _ h) (RpA.mono s t)
  | _, _, .dk h t => .dk (h.imp (s _ _) fun ⟨q, o, e⟩ => ⟨q, o, s _ _ e⟩) (RpK.mono s t)
  | _, _, .dt h t => .dt (h.imp (s _ _) fun ⟨q, o, e⟩ => ⟨q, o, s _ _ e⟩) (RpT.mono s t)
  | _, _, .obj c h n t => .obj c (s _ _ h) n (RpF.mono s t)
  | _, _, .sta s => .sta s
  | _, _, .exc h t => .exc (s _ _ h) (Rp.mono s t)
theorem RpA.mono (s : Same H H') : ∀ {vs : List V} {ds : List D}, RpA K cn H vs ds → RpA K cn H' vs ds
  | _, _, .nil => .nil
  | _, _, .cons h t => .cons (Rp.mono s h) (RpA.mono s t)
theorem RpK.mono (s : Same H H') : ∀ {vs : List (Key × V)} {ds : List (Key × D)}, RpK K cn H vs ds → RpK K cn H' vs ds
  | _, _, .nil => .nil
  | _, _, .cons o h t => .cons o (Rp.mono s h) (RpK.mono s t)
theorem RpT.mono (s : Same H H') : ∀ {vs : List (List Key × V)} {ds : List (List Key × D)}, RpT K cn H vs ds → RpT K cn H' vs ds
  | _, _, .nil => .nil
  | _, _, .cons h t => .cons (Rp.mono s h) (RpT.mono s t)
theorem RpF.mono (s : Same H H') : ∀ {vs : List (Str × V)} {ns : List Str} {ds : List D}, RpF K cn H vs ns ds → RpF K cn H' vs ns ds
  | _, _, _, .nil => .nil
  | _, _, _, .cons o h t => .cons o (Rp.mono s h) (RpF.mono s t)
end
theorem RpA.length : ∀ {vs : List V} {ds : List D}, RpA K cn H vs ds → vs.length = ds.length
  | _, _, .nil => rfl
  | _, _, .cons _ t => by rw [List.length_cons, List.length_cons, RpA.length t]
theorem RpA.get : ∀ {vs : List V} {ds : List D} {i : Nat} {d : D}, RpA K cn H vs ds → ds[i]? = some d → ∃ v, vs[i]? = some v ∧ Rp K cn H v d
  | _, _, _, _, .nil, e => by simp at e
  | _, _, 0, _, .cons r _, e => by simp at e; subst e; exact ⟨_, rfl, r⟩
  | _, _, i + 1, d, .cons _ t, e => by
    obtain ⟨u, h1, h2⟩ := RpA.get (i := i) (d := d) t (by simpa using e)
    exact ⟨u, by simpa using h1, h2⟩
theorem RpA.getV : ∀ {vs : List V} {ds : List D} {i : Nat} {v : V}, RpA K cn H vs ds → vs[i]? = some v → ∃ d, ds[i]? = some d ∧ Rp K cn H v d
  | _, _, _, _, .nil, e => by simp at e
  | _, _, 0, _, .cons r _, e => by simp at e; subst e; exact ⟨_, rfl, r⟩
  | _, _, i + 1, d, .cons _ t, e => by
    obtain ⟨u, h1, h2⟩ := RpA.getV (i := i) (v := d) t (by simpa using e)
    exact ⟨u, by simpa using h1, h2⟩
theorem RpA.app : ∀ {vs us : List V} {ds es : List D}, RpA K cn H vs ds → RpA K cn H us es → RpA K cn H (vs ++ us) (ds ++ es)
  | _, _, _, _, .nil, s => s
  | _, _, _, _, .cons r t, s => .cons r (RpA.app t s)
theorem RpA.one {v : V} {d : D} (h : Rp K cn H v d) : RpA K cn H [v] [d] := .cons h .nil
theorem RpA.take : ∀ {vs : List V} {ds : List D} (n : Nat), RpA K cn H vs ds → RpA K cn H (vs.take n) (ds.take n)
  | _, _, 0, _ => .nil
  | _, _, _ + 1, .nil => .nil
  | _, _, n + 1, .cons r t => .cons r (RpA.take n t)
theorem RpA.drop : ∀ {vs : List V} {ds : List D} (n : Nat), RpA K cn H vs ds → RpA K cn H (vs.drop n) (ds.drop n)
  | _, _, 0, r => r
  | _, _, _ + 1, .nil => .nil
  | _, _, n + 1, .cons _ t => RpA.drop n t
theorem RpA.rev : ∀ {vs : List V} {ds : List D}, RpA K cn H vs ds → RpA K cn H vs.reverse ds.reverse
  | _, _, .nil => .nil
  | _, _, .cons r t => by
    rw [List.reverse_cons, List.reverse_cons]
    exact RpA.app (RpA.rev t) (.one r)
theorem RpA.set {v : V} {d : D} (h : Rp K cn H v d) : ∀ {vs : List V} {ds : List D} (i : Nat), RpA K cn H vs ds → RpA K cn H (vs.set i v) (ds.set i d)
  | _, _, _, .nil => .nil
  | _, _, 0, .cons _ t => .cons h t
  | _, _, i + 1, .cons q t => .cons q (RpA.set h i t)
theorem RpA.eraseIdx : ∀ {vs : List V} {ds : List D} (i : Nat), RpA K cn H vs ds → RpA K cn H (vs.eraseIdx i) (ds.eraseIdx i)
  | _, _, _, .nil => .nil
  | _, _, 0, .cons _ t => t
  | _, _, i + 1, .cons q t => .cons q (RpA.eraseIdx i t)
end
/-! ### two ways to run: without, with a drawing state -/
noncomputable def Gv : Option Addr → Hp → Hp
  | none, H => H
  | some s, H => Vw s H
def Wok : Option Addr → Nat → Hp → Prop
  | none, _, _ => True
  | some s, N, H => Ds H s N
section
variable {m : Option Addr} {N : Nat} {H H' : Hp} {p : Addr} {o : HO}
theorem gv_sub : Same (Gv m H) H := by
  cases m with
  | none => exact Same.refl _
  | some s => exact vw_sub
theorem gv_new (o : HO) (w : Wok m N H) (h : H p = none) : Wok m N (upd H p o) ∧ Same (Gv m H) (Gv m (upd H p o)) ∧ Gv m (upd H p o) p = some o := by
  cases m with
  | none => exact ⟨trivial, same_new h, upd_same⟩
  | some s =>
    obtain ⟨a, _, b, c⟩ := vmk (o := o) w h
    exact ⟨a, b, c⟩
theorem gv_keep (w : Wok m N H) (h : Same H H') : Wok m N H' ∧ Same (Gv m H) (Gv m H') := by
  cases m with
  | none => exact ⟨trivial, h⟩
  | some s => exact vkeep w h
theorem gv_tup {xs : List V} (w : Wok m N H) (h : H p = some (.tup xs)) : Gv m H p = some (.tup xs) := by
  cases m with
  | none => exact h
  | some s => exact vw_nl w h fun _ z => by cases z
theorem gv_none (h : H p = none) : Gv m H p = none := by
  cases m with
  | none => exact h
  | some s => exact vw_none h
theorem keepT (w : Wok m N H) (h : Same (Gv m H) (Gv m H')) : KeepT H H' := fun b xs e => gv_sub _ _ (h _ _ (gv_tup w e))
/-- all but the view put aside -/
theorem fr_view (w : Wok m N H) : ∃ hd, HidOk H hd ∧ dels H hd = Gv m H ∧ ∀ H', Same (Gv m H) H' → (∀ p ∈ hd, H' p = none) → Wok m N (puts H' H hd) ∧ Gv m (puts H' H hd) = H' := by
  cases m with
  | none => exact ⟨[], (fun _ h => by cases h), dels_nil, fun H' h n => ⟨trivial, by funext a; exact puts_out (by simp)⟩⟩
  | some s =>
    obtain ⟨A, B, bigs, cells, n, S, l⟩ := id w
    refine ⟨[s, A, B], fun p hp => ?_, ?_, fun H' h n => ?_⟩
    · simp only [List.mem_cons, List.not_mem_nil, or_false] at hp
      rcases hp with rfl | rfl | rfl
      · exact ⟨_, S.st, trivial⟩
      · exact ⟨_, S.ha, trivial⟩
      · exact ⟨_, S.hb, trivial⟩
    · funext a
      show (if a ∈ [s, A, B] then none else H a) = Vw s H a
      unfold Vw
      have e : a ∈ [s, A, B] ↔ vol H s a := by
        rw [S.volA]
        simp
      by_cases c : vol H s a
      · rw [if_pos c, if_pos (e.mpr c)]
      · rw [if_neg c, if_neg fun z => c (e.mp z)]
    · have i1 : s ∈ [s, A, B] := by simp
      have i2 : A ∈ [s, A, B] := by simp
      have i3 : B ∈ [s, A, B] := by simp
      have S' : StAt (puts H' H [s, A, B]) s A B bigs cells _ := ⟨by rw [puts_in i1]; exact S.st, by rw [puts_in i2]; exact S.ha, by rw [puts_in i3]; exact S.hb, S.ab, S.la, S.lb, S.nb⟩
      refine ⟨⟨A, B, bigs, cells, _, S', l⟩, ?_⟩
      funext a
      show Vw s (puts H' H [s, A, B]) a = H' a
      have e : a ∈ [s, A, B] ↔ vol (puts H' H [s, A, B]) s a := by
        rw [S'.volA]
        simp
      unfold Vw
      by_cases c : vol (puts H' H [s, A, B]) s a
      · rw [if_pos c]
        exact (n a (e.mpr c)).symm
      · rw [if_neg c]
        exact puts_out fun z => c (e.mp z)
/-- plain things of the view taken away -/
theorem wok_dels {l : List Addr} (w : Wok m N H) (h : ∀ p ∈ l, ∃ o, Gv m H p = some o) : Wok m N (dels H l) ∧ Gv m (dels H l) = dels (Gv m H) l := by
  cases m with
  | none => exact ⟨trivial, rfl⟩
  | some s =>
    obtain ⟨A, B, bigs, cells, n, S, k⟩ := id w
    have no : ∀ p, vol H s p → p ∉ l := fun p v q => by
      obtain ⟨o, e⟩ := h p q
      exact (vw_at e).2 v
    have v1 := no s (S.volA.mpr (.inl rfl))
    have v2 := no A (S.volA.mpr (.inr (.inl rfl)))
    have v3 := no B (S.volA.mpr (.inr (.inr rfl)))
    have S' : StAt (dels H l) s A B bigs cells _ := ⟨by rw [dels_out v1]; exact S.st, by rw [dels_out v2]; exact S.ha, by rw [dels_out v3]; exact S.hb, S.ab, S.la, S.lb, S.nb⟩
    refine ⟨⟨A, B, bigs, cells, _, S', k⟩, ?_⟩
    funext a
    show Vw s (dels H l) a = dels (Vw s H) l a
    have e : vol (dels H l) s a ↔ vol H s a := by rw [S.volA, S'.volA]
    by_cases c : vol H s a
    · have q : Vw s H a = none := if_pos c
      have q2 : Vw s (dels H l) a = none := if_pos (e.mpr c)
      rw [q2]
      show none = if a ∈ l then none else Vw s H a
      rw [q]
      split <;> rfl
    · have q : Vw s H a = H a := if_neg c
      have q2 : Vw s (dels H l) a = dels H l a := if_neg fun z => c (e.mp z)
      rw [q2]
      show (if a ∈ l then none else H a) = if a ∈ l then none else Vw s H a
      rw [q]
theorem wok_of_dels {l : List Addr} (w : Wok m N (dels H l)) : Wok m N H ∧ Same (Gv m (dels H l)) (Gv m H) := gv_keep w dels_sub
end
/-! ### a def's promise, framed -/
section
variable {P : Program} {w : World} {K : PySem.W.Frag} {mg : Str → Option Value} {base : Heap} {k : Nat} {f : Addr} {fd : FuncData} {ps : List Str} {sp : Sp}
def spFr (sp : Sp) : Sp := fun vs H Q E => ∃ hd, HidOk H hd ∧ sp vs (dels H hd) (fun v H' => KeepT H H' ∧ ((∀ p ∈ hd, H' p = none) → Q v (puts H' H hd))) (fun c d H' => KeepT H H' ∧ ((∀ p ∈ hd, H' p = none) → E c d (puts H' H hd)))
theorem un_puts {fs : List Addr} {H H' : Hp} {h h' : Heap} {hd : List Addr} (hh : HidOk H hd) (u : Un fs [] (dels H hd) H' h h') (ok : HOk P w H h) (fr : ∀ b ∈ fs, H b = none) : (∀ p ∈ hd, H' p = none ∧ ∃ ob, h.get? p = some ob ∧ h'.get? p = some ob) ∧ Un fs [] H (puts H' H hd) h h' := by
  have at_ : ∀ p ∈ hd, H' p = none ∧ ∃ ob, h.get? p = some ob ∧ h'.get? p = some ob := fun p m => by
    obtain ⟨o, ho, q⟩ := hh p m
    obtain ⟨ob, e, nc⟩ := plain_obj (ok _ _ ho) q
    have nf : p ∉ fs := fun z => by
      rw [fr p z] at ho
      cases ho
    exact ⟨u.free p ob e (dels_in m) (by simp), ob, e, u.keep p ob e (dels_in m) nf (by simp)⟩
  have dn : ∀ b, H b = none → dels H hd b = none := fun b e => by
    by_cases m : b ∈ hd
    · exact dels_in m
    · rw [dels_out m]
      exact e
  refine ⟨at_, ⟨fun b o e n => u.keep b o e (dn b n), fun b o e n => u.slot b o e (dn b n), fun b o e n x => ?_, u.there, fun b xs e => ?_, fun b o v e => ?_, fun b ps e => ?_⟩⟩
  · by_cases m : b ∈ hd
    · rw [puts_in m]
      exact n
    · rw [puts_out m]
      exact u.free b o e (dn b n) x
  · have m := not_hid hh e id
    rw [puts_out m]
    exact u.tups b xs (by rw [dels_out m]; exact e)
  · have m := not_hid hh e id
    rw [puts_out m]
    exact u.frzs b o v (by rw [dels_out m]; exact e)
  · have m := not_hid hh e id
    obtain ⟨more, q⟩ := u.tbls b ps (by rw [dels_out m]; exact e)
    exact ⟨more, by rw [puts_out m]; exact q⟩
theorem hok_puts {H H' : Hp} {h h' : Heap} {hd : List Addr} (hh : HidOk H hd) (ok : HOk P w H h) (ok' : HOk P w H' h') (kt : KeepT H H') (at_ : ∀ p ∈ hd, H' p = none ∧ ∃ ob, h.get? p = some ob ∧ h'.get? p = some ob) : HOk P w (puts H' H hd) h' := fun b o e => by
  have tp : ∀ b xs, H' b = some (.tup xs) → puts H' H hd b = some (.tup xs) := fun b xs e => by
    rw [puts_out (fun m => by rw [(at_ b m).1] at e; cases e)]
    exact e
  by_cases m : b ∈ hd
  · rw [puts_in m] at e
    obtain ⟨o2, e2, q⟩ := hh b m
    rw [e] at e2
    cases e2
    obtain ⟨_, ob, g1, g2⟩ := at_ b m
    exact plain_move (ok b o e) q g1 g2 fun c xs r => tp _ _ (kt _ _ r)
  · rw [puts_out m] at e
    refine (ok' b o e).stay (fun c v _ r => r) (fun c r => ?_) tp
    rw [puts_out (fun m => by rw [(at_ c m).1] at r; cases r)]
    exact r
theorem hok_dels {H : Hp} {h : Heap} {hd : List Addr} (hh : HidOk H hd) (ok : HOk P w H h) : HOk P w (dels H hd) h := fun b o e => objOk_dels hh (ok b o (dels_sub b o e))
theorem env0_dels {A : Around} {outer : List Env} {s : Shared} {H : Hp} {hd : List Addr} (hh : HidOk H hd) (e : Env0 P w K mg base A outer s H) : Env0 P w K mg base A outer s (dels H hd) := by
  have dn : ∀ b, H b = none → dels H hd b = none := fun b e => by
    by_cases m : b ∈ hd
    · exact dels_in m
    · rw [dels_out m]
      exact e
  exact ⟨e.frames, e.mod, fun b o q => ⟨(e.bs b o q).1, dn b (e.bs b o q).2⟩, e.bsz, e.funs, fun b hb => dn b (e.frf b hb), hok_dels hh e.hok, e.bare⟩
theorem ce_puts {outer : List Env} {H : Hp} {s s' : Shared} {Q : VK} {u : Value} {hd : List Addr} (hh : HidOk H hd) (ok : HOk P w H s.heap) (fr : ∀ b ∈ frs outer, H b = none)
    (h : CE outer P w (dels H hd) s (fun v H' => KeepT H H' ∧ ((∀ p ∈ hd, H' p = none) → Q v (puts H' H hd))) u s') : CE outer P w H s Q u s' := by
  obtain ⟨v, H', os, bare, un, hok, r, kt, q⟩ := h
  obtain ⟨at_, un2⟩ := un_puts hh un ok fr
  exact ⟨v, puts H' H hd, os, bare, un2, hok_puts hh ok hok kt at_, r, q fun p m => (at_ p m).1⟩
theorem FnOk.fr0 (F : FnOk P w K mg base CX0 k f fd ps sp) : FnOk P w K mg base CX0 k f fd ps (spFr sp) :=
  ⟨fun vs H Q E ⟨hd, _, h⟩ => F.len _ _ _ _ h, fun A outer s H args us vs Q E hr e0 hb hv ⟨hd, hh, h⟩ =>
    codeAny_mono (F.run A outer s (dels H hd) args us vs _ _ hr (env0_dels hh e0) hb hv h) fun r s' hq => by
      cases r with
      | error e => exact hq
      | ok fl =>
        cases fl with
        | ret u => exact ce_puts hh e0.hok e0.frf hq
        | next => exact hq
        | brk => exact hq
        | cont => exact hq⟩
theorem FnOk.frX (F : FnOk P w K mg base (L2.CX P w) k f fd ps sp) : FnOk P w K mg base (L2.CX P w) k f fd ps (spFr sp) :=
  ⟨fun vs H Q E ⟨hd, _, h⟩ => F.len _ _ _ _ h, fun A outer s H args us vs Q E hr e0 hb hv ⟨hd, hh, h⟩ =>
    codeAny_mono (F.run A outer s (dels H hd) args us vs _ _ hr (env0_dels hh e0) hb hv h) fun r s' hq => by
      cases r with
      | error e =>
        obtain ⟨a, B, H', cls, d, rfl, fl, hok, ub, na, os, ag, kt, x⟩ := hq
        have dn : ∀ b, H b = none → dels H hd b = none := fun b e => by
          by_cases m : b ∈ hd
          · exact dels_in m
          · rw [dels_out m]
            exact e
        have at_ : ∀ p ∈ hd, H' p = none ∧ ∃ ob, s.heap.get? p = some ob ∧ B.get? p = some ob := fun p m => by
          obtain ⟨o, ho, q⟩ := hh p m
          obtain ⟨ob, e, nc⟩ := plain_obj (e0.hok _ _ ho) q
          have nf : p ∉ frs outer := fun z => by
            rw [e0.frf p z] at ho
            cases ho
          exact ⟨ub.free p ob e (dels_in m), ob, e, ub.keep p ob e (dels_in m) nf⟩
        refine ⟨a, B, puts H' H hd, cls, d, rfl, fl, hok_puts hh e0.hok hok kt at_, ⟨fun b o e n => ub.keep b o e (dn b n), fun b o e n => ub.slot b o e n, fun b o e n => ?_, ub.there, fun b xs e => ?_, fun b o v e => ?_, fun b ps e => ?_⟩, ?_, os, ag, x fun p m => (at_ p m).1⟩
        · by_cases m : b ∈ hd
          · rw [puts_in m]
            exact n
          · rw [puts_out m]
            exact ub.free b o e (dn b n)
        · have m := not_hid hh e id
          rw [puts_out m]
          exact ub.tups b xs (by rw [dels_out m]; exact e)
        · have m := not_hid hh e id
          rw [puts_out m]
          exact ub.frzs b o v (by rw [dels_out m]; exact e)
        · have m := not_hid hh e id
          obtain ⟨more, q⟩ := ub.tbls b ps (by rw [dels_out m]; exact e)
          exact ⟨more, by rw [puts_out m]; exact q⟩
        · by_cases m : a ∈ hd
          · exfalso
            obtain ⟨_, ob, g1, g2⟩ := at_ a m
            obtain ⟨c1, c2, _⟩ := id fl
            rw [c2] at g2
            cases g2
          · rw [puts_out m]
            exact na
      | ok fl =>
        cases fl with
        | ret u => exact ce_puts hh e0.hok e0.frf hq
        | next => exact hq
        | brk => exact hq
        | cont => exact hq⟩
end
end Dl

set_option Elab.async false
set_option linter.all false
set_option maxRecDepth 100000
set_option maxHeartbeats 2000000
namespace Dl
open PySem PySem.Spec PyProof.Rows L2 Rl Dr _root_.Tx Ex Er So Wi Vw
instance decOkS (z : Str) : Decidable (OkS z) := inferInstanceAs (Decidable (∀ c ∈ z.cps.toList, c < 128))
/-! ### readings over data -/
abbrev DEnv := List (Option D)
abbrev RK := D → Nat → Prop
abbrev EK := Nat → D → Nat → Prop
abbrev DE := DEnv → Nat → RK → EK → Prop
abbrev DA := DEnv → Nat → (List D → Nat → Prop) → EK → Prop
abbrev DT := DEnv → Nat → (Bool → Nat → Prop) → EK → Prop
abbrev DO := DEnv → Nat → (Option Int → Nat → Prop) → EK → Prop
structure Md where
  K : PySem.W.Frag
  cn : Cn
  m : Option Addr
  W : WX
def EnvR (M : Md) (G : Hp) (σ : L2.St) (δ : DEnv) : Prop := σ.length = δ.length ∧ ∀ (i : Nat) (d : D), δ[i]? = some (some d) → ∃ v, σ[i]? = some (some v) ∧ Rp M.K M.cn G v d
theorem EnvR.mono {M : Md} {G G' : Hp} {σ : L2.St} {δ : DEnv} (h : EnvR M G σ δ) (s : Same G G') : EnvR M G' σ δ := ⟨h.1, fun i d e => by
  obtain ⟨v, a, b⟩ := h.2 i d e
  exact ⟨v, a, b.mono s⟩⟩
def XdR (M : Md) (G : Hp) (c : Nat) (dx : Option Addr) (x : D) : Prop := match M.cn.ef c with
  | some f => ∃ d v, dx = some d ∧ G d = some (.xd [(f, v)]) ∧ Rp M.K M.cn G v x
  | none => x = .non
def XOk (M : Md) (σ : L2.St) (H : Hp) (Ex : EK) : Prop := ∀ c C x dx H' N', M.cn.xm c = some C → Wok M.m N' H' → Same (Gv M.m H) (Gv M.m H') → XdR M (Gv M.m H') c dx x → Ex c x N' → M.W (.ref C) dx σ H'
theorem XOk.mono {M : Md} {σ : L2.St} {H H1 : Hp} {Ex : EK} (h : XOk M σ H Ex) (s : Same (Gv M.m H) (Gv M.m H1)) : XOk M σ H1 Ex := fun c C x dx H' N' a b s' d e => h c C x dx H' N' a b (s.trans s') d e
def SE (M : Md) (t : TE) (d : DE) : Prop := ∀ σ H δ N Q R Ex, Wok M.m N H → EnvR M (Gv M.m H) σ δ → d δ N R Ex →
  (∀ v H' x N', Wok M.m N' H' → Same (Gv M.m H) (Gv M.m H') → Rp M.K M.cn (Gv M.m H') v x → R x N' → Q v H') → XOk M σ H Ex → t σ H Q
def SA (M : Md) (t : TA) (d : DA) : Prop := ∀ σ H δ N Q R Ex, Wok M.m N H → EnvR M (Gv M.m H) σ δ → d δ N R Ex →
  (∀ vs H' xs N', Wok M.m N' H' → Same (Gv M.m H) (Gv M.m H') → RpA M.K M.cn (Gv M.m H') vs xs → R xs N' → Q vs H') → XOk M σ H Ex → t σ H Q
def ST (M : Md) (t : TT) (d : DT) : Prop := ∀ σ H δ N Q R Ex, Wok M.m N H → EnvR M (Gv M.m H) σ δ → d δ N R Ex →
  (∀ b H' N', Wok M.m N' H' → Same (Gv M.m H) (Gv M.m H') → R b N' → Q b H') → XOk M σ H Ex → t σ H Q
def SO (M : Md) (t : TO) (d : DO) : Prop := ∀ σ H δ N Q R Ex, Wok M.m N H → EnvR M (Gv M.m H) σ δ → d δ N R Ex →
  (∀ b H' N', Wok M.m N' H' → Same (Gv M.m H) (Gv M.m H') → R b N' → Q b H') → XOk M σ H Ex → t σ H Q
abbrev DOp := D → D → (D → Prop) → Prop
def SR (M : Md) (r : R2) (o : DOp) : Prop := ∀ x y dx dy H N Q R, Wok M.m N H → Rp M.K M.cn (Gv M.m H) x dx → Rp M.K M.cn (Gv M.m H) y dy → o dx dy R →
  (∀ v H' z, Wok M.m N H' → Same (Gv M.m H) (Gv M.m H') → Rp M.K M.cn (Gv M.m H') v z → R z → Q v H') → r x y H Q
section
variable {M : Md}
theorem rp_new {H : Hp} {N : Nat} {p : Addr} {xs : List V} {ds : List D} (w : Wok M.m N H) (np : H p = none) (o : HO) : Wok M.m N (upd H p o) ∧ Same (Gv M.m H) (Gv M.m (upd H p o)) ∧ Gv M.m (upd H p o) p = some o := gv_new o w np
/-! names, constants -/
def dVar (i : Nat) : DE := fun δ N R _ => match δ[i]? with
  | some (some d) => R d N
  | _ => False
theorem se_var (i : Nat) : SE M (tVar i) (dVar i) := fun σ H δ N Q R Ex w e h k _ => by
  unfold dVar at h
  split at h
  · rename_i d q
    obtain ⟨v, a, b⟩ := e.2 i d q
    exact ⟨v, a, k v H d N w (Same.refl _) b h⟩
  · exact h.elim
def dC (x : D) : DE := fun _ N R _ => R x N
theorem se_int {i : Int} : SE M (tC (.int i)) (dC (.int i)) := fun σ H δ N Q R Ex w e h k _ => k _ H _ N w (Same.refl _) (.int i) h
theorem se_bl {b : Bool} : SE M (tC (.bl b)) (dC (.bl b)) := fun σ H δ N Q R Ex w e h k _ => k _ H _ N w (Same.refl _) (.bl b) h
theorem se_non : SE M (tC .non) (dC .non) := fun σ H δ N Q R Ex w e h k _ => k _ H _ N w (Same.refl _) .non h
theorem se_str {x : Str} (o : OkS x := by decide +kernel) : SE M (tC (.str x)) (dC (.str x)) := fun σ H δ N Q R Ex w e h k _ => k _ H _ N w (Same.refl _) (.str x o) h
/-! arguments, displays -/
def dNil : DA := fun _ N R _ => R [] N
def dCons (a : DE) (r : DA) : DA := fun δ N R Ex => a δ N (fun x N1 => r δ N1 (fun xs N2 => R (x :: xs) N2) Ex) Ex
theorem sa_nil : SA M tNil dNil := fun σ H δ N Q R Ex w e h k _ => k [] H [] N w (Same.refl _) .nil h
theorem sa_cons {ta : TE} {tr : TA} {a : DE} {r : DA} (ha : SE M ta a) (hr : SA M tr r) : SA M (tCons ta tr) (dCons a r) := fun σ H δ N Q R Ex w e h k kx =>
  ha σ H δ N _ _ Ex w e h (fun v H1 x N1 w1 s1 r1 q1 => hr σ H1 δ N1 _ _ Ex w1 (e.mono s1) q1 (fun vs H2 xs N2 w2 s2 r2 q2 => k _ H2 _ N2 w2 (s1.trans s2) (.cons (r1.mono s2) r2) q2) (kx.mono s1)) kx
def dTup (a : DA) : DE := fun δ N R Ex => a δ N (fun xs N1 => xs.length ≤ sizeLine ∧ R (.tup xs) N1) Ex
def dLst (a : DA) : DE := fun δ N R Ex => a δ N (fun xs N1 => xs.length ≤ sizeLine ∧ R (.lst xs) N1) Ex
theorem se_tup {t : TA} {a : DA} (h : SA M t a) : SE M (tTup t) (dTup a) := fun σ H δ N Q R Ex w e q k kx =>
  h σ H δ N _ _ Ex w e q (fun vs H1 xs N1 w1 s1 r1 q1 => ⟨by rw [r1.length]; exact q1.1, fun p np => by
    obtain ⟨a, b, c⟩ := gv_new (.tup vs) w1 np
    exact k _ _ _ N1 a (s1.trans b) (.tup c (r1.mono b)) q1.2⟩) kx
theorem se_lst {t : TA} {a : DA} (h : SA M t a) : SE M (tLst t) (dLst a) := fun σ H δ N Q R Ex w e q k kx =>
  h σ H δ N _ _ Ex w e q (fun vs H1 xs N1 w1 s1 r1 q1 => ⟨by rw [r1.length]; exact q1.1, fun p np => by
    obtain ⟨a, b, c⟩ := gv_new (.lst vs) w1 np
    exact k _ _ _ N1 a (s1.trans b) (.lst c (r1.mono b)) q1.2⟩) kx
/-! two-place operations -/
def dOp (o : DOp) (a b : DE) : DE := fun δ N R Ex => a δ N (fun x N1 => b δ N1 (fun y N2 => o x y fun z => R z N2) Ex) Ex
theorem se_op {r : R2} {o : DOp} {ta tb : TE} {a b : DE} (hr : SR M r o) (ha : SE M ta a) (hb : SE M tb b) : SE M (tOp r ta tb) (dOp o a b) := fun σ H δ N Q R Ex w e h k kx =>
  ha σ H δ N _ _ Ex w e h (fun v H1 x N1 w1 s1 r1 q1 => hb σ H1 δ N1 _ _ Ex w1 (e.mono s1) q1 (fun u H2 y N2 w2 s2 r2 q2 =>
    hr v u x y H2 N2 _ _ w2 (r1.mono s2) r2 q2 fun z H3 d w3 s3 r3 q3 => k z H3 d N2 w3 (s1.trans (s2.trans s3)) r3 q3) (kx.mono s1)) kx
theorem op_or {X : Cx} {f : Value → Value → Sem Value} {r r' : R2} (h : OpR X f r) (h' : OpR X f r') : OpR X f (fun x y H Q => r x y H Q ∨ r' x y H Q) := by
  intro pins s σ H x y v u Q I rx ry q
  rcases q with q | q
  · exact h pins s σ H x y v u Q I rx ry q
  · exact h' pins s σ H x y v u Q I rx ry q
/-- + -/
def rAddD (K : PySem.W.Frag) : R2 := fun x y H Q => rI0 (fun i j => .int (i + j)) x y H Q ∨ (∃ i j, x = .str i ∧ y = .str j ∧ i.length + j.length ≤ sizeLine ∧ Q (.str (i ++ j)) H) ∨ rCat x y H Q ∨ rCatA K x y H Q
def dAdd : DOp := fun x y R => match x, y with
  | .int i, .int j => R (.int (i + j))
  | .str i, .str j => i.length + j.length ≤ sizeLine ∧ R (.str (i ++ j))
  | .lst a, .lst b => a.length + b.length ≤ sizeLine ∧ R (.lst (a ++ b))
  | .tup a, .tup b => a.length + b.length ≤ sizeLine ∧ R (.tup (a ++ b))
  | _, _ => False
theorem op_addD {X : Cx} : OpR X (binaryOp .Add) (rAddD X.K) := op_or op_add (op_or op_add_str (op_or op_cat op_catA))
theorem rp_int {H : Hp} {x : V} {i : Int} (h : Rp M.K M.cn H x (.int i)) : x = .int i := by cases h; rfl
theorem rp_bl {H : Hp} {x : V} {i : Bool} (h : Rp M.K M.cn H x (.bl i)) : x = .bl i := by cases h; rfl
theorem rp_non {H : Hp} {x : V} (h : Rp M.K M.cn H x .non) : x = .non := by cases h; rfl
theorem rp_str {H : Hp} {x : V} {i : Str} (h : Rp M.K M.cn H x (.str i)) : x = .str i ∧ OkS i := by cases h; exact ⟨rfl, by assumption⟩
theorem rp_lst {H : Hp} {x : V} {l : List D} (h : Rp M.K M.cn H x (.lst l)) : ∃ a xs, x = .ref a ∧ H a = some (.lst xs) ∧ RpA M.K M.cn H xs l := by cases h; exact ⟨_, _, rfl, by assumption, by assumption⟩
theorem rp_tup {H : Hp} {x : V} {l : List D} (h : Rp M.K M.cn H x (.tup l)) : ∃ a xs, x = .ref a ∧ H a = some (.tup xs) ∧ RpA M.K M.cn H xs l := by cases h; exact ⟨_, _, rfl, by assumption, by assumption⟩
theorem rp_dk {H : Hp} {x : V} {l : List (Key × D)} (h : Rp M.K M.cn H x (.dk l)) : ∃ a xs, x = .ref a ∧ Rd H a (.dK xs) ∧ RpK M.K M.cn H xs l := by
  cases h with
  | dk h t => exact ⟨_, _, rfl, h.rd, t⟩
theorem rp_dt {H : Hp} {x : V} {l : List (List Key × D)} (h : Rp M.K M.cn H x (.dt l)) : ∃ a xs, x = .ref a ∧ Rd H a (.dT xs) ∧ RpT M.K M.cn H xs l := by
  cases h with
  | dt h t => exact ⟨_, _, rfl, h.rd, t⟩
theorem rp_obj {H : Hp} {x : V} {c : Nat} {l : List D} (h : Rp M.K M.cn H x (.obj c l)) : ∃ a C dx fs, x = .ref a ∧ M.cn.cm c = some C ∧ H a = some (.ins C dx fs) ∧ (∀ m, m ∉ M.cn.fn c → fs.lookup m = none) ∧ RpF M.K M.cn H fs (M.cn.fn c) l := by cases h; exact ⟨_, _, _, _, rfl, by assumption, by assumption, by assumption, by assumption⟩
theorem sr_add : SR M (rAddD M.K) dAdd := fun x y dx dy H N Q R w rx ry h k => by
  unfold dAdd at h
  split at h
  · rw [rp_int rx, rp_int ry]
    exact .inl ⟨_, _, rfl, rfl, k _ H _ w (Same.refl _) (.int _) h⟩
  · obtain ⟨e1, o1⟩ := rp_str rx
    obtain ⟨e2, o2⟩ := rp_str ry
    rw [e1, e2]
    exact .inr (.inl ⟨_, _, rfl, rfl, h.1, k _ H _ w (Same.refl _) (.str _ (o1.app o2)) h.2⟩)
  · obtain ⟨a, xs, rfl, e1, r1⟩ := rp_lst rx
    obtain ⟨b, ys, rfl, e2, r2⟩ := rp_lst ry
    refine .inr (.inr (.inl ⟨a, b, xs, ys, rfl, rfl, gv_sub _ _ e1, gv_sub _ _ e2, by rw [r1.length, r2.length]; exact h.1, fun p np => ?_⟩))
    obtain ⟨w2, s2, e3⟩ := gv_new (.lst (xs ++ ys)) w np
    exact k _ _ _ w2 s2 (.lst e3 ((r1.app r2).mono s2)) h.2
  · obtain ⟨a, xs, rfl, e1, r1⟩ := rp_tup rx
    obtain ⟨b, ys, rfl, e2, r2⟩ := rp_tup ry
    refine .inr (.inr (.inr ⟨a, b, xs, ys, rfl, rfl, st (gv_sub _ _ e1), st (gv_sub _ _ e2), by rw [r1.length, r2.length]; exact h.1, fun e => ?_, fun _ e => ?_, fun _ _ p np => ?_⟩))
    · subst e
      cases r1
      exact k _ H _ w (Same.refl _) (.tup e2 r2) h.2
    · subst e
      cases r2
      rename_i l1
      have q := h.2
      rw [List.append_nil] at q
      exact k _ H _ w (Same.refl _) (.tup e1 r1) q
    · obtain ⟨w2, s2, e3⟩ := gv_new (.tup (xs ++ ys)) w np
      exact k _ _ _ w2 s2 (.tup e3 ((r1.app r2).mono s2)) h.2
  · exact h.elim
def dI2 (C : Int → Int → Prop) (g : Int → Int → D) : DOp := fun x y R => match x, y with
  | .int i, .int j => C i j ∧ R (g i j)
  | _, _ => False
theorem sr_i2 {C : Int → Int → Prop} {g : Int → Int → D} {gv : Int → Int → V} (hg : ∀ i j (H : Hp), Rp M.K M.cn H (gv i j) (g i j)) : SR M (rI C gv) (dI2 C g) := fun x y dx dy H N Q R w rx ry h k => by
  unfold dI2 at h
  split at h
  · rw [rp_int rx, rp_int ry]
    exact ⟨_, _, rfl, rfl, h.1, k _ H _ w (Same.refl _) (hg _ _ _) h.2⟩
  · exact h.elim
def dI0 (g : Int → Int → D) : DOp := fun x y R => match x, y with
  | .int i, .int j => R (g i j)
  | _, _ => False
theorem sr_i0 {g : Int → Int → D} {gv : Int → Int → V} (hg : ∀ i j (H : Hp), Rp M.K M.cn H (gv i j) (g i j)) : SR M (rI0 gv) (dI0 g) := fun x y dx dy H N Q R w rx ry h k => by
  unfold dI0 at h
  split at h
  · rw [rp_int rx, rp_int ry]
    exact ⟨_, _, rfl, rfl, k _ H _ w (Same.refl _) (hg _ _ _) h⟩
  · exact h.elim
abbrev dSub : DOp := dI0 fun i j => .int (i - j)
abbrev dMulI : DOp := dI2 CMul fun i j => .int (i * j)
abbrev dMod : DOp := dI2 (fun _ j => j ≠ 0) fun i j => .int (i.fmod j)
abbrev dFdiv : DOp := dI2 CDivN fun i j => .int (i.fdiv j)
/-- an order: ints, texts -/
def dOrd (p : Int → Int → Bool) (q : List Nat → List Nat → Bool) : DOp := fun x y R => match x, y with
  | .int i, .int j => R (.bl (p i j))
  | .str i, .str j => R (.bl (q i.cps.toList j.cps.toList))
  | _, _ => False
abbrev dLt : DOp := dOrd (fun i j => decide (i < j)) fun a b => decide (a < b)
abbrev dGt : DOp := dOrd (fun i j => decide (j < i)) fun a b => decide (b < a)
abbrev dLe : DOp := dOrd (fun i j => decide (i ≤ j)) fun a b => decide (a ≤ b)
abbrev dGe : DOp := dOrd (fun i j => decide (j ≤ i)) fun a b => decide (b ≤ a)
def rOrdD (p : Int → Int → Bool) (q : List Nat → List Nat → Bool) : R2 := fun x y H Q => rI0 (fun i j => .bl (p i j)) x y H Q ∨ ∃ i j, x = .str i ∧ y = .str j ∧ Q (.bl (q i.cps.toList j.cps.toList)) H
theorem sr_ord {p : Int → Int → Bool} {q : List Nat → List Nat → Bool} : SR M (rOrdD p q) (dOrd p q) := fun x y dx dy H N Q R w rx ry h k => by
  unfold dOrd at h
  split at h
  · rw [rp_int rx, rp_int ry]
    exact .inl ⟨_, _, rfl, rfl, k _ H _ w (Same.refl _) (.bl _) h⟩
  · rw [(rp_str rx).1, (rp_str ry).1]
    exact .inr ⟨_, _, rfl, rfl, k _ H _ w (Same.refl _) (.bl _) h⟩
  · exact h.elim
/-! and, or, not, a if t else b -/
def dAnd (a b : DE) : DE := fun δ N R Ex => a δ N (fun x N1 => match x with
  | .bl c => if c = true then b δ N1 R Ex else R (.bl false) N1
  | _ => False) Ex
def dOr (a b : DE) : DE := fun δ N R Ex => a δ N (fun x N1 => match x with
  | .bl c => if c = true then R (.bl true) N1 else b δ N1 R Ex
  | _ => False) Ex
def dNot (a : DE) : DE := fun δ N R Ex => a δ N (fun x N1 => match x with
  | .bl c => R (.bl (!c)) N1
  | _ => False) Ex
theorem se_and {ta tb : TE} {a b : DE} (ha : SE M ta a) (hb : SE M tb b) : SE M (tAndV ta tb) (dAnd a b) := fun σ H δ N Q R Ex w e h k kx =>
  ha σ H δ N _ _ Ex w e h (fun v H1 x N1 w1 s1 r1 q1 => by
    split at q1
    · rename_i c
      refine ⟨c, rp_bl r1, ?_⟩
      by_cases e0 : c = true
      · rw [if_pos e0] at q1 ⊢
        exact hb σ H1 δ N1 _ _ Ex w1 (e.mono s1) q1 (fun v H2 x N2 w2 s2 => k v H2 x N2 w2 (s1.trans s2)) (kx.mono s1)
      · rw [if_neg e0] at q1 ⊢
        exact k _ H1 _ N1 w1 s1 (.bl _) q1
    · exact q1.elim) kx
theorem se_or {ta tb : TE} {a b : DE} (ha : SE M ta a) (hb : SE M tb b) : SE M (tOrV ta tb) (dOr a b) := fun σ H δ N Q R Ex w e h k kx =>
  ha σ H δ N _ _ Ex w e h (fun v H1 x N1 w1 s1 r1 q1 => by
    split at q1
    · rename_i c
      refine ⟨c, rp_bl r1, ?_⟩
      by_cases e0 : c = true
      · rw [if_pos e0] at q1 ⊢
        exact k _ H1 _ N1 w1 s1 (.bl _) q1
      · rw [if_neg e0] at q1 ⊢
        exact hb σ H1 δ N1 _ _ Ex w1 (e.mono s1) q1 (fun v H2 x N2 w2 s2 => k v H2 x N2 w2 (s1.trans s2)) (kx.mono s1)
    · exact q1.elim) kx
theorem se_not {ta : TE} {a : DE} (ha : SE M ta a) : SE M (tNotV ta) (dNot a) := fun σ H δ N Q R Ex w e h k kx =>
  ha σ H δ N _ _ Ex w e h (fun v H1 x N1 w1 s1 r1 q1 => by
    split at q1
    · exact ⟨_, rp_bl r1, k _ H1 _ N1 w1 s1 (.bl _) q1⟩
    · exact q1.elim) kx
/-! tests -/
def dTv (a : DE) : DT := fun δ N R Ex => a δ N (fun x N1 => match x with
  | .bl c => R c N1
  | _ => False) Ex
theorem st_b {t : TE} {a : DE} (h : SE M t a) : ST M (tB t) (dTv a) := fun σ H δ N Q R Ex w e q k kx =>
  h σ H δ N _ _ Ex w e q (fun v H1 x N1 w1 s1 r1 q1 => by
    split at q1
    · exact ⟨_, rp_bl r1, k _ H1 N1 w1 s1 q1⟩
    · exact q1.elim) kx
theorem st_test {t : TE} {a : DE} (h : SE M t a) : ST M (tTest t) (dTv a) := st_b h
def dTand (a b : DT) : DT := fun δ N R Ex => a δ N (fun c N1 => if c = true then b δ N1 R Ex else R false N1) Ex
def dTor (a b : DT) : DT := fun δ N R Ex => a δ N (fun c N1 => if c = true then R true N1 else b δ N1 R Ex) Ex
def dTnot (a : DT) : DT := fun δ N R Ex => a δ N (fun c N1 => R (!c) N1) Ex
theorem st_and {ta tb : TT} {a b : DT} (ha : ST M ta a) (hb : ST M tb b) : ST M (tAnd ta tb) (dTand a b) := fun σ H δ N Q R Ex w e h k kx =>
  ha σ H δ N _ _ Ex w e h (fun c H1 N1 w1 s1 q1 => by
    by_cases e0 : c = true
    · rw [if_pos e0] at q1 ⊢
      exact hb σ H1 δ N1 _ _ Ex w1 (e.mono s1) q1 (fun v H2 N2 w2 s2 => k v H2 N2 w2 (s1.trans s2)) (kx.mono s1)
    · rw [if_neg e0] at q1 ⊢
      exact k _ H1 N1 w1 s1 q1) kx
theorem st_or {ta tb : TT} {a b : DT} (ha : ST M ta a) (hb : ST M tb b) : ST M (tOr ta tb) (dTor a b) := fun σ H δ N Q R Ex w e h k kx =>
  ha σ H δ N _ _ Ex w e h (fun c H1 N1 w1 s1 q1 => by
    by_cases e0 : c = true
    · rw [if_pos e0] at q1 ⊢
      exact k _ H1 N1 w1 s1 q1
    · rw [if_neg e0] at q1 ⊢
      exact hb σ H1 δ N1 _ _ Ex w1 (e.mono s1) q1 (fun v H2 N2 w2 s2 => k v H2 N2 w2 (s1.trans s2)) (kx.mono s1)) kx
theorem st_not {ta : TT} {a : DT} (ha : ST M ta a) : ST M (tNot ta) (dTnot a) := fun σ H δ N Q R Ex w e h k kx =>
  ha σ H δ N _ _ Ex w e h (fun c H1 N1 w1 s1 q1 => k _ H1 N1 w1 s1 q1) kx
def dTyes : DT := fun _ N R _ => R true N
theorem st_yes : ST M tYes dTyes := fun σ H δ N Q R Ex w e h k kx => k _ H N w (Same.refl _) h
def dIf (c : DT) (a b : DE) : DE := fun δ N R Ex => c δ N (fun c N1 => if c = true then a δ N1 R Ex else b δ N1 R Ex) Ex
theorem se_if {tc : TT} {ta tb : TE} {c : DT} {a b : DE} (hc : ST M tc c) (ha : SE M ta a) (hb : SE M tb b) : SE M (tIf tc ta tb) (dIf c a b) := fun σ H δ N Q R Ex w e h k kx =>
  hc σ H δ N _ _ Ex w e h (fun c H1 N1 w1 s1 q1 => by
    by_cases e0 : c = true
    · rw [if_pos e0] at q1 ⊢
      exact ha σ H1 δ N1 _ _ Ex w1 (e.mono s1) q1 (fun v H2 x N2 w2 s2 => k v H2 x N2 w2 (s1.trans s2)) (kx.mono s1)
    · rw [if_neg e0] at q1 ⊢
      exact hb σ H1 δ N1 _ _ Ex w1 (e.mono s1) q1 (fun v H2 x N2 w2 s2 => k v H2 x N2 w2 (s1.trans s2)) (kx.mono s1)) kx
/-! one-place operations -/
abbrev DU := D → (D → Prop) → Prop
def SU (M : Md) (r : V → Hp → VK → Prop) (o : DU) : Prop := ∀ x dx H N Q R, Wok M.m N H → Rp M.K M.cn (Gv M.m H) x dx → o dx R →
  (∀ v H' z, Wok M.m N H' → Same (Gv M.m H) (Gv M.m H') → Rp M.K M.cn (Gv M.m H') v z → R z → Q v H') → r x H Q
def dUn (o : DU) (a : DE) : DE := fun δ N R Ex => a δ N (fun x N1 => o x fun z => R z N1) Ex
theorem se_un {r : V → Hp → VK → Prop} {o : DU} {ta : TE} {a : DE} (hr : SU M r o) (ha : SE M ta a) : SE M (tUn r ta) (dUn o a) := fun σ H δ N Q R Ex w e h k kx =>
  ha σ H δ N _ _ Ex w e h (fun v H1 x N1 w1 s1 r1 q1 => hr v x H1 N1 _ _ w1 r1 q1 fun z H3 d w3 s3 r3 q3 => k z H3 d N1 w3 (s1.trans s3) r3 q3) kx
def dNeg : DU := fun x R => match x with
  | .int i => R (.int (-i))
  | _ => False
theorem su_neg : SU M (rU fun i => .int (-i)) dNeg := fun x dx H N Q R w rx h k => by
  unfold dNeg at h
  split at h
  · exact ⟨_, rp_int rx, k _ H _ w (Same.refl _) (.int _) h⟩
  · exact h.elim
/-! calls of built-in functions -/
abbrev DF0 := List D → (D → Prop) → Prop
def SC (M : Md) (r : List V → Hp → VK → Prop) (o : DF0) : Prop := ∀ xs ds H N Q R, Wok M.m N H → RpA M.K M.cn (Gv M.m H) xs ds → o ds R →
  (∀ v H' z, Wok M.m N H' → Same (Gv M.m H) (Gv M.m H') → Rp M.K M.cn (Gv M.m H') v z → R z → Q v H') → r xs H Q
def dCB (o : DF0) (a : DA) : DE := fun δ N R Ex => a δ N (fun xs N1 => o xs fun z => R z N1) Ex
theorem se_cb {r : List V → Hp → VK → Prop} {o : DF0} {t : TA} {a : DA} (hr : SC M r o) (ha : SA M t a) : SE M (tCB r t) (dCB o a) := fun σ H δ N Q R Ex w e h k kx =>
  ha σ H δ N _ _ Ex w e h (fun vs H1 xs N1 w1 s1 r1 q1 => hr vs xs H1 N1 _ _ w1 r1 q1 fun z H3 d w3 s3 r3 q3 => k z H3 d N1 w3 (s1.trans s3) r3 q3) kx
theorem call_or {X : Cx} {f : Value} {r r' : List V → Hp → VK → Prop} (h : CallR X f r) (h' : CallR X f r') : CallR X f (fun xs H Q => r xs H Q ∨ r' xs H Q) := by
  intro pins s σ H xs us Q I rx q
  rcases q with q | q
  · exact h pins s σ H xs us Q I rx q
  · exact h' pins s σ H xs us Q I rx q
theorem rd_sub {m : Option Addr} {H : Hp} {a : Addr} {u : HO} (h : Rd (Gv m H) a u) : Rd H a u := h.imp (gv_sub _ _) fun ⟨o, e⟩ => ⟨o, gv_sub _ _ e⟩
theorem call_lenRd {X : Cx} : CallR X (.builtin "len") (fun xs H Q => ∃ a kvs, xs = [V.ref a] ∧ Rd H a (.dK kvs) ∧ Q (.int kvs.length) H) := by
  intro pins s σ H xs us Q I r h
  obtain ⟨a, kvs, rfl, ha, q⟩ := h
  obtain ⟨u, rfl, ru⟩ := vals1 r
  cases ru
  exact d_len I ha fun t s' I' => ⟨.int kvs.length, H, I', ⟨t, rfl⟩, q⟩
def dLen : DF0 := fun ds R => match ds with
  | [.lst l] => R (.int l.length)
  | [.tup l] => R (.int l.length)
  | [.dk l] => R (.int l.length)
  | [.str x] => x.length ≤ sizeLine ∧ R (.int x.length)
  | _ => False
def rLenD (K : PySem.W.Frag) : List V → Hp → VK → Prop := fun xs H Q => (∃ p ys, xs = [.ref p] ∧ (SqL K H p ys ∨ SqT K H p ys) ∧ Q (.int ys.length) H) ∨ (∃ a kvs, xs = [V.ref a] ∧ Rd H a (.dK kvs) ∧ Q (.int kvs.length) H) ∨ (∃ z, xs = [.str z] ∧ z.length ≤ sizeLine ∧ Q (.int z.length) H)
theorem RpK.length {K : PySem.W.Frag} {cn : Cn} {H : Hp} : ∀ {vs : List (Key × V)} {ds : List (Key × D)}, RpK K cn H vs ds → vs.length = ds.length
  | _, _, .nil => rfl
  | _, _, .cons _ _ t => by rw [List.length_cons, List.length_cons, RpK.length t]
theorem sc_len : SC M (rLenD M.K) dLen := fun xs ds H N Q R w r h k => by
  unfold dLen at h
  split at h
  · cases r with | cons r0 rt => ?_
    cases rt
    obtain ⟨a, ys, rfl, e, q⟩ := rp_lst r0
    exact .inl ⟨a, ys, rfl, .inl (sq (gv_sub _ _ e)), k _ H _ w (Same.refl _) (by rw [q.length]; exact .int _) h⟩
  · cases r with | cons r0 rt => ?_
    cases rt
    obtain ⟨a, ys, rfl, e, q⟩ := rp_tup r0
    exact .inl ⟨a, ys, rfl, .inr (st (gv_sub _ _ e)), k _ H _ w (Same.refl _) (by rw [q.length]; exact .int _) h⟩
  · cases r with | cons r0 rt => ?_
    cases rt
    obtain ⟨a, ys, rfl, e, q⟩ := rp_dk r0
    exact .inr (.inl ⟨a, ys, rfl, rd_sub e, k _ H _ w (Same.refl _) (by rw [q.length]; exact .int _) h⟩)
  · cases r with | cons r0 rt => ?_
    cases rt
    obtain ⟨rfl, o⟩ := rp_str r0
    exact .inr (.inr ⟨_, rfl, h.1, k _ H _ w (Same.refl _) (.int _) h.2⟩)
  · exact h.elim
/-! items -/
def atD (l : List D) (i : Int) (R : D → Prop) : Prop := match atI l i with
  | some d => R d
  | none => False
theorem rpA_at {K : PySem.W.Frag} {cn : Cn} {H : Hp} {xs : List V} {l : List D} {i : Int} {d : D} (r : RpA K cn H xs l) (h : atI l i = some d) : ∃ v, atI xs i = some v ∧ Rp K cn H v d := by
  unfold atI at h ⊢
  rw [r.length]
  cases e : ixN l.length i with
  | none =>
    rw [e] at h
    cases h
  | some j =>
    rw [e] at h
    exact r.get h
def dkGet (l : List (Key × D)) (k : Key) : Option D := (l.find? fun kv => decide (kv.1 = k)).map (·.2)
def dtGet (l : List (List Key × D)) (k : List Key) : Option D := (l.find? fun kv => decide (kv.1 = k)).map (·.2)
theorem rpK_get {K : PySem.W.Frag} {cn : Cn} {H : Hp} {k : Key} : ∀ {xs : List (Key × V)} {l : List (Key × D)}, RpK K cn H xs l → (dkGet l k = none ∧ valV xs k = none) ∨ ∃ d v, dkGet l k = some d ∧ valV xs k = some v ∧ Rp K cn H v d
  | _, _, .nil => .inl ⟨rfl, rfl⟩
  | (k', v) :: r, (_, d) :: l, .cons o h t => by
    by_cases e : k' = k
    · refine .inr ⟨d, v, ?_, valV_pos e, h⟩
      show Option.map _ (List.find? _ ((k', d) :: l)) = _
      rw [List.find?_cons_of_pos (by simpa using e)]
      rfl
    · have e1 : dkGet ((k', d) :: l) k = dkGet l k := by
        unfold dkGet
        rw [List.find?_cons_of_neg (by simpa using e)]
      rw [e1, valV_neg e]
      exact rpK_get t
theorem rpT_get {K : PySem.W.Frag} {cn : Cn} {H : Hp} {k : List Key} : ∀ {xs : List (List Key × V)} {l : List (List Key × D)}, RpT K cn H xs l → (dtGet l k = none ∧ valV xs k = none) ∨ ∃ d v, dtGet l k = some d ∧ valV xs k = some v ∧ Rp K cn H v d
  | _, _, .nil => .inl ⟨rfl, rfl⟩
  | (k', v) :: r, (_, d) :: l, .cons h t => by
    by_cases e : k' = k
    · refine .inr ⟨d, v, ?_, valV_pos e, h⟩
      show Option.map _ (List.find? _ ((k', d) :: l)) = _
      rw [List.find?_cons_of_pos (by simpa using e)]
      rfl
    · have e1 : dtGet ((k', d) :: l) k = dtGet l k := by
        unfold dtGet
        rw [List.find?_cons_of_neg (by simpa using e)]
      rw [e1, valV_neg e]
      exact rpT_get t
/-- what may be a key of a dict -/
def keyD : D → Option Key
  | .int i => some (.inl i)
  | .str x => some (.inr x)
  | _ => none
def keysD : List D → Option (List Key)
  | [] => some []
  | d :: r => match keyD d, keysD r with
    | some k, some ks => some (k :: ks)
    | _, _ => none
theorem keyD_v {K : PySem.W.Frag} {cn : Cn} {H : Hp} {v : V} {d : D} {k : Key} (r : Rp K cn H v d) (h : keyD d = some k) : v = kV k := by
  unfold keyD at h
  split at h
  · cases h
    cases r
    rfl
  · cases h
    cases r
    rfl
  · cases h
theorem keysD_v {K : PySem.W.Frag} {cn : Cn} {H : Hp} : ∀ {vs : List V} {ds : List D} {ks : List Key}, RpA K cn H vs ds → keysD ds = some ks → vs = ks.map kV
  | _, _, _, .nil, h => by cases h; rfl
  | _, _, ks, .cons r t, h => by
    unfold keysD at h
    split at h
    · rename_i k ks' e1 e2
      cases h
      rw [keyD_v r e1, keysD_v t e2]
      rfl
    · cases h
/-- what d[y] finds, of a dict -/
def dLook (d y : D) (R : Option D → Prop) : Prop := match d, y with
  | .dk l, .int i => R (dkGet l (.inl i))
  | .dk l, .str x => R (dkGet l (.inr x))
  | .dt l, .tup ys => (match keysD ys with
    | some ks => R (dtGet l ks)
    | none => False)
  | _, _ => False
theorem dLook_get {H : Hp} {x y : V} {d e : D} {R : Option D → Prop} (rx : Rp M.K M.cn H x d) (ry : Rp M.K M.cn H y e) (h : dLook d e R) : ∃ a o od, x = .ref a ∧ DGet H a y o ∧ R od ∧ ((o = none ∧ od = none) ∨ ∃ v d, o = some v ∧ od = some d ∧ Rp M.K M.cn H v d) := by
  unfold dLook at h
  split at h
  · obtain ⟨a, kvs, rfl, e1, q⟩ := rp_dk rx
    rw [rp_int ry]
    rename_i l i
    have g : DGet H a (.int i) (valV kvs (Sum.inl i)) := .inl ⟨kvs, .inl i, e1, rfl, rfl⟩
    rcases rpK_get (k := .inl i) q with ⟨c1, c2⟩ | ⟨d, v, c1, c2, c3⟩
    · exact ⟨a, _, _, rfl, g, h, .inl ⟨c2, c1⟩⟩
    · exact ⟨a, _, _, rfl, g, h, .inr ⟨v, d, c2, c1, c3⟩⟩
  · obtain ⟨a, kvs, rfl, e1, q⟩ := rp_dk rx
    rw [(rp_str ry).1]
    rename_i l i
    have g : DGet H a (.str i) (valV kvs (Sum.inr i)) := .inl ⟨kvs, .inr i, e1, rfl, rfl⟩
    rcases rpK_get (k := .inr i) q with ⟨c1, c2⟩ | ⟨d, v, c1, c2, c3⟩
    · exact ⟨a, _, _, rfl, g, h, .inl ⟨c2, c1⟩⟩
    · exact ⟨a, _, _, rfl, g, h, .inr ⟨v, d, c2, c1, c3⟩⟩
  · split at h
    · rename_i l ys _ ks ek
      obtain ⟨a, kvs, rfl, e1, q⟩ := rp_dt rx
      obtain ⟨b, vs, rfl, e2, q2⟩ := rp_tup ry
      have ev := keysD_v q2 ek
      subst ev
      have g : DGet H a (.ref b) (valV kvs ks) := .inr ⟨kvs, ks, b, e1, rfl, e2, rfl⟩
      rcases rpT_get (k := ks) q with ⟨c1, c2⟩ | ⟨d, v, c1, c2, c3⟩
      · exact ⟨a, _, _, rfl, g, h, .inl ⟨c2, c1⟩⟩
      · exact ⟨a, _, _, rfl, g, h, .inr ⟨v, d, c2, c1, c3⟩⟩
    · exact h.elim
  · exact h.elim
theorem DGet.mono {H H' : Hp} (s : Same H H') {a : Addr} {y : V} {r : Option V} (h : DGet H a y r) : DGet H' a y r := by
  have rd : ∀ {u : HO}, Rd H a u → Rd H' a u := fun {u} h => by
    rcases h with h | ⟨o, h⟩
    · exact .inl (s _ _ h)
    · exact .inr ⟨o, s _ _ h⟩
  rcases h with ⟨kvs, k, e, rfl, rfl⟩ | ⟨kvs, k, b, e, rfl, eb, rfl⟩
  · exact .inl ⟨kvs, k, rd e, rfl, rfl⟩
  · exact .inr ⟨kvs, k, b, rd e, rfl, s _ _ eb, rfl⟩
end
end Dl

set_option Elab.async false
set_option linter.all false
set_option maxRecDepth 100000
set_option maxHeartbeats 2000000
namespace Dl
open PySem PySem.Spec PyProof.Rows L2 Rl Dr _root_.Tx Ex Er So Wi Vw
section
variable {M : Md}
/-! a[b] of anything -/
def rDGetR : R2 := fun x y H Q => ∃ a v, x = .ref a ∧ DGet H a y (some v) ∧ Q v H
theorem ix_dict {X : Cx} (hu : X.A.units + 1 < cLine) : IxR X rDGetR := by
  intro value slice pins s σ H x y v u Q I rx ry h hs
  obtain ⟨a, z, rfl, g, q⟩ := h
  cases rx
  exact tail_any (dict_typeIs I g) PySem.F.slot_dict_getitem.lookup (d_getItem hu I g ry fun w' s3 I3 rw' => ⟨z, H, I3, rw', q⟩) hs
def rIxD (K : PySem.W.Frag) : R2 := fun x y H Q => rIx K x y H Q ∨ rDGetR x y H Q
theorem ix_any {X : Cx} (hu : X.A.units + 1 < cLine) : IxR X (rIxD X.K) := ix_seq.or (ix_dict hu)
def dIx : DOp := fun x y R => match x, y with
  | .lst l, .int i => atD l i R
  | .tup l, .int i => atD l i R
  | .str z, .int i => z.length ≤ sizeLine ∧ (match atI z.cps.toList i with
    | some c => R (.str ⟨#[c]⟩)
    | none => False)
  | .dk l, y => dLook (.dk l) y fun o => match o with
    | some d => R d
    | none => False
  | .dt l, y => dLook (.dt l) y fun o => match o with
    | some d => R d
    | none => False
  | _, _ => False
theorem atI_mem {α : Type} {l : List α} {i : Int} {d : α} (h : atI l i = some d) : d ∈ l := by
  unfold atI at h
  cases e : ixN l.length i with
  | none =>
    rw [e] at h
    cases h
  | some j =>
    rw [e] at h
    exact List.mem_of_getElem? h
theorem sr_ix : SR M (rIxD M.K) dIx := fun x y dx dy H N Q R w rx ry h k => by
  have dict : ∀ {d : D}, Rp M.K M.cn (Gv M.m H) x d → dLook d dy (fun o => match o with | some d => R d | none => False) → rIxD M.K x y H Q := fun {d} rx h => by
    obtain ⟨a, o, od, rfl, g, q, c⟩ := dLook_get rx ry h
    rcases c with ⟨rfl, rfl⟩ | ⟨v, d, rfl, rfl, c⟩
    · exact q.elim
    · exact .inr ⟨a, v, rfl, DGet.mono gv_sub g, k _ H _ w (Same.refl _) c q⟩
  unfold dIx at h
  split at h
  · unfold atD at h
    split at h
    · rename_i e
      obtain ⟨a, xs, rfl, e1, r1⟩ := rp_lst rx
      obtain ⟨v, e2, r2⟩ := rpA_at r1 e
      exact .inl (.inl ⟨a, xs, _, v, rfl, rp_int ry, sq (gv_sub _ _ e1), e2, k _ H _ w (Same.refl _) r2 h⟩)
    · exact h.elim
  · unfold atD at h
    split at h
    · rename_i e
      obtain ⟨a, xs, rfl, e1, r1⟩ := rp_tup rx
      obtain ⟨v, e2, r2⟩ := rpA_at r1 e
      exact .inl (.inr (.inl ⟨a, xs, _, v, rfl, rp_int ry, st (gv_sub _ _ e1), e2, k _ H _ w (Same.refl _) r2 h⟩))
    · exact h.elim
  · obtain ⟨hz, h⟩ := h
    split at h
    · rename_i c e
      obtain ⟨rfl, o⟩ := rp_str rx
      exact .inl (.inr (.inr ⟨_, _, c, rfl, rp_int ry, hz, e, k _ H _ w (Same.refl _) (.str _ (okS_one (o c (atI_mem e)))) h⟩))
    · exact h.elim
  · exact dict rx h
  · exact dict rx h
  · exact h.elim
/-! data as the library's data -/
mutual
def toPy : D → Option PyData
  | .non => some .none
  | .bl b => some (.bool b)
  | .int i => some (.int i)
  | .str x => some (.str x)
  | .lst l => (toPyA l).map .list
  | .tup l => (toPyA l).map .tuple
  | .dk _ => none
  | .dt _ => none
  | .obj _ _ => none
  | .sta _ => none
  | .exc _ _ _ _ => none
def toPyA : List D → Option (List PyData)
  | [] => some []
  | d :: r => match toPy d, toPyA r with
    | some p, some ps => some (p :: ps)
    | _, _ => none
end
mutual
theorem rp_dp {K : PySem.W.Frag} {cn : Cn} {H : Hp} : ∀ {v : V} {d : D} {p : PyData}, Rp K cn H v d → toPy d = some p → Dp K H v p ∧ p.canLay0 = true
  | _, _, _, .non, h => by cases h; exact ⟨.non, rfl⟩
  | _, _, _, .bl b, h => by cases h; exact ⟨.bl b, rfl⟩
  | _, _, _, .int i, h => by cases h; exact ⟨.int i, rfl⟩
  | _, _, _, .str x o, h => by cases h; exact ⟨.str x, o.strOk⟩
  | _, _, p, .tup e r, h => by
    unfold toPy at h
    obtain ⟨ps, e1, rfl⟩ := Option.map_eq_some_iff.mp h
    obtain ⟨a, b⟩ := rp_dpA r e1
    exact ⟨.tup (st e) a, b⟩
  | _, _, p, .lst e r, h => by
    unfold toPy at h
    obtain ⟨ps, e1, rfl⟩ := Option.map_eq_some_iff.mp h
    obtain ⟨a, b⟩ := rp_dpA r e1
    exact ⟨.lst (sq e) a, b⟩
  | _, _, _, .dk _ _, h => by cases h
  | _, _, _, .dt _ _, h => by cases h
  | _, _, _, .obj _ _ _ _, h => by cases h
  | _, _, _, .sta _, h => by cases h
  | _, _, _, .exc _ _, h => by cases h
theorem rp_dpA {K : PySem.W.Frag} {cn : Cn} {H : Hp} : ∀ {vs : List V} {ds : List D} {ps : List PyData}, RpA K cn H vs ds → toPyA ds = some ps → DpAll K H vs ps ∧ PyData.canLayAll0 ps = true
  | _, _, _, .nil, h => by cases h; exact ⟨.nil, rfl⟩
  | _, _, ps, .cons r t, h => by
    unfold toPyA at h
    split at h
    · rename_i p ps' e1 e2
      cases h
      obtain ⟨a, b⟩ := rp_dp r e1
      obtain ⟨c, d⟩ := rp_dpA t e2
      refine ⟨.cons a c, ?_⟩
      show (p.canLay0 && PyData.canLayAll0 ps') = true
      rw [b, d]
      rfl
    · cases h
end
mutual
theorem eqv_refl : ∀ p : PyData, p.canLay0 = true → PyData.eqv p p = true
  | .none, _ => rfl
  | .bool b, _ => by simp [PyData.eqv]
  | .int i, _ => by simp [PyData.eqv]
  | .str x, _ => by simp [PyData.eqv]
  | .list xs, h => by simp only [PyData.eqv]; exact eqvAll_refl xs h
  | .tuple xs, h => by simp only [PyData.eqv]; exact eqvAll_refl xs h
  | .dict _, h => by cases h
theorem eqvAll_refl : ∀ ps : List PyData, PyData.canLayAll0 ps = true → PyData.eqvAll ps ps = true
  | [], _ => rfl
  | p :: ps, h => by
    have h' : (p.canLay0 && PyData.canLayAll0 ps) = true := h
    rw [Bool.and_eq_true] at h'
    simp only [PyData.eqvAll, eqv_refl p h'.1, eqvAll_refl ps h'.2, Bool.and_self]
end
/-! == and != -/
/-- == of D: data of no dicts, or two dicts of flat values -/
def dEqB (f : Bool → Bool) : DOp := fun x y R => match toPy x, toPy y with
  | some p, some q => p.depth ≤ 64 ∧ q.depth ≤ 64 ∧ R (.bl (f (PyData.eqv p q)))
  | _, _ => False
abbrev dEq : DOp := dEqB id
abbrev dNe : DOp := dEqB (!·)
theorem shaped_of {p : PyData} (a : p.canLay0 = true) (b : p.depth ≤ 64) : SeqAt.shaped p = true := by
  unfold SeqAt.shaped
  rw [a, decide_eq_true b]
  rfl
theorem sr_eqD : SR M (rEqD M.K) dEq := fun x y dx dy H N Q R w rx ry h k => by
  unfold dEq dEqB at h
  split at h
  · rename_i p q e1 e2
    obtain ⟨a, b⟩ := rp_dp (rx.mono gv_sub) e1
    obtain ⟨c, d⟩ := rp_dp (ry.mono gv_sub) e2
    exact ⟨p, q, a, c, shaped_of b h.1, shaped_of d h.2.1, k _ H _ w (Same.refl _) (.bl _) h.2.2⟩
  · exact h.elim
theorem sr_neD : SR M (rNeD M.K) dNe := fun x y dx dy H N Q R w rx ry h k => by
  unfold dNe dEqB at h
  split at h
  · rename_i p q e1 e2
    obtain ⟨a, b⟩ := rp_dp (rx.mono gv_sub) e1
    obtain ⟨c, d⟩ := rp_dp (ry.mono gv_sub) e2
    exact ⟨p, q, a, c, shaped_of b h.1, shaped_of d h.2.1, k _ H _ w (Same.refl _) (.bl _) h.2.2⟩
  · exact h.elim
/-! in, not in: a list of data, a tuple or a list of flat values, a dict, a sign in a text -/
def flatD : D → Bool
  | .non => true
  | .bl _ => true
  | .int _ => true
  | .str _ => true
  | _ => false
/-- == of flat data -/
def eqF : D → D → Bool
  | .non, .non => true
  | .bl a, .bl b => a == b
  | .bl a, .int b => (if a then 1 else 0) == b
  | .int a, .bl b => a == (if b then 1 else 0)
  | .int a, .int b => a == b
  | .str a, .str b => a == b
  | _, _ => false
theorem rp_flat {K : PySem.W.Frag} {cn : Cn} {H : Hp} {v : V} {d : D} (r : Rp K cn H v d) (h : flatD d = true) : flatV v = true := by
  cases r <;> first | rfl | cases h
theorem rp_eqF {K : PySem.W.Frag} {cn : Cn} {H : Hp} {v u : V} {d e : D} (r : Rp K cn H v d) (q : Rp K cn H u e) (h : flatD d = true) (h2 : flatD e = true) : eqV v u = eqF d e := by
  cases r <;> first | (cases h; done) | (cases q <;> first | (cases h2; done) | rfl)
theorem rpA_flat {K : PySem.W.Frag} {cn : Cn} {H : Hp} : ∀ {vs : List V} {ds : List D}, RpA K cn H vs ds → ds.all flatD = true → vs.all flatV = true
  | _, _, .nil, _ => rfl
  | _, _, .cons r t, h => by
    rw [List.all_cons, Bool.and_eq_true] at h ⊢
    exact ⟨rp_flat r h.1, rpA_flat t h.2⟩
theorem rpA_in {K : PySem.W.Frag} {cn : Cn} {H : Hp} {v : V} {d : D} (q : Rp K cn H v d) (f : flatD d = true) : ∀ {vs : List V} {ds : List D}, RpA K cn H vs ds → ds.all flatD = true → inV v vs = ds.any fun y => eqF y d
  | _, _, .nil, _ => rfl
  | _, _, .cons r t, h => by
    rw [List.all_cons, Bool.and_eq_true] at h
    have ih := rpA_in q f t h.2
    unfold inV at ih ⊢
    rw [List.any_cons, List.any_cons, ih, rp_eqF r q h.1 f]
def dInB (f : Bool → Bool) : DOp := fun x y R => match y with
  | .lst l => if (l.all flatD && flatD x) = true then R (.bl (f (l.any fun z => eqF z x))) else (match toPy x, toPyA l with
    | some p, some ps => p.depth ≤ 64 ∧ (PyData.list ps).depth ≤ 64 ∧ R (.bl (f (ps.any fun z => PyData.eqv z p)))
    | _, _ => False)
  | .tup l => (l.all flatD && flatD x) = true ∧ R (.bl (f (l.any fun z => eqF z x)))
  | .dk _ => dLook y x fun o => R (.bl (f o.isSome))
  | .dt _ => dLook y x fun o => R (.bl (f o.isSome))
  | .str z => (match x with
    | .str w => (match w.cps.toList with
      | [c] => R (.bl (f (decide (c ∈ z.cps.toList))))
      | _ => False)
    | _ => False)
  | _ => False
abbrev dIn : DOp := dInB id
abbrev dNotIn : DOp := dInB (!·)
def rDInR (f : Bool → Bool) : R2 := fun x y H Q => ∃ a o, y = .ref a ∧ DGet H a x o ∧ Q (.bl (f o.isSome)) H
theorem op_inDict {X : Cx} (hu : X.A.units + 1 < cLine) : OpR X (compareOp .In) (rDInR id) := by
  intro pins s σ H x y v u Q I rx ry h
  obtain ⟨a, o, rfl, g, q⟩ := h
  cases ry
  exact d_in hu I g rx fun s3 I3 => ⟨.bl o.isSome, H, I3, rfl, q⟩
theorem op_notInDict {X : Cx} (hu : X.A.units + 1 < cLine) : OpR X (compareOp .NotIn) (rDInR (!·)) := by
  intro pins s σ H x y v u Q I rx ry h
  obtain ⟨a, o, rfl, g, q⟩ := h
  cases ry
  exact d_notIn hu I g rx fun s3 I3 => ⟨.bl (!o.isSome), H, I3, rfl, q⟩
def rInA (K : PySem.W.Frag) : R2 := fun x y H Q => rIn K false x y H Q ∨ rInD K x y H Q ∨ rDInR id x y H Q ∨ (∃ (c : Nat) (z : Str), x = .str ⟨#[c]⟩ ∧ y = .str z ∧ Q (.bl (decide (c ∈ z.cps.toList))) H)
def rNotInA (K : PySem.W.Frag) : R2 := fun x y H Q => rIn K true x y H Q ∨ rNotInD K x y H Q ∨ rDInR (!·) x y H Q ∨ (∃ (c : Nat) (z : Str), x = .str ⟨#[c]⟩ ∧ y = .str z ∧ Q (.bl (!decide (c ∈ z.cps.toList))) H)
theorem op_inA {X : Cx} {k : Nat} (hr : Room k X.A) : OpR X (compareOp .In) (rInA X.K) := op_or op_in_seq (op_or (op_inD (Try.room65 hr)) (op_or (op_inDict (hu_of hr)) op_in_sign))
theorem op_notInA {X : Cx} {k : Nat} (hr : Room k X.A) : OpR X (compareOp .NotIn) (rNotInA X.K) := op_or op_notIn_seq (op_or (op_notInD (Try.room65 hr)) (op_or (op_notInDict (hu_of hr)) op_notIn_sign))
theorem one_sign {w : Str} {c : Nat} (h : w.cps.toList = [c]) : w = ⟨#[c]⟩ := by
  cases w with
  | mk cps =>
    congr 1
    exact Array.toList_inj.mp h
theorem sr_in : SR M (rInA M.K) dIn := fun x y dx dy H N Q R w rx ry h k => by
  have dict : ∀ {d : D}, Rp M.K M.cn (Gv M.m H) y d → dLook d dx (fun o => R (.bl (id o.isSome))) → rInA M.K x y H Q := fun {d} ry h => by
    obtain ⟨a, o, od, rfl, g, q, c⟩ := dLook_get ry rx h
    have e : o.isSome = od.isSome := by rcases c with ⟨rfl, rfl⟩ | ⟨v, d, rfl, rfl, c⟩ <;> rfl
    exact .inr (.inr (.inl ⟨a, o, rfl, DGet.mono gv_sub g, k _ H _ w (Same.refl _) (.bl _) (by rw [e]; exact q)⟩))
  unfold dIn dInB at h
  split at h
  · rename_i l
    obtain ⟨a, xs, rfl, e1, r1⟩ := rp_lst ry
    split at h
    · rename_i c
      rw [Bool.and_eq_true] at c
      refine .inl ⟨a, xs, rfl, .inl (sq (gv_sub _ _ e1)), rp_flat rx c.2, rpA_flat r1 c.1, ?_⟩
      rw [if_neg Bool.false_ne_true, rpA_in rx c.2 r1 c.1]
      exact k _ H _ w (Same.refl _) (.bl _) h
    · split at h
      · rename_i p ps e2 e3
        obtain ⟨a1, b1⟩ := rp_dp (rx.mono gv_sub) e2
        obtain ⟨a2, b2⟩ := rp_dpA (r1.mono gv_sub) e3
        exact .inr (.inl ⟨p, ps, a1, .lst (sq (gv_sub _ _ e1)) a2, shaped_of b1 h.1, shaped_of b2 h.2.1, k _ H _ w (Same.refl _) (.bl _) h.2.2⟩)
      · exact h.elim
  · obtain ⟨c, h⟩ := h
    rw [Bool.and_eq_true] at c
    obtain ⟨a, xs, rfl, e1, r1⟩ := rp_tup ry
    refine .inl ⟨a, xs, rfl, .inr (st (gv_sub _ _ e1)), rp_flat rx c.2, rpA_flat r1 c.1, ?_⟩
    rw [if_neg Bool.false_ne_true, rpA_in rx c.2 r1 c.1]
    exact k _ H _ w (Same.refl _) (.bl _) h
  · exact dict ry h
  · exact dict ry h
  · split at h
    · split at h
      · rename_i e
        rw [(rp_str rx).1, (rp_str ry).1, one_sign e]
        exact .inr (.inr (.inr ⟨_, _, rfl, rfl, k _ H _ w (Same.refl _) (.bl _) h⟩))
      · exact h.elim
    · exact h.elim
  · exact h.elim
theorem sr_notIn : SR M (rNotInA M.K) dNotIn := fun x y dx dy H N Q R w rx ry h k => by
  have dict : ∀ {d : D}, Rp M.K M.cn (Gv M.m H) y d → dLook d dx (fun o => R (.bl (!o.isSome))) → rNotInA M.K x y H Q := fun {d} ry h => by
    obtain ⟨a, o, od, rfl, g, q, c⟩ := dLook_get ry rx h
    have e : o.isSome = od.isSome := by rcases c with ⟨rfl, rfl⟩ | ⟨v, d, rfl, rfl, c⟩ <;> rfl
    exact .inr (.inr (.inl ⟨a, o, rfl, DGet.mono gv_sub g, k _ H _ w (Same.refl _) (.bl _) (by rw [e]; exact q)⟩))
  unfold dNotIn dInB at h
  split at h
  · rename_i l
    obtain ⟨a, xs, rfl, e1, r1⟩ := rp_lst ry
    split at h
    · rename_i c
      rw [Bool.and_eq_true] at c
      refine .inl ⟨a, xs, rfl, .inl (sq (gv_sub _ _ e1)), rp_flat rx c.2, rpA_flat r1 c.1, ?_⟩
      rw [if_pos rfl, rpA_in rx c.2 r1 c.1]
      exact k _ H _ w (Same.refl _) (.bl _) h
    · split at h
      · rename_i p ps e2 e3
        obtain ⟨a1, b1⟩ := rp_dp (rx.mono gv_sub) e2
        obtain ⟨a2, b2⟩ := rp_dpA (r1.mono gv_sub) e3
        exact .inr (.inl ⟨p, ps, a1, .lst (sq (gv_sub _ _ e1)) a2, shaped_of b1 h.1, shaped_of b2 h.2.1, k _ H _ w (Same.refl _) (.bl _) h.2.2⟩)
      · exact h.elim
  · obtain ⟨c, h⟩ := h
    rw [Bool.and_eq_true] at c
    obtain ⟨a, xs, rfl, e1, r1⟩ := rp_tup ry
    refine .inl ⟨a, xs, rfl, .inr (st (gv_sub _ _ e1)), rp_flat rx c.2, rpA_flat r1 c.1, ?_⟩
    rw [if_pos rfl, rpA_in rx c.2 r1 c.1]
    exact k _ H _ w (Same.refl _) (.bl _) h
  · exact dict ry h
  · exact dict ry h
  · split at h
    · split at h
      · rename_i e
        rw [(rp_str rx).1, (rp_str ry).1, one_sign e]
        exact .inr (.inr (.inr ⟨_, _, rfl, rfl, k _ H _ w (Same.refl _) (.bl _) h⟩))
      · exact h.elim
    · exact h.elim
  · exact h.elim
/-- in a tuple of texts that the top has written -/
def dInC (zs : List Str) (a : DE) : DE := fun δ N R Ex => a δ N (fun x N1 => match x with
  | .str z => R (.bl (decide (z ∈ zs))) N1
  | _ => False) Ex
theorem se_inC {mg : Str → Option Value} {x : Str} {zs : List Str} (C : ConT M.K mg x (zs.map V.str)) {ta : TE} {a : DE} (ha : SE M ta a) : SE M (tOp (rIn M.K false) ta (tC (.ref C.a))) (dInC zs a) := fun σ H δ N Q R Ex w e h k kx =>
  ha σ H δ N _ _ Ex w e h (fun v H1 x N1 w1 s1 r1 q1 => by
    split at q1
    · rename_i z
      obtain ⟨rfl, o⟩ := rp_str r1
      refine ⟨C.a, _, rfl, .inr (C.sq H1), rfl, ?_, ?_⟩
      · induction zs with
        | nil => rfl
        | cons y r ih => simp [flatV]
      · have e1 : inV (V.str z) (zs.map V.str) = decide (z ∈ zs) := by
          unfold inV
          rw [List.any_map, Bool.eq_iff_iff]
          simp only [List.any_eq_true, Function.comp, eqV, beq_iff_eq, decide_eq_true_eq]
          constructor
          · rintro ⟨y, hy, rfl⟩
            exact hy
          · intro hz
            exact ⟨z, hz, rfl⟩
        rw [if_neg Bool.false_ne_true, e1]
        exact k _ H1 _ N1 w1 s1 (.bl _) q1
    · exact q1.elim) kx
/-! is None, is not None -/
def isNonD : D → Bool
  | .non => true
  | _ => false
def dIsN (f : Bool → Bool) : DOp := fun x y R => match y with
  | .non => R (.bl (f (isNonD x)))
  | _ => False
/-! slices -/
def dNoneO : DO := fun _ N R _ => R none N
def dPart (a : DE) : DO := fun δ N R Ex => a δ N (fun x N1 => match x with
  | .int i => R (some i) N1
  | _ => False) Ex
end
end Dl

set_option Elab.async false
set_option linter.all false
set_option maxRecDepth 100000
set_option maxHeartbeats 2000000
namespace Dl
open PySem PySem.Spec PyProof.Rows L2 Rl Dr _root_.Tx Ex Er So Wi Vw
/-! ### walks -/
/-- what a walk yields, over a ground that stays -/
structure WalkD (M : Md) (G : Hp) (J : It) (items : List D) : Prop where
  few : items.length ≤ sizeLine
  go : ∀ i H, i < items.length → Same G H → J.go i H
  stop : ∀ H, Same G H → J.stop items.length H
  yld : ∀ i H v H', i < items.length → Same G H → J.yld i H v H' → ∃ d, items[i]? = some d ∧ ((H' = H ∧ Rp M.K M.cn G v d) ∨ (∃ T xs ds, v = .ref T ∧ H T = none ∧ H' = upd H T (.tup xs) ∧ d = .tup ds ∧ RpA M.K M.cn G xs ds) ∨
    ∃ T xs ds, v = .ref T ∧ H' = H ∧ H T = some (.tup xs) ∧ d = .tup ds ∧ RpA M.K M.cn G xs ds)
theorem WalkD.mono {M : Md} {G G' : Hp} {J : It} {items : List D} (W : WalkD M G J items) (s : Same G G') : WalkD M G' J items :=
  ⟨W.few, fun i H h t => W.go i H h (s.trans t), fun H t => W.stop H (s.trans t), fun i H v H' h t y => by
    obtain ⟨d, e, q⟩ := W.yld i H v H' h (s.trans t) y
    refine ⟨d, e, ?_⟩
    rcases q with ⟨a, b⟩ | ⟨T, xs, ds, a, b, c, f, g⟩ | ⟨T, xs, ds, a, b, c, f, g⟩
    · exact .inl ⟨a, b.mono s⟩
    · exact .inr (.inl ⟨T, xs, ds, a, b, c, f, g.mono s⟩)
    · exact .inr (.inr ⟨T, xs, ds, a, b, c, f, g.mono s⟩)⟩
abbrev DIt := DEnv → Nat → (List D → Nat → Prop) → EK → Prop
def SIt (M : Md) (wi : TI) (d : DIt) : Prop := ∀ σ H δ N (Rt : It → Hp → Prop) R Ex, Wok M.m N H → EnvR M (Gv M.m H) σ δ → d δ N R Ex →
  (∀ J H' items N', Wok M.m N' H' → Same (Gv M.m H) (Gv M.m H') → WalkD M (Gv M.m H') J items → R items N' → Rt J H') → XOk M σ H Ex → wi σ H Rt
/-- the items of a list or of a tuple -/
def dSeq (a : DE) : DIt := fun δ N R Ex => a δ N (fun x N1 => match x with
  | .lst l => R l N1
  | .tup l => R l N1
  | _ => False) Ex
/-- pi_seq with the length -/
def iSeqL (K : PySem.W.Frag) (tl : TE) : TI := fun σ H R => tl σ H fun x H1 => ∃ a xs, x = .ref a ∧ ((SqL K H1 a xs ∧ (xs.length ≤ sizeLine → R (Itl K a) H1)) ∨ (SqT K H1 a xs ∧ (xs.length ≤ sizeLine → R (Itt K a) H1)))
theorem pi_seqL {X : Cx} {tg l : Expr} {tl : TE} (hl : PE X l tl) : PI X tg l (iSeqL X.K tl) := ⟨fun pins s σ H R I h => by
  refine thn (hl.run pins s σ H _ I h) fun v s1 z => ?_
  obtain ⟨x, H1, I1, r1, a, xs, rfl, q⟩ := z
  cases r1
  have fp : ∀ b, b ∈ [s1.heap.objs.size] → FpOk X pins H1 b := fun b hb => by
    obtain rfl : b = s1.heap.objs.size := by simpa using hb
    exact I1.fpOk (Nat.le_refl _) (I1.hok.fresh (Nat.le_refl _))
  rcases q with ⟨hq, q⟩ | ⟨hq, q⟩
  · obtain ⟨its, rv, p, hz⟩ := I1.list hq
    exact wpAny_pyIter_list p.isList ⟨_, _, _, _, H1, rfl, I1.kept (t' := s1.toks) fun b o e => Heap.get?_push_of_some _ e, turn_list a _, ⟨_, Heap.get?_push_size _ rfl, rfl, rfl⟩, fp, q hz⟩
  · obtain ⟨its, rv, p, hz⟩ := I1.tuple hq
    exact wpAny_pyIter_tuple (show s1.heap.IsTuple a its.toArray from p) ⟨_, _, _, _, H1, rfl, I1.kept (t' := s1.toks) fun b o e => Heap.get?_push_of_some _ e, turn_tuple a _, ⟨_, Heap.get?_push_size _ rfl, rfl, rfl⟩, fp, q hz⟩⟩
section
variable {M : Md}
theorem walk_lst {G : Hp} {a : Addr} {xs : List V} {l : List D} (e : G a = some (.lst xs)) (r : RpA M.K M.cn G xs l) (hz : xs.length ≤ sizeLine) : WalkD M G (Itl M.K a) l := by
  have hl := r.length
  refine ⟨by omega, fun i H h s => ?_, fun H s => ?_, fun i H v H' h s y => ?_⟩
  · have hi : i < xs.length := by omega
    exact ⟨xs, xs[i], sq (s _ _ e), by simp [hi]⟩
  · exact ⟨xs, sq (s _ _ e), by omega⟩
  · obtain ⟨rfl, q⟩ := y
    have e2 := q xs (sq (s _ _ e))
    obtain ⟨d, e3, r3⟩ := r.getV e2
    exact ⟨d, e3, .inl ⟨rfl, r3⟩⟩
theorem walk_tup {G : Hp} {a : Addr} {xs : List V} {l : List D} (e : G a = some (.tup xs)) (r : RpA M.K M.cn G xs l) (hz : xs.length ≤ sizeLine) : WalkD M G (Itt M.K a) l := by
  have hl := r.length
  refine ⟨by omega, fun i H h s => ?_, fun H s => ?_, fun i H v H' h s y => ?_⟩
  · have hi : i < xs.length := by omega
    exact ⟨xs, xs[i], st (s _ _ e), by simp [hi]⟩
  · exact ⟨xs, st (s _ _ e), by omega⟩
  · obtain ⟨rfl, q⟩ := y
    have e2 := q xs (st (s _ _ e))
    obtain ⟨d, e3, r3⟩ := r.getV e2
    exact ⟨d, e3, .inl ⟨rfl, r3⟩⟩
theorem si_seq {tl : TE} {a : DE} (h : SE M tl a) : SIt M (iSeqL M.K tl) (dSeq a) := fun σ H δ N Rt R Ex w e q k kx =>
  h σ H δ N _ _ Ex w e q (fun v H1 x N1 w1 s1 r1 q1 => by
    split at q1
    · obtain ⟨b, xs, rfl, e1, r2⟩ := rp_lst r1
      exact ⟨b, xs, rfl, .inl ⟨sq (gv_sub _ _ e1), fun hz => k _ H1 _ N1 w1 s1 (walk_lst e1 r2 hz) q1⟩⟩
    · obtain ⟨b, xs, rfl, e1, r2⟩ := rp_tup r1
      exact ⟨b, xs, rfl, .inr ⟨st (gv_sub _ _ e1), fun hz => k _ H1 _ N1 w1 s1 (walk_tup e1 r2 hz) q1⟩⟩
    · exact q1.elim) kx
/-- range(n) -/
def rangeD (lo : Int) (n : Nat) : List D := (List.range n).map fun (i : Nat) => D.int (lo + (i : Int))
def dRng1 (a : DA) : DIt := fun δ N R Ex => a δ N (fun xs N1 => match xs with
  | [.int j] => (-1000000 ≤ j ∧ j ≤ 1000000) ∧ R (rangeD 0 j.toNat) N1
  | _ => False) Ex
def dRng2 (a : DA) : DIt := fun δ N R Ex => a δ N (fun xs N1 => match xs with
  | [.int i, .int j] => (-1000000 ≤ i ∧ i ≤ 1000000 ∧ -1000000 ≤ j ∧ j ≤ 1000000) ∧ R (rangeD i (j - i).toNat) N1
  | _ => False) Ex
theorem walk_rng {G : Hp} {lo : Int} {n : Nat} (hz : n ≤ sizeLine) : WalkD M G (Itr lo n) (rangeD lo n) := by
  have hl : (rangeD lo n).length = n := by simp [rangeD]
  refine ⟨by omega, fun i H h s => ?_, fun H s => ?_, fun i H v H' h s y => ?_⟩
  · rw [hl] at h
    exact h
  · show n ≤ _
    omega
  · obtain ⟨rfl, rfl⟩ := y
    rw [hl] at h
    exact ⟨.int (lo + i), by simp [rangeD, h], .inl ⟨rfl, .int _⟩⟩
theorem si_rng1 {ta : TA} {a : DA} (h : SA M ta a) : SIt M (iRng1 ta) (dRng1 a) := fun σ H δ N Rt R Ex w e q k kx =>
  h σ H δ N _ _ Ex w e q (fun vs H1 xs N1 w1 s1 r1 q1 => by
    split at q1
    · rename_i j
      cases r1 with | cons r0 rt => ?_
      cases rt
      rw [rp_int r0]
      exact ⟨j, rfl, by omega, by omega, k _ H1 _ N1 w1 s1 (walk_rng (by have := sizeLine_eq; omega)) q1.2⟩
    · exact q1.elim) kx
theorem si_rng2 {ta : TA} {a : DA} (h : SA M ta a) : SIt M (iRng2 ta) (dRng2 a) := fun σ H δ N Rt R Ex w e q k kx =>
  h σ H δ N _ _ Ex w e q (fun vs H1 xs N1 w1 s1 r1 q1 => by
    split at q1
    · rename_i i j
      cases r1 with | cons r0 rt => ?_
      cases rt with | cons r2 rt => ?_
      cases rt
      rw [rp_int r0, rp_int r2]
      have hb := q1.1
      exact ⟨i, j, rfl, ⟨by omega, by omega, by omega, by omega⟩, k _ H1 _ N1 w1 s1 (walk_rng (by have := sizeLine_eq; omega)) q1.2⟩
    · exact q1.elim) kx
/-- the signs of a text -/
def signsD (z : Str) : List D := z.cps.toList.map fun c => .str ⟨#[c]⟩
def dStrIt (a : DE) : DIt := fun δ N R Ex => a δ N (fun x N1 => match x with
  | .str z => z.length ≤ sizeLine ∧ R (signsD z) N1
  | _ => False) Ex
theorem si_str {te : TE} {a : DE} (h : SE M te a) : SIt M (iStr te) (dStrIt a) := fun σ H δ N Rt R Ex w e q k kx =>
  h σ H δ N _ _ Ex w e q (fun v H1 x N1 w1 s1 r1 q1 => by
    split at q1
    · rename_i z
      obtain ⟨rfl, o⟩ := rp_str r1
      have hl : (signsD z).length = z.cps.size := by simp [signsD]
      refine ⟨z, rfl, k _ H1 _ N1 w1 s1 ⟨?_, fun i H h s => ?_, fun H s => ?_, fun i H v H' h s y => ?_⟩ q1.2⟩
      · rw [hl]
        exact q1.1
      · rw [hl] at h
        exact h
      · show z.cps.size ≤ _
        omega
      · obtain ⟨rfl, c, e2, rfl⟩ := y
        refine ⟨.str ⟨#[c]⟩, ?_, .inl ⟨rfl, .str _ (okS_one (o.at e2))⟩⟩
        unfold signsD
        rw [List.getElem?_map, Array.getElem?_toList, e2]
        rfl
    · exact q1.elim) kx
/-- zip of two lists, of two tuples -/
def zipD (a b : List D) : List D := (a.zip b).map fun p => .tup [p.1, p.2]
def dZip (a : DA) : DIt := fun δ N R Ex => a δ N (fun xs N1 => match xs with
  | [.lst a, .lst b] => R (zipD a b) N1
  | [.tup a, .tup b] => R (zipD a b) N1
  | _ => False) Ex
/-- enumerate of a list -/
def enumD (a : List D) : List D := (List.range a.length).zip a |>.map fun p => .tup [.int ((p.1 : Nat) : Int), p.2]
/-! ### targets -/
abbrev DG := D → DEnv → (DEnv → Prop) → Prop
abbrev DGs := List D → DEnv → (DEnv → Prop) → Prop
def dgName (i : Nat) : DG := fun d δ k => k (δ.set i (some d))
def dgNil : DGs := fun ds δ k => match ds with
  | [] => k δ
  | _ => False
def dgCons (g : DG) (r : DGs) : DGs := fun ds δ k => match ds with
  | d :: t => g d δ fun δ' => r t δ' k
  | _ => False
def dgTup (n : Nat) (g : DGs) : DG := fun d δ k => match d with
  | .tup ds => ds.length = n ∧ g ds δ k
  | _ => False
/-- a target's stores: vs are its slots -/
def SG (M : Md) (vs : List Nat) (g : TG) (d : DG) : Prop := ∀ v x σ (H G : Hp) δ (k : DEnv → Prop) (Q : L2.St → Hp → Prop), Same G H → Rp M.K M.cn G v x → EnvR M G σ δ → d x δ k →
  (∀ σ' δ', σ'.length = σ.length → δ'.length = δ.length → (∀ i, i ∉ vs → σ'[i]? = σ[i]? ∧ δ'[i]? = δ[i]?) → EnvR M G σ' δ' → k δ' → Q σ' H) → g v σ H Q
def SGs (M : Md) (vs : List Nat) (g : TGs) (d : DGs) : Prop := ∀ us xs σ (H G : Hp) δ (k : DEnv → Prop) (Q : L2.St → Hp → Prop), Same G H → RpA M.K M.cn G us xs → EnvR M G σ δ → d xs δ k →
  (∀ σ' δ', σ'.length = σ.length → δ'.length = δ.length → (∀ i, i ∉ vs → σ'[i]? = σ[i]? ∧ δ'[i]? = δ[i]?) → EnvR M G σ' δ' → k δ' → Q σ' H) → g us σ H Q
theorem envR_set {G : Hp} {σ : L2.St} {δ : DEnv} {i : Nat} {v : V} {x : D} (e : EnvR M G σ δ) (r : Rp M.K M.cn G v x) : EnvR M G (σ.set i (some v)) (δ.set i (some x)) := ⟨by rw [List.length_set, List.length_set]; exact e.1, fun j d h => by
  have hl := e.1
  by_cases c : i = j
  · subst c
    have hi : i < δ.length := by
      by_cases z : i < δ.length
      · exact z
      · rw [List.getElem?_eq_none (by rw [List.length_set]; omega)] at h
        cases h
    rw [List.getElem?_set_self hi] at h
    cases h
    exact ⟨v, by rw [List.getElem?_set_self (by omega)], r⟩
  · rw [List.getElem?_set_ne c] at h
    obtain ⟨u, a, b⟩ := e.2 j d h
    exact ⟨u, by rw [List.getElem?_set_ne c]; exact a, b⟩⟩
theorem sg_name (i : Nat) : SG M [i] (gName i) (dgName i) := fun v x σ H G δ k Q s r e h q =>
  q _ _ (by rw [List.length_set]) (by rw [List.length_set]) (fun j hj => by
    have n : i ≠ j := fun z => hj (by simp [z])
    exact ⟨List.getElem?_set_ne n, List.getElem?_set_ne n⟩) (envR_set e r) h
theorem sgs_nil : SGs M [] gNil dgNil := fun us xs σ H G δ k Q s r e h q => by
  unfold dgNil at h
  split at h
  · cases r
    exact ⟨rfl, q _ _ rfl rfl (fun _ _ => ⟨rfl, rfl⟩) e h⟩
  · exact h.elim
theorem sgs_cons {v1 v2 : List Nat} {g : TG} {gs : TGs} {d : DG} {ds : DGs} (h1 : SG M v1 g d) (h2 : SGs M v2 gs ds) : SGs M (v1 ++ v2) (gCons g gs) (dgCons d ds) := fun us xs σ H G δ k Q s r e h q => by
  unfold dgCons at h
  split at h
  · cases r with | cons r0 rt => ?_
    refine ⟨_, _, rfl, h1 _ _ σ H G δ _ _ s r0 e h fun σ' δ' l1 l2 o1 e1 q1 => ?_⟩
    refine h2 _ _ σ' H G δ' _ _ s rt e1 q1 fun σ2 δ2 l3 l4 o2 e2 q2 => ?_
    refine q σ2 δ2 (by omega) (by omega) (fun i hi => ?_) e2 q2
    have a := o1 i fun z => hi (List.mem_append_left _ z)
    have b := o2 i fun z => hi (List.mem_append_right _ z)
    exact ⟨b.1.trans a.1, b.2.trans a.2⟩
  · exact h.elim
theorem sg_tup {vs : List Nat} {n : Nat} {gs : TGs} {ds : DGs} (h : SGs M vs gs ds) : SG M vs (gTup M.K n gs) (dgTup n ds) := fun v x σ H G δ k Q s r e q kq => by
  unfold dgTup at q
  split at q
  · obtain ⟨a, xs, rfl, e1, r1⟩ := rp_tup r
    exact ⟨a, xs, rfl, st (s _ _ e1), by rw [r1.length]; exact q.1, h xs _ σ H G δ k Q s r1 e q.2 kq⟩
  · exact q.elim
/-! ### comprehensions -/
def dwipe (δ : DEnv) : List Nat → DEnv
  | [] => δ
  | v :: vs => (dwipe δ vs).set v none
theorem dwipe_length (δ : DEnv) : ∀ vs : List Nat, (dwipe δ vs).length = δ.length
  | [] => rfl
  | v :: vs => by unfold dwipe; rw [List.length_set, dwipe_length δ vs]
theorem dwipe_get {δ : DEnv} {d : D} : ∀ {vs : List Nat} {i : Nat}, (dwipe δ vs)[i]? = some (some d) → i ∉ vs ∧ δ[i]? = some (some d)
  | [], i, h => ⟨by simp, h⟩
  | v :: vs, i, h => by
    unfold dwipe at h
    by_cases c : v = i
    · subst c
      rw [List.getElem?_set] at h
      simp only [if_true] at h
      split at h <;> cases h
    · rw [List.getElem?_set_ne c] at h
      obtain ⟨a, b⟩ := dwipe_get h
      exact ⟨fun z => by
        rcases List.mem_cons.mp z with z | z
        · exact c z.symm
        · exact a z, b⟩
theorem wipe_get {σ : L2.St} : ∀ {vs : List Nat} {i : Nat}, i ∉ vs → (wipe σ vs)[i]? = σ[i]?
  | [], _, _ => rfl
  | v :: vs, i, h => by
    have c : v ≠ i := fun z => h (by simp [z])
    have n : i ∉ vs := fun z => h (List.mem_cons_of_mem _ z)
    unfold wipe
    rw [List.getElem?_set_ne c, wipe_get n]
theorem envR_wipe {G : Hp} {σ : L2.St} {δ : DEnv} {vs : List Nat} (e : EnvR M G σ δ) : EnvR M G (wipe σ vs) (dwipe δ vs) := ⟨by rw [wipe_length, dwipe_length]; exact e.1, fun i d h => by
  obtain ⟨n, q⟩ := dwipe_get h
  obtain ⟨v, a, b⟩ := e.2 i d q
  exact ⟨v, by rw [wipe_get n]; exact a, b⟩⟩
theorem wipe_eq {σ σ' : L2.St} {vs ws : List Nat} (hl : σ'.length = σ.length) (h : ∀ i, i ∉ ws → σ'[i]? = σ[i]?) (hw : ∀ i ∈ ws, i ∈ vs) : wipe σ' vs = wipe σ vs := by
  refine List.ext_getElem? fun i => ?_
  by_cases c : i ∈ vs
  · have g : ∀ (τ : L2.St) (us : List Nat), i ∈ us → (wipe τ us)[i]? = if i < τ.length then some none else none := by
      intro τ us
      induction us with
      | nil => intro z; cases z
      | cons u us ih =>
        intro z
        unfold wipe
        by_cases c2 : u = i
        · subst c2
          rw [List.getElem?_set, if_pos rfl, wipe_length]
        · rw [List.getElem?_set_ne c2]
          exact ih (by
            rcases List.mem_cons.mp z with z | z
            · exact absurd z.symm c2
            · exact z)
    rw [g σ' vs c, g σ vs c, hl]
  · rw [wipe_get c, wipe_get c, h i fun z => c (hw i z)]
/-- one clause -/
def lcGo (g : DG) (t : DT) (e : DE) (δ : DEnv) (R : RK) : List D → List D → Nat → Prop
  | [], acc, N => R (.lst acc) N
  | x :: r, acc, N => g x δ fun δ' => t δ' N (fun b N1 => if b = true then e δ' N1 (fun y N2 => lcGo g t e δ R r (acc ++ [y]) N2) (fun _ _ _ => False) else lcGo g t e δ R r acc N1) (fun _ _ _ => False)
def dLc (it : DIt) (g : DG) (t : DT) (e : DE) (vs : List Nat) : DE := fun δ N R Ex => it δ N (fun items N1 => lcGo g t e (dwipe δ vs) R items [] N1) Ex
abbrev Md.nox (M : Md) : Md := { M with W := fun _ _ _ _ => False }
/-- a reading framed: what may be put aside is put aside -/
abbrev tFr (t : TE) : TE := fun σ H Q => ∃ hd, HidOk H hd ∧ t σ (dels H hd) fun v H' => KeepT H H' ∧ ((∀ p ∈ hd, H' p = none) → Q v (puts H' H hd))
abbrev ttFr (t : TT) : TT := fun σ H Q => ∃ hd, HidOk H hd ∧ t σ (dels H hd) fun v H' => KeepT H H' ∧ ((∀ p ∈ hd, H' p = none) → Q v (puts H' H hd))
theorem keepT_dels {H H' : Hp} {hd : List Addr} (hh : HidOk H hd) (k : KeepT (dels H hd) H') : KeepT H H' := fun b xs e => k b xs (by rw [dels_out (not_hid hh e id)]; exact e)
theorem dels_puts {H H' : Hp} {hd : List Addr} (n : ∀ p ∈ hd, H' p = none) : dels (puts H' H hd) hd = H' := by
  funext a
  by_cases c : a ∈ hd
  · rw [dels_in c, n a c]
  · rw [dels_out c, puts_out c]
/-- an expression run with some plain objects aside -/
theorem fr_e {t : TE} {d : DE} (h : SE M t d) {σ : L2.St} {H : Hp} {δ : DEnv} {N : Nat} {Q : VK} {R : RK} {Ex : EK} {hd : List Addr} (hh : HidOk H hd) (w : Wok M.m N (dels H hd)) (e : EnvR M (Gv M.m (dels H hd)) σ δ) (q : d δ N R Ex)
    (k : ∀ v H' x N', (∀ p ∈ hd, H' p = H p) → Wok M.m N' (dels H' hd) → Same (Gv M.m (dels H hd)) (Gv M.m (dels H' hd)) → Rp M.K M.cn (Gv M.m (dels H' hd)) v x → R x N' → Q v H') (kx : XOk M σ (dels H hd) Ex) : tFr t σ H Q :=
  ⟨hd, hh, h σ (dels H hd) δ N _ R Ex w e q (fun v H1 x N1 w1 s1 r1 q1 => ⟨keepT_dels hh (keepT w s1), fun n => by
    have z := dels_puts (H := H) n
    exact k v _ x N1 (fun p hp => puts_in hp) (by rw [z]; exact w1) (by rw [z]; exact s1) (by rw [z]; exact r1) q1⟩) kx⟩
theorem fr_t {t : TT} {d : DT} (h : ST M t d) {σ : L2.St} {H : Hp} {δ : DEnv} {N : Nat} {Q : Bool → Hp → Prop} {R : Bool → Nat → Prop} {Ex : EK} {hd : List Addr} (hh : HidOk H hd) (w : Wok M.m N (dels H hd)) (e : EnvR M (Gv M.m (dels H hd)) σ δ) (q : d δ N R Ex)
    (k : ∀ b H' N', (∀ p ∈ hd, H' p = H p) → Wok M.m N' (dels H' hd) → Same (Gv M.m (dels H hd)) (Gv M.m (dels H' hd)) → R b N' → Q b H') (kx : XOk M σ (dels H hd) Ex) : ttFr t σ H Q :=
  ⟨hd, hh, h σ (dels H hd) δ N _ R Ex w e q (fun b H1 N1 w1 s1 q1 => ⟨keepT_dels hh (keepT w s1), fun n => by
    have z := dels_puts (H := H) n
    exact k b _ N1 (fun p hp => puts_in hp) (by rw [z]; exact w1) (by rw [z]; exact s1) q1⟩) kx⟩
theorem xok_never {σ : L2.St} {H : Hp} : XOk M.nox σ H (fun _ _ _ => False) := fun c C x dx H' N' _ _ _ _ h => h.elim
theorem hid_one {H : Hp} {p : Addr} {o : HO} (h : H p = some o) (q : PlainO o) : HidOk H [p] := fun a ha => by
  obtain rfl : a = p := by simpa using ha
  exact ⟨o, h, q⟩
/-- what a walk has yielded, in a heap with plain things aside -/
theorem yld_aside {G H H' : Hp} {J : It} {items : List D} {i N : Nat} {v : V} {hd : List Addr} (W : WalkD M G J items) (hi : i < items.length) (hh : HidOk H hd) (w : Wok M.m N (dels H hd)) (s : Same G (Gv M.m (dels H hd))) (y : J.yld i H v H') :
    ∃ d, items[i]? = some d ∧ (∀ p ∈ hd, H' p = H p) ∧ HidOk H' hd ∧ Wok M.m N (dels H' hd) ∧ Same (Gv M.m (dels H hd)) (Gv M.m (dels H' hd)) ∧ Rp M.K M.cn (Gv M.m (dels H' hd)) v d := by
  have sH : Same G H := fun a o e => dels_sub _ _ (gv_sub _ _ (s a o e))
  obtain ⟨d, e, q⟩ := W.yld i H v H' hi sH y
  rcases q with ⟨rfl, r⟩ | ⟨T, xs, ds, rfl, nT, rfl, rfl, r⟩ | ⟨T, xs, ds, rfl, rfl, eT, rfl, r⟩
  · exact ⟨d, e, fun _ _ => rfl, hh, w, Same.refl _, r.mono s⟩
  · have nh : T ∉ hd := fun m => by
      obtain ⟨o, ho, _⟩ := hh T m
      rw [nT] at ho
      cases ho
    have nd : dels H hd T = none := by rw [dels_out nh]; exact nT
    have ed : dels (upd H T (.tup xs)) hd = upd (dels H hd) T (.tup xs) := by
      funext a
      by_cases c : a = T
      · subst c
        rw [dels_out nh, upd_same, upd_same]
      · rw [upd_ne c]
        by_cases c2 : a ∈ hd
        · rw [dels_in c2, dels_in c2]
        · rw [dels_out c2, dels_out c2, upd_ne c]
    obtain ⟨w2, s2, e2⟩ := gv_new (.tup xs) w nd
    have hne : ∀ p ∈ hd, upd H T (.tup xs) p = H p := fun p hp => upd_ne fun z => nh (z ▸ hp)
    refine ⟨_, e, hne, fun p hp => ?_, by rw [ed]; exact w2, by rw [ed]; exact s2, by rw [ed]; exact .tup e2 ((r.mono s).mono s2)⟩
    rw [hne p hp]
    exact hh p hp
  · have nh : T ∉ hd := fun m => by
      obtain ⟨o, ho, q⟩ := hh T m
      rw [eT] at ho
      cases ho
      exact q
    have et : dels H' hd T = some (.tup xs) := by rw [dels_out nh]; exact eT
    exact ⟨_, e, fun _ _ => rfl, hh, w, Same.refl _, .tup (gv_tup w et) (r.mono s)⟩
theorem dels_upd {H : Hp} {p : Addr} {o : HO} : dels (upd H p o) [p] = dels H [p] := by
  funext a
  by_cases c : a = p
  · subst c
    rw [dels_in (by simp), dels_in (by simp)]
  · rw [dels_out (by simpa using c), dels_out (by simpa using c), upd_ne c]
theorem dels_free {H : Hp} {p : Addr} (h : H p = none) : dels H [p] = H := by
  funext a
  by_cases c : a = p
  · subst c
    rw [dels_in (by simp), h]
  · rw [dels_out (by simpa using c)]
theorem upd_dels {H : Hp} {p : Addr} {o : HO} (h : H p = some o) : upd (dels H [p]) p o = H := by
  funext a
  by_cases c : a = p
  · subst c
    rw [upd_same, h]
  · rw [upd_ne c, dels_out (by simpa using c)]
/-- a walk made at this place -/
def SItA (M : Md) (wi : TI) (d : DIt) (σ : L2.St) (H : Hp) (δ : DEnv) (N : Nat) : Prop := ∀ (Rt : It → Hp → Prop) R Ex, d δ N R Ex →
  (∀ J H' items N', Wok M.m N' H' → Same (Gv M.m H) (Gv M.m H') → WalkD M (Gv M.m H') J items → R items N' → Rt J H') → XOk M σ H Ex → wi σ H Rt
theorem lc_core {wi : TI} {g : TG} {tt : TT} {te : TE} {it : DIt} {dg : DG} {dt : DT} {de : DE} {vs : List Nat} {σ : L2.St} {H : Hp} {δ : DEnv} {N : Nat} {Q : VK} {R : RK} {Ex : EK} (hi : SItA M wi it σ H δ N) (hg : SG M.nox vs g dg) (ht : ST M.nox tt dt) (he : SE M.nox te de)
    (e : EnvR M (Gv M.m H) σ δ) (h : dLc it dg dt de vs δ N R Ex) (k : ∀ A acc H2 ds N2, H2 A = some (.lst acc) → Wok M.m N2 (dels H2 [A]) → Same (Gv M.m H) (Gv M.m (dels H2 [A])) → RpA M.K M.cn (Gv M.m (dels H2 [A])) acc ds → R (.lst ds) N2 → Q (.ref A) H2) (kx : XOk M σ H Ex) : tLc wi g (ttFr tt) (tFr te) vs σ H Q := by
  refine hi _ _ Ex h (fun J H1 items N1 w1 s1 W q1 => ?_) kx
  intro A nA
  have G0 := s1
  refine ⟨fun i mm H => ∃ acc ds N, mm = items.length - i ∧ i ≤ items.length ∧ H A = some (.lst acc) ∧ Wok M.m N (dels H [A]) ∧ Same (Gv M.m H1) (Gv M.m (dels H [A])) ∧ RpA M.K M.cn (Gv M.m (dels H [A])) acc ds ∧ acc.length ≤ i ∧ lcGo dg dt de (dwipe δ vs) R (items.drop i) ds N,
    ⟨items.length, [], [], N1, rfl, Nat.zero_le _, upd_same, ?_, ?_, .nil, Nat.le_refl _, q1⟩, ?_⟩
  · rw [dels_upd, dels_free nA]
    exact w1
  · rw [dels_upd, dels_free nA]
    exact Same.refl _
  rintro i mm H2 ⟨acc, ds, N2, rfl, hi2, hA, w2, s2, r2, la, q2⟩
  have W2 := W.mono s2
  have sH : Same (Gv M.m (dels H2 [A])) H2 := fun a o e => dels_sub _ _ (gv_sub _ _ e)
  by_cases hlt : i < items.length
  · refine .inr ⟨W2.go i H2 hlt sH, fun H => ∃ acc ds N, H A = some (.lst acc) ∧ Wok M.m N (dels H [A]) ∧ Same (Gv M.m H1) (Gv M.m (dels H [A])) ∧ RpA M.K M.cn (Gv M.m (dels H [A])) acc ds ∧ acc.length ≤ i + 1 ∧ lcGo dg dt de (dwipe δ vs) R (items.drop (i + 1)) ds N,
      fun H' ⟨acc', ds', N', a, b, c, d, e, f⟩ => ⟨items.length - (i + 1), by omega, acc', ds', N', rfl, hlt, a, b, c, d, e, f⟩, fun x H3 y => ?_⟩
    obtain ⟨d, ed, hp, hh, w3, s3, r3⟩ := yld_aside W2 hlt (hid_one hA trivial) w2 (Same.refl _) y
    have hA3 : H3 A = some (.lst acc) := by rw [hp A (by simp)]; exact hA
    rw [List.drop_eq_getElem_cons hlt] at q2
    have ed' : items[i] = d := by
      rw [List.getElem?_eq_getElem hlt] at ed
      exact Option.some.inj ed
    rw [ed'] at q2
    have eW : EnvR M.nox (Gv M.m (dels H3 [A])) (wipe σ vs) (dwipe δ vs) := envR_wipe (e.mono (s1.trans (s2.trans s3)))
    refine hg x d (wipe σ vs) H3 (Gv M.m (dels H3 [A])) (dwipe δ vs) _ _ (fun a o e => dels_sub _ _ (gv_sub _ _ e)) r3 eW q2 fun σ' δ' l1 l2 o1 e1 q3 => ⟨?_, ?_⟩
    · refine wipe_eq (ws := vs) (by rw [l1, wipe_length]) (fun j hj => ?_) fun j hj => hj
      rw [(o1 j hj).1, wipe_get hj]
    · refine fr_t ht hh w3 e1 q3 (fun b H4 N4 hp4 w4 s4 q4 => ?_) xok_never
      have hA4 : H4 A = some (.lst acc) := by rw [hp4 A (by simp)]; exact hA3
      by_cases cb : b = true
      · rw [if_pos cb] at q4 ⊢
        refine fr_e he (hid_one hA4 trivial) w4 (e1.mono s4) q4 (fun v H5 x5 N5 hp5 w5 s5 r5 q5 => ?_) xok_never
        have hA5 : H5 A = some (.lst acc) := by rw [hp5 A (by simp)]; exact hA4
        have few := W.few
        refine ⟨acc, hA5, by omega, acc ++ [v], ds ++ [x5], N5, upd_same, ?_, ?_, ?_, by rw [List.length_append]; simp; omega, q5⟩
        · rw [dels_upd]
          exact w5
        · rw [dels_upd]
          exact s2.trans (s3.trans (s4.trans s5))
        · rw [dels_upd]
          exact (r2.mono (s3.trans (s4.trans s5))).app (.one r5)
      · rw [if_neg cb] at q4 ⊢
        exact ⟨acc, ds, N4, hA4, w4, s2.trans (s3.trans s4), r2.mono (s3.trans s4), by omega, q4⟩
  · have ei : i = items.length := by omega
    subst ei
    rw [List.drop_length] at q2
    refine .inl ⟨W2.stop H2 sH, ?_⟩
    exact k A acc H2 ds N2 hA w2 (G0.trans s2) r2 q2
theorem lc_at {wi : TI} {g : TG} {tt : TT} {te : TE} {it : DIt} {dg : DG} {dt : DT} {de : DE} {vs : List Nat} {σ : L2.St} {H : Hp} {δ : DEnv} {N : Nat} {Q : VK} {R : RK} {Ex : EK} (hi : SItA M wi it σ H δ N) (hg : SG M.nox vs g dg) (ht : ST M.nox tt dt) (he : SE M.nox te de)
    (e : EnvR M (Gv M.m H) σ δ) (h : dLc it dg dt de vs δ N R Ex) (k : ∀ v H' x N', Wok M.m N' H' → Same (Gv M.m H) (Gv M.m H') → Rp M.K M.cn (Gv M.m H') v x → R x N' → Q v H') (kx : XOk M σ H Ex) : tLc wi g (ttFr tt) (tFr te) vs σ H Q :=
  lc_core hi hg ht he e h (fun A acc H2 ds N2 hA w2 s2 r2 q2 => by
    have nd : dels H2 [A] A = none := dels_in (by simp)
    obtain ⟨w5, s5, e5⟩ := gv_new (.lst acc) w2 nd
    rw [upd_dels hA] at w5 s5 e5
    exact k _ H2 _ N2 w5 (s2.trans s5) (.lst e5 (r2.mono s5)) q2) kx
theorem se_lc {wi : TI} {g : TG} {tt : TT} {te : TE} {it : DIt} {dg : DG} {dt : DT} {de : DE} {vs : List Nat} (hi : SIt M wi it) (hg : SG M.nox vs g dg) (ht : ST M.nox tt dt) (he : SE M.nox te de) : SE M (tLc wi g (ttFr tt) (tFr te) vs) (dLc it dg dt de vs) := fun σ H δ N Q R Ex w e h k kx =>
  lc_at (fun Rt R Ex q k kx => hi σ H δ N Rt R Ex w e q k kx) hg ht he e h k kx
end
end Dl

set_option Elab.async false
set_option linter.all false
set_option maxRecDepth 100000
set_option maxHeartbeats 2000000
namespace Dl
open PySem PySem.Spec PyProof.Rows L2 Rl Dr _root_.Tx Ex Er So Wi Vw
abbrev tiFr (t : TI) : TI := fun σ H R => ∃ hd, HidOk H hd ∧ t σ (dels H hd) fun J H' => KeepT H H' ∧ ((∀ p ∈ hd, H' p = none) → R J (puts H' H hd))
theorem pi_frame {X : Cx} {tg e : Expr} {wi : TI} (h : PI X tg e wi) : PI X tg e (tiFr wi) := ⟨fun pins s σ H R I ⟨hd, hh, q⟩ =>
  thn (h.run _ s σ _ _ (Inv.hide I hh) q) fun v s1 z => thn z fun itv s2 z2 => by
    obtain ⟨it, fp, tn, J, H', e, I', T, t0, f, kt, k⟩ := z2
    obtain ⟨no, I2⟩ := Inv.unhide I hh kt I'
    refine ⟨it, fp, tn, J, _, e, I2, T, t0, fun b hb => ?_, k no⟩
    obtain ⟨a1, a2, a3, a4, a5, a6⟩ := f b hb
    have nb : b ∉ hd := fun m => by
      obtain ⟨o, ho, q⟩ := hh b m
      obtain ⟨ob, e, nc⟩ := plain_obj (I.hok _ _ ho) q
      exact a6 (b, ob) (List.mem_append_right _ (List.mem_append_right _ (mem_pinsAt m e))) rfl
    refine ⟨by rw [puts_out nb]; exact a1, a2, a3, a4, a5, fun p hp => a6 p ?_⟩
    rcases List.mem_append.mp hp with h | h
    · exact List.mem_append_left _ h
    · exact List.mem_append_right _ (List.mem_append_left _ h)⟩
section
variable {M : Md}
theorem fr_i {t : TI} {d : DIt} (h : SIt M t d) {σ : L2.St} {H : Hp} {δ : DEnv} {N : Nat} {Rt : It → Hp → Prop} {R : List D → Nat → Prop} {Ex : EK} {hd : List Addr} (hh : HidOk H hd) (w : Wok M.m N (dels H hd)) (e : EnvR M (Gv M.m (dels H hd)) σ δ) (q : d δ N R Ex)
    (k : ∀ J H' items N', (∀ p ∈ hd, H' p = H p) → Wok M.m N' (dels H' hd) → Same (Gv M.m (dels H hd)) (Gv M.m (dels H' hd)) → WalkD M (Gv M.m (dels H' hd)) J items → R items N' → Rt J H') (kx : XOk M σ (dels H hd) Ex) : tiFr t σ H Rt :=
  ⟨hd, hh, h σ (dels H hd) δ N _ R Ex w e q (fun J H1 items N1 w1 s1 W q1 => ⟨keepT_dels hh (keepT w s1), fun n => by
    have z := dels_puts (H := H) n
    exact k J _ items N1 (fun p hp => puts_in hp) (by rw [z]; exact w1) (by rw [z]; exact s1) (by rw [z]; exact W) q1⟩) kx⟩
/-- the inner clause of two: nx goes on with the outer one -/
def lcIn (g : DG) (t : DT) (e : DE) (δ : DEnv) (nx : List D → Nat → Prop) : List D → List D → Nat → Prop
  | [], acc, N => nx acc N
  | x :: r, acc, N => g x δ fun δ' => t δ' N (fun b N1 => if b = true then e δ' N1 (fun y N2 => acc.length < sizeLine ∧ lcIn g t e δ nx r (acc ++ [y]) N2) (fun _ _ _ => False) else lcIn g t e δ nx r acc N1) (fun _ _ _ => False)
def lcGo2 (g : DG) (t : DT) (it1 : DIt) (g1 : DG) (t1 : DT) (e : DE) (vs1 : List Nat) (δ : DEnv) (R : RK) : List D → List D → Nat → Prop
  | [], acc, N => R (.lst acc) N
  | x :: r, acc, N => g x δ fun δ' => t δ' N (fun b N1 => if b = true then it1 δ' N1 (fun items1 N2 => lcIn g1 t1 e (dwipe δ' vs1) (lcGo2 g t it1 g1 t1 e vs1 δ R r) items1 acc N2) (fun _ _ _ => False) else lcGo2 g t it1 g1 t1 e vs1 δ R r acc N1) (fun _ _ _ => False)
def dLc2 (it : DIt) (g : DG) (t : DT) (it1 : DIt) (g1 : DG) (t1 : DT) (e : DE) (vs vs1 : List Nat) : DE := fun δ N R Ex => it δ N (fun items N1 => lcGo2 g t it1 g1 t1 e vs1 (dwipe δ vs) R items [] N1) Ex
/-- the state of a comprehension: its list at A -/
def LcS (M : Md) (A : Addr) (G : Hp) (H : Hp) (acc : List V) (ds : List D) (N : Nat) : Prop := H A = some (.lst acc) ∧ Wok M.m N (dels H [A]) ∧ Same G (Gv M.m (dels H [A])) ∧ RpA M.K M.cn (Gv M.m (dels H [A])) acc ds
theorem LcS.G {A : Addr} {G G' H : Hp} {acc : List V} {ds : List D} {N : Nat} (h : LcS M A G H acc ds N) (s : Same G' G) : LcS M A G' H acc ds N := ⟨h.1, h.2.1, s.trans h.2.2.1, h.2.2.2⟩
theorem LcS.self {A : Addr} {G H : Hp} {acc : List V} {ds : List D} {N : Nat} (h : LcS M A G H acc ds N) : LcS M A (Gv M.m (dels H [A])) H acc ds N := ⟨h.1, h.2.1, Same.refl _, h.2.2.2⟩
theorem LcS.step {A : Addr} {G H H' : Hp} {acc : List V} {ds : List D} {N N' : Nat} (h : LcS M A G H acc ds N) (hp : ∀ p ∈ [A], H' p = H p) (w : Wok M.m N' (dels H' [A])) (s : Same (Gv M.m (dels H [A])) (Gv M.m (dels H' [A]))) : LcS M A G H' acc ds N' :=
  ⟨by rw [hp A (by simp)]; exact h.1, w, h.2.2.1.trans s, h.2.2.2.mono s⟩
theorem LcS.push {A : Addr} {G H : Hp} {acc : List V} {ds : List D} {N : Nat} {v : V} {d : D} (h : LcS M A G H acc ds N) (r : Rp M.K M.cn (Gv M.m (dels H [A])) v d) : LcS M A G (upd H A (.lst (acc ++ [v]))) (acc ++ [v]) (ds ++ [d]) N :=
  ⟨upd_same, by rw [dels_upd]; exact h.2.1, by rw [dels_upd]; exact h.2.2.1, by rw [dels_upd]; exact h.2.2.2.app (.one r)⟩
theorem del_sub {A : Addr} {H : Hp} : Same (Gv M.m (dels H [A])) H := fun a o e => dels_sub _ _ (gv_sub _ _ e)
theorem wipe_in {σ σ2 : L2.St} {vs ws : List Nat} (hl : σ2.length = (wipe σ vs).length) (o : ∀ j, j ∉ ws → σ2[j]? = (wipe σ vs)[j]?) (hw : ∀ i ∈ ws, i ∈ vs) : wipe σ2 vs = wipe σ vs := by
  refine wipe_eq (ws := vs) (by rw [hl, wipe_length]) (fun j hj => ?_) fun j hj => hj
  rw [o j (fun z => hj (hw j z)), wipe_get hj]
theorem in_step {g1 : TG} {tt1 : TT} {te : TE} {dg1 : DG} {dt1 : DT} {de : DE} {vs1 ws1 : List Nat} (hg : SG M.nox ws1 g1 dg1) (hv : ∀ i ∈ ws1, i ∈ vs1) (ht : ST M.nox tt1 dt1) (he : SE M.nox te de) {J1 : It} {items1 : List D} {A : Addr} {G : Hp} {σ2 : L2.St} {δ2 : DEnv} {nx : List D → Nat → Prop} {Nx : Hp → Prop} {H4 : Hp} {acc : List V} {ds : List D} {N : Nat}
    (W : WalkD M.nox G J1 items1) (e2 : EnvR M.nox G σ2 δ2) (L : LcS M A G H4 acc ds N) (q : lcIn dg1 dt1 de (dwipe δ2 vs1) nx items1 ds N) (hN : ∀ H acc ds N, LcS M A G H acc ds N → nx ds N → Nx H) :
    ∃ W1 : Nat → Nat → Hp → Prop, (∃ m, W1 0 m H4) ∧ ∀ j k H, W1 j k H → (J1.stop j H ∧ Nx H) ∨ (J1.go j H ∧ ∃ Nx1 : Hp → Prop, (∀ H', Nx1 H' → ∃ k', k' < k ∧ W1 (j + 1) k' H') ∧ ∀ x H', J1.yld j H x H' → g1 x (wipe σ2 vs1) H' fun σ3 H5 => wipe σ3 vs1 = wipe σ2 vs1 ∧ ttFr tt1 σ3 H5 fun b H6 =>
        if b = true then tFr te σ3 H6 fun y H7 => ∃ acc, H7 A = some (.lst acc) ∧ acc.length < sizeLine ∧ Nx1 (upd H7 A (.lst (acc ++ [y]))) else Nx1 H6) := by
  refine ⟨fun i mm H => ∃ acc ds N, mm = items1.length - i ∧ i ≤ items1.length ∧ LcS M A G H acc ds N ∧ lcIn dg1 dt1 de (dwipe δ2 vs1) nx (items1.drop i) ds N, ⟨items1.length, acc, ds, N, rfl, Nat.zero_le _, L, q⟩, ?_⟩
  rintro i mm H2 ⟨acc, ds, N2, rfl, hi2, L2', q2⟩
  have W2 := W.mono L2'.2.2.1
  by_cases hlt : i < items1.length
  · refine .inr ⟨W2.go i H2 hlt del_sub, fun H => ∃ acc ds N, LcS M A G H acc ds N ∧ lcIn dg1 dt1 de (dwipe δ2 vs1) nx (items1.drop (i + 1)) ds N, fun H' ⟨acc', ds', N', a, b⟩ => ⟨items1.length - (i + 1), by omega, acc', ds', N', rfl, hlt, a, b⟩, fun x H3 y => ?_⟩
    obtain ⟨d, ed, hp, hh, w3, s3, r3⟩ := yld_aside W2 hlt (hid_one L2'.1 trivial) L2'.2.1 (Same.refl _) y
    have L3 := L2'.step hp w3 s3
    rw [List.drop_eq_getElem_cons hlt] at q2
    have ed' : items1[i] = d := by
      rw [List.getElem?_eq_getElem hlt] at ed
      exact Option.some.inj ed
    rw [ed'] at q2
    refine hg x d (wipe σ2 vs1) H3 _ (dwipe δ2 vs1) _ _ del_sub r3 (envR_wipe (e2.mono L3.2.2.1)) q2 fun σ' δ' l1 l2 o1 e1 q3 => ⟨wipe_in l1 (fun j hj => (o1 j hj).1) hv, ?_⟩
    refine fr_t ht hh w3 e1 q3 (fun b H4 N4 hp4 w4 s4 q4 => ?_) xok_never
    have L4 := L3.step hp4 w4 s4
    by_cases cb : b = true
    · rw [if_pos cb] at q4 ⊢
      refine fr_e he (hid_one L4.1 trivial) w4 (e1.mono s4) q4 (fun v H5 x5 N5 hp5 w5 s5 r5 q5 => ?_) xok_never
      have L5 := L4.step hp5 w5 s5
      have la := L5.2.2.2.length
      exact ⟨acc, L5.1, by omega, _, _, N5, L5.push r5, q5.2⟩
    · rw [if_neg cb] at q4 ⊢
      exact ⟨acc, ds, N4, L4, q4⟩
  · have ei : i = items1.length := by omega
    subst ei
    rw [List.drop_length] at q2
    exact .inl ⟨W2.stop H2 del_sub, hN H2 acc ds N2 L2' q2⟩
theorem se_lc2 {wi wi1 : TI} {g g1 : TG} {tt tt1 : TT} {te : TE} {it it1 : DIt} {dg dg1 : DG} {dt dt1 : DT} {de : DE} {vs ws vs1 ws1 : List Nat} (hi : SIt M wi it) (hg : SG M.nox ws g dg) (hw : ∀ i ∈ ws, i ∈ vs) (ht : ST M.nox tt dt) (hi1 : SIt M.nox wi1 it1) (hg1 : SG M.nox ws1 g1 dg1) (hw1 : ∀ i ∈ ws1, i ∈ vs1)
    (ht1 : ST M.nox tt1 dt1) (he : SE M.nox te de) : SE M (tLc2 wi g (ttFr tt) (tiFr wi1) g1 (ttFr tt1) (tFr te) vs vs1) (dLc2 it dg dt it1 dg1 dt1 de vs vs1) := fun σ H δ N Q R Ex w e h k kx => by
  refine hi σ H δ N _ _ Ex w e h (fun J H1 items N1 w1 s1 W q1 => ?_) kx
  intro A nA
  have L1 : LcS M A (Gv M.m H1) (upd H1 A (.lst [])) [] [] N1 := ⟨upd_same, by rw [dels_upd, dels_free nA]; exact w1, by rw [dels_upd, dels_free nA]; exact Same.refl _, .nil⟩
  refine ⟨fun i mm H => ∃ acc ds N, mm = items.length - i ∧ i ≤ items.length ∧ LcS M A (Gv M.m H1) H acc ds N ∧ lcGo2 dg dt it1 dg1 dt1 de vs1 (dwipe δ vs) R (items.drop i) ds N, ⟨items.length, [], [], N1, rfl, Nat.zero_le _, L1, q1⟩, ?_⟩
  rintro i mm H2 ⟨acc, ds, N2, rfl, hi2, L2', q2⟩
  have W2 := W.mono L2'.2.2.1
  by_cases hlt : i < items.length
  · refine .inr ⟨W2.go i H2 hlt del_sub, fun H => ∃ acc ds N, LcS M A (Gv M.m H1) H acc ds N ∧ lcGo2 dg dt it1 dg1 dt1 de vs1 (dwipe δ vs) R (items.drop (i + 1)) ds N, fun H' ⟨acc', ds', N', a, b⟩ => ⟨items.length - (i + 1), by omega, acc', ds', N', rfl, hlt, a, b⟩, fun x H3 y => ?_⟩
    obtain ⟨d, ed, hp, hh, w3, s3, r3⟩ := yld_aside W2 hlt (hid_one L2'.1 trivial) L2'.2.1 (Same.refl _) y
    have L3 := L2'.step hp w3 s3
    rw [List.drop_eq_getElem_cons hlt] at q2
    have ed' : items[i] = d := by
      rw [List.getElem?_eq_getElem hlt] at ed
      exact Option.some.inj ed
    rw [ed'] at q2
    refine hg x d (wipe σ vs) H3 _ (dwipe δ vs) _ _ del_sub r3 (envR_wipe ((e.mono s1).mono L3.2.2.1)) q2 fun σ' δ' l1 l2 o1 e1 q3 => ⟨wipe_in l1 (fun j hj => (o1 j hj).1) hw, ?_⟩
    refine fr_t ht hh w3 e1 q3 (fun b H4 N4 hp4 w4 s4 q4 => ?_) xok_never
    have L4 := L3.step hp4 w4 s4
    by_cases cb : b = true
    · rw [if_pos cb] at q4 ⊢
      refine fr_i hi1 (hid_one L4.1 trivial) w4 (e1.mono s4) q4 (fun J1 H5 items1 N5 hp5 w5 s5 W5 q5 => ?_) xok_never
      have L5 := L4.step hp5 w5 s5
      exact in_step (G := Gv M.m (dels H5 [A])) (M := M) hg1 hw1 ht1 he W5 ((e1.mono s4).mono s5) L5.self q5 fun H acc ds N L q => ⟨acc, ds, N, L.G L5.2.2.1, q⟩
    · rw [if_neg cb] at q4 ⊢
      exact ⟨acc, ds, N4, L4, q4⟩
  · have ei : i = items.length := by omega
    subst ei
    rw [List.drop_length] at q2
    refine .inl ⟨W2.stop H2 del_sub, ?_⟩
    have nd : dels H2 [A] A = none := dels_in (by simp)
    obtain ⟨w5, s5, e5⟩ := gv_new (.lst acc) L2'.2.1 nd
    rw [upd_dels L2'.1] at w5 s5 e5
    exact k _ H2 _ N2 w5 (s1.trans (L2'.2.2.1.trans s5)) (.lst e5 (L2'.2.2.2.mono s5)) q2
end
end Dl

set_option Elab.async false
set_option linter.all false
set_option maxRecDepth 100000
set_option maxHeartbeats 2000000
namespace Dl
open PySem PySem.Spec PyProof.Rows L2 Rl Dr _root_.Tx Ex Er So Wi Vw
section
variable {M : Md}
/-! is None -/
theorem rp_non_iff {H : Hp} {v : V} {d : D} (r : Rp M.K M.cn H v d) : decide (v = .non) = isNonD d := by
  cases r <;> simp [isNonD]
def rIsND : R2 := fun x y H Q => y = .non ∧ Q (.bl (decide (x = .non))) H
def rNotND : R2 := fun x y H Q => y = .non ∧ Q (.bl (!decide (x = .non))) H
theorem sr_isN : SR M rIsND (dIsN id) := fun x y dx dy H N Q R w rx ry h k => by
  unfold dIsN at h
  split at h
  · refine ⟨rp_non ry, ?_⟩
    rw [rp_non_iff rx]
    exact k _ H _ w (Same.refl _) (.bl _) h
  · exact h.elim
theorem sr_notN : SR M rNotND (dIsN (!·)) := fun x y dx dy H N Q R w rx ry h k => by
  unfold dIsN at h
  split at h
  · refine ⟨rp_non ry, ?_⟩
    rw [rp_non_iff rx]
    exact k _ H _ w (Same.refl _) (.bl _) h
  · exact h.elim
/-! slices -/
def cutD (l : List D) (lo hi : Option Int) : List D := (l.drop (HT.sIx l.length 0 lo)).take (HT.sIx l.length l.length hi - HT.sIx l.length 0 lo)
theorem rpA_cut {K : PySem.W.Frag} {cn : Cn} {H : Hp} {xs : List V} {l : List D} {lo hi : Option Int} (r : RpA K cn H xs l) : RpA K cn H (cutV xs lo hi) (cutD l lo hi) := by
  unfold cutV cutD
  rw [r.length]
  exact (r.drop _).take _
def rSlD (K : PySem.W.Frag) : V → Option Int → Option Int → Hp → VK → Prop := fun x lo hi H Q => rSlL K x lo hi H Q ∨ (rSlA K x lo hi H Q ∨ rSlS x lo hi H Q)
theorem sl_any {X : Cx} : SlR X (rSlD X.K) := SlR.or sl_list (SlR.or sl_tupA sl_str)
def dSl (a : DE) (lo hi : DO) : DE := fun δ N R Ex => a δ N (fun x N1 => lo δ N1 (fun l N2 => hi δ N2 (fun u N3 => match x with
  | .lst xs => R (.lst (cutD xs l u)) N3
  | .tup xs => R (.tup (cutD xs l u)) N3
  | .str z => z.length ≤ sizeLine ∧ R (.str (L2.cutS z l u)) N3
  | _ => False) Ex) Ex) Ex
theorem okS_cut {z : Str} {l u : Option Int} (h : OkS z) : OkS (L2.cutS z l u) := fun c hc => by
  unfold L2.cutS at hc
  exact h c (List.mem_of_mem_drop (List.mem_of_mem_take hc))
theorem so_none : SO M tNoPart dNoneO := fun σ H δ N Q R Ex w e h k kx => k none H N w (Same.refl _) h
theorem so_part {t : TE} {a : DE} (h : SE M t a) : SO M (tPart t) (dPart a) := fun σ H δ N Q R Ex w e q k kx =>
  h σ H δ N _ _ Ex w e q (fun v H1 x N1 w1 s1 r1 q1 => by
    split at q1
    · exact ⟨_, rp_int r1, k _ H1 N1 w1 s1 q1⟩
    · exact q1.elim) kx
theorem se_sl {te : TE} {tl th : TO} {a : DE} {lo hi : DO} (he : SE M te a) (hl : SO M tl lo) (hh : SO M th hi) : SE M (L2.tSl (rSlD M.K) te tl th) (dSl a lo hi) := fun σ H δ N Q R Ex w e h k kx =>
  he σ H δ N _ _ Ex w e h (fun v H1 x N1 w1 s1 r1 q1 => hl σ H1 δ N1 _ _ Ex w1 (e.mono s1) q1 (fun l H2 N2 w2 s2 q2 => hh σ H2 δ N2 _ _ Ex w2 (e.mono (s1.trans s2)) q2 (fun u H3 N3 w3 s3 q3 => by
    have r3 := r1.mono (s2.trans s3)
    have s13 := s1.trans (s2.trans s3)
    split at q3
    · obtain ⟨a, xs, rfl, e1, r⟩ := rp_lst r3
      refine .inl ⟨a, xs, rfl, sq (gv_sub _ _ e1), fun p np => ?_⟩
      obtain ⟨w4, s4, e4⟩ := gv_new (.lst (cutV xs l u)) w3 np
      exact k _ _ _ N3 w4 (s13.trans s4) (.lst e4 ((rpA_cut r).mono s4)) q3
    · obtain ⟨a, xs, rfl, e1, r⟩ := rp_tup r3
      rename_i ds
      refine .inr (.inl ⟨a, xs, rfl, st (gv_sub _ _ e1), fun hw => ?_, fun hw p np => ?_⟩)
      · have ec : cutD ds l u = ds := by
          have hl := r.length
          unfold cutD
          rw [← hl, hw.1, hw.2, List.drop_zero, Nat.sub_zero, hl]
          exact List.take_length
        rw [ec] at q3
        exact k _ H3 _ N3 w3 s13 (.tup e1 r) q3
      · obtain ⟨w4, s4, e4⟩ := gv_new (.tup (cutV xs l u)) w3 np
        exact k _ _ _ N3 w4 (s13.trans s4) (.tup e4 ((rpA_cut r).mono s4)) q3
    · obtain ⟨rfl, o⟩ := rp_str r3
      exact .inr (.inr ⟨_, rfl, q3.1, k _ H3 _ N3 w3 s13 (.str _ (okS_cut o)) q3.2⟩)
    · exact q3.elim) (kx.mono (s1.trans s2))) (kx.mono s1)) kx
/-- xs[::-1] of a list -/
def dRevL (a : DE) : DE := fun δ N R Ex => a δ N (fun x N1 => match x with
  | .lst xs => R (.lst xs.reverse) N1
  | _ => False) Ex
theorem se_revL {te : TE} {a : DE} (he : SE M te a) : SE M (tRevL M.K te) (dRevL a) := fun σ H δ N Q R Ex w e h k kx =>
  he σ H δ N _ _ Ex w e h (fun v H1 x N1 w1 s1 r1 q1 => by
    split at q1
    · obtain ⟨a, xs, rfl, e1, r⟩ := rp_lst r1
      refine ⟨a, xs, rfl, sq (gv_sub _ _ e1), fun p np => ?_⟩
      obtain ⟨w4, s4, e4⟩ := gv_new (.lst xs.reverse) w1 np
      exact k _ _ _ N1 w4 (s1.trans s4) (.lst e4 (r.rev.mono s4)) q1
    · exact q1.elim) kx
/-! list(x), tuple(x) -/
def dList : DF0 := fun ds R => match ds with
  | [.lst l] => R (.lst l)
  | [.tup l] => R (.lst l)
  | _ => False
def dTuple : DF0 := fun ds R => match ds with
  | [.lst l] => R (.tup l)
  | [.tup l] => R (.tup l)
  | _ => False
def rListD (K : PySem.W.Frag) : List V → Hp → VK → Prop := fun xs H Q => ∃ p ys, xs = [.ref p] ∧ (SqL K H p ys ∨ SqT K H p ys) ∧ ∀ l, H l = none → Q (.ref l) (upd H l (.lst ys))
theorem sc_list : SC M (rListD M.K) dList := fun xs ds H N Q R w r h k => by
  unfold dList at h
  split at h
  · cases r with | cons r0 rt => ?_
    cases rt
    obtain ⟨a, ys, rfl, e, q⟩ := rp_lst r0
    refine ⟨a, ys, rfl, .inl (sq (gv_sub _ _ e)), fun p np => ?_⟩
    obtain ⟨w4, s4, e4⟩ := gv_new (.lst ys) w np
    exact k _ _ _ w4 s4 (.lst e4 (q.mono s4)) h
  · cases r with | cons r0 rt => ?_
    cases rt
    obtain ⟨a, ys, rfl, e, q⟩ := rp_tup r0
    refine ⟨a, ys, rfl, .inr (st (gv_sub _ _ e)), fun p np => ?_⟩
    obtain ⟨w4, s4, e4⟩ := gv_new (.lst ys) w np
    exact k _ _ _ w4 s4 (.lst e4 (q.mono s4)) h
  · exact h.elim
def rTupleD (K : PySem.W.Frag) : List V → Hp → VK → Prop := fun xs H Q => ∃ p ys, xs = [.ref p] ∧ ((SqL K H p ys ∧ ∀ l, H l = none → Q (.ref l) (upd H l (.tup ys))) ∨ (SqT K H p ys ∧ Q (.ref p) H))
theorem sc_tuple : SC M (rTupleD M.K) dTuple := fun xs ds H N Q R w r h k => by
  unfold dTuple at h
  split at h
  · cases r with | cons r0 rt => ?_
    cases rt
    obtain ⟨a, ys, rfl, e, q⟩ := rp_lst r0
    refine ⟨a, ys, rfl, .inl ⟨sq (gv_sub _ _ e), fun p np => ?_⟩⟩
    obtain ⟨w4, s4, e4⟩ := gv_new (.tup ys) w np
    exact k _ _ _ w4 s4 (.tup e4 (q.mono s4)) h
  · cases r with | cons r0 rt => ?_
    cases rt
    obtain ⟨a, ys, rfl, e, q⟩ := rp_tup r0
    exact ⟨a, ys, rfl, .inr ⟨st (gv_sub _ _ e), k _ H _ w (Same.refl _) (.tup e q) h⟩⟩
  · exact h.elim
/-! dict(d), dict of a list of pairs -/
def putD {κ : Type} [DecidableEq κ] (l : List (κ × D)) (k : κ) (d : D) : List (κ × D) :=
  if (l.any fun kv => decide (kv.1 = k)) = true then l.map (fun kv => if kv.1 = k then (kv.1, d) else kv) else l ++ [(k, d)]
theorem rpK_any {K : PySem.W.Frag} {cn : Cn} {H : Hp} {k : Key} : ∀ {xs : List (Key × V)} {l : List (Key × D)}, RpK K cn H xs l → (xs.any fun kv => decide (kv.1 = k)) = (l.any fun kv => decide (kv.1 = k))
  | _, _, .nil => rfl
  | _, _, .cons o h t => by rw [List.any_cons, List.any_cons, rpK_any t]
theorem rpK_app {K : PySem.W.Frag} {cn : Cn} {H : Hp} : ∀ {xs ys : List (Key × V)} {l m : List (Key × D)}, RpK K cn H xs l → RpK K cn H ys m → RpK K cn H (xs ++ ys) (l ++ m)
  | _, _, _, _, .nil, s => s
  | _, _, _, _, .cons o h t, s => .cons o h (rpK_app t s)
theorem rpK_map {K : PySem.W.Frag} {cn : Cn} {H : Hp} {k : Key} {v : V} {d : D} (r : Rp K cn H v d) : ∀ {xs : List (Key × V)} {l : List (Key × D)}, RpK K cn H xs l → RpK K cn H (xs.map fun kv => if kv.1 = k then (kv.1, v) else kv) (l.map fun kv => if kv.1 = k then (kv.1, d) else kv)
  | _, _, .nil => .nil
  | (k', v') :: xs, (_, d') :: l, .cons o h t => by
    rw [List.map_cons, List.map_cons]
    by_cases c : k' = k
    · rw [if_pos c, if_pos c]
      exact .cons o r (rpK_map r t)
    · rw [if_neg c, if_neg c]
      exact .cons o h (rpK_map r t)
def OkK : Key → Prop := fun k => OkS (match k with | .inr x => x | .inl _ => "")
theorem rpK_put {K : PySem.W.Frag} {cn : Cn} {H : Hp} {k : Key} {v : V} {d : D} {xs : List (Key × V)} {l : List (Key × D)} (q : RpK K cn H xs l) (o : OkK k) (r : Rp K cn H v d) : RpK K cn H (putK xs k v) (putD l k d) := by
  unfold putK putD
  rw [rpK_any q]
  by_cases c : (l.any fun kv => decide (kv.1 = k)) = true
  · rw [if_pos c, if_pos c]
    exact rpK_map r q
  · rw [if_neg c, if_neg c]
    exact rpK_app q (.cons o r .nil)
theorem rpT_any {K : PySem.W.Frag} {cn : Cn} {H : Hp} {k : List Key} : ∀ {xs : List (List Key × V)} {l : List (List Key × D)}, RpT K cn H xs l → (xs.any fun kv => decide (kv.1 = k)) = (l.any fun kv => decide (kv.1 = k))
  | _, _, .nil => rfl
  | _, _, .cons h t => by rw [List.any_cons, List.any_cons, rpT_any t]
theorem rpT_app {K : PySem.W.Frag} {cn : Cn} {H : Hp} : ∀ {xs ys : List (List Key × V)} {l m : List (List Key × D)}, RpT K cn H xs l → RpT K cn H ys m → RpT K cn H (xs ++ ys) (l ++ m)
  | _, _, _, _, .nil, s => s
  | _, _, _, _, .cons h t, s => .cons h (rpT_app t s)
theorem rpT_map {K : PySem.W.Frag} {cn : Cn} {H : Hp} {k : List Key} {v : V} {d : D} (r : Rp K cn H v d) : ∀ {xs : List (List Key × V)} {l : List (List Key × D)}, RpT K cn H xs l → RpT K cn H (xs.map fun kv => if kv.1 = k then (kv.1, v) else kv) (l.map fun kv => if kv.1 = k then (kv.1, d) else kv)
  | _, _, .nil => .nil
  | (k', v') :: xs, (_, d') :: l, .cons h t => by
    rw [List.map_cons, List.map_cons]
    by_cases c : k' = k
    · rw [if_pos c, if_pos c]
      exact .cons r (rpT_map r t)
    · rw [if_neg c, if_neg c]
      exact .cons h (rpT_map r t)
theorem rpT_put {K : PySem.W.Frag} {cn : Cn} {H : Hp} {k : List Key} {v : V} {d : D} {xs : List (List Key × V)} {l : List (List Key × D)} (q : RpT K cn H xs l) (r : Rp K cn H v d) : RpT K cn H (putK xs k v) (putD l k d) := by
  unfold putK putD
  rw [rpT_any q]
  by_cases c : (l.any fun kv => decide (kv.1 = k)) = true
  · rw [if_pos c, if_pos c]
    exact rpT_map r q
  · rw [if_neg c, if_neg c]
    exact rpT_app q (.cons r .nil)
/-- pairs -/
def pairsD : List D → Option (List (Key × D))
  | [] => some []
  | .tup [k, d] :: r => (match keyD k, pairsD r with
    | some k, some l => some ((k, d) :: l)
    | _, _ => none)
  | _ => none
def mergeD (l : List (Key × D)) (more : List (Key × D)) : List (Key × D) := more.foldl (fun acc kv => putD acc kv.1 kv.2) l
def dDict : DF0 := fun ds R => match ds with
  | [.dk l] => R (.dk l)
  | [.lst l] => (match pairsD l with
    | some ps => R (.dk (mergeD [] ps))
    | none => False)
  | _ => False
def rDictD (K : PySem.W.Frag) : List V → Hp → VK → Prop := fun xs H Q => (∃ (a : Addr) (kvs : List (Key × V)), xs = [.ref a] ∧ Rd H a (.dK kvs) ∧ ∀ p, H p = none → Q (.ref p) (upd H p (.dK kvs))) ∨
  (∃ (a : Addr) (ps : List Addr) (kvs : List (Key × V)), xs = [.ref a] ∧ SqL K H a (ps.map V.ref) ∧ Paired (fun p kv => SqT K H p [kV kv.1, kv.2]) ps kvs ∧ ∀ p, H p = none → Q (.ref p) (upd H p (.dK (mergeK [] kvs))))
theorem okK_of {K : PySem.W.Frag} {cn : Cn} {H : Hp} {v : V} {d : D} {k : Key} (r : Rp K cn H v d) (h : keyD d = some k) : OkK k := by
  unfold keyD at h
  split at h
  · cases h
    exact fun c hc => by cases hc
  · cases h
    cases r
    assumption
  · cases h
theorem rpA_pairs {K : PySem.W.Frag} {cn : Cn} {H G : Hp} (s : Same H G) : ∀ {xs : List V} {l : List D} {ps : List (Key × D)}, RpA K cn H xs l → pairsD l = some ps → ∃ (as : List Addr) (kvs : List (Key × V)), xs = as.map V.ref ∧ Paired (fun p kv => SqT K G p [kV kv.1, kv.2]) as kvs ∧ RpK K cn H kvs ps
  | _, _, _, .nil, h => by cases h; exact ⟨[], [], rfl, .nil, .nil⟩
  | _, _, ps, .cons r t, h => by
    unfold pairsD at h
    split at h
    · rename_i e
      cases e
    · rename_i l k d l' e
      cases e
      split at h
      · rename_i k2 l2 e1 e2
        cases h
        obtain ⟨as, kvs, rfl, p, q⟩ := rpA_pairs s t e2
        obtain ⟨a, xs, rfl, e3, r3⟩ := rp_tup (M := ⟨K, cn, none, fun _ _ _ _ => False⟩) r
        cases r3 with | cons r4 r5 => ?_
        cases r5 with | cons r6 r7 => ?_
        cases r7
        rename_i u _ _ w _
        refine ⟨a :: as, (k2, _) :: kvs, rfl, .cons ?_ p, .cons (okK_of r4 e1) r6 q⟩
        have ek := keyD_v r4 e1
        subst ek
        exact st (s _ _ e3)
      · cases h
    · cases h
theorem rpK_merge {K : PySem.W.Frag} {cn : Cn} {H : Hp} : ∀ {ms : List (Key × V)} {l : List (Key × D)}, RpK K cn H ms l → ∀ {xs : List (Key × V)} {acc : List (Key × D)}, RpK K cn H xs acc → RpK K cn H (mergeK xs ms) (mergeD acc l)
  | _, _, .nil, _, _, q => q
  | _, _, .cons (k := k) (v := v) (vs := vs) (d := d) (ds := ds) o h t, xs, acc, q => by
    show RpK K cn H (mergeK (putK xs k v) vs) (mergeD (putD acc k d) ds)
    exact rpK_merge t (rpK_put q o h)
theorem sc_dict : SC M (rDictD M.K) dDict := fun xs ds H N Q R w r h k => by
  unfold dDict at h
  split at h
  · cases r with | cons r0 rt => ?_
    cases rt
    obtain ⟨a, ys, rfl, e, q⟩ := rp_dk r0
    refine .inl ⟨a, ys, rfl, rd_sub e, fun p np => ?_⟩
    obtain ⟨w4, s4, e4⟩ := gv_new (.dK ys) w np
    exact k _ _ _ w4 s4 (.dk (.inl e4) (q.mono s4)) h
  · split at h
    · rename_i ps ep
      cases r with | cons r0 rt => ?_
      cases rt
      obtain ⟨a, ys, rfl, e, q⟩ := rp_lst r0
      obtain ⟨as, kvs, rfl, pr, rk⟩ := rpA_pairs (gv_sub) q ep
      refine .inr ⟨a, as, kvs, rfl, sq (gv_sub _ _ e), pr, fun p np => ?_⟩
      obtain ⟨w4, s4, e4⟩ := gv_new (.dK (mergeK [] kvs)) w np
      exact k _ _ _ w4 s4 (.dk (.inl e4) ((rpK_merge rk .nil).mono s4)) h
    · exact h.elim
  · exact h.elim
/-! sorted -/
def strsOf : List D → Option (List Str)
  | [] => some []
  | .str x :: r => (strsOf r).map (x :: ·)
  | _ => none
def keysOf : List (Key × D) → Option (List Str)
  | [] => some []
  | (.inr x, _) :: r => (keysOf r).map (x :: ·)
  | _ => none
def sortDD (l : List D) (ps : List PyData) : List D := ((l.zip ps).mergeSort (PySem.W.dataLe false fun p : D × PyData => p.2)).map (·.1)
def dSortData (l : List D) (R : D → Prop) : Prop := match toPyA l with
  | some ps => PySem.W.AllAlike ps ∧ PySem.W.Sortable ps ∧ (∀ d ∈ ps, d.depth ≤ 32) ∧ R (.lst (sortDD l ps))
  | none => False
def dSorted : DF0 := fun ds R => match ds with
  | [.lst l] => (match strsOf l with
    | some zs => zs.length < 64 ∧ ∀ ys : List Str, ys.Perm zs → sortedS ys = true → R (.lst (ys.map .str))
    | none => dSortData l R)
  | [.tup l] => dSortData l R
  | [.dk l] => (match keysOf l with
    | some zs => zs.length < 64 ∧ ∀ ys : List Str, ys.Perm zs → sortedS ys = true → R (.lst (ys.map .str))
    | none => False)
  | _ => False
def rSortDk : List V → Hp → VK → Prop := fun xs H Q => ∃ (a : Addr) (kvs : List (Key × V)) (ks : List Str), xs = [.ref a] ∧ Rd H a (.dK kvs) ∧ kvs.map (·.1) = ks.map Sum.inr ∧ ks.length < 64 ∧ ∀ ys p, ys.Perm ks → sortedS ys = true → H p = none → Q (.ref p) (upd H p (.lst (ys.map V.str)))
def rSortA (K : PySem.W.Frag) : List V → Hp → VK → Prop := fun xs H Q => L2.rSortedS K xs H Q ∨ (rSortS K xs H Q ∨ rSortDk xs H Q)
theorem cr_sortA {X : Cx} (hc : X.calm = true) (hu : X.A.units + 64 < cLine) : CallR X (.builtin "sorted") (rSortA X.K) := call_or cr_sortedS (call_or (cr_sortS hu) (call_sortedD hc))
theorem strsOf_v {K : PySem.W.Frag} {cn : Cn} {H : Hp} : ∀ {vs : List V} {ds : List D} {zs : List Str}, RpA K cn H vs ds → strsOf ds = some zs → vs = zs.map V.str ∧ ∀ z ∈ zs, OkS z
  | _, _, _, .nil, h => by cases h; exact ⟨rfl, by simp⟩
  | _, _, zs, .cons r t, h => by
    unfold strsOf at h
    split at h
    · rename_i e
      cases e
    · rename_i x l e
      cases e
      obtain ⟨ws, e1, rfl⟩ := Option.map_eq_some_iff.mp h
      obtain ⟨a, b⟩ := strsOf_v t e1
      cases r
      exact ⟨by rw [a]; rfl, fun z hz => by
        rcases List.mem_cons.mp hz with rfl | hz
        · assumption
        · exact b z hz⟩
    · cases h
theorem keysOf_v {K : PySem.W.Frag} {cn : Cn} {H : Hp} : ∀ {vs : List (Key × V)} {ds : List (Key × D)} {zs : List Str}, RpK K cn H vs ds → keysOf ds = some zs → vs.map (·.1) = zs.map Sum.inr ∧ ∀ z ∈ zs, OkS z
  | _, _, _, .nil, h => by cases h; exact ⟨rfl, by simp⟩
  | _, _, zs, .cons o r t, h => by
    unfold keysOf at h
    split at h
    · rename_i e
      cases e
    · rename_i x l e1 e
      cases e
      obtain ⟨ws, e1, rfl⟩ := Option.map_eq_some_iff.mp h
      obtain ⟨a, b⟩ := keysOf_v t e1
      refine ⟨by rw [List.map_cons, a]; rfl, fun z hz => ?_⟩
      rcases List.mem_cons.mp hz with rfl | hz
      · exact o
      · exact b z hz
    · cases h
theorem rpA_strs {K : PySem.W.Frag} {cn : Cn} {H : Hp} : ∀ {zs : List Str}, (∀ z ∈ zs, OkS z) → RpA K cn H (zs.map V.str) (zs.map D.str)
  | [], _ => .nil
  | z :: r, h => .cons (.str z (h z (by simp))) (rpA_strs fun y hy => h y (List.mem_cons_of_mem _ hy))
theorem rpA_of_pairs {K : PySem.W.Frag} {cn : Cn} {H : Hp} : ∀ {ps : List (V × D)}, (∀ p ∈ ps, Rp K cn H p.1 p.2) → RpA K cn H (ps.map (·.1)) (ps.map (·.2))
  | [], _ => .nil
  | p :: r, h => .cons (h p (by simp)) (rpA_of_pairs fun q hq => h q (List.mem_cons_of_mem _ hq))
theorem rpA_zip {K : PySem.W.Frag} {cn : Cn} {H : Hp} : ∀ {xs : List V} {l : List D}, RpA K cn H xs l → ∀ p ∈ xs.zip l, Rp K cn H p.1 p.2
  | _, _, .nil, p, h => by simp at h
  | _, _, .cons h t, p, m => by
    rw [List.zip_cons_cons] at m
    rcases List.mem_cons.mp m with rfl | m
    · exact h
    · exact rpA_zip t p m
theorem toPyA_length : ∀ {l : List D} {ps : List PyData}, toPyA l = some ps → l.length = ps.length
  | [], _, h => by cases h; rfl
  | d :: r, ps, h => by
    unfold toPyA at h
    split at h
    · rename_i p ps' e1 e2
      cases h
      rw [List.length_cons, List.length_cons, toPyA_length e2]
    · cases h
theorem zip3 {α β γ : Type} : ∀ {xs : List α} {l : List β} {ps : List γ}, xs.length = l.length → l.length = ps.length → xs.zip ps = ((xs.zip l).zip ps).map (fun q => (q.1.1, q.2)) ∧ l.zip ps = ((xs.zip l).zip ps).map (fun q => (q.1.2, q.2)) ∧ ((xs.zip l).zip ps).map (·.1) = xs.zip l
  | [], [], [], _, _ => ⟨rfl, rfl, rfl⟩
  | x :: xs, y :: l, z :: ps, h1, h2 => by
    obtain ⟨a, b, c⟩ := zip3 (xs := xs) (l := l) (ps := ps) (by simpa using h1) (by simpa using h2)
    simp only [List.zip_cons_cons, List.map_cons]
    exact ⟨by rw [← a], by rw [← b], by rw [c]⟩
  | [], y :: l, _, h1, _ => by simp at h1
  | x :: xs, [], _, h1, _ => by simp at h1
  | [], [], z :: ps, _, h2 => by simp at h2
  | x :: xs, y :: l, [], _, h2 => by simp at h2
/-- values and data sorted alike -/
theorem rpA_sort {K : PySem.W.Frag} {cn : Cn} {H : Hp} {xs : List V} {l : List D} {ps : List PyData} (r : RpA K cn H xs l) (h : l.length = ps.length) : RpA K cn H (sortD xs ps) (sortDD l ps) := by
  obtain ⟨a, b, c⟩ := zip3 (xs := xs) (l := l) (ps := ps) r.length h
  have e1 : sortD xs ps = ((((xs.zip l).zip ps).mergeSort fun p q => PySem.W.dataLe false id p.2 q.2).map (·.1)).map (·.1) := by
    unfold sortD
    rw [a, ← List.map_mergeSort (r := fun p q : (V × D) × PyData => PySem.W.dataLe false id p.2 q.2) (f := fun q : (V × D) × PyData => (q.1.1, q.2)) (fun a _ b _ => rfl), List.map_map, List.map_map]
    rfl
  have e2 : sortDD l ps = ((((xs.zip l).zip ps).mergeSort fun p q => PySem.W.dataLe false id p.2 q.2).map (·.1)).map (·.2) := by
    unfold sortDD
    rw [b, ← List.map_mergeSort (r := fun p q : (V × D) × PyData => PySem.W.dataLe false id p.2 q.2) (f := fun q : (V × D) × PyData => (q.1.2, q.2)) (fun a _ b _ => rfl), List.map_map, List.map_map]
    rfl
  rw [e1, e2]
  refine rpA_of_pairs fun p hp => ?_
  obtain ⟨q, hq, rfl⟩ := List.mem_map.mp hp
  have m := (List.mergeSort_perm _ _).mem_iff.mp hq
  have m2 : q.1 ∈ ((xs.zip l).zip ps).map (·.1) := List.mem_map.mpr ⟨q, m, rfl⟩
  rw [c] at m2
  exact rpA_zip r _ m2
theorem sc_sorted : SC M (rSortA M.K) dSorted := fun xs ds H N Q R w r h k => by
  have data : ∀ {a : Addr} {ys : List V} {l : List D}, (SqL M.K H a ys ∨ SqT M.K H a ys) → RpA M.K M.cn (Gv M.m H) ys l → dSortData l R → rSortA M.K [.ref a] H Q := fun {a ys l} e q h => by
    unfold dSortData at h
    split at h
    · rename_i ps ep
      obtain ⟨a1, a2, a3, a4⟩ := h
      have dp := (rp_dpA (q.mono gv_sub) ep).1
      have fin : ∀ p, H p = none → Q (.ref p) (upd H p (.lst (sortD ys ps))) := fun p np => by
        obtain ⟨w4, s4, e4⟩ := gv_new (.lst (sortD ys ps)) w np
        exact k _ _ _ w4 s4 (.lst e4 ((rpA_sort q (toPyA_length ep)).mono s4)) a4
      rcases e with e | e
      · exact .inr (.inl (.inl ⟨a, ys, ps, rfl, e, dp, a1, a2, a3, fin⟩))
      · exact .inr (.inl (.inr ⟨a, ys, ps, rfl, e, dp, a1, a2, a3, fin⟩))
    · exact h.elim
  unfold dSorted at h
  split at h
  · cases r with | cons r0 rt => ?_
    cases rt
    obtain ⟨a, ys, rfl, e, q⟩ := rp_lst r0
    split at h
    · rename_i zs ez
      obtain ⟨ev, oz⟩ := strsOf_v q ez
      subst ev
      refine .inl ⟨a, zs, rfl, sq (gv_sub _ _ e), h.1, fun ys p hp hs np => ?_⟩
      obtain ⟨w4, s4, e4⟩ := gv_new (.lst (ys.map V.str)) w np
      exact k _ _ _ w4 s4 (.lst e4 (rpA_strs fun z hz => oz z (hp.mem_iff.mp hz))) (h.2 ys hp hs)
    · exact data (.inl (sq (gv_sub _ _ e))) q h
  · cases r with | cons r0 rt => ?_
    cases rt
    obtain ⟨a, ys, rfl, e, q⟩ := rp_tup r0
    exact data (.inr (st (gv_sub _ _ e))) q h
  · cases r with | cons r0 rt => ?_
    cases rt
    obtain ⟨a, ys, rfl, e, q⟩ := rp_dk r0
    split at h
    · rename_i zs ez
      obtain ⟨ev, oz⟩ := keysOf_v q ez
      refine .inr (.inr ⟨a, ys, zs, rfl, rd_sub e, ev, h.1, fun ys p hp hs np => ?_⟩)
      obtain ⟨w4, s4, e4⟩ := gv_new (.lst (ys.map V.str)) w np
      exact k _ _ _ w4 s4 (.lst e4 (rpA_strs fun z hz => oz z (hp.mem_iff.mp hz))) (h.2 ys hp hs)
    · exact h.elim
  · exact h.elim
end
end Dl

set_option Elab.async false
set_option linter.all false
set_option maxRecDepth 100000
set_option maxHeartbeats 2000000
namespace Dl
open PySem PySem.Spec PyProof.Rows L2 Rl Dr _root_.Tx Ex Er So Wi Vw
/-! ### defs: pure ones, and such as draw -/
abbrev DFp := List D → (D → Prop) → (Nat → D → Prop) → Prop
abbrev DF := Addr → List D → Nat → RK → EK → Prop
/-- the promise of a pure def, in any way to run -/
def spP (K : PySem.W.Frag) (cn : Cn) (f : DFp) : Sp := fun vs H Q E => ∃ (m : Option Addr) (ds : List D) (N : Nat) (R : D → Prop) (Ex : Nat → D → Prop), Wok m N H ∧ RpA K cn (Gv m H) vs ds ∧ f ds R Ex ∧
  (∀ v H' x, Wok m N H' → Same (Gv m H) (Gv m H') → Rp K cn (Gv m H') v x → R x → Q v H') ∧
  ∀ c C x dx H', cn.xm c = some C → Wok m N H' → Same (Gv m H) (Gv m H') → XdR ⟨K, cn, m, fun _ _ _ _ => False⟩ (Gv m H') c dx x → Ex c x → E (.ref C) dx H'
def spP0 (K : PySem.W.Frag) (cn : Cn) (f : DFp) : Sp := fun vs H Q E => ∃ (ds : List D) (R : D → Prop) (Ex : Nat → D → Prop), RpA K cn H vs ds ∧ f ds R Ex ∧
  (∀ v H' x, Same H H' → Rp K cn H' v x → R x → Q v H') ∧
  ∀ c C x dx H', cn.xm c = some C → Same H H' → XdR ⟨K, cn, none, fun _ _ _ _ => False⟩ H' c dx x → Ex c x → E (.ref C) dx H'
/-- of a def that draws -/
def spD (K : PySem.W.Frag) (cn : Cn) (f : DF) : Sp := fun vs H Q E => ∃ (s : Addr) (ds : List D) (N : Nat) (R : RK) (Ex : EK), Ds H s N ∧ RpA K cn (Vw s H) vs ds ∧ f s ds N R Ex ∧
  (∀ v H' x N', Ds H' s N' → Same (Vw s H) (Vw s H') → Rp K cn (Vw s H') v x → R x N' → Q v H') ∧
  ∀ c C x dx H' N', cn.xm c = some C → Ds H' s N' → Same (Vw s H) (Vw s H') → XdR ⟨K, cn, some s, fun _ _ _ _ => False⟩ (Vw s H') c dx x → Ex c x N' → E (.ref C) dx H'
section
variable {P : Program} {w : World} {K : PySem.W.Frag} {mg : Str → Option Value} {base : Heap} {k : Nat} {f : Addr} {fd : FuncData} {ps : List Str} {cn : Cn} {g : DFp}
theorem spP_fr {vs : List V} {H : Hp} {Q : VK} {E : XK} (h : spP K cn g vs H Q E) : spFr (spP0 K cn g) vs H Q E := by
  obtain ⟨m, ds, N, R, Ex, w, r, q, k, kx⟩ := h
  obtain ⟨hd, hh, e, fin⟩ := fr_view w
  have kt : ∀ H', Same (Gv m H) H' → KeepT H H' := fun H' s b xs eb => s _ _ (gv_tup w eb)
  refine ⟨hd, hh, ?_⟩
  rw [e]
  refine ⟨ds, R, Ex, r, q, fun v H' x s rx qx => ⟨kt H' s, fun n => ?_⟩, fun c C x dx H' hc s xd qx => ⟨kt H' s, fun n => ?_⟩⟩
  · obtain ⟨w2, e2⟩ := fin H' s n
    exact k v _ x w2 (by rw [e2]; exact s) (by rw [e2]; exact rx) qx
  · obtain ⟨w2, e2⟩ := fin H' s n
    refine kx c C x dx _ hc w2 (by rw [e2]; exact s) ?_ qx
    rw [e2]
    exact xd
theorem lift0 (F : FnOk P w K mg base CX0 k f fd ps (spP0 K cn g)) : FnOk P w K mg base CX0 k f fd ps (spP K cn g) := (FnOk.fr0 F).imp fun _ _ _ _ h => spP_fr h
theorem liftX (F : FnOk P w K mg base (L2.CX P w) k f fd ps (spP0 K cn g)) : FnOk P w K mg base (L2.CX P w) k f fd ps (spP K cn g) := (FnOk.frX F).imp fun _ _ _ _ h => spP_fr h
end
section
variable {M : Md}
/-- f(..), pure -/
def dCall (f : DFp) (a : DA) : DE := fun δ N R Ex => a δ N (fun ds N1 => f ds (fun x => R x N1) (fun c x => Ex c x N1)) Ex
def dCall0 (f : DFp) (a : DA) : DE := fun δ N R Ex => a δ N (fun ds N1 => f ds (fun x => R x N1) (fun _ _ => False)) Ex
/-- f(..), drawing -/
def dCallD (s : Addr) (f : DF) (a : DA) : DE := fun δ N R Ex => a δ N (fun ds N1 => f s ds N1 R (fun _ _ _ => False)) Ex
theorem pure_sp {K : PySem.W.Frag} {cn : Cn} {m : Option Addr} {f : DFp} {vs : List V} {ds : List D} {H : Hp} {N : Nat} {Q : VK} {E : XK} {R : D → Prop} {Ex : Nat → D → Prop} (w : Wok m N H) (r : RpA K cn (Gv m H) vs ds) (h : f ds R Ex)
    (k : ∀ v H' x, Wok m N H' → Same (Gv m H) (Gv m H') → Rp K cn (Gv m H') v x → R x → Q v H') (kx : ∀ c C x dx H', cn.xm c = some C → Wok m N H' → Same (Gv m H) (Gv m H') → XdR ⟨K, cn, m, fun _ _ _ _ => False⟩ (Gv m H') c dx x → Ex c x → E (.ref C) dx H') : spP K cn f vs H Q E :=
  ⟨m, ds, N, R, Ex, w, r, h, k, kx⟩
theorem se_call0 {f : DFp} {t : TA} {a : DA} {E : XK} (ha : SA M t a) : SE M (tCall (spP M.K M.cn f) [] E t) (dCall0 f a) := fun σ H δ N Q R Ex w e h k kx =>
  ha σ H δ N _ _ Ex w e h (fun vs H1 ds N1 w1 s1 r1 q1 => by
    rw [List.append_nil]
    exact pure_sp w1 r1 q1 (fun v H' x w2 s2 r2 q2 => k v H' x N1 w2 (s1.trans s2) r2 q2) fun _ _ _ _ _ _ _ _ _ z => z.elim) kx
theorem se_call {f : DFp} {t : TA} {a : DA} {E : XK} (ha : SA M t a) (hE : ∀ c d σ H, M.W c d σ H → E c d H) : SE M (tCall (spP M.K M.cn f) [] E t) (dCall f a) := fun σ H δ N Q R Ex w e h k kx =>
  ha σ H δ N _ _ Ex w e h (fun vs H1 ds N1 w1 s1 r1 q1 => by
    rw [List.append_nil]
    exact pure_sp w1 r1 q1 (fun v H' x w2 s2 r2 q2 => k v H' x N1 w2 (s1.trans s2) r2 q2) fun c C x dx H' hc w2 s2 xd qx => hE _ _ σ _ (kx c C x dx H' N1 hc w2 (s1.trans s2) xd qx)) kx
/-- in a try: the wish knows the slots -/
theorem se_callS {f : DFp} {t : TA} {a : DA} (ha : SA M t a) : SE M (tCallSD (spP M.K M.cn f) [] (WE M.W) t) (dCall f a) := fun σ H δ N Q R Ex w e h k kx =>
  ha σ H δ N _ _ Ex w e h (fun vs H1 ds N1 w1 s1 r1 q1 => by
    rw [List.append_nil]
    exact pure_sp w1 r1 q1 (fun v H' x w2 s2 r2 q2 => k v H' x N1 w2 (s1.trans s2) r2 q2) fun c C x dx H' hc w2 s2 xd qx => kx c C x dx H' N1 hc w2 (s1.trans s2) xd qx) kx
theorem se_callD {s : Addr} (hm : M.m = some s) {f : DF} {t : TA} {a : DA} {E : XK} (ha : SA M t a) : SE M (tCall (spD M.K M.cn f) [] E t) (dCallD s f a) := fun σ H δ N Q R Ex w e h k kx =>
  ha σ H δ N _ _ Ex w e h (fun vs H1 ds N1 w1 s1 r1 q1 => by
    rw [List.append_nil]
    rw [hm] at w1 r1 k s1
    exact ⟨s, ds, N1, R, _, w1, r1, q1, fun v H' x N' w2 s2 r2 q2 => k v H' x N' w2 (s1.trans s2) r2 q2, fun _ _ _ _ _ _ _ _ _ _ z => z.elim⟩) kx
/-! ### objects -/
theorem rpF_get {K : PySem.W.Frag} {cn : Cn} {H : Hp} {f : Str} {d : D} : ∀ {k : Nat} {fs : List (Str × V)} {ns : List Str} {l : List D}, RpF K cn H fs ns l → ns[k]? = some f → l[k]? = some d → ∃ v, fs.lookup f = some v ∧ Rp K cn H v d
  | _, _, _, _, .nil, h, _ => by simp at h
  | 0, _, _, _, .cons a b t, h, h2 => by
    cases h
    cases h2
    exact ⟨_, a, b⟩
  | k + 1, _, _, _, .cons a b t, h, h2 => rpF_get (k := k) t h h2
/-- o.f, the k-th field of an object of the class c -/
def dFld (c k : Nat) (a : DE) : DE := fun δ N R Ex => a δ N (fun x N1 => match x with
  | .obj c' l => c' = c ∧ (match l[k]? with
    | some d => R d N1
    | none => False)
  | _ => False) Ex
theorem se_fld {c k : Nat} {f : Str} {C : Addr} {ta : TE} {a : DE} (hc : M.cn.cm c = some C) (hf : (M.cn.fn c)[k]? = some f) (cl : Cls M.K C) (na : NoAttr M.K C f) (ha : SE M ta a) : SE M (tFld M.K ta f) (dFld c k a) := fun σ H δ N Q R Ex w e h kk kx =>
  ha σ H δ N _ _ Ex w e h (fun v H1 x N1 w1 s1 r1 q1 => by
    split at q1
    · obtain ⟨rfl, q1⟩ := q1
      split at q1
      · rename_i d ed
        obtain ⟨b, C', dx, fs, rfl, e1, e2, nn, rf⟩ := rp_obj r1
        rw [hc] at e1
        cases e1
        obtain ⟨u, e3, r3⟩ := rpF_get rf hf ed
        exact ⟨b, C, dx, fs, u, rfl, gv_sub _ _ e2, cl, na, e3, kk u H1 d N1 w1 s1 r3 q1⟩
      · exact q1.elim
    · exact q1.elim) kx
/-- x is an object of the class c -/
def clsD (c : Nat) (x : D) (p : Prop) : Prop := match x with
  | .obj c' l => c' = c ∧ p
  | _ => False
theorem clsD_at {c : Nat} {C : Addr} {x : D} {p : Prop} {G : Hp} {v : V} (hc : M.cn.cm c = some C) (r : Rp M.K M.cn G v x) (h : clsD c x p) : p ∧ ∃ a dx fs, v = .ref a ∧ G a = some (.ins C dx fs) ∧ ∀ m, m ∉ M.cn.fn c → fs.lookup m = none := by
  unfold clsD at h
  split at h
  · obtain ⟨rfl, q⟩ := h
    obtain ⟨b, C', dx, fs, rfl, e1, e2, nn, rf⟩ := rp_obj r
    rw [hc] at e1
    cases e1
    exact ⟨q, b, dx, fs, rfl, e2, nn⟩
  · exact h.elim
def dMeth (c : Nat) (f : DFp) (o : DE) (a : DA) : DE := fun δ N R Ex => o δ N (fun x N1 => clsD c x (a δ N1 (fun ds N2 => f (x :: ds) (fun x => R x N2) (fun c x => Ex c x N2)) Ex)) Ex
def dMeth0 (c : Nat) (f : DFp) (o : DE) (a : DA) : DE := fun δ N R Ex => o δ N (fun x N1 => clsD c x (a δ N1 (fun ds N2 => f (x :: ds) (fun x => R x N2) (fun _ _ => False)) Ex)) Ex
theorem se_meth {c : Nat} {m : Str} {C : Addr} {f : DFp} {to : TE} {o : DE} {t : TA} {a : DA} {E : XK} (hc : M.cn.cm c = some C) (hm : m ∉ M.cn.fn c) (ho : SE M to o) (ha : SA M t a) (hE : ∀ c d σ H, M.W c d σ H → E c d H) : SE M (tMeth C m (spP M.K M.cn f) [] E to t) (dMeth c f o a) := fun σ H δ N Q R Ex w e h k kx =>
  ho σ H δ N _ _ Ex w e h (fun v H1 x N1 w1 s1 r1 q1 => by
    obtain ⟨q1, b, dx, fs, rfl, e2, nl⟩ := clsD_at hc r1 q1
    refine ⟨b, dx, fs, rfl, gv_sub _ _ e2, nl m hm, ?_⟩
    refine ha σ H1 δ N1 _ _ Ex w1 (e.mono s1) q1 (fun vs H2 ds N2 w2 s2 r2 q2 => ?_) (kx.mono s1)
    rw [List.append_nil]
    exact pure_sp w2 (.cons (r1.mono s2) r2) q2 (fun v H' x w3 s3 r3 q3 => k v H' x N2 w3 (s1.trans (s2.trans s3)) r3 q3) fun c C x dx H' hc w3 s3 xd qx => hE _ _ σ _ (kx c C x dx H' N2 hc w3 (s1.trans (s2.trans s3)) xd qx)) kx
theorem se_meth0 {c : Nat} {m : Str} {C : Addr} {f : DFp} {to : TE} {o : DE} {t : TA} {a : DA} {E : XK} (hc : M.cn.cm c = some C) (hm : m ∉ M.cn.fn c) (ho : SE M to o) (ha : SA M t a) : SE M (tMeth C m (spP M.K M.cn f) [] E to t) (dMeth0 c f o a) := fun σ H δ N Q R Ex w e h k kx =>
  ho σ H δ N _ _ Ex w e h (fun v H1 x N1 w1 s1 r1 q1 => by
    obtain ⟨q1, b, dx, fs, rfl, e2, nl⟩ := clsD_at hc r1 q1
    refine ⟨b, dx, fs, rfl, gv_sub _ _ e2, nl m hm, ?_⟩
    refine ha σ H1 δ N1 _ _ Ex w1 (e.mono s1) q1 (fun vs H2 ds N2 w2 s2 r2 q2 => ?_) (kx.mono s1)
    rw [List.append_nil]
    exact pure_sp w2 (.cons (r1.mono s2) r2) q2 (fun v H' x w3 s3 r3 q3 => k v H' x N2 w3 (s1.trans (s2.trans s3)) r3 q3) fun _ _ _ _ _ _ _ _ _ z => z.elim) kx
/-- o.p, a property -/
def dProp (c : Nat) (f : DFp) (o : DE) : DE := fun δ N R Ex => o δ N (fun x N1 => clsD c x (f [x] (fun x => R x N1) (fun _ _ => False))) Ex
theorem se_prop {c : Nat} {C : Addr} {f : DFp} {to : TE} {o : DE} {E : XK} (hc : M.cn.cm c = some C) (ho : SE M to o) : SE M (tProp C (spP M.K M.cn f) [] E to) (dProp c f o) := fun σ H δ N Q R Ex w e h k kx =>
  ho σ H δ N _ _ Ex w e h (fun v H1 x N1 w1 s1 r1 q1 => by
    obtain ⟨q1, b, dx, fs, rfl, e2, nl⟩ := clsD_at hc r1 q1
    exact ⟨b, dx, fs, rfl, gv_sub _ _ e2, pure_sp w1 (.cons r1 .nil) q1 (fun v H' x w3 s3 r3 q3 => k v H' x N1 w3 (s1.trans s3) r3 q3) fun _ _ _ _ _ _ _ _ _ z => z.elim⟩) kx
/-- d.get(k) -/
def isDD : D → Prop
  | .dk _ => True
  | .dt _ => True
  | _ => False
theorem isDD_at {H : Hp} {x : V} {d : D} (rx : Rp M.K M.cn H x d) (h : isDD d) : ∃ a, x = .ref a ∧ IsD H a := by
  cases d with
  | dk l =>
    obtain ⟨a, kvs, rfl, e1, q⟩ := rp_dk rx
    exact ⟨a, rfl, .inl ⟨kvs, e1⟩⟩
  | dt l =>
    obtain ⟨a, kvs, rfl, e1, q⟩ := rp_dt rx
    exact ⟨a, rfl, .inr ⟨kvs, e1⟩⟩
  | _ => exact h.elim
def dGet1 (o a : DE) : DE := fun δ N R Ex => o δ N (fun x N1 => isDD x ∧ a δ N1 (fun y N2 => dLook x y fun r => R (r.getD .non) N2) Ex) Ex
def dGet2 (o a b : DE) : DE := fun δ N R Ex => o δ N (fun x N1 => isDD x ∧ a δ N1 (fun y N2 => b δ N2 (fun z N3 => dLook x y fun r => R (r.getD z) N3) Ex) Ex) Ex
theorem dLook_isD {H : Hp} {x : V} {d e : D} {R : Option D → Prop} (rx : Rp M.K M.cn H x d) (h : dLook d e R) : ∃ a, x = .ref a ∧ IsD H a := by
  unfold dLook at h
  split at h
  · obtain ⟨a, kvs, rfl, e1, q⟩ := rp_dk rx
    exact ⟨a, rfl, .inl ⟨kvs, e1⟩⟩
  · obtain ⟨a, kvs, rfl, e1, q⟩ := rp_dk rx
    exact ⟨a, rfl, .inl ⟨kvs, e1⟩⟩
  · obtain ⟨a, kvs, rfl, e1, q⟩ := rp_dt rx
    exact ⟨a, rfl, .inr ⟨kvs, e1⟩⟩
  · exact h.elim
/-! joins, texts -/
def strR (x : D) (k : Str → Prop) : Prop := match x with
  | .str z => k z
  | _ => False
def dJoin (s a : DE) : DE := fun δ N R Ex => s δ N (fun x N1 => strR x fun z => a δ N1 (fun y N2 => match y with
  | .lst l => (match strsOf l with
    | some zs => (zs.map (·.length)).sum + zs.length * z.length ≤ 16777216 ∧ R (.str (Txt.join z zs)) N2
    | none => False)
  | _ => False) Ex) Ex
theorem strR_at {H : Hp} {v : V} {x : D} {k : Str → Prop} (r : Rp M.K M.cn H v x) (h : strR x k) : ∃ z, v = .str z ∧ OkS z ∧ k z := by
  unfold strR at h
  split at h
  · obtain ⟨rfl, o⟩ := rp_str r
    exact ⟨_, rfl, o, h⟩
  · exact h.elim
theorem okS_tjoin {sep : Str} (hs : OkS sep) {l : List Str} (h : ∀ z ∈ l, OkS z) : OkS (Txt.join sep l) := by
  rw [TL.join_eq]
  exact okS_join hs h
theorem se_join {to te : TE} {s a : DE} (ho : SE M to s) (he : SE M te a) : SE M (tM1 (fun x xs H Q => ∃ a p, ∃ ys : List Str, x = .str a ∧ xs = [.ref p] ∧ (SqL M.K H p (ys.map V.str) ∨ SqT M.K H p (ys.map V.str)) ∧
    (ys.map (·.length)).sum + ys.length * a.length ≤ 16777216 ∧ Q (.str (Txt.join a ys)) H) to te) (dJoin s a) := fun σ H δ N Q R Ex w e h k kx =>
  ho σ H δ N _ _ Ex w e h (fun v H1 x N1 w1 s1 r1 q1 => by
    obtain ⟨z, rfl, o, q1⟩ := strR_at r1 q1
    refine ⟨⟨z, rfl⟩, he σ H1 δ N1 _ _ Ex w1 (e.mono s1) q1 (fun u H2 y N2 w2 s2 r2 q2 => ?_) (kx.mono s1)⟩
    split at q2
    · split at q2
      · rename_i zs ez
        obtain ⟨a, ys, rfl, e3, r3⟩ := rp_lst r2
        obtain ⟨ev, oz⟩ := strsOf_v r3 ez
        subst ev
        exact ⟨z, a, zs, rfl, rfl, .inl (sq (gv_sub _ _ e3)), q2.1, k _ H2 _ N2 w2 (s1.trans s2) (.str _ (okS_tjoin o oz)) q2.2⟩
      · exact q2.elim
    · exact q2.elim) kx
end
end Dl

set_option Elab.async false
set_option linter.all false
set_option maxRecDepth 100000
set_option maxHeartbeats 2000000
namespace Dl
open PySem PySem.Spec PyProof.Rows L2 Rl Dr _root_.Tx Ex Er So Wi Vw
/-! ### statements framed -/
def endFr (D : Ends) (H : Hp) (hd : List Addr) : Ends := ⟨fun σ' H' => KeepT H H' ∧ ((∀ p ∈ hd, H' p = none) → D.nx σ' (puts H' H hd)), fun v H' => KeepT H H' ∧ ((∀ p ∈ hd, H' p = none) → D.rt v (puts H' H hd)),
  fun σ' H' => KeepT H H' ∧ ((∀ p ∈ hd, H' p = none) → D.bk σ' (puts H' H hd)), fun σ' H' => KeepT H H' ∧ ((∀ p ∈ hd, H' p = none) → D.ct σ' (puts H' H hd))⟩
abbrev psFr (t : TS) : TS := fun D σ H => ∃ hd, HidOk H hd ∧ t (endFr D H hd) σ (dels H hd)
theorem ps_frame {X : Cx} {st : Stmt} {t : TS} (h : PS X st t) : PS X st (psFr t) := ⟨fun pins s σ H D I ⟨hd, hh, q⟩ =>
  thn (h.run _ s σ _ _ (Inv.hide I hh) q) fun f s1 z => by
    cases f with
    | next =>
      obtain ⟨σ', H', I', kt, k⟩ := z
      obtain ⟨no, I2⟩ := Inv.unhide I hh kt I'
      exact ⟨σ', _, I2, k no⟩
    | brk =>
      obtain ⟨σ', H', I', kt, k⟩ := z
      obtain ⟨no, I2⟩ := Inv.unhide I hh kt I'
      exact ⟨σ', _, I2, k no⟩
    | cont =>
      obtain ⟨σ', H', I', kt, k⟩ := z
      obtain ⟨no, I2⟩ := Inv.unhide I hh kt I'
      exact ⟨σ', _, I2, k no⟩
    | ret u =>
      obtain ⟨v, σ', H', I', r, kt, k⟩ := z
      obtain ⟨no, I2⟩ := Inv.unhide I hh kt I'
      exact ⟨v, σ', _, I2, r, k no⟩⟩
/-! ### slots: unknown, a value, a thing of the def's own -/
inductive Sl where
  | no | v (d : D) | o (d : D)
def slD : Sl → Option D
  | .v d => some d
  | _ => none
def hideS (δ : List Sl) : DEnv := δ.map slD
def frz1 (δ : List Sl) (i : Nat) : List Sl := match δ[i]? with
  | some (.o d) => δ.set i (.v d)
  | _ => δ
def frz (r : List Nat) (δ : List Sl) : List Sl := r.foldl frz1 δ
def owns : L2.St → List Sl → List Addr
  | some (.ref p) :: σ, .o _ :: δ => p :: owns σ δ
  | _ :: σ, _ :: δ => owns σ δ
  | _, _ => []
theorem mem_owns {p : Addr} : ∀ {σ : L2.St} {δ : List Sl}, p ∈ owns σ δ ↔ ∃ (i : Nat) (d : D), δ[i]? = some (Sl.o d) ∧ σ[i]? = some (some (.ref p))
  | [], δ => by simp [owns]
  | x :: σ, [] => by simp [owns]
  | x :: σ, y :: δ => by
    have ih := mem_owns (p := p) (σ := σ) (δ := δ)
    have nxt : (∃ (i : Nat) (d : D), (y :: δ)[i]? = some (Sl.o d) ∧ (x :: σ)[i]? = some (some (.ref p))) ↔ (∃ d, y = Sl.o d ∧ x = some (.ref p)) ∨ p ∈ owns σ δ := by
      rw [ih]
      constructor
      · rintro ⟨i, d, h1, h2⟩
        cases i with
        | zero => exact .inl ⟨d, by simpa using h1, by simpa using h2⟩
        | succ i => exact .inr ⟨i, d, by simpa using h1, by simpa using h2⟩
      · rintro (⟨d, h1, h2⟩ | ⟨i, d, h1, h2⟩)
        · exact ⟨0, d, by simp [h1], by simp [h2]⟩
        · exact ⟨i + 1, d, by simpa using h1, by simpa using h2⟩
    rw [nxt]
    cases y with
    | no => cases x with
      | none => simp [owns]
      | some u => cases u <;> simp [owns]
    | v d => cases x with
      | none => simp [owns]
      | some u => cases u <;> simp [owns]
    | o d =>
      cases x with
      | none => simp [owns]
      | some u => cases u <;> simp [owns, eq_comm]
def OwR (K : PySem.W.Frag) (cn : Cn) (G : Hp) : HO → D → Prop
  | .lst xs, .lst ds => RpA K cn G xs ds
  | .dK kvs, .dk l => RpK K cn G kvs l
  | .dT kvs, .dt l => RpT K cn G kvs l
  | _, _ => False
section
variable {K : PySem.W.Frag} {cn : Cn} {G G' : Hp} {ho : HO} {d : D}
theorem OwR.plain (h : OwR K cn G ho d) : PlainO ho := by
  unfold OwR at h
  split at h <;> first | trivial | exact h.elim
theorem OwR.mono (h : OwR K cn G ho d) (s : Same G G') : OwR K cn G' ho d := by
  unfold OwR at h ⊢
  split at h
  · exact RpA.mono s h
  · exact RpK.mono s h
  · exact RpT.mono s h
  · exact h.elim
theorem OwR.rp {p : Addr} (h : OwR K cn G ho d) (e : G p = some ho) : Rp K cn G (.ref p) d := by
  unfold OwR at h
  split at h
  · exact .lst e h
  · exact .dk (.inl e) h
  · exact .dt (.inl e) h
  · exact h.elim
end
abbrev vis (H : Hp) (σ : L2.St) (δ : List Sl) : Hp := dels H (owns σ δ)
structure SI (M : Md) (G0 : Hp) (N : Nat) (H : Hp) (σ : L2.St) (δ : List Sl) : Prop where
  len : σ.length = δ.length
  wok : Wok M.m N (vis H σ δ)
  sub : Same G0 (Gv M.m (vis H σ δ))
  val : ∀ (i : Nat) (d : D), δ[i]? = some (Sl.v d) → ∃ v, σ[i]? = some (some v) ∧ Rp M.K M.cn (Gv M.m (vis H σ δ)) v d
  own : ∀ (i : Nat) (d : D), δ[i]? = some (Sl.o d) → ∃ p ho, σ[i]? = some (some (.ref p)) ∧ H p = some ho ∧ OwR M.K M.cn (Gv M.m (vis H σ δ)) ho d
  dis : ∀ (i j : Nat) (d e : D) (p : Addr), δ[i]? = some (Sl.o d) → δ[j]? = some (Sl.o e) → σ[i]? = some (some (.ref p)) → σ[j]? = some (some (.ref p)) → i = j
section
variable {M : Md} {G0 H H' : Hp} {N N' : Nat} {σ : L2.St} {δ : List Sl}
theorem SI.env (S : SI M G0 N H σ δ) : EnvR M (Gv M.m (vis H σ δ)) σ (hideS δ) := ⟨by rw [S.len]; unfold hideS; rw [List.length_map], fun i d h => by
  unfold hideS at h
  rw [List.getElem?_map] at h
  cases e : δ[i]? with
  | none =>
    rw [e] at h
    cases h
  | some y =>
    rw [e] at h
    cases y with
    | v d' =>
      cases h
      exact S.val i _ e
    | no => cases h
    | o d' => cases h⟩
theorem SI.hid (S : SI M G0 N H σ δ) : HidOk H (owns σ δ) := fun p hp => by
  obtain ⟨i, d, e1, e2⟩ := mem_owns.mp hp
  obtain ⟨q, ho, a, b, c⟩ := S.own i d e1
  rw [e2] at a
  cases a
  exact ⟨ho, b, c.plain⟩
theorem vis_sub : Same (Gv M.m (vis H σ δ)) H := fun a o e => dels_sub _ _ (gv_sub _ _ e)
theorem SI.G {G1 : Hp} (S : SI M G0 N H σ δ) (s : Same G1 G0) : SI M G1 N H σ δ := ⟨S.len, S.wok, s.trans S.sub, S.val, S.own, S.dis⟩
theorem SI.self (S : SI M G0 N H σ δ) : SI M (Gv M.m (vis H σ δ)) N H σ δ := ⟨S.len, S.wok, Same.refl _, S.val, S.own, S.dis⟩
theorem set_get {α : Type} {l : List α} {i j : Nat} {x y : α} (h : (l.set i x)[j]? = some y) : (i = j ∧ j < l.length ∧ y = x) ∨ (i ≠ j ∧ l[j]? = some y) := by
  by_cases c : i = j
  · subst c
    by_cases z : i < l.length
    · rw [List.getElem?_set_self z] at h
      exact .inl ⟨rfl, z, (Option.some.inj h).symm⟩
    · rw [List.getElem?_eq_none (by rw [List.length_set]; omega)] at h
      cases h
  · rw [List.getElem?_set_ne c] at h
    exact .inr ⟨c, h⟩
theorem get_lt {α : Type} {l : List α} {i : Nat} {x : α} (h : l[i]? = some x) : i < l.length := (List.getElem?_eq_some_iff.mp h).1
/-- one thing of its own is frozen: from then on it is a value -/
theorem SI.frz1 (S : SI M G0 N H σ δ) (i : Nat) : SI M G0 N H σ (frz1 δ i) ∧ Same (Gv M.m (vis H σ δ)) (Gv M.m (vis H σ (Dl.frz1 δ i))) := by
  unfold Dl.frz1
  split
  · rename_i d e
    obtain ⟨p, ho, a, b, c⟩ := S.own i d e
    have hi := get_lt e
    have mem : ∀ q, q ∈ owns σ (δ.set i (Sl.v d)) ↔ q ∈ owns σ δ ∧ q ≠ p := fun q => by
      rw [mem_owns, mem_owns]
      constructor
      · rintro ⟨j, d2, h1, h2⟩
        rcases set_get h1 with ⟨rfl, _, z⟩ | ⟨n, z⟩
        · cases z
        · refine ⟨⟨j, d2, z, h2⟩, fun y => ?_⟩
          subst y
          exact n (S.dis i j d d2 q e z a h2)
      · rintro ⟨⟨j, d2, h1, h2⟩, n⟩
        have c : i ≠ j := fun y => by
          subst y
          rw [a] at h2
          cases h2
          exact n rfl
        exact ⟨j, d2, by rw [List.getElem?_set_ne c]; exact h1, h2⟩
    have np : p ∈ owns σ δ := mem_owns.mpr ⟨i, d, e, a⟩
    have ev : vis H σ (δ.set i (Sl.v d)) = upd (vis H σ δ) p ho := by
      funext q
      unfold vis
      by_cases c1 : q = p
      · subst c1
        rw [upd_same, dels_out (fun z => ((mem q).mp z).2 rfl), b]
      · rw [upd_ne c1]
        by_cases c2 : q ∈ owns σ δ
        · rw [dels_in c2, dels_in ((mem q).mpr ⟨c2, c1⟩)]
        · rw [dels_out c2, dels_out fun z => c2 ((mem q).mp z).1]
    obtain ⟨w2, s2, e2⟩ := gv_new ho S.wok (dels_in (H := H) np)
    rw [← ev] at w2 s2 e2
    refine ⟨⟨by rw [List.length_set]; exact S.len, w2, S.sub.trans s2, fun j x h => ?_, fun j x h => ?_, fun j k x y q h1 h2 h3 h4 => ?_⟩, s2⟩
    · rcases set_get h with ⟨rfl, _, z⟩ | ⟨n, z⟩
      · cases z
        exact ⟨_, a, (c.mono s2).rp e2⟩
      · obtain ⟨v, h1, h2⟩ := S.val j x z
        exact ⟨v, h1, h2.mono s2⟩
    · rcases set_get h with ⟨rfl, _, z⟩ | ⟨n, z⟩
      · cases z
      · obtain ⟨q, hq, h1, h2, h3⟩ := S.own j x z
        exact ⟨q, hq, h1, h2, h3.mono s2⟩
    · rcases set_get h1 with ⟨rfl, _, z⟩ | ⟨n, z⟩
      · cases z
      · rcases set_get h2 with ⟨rfl, _, z2⟩ | ⟨n2, z2⟩
        · cases z2
        · exact S.dis j k x y q z z2 h3 h4
  · exact ⟨S, Same.refl _⟩
theorem SI.frz (r : List Nat) : ∀ {δ : List Sl}, SI M G0 N H σ δ → SI M G0 N H σ (frz r δ) ∧ Same (Gv M.m (vis H σ δ)) (Gv M.m (vis H σ (Dl.frz r δ))) := by
  induction r with
  | nil => exact fun S => ⟨S, Same.refl _⟩
  | cons i r ih =>
    intro δ S
    obtain ⟨S1, s1⟩ := S.frz1 i
    obtain ⟨S2, s2⟩ := ih S1
    exact ⟨S2, s1.trans s2⟩
theorem frz1_get {i j : Nat} {d : D} (h : (frz1 δ i)[j]? = some (Sl.o d)) : δ[j]? = some (Sl.o d) := by
  unfold frz1 at h
  split at h
  · rcases set_get h with ⟨rfl, _, z⟩ | ⟨n, z⟩
    · cases z
    · exact z
  · exact h
theorem frz_get {j : Nat} {d : D} : ∀ {r : List Nat} {δ : List Sl}, (frz r δ)[j]? = some (Sl.o d) → δ[j]? = some (Sl.o d)
  | [], _, h => h
  | i :: r, δ, h => frz1_get (frz_get (r := r) h)
theorem frz1_keep {i j : Nat} {y : Sl} (h : δ[j]? = some y) : (frz1 δ i)[j]? = some y ∨ ∃ d, y = Sl.o d ∧ (frz1 δ i)[j]? = some (Sl.v d) := by
  unfold frz1
  split
  · rename_i d e
    by_cases c : i = j
    · subst c
      rw [e] at h
      cases h
      exact .inr ⟨d, rfl, List.getElem?_set_self (get_lt e)⟩
    · exact .inl (by rw [List.getElem?_set_ne c]; exact h)
  · exact .inl h
theorem frz_keep {j : Nat} : ∀ {r : List Nat} {δ : List Sl} {y : Sl}, δ[j]? = some y → (frz r δ)[j]? = some y ∨ ∃ d, y = Sl.o d ∧ (frz r δ)[j]? = some (Sl.v d)
  | [], _, _, h => .inl h
  | i :: r, δ, y, h => by
    rcases frz1_keep (i := i) h with h1 | ⟨d, rfl, h1⟩
    · exact frz_keep (r := r) h1
    · rcases frz_keep (r := r) h1 with h2 | ⟨e, z, _⟩
      · exact .inr ⟨d, rfl, h2⟩
      · cases z
theorem frz_len : ∀ {r : List Nat} {δ : List Sl}, (frz r δ).length = δ.length
  | [], _ => rfl
  | i :: r, δ => by
    show (frz r (frz1 δ i)).length = _
    rw [frz_len]
    unfold frz1
    split
    · rw [List.length_set]
    · rfl
/-- behind a reading: with the read things frozen, and (where nothing of them is kept) as before -/
theorem SI.behind (S : SI M G0 N H σ δ) (r : List Nat) (hp : ∀ p ∈ owns σ (Dl.frz r δ), H' p = H p) (w : Wok M.m N' (dels H' (owns σ (Dl.frz r δ)))) (s : Same (Gv M.m (vis H σ (Dl.frz r δ))) (Gv M.m (dels H' (owns σ (Dl.frz r δ))))) :
    SI M G0 N' H' σ (Dl.frz r δ) ∧ SI M G0 N' H' σ δ ∧ Same (Gv M.m (vis H σ δ)) (Gv M.m (vis H' σ δ)) := by
  obtain ⟨F, sF⟩ := S.frz r
  have F' : SI M G0 N' H' σ (Dl.frz r δ) := ⟨F.len, w, F.sub.trans s, fun i d h => by
    obtain ⟨v, a, b⟩ := F.val i d h
    exact ⟨v, a, b.mono s⟩, fun i d h => by
    obtain ⟨p, ho, a, b, c⟩ := F.own i d h
    exact ⟨p, ho, a, by rw [hp p (mem_owns.mpr ⟨i, d, h, a⟩)]; exact b, c.mono s⟩, F.dis⟩
  have msub : ∀ p, p ∈ owns σ (Dl.frz r δ) → p ∈ owns σ δ := fun p h => by
    obtain ⟨i, d, a, b⟩ := mem_owns.mp h
    exact mem_owns.mpr ⟨i, d, frz_get a, b⟩
  -- every thing of its own still stands as it stood
  have at_ : ∀ i d, δ[i]? = some (Sl.o d) → ∃ (p : Addr) (ho : HO), σ[i]? = some (some (V.ref p)) ∧ H p = some ho ∧ H' p = some ho ∧ OwR M.K M.cn (Gv M.m (vis H σ δ)) ho d ∧ (p ∈ owns σ (Dl.frz r δ) ∨ ∃ o, Gv M.m (dels H' (owns σ (Dl.frz r δ))) p = some o) := fun i d h => by
    obtain ⟨p, ho, a, b, c⟩ := S.own i d h
    rcases frz_keep (r := r) h with h1 | ⟨d', z, h1⟩
    · have m : p ∈ owns σ (Dl.frz r δ) := mem_owns.mpr ⟨i, d, h1, a⟩
      exact ⟨p, ho, a, b, by rw [hp p m]; exact b, c, .inl m⟩
    · cases z
      obtain ⟨v, a2, r2⟩ := F.val i d h1
      rw [a] at a2
      cases a2
      have e2 : ∃ o, Gv M.m (vis H σ (Dl.frz r δ)) p = some o := by
        unfold OwR at c
        split at c
        · obtain ⟨q, xs, z, e, _⟩ := rp_lst r2
          cases z
          exact ⟨_, e⟩
        · obtain ⟨q, xs, z, e, _⟩ := rp_dk r2
          cases z
          rcases e with e | ⟨o, e⟩
          · exact ⟨_, e⟩
          · exact ⟨_, e⟩
        · obtain ⟨q, xs, z, e, _⟩ := rp_dt r2
          cases z
          rcases e with e | ⟨o, e⟩
          · exact ⟨_, e⟩
          · exact ⟨_, e⟩
        · exact c.elim
      obtain ⟨o, e2⟩ := e2
      have e3 : H p = some o := vis_sub _ _ e2
      rw [b] at e3
      cases e3
      exact ⟨p, ho, a, b, vis_sub (M := M) _ _ (s _ _ e2), c, .inr ⟨_, s _ _ e2⟩⟩
  let L := (owns σ δ).filter fun p => decide (p ∉ owns σ (Dl.frz r δ))
  have mL : ∀ p, p ∈ L ↔ p ∈ owns σ δ ∧ p ∉ owns σ (Dl.frz r δ) := fun p => by simp [L]
  have eL : dels H' (owns σ δ) = dels (dels H' (owns σ (Dl.frz r δ))) L := by
    funext a
    by_cases c : a ∈ owns σ δ
    · rw [dels_in c]
      by_cases c2 : a ∈ owns σ (Dl.frz r δ)
      · rw [dels_out fun z => ((mL a).mp z).2 c2, dels_in c2]
      · rw [dels_in ((mL a).mpr ⟨c, c2⟩)]
    · rw [dels_out c, dels_out fun z => c ((mL a).mp z).1, dels_out fun z => c (msub a z)]
  obtain ⟨w2, e2⟩ := wok_dels (l := L) w fun p hp => by
    obtain ⟨m1, m2⟩ := (mL p).mp hp
    obtain ⟨i, d, a, b⟩ := mem_owns.mp m1
    obtain ⟨q, ho, h1, h2, h3, h4, h5⟩ := at_ i d a
    rw [b] at h1
    cases h1
    exact h5.resolve_left m2
  have sG : Same (Gv M.m (vis H σ δ)) (Gv M.m (dels H' (owns σ δ))) := fun a o e => by
    have n : a ∉ L := fun z => by
      have m := ((mL a).mp z).1
      have : Gv M.m (vis H σ δ) a = none := gv_none (dels_in m)
      rw [this] at e
      cases e
    rw [eL, e2, dels_out n]
    exact s _ _ (sF _ _ e)
  refine ⟨F', ⟨S.len, by show Wok M.m N' (dels H' (owns σ δ)); rw [eL]; exact w2, S.sub.trans sG, fun i d h => ?_, fun i d h => ?_, S.dis⟩, sG⟩
  · obtain ⟨v, a, b⟩ := S.val i d h
    exact ⟨v, a, b.mono sG⟩
  · obtain ⟨p, ho, a, b, c, dd, _⟩ := at_ i d h
    exact ⟨p, ho, a, c, dd.mono sG⟩
/-- a value into a slot that holds nothing of its own -/
theorem SI.put {i : Nat} {v : V} {x : D} (S : SI M G0 N H σ δ) (hn : ∀ d, δ[i]? ≠ some (Sl.o d)) (r : Rp M.K M.cn (Gv M.m (vis H σ δ)) v x) : SI M G0 N H (σ.set i (some v)) (δ.set i (Sl.v x)) ∧ vis H (σ.set i (some v)) (δ.set i (Sl.v x)) = vis H σ δ := by
  have mem : ∀ q, q ∈ owns (σ.set i (some v)) (δ.set i (Sl.v x)) ↔ q ∈ owns σ δ := fun q => by
    rw [mem_owns, mem_owns]
    constructor
    · rintro ⟨j, d, h1, h2⟩
      rcases set_get h1 with ⟨rfl, _, z⟩ | ⟨n, z⟩
      · cases z
      · rw [List.getElem?_set_ne n] at h2
        exact ⟨j, d, z, h2⟩
    · rintro ⟨j, d, h1, h2⟩
      have n : i ≠ j := fun z => by
        subst z
        exact hn d h1
      exact ⟨j, d, by rw [List.getElem?_set_ne n]; exact h1, by rw [List.getElem?_set_ne n]; exact h2⟩
  have ev : vis H (σ.set i (some v)) (δ.set i (Sl.v x)) = vis H σ δ := by
    funext q
    unfold vis
    by_cases c : q ∈ owns σ δ
    · rw [dels_in c, dels_in ((mem q).mpr c)]
    · rw [dels_out c, dels_out fun z => c ((mem q).mp z)]
  refine ⟨⟨by rw [List.length_set, List.length_set]; exact S.len, by rw [ev]; exact S.wok, by rw [ev]; exact S.sub, fun j d h => ?_, fun j d h => ?_, fun j k d e p h1 h2 h3 h4 => ?_⟩, ev⟩
  · rw [ev]
    rcases set_get h with ⟨rfl, z1, z⟩ | ⟨n, z⟩
    · cases z
      exact ⟨v, List.getElem?_set_self (by rw [S.len]; exact z1), r⟩
    · obtain ⟨u, a, b⟩ := S.val j d z
      exact ⟨u, by rw [List.getElem?_set_ne n]; exact a, b⟩
  · rw [ev]
    rcases set_get h with ⟨rfl, z1, z⟩ | ⟨n, z⟩
    · cases z
    · obtain ⟨p, ho, a, b, c⟩ := S.own j d z
      exact ⟨p, ho, by rw [List.getElem?_set_ne n]; exact a, b, c⟩
  · rcases set_get h1 with ⟨rfl, z1, z⟩ | ⟨n, z⟩
    · cases z
    · rcases set_get h2 with ⟨rfl, z2, y⟩ | ⟨n2, y⟩
      · cases y
      · rw [List.getElem?_set_ne n] at h3
        rw [List.getElem?_set_ne n2] at h4
        exact S.dis j k d e p z y h3 h4
theorem frz1_no (i : Nat) : ∀ d, (frz1 δ i)[i]? ≠ some (Sl.o d) := fun d h => by
  unfold frz1 at h
  split at h
  · rename_i d' e
    rw [List.getElem?_set_self (get_lt e)] at h
    cases h
  · rename_i n
    exact n d h
theorem frz1_set {i : Nat} {y : Sl} : (frz1 δ i).set i y = δ.set i y := by
  unfold frz1
  split
  · rw [List.set_set]
  · rfl
/-- a value into any slot -/
theorem SI.set {i : Nat} {v : V} {x : D} (S : SI M G0 N H σ δ) (r : Rp M.K M.cn (Gv M.m (vis H σ δ)) v x) : SI M G0 N H (σ.set i (some v)) (δ.set i (Sl.v x)) := by
  obtain ⟨S1, s1⟩ := S.frz1 i
  have q := (S1.put (v := v) (x := x) (frz1_no i) (r.mono s1)).1
  rw [frz1_set] at q
  exact q
end
end Dl

set_option Elab.async false
set_option linter.all false
set_option maxRecDepth 100000
set_option maxHeartbeats 2000000
namespace Dl
open PySem PySem.Spec PyProof.Rows L2 Rl Dr _root_.Tx Ex Er So Wi Vw
structure DEnds where
  nx : List Sl → Nat → Prop
  rt : RK
  bk : List Sl → Nat → Prop
  ct : List Sl → Nat → Prop
  ex : Nat → D → DEnv → Nat → Prop
abbrev DS := DEnds → List Sl → Nat → Prop
structure EndR (M : Md) (G0 : Hp) (Dd : Ends) (E : DEnds) : Prop where
  nx : ∀ σ' H' δ' N', SI M G0 N' H' σ' δ' → E.nx δ' N' → Dd.nx σ' H'
  rt : ∀ v H' x N', Wok M.m N' H' → Same G0 (Gv M.m H') → Rp M.K M.cn (Gv M.m H') v x → E.rt x N' → Dd.rt v H'
  bk : ∀ σ' H' δ' N', SI M G0 N' H' σ' δ' → E.bk δ' N' → Dd.bk σ' H'
  ct : ∀ σ' H' δ' N', SI M G0 N' H' σ' δ' → E.ct δ' N' → Dd.ct σ' H'
  ex : ∀ c C x dx σ' H' δ' N', M.cn.xm c = some C → Wok M.m N' H' → Same G0 (Gv M.m H') → EnvR M (Gv M.m H') σ' δ' → XdR M (Gv M.m H') c dx x → E.ex c x δ' N' → M.W (.ref C) dx σ' H'
def SS (M : Md) (t : TS) (d : DS) : Prop := ∀ G0 Dd σ H δ N E, SI M G0 N H σ δ → d E δ N → EndR M G0 Dd E → t Dd σ H
theorem EndR.G {M : Md} {G0 G1 : Hp} {Dd : Ends} {E : DEnds} (h : EndR M G0 Dd E) (s : Same G0 G1) : EndR M G1 Dd E :=
  ⟨fun _ _ _ _ S => h.nx _ _ _ _ (S.G s), fun _ _ _ _ w t => h.rt _ _ _ _ w (s.trans t), fun _ _ _ _ S => h.bk _ _ _ _ (S.G s), fun _ _ _ _ S => h.ct _ _ _ _ (S.G s), fun _ _ _ _ _ _ _ _ a w t => h.ex _ _ _ _ _ _ _ _ a w (s.trans t)⟩
section
variable {M : Md}
def dNext : DS := fun E δ N => E.nx δ N
def dBreak : DS := fun E δ N => E.bk δ N
def dCont : DS := fun E δ N => E.ct δ N
def dSeqS (a b : DS) : DS := fun E δ N => a { E with nx := b E } δ N
theorem ss_next : SS M tNext dNext := fun G0 Dd σ H δ N E S h e => e.nx _ _ _ _ S h
theorem ss_break : SS M tBreak dBreak := fun G0 Dd σ H δ N E S h e => e.bk _ _ _ _ S h
theorem ss_cont : SS M tCont dCont := fun G0 Dd σ H δ N E S h e => e.ct _ _ _ _ S h
theorem ss_seq {t u : TS} {a b : DS} (ha : SS M t a) (hb : SS M u b) : SS M (tSeq t u) (dSeqS a b) := fun G0 Dd σ H δ N E S h e =>
  ha G0 _ σ H δ N _ S h ⟨fun σ' H' δ' N' S' q => hb G0 Dd σ' H' δ' N' E S' q e, e.rt, e.bk, e.ct, e.ex⟩
/-- an expression within a statement -/
theorem ev_x {G0 H : Hp} {Dd : Ends} {E : DEnds} {σ : L2.St} {δ : List Sl} {N : Nat} (S : SI M G0 N H σ δ) (e : EndR M G0 Dd E) : XOk M σ (vis H σ δ) (fun c x N' => E.ex c x (hideS δ) N') := fun c C x dx H' N' a w s xd q =>
  e.ex c C x dx σ H' _ N' a w (S.sub.trans s) (S.env.mono s) xd q
theorem ev_e {te : TE} {de : DE} (h : SE M te de) {G0 H : Hp} {Dd : Ends} {E : DEnds} {σ : L2.St} {δ : List Sl} {N : Nat} {Q : VK} {R : RK} (r : List Nat) (S : SI M G0 N H σ δ) (e : EndR M G0 Dd E) (q : de (hideS (frz r δ)) N R (fun c x N' => E.ex c x (hideS (frz r δ)) N'))
    (k : ∀ v H' x N', SI M G0 N' H' σ (frz r δ) → SI M G0 N' H' σ δ → Rp M.K M.cn (Gv M.m (vis H' σ (frz r δ))) v x → R x N' → Q v H') : tFr te σ H Q := by
  obtain ⟨F, _⟩ := S.frz r
  refine fr_e h F.hid F.wok F.env q (fun v H' x N' hp w s rx qx => ?_) (ev_x F e)
  obtain ⟨F', S', _⟩ := S.behind r hp w s
  exact k v H' x N' F' S' rx qx
theorem ev_t {tt : TT} {dt : DT} (h : ST M tt dt) {G0 H : Hp} {Dd : Ends} {E : DEnds} {σ : L2.St} {δ : List Sl} {N : Nat} {Q : Bool → Hp → Prop} {R : Bool → Nat → Prop} (r : List Nat) (S : SI M G0 N H σ δ) (e : EndR M G0 Dd E) (q : dt (hideS (frz r δ)) N R (fun c x N' => E.ex c x (hideS (frz r δ)) N'))
    (k : ∀ b H' N', SI M G0 N' H' σ δ → R b N' → Q b H') : ttFr tt σ H Q := by
  obtain ⟨F, _⟩ := S.frz r
  refine fr_t h F.hid F.wok F.env q (fun b H' N' hp w s qx => ?_) (ev_x F e)
  obtain ⟨F', S', _⟩ := S.behind r hp w s
  exact k b H' N' S' qx
theorem ev_i {wi : TI} {it : DIt} (h : SIt M wi it) {G0 H : Hp} {Dd : Ends} {E : DEnds} {σ : L2.St} {δ : List Sl} {N : Nat} {Q : It → Hp → Prop} {R : List D → Nat → Prop} (r : List Nat) (S : SI M G0 N H σ δ) (e : EndR M G0 Dd E) (q : it (hideS (frz r δ)) N R (fun c x N' => E.ex c x (hideS (frz r δ)) N'))
    (k : ∀ J H' items N', SI M G0 N' H' σ (frz r δ) → WalkD M (Gv M.m (vis H' σ (frz r δ))) J items → R items N' → Q J H') : tiFr wi σ H Q := by
  obtain ⟨F, _⟩ := S.frz r
  refine fr_i h F.hid F.wok F.env q (fun J H' items N' hp w s W qx => ?_) (ev_x F e)
  obtain ⟨F', S', _⟩ := S.behind r hp w s
  exact k J H' items N' F' W qx
/-- what is kept frozen of what was read for a value -/
def keepO (r : List Nat) (x : D) (δ : List Sl) : List Sl := if flatD x = true then δ else frz r δ
theorem rp_any {K : PySem.W.Frag} {cn : Cn} {H H' : Hp} {v : V} {d : D} (r : Rp K cn H v d) (h : flatD d = true) : Rp K cn H' v d := by
  cases r with
  | non => exact .non
  | bl b => exact .bl b
  | int i => exact .int i
  | str x o => exact .str x o
  | _ => cases h
theorem keep_at {G0 H : Hp} {σ : L2.St} {δ : List Sl} {N : Nat} {r : List Nat} {v : V} {x : D} (F : SI M G0 N H σ (frz r δ)) (S : SI M G0 N H σ δ) (rx : Rp M.K M.cn (Gv M.m (vis H σ (frz r δ))) v x) : SI M G0 N H σ (keepO r x δ) ∧ Rp M.K M.cn (Gv M.m (vis H σ (keepO r x δ))) v x := by
  unfold keepO
  by_cases c : flatD x = true
  · rw [if_pos c]
    exact ⟨S, rp_any rx c⟩
  · rw [if_neg c]
    exact ⟨F, rx⟩
/-! expression, return -/
def dExpr (r : List Nat) (de : DE) : DS := fun E δ N => de (hideS (frz r δ)) N (fun _ N' => E.nx δ N') (fun c x N' => E.ex c x (hideS (frz r δ)) N')
def dRet (r : List Nat) (de : DE) : DS := fun E δ N => de (hideS (frz r δ)) N E.rt (fun c x N' => E.ex c x (hideS (frz r δ)) N')
def dRetN : DS := fun E δ N => E.rt .non N
theorem ss_expr {te : TE} {de : DE} (r : List Nat) (h : SE M te de) : SS M (tDrop (tFr te)) (dExpr r de) := fun G0 Dd σ H δ N E S q e =>
  ev_e h r S e q fun v H' x N' F' S' rx qx => e.nx _ _ _ _ S' qx
theorem ss_ret {te : TE} {de : DE} (r : List Nat) (h : SE M te de) : SS M (tRet (tFr te)) (dRet r de) := fun G0 Dd σ H δ N E S q e =>
  ev_e h r S e q fun v H' x N' F' S' rx qx => by
    obtain ⟨w, s⟩ := wok_of_dels F'.wok
    exact e.rt v H' x N' w (F'.sub.trans s) (rx.mono s) qx
theorem ss_retN : SS M tRetN dRetN := fun G0 Dd σ H δ N E S q e => by
  obtain ⟨w, s⟩ := wok_of_dels S.wok
  exact e.rt .non H .non N w (S.sub.trans s) .non q
/-! name = value -/
def dSet (r : List Nat) (i : Nat) (de : DE) : DS := fun E δ N => de (hideS (frz r δ)) N (fun x N' => E.nx ((keepO r x δ).set i (.v x)) N') (fun c x N' => E.ex c x (hideS (frz r δ)) N')
theorem ss_set {te : TE} {de : DE} (r : List Nat) (i : Nat) (h : SE M te de) : SS M (psFr (tAsg te (gName i))) (dSet r i de) := fun G0 Dd σ H δ N E S q e => by
  show tFr te σ H (fun v H' => Dd.nx (σ.set i (some v)) H')
  exact ev_e h r S e q fun v H' x N' F' S' rx qx => by
    obtain ⟨K, rk⟩ := keep_at F' S' rx
    exact e.nx _ _ _ _ (K.set rk) qx
/-! a, b = value -/
def upS (vs : List Nat) (δ' : DEnv) (δ : List Sl) : List Sl := vs.foldl (fun δ i => match δ'[i]? with
  | some (some d) => δ.set i (.v d)
  | _ => δ.set i .no) δ
def noOwn (vs : List Nat) (δ : List Sl) : Prop := ∀ i ∈ vs, match δ[i]? with
  | some (.o _) => False
  | _ => True
theorem SI.putNo {G0 H : Hp} {σ : L2.St} {δ : List Sl} {N : Nat} {i : Nat} (u : Option V) (S : SI M G0 N H σ δ) (hn : ∀ d, δ[i]? ≠ some (Sl.o d)) : SI M G0 N H (σ.set i u) (δ.set i Sl.no) ∧ vis H (σ.set i u) (δ.set i Sl.no) = vis H σ δ := by
  have mem : ∀ q, q ∈ owns (σ.set i u) (δ.set i Sl.no) ↔ q ∈ owns σ δ := fun q => by
    rw [mem_owns, mem_owns]
    constructor
    · rintro ⟨j, d, h1, h2⟩
      rcases set_get h1 with ⟨rfl, _, z⟩ | ⟨n, z⟩
      · cases z
      · rw [List.getElem?_set_ne n] at h2
        exact ⟨j, d, z, h2⟩
    · rintro ⟨j, d, h1, h2⟩
      have n : i ≠ j := fun z => by
        subst z
        exact hn d h1
      exact ⟨j, d, by rw [List.getElem?_set_ne n]; exact h1, by rw [List.getElem?_set_ne n]; exact h2⟩
  have ev : vis H (σ.set i u) (δ.set i Sl.no) = vis H σ δ := by
    funext q
    unfold vis
    by_cases c : q ∈ owns σ δ
    · rw [dels_in c, dels_in ((mem q).mpr c)]
    · rw [dels_out c, dels_out fun z => c ((mem q).mp z)]
  refine ⟨⟨by rw [List.length_set, List.length_set]; exact S.len, by rw [ev]; exact S.wok, by rw [ev]; exact S.sub, fun j d h => ?_, fun j d h => ?_, fun j k d e p h1 h2 h3 h4 => ?_⟩, ev⟩
  · rw [ev]
    rcases set_get h with ⟨rfl, z1, z⟩ | ⟨n, z⟩
    · cases z
    · obtain ⟨u, a, b⟩ := S.val j d z
      exact ⟨u, by rw [List.getElem?_set_ne n]; exact a, b⟩
  · rw [ev]
    rcases set_get h with ⟨rfl, z1, z⟩ | ⟨n, z⟩
    · cases z
    · obtain ⟨p, ho, a, b, c⟩ := S.own j d z
      exact ⟨p, ho, by rw [List.getElem?_set_ne n]; exact a, b, c⟩
  · rcases set_get h1 with ⟨rfl, z1, z⟩ | ⟨n, z⟩
    · cases z
    · rcases set_get h2 with ⟨rfl, z2, y⟩ | ⟨n2, y⟩
      · cases y
      · rw [List.getElem?_set_ne n] at h3
        rw [List.getElem?_set_ne n2] at h4
        exact S.dis j k d e p z y h3 h4
theorem noOwn_at {vs : List Nat} {δ : List Sl} (h : noOwn vs δ) {i : Nat} (hi : i ∈ vs) : ∀ d, δ[i]? ≠ some (Sl.o d) := fun d e => by
  have := h i hi
  rw [e] at this
  exact this
/-- slots stored from a reading of the target -/
theorem SI.up {G0 H : Hp} {σ' : L2.St} {δ' : DEnv} {N : Nat} : ∀ {vs : List Nat} {σ : L2.St} {δ : List Sl}, SI M G0 N H σ δ → noOwn vs δ → σ'.length = σ.length → EnvR M (Gv M.m (vis H σ δ)) σ' δ' → (∀ i, i ∉ vs → σ'[i]? = σ[i]?) → SI M G0 N H σ' (upS vs δ' δ)
  | [], σ, δ, S, _, l, e, o => by
    have es : σ' = σ := List.ext_getElem? fun i => o i (by simp)
    subst es
    exact S
  | i :: vs, σ, δ, S, n, l, e, o => by
    have nn : ∀ (y : Sl), (∀ d, y ≠ Sl.o d) → noOwn vs (δ.set i y) := fun y hy j hj => by
      have := n j (List.mem_cons_of_mem _ hj)
      cases c : (δ.set i y)[j]? with
      | none => trivial
      | some z =>
        cases z with
        | o d =>
          rcases set_get c with ⟨rfl, _, z⟩ | ⟨n1, z⟩
          · exact hy d z.symm
          · rw [z] at this
            exact this
        | _ => trivial
    show SI M G0 N H σ' (upS vs δ' (match δ'[i]? with | some (some d) => δ.set i (.v d) | _ => δ.set i .no))
    split
    · rename_i d ed
      obtain ⟨v, a, r⟩ := e.2 i d ed
      obtain ⟨S1, ev⟩ := S.put (v := v) (x := d) (noOwn_at (i := i) n (by simp)) r
      refine SI.up S1 (nn _ fun d z => by cases z) (by rw [List.length_set]; exact l) (by rw [ev]; exact e) fun j hj => ?_
      by_cases c : i = j
      · subst c
        rw [a, List.getElem?_set_self (by rw [← l]; exact get_lt a)]
      · rw [List.getElem?_set_ne c]
        exact o j fun z => by
          rcases List.mem_cons.mp z with z | z
          · exact c z.symm
          · exact hj z
    · obtain ⟨S1, ev⟩ := S.putNo (i := i) ((σ'[i]?).getD none) (noOwn_at (i := i) n (by simp))
      refine SI.up S1 (nn _ fun d z => by cases z) (by rw [List.length_set]; exact l) (by rw [ev]; exact e) fun j hj => ?_
      by_cases c : i = j
      · subst c
        by_cases z : i < σ'.length
        · rw [List.getElem?_set_self (by rw [← l]; exact z), List.getElem?_eq_getElem z]
          rfl
        · rw [List.getElem?_eq_none (by omega), List.getElem?_eq_none (by rw [List.length_set]; omega)]
      · rw [List.getElem?_set_ne c]
        exact o j fun z => by
          rcases List.mem_cons.mp z with z | z
          · exact c z.symm
          · exact hj z
def dAsg (r : List Nat) (vs : List Nat) (g : DG) (de : DE) : DS := fun E δ N => de (hideS (frz r δ)) N (fun x N' => g x (hideS (frz r δ)) fun δ' => noOwn vs (frz r δ) ∧ E.nx (upS vs δ' (frz r δ)) N') (fun c x N' => E.ex c x (hideS (frz r δ)) N')
theorem ss_asg {te : TE} {de : DE} {g : TG} {dg : DG} {vs : List Nat} (r : List Nat) (h : SE M te de) (hg : SG M vs g dg) : SS M (psFr (tAsg te g)) (dAsg r vs dg de) := fun G0 Dd σ H δ N E S q e => by
  obtain ⟨F, _⟩ := S.frz r
  refine ⟨owns σ (frz r δ), F.hid, h σ _ _ N _ _ _ F.wok F.env q (fun v H1 x N1 w1 s1 r1 q1 => ?_) (ev_x F e)⟩
  refine hg v x σ H1 (Gv M.m H1) _ _ _ gv_sub r1 (F.env.mono s1) q1 fun σ' δ' l1 l2 o1 e1 q2 => ⟨keepT_dels F.hid (keepT F.wok s1), fun no => ?_⟩
  have z := dels_puts (H := H) no
  obtain ⟨F', S', _⟩ := S.behind (H' := puts H1 H (owns σ (frz r δ))) r (fun p hp => puts_in hp) (by rw [z]; exact w1) (by rw [z]; exact s1)
  exact e.nx _ _ _ _ (F'.up q2.1 l1 (by show EnvR M (Gv M.m (dels _ _)) _ _; rw [z]; exact e1) fun i hi => (o1 i hi).1) q2.2
/-! if -/
def dIfS (r : List Nat) (c : DT) (a b : DS) : DS := fun E δ N => c (hideS (frz r δ)) N (fun z N' => if z = true then a E δ N' else b E δ N') (fun c x N' => E.ex c x (hideS (frz r δ)) N')
theorem ss_if {tc : TT} {ta tb : TS} {c : DT} {a b : DS} (r : List Nat) (hc : ST M tc c) (ha : SS M ta a) (hb : SS M tb b) : SS M (tIfS (ttFr tc) ta tb) (dIfS r c a b) := fun G0 Dd σ H δ N E S q e => by
  show ttFr tc σ H (fun z H1 => if z = true then ta Dd σ H1 else tb Dd σ H1)
  exact ev_t hc r S e q fun z H' N' S' qx => by
    by_cases c0 : z = true
    · rw [if_pos c0] at qx ⊢
      exact ha G0 Dd σ H' δ N' E S' qx e
    · rw [if_neg c0] at qx ⊢
      exact hb G0 Dd σ H' δ N' E S' qx e
/-! for -/
def forGo (vs : List Nat) (g : DG) (b : DS) (E : DEnds) : List D → List Sl → Nat → Prop
  | [], δ, N => E.nx δ N
  | x :: r, δ, N => g x (hideS δ) fun δ' => noOwn vs δ ∧ b { E with nx := forGo vs g b E r, ct := forGo vs g b E r, bk := E.nx } (upS vs δ' δ) N
def dFor (r : List Nat) (it : DIt) (vs : List Nat) (g : DG) (b : DS) : DS := fun E δ N => it (hideS (frz r δ)) N (fun items N' => forGo vs g b E items (frz r δ) N') (fun c x N' => E.ex c x (hideS (frz r δ)) N')
theorem for_go {g : TG} {tb : TS} {dg : DG} {b : DS} {vs : List Nat} (hg : SG M vs g dg) (hb : SS M tb b) {G0 G1 H : Hp} {Dd : Ends} {E : DEnds} {σ : L2.St} {δ : List Sl} {N : Nat} {J : It} {items : List D} (S : SI M G1 N H σ δ) (W : WalkD M G1 J items) (s01 : Same G0 G1)
    (q : forGo vs dg b E items δ N) (e : EndR M G0 Dd E) : ∃ W : Nat → Nat → L2.St → Hp → Prop, (∃ m, W 0 m σ H) ∧ ∀ i m σ H, W i m σ H → (J.stop i H ∧ Dd.nx σ H) ∨ (J.go i H ∧ ∃ N : L2.St → Hp → Prop, (∀ σ' H', N σ' H' → ∃ m', m' < m ∧ W (i + 1) m' σ' H') ∧ ∀ x H', J.yld i H x H' → g x σ H' fun σ2 H2 => tb { Dd with nx := N, ct := N, bk := Dd.nx } σ2 H2) := by
  refine ⟨fun i mm σ H => ∃ δ N, mm = items.length - i ∧ i ≤ items.length ∧ SI M G1 N H σ δ ∧ forGo vs dg b E (items.drop i) δ N, ⟨items.length, δ, N, rfl, Nat.zero_le _, S, q⟩, ?_⟩
  rintro i mm σ2 H2 ⟨δ2, N2, rfl, hi, S2, q2⟩
  have W2 := W.mono S2.sub
  by_cases hlt : i < items.length
  · refine .inr ⟨W2.go i H2 hlt vis_sub, fun σ H => ∃ δ N, SI M G1 N H σ δ ∧ forGo vs dg b E (items.drop (i + 1)) δ N, fun σ' H' ⟨δ', N', a, b⟩ => ⟨items.length - (i + 1), by omega, δ', N', rfl, hlt, a, b⟩, fun x H3 y => ?_⟩
    obtain ⟨d, ed, hp, hh, w3, s3, r3⟩ := yld_aside W2 hlt S2.hid S2.wok (Same.refl _) y
    have S3 : SI M G1 N2 H3 σ2 δ2 := ⟨S2.len, w3, S2.sub.trans s3, fun i d h => by
      obtain ⟨v, a, b⟩ := S2.val i d h
      exact ⟨v, a, b.mono s3⟩, fun i d h => by
      obtain ⟨p, ho, a, b, c⟩ := S2.own i d h
      exact ⟨p, ho, a, by rw [hp p (mem_owns.mpr ⟨i, d, h, a⟩)]; exact b, c.mono s3⟩, S2.dis⟩
    rw [List.drop_eq_getElem_cons hlt] at q2
    have ed' : items[i] = d := by
      rw [List.getElem?_eq_getElem hlt] at ed
      exact Option.some.inj ed
    rw [ed'] at q2
    refine hg x d σ2 H3 _ (hideS δ2) _ _ vis_sub r3 S3.env q2 fun σ' δ' l1 l2 o1 e1 q3 => ?_
    have S4 := S3.up q3.1 l1 e1 fun i hi => (o1 i hi).1
    exact hb G1 _ σ' H3 _ N2 _ S4 q3.2 ⟨fun σ5 H5 δ5 N5 S5 q5 => ⟨δ5, N5, S5, q5⟩, (e.G s01).rt, fun σ5 H5 δ5 N5 S5 q5 => e.nx _ _ _ _ (S5.G s01) q5, fun σ5 H5 δ5 N5 S5 q5 => ⟨δ5, N5, S5, q5⟩, (e.G s01).ex⟩
  · have ei : i = items.length := by omega
    subst ei
    rw [List.drop_length] at q2
    exact .inl ⟨W2.stop H2 vis_sub, e.nx _ _ _ _ (S2.G s01) q2⟩
theorem ss_for {wi : TI} {it : DIt} {g : TG} {dg : DG} {tb : TS} {b : DS} {vs : List Nat} (r : List Nat) (hi : SIt M wi it) (hg : SG M vs g dg) (hb : SS M tb b) : SS M (tFor (tiFr wi) g tb) (dFor r it vs dg b) := fun G0 Dd σ H δ N E S q e =>
  ev_i hi r S e q fun J H' items N' F' W qx => for_go hg hb F'.self W F'.sub qx e
/-- over a range: what was read for its ends is as before -/
def SItR (M : Md) (wi : TI) (d : DIt) : Prop := ∀ σ H δ N (Rt : It → Hp → Prop) R Ex, Wok M.m N H → EnvR M (Gv M.m H) σ δ → d δ N R Ex →
  (∀ J H' items N', Wok M.m N' H' → Same (Gv M.m H) (Gv M.m H') → (∀ G, WalkD M G J items) → R items N' → Rt J H') → XOk M σ H Ex → wi σ H Rt
theorem sir_rng1 {ta : TA} {a : DA} (h : SA M ta a) : SItR M (iRng1 ta) (dRng1 a) := fun σ H δ N Rt R Ex w e q k kx =>
  h σ H δ N _ _ Ex w e q (fun vs H1 xs N1 w1 s1 r1 q1 => by
    split at q1
    · rename_i j
      cases r1 with | cons r0 rt => ?_
      cases rt
      rw [rp_int r0]
      exact ⟨j, rfl, by omega, by omega, k _ H1 _ N1 w1 s1 (fun G => walk_rng (by have := sizeLine_eq; omega)) q1.2⟩
    · exact q1.elim) kx
def dForR (r : List Nat) (it : DIt) (vs : List Nat) (g : DG) (b : DS) : DS := fun E δ N => it (hideS (frz r δ)) N (fun items N' => forGo vs g b E items δ N') (fun c x N' => E.ex c x (hideS (frz r δ)) N')
theorem ss_forR {wi : TI} {it : DIt} {g : TG} {dg : DG} {tb : TS} {b : DS} {vs : List Nat} (r : List Nat) (hi : SItR M wi it) (hg : SG M vs g dg) (hb : SS M tb b) : SS M (tFor (tiFr wi) g tb) (dForR r it vs dg b) := fun G0 Dd σ H δ N E S q e => by
  obtain ⟨F, _⟩ := S.frz r
  refine ⟨owns σ (frz r δ), F.hid, hi σ _ _ N _ _ _ F.wok F.env q (fun J H1 items N1 w1 s1 W q1 => ⟨keepT_dels F.hid (keepT F.wok s1), fun no => ?_⟩) (ev_x F e)⟩
  have z := dels_puts (H := H) no
  obtain ⟨F', S', _⟩ := S.behind (H' := puts H1 H (owns σ (frz r δ))) r (fun p hp => puts_in hp) (by rw [z]; exact w1) (by rw [z]; exact s1)
  exact for_go hg hb S'.self (W _) S'.sub q1 e
/-! while: some number of turns is enough -/
def whGo (r : List Nat) (c : DT) (b : DS) (E : DEnds) : Nat → List Sl → Nat → Prop
  | 0, _, _ => False
  | k + 1, δ, N => c (hideS (frz r δ)) N (fun z N' => if z = true then b { E with nx := whGo r c b E k, ct := whGo r c b E k, bk := E.nx } δ N' else E.nx δ N') (fun c x N' => E.ex c x (hideS (frz r δ)) N')
def dWhile (r : List Nat) (c : DT) (b : DS) : DS := fun E δ N => ∃ k, whGo r c b E k δ N
theorem ss_while {tc : TT} {tb : TS} {c : DT} {b : DS} (r : List Nat) (hc : ST M tc c) (hb : SS M tb b) : SS M (tWhile (ttFr tc) tb) (dWhile r c b) := fun G0 Dd σ H δ N E S ⟨k0, q⟩ e => by
  refine ⟨fun k σ H => ∃ δ N, SI M G0 N H σ δ ∧ whGo r c b E k δ N, ⟨k0, δ, N, S, q⟩, ?_⟩
  rintro k σ2 H2 ⟨δ2, N2, S2, q2⟩
  cases k with
  | zero => exact q2.elim
  | succ k =>
    exact ev_t hc r S2 e q2 fun z H' N' S' qx => by
      by_cases c0 : z = true
      · rw [if_pos c0] at qx ⊢
        refine ⟨fun σ H => ∃ δ N, SI M G0 N H σ δ ∧ whGo r c b E k δ N, fun σ' H' h => ⟨k, Nat.lt_succ_self _, h⟩, ?_⟩
        exact hb G0 _ σ2 H' δ2 N' _ S' qx ⟨fun σ5 H5 δ5 N5 S5 q5 => ⟨δ5, N5, S5, q5⟩, e.rt, e.nx, fun σ5 H5 δ5 N5 S5 q5 => ⟨δ5, N5, S5, q5⟩, e.ex⟩
      · rw [if_neg c0] at qx ⊢
        exact e.nx _ _ _ _ S' qx
end
end Dl

set_option Elab.async false
set_option linter.all false
set_option maxRecDepth 100000
set_option maxHeartbeats 2000000
namespace Dl
open PySem PySem.Spec PyProof.Rows L2 Rl Dr _root_.Tx Ex Er So Wi Vw
section
variable {M : Md}
/-! ### readings that make a thing of one's own -/
def SEF (M : Md) (t : TE) (d : DE) : Prop := ∀ σ H δ N Q R Ex, Wok M.m N H → EnvR M (Gv M.m H) σ δ → d δ N R Ex →
  (∀ p ho H' x N', H' p = some ho → Wok M.m N' (dels H' [p]) → Same (Gv M.m H) (Gv M.m (dels H' [p])) → OwR M.K M.cn (Gv M.m (dels H' [p])) ho x → R x N' → Q (.ref p) H') → XOk M σ H Ex → t σ H Q
theorem sef_lst {t : TA} {a : DA} (h : SA M t a) : SEF M (tLst t) (dLst a) := fun σ H δ N Q R Ex w e q k kx =>
  h σ H δ N _ _ Ex w e q (fun vs H1 xs N1 w1 s1 r1 q1 => ⟨by rw [r1.length]; exact q1.1, fun p np => by
    have z : dels (upd H1 p (.lst vs)) [p] = H1 := by rw [dels_upd, dels_free np]
    exact k p (.lst vs) _ (.lst xs) N1 upd_same (by rw [z]; exact w1) (by rw [z]; exact s1) (by rw [z]; exact r1) q1.2⟩) kx
def dNewK : DE := fun _ N R _ => R (.dk []) N
def dNewT : DE := fun _ N R _ => R (.dt []) N
theorem sef_newK : SEF M tDNewK dNewK := fun σ H δ N Q R Ex w e q k kx p np => by
  have z : dels (upd H p (.dK [])) [p] = H := by rw [dels_upd, dels_free np]
  exact k p (.dK []) _ (.dk []) N upd_same (by rw [z]; exact w) (by rw [z]; exact Same.refl _) (by rw [z]; exact .nil) q
theorem sef_newT : SEF M tDNewT dNewT := fun σ H δ N Q R Ex w e q k kx p np => by
  have z : dels (upd H p (.dT [])) [p] = H := by rw [dels_upd, dels_free np]
  exact k p (.dT []) _ (.dt []) N upd_same (by rw [z]; exact w) (by rw [z]; exact Same.refl _) (by rw [z]; exact .nil) q
theorem se_newK : SE M tDNewK dNewK := fun σ H δ N Q R Ex w e q k kx p np => by
  obtain ⟨w4, s4, e4⟩ := gv_new (.dK []) w np
  exact k _ _ _ N w4 s4 (.dk (.inl e4) .nil) q
def SCF (M : Md) (r : List V → Hp → VK → Prop) (o : DF0) : Prop := ∀ xs ds H N Q R, Wok M.m N H → RpA M.K M.cn (Gv M.m H) xs ds → o ds R →
  (∀ p ho H' z, H' p = some ho → Wok M.m N (dels H' [p]) → Same (Gv M.m H) (Gv M.m (dels H' [p])) → OwR M.K M.cn (Gv M.m (dels H' [p])) ho z → R z → Q (.ref p) H') → r xs H Q
theorem sef_cb {r : List V → Hp → VK → Prop} {o : DF0} {t : TA} {a : DA} (hr : SCF M r o) (ha : SA M t a) : SEF M (tCB r t) (dCB o a) := fun σ H δ N Q R Ex w e h k kx =>
  ha σ H δ N _ _ Ex w e h (fun vs H1 xs N1 w1 s1 r1 q1 => hr vs xs H1 N1 _ _ w1 r1 q1 fun p ho H' z a b c d f => k p ho H' z N1 a b (s1.trans c) d f) kx
theorem own_new {H : Hp} {N : Nat} {p : Addr} {ho : HO} (w : Wok M.m N H) (np : H p = none) : upd H p ho p = some ho ∧ Wok M.m N (dels (upd H p ho) [p]) ∧ Same (Gv M.m H) (Gv M.m (dels (upd H p ho) [p])) := by
  have z : dels (upd H p ho) [p] = H := by rw [dels_upd, dels_free np]
  exact ⟨upd_same, by rw [z]; exact w, by rw [z]; exact Same.refl _⟩
theorem scf_list : SCF M (rListD M.K) dList := fun xs ds H N Q R w r h k => by
  unfold dList at h
  split at h
  · cases r with | cons r0 rt => ?_
    cases rt
    obtain ⟨a, ys, rfl, e, q⟩ := rp_lst r0
    refine ⟨a, ys, rfl, .inl (sq (gv_sub _ _ e)), fun p np => ?_⟩
    obtain ⟨a1, a2, a3⟩ := own_new (ho := .lst ys) w np
    exact k p _ _ (.lst _) a1 a2 a3 (RpA.mono a3 q) h
  · cases r with | cons r0 rt => ?_
    cases rt
    obtain ⟨a, ys, rfl, e, q⟩ := rp_tup r0
    refine ⟨a, ys, rfl, .inr (st (gv_sub _ _ e)), fun p np => ?_⟩
    obtain ⟨a1, a2, a3⟩ := own_new (ho := .lst ys) w np
    exact k p _ _ (.lst _) a1 a2 a3 (RpA.mono a3 q) h
  · exact h.elim
theorem scf_dict : SCF M (rDictD M.K) dDict := fun xs ds H N Q R w r h k => by
  unfold dDict at h
  split at h
  · cases r with | cons r0 rt => ?_
    cases rt
    obtain ⟨a, ys, rfl, e, q⟩ := rp_dk r0
    refine .inl ⟨a, ys, rfl, rd_sub e, fun p np => ?_⟩
    obtain ⟨a1, a2, a3⟩ := own_new (ho := .dK ys) w np
    exact k p _ _ (.dk _) a1 a2 a3 (RpK.mono a3 q) h
  · split at h
    · rename_i ps ep
      cases r with | cons r0 rt => ?_
      cases rt
      obtain ⟨a, ys, rfl, e, q⟩ := rp_lst r0
      obtain ⟨as, kvs, rfl, pr, rk⟩ := rpA_pairs (gv_sub) q ep
      refine .inr ⟨a, as, kvs, rfl, sq (gv_sub _ _ e), pr, fun p np => ?_⟩
      obtain ⟨a1, a2, a3⟩ := own_new (ho := .dK (mergeK [] kvs)) w np
      exact k p _ _ (.dk _) a1 a2 a3 (RpK.mono a3 (rpK_merge rk .nil)) h
    · exact h.elim
  · exact h.elim
/-- + of two lists, made one's own -/
def dAddL (a b : DE) : DE := fun δ N R Ex => a δ N (fun x N1 => b δ N1 (fun y N2 => match x, y with
  | .lst a, .lst b => a.length + b.length ≤ sizeLine ∧ R (.lst (a ++ b)) N2
  | _, _ => False) Ex) Ex
theorem sef_add {ta tb : TE} {a b : DE} (ha : SE M ta a) (hb : SE M tb b) : SEF M (tOp (rAddD M.K) ta tb) (dAddL a b) := fun σ H δ N Q R Ex w e h k kx =>
  ha σ H δ N _ _ Ex w e h (fun v H1 x N1 w1 s1 r1 q1 => hb σ H1 δ N1 _ _ Ex w1 (e.mono s1) q1 (fun u H2 y N2 w2 s2 r2 q2 => by
    split at q2
    · obtain ⟨a, xs, rfl, e1, r3⟩ := rp_lst (r1.mono s2)
      obtain ⟨b, ys, rfl, e2, r4⟩ := rp_lst r2
      refine .inr (.inr (.inl ⟨a, b, xs, ys, rfl, rfl, gv_sub _ _ e1, gv_sub _ _ e2, by rw [r3.length, r4.length]; exact q2.1, fun p np => ?_⟩))
      obtain ⟨a1, a2, a3⟩ := own_new (ho := .lst (xs ++ ys)) w2 np
      exact k p _ _ (.lst _) N2 a1 a2 (s1.trans (s2.trans a3)) (RpA.mono a3 (r3.app r4)) q2.2
    · exact q2.elim) (kx.mono s1)) kx
/-! a slot that gets a thing of its own -/
theorem frz_mem {i : Nat} : ∀ {r : List Nat} {δ : List Sl}, i ∈ r → ∀ d, (frz r δ)[i]? ≠ some (Sl.o d)
  | j :: r, δ, h, d, e => by
    rcases List.mem_cons.mp h with rfl | h
    · exact frz1_no i d (frz_get (r := r) e)
    · exact frz_mem h d e
def dSetO (r : List Nat) (i : Nat) (de : DE) : DS := fun E δ N => de (hideS (frz (i :: r) δ)) N (fun x N' => E.nx ((frz (i :: r) δ).set i (.o x)) N') (fun c x N' => E.ex c x (hideS (frz (i :: r) δ)) N')
theorem SI.putO {G0 H H1 : Hp} {σ : L2.St} {δ : List Sl} {N N' : Nat} {i : Nat} {p : Addr} {ho : HO} {x : D} (S : SI M G0 N H σ δ) (hn : ∀ d, δ[i]? ≠ some (Sl.o d)) (hi : i < δ.length) (no : ∀ q ∈ owns σ δ, H1 q = none) (e : H1 p = some ho)
    (w : Wok M.m N' (dels H1 [p])) (s : Same (Gv M.m (vis H σ δ)) (Gv M.m (dels H1 [p]))) (o : OwR M.K M.cn (Gv M.m (dels H1 [p])) ho x) : SI M G0 N' (puts H1 H (owns σ δ)) (σ.set i (some (.ref p))) (δ.set i (Sl.o x)) := by
  have np : p ∉ owns σ δ := fun m => by
    rw [no p m] at e
    cases e
  have mem : ∀ q, q ∈ owns (σ.set i (some (.ref p))) (δ.set i (Sl.o x)) ↔ q = p ∨ q ∈ owns σ δ := fun q => by
    rw [mem_owns, mem_owns]
    constructor
    · rintro ⟨j, d, h1, h2⟩
      rcases set_get h1 with ⟨rfl, _, z⟩ | ⟨n, z⟩
      · rw [List.getElem?_set_self (by rw [S.len]; exact hi)] at h2
        cases h2
        exact .inl rfl
      · rw [List.getElem?_set_ne n] at h2
        exact .inr ⟨j, d, z, h2⟩
    · rintro (rfl | ⟨j, d, h1, h2⟩)
      · exact ⟨i, x, List.getElem?_set_self hi, List.getElem?_set_self (by rw [S.len]; exact hi)⟩
      · have n : i ≠ j := fun z => by
          subst z
          exact hn d h1
        exact ⟨j, d, by rw [List.getElem?_set_ne n]; exact h1, by rw [List.getElem?_set_ne n]; exact h2⟩
  have ev : vis (puts H1 H (owns σ δ)) (σ.set i (some (.ref p))) (δ.set i (Sl.o x)) = dels H1 [p] := by
    funext q
    unfold vis
    by_cases c1 : q = p
    · subst c1
      rw [dels_in ((mem q).mpr (.inl rfl)), dels_in (by simp)]
    · by_cases c2 : q ∈ owns σ δ
      · rw [dels_in ((mem q).mpr (.inr c2)), dels_out (by simpa using c1), no q c2]
      · rw [dels_out fun z => ((mem q).mp z).elim c1 c2, dels_out (by simpa using c1), puts_out c2]
  refine ⟨by rw [List.length_set, List.length_set]; exact S.len, by rw [ev]; exact w, by rw [ev]; exact S.sub.trans s, fun j d h => ?_, fun j d h => ?_, fun j k d e' q h1 h2 h3 h4 => ?_⟩
  · rw [ev]
    rcases set_get h with ⟨rfl, z1, z⟩ | ⟨n, z⟩
    · cases z
    · obtain ⟨u, a, b⟩ := S.val j d z
      exact ⟨u, by rw [List.getElem?_set_ne n]; exact a, b.mono s⟩
  · rw [ev]
    rcases set_get h with ⟨rfl, z1, z⟩ | ⟨n, z⟩
    · cases z
      exact ⟨p, ho, List.getElem?_set_self (by rw [S.len]; exact hi), by rw [puts_out np]; exact e, o⟩
    · obtain ⟨q, hq, a, b, c⟩ := S.own j d z
      exact ⟨q, hq, by rw [List.getElem?_set_ne n]; exact a, by rw [puts_in (mem_owns.mpr ⟨j, d, z, a⟩)]; exact b, c.mono s⟩
  · have two : ∀ {j : Nat} {d : D}, (δ.set i (Sl.o x))[j]? = some (Sl.o d) → (σ.set i (some (.ref p)))[j]? = some (some (.ref q)) → (j = i ∧ q = p) ∨ (j ≠ i ∧ δ[j]? = some (Sl.o d) ∧ σ[j]? = some (some (.ref q))) := fun {j d} a b => by
      rcases set_get a with ⟨rfl, z1, z⟩ | ⟨n, z⟩
      · rw [List.getElem?_set_self (by rw [S.len]; exact hi)] at b
        cases b
        exact .inl ⟨rfl, rfl⟩
      · rw [List.getElem?_set_ne n] at b
        exact .inr ⟨Ne.symm n, z, b⟩
    rcases two h1 h3 with ⟨a, b⟩ | ⟨a, b, c⟩
    · rcases two h2 h4 with ⟨a2, b2⟩ | ⟨a2, b2, c2⟩
      · exact a.trans a2.symm
      · exact absurd (mem_owns.mpr ⟨k, e', b2, b ▸ c2⟩) np
    · rcases two h2 h4 with ⟨a2, b2⟩ | ⟨a2, b2, c2⟩
      · exact absurd (mem_owns.mpr ⟨j, d, b, b2 ▸ c⟩) np
      · exact S.dis j k d e' q b b2 c c2
theorem ss_setO {te : TE} {de : DE} (r : List Nat) (i : Nat) (h : SEF M te de) : SS M (psFr (tAsg te (gName i))) (dSetO r i de) := fun G0 Dd σ H δ N E S q e => by
  obtain ⟨F, _⟩ := S.frz (i :: r)
  refine ⟨owns σ (frz (i :: r) δ), F.hid, h σ _ _ N _ _ _ F.wok F.env q (fun p ho H1 x N1 e1 w1 s1 o1 q1 => ?_) (ev_x F e)⟩
  refine ⟨keepT_dels F.hid fun b xs eb => dels_sub _ _ (keepT F.wok s1 b xs eb), fun no => ?_⟩
  by_cases hi : i < (frz (i :: r) δ).length
  · exact e.nx _ _ _ _ (F.putO (frz_mem (by simp)) hi no e1 w1 s1 o1) q1
  · -- a slot beyond: nothing is stored
    have z : dels (puts H1 H (owns σ (frz (i :: r) δ))) (owns σ (frz (i :: r) δ)) = H1 := dels_puts no
    obtain ⟨w2, s2⟩ := wok_of_dels w1
    obtain ⟨F', S', _⟩ := S.behind (H' := puts H1 H (owns σ (frz (i :: r) δ))) (i :: r) (fun p hp => puts_in hp) (by rw [z]; exact w2) (by rw [z]; exact s1.trans s2)
    refine e.nx _ _ _ _ ?_ q1
    rw [List.set_eq_of_length_le (by rw [F.len]; omega), List.set_eq_of_length_le (by omega)]
    exact F'
/-- a thing of its own changed -/
theorem SI.mut {G0 H : Hp} {σ : L2.St} {δ : List Sl} {N : Nat} {i : Nat} {p : Addr} {d x : D} {ho : HO} (S : SI M G0 N H σ δ) (e : δ[i]? = some (Sl.o d)) (ep : σ[i]? = some (some (.ref p))) (o : OwR M.K M.cn (Gv M.m (vis H σ δ)) ho x) : SI M G0 N (upd H p ho) σ (δ.set i (Sl.o x)) := by
  have hi := get_lt e
  have mem : ∀ q, q ∈ owns σ (δ.set i (Sl.o x)) ↔ q ∈ owns σ δ := fun q => by
    rw [mem_owns, mem_owns]
    constructor
    · rintro ⟨j, d', h1, h2⟩
      rcases set_get h1 with ⟨rfl, _, z⟩ | ⟨n, z⟩
      · exact ⟨i, d, e, h2⟩
      · exact ⟨j, d', z, h2⟩
    · rintro ⟨j, d', h1, h2⟩
      by_cases c : i = j
      · subst c
        exact ⟨i, x, List.getElem?_set_self hi, h2⟩
      · exact ⟨j, d', by rw [List.getElem?_set_ne c]; exact h1, h2⟩
  have mp : p ∈ owns σ δ := mem_owns.mpr ⟨i, d, e, ep⟩
  have ev : vis (upd H p ho) σ (δ.set i (Sl.o x)) = vis H σ δ := by
    funext q
    unfold vis
    by_cases c : q ∈ owns σ δ
    · rw [dels_in c, dels_in ((mem q).mpr c)]
    · rw [dels_out c, dels_out fun z => c ((mem q).mp z), upd_ne fun z => c (by rw [z]; exact mp)]
  refine ⟨by rw [List.length_set]; exact S.len, by rw [ev]; exact S.wok, by rw [ev]; exact S.sub, fun j d' h => ?_, fun j d' h => ?_, fun j k d' e' q h1 h2 h3 h4 => ?_⟩
  · rw [ev]
    rcases set_get h with ⟨rfl, z1, z⟩ | ⟨n, z⟩
    · cases z
    · exact S.val j d' z
  · rw [ev]
    rcases set_get h with ⟨rfl, z1, z⟩ | ⟨n, z⟩
    · cases z
      exact ⟨p, ho, ep, upd_same, o⟩
    · obtain ⟨q, hq, a, b, c⟩ := S.own j d' z
      have nq : q ≠ p := fun y => by
        subst y
        exact n (S.dis i j d d' q e z ep a)
      exact ⟨q, hq, a, by rw [upd_ne nq]; exact b, c⟩
  · have back : ∀ {j : Nat} {d' : D}, (δ.set i (Sl.o x))[j]? = some (Sl.o d') → ∃ d2, δ[j]? = some (Sl.o d2) := fun {j d'} h => by
      rcases set_get h with ⟨rfl, z1, z⟩ | ⟨n, z⟩
      · exact ⟨d, e⟩
      · exact ⟨d', z⟩
    obtain ⟨d1, b1⟩ := back h1
    obtain ⟨d2, b2⟩ := back h2
    exact S.dis j k d1 d2 q b1 b2 h3 h4
/-! x.append(e) -/
abbrev taFr (t : TA) : TA := fun σ H Q => ∃ hd, HidOk H hd ∧ t σ (dels H hd) fun vs H' => KeepT H H' ∧ ((∀ p ∈ hd, H' p = none) → Q vs (puts H' H hd))
def isOl (δ : List Sl) (i : Nat) (p : List D → Prop) : Prop := match δ[i]? with
  | some (.o (.lst ds)) => p ds
  | _ => False
theorem isOl_at {δ : List Sl} {i : Nat} {p : List D → Prop} (h : isOl δ i p) : ∃ ds, δ[i]? = some (.o (.lst ds)) ∧ p ds := by
  unfold isOl at h
  split at h
  · exact ⟨_, by assumption, h⟩
  · exact h.elim
def dApp (r : List Nat) (i : Nat) (de : DE) : DS := fun E δ N => isOl δ i fun _ => de (hideS (frz r δ)) N (fun x N' => isOl (keepO r x δ) i fun ds => ds.length < sizeLine ∧ E.nx ((keepO r x δ).set i (.o (.lst (ds ++ [x])))) N') (fun c x N' => E.ex c x (hideS (frz r δ)) N')
theorem ev_a1 {te : TE} {de : DE} (h : SE M te de) {G0 H : Hp} {Dd : Ends} {E : DEnds} {σ : L2.St} {δ : List Sl} {N : Nat} {Q : List V → Hp → Prop} {R : RK} (r : List Nat) (S : SI M G0 N H σ δ) (e : EndR M G0 Dd E) (q : de (hideS (frz r δ)) N R (fun c x N' => E.ex c x (hideS (frz r δ)) N'))
    (k : ∀ v H' x N', SI M G0 N' H' σ (frz r δ) → SI M G0 N' H' σ δ → Rp M.K M.cn (Gv M.m (vis H' σ (frz r δ))) v x → R x N' → Q [v] H') : taFr (tCons te tNil) σ H Q := by
  obtain ⟨F, _⟩ := S.frz r
  refine ⟨_, F.hid, h σ _ _ N _ _ _ F.wok F.env q (fun v H1 x N1 w1 s1 r1 q1 => ⟨keepT_dels F.hid (keepT F.wok s1), fun no => ?_⟩) (ev_x F e)⟩
  have z := dels_puts (H := H) no
  obtain ⟨F', S', _⟩ := S.behind (H' := puts H1 H (owns σ (frz r δ))) r (fun p hp => puts_in hp) (by rw [z]; exact w1) (by rw [z]; exact s1)
  exact k v _ x N1 F' S' (by show Rp _ _ (Gv M.m (dels _ _)) _ _; rw [z]; exact r1) q1
theorem keepO_get {r : List Nat} {x d : D} {δ : List Sl} {i : Nat} (h : (keepO r x δ)[i]? = some (Sl.o d)) : δ[i]? = some (Sl.o d) := by
  unfold keepO at h
  split at h
  · exact h
  · exact frz_get h
theorem ss_app {te : TE} {de : DE} (r : List Nat) (i : Nat) (h : SE M te de) : SS M (tDrop (tBM M.K "list" rAppend (tVar i) (taFr (tCons te tNil)))) (dApp r i de) := fun G0 Dd σ H δ N E S q e => by
  obtain ⟨ds0, e0, q⟩ := isOl_at q
  obtain ⟨p, ho, ep, eh, o⟩ := S.own i _ e0
  have hl : ∃ xs, ho = .lst xs := by
    unfold OwR at o
    split at o
    · exact ⟨_, rfl⟩
    · rename_i z
      cases z
    · rename_i z
      cases z
    · exact o.elim
  obtain ⟨xs, rfl⟩ := hl
  refine ⟨.ref p, ep, .inl ⟨rfl, xs, sq eh⟩, ev_a1 h r S e q fun v H' x N' F' S' rx qx => ?_⟩
  obtain ⟨ds, e1, hlen, q1⟩ := isOl_at qx
  obtain ⟨Kp, rk⟩ := keep_at F' S' rx
  obtain ⟨p1, ho1, ep1, eh1, o1⟩ := Kp.own i _ e1
  rw [ep] at ep1
  cases ep1
  have hl1 : ∃ ys, ho1 = .lst ys ∧ RpA M.K M.cn (Gv M.m (vis H' σ (keepO r x δ))) ys ds := by
    unfold OwR at o1
    split at o1
    · rename_i z
      cases z
      exact ⟨_, rfl, o1⟩
    · rename_i z
      cases z
    · rename_i z
      cases z
    · exact o1.elim
  obtain ⟨ys, rfl, r1⟩ := hl1
  exact ⟨p, ys, v, rfl, rfl, eh1, by rw [r1.length]; exact hlen, e.nx _ _ _ _ (Kp.mut (ho := .lst (ys ++ [v])) (x := .lst (ds ++ [x])) e1 ep (r1.app (.one rk))) q1⟩
/-! d[k] = v -/
def isOd (δ : List Sl) (i : Nat) (p : List (Key × D) → Prop) (q : List (List Key × D) → Prop) : Prop := match δ[i]? with
  | some (.o (.dk l)) => p l
  | some (.o (.dt l)) => q l
  | _ => False
def keyR (y : D) (p : Key → Prop) : Prop := match keyD y with
  | some k => p k
  | none => False
def keysR (y : D) (p : List Key → Prop) : Prop := match y with
  | .tup ys => (match keysD ys with
    | some ks => p ks
    | none => False)
  | _ => False
def isO (δ : List Sl) (i : Nat) : Prop := match δ[i]? with
  | some (.o _) => True
  | _ => False
theorem isO_at {δ : List Sl} {i : Nat} (h : isO δ i) : ∃ d, δ[i]? = some (.o d) := by
  unfold isO at h
  split at h
  · exact ⟨_, by assumption⟩
  · exact h.elim
def dPut (r : List Nat) (i : Nat) (r2 : List Nat) (dk dv : DE) : DS := fun E δ N => dv (hideS (frz r δ)) N (fun x N1 => isO (keepO r x δ) i ∧ dk (hideS (frz r2 (keepO r x δ))) N1 (fun y N2 => isOd (keepO r x δ) i
    (fun l => l.length < sizeLine ∧ keyR y fun k => E.nx ((keepO r x δ).set i (.o (.dk (putD l k x)))) N2) (fun l => l.length < sizeLine ∧ keysR y fun k => E.nx ((keepO r x δ).set i (.o (.dt (putD l k x)))) N2))
  (fun c x' N' => E.ex c x' (hideS (frz r2 (keepO r x δ))) N')) (fun c x N' => E.ex c x (hideS (frz r δ)) N')
theorem RpT.length {K : PySem.W.Frag} {cn : Cn} {H : Hp} : ∀ {vs : List (List Key × V)} {ds : List (List Key × D)}, RpT K cn H vs ds → vs.length = ds.length
  | _, _, .nil => rfl
  | _, _, .cons _ t => by rw [List.length_cons, List.length_cons, RpT.length t]
theorem ss_put {tv tk : TE} {dv dk : DE} (r : List Nat) (i : Nat) (r2 : List Nat) (hv : SE M tv dv) (hk : SE M tk dk) : SS M (sDPut (tVar i) (tFr tk) (tFr tv)) (dPut r i r2 dk dv) := fun G0 Dd σ H δ N E S q e => by
  show tFr tv σ H fun v H1 => tVar i σ H1 fun x H2 => (tFr tk) σ H2 fun y H3 => ∃ a H4, x = .ref a ∧ DPut H3 a y v H4 ∧ Dd.nx σ H4
  refine ev_e hv r S e q fun v H1 x N1 F1 S1 rx q1 => ?_
  obtain ⟨K1, rk⟩ := keep_at F1 S1 rx
  obtain ⟨F, _⟩ := K1.frz r2
  obtain ⟨hs, q1⟩ := q1
  obtain ⟨od, ho0⟩ := isO_at hs
  obtain ⟨p, ho, ep, _, _⟩ := K1.own i od ho0
  refine ⟨.ref p, ep, ?_⟩
  · refine fr_e hk F.hid F.wok F.env q1 (fun y H2 dy N2 hp w s ry q2 => ?_) (ev_x F e)
    obtain ⟨F2, S2, sG⟩ := K1.behind r2 hp w s
    have rv := rk.mono sG
    unfold isOd at q2
    split at q2
    · rename_i l el
      obtain ⟨hl, q2⟩ := q2
      unfold keyR at q2
      split at q2
      · rename_i k ek
        obtain ⟨p2, ho2, ep2, eh2, o2⟩ := S2.own i _ el
        rw [ep] at ep2
        cases ep2
        cases ho2 with
        | dK kvs =>
          have o3 : RpK M.K M.cn (Gv M.m (vis H2 σ (keepO r x δ))) kvs l := o2
          exact ⟨p, _, rfl, .inl ⟨kvs, k, eh2, keyD_v ry ek, by rw [o3.length]; exact hl, rfl⟩, e.nx _ _ _ _ (S2.mut (ho := .dK (putK kvs k v)) (x := .dk (putD l k x)) el ep (rpK_put o3 (okK_of ry ek) rv)) q2⟩
        | _ => exact o2.elim
      · exact q2.elim
    · rename_i l el
      obtain ⟨hl, q2⟩ := q2
      unfold keysR at q2
      split at q2
      · split at q2
        · rename_i ks ek
          obtain ⟨p2, ho2, ep2, eh2, o2⟩ := S2.own i _ el
          rw [ep] at ep2
          cases ep2
          obtain ⟨b, vs, rfl, e2, r2⟩ := rp_tup ry
          have ev := keysD_v r2 ek
          subst ev
          cases ho2 with
          | dT kvs =>
            have o3 : RpT M.K M.cn (Gv M.m (vis H2 σ (keepO r x δ))) kvs l := o2
            exact ⟨p, _, rfl, .inr ⟨kvs, ks, b, eh2, rfl, dels_sub _ _ (gv_sub _ _ e2), by rw [o3.length]; exact hl, rfl⟩, e.nx _ _ _ _ (S2.mut (ho := .dT (putK kvs ks v)) (x := .dt (putD l ks x)) el ep (rpT_put o3 rv)) q2⟩
          | _ => exact o2.elim
        · exact q2.elim
      · exact q2.elim
    · exact q2.elim
end
end Dl

set_option Elab.async false
set_option linter.all false
set_option maxRecDepth 100000
set_option maxHeartbeats 2000000
namespace Dl
open PySem PySem.Spec PyProof.Rows L2 Rl Dr _root_.Tx Ex Er So Wi Vw
section
variable {M : Md}
theorem gv_nl {m : Option Addr} {N : Nat} {H : Hp} {p : Addr} {o : HO} (w : Wok m N H) (h : H p = some o) (n : ∀ xs, o ≠ .lst xs) : Gv m H p = some o := by
  cases m with
  | none => exact h
  | some s => exact vw_nl w h n
/-! ### raise c(e) -/
def dRaise (r : List Nat) (c : Nat) (de : DE) : DS := fun E δ N => de (hideS (frz r δ)) N (fun x N' => E.ex c x (hideS (frz r δ)) N') (fun c x N' => E.ex c x (hideS (frz r δ)) N')
theorem ss_raise {te : TE} {de : DE} {C : Addr} {fld : Str} (r : List Nat) (c : Nat) (hc : M.cn.xm c = some C) (hf : M.cn.ef c = some fld) (h : SE M te de) :
    SS M (fun _ σ H => tMkO C (spInitX C fld) [] (taFr (tCons te tNil)) σ H fun cls d H' => M.W cls d σ H') (dRaise r c de) := fun G0 Dd σ H δ N E S q e => by
  show taFr (tCons te tNil) σ H fun vs H1 => vs.length ≤ 1000 ∧ ∀ a, H1 a = none → spInitX C fld (.ref a :: (vs ++ [])) (upd H1 a (exo a C none)) (fun v H2 => v = .non ∧ ∃ (d : Addr) (fs : List (Str × V)), H2 a = some (exo a C (some d)) ∧ H2 d = some (exd d fs) ∧ H1 d = none ∧ M.W (.ref C) (some d) σ (upd (del H2 a) d (.xd fs))) (fun _ _ _ => False)
  refine ev_a1 h r S e q fun v H1 x N1 F' S' rx qx => ?_
  refine mk_flies (Q := fun c d H => M.W c d σ H) fun d H2 s2 ed => ?_
  obtain ⟨w1, s1⟩ := wok_of_dels F'.wok
  obtain ⟨w2, s3⟩ := gv_keep w1 s2
  refine e.ex c C x (some d) σ H2 _ N1 hc w2 (F'.sub.trans (s1.trans s3)) (F'.env.mono (s1.trans s3)) ?_ qx
  unfold XdR
  rw [hf]
  exact ⟨d, v, rfl, (gv_nl w2 ed fun _ z => nomatch z), rx.mono (s1.trans s3)⟩
/-! ### try: .. except A as n: .., except B as n: .. -/
structure DH where
  hit : Nat → Bool
  run : Addr → Addr → DS
/-- the slots that an exception left, as values -/
def backS (δ : DEnv) : List Sl := δ.map fun
  | some d => Sl.v d
  | none => Sl.no
def shutE (E : DEnds) (i : Nat) : DEnds := ⟨fun δ N => E.nx (δ.set i .no) N, E.rt, fun δ N => E.bk (δ.set i .no) N, fun δ N => E.ct (δ.set i .no) N, E.ex⟩
/-- the first clause that takes c -/
def selH (ef : Nat → Option Str) (i : Nat) (E : DEnds) : List DH → Nat → D → DEnv → Nat → Prop
  | [], c, x, δ, N => E.ex c x δ N
  | h :: r, c, x, δ, N => if h.hit c = true then ∀ a dx, h.run a dx (shutE E i) ((backS δ).set i (match ef c with
      | some f => .v (.exc a dx f x)
      | none => .no)) N else selH ef i E r c x δ N
def dTry (ef : Nat → Option Str) (i : Nat) (b : DS) (hs : List DH) : DS := fun E δ N => b { E with ex := selH ef i E hs } δ N
/-- a clause's reading: k.1 the class, k.2 the suite -/
structure SH (M : Md) (i : Nat) (k : Try.Cl) (h : DH) : Prop where
  hit : ∀ c C, M.cn.xm c = some C → PySem.W.exmOne M.K (.ref C) k.1 = some (h.hit c)
  run : ∀ a c C d dx, M.cn.xm c = some C → h.hit c = true → (∀ f, M.cn.ef c = some f → d = some dx) → SS M (k.2 a (.ref C) d) (h.run a dx)
theorem backS_get {δ : DEnv} {j : Nat} {y : Sl} (h : (backS δ)[j]? = some y) : (∃ d, y = .v d ∧ δ[j]? = some (some d)) ∨ y = .no := by
  unfold backS at h
  rw [List.getElem?_map] at h
  cases e : δ[j]? with
  | none =>
    rw [e] at h
    cases h
  | some z =>
    rw [e] at h
    cases z with
    | none =>
      cases h
      exact .inr rfl
    | some d =>
      cases h
      exact .inl ⟨d, rfl, rfl⟩
theorem noowns {σ : L2.St} {δ : List Sl} (h : ∀ (i : Nat) (d : D), δ[i]? ≠ some (Sl.o d)) : owns σ δ = [] := by
  cases e : owns σ δ with
  | nil => rfl
  | cons p r =>
    obtain ⟨i, d, a, _⟩ := mem_owns.mp (show p ∈ owns σ δ by rw [e]; simp)
    exact absurd a (h i d)
theorem si_plain {G0 H : Hp} {σ : L2.St} {δ : List Sl} {N : Nat} (hl : σ.length = δ.length) (hn : ∀ (i : Nat) (d : D), δ[i]? ≠ some (Sl.o d)) (w : Wok M.m N H) (s : Same G0 (Gv M.m H)) (hv : ∀ (i : Nat) (d : D), δ[i]? = some (Sl.v d) → ∃ v, σ[i]? = some (some v) ∧ Rp M.K M.cn (Gv M.m H) v d) : SI M G0 N H σ δ := by
  have e : vis H σ δ = H := by
    unfold vis
    rw [noowns hn, dels_nil]
  exact ⟨hl, by rw [e]; exact w, by rw [e]; exact s, by rw [e]; exact hv, fun i d h => absurd h (hn i d), fun i j d _ _ h => absurd h (hn i d)⟩
theorem try_sel {i : Nat} {G0 : Hp} {Dd : Ends} {E : DEnds} (e : EndR M G0 Dd E) : ∀ {l : List Try.Cl} {hs : List DH}, Paired (SH M i) l hs → ∀ c C x dx σ' H' δ' N', M.cn.xm c = some C → Wok M.m N' H' → Same G0 (Gv M.m H') → EnvR M (Gv M.m H') σ' δ' → XdR M (Gv M.m H') c dx x → selH M.cn.ef i E hs c x δ' N' →
    Try.wEach M.K i M.W Dd l (.ref C) dx σ' H'
  | _, _, .nil, c, C, x, dx, σ', H', δ', N', hc, w, s, en, xd, q => e.ex c C x dx σ' H' δ' N' hc w s en xd q
  | k :: l, h :: hs, .cons r t, c, C, x, dx, σ', H', δ', N', hc, w, s, en, xd, q => by
    refine ⟨h.hit c, r.hit c C hc, ?_⟩
    unfold selH at q
    by_cases b : h.hit c = true
    · rw [if_pos b] at q ⊢
      intro a na
      have hd : ∃ d, ∀ f, M.cn.ef c = some f → dx = some d := by
        unfold XdR at xd
        cases ef : M.cn.ef c with
        | none => exact ⟨0, fun f z => by cases z⟩
        | some f =>
          rw [ef] at xd
          obtain ⟨d, v, rfl, _⟩ := xd
          exact ⟨d, fun _ _ => rfl⟩
      obtain ⟨d, hd⟩ := hd
      refine r.run a c C dx d hc b hd G0 _ (σ'.set i (some (.ref a))) H' _ N' _ ?_ (q a d) ?_
      · refine si_plain (by rw [List.length_set, List.length_set]; unfold backS; rw [List.length_map]; exact en.1) (fun j d2 hj => ?_) w s fun j d2 hj => ?_
        · rcases set_get hj with ⟨_, _, z⟩ | ⟨_, z⟩
          · split at z <;> cases z
          · rcases backS_get z with ⟨_, z, _⟩ | z <;> cases z
        · rcases set_get hj with ⟨rfl, z1, z⟩ | ⟨n, z⟩
          · unfold XdR at xd
            split at z
            · rename_i f ef
              rw [ef] at xd
              obtain ⟨d3, v, e3, e4, r4⟩ := xd
              have := hd f ef
              rw [e3] at this
              cases this
              cases z
              refine ⟨.ref a, List.getElem?_set_self ?_, .exc e4 r4⟩
              rw [en.1]
              unfold backS at z1
              rwa [List.length_map] at z1
            · cases z
          · rcases backS_get z with ⟨d4, z, e5⟩ | z
            · cases z
              obtain ⟨v, e6, r6⟩ := en.2 j _ e5
              exact ⟨v, by rw [List.getElem?_set_ne n]; exact e6, r6⟩
            · cases z
      · have shut : ∀ σ5 H5 δ5 N5, SI M G0 N5 H5 σ5 δ5 → SI M G0 N5 H5 (σ5.set i none) (δ5.set i .no) := fun σ5 H5 δ5 N5 S5 => by
          obtain ⟨S6, _⟩ := S5.frz1 i
          have S7 := (S6.putNo (i := i) none (frz1_no i)).1
          rw [frz1_set] at S7
          exact S7
        exact ⟨fun σ5 H5 δ5 N5 S5 q5 => e.nx _ _ _ _ (shut _ _ _ _ S5) q5, e.rt, fun σ5 H5 δ5 N5 S5 q5 => e.bk _ _ _ _ (shut _ _ _ _ S5) q5, fun σ5 H5 δ5 N5 S5 q5 => e.ct _ _ _ _ (shut _ _ _ _ S5) q5, e.ex⟩
    · rw [if_neg b] at q
      have b' : h.hit c = false := by simpa using b
      rw [b', if_neg Bool.false_ne_true]
      exact try_sel e t c C x dx σ' H' δ' N' hc w s en xd q
theorem ss_try {i : Nat} {tb : WX → TS} {b : DS} {l : List Try.Cl} {hs : List DH} (hb : ∀ W, SS { M with W := W } (tb W) b) (hh : Paired (SH M i) l hs) : SS M (fun D σ H => tb (Try.wEach M.K i M.W D l) D σ H) (dTry M.cn.ef i b hs) := fun G0 Dd σ H δ N E S q e =>
  hb (Try.wEach M.K i M.W Dd l) G0 Dd σ H δ N _ ⟨S.len, S.wok, S.sub, S.val, S.own, S.dis⟩ q
    ⟨fun σ' H' δ' N' S' q' => e.nx σ' H' δ' N' ⟨S'.len, S'.wok, S'.sub, S'.val, S'.own, S'.dis⟩ q', e.rt, fun σ' H' δ' N' S' q' => e.bk σ' H' δ' N' ⟨S'.len, S'.wok, S'.sub, S'.val, S'.own, S'.dis⟩ q', fun σ' H' δ' N' S' q' => e.ct σ' H' δ' N' ⟨S'.len, S'.wok, S'.sub, S'.val, S'.own, S'.dis⟩ q',
      fun c C x dx σ' H' δ' N' a w s en xd q' => try_sel e hh c C x dx σ' H' δ' N' a w s en xd q'⟩
/-- e.f of the caught exception -/
def dXf (a dx : Addr) (f : Str) (o : DE) : DE := fun δ N R Ex => o δ N (fun x N1 => match x with
  | .exc a' dx' f' y => a' = a ∧ dx' = dx ∧ f' = f ∧ R y N1
  | _ => False) Ex
theorem se_xf {a dx C : Addr} {f : Str} {te : TE} {o : DE} (h : SE M te o) : SE M (tXf a (.ref C) (some dx) C f te) (dXf a dx f o) := fun σ H δ N Q R Ex w e q k kx =>
  h σ H δ N _ _ Ex w e q (fun v H1 x N1 w1 s1 r1 q1 => by
    split at q1
    · rename_i a' dx' f' y
      obtain ⟨e1, e2, e3, q1⟩ := q1
      subst e1 e2 e3
      cases r1 with
      | exc hd rv => exact ⟨rfl, rfl, dx', _, _, rfl, gv_sub _ _ hd, by simp, k _ H1 _ N1 w1 s1 rv q1⟩
    · exact q1.elim) kx
end
end Dl

set_option Elab.async false
set_option linter.all false
set_option maxRecDepth 100000
set_option maxHeartbeats 2000000
namespace Dl
open PySem PySem.Spec PyProof.Rows L2 Rl Dr _root_.Tx Ex Er So Wi Vw
/-! ### a def from its body's reading -/
def endP (R : D → Prop) (Ex : Nat → D → Prop) : DEnds := ⟨fun _ _ => R .non, fun x _ => R x, fun _ _ => False, fun _ _ => False, fun c x _ _ => Ex c x⟩
def endD (R : RK) (Ex : EK) : DEnds := ⟨fun _ N => R .non N, R, fun _ _ => False, fun _ _ => False, fun c x _ N => Ex c x N⟩
/-- np parameters, nl more slots -/
def dfP (np nl : Nat) (ds : DS) : DFp := fun args R Ex => args.length = np ∧ ds (endP R Ex) (args.map Sl.v ++ List.replicate nl Sl.no) 0
def dfD (np nl : Nat) (ds : DS) : List D → Nat → RK → EK → Prop := fun args N R Ex => args.length = np ∧ ds (endD R Ex) (args.map Sl.v ++ List.replicate nl Sl.no) N
theorem start_get {N : List Str} {vs : List V} {ds : List D} {nl : Nat} {K : PySem.W.Frag} {cn : Cn} {G : Hp} (r : RpA K cn G vs ds) (hl : N.length = ds.length + nl) : (L2.start N vs).length = (ds.map Sl.v ++ List.replicate nl Sl.no).length ∧ (∀ (i : Nat) (d : D), (ds.map Sl.v ++ List.replicate nl Sl.no)[i]? ≠ some (Sl.o d)) ∧
    ∀ (i : Nat) (d : D), (ds.map Sl.v ++ List.replicate nl Sl.no)[i]? = some (Sl.v d) → ∃ v, (L2.start N vs)[i]? = some (some v) ∧ Rp K cn G v d := by
  have hv := r.length
  have at_ : ∀ (i : Nat) (y : Sl), (ds.map Sl.v ++ List.replicate nl Sl.no)[i]? = some y → (∃ d, y = Sl.v d ∧ ds[i]? = some d) ∨ y = Sl.no := fun i y h => by
    by_cases c : i < (ds.map Sl.v).length
    · rw [List.getElem?_append_left c, List.getElem?_map] at h
      cases e : ds[i]? with
      | none =>
        rw [e] at h
        cases h
      | some d =>
        rw [e] at h
        cases h
        exact .inl ⟨d, rfl, rfl⟩
    · rw [List.getElem?_append_right (by omega)] at h
      have := List.mem_of_getElem? h
      exact .inr (List.eq_of_mem_replicate this)
  refine ⟨?_, fun i d h => ?_, fun i d h => ?_⟩
  · unfold L2.start
    simp only [List.length_append, List.length_map, List.length_replicate]
    omega
  · rcases at_ i _ h with ⟨d', z, _⟩ | z <;> cases z
  · rcases at_ i _ h with ⟨d', z, e⟩ | z
    · cases z
      obtain ⟨v, e1, r1⟩ := r.get e
      refine ⟨v, ?_, r1⟩
      unfold L2.start
      rw [List.getElem?_append_left (by rw [List.length_map]; exact get_lt e1), List.getElem?_map, e1]
      rfl
    · cases z
section
variable {P : Program} {w : World} {K : PySem.W.Frag} {mg : Str → Option Value} {base : Heap} {k : Nat} {f : Addr} {fd : FuncData} {ps N : List Str} {cn : Cn} {x qual : Str} {st : Stmt}
theorem ends_rt {K : PySem.W.Frag} {cn : Cn} {G0 : Hp} {Q : VK} {R : D → Prop} {Ex : Nat → D → Prop} {W : WX} (k : ∀ v H' x, Same G0 H' → Rp K cn H' v x → R x → Q v H') (kx : ∀ c C x dx σ' H', cn.xm c = some C → Same G0 H' → XdR ⟨K, cn, none, W⟩ H' c dx x → Ex c x → W (.ref C) dx σ' H') :
    EndR ⟨K, cn, none, W⟩ G0 { nx := fun _ H' => Q .non H', rt := Q } (endP R Ex) :=
  ⟨fun σ' H' δ' N' S q => by
    obtain ⟨_, s⟩ := wok_of_dels S.wok
    exact k .non H' .non (S.sub.trans s) .non q, fun v H' x N' _ s r q => k v H' x s r q, fun _ _ _ _ _ q => q.elim, fun _ _ _ _ _ q => q.elim, fun c C x dx σ' H' δ' N' hc _ s en xd q => kx c C x dx σ' H' hc s xd q⟩
/-- a def that raises nothing -/
theorem fn_pure {ds : DS} {nl : Nat} (F : Fun K x qual st f fd) (S : FnScope N ps (defScope st)) (hl : N.length = ps.length + nl)
    (hb : ∀ (cdv : Value) (A : Around) (outer : List Env) (s : Shared) (H : Hp) (E : XK), Room k (A.deeper (envOfC qual (defScope st) s.heap.objs.size f cdv)) →
      ∃ t, PSs (cxOf CX0 P w K mg base N qual (defScope st) f cdv A outer s H E).nox (defBody st) t ∧ SS ⟨K, cn, none, fun _ _ _ _ => False⟩ t ds) : FnOk P w K mg base CX0 (k + 1) f fd ps (spP0 K cn (fun a R _ => dfP ps.length nl ds a R fun _ _ => False)) := by
  refine F.ok S (fun vs H Q E h => ?_) fun cdv A outer s0 H vs Q E hr h => ?_
  · obtain ⟨as, R, Ex, r, q, _⟩ := h
    rw [r.length]
    exact q.1
  · obtain ⟨as, R, Ex, r, ⟨ha, q⟩, kk, _⟩ := h
    obtain ⟨t, ht, hs⟩ := hb cdv A outer s0 H E hr
    obtain ⟨a1, a2, a3⟩ := start_get (nl := nl) r (by rw [hl, ha])
    exact ⟨t, ht, hs H _ (L2.start N vs) H _ 0 _ (si_plain a1 a2 trivial (Same.refl _) a3) q (ends_rt kk fun _ _ _ _ _ _ _ _ _ z => z.elim)⟩
/-- a def that may raise -/
theorem fn_pureX {ds : DS} {nl : Nat} (F : Fun K x qual st f fd) (S : FnScope N ps (defScope st)) (hl : N.length = ps.length + nl)
    (hb : ∀ (cdv : Value) (A : Around) (outer : List Env) (s : Shared) (H : Hp) (E : XK), Room k (A.deeper (envOfC qual (defScope st) s.heap.objs.size f cdv)) →
      ∃ t, PSs (cxOf (L2.CX P w) P w K mg base N qual (defScope st) f cdv A outer s H E) (defBody st) t ∧ SS ⟨K, cn, none, fun c d _ H => E c d H⟩ t ds) : FnOk P w K mg base (L2.CX P w) (k + 1) f fd ps (spP0 K cn (dfP ps.length nl ds)) := by
  refine F.okX S (fun vs H Q E h => ?_) fun cdv A outer s0 H vs Q E hr h => ?_
  · obtain ⟨as, R, Ex, r, q, _⟩ := h
    rw [r.length]
    exact q.1
  · obtain ⟨as, R, Ex, r, ⟨ha, q⟩, kk, kx⟩ := h
    obtain ⟨t, ht, hs⟩ := hb cdv A outer s0 H E hr
    obtain ⟨a1, a2, a3⟩ := start_get (nl := nl) r (by rw [hl, ha])
    exact ⟨t, ht, hs H _ (L2.start N vs) H _ 0 _ (si_plain a1 a2 trivial (Same.refl _) a3) q (ends_rt kk fun c C x dx _ H' a b c' d => kx c C x dx H' a b c' d)⟩
/-- a def that draws, and raises nothing -/
theorem fn_draw {ds : Addr → DS} {nl : Nat} (F : Fun K x qual st f fd) (S : FnScope N ps (defScope st)) (hl : N.length = ps.length + nl)
    (hb : ∀ (sa : Addr) (cdv : Value) (A : Around) (outer : List Env) (s : Shared) (H : Hp) (E : XK), Room k (A.deeper (envOfC qual (defScope st) s.heap.objs.size f cdv)) →
      ∃ t, PSs (cxOf CX0 P w K mg base N qual (defScope st) f cdv A outer s H E).nox (defBody st) t ∧ SS ⟨K, cn, some sa, fun _ _ _ _ => False⟩ t (ds sa)) : FnOk P w K mg base CX0 (k + 1) f fd ps (spD K cn (fun s a n R _ => dfD ps.length nl (ds s) a n R fun _ _ _ => False)) := by
  refine F.ok S (fun vs H Q E h => ?_) fun cdv A outer s0 H vs Q E hr h => ?_
  · obtain ⟨sa, as, n, R, Ex, w0, r, q, _⟩ := h
    rw [r.length]
    exact q.1
  · obtain ⟨sa, as, n, R, Ex, w0, r, ⟨ha, q⟩, kk, _⟩ := h
    obtain ⟨t, ht, hs⟩ := hb sa cdv A outer s0 H E hr
    obtain ⟨a1, a2, a3⟩ := start_get (nl := nl) r (by rw [hl, ha])
    refine ⟨t, ht, hs (Vw sa H) _ (L2.start N vs) H _ n _ (si_plain (M := ⟨K, cn, some sa, fun _ _ _ _ => False⟩) a1 a2 w0 (Same.refl _) a3) q ⟨fun σ' H' δ' N' S q => ?_, fun v H' x N' w s r q => kk v H' x N' w s r q, fun _ _ _ _ _ q => q.elim, fun _ _ _ _ _ q => q.elim, fun _ _ _ _ _ _ _ _ _ _ _ _ _ z => z.elim⟩⟩
    obtain ⟨w, s⟩ := wok_of_dels S.wok
    exact kk .non H' .non N' w (S.sub.trans s) .non q
end
/-! ### more readings -/
section
variable {M : Md}
/-- isinstance of a built-in type -/
def tyD : D → String
  | .non => "NoneType"
  | .bl _ => "bool"
  | .int _ => "int"
  | .str _ => "str"
  | .tup _ => "tuple"
  | .lst _ => "list"
  | .dk _ => "dict"
  | .dt _ => "dict"
  | _ => "object"
def isiB (T t : String) : Bool := T == t || (T == "int" && t == "bool")
def plainD : D → Bool
  | .obj _ _ => false
  | .sta _ => false
  | .exc _ _ _ _ => false
  | .dt _ => false
  | _ => true
/-- isinstance(x, T) -/
def dIsi (T : String) (a : DE) : DE := fun δ N R Ex => a δ N (fun x N1 => plainD x = true ∧ R (.bl (isiB T (tyD x))) N1) Ex
theorem rp_ty {K : PySem.W.Frag} {cn : Cn} {H : Hp} {v : V} {d : D} (r : Rp K cn H v d) (h : plainD d = true) : TyX K H v (.type (tyD d)) := by
  cases r with
  | non => exact .base .non
  | bl b => exact .base (.bl b)
  | int i => exact .base (.int i)
  | str x o => exact .base (.str x)
  | tup e _ => exact .base (.tup e)
  | lst e _ => exact .base (.lst e)
  | dk e _ =>
    rcases e with e | ⟨_, o, e⟩
    · exact .base (.dK e)
    · exact .fDict e
  | _ => cases h
theorem tyOf_mono {K : PySem.W.Frag} {H H' : Hp} {v : V} {t : Value} (s : Same H H') (h : TyOf K H v t) : TyOf K H' v t := by
  cases h with
  | non => exact .non
  | bl x => exact .bl x
  | int i => exact .int i
  | str x => exact .str x
  | flt x => exact .flt x
  | lst e => exact .lst (s _ _ e)
  | frz e => exact .frz (s _ _ e)
  | tup e => exact .tup (s _ _ e)
  | dK e => exact .dK (s _ _ e)
  | dT e => exact .dT (s _ _ e)
  | ins e a b c d f => exact .ins (s _ _ e) a b c d f
theorem kit_all (T : String) (d : D) (hp : plainD d = true) (hT : T = "int" ∨ T = "bool" ∨ T = "str" ∨ T = "tuple" ∨ T = "list" ∨ T = "dict") (K : PySem.W.Frag) : PySem.W.kitOne K (.type (tyD d)) (.type T) = some (isiB T (tyD d)) := by
  have h : kitB (tyD d) T = some (isiB T (tyD d)) := by
    cases d <;> first | (cases hp; done) | skip
    all_goals
      rcases hT with rfl | rfl | rfl | rfl | rfl | rfl <;> (dsimp only [tyD]; decide +kernel)
  exact kit_ty h
theorem se_isi {T : String} {te : TE} {a : DE} (hT : T = "int" ∨ T = "bool" ∨ T = "str" ∨ T = "tuple" ∨ T = "list" ∨ T = "dict") (h : SE M te a) : SE M (tCB (rIsi M.K) (tCons te (tCons (tC (.ty T)) tNil))) (dIsi T a) := fun σ H δ N Q R Ex w e q k kx =>
  h σ H δ N _ _ Ex w e q (fun v H1 x N1 w1 s1 r1 q1 => by
    have ty := rp_ty (r1.mono gv_sub) q1.1
    exact ⟨v, .ty T, _, .type T, _, rfl, .ty T, ty, kit_all T x q1.1 hT M.K, k _ H1 _ N1 w1 s1 (.bl _) q1.2⟩) kx
/-- f-strings -/
abbrev DJ := DEnv → Nat → (List Str → Nat → Prop) → EK → Prop
def fmtD (x : D) (k : Str → Prop) : Prop := match x with
  | .str z => z.length ≤ sizeLine ∧ k z
  | .int i => i.natAbs ≤ 1000000 ∧ k (toString i)
  | _ => False
end
end Dl

set_option Elab.async false
set_option linter.all false
set_option maxRecDepth 100000
set_option maxHeartbeats 2000000
namespace Dl
open PySem PySem.Spec PyProof.Rows L2 Rl Dr _root_.Tx Ex Er So Wi Vw
section
variable {M : Md}
theorem call_lenA {X : Cx} : CallR X (.builtin "len") (rLenD X.K) := call_or call_len_seq (call_or call_lenRd call_len_str)
/-! f-strings -/
def tJn (ts : List TE) : TE := fun σ H Q => tJs ts Str.empty σ H fun out H1 => Q (.str out) H1
theorem pe_joinedD {X : Cx} {v1 v2 : Expr} {rest : List Expr} {ts : List TE} {pos : Pos} (h : PJ X (v1 :: v2 :: rest) ts) : PE X (.JoinedStr (v1 :: v2 :: rest) pos) (tJn ts) := pe_joined h
def dFmt (a : DE) : DE := fun δ N R Ex => a δ N (fun x N1 => match x with
  | .str z => z.length ≤ sizeLine ∧ R (.str z) N1
  | .int i => (0 ≤ i ∧ i ≤ 9) ∧ R (.str (toString i)) N1
  | _ => False) Ex
theorem okS_dig {i : Int} (h0 : 0 ≤ i) (h9 : i ≤ 9) : OkS (toString i) ∧ i.natAbs.log2 < 1920 := by
  obtain rfl | rfl | rfl | rfl | rfl | rfl | rfl | rfl | rfl | rfl : i = 0 ∨ i = 1 ∨ i = 2 ∨ i = 3 ∨ i = 4 ∨ i = 5 ∨ i = 6 ∨ i = 7 ∨ i = 8 ∨ i = 9 := by omega
  all_goals exact ⟨by decide +kernel, by decide⟩
theorem se_fmt {te : TE} {a : DE} (h : SE M te a) : SE M (tFmt te) (dFmt a) := fun σ H δ N Q R Ex w e q k kx =>
  h σ H δ N _ _ Ex w e q (fun v H1 x N1 w1 s1 r1 q1 => by
    split at q1
    · obtain ⟨rfl, o⟩ := rp_str r1
      exact .inl ⟨_, rfl, q1.1, k _ H1 _ N1 w1 s1 (.str _ o) q1.2⟩
    · obtain ⟨o, l⟩ := okS_dig q1.1.1 q1.1.2
      exact .inr ⟨_, rp_int r1, l, k _ H1 _ N1 w1 s1 (.str _ o) q1.2⟩
    · exact q1.elim) kx
inductive SJ (M : Md) : List TE → List DE → Prop
  | nil : SJ M [] []
  | cons {t : TE} {d : DE} {ts : List TE} {ds : List DE} : SE M t d → SJ M ts ds → SJ M (t :: ts) (d :: ds)
def jsGo : List DE → Str → DEnv → Nat → RK → EK → Prop
  | [], acc, _, N, R, _ => R (.str acc) N
  | d :: ds, acc, δ, N, R, Ex => d δ N (fun x N1 => strR x fun y => (acc ++ y).length ≤ sizeLine ∧ jsGo ds (acc ++ y) δ N1 R Ex) Ex
def dJn (ds : List DE) : DE := fun δ N R Ex => jsGo ds Str.empty δ N R Ex
theorem sj_run : ∀ {ts : List TE} {ds : List DE}, SJ M ts ds → ∀ (acc : Str) σ H δ N (Q : Str → Hp → Prop) R Ex, OkS acc → Wok M.m N H → EnvR M (Gv M.m H) σ δ → jsGo ds acc δ N R Ex →
    (∀ z H' N', OkS z → Wok M.m N' H' → Same (Gv M.m H) (Gv M.m H') → R (.str z) N' → Q z H') → XOk M σ H Ex → tJs ts acc σ H Q
  | _, _, .nil, acc, σ, H, δ, N, Q, R, Ex, o, w, e, q, k, kx => k acc H N o w (Same.refl _) q
  | _, _, .cons h t, acc, σ, H, δ, N, Q, R, Ex, o, w, e, q, k, kx => h σ H δ N _ _ Ex w e q (fun v H1 x N1 w1 s1 r1 q1 => by
      obtain ⟨y, rfl, oy, hl, q2⟩ := strR_at r1 q1
      exact ⟨y, rfl, hl, sj_run t (acc ++ y) σ H1 δ N1 Q R Ex (o.app oy) w1 (e.mono s1) q2 (fun z H' N' oz w' s' rz => k z H' N' oz w' (s1.trans s') rz) (kx.mono s1)⟩) kx
theorem se_jn {ts : List TE} {ds : List DE} (h : SJ M ts ds) : SE M (tJn ts) (dJn ds) := fun σ H δ N Q R Ex w e q k kx =>
  sj_run h Str.empty σ H δ N _ R Ex (fun c hc => by cases hc) w e q (fun z H' N' oz w' s' rz => k _ H' _ N' w' s' (.str z oz) rz) kx
/-! a chain of two comparisons -/
def dChain (o1 o2 : DOp) (a b c : DE) : DE := fun δ N R Ex => a δ N (fun x N1 => b δ N1 (fun y N2 => o1 x y fun z => match z with
  | .bl k => if k = true then c δ N2 (fun w N3 => o2 y w fun z => R z N3) Ex else R (.bl false) N2
  | _ => False) Ex) Ex
theorem se_chain {r r' : R2} {o1 o2 : DOp} {ta tb tc : TE} {a b c : DE} (h1 : SR M r o1) (h2 : SR M r' o2) (ha : SE M ta a) (hb : SE M tb b) (hc : SE M tc c) : SE M (tChain r r' ta tb tc) (dChain o1 o2 a b c) := fun σ H δ N Q R Ex w e h k kx =>
  ha σ H δ N _ _ Ex w e h (fun v H1 x N1 w1 s1 r1 q1 => hb σ H1 δ N1 _ _ Ex w1 (e.mono s1) q1 (fun u H2 y N2 w2 s2 r2 q2 =>
    h1 v u x y H2 N2 _ _ w2 (r1.mono s2) r2 q2 fun z H3 d w3 s3 r3 q3 => by
      split at q3
      · rename_i kk
        refine ⟨kk, rp_bl r3, ?_⟩
        have s123 := s1.trans (s2.trans s3)
        by_cases c0 : kk = true
        · rw [if_pos c0] at q3 ⊢
          exact hc σ H3 δ N2 _ _ Ex w3 (e.mono s123) q3 (fun t H4 d4 N4 w4 s4 r4 q4 => h2 u t y d4 H4 N4 _ _ w4 (r2.mono (s3.trans s4)) r4 q4 fun z H5 d5 w5 s5 r5 q5 => k z H5 d5 N4 w5 (s123.trans (s4.trans s5)) r5 q5) (kx.mono s123)
        · rw [if_neg c0] at q3 ⊢
          exact k _ H3 _ N2 w3 s123 (.bl _) q3
      · exact q3.elim) (kx.mono s1)) kx
/-! * -/
def rMulD (K : PySem.W.Frag) : R2 := fun x y H Q => rI CMul (fun i j => .int (i * j)) x y H Q ∨ L2.rRep x y H Q
theorem op_mulD {X : Cx} : OpR X (binaryOp .Mult) (rMulD X.K) := op_or op_mul op_rep
def repD (k : Nat) (l : List D) : List D := (List.replicate k l).flatten
def dMul : DOp := fun x y R => match x, y with
  | .int i, .int j => CMul i j ∧ R (.int (i * j))
  | .lst l, .int k => (0 ≤ k ∧ k ≤ 1000) ∧ l.length * k.toNat ≤ sizeLine ∧ R (.lst (repD k.toNat l))
  | _, _ => False
theorem rpA_rep {K : PySem.W.Frag} {cn : Cn} {H : Hp} {xs : List V} {l : List D} (r : RpA K cn H xs l) : ∀ k : Nat, RpA K cn H (List.replicate k xs).flatten (repD k l)
  | 0 => .nil
  | k + 1 => by
    unfold repD
    rw [List.replicate_succ, List.replicate_succ, List.flatten_cons, List.flatten_cons]
    exact r.app (rpA_rep r k)
theorem sr_mul : SR M (rMulD M.K) dMul := fun x y dx dy H N Q R w rx ry h k => by
  unfold dMul at h
  split at h
  · rw [rp_int rx, rp_int ry]
    exact .inl ⟨_, _, rfl, rfl, h.1, k _ H _ w (Same.refl _) (.int _) h.2⟩
  · obtain ⟨a, xs, rfl, e1, r1⟩ := rp_lst rx
    rw [rp_int ry]
    refine .inr ⟨a, _, xs, rfl, rfl, gv_sub _ _ e1, by omega, by omega, by rw [r1.length]; exact h.2.1, fun p np => ?_⟩
    obtain ⟨w2, s2, e2⟩ := gv_new (.lst (List.replicate _ xs).flatten) w np
    exact k _ _ _ w2 s2 (.lst e2 ((rpA_rep r1 _).mono s2)) h.2.2
  · exact h.elim
/-! a dict comprehension: keys ints or texts -/
def dcGo (g : DG) (t : DT) (ek ev : DE) (δ : DEnv) (R : RK) : List D → List (Key × D) → Nat → Prop
  | [], acc, N => R (.dk acc) N
  | x :: r, acc, N => g x δ fun δ' => t δ' N (fun b N1 => if b = true then ek δ' N1 (fun y N2 => ev δ' N2 (fun z N3 => keyR y fun k => dcGo g t ek ev δ R r (putD acc k z) N3) (fun _ _ _ => False)) (fun _ _ _ => False) else dcGo g t ek ev δ R r acc N1) (fun _ _ _ => False)
def dDc (it : DIt) (g : DG) (t : DT) (ek ev : DE) (vs : List Nat) : DE := fun δ N R Ex => it δ N (fun items N1 => dcGo g t ek ev (dwipe δ vs) R items [] N1) Ex
theorem keyR_at {H : Hp} {v : V} {y : D} {p : Key → Prop} (r : Rp M.K M.cn H v y) (h : keyR y p) : ∃ k, v = kV k ∧ OkK k ∧ p k := by
  unfold keyR at h
  split at h
  · rename_i k e
    exact ⟨k, keyD_v r e, okK_of r e, h⟩
  · exact h.elim
theorem putD_length {κ : Type} [DecidableEq κ] (l : List (κ × D)) (k : κ) (d : D) : (putD l k d).length ≤ l.length + 1 := by
  unfold putD
  split
  · rw [List.length_map]
    omega
  · rw [List.length_append]
    simp
/-- the state of a dict comprehension -/
def DcS (M : Md) (A : Addr) (G : Hp) (H : Hp) (acc : List (Key × V)) (ds : List (Key × D)) (N : Nat) : Prop := H A = some (.dK acc) ∧ Wok M.m N (dels H [A]) ∧ Same G (Gv M.m (dels H [A])) ∧ RpK M.K M.cn (Gv M.m (dels H [A])) acc ds
theorem DcS.step {A : Addr} {G H H' : Hp} {acc : List (Key × V)} {ds : List (Key × D)} {N N' : Nat} (h : DcS M A G H acc ds N) (hp : ∀ p ∈ [A], H' p = H p) (w : Wok M.m N' (dels H' [A])) (s : Same (Gv M.m (dels H [A])) (Gv M.m (dels H' [A]))) : DcS M A G H' acc ds N' :=
  ⟨by rw [hp A (by simp)]; exact h.1, w, h.2.2.1.trans s, h.2.2.2.mono s⟩
theorem se_dc {wi : TI} {g : TG} {tt : TT} {tk tv : TE} {it : DIt} {dg : DG} {dt : DT} {ek ev : DE} {vs ws : List Nat} (hi : SIt M wi it) (hg : SG M.nox ws g dg) (hw : ∀ i ∈ ws, i ∈ vs) (ht : ST M.nox tt dt) (hk : SE M.nox tk ek) (hv : SE M.nox tv ev) :
    SE M (tDc wi g (ttFr tt) (tFr tk) (tFr tv) vs) (dDc it dg dt ek ev vs) := fun σ H δ N Q R Ex w e h k kx => by
  refine hi σ H δ N _ _ Ex w e h (fun J H1 items N1 w1 s1 W q1 => ?_) kx
  intro A nA
  have L1 : DcS M A (Gv M.m H1) (upd H1 A (.dK [])) [] [] N1 := ⟨upd_same, by rw [dels_upd, dels_free nA]; exact w1, by rw [dels_upd, dels_free nA]; exact Same.refl _, .nil⟩
  refine ⟨fun i mm H => ∃ acc ds N, mm = items.length - i ∧ i ≤ items.length ∧ DcS M A (Gv M.m H1) H acc ds N ∧ ds.length ≤ i ∧ dcGo dg dt ek ev (dwipe δ vs) R (items.drop i) ds N, ⟨items.length, [], [], N1, rfl, Nat.zero_le _, L1, Nat.le_refl _, q1⟩, ?_⟩
  rintro i mm H2 ⟨acc, ds, N2, rfl, hi2, L2', la, q2⟩
  have W2 := W.mono L2'.2.2.1
  by_cases hlt : i < items.length
  · refine .inr ⟨W2.go i H2 hlt del_sub, fun H => ∃ acc ds N, DcS M A (Gv M.m H1) H acc ds N ∧ ds.length ≤ i + 1 ∧ dcGo dg dt ek ev (dwipe δ vs) R (items.drop (i + 1)) ds N, fun H' ⟨acc', ds', N', a, b, c⟩ => ⟨items.length - (i + 1), by omega, acc', ds', N', rfl, hlt, a, b, c⟩, fun x H3 y => ?_⟩
    obtain ⟨d, ed, hp, hh, w3, s3, r3⟩ := yld_aside W2 hlt (hid_one L2'.1 trivial) L2'.2.1 (Same.refl _) y
    have L3 := L2'.step hp w3 s3
    rw [List.drop_eq_getElem_cons hlt] at q2
    have ed' : items[i] = d := by
      rw [List.getElem?_eq_getElem hlt] at ed
      exact Option.some.inj ed
    rw [ed'] at q2
    refine hg x d (wipe σ vs) H3 _ (dwipe δ vs) _ _ del_sub r3 (envR_wipe ((e.mono s1).mono L3.2.2.1)) q2 fun σ' δ' l1 l2 o1 e1 q3 => ⟨wipe_in l1 (fun j hj => (o1 j hj).1) hw, ?_⟩
    refine fr_t ht hh w3 e1 q3 (fun b H4 N4 hp4 w4 s4 q4 => ?_) xok_never
    have L4 := L3.step hp4 w4 s4
    by_cases cb : b = true
    · rw [if_pos cb] at q4 ⊢
      refine fr_e hk (hid_one L4.1 trivial) w4 (e1.mono s4) q4 (fun u H5 y5 N5 hp5 w5 s5 r5 q5 => ?_) xok_never
      have L5 := L4.step hp5 w5 s5
      refine fr_e hv (hid_one L5.1 trivial) w5 ((e1.mono s4).mono s5) q5 (fun v H6 z6 N6 hp6 w6 s6 r6 q6 => ?_) xok_never
      have L6 := L5.step hp6 w6 s6
      obtain ⟨kk, rfl, ok, q7⟩ := keyR_at (r5.mono s6) q6
      have few := W.few
      have l6 := L6.2.2.2.length
      have pl := putD_length ds kk z6
      exact ⟨acc, kk, rfl, L6.1, by omega, putK acc kk v, putD ds kk z6, N6, ⟨upd_same, by rw [dels_upd]; exact L6.2.1, by rw [dels_upd]; exact L6.2.2.1, by rw [dels_upd]; exact rpK_put L6.2.2.2 ok r6⟩, by omega, q7⟩
    · rw [if_neg cb] at q4 ⊢
      exact ⟨acc, ds, N4, L4, by omega, q4⟩
  · have ei : i = items.length := by omega
    subst ei
    rw [List.drop_length] at q2
    refine .inl ⟨W2.stop H2 del_sub, ?_⟩
    have nd : dels H2 [A] A = none := dels_in (by simp)
    obtain ⟨w5, s5, e5⟩ := gv_new (.dK acc) L2'.2.1 nd
    rw [upd_dels L2'.1] at w5 s5 e5
    exact k _ H2 _ N2 w5 (s1.trans (L2'.2.2.1.trans s5)) (.dk (.inl e5) (L2'.2.2.2.mono s5)) q2
end
end Dl

set_option Elab.async false
set_option linter.all false
set_option maxRecDepth 100000
set_option maxHeartbeats 2000000
namespace Dl
open PySem PySem.Spec PyProof.Rows L2 Rl Dr _root_.Tx Ex Er So Wi Vw
/-! ### no condition, framed -/
theorem puts_dels {H : Hp} {hd : List Addr} : puts (dels H hd) H hd = H := by
  funext a
  by_cases c : a ∈ hd
  · exact puts_in c
  · rw [puts_out c, dels_out c]
theorem pts_yesF {X : Cx} : PTs X [] (ttFr tYes) := ⟨fun pins s σ H Q I ⟨hd, hh, kt, k⟩ => pts_nil.run pins s σ H Q I (by
  have z := k fun p hp => dels_in hp
  rw [puts_dels] at z
  exact z)⟩
/-! ### methods, classes, called where the wish knows the slots -/
def tMethSD (C : Addr) (m : Str) (sp : Sp) (E : L2.St → XK) (ta : TE) (t : TA) : TE := fun σ H Q => tMeth C m sp [] (E σ) ta t σ H Q
def tMethKSD (C : Addr) (m : Str) (sp : Sp) (gV : List V → List V → List V) (E : L2.St → XK) (ta : TE) (tk : TA) : TE := fun σ H Q => Try.tMethK C m sp gV (E σ) ta tk σ H Q
def tMakeSD (C : Addr) (sp : Sp) (E : L2.St → XK) (t : TA) : TE := fun σ H Q => tMake C sp [] (E σ) t σ H Q
section
variable {X : Cx} {CX : CXT} {k : Nat} {f C : Addr} {fd : FuncData} {ps ks : List Str} {sp : Sp} {E : L2.St → XK} {x m : Str} {p pos apos : Pos} {e o : Expr} {es : List Expr} {kws : List Keyword} {ta : TE} {t tk : TA} {g : List Value → List Value → List Value} {gV : List V → List V → List V}
theorem pe_methSD {pl : Sem Bool} (he : PE X o ta) (c : Cls X.K C) (hm : Meth X.K C m f) (F : FnOk X.prog X.w X.K X.mg X.base CX k f fd ps sp) (hr : Room k X.A) (hb : Binds X.K fd ps []) (hx : ∀ σ, PassesAt CX X σ (E σ)) (ha : PA X (e :: es) t)
    (hst : starEach (e :: es) X.env = (false, eval e X.env) :: starEach es X.env := by rfl) (hpl : (backTo pos (starEach es X.env)).any (·.1) = false := by rfl)
    (ht : eval (.Call (.Attribute o m apos) (e :: es) [] pos) X.env = (eval o X.env >>= fun ov => standAt apos.atName >>= fun _ => holding [ov] (getMethod ov m pl) >>= fun q => callWith pos q.1 q.2 (backTo pos (starEach (e :: es) X.env)) (backToKw pos (keywordEach [] X.env))) := by rfl) :
    PE X (.Call (.Attribute o m apos) (e :: es) [] pos) (tMethSD C m sp E ta t) := ⟨fun pins s σ H Q I h => by
  refine PySem.W.methodCall_KW (pl := pl) (thn (he.run pins s σ H _ I h) fun u s1 z => ?_) ht
  obtain ⟨v, H1, I1, rv, a, dx, fs, rfl, ea, l, q⟩ := z
  cases rv
  refine getmeth_ok I1 ea c hm l (PySem.W.callWith_K (first := [.ref a]) (h₀ := X.base) I.ok.mod.kin hm.kp (thn (ha.run pos pins s1 σ H1 _ I1 q) fun us s2 z => ?_) hst hpl)
  obtain ⟨vs, H2, I2, r, q2⟩ := z
  exact ⟨I2.kIn, run_fnSD (us := .ref a :: us) (vs := .ref a :: vs) F hr hb .nil (hx σ) I2 (.cons rfl r) q2⟩⟩
theorem pe_methSD0 {pl : Sem Bool} (he : PE X o ta) (c : Cls X.K C) (hm : Meth X.K C m f) (F : FnOk X.prog X.w X.K X.mg X.base CX k f fd ps sp) (hr : Room k X.A) (hb : Binds X.K fd ps []) (hx : ∀ σ, PassesAt CX X σ (E σ))
    (ht : eval (.Call (.Attribute o m apos) [] [] pos) X.env = (eval o X.env >>= fun ov => standAt apos.atName >>= fun _ => holding [ov] (getMethod ov m pl) >>= fun q => callWith pos q.1 q.2 (backTo pos (starEach [] X.env)) (backToKw pos (keywordEach [] X.env))) := by rfl) :
    PE X (.Call (.Attribute o m apos) [] [] pos) (tMethSD C m sp E ta tNil) := ⟨fun pins s σ H Q I h => by
  refine PySem.W.methodCall_KW (pl := pl) (thn (he.run pins s σ H _ I h) fun u s1 z => ?_) ht
  obtain ⟨v, H1, I1, rv, a, dx, fs, rfl, ea, l, q⟩ := z
  cases rv
  refine getmeth_ok I1 ea c hm l ?_
  exact PySem.W.callWith_K0 (first := [.ref a]) I1.kIn hm.kp (run_fnSD (us := [.ref a]) (vs := [.ref a]) F hr hb .nil (hx σ) I1 (.cons rfl .nil) q)⟩
theorem run_fnkSD {pins : List (Addr × Obj)} {σ : L2.St} {H : Hp} {s : Shared} {Q : VK} {us ws : List Value} {vs zs : List V} (F : FnOk X.prog X.w X.K X.mg X.base CX k f fd ps sp) (hr : Room k X.A) (hb : KBinds X.K fd ps ks g gV) (hx : PassesAt CX X σ (E σ))
    (I : Inv X pins σ H s) (r : Vals vs us) (rz : Vals zs ws) (h : sp (gV vs zs) H Q (E σ)) : wpAny (model X.prog X.w) X.A (call (.ref f) us (ks.zip ws)) (EP X pins σ Q) X.xe s := by
  have rg := hb.rel r rz
  have few : (g us ws).length = ps.length := rg.length.symm.trans (F.len _ _ _ _ h)
  refine wpAny_call (codeAny_mono (F.run X.A X.stack s H ⟨us, ks.zip ws⟩ (g us ws) (gV vs zs) Q (E σ) hr I.env0 (hb.to s us ws I.kIn few) rg h) fun r s' hq => ?_)
  match r, hq with
  | .error e, z => exact hx pins H s e s' I z
  | .ok (.ret u), z => exact I.after z
  | .ok .next, z => exact z.elim
  | .ok .brk, z => exact z.elim
  | .ok .cont, z => exact z.elim
theorem pe_methKSD {pl : Sem Bool} (ho : PE X o ta) (c : Cls X.K C) (hm : Meth X.K C m f) (F : FnOk X.prog X.w X.K X.mg X.base CX k f fd ps sp) (hr : Room k X.A) (hb : KBinds X.K fd ps ks g gV) (hx : ∀ σ, PassesAt CX X σ (E σ)) (hkw : PK X kws tk)
    (hall : (backToKw pos (keywordEach kws X.env)).all (·.1.isSome) = true := by rfl) (hks : (backToKw pos (keywordEach kws X.env)).filterMap (·.1) = ks := by rfl)
    (hpl : ((backTo pos (starEach [] X.env)).any (·.1) || (backToKw pos (keywordEach kws X.env)).any (·.1.isNone)) = false := by rfl)
    (ht : eval (.Call (.Attribute o m apos) [] kws pos) X.env = (eval o X.env >>= fun ov => standAt apos.atName >>= fun _ => holding [ov] (getMethod ov m pl) >>= fun q => callWith pos q.1 q.2 (backTo pos (starEach [] X.env)) (backToKw pos (keywordEach kws X.env))) := by rfl) :
    PE X (.Call (.Attribute o m apos) [] kws pos) (tMethKSD C m sp gV E ta tk) := ⟨fun pins s σ H Q I h => by
  refine PySem.W.methodCall_KW (pl := pl) (thn (ho.run pins s σ H _ I h) fun u s1 z => ?_) ht
  obtain ⟨v, H1, I1, rv, a, dx, fs, rfl, ea, l, q⟩ := z
  cases rv
  refine getmeth_ok I1 ea c hm l (PySem.W.callWith_KW0 (first := [.ref a]) (h₀ := X.base) I.ok.mod.kin hm.kp hall (thn (hkw.run pos pins s1 σ H1 _ I1 q) fun ws s2 z => ?_) hpl)
  obtain ⟨zs, H2, I2, rz, q2⟩ := z
  refine ⟨I2.kIn, ?_⟩
  rw [hks]
  exact run_fnkSD (us := [.ref a]) (vs := [.ref a]) F hr hb (hx σ) I2 (.cons rfl .nil) rz q2⟩
/-- a class called -/
theorem run_makeSD {pins : List (Addr × Obj)} {σ : L2.St} {H : Hp} {s : Shared} {Q : VK} {us : List Value} {vs : List V} (M : Mk X.K C f) (F : FnOk X.prog X.w X.K X.mg X.base CX k f fd ps sp) (hr : Room (k + 1) X.A) (hb : Binds X.K fd ps []) (hx : PassesAt CX X σ (E σ)) (I : Inv X pins σ H s) (r : Vals vs us)
    (h : ∀ x dx, H x = none → H dx = none → dx ≠ x → sp (.ref x :: (vs ++ [])) (upd (upd H dx (.own x)) x (.ins C dx [])) (fun v H2 => v = .non ∧ Q (.ref x) H2) (E σ)) :
    wpAny (model X.prog X.w) X.A (call (.ref C) us) (EP X pins σ Q) X.xe s := by
  have q0 := h (s.heap.objs.size + 1) s.heap.objs.size (I.hok.fresh (Nat.le_succ _)) (I.hok.fresh (Nat.le_refl _)) (Nat.ne_of_lt (Nat.lt_succ_self _))
  have J := Inv.made (C := C) I
  have rg : Vals (V.ref (s.heap.objs.size + 1) :: (vs ++ [])) (Value.ref (s.heap.objs.size + 1) :: us ++ []) := .cons rfl (r.append .nil)
  have few : (Value.ref (s.heap.objs.size + 1) :: us ++ []).length = ps.length := rg.length.symm.trans (F.len _ _ _ _ q0)
  refine wpAny_call (make_map (f := f) I.kIn M.makes M.init (beq_iff_eq.mp M.fn) (codeAny_mono (F.run _ X.stack _ _ ⟨Value.ref (s.heap.objs.size + 1) :: us, []⟩ (Value.ref (s.heap.objs.size + 1) :: us ++ []) _ _ (E σ) (hr.make C us []) (J.env0.make C us []) (hb _ (Value.ref (s.heap.objs.size + 1) :: us) J.kIn few) rg q0) fun r s' hq => ?_))
  match r, hq with
  | .error e, z => exact hx pins _ _ e s' J z
  | .ok (.ret u), z =>
    obtain ⟨v, H', J2, rv, ev, q3⟩ := J.after z
    subst ev
    exact ⟨rv, V.ref (s.heap.objs.size + 1), H', J2, rfl, q3⟩
  | .ok .next, z => exact z.elim
  | .ok .brk, z => exact z.elim
  | .ok .cont, z => exact z.elim
theorem pe_makeSD (M : Mk X.K C f) (F : FnOk X.prog X.w X.K X.mg X.base CX k f fd ps sp) (hr : Room (k + 1) X.A) (hg : Gl X x) (hm : X.mg x = some (.ref C)) (hb : Binds X.K fd ps []) (hx : ∀ σ, PassesAt CX X σ (E σ))
    (ha : PA X (e :: es) t) (hdb : (x == ("__debug__" : Str)) = false := by decide) (he : starEach (e :: es) X.env = (false, eval e X.env) :: starEach es X.env := by rfl) (hpl : (backTo pos (starEach es X.env)).any (·.1) = false := by rfl) :
    PE X (.Call (.Name x p) (e :: es) [] pos) (tMakeSD C sp E t) := ⟨fun pins s σ H Q I h => by
  refine wpAny_Call_Name_kw (ld_glob I hg hm (PySem.W.callWith_K (h₀ := X.base) I.ok.mod.kin M.kp (thn (ha.run pos pins s σ H _ I h) fun us s1 z => ?_) he hpl) hdb)
  obtain ⟨vs, H1, I1, r, q⟩ := z
  exact ⟨I1.kIn, run_makeSD M F hr hb (hx σ) I1 r q⟩⟩
end
section
variable {M : Md}
theorem se_methS {c : Nat} {m : Str} {C : Addr} {f : DFp} {to : TE} {o : DE} {t : TA} {a : DA} (hc : M.cn.cm c = some C) (hm : m ∉ M.cn.fn c) (ho : SE M to o) (ha : SA M t a) : SE M (tMethSD C m (spP M.K M.cn f) (WE M.W) to t) (dMeth c f o a) := fun σ H δ N Q R Ex w e h k kx =>
  ho σ H δ N _ _ Ex w e h (fun v H1 x N1 w1 s1 r1 q1 => by
    obtain ⟨q1, b, dx, fs, rfl, e2, nl⟩ := clsD_at hc r1 q1
    refine ⟨b, dx, fs, rfl, gv_sub _ _ e2, nl m hm, ?_⟩
    refine ha σ H1 δ N1 _ _ Ex w1 (e.mono s1) q1 (fun vs H2 ds N2 w2 s2 r2 q2 => ?_) (kx.mono s1)
    rw [List.append_nil]
    exact pure_sp w2 (.cons (r1.mono s2) r2) q2 (fun v H' x w3 s3 r3 q3 => k v H' x N2 w3 (s1.trans (s2.trans s3)) r3 q3) fun c C x dx H' hc w3 s3 xd qx => kx c C x dx H' N2 hc w3 (s1.trans (s2.trans s3)) xd qx) kx
/-- the named values, in the order of the parameters -/
def pickD (perm : List Nat) (ds : List D) : List D := perm.filterMap fun i => ds[i]?
def pickV (perm : List Nat) (vs : List V) : List V := perm.filterMap fun i => vs[i]?
theorem RpA.pick {K : PySem.W.Frag} {cn : Cn} {H : Hp} {vs : List V} {ds : List D} (r : RpA K cn H vs ds) : ∀ perm : List Nat, RpA K cn H (pickV perm vs) (pickD perm ds)
  | [] => .nil
  | i :: is => by
    have ih := RpA.pick r is
    unfold pickV pickD
    rw [List.filterMap_cons, List.filterMap_cons]
    cases e : ds[i]? with
    | none =>
      have : vs[i]? = none := by
        rw [List.getElem?_eq_none_iff, r.length]
        exact List.getElem?_eq_none_iff.mp e
      rw [this]
      exact ih
    | some d =>
      obtain ⟨v, e1, r1⟩ := r.get e
      rw [e1]
      exact .cons r1 ih
def SPK (M : Md) (t : TA) (d : DA) : Prop := SA M t d
def dMethK (c : Nat) (perm : List Nat) (f : DFp) (o : DE) (a : DA) : DE := fun δ N R Ex => o δ N (fun x N1 => clsD c x (a δ N1 (fun ds N2 => ds.length = perm.length ∧ f (x :: pickD perm ds) (fun x => R x N2) (fun c x => Ex c x N2)) Ex)) Ex
theorem se_methKS {c : Nat} {m : Str} {C : Addr} {f : DFp} {to : TE} {o : DE} {t : TA} {a : DA} {gV : List V → List V → List V} (hc : M.cn.cm c = some C) (hm : m ∉ M.cn.fn c) (perm : List Nat) (hg : ∀ x vs, vs.length = perm.length → gV [x] vs = x :: pickV perm vs) (ho : SE M to o) (ha : SA M t a) :
    SE M (tMethKSD C m (spP M.K M.cn f) gV (WE M.W) to t) (dMethK c perm f o a) := fun σ H δ N Q R Ex w e h k kx =>
  ho σ H δ N _ _ Ex w e h (fun v H1 x N1 w1 s1 r1 q1 => by
    obtain ⟨q1, b, dx, fs, rfl, e2, nl⟩ := clsD_at hc r1 q1
    refine ⟨b, dx, fs, rfl, gv_sub _ _ e2, nl m hm, ?_⟩
    refine ha σ H1 δ N1 _ _ Ex w1 (e.mono s1) q1 (fun vs H2 ds N2 w2 s2 r2 q2 => ?_) (kx.mono s1)
    show spP M.K M.cn f (gV [.ref b] vs) H2 Q (WE M.W σ)
    rw [hg _ _ (by rw [r2.length]; exact q2.1)]
    exact pure_sp w2 (.cons (r1.mono s2) (r2.pick perm)) q2.2 (fun v H' x w3 s3 r3 q3 => k v H' x N2 w3 (s1.trans (s2.trans s3)) r3 q3) fun c C x dx H' hc w3 s3 xd qx => kx c C x dx H' N2 hc w3 (s1.trans (s2.trans s3)) xd qx) kx
/-! ### the dict's get -/
theorem isD_mono {H H' : Hp} {a : Addr} (s : Same H H') (h : IsD H a) : IsD H' a := by
  have rd : ∀ {u : HO}, Rd H a u → Rd H' a u := fun {u} h => by
    rcases h with h | ⟨o, h⟩
    · exact .inl (s _ _ h)
    · exact .inr ⟨o, s _ _ h⟩
  rcases h with ⟨kvs, e⟩ | ⟨kvs, e⟩
  · exact .inl ⟨kvs, rd e⟩
  · exact .inr ⟨kvs, rd e⟩
theorem se_dget1 {to ta : TE} {o a : DE} (ho : SE M to o) (ha : SE M ta a) : SE M (tDGet1 to ta) (dGet1 o a) := fun σ H δ N Q R Ex w e h k kx =>
  ho σ H δ N _ _ Ex w e h (fun v H1 x N1 w1 s1 r1 q1 => by
    obtain ⟨b, rfl, hd⟩ := isDD_at r1 q1.1
    refine ⟨b, rfl, isD_mono gv_sub hd, ha σ H1 δ N1 _ _ Ex w1 (e.mono s1) q1.2 (fun u H2 y N2 w2 s2 r2 q2 => ?_) (kx.mono s1)⟩
    obtain ⟨a', oo, od, e1, g, q, c⟩ := dLook_get (r1.mono s2) r2 q2
    cases e1
    refine ⟨oo, DGet.mono gv_sub g, ?_⟩
    rcases c with ⟨rfl, rfl⟩ | ⟨v', d, rfl, rfl, r3⟩
    · exact k _ H2 _ N2 w2 (s1.trans s2) .non q
    · exact k _ H2 _ N2 w2 (s1.trans s2) r3 q) kx
theorem se_dget2 {to ta tb : TE} {o a b : DE} (ho : SE M to o) (ha : SE M ta a) (hb : SE M tb b) : SE M (tDGet2 to ta tb) (dGet2 o a b) := fun σ H δ N Q R Ex w e h k kx =>
  ho σ H δ N _ _ Ex w e h (fun v H1 x N1 w1 s1 r1 q1 => by
    obtain ⟨b, rfl, hd⟩ := isDD_at r1 q1.1
    refine ⟨b, rfl, isD_mono gv_sub hd, ha σ H1 δ N1 _ _ Ex w1 (e.mono s1) q1.2 (fun u H2 y N2 w2 s2 r2 q2 => ?_) (kx.mono s1)⟩
    refine hb σ H2 δ N2 _ _ Ex w2 ((e.mono s1).mono s2) q2 (fun u3 H3 z N3 w3 s3 r3 q3 => ?_) ((kx.mono s1).mono s2)
    obtain ⟨a', oo, od, e1, g, q, c⟩ := dLook_get ((r1.mono s2).mono s3) (r2.mono s3) q3
    cases e1
    refine ⟨oo, DGet.mono gv_sub g, ?_⟩
    rcases c with ⟨rfl, rfl⟩ | ⟨v', d, rfl, rfl, r4⟩
    · exact k _ H3 _ N3 w3 (s1.trans (s2.trans s3)) r3 q
    · exact k _ H3 _ N3 w3 (s1.trans (s2.trans s3)) r4 q) kx
/-! ### all, any, int -/
def boolsOf : List D → Option (List Bool)
  | [] => some []
  | .bl b :: r => (boolsOf r).map (b :: ·)
  | _ => none
theorem boolsOf_v {K : PySem.W.Frag} {cn : Cn} {H : Hp} : ∀ {vs : List V} {ds : List D} {bs : List Bool}, RpA K cn H vs ds → boolsOf ds = some bs → vs = bs.map V.bl
  | _, _, _, .nil, h => by
    cases h
    rfl
  | _, _, bs, .cons r t, h => by
    unfold boolsOf at h
    split at h
    · rename_i e
      cases e
    · rename_i b l e
      cases e
      obtain ⟨ws, e1, rfl⟩ := Option.map_eq_some_iff.mp h
      rw [boolsOf_v t e1]
      cases r
      rfl
    · cases h
def dBools (g : List Bool → Bool) : DF0 := fun ds R => match ds with
  | [.lst l] => (match boolsOf l with
    | some bs => R (.bl (g bs))
    | none => False)
  | _ => False
def dAll : DF0 := dBools fun bs => bs.all id
def dAny : DF0 := dBools fun bs => bs.any id
theorem sc_bools {g : List Bool → Bool} {r : List V → Hp → VK → Prop} (hr : ∀ a bs H Q, SqL M.K H a (bs.map V.bl) → Q (.bl (g bs)) H → r [.ref a] H Q) : SC M r (dBools g) := fun xs ds H N Q R w rr h k => by
  unfold dBools at h
  split at h
  · cases rr with | cons r0 rt => ?_
    cases rt
    split at h
    · rename_i bs eb
      obtain ⟨a, ys, rfl, e, q⟩ := rp_lst r0
      have ev := boolsOf_v q eb
      subst ev
      exact hr a bs H Q (sq (gv_sub _ _ e)) (k _ H _ w (Same.refl _) (.bl _) h)
    · exact h.elim
  · exact h.elim
theorem sc_all : SC M (rAll M.K) dAll := sc_bools fun a bs H Q e q => ⟨a, bs, rfl, e, q⟩
theorem sc_any : SC M (rAny M.K) dAny := sc_bools fun a bs H Q e q => ⟨a, bs, rfl, e, q⟩
def dInt : DF0 := fun ds R => match ds with
  | [.int i] => R (.int i)
  | [.bl b] => R (.int (if b then 1 else 0))
  | _ => False
theorem sc_int : SC M (fun xs H Q => (∃ i, xs = [.int i] ∧ Q (.int i) H) ∨ ∃ k, xs = [.bl k] ∧ Q (.int (if k then 1 else 0)) H) dInt := fun xs ds H N Q R w rr h k => by
  unfold dInt at h
  split at h
  · cases rr with | cons r0 rt => ?_
    cases rt
    rw [rp_int r0]
    exact .inl ⟨_, rfl, k _ H _ w (Same.refl _) (.int _) h⟩
  · cases rr with | cons r0 rt => ?_
    cases rt
    cases r0
    exact .inr ⟨_, rfl, k _ H _ w (Same.refl _) (.int _) h⟩
  · exact h.elim
/-! ### the place of a text in a list of texts -/
def dIndex (o : DE) (a : DA) : DE := fun δ N R Ex => o δ N (fun x N1 => (∃ l, x = .lst l) ∧ a δ N1 (fun ys N2 => match x, ys with
  | .lst l, [.str z] => (match strsOf l with
    | some zs => zs.idxOf z < zs.length ∧ R (.int (zs.idxOf z : Nat)) N2
    | none => False)
  | _, _ => False) Ex) Ex
theorem se_index {to : TE} {ta : TA} {o : DE} {a : DA} (ho : SE M to o) (ha : SA M ta a) : SE M (tBM M.K "list" (rIndex M.K) to ta) (dIndex o a) := fun σ H δ N Q R Ex w e h k kx =>
  ho σ H δ N _ _ Ex w e h (fun v H1 x N1 w1 s1 r1 q1 => by
    obtain ⟨⟨l, rfl⟩, q1⟩ := q1
    obtain ⟨b, xs, rfl, e1, rl⟩ := rp_lst r1
    refine ⟨.inl ⟨rfl, xs, sq (gv_sub _ _ e1)⟩, ha σ H1 δ N1 _ _ Ex w1 (e.mono s1) q1 (fun us H2 ys N2 w2 s2 r2 q2 => ?_) (kx.mono s1)⟩
    split at q2
    · rename_i l' z e0
      cases e0
      cases r2 with | cons r0 rt => ?_
      cases rt
      obtain ⟨rfl, oz⟩ := rp_str r0
      split at q2
      · rename_i zs ez
        obtain ⟨ev, ok⟩ := strsOf_v rl ez
        subst ev
        have hi := q2.1
        have at_ : zs[zs.idxOf z]? = some z := by rw [List.getElem?_eq_getElem hi, List.getElem_idxOf hi]
        refine ⟨b, zs.map V.str, .str z, zs.idxOf z, .str z, rfl, rfl, sq (gv_sub _ _ (s2 _ _ e1)), rfl, ?_, ?_, ?_, fun j z' hj hz => ?_, k _ H2 _ N2 w2 (s1.trans s2) (.int _) q2.2⟩
        · exact List.all_eq_true.mpr fun x hx => by
            obtain ⟨y, _, rfl⟩ := List.mem_map.mp hx
            rfl
        · rw [List.getElem?_map, at_]
          rfl
        · exact beq_self_eq_true z
        · rw [List.getElem?_map] at hz
          cases ey : zs[j]? with
          | none =>
            rw [ey] at hz
            cases hz
          | some y =>
            rw [ey] at hz
            cases hz
            have ne : y ≠ z := fun q => by
              subst q
              obtain ⟨hlt, ee⟩ := List.getElem?_eq_some_iff.mp ey
              have q9 := List.not_of_lt_findIdx (p := (· == y)) (xs := zs) (i := j) hj
              simp only [ee, beq_self_eq_true] at q9
              cases q9
            exact beq_eq_false_iff_ne.mpr ne
      · exact q2.elim
    · exact q2.elim) kx
end
end Dl

set_option Elab.async false
set_option linter.all false
set_option maxRecDepth 100000
set_option maxHeartbeats 2000000
namespace Dl
open PySem PySem.Spec PyProof.Rows L2 Rl Dr _root_.Tx Ex Er So Wi Vw
/-! ### objects with an own == -/
def RO (K : PySem.W.Frag) (cn : Cn) (g : DFp) : Addr → V → Bool → Hp → Prop := fun a y r H => ∃ da dy, Rp K cn H (.ref a) da ∧ Rp K cn H y dy ∧ g [da, dy] (fun x => x = .bl r) fun _ _ => False
section
variable {P : Program} {w : World} {K : PySem.W.Frag} {mg : Str → Option Value} {base : Heap} {k : Nat} {f : Addr} {fd : FuncData} {ps : List Str} {cn : Cn} {g : DFp}
theorem eqO_fn (F : FnOk P w K mg base CX0 k f fd ps (spP K cn g)) : FnOk P w K mg base CX0 k f fd ps (Cmp.spEqI (RO K cn g)) := F.imp fun vs H Q E h => by
  obtain ⟨a, y, r, rfl, ⟨da, dy, r1, r2, q⟩, kk⟩ := h
  refine ⟨none, [da, dy], 0, _, _, trivial, .cons r1 (.cons r2 .nil), q, fun v H' x _ s rx e => ?_, fun _ _ _ _ _ _ _ _ _ z => z.elim⟩
  subst e
  cases rx
  exact kk H' s
end
theorem op_eqO {X : Cx} {C f : Addr} {fd : FuncData} {ps : List Str} {n : Nat} {cn : Cn} {g : DFp} {E : XK} (F : FnOk X.prog X.w X.K X.mg X.base CX0 n f fd ps (spP X.K cn g)) (hr : Room n X.A)
    (hs : PySem.W.findIn X.K (.ref C) "__eq__" = some (some (.ref f))) (hf : PySem.W.isFn X.K (.ref f) = true) (hb : Binds X.K fd ps []) (hx : Passes CX0 X E) : OpR X (compareOp .Eq) (Cmp.rEqI X.K C (RO X.K cn g)) := Cmp.op_eqI (eqO_fn F) hr hs hf hb hx
theorem op_neO {X : Cx} {C f : Addr} {fd : FuncData} {ps : List Str} {n : Nat} {cn : Cn} {g : DFp} {E : XK} (F : FnOk X.prog X.w X.K X.mg X.base CX0 n f fd ps (spP X.K cn g)) (hr : Room (n + 1) X.A)
    (hn : PySem.W.findIn X.K (.ref C) "__ne__" = some (some (.builtin "object.__ne__"))) (hm : PySem.W.mroIn X.K C (.type "object") = some true) (ht : Meth X.K C "__eq__" f) (hb : Binds X.K fd ps []) (hx : Passes CX0 X E) : OpR X (compareOp .NotEq) (Try.rNeI C (RO X.K cn g)) := Try.op_neI (eqO_fn F) hr hn hm ht hb hx
def bothD (c : Nat) (x y : D) : Prop := match x, y with
  | .obj c1 _, .obj c2 _ => c1 = c ∧ c2 = c
  | _, _ => False
def dEqO (c : Nat) (g : DFp) : DOp := fun x y R => bothD c x y ∧ ∃ b, (g [x, y] (fun z => z = .bl b) fun _ _ => False) ∧ R (.bl b)
def dNeO (c : Nat) (g : DFp) : DOp := fun x y R => bothD c x y ∧ ∃ b, (g [x, y] (fun z => z = .bl b) fun _ _ => False) ∧ R (.bl (!b))
section
variable {M : Md} {mg : Str → Option Value} {nm : Str}
theorem both_at {c : Nat} {C : Addr} {x y : V} {dx dy : D} {G : Hp} (hc : M.cn.cm c = some C) (rx : Rp M.K M.cn G x dx) (ry : Rp M.K M.cn G y dy) (h : bothD c dx dy) : ∃ a b ea eb fs gs, x = .ref a ∧ y = .ref b ∧ G a = some (.ins C ea fs) ∧ G b = some (.ins C eb gs) := by
  unfold bothD at h
  split at h
  · obtain ⟨rfl, rfl⟩ := h
    obtain ⟨a, C1, d1, f1, rfl, e1, g1, _, _⟩ := rp_obj rx
    obtain ⟨b, C2, d2, f2, rfl, e2, g2, _, _⟩ := rp_obj ry
    rw [hc] at e1 e2
    cases e1
    cases e2
    exact ⟨a, b, d1, d2, f1, f2, rfl, rfl, g1, g2⟩
  · exact h.elim
theorem sr_eqO {c : Nat} {g : DFp} (W : WcE M.K mg nm) (oc : ObjCl M.K) (hc : M.cn.cm c = some W.C) : SR M (Cmp.rEqI M.K W.C (RO M.K M.cn g)) (dEqO c g) := fun x y dx dy H N Q R w rx ry h k => by
  obtain ⟨hb, b, hg, q⟩ := h
  obtain ⟨a, b', ea, eb, fs, gs, rfl, rfl, g1, g2⟩ := both_at hc rx ry hb
  refine ⟨a, ea, fs, .ref W.C, b, rfl, gv_sub _ _ g1, .base (.ins (gv_sub _ _ g2) W.cl W.ha oc.hn oc.ht W.hm), W.nf_self, ⟨dx, dy, rx.mono gv_sub, ry.mono gv_sub, hg⟩, fun H' s => ?_⟩
  obtain ⟨w2, s2⟩ := gv_keep w s
  exact k _ H' _ w2 s2 (.bl _) q
theorem sr_neO {c : Nat} {g : DFp} (W : WcE M.K mg nm) (hc : M.cn.cm c = some W.C) : SR M (Try.rNeI W.C (RO M.K M.cn g)) (dNeO c g) := fun x y dx dy H N Q R w rx ry h k => by
  obtain ⟨hb, b, hg, q⟩ := h
  obtain ⟨a, b', ea, eb, fs, gs, rfl, rfl, g1, g2⟩ := both_at hc rx ry hb
  refine ⟨a, b', ea, eb, fs, gs, b, rfl, rfl, gv_sub _ _ g1, gv_sub _ _ g2, ⟨dx, dy, rx.mono gv_sub, ry.mono gv_sub, hg⟩, fun H' s => ?_⟩
  obtain ⟨w2, s2⟩ := gv_keep w s
  exact k _ H' _ w2 s2 (.bl _) q
/-! ### str of an object -/
def dStrO0 (c : Nat) (f : DFp) : DF0 := fun ds R => match ds with
  | [.obj c' l] => c' = c ∧ f [.obj c' l] (fun x => (∃ z, x = .str z) ∧ R x) fun _ _ => False
  | _ => False
def dStrO (c : Nat) (f : DFp) (de : DE) : DE := dCB (dStrO0 c f) (dCons de dNil)
theorem sc_strO {c : Nat} {C : Addr} {f : DFp} {E : XK} (hc : M.cn.cm c = some C) : SC M (Try.rStrO C (spP M.K M.cn f) E) (dStrO0 c f) := fun xs ds H N Q R w r h k => by
  unfold dStrO0 at h
  split at h
  · rename_i c' l
    obtain ⟨rfl, h⟩ := h
    cases r with | cons r0 rt => ?_
    cases rt
    obtain ⟨a, C', dx, fs, rfl, e1, g1, _, _⟩ := rp_obj r0
    rw [hc] at e1
    cases e1
    refine ⟨a, dx, fs, rfl, gv_sub _ _ g1, pure_sp w (.cons r0 .nil) h (fun v H' x w2 s2 rx q => ?_) fun _ _ _ _ _ _ _ _ _ z => z.elim⟩
    obtain ⟨⟨z, rfl⟩, q⟩ := q
    obtain ⟨rfl, o⟩ := rp_str rx
    exact ⟨⟨z, rfl⟩, k _ H' _ w2 s2 rx q⟩
  · exact h.elim
theorem se_strO {c : Nat} {C : Addr} {f : DFp} {E : XK} {te : TE} {de : DE} (hc : M.cn.cm c = some C) (he : SE M te de) : SE M (tCB (Try.rStrO C (spP M.K M.cn f) E) (tCons te tNil)) (dStrO c f de) := se_cb (sc_strO hc) (sa_cons he sa_nil)
end
/-! ### a comprehension over a dict's keys -/
section
variable {K : PySem.W.Frag} {cn : Cn} {G : Hp} {p : Addr} {od : Obj} {u : HO}
abbrev Cn.lkd (cn : Cn) (p : Addr) : Cn := { cn with lk := some p }
/-- a dict's content -/
def DctO : HO → Prop
  | .dK _ => True
  | .dT _ => True
  | _ => False
theorem lock_ne {o : HO} (hu : DctO u) (hp : G p = some u) {a : Addr} {q : HO} (e : G a = some o) (n : ¬ DctO o) : upd G p q a = some o := by
  rw [upd_ne fun z => by rw [z, hp] at e; cases e; exact n hu]
  exact e
theorem lock_dct {o : HO} (hl : cn.lk = none) (hp : G p = some u) {a : Addr} (h : RdL cn.lk G a o) : RdL (cn.lkd p).lk (upd G p (.frz od u)) a o := by
  rcases h with h | ⟨q, _⟩
  · by_cases c : a = p
    · subst c
      rw [hp] at h
      cases h
      exact .inr ⟨rfl, od, upd_same⟩
    · exact .inl (by rw [upd_ne c]; exact h)
  · rw [hl] at q
    cases q
mutual
theorem Rp.lock (hl : cn.lk = none) (hu : DctO u) (hp : G p = some u) : ∀ {v : V} {d : D}, Rp K cn G v d → Rp K (cn.lkd p) (upd G p (.frz od u)) v d
  | _, _, .non => .non
  | _, _, .bl b => .bl b
  | _, _, .int i => .int i
  | _, _, .str x h => .str x h
  | _, _, .tup h t => .tup (lock_ne hu hp h id) (RpA.lock hl hu hp t)
  | _, _, .lst h t => .lst (lock_ne hu hp h id) (RpA.lock hl hu hp t)
  | _, _, .dk (a := a) h t => .dk (lock_dct hl hp h) (RpK.lock hl hu hp t)
  | _, _, .dt h t => .dt (lock_dct hl hp h) (RpT.lock hl hu hp t)
  | _, _, .obj c h n t => .obj (cn := cn.lkd p) c (lock_ne hu hp h id) n (RpF.lock hl hu hp t)
  | _, _, .sta s => .sta s
  | _, _, .exc h t => .exc (lock_ne hu hp h id) (Rp.lock hl hu hp t)
theorem RpA.lock (hl : cn.lk = none) (hu : DctO u) (hp : G p = some u) : ∀ {vs : List V} {ds : List D}, RpA K cn G vs ds → RpA K (cn.lkd p) (upd G p (.frz od u)) vs ds
  | _, _, .nil => .nil
  | _, _, .cons h t => .cons (Rp.lock hl hu hp h) (RpA.lock hl hu hp t)
theorem RpK.lock (hl : cn.lk = none) (hu : DctO u) (hp : G p = some u) : ∀ {vs : List (Key × V)} {ds : List (Key × D)}, RpK K cn G vs ds → RpK K (cn.lkd p) (upd G p (.frz od u)) vs ds
  | _, _, .nil => .nil
  | _, _, .cons o h t => .cons o (Rp.lock hl hu hp h) (RpK.lock hl hu hp t)
theorem RpT.lock (hl : cn.lk = none) (hu : DctO u) (hp : G p = some u) : ∀ {vs : List (List Key × V)} {ds : List (List Key × D)}, RpT K cn G vs ds → RpT K (cn.lkd p) (upd G p (.frz od u)) vs ds
  | _, _, .nil => .nil
  | _, _, .cons h t => .cons (Rp.lock hl hu hp h) (RpT.lock hl hu hp t)
theorem RpF.lock (hl : cn.lk = none) (hu : DctO u) (hp : G p = some u) : ∀ {vs : List (Str × V)} {ns : List Str} {ds : List D}, RpF K cn G vs ns ds → RpF K (cn.lkd p) (upd G p (.frz od u)) vs ns ds
  | _, _, _, .nil => .nil
  | _, _, _, .cons o h t => .cons o (Rp.lock hl hu hp h) (RpF.lock hl hu hp t)
end
theorem free_ne {o : HO} (hp : G p = some (.frz od u)) {a : Addr} {q : HO} (e : G a = some o) (n : ∀ b l, o ≠ .frz b l) : upd G p q a = some o := by
  rw [upd_ne fun z => by rw [z, hp] at e; cases e; exact n _ _ rfl]
  exact e
theorem free_dct {o : HO} (hl : cn.lk = none) (hd : ∀ b l, o ≠ .frz b l) (hp : G p = some (.frz od u)) {a : Addr} (h : RdL (cn.lkd p).lk G a o) : RdL cn.lk (upd G p u) a o := by
  rcases h with h | ⟨q, o, e⟩
  · exact .inl (free_ne hp h hd)
  · cases q
    rw [hp] at e
    cases e
    exact .inl upd_same
mutual
theorem Rp.free (hl : cn.lk = none) (hp : G p = some (.frz od u)) : ∀ {v : V} {d : D}, Rp K (cn.lkd p) G v d → Rp K cn (upd G p u) v d
  | _, _, .non => .non
  | _, _, .bl b => .bl b
  | _, _, .int i => .int i
  | _, _, .str x h => .str x h
  | _, _, .tup h t => .tup (free_ne hp h fun _ _ z => by cases z) (RpA.free hl hp t)
  | _, _, .lst h t => .lst (free_ne hp h fun _ _ z => by cases z) (RpA.free hl hp t)
  | _, _, .dk (a := a) h t => .dk (free_dct hl (fun _ _ z => by cases z) hp h) (RpK.free hl hp t)
  | _, _, .dt h t => .dt (free_dct hl (fun _ _ z => by cases z) hp h) (RpT.free hl hp t)
  | _, _, .obj c h n t => .obj c (free_ne hp h fun _ _ z => by cases z) n (RpF.free hl hp t)
  | _, _, .sta s => .sta s
  | _, _, .exc h t => .exc (free_ne hp h fun _ _ z => by cases z) (Rp.free hl hp t)
theorem RpA.free (hl : cn.lk = none) (hp : G p = some (.frz od u)) : ∀ {vs : List V} {ds : List D}, RpA K (cn.lkd p) G vs ds → RpA K cn (upd G p u) vs ds
  | _, _, .nil => .nil
  | _, _, .cons h t => .cons (Rp.free hl hp h) (RpA.free hl hp t)
theorem RpK.free (hl : cn.lk = none) (hp : G p = some (.frz od u)) : ∀ {vs : List (Key × V)} {ds : List (Key × D)}, RpK K (cn.lkd p) G vs ds → RpK K cn (upd G p u) vs ds
  | _, _, .nil => .nil
  | _, _, .cons o h t => .cons o (Rp.free hl hp h) (RpK.free hl hp t)
theorem RpT.free (hl : cn.lk = none) (hp : G p = some (.frz od u)) : ∀ {vs : List (List Key × V)} {ds : List (List Key × D)}, RpT K (cn.lkd p) G vs ds → RpT K cn (upd G p u) vs ds
  | _, _, .nil => .nil
  | _, _, .cons h t => .cons (Rp.free hl hp h) (RpT.free hl hp t)
theorem RpF.free (hl : cn.lk = none) (hp : G p = some (.frz od u)) : ∀ {vs : List (Str × V)} {ns : List Str} {ds : List D}, RpF K (cn.lkd p) G vs ns ds → RpF K cn (upd G p u) vs ns ds
  | _, _, _, .nil => .nil
  | _, _, _, .cons o h t => .cons o (Rp.free hl hp h) (RpF.free hl hp t)
end
end
theorem gv_upd {m : Option Addr} {N : Nat} {H : Hp} {p : Addr} {o x : HO} (w : Wok m N H) (h : Gv m H p = some x) : Gv m (upd H p o) = upd (Gv m H) p o ∧ Wok m N (upd H p o) := by
  cases m with
  | none => exact ⟨rfl, trivial⟩
  | some s => exact vw_mut w h
def kD : Key → D
  | .inl i => .int i
  | .inr x => .str x
abbrev Md.lkd (M : Md) (p : Addr) : Md := { M with cn := M.cn.lkd p }
section
variable {M : Md}
theorem rp_key {G : Hp} {k : Key} (o : OkS (match k with | .inr x => x | .inl _ => "")) : Rp M.K M.cn G (kV k) (kD k) := by
  cases k with
  | inl i => exact .int i
  | inr x => exact .str x o
theorem rpK_keys {G : Hp} : ∀ {xs : List (Key × V)} {l : List (Key × D)} {i : Nat} {k : Key} {v : V}, RpK M.K M.cn G xs l → xs[i]? = some (k, v) → ∃ d, l[i]? = some (k, d) ∧ Rp M.K M.cn G (kV k) (kD k)
  | _, _, _, _, _, .nil, h => by simp at h
  | _, _, 0, _, _, .cons o r t, h => by
    simp only [List.getElem?_cons_zero, Option.some.injEq, Prod.mk.injEq] at h
    obtain ⟨rfl, rfl⟩ := h
    exact ⟨_, rfl, rp_key o⟩
  | _, _, i + 1, k, v, .cons o r t, h => by
    obtain ⟨d, e, q⟩ := rpK_keys (i := i) (k := k) (v := v) t (by simpa using h)
    exact ⟨d, by simpa using e, q⟩
theorem walk_keys {G : Hp} {p : Addr} {od : Obj} {xs : List (Key × V)} {l : List (Key × D)} (e : G p = some (.frz od (.dK xs))) (r : RpK M.K M.cn G xs l) (hz : xs.length ≤ sizeLine) : WalkD M G (Itk p od xs) (l.map fun kv => kD kv.1) := by
  have hl := r.length
  refine ⟨by rw [List.length_map]; omega, fun i H h s => ?_, fun H s => ?_, fun i H v H' h s y => ?_⟩
  · rw [List.length_map] at h
    exact ⟨s _ _ e, by omega⟩
  · exact ⟨s _ _ e, by rw [List.length_map]; omega⟩
  · obtain ⟨rfl, k, u, ek, rfl⟩ := y
    obtain ⟨d, e1, r1⟩ := rpK_keys r ek
    exact ⟨kD k, by rw [List.getElem?_map, e1]; rfl, .inl ⟨rfl, r1⟩⟩
def dKeys (l : List (Key × D)) : DIt := fun _ N R _ => R (l.map fun kv => kD kv.1) N
def dLcK (i : Nat) (g : DG) (t : DT) (e : DE) (vs : List Nat) : DE := fun δ N R Ex => match δ[i]? with
  | some (some (.dk l)) => l.length ≤ sizeLine ∧ dLc (dKeys l) g t e vs δ N R fun _ _ _ => False
  | _ => False
theorem se_lcK {g : TG} {tt : TT} {te : TE} {dg : DG} {dt : DT} {de : DE} {vs : List Nat} (i : Nat) (hk : M.cn.lk = none) (hg : ∀ p, SG (M.lkd p).nox vs g dg) (ht : ∀ p, ST (M.lkd p).nox tt dt) (he : ∀ p, SE (M.lkd p).nox te de) :
    SE M (tLockE (tLc (iKeys (tVar i)) g (ttFr tt) (tFr te) vs)) (dLcK i dg dt de vs) := fun σ H δ N Q R Ex w e h k kx => by
  unfold dLcK at h
  split at h
  · rename_i l hv
    obtain ⟨v, hs, rv⟩ := e.2 i _ hv
    cases rv with | dk hd rk => ?_
    rename_i p xs
    have hp : Gv M.m H p = some (.dK xs) := by
      rcases hd with hd | ⟨z, _⟩
      · exact hd
      · rw [hk] at z
        cases z
    refine ⟨p, .dK xs, gv_sub _ _ hp, trivial, fun od => ?_⟩
    obtain ⟨eg, w1⟩ := gv_upd (o := .frz od (.dK xs)) w hp
    have rk1 : RpK M.K (M.cn.lkd p) (upd (Gv M.m H) p (.frz od (.dK xs))) xs l := rk.lock hk (show DctO (.dK xs) from trivial) hp
    have e1 : EnvR (M.lkd p) (Gv M.m (upd H p (.frz od (.dK xs)))) σ δ := ⟨e.1, fun j d hj => by
      obtain ⟨v, a, b⟩ := e.2 j d hj
      exact ⟨v, a, by rw [eg]; exact b.lock hk (show DctO (.dK xs) from trivial) hp⟩⟩
    have g1 : Gv M.m (upd H p (.frz od (.dK xs))) p = some (.frz od (.dK xs)) := by
      rw [eg]
      exact upd_same
    refine lc_at (M := M.lkd p) (R := R) (Ex := fun _ _ _ => False) (N := N) (fun Rt R Ex q kk _ => ?_) (hg p) (ht p) (he p) e1 h.2 (fun v H' x N' w' s' r' q' => ?_) fun _ _ _ _ _ _ _ _ _ _ z => z.elim
    · refine ⟨_, hs, p, od, rfl, .inl ⟨xs, gv_sub _ _ g1, kk _ _ _ N w1 (Same.refl _) ?_ q⟩⟩
      refine walk_keys (M := M.lkd p) g1 ?_ (by rw [rk.length]; exact h.1)
      rw [eg]
      exact rk1
    · have g2 := s' _ _ g1
      refine ⟨gv_sub _ _ g2, ?_⟩
      obtain ⟨eg2, w2⟩ := gv_upd (o := .dK xs) w' g2
      refine k v _ x N' w2 (fun b o eb => ?_) (by rw [eg2]; exact r'.free hk g2) q'
      rw [eg2]
      by_cases c : b = p
      · subst c
        rw [upd_same]
        exact hp.symm.trans eb
      · rw [upd_ne c]
        refine s' _ _ ?_
        rw [eg, upd_ne c]
        exact eb
  · exact h.elim
end
end Dl

set_option Elab.async false
set_option linter.all false
set_option maxRecDepth 100000
set_option maxHeartbeats 2000000
namespace Dl
open PySem PySem.Spec PyProof.Rows L2 Rl Dr _root_.Tx Ex Er So Wi Vw
/-! ### a try, told whole -/
def tTry (K : PySem.W.Frag) (i : Nat) (Wo : WX) (tb : WX → TS) (l : List Try.Cl) : TS := fun D σ H => tb (Try.wEach K i Wo D l) D σ H
theorem ps_tryD {X : Cx} {n : Str} {i : Nat} {body : List Stmt} {h₀ : ExceptHandler} {hs : List ExceptHandler} {l : List Try.Cl} {pos : Pos} {tb : WX → TS} {Wo : WX} (hst : X.stack = X.env :: X.outer) (hfr : X.env.frame = some X.env.locals) (hN : X.N.Nodup) (hi : X.N[i]? = some n)
    (hl : X.env.kindOf n = some .local) (tk : Takes X Wo) (hb : ∀ (W : WX) (pn : List (Addr × Obj)) (xe : Value → Shared → Prop), Takes (X.tr pn xe) W → PassesOwn (model X.prog X.w) X.A X.env xe → PSs (X.tr pn xe) body (tb W))
    (hh : Try.Hds X n (h₀ :: hs) l) : PS X (.Try body (h₀ :: hs) [] [] pos) (tTry X.K i Wo tb l) := Try.ps_try_each hst hfr hN hi hl tk hb hh
theorem ss_tryD {M : Md} {i : Nat} {tb : WX → TS} {b : DS} {l : List Try.Cl} {hs : List DH} {ef : Nat → Option Str} (he : M.cn.ef = ef) (hb : ∀ W, SS { M with W := W } (tb W) b) (hh : Paired (SH M i) l hs) : SS M (tTry M.K i M.W tb l) (dTry ef i b hs) := by
  subst he
  exact ss_try hb hh
section
variable {M : Md} {mg : Str → Option Value} {nm : Str}
/-! ### starred items -/
def seqR (x : D) (k : List D → Prop) : Prop := match x with
  | .lst l => k l
  | .tup l => k l
  | _ => False
def dStar (a : DE) (r : DA) : DA := fun δ N R Ex => a δ N (fun x N1 => seqR x fun l => r δ N1 (fun ys N2 => R (l ++ ys) N2) Ex) Ex
theorem sa_star {te : TE} {t : TA} {a : DE} {r : DA} (ha : SE M te a) (hr : SA M t r) : SA M (StX.tStar M.K te t) (dStar a r) := fun σ H δ N Q R Ex w e h k kx =>
  ha σ H δ N _ _ Ex w e h (fun v H1 x N1 w1 s1 r1 q1 => by
    unfold seqR at q1
    split at q1
    · obtain ⟨p, xs, rfl, e1, rl⟩ := rp_lst r1
      exact ⟨p, xs, rfl, .inr (sq (gv_sub _ _ e1)), hr σ H1 δ N1 _ _ Ex w1 (e.mono s1) q1 (fun vs H2 ys N2 w2 s2 r2 q2 => k _ H2 _ N2 w2 (s1.trans s2) ((rl.mono s2).app r2) q2) (kx.mono s1)⟩
    · obtain ⟨p, xs, rfl, e1, rl⟩ := rp_tup r1
      exact ⟨p, xs, rfl, .inl (st (gv_sub _ _ e1)), hr σ H1 δ N1 _ _ Ex w1 (e.mono s1) q1 (fun vs H2 ys N2 w2 s2 r2 q2 => k _ H2 _ N2 w2 (s1.trans s2) ((rl.mono s2).app r2) q2) (kx.mono s1)⟩
    · exact q1.elim) kx
/-! ### isinstance of an own class -/
def dIsiO (c : Nat) (a : DE) : DE := fun δ N R Ex => a δ N (fun x N1 => match x with
  | .obj c' _ => c' = c ∧ R (.bl true) N1
  | x => plainD x = true ∧ R (.bl false) N1) Ex
theorem only_ty {x : D} (h : plainD x = true) : onlyTys (tyD x) = true := by
  cases x with
  | obj c l => cases h
  | sta s => cases h
  | exc a b c d => cases h
  | _ => dsimp only [tyD]; decide +kernel
theorem se_isiO {c : Nat} {te : TE} {a : DE} (W : WcE M.K mg nm) (oc : ObjCl M.K) (hc : M.cn.cm c = some W.C) (h : SE M te a) : SE M (tCB (rIsi M.K) (tCons te (tCons (tC (.ref W.C)) tNil))) (dIsiO c a) := fun σ H δ N Q R Ex w e q k kx =>
  h σ H δ N _ _ Ex w e q (fun v H1 x N1 w1 s1 r1 q1 => by
    split at q1
    · obtain ⟨rfl, q1⟩ := q1
      obtain ⟨b, C', dx, fs, rfl, e1, e2, _, _⟩ := rp_obj r1
      rw [hc] at e1
      cases e1
      exact ⟨.ref b, .ref W.C, _, _, true, rfl, .own _, W.ty_self oc (gv_sub _ _ e2), W.kit_self, k _ H1 _ N1 w1 s1 (.bl _) q1⟩
    · have ty := rp_ty (r1.mono gv_sub) q1.1
      exact ⟨v, .ref W.C, _, _, false, rfl, .own _, ty, W.kit_b (only_ty q1.1), k _ H1 _ N1 w1 s1 (.bl _) q1.2⟩) kx
/-! ### == of dicts of flat values -/
def flV : D → V
  | .bl b => .bl b
  | .int i => .int i
  | .str x => .str x
  | _ => .non
theorem flV_v {G : Hp} {v : V} {d : D} (r : Rp M.K M.cn G v d) (h : flatD d = true) : v = flV d ∧ flatV v = true := by
  cases r with
  | non => exact ⟨rfl, rfl⟩
  | bl b => exact ⟨rfl, rfl⟩
  | int i => exact ⟨rfl, rfl⟩
  | str x o => exact ⟨rfl, rfl⟩
  | _ => cases h
def kvV (l : List (Key × D)) : List (Key × V) := l.map fun p => (p.1, flV p.2)
def flatK (l : List (Key × D)) : Bool := l.all fun p => flatD p.2
theorem kvV_v {G : Hp} : ∀ {xs : List (Key × V)} {l : List (Key × D)}, RpK M.K M.cn G xs l → flatK l = true → xs = kvV l ∧ ∀ p ∈ xs, flatV p.2 = true
  | _, _, .nil, _ => ⟨rfl, by simp⟩
  | _, _, .cons (v := v) (d := d) o r t, h => by
    unfold flatK at h
    rw [List.all_cons, Bool.and_eq_true] at h
    obtain ⟨a, b⟩ := flV_v r h.1
    obtain ⟨c, e⟩ := kvV_v t h.2
    refine ⟨by rw [a, c]; rfl, fun p hp => ?_⟩
    rcases List.mem_cons.mp hp with rfl | hp
    · exact b
    · exact e p hp
theorem valV_in {kvs : List (Key × V)} {k : Key} {v : V} (h : valV kvs k = some v) : ∃ p ∈ kvs, p.2 = v := by
  unfold valV at h
  obtain ⟨p, a, b⟩ := Option.map_eq_some_iff.mp h
  exact ⟨p, List.mem_of_find?_eq_some a, b⟩
def dEqK : DOp := fun x y R => match x, y with
  | .dk l, .dk m => flatK l = true ∧ flatK m = true ∧ R (.bl (Cmp.eqKvs (kvV l) (kvV m)))
  | _, _ => False
theorem sr_eqK (hk : M.cn.lk = none) : SR M Cmp.rEqK dEqK := fun x y dx dy H N Q R w rx ry h k => by
  have pl : ∀ {v : V} {l : List (Key × D)}, Rp M.K M.cn (Gv M.m H) v (.dk l) → ∃ a xs, v = .ref a ∧ H a = some (.dK xs) ∧ RpK M.K M.cn (Gv M.m H) xs l := fun r => by
    cases r with | dk e t => ?_
    rcases e with e | ⟨z, _⟩
    · exact ⟨_, _, rfl, gv_sub _ _ e, t⟩
    · rw [hk] at z
      cases z
  unfold dEqK at h
  split at h
  · obtain ⟨a, xs, rfl, e1, t1⟩ := pl rx
    obtain ⟨b, ys, rfl, e2, t2⟩ := pl ry
    obtain ⟨z1, f1⟩ := kvV_v t1 h.1
    obtain ⟨z2, f2⟩ := kvV_v t2 h.2.1
    subst z1 z2
    refine ⟨a, b, _, _, rfl, rfl, e1, e2, f1, fun k' v hv => ?_, k _ H _ w (Same.refl _) (.bl _) h.2.2⟩
    obtain ⟨p, hp, rfl⟩ := valV_in hv
    exact f2 p hp
  · exact h.elim
end
end Dl

set_option Elab.async false
set_option linter.all false
set_option maxRecDepth 100000
set_option maxHeartbeats 2000000
namespace Dl
open PySem PySem.Spec PyProof.Rows L2 Rl Dr _root_.Tx Ex Er So Wi Vw
theorem sef_lc {M : Md} {wi : TI} {g : TG} {tt : TT} {te : TE} {it : DIt} {dg : DG} {dt : DT} {de : DE} {vs : List Nat} (hi : SIt M wi it) (hg : SG M.nox vs g dg) (ht : ST M.nox tt dt) (he : SE M.nox te de) : SEF M (tLc wi g (ttFr tt) (tFr te) vs) (dLc it dg dt de vs) := fun σ H δ N Q R Ex w e h k kx =>
  lc_core (fun Rt R Ex q k kx => hi σ H δ N Rt R Ex w e q k kx) hg ht he e h (fun A acc H2 ds N2 hA w2 s2 r2 q2 => k A (.lst acc) H2 (.lst ds) N2 hA w2 s2 r2 q2) kx
/-! ### comprehensions over data that draw nothing -/
/-- one item's turn: F says what is laid -/
def LcStep (g : DG) (t : DT) (e : DE) (δ : DEnv) (N : Nat) (F : D → Option D) (x : D) : Prop := ∀ C : Option D → Nat → Prop, C (F x) N → g x δ fun δ' => t δ' N (fun b N1 => if b = true then e δ' N1 (fun y N2 => C (some y) N2) (fun _ _ _ => False) else C none N1) (fun _ _ _ => False)
theorem lc_f {g : DG} {t : DT} {e : DE} {δ : DEnv} {N : Nat} {R : RK} (F : D → Option D) : ∀ (items acc : List D), (∀ x ∈ items, LcStep g t e δ N F x) → R (.lst (acc ++ items.filterMap F)) N → lcGo g t e δ R items acc N
  | [], acc, _, q => by
    rw [List.filterMap_nil, List.append_nil] at q
    exact q
  | x :: r, acc, h, q => by
    refine h x (by simp) (fun o N' => match o with
      | some y => lcGo g t e δ R r (acc ++ [y]) N'
      | none => lcGo g t e δ R r acc N') ?_
    rw [List.filterMap_cons] at q
    cases c : F x with
    | none =>
      rw [c] at q
      exact lc_f F r acc (fun y hy => h y (List.mem_cons_of_mem _ hy)) q
    | some y =>
      rw [c] at q
      refine lc_f F r (acc ++ [y]) (fun y hy => h y (List.mem_cons_of_mem _ hy)) ?_
      rw [List.append_assoc]
      exact q
theorem in_f {g : DG} {t : DT} {e : DE} {δ : DEnv} {N : Nat} {nx : List D → Nat → Prop} (F : D → Option D) : ∀ (items acc : List D), (∀ x ∈ items, LcStep g t e δ N F x) → acc.length + items.length ≤ sizeLine → nx (acc ++ items.filterMap F) N → lcIn g t e δ nx items acc N
  | [], acc, _, _, q => by
    rw [List.filterMap_nil, List.append_nil] at q
    exact q
  | x :: r, acc, h, hl, q => by
    rw [List.length_cons] at hl
    refine h x (by simp) (fun o N' => match o with
      | some y => acc.length < sizeLine ∧ lcIn g t e δ nx r (acc ++ [y]) N'
      | none => lcIn g t e δ nx r acc N') ?_
    rw [List.filterMap_cons] at q
    cases c : F x with
    | none =>
      rw [c] at q
      exact in_f F r acc (fun y hy => h y (List.mem_cons_of_mem _ hy)) (by omega) q
    | some y =>
      rw [c] at q
      refine ⟨by omega, in_f F r (acc ++ [y]) (fun y hy => h y (List.mem_cons_of_mem _ hy)) (by rw [List.length_append]; simp; omega) ?_⟩
      rw [List.append_assoc]
      exact q
/-- one outer item's turn: f says what is laid -/
def Lc2Step (g : DG) (t : DT) (it1 : DIt) (g1 : DG) (t1 : DT) (e : DE) (vs1 : List Nat) (δ : DEnv) (N : Nat) (f : D → List D) (x : D) : Prop := ∀ (acc : List D) (C : List D → Nat → Prop), acc.length + (f x).length ≤ sizeLine → C (acc ++ f x) N →
  g x δ fun δ' => t δ' N (fun b N1 => if b = true then it1 δ' N1 (fun items1 N2 => lcIn g1 t1 e (dwipe δ' vs1) C items1 acc N2) (fun _ _ _ => False) else C acc N1) (fun _ _ _ => False)
theorem lc2_f {g : DG} {t : DT} {it1 : DIt} {g1 : DG} {t1 : DT} {e : DE} {vs1 : List Nat} {δ : DEnv} {N : Nat} {R : RK} (f : D → List D) : ∀ (items acc : List D), (∀ x ∈ items, Lc2Step g t it1 g1 t1 e vs1 δ N f x) → (acc ++ items.flatMap f).length ≤ sizeLine → R (.lst (acc ++ items.flatMap f)) N → lcGo2 g t it1 g1 t1 e vs1 δ R items acc N
  | [], acc, _, _, q => by
    rw [List.flatMap_nil, List.append_nil] at q
    exact q
  | x :: r, acc, h, hl, q => by
    rw [List.flatMap_cons, ← List.append_assoc] at hl q
    refine h x (by simp) acc (lcGo2 g t it1 g1 t1 e vs1 δ R r) ?_ (lc2_f f r (acc ++ f x) (fun y hy => h y (List.mem_cons_of_mem _ hy)) hl q)
    rw [List.length_append, List.length_append] at hl
    omega
/-- a dict's own way: what a comprehension over distinct keys lays -/
theorem dkGet_map {ks : List Str} {f : Str → D} {z : Str} : dkGet (ks.map fun y => ((Sum.inr y : Key), f y)) (.inr z) = if z ∈ ks then some (f z) else none := by
  unfold dkGet
  induction ks with
  | nil => rfl
  | cons y ks ih =>
    rw [List.map_cons, List.find?_cons]
    by_cases e : y = z
    · subst e
      simp
    · have n : ¬ ((Sum.inr y : Key) = Sum.inr z) := fun w => e (Sum.inr.inj w)
      rw [decide_eq_false n]
      dsimp only
      rw [ih]
      by_cases c : z ∈ ks
      · rw [if_pos c, if_pos (List.mem_cons_of_mem _ c)]
      · rw [if_neg c, if_neg fun w => by
          rcases List.mem_cons.mp w with w | w
          · exact e w.symm
          · exact c w]
/-! ### loops over data -/
theorem for_f {vs : List Nat} {g : DG} {b : DS} {E : DEnds} {items : List D} (I : List D → List Sl → Nat → Prop)
    (h : ∀ pre x post, items = pre ++ x :: post → ∀ δ N (nx : List Sl → Nat → Prop), I pre δ N → (∀ δ N, I (pre ++ [x]) δ N → nx δ N) → g x (hideS δ) fun δ' => noOwn vs δ ∧ b { E with nx := nx, ct := nx, bk := E.nx } (upS vs δ' δ) N)
    (fin : ∀ δ N, I items δ N → E.nx δ N) : ∀ (post pre : List D) (δ : List Sl) (N : Nat), items = pre ++ post → I pre δ N → forGo vs g b E post δ N
  | [], pre, δ, N, e, q => fin δ N (by rw [e, List.append_nil]; exact q)
  | x :: r, pre, δ, N, e, q => h pre x r e δ N _ q fun δ N q => for_f I h fin r (pre ++ [x]) δ N (by rw [List.append_assoc]; exact e) q
/-- the same, told by the number of turns -/
theorem for_0 {vs : List Nat} {g : DG} {b : DS} {E : DEnds} {items : List D} (I : List D → List Sl → Nat → Prop)
    (h : ∀ pre x post, items = pre ++ x :: post → ∀ δ N (nx : List Sl → Nat → Prop), I pre δ N → (∀ δ N, I (pre ++ [x]) δ N → nx δ N) → g x (hideS δ) fun δ' => noOwn vs δ ∧ b { E with nx := nx, ct := nx, bk := E.nx } (upS vs δ' δ) N)
    (fin : ∀ δ N, I items δ N → E.nx δ N) {δ : List Sl} {N : Nat} (q : I [] δ N) : forGo vs g b E items δ N := for_f I h fin items [] δ N rfl q
end Dl

set_option Elab.async false
set_option linter.all false
set_option maxRecDepth 100000
set_option maxHeartbeats 2000000
namespace Dl
open PySem PySem.Spec PyProof.Rows L2 Rl Dr _root_.Tx Ex Er So Wi Vw
/-! ### plain data: what == says of them -/
inductive Pl : Nat → D → Prop
  | non {n : Nat} : Pl n .non
  | bl {n : Nat} (b : Bool) : Pl n (.bl b)
  | int {n : Nat} (i : Int) : Pl n (.int i)
  | str {n : Nat} (x : Str) : Pl n (.str x)
  | tup {n : Nat} {l : List D} : (∀ d ∈ l, Pl n d) → Pl (n + 1) (.tup l)
  | lst {n : Nat} {l : List D} : (∀ d ∈ l, Pl n d) → Pl (n + 1) (.lst l)
theorem Pl.mono : ∀ {n : Nat} {d : D}, Pl n d → ∀ {m : Nat}, n ≤ m → Pl m d
  | _, _, .non, _, _ => .non
  | _, _, .bl b, _, _ => .bl b
  | _, _, .int i, _, _ => .int i
  | _, _, .str x, _, _ => .str x
  | n + 1, _, .tup h, m, hm => by
    obtain ⟨k, rfl⟩ : ∃ k, m = k + 1 := ⟨m - 1, by omega⟩
    exact .tup fun d hd => Pl.mono (h d hd) (by omega)
  | n + 1, _, .lst h, m, hm => by
    obtain ⟨k, rfl⟩ : ∃ k, m = k + 1 := ⟨m - 1, by omega⟩
    exact .lst fun d hd => Pl.mono (h d hd) (by omega)
theorem pl_list {n : Nat} (ih : ∀ d, Pl n d → ∃ p, toPy d = some p ∧ PyData.eqv p p = true ∧ p.depth ≤ n + 1) : ∀ l : List D, (∀ d ∈ l, Pl n d) → ∃ ps, toPyA l = some ps ∧ PyData.eqvAll ps ps = true ∧ PyData.depthAll ps ≤ n + 1
  | [], _ => ⟨[], by unfold toPyA; rfl, rfl, by simp [PyData.depthAll]⟩
  | d :: r, h => by
    obtain ⟨p, a, b, c⟩ := ih d (h d (by simp))
    obtain ⟨ps, a2, b2, c2⟩ := pl_list ih r fun x hx => h x (List.mem_cons_of_mem _ hx)
    refine ⟨p :: ps, ?_, ?_, ?_⟩
    · unfold toPyA
      rw [a, a2]
    · rw [PyData.eqvAll, b, b2]; rfl
    · simp only [PyData.depthAll]
      omega
theorem pl_py : ∀ (n : Nat) (d : D), Pl n d → ∃ p, toPy d = some p ∧ PyData.eqv p p = true ∧ p.depth ≤ n + 1
  | _, _, .non => ⟨.none, by unfold toPy; rfl, rfl, by simp [PyData.depth]⟩
  | _, _, .bl b => ⟨.bool b, by unfold toPy; rfl, by simp [PyData.eqv], by simp [PyData.depth]⟩
  | _, _, .int i => ⟨.int i, by unfold toPy; rfl, by simp [PyData.eqv], by simp [PyData.depth]⟩
  | _, _, .str x => ⟨.str x, by unfold toPy; rfl, by simp [PyData.eqv], by simp [PyData.depth]⟩
  | n + 1, _, .tup (l := l) h => by
    obtain ⟨ps, a, b, c⟩ := pl_list (pl_py n) l h
    exact ⟨.tuple ps, by unfold toPy; rw [a]; rfl, by rw [PyData.eqv]; exact b, by simp only [PyData.depth]; omega⟩
  | n + 1, _, .lst (l := l) h => by
    obtain ⟨ps, a, b, c⟩ := pl_list (pl_py n) l h
    exact ⟨.list ps, by unfold toPy; rw [a]; rfl, by rw [PyData.eqv]; exact b, by simp only [PyData.depth]; omega⟩
theorem eq_same {n : Nat} {d : D} {f : Bool → Bool} {R : D → Prop} (h : Pl n d) (hn : n ≤ 60) (k : R (.bl (f true))) : dEqB f d d R := by
  obtain ⟨p, a, b, c⟩ := pl_py n d h
  unfold dEqB
  rw [a]
  refine ⟨by omega, by omega, ?_⟩
  rw [b]
  exact k
end Dl

set_option Elab.async false
set_option linter.all false
set_option maxRecDepth 100000
set_option maxHeartbeats 2000000
namespace Dl
open PySem PySem.Spec PyProof.Rows L2 Rl Dr _root_.Tx Ex Er So Wi Vw
/-! ### statements that store into some slots alone; a thing of the def's own given back behind them -/
def Kept (W : List Nat) (σ σ' : L2.St) : Prop := σ'.length = σ.length ∧ ∀ j, j ∉ W → σ'[j]? = σ[j]?
theorem Kept.refl {W : List Nat} {σ : L2.St} : Kept W σ σ := ⟨rfl, fun _ _ => rfl⟩
theorem Kept.set {W : List Nat} {σ σ' : L2.St} {i : Nat} {u : Option V} (h : Kept W σ σ') (hi : i ∈ W) : Kept W σ (σ'.set i u) := ⟨by rw [List.length_set]; exact h.1, fun j hj => by
  have n : i ≠ j := fun z => by
    rw [← z] at hj
    exact hj hi
  rw [List.getElem?_set_ne n]
  exact h.2 j hj⟩
structure EndRk (σ : L2.St) (W : List Nat) (M : Md) (G0 : Hp) (Dd : Ends) (E : DEnds) : Prop where
  nx : ∀ σ' H' δ' N', SI M G0 N' H' σ' δ' → Kept W σ σ' → E.nx δ' N' → Dd.nx σ' H'
  rt : ∀ v H' x N', Wok M.m N' H' → Same G0 (Gv M.m H') → Rp M.K M.cn (Gv M.m H') v x → E.rt x N' → Dd.rt v H'
  bk : ∀ σ' H' δ' N', SI M G0 N' H' σ' δ' → Kept W σ σ' → E.bk δ' N' → Dd.bk σ' H'
  ct : ∀ σ' H' δ' N', SI M G0 N' H' σ' δ' → Kept W σ σ' → E.ct δ' N' → Dd.ct σ' H'
  ex : ∀ c C x dx σ' H' δ' N', M.cn.xm c = some C → Wok M.m N' H' → Same G0 (Gv M.m H') → EnvR M (Gv M.m H') σ' δ' → XdR M (Gv M.m H') c dx x → E.ex c x δ' N' → M.W (.ref C) dx σ' H'
section
variable {M : Md}
theorem EndRk.G {σ : L2.St} {W : List Nat} {G0 G1 : Hp} {Dd : Ends} {E : DEnds} (h : EndRk σ W M G0 Dd E) (s : Same G0 G1) : EndRk σ W M G1 Dd E :=
  ⟨fun _ _ _ _ S => h.nx _ _ _ _ (S.G s), fun _ _ _ _ w t => h.rt _ _ _ _ w (s.trans t), fun _ _ _ _ S => h.bk _ _ _ _ (S.G s), fun _ _ _ _ S => h.ct _ _ _ _ (S.G s), fun _ _ _ _ _ _ _ _ a w t => h.ex _ _ _ _ _ _ _ _ a w (s.trans t)⟩
/-- what an expression asks of the ends -/
theorem EndRk.x {σ : L2.St} {W : List Nat} {G0 : Hp} {Dd : Ends} {E : DEnds} (h : EndRk σ W M G0 Dd E) : EndR M G0 ⟨fun _ _ => True, Dd.rt, fun _ _ => True, fun _ _ => True⟩ E :=
  ⟨fun _ _ _ _ _ _ => trivial, h.rt, fun _ _ _ _ _ _ => trivial, fun _ _ _ _ _ _ => trivial, h.ex⟩
def SSk (W : List Nat) (M : Md) (t : TS) (d : DS) : Prop := ∀ G0 Dd σ0 σ H δ N E, Kept W σ0 σ → SI M G0 N H σ δ → d E δ N → EndRk σ0 W M G0 Dd E → t Dd σ H
variable {W : List Nat}
theorem ssk_next : SSk W M tNext dNext := fun G0 Dd σ0 σ H δ N E k S h e => e.nx _ _ _ _ S k h
theorem ssk_seq {t u : TS} {a b : DS} (ha : SSk W M t a) (hb : SSk W M u b) : SSk W M (tSeq t u) (dSeqS a b) := fun G0 Dd σ0 σ H δ N E k S h e =>
  ha G0 _ σ0 σ H δ N _ k S h ⟨fun σ' H' δ' N' S' k' q => hb G0 Dd σ0 σ' H' δ' N' E k' S' q e, e.rt, e.bk, e.ct, e.ex⟩
theorem ssk_ret {te : TE} {de : DE} (r : List Nat) (h : SE M te de) : SSk W M (tRet (tFr te)) (dRet r de) := fun G0 Dd σ0 σ H δ N E k S q e =>
  ev_e h r S e.x q fun v H' x N' F' S' rx qx => by
    obtain ⟨w, s⟩ := wok_of_dels F'.wok
    exact e.rt v H' x N' w (F'.sub.trans s) (rx.mono s) qx
theorem ssk_set {te : TE} {de : DE} (r : List Nat) (i : Nat) (h : SE M te de) (hi : i ∈ W := by decide) : SSk W M (psFr (tAsg te (gName i))) (dSet r i de) := fun G0 Dd σ0 σ H δ N E k S q e => by
  show tFr te σ H (fun v H' => Dd.nx (σ.set i (some v)) H')
  exact ev_e h r S e.x q fun v H' x N' F' S' rx qx => by
    obtain ⟨K, rk⟩ := keep_at F' S' rx
    exact e.nx _ _ _ _ (K.set rk) (k.set hi) qx
theorem ssk_expr {te : TE} {de : DE} (r : List Nat) (h : SE M te de) : SSk W M (tDrop (tFr te)) (dExpr r de) := fun G0 Dd σ0 σ H δ N E k S q e =>
  ev_e h r S e.x q fun v H' x N' F' S' rx qx => e.nx _ _ _ _ S' k qx
theorem ssk_if {tc : TT} {ta tb : TS} {c : DT} {a b : DS} (r : List Nat) (hc : ST M tc c) (ha : SSk W M ta a) (hb : SSk W M tb b) : SSk W M (tIfS (ttFr tc) ta tb) (dIfS r c a b) := fun G0 Dd σ0 σ H δ N E k S q e => by
  show ttFr tc σ H (fun z H1 => if z = true then ta Dd σ H1 else tb Dd σ H1)
  exact ev_t hc r S e.x q fun z H' N' S' qx => by
    by_cases c0 : z = true
    · rw [if_pos c0] at qx ⊢
      exact ha G0 Dd σ0 σ H' δ N' E k S' qx e
    · rw [if_neg c0] at qx ⊢
      exact hb G0 Dd σ0 σ H' δ N' E k S' qx e
theorem fork_go {g : TG} {tb : TS} {dg : DG} {b : DS} {vs : List Nat} (hg : SG M vs g dg) (hv : ∀ i ∈ vs, i ∈ W) (hb : SSk W M tb b) {G0 G1 H : Hp} {Dd : Ends} {E : DEnds} {σ0 σ : L2.St} {δ : List Sl} {N : Nat} {J : It} {items : List D} (k : Kept W σ0 σ) (S : SI M G1 N H σ δ) (Wk : WalkD M G1 J items) (s01 : Same G0 G1)
    (q : forGo vs dg b E items δ N) (e : EndRk σ0 W M G0 Dd E) : ∃ W : Nat → Nat → L2.St → Hp → Prop, (∃ m, W 0 m σ H) ∧ ∀ i m σ H, W i m σ H → (J.stop i H ∧ Dd.nx σ H) ∨ (J.go i H ∧ ∃ N : L2.St → Hp → Prop, (∀ σ' H', N σ' H' → ∃ m', m' < m ∧ W (i + 1) m' σ' H') ∧ ∀ x H', J.yld i H x H' → g x σ H' fun σ2 H2 => tb { Dd with nx := N, ct := N, bk := Dd.nx } σ2 H2) := by
  refine ⟨fun i mm σ H => ∃ δ N, mm = items.length - i ∧ i ≤ items.length ∧ Kept W σ0 σ ∧ SI M G1 N H σ δ ∧ forGo vs dg b E (items.drop i) δ N, ⟨items.length, δ, N, rfl, Nat.zero_le _, k, S, q⟩, ?_⟩
  rintro i mm σ2 H2 ⟨δ2, N2, rfl, hi, k2, S2, q2⟩
  have W2 := Wk.mono S2.sub
  by_cases hlt : i < items.length
  · refine .inr ⟨W2.go i H2 hlt vis_sub, fun σ H => ∃ δ N, Kept W σ0 σ ∧ SI M G1 N H σ δ ∧ forGo vs dg b E (items.drop (i + 1)) δ N, fun σ' H' ⟨δ', N', a, b, c⟩ => ⟨items.length - (i + 1), by omega, δ', N', rfl, hlt, a, b, c⟩, fun x H3 y => ?_⟩
    obtain ⟨d, ed, hp, hh, w3, s3, r3⟩ := yld_aside W2 hlt S2.hid S2.wok (Same.refl _) y
    have S3 : SI M G1 N2 H3 σ2 δ2 := ⟨S2.len, w3, S2.sub.trans s3, fun i d h => by
      obtain ⟨v, a, b⟩ := S2.val i d h
      exact ⟨v, a, b.mono s3⟩, fun i d h => by
      obtain ⟨p, ho, a, b, c⟩ := S2.own i d h
      exact ⟨p, ho, a, by rw [hp p (mem_owns.mpr ⟨i, d, h, a⟩)]; exact b, c.mono s3⟩, S2.dis⟩
    rw [List.drop_eq_getElem_cons hlt] at q2
    have ed' : items[i] = d := by
      rw [List.getElem?_eq_getElem hlt] at ed
      exact Option.some.inj ed
    rw [ed'] at q2
    refine hg x d σ2 H3 _ (hideS δ2) _ _ vis_sub r3 S3.env q2 fun σ' δ' l1 l2 o1 e1 q3 => ?_
    have S4 := S3.up q3.1 l1 e1 fun i hi => (o1 i hi).1
    have k4 : Kept W σ0 σ' := ⟨l1.trans k2.1, fun j hj => ((o1 j fun z => hj (hv j z)).1).trans (k2.2 j hj)⟩
    exact hb G1 _ σ0 σ' H3 _ N2 _ k4 S4 q3.2 ⟨fun σ5 H5 δ5 N5 S5 k5 q5 => ⟨δ5, N5, k5, S5, q5⟩, (e.G s01).rt, fun σ5 H5 δ5 N5 S5 k5 q5 => e.nx _ _ _ _ (S5.G s01) k5 q5, fun σ5 H5 δ5 N5 S5 k5 q5 => ⟨δ5, N5, k5, S5, q5⟩, (e.G s01).ex⟩
  · have ei : i = items.length := by omega
    subst ei
    rw [List.drop_length] at q2
    exact .inl ⟨W2.stop H2 vis_sub, e.nx _ _ _ _ (S2.G s01) k2 q2⟩
theorem ssk_for {wi : TI} {it : DIt} {g : TG} {dg : DG} {tb : TS} {b : DS} {vs : List Nat} (r : List Nat) (hi : SIt M wi it) (hg : SG M vs g dg) (hb : SSk W M tb b) (hv : ∀ i ∈ vs, i ∈ W := by decide) : SSk W M (tFor (tiFr wi) g tb) (dFor r it vs dg b) := fun G0 Dd σ0 σ H δ N E k S q e =>
  ev_i hi r S e.x q fun J H' items N' F' Wk qx => fork_go hg hv hb k F'.self Wk F'.sub qx e
/-! a thing given back: what was stored meanwhile is forgotten -/
def bk1 (i : Nat) (W : List Nat) (j : Nat) (y : Sl) : Sl := if W.elem j = true then .no else match y with
  | .v d => .v d
  | .o d => if j == i then .o d else .no
  | .no => .no
def bkGo (i : Nat) (W : List Nat) : Nat → List Sl → List Sl
  | _, [] => []
  | j, y :: r => bk1 i W j y :: bkGo i W (j + 1) r
theorem bkGo_len {i : Nat} {W : List Nat} : ∀ {l : List Sl} {n : Nat}, (bkGo i W n l).length = l.length
  | [], _ => rfl
  | y :: r, n => by
    show (bkGo i W (n + 1) r).length + 1 = r.length + 1
    rw [bkGo_len]
theorem bkGo_get {i : Nat} {W : List Nat} : ∀ {l : List Sl} {n j : Nat}, (bkGo i W n l)[j]? = (l[j]?).map (bk1 i W (n + j))
  | [], _, _ => by simp [bkGo]
  | y :: r, n, 0 => rfl
  | y :: r, n, j + 1 => by
    show (bkGo i W (n + 1) r)[j]? = (r[j]?).map _
    rw [bkGo_get, show n + 1 + j = n + (j + 1) by omega]
def dBack (i : Nat) (W : List Nat) (d : DS) : DS := fun E δ N => match δ[i]? with
  | some (.o _) => W.elem i = false ∧ d ⟨fun _ N' => E.nx (bkGo i W 0 δ) N', E.rt, fun _ _ => False, fun _ _ => False, E.ex⟩ (frz1 δ i) N
  | _ => False
theorem SI.frz1_at {G0 H : Hp} {σ : L2.St} {δ : List Sl} {N i : Nat} {d : D} {p : Addr} {ho : HO} (S : SI M G0 N H σ δ) (e : δ[i]? = some (Sl.o d)) (a : σ[i]? = some (some (.ref p))) (b : H p = some ho) : Gv M.m (vis H σ (Dl.frz1 δ i)) p = some ho := by
  have np : p ∈ owns σ δ := mem_owns.mpr ⟨i, d, e, a⟩
  have hi := get_lt e
  have ed : Dl.frz1 δ i = δ.set i (Sl.v d) := by
    unfold Dl.frz1
    rw [e]
  have mem : ∀ q, q ∈ owns σ (δ.set i (Sl.v d)) ↔ q ∈ owns σ δ ∧ q ≠ p := fun q => by
    rw [mem_owns, mem_owns]
    constructor
    · rintro ⟨j, d2, h1, h2⟩
      rcases set_get h1 with ⟨rfl, _, z⟩ | ⟨n, z⟩
      · cases z
      · refine ⟨⟨j, d2, z, h2⟩, fun y => ?_⟩
        subst y
        exact n (S.dis i j d d2 q e z a h2)
    · rintro ⟨⟨j, d2, h1, h2⟩, n⟩
      have c : i ≠ j := fun y => by
        subst y
        rw [a] at h2
        cases h2
        exact n rfl
      exact ⟨j, d2, by rw [List.getElem?_set_ne c]; exact h1, h2⟩
  have ev : vis H σ (δ.set i (Sl.v d)) = upd (vis H σ δ) p ho := by
    funext q
    unfold vis
    by_cases c1 : q = p
    · subst c1
      rw [upd_same, dels_out (fun z => ((mem q).mp z).2 rfl), b]
    · rw [upd_ne c1]
      by_cases c2 : q ∈ owns σ δ
      · rw [dels_in c2, dels_in ((mem q).mpr ⟨c2, c1⟩)]
      · rw [dels_out c2, dels_out fun z => c2 ((mem q).mp z).1]
  obtain ⟨_, _, e2⟩ := gv_new ho S.wok (dels_in (H := H) np)
  rw [ed, ev]
  exact e2
theorem bk1_v {i j : Nat} {y : Sl} {d : D} (h : bk1 i W j y = .v d) : j ∉ W ∧ y = .v d := by
  unfold bk1 at h
  split at h
  · cases h
  · rename_i n
    refine ⟨fun z => n (List.elem_eq_true_of_mem z), ?_⟩
    split at h
    · exact h
    · split at h <;> cases h
    · cases h
theorem bk1_o {i j : Nat} {y : Sl} {d : D} (h : bk1 i W j y = .o d) : j = i ∧ j ∉ W ∧ y = .o d := by
  unfold bk1 at h
  split at h
  · cases h
  · rename_i n
    split at h
    · cases h
    · split at h
      · rename_i c
        exact ⟨by simpa using c, fun z => n (List.elem_eq_true_of_mem z), h⟩
      · cases h
    · cases h
theorem SI.back {G0 H H' : Hp} {σ σ' : L2.St} {δ δ' : List Sl} {N N' i : Nat} {x : D} (S : SI M G0 N H σ δ) (ex : δ[i]? = some (Sl.o x)) (nW : i ∉ W) (S' : SI M (Gv M.m (vis H σ (Dl.frz1 δ i))) N' H' σ' δ') (kp : Kept W σ σ') : SI M G0 N' H' σ' (bkGo i W 0 δ) := by
  obtain ⟨p, ho, ep, eh, oh⟩ := S.own i x ex
  obtain ⟨F, sF⟩ := S.frz1 i
  have vp := S.frz1_at ex ep eh
  have np : p ∈ owns σ δ := mem_owns.mpr ⟨i, x, ex, ep⟩
  have ep' : σ'[i]? = some (some (.ref p)) := by rw [kp.2 i nW]; exact ep
  have get : ∀ {j : Nat} {y : Sl}, (bkGo i W 0 δ)[j]? = some y → ∃ z, δ[j]? = some z ∧ bk1 i W j z = y := fun {j y} h => by
    rw [bkGo_get, Nat.zero_add] at h
    cases c : δ[j]? with
    | none =>
      rw [c] at h
      cases h
    | some z =>
      rw [c] at h
      exact ⟨z, rfl, Option.some.inj h⟩
  have mem : ∀ q, q ∈ owns σ' (bkGo i W 0 δ) ↔ q = p := fun q => by
    rw [mem_owns]
    constructor
    · rintro ⟨j, d, h1, h2⟩
      obtain ⟨z, hz, hb⟩ := get h1
      obtain ⟨rfl, _, _⟩ := bk1_o hb
      rw [ep'] at h2
      cases h2
      rfl
    · rintro rfl
      refine ⟨i, x, ?_, ep'⟩
      rw [bkGo_get, Nat.zero_add, ex]
      show some (bk1 i W i (.o x)) = some (.o x)
      unfold bk1
      rw [if_neg (fun z => nW (List.mem_of_elem_eq_true z))]
      show some (if (i == i) = true then Sl.o x else .no) = _
      rw [if_pos (by simp)]
  obtain ⟨w1, s1⟩ := wok_of_dels S'.wok
  have gs : Same (Gv M.m (vis H σ (Dl.frz1 δ i))) (Gv M.m H') := S'.sub.trans s1
  have at_ := gs _ _ vp
  obtain ⟨w2, ev⟩ := wok_dels (l := owns σ' (bkGo i W 0 δ)) w1 fun q hq => by
    rw [(mem q).mp hq]
    exact ⟨ho, at_⟩
  have sv : Same (Gv M.m (vis H σ δ)) (Gv M.m (vis H' σ' (bkGo i W 0 δ))) := fun b o hb => by
    show Gv M.m (dels H' _) b = some o
    rw [ev, dels_out fun q => ?_]
    · exact gs _ _ (sF _ _ hb)
    · have e := (mem b).mp q
      have z : dels H (owns σ δ) b = some o := gv_sub _ _ hb
      rw [dels_in (by rw [e]; exact np)] at z
      cases z
  refine ⟨by rw [bkGo_len, kp.1]; exact S.len, w2, S.sub.trans sv, fun j d h => ?_, fun j d h => ?_, fun j k d e q h1 h2 h3 h4 => ?_⟩
  · obtain ⟨z, hz, hb⟩ := get h
    obtain ⟨nj, rfl⟩ := bk1_v hb
    obtain ⟨v, a, b⟩ := S.val j d hz
    exact ⟨v, by rw [kp.2 j nj]; exact a, b.mono sv⟩
  · obtain ⟨z, hz, hb⟩ := get h
    obtain ⟨rfl, nj, rfl⟩ := bk1_o hb
    rw [ex] at hz
    cases hz
    exact ⟨p, ho, ep', gv_sub _ _ at_, oh.mono sv⟩
  · obtain ⟨z, hz, hb⟩ := get h1
    obtain ⟨z2, hz2, hb2⟩ := get h2
    rw [(bk1_o hb).1, (bk1_o hb2).1]
theorem ss_back {t : TS} {d : DS} (i : Nat) (h : SSk W M t d) : SS M t (dBack i W d) := fun G0 Dd σ H δ N E S q e => by
  unfold dBack at q
  split at q
  · rename_i x ex
    obtain ⟨nW, q⟩ := q
    have nW' : i ∉ W := fun z => by
      rw [List.elem_eq_true_of_mem z] at nW
      cases nW
    obtain ⟨F, sF⟩ := S.frz1 i
    have s0 := S.sub.trans sF
    exact h _ Dd σ σ H _ N _ Kept.refl F.self q ⟨fun σ' H' δ' N' S' kp q' => e.nx _ _ _ _ (S.back ex nW' S' kp) q', fun v H' x N' w s r q => e.rt v H' x N' w (s0.trans s) r q, fun _ _ _ _ _ _ z => z.elim, fun _ _ _ _ _ _ z => z.elim,
      fun c C y dx σ' H' δ' N' a w s en xd q => e.ex c C y dx σ' H' δ' N' a w (s0.trans s) en xd q⟩
  · exact q.elim
end
end Dl

set_option Elab.async false
set_option linter.all false
set_option maxRecDepth 100000
set_option maxHeartbeats 2000000
namespace Dl
open PySem PySem.Spec PyProof.Rows L2 Rl Dr _root_.Tx Ex Er So Wi Vw
/-! ### what a dict is walked by -/
def okKB : Key → Bool
  | .inl _ => true
  | .inr x => x.cps.toList.all fun c => decide (c < 128)
def keysI : D → Option (List D)
  | .dk l => some (l.map fun kv => kD kv.1)
  | .dt l => if (l.all fun kv => kv.1.all okKB) = true then some (l.map fun kv => .tup (kv.1.map kD)) else none
  | _ => none
section
variable {M : Md}
theorem rpA_keyT {G : Hp} : ∀ {ks : List Key}, ks.all okKB = true → RpA M.K M.cn G (ks.map kV) (ks.map kD)
  | [], _ => .nil
  | k :: r, h => by
    rw [List.all_cons, Bool.and_eq_true] at h
    refine .cons ?_ (rpA_keyT h.2)
    cases k with
    | inl i => exact .int i
    | inr x =>
      refine .str x fun c hc => ?_
      have := List.all_eq_true.mp h.1 c hc
      simpa using this
theorem rpT_keys {G : Hp} : ∀ {xs : List (List Key × V)} {l : List (List Key × D)} {i : Nat} {k : List Key} {v : V}, RpT M.K M.cn G xs l → xs[i]? = some (k, v) → ∃ d, l[i]? = some (k, d)
  | _, _, _, _, _, .nil, h => by simp at h
  | _, _, 0, _, _, .cons r t, h => by
    simp only [List.getElem?_cons_zero, Option.some.injEq, Prod.mk.injEq] at h
    obtain ⟨rfl, rfl⟩ := h
    exact ⟨_, rfl⟩
  | _, _, i + 1, k, v, .cons r t, h => by
    obtain ⟨d, e⟩ := rpT_keys (i := i) (k := k) (v := v) t (by simpa using h)
    exact ⟨d, by simpa using e⟩
theorem walk_keysT {G : Hp} {p : Addr} {od : Obj} {xs : List (List Key × V)} {l : List (List Key × D)} (e : G p = some (.frz od (.dT xs))) (r : RpT M.K M.cn G xs l) (ok : (l.all fun kv => kv.1.all okKB) = true) (hz : l.length ≤ sizeLine) : WalkD M G (Itkt p od xs) (l.map fun kv => .tup (kv.1.map kD)) := by
  have hl := RpT.length r
  refine ⟨by rw [List.length_map]; exact hz, fun i H h s => ?_, fun H s => ?_, fun i H v H' h s y => ?_⟩
  · rw [List.length_map] at h
    exact ⟨s _ _ e, by omega⟩
  · exact ⟨s _ _ e, by rw [List.length_map]; omega⟩
  · obtain ⟨rfl, k, u, q, ek, rfl, eq⟩ := y
    obtain ⟨d, e1⟩ := rpT_keys r ek
    have okk := List.all_eq_true.mp ok _ (List.mem_of_getElem? e1)
    exact ⟨.tup (k.map kD), by rw [List.getElem?_map, e1]; rfl, .inr (.inr ⟨q, _, _, rfl, rfl, eq, rfl, rpA_keyT okk⟩)⟩
/-- a dict of a slot, locked -/
theorem lock_at {H : Hp} {v : V} {d : D} {items : List D} {N : Nat} (hk : M.cn.lk = none) (w : Wok M.m N H) (r : Rp M.K M.cn (Gv M.m H) v d) (hi : keysI d = some items) (hz : items.length ≤ sizeLine) :
    ∃ p u, v = .ref p ∧ Gv M.m H p = some u ∧ DctO u ∧ Mut (some u) ∧ ∀ od, ∃ J, WalkD (M.lkd p) (upd (Gv M.m H) p (.frz od u)) J items ∧ ((∃ kvs, u = .dK kvs ∧ J = Itk p od kvs) ∨ ∃ kvs, u = .dT kvs ∧ J = Itkt p od kvs) := by
  cases r with
  | dk e t =>
    rename_i p kvs l
    have hp : Gv M.m H p = some (.dK kvs) := e.resolve_right fun ⟨z, _⟩ => by rw [hk] at z; cases z
    have ei : items = l.map fun kv => kD kv.1 := (Option.some.inj hi).symm
    subst ei
    refine ⟨p, .dK kvs, rfl, hp, trivial, trivial, fun od => ⟨_, walk_keys (M := M.lkd p) upd_same (t.lock hk (show DctO (.dK kvs) from trivial) hp) ?_, .inl ⟨_, rfl, rfl⟩⟩⟩
    rw [t.length]
    rw [List.length_map] at hz
    exact hz
  | dt e t =>
    rename_i p kvs l
    have hp : Gv M.m H p = some (.dT kvs) := e.resolve_right fun ⟨z, _⟩ => by rw [hk] at z; cases z
    have hi' : (if (l.all fun kv => kv.1.all okKB) = true then some (l.map fun kv => D.tup (kv.1.map kD)) else none) = some items := hi
    by_cases ok : (l.all fun kv => kv.1.all okKB) = true
    · rw [if_pos ok] at hi'
      obtain rfl := Option.some.inj hi'
      rw [List.length_map] at hz
      exact ⟨p, .dT kvs, rfl, hp, trivial, trivial, fun od => ⟨_, walk_keysT (M := M.lkd p) upd_same (t.lock hk (show DctO (.dT kvs) from trivial) hp) ok hz, .inr ⟨_, rfl, rfl⟩⟩⟩
    · rw [if_neg ok] at hi'
      cases hi'
  | _ => cases hi
/-! a list comprehension over a dict's keys -/
def dLcD (i : Nat) (g : DG) (t : DT) (e : DE) (vs : List Nat) : DE := fun δ N R Ex => match δ[i]? with
  | some (some d) => (match keysI d with
    | some items => items.length ≤ sizeLine ∧ dLc (fun _ N R _ => R items N) g t e vs δ N R fun _ _ _ => False
    | none => False)
  | _ => False
theorem se_lcD {g : TG} {tt : TT} {te : TE} {dg : DG} {dt : DT} {de : DE} {vs : List Nat} (i : Nat) (hk : M.cn.lk = none) (hg : ∀ p, SG (M.lkd p).nox vs g dg) (ht : ∀ p, ST (M.lkd p).nox tt dt) (he : ∀ p, SE (M.lkd p).nox te de) :
    SE M (tLockE (tLc (iKeys (tVar i)) g (ttFr tt) (tFr te) vs)) (dLcD i dg dt de vs) := fun σ H δ N Q R Ex w e h k kx => by
  unfold dLcD at h
  split at h
  · rename_i d hv
    split at h
    · rename_i items hi
      obtain ⟨v, hs, rv⟩ := e.2 i _ hv
      obtain ⟨p, u, rfl, hp, hu, mu, hJ⟩ := lock_at hk w rv hi h.1
      refine ⟨p, u, gv_sub _ _ hp, mu, fun od => ?_⟩
      obtain ⟨J, Wk, cJ⟩ := hJ od
      obtain ⟨eg, w1⟩ := gv_upd (o := .frz od u) w hp
      rw [← eg] at Wk
      have e1 : EnvR (M.lkd p) (Gv M.m (upd H p (.frz od u))) σ δ := ⟨e.1, fun j d hj => by
        obtain ⟨v, a, b⟩ := e.2 j d hj
        exact ⟨v, a, by rw [eg]; exact b.lock hk hu hp⟩⟩
      have g1 : Gv M.m (upd H p (.frz od u)) p = some (.frz od u) := by
        rw [eg]
        exact upd_same
      refine lc_at (M := M.lkd p) (R := R) (Ex := fun _ _ _ => False) (N := N) (fun Rt R Ex q kk _ => ?_) (hg p) (ht p) (he p) e1 h.2 (fun v H' x N' w' s' r' q' => ?_) fun _ _ _ _ _ _ _ _ _ _ z => z.elim
      · have go := kk J _ _ N w1 (Same.refl _) Wk q
        rcases cJ with ⟨kvs, rfl, rfl⟩ | ⟨kvs, rfl, rfl⟩
        · exact ⟨_, hs, p, od, rfl, .inl ⟨kvs, gv_sub _ _ g1, go⟩⟩
        · exact ⟨_, hs, p, od, rfl, .inr ⟨kvs, gv_sub _ _ g1, go⟩⟩
      · have g2 := s' _ _ g1
        refine ⟨gv_sub _ _ g2, ?_⟩
        obtain ⟨eg2, w2⟩ := gv_upd (o := u) w' g2
        refine k v _ x N' w2 (fun b o eb => ?_) (by rw [eg2]; exact r'.free hk g2) q'
        rw [eg2]
        by_cases c : b = p
        · subst c
          rw [upd_same]
          exact hp.symm.trans eb
        · rw [upd_ne c]
          refine s' _ _ ?_
          rw [eg, upd_ne c]
          exact eb
    · exact h.elim
  · exact h.elim
/-! a dict comprehension: keys tuples of ints and texts -/
def dctGo (g : DG) (t : DT) (ek ev : DE) (δ : DEnv) (R : RK) : List D → List (List Key × D) → Nat → Prop
  | [], acc, N => R (.dt acc) N
  | x :: r, acc, N => g x δ fun δ' => t δ' N (fun b N1 => if b = true then ek δ' N1 (fun y N2 => ev δ' N2 (fun z N3 => keysR y fun k => dctGo g t ek ev δ R r (putD acc k z) N3) (fun _ _ _ => False)) (fun _ _ _ => False) else dctGo g t ek ev δ R r acc N1) (fun _ _ _ => False)
def dDcT (it : DIt) (g : DG) (t : DT) (ek ev : DE) (vs : List Nat) : DE := fun δ N R Ex => it δ N (fun items N1 => dctGo g t ek ev (dwipe δ vs) R items [] N1) Ex
theorem keysR_at {H : Hp} {v : V} {y : D} {p : List Key → Prop} (r : Rp M.K M.cn H v y) (h : keysR y p) : ∃ k b, v = .ref b ∧ H b = some (.tup (k.map kV)) ∧ p k := by
  unfold keysR at h
  split at h
  · split at h
    · rename_i ks e
      obtain ⟨b, vs, rfl, e2, q2⟩ := rp_tup r
      have ev := keysD_v q2 e
      subst ev
      exact ⟨ks, b, rfl, e2, h⟩
    · exact h.elim
  · exact h.elim
def DctS (M : Md) (A : Addr) (G : Hp) (H : Hp) (acc : List (List Key × V)) (ds : List (List Key × D)) (N : Nat) : Prop := H A = some (.dT acc) ∧ Wok M.m N (dels H [A]) ∧ Same G (Gv M.m (dels H [A])) ∧ RpT M.K M.cn (Gv M.m (dels H [A])) acc ds
theorem DctS.step {A : Addr} {G H H' : Hp} {acc : List (List Key × V)} {ds : List (List Key × D)} {N N' : Nat} (h : DctS M A G H acc ds N) (hp : ∀ p ∈ [A], H' p = H p) (w : Wok M.m N' (dels H' [A])) (s : Same (Gv M.m (dels H [A])) (Gv M.m (dels H' [A]))) : DctS M A G H' acc ds N' :=
  ⟨by rw [hp A (by simp)]; exact h.1, w, h.2.2.1.trans s, h.2.2.2.mono s⟩
theorem dct_core {wi : TI} {g : TG} {tt : TT} {tk tv : TE} {it : DIt} {dg : DG} {dt : DT} {ek ev : DE} {vs ws : List Nat} {σ : L2.St} {H : Hp} {δ : DEnv} {N : Nat} {Q : VK} {R : RK} {Ex : EK} (hi : SItA M wi it σ H δ N) (hg : SG M.nox ws g dg) (hw : ∀ i ∈ ws, i ∈ vs) (ht : ST M.nox tt dt) (hk : SE M.nox tk ek) (hv : SE M.nox tv ev)
    (e : EnvR M (Gv M.m H) σ δ) (h : dDcT it dg dt ek ev vs δ N R Ex) (k : ∀ v H' x N', Wok M.m N' H' → Same (Gv M.m H) (Gv M.m H') → Rp M.K M.cn (Gv M.m H') v x → R x N' → Q v H') (kx : XOk M σ H Ex) : DcT.tDcT wi g (ttFr tt) (tFr tk) (tFr tv) vs σ H Q := by
  refine hi _ _ Ex h (fun J H1 items N1 w1 s1 W q1 => ?_) kx
  intro A nA
  have L1 : DctS M A (Gv M.m H1) (upd H1 A (.dT [])) [] [] N1 := ⟨upd_same, by rw [dels_upd, dels_free nA]; exact w1, by rw [dels_upd, dels_free nA]; exact Same.refl _, .nil⟩
  refine ⟨fun i mm H => ∃ acc ds N, mm = items.length - i ∧ i ≤ items.length ∧ DctS M A (Gv M.m H1) H acc ds N ∧ ds.length ≤ i ∧ dctGo dg dt ek ev (dwipe δ vs) R (items.drop i) ds N, ⟨items.length, [], [], N1, rfl, Nat.zero_le _, L1, Nat.le_refl _, q1⟩, ?_⟩
  rintro i mm H2 ⟨acc, ds, N2, rfl, hi2, L2', la, q2⟩
  have W2 := W.mono L2'.2.2.1
  by_cases hlt : i < items.length
  · refine .inr ⟨W2.go i H2 hlt del_sub, fun H => ∃ acc ds N, DctS M A (Gv M.m H1) H acc ds N ∧ ds.length ≤ i + 1 ∧ dctGo dg dt ek ev (dwipe δ vs) R (items.drop (i + 1)) ds N, fun H' ⟨acc', ds', N', a, b, c⟩ => ⟨items.length - (i + 1), by omega, acc', ds', N', rfl, hlt, a, b, c⟩, fun x H3 y => ?_⟩
    obtain ⟨d, ed, hp, hh, w3, s3, r3⟩ := yld_aside W2 hlt (hid_one L2'.1 trivial) L2'.2.1 (Same.refl _) y
    have L3 := L2'.step hp w3 s3
    rw [List.drop_eq_getElem_cons hlt] at q2
    have ed' : items[i] = d := by
      rw [List.getElem?_eq_getElem hlt] at ed
      exact Option.some.inj ed
    rw [ed'] at q2
    refine hg x d (wipe σ vs) H3 _ (dwipe δ vs) _ _ del_sub r3 (envR_wipe ((e.mono s1).mono L3.2.2.1)) q2 fun σ' δ' l1 l2 o1 e1 q3 => ⟨wipe_in l1 (fun j hj => (o1 j hj).1) hw, ?_⟩
    refine fr_t ht hh w3 e1 q3 (fun b H4 N4 hp4 w4 s4 q4 => ?_) xok_never
    have L4 := L3.step hp4 w4 s4
    by_cases cb : b = true
    · rw [if_pos cb] at q4 ⊢
      refine fr_e hk (hid_one L4.1 trivial) w4 (e1.mono s4) q4 (fun u H5 y5 N5 hp5 w5 s5 r5 q5 => ?_) xok_never
      have L5 := L4.step hp5 w5 s5
      refine fr_e hv (hid_one L5.1 trivial) w5 ((e1.mono s4).mono s5) q5 (fun v H6 z6 N6 hp6 w6 s6 r6 q6 => ?_) xok_never
      have L6 := L5.step hp6 w6 s6
      obtain ⟨kk, b, rfl, eb, q7⟩ := keysR_at (r5.mono s6) q6
      have few := W.few
      have l6 := RpT.length L6.2.2.2
      have pl := putD_length ds kk z6
      exact ⟨acc, kk, b, rfl, dels_sub _ _ (gv_sub _ _ eb), L6.1, by omega, putK acc kk v, putD ds kk z6, N6, ⟨upd_same, by rw [dels_upd]; exact L6.2.1, by rw [dels_upd]; exact L6.2.2.1, by rw [dels_upd]; exact rpT_put L6.2.2.2 r6⟩, by omega, q7⟩
    · rw [if_neg cb] at q4 ⊢
      exact ⟨acc, ds, N4, L4, by omega, q4⟩
  · have ei : i = items.length := by omega
    subst ei
    rw [List.drop_length] at q2
    refine .inl ⟨W2.stop H2 del_sub, ?_⟩
    have nd : dels H2 [A] A = none := dels_in (by simp)
    obtain ⟨w5, s5, e5⟩ := gv_new (.dT acc) L2'.2.1 nd
    rw [upd_dels L2'.1] at w5 s5 e5
    exact k _ H2 _ N2 w5 (s1.trans (L2'.2.2.1.trans s5)) (.dt (.inl e5) (L2'.2.2.2.mono s5)) q2
theorem se_dcT {wi : TI} {g : TG} {tt : TT} {tk tv : TE} {it : DIt} {dg : DG} {dt : DT} {ek ev : DE} {vs ws : List Nat} (hi : SIt M wi it) (hg : SG M.nox ws g dg) (hw : ∀ i ∈ ws, i ∈ vs) (ht : ST M.nox tt dt) (hk : SE M.nox tk ek) (hv : SE M.nox tv ev) :
    SE M (DcT.tDcT wi g (ttFr tt) (tFr tk) (tFr tv) vs) (dDcT it dg dt ek ev vs) := fun σ H δ N Q R Ex w e h k kx =>
  dct_core (fun Rt R Ex q k kx => hi σ H δ N Rt R Ex w e q k kx) hg hw ht hk hv e h k kx
/-- over a locked dict's own keys -/
def dDcTD (i : Nat) (g : DG) (t : DT) (ek ev : DE) (vs : List Nat) : DE := fun δ N R Ex => match δ[i]? with
  | some (some d) => (match keysI d with
    | some items => items.length ≤ sizeLine ∧ dDcT (fun _ N R _ => R items N) g t ek ev vs δ N R fun _ _ _ => False
    | none => False)
  | _ => False
theorem se_dcTD {g : TG} {tt : TT} {tk tv : TE} {dg : DG} {dt : DT} {ek ev : DE} {vs ws : List Nat} (i : Nat) (hl : M.cn.lk = none) (hg : ∀ p, SG (M.lkd p).nox ws g dg) (hw : ∀ i ∈ ws, i ∈ vs) (ht : ∀ p, ST (M.lkd p).nox tt dt) (hk : ∀ p, SE (M.lkd p).nox tk ek) (hv : ∀ p, SE (M.lkd p).nox tv ev) :
    SE M (tLockE (DcT.tDcT (iKeys (tVar i)) g (ttFr tt) (tFr tk) (tFr tv) vs)) (dDcTD i dg dt ek ev vs) := fun σ H δ N Q R Ex w e h k kx => by
  unfold dDcTD at h
  split at h
  · rename_i d hd
    split at h
    · rename_i items hi
      obtain ⟨v, hs, rv⟩ := e.2 i _ hd
      obtain ⟨p, u, rfl, hp, hu, mu, hJ⟩ := lock_at hl w rv hi h.1
      refine ⟨p, u, gv_sub _ _ hp, mu, fun od => ?_⟩
      obtain ⟨J, Wk, cJ⟩ := hJ od
      obtain ⟨eg, w1⟩ := gv_upd (o := .frz od u) w hp
      rw [← eg] at Wk
      have e1 : EnvR (M.lkd p) (Gv M.m (upd H p (.frz od u))) σ δ := ⟨e.1, fun j d hj => by
        obtain ⟨v, a, b⟩ := e.2 j d hj
        exact ⟨v, a, by rw [eg]; exact b.lock hl hu hp⟩⟩
      have g1 : Gv M.m (upd H p (.frz od u)) p = some (.frz od u) := by
        rw [eg]
        exact upd_same
      refine dct_core (M := M.lkd p) (R := R) (Ex := fun _ _ _ => False) (N := N) (fun Rt R Ex q kk _ => ?_) (hg p) hw (ht p) (hk p) (hv p) e1 h.2 (fun v H' x N' w' s' r' q' => ?_) fun _ _ _ _ _ _ _ _ _ _ z => z.elim
      · have go := kk J _ _ N w1 (Same.refl _) Wk q
        rcases cJ with ⟨kvs, rfl, rfl⟩ | ⟨kvs, rfl, rfl⟩
        · exact ⟨_, hs, p, od, rfl, .inl ⟨kvs, gv_sub _ _ g1, go⟩⟩
        · exact ⟨_, hs, p, od, rfl, .inr ⟨kvs, gv_sub _ _ g1, go⟩⟩
      · have g2 := s' _ _ g1
        refine ⟨gv_sub _ _ g2, ?_⟩
        obtain ⟨eg2, w2⟩ := gv_upd (o := u) w' g2
        refine k v _ x N' w2 (fun b o eb => ?_) (by rw [eg2]; exact r'.free hl g2) q'
        rw [eg2]
        by_cases c : b = p
        · subst c
          rw [upd_same]
          exact hp.symm.trans eb
        · rw [upd_ne c]
          refine s' _ _ ?_
          rw [eg, upd_ne c]
          exact eb
    · exact h.elim
  · exact h.elim
end
end Dl

set_option Elab.async false
set_option linter.all false
set_option maxRecDepth 100000
set_option maxHeartbeats 2000000
namespace Dl
open PySem PySem.Spec PyProof.Rows L2 Rl Dr _root_.Tx Ex Er So Wi Vw
section
variable {M : Md}
/-! ### for over a dict's keys -/
def dForK (i : Nat) (vs : List Nat) (g : DG) (b : DS) : DS := fun E δ N => match δ[i]? with
  | some (.v d) => (match keysI d with
    | some items => items.length ≤ sizeLine ∧ forGo vs g b { E with ex := fun _ _ _ _ => False } items δ N
    | none => False)
  | _ => False
theorem vis_upd {H : Hp} {σ : L2.St} {δ : List Sl} {p : Addr} {o : HO} (n : p ∉ owns σ δ) : vis (upd H p o) σ δ = upd (vis H σ δ) p o := by
  funext q
  unfold vis
  by_cases c : q = p
  · subst c
    rw [upd_same, dels_out n, upd_same]
  · rw [upd_ne c]
    by_cases c2 : q ∈ owns σ δ
    · rw [dels_in c2, dels_in c2]
    · rw [dels_out c2, dels_out c2, upd_ne c]
theorem OwR.lock {K : PySem.W.Frag} {cn : Cn} {G : Hp} {p : Addr} {u : HO} {od : Obj} {ho : HO} {d : D} (hl : cn.lk = none) (hu : DctO u) (hp : G p = some u) (h : OwR K cn G ho d) : OwR K (cn.lkd p) (upd G p (.frz od u)) ho d := by
  unfold OwR at h ⊢
  split at h
  · exact RpA.lock hl hu hp h
  · exact RpK.lock hl hu hp h
  · exact RpT.lock hl hu hp h
  · exact h.elim
theorem OwR.free {K : PySem.W.Frag} {cn : Cn} {G : Hp} {p : Addr} {u : HO} {od : Obj} {ho : HO} {d : D} (hl : cn.lk = none) (hp : G p = some (.frz od u)) (h : OwR K (cn.lkd p) G ho d) : OwR K cn (upd G p u) ho d := by
  unfold OwR at h ⊢
  split at h
  · exact RpA.free hl hp h
  · exact RpK.free hl hp h
  · exact RpT.free hl hp h
  · exact h.elim
theorem vis_not {m : Option Addr} {H : Hp} {σ : L2.St} {δ : List Sl} {p : Addr} {o : HO} (h : Gv m (vis H σ δ) p = some o) : p ∉ owns σ δ := fun q => by
  have z : vis H σ δ p = some o := gv_sub _ _ h
  unfold vis at z
  rw [dels_in q] at z
  cases z
theorem SI.lock {G0 H : Hp} {σ : L2.St} {δ : List Sl} {N : Nat} {p : Addr} {u : HO} {od : Obj} (hl : M.cn.lk = none) (hu : DctO u) (S : SI M G0 N H σ δ) (hp : Gv M.m (vis H σ δ) p = some u) : SI (M.lkd p) (upd (Gv M.m (vis H σ δ)) p (.frz od u)) N (upd H p (.frz od u)) σ δ := by
  have ev : vis (upd H p (.frz od u)) σ δ = upd (vis H σ δ) p (.frz od u) := vis_upd (vis_not hp)
  obtain ⟨eg, w1⟩ := gv_upd (o := .frz od u) S.wok hp
  refine ⟨S.len, by rw [ev]; exact w1, by rw [ev, eg]; exact Same.refl _, fun i d h => ?_, fun i d h => ?_, S.dis⟩
  · obtain ⟨v, a, b⟩ := S.val i d h
    exact ⟨v, a, by rw [ev, eg]; exact b.lock hl hu hp⟩
  · obtain ⟨q, ho, a, b, c⟩ := S.own i d h
    have n : q ≠ p := fun z => vis_not hp (by rw [← z]; exact mem_owns.mpr ⟨i, d, h, a⟩)
    exact ⟨q, ho, a, by rw [upd_ne n]; exact b, by rw [ev, eg]; exact OwR.lock hl hu hp c⟩
theorem SI.unlock {G0 G1 H : Hp} {σ : L2.St} {δ : List Sl} {N : Nat} {p : Addr} {u : HO} {od : Obj} (hl : M.cn.lk = none) (S : SI (M.lkd p) (upd G1 p (.frz od u)) N H σ δ) (h01 : Same G0 G1) (hp : G1 p = some u) : H p = some (.frz od u) ∧ SI M G0 N (upd H p u) σ δ := by
  have at_ : Gv M.m (vis H σ δ) p = some (.frz od u) := S.sub _ _ upd_same
  have ev : vis (upd H p u) σ δ = upd (vis H σ δ) p u := vis_upd (vis_not at_)
  obtain ⟨eg, w1⟩ := gv_upd (o := u) S.wok at_
  refine ⟨vis_sub _ _ at_, S.len, by rw [ev]; exact w1, fun b o e => ?_, fun i d h => ?_, fun i d h => ?_, S.dis⟩
  · rw [ev, eg]
    have e1 := h01 _ _ e
    by_cases c : b = p
    · subst c
      rw [upd_same, ← hp]
      exact e1
    · rw [upd_ne c]
      refine S.sub _ _ ?_
      rw [upd_ne c]
      exact e1
  · obtain ⟨v, a, b⟩ := S.val i d h
    exact ⟨v, a, by rw [ev, eg]; exact b.free hl at_⟩
  · obtain ⟨q, ho, a, b, c⟩ := S.own i d h
    have n : q ≠ p := fun z => vis_not at_ (by rw [← z]; exact mem_owns.mpr ⟨i, d, h, a⟩)
    exact ⟨q, ho, a, by rw [upd_ne n]; exact b, by rw [ev, eg]; exact OwR.free hl at_ c⟩
theorem ss_forK {tb : TS} {g : TG} {dg : DG} {b : DS} {vs : List Nat} (i : Nat) (hl : M.cn.lk = none) (hg : ∀ p, SG (M.lkd p).nox vs g dg) (hb : ∀ p, SS (M.lkd p).nox tb b) : SS M (tLock (tFor (iKeys (tVar i)) g tb)) (dForK i vs dg b) := fun G0 Dd σ H δ N E S q e => by
  unfold dForK at q
  split at q
  · rename_i d hd
    split at q
    · rename_i items hi
      obtain ⟨v, hs, rv⟩ := S.val i d hd
      obtain ⟨p, u, rfl, hp, hu, mu, hJ⟩ := lock_at (H := vis H σ δ) hl S.wok rv hi q.1
      refine ⟨p, u, vis_sub _ _ hp, mu, fun od => ?_⟩
      obtain ⟨J, Wk, cJ⟩ := hJ od
      have S1 : SI (M.lkd p).nox (upd (Gv M.m (vis H σ δ)) p (.frz od u)) N (upd H p (.frz od u)) σ δ := by
        have := S.lock (od := od) hl hu hp
        exact ⟨this.len, this.wok, this.sub, this.val, this.own, this.dis⟩
      have go := for_go (M := (M.lkd p).nox) (G0 := upd (Gv M.m (vis H σ δ)) p (.frz od u)) (hg p) (hb p) (Dd := ⟨fun σ' H' => H' p = some (.frz od u) ∧ Dd.nx σ' (upd H' p u), fun v H' => H' p = some (.frz od u) ∧ Dd.rt v (upd H' p u), fun σ' H' => H' p = some (.frz od u) ∧ Dd.bk σ' (upd H' p u), fun σ' H' => H' p = some (.frz od u) ∧ Dd.ct σ' (upd H' p u)⟩) S1 ⟨Wk.few, Wk.go, Wk.stop, Wk.yld⟩ (Same.refl _) q.2 ⟨?_, ?_, ?_, ?_, fun _ _ _ _ _ _ _ _ _ _ _ _ _ z => z.elim⟩
      · have hp2 : upd H p (.frz od u) p = some (.frz od u) := upd_same
        rcases cJ with ⟨kvs, rfl, rfl⟩ | ⟨kvs, rfl, rfl⟩
        · exact ⟨_, hs, p, od, rfl, .inl ⟨kvs, hp2, go⟩⟩
        · exact ⟨_, hs, p, od, rfl, .inr ⟨kvs, hp2, go⟩⟩
      · intro σ' H' δ' N' S' z
        obtain ⟨a, b⟩ := SI.unlock (M := M) (G0 := G0) hl ⟨S'.len, S'.wok, S'.sub, S'.val, S'.own, S'.dis⟩ S.sub hp
        exact ⟨a, e.nx _ _ _ _ b z⟩
      · intro v H' x N' w' s' r z
        have at_ : Gv M.m H' p = some (.frz od u) := s' _ _ upd_same
        obtain ⟨eg, w2⟩ := gv_upd (o := u) w' at_
        refine ⟨gv_sub _ _ at_, e.rt v _ x N' w2 (fun b o eb => ?_) (by rw [eg]; exact Rp.free hl at_ r) z⟩
        rw [eg]
        have e1 := S.sub _ _ eb
        by_cases c : b = p
        · subst c
          rw [upd_same, ← hp]
          exact e1
        · rw [upd_ne c]
          refine s' _ _ ?_
          rw [upd_ne c]
          exact e1
      · intro σ' H' δ' N' S' z
        obtain ⟨a, b⟩ := SI.unlock (M := M) (G0 := G0) hl ⟨S'.len, S'.wok, S'.sub, S'.val, S'.own, S'.dis⟩ S.sub hp
        exact ⟨a, e.bk _ _ _ _ b z⟩
      · intro σ' H' δ' N' S' z
        obtain ⟨a, b⟩ := SI.unlock (M := M) (G0 := G0) hl ⟨S'.len, S'.wok, S'.sub, S'.val, S'.own, S'.dis⟩ S.sub hp
        exact ⟨a, e.ct _ _ _ _ b z⟩
    · exact q.elim
  · exact q.elim
end
end Dl

set_option Elab.async false
set_option linter.all false
set_option maxRecDepth 100000
set_option maxHeartbeats 2000000
namespace Dl
open PySem PySem.Spec PyProof.Rows L2 Rl Dr _root_.Tx Ex Er So Wi Vw
section
variable {M : Md}
/-! ### x.extend(e) -/
def lstR (x : D) (k : List D → Prop) : Prop := match x with
  | .lst l => k l
  | _ => False
def dExt (r : List Nat) (i : Nat) (de : DE) : DS := fun E δ N => isOl δ i fun _ => de (hideS (frz r δ)) N (fun x N' => lstR x fun l => isOl (frz r δ) i fun ds => ds.length + l.length ≤ sizeLine ∧ E.nx ((frz r δ).set i (.o (.lst (ds ++ l)))) N') (fun c x N' => E.ex c x (hideS (frz r δ)) N')
theorem ss_ext {te : TE} {de : DE} (r : List Nat) (i : Nat) (h : SE M te de) : SS M (tDrop (tBM M.K "list" rExtend (tVar i) (taFr (tCons te tNil)))) (dExt r i de) := fun G0 Dd σ H δ N E S q e => by
  obtain ⟨ds0, e0, q⟩ := isOl_at q
  obtain ⟨p, ho, ep, eh, o⟩ := S.own i _ e0
  have hl : ∃ xs, ho = .lst xs := by
    unfold OwR at o
    split at o
    · exact ⟨_, rfl⟩
    · rename_i z
      cases z
    · rename_i z
      cases z
    · exact o.elim
  obtain ⟨xs, rfl⟩ := hl
  refine ⟨.ref p, ep, .inl ⟨rfl, xs, sq eh⟩, ev_a1 h r S e q fun v H' x N' F' S' rx qx => ?_⟩
  unfold lstR at qx
  split at qx
  · rename_i l
    obtain ⟨ds, e1, hlen, q1⟩ := isOl_at qx
    obtain ⟨b, ys, rfl, eb, rb⟩ := rp_lst rx
    obtain ⟨p1, ho1, ep1, eh1, o1⟩ := F'.own i _ e1
    rw [ep] at ep1
    cases ep1
    have hl1 : ∃ zs, ho1 = .lst zs ∧ RpA M.K M.cn (Gv M.m (vis H' σ (frz r δ))) zs ds := by
      unfold OwR at o1
      split at o1
      · rename_i z
        cases z
        exact ⟨_, rfl, o1⟩
      · rename_i z
        cases z
      · rename_i z
        cases z
      · exact o1.elim
    obtain ⟨zs, rfl, r1⟩ := hl1
    exact ⟨p, b, zs, ys, rfl, rfl, eh1, vis_sub _ _ eb, by rw [r1.length, rb.length]; exact hlen, e.nx _ _ _ _ (F'.mut (ho := .lst (zs ++ ys)) (x := .lst (ds ++ l)) e1 ep (r1.app rb)) q1⟩
  · exact qx.elim
/-! ### len of a dict whose keys are tuples, too -/
def rLenX (K : PySem.W.Frag) : List V → Hp → VK → Prop := fun xs H Q => rLenD K xs H Q ∨ rLenT xs H Q
theorem call_lenX {X : Cx} : CallR X (.builtin "len") (rLenX X.K) := call_or call_lenA call_len_dT
def dLenX : DF0 := fun ds R => match ds with
  | [.dt l] => R (.int l.length)
  | ds => dLen ds R
theorem sc_lenX (hl : M.cn.lk = none) : SC M (rLenX M.K) dLenX := fun xs ds H N Q R w r h k => by
  unfold dLenX at h
  split at h
  · rename_i l
    cases r with | cons r0 rt => ?_
    cases rt
    cases r0 with | dt e t => ?_
    rename_i p kvs
    have hp : Gv M.m H p = some (.dT kvs) := e.resolve_right fun ⟨z, _⟩ => by rw [hl] at z; cases z
    exact .inr ⟨p, kvs, rfl, gv_sub _ _ hp, by rw [RpT.length t]; exact k _ H _ w (Same.refl _) (.int _) h⟩
  · exact .inl (sc_len xs ds H N Q R w r h k)
/-! ### max, min of a list of whole numbers -/
def intsOf : List D → Option (List Int)
  | [] => some []
  | .int i :: r => (intsOf r).map (i :: ·)
  | _ => none
theorem intsOf_v {K : PySem.W.Frag} {cn : Cn} {H : Hp} : ∀ {vs : List V} {ds : List D} {ns : List Int}, RpA K cn H vs ds → intsOf ds = some ns → vs = ns.map V.int
  | _, _, _, .nil, e => by cases e; rfl
  | _, _, ns, .cons (d := d) (ds := ds) r t, e => by
    cases r with
    | int i =>
      have e' : (intsOf ds).map (i :: ·) = some ns := e
      cases c : intsOf ds with
      | none =>
        rw [c] at e'
        cases e'
      | some ms =>
        rw [c] at e'
        cases e'
        rw [intsOf_v t c]
        rfl
    | _ => cases e
def dMax : DF0 := fun ds R => match ds with
  | [.lst l] => (match intsOf l with
    | some ns => 0 < ns.length ∧ ∀ m, m ∈ ns → (∀ y ∈ ns, y ≤ m) → R (.int m)
    | none => False)
  | [.int i, .int j] => R (.int (if j > i then j else i))
  | _ => False
def rMaxI (K : PySem.W.Frag) : List V → Hp → VK → Prop := fun xs H Q => rMax K xs H Q ∨ ∃ i j, xs = [.int i, .int j] ∧ Q (.int (if j > i then j else i)) H
theorem cr_maxI {X : Cx} (hc : X.calm = true) : CallR X (.builtin "max") (rMaxI X.K) := call_or (cr_max hc) (call_max2 hc)
theorem sc_max : SC M (rMaxI M.K) dMax := fun xs ds H N Q R w r h k => by
  unfold dMax at h
  split at h
  · rename_i l
    split at h
    · rename_i ns en
      cases r with | cons r0 rt => ?_
      cases rt
      obtain ⟨a, ys, rfl, e, q⟩ := rp_lst r0
      have ev := intsOf_v q en
      subst ev
      exact .inl ⟨a, ns, rfl, sq (gv_sub _ _ e), h.1, fun m hm hy => k _ H _ w (Same.refl _) (.int _) (h.2 m hm hy)⟩
    · exact h.elim
  · cases r with | cons r0 rt => ?_
    cases rt with | cons r1 rt => ?_
    cases rt
    rw [rp_int r0, rp_int r1]
    exact .inr ⟨_, _, rfl, k _ H _ w (Same.refl _) (.int _) h⟩
  · exact h.elim
def dMin : DF0 := fun ds R => match ds with
  | [.lst l] => (match intsOf l with
    | some ns => 0 < ns.length ∧ ∀ m, m ∈ ns → (∀ y ∈ ns, m ≤ y) → R (.int m)
    | none => False)
  | [.int i, .int j] => R (.int (if j < i then j else i))
  | _ => False
def rMinI (K : PySem.W.Frag) : List V → Hp → VK → Prop := fun xs H Q => rMin K xs H Q ∨ ∃ i j, xs = [.int i, .int j] ∧ Q (.int (if j < i then j else i)) H
theorem cr_minI {X : Cx} (hc : X.calm = true) : CallR X (.builtin "min") (rMinI X.K) := call_or (cr_min hc) (call_min2 hc)
theorem sc_min : SC M (rMinI M.K) dMin := fun xs ds H N Q R w r h k => by
  unfold dMin at h
  split at h
  · rename_i l
    split at h
    · rename_i ns en
      cases r with | cons r0 rt => ?_
      cases rt
      obtain ⟨a, ys, rfl, e, q⟩ := rp_lst r0
      have ev := intsOf_v q en
      subst ev
      exact .inl ⟨a, ns, rfl, sq (gv_sub _ _ e), h.1, fun m hm hy => k _ H _ w (Same.refl _) (.int _) (h.2 m hm hy)⟩
    · exact h.elim
  · cases r with | cons r0 rt => ?_
    cases rt with | cons r1 rt => ?_
    cases rt
    rw [rp_int r0, rp_int r1]
    exact .inr ⟨_, _, rfl, k _ H _ w (Same.refl _) (.int _) h⟩
  · exact h.elim
abbrev dShl : DOp := dI2 CPow fun i j => .int (i * 2 ^ j.toNat)
/-! ### the place of a text in a tuple of texts -/
def dIndexT (o : DE) (a : DA) : DE := fun δ N R Ex => o δ N (fun x N1 => (∃ l, x = .tup l) ∧ a δ N1 (fun ys N2 => match x, ys with
  | .tup l, [.str z] => (match strsOf l with
    | some zs => zs.idxOf z < zs.length ∧ R (.int (zs.idxOf z : Nat)) N2
    | none => False)
  | _, _ => False) Ex) Ex
def rIndexT (K : PySem.W.Frag) : V → List V → Hp → VK → Prop := fun x xs H Q => ∃ p, ∃ ys : List Str, ∃ z j, x = .ref p ∧ xs = [.str z] ∧ SqT K H p (ys.map V.str) ∧ ys[j]? = some z ∧ (∀ m, m < j → ys[m]? ≠ some z) ∧ Q (.int (j : Nat)) H
theorem mt_indexT {X : Cx} : MtR X "tuple.index" (rIndexT X.K) := mt_tup_index
theorem se_indexT {to : TE} {ta : TA} {o : DE} {a : DA} (ho : SE M to o) (ha : SA M ta a) (hty : ∀ p xs (H : Hp), SqT M.K H p xs → tyV M.K "tuple" (.ref p) H) : SE M (tBM M.K "tuple" (rIndexT M.K) to ta) (dIndexT o a) := fun σ H δ N Q R Ex w e h k kx =>
  ho σ H δ N _ _ Ex w e h (fun v H1 x N1 w1 s1 r1 q1 => by
    obtain ⟨⟨l, rfl⟩, q1⟩ := q1
    obtain ⟨b, xs, rfl, e1, rl⟩ := rp_tup r1
    refine ⟨hty b xs H1 (st (gv_sub _ _ e1)), ha σ H1 δ N1 _ _ Ex w1 (e.mono s1) q1 (fun us H2 ys N2 w2 s2 r2 q2 => ?_) (kx.mono s1)⟩
    split at q2
    · rename_i l' z e0
      cases e0
      cases r2 with | cons r0 rt => ?_
      cases rt
      obtain ⟨rfl, oz⟩ := rp_str r0
      split at q2
      · rename_i zs ez
        obtain ⟨ev, _⟩ := strsOf_v rl ez
        subst ev
        refine ⟨b, zs, z, zs.idxOf z, rfl, rfl, st (gv_sub _ _ (s2 _ _ e1)), ?_, fun m hm e => ?_, k _ H2 _ N2 w2 (s1.trans s2) (.int _) q2.2⟩
        · rw [List.getElem?_eq_getElem q2.1]
          exact congrArg some (List.getElem_idxOf q2.1)
        · have hm2 : m < zs.length := by omega
          rw [List.getElem?_eq_getElem hm2] at e
          have := List.not_of_lt_findIdx (p := (· == z)) (xs := zs) (i := m) (by simpa [List.idxOf] using hm)
          rw [Option.some.inj e] at this
          simp at this
      · exact q2.elim
    · exact q2.elim) kx
end
end Dl

set_option Elab.async false
set_option linter.all false
set_option maxRecDepth 100000
set_option maxHeartbeats 2000000
namespace Dl
open PySem PySem.Spec PyProof.Rows L2 Rl Dr _root_.Tx Ex Er So Wi Vw
/-! ### class methods -/
structure CmE (K : PySem.W.Frag) (C : Addr) (m qual : Str) (st : Stmt) (ps : List Str) where
  p : Addr
  f : Addr
  fd : FuncData
  mc : Value
  F : Fun K m qual st f fd
  b : Binds K fd ps []
  rd : ClX.CRead K C mc
  cm : ClX.CMet K C mc m p f
def tCMethSD (C : Addr) (sp : Sp) (E : L2.St → XK) (ta : TE) (t : TA) : TE := fun σ H Q => ClX.tCMeth C sp (E σ) ta t σ H Q
def tCMethK (C : Addr) (sp : Sp) (gV : List V → List V → List V) (E : XK) (ta : TE) (tk : TA) : TE := fun σ H Q => ta σ H fun x H1 => x = .ref C ∧ tk σ H1 fun zs H2 => sp (gV [.ref C] zs) H2 Q E
section
variable {X : Cx} {CX : CXT} {k : Nat} {f C p g0 : Addr} {mc : Value} {fd : FuncData} {ps ks : List Str} {sp : Sp} {E : L2.St → XK} {E0 : XK} {x m : Str} {pos apos : Pos} {e o : Expr} {es : List Expr} {kws : List Keyword} {ta : TE} {t tk : TA} {g : List Value → List Value → List Value} {gV : List V → List V → List V}
theorem run_code {pins : List (Addr × Obj)} {σ : L2.St} {H : Hp} {s : Shared} {Q : VK} {us : List Value} {vs : List V} {E : XK} {args : Args} (F : FnOk X.prog X.w X.K X.mg X.base CX k f fd ps sp) (hr : Room k X.A) (hx : PassesAt CX X σ E)
    (I : Inv X pins σ H s) (hb : us.length = ps.length → BindsTo s fd args (ps.zip us)) (r : Vals vs us) (h : sp vs H Q E) : codeAny (model X.prog X.w) X.A (.call (.ref f) args) (fun r s' => match r with | .ok (.ret v) => EP X pins σ Q v s' | .ok _ => False | .error e => X.xe e s') s := by
  have few : us.length = ps.length := r.length.symm.trans (F.len _ _ _ _ h)
  refine codeAny_mono (F.run X.A X.stack s H args us vs Q E hr I.env0 (hb few) r h) fun r s' hq => ?_
  match r, hq with
  | .error e, z => exact hx pins H s e s' I z
  | .ok (.ret u), z => exact I.after z
  | .ok .next, z => exact z.elim
  | .ok .brk, z => exact z.elim
  | .ok .cont, z => exact z.elim
theorem pe_cmethSD {pl : Sem Bool} (he : PE X o ta) (r : ClX.CRead X.K C mc) (c : ClX.CMet X.K C mc m p f) (F : FnOk X.prog X.w X.K X.mg X.base CX k f fd ps sp) (hr : Room k X.A) (hb : Binds X.K fd ps []) (hx : ∀ σ, PassesAt CX X σ (E σ)) (ha : PA X (e :: es) t)
    (hst : starEach (e :: es) X.env = (false, eval e X.env) :: starEach es X.env := by rfl) (hpl : (backTo pos (starEach es X.env)).any (·.1) = false := by rfl)
    (ht : eval (.Call (.Attribute o m apos) (e :: es) [] pos) X.env = (eval o X.env >>= fun ov => standAt apos.atName >>= fun _ => holding [ov] (getMethod ov m pl) >>= fun q => callWith pos q.1 q.2 (backTo pos (starEach (e :: es) X.env)) (backToKw pos (keywordEach [] X.env))) := by rfl) :
    PE X (.Call (.Attribute o m apos) (e :: es) [] pos) (tCMethSD C sp E ta t) := ⟨fun pins s σ H Q I h => by
  refine PySem.W.methodCall_KW (pl := pl) (thn (he.run pins s σ H _ I h) fun u s1 z => ?_) ht
  obtain ⟨v, H1, I1, rv, rfl, q⟩ := z
  cases rv
  refine ClX.getmethcm_ok I1 r c fun s2 I2 => ClX.callwith_cm I2 (ClX.base_none I1 (Nat.le_refl _)) c.fi (thn (ha.run pos _ s2 σ H1 _ I2 q) fun us s3 z => ?_) hst hpl
  obtain ⟨vs, H2, I3, rv, q2⟩ := z
  refine ⟨⟨ClX.pin_at I3, I3.kIn⟩, thn (wpAny_call (PySem.W.method_call (ClX.pin_at I3) ?_)) fun _ _ y => ClX.unpinE (p := (s1.heap.objs.size, PySem.W.methodObj (.ref f) (.ref C))) y⟩
  exact run_code (us := .ref C :: us) (vs := .ref C :: vs) F hr (hx σ) I3 (fun hl => by
    have bd := hb s3 (.ref C :: us) I3.kIn (by simpa using hl)
    rw [List.append_nil] at bd
    exact bd) (.cons rfl rv) q2⟩
theorem pe_cmethK {pl : Sem Bool} (he : PE X o ta) (r : ClX.CRead X.K C mc) (c : ClX.CMet X.K C mc m p f) (F : FnOk X.prog X.w X.K X.mg X.base CX k f fd ps sp) (hr : Room k X.A) (hb : KBinds X.K fd ps ks g gV) (hx : Passes CX X E0) (hkw : PK X kws tk)
    (hall : (backToKw pos (keywordEach kws X.env)).all (·.1.isSome) = true := by rfl) (hks : (backToKw pos (keywordEach kws X.env)).filterMap (·.1) = ks := by rfl)
    (hpl : ((backTo pos (starEach [] X.env)).any (·.1) || (backToKw pos (keywordEach kws X.env)).any (·.1.isNone)) = false := by rfl)
    (ht : eval (.Call (.Attribute o m apos) [] kws pos) X.env = (eval o X.env >>= fun ov => standAt apos.atName >>= fun _ => holding [ov] (getMethod ov m pl) >>= fun q => callWith pos q.1 q.2 (backTo pos (starEach [] X.env)) (backToKw pos (keywordEach kws X.env))) := by rfl) :
    PE X (.Call (.Attribute o m apos) [] kws pos) (tCMethK C sp gV E0 ta tk) := ⟨fun pins s σ H Q I h => by
  refine PySem.W.methodCall_KW (pl := pl) (thn (he.run pins s σ H _ I h) fun u s1 z => ?_) ht
  obtain ⟨v, H1, I1, rv, rfl, q⟩ := z
  cases rv
  refine ClX.getmethcm_ok I1 r c fun s2 I2 => ?_
  refine PySem.W.callWith_of hpl (PySem.W.keeps_M (q := s1.heap.objs.size) (self := .ref C) c.fi) (PyProof.Rows.evalArgs_kw2_nil hall (thn (hkw.run pos _ s2 σ H1 _ I2 q) fun ws s3 z => ?_))
  obtain ⟨zs, H2, I3, rz, q2⟩ := z
  refine ⟨⟨ClX.pin_at I3, I3.kIn⟩, thn (wpAny_call (PySem.W.method_call (ClX.pin_at I3) ?_)) fun _ _ y => ClX.unpinE (p := (s1.heap.objs.size, PySem.W.methodObj (.ref f) (.ref C))) y⟩
  have rg := hb.rel (vs := [.ref C]) (us := [.ref C]) (.cons rfl .nil) rz
  rw [hks]
  exact run_code (us := g [.ref C] ws) (vs := gV [.ref C] zs) F hr (fun pins H s e s' I z => hx pins σ H s e s' I z) I3 (fun hl => hb.to s3 [.ref C] ws I3.kIn hl) rg q2⟩
/-- a class called by a name of the def -/
theorem pe_makeV {i : Nat} (M : Mk X.K C f) (F : FnOk X.prog X.w X.K X.mg X.base CX k f fd ps sp) (hr : Room (k + 1) X.A) (hv : PE X (.Name x p0) (tVar i)) (hb : Binds X.K fd ps []) (hx : ∀ σ, PassesAt CX X σ (E σ))
    (ha : PA X (e :: es) t) (he : starEach (e :: es) X.env = (false, eval e X.env) :: starEach es X.env := by rfl) (hpl : (backTo pos (starEach es X.env)).any (·.1) = false := by rfl) :
    PE X (.Call (.Name x p0) (e :: es) [] pos) (fun σ H Q => σ[i]? = some (some (.ref C)) ∧ tMakeSD C sp E t σ H Q) := ⟨fun pins s σ H Q I h => by
  refine wpAny_Call_Name_kw (thn (hv.run pins s σ H (fun v H1 => v = .ref C ∧ H1 = H) I ⟨_, h.1, rfl, rfl⟩) fun u s0 z => ?_)
  obtain ⟨v, H0, I0, rv, rfl, rfl⟩ := z
  cases rv
  refine PySem.W.callWith_K (h₀ := X.base) I0.ok.mod.kin M.kp (thn (ha.run pos pins s0 σ H0 _ I0 h.2) fun us s1 z => ?_) he hpl
  obtain ⟨vs, H1, I1, r, q⟩ := z
  exact ⟨I1.kIn, run_makeSD M F hr hb (hx σ) I1 r q⟩⟩
/-! ### a written dict's get -/
def kvF (l : List (Str × Int)) (z : Str) : Option V := (l.lookup z).map V.int
structure KdE (K : PySem.W.Frag) (P : Program) (w : World) (mg : Str → Option Value) (x : Str) (l : List (Str × Int)) where
  d : Addr
  g : mg x = some (.ref d)
  es : Array DictEntry
  n : Nat
  at_ : K.lookup d = some { cls := .type "dict", data := .dict es n }
  lit : PySem.W.KeysLit w.params es.toList
  low : (d == sysModules) = false
  has : ∀ z, ∃ r, findBy Value.isStrOf es z = r ∧ RelV ((kvF l z).getD .non) (r.getD .none)
def tDGetK (l : List (Str × Int)) (ty : TE) : TE := fun σ H Q => ty σ H fun y H1 => ∃ z, y = .str z ∧ Q ((kvF l z).getD .non) H1
theorem pe_dgetK {l : List (Str × Int)} {cpos : Pos} {ty : TE} {x : Str} {p0 : Pos} (D : KdE X.K X.prog X.w X.mg x l) (hg : Gl X x) (he : PE X e ty) (m : M1 X (.Name x p0) "get" apos e cpos) (hdb : (x == ("__debug__" : Str)) = false := by decide) :
    PE X (.Call (.Attribute (.Name x p0) "get" apos) [e] [] cpos) (tDGetK l ty) := ⟨fun pins s σ H Q I h => by
  have at_ : ∀ {s' : Shared} {H'}, Inv X pins σ H' s' → s'.heap.get? D.d = some { cls := .type "dict", data := .dict D.es D.n } := fun I' => I'.kIn _ _ D.at_
  refine wpAny_Call_method m.base m.few m.line F.plainAttrs_dict F.slot_dict_get F.type_dict_get (ld_glob I hg D.g ⟨⟨_, at_ I, rfl⟩, fun a ea => ?_, ?_⟩ hdb)
  · cases ea
    exact ⟨_, at_ I, rfl⟩
  · rw [m.trees]
    refine wpAny_dict_get1 (K := Str) (knd := strKind X.prog X.w) D.low (thn (he.run pins s σ H _ I h) fun u s1 z => ?_)
    obtain ⟨y, H1, I1, ry, z, rfl, q⟩ := z
    obtain ⟨t, rfl⟩ := ry
    obtain ⟨r, er, rr⟩ := D.has z
    refine ⟨z, _, strKind_is X.prog X.w z t, PySem.W.mapOf_K I1.kIn D.at_ D.lit, ?_⟩
    rw [er]
    exact ⟨_, H1, I1.tok _, rr, q⟩⟩
end
section
variable {M : Md}
/-! ### texts cut -/
theorem okS_sub {z y : Str} (hy : ∀ c ∈ y.cps.toList, c ∈ z.cps.toList) (h : OkS z) : OkS y := fun c hc => h c (hy c hc)
end
end Dl

set_option Elab.async false
set_option linter.all false
/-! texts cut at a separator whose first sign stands nowhere else -/
namespace Spl
open PySem PySem.Builtin.Str
/-- the places of `sub`, n steps from i on -/
def occR (s sub : Str) (hi : Nat) : Nat → Nat → Nat → Nat → List Nat
  | 0, _, _, _ => []
  | n + 1, k, i, free => if ((0 < k ∧ free ≤ i) ∧ i + sub.length ≤ hi) ∧ subAt s sub i = true then i :: occR s sub hi n (k - 1) (i + 1) (i + sub.length) else occR s sub hi n k (i + 1) free
theorem occ_run (s sub : Str) (hi lim : Nat) : ∀ (n i : Nat) (found : Array Nat) (free : Nat), (forIn (List.range' i n) (found, free) (StrLaws.occBody s sub hi lim) : Id _).run.fst.toList = found.toList ++ occR s sub hi n (lim - found.size) i free := by
  intro n
  induction n with
  | zero =>
    intro i found free
    simp [occR]
  | succ n ih =>
    intro i found free
    rw [List.range'_succ, List.forIn_cons]
    unfold occR
    by_cases h : ((found.size < lim ∧ free ≤ i) ∧ i + sub.length ≤ hi) ∧ subAt s sub i = true
    · rw [if_pos ⟨⟨⟨by have := h.1.1.1; omega, h.1.1.2⟩, h.1.2⟩, h.2⟩]
      have e : StrLaws.occBody s sub hi lim i (found, free) = pure (ForInStep.yield (found.push i, i + sub.length)) := if_pos h
      rw [e]
      show (forIn (List.range' (i + 1) n) (found.push i, i + sub.length) (StrLaws.occBody s sub hi lim) : Id _).run.fst.toList = _
      rw [ih, Array.toList_push, Array.size_push, List.append_assoc, List.singleton_append, Nat.sub_add_eq]
    · rw [if_neg (fun q => h ⟨⟨⟨by have := q.1.1.1; omega, q.1.1.2⟩, q.1.2⟩, q.2⟩)]
      have e : StrLaws.occBody s sub hi lim i (found, free) = pure (ForInStep.yield (found, free)) := if_neg h
      rw [e]
      show (forIn (List.range' (i + 1) n) (found, free) (StrLaws.occBody s sub hi lim) : Id _).run.fst.toList = _
      rw [ih]
theorem occ_R (s sub : Str) (hi lim : Nat) : occurrences s sub 0 hi lim = occR s sub hi (hi + 1) lim 0 0 := by
  rw [StrLaws.occ_eq, occ_run]
  simp
/-- what stands at a place -/
theorem subAt_iff {s sub : Str} {i : Nat} : subAt s sub i = true ↔ (s.cps.toList.drop i).take sub.length = sub.cps.toList := by
  unfold subAt
  rw [beq_iff_eq]
  constructor
  · intro h
    rw [← h]
    simp [Str.length]
  · intro h
    apply Array.toList_inj.mp
    rw [← h]
    simp [Str.length]
theorem occ_succ {s sub : Str} {hi n k i free : Nat} : occR s sub hi (n + 1) k i free = if ((0 < k ∧ free ≤ i) ∧ i + sub.length ≤ hi) ∧ subAt s sub i = true then i :: occR s sub hi n (k - 1) (i + 1) (i + sub.length) else occR s sub hi n k (i + 1) free := rfl
variable {s sub : Str} {c : Nat} {t : List Nat}
/-- over signs that aren't the separator's first one -/
theorem skip (hs : sub.cps.toList = c :: t) {hi k : Nat} : ∀ (a : List Nat) (n i free : Nat) (r : List Nat), c ∉ a → s.cps.toList.drop i = a ++ r → occR s sub hi (a.length + n) k i free = occR s sub hi n k (i + a.length) free
  | [], n, i, free, r, _, _ => by simp
  | x :: a, n, i, free, r, hc, hd => by
    have no : ¬ subAt s sub i = true := fun h => by
      rw [subAt_iff, hd, hs] at h
      have l : sub.length = t.length + 1 := by
        show sub.cps.size = _
        rw [← Array.length_toList, hs]
        simp
      rw [l] at h
      simp at h
      exact hc (by simp [h.1])
    have e : (x :: a).length + n = (a.length + n) + 1 := by simp; omega
    rw [e, occ_succ, if_neg (fun h => no h.2)]
    rw [skip hs a n (i + 1) free r (fun h => hc (List.mem_cons_of_mem _ h)) (by
      rw [← List.drop_drop, hd]
      rfl)]
    congr 1
    simp
    omega
/-- over places that are not free yet -/
theorem wait {hi k : Nat} : ∀ (m n i free : Nat), i + m ≤ free → occR s sub hi (m + n) k i free = occR s sub hi n k (i + m) free
  | 0, n, i, free, _ => by simp
  | m + 1, n, i, free, h => by
    have e : m + 1 + n = (m + n) + 1 := by omega
    rw [e, occ_succ, if_neg (fun h2 => by omega)]
    rw [wait m n (i + 1) free (by omega)]
    congr 1
    omega
/-- a text's parts, joined -/
def joinL (w : List Nat) : List (List Nat) → List Nat
  | [] => []
  | [a] => a
  | a :: b :: r => a ++ w ++ joinL w (b :: r)
def cuts (w : Nat) : Nat → List (List Nat) → List Nat
  | _, [] => []
  | _, [_] => []
  | o, a :: b :: r => (o + a.length) :: cuts w (o + a.length + w) (b :: r)
theorem occ_join (hs : sub.cps.toList = c :: t) (hi : Nat) : ∀ (ps : List (List Nat)) (k i : Nat), ps ≠ [] → (∀ a ∈ ps, c ∉ a) → s.cps.toList.drop i = joinL (c :: t) ps → hi = i + (joinL (c :: t) ps).length → ps.length ≤ k →
    occR s sub hi ((joinL (c :: t) ps).length + 1) k i i = cuts (t.length + 1) i ps
  | [], _, _, h, _, _, _, _ => absurd rfl h
  | [a], k, i, _, hc, hd, hl, _ => by
    show occR s sub hi (a.length + 1) k i i = []
    rw [skip hs a 1 i i [] (hc a (by simp)) (by rw [hd]; simp [joinL]), occ_succ]
    have l : sub.length = t.length + 1 := by
      show sub.cps.size = _
      rw [← Array.length_toList, hs]
      simp
    rw [if_neg (fun h => by
      have : hi = i + a.length := hl
      omega)]
    rfl
  | a :: b :: r, k, i, _, hc, hd, hl, hk => by
    have l : sub.length = t.length + 1 := by
      show sub.cps.size = _
      rw [← Array.length_toList, hs]
      simp
    have ej : joinL (c :: t) (a :: b :: r) = a ++ ((c :: t) ++ joinL (c :: t) (b :: r)) := by
      show a ++ (c :: t) ++ joinL (c :: t) (b :: r) = _
      rw [List.append_assoc]
    have el : (joinL (c :: t) (a :: b :: r)).length + 1 = a.length + (1 + (t.length + ((joinL (c :: t) (b :: r)).length + 1))) := by
      rw [ej]
      simp
      omega
    rw [el, skip hs a _ i i _ (hc a (by simp)) (by rw [hd, ej])]
    have hd2 : s.cps.toList.drop (i + a.length) = (c :: t) ++ joinL (c :: t) (b :: r) := by
      rw [← List.drop_drop, hd, ej]
      simp
    rw [Nat.add_comm 1]
    show occR s sub hi ((t.length + ((joinL (c :: t) (b :: r)).length + 1)) + 1) k (i + a.length) i = _
    rw [occ_succ, if_pos ⟨⟨⟨by simp at hk; omega, by omega⟩, by
      rw [hl, ej]
      simp
      omega⟩, by
      rw [subAt_iff, hd2, l, hs]
      simp⟩]
    rw [wait _ _ _ _ (by omega)]
    have ih := occ_join hs hi (b :: r) (k - 1) (i + a.length + (t.length + 1)) (by simp) (fun x hx => hc x (List.mem_cons_of_mem _ hx)) (by
      rw [← List.drop_drop, hd2]
      simp) (by
      rw [hl, ej]
      simp
      omega) (by simp at hk ⊢; omega)
    rw [show i + a.length + 1 + t.length = i + a.length + (t.length + 1) by omega, show i + a.length + sub.length = i + a.length + (t.length + 1) by omega, ih]
    rfl
theorem parts_at (hi : Nat) (w : List Nat) : ∀ (ps : List (List Nat)) (i : Nat), ps ≠ [] → s.cps.toList.drop i = joinL w ps → s.length = i + (joinL w ps).length →
    ((i :: (cuts w.length i ps).map (· + w.length)).zip (cuts w.length i ps ++ [s.length])).map (fun x => (strSub s x.1 x.2).cps.toList) = ps
  | [], _, h, _, _ => absurd rfl h
  | [a], i, _, hd, hl => by
    show [(strSub s i s.length).cps.toList] = [a]
    congr 1
    unfold strSub
    simp [Str.length]
    have e : s.cps.toList.drop i = a := hd
    rw [← e]
    exact List.take_of_length_le (by simp)
  | a :: b :: r, i, _, hd, hl => by
    have ej : joinL w (a :: b :: r) = a ++ (w ++ joinL w (b :: r)) := by
      show a ++ w ++ joinL w (b :: r) = _
      rw [List.append_assoc]
    have ih := parts_at hi w (b :: r) (i + a.length + w.length) (by simp) (by
      rw [← List.drop_drop, ← List.drop_drop, hd, ej]
      simp) (by
      rw [hl, ej]
      simp
      omega)
    show (strSub s i (i + a.length)).cps.toList :: ((((i + a.length) + w.length) :: (cuts w.length (i + a.length + w.length) (b :: r)).map (· + w.length)).zip (cuts w.length (i + a.length + w.length) (b :: r) ++ [s.length])).map (fun x => (strSub s x.1 x.2).cps.toList) = _
    rw [ih]
    congr 1
    unfold strSub
    simp
    rw [hd, ej]
    simp
/-- what is cut -/
theorem split_join (hs : sub.cps.toList = c :: t) (hk : Builtin.Str.strKind sub = 1) {ps : List Str} (h0 : ps ≠ []) (hc : ∀ a ∈ ps, c ∉ a.cps.toList) (e : s.cps.toList = joinL (c :: t) (ps.map (·.cps.toList))) : Txt.split s sub = ps := by
  have l : sub.length = t.length + 1 := by
    show sub.cps.size = _
    rw [← Array.length_toList, hs]
    simp
  have hl : s.length = (joinL (c :: t) (ps.map (·.cps.toList))).length := by
    show s.cps.size = _
    rw [← Array.length_toList, e]
  have k1 : 1 ≤ Builtin.Str.strKind s := by
    unfold Builtin.Str.strKind
    split
    · decide
    · split <;> decide
  have hn : ∀ ps : List (List Nat), ps.length ≤ (joinL (c :: t) ps).length + 1 := by
    intro ps
    induction ps with
    | nil => simp [joinL]
    | cons a r ih =>
      cases r with
      | nil => simp
      | cons b r =>
        show _ ≤ (a ++ (c :: t) ++ joinL (c :: t) (b :: r)).length + 1
        simp at ih ⊢
        omega
  have oc : occurrences s sub 0 s.length (s.length + 1) = cuts (t.length + 1) 0 (ps.map (·.cps.toList)) := by
    rw [occ_R]
    have := occ_join (s := s) hs s.length (ps.map (·.cps.toList)) (s.length + 1) 0 (by simpa using h0) (fun a ha => by
      obtain ⟨b, hb, rfl⟩ := List.mem_map.mp ha
      exact hc b hb) (by simpa using e) (by omega) (by
      have := hn (ps.map (·.cps.toList))
      omega)
    rw [← hl] at this
    exact this
  unfold Txt.split
  by_cases hsz : s.length < sub.length
  · rw [if_pos (by simp [hsz])]
    -- the text is shorter: one part alone
    rcases ps with _ | ⟨a, _ | ⟨b, r⟩⟩
    · exact absurd rfl h0
    · congr 1
      cases a
      cases s
      simp [joinL] at e
      simpa using e
    · exfalso
      rw [hl, l] at hsz
      simp [joinL] at hsz
      omega
  · rw [if_neg (by
      simp only [Bool.or_eq_true, decide_eq_true_eq, not_or]
      exact ⟨hsz, by rw [hk]; omega⟩), oc]
    rcases ps with _ | ⟨a, _ | ⟨b, r⟩⟩
    · exact absurd rfl h0
    · rw [if_pos (by rfl)]
      congr 1
      cases a
      cases s
      simp [joinL] at e
      simpa using e
    · rw [if_neg (by simp [cuts])]
      unfold partsBetween
      rw [l]
      have := parts_at (s := s) s.length (c :: t) ((a :: b :: r).map (·.cps.toList)) 0 (by simp) (by simpa using e) (by rw [hl]; simp)
      dsimp only
      have inj : Function.Injective (fun z : Str => z.cps.toList) := fun x y h => by
        cases x
        cases y
        simpa using h
      refine (List.map_inj_right (fun x y h => inj h)).mp ?_
      rw [List.map_map]
      have e2 : (c :: t).length = t.length + 1 := rfl
      rw [e2] at this
      exact this
theorem part_at (hs : sub.cps.toList = c :: t) {a r : Str} (hc : c ∉ a.cps.toList) (e : s.cps.toList = a.cps.toList ++ ((c :: t) ++ r.cps.toList)) : Txt.partition s sub = (a, sub, r) := by
  have l : sub.length = t.length + 1 := by
    show sub.cps.size = _
    rw [← Array.length_toList, hs]
    simp
  have hl : s.length = a.cps.toList.length + (t.length + 1 + r.cps.toList.length) := by
    show s.cps.size = _
    rw [← Array.length_toList, e]
    simp
    omega
  have none_ : ∀ (n i free : Nat), occR s sub s.length n 0 i free = [] := by
    intro n
    induction n with
    | zero => intro i free; rfl
    | succ n ih =>
      intro i free
      rw [occ_succ, if_neg (fun h => absurd h.1.1.1 (Nat.lt_irrefl 0))]
      exact ih _ _
  have oc : occurrences s sub 0 s.length 1 = [a.cps.toList.length] := by
    rw [occ_R, show s.length + 1 = a.cps.toList.length + ((t.length + 1 + r.cps.toList.length) + 1) by omega]
    rw [skip hs a.cps.toList _ 0 0 ((c :: t) ++ r.cps.toList) hc (by simpa using e), Nat.zero_add]
    rw [occ_succ, if_pos ⟨⟨⟨by decide, by omega⟩, by rw [l]; omega⟩, by
      rw [subAt_iff, e, l, hs]
      simp⟩]
    rw [none_]
  unfold Txt.partition
  rw [oc]
  dsimp only
  have inj : ∀ x y : Str, x.cps.toList = y.cps.toList → x = y := fun x y h => by
    cases x
    cases y
    simpa using h
  have e1 : strSub s 0 a.cps.toList.length = a := inj _ _ (by
    unfold strSub
    simp
    rw [e]
    simp)
  have e2 : strSub s (a.cps.toList.length + sub.length) s.length = r := inj _ _ (by
    unfold strSub
    rw [l]
    simp [Str.length]
    rw [e]
    have e3 : List.drop (a.cps.size + (t.length + 1)) (a.cps.toList ++ c :: (t ++ r.cps.toList)) = r.cps.toList := by
      rw [← List.drop_drop, show a.cps.size = a.cps.toList.length by simp, List.drop_left]
      simp
    try rw [show (c :: t ++ r.cps.toList) = c :: (t ++ r.cps.toList) from rfl]
    rw [e3]
    refine List.take_of_length_le ?_
    have q : s.cps.size = a.cps.toList.length + (t.length + 1 + r.cps.toList.length) := hl
    simp at q ⊢
    omega)
  rw [e1, e2]
/-! ### what is cut is of the same signs, and no longer -/
theorem sub_in {s : Str} {i j : Nat} : (∀ c ∈ (strSub s i j).cps.toList, c ∈ s.cps.toList) ∧ (strSub s i j).length ≤ s.length := by
  unfold strSub
  constructor
  · intro c hc
    simp at hc
    exact List.mem_of_mem_drop (List.mem_of_mem_take hc)
  · simp [Str.length]
    omega
theorem split_in {s sub : Str} : ∀ y ∈ Txt.split s sub, (∀ c ∈ y.cps.toList, c ∈ s.cps.toList) ∧ y.length ≤ s.length := by
  intro y hy
  unfold Txt.split at hy
  split at hy
  · simp at hy
    subst hy
    exact ⟨fun c h => h, Nat.le_refl _⟩
  · split at hy
    · simp at hy
      subst hy
      exact ⟨fun c h => h, Nat.le_refl _⟩
    · unfold partsBetween at hy
      obtain ⟨x, _, rfl⟩ := List.mem_map.mp hy
      exact sub_in
theorem part_in {s sub : Str} : let p := Txt.partition s sub; (∀ c ∈ p.1.cps.toList, c ∈ s.cps.toList) ∧ p.1.length ≤ s.length ∧ (∀ c ∈ p.2.2.cps.toList, c ∈ s.cps.toList) ∧ p.2.2.length ≤ s.length ∧ (p.2.1 = sub ∨ p.2.1 = Str.empty) := by
  unfold Txt.partition
  split
  · exact ⟨sub_in.1, sub_in.2, sub_in.1, sub_in.2, .inl rfl⟩
  · exact ⟨fun c h => h, Nat.le_refl _, fun c h => by simp [Str.empty] at h, Nat.zero_le _, .inr rfl⟩
theorem split_ne {s sub : Str} : Txt.split s sub ≠ [] := by
  unfold Txt.split
  split
  · simp
  · split
    · simp
    · unfold partsBetween
      intro h
      have := congrArg List.length h
      simp at this
end Spl

set_option Elab.async false
set_option linter.all false
set_option maxRecDepth 100000
set_option maxHeartbeats 2000000
namespace Dl
open PySem PySem.Spec PyProof.Rows L2 Rl Dr _root_.Tx Ex Er So Wi Vw
section
variable {M : Md}
/-! ### texts cut -/
def dSplit (s a : DE) : DE := fun δ N R Ex => s δ N (fun x N1 => strR x fun z => a δ N1 (fun y N2 => strR y fun b => (b.length == 0) = false ∧ z.length + 2 ≤ 16777216 ∧ R (.lst ((Txt.split z b).map D.str)) N2) Ex) Ex
theorem okS_split {z b : Str} (o : OkS z) : ∀ y ∈ Txt.split z b, OkS y := fun y hy => okS_sub (Spl.split_in y hy).1 o
theorem rpA_str2 {K : PySem.W.Frag} {cn : Cn} {G : Hp} : ∀ {zs : List Str}, (∀ z ∈ zs, OkS z) → RpA K cn G (zs.map V.str) (zs.map D.str)
  | [], _ => .nil
  | z :: r, h => .cons (.str z (h z (by simp))) (rpA_str2 fun y hy => h y (List.mem_cons_of_mem _ hy))
abbrev tSplit (to te : TE) : TE := tM1 (fun x xs H Q => ∃ a b, x = .str a ∧ xs = [.str b] ∧ (b.length == 0) = false ∧ a.length + 2 ≤ sizeLine ∧ rNewStrs (Txt.split a b) H Q) to te
theorem se_split {to te : TE} {s a : DE} (ho : SE M to s) (he : SE M te a) : SE M (tSplit to te) (dSplit s a) := fun σ H δ N Q R Ex w e h k kx =>
  ho σ H δ N _ _ Ex w e h (fun v H1 x N1 w1 s1 r1 q1 => by
    obtain ⟨z, rfl, oz, q1⟩ := strR_at r1 q1
    exact ⟨⟨z, rfl⟩, he σ H1 δ N1 _ _ Ex w1 (e.mono s1) q1 (fun u H2 y N2 w2 s2 r2 q2 => by
      obtain ⟨b, rfl, ob, q2⟩ := strR_at r2 q2
      refine ⟨z, b, rfl, rfl, q2.1, by rw [sizeLine_eq]; exact q2.2.1, fun p np => ?_⟩
      obtain ⟨a1, a2, a3⟩ := gv_new (.lst ((Txt.split z b).map V.str)) w2 np
      exact k _ _ _ N2 a1 (s1.trans (s2.trans a2)) (.lst a3 (rpA_str2 (okS_split oz))) q2.2.2) (kx.mono s1)⟩) kx
theorem sef_split {to te : TE} {s a : DE} (ho : SE M to s) (he : SE M te a) : SEF M (tSplit to te) (dSplit s a) := fun σ H δ N Q R Ex w e h k kx =>
  ho σ H δ N _ _ Ex w e h (fun v H1 x N1 w1 s1 r1 q1 => by
    obtain ⟨z, rfl, oz, q1⟩ := strR_at r1 q1
    exact ⟨⟨z, rfl⟩, he σ H1 δ N1 _ _ Ex w1 (e.mono s1) q1 (fun u H2 y N2 w2 s2 r2 q2 => by
      obtain ⟨b, rfl, ob, q2⟩ := strR_at r2 q2
      refine ⟨z, b, rfl, rfl, q2.1, by rw [sizeLine_eq]; exact q2.2.1, fun p np => ?_⟩
      obtain ⟨a1, a2, a3⟩ := own_new (ho := .lst ((Txt.split z b).map V.str)) w2 np
      exact k p _ _ (.lst _) N2 a1 a2 (s1.trans (s2.trans a3)) (rpA_str2 (okS_split oz)) q2.2.2) (kx.mono s1)⟩) kx
def dPart3 (s a : DE) : DE := fun δ N R Ex => s δ N (fun x N1 => strR x fun z => a δ N1 (fun y N2 => strR y fun b => (b.length == 0) = false ∧ z.length ≤ 16777216 ∧ R (.tup [.str (Txt.partition z b).1, .str (Txt.partition z b).2.1, .str (Txt.partition z b).2.2]) N2) Ex) Ex
theorem se_part3 {to te : TE} {s a : DE} (ho : SE M to s) (he : SE M te a) : SE M (tM1 (fun x xs H Q => ∃ a b, x = .str a ∧ xs = [.str b] ∧ (b.length == 0) = false ∧ a.length ≤ sizeLine ∧ ∀ p, H p = none → Q (.ref p) (upd H p (.tup [.str (Txt.partition a b).1, .str (Txt.partition a b).2.1, .str (Txt.partition a b).2.2]))) to te) (dPart3 s a) := fun σ H δ N Q R Ex w e h k kx =>
  ho σ H δ N _ _ Ex w e h (fun v H1 x N1 w1 s1 r1 q1 => by
    obtain ⟨z, rfl, oz, q1⟩ := strR_at r1 q1
    exact ⟨⟨z, rfl⟩, he σ H1 δ N1 _ _ Ex w1 (e.mono s1) q1 (fun u H2 y N2 w2 s2 r2 q2 => by
      obtain ⟨b, rfl, ob, q2⟩ := strR_at r2 q2
      refine ⟨z, b, rfl, rfl, q2.1, by rw [sizeLine_eq]; exact q2.2.1, fun p np => ?_⟩
      obtain ⟨a1, a2, a3⟩ := gv_new (.tup [.str (Txt.partition z b).1, .str (Txt.partition z b).2.1, .str (Txt.partition z b).2.2]) w2 np
      obtain ⟨b1, b2, b3, b4, b5⟩ := Spl.part_in (s := z) (sub := b)
      have o2 : OkS (Txt.partition z b).2.1 := by
        rcases b5 with b5 | b5
        · rw [b5]
          exact ob
        · rw [b5]
          intro c hc
          simp [Str.empty] at hc
      exact k _ _ _ N2 a1 (s1.trans (s2.trans a2)) (.tup a3 (.cons (.str _ (okS_sub b1 oz)) (.cons (.str _ o2) (.cons (.str _ (okS_sub b3 oz)) .nil)))) q2.2.2) (kx.mono s1)⟩) kx
/-! ### a written dict's get, str of a digit -/
def kvD (l : List (Str × Int)) (z : Str) : D := match l.lookup z with
  | some i => .int i
  | none => .non
def dGetK (l : List (Str × Int)) (a : DE) : DE := fun δ N R Ex => a δ N (fun x N1 => strR x fun z => R (kvD l z) N1) Ex
theorem se_dgetK {l : List (Str × Int)} {te : TE} {a : DE} (he : SE M te a) : SE M (tDGetK l te) (dGetK l a) := fun σ H δ N Q R Ex w e h k kx =>
  he σ H δ N _ _ Ex w e h (fun v H1 x N1 w1 s1 r1 q1 => by
    obtain ⟨z, rfl, oz, q1⟩ := strR_at r1 q1
    refine ⟨z, rfl, k _ H1 _ N1 w1 s1 ?_ q1⟩
    unfold kvF kvD
    cases l.lookup z with
    | none => exact .non
    | some i => exact .int i) kx
def dStrI : DF0 := fun ds R => match ds with
  | [.int i] => (0 ≤ i ∧ i ≤ 9) ∧ R (.str (toString i))
  | _ => False
theorem sc_strI : SC M (fun xs H Q => ∃ i, xs = [.int i] ∧ i.natAbs.log2 < 1920 ∧ Q (.str (toString i)) H) dStrI := fun xs ds H N Q R w rr h k => by
  unfold dStrI at h
  split at h
  · cases rr with | cons r0 rt => ?_
    cases rt
    obtain ⟨o, l⟩ := okS_dig h.1.1 h.1.2
    rw [rp_int r0]
    exact ⟨_, rfl, l, k _ H _ w (Same.refl _) (.str _ o) h.2⟩
  · exact h.elim
/-! ### x[i] = e -/
def dLput (r : List Nat) (i : Nat) (r2 : List Nat) (dk dv : DE) : DS := fun E δ N => dv (hideS (frz r δ)) N (fun x N1 => isO (keepO r x δ) i ∧ dk (hideS (frz r2 (keepO r x δ))) N1 (fun y N2 => isOl (keepO r x δ) i fun l => ∃ z j, y = .int z ∧ ixN l.length z = some j ∧ E.nx ((keepO r x δ).set i (.o (.lst (l.set j x)))) N2)
  (fun c x' N' => E.ex c x' (hideS (frz r2 (keepO r x δ))) N')) (fun c x N' => E.ex c x (hideS (frz r δ)) N')
theorem RpA.set2 {K : PySem.W.Frag} {cn : Cn} {G : Hp} {v : V} {d : D} : ∀ {vs : List V} {ds : List D}, RpA K cn G vs ds → Rp K cn G v d → ∀ j, RpA K cn G (vs.set j v) (ds.set j d)
  | _, _, .nil, _, _ => .nil
  | _, _, .cons r t, h, 0 => .cons h t
  | _, _, .cons r t, h, j + 1 => .cons r (RpA.set2 t h j)
theorem ss_lput {tv tk : TE} {dv dk : DE} (r : List Nat) (i : Nat) (r2 : List Nat) (hv : SE M tv dv) (hk : SE M tk dk) : SS M (tAsg (tFr tv) (gSub (tVar i) (tFr tk) rSetL)) (dLput r i r2 dk dv) := fun G0 Dd σ H δ N E S q e => by
  show tFr tv σ H fun v H1 => tVar i σ H1 fun x H2 => (tFr tk) σ H2 fun y H3 => rSetL x y v H3 fun H4 => Dd.nx σ H4
  refine ev_e hv r S e q fun v H1 x N1 F1 S1 rx q1 => ?_
  obtain ⟨K1, rk⟩ := keep_at F1 S1 rx
  obtain ⟨F, _⟩ := K1.frz r2
  obtain ⟨hs, q1⟩ := q1
  obtain ⟨od, ho0⟩ := isO_at hs
  obtain ⟨p, ho, ep, _, _⟩ := K1.own i od ho0
  refine ⟨.ref p, ep, ?_⟩
  refine fr_e hk F.hid F.wok F.env q1 (fun y H2 dy N2 hp w s ry q2 => ?_) (ev_x F e)
  obtain ⟨F2, S2, sG⟩ := K1.behind r2 hp w s
  have rv := rk.mono sG
  obtain ⟨l, el, z, j, rfl, hj, q2⟩ := isOl_at q2
  obtain ⟨p2, ho2, ep2, eh2, o2⟩ := S2.own i _ el
  rw [ep] at ep2
  cases ep2
  cases ho2 with
  | lst ys =>
    have o3 : RpA M.K M.cn (Gv M.m (vis H2 σ (keepO r x δ))) ys l := o2
    exact ⟨p, _, _, j, rfl, rp_int ry, eh2, by rw [o3.length]; exact hj, e.nx _ _ _ _ (S2.mut (ho := .lst (ys.set j v)) (x := .lst (l.set j x)) el ep (o3.set2 rv j)) q2⟩
  | _ => exact o2.elim
/-! ### a class in a slot, called -/
def dMakeV (i : Nat) (C : Addr) (f : DFp) (a : DA) : DE := fun δ N R Ex => δ[i]? = some (some (.sta C)) ∧ dCall f a δ N R Ex
theorem se_makeV {i : Nat} {C : Addr} {t : TE} {f : DFp} {a : DA} (h : SE M t (dCall f a)) : SE M (fun σ H Q => σ[i]? = some (some (.ref C)) ∧ t σ H Q) (dMakeV i C f a) := fun σ H δ N Q R Ex w e q k kx => by
  obtain ⟨v, ev, rv⟩ := e.2 i _ q.1
  cases rv
  exact ⟨ev, h σ H δ N Q R Ex w e q.2 k kx⟩
/-! ### a class's own method -/
def dCMeth (C : Addr) (f : DFp) (o : DE) (a : DA) : DE := fun δ N R Ex => o δ N (fun x N1 => x = .sta C ∧ a δ N1 (fun ds N2 => f (.sta C :: ds) (fun x => R x N2) (fun c x => Ex c x N2)) Ex) Ex
theorem se_cmethS {C : Addr} {f : DFp} {to : TE} {o : DE} {t : TA} {a : DA} (ho : SE M to o) (ha : SA M t a) : SE M (tCMethSD C (spP M.K M.cn f) (WE M.W) to t) (dCMeth C f o a) := fun σ H δ N Q R Ex w e h k kx =>
  ho σ H δ N _ _ Ex w e h (fun v H1 x N1 w1 s1 r1 q1 => by
    obtain ⟨rfl, q1⟩ := q1
    cases r1
    refine ⟨rfl, ha σ H1 δ N1 _ _ Ex w1 (e.mono s1) q1 (fun vs H2 ds N2 w2 s2 r2 q2 => ?_) (kx.mono s1)⟩
    exact pure_sp w2 (.cons (.sta C) r2) q2 (fun v H' x w3 s3 r3 q3 => k v H' x N2 w3 (s1.trans (s2.trans s3)) r3 q3) fun c C x dx H' hc w3 s3 xd qx => kx c C x dx H' N2 hc w3 (s1.trans (s2.trans s3)) xd qx) kx
def dCMeth0 (C : Addr) (f : DFp) (o : DE) (a : DA) : DE := fun δ N R Ex => o δ N (fun x N1 => x = .sta C ∧ a δ N1 (fun ds N2 => ds.length = 1 ∧ f (.sta C :: ds) (fun x => R x N2) (fun _ _ => False)) Ex) Ex
theorem se_cmethK0 {C : Addr} {E : XK} {f : DFp} {to : TE} {o : DE} {t : TA} {a : DA} {gV : List V → List V → List V} (hg : ∀ x vs, vs.length = 1 → gV [x] vs = x :: vs) (ho : SE M to o) (ha : SA M t a) : SE M (tCMethK C (spP M.K M.cn f) gV E to t) (dCMeth0 C f o a) := fun σ H δ N Q R Ex w e h k kx =>
  ho σ H δ N _ _ Ex w e h (fun v H1 x N1 w1 s1 r1 q1 => by
    obtain ⟨rfl, q1⟩ := q1
    cases r1
    refine ⟨rfl, ha σ H1 δ N1 _ _ Ex w1 (e.mono s1) q1 (fun vs H2 ds N2 w2 s2 r2 q2 => ?_) (kx.mono s1)⟩
    show spP M.K M.cn f (gV [.ref C] vs) H2 Q E
    rw [hg _ _ (by rw [r2.length]; exact q2.1)]
    exact pure_sp w2 (.cons (.sta C) r2) q2.2 (fun v H' x w3 s3 r3 q3 => k v H' x N2 w3 (s1.trans (s2.trans s3)) r3 q3) fun _ _ _ _ _ _ _ _ _ z => z.elim) kx
/-- the class itself -/
theorem se_cls {C : Addr} : SE M (tC (.ref C)) (dC (.sta C)) := fun σ H δ N Q R Ex w e q k kx => k _ H _ N w (Same.refl _) (.sta C) q
/-! ### try: .. except Base: a suite that raises -/
def tTryO (K : PySem.W.Frag) (c : Value) (ts : Addr → Value → Option Addr → TS) (Wo : WX) (tb : WX → TS) : TS := fun D σ H => tb (wOnly K c ts Wo D) D σ H
theorem ps_tryO {X : Cx} {x : Str} {c : Value} {body suite : List Stmt} {b₀ : Stmt} {np pos pos' : Pos} {tb : WX → TS} {ts : Addr → Value → Option Addr → TS} {Wout : WX} (hs : X.stack = X.env :: X.outer) (hf : X.env.frame = some X.env.locals) (hc : Names X x c)
    (hpa : ∀ hd : Option Value, PassesOwnAt (model X.prog X.w) (X.A.mark hd) X.A X.env X.xe) (tk : L2.Takes X Wout)
    (hb : ∀ (W : WX) (pn : List (Addr × Obj)) (xe : Value → Shared → Prop), L2N.Takes (X.tr pn xe) W → L2.Takes (X.tr pn xe) (L2H.wPass X.K c Wout) → PassesOwn (model X.prog X.w) X.A X.env xe → PSs (X.tr pn xe) body (tb W))
    (hsu : ∀ (a : Addr) (oe : Obj) (cls : Value) (d : Option Addr) (pn : List (Addr × Obj)), L2N.Zn cls d oe → (∃ vs, oe.data = .fields vs) → L2.Takes (L2H.suiteX X a ((a, oe) :: pn)) Wout → L2H.HotC (L2H.suiteX X a ((a, oe) :: pn)) → PSs (L2H.suiteX X a ((a, oe) :: pn)) (b₀ :: suite) (ts a cls d)) :
    PS X (.Try body [.ExceptHandler (some (.Name x np)) none (b₀ :: suite) pos'] [] [] pos) (tTryO X.K c ts Wout tb) := L2H.ps_try_onlyX hs hf hc hpa tk hb hsu
/-- every error of the text's own is taken -/
def dTryO (b h : DS) : DS := fun E δ N => b { E with ex := fun _ _ δ' N' => h E (backS δ') N' } δ N
theorem ss_tryO {c : Value} {ts : Addr → Value → Option Addr → TS} {tb : WX → TS} {b h : DS} (hit : ∀ k C, M.cn.xm k = some C → PySem.W.exmOne M.K (.ref C) c = some true) (hb : ∀ W, SS { M with W := W } (tb W) b) (hh : ∀ a C d, SS M (ts a (.ref C) d) h) : SS M (tTryO M.K c ts M.W tb) (dTryO b h) := fun G0 Dd σ H δ N E S q e =>
  hb (wOnly M.K c ts M.W Dd) G0 Dd σ H δ N _ ⟨S.len, S.wok, S.sub, S.val, S.own, S.dis⟩ q
    ⟨fun σ' H' δ' N' S' q' => e.nx σ' H' δ' N' ⟨S'.len, S'.wok, S'.sub, S'.val, S'.own, S'.dis⟩ q', e.rt, fun σ' H' δ' N' S' q' => e.bk σ' H' δ' N' ⟨S'.len, S'.wok, S'.sub, S'.val, S'.own, S'.dis⟩ q', fun σ' H' δ' N' S' q' => e.ct σ' H' δ' N' ⟨S'.len, S'.wok, S'.sub, S'.val, S'.own, S'.dis⟩ q',
      fun k C x dx σ' H' δ' N' a w s en xd q' => ⟨true, hit k C a, fun _ ad na => hh ad C dx G0 Dd σ' H' (backS δ') N' E (si_plain (by unfold backS; rw [List.length_map]; exact en.1) (fun j d2 hj => by
          rcases backS_get hj with ⟨_, z, _⟩ | z <;> cases z) w s fun j d2 hj => by
          rcases backS_get hj with ⟨d4, z, e5⟩ | z
          · cases z
            exact en.2 j _ e5
          · cases z) q' e, fun z => by cases z⟩⟩
end
end Dl

set_option Elab.async false
set_option linter.all false
set_option maxRecDepth 100000
set_option maxHeartbeats 2000000
namespace Dl
open PySem PySem.Spec PyProof.Rows L2 Rl Dr _root_.Tx Ex Er So Wi Vw
/-! ### isinstance of the caught exception -/
def rIsE2 (K : PySem.W.Frag) (cls : Value) (a : Addr) (dd : Option Addr) : List V → Hp → VK → Prop := fun xs H Q => ∃ (D d : Addr) (c : V) (u : Value) (b : Bool) (fs : List (Str × V)), cls = .ref D ∧ dd = some d ∧ ExcC K D ∧ xs = [.ref a, c] ∧ ClsV c u ∧ H d = some (.xd fs) ∧ PySem.W.kitOne K (.ref D) u = some b ∧ Q (.bl b) H
theorem call_isE2 {X : Cx} {a : Addr} {cls : Value} {dd : Option Addr} {oe : Obj} {pn : List (Addr × Obj)} (hz : Zc cls dd oe) (hf : ∃ vs, oe.data = .fields vs) : CallR (X.suite a ((a, oe) :: pn)) (.builtin "isinstance") (rIsE2 X.K cls a dd) := by
  intro pins s σ H xs us Q I r h
  obtain ⟨D, d, c, u, b, fs, rfl, rfl, C, rfl, k, ed, e, q⟩ := h
  obtain ⟨u1, u2, rfl, r1, r2⟩ := vals2 r
  have e2 := k.eq r2
  subst e2
  cases (show u1 = Value.ref a from r1)
  have ho : s.heap.get? a = some oe := (I.pin (a, oe) (List.mem_append_left _ List.mem_cons_self)).1
  obtain ⟨vs, hd⟩ := hf
  obtain ⟨mA, hns, _⟩ := (show ObjOk X.prog X.w H s.heap d (.xd fs) from I.hok d _ ed)
  obtain ⟨od, hd2, _⟩ := lookIn_ns hns
  exact PySem.W.kia_one (kit_own (od := some od) C) I.kIn ⟨ho, hz.1, by unfold PySem.W.notCls; rw [hd] <;> rfl, by rw [hz.2]; exact hd2⟩ e (fun z => nomatch z) fun tk => ⟨.bl b, H, I.tok tk, rfl, q⟩
section
variable {M : Md} {mg : Str → Option Value}
def dIsX (a dx : Addr) (o : DE) : DE := fun δ N R Ex => o δ N (fun x N1 => match x with
  | .exc a' dx' _ _ => a' = a ∧ dx' = dx ∧ R (.bl true) N1
  | _ => False) Ex
theorem se_isX {a dx D R0 : Addr} {te : TE} {o : DE} (C : ExcC M.K D) (hk : PySem.W.kitOne M.K (.ref D) (.ref R0) = some true) (h : SE M te o) : SE M (tCB (rIsE2 M.K (.ref D) a (some dx)) (tCons te (tCons (tC (.ref R0)) tNil))) (dIsX a dx o) := fun σ H δ N Q R Ex w e q k kx =>
  h σ H δ N _ _ Ex w e q (fun v H1 x N1 w1 s1 r1 q1 => by
    split at q1
    · obtain ⟨rfl, rfl, q1⟩ := q1
      cases r1 with | exc e1 r2 => ?_
      exact ⟨D, _, .ref R0, _, true, _, rfl, rfl, C, rfl, .own _, gv_sub _ _ e1, hk, k _ H1 _ N1 w1 s1 (.bl _) q1⟩
    · exact q1.elim) kx
/-! ### a call while one dict is locked -/
def spL (K : PySem.W.Frag) (cn : Cn) (f : DFp) : Sp := fun vs H Q E => ∃ p, spP K (cn.lkd p) f vs H Q E
theorem okL {P : Program} {w : World} {K : PySem.W.Frag} {mg : Str → Option Value} {base : Heap} {CX : CXT} {k : Nat} {g : Addr} {fd : FuncData} {ps : List Str} {cn : Cn} {f : DFp} (F : ∀ p, FnOk P w K mg base CX k g fd ps (spP K (cn.lkd p) f)) : FnOk P w K mg base CX k g fd ps (spL K cn f) :=
  ⟨fun vs H Q E ⟨p, h⟩ => (F p).len vs H Q E h, fun A outer s H args us vs Q E hr e0 hb r ⟨p, h⟩ => (F p).run A outer s H args us vs Q E hr e0 hb r h⟩
theorem se_meth0L {cn : Cn} {p : Addr} {c : Nat} {m : Str} {C : Addr} {f : DFp} {to : TE} {o : DE} {t : TA} {a : DA} {E : XK} (hl : M.cn = cn.lkd p) (hc : M.cn.cm c = some C) (hm : m ∉ M.cn.fn c) (ho : SE M to o) (ha : SA M t a) : SE M (tMeth C m (spL M.K cn f) [] E to t) (dMeth0 c f o a) := fun σ H δ N Q R Ex w e h k kx =>
  ho σ H δ N _ _ Ex w e h (fun v H1 x N1 w1 s1 r1 q1 => by
    obtain ⟨q1, b, dx, fs, rfl, e2, nl⟩ := clsD_at hc r1 q1
    refine ⟨b, dx, fs, rfl, gv_sub _ _ e2, nl m hm, ?_⟩
    refine ha σ H1 δ N1 _ _ Ex w1 (e.mono s1) q1 (fun vs H2 ds N2 w2 s2 r2 q2 => ?_) (kx.mono s1)
    rw [List.append_nil]
    refine ⟨p, ?_⟩
    rw [← hl]
    exact pure_sp w2 (.cons (r1.mono s2) r2) q2 (fun v H' x w3 s3 r3 q3 => k v H' x N2 w3 (s1.trans (s2.trans s3)) r3 q3) fun _ _ _ _ _ _ _ _ _ z => z.elim) kx
end
theorem okHn {CX : CXT} {P : Program} {w : World} {K : PySem.W.Frag} {mg : Str → Option Value} {base : Heap} {k : Nat} {f : Addr} {fd : FuncData} {ps : List Str} {sp : Sp} {x qual : Str} {st : Stmt} {N : List Str} (F : Fun K x qual st f fd) (S : FnScope N ps (defScope st)) (len : ∀ vs H Q E, sp vs H Q E → vs.length = ps.length)
    (hbody : ∀ (cdv : Value) (A : Around) (outer : List Env) (s : Shared) (H : Hp) (vs : List V) (Q : VK) (E : XK) (p : Addr × Obj), sp vs H Q E →
      ∃ t, PSs (L2H.cxH CX P w K mg base N qual (defScope st) f cdv A outer s H E p) (defBody st) t ∧ t { nx := fun _ H' => Q .non H', rt := Q } (L2.start N vs) H) : L2H.FnH P w K mg base CX (k + 1) f fd ps sp := by
  obtain ⟨oc, od, kV, doc, pm, an, cdv, ct, osl, rfl, lk, hcd⟩ := F.ex
  exact L2H.fn_ofH lk hcd S len fun A outer s H vs Q E p _ _ hsp => hbody cdv A outer s H vs Q E p hsp
end Dl

set_option Elab.async false
set_option linter.all false
set_option maxRecDepth 100000
set_option maxHeartbeats 2000000
namespace Dl
open PySem PySem.Spec PyProof.Rows L2 Rl Dr _root_.Tx Ex Er So Wi Vw
section
variable {M : Md}
/-! ### for over the keys of a dict that stands in a list -/
def dForKI (i j : Nat) (vs : List Nat) (g : DG) (b : DS) : DS := fun E δ N => match δ[i]? with
  | some (.v (.lst ds)) => (match ds[j]? with
    | some d => (match keysI d with
      | some items => items.length ≤ sizeLine ∧ forGo vs g b { E with ex := fun _ _ _ _ => False } items δ N
      | none => False)
    | none => False)
  | _ => False
theorem RpA.at_ {K : PySem.W.Frag} {cn : Cn} {G : Hp} {d : D} : ∀ {vs : List V} {ds : List D} {j : Nat}, RpA K cn G vs ds → ds[j]? = some d → ∃ v, vs[j]? = some v ∧ Rp K cn G v d
  | _, _, 0, .cons r _, h => ⟨_, rfl, by cases h; exact r⟩
  | _, _, j + 1, .cons _ t, h => RpA.at_ t (j := j) h
theorem ss_forKI {tb : TS} {g : TG} {dg : DG} {b : DS} {vs : List Nat} (i j : Nat) (hl : M.cn.lk = none) (hg : ∀ p, SG (M.lkd p).nox vs g dg) (hb : ∀ p, SS (M.lkd p).nox tb b) : SS M (tLock (tFor (iKeys (tOp (rIxL M.K) (tVar i) (tC (.int (j : Nat))))) g tb)) (dForKI i j vs dg b) := fun G0 Dd σ H δ N E S q e => by
  unfold dForKI at q
  split at q
  · rename_i ds hd0
    split at q
    · rename_i d hd
      split at q
      · rename_i items hi
        obtain ⟨v0, hs, rv0⟩ := S.val i _ hd0
        obtain ⟨bb, xs, rfl, eb, rx⟩ := rp_lst rv0
        obtain ⟨v9, hv, rv⟩ := RpA.at_ rx hd
        obtain ⟨p, u, rfl, hp, hu, mu, hJ⟩ := lock_at (H := vis H σ δ) hl S.wok rv hi q.1
        refine ⟨p, u, vis_sub _ _ hp, mu, fun od => ?_⟩
        obtain ⟨J, Wk, cJ⟩ := hJ od
        have S1 : SI (M.lkd p).nox (upd (Gv M.m (vis H σ δ)) p (.frz od u)) N (upd H p (.frz od u)) σ δ := by
          have := S.lock (od := od) hl hu hp
          exact ⟨this.len, this.wok, this.sub, this.val, this.own, this.dis⟩
        have nb : bb ≠ p := fun z => by
          rw [z, hp] at eb
          cases eb
          exact hu
        have eb2 : upd H p (.frz od u) bb = some (.lst xs) := by
          rw [upd_ne nb]
          exact vis_sub _ _ eb
        have hlt : j < xs.length := (List.getElem?_eq_some_iff.mp hv).1
        have hix : atI xs (j : Int) = some (.ref p) := by
          unfold atI ixN
          rw [if_pos (Int.natCast_nonneg j), if_pos (by exact_mod_cast hlt)]
          exact hv
        have hp2 : upd H p (.frz od u) p = some (.frz od u) := upd_same
        have run : ∀ Q : VK, Q (.ref p) (upd H p (.frz od u)) → tOp (rIxL M.K) (tVar i) (tC (.int (j : Nat))) σ (upd H p (.frz od u)) Q := fun Q hQ => ⟨_, hs, ⟨bb, xs, j, .ref p, rfl, rfl, sq eb2, hix, hQ⟩⟩
        have go := for_go (M := (M.lkd p).nox) (G0 := upd (Gv M.m (vis H σ δ)) p (.frz od u)) (hg p) (hb p) (Dd := ⟨fun σ' H' => H' p = some (.frz od u) ∧ Dd.nx σ' (upd H' p u), fun v H' => H' p = some (.frz od u) ∧ Dd.rt v (upd H' p u), fun σ' H' => H' p = some (.frz od u) ∧ Dd.bk σ' (upd H' p u), fun σ' H' => H' p = some (.frz od u) ∧ Dd.ct σ' (upd H' p u)⟩) S1 ⟨Wk.few, Wk.go, Wk.stop, Wk.yld⟩ (Same.refl _) q.2 ⟨?_, ?_, ?_, ?_, fun _ _ _ _ _ _ _ _ _ _ _ _ _ z => z.elim⟩
        · have hp2 : upd H p (.frz od u) p = some (.frz od u) := upd_same
          rcases cJ with ⟨kvs, rfl, rfl⟩ | ⟨kvs, rfl, rfl⟩
          · exact run _ ⟨p, od, rfl, .inl ⟨kvs, hp2, go⟩⟩
          · exact run _ ⟨p, od, rfl, .inr ⟨kvs, hp2, go⟩⟩
        · intro σ' H' δ' N' S' z
          obtain ⟨a, b⟩ := SI.unlock (M := M) (G0 := G0) hl ⟨S'.len, S'.wok, S'.sub, S'.val, S'.own, S'.dis⟩ S.sub hp
          exact ⟨a, e.nx _ _ _ _ b z⟩
        · intro v H' x N' w' s' r z
          have at_ : Gv M.m H' p = some (.frz od u) := s' _ _ upd_same
          obtain ⟨eg, w2⟩ := gv_upd (o := u) w' at_
          refine ⟨gv_sub _ _ at_, e.rt v _ x N' w2 (fun b o eb => ?_) (by rw [eg]; exact Rp.free hl at_ r) z⟩
          rw [eg]
          have e1 := S.sub _ _ eb
          by_cases c : b = p
          · subst c
            rw [upd_same, ← hp]
            exact e1
          · rw [upd_ne c]
            refine s' _ _ ?_
            rw [upd_ne c]
            exact e1
        · intro σ' H' δ' N' S' z
          obtain ⟨a, b⟩ := SI.unlock (M := M) (G0 := G0) hl ⟨S'.len, S'.wok, S'.sub, S'.val, S'.own, S'.dis⟩ S.sub hp
          exact ⟨a, e.bk _ _ _ _ b z⟩
        · intro σ' H' δ' N' S' z
          obtain ⟨a, b⟩ := SI.unlock (M := M) (G0 := G0) hl ⟨S'.len, S'.wok, S'.sub, S'.val, S'.own, S'.dis⟩ S.sub hp
          exact ⟨a, e.ct _ _ _ _ b z⟩
      · exact q.elim
    · exact q.elim
  · exact q.elim
end
end Dl

set_option Elab.async false
set_option linter.all false
set_option maxRecDepth 100000
set_option maxHeartbeats 2000000
namespace Dl
open PySem PySem.Spec PyProof.Rows L2 Rl Dr _root_.Tx Ex Er So Wi Vw
section
variable {M : Md}
/-! ### a, b, c = a list -/
def dgLst (n : Nat) (ds : DGs) : DG := fun x δ k => match x with
  | .lst l => l.length = n ∧ ds l δ k
  | _ => False
theorem sg_lst {vs : List Nat} {n : Nat} {gs : TGs} {ds : DGs} (h : SGs M vs gs ds) : SG M vs (gLst M.K n gs) (dgLst n ds) := fun v x σ H G δ k Q s r e q kq => by
  unfold dgLst at q
  split at q
  · obtain ⟨a, xs, rfl, e1, r1⟩ := rp_lst r
    exact ⟨a, xs, rfl, sq (s _ _ e1), by rw [r1.length]; exact q.1, h xs _ σ H G δ k Q s r1 e q.2 kq⟩
  · exact q.elim
theorem pg_lstK {X : Cx} {K : PySem.W.Frag} (hK : X.K = K) {pos : Pos} {es : List Expr} {k : Nat} {t : TGs} (n : Nat) (hc : X.calm = true) (h : PGs X es t) (h1 : (assignEach es X.env).length = n := by rfl) (h2 : List.findIdx? (fun x => x.fst) (assignEach es X.env) = none := by rfl) : PG X (.Tuple es k pos) (gLst K n t) := by
  subst hK
  exact pg_lst hc h h1 h2
/-! ### int(text) -/
def dIntS : DF0 := fun ds R => match ds with
  | [.str z] => ∃ n, PySem.intText? z = some n ∧ z.length ≤ 640 ∧ R (.int n)
  | _ => False
theorem sc_intS : SC M (fun xs H Q => ∃ a n, xs = [.str a] ∧ PySem.intText? a = some n ∧ a.length ≤ 640 ∧ Q (.int n) H) dIntS := fun xs ds H N Q R w rr h k => by
  unfold dIntS at h
  split at h
  · cases rr with | cons r0 rt => ?_
    cases rt
    obtain ⟨rfl, o⟩ := rp_str r0
    obtain ⟨n, h1, h2, h3⟩ := h
    exact ⟨_, n, rfl, h1, h2, k _ H _ w (Same.refl _) (.int _) h3⟩
  · exact h.elim
/-! ### a list against the empty list -/
def rEqE (K : PySem.W.Frag) : R2 := fun x y H Q => ∃ a b xs, x = .ref a ∧ y = .ref b ∧ SqL K H a xs ∧ SqL K H b [] ∧ Q (.bl xs.isEmpty) H
theorem op_eqE {X : Cx} (hu : X.A.units + 64 < cLine) : OpR X (compareOp .Eq) (rEqE X.K) := by
  intro pins s σ H x y v u Q I rx ry h
  obtain ⟨a, b, xs, rfl, rfl, ha, hb, q⟩ := h
  cases xs with
  | nil => exact op_eqV hu pins s σ H _ _ v u Q I rx ry ⟨1, by decide, .inl ⟨a, b, [], [], rfl, rfl, ha, hb, .nil⟩, q⟩
  | cons z r =>
    cases rx
    cases ry
    obtain ⟨us, r1, p1, _⟩ := I.list ha
    obtain ⟨ws, r2, p2, _⟩ := I.list hb
    have hs : (us.toArray.size != ws.toArray.size) = true := by
      rw [List.size_toArray, List.size_toArray, ← r1.length, ← r2.length]
      rfl
    exact SeqAt.RcAt.lists_lengths p1.isList p2.isList hs (by omega) _ _ _ _ ⟨.bl false, H, I, rfl, q⟩
def dEqE : DOp := fun x y R => match x, y with
  | .lst l, .lst [] => R (.bl l.isEmpty)
  | _, _ => False
theorem sr_eqE : SR M (rEqE M.K) dEqE := fun x y dx dy H N Q R w rx ry h k => by
  unfold dEqE at h
  split at h
  · obtain ⟨a, xs, rfl, e1, r1⟩ := rp_lst rx
    obtain ⟨b, ys, rfl, e2, r2⟩ := rp_lst ry
    cases r2
    refine ⟨a, b, xs, rfl, rfl, sq (gv_sub _ _ e1), sq (gv_sub _ _ e2), k _ H _ w (Same.refl _) (.bl _) ?_⟩
    have e : xs.isEmpty = (show List D from ‹List D›).isEmpty := by
      cases r1 <;> rfl
    rw [e]
    exact h
  · exact h.elim
end
end Dl

set_option Elab.async false
set_option linter.all false
/-! how long the parts are, all together -/
namespace Spl
open PySem PySem.Builtin.Str
inductive Gap (w hi : Nat) : Nat → List Nat → Prop
  | nil {o : Nat} : o ≤ hi → Gap w hi o []
  | cons {o c : Nat} {cs : List Nat} : o ≤ c → c + w ≤ hi → Gap w hi (c + w) cs → Gap w hi o (c :: cs)
theorem gap_mono {w hi : Nat} : ∀ {cs : List Nat} {o o' : Nat}, o' ≤ o → Gap w hi o cs → Gap w hi o' cs
  | [], _, _, h, .nil a => .nil (by omega)
  | _ :: _, _, _, h, .cons a b t => .cons (by omega) b t
theorem gap_occ {s sub : Str} {hi : Nat} : ∀ (n k i free o : Nat), o ≤ free → o ≤ hi → Gap sub.length hi o (occR s sub hi n k i free)
  | 0, k, i, free, o, h, ho => .nil ho
  | n + 1, k, i, free, o, h, ho => by
    rw [occ_succ]
    split
    · rename_i c
      exact .cons (by have := c.1.1.2; omega) c.1.2 (gap_occ n (k - 1) (i + 1) (i + sub.length) (i + sub.length) (Nat.le_refl _) c.1.2)
    · exact gap_occ n k (i + 1) free o h ho
theorem sum_gap {s : Str} {w : Nat} : ∀ {cs : List Nat} {o : Nat}, Gap w s.length o cs → (((o :: cs.map (· + w)).zip (cs ++ [s.length])).map (fun x => (strSub s x.1 x.2).length)).sum + cs.length * w ≤ s.length - o
  | [], o, .nil a => by
    show (strSub s o s.length).length + 0 + 0 * w ≤ _
    unfold strSub
    simp [Str.length]
  | c :: cs, o, .cons a b t => by
    have ih := sum_gap t
    show (strSub s o c).length + ((((c + w) :: cs.map (· + w)).zip (cs ++ [s.length])).map (fun x => (strSub s x.1 x.2).length)).sum + (cs.length + 1) * w ≤ _
    have e : (strSub s o c).length ≤ c - o := by
      unfold strSub
      simp [Str.length]
      omega
    rw [Nat.succ_mul]
    omega
theorem sum_split (s sub : Str) : ((Txt.split s sub).map (·.length)).sum + ((Txt.split s sub).length - 1) * sub.length ≤ s.length := by
  unfold Txt.split
  split
  · simp
  · split
    · simp
    · unfold partsBetween
      rw [occ_R]
      have g := gap_occ (s := s) (sub := sub) (hi := s.length) (s.length + 1) (s.length + 1) 0 0 0 (Nat.le_refl _) (Nat.zero_le _)
      generalize occR s sub s.length (s.length + 1) (s.length + 1) 0 0 = cs at g ⊢
      have := sum_gap g
      dsimp only
      rw [List.map_map]
      have l : (List.map (fun x => match x with | (i, j) => strSub s i j) ((0 :: cs.map (· + sub.length)).zip (cs ++ [s.length]))).length = cs.length + 1 := by simp
      rw [l]
      exact this
end Spl

set_option Elab.async false
set_option linter.all false
set_option maxRecDepth 100000
set_option maxHeartbeats 1000000
namespace K11
open PySem PySem.Spec PyProof.Rows L2 Rl Dr _root_.Tx Ex Er So Wi Vw
def topS (i : Nat) : Stmt := PySem.Challenge.pw_surerests_k11_wiring_texts.main.body.getD i (.Pass ⟨0, 0, 0, 0⟩)
abbrev s_wall : Stmt := topS 0
abbrev N_wall : List Str := ["k"]
theorem sc_wall : FnScope ["k"] ["k"] (defScope s_wall) := ⟨rfl, rfl, rfl, by decide +kernel, rfl, by decide +kernel, by decide +kernel⟩
abbrev s_BadName___init__ : Stmt := inClass (topS 3) 0
abbrev N_BadName___init__ : List Str := ["self", "name"]
theorem sc_BadName___init__ : FnScope ["self", "name"] ["self", "name"] (defScope s_BadName___init__) := ⟨rfl, rfl, rfl, by decide +kernel, rfl, by decide +kernel, by decide +kernel⟩
abbrev s_UnknownName___init__ : Stmt := inClass (topS 4) 0
abbrev N_UnknownName___init__ : List Str := ["self", "name"]
theorem sc_UnknownName___init__ : FnScope ["self", "name"] ["self", "name"] (defScope s_UnknownName___init__) := ⟨rfl, rfl, rfl, by decide +kernel, rfl, by decide +kernel, by decide +kernel⟩
abbrev s_BadCount___init__ : Stmt := inClass (topS 5) 0
abbrev N_BadCount___init__ : List Str := ["self", "count"]
theorem sc_BadCount___init__ : FnScope ["self", "count"] ["self", "count"] (defScope s_BadCount___init__) := ⟨rfl, rfl, rfl, by decide +kernel, rfl, by decide +kernel, by decide +kernel⟩
abbrev s_BadTop___init__ : Stmt := inClass (topS 6) 0
abbrev N_BadTop___init__ : List Str := ["self", "value"]
theorem sc_BadTop___init__ : FnScope ["self", "value"] ["self", "value"] (defScope s_BadTop___init__) := ⟨rfl, rfl, rfl, by decide +kernel, rfl, by decide +kernel, by decide +kernel⟩
abbrev s_BadArrow___init__ : Stmt := inClass (topS 7) 0
abbrev N_BadArrow___init__ : List Str := ["self", "value"]
theorem sc_BadArrow___init__ : FnScope ["self", "value"] ["self", "value"] (defScope s_BadArrow___init__) := ⟨rfl, rfl, rfl, by decide +kernel, rfl, by decide +kernel, by decide +kernel⟩
abbrev s_BadText___init__ : Stmt := inClass (topS 8) 0
abbrev N_BadText___init__ : List Str := ["self", "text"]
theorem sc_BadText___init__ : FnScope ["self", "text"] ["self", "text"] (defScope s_BadText___init__) := ⟨rfl, rfl, rfl, by decide +kernel, rfl, by decide +kernel, by decide +kernel⟩
abbrev s_valid_name : Stmt := topS 13
abbrev N_valid_name : List Str := ["text", "character"]
theorem sc_valid_name : FnScope ["text", "character"] ["text"] (defScope s_valid_name) := ⟨rfl, rfl, rfl, by decide +kernel, rfl, by decide +kernel, by decide +kernel⟩
abbrev s_stands_in_name : Stmt := topS 14
abbrev N_stands_in_name : List Str := ["character"]
theorem sc_stands_in_name : FnScope ["character"] ["character"] (defScope s_stands_in_name) := ⟨rfl, rfl, rfl, by decide +kernel, rfl, by decide +kernel, by decide +kernel⟩
abbrev s_Wiring___init__ : Stmt := inClass (topS 22) 0
abbrev N_Wiring___init__ : List Str := ["self", "tops", "arrows", "name"]
theorem sc_Wiring___init__ : FnScope ["self", "tops", "arrows", "name"] ["self", "tops", "arrows"] (defScope s_Wiring___init__) := ⟨rfl, rfl, rfl, by decide +kernel, rfl, by decide +kernel, by decide +kernel⟩
abbrev s_Wiring_read : Stmt := inClass (topS 22) 1
abbrev N_Wiring_read : List Str := ["cls", "text", "pieces", "tops", "arrows", "wiring", "piece"]
theorem sc_Wiring_read : FnScope ["cls", "text", "pieces", "tops", "arrows", "wiring", "piece"] ["cls", "text"] (defScope s_Wiring_read) := ⟨rfl, rfl, rfl, by decide +kernel, rfl, by decide +kernel, by decide +kernel⟩
abbrev s_Wiring_parts : Stmt := inClass (topS 22) 2
abbrev N_Wiring_parts : List Str := ["self"]
theorem sc_Wiring_parts : FnScope ["self"] ["self"] (defScope s_Wiring_parts) := ⟨rfl, rfl, rfl, by decide +kernel, rfl, by decide +kernel, by decide +kernel⟩
abbrev s_Wiring_arrows : Stmt := inClass (topS 22) 3
abbrev N_Wiring_arrows : List Str := ["self"]
theorem sc_Wiring_arrows : FnScope ["self"] ["self"] (defScope s_Wiring_arrows) := ⟨rfl, rfl, rfl, by decide +kernel, rfl, by decide +kernel, by decide +kernel⟩
abbrev s_Wiring_top : Stmt := inClass (topS 22) 4
abbrev N_Wiring_top : List Str := ["self", "name"]
theorem sc_Wiring_top : FnScope ["self", "name"] ["self", "name"] (defScope s_Wiring_top) := ⟨rfl, rfl, rfl, by decide +kernel, rfl, by decide +kernel, by decide +kernel⟩
abbrev s_Wiring_sources : Stmt := inClass (topS 22) 5
abbrev N_Wiring_sources : List Str := ["self", "name"]
theorem sc_Wiring_sources : FnScope ["self", "name"] ["self", "name"] (defScope s_Wiring_sources) := ⟨rfl, rfl, rfl, by decide +kernel, rfl, by decide +kernel, by decide +kernel⟩
abbrev s_Wiring_sign : Stmt := inClass (topS 22) 6
abbrev N_Wiring_sign : List Str := ["self", "source", "target"]
theorem sc_Wiring_sign : FnScope ["self", "source", "target"] ["self", "source", "target"] (defScope s_Wiring_sign) := ⟨rfl, rfl, rfl, by decide +kernel, rfl, by decide +kernel, by decide +kernel⟩
abbrev s_Wiring_states : Stmt := inClass (topS 22) 7
abbrev N_Wiring_states : List Str := ["self", "name"]
theorem sc_Wiring_states : FnScope ["self", "name"] ["self"] (defScope s_Wiring_states) := ⟨rfl, rfl, rfl, by decide +kernel, rfl, by decide +kernel, by decide +kernel⟩
abbrev s_Wiring_is_state : Stmt := inClass (topS 22) 8
abbrev N_Wiring_is_state : List Str := ["self", "value"]
theorem sc_Wiring_is_state : FnScope ["self", "value"] ["self", "value"] (defScope s_Wiring_is_state) := ⟨rfl, rfl, rfl, by decide +kernel, rfl, by decide +kernel, by decide +kernel⟩
abbrev s_Wiring_with_arrow : Stmt := inClass (topS 22) 9
abbrev N_Wiring_with_arrow : List Str := ["self", "source", "target", "sign"]
theorem sc_Wiring_with_arrow : FnScope ["self", "source", "target", "sign"] ["self", "source", "target", "sign"] (defScope s_Wiring_with_arrow) := ⟨rfl, rfl, rfl, by decide +kernel, rfl, by decide +kernel, by decide +kernel⟩
abbrev s_Wiring_without_arrow : Stmt := inClass (topS 22) 10
abbrev N_Wiring_without_arrow : List Str := ["self", "source", "target"]
theorem sc_Wiring_without_arrow : FnScope ["self", "source", "target"] ["self", "source", "target"] (defScope s_Wiring_without_arrow) := ⟨rfl, rfl, rfl, by decide +kernel, rfl, by decide +kernel, by decide +kernel⟩
abbrev s_Wiring_only : Stmt := inClass (topS 22) 11
abbrev N_Wiring_only : List Str := ["self", "names"]
theorem sc_Wiring_only : FnScope ["self", "names"] ["self", "names"] (defScope s_Wiring_only) := ⟨rfl, rfl, rfl, by decide +kernel, rfl, by decide +kernel, by decide +kernel⟩
abbrev s_Wiring_mirrored : Stmt := inClass (topS 22) 12
abbrev N_Wiring_mirrored : List Str := ["self"]
theorem sc_Wiring_mirrored : FnScope ["self"] ["self"] (defScope s_Wiring_mirrored) := ⟨rfl, rfl, rfl, by decide +kernel, rfl, by decide +kernel, by decide +kernel⟩
abbrev s_Wiring___eq__ : Stmt := inClass (topS 22) 13
abbrev N_Wiring___eq__ : List Str := ["self", "other"]
theorem sc_Wiring___eq__ : FnScope ["self", "other"] ["self", "other"] (defScope s_Wiring___eq__) := ⟨rfl, rfl, rfl, by decide +kernel, rfl, by decide +kernel, by decide +kernel⟩
abbrev s_Wiring___str__ : Stmt := inClass (topS 22) 14
abbrev N_Wiring___str__ : List Str := ["self", "heads", "tails", "name", "source", "target", "sign"]
theorem sc_Wiring___str__ : FnScope ["self", "heads", "tails", "name", "source", "target", "sign"] ["self"] (defScope s_Wiring___str__) := ⟨rfl, rfl, rfl, by decide +kernel, rfl, by decide +kernel, by decide +kernel⟩
abbrev s_Wiring__check_part : Stmt := inClass (topS 22) 15
abbrev N_Wiring__check_part : List Str := ["self", "name"]
theorem sc_Wiring__check_part : FnScope ["self", "name"] ["self", "name"] (defScope s_Wiring__check_part) := ⟨rfl, rfl, rfl, by decide +kernel, rfl, by decide +kernel, by decide +kernel⟩
abbrev s_Wiring__other_arrows : Stmt := inClass (topS 22) 16
abbrev N_Wiring__other_arrows : List Str := ["self", "source", "target"]
theorem sc_Wiring__other_arrows : FnScope ["self", "source", "target"] ["self", "source", "target"] (defScope s_Wiring__other_arrows) := ⟨rfl, rfl, rfl, by decide +kernel, rfl, by decide +kernel, by decide +kernel⟩
abbrev s_level_choices : Stmt := topS 23
abbrev N_level_choices : List Str := ["tops", "choices", "top", "choice", "level"]
theorem sc_level_choices : FnScope ["tops", "choices", "top", "choice", "level"] ["tops"] (defScope s_level_choices) := ⟨rfl, rfl, rfl, by decide +kernel, rfl, by decide +kernel, by decide +kernel⟩
abbrev s_is_whole : Stmt := topS 24
abbrev N_is_whole : List Str := ["value", "least", "most"]
theorem sc_is_whole : FnScope ["value", "least", "most"] ["value", "least", "most"] (defScope s_is_whole) := ⟨rfl, rfl, rfl, by decide +kernel, rfl, by decide +kernel, by decide +kernel⟩
abbrev s_check_tops : Stmt := topS 25
abbrev N_check_tops : List Str := ["tops", "parts", "name", "count"]
theorem sc_check_tops : FnScope ["tops", "parts", "name", "count"] ["tops"] (defScope s_check_tops) := ⟨rfl, rfl, rfl, by decide +kernel, rfl, by decide +kernel, by decide +kernel⟩
abbrev s_count_states : Stmt := topS 26
abbrev N_count_states : List Str := ["tops", "count", "top"]
theorem sc_count_states : FnScope ["tops", "count", "top"] ["tops"] (defScope s_count_states) := ⟨rfl, rfl, rfl, by decide +kernel, rfl, by decide +kernel, by decide +kernel⟩
abbrev s_checked_signs : Stmt := topS 27
abbrev N_checked_signs : List Str := ["tops", "arrows", "signs", "arrow"]
theorem sc_checked_signs : FnScope ["tops", "arrows", "signs", "arrow"] ["tops", "arrows"] (defScope s_checked_signs) := ⟨rfl, rfl, rfl, by decide +kernel, rfl, by decide +kernel, by decide +kernel⟩
abbrev s_is_arrow : Stmt := topS 28
abbrev N_is_arrow : List Str := ["parts", "value", "source", "target", "sign", "item"]
theorem sc_is_arrow : FnScope ["parts", "value", "source", "target", "sign", "item"] ["parts", "value"] (defScope s_is_arrow) := ⟨rfl, rfl, rfl, by decide +kernel, rfl, by decide +kernel, by decide +kernel⟩
abbrev s_read_tops : Stmt := topS 29
abbrev N_read_tops : List Str := ["text", "tops", "piece", "name", "_", "top"]
theorem sc_read_tops : FnScope ["text", "tops", "piece", "name", "_", "top"] ["text"] (defScope s_read_tops) := ⟨rfl, rfl, rfl, by decide +kernel, rfl, by decide +kernel, by decide +kernel⟩
abbrev s_read_arrow : Stmt := topS 30
abbrev N_read_arrow : List Str := ["text", "words", "source", "sign", "target"]
theorem sc_read_arrow : FnScope ["text", "words", "source", "sign", "target"] ["text"] (defScope s_read_arrow) := ⟨rfl, rfl, rfl, by decide +kernel, rfl, by decide +kernel, by decide +kernel⟩
abbrev s_l_start : Stmt := topS 32
abbrev N_l_start : List Str := ["_law_script", "_law_cell"]
theorem sc_l_start : FnScope ["_law_script", "_law_cell"] ["_law_script"] (defScope s_l_start) := ⟨rfl, rfl, rfl, by decide +kernel, rfl, by decide +kernel, by decide +kernel⟩
abbrev s_l_draw : Stmt := topS 33
abbrev N_l_draw : List Str := ["_law_state", "_law_size", "_law_digit", "_law_cell", "_law_one"]
theorem sc_l_draw : FnScope ["_law_state", "_law_size", "_law_digit", "_law_cell", "_law_one"] ["_law_state", "_law_size"] (defScope s_l_draw) := ⟨rfl, rfl, rfl, by decide +kernel, rfl, by decide +kernel, by decide +kernel⟩
abbrev s_l_order : Stmt := topS 34
abbrev N_l_order : List Str := ["_law_state", "_law_items", "_law_left", "_law_told", "_law_k"]
theorem sc_l_order : FnScope ["_law_state", "_law_items", "_law_left", "_law_told", "_law_k"] ["_law_state", "_law_items"] (defScope s_l_order) := ⟨rfl, rfl, rfl, by decide +kernel, rfl, by decide +kernel, by decide +kernel⟩
abbrev s_l_names : Stmt := topS 35
abbrev N_l_names : List Str := ["_law_state", "_law_count", "_law_lists"]
theorem sc_l_names : FnScope ["_law_state", "_law_count", "_law_lists"] ["_law_state", "_law_count"] (defScope s_l_names) := ⟨rfl, rfl, rfl, by decide +kernel, rfl, by decide +kernel, by decide +kernel⟩
abbrev s_l_good : Stmt := topS 36
abbrev N_l_good : List Str := ["_law_word", "_law_letters", "_law_sign"]
theorem sc_l_good : FnScope ["_law_word", "_law_letters", "_law_sign"] ["_law_word"] (defScope s_l_good) := ⟨rfl, rfl, rfl, by decide +kernel, rfl, by decide +kernel, by decide +kernel⟩
abbrev s_l_signs : Stmt := topS 37
abbrev N_l_signs : List Str := ["_law_signs_here"]
theorem sc_l_signs : FnScope ["_law_signs_here"] [] (defScope s_l_signs) := ⟨rfl, rfl, rfl, by decide +kernel, rfl, by decide +kernel, by decide +kernel⟩
abbrev s_l_tops : Stmt := topS 38
abbrev N_l_tops : List Str := ["_law_state", "_law_pool", "_law_found", "_law_rooms", "_law_label", "_law_top"]
theorem sc_l_tops : FnScope ["_law_state", "_law_pool", "_law_found", "_law_rooms", "_law_label", "_law_top"] ["_law_state", "_law_pool"] (defScope s_l_tops) := ⟨rfl, rfl, rfl, by decide +kernel, rfl, by decide +kernel, by decide +kernel⟩
abbrev s_l_arrows : Stmt := topS 39
abbrev N_l_arrows : List Str := ["_law_state", "_law_pool", "_law_found", "_law_odds", "_law_plan", "_law_ranks", "_law_most", "_law_first", "_law_second", "_law_sign", "_law_ahead"]
theorem sc_l_arrows : FnScope ["_law_state", "_law_pool", "_law_found", "_law_odds", "_law_plan", "_law_ranks", "_law_most", "_law_first", "_law_second", "_law_sign", "_law_ahead"] ["_law_state", "_law_pool"] (defScope s_l_arrows) := ⟨rfl, rfl, rfl, by decide +kernel, rfl, by decide +kernel, by decide +kernel⟩
abbrev s_l_text : Stmt := topS 40
abbrev N_l_text : List Str := ["_law_peaks_here", "_law_links", "_law_parts", "_law_label", "_law_link"]
theorem sc_l_text : FnScope ["_law_peaks_here", "_law_links", "_law_parts", "_law_label", "_law_link"] ["_law_peaks_here", "_law_links"] (defScope s_l_text) := ⟨rfl, rfl, rfl, by decide +kernel, rfl, by decide +kernel, by decide +kernel⟩
abbrev s_l_spoiled : Stmt := topS 41
abbrev N_l_spoiled : List Str := ["_law_state", "_law_word", "_law_signs_here", "_law_sign", "_law_spot", "_law_plan", "_law_mark", "_law_words", "_law_k", "_law_odd"]
theorem sc_l_spoiled : FnScope ["_law_state", "_law_word", "_law_signs_here", "_law_sign", "_law_spot", "_law_plan", "_law_mark", "_law_words", "_law_k", "_law_odd"] ["_law_state", "_law_word"] (defScope s_l_spoiled) := ⟨rfl, rfl, rfl, by decide +kernel, rfl, by decide +kernel, by decide +kernel⟩
abbrev s_l_peaks : Stmt := topS 42
abbrev N_l_peaks : List Str := ["_law_word", "_law_found", "_law_one", "_law_pair"]
theorem sc_l_peaks : FnScope ["_law_word", "_law_found", "_law_one", "_law_pair"] ["_law_word"] (defScope s_l_peaks) := ⟨rfl, rfl, rfl, by decide +kernel, rfl, by decide +kernel, by decide +kernel⟩
abbrev s_l_due : Stmt := topS 43
abbrev N_l_due : List Str := ["_law_word", "_law_parts", "_law_peaks_here", "_law_rooms", "_law_label", "_law_links", "_law_part", "_law_words", "_law_link"]
theorem sc_l_due : FnScope ["_law_word", "_law_parts", "_law_peaks_here", "_law_rooms", "_law_label", "_law_links", "_law_part", "_law_words", "_law_link"] ["_law_word"] (defScope s_l_due) := ⟨rfl, rfl, rfl, by decide +kernel, rfl, by decide +kernel, by decide +kernel⟩
abbrev s_law : Stmt := topS 44
abbrev N_law : List Str := ["_law_script", "_law_state", "_law_pool", "_law_peaks_here", "_law_links", "_law_word", "_law_turn", "_law_due_here", "_law_told", "e", "_law_label"]
theorem sc_law : FnScope ["_law_script", "_law_state", "_law_pool", "_law_peaks_here", "_law_links", "_law_word", "_law_turn", "_law_due_here", "_law_told", "e", "_law_label"] ["_law_script"] (defScope s_law) := ⟨rfl, rfl, rfl, by decide +kernel, rfl, by decide +kernel, by decide +kernel⟩
structure Tx (K : PySem.W.Frag) (mg : Str → Option Value) where
  m_abs : mg "abs" = none
  m_all : mg "all" = none
  m_bool : mg "bool" = none
  m_dict : mg "dict" = none
  m_int : mg "int" = none
  m_isinstance : mg "isinstance" = none
  m_len : mg "len" = none
  m_list : mg "list" = none
  m_range : mg "range" = none
  m_sorted : mg "sorted" = none
  m_str : mg "str" = none
  m_tuple : mg "tuple" = none
  c_LETTERS : ∃ u, mg "LETTERS" = some u ∧ RelV (.str "abcdefghijklmnopqrstuvwxyz") u
  c_DIGITS : ∃ u, mg "DIGITS" = some u ∧ RelV (.str "0123456789") u
  c_LONGEST : ∃ u, mg "LONGEST" = some u ∧ RelV (.int 6) u
  c_MOST_PARTS : ∃ u, mg "MOST_PARTS" = some u ∧ RelV (.int 6) u
  c_MOST_STATES : ∃ u, mg "MOST_STATES" = some u ∧ RelV (.int 256) u
  c_LEAST_TOP : ∃ u, mg "LEAST_TOP" = some u ∧ RelV (.int 1) u
  c_GREATEST_TOP : ∃ u, mg "GREATEST_TOP" = some u ∧ RelV (.int 3) u
  c_SIGNS : ConT K mg "SIGNS" [(.str "+"), (.str "-"), (.str "?")]
  valid_name : FnE K mg "valid_name" "valid_name" s_valid_name ["text"]
  stands_in_name : FnE K mg "_stands_in_name" "_stands_in_name" s_stands_in_name ["character"]
  is_whole : FnE K mg "is_whole" "is_whole" s_is_whole ["value", "least", "most"]
  check_tops : FnE K mg "_check_tops" "_check_tops" s_check_tops ["tops"]
  count_states : FnE K mg "_count_states" "_count_states" s_count_states ["tops"]
  checked_signs : FnE K mg "_checked_signs" "_checked_signs" s_checked_signs ["tops", "arrows"]
  is_arrow : FnE K mg "is_arrow" "is_arrow" s_is_arrow ["parts", "value"]
  read_tops : FnE K mg "_read_tops" "_read_tops" s_read_tops ["text"]
  read_arrow : FnE K mg "_read_arrow" "_read_arrow" s_read_arrow ["text"]
  l_start : FnE K mg "_law_start" "_law_start" s_l_start ["_law_script"]
  l_draw : FnE K mg "_law_draw" "_law_draw" s_l_draw ["_law_state", "_law_size"]
  l_order : FnE K mg "_law_order" "_law_order" s_l_order ["_law_state", "_law_items"]
  l_names : FnE K mg "_law_names" "_law_names" s_l_names ["_law_state", "_law_count"]
  l_good : FnE K mg "_law_good" "_law_good" s_l_good ["_law_word"]
  l_signs : FnE K mg "_law_signs" "_law_signs" s_l_signs []
  l_tops : FnE K mg "_law_tops" "_law_tops" s_l_tops ["_law_state", "_law_pool"]
  l_arrows : FnE K mg "_law_arrows" "_law_arrows" s_l_arrows ["_law_state", "_law_pool"]
  l_text : FnE K mg "_law_text" "_law_text" s_l_text ["_law_peaks_here", "_law_links"]
  l_spoiled : FnE K mg "_law_spoiled" "_law_spoiled" s_l_spoiled ["_law_state", "_law_word"]
  l_peaks : FnE K mg "_law_peaks" "_law_peaks" s_l_peaks ["_law_word"]
  l_due : FnE K mg "_law_due" "_law_due" s_l_due ["_law_word"]
  oc : ObjCl K
  root : RootE K mg "RestError"
  e_BadName : ErrF K mg "BadName" "BadName.__init__" "name" s_BadName___init__ root.C
  e_UnknownName : ErrF K mg "UnknownName" "UnknownName.__init__" "name" s_UnknownName___init__ root.C
  e_BadCount : ErrF K mg "BadCount" "BadCount.__init__" "count" s_BadCount___init__ root.C
  e_BadTop : ErrF K mg "BadTop" "BadTop.__init__" "value" s_BadTop___init__ root.C
  e_BadArrow : ErrF K mg "BadArrow" "BadArrow.__init__" "value" s_BadArrow___init__ root.C
  e_BadText : ErrF K mg "BadText" "BadText.__init__" "text" s_BadText___init__ root.C
  nd : (root.C :: [e_BadName.C, e_UnknownName.C, e_BadCount.C, e_BadTop.C, e_BadArrow.C, e_BadText.C]).Nodup
  k_Wiring : WcE K mg "Wiring"
  no_parts : NoAttr K k_Wiring.C "_parts"
  no_tops : NoAttr K k_Wiring.C "_tops"
  no_signs : NoAttr K k_Wiring.C "_signs"
  no_arrows : NoAttr K k_Wiring.C "_arrows"
  x_rootx : PySem.W.subIn K (.ref root.C) (.type "BaseException") = some true
  x_ne : PySem.W.findIn K (.ref k_Wiring.C) "__ne__" = some (some (.builtin "object.__ne__"))
  Wiring___init__ : MkE K k_Wiring.C "Wiring.__init__" s_Wiring___init__ ["self", "tops", "arrows"]
  Wiring_read : Dl.CmE K k_Wiring.C "read" "Wiring.read" s_Wiring_read ["cls", "text"]
  Wiring_parts : PrE K k_Wiring.C "parts" "Wiring.parts" s_Wiring_parts
  Wiring_arrows : PrE K k_Wiring.C "arrows" "Wiring.arrows" s_Wiring_arrows
  Wiring_top : MeE K k_Wiring.C "top" "Wiring.top" s_Wiring_top ["self", "name"]
  Wiring___eq__ : MeE K k_Wiring.C "__eq__" "Wiring.__eq__" s_Wiring___eq__ ["self", "other"]
  Wiring___str__ : MeE K k_Wiring.C "__str__" "Wiring.__str__" s_Wiring___str__ ["self"]
  Wiring__check_part : MeE K k_Wiring.C "_check_part" "Wiring._check_part" s_Wiring__check_part ["self", "name"]

section
variable {P : Program} {w : World} {K : PySem.W.Frag} {mg : Str → Option Value} {base : Heap}
/-! ### what a name is -/
abbrev LD : Str := "abcdefghijklmnopqrstuvwxyz"
abbrev DG : Str := "0123456789"
def inL (c : Nat) : Bool := decide (c ∈ LD.cps.toList)
def inD (c : Nat) : Bool := decide (c ∈ DG.cps.toList)
def vn (z : Str) : Bool := decide (1 ≤ z.length) && decide (z.length ≤ 6) && (match z.cps[0]? with | some c => inL c | none => false) && z.cps.toList.all (fun c => inL c || inD c)
def spC : Sp := fun vs H Q _ => ∃ c : Nat, vs = [.str ⟨#[c]⟩] ∧ Q (.bl (inL c || inD c)) H
def spV : Sp := fun vs H Q _ => ∃ z : Str, vs = [.str z] ∧ z.length ≤ 50000 ∧ ∀ H', Same H H' → Q (.bl (vn z)) H'
theorem ok_stands_in_name (T : Tx K mg) : FnOk P w K mg base CX0 1 T.stands_in_name.f T.stands_in_name.fd ["character"] spC := by
  refine T.stands_in_name.F.ok sc_stands_in_name (fun vs H Q E h => ?_) (fun cdv A outer s0 H vs Q E hr h => ?_)
  · obtain ⟨c, rfl, _⟩ := h
    rfl
  · obtain ⟨c, rfl, k⟩ := h
    refine ⟨_, (pss_one (ps_ret (pe_or (pe_cmpR op_in_sign (pv 0) (pe_glb (by rfl) T.c_LETTERS) rfl) (pe_one (pe_cmpR op_in_sign (pv 0) (pe_glb (by rfl) T.c_DIGITS) rfl))))), ?_⟩
    refine ⟨_, rfl, c, _, rfl, rfl, _, rfl, ?_⟩
    show if inL c = true then _ else _
    by_cases e : inL c = true
    · rw [e] at k ⊢
      exact iteT k
    · rw [Bool.not_eq_true] at e
      rw [e] at k ⊢
      refine iteF ⟨_, rfl, c, _, rfl, rfl, k⟩
theorem ok_valid_name (T : Tx K mg) : FnOk P w K mg base CX0 2 T.valid_name.f T.valid_name.fd ["text"] spV := by
  refine T.valid_name.F.ok sc_valid_name (fun vs H Q E h => ?_) (fun cdv A outer s0 H vs Q E hr h => ?_)
  · obtain ⟨z, rfl, _⟩ := h
    rfl
  · obtain ⟨z, rfl, hz, k⟩ := h
    have hz2 : z.length ≤ sizeLine := sz (by omega)
    refine ⟨_, (pss_cons (ps_if (pt_not (pt_chain op_le op_le pe_int (pe_callB call_len_str (by rfl) T.m_len (by decide +kernel) (pa_cons (pv 0) pa_nil)) (pe_glb (by rfl) T.c_LONGEST))) (pss_one (ps_ret pe_bl)) pss_nil)
      (pss_one (ps_ret (pe_and (pe_cmpR op_in_sign (pe_item_str (pv 0) pe_int (fun _ _ => rfl)) (pe_glb (by rfl) T.c_LETTERS) rfl) (pe_one (pe_callB (cr_all rfl) (by rfl) T.m_all (by decide +kernel) (pa_cons (pe_lc (own := [("character", 1)]) (g := gName 1) (tt := tYes) rfl sc_valid_name.nd (pi_str (pv 0)) (blkOk_by (own := [("character", 1)]) (N := N_valid_name) (sc := defScope s_valid_name) (by decide +kernel)) (fun _ _ _ _ _ => (pg_name (i := 1) sc_valid_name.nd rfl (.inl rfl))) (fun _ _ _ _ _ => pts_nil) (fun _ _ _ _ _ => (pcall T.stands_in_name (ok_stands_in_name T) (hr.mono (by decide)) (by rfl) pass0 (pa_cons (pv 1) pa_nil)))) pa_nil))))))), ?_⟩
    refine ⟨_, rfl, z, rfl, hz2, _, _, rfl, rfl, _, rfl, ?_⟩
    by_cases h1 : 1 ≤ z.length
    · refine ite2 (fun _ => ?_) (fun q => absurd (decide_eq_true (by omega)) q)
      refine ⟨_, _, rfl, rfl, _, rfl, ?_⟩
      by_cases h6 : z.length ≤ 6
      · refine ite2 (fun q => ?_) (fun _ => ?_)
        · rw [decide_eq_true (by omega)] at q
          cases q
        · have h0 : 0 < z.cps.size := h1
          have e0 : z.cps[0]? = some z.cps[0] := Array.getElem?_eq_getElem h0
          refine ⟨_, rfl, z, 0, z.cps[0], rfl, rfl, by decide, by decide, (by show (0 : Int) < (z.length : Int); omega), e0, z.cps[0], _, rfl, rfl, _, rfl, ?_⟩
          show if inL z.cps[0] = true then _ else _
          have ev : vn z = (inL z.cps[0] && z.cps.toList.all (fun c => inL c || inD c)) := by
            unfold vn
            rw [decide_eq_true h1, decide_eq_true h6, e0, Bool.true_and, Bool.true_and]
          rw [ev] at k
          by_cases e : inL z.cps[0] = true
          · rw [e, Bool.true_and] at k
            refine ite2 (fun _ => ?_) (fun q => absurd e q)
            refine ⟨_, rfl, z, rfl, fun D nD => lc_str (fun i H' => H' D = some (.lst ((z.cps.toList.take i).map fun c => V.bl (inL c || inD c))) ∧ Same H H') ⟨upd_same, same_new nD⟩ (fun i c H' hc hp => ?_) (fun H' hp => ?_)⟩
            · obtain ⟨p1, p2⟩ := hp
              have hi : z.cps.toList[i]? = some c := by rw [Array.getElem?_toList]; exact hc
              refine ⟨rfl, _, rfl, c, rfl, _, p1, ?_, ?_, ?_⟩
              · rw [List.length_map, List.length_take]
                refine Nat.lt_of_le_of_lt (Nat.min_le_right _ _) ?_
                rw [Array.length_toList]
                exact szl (by have : z.cps.size ≤ 50000 := hz; omega)
              · rw [upd_same, List.take_add_one, hi, List.map_append]
                rfl
              · exact Same.mut p2 nD
            · obtain ⟨p1, p2⟩ := hp
              have et : z.cps.toList.take z.cps.size = z.cps.toList := List.take_of_length_le (by rw [Array.length_toList]; exact Nat.le_refl _)
              rw [et] at p1
              refine ⟨D, z.cps.toList.map (fun c => inL c || inD c), rfl, sq (by rw [List.map_map]; exact p1), ?_⟩
              have ea : (z.cps.toList.map (fun c => inL c || inD c)).all id = z.cps.toList.all (fun c => inL c || inD c) := by
                rw [List.all_map]
                rfl
              rw [ea]
              exact k _ p2
          · rw [Bool.not_eq_true] at e
            rw [e, Bool.false_and] at k
            refine ite2 (fun q => absurd (e.symm.trans q) Bool.false_ne_true) (fun _ => ?_)
            exact k _ (Same.refl _)
      · refine ite2 (fun _ => ?_) (fun q => ?_)
        · have e : vn z = false := by
            unfold vn
            rw [decide_eq_false h6, Bool.and_false, Bool.false_and, Bool.false_and]
          rw [e] at k
          exact k _ (Same.refl _)
        · rw [decide_eq_false (by omega)] at q
          exact absurd rfl q
    · refine ite2 (fun q => ?_) (fun _ => ?_)
      · rw [decide_eq_false (by omega)] at q
        cases q
      · refine ⟨_, rfl, iteT ?_⟩
        have e : vn z = false := by
          unfold vn
          rw [decide_eq_false h1, Bool.false_and, Bool.false_and, Bool.false_and]
        rw [e] at k
        exact k _ (Same.refl _)
theorem ok_i_BadName (T : Tx K mg) : FnOk P w K mg base CX0 1 T.e_BadName.f T.e_BadName.fd ["self", "name"] (spInitX T.e_BadName.C "name") := by
  refine T.e_BadName.F.ok sc_BadName___init__ (fun vs H Q E h => ?_) (fun cdv A outer s0 H vs Q E hr h => ⟨_, pss_one (ps_ost (pv 0) (pv 1)), init_readX T.e_BadName h⟩)
  obtain ⟨a, v, rfl, _⟩ := h
  rfl
theorem ok_i_UnknownName (T : Tx K mg) : FnOk P w K mg base CX0 1 T.e_UnknownName.f T.e_UnknownName.fd ["self", "name"] (spInitX T.e_UnknownName.C "name") := by
  refine T.e_UnknownName.F.ok sc_UnknownName___init__ (fun vs H Q E h => ?_) (fun cdv A outer s0 H vs Q E hr h => ⟨_, pss_one (ps_ost (pv 0) (pv 1)), init_readX T.e_UnknownName h⟩)
  obtain ⟨a, v, rfl, _⟩ := h
  rfl
theorem ok_i_BadCount (T : Tx K mg) : FnOk P w K mg base CX0 1 T.e_BadCount.f T.e_BadCount.fd ["self", "count"] (spInitX T.e_BadCount.C "count") := by
  refine T.e_BadCount.F.ok sc_BadCount___init__ (fun vs H Q E h => ?_) (fun cdv A outer s0 H vs Q E hr h => ⟨_, pss_one (ps_ost (pv 0) (pv 1)), init_readX T.e_BadCount h⟩)
  obtain ⟨a, v, rfl, _⟩ := h
  rfl
theorem ok_i_BadTop (T : Tx K mg) : FnOk P w K mg base CX0 1 T.e_BadTop.f T.e_BadTop.fd ["self", "value"] (spInitX T.e_BadTop.C "value") := by
  refine T.e_BadTop.F.ok sc_BadTop___init__ (fun vs H Q E h => ?_) (fun cdv A outer s0 H vs Q E hr h => ⟨_, pss_one (ps_ost (pv 0) (pv 1)), init_readX T.e_BadTop h⟩)
  obtain ⟨a, v, rfl, _⟩ := h
  rfl
theorem ok_i_BadArrow (T : Tx K mg) : FnOk P w K mg base CX0 1 T.e_BadArrow.f T.e_BadArrow.fd ["self", "value"] (spInitX T.e_BadArrow.C "value") := by
  refine T.e_BadArrow.F.ok sc_BadArrow___init__ (fun vs H Q E h => ?_) (fun cdv A outer s0 H vs Q E hr h => ⟨_, pss_one (ps_ost (pv 0) (pv 1)), init_readX T.e_BadArrow h⟩)
  obtain ⟨a, v, rfl, _⟩ := h
  rfl
theorem ok_i_BadText (T : Tx K mg) : FnOk P w K mg base CX0 1 T.e_BadText.f T.e_BadText.fd ["self", "text"] (spInitX T.e_BadText.C "text") := by
  refine T.e_BadText.F.ok sc_BadText___init__ (fun vs H Q E h => ?_) (fun cdv A outer s0 H vs Q E hr h => ⟨_, pss_one (ps_ost (pv 0) (pv 1)), init_readX T.e_BadText h⟩)
  obtain ⟨a, v, rfl, _⟩ := h
  rfl
/-! ### is_whole -/
def spWhole : Sp := fun vs H Q _ => ∃ (v : V) (lo hi : Int), vs = [v, .int lo, .int hi] ∧ AnyV H v ∧ Q (.bl (whole v lo hi)) H
theorem ok_is_whole (T : Tx K mg) : FnOk P w K mg base CX0 1 T.is_whole.f T.is_whole.fd ["value", "least", "most"] spWhole := by
  refine T.is_whole.F.ok sc_is_whole (fun vs H Q E h => ?_) (fun cdv A outer s0 H vs Q E hr h => ?_)
  · obtain ⟨v, lo, hi, rfl, _⟩ := h
    rfl
  · obtain ⟨v, lo, hi, rfl, hv, k⟩ := h
    refine ⟨_, (pss_one (ps_ret (pe_and (pe_callB (id := "isinstance") (r := rIsi K) call_isi (by rfl) T.m_isinstance (by decide +kernel) (pa_cons (pv 0) (pa_cons (pe_bltn (v := .ty "int") (by rfl) T.m_int (by decide +kernel) rfl) pa_nil))) (pe_and (pe_not (pe_callB (id := "isinstance") (r := rIsi K) call_isi (by rfl) T.m_isinstance (by decide +kernel) (pa_cons (pv 0) (pa_cons (pe_bltn (v := .ty "bool") (by rfl) T.m_bool (by decide +kernel) rfl) pa_nil)))) (pe_one (pe_chain op_le op_le (pv 1) (pv 0) (pv 2))))))), ?_⟩
    obtain ⟨t, ty, ki, kb, ks, kt⟩ := hv.kit (K := K)
    refine ⟨_, rfl, v, _, t, _, isI v, rfl, .ty "int", ty, ki, _, rfl, ?_⟩
    cases v with
    | int i =>
      refine iteT ⟨_, rfl, .int i, _, t, _, isB (.int i), rfl, .ty "bool", ty, kb, _, rfl, _, rfl, ?_⟩
      refine iteT ⟨_, rfl, _, rfl, _, _, rfl, rfl, _, rfl, ?_⟩
      by_cases e : lo ≤ i
      · rw [decide_eq_true e]
        have k' : Q (.bl (decide (i ≤ hi))) H := by
          have e2 : whole (.int i) lo hi = decide (i ≤ hi) := by
            show (decide (lo ≤ i) && decide (i ≤ hi)) = _
            rw [decide_eq_true e, Bool.true_and]
          rw [← e2]
          exact k
        exact iteT ⟨_, rfl, _, _, rfl, rfl, k'⟩
      · rw [decide_eq_false e]
        have e2 : whole (.int i) lo hi = false := by
          show (decide (lo ≤ i) && decide (i ≤ hi)) = _
          rw [decide_eq_false e, Bool.false_and]
        rw [e2] at k
        exact iteF k
    | bl b => exact iteT ⟨_, rfl, .bl b, _, t, _, isB (.bl b), rfl, .ty "bool", ty, kb, _, rfl, _, rfl, iteF k⟩
    | non => exact iteF k
    | str z => exact iteF k
    | ref a => exact iteF k
    | byt z => exact iteF k
    | flt z => exact iteF k
    | ty z => exact iteF k
end
end K11

set_option Elab.async false
set_option linter.all false
set_option maxRecDepth 100000
set_option maxHeartbeats 1000000
namespace K11
open PySem PySem.Spec PyProof.Rows L2 Rl Dr Tx Ex Er So Wi
section
variable {P : Program} {w : World} {K : PySem.W.Frag} {mg : Str → Option Value} {base : Heap}
--B--
/-! ### how many states -/
def cnt (ts : List Int) : Int := ts.foldl (fun c t => c * (t + 1)) 1
theorem cnt_snoc (ts : List Int) (t : Int) : cnt (ts ++ [t]) = cnt ts * (t + 1) := by
  unfold cnt
  rw [List.foldl_append]
  rfl
theorem cnt_acc : ∀ (ts : List Int) (c : Int) (n : Nat), (∀ t ∈ ts, 1 ≤ t ∧ t ≤ 3) → 1 ≤ c → c ≤ 4 ^ n → 1 ≤ ts.foldl (fun c t => c * (t + 1)) c ∧ ts.foldl (fun c t => c * (t + 1)) c ≤ 4 ^ (n + ts.length)
  | [], c, n, _, h1, h2 => ⟨h1, h2⟩
  | t :: r, c, n, h, h1, h2 => by
    obtain ⟨t1, t3⟩ := h t (List.mem_cons_self)
    have q1 : 1 * 1 ≤ c * (t + 1) := Int.mul_le_mul h1 (by omega) (by decide) (by omega)
    have p4 : (0 : Int) < 4 ^ n := Int.pow_pos (by decide)
    have q2 : c * (t + 1) ≤ 4 ^ n * 4 := Int.mul_le_mul h2 (by omega) (by omega) (by omega)
    have ih := cnt_acc r (c * (t + 1)) (n + 1) (fun x hx => h x (List.mem_cons_of_mem _ hx)) (by omega) q2
    rw [show n + (t :: r).length = n + 1 + r.length by rw [List.length_cons]; omega]
    exact ih
theorem cnt_pos (ts : List Int) (h : ∀ t ∈ ts, 1 ≤ t ∧ t ≤ 3) (hl : ts.length ≤ 6) : 1 ≤ cnt ts ∧ cnt ts ≤ 4096 := by
  obtain ⟨h1, h2⟩ := cnt_acc ts 1 0 h (Int.le_refl 1) (Int.le_refl 1)
  refine ⟨h1, Int.le_trans h2 ?_⟩
  have e : (4 : Nat) ^ (0 + ts.length) ≤ 4 ^ 6 := Nat.pow_le_pow_right (by decide) (by omega)
  have : ((4 : Nat) ^ (0 + ts.length) : Int) ≤ ((4 ^ 6 : Nat) : Int) := by exact_mod_cast e
  exact this
theorem same_lock {H H1 : Hp} {d : Addr} {u : HO} {o : Obj} (h : H d = some u) (s : ∀ b x, upd H d (.frz o u) b = some x → H1 b = some x) : Same H (upd H1 d u) := fun b x e => by
  by_cases n : b = d
  · subst n
    rw [upd_same, ← h]
    exact e
  · rw [upd_ne n]
    exact s b x (by rw [upd_ne n]; exact e)
def spCount : Sp := fun vs H Q _ => ∃ (a : Addr) (kvs : List (Key × V)) (ts : List Int), vs = [.ref a] ∧ H a = some (.dK kvs) ∧ kvs.map (·.2) = ts.map V.int ∧ (∀ t ∈ ts, 1 ≤ t ∧ t ≤ 3) ∧ ts.length ≤ 6 ∧ ∀ H', Same H H' → Q (.int (cnt ts)) H'
theorem ok_count_states (T : Tx K mg) : FnOk P w K mg base CX0 1 T.count_states.f T.count_states.fd ["tops"] spCount := by
  refine T.count_states.F.ok sc_count_states (fun vs H Q E h => ?_) (fun cdv A outer s0 H vs Q E hr h => ?_)
  · obtain ⟨a, kvs, ts, rfl, _⟩ := h
    rfl
  · obtain ⟨a, kvs, ts, rfl, ha, ev, ht, hl, k⟩ := h
    refine ⟨_, (pss_cons (ps_set (i := 1) sc_count_states.nd rfl (.inl rfl) pe_int)
      (pss_cons (ps_lock (ps_for PassesOwn.never rfl (pi_values (pv 0)) (pg_name (i := 2) sc_count_states.nd rfl (.inl rfl)) (pss_one (ps_set (i := 1) sc_count_states.nd rfl (.inl rfl) (pe_op op_mul (pv 1) (pe_op op_add (pv 2) pe_int))))))
      (pss_one (ps_ret (pv 1))))), ?_⟩
    refine ⟨a, .dK kvs, ha, trivial, fun od => ⟨_, rfl, a, od, kvs, rfl, upd_same, ?_⟩⟩
    have hlen : kvs.length = ts.length := by
      have := congrArg List.length ev
      rw [List.length_map, List.length_map] at this
      exact this
    refine for_it walk_values (fun i σ H1 => ∃ v, σ = [some (.ref a), some (.int (cnt (ts.take i))), v] ∧ H1 = upd H a (.frz od (.dK kvs))) ⟨_, rfl, rfl⟩ (fun i σ H1 _ p => ?_) ?_ ?_
    · obtain ⟨_, _, rfl⟩ := p
      exact upd_same
    · rintro i x σ H1 H' hi ⟨v, rfl, rfl⟩ ⟨rfl, kk, ek⟩
      have hi' : i < ts.length := by omega
      have ex : x = .int ts[i] := by
        have e1 : (kvs.map (·.2))[i]? = some x := by
          rw [List.getElem?_map, ek]
          rfl
        rw [ev, List.getElem?_map, List.getElem?_eq_getElem hi'] at e1
        exact (Option.some.inj e1).symm
      subst ex
      obtain ⟨c1, c2⟩ := cnt_pos (ts.take i) (fun t h => ht t (List.mem_of_mem_take h)) (by rw [List.length_take]; omega)
      refine ⟨_, rfl, _, rfl, _, _, rfl, rfl, _, _, rfl, rfl, .inl ⟨by omega, by omega⟩, ?_⟩
      refine ⟨some (.int ts[i]), ?_, rfl⟩
      have e : cnt (ts.take (i + 1)) = cnt (ts.take i) * (ts[i] + 1) := by
        rw [List.take_succ_eq_append_getElem hi', cnt_snoc]
      rw [e]
      rfl
    · rintro σ H1 ⟨v, rfl, rfl⟩
      refine ⟨upd_same, _, rfl, ?_⟩
      have e : ts.take kvs.length = ts := by rw [hlen]; exact List.take_length
      rw [e]
      exact k _ (same_lock ha fun b x h => h)
/-! ### an arrow -/
theorem arrow_three {ns : List Str} {H : Hp} {v : V} (h : three H v = none) : arrowOf ns H v = none := by
  unfold arrowOf
  rw [h]
  rfl
theorem isT_ref {H : Hp} {v : V} (h : isT H v = true) : ∃ b xs, v = .ref b ∧ H b = some (.tup xs) := by
  unfold isT at h
  cases v with
  | ref b =>
    dsimp only at h
    split at h
    · rename_i xs e
      exact ⟨b, xs, rfl, e⟩
    · cases h
  | _ => cases h
theorem val_in {kvs : List (Key × V)} {ns : List Str} (hk : kvs.map (·.1) = ns.map Sum.inr) (x : Str) : (valV kvs (Sum.inr x : Key)).isSome = decide (x ∈ ns) := by
  rw [← valV_any]
  have e : ∀ (kvs : List (Key × V)) (ns : List Str), kvs.map (·.1) = ns.map Sum.inr → (kvs.any fun kv => decide (kv.1 = (Sum.inr x : Key))) = decide (x ∈ ns) := by
    intro kvs
    induction kvs with
    | nil =>
      intro ns h
      cases ns with
      | nil => rfl
      | cons => cases h
    | cons p r ih =>
      intro ns h
      cases ns with
      | nil => cases h
      | cons n ns =>
        simp only [List.map_cons, List.cons.injEq] at h
        rw [List.any_cons, ih ns h.2, h.1]
        by_cases q : n = x
        · subst q
          simp
        · have q2 : ¬ ((Sum.inr n : Key) = Sum.inr x) := fun z => q (Sum.inr.inj z)
          have q3 : ¬ x = n := fun z => q z.symm
          simp [q2, q3, List.mem_cons]
  exact e kvs ns hk
theorem in_SG (z : Str) : inV (.str z) [.str "+", .str "-", .str "?"] = decide (z ∈ SG) := by
  show ((("+" : Str) == z) || ((("-" : Str) == z) || ((("?" : Str) == z) || false))) = _
  rw [Bool.or_false, Bool.eq_iff_iff]
  simp only [Bool.or_eq_true, beq_iff_eq, decide_eq_true_eq, SG, List.mem_cons, List.not_mem_nil, or_false]
  constructor
  · rintro (h | h | h)
    · exact .inl h.symm
    · exact .inr (.inl h.symm)
    · exact .inr (.inr h.symm)
  · rintro (h | h | h)
    · exact .inl h.symm
    · exact .inr (.inl h.symm)
    · exact .inr (.inr h.symm)
theorem arrow_some {ns : List Str} {H : Hp} {v : V} {x y z : Str} (h : three H v = some (x, y, z)) : (arrowOf ns H v).isSome = (decide (x ∈ ns) && (decide (y ∈ ns) && decide (z ∈ SG))) := by
  unfold arrowOf
  rw [h]
  by_cases h1 : x ∈ ns <;> by_cases h2 : y ∈ ns <;> by_cases h3 : z ∈ SG <;> simp [Option.filter, h1, h2, h3]
def spIsArrow : Sp := fun vs H Q _ => ∃ (a : Addr) (kvs : List (Key × V)) (ns : List Str) (v : V), vs = [.ref a, v] ∧ H a = some (.dK kvs) ∧ kvs.map (·.1) = ns.map Sum.inr ∧ AnyT H v ∧ ∀ H', Same H H' → Q (.bl (arrowOf ns H v).isSome) H'
theorem ok_is_arrow (T : Tx K mg) : FnOk P w K mg base CX0 1 T.is_arrow.f T.is_arrow.fd ["parts", "value"] spIsArrow := by
  refine T.is_arrow.F.ok sc_is_arrow (fun vs H Q E h => ?_) (fun cdv A outer s0 H vs Q E hr h => ?_)
  · obtain ⟨a, kvs, ns, v, rfl, _⟩ := h
    rfl
  · obtain ⟨a, kvs, ns, v, rfl, ha, hk, hv, k⟩ := h
    refine ⟨_, (pss_cons (ps_if (PW.pt (pw_or (pt_not (pt_val (pe_callB (id := "isinstance") (r := rIsi K) call_isi (by rfl) T.m_isinstance (by decide +kernel) (pa_cons (pv 1) (pa_cons (pe_bltn (v := .ty "tuple") (by rfl) T.m_tuple (by decide +kernel) rfl) pa_nil))))) (pw_or1 (pt_cmpR op_ne (pe_callB call_len_seq (by rfl) T.m_len (by decide +kernel) (pa_cons (pv 1) pa_nil)) pe_int (nomark _))))) (pss_one (ps_ret pe_bl)) pss_nil)
      (pss_cons (ps_if (pt_not (pt_val (pe_callB (cr_all rfl) (by rfl) T.m_all (by decide +kernel) (pa_cons (pe_lc (own := [("item", 5)]) (g := gName 5) (tt := tYes) rfl sc_is_arrow.nd (pi_tup (pv 1)) (blkOk_by (own := [("item", 5)]) (N := N_is_arrow) (sc := defScope s_is_arrow) (by decide +kernel)) (fun _ _ _ _ _ => (pg_name (i := 5) sc_is_arrow.nd rfl (.inl rfl))) (fun _ _ _ _ _ => pts_nil) (fun _ _ _ _ _ => (pe_callB (id := "isinstance") (r := rIsi K) call_isi (by rfl) T.m_isinstance (by decide +kernel) (pa_cons (pv 5) (pa_cons (pe_bltn (v := .ty "str") (by rfl) T.m_str (by decide +kernel) rfl) pa_nil))))) pa_nil)))) (pss_one (ps_ret pe_bl)) pss_nil)
      (pss_cons (ps_asg (pv 1) (pg_tup rfl (pgs_cons (pg_name (i := 2) sc_is_arrow.nd rfl (.inl rfl)) (pgs_cons (pg_name (i := 3) sc_is_arrow.nd rfl (.inl rfl)) (pgs_cons (pg_name (i := 4) sc_is_arrow.nd rfl (.inl rfl)) pgs_nil)))))
      (pss_one (ps_ret (pe_and (pe_cmp (pc_din (hu_of hr) (pv 2) (pv 0)) rfl) (pe_and (pe_cmp (pc_din (hu_of hr) (pv 3) (pv 0)) rfl) (pe_one (pe_cmpR op_in_seq (pv 4) (pe_glob (v := .ref T.c_SIGNS.a) (by rfl) T.c_SIGNS.g rfl) rfl))))))))), ?_⟩
    obtain ⟨t, ty, ki, kb, ks, kt⟩ := hv.any.kit (K := K)
    dsimp only [cx_K]
    refine ⟨_, rfl, v, _, t, _, isT H v, rfl, .ty "tuple", ty, kt, _, rfl, ?_⟩
    have none_of : (∀ b x y z, v = .ref b → H b ≠ some (.tup [.str x, .str y, .str z])) → three H v = none := fun no => by
      unfold three
      cases v with
      | ref b =>
        dsimp only
        split
        · rename_i x y z e
          exact absurd e (no b x y z rfl)
        · rfl
      | _ => rfl
    cases hT : isT H v with
    | false =>
      refine iteT ?_
      have e : three H v = none := none_of fun b x y z eb e' => by
        subst eb
        rw [isT_of e'] at hT
        cases hT
      have kk := k _ (Same.refl _)
      rw [arrow_three e] at kk
      exact kk
    | true =>
      obtain ⟨b, xs, rfl, hb⟩ := isT_ref hT
      obtain ⟨hl, hx⟩ := hv.its b xs rfl hb
      refine iteF ⟨_, rfl, b, xs, rfl, .inr (.inl (.inl hb)), rfl, _, rfl, ?_⟩
      by_cases h3 : xs.length = 3
      · refine ite2 (fun q => ?_) (fun _ => ?_)
        · rw [h3] at q
          exact absurd q (by decide)
        · refine ⟨_, rfl, b, rfl, ⟨xs, .inl (.inl hb)⟩, fun D nD => lc_tup (xs := xs) (fun i H' => H' D = some (.lst ((xs.take i).map fun x => V.bl (isS x))) ∧ Same H H') ⟨upd_same, same_new nD⟩ (fun i H' _ p => .inl (.inl (p.2 _ _ hb))) (fun i x H' hi p => ?_) (fun H' p => ?_)⟩
          · obtain ⟨p1, p2⟩ := p
            obtain ⟨t', ty', _, _, ks', _⟩ := ((hx x (List.mem_of_getElem? hi)).same p2).kit (K := K)
            refine ⟨rfl, _, rfl, x, _, t', _, isS x, rfl, .ty "str", ty', ks', _, p1, ?_, ?_, ?_⟩
            · rw [List.length_map, List.length_take]
              exact szl (by omega)
            · rw [upd_same, List.take_add_one, hi, List.map_append]
              rfl
            · exact Same.mut p2 nD
          · obtain ⟨p1, p2⟩ := p
            rw [List.take_length] at p1
            refine ⟨D, xs.map isS, rfl, .inl (.inl (by rw [List.map_map]; exact p1)), ?_⟩
            obtain ⟨x1, x2, x3, rfl⟩ : ∃ x1 x2 x3, xs = [x1, x2, x3] := match xs, h3 with | [p, q, r], _ => ⟨p, q, r, rfl⟩
            refine ⟨_, rfl, ?_⟩
            cases es : ([x1, x2, x3].map isS).all id with
            | false =>
              refine iteT ?_
              have e : three H (.ref b) = none := none_of fun b' x y z eb e' => by
                cases eb
                rw [hb] at e'
                cases e'
                exact Bool.false_ne_true (es.symm.trans rfl)
              have kk := k _ p2
              rw [arrow_three e] at kk
              exact kk
            | true =>
              refine iteF ?_
              obtain ⟨x, y, z, rfl, rfl, rfl⟩ : ∃ x y z, x1 = .str x ∧ x2 = .str y ∧ x3 = .str z := by
                cases x1 <;> cases x2 <;> cases x3 <;> first | exact ⟨_, _, _, rfl, rfl, rfl⟩ | (exfalso; exact Bool.false_ne_true es)
              have e3 : three H (.ref b) = some (x, y, z) := by
                unfold three
                simp only [hb]
              have kk := k _ p2
              rw [arrow_some e3] at kk
              refine ⟨_, rfl, b, _, rfl, .inl (.inl (p2 _ _ hb)), rfl, _, _, rfl, _, _, rfl, _, _, rfl, rfl, ?_⟩
              refine ⟨_, rfl, _, rfl, a, _, rfl, DGet.k (k := .inr x) (p2 _ _ ha), _, rfl, ?_⟩
              rw [val_in hk]
              cases h1 : decide (x ∈ ns) with
              | false =>
                rw [h1] at kk
                exact iteF kk
              | true =>
                rw [h1] at kk
                refine iteT ⟨_, rfl, _, rfl, a, _, rfl, DGet.k (k := .inr y) (p2 _ _ ha), _, rfl, ?_⟩
                rw [val_in hk]
                cases h2 : decide (y ∈ ns) with
                | false =>
                  rw [h2] at kk
                  exact iteF kk
                | true =>
                  rw [h2] at kk
                  refine iteT ⟨_, rfl, T.c_SIGNS.a, _, rfl, .inr (T.c_SIGNS.sq _), rfl, rfl, ?_⟩
                  show Q (.bl (inV (.str z) [.str "+", .str "-", .str "?"])) H'
                  rw [in_SG]
                  exact kk
      · refine ite2 (fun _ => ?_) (fun q => ?_)
        · have e : three H (.ref b) = none := none_of fun b' x y z eb e' => by
            cases eb
            rw [hb] at e'
            cases e'
            exact h3 rfl
          have kk := k _ (Same.refl _)
          rw [arrow_three e] at kk
          exact kk
        · have n3 : ¬ (V.int xs.length = V.int 3) := fun e => by
            have := V.int.inj e
            omega
          rw [decide_eq_false n3] at q
          exact absurd rfl q
--E--
end
end K11

set_option Elab.async false
set_option linter.all false
set_option maxRecDepth 100000
set_option maxHeartbeats 1000000
namespace K11
open PySem PySem.Spec PyProof.Rows L2 Rl Dr Tx Ex Er So Wi
section
variable {P : Program} {w : World} {K : PySem.W.Frag} {mg : Str → Option Value} {base : Heap}
--B--
/-! ### what is due of the tops -/
inductive Bad where
  | ok | count (n : Int) | name (z : Str) | top (v : V) | arrow (v : V)
def tv (kvs : List (Key × V)) (z : Str) : V := (valV kvs (Sum.inr z)).getD .non
def vi : V → Int
  | .int n => n
  | _ => 0
def dueT (ns : List Str) (kvs : List (Key × V)) : Bad :=
  if 1 ≤ ns.length ∧ ns.length ≤ 6 then
    match ns.find? fun z => !vn z with
    | some z => .name z
    | none => match ns.find? fun z => !whole (tv kvs z) 1 3 with
      | some z => .top (tv kvs z)
      | none => if cnt (ns.map fun z => vi (tv kvs z)) > 256 then .count (cnt (ns.map fun z => vi (tv kvs z))) else .ok
  else .count ns.length
/-- how it ends -/
def Ends (T : Tx K mg) (E : XK) (H : Hp) (b : Bad) (k : Prop) : Prop := match b with
  | .ok => k
  | .count n => Flies E T.e_BadCount.C "count" (.int n) H
  | .name z => Flies E T.e_BadName.C "name" (.str z) H
  | .top v => Flies E T.e_BadTop.C "value" v H
  | .arrow v => Flies E T.e_BadArrow.C "value" v H
/-- a dict from names to any values, its names in order -/
structure TopsD (H : Hp) (a : Addr) (kvs : List (Key × V)) (ns : List Str) : Prop where
  at_ : H a = some (.dK kvs)
  ks : ∃ ks : List Str, kvs.map (·.1) = ks.map Sum.inr ∧ ns.Perm ks
  nd : ns.Nodup
  srt : sortedS ns = true
  small : ∀ z ∈ ns, z.length ≤ 50000
  any : ∀ z ∈ ns, AnyV H (tv kvs z)
theorem TopsD.same {H H' : Hp} {a : Addr} {kvs : List (Key × V)} {ns : List Str} (h : TopsD H a kvs ns) (s : Same H H') : TopsD H' a kvs ns :=
  ⟨s _ _ h.at_, h.ks, h.nd, h.srt, h.small, fun z hz => (h.any z hz).same s⟩
theorem vals_of : ∀ {kvs : List (Key × V)} {ks : List Str}, kvs.map (·.1) = ks.map Sum.inr → ks.Nodup → kvs.map (·.2) = ks.map (tv kvs)
  | [], [], _, _ => rfl
  | [], _ :: _, h, _ => by cases h
  | _ :: _, [], h, _ => by cases h
  | (k, v) :: r, z :: ks, h, nd => by
    simp only [List.map_cons, List.cons.injEq] at h
    obtain ⟨rfl, hr⟩ := h
    obtain ⟨n1, n2⟩ := List.nodup_cons.mp nd
    have ih := vals_of hr n2
    have e0 : tv ((Sum.inr z, v) :: r) z = v := by
      unfold tv
      rw [valV_pos rfl]
      rfl
    rw [List.map_cons, List.map_cons, e0, ih]
    congr 1
    refine List.map_congr_left fun y hy => ?_
    have ne : ¬ ((Sum.inr z : Key) = Sum.inr y) := fun q => n1 (Sum.inr.inj q ▸ hy)
    unfold tv
    rw [valV_neg ne]
theorem TopsD.len {H : Hp} {a : Addr} {kvs : List (Key × V)} {ns : List Str} (h : TopsD H a kvs ns) : kvs.length = ns.length := by
  obtain ⟨ks, e, p⟩ := h.ks
  rw [p.length_eq]
  have := congrArg List.length e
  rw [List.length_map, List.length_map] at this
  exact this
theorem TopsD.get {H : Hp} {a : Addr} {kvs : List (Key × V)} {ns : List Str} (h : TopsD H a kvs ns) {z : Str} (hz : z ∈ ns) : valV kvs (Sum.inr z : Key) = some (tv kvs z) := by
  obtain ⟨ks, e, p⟩ := h.ks
  have q := val_in e z
  rw [decide_eq_true (p.mem_iff.mp hz)] at q
  unfold tv
  cases c : valV kvs (Sum.inr z : Key) with
  | none =>
    rw [c] at q
    cases q
  | some v => rfl
theorem find_first {p : Str → Bool} {ns : List Str} {i : Nat} {z : Str} (hz : ns[i]? = some z) (hp : p z = true) (hb : ∀ y ∈ ns.take i, p y = false) : ns.find? p = some z := by
  refine List.find?_eq_some_iff_append.mpr ⟨hp, ns.take i, ns.drop (i + 1), ?_, fun y hy => by rw [hb y hy]; rfl⟩
  obtain ⟨hi, e⟩ := List.getElem?_eq_some_iff.mp hz
  rw [← e, List.getElem_cons_drop, List.take_append_drop]
theorem find_no {p : Str → Bool} {ns : List Str} (hb : ∀ y ∈ ns, p y = false) : ns.find? p = none := List.find?_eq_none.mpr fun y hy => by rw [hb y hy]; exact Bool.false_ne_true
theorem take_snoc_all {q : Str → Prop} {ns : List Str} {i : Nat} {z : Str} (hz : ns[i]? = some z) (h : ∀ y ∈ ns.take i, q y) (hq : q z) : ∀ y ∈ ns.take (i + 1), q y := fun y hy => by
  rw [List.take_add_one, hz] at hy
  rcases List.mem_append.mp hy with m | m
  · exact h y m
  · obtain rfl : y = z := by simpa using m
    exact hq
theorem cnt_perm {xs ys : List Int} (p : xs.Perm ys) : cnt xs = cnt ys := by
  unfold cnt
  refine p.foldl_eq' (fun x _ y _ z => ?_) 1
  rw [Int.mul_assoc, Int.mul_assoc, Int.mul_comm (x + 1)]
theorem whole_vi {v : V} {lo hi : Int} (h : whole v lo hi = true) : v = .int (vi v) ∧ lo ≤ vi v ∧ vi v ≤ hi := by
  cases v with
  | int n =>
    have q : (decide (lo ≤ n) && decide (n ≤ hi)) = true := h
    rw [Bool.and_eq_true, decide_eq_true_eq, decide_eq_true_eq] at q
    exact ⟨rfl, q.1, q.2⟩
  | _ => cases h
def spCheckTops (T : Tx K mg) : Sp := fun vs H Q E => ∃ a kvs ns, vs = [.ref a] ∧ TopsD H a kvs ns ∧ Ends T E H (dueT ns kvs) (∀ H', Same H H' → Q .non H')
theorem ok_check_tops (T : Tx K mg) : FnOk P w K mg base (L2N.CX P w) 3 T.check_tops.f T.check_tops.fd ["tops"] (spCheckTops T) := by
  refine RlN.okN T.check_tops.F sc_check_tops (fun vs H Q E h => ?_) (fun cdv A outer s0 H vs Q E hr h => ?_)
  · obtain ⟨a, kvs, ns, rfl, _⟩ := h
    rfl
  · obtain ⟨a, kvs, ns, rfl, hd, k⟩ := h
    refine ⟨_, (pss_cons (ps_if (pt_not (pt_chain op_le op_le pe_int (pe_callB call_lenD (by rfl) T.m_len (by decide +kernel) (pa_cons (pv 0) pa_nil)) (pe_glb (by rfl) T.c_MOST_PARTS))) (pss_one (L2N.ps_raise rfl (L2N.takes_of rfl rfl rfl rfl) (RlN.pmk_oexN T.e_BadCount.oex T.e_BadCount.iC T.e_BadCount.tI (ok_i_BadCount T) (hr.mono (by decide)) T.e_BadCount.b pass0 (by rfl) T.e_BadCount.g (pa_cons (pe_callB call_lenD (by rfl) T.m_len (by decide +kernel) (pa_cons (pv 0) pa_nil)) pa_nil)))) pss_nil)
      (pss_cons (ps_set (i := 1) sc_check_tops.nd rfl (.inl rfl) (pe_callB (call_sortedD rfl) (by rfl) T.m_sorted (by decide +kernel) (pa_cons (pv 0) pa_nil)))
      (pss_cons (ps_for (passes_of rfl) rfl (pi_list (pv 1)) (pg_name (i := 2) sc_check_tops.nd rfl (.inl rfl)) (pss_one (ps_if (pt_not (pt_val (pcall T.valid_name (ok_valid_name T) (hr.mono (by decide)) (by rfl) pass0 (pa_cons (pv 2) pa_nil)))) (pss_one (L2N.ps_raise rfl (L2N.takes_of rfl rfl rfl rfl) (RlN.pmk_oexN T.e_BadName.oex T.e_BadName.iC T.e_BadName.tI (ok_i_BadName T) (hr.mono (by decide)) T.e_BadName.b pass0 (by rfl) T.e_BadName.g (pa_cons (pv 2) pa_nil)))) pss_nil)))
      (pss_cons (ps_for (passes_of rfl) rfl (pi_list (pv 1)) (pg_name (i := 2) sc_check_tops.nd rfl (.inl rfl)) (pss_one (ps_if (pt_not (pt_val (pcall T.is_whole (ok_is_whole T) (hr.mono (by decide)) (by rfl) pass0 (pa_cons (pe_dget (hu_of hr) (pv 0) (pv 2) (fun _ _ => rfl)) (pa_cons (pe_glb (by rfl) T.c_LEAST_TOP) (pa_cons (pe_glb (by rfl) T.c_GREATEST_TOP) pa_nil)))))) (pss_one (L2N.ps_raise rfl (L2N.takes_of rfl rfl rfl rfl) (RlN.pmk_oexN T.e_BadTop.oex T.e_BadTop.iC T.e_BadTop.tI (ok_i_BadTop T) (hr.mono (by decide)) T.e_BadTop.b pass0 (by rfl) T.e_BadTop.g (pa_cons (pe_dget (hu_of hr) (pv 0) (pv 2) (fun _ _ => rfl)) pa_nil)))) pss_nil)))
      (pss_cons (ps_set (i := 3) sc_check_tops.nd rfl (.inl rfl) (pcall T.count_states (ok_count_states T) (hr.mono (by decide)) (by rfl) pass0 (pa_cons (pv 0) pa_nil)))
      (pss_one (ps_if (pt_cmpR op_gt (pv 3) (pe_glb (by rfl) T.c_MOST_STATES) (nomark _)) (pss_one (L2N.ps_raise rfl (L2N.takes_of rfl rfl rfl rfl) (RlN.pmk_oexN T.e_BadCount.oex T.e_BadCount.iC T.e_BadCount.tI (ok_i_BadCount T) (hr.mono (by decide)) T.e_BadCount.b pass0 (by rfl) T.e_BadCount.g (pa_cons (pv 3) pa_nil)))) pss_nil))))))), ?_⟩
    dsimp only [cx_K]
    have hl := hd.len
    refine ⟨_, rfl, _, _, rfl, hd.at_, _, _, rfl, rfl, _, rfl, ?_⟩
    have out : ¬ (1 ≤ ns.length ∧ ns.length ≤ 6) → Flies E T.e_BadCount.C "count" (.int kvs.length) H := fun n => by
      rw [hl]
      unfold dueT at k
      rw [if_neg n] at k
      exact k
    by_cases h1 : 1 ≤ ns.length
    · refine ite2 (fun _ => ?_) (fun q => absurd (decide_eq_true (by omega)) q)
      refine ⟨_, _, rfl, rfl, _, rfl, ?_⟩
      by_cases h6 : ns.length ≤ 6
      · refine ite2 (fun q => ?_) (fun _ => ?_)
        · rw [decide_eq_true (by omega)] at q
          cases q
        · obtain ⟨ks, ek, pk⟩ := hd.ks
          refine ⟨_, rfl, a, kvs, ks, rfl, .inl hd.at_, ek, (by rw [← pk.length_eq]; omega), fun ys p hy hs np => ?_⟩
          obtain rfl : ys = ns := sorted_one hs hd.srt (hy.trans pk.symm)
          unfold dueT at k
          rw [if_pos ⟨h1, h6⟩] at k
          have s1 := same_new (o := .lst (ys.map V.str)) np
          have a1 := upd_same (H := H) (a := p) (o := .lst (ys.map V.str))
          generalize upd H p (.lst (ys.map V.str)) = H1 at s1 a1 ⊢
          have tops : ∀ {H'}, Same H1 H' → TopsD H' a kvs ys := fun s2 => hd.same (s1.trans s2)
          -- the names
          refine ⟨_, rfl, p, rfl, ⟨_, sq a1⟩, for_list (xs := ys.map V.str) (fun i σ H' => ∃ v, σ = [some (.ref a), some (.ref p), v, none] ∧ Same H1 H' ∧ ∀ y ∈ ys.take i, (!vn y) = false)
            ⟨_, rfl, Same.refl _, fun y hy => by simp at hy⟩ (fun i σ H' _ q => ?_) ?_ ?_⟩
          · obtain ⟨_, _, s2, _⟩ := q
            exact sq (s2 _ _ a1)
          · rintro i x σ H' hi ⟨v, rfl, s2, hb⟩
            obtain ⟨z, hz, rfl⟩ : ∃ z, ys[i]? = some z ∧ x = .str z := by
              rw [List.getElem?_map] at hi
              cases e : ys[i]? with
              | none =>
                rw [e] at hi
                cases hi
              | some z =>
                rw [e] at hi
                exact ⟨z, rfl, (Option.some.inj hi).symm⟩
            have mz : z ∈ ys := List.mem_of_getElem? hz
            refine ⟨_, rfl, z, rfl, hd.small z mz, fun H2 s3 => ⟨_, rfl, ?_⟩⟩
            cases e : vn z with
            | true =>
              exact iteF ⟨_, rfl, s2.trans s3, take_snoc_all hz hb (by rw [e]; rfl)⟩
            | false =>
              refine iteT ⟨_, rfl, mk_flies ?_⟩
              have f := find_first (p := fun z => !vn z) hz (by rw [e]; rfl) hb
              rw [f] at k
              exact Flies.same k (s1.trans (s2.trans s3))
          · rintro σ H' ⟨v, rfl, s2, hb⟩
            rw [List.length_map, List.take_length] at hb
            rw [find_no hb] at k
            -- the tops
            refine ⟨_, rfl, p, rfl, ⟨_, sq (s2 _ _ a1)⟩, for_list (xs := ys.map V.str) (fun i σ H' => ∃ v, σ = [some (.ref a), some (.ref p), v, none] ∧ Same H1 H' ∧ ∀ y ∈ ys.take i, (!whole (tv kvs y) 1 3) = false)
              ⟨_, rfl, s2, fun y hy => by simp at hy⟩ (fun i σ H' _ q => ?_) ?_ ?_⟩
            · obtain ⟨_, _, s2, _⟩ := q
              exact sq (s2 _ _ a1)
            · rintro i x σ H' hi ⟨v, rfl, s2, hb⟩
              obtain ⟨z, hz, rfl⟩ : ∃ z, ys[i]? = some z ∧ x = .str z := by
                rw [List.getElem?_map] at hi
                cases e : ys[i]? with
                | none =>
                  rw [e] at hi
                  cases hi
                | some z =>
                  rw [e] at hi
                  exact ⟨z, rfl, (Option.some.inj hi).symm⟩
              have mz : z ∈ ys := List.mem_of_getElem? hz
              have gz : DGet H' a (.str z) (some (tv kvs z)) := by
                have q := DGet.k (k := Sum.inr z) (s1.trans s2 _ _ hd.at_)
                rw [hd.get mz] at q
                exact q
              refine ⟨_, rfl, _, rfl, a, _, rfl, gz, tv kvs z, 1, 3, rfl, (hd.any z mz).same (s1.trans s2), ?_⟩
              refine ⟨_, rfl, ?_⟩
              cases e : whole (tv kvs z) 1 3 with
              | true =>
                exact iteF ⟨_, rfl, s2, take_snoc_all hz hb (by rw [e]; rfl)⟩
              | false =>
                refine iteT ⟨_, rfl, _, rfl, a, _, rfl, gz, mk_flies ?_⟩
                have f := find_first (p := fun z => !whole (tv kvs z) 1 3) hz (by rw [e]; rfl) hb
                rw [f] at k
                exact Flies.same k (s1.trans s2)
            · rintro σ H' ⟨v, rfl, s2, hb⟩
              rw [List.length_map, List.take_length] at hb
              rw [find_no hb] at k
              -- how many states
              have hw : ∀ y ∈ ys, whole (tv kvs y) 1 3 = true := fun y hy => by
                have := hb y hy
                cases c : whole (tv kvs y) 1 3 with
                | true => rfl
                | false =>
                  rw [c] at this
                  cases this
              have nk : ks.Nodup := pk.nodup hd.nd
              have ev : kvs.map (·.2) = (ks.map fun z => vi (tv kvs z)).map V.int := by
                rw [vals_of ek nk, List.map_map]
                exact List.map_congr_left fun y hy => (whole_vi (hw y (pk.mem_iff.mpr hy))).1
              have ec : cnt (ks.map fun z => vi (tv kvs z)) = cnt (ys.map fun z => vi (tv kvs z)) := cnt_perm (pk.symm.map _)
              refine ⟨_, rfl, a, kvs, _, rfl, (tops s2).at_, ev, (fun t ht => ?_), (by rw [List.length_map, ← pk.length_eq]; exact h6), fun H2 s3 => ?_⟩
              · obtain ⟨y, hy, rfl⟩ := List.mem_map.mp ht
                exact (whole_vi (hw y (pk.mem_iff.mpr hy))).2
              · rw [ec]
                dsimp only at k
                generalize cnt (ys.map fun z => vi (tv kvs z)) = c at k ⊢
                refine ⟨_, rfl, _, _, rfl, rfl, _, rfl, ?_⟩
                refine ite2 (fun q => ?_) (fun q => ?_)
                · rw [if_pos (show c > 256 from of_decide_eq_true q)] at k
                  exact ⟨_, rfl, mk_flies (Flies.same k (s1.trans (s2.trans s3)))⟩
                · rw [if_neg (show ¬ c > 256 from fun z => q (decide_eq_true z))] at k
                  exact k _ (s1.trans (s2.trans s3))
      · refine ite2 (fun _ => ?_) (fun q => ?_)
        · exact ⟨_, rfl, _, _, rfl, hd.at_, mk_flies (out fun z => h6 z.2)⟩
        · rw [decide_eq_false (by omega)] at q
          exact absurd rfl q
    · refine ite2 (fun q => ?_) (fun _ => ?_)
      · rw [decide_eq_false (by omega)] at q
        cases q
      · exact ⟨_, rfl, iteT ⟨_, rfl, _, _, rfl, hd.at_, mk_flies (out fun z => h1 z.1)⟩⟩
--E--
end
end K11

set_option Elab.async false
set_option linter.all false
set_option maxRecDepth 100000
set_option maxHeartbeats 1000000
namespace K11
open PySem PySem.Spec PyProof.Rows L2 Rl Dr Tx Ex Er So Wi
section
variable {P : Program} {w : World} {K : PySem.W.Frag} {mg : Str → Option Value} {base : Heap}
--B--
/-! ### what is due of the arrows -/
abbrev Arr := Str × Str × Str
def dueA (ns : List Str) (H : Hp) : List V → List (Str × Str) → Bad
  | [], _ => .ok
  | x :: r, seen => match arrowOf ns H x with
    | none => .arrow x
    | some t => if (t.1, t.2.1) ∈ seen then .arrow x else dueA ns H r (seen ++ [(t.1, t.2.1)])
abbrev kOf (s t : Str) : List Key := [.inr s, .inr t]
def sgn (l : List Arr) : List (List Key × V) := l.map fun t => (kOf t.1 t.2.1, .str t.2.2)
def prs (l : List Arr) : List (Str × Str) := l.map fun t => (t.1, t.2.1)
theorem sgn_snoc (l : List Arr) (t : Arr) : sgn (l ++ [t]) = sgn l ++ [(kOf t.1 t.2.1, .str t.2.2)] := by
  unfold sgn
  rw [List.map_append]
  rfl
theorem prs_snoc (l : List Arr) (t : Arr) : prs (l ++ [t]) = prs l ++ [(t.1, t.2.1)] := by
  unfold prs
  rw [List.map_append]
  rfl
theorem kOf_inj {s t x y : Str} : kOf s t = kOf x y ↔ (s, t) = (x, y) := by
  constructor
  · intro h
    simp only [kOf, List.cons.injEq, Sum.inr.injEq, and_true] at h
    rw [h.1, h.2]
  · intro h
    cases h
    rfl
theorem val_sgn (l : List Arr) (s t : Str) : (valV (sgn l) (kOf s t)).isSome = decide ((s, t) ∈ prs l) := by
  rw [← valV_any]
  induction l with
  | nil => rfl
  | cons p r ih =>
    show (decide (kOf p.1 p.2.1 = kOf s t) || (sgn r).any fun kv => decide (kv.1 = kOf s t)) = decide ((s, t) ∈ (p.1, p.2.1) :: prs r)
    rw [ih]
    by_cases h : (p.1, p.2.1) = (s, t)
    · have h' : kOf p.1 p.2.1 = kOf s t := kOf_inj.mpr h
      rw [decide_eq_true h', Bool.true_or, decide_eq_true]
      exact List.mem_cons.mpr (.inl h.symm)
    · have h' : ¬ kOf p.1 p.2.1 = kOf s t := fun z => h (kOf_inj.mp z)
      rw [decide_eq_false h', Bool.false_or]
      have h2 : ¬ (s, t) = (p.1, p.2.1) := fun z => h z.symm
      simp only [List.mem_cons, h2, false_or]
theorem arrow_of {ns : List Str} {H : Hp} {v : V} {t : Arr} (h : arrowOf ns H v = some t) : ∃ b, v = .ref b ∧ H b = some (.tup [.str t.1, .str t.2.1, .str t.2.2]) := by
  unfold arrowOf at h
  have h3 : three H v = some t := by
    cases e : three H v with
    | none =>
      rw [e] at h
      cases h
    | some u =>
      rw [e] at h
      simp only [Option.filter] at h
      split at h
      · rw [Option.some.inj h]
      · cases h
  unfold three at h3
  cases v with
  | ref b =>
    dsimp only at h3
    split at h3
    · rename_i x y z e
      cases h3
      exact ⟨b, rfl, e⟩
    · cases h3
  | _ => cases h3
theorem no3 : ¬ (HT.sIx 3 0 none = 0 ∧ HT.sIx 3 3 (some 2) = 3) := by decide
structure ArrsD (K : PySem.W.Frag) (H : Hp) (b : Addr) (xs : List V) : Prop where
  sq : SqS K H b xs
  few : xs.length ≤ 50000
  any : ∀ x ∈ xs, AnyT H x
def spSigns (K : PySem.W.Frag) {mg : Str → Option Value} (T : Tx K mg) : Sp := fun vs H Q E => ∃ a kvs ns b xs, vs = [.ref a, .ref b] ∧ TopsD H a kvs ns ∧ ArrsD K H b xs ∧
  Ends T E H (dueA ns H xs []) (∀ p H', Same H H' → H p = none → H' p = some (.dT (sgn (xs.filterMap (arrowOf ns H)))) → Q (.ref p) H')
theorem ok_checked_signs (T : Tx K mg) : FnOk P w K mg base (L2N.CX P w) 3 T.checked_signs.f T.checked_signs.fd ["tops", "arrows"] (spSigns K T) := by
  refine RlN.okN T.checked_signs.F sc_checked_signs (fun vs H Q E h => ?_) (fun cdv A outer s0 H vs Q E hr h => ?_)
  · obtain ⟨a, kvs, ns, b, xs, rfl, _⟩ := h
    rfl
  · obtain ⟨a, kvs, ns, b, xs, rfl, hd, hx, k⟩ := h
    refine ⟨_, (pss_cons (ps_set (i := 2) sc_checked_signs.nd rfl (.inl rfl) pe_dnewT)
      (pss_cons (ps_for (passes_of rfl) rfl (pi_seq (pv 1)) (pg_name (i := 3) sc_checked_signs.nd rfl (.inl rfl)) (pss_cons (ps_if (PW.pt (pw_or (pt_not (pt_val (pcall T.is_arrow (ok_is_arrow T) (hr.mono (by decide)) (by rfl) pass0 (pa_cons (pv 0) (pa_cons (pv 3) pa_nil))))) (pw_or1 (pt_cmp (pc_din (hu_of hr) (pe_slice (r := rSlA K) sl_tupA (pv 3) po_none (po_some pe_int)) (pv 2)))))) (pss_one (L2N.ps_raise rfl (L2N.takes_of rfl rfl rfl rfl) (RlN.pmk_oexN T.e_BadArrow.oex T.e_BadArrow.iC T.e_BadArrow.tI (ok_i_BadArrow T) (hr.mono (by decide)) T.e_BadArrow.b pass0 (by rfl) T.e_BadArrow.g (pa_cons (pv 3) pa_nil)))) pss_nil)
      (pss_one (ps_dput (hu_of hr) (pv 2) (pe_slice (r := rSlA K) sl_tupA (pv 3) po_none (po_some pe_int)) (pe_ix (r := rIxT K) ix_tup (pv 3) pe_int (fun _ _ => rfl)) rfl))))
      (pss_one (ps_ret (pv 2))))), ?_⟩
    dsimp only [cx_K]
    intro q nq
    have s1 := same_new (o := .dT []) nq
    have a1 := upd_same (H := H) (a := q) (o := .dT [])
    generalize upd H q (.dT []) = H1 at s1 a1 ⊢
    obtain ⟨ks, ek, pk⟩ := hd.ks
    refine ⟨_, rfl, b, xs, rfl, for_seq (fun i σ H' => ∃ v l, σ = [some (.ref a), some (.ref b), some (.ref q), v] ∧ Same H H' ∧ H' q = some (.dT (sgn l)) ∧ l = (xs.take i).filterMap (arrowOf ns H) ∧ l.length ≤ i ∧ dueA ns H xs [] = dueA ns H (xs.drop i) (prs l))
      ⟨_, [], rfl, s1, a1, rfl, Nat.le_refl _, rfl⟩ ?_ ?_ ?_⟩
    · rcases hx.sq with hq | hq
      · exact .inl fun i σ H' p => by
          obtain ⟨_, _, _, s2, _⟩ := p
          exact s2.seq hq
      · exact .inr fun i σ H' p => by
          obtain ⟨_, _, _, s2, _⟩ := p
          exact same_seqT s2 hq
    · rintro i x σ H' hi ⟨v, l, rfl, s2, hq, el, ll, due⟩
      have mx : x ∈ xs := List.mem_of_getElem? hi
      have hi' : i < xs.length := (List.getElem?_eq_some_iff.mp hi).1
      have ax := (hx.any x mx).same s2
      have ed : xs.drop i = x :: xs.drop (i + 1) := by
        rw [List.drop_eq_getElem_cons hi', (List.getElem?_eq_some_iff.mp hi).2]
      rw [ed] at due
      have ea : ∀ H2, Same H H2 → arrowOf ks H2 x = arrowOf ns H x := fun H2 s3 => by
        rw [arrow_same (hx.any x mx).any s3]
        unfold arrowOf
        congr 1
        funext t
        rw [decide_eq_decide.mpr (pk.mem_iff (a := t.1)), decide_eq_decide.mpr (pk.mem_iff (a := t.2.1))]
      refine ⟨_, rfl, _, rfl, a, kvs, ks, x, rfl, s2 _ _ hd.at_, ek, ax, fun H2 s3 => ⟨_, rfl, ?_⟩⟩
      rw [ea H' s2]
      cases e : arrowOf ns H x with
      | none =>
        refine iteT ⟨_, rfl, mk_flies ?_⟩
        have dd : dueA ns H (x :: xs.drop (i + 1)) (prs l) = .arrow x := by
          show (match arrowOf ns H x with | none => Bad.arrow x | some t => _) = _
          rw [e]
        rw [due, dd] at k
        exact Flies.same k (s2.trans s3)
      | some t =>
        refine iteF ?_
        obtain ⟨c, rfl, hc⟩ := arrow_of e
        have hc3 := s3 _ _ (s2 _ _ hc)
        have hq3 := s3 _ _ hq
        refine ⟨_, rfl, 2, rfl, c, _, rfl, .inl (.inl hc3), fun z => absurd z no3, fun _ r nr => ?_⟩
        have s4 := same_new (o := .tup [.str t.1, .str t.2.1]) nr
        have a4 := upd_same (H := H2) (a := r) (o := .tup [.str t.1, .str t.2.1])
        change ∃ x, _
        have e2 : cutV [V.str t.1, .str t.2.1, .str t.2.2] none (some 2) = [.str t.1, .str t.2.1] := rfl
        rw [e2]
        generalize upd H2 r (.tup [.str t.1, .str t.2.1]) = H3 at s4 a4 ⊢
        refine ⟨_, rfl, q, _, rfl, DGet.t (k := kOf t.1 t.2.1) (s4 _ _ hq3) a4, _, rfl, ?_⟩
        rw [val_sgn]
        have dd : dueA ns H (V.ref c :: xs.drop (i + 1)) (prs l) = if (t.1, t.2.1) ∈ prs l then .arrow (.ref c) else dueA ns H (xs.drop (i + 1)) (prs l ++ [(t.1, t.2.1)]) := by
          show (match arrowOf ns H (.ref c) with | none => Bad.arrow _ | some t => _) = _
          rw [e]
        rw [dd] at due
        refine ite2 (fun z => ?_) (fun z => ?_)
        · rw [if_pos (of_decide_eq_true z)] at due
          refine ⟨_, rfl, mk_flies ?_⟩
          rw [due] at k
          exact Flies.same k (s2.trans (s3.trans s4))
        · have z' : ¬ (t.1, t.2.1) ∈ prs l := fun m => z (decide_eq_true m)
          rw [if_neg z'] at due
          have vn0 : valV (sgn l) (kOf t.1 t.2.1) = none := by
            have := val_sgn l t.1 t.2.1
            rw [decide_eq_false z'] at this
            cases c : valV (sgn l) (kOf t.1 t.2.1) with
            | none => rfl
            | some v =>
              rw [c] at this
              cases this
          refine ⟨_, rfl, c, _, 2, .str t.2.2, rfl, rfl, .inl (.inl (s4 _ _ hc3)), rfl, ?_⟩
          refine ⟨_, rfl, _, rfl, 2, rfl, c, _, rfl, .inl (.inl (s4 _ _ hc3)), fun z => absurd z no3, fun _ r2 nr2 => ?_⟩
          have s5 := same_new (o := .tup [.str t.1, .str t.2.1]) nr2
          have a5 := upd_same (H := H3) (a := r2) (o := .tup [.str t.1, .str t.2.1])
          rw [e2]
          generalize upd H3 r2 (.tup [.str t.1, .str t.2.1]) = H4 at s5 a5 ⊢
          refine ⟨q, _, rfl, .inr ⟨_, kOf t.1 t.2.1, r2, s5 _ _ (s4 _ _ hq3), rfl, a5, ?_, rfl⟩, ?_⟩
          · unfold sgn
            rw [List.length_map]
            have := hx.few
            exact sz (by omega)
          · refine ⟨_, l ++ [t], rfl, Same.mut (s2.trans (s3.trans (s4.trans s5))) nq, ?_, ?_, ?_, ?_⟩
            · rw [upd_same, putK_new _ vn0, sgn_snoc]
            · rw [List.take_add_one, hi, List.filterMap_append, ← el]
              show l ++ [t] = l ++ List.filterMap (arrowOf ns H) [V.ref c]
              rw [List.filterMap_cons, e]
              rfl
            · rw [List.length_append]
              show l.length + 1 ≤ i + 1
              omega
            · rw [prs_snoc]
              exact due
    · rintro σ H' ⟨v, l, rfl, s2, hq, el, ll, due⟩
      rw [List.take_length] at el
      rw [List.drop_length] at due
      rw [due] at k
      rw [el] at hq
      exact ⟨_, rfl, k q H' s2 nq hq⟩
--E--
end
end K11

set_option Elab.async false
set_option linter.all false
set_option maxRecDepth 100000
set_option maxHeartbeats 1000000
namespace K11
open PySem PySem.Spec PyProof.Rows L2 Rl Dr Tx Ex Er So Wi
open PySem.W (AllAlike Sortable dataLe)
section
variable {P : Program} {w : World} {K : PySem.W.Frag} {mg : Str → Option Value} {base : Heap}
--B--
/-! ### arrows in order -/
def dA (t : Arr) : PyData := .tuple [.str t.1, .str t.2.1, .str t.2.2]
def sortA (l : List Arr) : List Arr := l.mergeSort fun t u => dataLe false dA t u
/-- the i-th value is the tuple of the i-th arrow -/
def ArrP (H : Hp) (xs : List V) (l : List Arr) : Prop := Paired (fun v t => three H v = some t) xs l
theorem three_ref {H : Hp} {v : V} {t : Arr} (h : three H v = some t) : ∃ b, v = .ref b ∧ H b = some (.tup [.str t.1, .str t.2.1, .str t.2.2]) := by
  unfold three at h
  cases v with
  | ref b =>
    dsimp only at h
    split at h
    · rename_i x y z e
      cases h
      exact ⟨b, rfl, e⟩
    · cases h
  | _ => cases h
theorem three_dp {H : Hp} {v : V} {t : Arr} (h : three H v = some t) : Dp K H v (dA t) := by
  unfold three at h
  cases v with
  | ref b =>
    dsimp only at h
    split at h
    · rename_i x y z e
      cases h
      exact .tup (.inl (.inl e)) (.cons (.str x) (.cons (.str y) (.cons (.str z) .nil)))
    · cases h
  | _ => cases h
theorem arrP_dp {H : Hp} : ∀ {xs : List V} {l : List Arr}, ArrP H xs l → DpAll K H xs (l.map dA)
  | _, _, .nil => .nil
  | _, _, .cons h t => .cons (three_dp h) (arrP_dp t)
theorem dA_alike (l : List Arr) : AllAlike (l.map dA) := fun d hd d' hd' => by
  obtain ⟨t, _, rfl⟩ := List.mem_map.mp hd
  obtain ⟨u, _, rfl⟩ := List.mem_map.mp hd'
  rfl
theorem dA_sortable (l : List Arr) : Sortable (l.map dA) := .inl fun d hd => by
  obtain ⟨t, _, rfl⟩ := List.mem_map.mp hd
  exact ⟨_, _, rfl⟩
theorem dA_depth (l : List Arr) : ∀ d ∈ l.map dA, d.depth ≤ 32 := fun d hd => by
  obtain ⟨t, _, rfl⟩ := List.mem_map.mp hd
  show PyData.depth (.tuple [.str t.1, .str t.2.1, .str t.2.2]) ≤ 32
  simp only [PyData.depth, PyData.depthAll]
  decide
theorem paired_zip {α β : Type} {R : α → β → Prop} : ∀ {xs : List α} {l : List β}, Paired R xs l → ∀ p ∈ xs.zip l, R p.1 p.2
  | _, _, .nil, p, h => by simp at h
  | _, _, .cons h t, p, m => by
    rw [List.zip_cons_cons] at m
    rcases List.mem_cons.mp m with rfl | m
    · exact h
    · exact paired_zip t p m
theorem paired_mono {α β : Type} {R S : α → β → Prop} (h : ∀ a b, R a b → S a b) : ∀ {xs : List α} {l : List β}, Paired R xs l → Paired S xs l
  | _, _, .nil => .nil
  | _, _, .cons r t => .cons (h _ _ r) (paired_mono h t)
theorem paired_of_map {α β : Type} {R : α → β → Prop} : ∀ {ps : List (α × β)}, (∀ p ∈ ps, R p.1 p.2) → Paired R (ps.map (·.1)) (ps.map (·.2))
  | [], _ => .nil
  | p :: r, h => .cons (h p (by simp)) (paired_of_map fun q hq => h q (List.mem_cons_of_mem _ hq))
/-- sorted values stand for the sorted arrows -/
theorem arrP_sort {H : Hp} {xs : List V} {l : List Arr} (h : ArrP H xs l) : ArrP H (sortD xs (l.map dA)) (sortA l) := by
  have hl : xs.length = l.length := Paired.length h
  -- pairs of a value and its arrow
  have e1 : (xs.zip (l.map dA)) = (xs.zip l).map fun p => (p.1, dA p.2) := by
    rw [List.zip_map_right]
    rfl
  have e2 : ((xs.zip l).mergeSort fun p q => dataLe false dA p.2 q.2).map (fun p => (p.1, dA p.2)) = ((xs.zip l).map fun p => (p.1, dA p.2)).mergeSort (dataLe false fun p : V × PyData => p.2) :=
    List.map_mergeSort fun a _ b _ => rfl
  have e3 : ((xs.zip l).mergeSort fun p q => dataLe false dA p.2 q.2).map (·.2) = ((xs.zip l).map (·.2)).mergeSort fun t u => dataLe false dA t u :=
    List.map_mergeSort fun a _ b _ => rfl
  have e4 : (xs.zip l).map (·.2) = l := List.map_snd_zip (Nat.le_of_eq hl.symm)
  have e5 : sortD xs (l.map dA) = ((xs.zip l).mergeSort fun p q => dataLe false dA p.2 q.2).map (·.1) := by
    unfold sortD
    rw [e1, ← e2, List.map_map]
    rfl
  have e6 : sortA l = ((xs.zip l).mergeSort fun p q => dataLe false dA p.2 q.2).map (·.2) := by
    rw [e3, e4]
    rfl
  rw [e5, e6]
  exact paired_of_map fun p hp => paired_zip h p ((List.mergeSort_perm _ _).mem_iff.mp hp)
theorem ArrP.same {H H' : Hp} : ∀ {xs : List V} {l : List Arr}, ArrP H xs l → (∀ b o, H b = some o → H' b = some o) → ArrP H' xs l
  | _, _, .nil, _ => .nil
  | _, _, .cons h t, s => .cons (by
      obtain ⟨b, rfl, hb⟩ := three_ref h
      unfold three
      simp only [s _ _ hb]) (ArrP.same t s)
/-! ### a wiring -/
def wf (pp pt ps pa : Addr) : List (Str × V) := putF "_arrows" (.ref pa) (putF "_signs" (.ref ps) (putF "_tops" (.ref pt) (putF "_parts" (.ref pp) [])))
theorem putF_len (f : Str) (v : V) : ∀ fs : List (Str × V), (putF f v fs).length ≤ fs.length + 1
  | [] => Nat.le_refl _
  | (g, x) :: r => by
    show (if g = f then (g, v) :: r else (g, x) :: putF f v r).length ≤ _
    have := putF_len f v r
    split <;> simp only [List.length_cons] <;> omega
theorem wf_p (pp pt ps pa : Addr) : (wf pp pt ps pa).lookup ("_parts" : Str) = some (.ref pp) := by
  unfold wf
  rw [lookup_putF, if_neg (by decide +kernel), lookup_putF, if_neg (by decide +kernel), lookup_putF, if_neg (by decide +kernel), lookup_putF, if_pos rfl]
theorem wf_t (pp pt ps pa : Addr) : (wf pp pt ps pa).lookup ("_tops" : Str) = some (.ref pt) := by
  unfold wf
  rw [lookup_putF, if_neg (by decide +kernel), lookup_putF, if_neg (by decide +kernel), lookup_putF, if_pos rfl]
theorem wf_s (pp pt ps pa : Addr) : (wf pp pt ps pa).lookup ("_signs" : Str) = some (.ref ps) := by
  unfold wf
  rw [lookup_putF, if_neg (by decide +kernel), lookup_putF, if_pos rfl]
theorem wf_a (pp pt ps pa : Addr) : (wf pp pt ps pa).lookup ("_arrows" : Str) = some (.ref pa) := by
  unfold wf
  rw [lookup_putF, if_pos rfl]
theorem wf_no (pp pt ps pa : Addr) {m : Str} (h1 : ¬ m = "_arrows") (h2 : ¬ m = "_signs") (h3 : ¬ m = "_tops") (h4 : ¬ m = "_parts") : (wf pp pt ps pa).lookup m = none := by
  unfold wf
  rw [lookup_putF, if_neg h1, lookup_putF, if_neg h2, lookup_putF, if_neg h3, lookup_putF, if_neg h4]
  rfl
def topK (ns : List Str) (ts : List Int) : List (Key × V) := (ns.zip ts).map fun p => ((Sum.inr p.1 : Key), V.int p.2)
def topF (ns : List Str) (f : Str → Int) : List (Key × V) := ns.map fun z => ((Sum.inr z : Key), V.int (f z))
theorem topF_K (ns : List Str) (f : Str → Int) : topF ns f = topK ns (ns.map f) := by
  induction ns with
  | nil => rfl
  | cons z r ih =>
    show _ :: topF r f = _ :: topK r (r.map f)
    rw [ih]
theorem topF_val (ns : List Str) (f : Str → Int) (z : Str) : valV (topF ns f) (Sum.inr z : Key) = if z ∈ ns then some (.int (f z)) else none := by
  induction ns with
  | nil => rfl
  | cons y r ih =>
    by_cases e : y = z
    · subst e
      rw [if_pos (List.mem_cons_self)]
      exact valV_pos rfl
    · have e' : ¬ (Sum.inr y : Key) = Sum.inr z := fun q => e (Sum.inr.inj q)
      have e2 : valV (topF (y :: r) f) (Sum.inr z : Key) = valV (topF r f) (Sum.inr z : Key) := valV_neg e'
      have e3 : ¬ z = y := fun q => e q.symm
      rw [e2, ih]
      simp only [List.mem_cons, e3, false_or]
theorem topF_snoc {ns : List Str} {f : Str → Int} {i : Nat} {z : Str} (h : ns[i]? = some z) : topF (ns.take (i + 1)) f = topF (ns.take i) f ++ [(Sum.inr z, .int (f z))] := by
  unfold topF
  rw [List.take_add_one, h, List.map_append]
  rfl
theorem not_before {ns : List Str} (nd : ns.Nodup) {i : Nat} {z : Str} (h : ns[i]? = some z) : ¬ z ∈ ns.take i := fun m => by
  obtain ⟨hi, e⟩ := List.getElem?_eq_some_iff.mp h
  have e2 : ns = ns.take i ++ z :: ns.drop (i + 1) := by
    rw [← e, List.getElem_cons_drop, List.take_append_drop]
  rw [e2] at nd
  exact (List.nodup_append.mp nd).2.2 z m z (List.mem_cons_self) rfl
/-- at p a wiring: its parts, their tops, its arrows as they were given -/
structure WA (C : Addr) (H : Hp) (p : Addr) (ns : List Str) (ts : List Int) (l : List Arr) : Prop where
  ob : ∃ dx pp pt ps pa, H p = some (.ins C dx (wf pp pt ps pa)) ∧ H pp = some (.tup (ns.map V.str)) ∧ H pt = some (.dK (topK ns ts)) ∧ H ps = some (.dT (sgn l)) ∧ ∃ vs, H pa = some (.tup vs) ∧ ArrP H vs (sortA l)
  len : ns.length = ts.length
  ok : ∀ z ∈ ns, vn z = true
  nd : ns.Nodup
  srt : sortedS ns = true
  one : 1 ≤ ns.length
  six : ns.length ≤ 6
  tops : ∀ t ∈ ts, 1 ≤ t ∧ t ≤ 3
  few : cnt ts ≤ 256
  arr : ∀ t ∈ l, t.1 ∈ ns ∧ t.2.1 ∈ ns ∧ t.2.2 ∈ SG
  und : (prs l).Nodup
/-- what is due of both arguments -/
def dueW (ns : List Str) (kvs : List (Key × V)) (H : Hp) (xs : List V) : Bad := match dueT ns kvs with
  | .ok => dueA ns H xs []
  | b => b
/-- all but p stays -/
def But (p : Addr) (H H' : Hp) : Prop := ∀ b o, H b = some o → b ≠ p → H' b = some o
theorem But.of_same {p : Addr} {H H' : Hp} (h : Same H H') : But p H H' := fun b o e _ => h b o e
theorem But.trans {p : Addr} {H H1 H2 : Hp} (a : But p H H1) (b : But p H1 H2) : But p H H2 := fun c o e n => b c o (a c o e n) n
theorem But.upd {p : Addr} {H : Hp} {o : HO} : But p H (L2.upd H p o) := fun b x e n => by
  rw [upd_ne n]
  exact e
def FliesB (p : Addr) (E : XK) (C : Addr) (fld : Str) (v : V) (H : Hp) : Prop := ∀ d H', But p H H' → H' d = some (.xd [(fld, v)]) → E (.ref C) (some d) H'
def EndsB (p : Addr) (T : Tx K mg) (E : XK) (H : Hp) (b : Bad) (k : Prop) : Prop := match b with
  | .ok => k
  | .count n => FliesB p E T.e_BadCount.C "count" (.int n) H
  | .name z => FliesB p E T.e_BadName.C "name" (.str z) H
  | .top v => FliesB p E T.e_BadTop.C "value" v H
  | .arrow v => FliesB p E T.e_BadArrow.C "value" v H
/-- ends with an error: the same ahead of a change of p -/
theorem ends_of {p : Addr} {T : Tx K mg} {E : XK} {H H1 : Hp} {b : Bad} {k k' : Prop} (h : EndsB p T E H b k) (s : But p H H1) (hk : b = .ok → k → k') : Ends T E H1 b k' := by
  cases b with
  | ok => exact hk rfl h
  | _ => exact fun d H' s' e => h d H' (s.trans (But.of_same s')) e
theorem but_same {p : Addr} {H H' : Hp} (h : But p H H') : Same (del H p) H' := fun b o e => by
  by_cases n : b = p
  · subst n
    rw [del_same] at e
    cases e
  · rw [del_ne n] at e
    exact h b o e n
theorem del_sub {p : Addr} {H : Hp} : Same (del H p) H := but_same (But.of_same (Same.refl _))
theorem anyV_del {p C dx : Addr} {fs : List (Str × V)} {H : Hp} {v : V} (h : AnyV H v) (hp : H p = some (.ins C dx fs)) : AnyV (del H p) v := by
  cases h with
  | non => exact .non
  | bl b => exact .bl b
  | int i => exact .int i
  | str z => exact .str z
  | lst h => exact .lst (by rw [del_ne (ne_of h hp (fun z => by cases z))]; exact h)
  | tup h => exact .tup (by rw [del_ne (ne_of h hp (fun z => by cases z))]; exact h)
  | dK h => exact .dK (by rw [del_ne (ne_of h hp (fun z => by cases z))]; exact h)
theorem anyT_del {p C dx : Addr} {fs : List (Str × V)} {H : Hp} {v : V} (h : AnyT H v) (hp : H p = some (.ins C dx fs)) : AnyT (L2.del H p) v :=
  ⟨anyV_del h.any hp, fun a xs e ha => by
    have q := h.its a xs e (del_sub _ _ ha)
    exact ⟨q.1, fun x hx => anyV_del (q.2 x hx) hp⟩⟩
theorem rd_del {p C dx : Addr} {fs : List (Str × V)} {H : Hp} {b : Addr} {o : HO} (h : Rd H b o) (hp : H p = some (.ins C dx fs)) (n : ∀ C dx fs, o ≠ .ins C dx fs) : Rd (L2.del H p) b o := by
  rcases h with h | ⟨u, h⟩
  · exact .inl (by rw [del_ne (ne_of h hp (n _ _ _))]; exact h)
  · exact .inr ⟨u, by rw [del_ne (ne_of h hp (fun z => by cases z))]; exact h⟩
theorem topsD_del {p C dx : Addr} {fs : List (Str × V)} {H : Hp} {a : Addr} {kvs : List (Key × V)} {ns : List Str} (h : TopsD H a kvs ns) (hp : H p = some (.ins C dx fs)) : TopsD (L2.del H p) a kvs ns :=
  ⟨by rw [del_ne (ne_of h.at_ hp (fun z => by cases z))]; exact h.at_, h.ks, h.nd, h.srt, h.small, fun z hz => anyV_del (h.any z hz) hp⟩
theorem arrsD_del {p C dx : Addr} {fs : List (Str × V)} {H : Hp} {b : Addr} {xs : List V} (h : ArrsD K H b xs) (hp : H p = some (.ins C dx fs)) : ArrsD K (L2.del H p) b xs := by
  refine ⟨?_, h.few, fun x hx => anyT_del (h.any x hx) hp⟩
  rcases h.sq with (q | q) | (q | q)
  · exact .inl (.inl (rd_del q hp fun _ _ _ z => by cases z))
  · exact .inl (.inr q)
  · exact .inr (.inl (rd_del q hp fun _ _ _ z => by cases z))
  · exact .inr (.inr q)
theorem ArrsD.same {H H' : Hp} {b : Addr} {xs : List V} (h : ArrsD K H b xs) (s : Same H H') : ArrsD K H' b xs := ⟨h.sq.same s, h.few, fun x hx => (h.any x hx).same s⟩
theorem dueA_same {ns : List Str} {H H' : Hp} (s : Same H H') : ∀ (xs : List V) (seen : List (Str × Str)), (∀ x ∈ xs, AnyV H x) → dueA ns H' xs seen = dueA ns H xs seen
  | [], _, _ => rfl
  | x :: r, seen, h => by
    have e : arrowOf ns H' x = arrowOf ns H x := arrow_same (h x (by simp)) s
    have ih : ∀ seen, dueA ns H' r seen = dueA ns H r seen := fun seen => dueA_same s r seen fun y hy => h y (List.mem_cons_of_mem _ hy)
    show (match arrowOf ns H' x with | none => Bad.arrow x | some t => if (t.1, t.2.1) ∈ seen then .arrow x else dueA ns H' r (seen ++ [(t.1, t.2.1)])) = (match arrowOf ns H x with | none => Bad.arrow x | some t => if (t.1, t.2.1) ∈ seen then .arrow x else dueA ns H r (seen ++ [(t.1, t.2.1)]))
    rw [e]
    cases arrowOf ns H x with
    | none => rfl
    | some t =>
      dsimp only
      rw [ih]
theorem fm_same {ns : List Str} {H H' : Hp} (s : Same H H') : ∀ (xs : List V), (∀ x ∈ xs, AnyV H x) → xs.filterMap (arrowOf ns H') = xs.filterMap (arrowOf ns H)
  | [], _ => rfl
  | x :: r, h => by
    rw [List.filterMap_cons, List.filterMap_cons, arrow_same (h x (by simp)) s, fm_same s r fun y hy => h y (List.mem_cons_of_mem _ hy)]
theorem dueA_ok {ns : List Str} {H : Hp} : ∀ (xs : List V) (seen : List (Str × Str)), seen.Nodup → dueA ns H xs seen = .ok →
    Paired (fun v t => arrowOf ns H v = some t) xs (xs.filterMap (arrowOf ns H)) ∧ (seen ++ prs (xs.filterMap (arrowOf ns H))).Nodup
  | [], seen, hn, _ => ⟨.nil, by simpa [prs] using hn⟩
  | x :: r, seen, hn, h => by
    have h' : (match arrowOf ns H x with | none => Bad.arrow x | some t => if (t.1, t.2.1) ∈ seen then .arrow x else dueA ns H r (seen ++ [(t.1, t.2.1)])) = .ok := h
    cases e : arrowOf ns H x with
    | none =>
      rw [e] at h'
      cases h'
    | some t =>
      rw [e] at h'
      dsimp only at h'
      by_cases m : (t.1, t.2.1) ∈ seen
      · rw [if_pos m] at h'
        cases h'
      · rw [if_neg m] at h'
        have n2 : (seen ++ [(t.1, t.2.1)]).Nodup := List.nodup_append.mpr ⟨hn, by simp, fun a ha b hb => by
          rw [List.mem_singleton] at hb
          subst hb
          exact fun z => m (z ▸ ha)⟩
        obtain ⟨i1, i2⟩ := dueA_ok r _ n2 h'
        rw [List.filterMap_cons, e]
        refine ⟨.cons e i1, ?_⟩
        rw [List.append_assoc] at i2
        exact i2
theorem arrowOf_three {ns : List Str} {H : Hp} {v : V} {t : Arr} (h : arrowOf ns H v = some t) : three H v = some t ∧ t.1 ∈ ns ∧ t.2.1 ∈ ns ∧ t.2.2 ∈ SG := by
  unfold arrowOf at h
  cases e : three H v with
  | none =>
    rw [e] at h
    cases h
  | some u =>
    rw [e] at h
    simp only [Option.filter] at h
    split at h
    · rename_i c
      cases Option.some.inj h
      simp only [Bool.and_eq_true, decide_eq_true_eq] at c
      exact ⟨rfl, c.1.1, c.1.2, c.2⟩
    · cases h
theorem sortS_of {Q : VK} {H : Hp} {b : Addr} {xs : List V} {l : List Arr} (hs : SqS K H b xs) (ha : ArrP H xs l) (k : ∀ q, H q = none → Q (.ref q) (upd H q (.lst (sortD xs (l.map dA))))) : rSortS K [.ref b] H Q := by
  rcases hs with hs | hs
  · exact .inl ⟨b, xs, l.map dA, rfl, hs, arrP_dp ha, dA_alike l, dA_sortable l, dA_depth l, k⟩
  · exact .inr ⟨b, xs, l.map dA, rfl, hs, arrP_dp ha, dA_alike l, dA_sortable l, dA_depth l, k⟩
theorem dueT_ok {ns : List Str} {kvs : List (Key × V)} (h : dueT ns kvs = .ok) : 1 ≤ ns.length ∧ ns.length ≤ 6 ∧ (∀ z ∈ ns, vn z = true) ∧ (∀ z ∈ ns, whole (tv kvs z) 1 3 = true) ∧ cnt (ns.map fun z => vi (tv kvs z)) ≤ 256 := by
  unfold dueT at h
  by_cases c : 1 ≤ ns.length ∧ ns.length ≤ 6
  · rw [if_pos c] at h
    cases e : ns.find? fun z => !vn z with
    | some z =>
      rw [e] at h
      cases h
    | none =>
      rw [e] at h
      dsimp only at h
      cases e2 : ns.find? fun z => !whole (tv kvs z) 1 3 with
      | some z =>
        rw [e2] at h
        cases h
      | none =>
        rw [e2] at h
        dsimp only at h
        by_cases c2 : cnt (ns.map fun z => vi (tv kvs z)) > 256
        · rw [if_pos c2] at h
          cases h
        · refine ⟨c.1, c.2, fun z hz => ?_, fun z hz => ?_, by omega⟩
          · have := List.find?_eq_none.mp e z hz
            simpa using this
          · have := List.find?_eq_none.mp e2 z hz
            simpa using this
  · rw [if_neg c] at h
    cases h
def spMakeW (K : PySem.W.Frag) {mg : Str → Option Value} (T : Tx K mg) : Sp := fun vs H Q E => ∃ p dx a kvs ns b xs, vs = [.ref p, .ref a, .ref b] ∧ H p = some (.ins T.k_Wiring.C dx []) ∧ TopsD H a kvs ns ∧ ArrsD K H b xs ∧
  EndsB p T E H (dueW ns kvs H xs) (∀ H', But p H H' → WA T.k_Wiring.C H' p ns (ns.map fun z => vi (tv kvs z)) (xs.filterMap (arrowOf ns H)) → Q .non H')
theorem ok_Wiring___init__ (T : Tx K mg) : FnOk P w K mg base (L2N.CX P w) 4 T.Wiring___init__.f T.Wiring___init__.fd ["self", "tops", "arrows"] (spMakeW K T) := by
  refine RlN.okN T.Wiring___init__.F sc_Wiring___init__ (fun vs H Q E h => ?_) (fun cdv A outer s0 H vs Q E hr h => ?_)
  · obtain ⟨p, dx, a, kvs, ns, b, xs, rfl, _⟩ := h
    rfl
  · obtain ⟨p, dx, a, kvs, ns, b, xs, rfl, hp, hd, hx, k⟩ := h
    refine ⟨_, (pss_cons (ps_expr (RlN.pcallN T.check_tops (ok_check_tops T) (hr.mono (by decide)) (by rfl) RlN.pXN (pa_cons (pv 1) pa_nil)))
      (pss_cons (ps_fld (pv 0) (pe_callTy call_tuple_of (by rfl) T.m_tuple (by decide +kernel) (pa_cons (pe_callB (call_sortedD rfl) (by rfl) T.m_sorted (by decide +kernel) (pa_cons (pv 1) pa_nil)) pa_nil)) rfl)
      (pss_cons (ps_fld (pv 0) (pe_dc (own := [("name", 3)]) (tt := tYes) rfl sc_Wiring___init__.nd (pi_tup (pe_fldK (K := K) (pv 0))) (blkOk_by (own := [("name", 3)]) (N := N_Wiring___init__) (sc := defScope s_Wiring___init__) (by decide +kernel)) (fun _ _ _ _ _ => (pg_name (i := 3) sc_Wiring___init__.nd rfl (.inl rfl))) (fun _ _ _ _ _ => pts_nil) (fun _ _ _ _ _ => (pv 3)) (fun _ _ _ _ _ => (pe_dget (hu_of hr) (pv 1) (pv 3) (fun _ _ => rfl)))) rfl)
      (pss_cons (ps_fld (pv 0) (RlN.pcallN T.checked_signs (ok_checked_signs T) (hr.mono (by decide)) (by rfl) RlN.pXN (pa_cons (pv 1) (pa_cons (pv 2) pa_nil))) rfl)
      (pss_one (ps_fld (pv 0) (pe_callTy call_tuple_of (by rfl) T.m_tuple (by decide +kernel) (pa_cons (pe_callB (cr_sortS hr.units) (by rfl) T.m_sorted (by decide +kernel) (pa_cons (pv 2) pa_nil)) pa_nil)) rfl)))))), ?_⟩
    dsimp only [cx_K]
    have hd0 := topsD_del hd hp
    have hx0 := arrsD_del hx hp
    obtain ⟨ks, ek, pk⟩ := hd.ks
    have nap : a ≠ p := ne_of hd.at_ hp (fun z => by cases z)
    have e0 : dueA ns H xs [] = dueA ns (del H p) xs [] := dueA_same del_sub xs [] fun x hx' => (hx0.any x hx').any
    have e1 : xs.filterMap (arrowOf ns H) = xs.filterMap (arrowOf ns (del H p)) := fm_same del_sub xs fun x hx' => (hx0.any x hx').any
    refine ⟨_, rfl, a, kvs, ns, rfl, hd, ?_⟩
    unfold dueW at k
    cases et : dueT ns kvs with
    | count n => rw [et] at k; exact fun d H' s' e => k d H' (But.of_same s') e
    | name n => rw [et] at k; exact fun d H' s' e => k d H' (But.of_same s') e
    | top n => rw [et] at k; exact fun d H' s' e => k d H' (But.of_same s') e
    | arrow n => rw [et] at k; exact fun d H' s' e => k d H' (But.of_same s') e
    | ok =>
    rw [et] at k
    dsimp only at k
    intro H1 s1
    obtain ⟨d1, d6, dn, dt, dc⟩ := dueT_ok et
    have ns6 : ns.length < 64 := by omega
    -- the parts
    refine ⟨_, rfl, a, kvs, ks, rfl, .inl (s1 _ _ hd.at_), ek, (by rw [← pk.length_eq]; exact ns6), fun ys q hy hs nq => ?_⟩
    obtain rfl : ys = ns := sorted_one hs hd.srt (hy.trans pk.symm)
    have s2 := same_new (o := .lst (ys.map V.str)) nq
    have a2 := upd_same (H := H1) (a := q) (o := .lst (ys.map V.str))
    generalize upd H1 q (.lst (ys.map V.str)) = H2 at s2 a2 ⊢
    refine ⟨q, _, rfl, .inl ⟨sq a2, fun pp npp => ?_⟩⟩
    have s3 := same_new (o := .tup (ys.map V.str)) npp
    have a3 := upd_same (H := H2) (a := pp) (o := .tup (ys.map V.str))
    generalize upd H2 pp (.tup (ys.map V.str)) = H3 at s3 a3 ⊢
    have s03 := s1.trans (s2.trans s3)
    refine ⟨_, rfl, p, T.k_Wiring.C, dx, [], rfl, s03 _ _ hp, T.k_Wiring.cl, T.no_parts, (by decide), ?_⟩
    have npp' : pp ≠ p := (ne_of_none (s2 _ _ (s1 _ _ hp)) npp).symm
    have b4 : Same (del H p) (upd H3 p (.ins T.k_Wiring.C dx (putF "_parts" (.ref pp) []))) := but_same (But.trans (But.of_same s03) But.upd)
    have h4 := upd_same (H := H3) (a := p) (o := .ins T.k_Wiring.C dx (putF "_parts" (.ref pp) []))
    have p4 : upd H3 p (.ins T.k_Wiring.C dx (putF "_parts" (.ref pp) [])) pp = some (.tup (ys.map V.str)) := by rw [upd_ne npp']; exact a3
    generalize upd H3 p (.ins T.k_Wiring.C dx (putF "_parts" (.ref pp) [])) = H4 at b4 h4 p4 ⊢
    -- the tops
    refine ⟨_, rfl, p, T.k_Wiring.C, dx, _, .ref pp, rfl, h4, T.k_Wiring.cl, T.no_parts, (by rw [lookup_putF, if_pos rfl]), pp, rfl, ⟨_, .inl (.inl p4)⟩, fun pt npt => dc_tup (xs := ys.map V.str)
      (fun i H' => H' pt = some (.dK (topF (ys.take i) fun z => vi (tv kvs z))) ∧ Same H4 H') ⟨upd_same, same_new npt⟩ (fun i H' _ q => .inl (.inl (q.2 _ _ p4))) (fun i x H' hi q => ?_) (fun H5 q5 => ?_)⟩
    · obtain ⟨q1, q2⟩ := q
      obtain ⟨z, hz, rfl⟩ : ∃ z, ys[i]? = some z ∧ x = .str z := by
        rw [List.getElem?_map] at hi
        cases e : ys[i]? with
        | none =>
          rw [e] at hi
          cases hi
        | some z =>
          rw [e] at hi
          exact ⟨z, rfl, (Option.some.inj hi).symm⟩
      have mz : z ∈ ys := List.mem_of_getElem? hz
      have gz : DGet H' a (.str z) (some (tv kvs z)) := by
        have q := DGet.k (k := Sum.inr z) (q2 _ _ (b4 _ _ hd0.at_))
        rw [hd.get mz] at q
        exact q
      refine ⟨rfl, _, rfl, _, rfl, _, rfl, a, _, rfl, gz, _, .inr z, rfl, q1, ?_, ?_, ?_⟩
      · unfold topF
        rw [List.length_map, List.length_take]
        exact szl (by omega)
      · have nz := topF_val (ys.take i) (fun z => vi (tv kvs z)) z
        rw [if_neg (not_before hd.nd hz)] at nz
        rw [upd_same, putK_new _ nz, topF_snoc hz, ← (whole_vi (dt z mz)).1]
      · exact Same.mut q2 npt
    · obtain ⟨t5, s5⟩ := q5
      rw [List.length_map, List.take_length, topF_K] at t5
      have L1 : (putF "_parts" (V.ref pp) []).length ≤ 1 := putF_len _ _ _
      have L2' : (putF "_tops" (V.ref pt) (putF "_parts" (V.ref pp) [])).length ≤ 2 := Nat.le_trans (putF_len _ _ _) (by omega)
      refine ⟨_, rfl, p, T.k_Wiring.C, dx, _, rfl, s5 _ _ h4, T.k_Wiring.cl, T.no_tops, (by omega), ?_⟩
      have nptp : pt ≠ p := (ne_of_none h4 npt).symm
      have b6 : Same (del H p) (upd H5 p (.ins T.k_Wiring.C dx (putF "_tops" (.ref pt) (putF "_parts" (.ref pp) [])))) := fun c o e => by
        have n : c ≠ p := fun z => by
          subst z
          rw [del_same] at e
          cases e
        rw [upd_ne n]
        exact s5 _ _ (b4 _ _ e)
      have h6 := upd_same (H := H5) (a := p) (o := .ins T.k_Wiring.C dx (putF "_tops" (.ref pt) (putF "_parts" (.ref pp) [])))
      have p6 : upd H5 p (.ins T.k_Wiring.C dx (putF "_tops" (.ref pt) (putF "_parts" (.ref pp) []))) pp = some (.tup (ys.map V.str)) := by rw [upd_ne npp']; exact s5 _ _ p4
      have t6 : upd H5 p (.ins T.k_Wiring.C dx (putF "_tops" (.ref pt) (putF "_parts" (.ref pp) []))) pt = some (.dK (topK ys (ys.map fun z => vi (tv kvs z)))) := by rw [upd_ne nptp]; exact t5
      generalize upd H5 p (.ins T.k_Wiring.C dx (putF "_tops" (.ref pt) (putF "_parts" (.ref pp) []))) = H6 at b6 h6 p6 t6 ⊢
      -- the signs
      have ax0 : ∀ x ∈ xs, AnyV (del H p) x := fun x hx' => (hx0.any x hx').any
      refine ⟨_, rfl, _, rfl, a, kvs, ys, b, xs, rfl, hd0.same b6, ArrsD.same hx0 b6, ?_⟩
      rw [dueA_same b6 xs [] ax0, fm_same b6 xs ax0, ← e0, ← e1]
      refine ends_of k (fun c o e n => b6 c o (by rw [del_ne n]; exact e)) fun eo k => ?_
      intro ps H7 s7 nps hps
      have ps_p : ps ≠ p := (ne_of_none h6 nps).symm
      refine ⟨_, rfl, p, T.k_Wiring.C, dx, _, rfl, s7 _ _ h6, T.k_Wiring.cl, T.no_signs, (by omega), ?_⟩
      have L3 : (putF "_signs" (V.ref ps) (putF "_tops" (V.ref pt) (putF "_parts" (V.ref pp) []))).length ≤ 3 := Nat.le_trans (putF_len _ _ _) (by omega)
      have b8 : Same (del H p) (upd H7 p (.ins T.k_Wiring.C dx (putF "_signs" (.ref ps) (putF "_tops" (.ref pt) (putF "_parts" (.ref pp) []))))) := fun c o e => by
        have n : c ≠ p := fun z => by
          subst z
          rw [del_same] at e
          cases e
        rw [upd_ne n]
        exact s7 _ _ (b6 _ _ e)
      have h8 := upd_same (H := H7) (a := p) (o := .ins T.k_Wiring.C dx (putF "_signs" (.ref ps) (putF "_tops" (.ref pt) (putF "_parts" (.ref pp) []))))
      have p8 : upd H7 p (.ins T.k_Wiring.C dx (putF "_signs" (.ref ps) (putF "_tops" (.ref pt) (putF "_parts" (.ref pp) [])))) pp = some (.tup (ys.map V.str)) := by rw [upd_ne npp']; exact s7 _ _ p6
      have t8 : upd H7 p (.ins T.k_Wiring.C dx (putF "_signs" (.ref ps) (putF "_tops" (.ref pt) (putF "_parts" (.ref pp) [])))) pt = some (.dK (topK ys (ys.map fun z => vi (tv kvs z)))) := by rw [upd_ne nptp]; exact s7 _ _ t6
      have g8 : upd H7 p (.ins T.k_Wiring.C dx (putF "_signs" (.ref ps) (putF "_tops" (.ref pt) (putF "_parts" (.ref pp) [])))) ps = some (.dT (sgn (xs.filterMap (arrowOf ys H)))) := by rw [upd_ne ps_p]; exact hps
      generalize upd H7 p (.ins T.k_Wiring.C dx (putF "_signs" (.ref ps) (putF "_tops" (.ref pt) (putF "_parts" (.ref pp) [])))) = H8 at b8 h8 p8 t8 g8 ⊢
      -- the arrows
      obtain ⟨o1, o2⟩ := dueA_ok xs [] List.nodup_nil eo
      have ap : ArrP (del H p) xs (xs.filterMap (arrowOf ys H)) := by
        rw [e1]
        rw [e0] at eo
        exact paired_mono (fun _ _ z => (arrowOf_three z).1) (dueA_ok xs [] List.nodup_nil eo).1
      refine ⟨_, rfl, sortS_of (hx0.sq.same b8) (ap.same b8) fun q8 n8 => ⟨q8, _, rfl, .inl ⟨sq upd_same, fun pa npa => ?_⟩⟩⟩
      have s9 := same_new (o := .lst (sortD xs ((xs.filterMap (arrowOf ys H)).map dA))) n8
      generalize upd H8 q8 (.lst (sortD xs ((xs.filterMap (arrowOf ys H)).map dA))) = H9 at s9 npa ⊢
      have s10 := same_new (o := .tup (sortD xs ((xs.filterMap (arrowOf ys H)).map dA))) npa
      have a10 := upd_same (H := H9) (a := pa) (o := .tup (sortD xs ((xs.filterMap (arrowOf ys H)).map dA)))
      generalize upd H9 pa (.tup (sortD xs ((xs.filterMap (arrowOf ys H)).map dA))) = H10 at s10 a10 ⊢
      have s810 := s9.trans s10
      have pa_p : pa ≠ p := (ne_of_none (s9 _ _ h8) npa).symm
      refine ⟨_, rfl, p, T.k_Wiring.C, dx, _, rfl, s810 _ _ h8, T.k_Wiring.cl, T.no_arrows, (by omega), ?_⟩
      have b11 : Same (del H p) (upd H10 p (.ins T.k_Wiring.C dx (wf pp pt ps pa))) := fun c o e => by
        have n : c ≠ p := fun z => by
          subst z
          rw [del_same] at e
          cases e
        rw [upd_ne n]
        exact s810 _ _ (b8 _ _ e)
      refine k (upd H10 p (.ins T.k_Wiring.C dx (wf pp pt ps pa))) (fun c o e n => b11 c o (by rw [del_ne n]; exact e)) ⟨⟨dx, pp, pt, ps, pa, upd_same, ?_, ?_, ?_, sortD xs ((xs.filterMap (arrowOf ys H)).map dA), ?_, ?_⟩, ?_, dn, hd.nd, hd.srt, d1, d6, ?_, dc, ?_, ?_⟩
      · rw [upd_ne npp']; exact s810 _ _ p8
      · rw [upd_ne nptp]; exact s810 _ _ t8
      · rw [upd_ne ps_p]; exact s810 _ _ g8
      · rw [upd_ne pa_p]; exact a10
      · exact (arrP_sort ap).same b11
      · rw [List.length_map]
      · intro t ht
        obtain ⟨z, hz, rfl⟩ := List.mem_map.mp ht
        exact (whole_vi (dt z hz)).2
      · intro t ht
        obtain ⟨x, _, e⟩ := List.mem_filterMap.mp ht
        exact (arrowOf_three e).2
      · exact o2
--E--
end
end K11

set_option Elab.async false
set_option linter.all false
set_option maxRecDepth 100000
set_option maxHeartbeats 4000000
namespace K11.Hd
open PySem PySem.Spec PyProof.Rows L2 Rl Dr _root_.Tx Ex Er So Wi Vw
section
variable {P : Program} {w : World} {K : PySem.W.Frag} {mg : Str → Option Value} {base : Heap}
--B--
theorem ok_l_draw (T : Tx K mg) : FnOk P w K mg base CX0 1 T.l_draw.f T.l_draw.fd ["_law_state", "_law_size"] spDraw := by
  refine T.l_draw.F.ok sc_l_draw (fun vs H Q E h => ?_) (fun cdv A outer s0 H vs Q E hr h => ?_)
  · obtain ⟨s, N, z, rfl, _⟩ := h
    rfl
  · obtain ⟨s, N, z, rfl, ⟨A0, B, bigs0, cells, n, S0, hn⟩, hN, z0, z1, k⟩ := h
    refine ⟨_, (pss_cons (ps_augS (pv 0) pe_int pg_list pe_int ip_add set_list)
      (pss_cons (ps_while PassesOwn.never (PW.pt (pw_and (pt_cmpR (op_neD hr.units) (pe_ix (r := rIxL K) ix_list (pv 0) pe_int (fun _ _ => rfl)) (pe_lst pa_nil) (nomark _)) (pw_and1 (pt_cmpR op_eq (pe_ix (r := rIxL K) ix_list (pe_ix (r := rIxL K) ix_list (pv 0) pe_int (fun _ _ => rfl)) pe_int (fun _ _ => rfl)) pe_int (nomark _))))) (pss_one (ps_asg (pe_slice sl_list (pe_ix (r := rIxL K) ix_list (pv 0) pe_int (fun _ _ => rfl)) (po_some pe_int) po_none) (pg_sub (pv 0) pe_int set_list))))
      (pss_cons (ps_if (pt_cmpR (op_neD hr.units) (pe_ix (r := rIxL K) ix_list (pv 0) pe_int (fun _ _ => rfl)) (pe_lst pa_nil) (nomark _)) (pss_cons (ps_set (i := 2) sc_l_draw.nd rfl (.inl rfl) (pe_op op_modN (pe_callTy call_int1 (by rfl) T.m_int (by decide +kernel) (pa_cons (pe_ix (r := rIxL K) ix_list (pe_ix (r := rIxL K) ix_list (pv 0) pe_int (fun _ _ => rfl)) pe_int (fun _ _ => rfl)) pa_nil)) (pv 1)))
      (pss_cons (ps_asg (pe_op op_fdivN (pe_ix (r := rIxL K) ix_list (pe_ix (r := rIxL K) ix_list (pv 0) pe_int (fun _ _ => rfl)) pe_int (fun _ _ => rfl)) (pv 1)) (pg_sub (pe_ix (r := rIxL K) ix_list (pv 0) pe_int (fun _ _ => rfl)) pe_int set_list))
      (pss_one (ps_ret (pv 2))))) pss_nil)
      (pss_cons (ps_set (i := 3) sc_l_draw.nd rfl (.inl rfl) (pe_op op_modN (pe_callTy call_int1 (by rfl) T.m_int (by decide +kernel) (pa_cons (pe_ix (r := rIxL K) ix_list (pe_ix (r := rIxL K) ix_list (pv 0) pe_int (fun _ _ => rfl)) (pe_op op_modN (pe_callTy call_int1 (by rfl) T.m_int (by decide +kernel) (pa_cons (pe_ix (r := rIxL K) ix_list (pv 0) pe_int (fun _ _ => rfl)) pa_nil)) (pe_callB call_len_seq (by rfl) T.m_len (by decide +kernel) (pa_cons (pe_ix (r := rIxL K) ix_list (pv 0) pe_int (fun _ _ => rfl)) pa_nil))) (fun _ _ => rfl)) pa_nil)) pe_int))
      (pss_cons (ps_set (i := 4) sc_l_draw.nd rfl (.inl rfl) (pe_op op_modN (pe_callTy call_int1 (by rfl) T.m_int (by decide +kernel) (pa_cons (pe_op op_pow (pe_op op_add (pe_op op_add (pe_op op_mul (pv 3) pe_int) (pe_op op_mul (pe_ix (r := rIxL K) ix_list (pv 0) pe_int (fun _ _ => rfl)) pe_int)) pe_int) pe_int) pa_nil)) pe_int))
      (pss_one (ps_ret (pe_op op_modN (pe_op op_modN (pe_callTy call_int1 (by rfl) T.m_int (by decide +kernel) (pa_cons (pe_op op_pow (pe_op op_add (pe_op op_add (pe_op op_mul (pv 4) pe_int) (pe_op op_mul (pe_ix (r := rIxL K) ix_list (pv 0) pe_int (fun _ _ => rfl)) pe_int)) pe_int) pe_int) pa_nil)) pe_int) (pv 1))))))))), ?_⟩
    -- state[2] += 1
    refine ⟨_, rfl, s, _, 2, _, rfl, rfl, by decide, sq S0.st, rfl, _, _, rfl, rfl, s, _, 2, 2, rfl, rfl, S0.st, rfl, ?_⟩
    obtain ⟨S1, K1⟩ := S0.tick (m := ((n + 1 : Nat) : Int))
    -- the while
    dsimp only [cx_K]
    refine cutS (fun σ' H' => σ' = [some (.ref s), some (.int z), none, none, none] ∧ ∃ A bigs, StAt H' s A B bigs cells ((n + 1 : Nat) : Int) ∧ Kp s H H') (fun nx hnx => ?_) (fun σ' H1 hR => ?_)
    · refine ⟨fun m σ H' => σ = [some (.ref s), some (.int z), none, none, none] ∧ ∃ A bigs, StAt H' s A B bigs cells ((n + 1 : Nat) : Int) ∧ Kp s H H' ∧ m = bigs.length,
        ⟨_, rfl, A0, bigs0, S1, K1, rfl⟩, fun m σ H' hW => ?_⟩
      obtain ⟨rfl, A, bigs, S, KK, rfl⟩ := hW
      refine ⟨_, rfl, s, _, 0, _, rfl, rfl, sq S.st, at0, Nat.zero_le _, fun p np => ?_⟩
      have S2 := S.new (o := .lst []) np
      have K2 : Kp s H (upd H' p (.lst [])) := KK.trans (Kp.new S.st np)
      refine ⟨.list (bigs.map PyData.int), .list [], .lst (sq S2.ha) (dp_ints _), .lst (sq upd_same) .nil, shaped_ints _, shaped_ints [], _, rfl, ?_⟩
      rw [eqv_nil_ints]
      cases bigs with
      | nil => exact iteF (hnx _ _ ⟨rfl, _, _, S2, K2⟩)
      | cons b r =>
        refine iteT ⟨_, rfl, s, _, 0, _, rfl, rfl, sq S2.st, at0, A, _, 0, _, rfl, rfl, sq S2.ha, at0, rfl, _, rfl, ?_⟩
        rw [dec_int]
        by_cases e : b = 0
        · subst e
          refine iteT ⟨fun σ' H' => σ' = [some (.ref s), some (.int z), none, none, none] ∧ ∃ A, StAt H' s A B r cells ((n + 1 : Nat) : Int) ∧ Kp s H H', fun σ' H' hN => ?_, ?_⟩
          · obtain ⟨rfl, A', S', K'⟩ := hN
            exact ⟨_, Nat.lt_succ_self _, rfl, A', r, S', K', rfl⟩
          · -- state[0] = state[0][1:]
            refine ⟨_, rfl, s, _, 0, _, rfl, rfl, sq S2.st, at0, 1, rfl, A, _, rfl, sq S2.ha, fun q nq => ?_⟩
            have lr : r.length ≤ 100 := Nat.le_trans (Nat.le_succ _) S2.la
            have S3 := S2.new (o := .lst (cutV ((0 :: r).map V.int) (some 1) none)) nq
            obtain ⟨S4, K4⟩ := S2.next (m := ((n + 1 : Nat) : Int)) nq lr
            refine ⟨_, rfl, s, _, 0, 0, rfl, rfl, S3.st, rfl, ?_⟩
            rw [cut1]
            exact ⟨rfl, q, S4, K2.trans K4⟩
        · rw [show (b == 0) = false from beq_eq_false_iff_ne.mpr e]
          exact iteF (hnx _ _ ⟨rfl, _, _, S2, K2⟩)
    · obtain ⟨rfl, A, bigs, S, KK⟩ := hR
      refine ⟨_, rfl, s, _, 0, _, rfl, rfl, sq S.st, at0, Nat.zero_le _, fun p np => ?_⟩
      have S2 := S.new (o := .lst []) np
      have K2 : Kp s H (upd H1 p (.lst [])) := KK.trans (Kp.new S.st np)
      refine ⟨.list (bigs.map PyData.int), .list [], .lst (sq S2.ha) (dp_ints _), .lst (sq upd_same) .nil, shaped_ints _, shaped_ints [], _, rfl, ?_⟩
      rw [eqv_nil_ints]
      cases bigs with
      | cons b r =>
        refine iteT ⟨_, rfl, s, _, 0, _, rfl, rfl, sq S2.st, at0, A, _, 0, _, rfl, rfl, sq S2.ha, at0, .inl ⟨_, rfl, _, rfl, _, _, rfl, rfl, (by omega), ?_⟩⟩
        refine ⟨_, rfl, s, _, 0, _, rfl, rfl, sq S2.st, at0, A, _, 0, _, rfl, rfl, sq S2.ha, at0, _, rfl, _, _, rfl, rfl, ⟨by omega, by omega⟩, ?_⟩
        refine ⟨_, rfl, s, _, 0, _, rfl, rfl, sq S2.st, at0, A, _, 0, 0, rfl, rfl, S2.ha, ixN_0 (Nat.succ_pos _), ?_⟩
        obtain ⟨S4, K4⟩ := S2.putA (new := b.fdiv z :: r) S2.la
        refine ⟨_, rfl, k _ _ (Int.fmod_nonneg_of_pos _ z0) (Int.fmod_lt_of_pos _ z0) ⟨_, _, _, _, _, S4, by omega⟩ (K2.trans K4)⟩
      | nil =>
        refine iteF ?_
        have hL : (0 : Int) < ((cells.map V.int).length : Int) := by
          rw [List.length_map]
          exact Int.natCast_pos.mpr S2.nb
        have i0 := Int.fmod_nonneg_of_pos ((n + 1 : Nat) : Int) hL
        have i1 := Int.fmod_lt_of_pos ((n + 1 : Nat) : Int) hL
        obtain ⟨c, hc⟩ := at_ints (ns := cells) i0 (by rw [← List.length_map (f := V.int) (as := cells)]; exact i1)
        refine ⟨_, rfl, s, _, 1, _, rfl, rfl, sq S2.st, at1, _, rfl, s, _, 2, _, rfl, rfl, sq S2.st, at2, .inl ⟨_, rfl, _, rfl, s, _, 1, _, rfl, rfl, sq S2.st, at1, B, _, rfl, .inl (sq S2.hb), _, _, rfl, rfl, (by omega), ?_⟩⟩
        have m1 : (2147483647 : Int) ≠ 0 := by decide
        have m2 : (2147483629 : Int) ≠ 0 := by decide
        refine ⟨B, _, _, _, rfl, rfl, sq S2.hb, hc, .inl ⟨_, rfl, _, _, rfl, rfl, m1, ?_⟩⟩
        have c0 := Int.fmod_nonneg_of_pos c (show (0 : Int) < 2147483647 by decide)
        have c1 := Int.fmod_lt_of_pos c (show (0 : Int) < 2147483647 by decide)
        refine ⟨_, rfl, _, _, rfl, rfl, .inl ⟨by omega, by omega⟩, _, rfl, s, _, 2, _, rfl, rfl, sq S2.st, at2, _, _, rfl, rfl, .inl ⟨by omega, by omega⟩, _, _, rfl, rfl, _, _, rfl, rfl, _, _, rfl, rfl, ⟨by decide, by decide, by omega⟩, .inl ⟨_, rfl, _, _, rfl, rfl, m1, ?_⟩⟩
        have o0 := Int.fmod_nonneg_of_pos ((c.fmod 2147483647 * 48271 + ((n + 1 : Nat) : Int) * 69621 + 7) ^ (5 : Int).toNat) (show (0 : Int) < 2147483647 by decide)
        have o1 := Int.fmod_lt_of_pos ((c.fmod 2147483647 * 48271 + ((n + 1 : Nat) : Int) * 69621 + 7) ^ (5 : Int).toNat) (show (0 : Int) < 2147483647 by decide)
        refine ⟨_, rfl, _, _, rfl, rfl, .inl ⟨by omega, by omega⟩, _, rfl, s, _, 2, _, rfl, rfl, sq S2.st, at2, _, _, rfl, rfl, .inl ⟨by omega, by omega⟩, _, _, rfl, rfl, _, _, rfl, rfl, _, _, rfl, rfl, ⟨by decide, by decide, by omega⟩, .inl ⟨_, rfl, _, _, rfl, rfl, m2, ?_⟩⟩
        refine ⟨_, rfl, _, _, rfl, rfl, (show z ≠ 0 by omega), ?_⟩
        exact k _ _ (Int.fmod_nonneg_of_pos _ z0) (Int.fmod_lt_of_pos _ z0) ⟨_, _, _, _, _, S2, by omega⟩ K2
/-! ### the signs -/
theorem ok_l_start (T : Tx K mg) : FnOk P w K mg base CX0 1 T.l_start.f T.l_start.fd ["_law_script"] (spStart K) := by
  refine T.l_start.F.ok sc_l_start (fun vs H Q E h => ?_) (fun cdv A outer s0 H vs Q E hr h => ?_)
  · obtain ⟨a, ns, rfl, _⟩ := h
    rfl
  · obtain ⟨a, ns, rfl, hS, hl, k⟩ := h
    refine ⟨_, (pss_one (ps_ret (pe_lst (pa_cons (pe_lc (own := [("_law_cell", 1)]) (g := gName 1) rfl sc_l_start.nd (pi_list (pv 0)) (blkOk_by (own := [("_law_cell", 1)]) (N := N_l_start) (sc := defScope s_l_start) (by decide +kernel)) (fun _ _ _ _ _ => (pg_name (i := 1) sc_l_start.nd rfl (.inl rfl))) (fun _ _ _ _ _ => (pts_one (pt_cmpR op_ge (pe_callB call_abs (by rfl) T.m_abs (by decide +kernel) (pa_cons (pv 1) pa_nil)) (pe_op op_pow pe_int pe_int) (nomark _)))) (fun _ _ _ _ _ => (pe_callB call_abs (by rfl) T.m_abs (by decide +kernel) (pa_cons (pv 1) pa_nil)))) (pa_cons (pe_op op_cat (pe_callTy call_list_of (by rfl) T.m_list (by decide +kernel) (pa_cons (pv 0) pa_nil)) (pe_lst (pa_cons pe_int pa_nil))) (pa_cons pe_int pa_nil)))))), ?_⟩
    refine ⟨_, rfl, a, rfl, ⟨_, hS⟩, fun D nD => lc_list (xs := ns.map V.int) (fun i H' => ∃ l : List Int, H' D = some (.lst (l.map V.int)) ∧ l.length ≤ i ∧ Same H H') ⟨[], upd_same, Nat.le_refl _, same_new nD⟩ (fun i H' _ ⟨l, _, _, h3⟩ => h3.seq hS) (fun i x H' hx hp => ?_) (fun H' hp => ?_)⟩
    · obtain ⟨l, p1, p2, p3⟩ := hp
      obtain ⟨c, _, rfl⟩ := List.mem_map.mp (List.mem_of_getElem? hx)
      have hi : i < 63 := by
        have := (List.getElem?_eq_some_iff.mp hx).1
        rw [List.length_map] at this
        omega
      refine ⟨rfl, _, rfl, c, rfl, _, _, rfl, rfl, ⟨by decide, by decide, by decide⟩, _, _, rfl, rfl, _, rfl, ?_⟩
      refine ite2 (fun _ => ?_) (fun _ => ?_)
      · refine ⟨_, rfl, c, rfl, _, p1, ?_, l ++ [if c < 0 then -c else c], ?_, ?_, Same.mut p3 nD⟩
        · rw [List.length_map]
          exact szl (by omega)
        · rw [upd_same, List.map_append]
          rfl
        · rw [List.length_append]
          show l.length + 1 ≤ i + 1
          omega
      · exact ⟨l, p1, by omega, p3⟩
    · obtain ⟨l, p1, p2, p3⟩ := hp
      rw [List.length_map] at p2
      refine ⟨_, rfl, a, _, rfl, .inl (p3.seq hS), fun L nL => ⟨sz (by decide), fun q nq => ?_⟩⟩
      have nLq : L ≠ q := ne_of_none upd_same nq
      have nDL : D ≠ L := ne_of_none p1 nL
      have nDq : D ≠ q := ne_of_none (by rw [upd_ne nDL]; exact p1) nq
      refine ⟨L, q, _, _, rfl, rfl, by rw [upd_ne nLq]; exact upd_same, upd_same, sz (by rw [List.length_map]; show ns.length + 1 ≤ 100000; omega), fun p np => ⟨sz (by show 3 ≤ 100000; omega), fun s ns' => ?_⟩⟩
      have hD3 : (upd (upd H' L (.lst (ns.map V.int))) q (.lst [.int 5])) D = some (.lst (l.map V.int)) := by rw [upd_ne nDq, upd_ne nDL]; exact p1
      have nDp : D ≠ p := ne_of_none hD3 np
      have hD4 : (upd (upd (upd H' L (.lst (ns.map V.int))) q (.lst [.int 5])) p (.lst (ns.map V.int ++ [.int 5]))) D = some (.lst (l.map V.int)) := by rw [upd_ne nDp]; exact hD3
      have nDs : D ≠ s := ne_of_none hD4 ns'
      have nps : p ≠ s := ne_of_none upd_same ns'
      have s4 : Same H (upd (upd (upd H' L (.lst (ns.map V.int))) q (.lst [.int 5])) p (.lst (ns.map V.int ++ [.int 5]))) := ((p3.trans (same_new nL)).trans (same_new nq)).trans (same_new np)
      have hs0 : H s = none := s4.free ns'
      have hD0 : H D = none := nD
      have hp0 : H p = none := (((p3.trans (same_new nL)).trans (same_new nq))).free np
      have S : StAt (upd (upd (upd (upd H' L (.lst (ns.map V.int))) q (.lst [.int 5])) p (.lst (ns.map V.int ++ [.int 5]))) s (.lst [.ref D, .ref p, .int 0])) s D p l (ns ++ [5]) ((0 : Nat) : Int) := by
        refine ⟨upd_same, by rw [upd_ne nDs]; exact hD4, ?_, nDp, by omega, ?_, ?_⟩
        · rw [upd_ne nps, upd_same, List.map_append]
          rfl
        · rw [List.length_append]
          show ns.length + 1 ≤ 100
          omega
        · rw [List.length_append]
          exact Nat.succ_pos _
      refine k s _ (s4.trans (same_new ns')) hs0 ⟨D, p, l, _, 0, S, Nat.le_refl _⟩ fun b o hb => ?_
      rw [S.volA]
      rintro (e | e | e)
      · exact ne_of_none hb hs0 e
      · exact ne_of_none hb hD0 e
      · exact ne_of_none hb hp0 e
--E--
end
end K11.Hd

set_option Elab.async false
set_option linter.all false
set_option maxRecDepth 100000
set_option maxHeartbeats 2000000
namespace K11.Hd
open PySem PySem.Spec PyProof.Rows L2 Rl Dr _root_.Tx Ex Er So Wi Vw
section
variable {P : Program} {w : World} {K : PySem.W.Frag} {mg : Str → Option Value} {base : Heap}
--B--
/-! ### items in a drawn order -/
theorem seqT_v {s : Addr} {H : Hp} {a : Addr} {xs : List V} (h : SqS K (Vw s H) a xs) : SqS K H a xs := h.same vw_sub
def spOrder (K : PySem.W.Frag) : Sp := fun vs H Q _ => ∃ s a N xs, vs = [.ref s, .ref a] ∧ Ds H s N ∧ SqS K (Vw s H) a xs ∧ xs.length ≤ 1000 ∧ N + xs.length < 1000000 ∧
  ∀ q H' ys, Ds H' s (N + xs.length) → Same (Vw s H) (Vw s H') → Vw s H q = none → Vw s H' q = some (.lst ys) → ys.Perm xs → Q (.ref q) H'
theorem ok_l_order (T : Tx K mg) : FnOk P w K mg base CX0 2 T.l_order.f T.l_order.fd ["_law_state", "_law_items"] (spOrder K) := by
  refine T.l_order.F.ok sc_l_order (fun vs H Q E h => ?_) (fun cdv A outer s0 H vs Q E hr h => ?_)
  · obtain ⟨s, a, N, xs, rfl, _⟩ := h
    rfl
  · obtain ⟨s, a, N, xs, rfl, D, hx, hl, hN, k⟩ := h
    refine ⟨_, (pss_cons (ps_set (i := 2) sc_l_order.nd rfl (.inl rfl) (pe_callTy call_list_of (by rfl) T.m_list (by decide +kernel) (pa_cons (pv 1) pa_nil)))
      (pss_cons (ps_set (i := 3) sc_l_order.nd rfl (.inl rfl) (pe_lst pa_nil))
      (pss_cons (ps_for PassesOwn.never rfl (pi_range1 rfl T.m_range (pa_cons (pe_callB call_len_seq (by rfl) T.m_len (by decide +kernel) (pa_cons (pv 2) pa_nil)) pa_nil)) (pg_name (i := 4) sc_l_order.nd rfl (.inl rfl)) (pss_one (ps_expr (pe_bm PySem.F.plainAttrs_list PySem.F.slot_list_append PySem.F.type_list_append mt_append (pv 3) (pa_cons (pe_bm PySem.F.plainAttrs_list PySem.F.slot_list_pop PySem.F.type_list_pop mt_popAt (pv 2) (pa_cons (pcall T.l_draw (ok_l_draw T) (hr.mono (by decide)) (by rfl) pass0 (pa_cons (pv 0) (pa_cons (pe_callB call_len_seq (by rfl) T.m_len (by decide +kernel) (pa_cons (pv 2) pa_nil)) pa_nil))) pa_nil)) pa_nil)))))
      (pss_one (ps_ret (pv 3)))))), ?_⟩
    dsimp only [cx_K]
    refine ⟨_, rfl, a, xs, rfl, hx.same vw_sub, fun L nL => ?_⟩
    have e1 := vw_new (o := .lst xs) D nL
    have D1 := D.new (o := .lst xs) nL
    have aL := upd_same (H := H) (a := L) (o := .lst xs)
    have s1 : Same (Vw s H) (Vw s (upd H L (.lst xs))) := by rw [e1]; exact same_new (vw_none nL)
    have vL : Vw s (upd H L (.lst xs)) L = some (.lst xs) := by rw [e1]; exact upd_same
    have fr1 := same_new (o := .lst xs) nL
    generalize upd H L (.lst xs) = H1 at e1 D1 aL s1 vL fr1 ⊢
    refine ⟨sz (by decide), fun B nB => ?_⟩
    have e2 := vw_new (o := .lst []) D1 nB
    have D2 := D1.new (o := .lst []) nB
    have nBL : L ≠ B := ne_of_none aL nB
    have nB0 : H B = none := fr1.free nB
    have s2 : Same (Vw s H) (Vw s (upd H1 B (.lst []))) := by rw [e2]; exact s1.trans (same_new (vw_none nB))
    have vB : Vw s (upd H1 B (.lst [])) B = some (.lst []) := by rw [e2]; exact upd_same
    have vL2 : Vw s (upd H1 B (.lst [])) L = some (.lst xs) := by rw [e2, upd_ne nBL]; exact vL
    generalize upd H1 B (.lst []) = H2 at e2 D2 s2 vB vL2 ⊢
    refine ⟨_, rfl, L, _, rfl, .inl (sq (vw_at vL2).1), _, rfl, by omega, by omega, ?_⟩
    rw [Int.toNat_natCast]
    refine for_range (lo := 0) (n := xs.length) (fun i σ H' => ∃ told left v, σ = [some (.ref s), some (.ref a), some (.ref L), some (.ref B), v] ∧ Ds H' s (N + i) ∧ Same (Vw s H) (Vw s H') ∧ Vw s H' L = some (.lst left) ∧ Vw s H' B = some (.lst told) ∧
      told.length = i ∧ (told ++ left).Perm xs) ⟨[], xs, none, rfl, D2, s2, vL2, vB, rfl, .refl _⟩ ?_ ?_
    · rintro i σ H' hi ⟨told, left, v, rfl, D3, s3, vl, vt, ht, hp⟩
      have hlen : told.length + left.length = xs.length := by
        have := hp.length_eq
        rwa [List.length_append] at this
      refine ⟨_, rfl, .inl ⟨rfl, _, sq (vw_at vt).1⟩, _, rfl, .inl ⟨rfl, _, sq (vw_at vl).1⟩, _, rfl, _, rfl, L, _, rfl, .inl (sq (vw_at vl).1), s, N + i, _, rfl, D3, by omega, by omega, by omega, fun d H4 d0 d1 D4 K4 => ?_⟩
      have s4 := vw_kp K4
      have hd : d.toNat < left.length := by omega
      have vl4 := s4 _ _ vl
      have vt4 := s4 _ _ vt
      have ey : left[d.toNat]? = some left[d.toNat] := List.getElem?_eq_getElem hd
      obtain ⟨m1, D5⟩ := vw_mut (o := .lst (left.eraseIdx d.toNat)) D4 vl4
      have nLB : L ≠ B := nBL
      have vt5 : Vw s (upd H4 L (.lst (left.eraseIdx d.toNat))) B = some (.lst told) := by rw [m1, upd_ne nLB.symm]; exact vt4
      have vl5 : Vw s (upd H4 L (.lst (left.eraseIdx d.toNat))) L = some (.lst (left.eraseIdx d.toNat)) := by rw [m1, upd_same]
      have s5 : Same (Vw s H) (Vw s (upd H4 L (.lst (left.eraseIdx d.toNat)))) := by rw [m1]; exact Same.mut (s3.trans s4) (vw_none nL)
      refine ⟨L, left, d, d.toNat, left[d.toNat], rfl, rfl, (vw_at vl4).1, by omega, by omega, seqIx d0 d1, ey, ?_⟩
      obtain ⟨m2, D6⟩ := vw_mut (o := .lst (told ++ [left[d.toNat]])) D5 vt5
      refine ⟨B, told, _, rfl, rfl, (vw_at vt5).1, szl (by omega), told ++ [left[d.toNat]], left.eraseIdx d.toNat, _, rfl, D6, ?_, ?_, ?_, ?_, perm_pop hp ey⟩
      · rw [m2]; exact Same.mut s5 (vw_none nB0)
      · rw [m2, upd_ne nLB]; exact vl5
      · rw [m2, upd_same]
      · rw [List.length_append, ht]; rfl
    · rintro σ H' ⟨told, left, v, rfl, D3, s3, vl, vt, ht, hp⟩
      have hlen : told.length + left.length = xs.length := by
        have := hp.length_eq
        rwa [List.length_append] at this
      have e : left = [] := List.eq_nil_of_length_eq_zero (by omega)
      rw [e, List.append_nil] at hp
      exact ⟨_, rfl, k B H' told D3 s3 (vw_none nB0) vt hp⟩
--E--
end
end K11.Hd

set_option Elab.async false
set_option linter.all false
set_option maxRecDepth 100000
set_option maxHeartbeats 2000000
namespace K11
open PySem PySem.Spec PyProof.Rows L2 Rl Dr _root_.Tx Ex Er So Wi Vw Dl
section
variable {P : Program} {w : World} {K : PySem.W.Frag} {mg : Str → Option Value} {base : Heap}
--B--
/-! ### the classes of this text -/
abbrev cnF : Nat → List Str := fun c => match c with
  | 0 => ["_parts", "_tops", "_signs", "_arrows"]
  | _ => []
abbrev cnE : Nat → Option Str := fun c => match c with
  | 0 => some "name"
  | 1 => some "name"
  | 2 => some "count"
  | 3 => some "value"
  | 4 => some "value"
  | 5 => some "text"
  | _ => none
abbrev cnT (T : Tx K mg) : Cn := ⟨fun c => match c with | 0 => some T.k_Wiring.C | _ => none, cnF, fun c => match c with
  | 0 => some T.e_BadName.C
  | 1 => some T.e_UnknownName.C
  | 2 => some T.e_BadCount.C
  | 3 => some T.e_BadTop.C
  | 4 => some T.e_BadArrow.C
  | 5 => some T.e_BadText.C
  | _ => none, cnE, none⟩
/-! ### names, signs -/
theorem inL_lt {c : Nat} (h : inL c = true) : c < 128 := by
  have : ∀ c ∈ LD.cps.toList, c < 128 := by decide +kernel
  exact this c (of_decide_eq_true h)
theorem inD_lt {c : Nat} (h : inD c = true) : c < 128 := by
  have : ∀ c ∈ DG.cps.toList, c < 128 := by decide +kernel
  exact this c (of_decide_eq_true h)
theorem vn_ok {z : Str} (h : vn z = true) : OkS z := by
  unfold vn at h
  rw [Bool.and_eq_true] at h
  intro c hc
  have q := List.all_eq_true.mp h.2 c hc
  rcases Bool.or_eq_true_iff.mp q with q | q
  · exact inL_lt q
  · exact inD_lt q
theorem sg_ok {z : Str} (h : z ∈ Wi.SG) : OkS z := by
  simp only [Wi.SG, List.mem_cons, List.not_mem_nil, or_false] at h
  rcases h with rfl | rfl | rfl <;> (intro c hc; revert c hc; decide +kernel)
/-! ### a wiring as data -/
def arrD (t : Arr) : D := .tup [.str t.1, .str t.2.1, .str t.2.2]
def topD (ns : List Str) (ts : List Int) : List (Key × D) := (ns.zip ts).map fun p => ((Sum.inr p.1 : Key), D.int p.2)
def sgnD (l : List Arr) : List (List Key × D) := l.map fun t => (kOf t.1 t.2.1, .str t.2.2)
def wirD (ns : List Str) (ts : List Int) (l : List Arr) : D := .obj 0 [.tup (ns.map D.str), .dk (topD ns ts), .dt (sgnD l), .tup ((sortA l).map arrD)]
def keyI (ks : List Str) (h : Str → Int) : List (Key × D) := ks.map fun z => ((Sum.inr z : Key), D.int (h z))
def anyD : D → Bool
  | .non => true
  | .bl _ => true
  | .int _ => true
  | .str _ => true
  | .lst _ => true
  | .tup _ => true
  | _ => false
def anyTD : D → Bool
  | .tup l => decide (l.length ≤ 100) && l.all anyD
  | x => anyD x
def arrOf (ns : List Str) : D → Option Arr
  | .tup [.str a, .str b, .str c] => if a ∈ ns ∧ b ∈ ns ∧ c ∈ Wi.SG then some (a, b, c) else none
  | _ => none
/-- the first that may not stand -/
def badA (ns : List Str) : List D → List (Str × Str) → Option D
  | [], _ => none
  | x :: r, seen => match arrOf ns x with
    | none => some x
    | some t => if (t.1, t.2.1) ∈ seen then some x else badA ns r (seen ++ [(t.1, t.2.1)])
structure TopsOk (ns : List Str) (h : Str → Int) : Prop where
  nd : ns.Nodup
  srt : sortedS ns = true
  ok : ∀ z ∈ ns, vn z = true
  one : ∀ z ∈ ns, 1 ≤ h z ∧ h z ≤ 3
  few : ns.length ≤ 6
  cnt : cnt (ns.map h) ≤ 256
def wholeD : D → Bool
  | .int n => decide (1 ≤ n) && decide (n ≤ 3)
  | _ => false
def iD : D → Int
  | .int n => n
  | _ => 0
def keyD (ks : List Str) (h : Str → D) : List (Key × D) := ks.map fun z => ((Sum.inr z : Key), h z)
def goodT (ns : List Str) (h : Str → D) : Bool := decide (1 ≤ ns.length) && decide (ns.length ≤ 6) && ns.all vn && (ns.all fun z => wholeD (h z)) && decide (cnt (ns.map fun z => iD (h z)) ≤ 256)
def f_Wiring : DFp := fun ds R Ex => match ds with
  | [.dk kvs, a] => ∃ (ks ns : List Str) (h : Str → D) (xs : List D), kvs = keyD ks h ∧ ns.Perm ks ∧ ns.Nodup ∧ sortedS ns = true ∧ (∀ z ∈ ns, z.length ≤ 50000) ∧ (∀ z ∈ ns, anyD (h z) = true) ∧ (a = .lst xs ∨ a = .tup xs) ∧ xs.length ≤ 50000 ∧ (∀ x ∈ xs, anyTD x = true) ∧
    if goodT ns h = true then (match badA ns xs [] with
      | some x => Ex 4 x
      | none => R (wirD ns (ns.map fun z => iD (h z)) (xs.filterMap (arrOf ns)))) else ∀ c x, (c = 0 ∨ c = 2 ∨ c = 3) → Ex c x
  | _ => False
theorem keyD_v {cn : Cn} {G : Hp} {h : Str → D} : ∀ {ks : List Str} {xs : List (Key × V)}, RpK K cn G xs (keyD ks h) → xs.map (·.1) = ks.map Sum.inr ∧ (∀ z ∈ ks, OkS z) ∧ (ks.Nodup → ∀ z ∈ ks, Rp K cn G (tv xs z) (h z))
  | [], _, r => by
    cases r
    exact ⟨rfl, (fun z hz => by cases hz), fun _ z hz => by cases hz⟩
  | z :: ks, _, r => by
    unfold keyD at r
    rw [List.map_cons] at r
    cases r with | cons o r t => ?_
    obtain ⟨a, b, c⟩ := keyD_v (ks := ks) t
    refine ⟨by rw [List.map_cons, List.map_cons, a], fun y hy => ?_, fun nd y hy => ?_⟩
    · rcases List.mem_cons.mp hy with rfl | hy
      · exact o
      · exact b y hy
    · obtain ⟨n1, n2⟩ := List.nodup_cons.mp nd
      by_cases e : z = y
      · subst e
        unfold tv
        rw [valV_pos rfl]
        exact r
      · rcases List.mem_cons.mp hy with rfl | hy
        · exact absurd rfl e
        · have q := c n2 y hy
          unfold tv at q ⊢
          rw [valV_neg fun w => e (Sum.inr.inj w)]
          exact q
theorem keyI_v {cn : Cn} {G : Hp} {h : Str → Int} : ∀ {ks : List Str} {xs : List (Key × V)}, RpK K cn G xs (keyI ks h) → xs = ks.map fun z => ((Sum.inr z : Key), V.int (h z))
  | [], _, r => by cases r; rfl
  | z :: ks, _, r => by
    unfold keyI at r
    rw [List.map_cons] at r
    cases r with | cons o r t => ?_
    rw [keyI_v (ks := ks) t]
    cases r
    rfl
theorem any_v {cn : Cn} {G : Hp} {v : V} {d : D} (r : Rp K cn G v d) (h : anyD d = true) : AnyV G v := by
  cases r with
  | non => exact .non
  | bl b => exact .bl b
  | int i => exact .int i
  | str x _ => exact .str x
  | tup e _ => exact .tup e
  | lst e _ => exact .lst e
  | _ => cases h
theorem rpA_mem {cn : Cn} {G : Hp} : ∀ {vs : List V} {ds : List D} {v : V}, RpA K cn G vs ds → v ∈ vs → ∃ d, d ∈ ds ∧ Rp K cn G v d
  | _, _, _, .nil, h => by cases h
  | _, _, v, .cons r t, h => by
    rcases List.mem_cons.mp h with rfl | h
    · exact ⟨_, List.mem_cons_self, r⟩
    · obtain ⟨d, a, b⟩ := rpA_mem t h
      exact ⟨d, List.mem_cons_of_mem _ a, b⟩
theorem anyT_v {cn : Cn} {G : Hp} {v : V} {d : D} (r : Rp K cn G v d) (h : anyTD d = true) : AnyT G v := by
  cases r with
  | non => exact ⟨.non, fun _ _ z => nomatch z⟩
  | bl b => exact ⟨.bl b, fun _ _ z => nomatch z⟩
  | int i => exact ⟨.int i, fun _ _ z => nomatch z⟩
  | str x _ => exact ⟨.str x, fun _ _ z => nomatch z⟩
  | tup e t =>
    refine ⟨.tup e, fun a xs z e2 => ?_⟩
    cases z
    rw [e] at e2
    cases e2
    have q : (decide _ && _) = true := h
    rw [Bool.and_eq_true, decide_eq_true_eq] at q
    refine ⟨by rw [t.length]; exact q.1, fun x hx => ?_⟩
    obtain ⟨d, hd, rd⟩ := rpA_mem t hx
    exact any_v rd (List.all_eq_true.mp q.2 d hd)
  | lst e t => 
    refine ⟨.lst e, fun a xs z e2 => ?_⟩
    cases z
    rw [e] at e2
    cases e2
  | _ => cases h
def three3 : List V → Option Arr
  | [.str x, .str y, .str z] => some (x, y, z)
  | _ => none
theorem three_at {G : Hp} {a : Addr} {xs : List V} (e : G a = some (.tup xs)) : three G (.ref a) = three3 xs := by
  unfold three
  simp only [e]
  unfold three3
  split
  · rename_i z
    cases z
    rfl
  · rename_i n
    split
    · exact absurd rfl (n _ _ _)
    · rfl
theorem arrOf_v {cn : Cn} {G : Hp} {v : V} {d : D} (ns : List Str) (r : Rp K cn G v d) (h : anyTD d = true) : arrowOf ns G v = arrOf ns d := by
  unfold arrowOf
  have no : three G v = none → arrOf ns d = none → Option.filter (fun t => decide (t.1 ∈ ns) && decide (t.2.1 ∈ ns) && decide (t.2.2 ∈ Wi.SG)) (three G v) = arrOf ns d := fun a b => by rw [a, b]; rfl
  cases r with
  | non => exact no rfl rfl
  | bl b => exact no rfl rfl
  | int i => exact no rfl rfl
  | str x _ => exact no rfl rfl
  | lst e t => exact no (by unfold three; simp only [e]) rfl
  | tup e t =>
    rename_i a xs ds
    have e3 := three_at e
    by_cases c : ∃ x y z, ds = [D.str x, D.str y, D.str z]
    · obtain ⟨x, y, z, rfl⟩ := c
      cases t with | cons r1 t => ?_
      cases t with | cons r2 t => ?_
      cases t with | cons r3 t => ?_
      cases t
      obtain ⟨rfl, _⟩ := rp_str (M := ⟨K, cn, none, fun _ _ _ _ => False⟩) r1
      obtain ⟨rfl, _⟩ := rp_str (M := ⟨K, cn, none, fun _ _ _ _ => False⟩) r2
      obtain ⟨rfl, _⟩ := rp_str (M := ⟨K, cn, none, fun _ _ _ _ => False⟩) r3
      rw [e3]
      show Option.filter _ (some (x, y, z)) = if x ∈ ns ∧ y ∈ ns ∧ z ∈ Wi.SG then some (x, y, z) else none
      unfold Option.filter
      by_cases q : x ∈ ns ∧ y ∈ ns ∧ z ∈ Wi.SG
      · rw [if_pos q]
        simp [q.1, q.2.1, q.2.2]
      · rw [if_neg q]
        refine if_neg fun w => q ?_
        simp only [Bool.and_eq_true, decide_eq_true_eq] at w
        exact ⟨w.1.1, w.1.2, w.2⟩
    · refine no ?_ ?_
      · rw [e3]
        unfold three3
        split
        · rename_i x y z
          cases t with | cons r1 t => ?_
          cases t with | cons r2 t => ?_
          cases t with | cons r3 t => ?_
          cases t
          cases r1
          cases r2
          cases r3
          exact absurd ⟨_, _, _, rfl⟩ c
        · rfl
      · unfold arrOf
        split
        · rename_i e4
          cases e4
          exact absurd ⟨_, _, _, rfl⟩ c
        · rfl
  | _ => cases h
theorem badA_v {cn : Cn} {G : Hp} (ns : List Str) : ∀ {vs : List V} {ds : List D} (seen : List (Str × Str)), RpA K cn G vs ds → (∀ d ∈ ds, anyTD d = true) → match badA ns ds seen with
    | none => dueA ns G vs seen = .ok
    | some d => ∃ v, dueA ns G vs seen = .arrow v ∧ Rp K cn G v d
  | _, _, seen, .nil, _ => rfl
  | _, _, seen, .cons (v := v) (d := d) r t, h => by
    have e := arrOf_v ns r (h d (by simp))
    unfold badA dueA
    rw [e]
    cases c : arrOf ns d with
    | none => exact ⟨v, rfl, r⟩
    | some u =>
      dsimp only
      by_cases q : (u.1, u.2.1) ∈ seen
      · rw [if_pos q, if_pos q]
        exact ⟨v, rfl, r⟩
      · rw [if_neg q, if_neg q]
        exact badA_v ns _ t fun d hd => h d (List.mem_cons_of_mem _ hd)
theorem fm_v {cn : Cn} {G : Hp} (ns : List Str) : ∀ {vs : List V} {ds : List D}, RpA K cn G vs ds → (∀ d ∈ ds, anyTD d = true) → vs.filterMap (arrowOf ns G) = ds.filterMap (arrOf ns)
  | _, _, .nil, _ => rfl
  | _, _, .cons (d := d) r t, h => by
    rw [List.filterMap_cons, List.filterMap_cons, arrOf_v ns r (h d (by simp)), fm_v ns t fun d hd => h d (List.mem_cons_of_mem _ hd)]
/-! ### what a wiring in the heap stands for -/
theorem rpA_str {cn : Cn} {G : Hp} : ∀ {zs : List Str}, (∀ z ∈ zs, OkS z) → RpA K cn G (zs.map V.str) (zs.map D.str)
  | [], _ => .nil
  | z :: r, h => .cons (.str z (h z (by simp))) (rpA_str fun y hy => h y (List.mem_cons_of_mem _ hy))
theorem rpK_top {cn : Cn} {G : Hp} : ∀ {ns : List Str} {ts : List Int}, (∀ z ∈ ns, OkS z) → RpK K cn G (topK ns ts) (topD ns ts)
  | [], _, _ => .nil
  | _ :: _, [], _ => .nil
  | z :: ns, t :: ts, h => .cons (h z (by simp)) (.int t) (rpK_top (ns := ns) fun y hy => h y (List.mem_cons_of_mem _ hy))
theorem rpT_sgn {cn : Cn} {G : Hp} : ∀ {l : List Arr}, (∀ t ∈ l, OkS t.2.2) → RpT K cn G (sgn l) (sgnD l)
  | [], _ => .nil
  | t :: l, h => .cons (.str _ (h t (by simp))) (rpT_sgn (l := l) fun y hy => h y (List.mem_cons_of_mem _ hy))
theorem rp_wir (T : Tx K mg) {m : Option Addr} {N : Nat} {H : Hp} {p : Addr} {ns : List Str} {ts : List Int} {l : List Arr} (w : Wok m N H) (W : WA T.k_Wiring.C H p ns ts l) : Rp K (cnT T) (Gv m H) (.ref p) (wirD ns ts l) := by
  obtain ⟨dx, pp, pt, ps, pa, h1, h2, h3, h4, vs, h5, h6⟩ := W.ob
  have nlo : ∀ {a : Addr} {o : HO}, H a = some o → (∀ xs, o ≠ .lst xs) → Gv m H a = some o := fun h n => gv_nl w h n
  have okn : ∀ z ∈ ns, OkS z := fun z hz => vn_ok (W.ok z hz)
  have oka : ∀ t ∈ l, OkS t.1 ∧ OkS t.2.1 ∧ OkS t.2.2 := fun t ht => by
    obtain ⟨a, b, c⟩ := W.arr t ht
    exact ⟨okn _ a, okn _ b, sg_ok c⟩
  have arr : ∀ {vs : List V} {l : List Arr}, ArrP H vs l → (∀ t ∈ l, OkS t.1 ∧ OkS t.2.1 ∧ OkS t.2.2) → RpA K (cnT T) (Gv m H) vs (l.map arrD) := by
    intro vs l h
    induction h with
    | nil => exact fun _ => .nil
    | cons h t ih =>
      intro o
      obtain ⟨b, rfl, hb⟩ := three_ref h
      obtain ⟨a1, a2, a3⟩ := o _ List.mem_cons_self
      exact .cons (.tup (nlo hb fun _ z => by cases z) (.cons (.str _ a1) (.cons (.str _ a2) (.cons (.str _ a3) .nil)))) (ih fun t ht => o t (List.mem_cons_of_mem _ ht))
  refine .obj rfl (nlo h1 fun _ z => by cases z) (fun m hm => ?_) (.cons (wf_p _ _ _ _) (.tup (nlo h2 fun _ z => by cases z) (rpA_str okn)) (.cons (wf_t _ _ _ _) (.dk (.inl (nlo h3 fun _ z => by cases z)) (rpK_top okn)) (.cons (wf_s _ _ _ _) (.dt (.inl (nlo h4 fun _ z => by cases z)) (rpT_sgn fun t ht => (oka t ht).2.2)) (.cons (wf_a _ _ _ _) (.tup (nlo h5 fun _ z => by cases z) (arr h6 fun t ht => oka t ((List.mergeSort_perm _ _).mem_iff.mp ht))) .nil))))
  have q : m ≠ "_parts" ∧ m ≠ "_tops" ∧ m ≠ "_signs" ∧ m ≠ "_arrows" := by
    have z : m ∉ (["_parts", "_tops", "_signs", "_arrows"] : List Str) := hm
    simpa using z
  exact wf_no _ _ _ _ q.2.2.2 q.2.2.1 q.2.1 q.1
/-! ### Wiring(..) -/
theorem whole_v {cn : Cn} {G : Hp} {v : V} {d : D} (r : Rp K cn G v d) (h : anyD d = true) : whole v 1 3 = wholeD d ∧ vi v = iD d := by
  cases r with
  | non => exact ⟨rfl, rfl⟩
  | bl b => exact ⟨rfl, rfl⟩
  | int i => exact ⟨rfl, rfl⟩
  | str x _ => exact ⟨rfl, rfl⟩
  | tup e _ => exact ⟨rfl, rfl⟩
  | lst e _ => exact ⟨rfl, rfl⟩
  | _ => cases h
theorem dueT_good {ns : List Str} {kvs : List (Key × V)} {h : Str → D} (hv : ∀ z ∈ ns, whole (tv kvs z) 1 3 = wholeD (h z) ∧ vi (tv kvs z) = iD (h z)) : (ns.map fun z => vi (tv kvs z)) = (ns.map fun z => iD (h z)) ∧ if goodT ns h = true then dueT ns kvs = .ok else (∃ n : Int, dueT ns kvs = .count n) ∨ (∃ z ∈ ns, dueT ns kvs = .name z) ∨ ∃ z ∈ ns, dueT ns kvs = .top (tv kvs z) := by
  have e : (ns.map fun z => vi (tv kvs z)) = (ns.map fun z => iD (h z)) := List.map_congr_left fun z hz => (hv z hz).2
  refine ⟨e, ?_⟩
  unfold dueT goodT
  by_cases c : 1 ≤ ns.length ∧ ns.length ≤ 6
  · rw [if_pos c, decide_eq_true c.1, decide_eq_true c.2]
    cases e1 : ns.find? fun z => !vn z with
    | some z =>
      have hz := List.mem_of_find?_eq_some e1
      have nz := List.find?_some e1
      have : ns.all vn = false := by
        rw [Bool.eq_false_iff]
        intro q
        have := List.all_eq_true.mp q z hz
        rw [this] at nz
        cases nz
      rw [this]
      exact .inr (.inl ⟨z, hz, rfl⟩)
    | none =>
      have h1 : ns.all vn = true := List.all_eq_true.mpr fun z hz => by
        have := List.find?_eq_none.mp e1 z hz
        simpa using this
      rw [h1]
      dsimp only
      cases e2 : ns.find? fun z => !whole (tv kvs z) 1 3 with
      | some z =>
        have hz := List.mem_of_find?_eq_some e2
        have nz := List.find?_some e2
        have : (ns.all fun z => wholeD (h z)) = false := by
          rw [Bool.eq_false_iff]
          intro q
          have := List.all_eq_true.mp q z hz
          rw [(hv z hz).1, this] at nz
          cases nz
        rw [this]
        exact .inr (.inr ⟨z, hz, rfl⟩)
      | none =>
        have h2 : (ns.all fun z => wholeD (h z)) = true := List.all_eq_true.mpr fun z hz => by
          have := List.find?_eq_none.mp e2 z hz
          rw [(hv z hz).1] at this
          simpa using this
        rw [h2]
        dsimp only
        rw [e]
        by_cases c2 : cnt (ns.map fun z => iD (h z)) ≤ 256
        · rw [decide_eq_true c2]
          simp only [Bool.and_self, if_true]
          exact if_neg (by omega)
        · rw [decide_eq_false c2]
          simp only [Bool.and_false, Bool.false_eq_true, if_false]
          exact .inl ⟨_, if_pos (by omega)⟩
  · rw [if_neg c]
    have : (decide (1 ≤ ns.length) && decide (ns.length ≤ 6)) = false := by
      rw [Bool.eq_false_iff]
      intro q
      rw [Bool.and_eq_true, decide_eq_true_eq, decide_eq_true_eq] at q
      exact c q
    rw [this]
    exact .inl ⟨_, rfl⟩
theorem rp_dk0 {cn : Cn} {G : Hp} {v : V} {l : List (Key × D)} (hl : cn.lk = none) (r : Rp K cn G v (.dk l)) : ∃ a xs, v = .ref a ∧ G a = some (.dK xs) ∧ RpK K cn G xs l := by
  cases r with | dk e t => ?_
  rcases e with e | ⟨z, _⟩
  · exact ⟨_, _, rfl, e, t⟩
  · rw [hl] at z
    cases z
theorem rp_seq0 {cn : Cn} {G H : Hp} {v : V} {a : D} {xs : List D} (s : Same G H) (sa : a = .lst xs ∨ a = .tup xs) (r : Rp K cn G v a) : ∃ b vs, v = .ref b ∧ SqS K H b vs ∧ RpA K cn G vs xs := by
  rcases sa with rfl | rfl
  · obtain ⟨b, vs, rfl, e, t⟩ := rp_lst (M := ⟨K, cn, none, fun _ _ _ _ => False⟩) r
    exact ⟨b, vs, rfl, .inl (sq (s _ _ e)), t⟩
  · obtain ⟨b, vs, rfl, e, t⟩ := rp_tup (M := ⟨K, cn, none, fun _ _ _ _ => False⟩) r
    exact ⟨b, vs, rfl, .inr (st (s _ _ e)), t⟩
theorem make_at (T : Tx K mg) {m : Option Addr} {N : Nat} {H : Hp} {vs : List V} {ds : List D} {Q : VK} {E : XK} {R : D → Prop} {Ex : Nat → D → Prop} (w : Wok m N H) (r : RpA K (cnT T) (Gv m H) vs ds) (q : f_Wiring ds R Ex)
    (k : ∀ v H' x, Wok m N H' → Same (Gv m H) (Gv m H') → Rp K (cnT T) (Gv m H') v x → R x → Q v H')
    (kx : ∀ c C x dx H', (cnT T).xm c = some C → Wok m N H' → Same (Gv m H) (Gv m H') → XdR ⟨K, cnT T, m, fun _ _ _ _ => False⟩ (Gv m H') c dx x → Ex c x → E (.ref C) dx H')
    (p dx : Addr) (np : H p = none) (ndx : H dx = none) (ne : dx ≠ p) : spMakeW K T (.ref p :: (vs ++ [])) (upd (upd H dx (.own p)) p (.ins T.k_Wiring.C dx [])) (fun v H2 => v = .non ∧ Q (.ref p) H2) E := by
  unfold f_Wiring at q
  split at q
  · rename_i kvs a
    obtain ⟨ks, ns, h, xs, rfl, pk, nd, srt, sml, anyT, sa, few, any, q⟩ := q
    cases r with | cons r0 r => ?_
    cases r with | cons r1 r => ?_
    cases r
    have s0 : Same H (upd (upd H dx (.own p)) p (.ins T.k_Wiring.C dx [])) := (same_new ndx).trans (same_new (by rw [upd_ne (Ne.symm ne)]; exact np))
    have hp : (upd (upd H dx (.own p)) p (.ins T.k_Wiring.C dx [])) p = some (.ins T.k_Wiring.C dx []) := upd_same
    generalize upd (upd H dx (.own p)) p (.ins T.k_Wiring.C dx []) = H0 at s0 hp ⊢
    have gs : Same (Gv m H) H0 := fun b o e => s0 _ _ (gv_sub _ _ e)
    obtain ⟨ta, kv, rfl, tat, rk⟩ := rp_dk0 (cn := cnT T) rfl r0
    obtain ⟨kk, oks, rtv⟩ := keyD_v rk
    have tvr : ∀ z ∈ ns, Rp K (cnT T) (Gv m H) (tv kv z) (h z) := fun z hz => rtv (pk.nodup_iff.mp nd) z (pk.mem_iff.mp hz)
    obtain ⟨b, vs, rfl, sq1, rx⟩ := rp_seq0 gs sa r1
    have rx0 := RpA.mono gs rx
    have hd : TopsD H0 ta kv ns := ⟨gs _ _ tat, ⟨ks, kk, pk⟩, nd, srt, sml, fun z hz => any_v ((tvr z hz).mono gs) (anyT z hz)⟩
    have hx : ArrsD K H0 b vs := ⟨sq1, by rw [rx.length]; exact few, fun v hv => by
      obtain ⟨d, hd, rd⟩ := rpA_mem rx0 hv
      exact anyT_v rd (any d hd)⟩
    have bs : ∀ {H'}, But p H0 H' → Same H H' := fun b c o e => b c o (s0 _ _ e) fun z => by rw [z, np] at e; cases e
    refine ⟨p, dx, ta, _, ns, b, vs, rfl, hp, hd, hx, ?_⟩
    obtain ⟨e2, dg⟩ := dueT_good (kvs := kv) (h := h) fun z hz => whole_v (tvr z hz) (anyT z hz)
    by_cases g : goodT ns h = true
    · rw [if_pos g] at q dg
      unfold dueW
      rw [dg]
      dsimp only
      have bv := badA_v ns [] rx0 any
      cases c : badA ns xs [] with
      | some x =>
        rw [c] at q bv
        obtain ⟨v, ev, rv⟩ := bv
        rw [ev]
        obtain ⟨d1, m1, r1'⟩ : ∃ d, d = x ∧ Rp K (cnT T) (Gv m H) v d := by
          have bv2 := badA_v ns [] rx any
          rw [c] at bv2
          obtain ⟨v2, ev2, rv2⟩ := bv2
          have := dueA_same (ns := ns) gs vs [] fun y hy => by
            obtain ⟨d, hd, rd⟩ := rpA_mem rx hy
            exact (anyT_v rd (any d hd)).any
          rw [ev, ev2] at this
          cases this
          exact ⟨x, rfl, rv2⟩
        subst m1
        show FliesB p E T.e_BadArrow.C "value" v H0
        intro d H' bt e
        obtain ⟨w', s'⟩ := gv_keep w (bs bt)
        exact kx 4 _ _ (some d) H' rfl w' s' ⟨d, v, rfl, gv_nl w' e fun _ z => (by cases z), r1'.mono s'⟩ q
      | none =>
        rw [c] at q bv
        rw [bv]
        intro H' bt W
        rw [e2, fm_v ns rx0 any] at W
        obtain ⟨w', s'⟩ := gv_keep w (bs bt)
        exact ⟨rfl, k _ H' _ w' s' (rp_wir T w' W) q⟩
    · rw [if_neg g] at q dg
      unfold dueW
      rcases dg with ⟨n, dg⟩ | ⟨z, hz, dg⟩ | ⟨z, hz, dg⟩
      · rw [dg]
        show FliesB p E T.e_BadCount.C "count" (.int n) H0
        intro d H' bt e
        obtain ⟨w', s'⟩ := gv_keep w (bs bt)
        exact kx 2 _ _ (some d) H' rfl w' s' ⟨d, .int n, rfl, gv_nl w' e fun _ z => (by cases z), .int n⟩ (q 2 _ (.inr (.inl rfl)))
      · rw [dg]
        show FliesB p E T.e_BadName.C "name" (.str z) H0
        intro d H' bt e
        obtain ⟨w', s'⟩ := gv_keep w (bs bt)
        exact kx 0 _ _ (some d) H' rfl w' s' ⟨d, .str z, rfl, gv_nl w' e fun _ z => (by cases z), .str z (oks z (pk.mem_iff.mp hz))⟩ (q 0 _ (.inl rfl))
      · rw [dg]
        show FliesB p E T.e_BadTop.C "value" (tv kv z) H0
        intro d H' bt e
        obtain ⟨w', s'⟩ := gv_keep w (bs bt)
        exact kx 3 _ _ (some d) H' rfl w' s' ⟨d, tv kv z, rfl, gv_nl w' e fun _ z => (by cases z), (tvr z hz).mono s'⟩ (q 3 _ (.inr (.inr rfl)))
  · exact q.elim
--E--
end
end K11

set_option Elab.async false
set_option linter.all false
set_option maxRecDepth 100000
set_option maxHeartbeats 2000000
namespace K11
open PySem PySem.Spec PyProof.Rows L2 Rl Dr _root_.Tx Ex Er So Wi Vw Dl
section
variable {P : Program} {w : World} {K : PySem.W.Frag} {mg : Str → Option Value} {base : Heap}
--B--
/-! ### which clause takes an error -/
theorem exm_err {n1 n2 : Str} {R : Addr} (E : ErrB K mg n1 R) (F : ErrB K mg n2 R) (hR : F.C ≠ R) : PySem.W.exmOne K (.ref E.C) (.ref F.C) = some (decide (F.C = E.C)) := by
  have q := E.kit F.isC F.tyC
  rw [decide_eq_false hR, Bool.or_false] at q
  unfold PySem.W.kitOne at q
  unfold PySem.W.exmOne
  rw [F.exC]
  rw [if_pos (by rfl)]
  by_cases e : E.C = F.C
  · rw [← e, decide_eq_true rfl]
    show (if ((PySem.W.clsIn K E.C).isSome && PySem.W.typeIn K (.ref E.C) == some (.type "type")) = true then PySem.W.subIn K (.ref E.C) (.ref E.C) else none) = _
    rw [E.isC, E.tyC, if_pos (by rfl), E.mro]
    simp
  · rw [if_neg (by simpa using e)] at q
    exact q
theorem xm_list (T : Tx K mg) (c : Nat) : (T.root.C :: [T.e_BadName.C, T.e_UnknownName.C, T.e_BadCount.C, T.e_BadTop.C, T.e_BadArrow.C, T.e_BadText.C])[c + 1]? = (cnT T).xm c := match c with
  | 0 => rfl
  | 1 => rfl
  | 2 => rfl
  | 3 => rfl
  | 4 => rfl
  | 5 => rfl
  | _ + 6 => rfl
theorem er_at (T : Tx K mg) {c : Nat} {C : Addr} (hc : (cnT T).xm c = some C) : ∃ (n : Str) (E : ErrB K mg n T.root.C), E.C = C := match c, hc with
  | 0, h => ⟨_, T.e_BadName.toErrB, Option.some.inj h⟩
  | 1, h => ⟨_, T.e_UnknownName.toErrB, Option.some.inj h⟩
  | 2, h => ⟨_, T.e_BadCount.toErrB, Option.some.inj h⟩
  | 3, h => ⟨_, T.e_BadTop.toErrB, Option.some.inj h⟩
  | 4, h => ⟨_, T.e_BadArrow.toErrB, Option.some.inj h⟩
  | 5, h => ⟨_, T.e_BadText.toErrB, Option.some.inj h⟩
  | _ + 6, h => by cases h
theorem xm_inj (T : Tx K mg) {c k : Nat} {C : Addr} (hc : (cnT T).xm c = some C) (hk : (cnT T).xm k = some C) : c = k := by
  have a := xm_list T c
  have b := xm_list T k
  rw [hc] at a
  rw [hk] at b
  have := (List.getElem?_inj (List.getElem?_eq_some_iff.mp a).1 T.nd).mp (a.trans b.symm)
  omega
theorem exm_at (T : Tx K mg) {c k : Nat} {C B : Addr} (hc : (cnT T).xm c = some C) (hk : (cnT T).xm k = some B) : PySem.W.exmOne K (.ref C) (.ref B) = some (c == k) := by
  obtain ⟨n, E, eE⟩ := er_at T hc
  obtain ⟨n2, F, eF⟩ := er_at T hk
  have nr : F.C ≠ T.root.C := fun z => by
    have a := xm_list T k
    rw [hk, ← eF, z] at a
    have := (List.getElem?_inj (i := 0) (j := k + 1) (by simp) T.nd).mp a.symm
    omega
  have q := exm_err E F nr
  rw [eE, eF] at q
  rw [q]
  congr 1
  by_cases e : c = k
  · subst e
    rw [hc] at hk
    cases hk
    simp
  · have n : B ≠ C := fun z => e (xm_inj T hc (z ▸ hk))
    rw [decide_eq_false n]
    simp [e]
theorem hnd_at (T : Tx K mg) {c k : Nat} {C B : Addr} {d : Option Addr} {dx : Addr} {f : Str} (hc : (cnT T).xm c = some C) (hk : (cnT T).xm k = some B) (hh : (c == k) = true) (hd : ∀ f, (cnT T).ef c = some f → d = some dx) (hf : (cnT T).ef k = some f) : B = C ∧ d = some dx := by
  obtain rfl : c = k := by simpa using hh
  rw [hc] at hk
  cases hk
  exact ⟨rfl, hd f hf⟩
/-! ### draws -/
def f_l_draw : DF := fun s ds N R _ => match ds with
  | [.sta s', .int z] => s' = s ∧ N < 1000000 ∧ 0 < z ∧ z < 100000000 ∧ ∀ d : Int, 0 ≤ d → d < z → R (.int d) (N + 1)
  | _ => False
theorem ok_l_draw (T : Tx K mg) : FnOk P w K mg base CX0 1 T.l_draw.f T.l_draw.fd ["_law_state", "_law_size"] (spD K (cnT T) f_l_draw) := (Hd.ok_l_draw T).imp fun vs H Q E h => by
  obtain ⟨s, ds, N, R, Ex, D0, r, q, k, _⟩ := h
  unfold f_l_draw at q
  split at q
  · obtain ⟨rfl, h1, h2, h3, q⟩ := q
    cases r with | cons r0 r => ?_
    cases r with | cons r1 r => ?_
    cases r
    cases r0
    cases r1
    exact draw_v D0 h1 h2 h3 fun d H' a b D1 s1 => k _ H' _ _ D1 s1 (.int d) (q d a b)
  · exact q.elim
def f_l_order : DF := fun s ds N R _ => match ds with
  | [.sta s', .lst l] => s' = s ∧ l.length ≤ 1000 ∧ N + l.length < 1000000 ∧ ∀ l' : List D, l'.Perm l → R (.lst l') (N + l.length)
  | _ => False
theorem rpA_perm {cn : Cn} {G : Hp} {xs ys : List V} (p : ys.Perm xs) : ∀ {l : List D}, RpA K cn G xs l → ∃ l', RpA K cn G ys l' ∧ l'.Perm l := by
  have go : ∀ {xs : List V} {l : List D}, RpA K cn G xs l → Paired (fun v d => Rp K cn G v d) xs l := by
    intro xs l h
    induction xs generalizing l with
    | nil => cases h; exact .nil
    | cons v vs ih => cases h with | cons a b => exact .cons a (ih b)
  have back : ∀ {xs : List V} {l : List D}, Paired (fun v d => Rp K cn G v d) xs l → RpA K cn G xs l := by
    intro xs l h
    induction h with
    | nil => exact .nil
    | cons a b ih => exact .cons a ih
  intro l h
  obtain ⟨l', a, b⟩ := paired_perm p (go h)
  exact ⟨l', back a, b⟩
theorem ok_l_order (T : Tx K mg) : FnOk P w K mg base CX0 2 T.l_order.f T.l_order.fd ["_law_state", "_law_items"] (spD K (cnT T) f_l_order) := (Hd.ok_l_order T).imp fun vs H Q E h => by
  obtain ⟨s, ds, N, R, Ex, D0, r, q, k, _⟩ := h
  unfold f_l_order at q
  split at q
  · obtain ⟨rfl, h1, h2, q⟩ := q
    cases r with | cons r0 r => ?_
    cases r with | cons r1 r => ?_
    cases r
    cases r0
    obtain ⟨b, xs, rfl, e, t⟩ := rp_lst (M := ⟨K, cnT T, none, fun _ _ _ _ => False⟩) r1
    have hl := t.length
    refine ⟨_, b, N, xs, rfl, D0, .inl (sq e), by omega, by omega, fun p H' ys D1 s1 n1 e1 pm => ?_⟩
    obtain ⟨l', r2, p2⟩ := rpA_perm pm (t.mono s1)
    rw [hl] at D1
    exact k _ H' _ _ D1 s1 (.lst e1 r2) (q l' p2)
  · exact q.elim
/-! ### Wiring(..) read -/
theorem se_make_Wiring (T : Tx K mg) {m : Option Addr} {W : WX} {E : XK} {t : TA} {a : DA} (ha : SA ⟨K, cnT T, m, W⟩ t a) (hE : ∀ c d σ H, W c d σ H → E c d H) : SE ⟨K, cnT T, m, W⟩ (tMake T.k_Wiring.C (spMakeW K T) [] E t) (dCall f_Wiring a) := fun σ H δ N Q R Ex w e h k kx =>
  ha σ H δ N _ _ Ex w e h (fun vs H1 ds N1 w1 s1 r1 q1 => fun p dx np ndx ne =>
    make_at T w1 r1 q1 (fun v H' x w2 s2 r2 q2 => k v H' x N1 w2 (s1.trans s2) r2 q2) (fun c C x dx H' hc w2 s2 xd qx => hE _ _ σ _ (kx c C x dx H' N1 hc w2 (s1.trans s2) xd qx)) p dx np ndx ne) kx
theorem se_makeS_Wiring (T : Tx K mg) {m : Option Addr} {W : WX} {t : TA} {a : DA} (ha : SA ⟨K, cnT T, m, W⟩ t a) : SE ⟨K, cnT T, m, W⟩ (tMakeSD T.k_Wiring.C (spMakeW K T) (WE W) t) (dCall f_Wiring a) := fun σ H δ N Q R Ex w e h k kx =>
  ha σ H δ N _ _ Ex w e h (fun vs H1 ds N1 w1 s1 r1 q1 => fun p dx np ndx ne =>
    make_at T w1 r1 q1 (fun v H' x w2 s2 r2 q2 => k v H' x N1 w2 (s1.trans s2) r2 q2) (fun c C x dx H' hc w2 s2 xd qx => kx c C x dx H' N1 hc w2 (s1.trans s2) xd qx) p dx np ndx ne) kx
theorem se_make0_Wiring (T : Tx K mg) {m : Option Addr} {W : WX} {E : XK} {t : TA} {a : DA} (ha : SA ⟨K, cnT T, m, W⟩ t a) : SE ⟨K, cnT T, m, W⟩ (tMake T.k_Wiring.C (spMakeW K T) [] E t) (dCall0 f_Wiring a) := fun σ H δ N Q R Ex w e h k kx =>
  ha σ H δ N _ _ Ex w e h (fun vs H1 ds N1 w1 s1 r1 q1 => fun p dx np ndx ne =>
    make_at T w1 r1 q1 (fun v H' x w2 s2 r2 q2 => k v H' x N1 w2 (s1.trans s2) r2 q2) (fun _ _ _ _ _ _ _ _ _ z => z.elim) p dx np ndx ne) kx
--E--
end
end K11

set_option Elab.async false
set_option linter.all false
set_option maxRecDepth 100000
set_option maxHeartbeats 4000000
namespace K11.Hd
open PySem PySem.Spec PyProof.Rows L2 Rl Dr _root_.Tx Ex Er So Wi Vw
section
variable {P : Program} {w : World} {K : PySem.W.Frag} {mg : Str → Option Value} {base : Heap}
--B--
theorem mem_LDDG (c : Nat) : decide (c ∈ (LD ++ DG).cps.toList) = (inL c || inD c) := by
  rw [app_cps]
  unfold inL inD
  rw [← Bool.decide_or]
  exact decide_eq_decide.mpr List.mem_append
def spG : Sp := fun vs H Q _ => ∃ z : Str, vs = [.str z] ∧ z.length ≤ 50000 ∧ OkS z ∧ ∀ H', Same H H' → Q (.bl (vn z)) H'
theorem vn_of {z : Str} {c : Nat} (h1 : 1 ≤ z.length) (h6 : z.length ≤ 6) (e0 : z.cps[0]? = some c) : vn z = (inL c && z.cps.toList.all (fun c => inL c || inD c)) := by
  unfold vn
  rw [decide_eq_true h1, decide_eq_true h6, e0, Bool.true_and, Bool.true_and]
theorem filter_not_all (p : Nat → Bool) : ∀ l : List Nat, (l.filter (fun c => !p c)).isEmpty = l.all p
  | [] => rfl
  | c :: r => by
    have ih := filter_not_all p r
    cases e : p c with
    | true =>
      rw [List.filter_cons, List.all_cons, e]
      simpa using ih
    | false =>
      rw [List.filter_cons, List.all_cons, e]
      rfl
theorem ok_l_good (T : Tx K mg) : FnOk P w K mg base CX0 1 T.l_good.f T.l_good.fd ["_law_word"] spG := by
  refine T.l_good.F.ok sc_l_good (fun vs H Q E h => ?_) (fun cdv A outer s0 H vs Q E hr h => ?_)
  · obtain ⟨z, rfl, _⟩ := h
    rfl
  · obtain ⟨z, rfl, hz, ho, k⟩ := h
    have hz2 : z.length ≤ sizeLine := sz (by omega)
    refine ⟨_, (pss_cons (ps_set (i := 1) sc_l_good.nd rfl (.inr rfl) pe_str)
      (pss_cons (ps_if (PW.pt (pw_or (pt_cmpR op_lt (pe_callB call_len_str (by rfl) T.m_len (by decide +kernel) (pa_cons (pv 0) pa_nil)) pe_int (nomark _)) (pw_or (pt_cmpR op_gt (pe_callB call_len_str (by rfl) T.m_len (by decide +kernel) (pa_cons (pv 0) pa_nil)) pe_int (nomark _)) (pw_or1 (pt_cmpR op_notIn_sign (pe_item_str (pv 0) pe_int (fun _ _ => rfl)) (pv 1) rfl))))) (pss_one (ps_ret pe_bl)) pss_nil)
      (pss_one (ps_ret (pe_cmpR (op_eqD hr.units) (pe_lc (own := [("_law_sign", 2)]) (g := gName 2) rfl sc_l_good.nd (pi_str (pv 0)) (blkOk_by (own := [("_law_sign", 2)]) (N := N_l_good) (sc := defScope s_l_good) (by decide +kernel)) (fun _ _ _ _ _ => (pg_name (i := 2) sc_l_good.nd rfl (.inl rfl))) (fun _ _ _ _ _ => (pts_one (pt_cmpR op_notIn_sign (pv 2) (pe_op op_add_str (pv 1) pe_str) rfl))) (fun _ _ _ _ _ => (pv 2))) (pe_lst pa_nil) (nomark _)))))), ?_⟩
    refine ⟨_, rfl, z, rfl, hz2, _, _, rfl, rfl, _, rfl, ?_⟩
    by_cases h1 : z.length < 1
    · refine ite2 (fun _ => ?_) (fun q => absurd (decide_eq_true (by omega)) q)
      have e : vn z = false := by
        unfold vn
        rw [decide_eq_false (by omega), Bool.false_and, Bool.false_and, Bool.false_and]
      rw [e] at k
      exact k _ (Same.refl _)
    · refine ite2 (fun q => absurd (of_decide_eq_true q) (by omega)) (fun _ => ?_)
      refine ⟨_, rfl, z, rfl, hz2, _, _, rfl, rfl, _, rfl, ?_⟩
      by_cases h6 : z.length ≤ 6
      · refine ite2 (fun q => absurd (of_decide_eq_true q) (by omega)) (fun _ => ?_)
        have h0 : 0 < z.cps.size := by show 0 < z.length; omega
        have e0 : z.cps[0]? = some z.cps[0] := Array.getElem?_eq_getElem h0
        have ev := vn_of (z := z) (by omega) h6 e0
        rw [ev] at k
        refine ⟨_, rfl, z, 0, z.cps[0], rfl, rfl, by decide, by decide, (by show (0 : Int) < (z.length : Int); omega), e0, _, rfl, z.cps[0], _, rfl, rfl, _, rfl, ?_⟩
        show if (!inL z.cps[0]) = true then _ else _
        by_cases e : inL z.cps[0] = true
        · rw [e] at k ⊢
          rw [Bool.true_and] at k
          refine iteF ?_
          refine ⟨_, rfl, z, rfl, fun D nD => lc_str (fun i H' => H' D = some (.lst (((z.cps.toList.take i).filter (fun c => !(inL c || inD c))).map fun c => V.str ⟨#[c]⟩)) ∧ Same H H') ⟨upd_same, same_new nD⟩ (fun i c H' hc hp => ?_) (fun H' hp => ?_)⟩
          · obtain ⟨p1, p2⟩ := hp
            have hi : z.cps.toList[i]? = some c := by rw [Array.getElem?_toList]; exact hc
            have et : (z.cps.toList.take (i + 1)).filter (fun c => !(inL c || inD c)) = (z.cps.toList.take i).filter (fun c => !(inL c || inD c)) ++ (if (!(inL c || inD c)) = true then [c] else []) := by
              rw [List.take_add_one, hi, List.filter_append]
              show _ ++ List.filter _ [c] = _
              rw [List.filter_cons]
              rfl
            refine ⟨rfl, _, rfl, _, rfl, _, _, rfl, rfl, ?_, c, _, rfl, rfl, _, rfl, ?_⟩
            · exact sz (by decide +kernel)
            · show if (!decide (c ∈ (LD ++ DG).cps.toList)) = true then _ else _
              rw [mem_LDDG]
              cases ec : (inL c || inD c) with
              | true =>
                rw [ec] at et
                refine iteF ⟨?_, p2⟩
                rw [et, p1]
                simp
              | false =>
                rw [ec] at et
                refine iteT ⟨_, rfl, _, p1, ?_, ?_, Same.mut p2 nD⟩
                · rw [List.length_map]
                  refine Nat.lt_of_le_of_lt (List.length_filter_le _ _) ?_
                  rw [List.length_take]
                  refine Nat.lt_of_le_of_lt (Nat.min_le_right _ _) ?_
                  rw [Array.length_toList]
                  exact szl (by have : z.cps.size ≤ 50000 := hz; omega)
                · rw [upd_same, et, List.map_append]
                  rfl
          · obtain ⟨p1, p2⟩ := hp
            have et : z.cps.toList.take z.cps.size = z.cps.toList := List.take_of_length_le (by rw [Array.length_toList]; exact Nat.le_refl _)
            rw [et] at p1
            refine ⟨Nat.zero_le _, fun p np => ?_⟩
            have nDp : D ≠ p := ne_of_none p1 np
            let zs : List Str := (z.cps.toList.filter (fun c => !(inL c || inD c))).map fun c => ⟨#[c]⟩
            have p1' : (upd H' p (.lst [])) D = some (.lst (zs.map V.str)) := by
              rw [upd_ne nDp, p1, List.map_map]
              rfl
            have hzs : ∀ y ∈ zs, OkS y := fun y hy => by
              obtain ⟨c, hc, rfl⟩ := List.mem_map.mp hy
              exact okS_one (ho c (List.mem_filter.mp hc).1)
            refine ⟨.list (zs.map PyData.str), .list [], .lst (sq p1') (dp_strs _), .lst (sq upd_same) .nil, shaped_strs hzs, shaped_ints [], ?_⟩
            rw [eqv_nil_strs, List.isEmpty_map, filter_not_all]
            exact k _ (p2.trans (same_new np))
        · rw [Bool.not_eq_true] at e
          rw [e] at k ⊢
          rw [Bool.false_and] at k
          exact iteT (k _ (Same.refl _))
      · refine ite2 (fun _ => ?_) (fun q => absurd (decide_eq_true (by omega)) q)
        have e : vn z = false := by
          unfold vn
          rw [decide_eq_false h6, Bool.and_false, Bool.false_and, Bool.false_and]
        rw [e] at k
        exact k _ (Same.refl _)
--E--
end
end K11.Hd

set_option Elab.async false
set_option linter.all false
set_option maxRecDepth 100000
set_option maxHeartbeats 2000000
namespace K11
open PySem PySem.Spec PyProof.Rows L2 Rl Dr _root_.Tx Ex Er So Wi Vw Dl
section
variable {P : Program} {w : World} {K : PySem.W.Frag} {mg : Str → Option Value} {base : Heap}
--B--
def TBT : List (Str × Int) := [("1", 1), ("2", 2), ("3", 3)]
theorem okH_i_BadText (T : Tx K mg) : L2H.FnH P w K mg base CX0 1 T.e_BadText.f T.e_BadText.fd ["self", "text"] (spInitX T.e_BadText.C "text") := by
  refine okHn T.e_BadText.F sc_BadText___init__ (fun vs H Q E h => ?_) (fun cdv A outer s0 H vs Q E p h => ⟨_, pss_one (ps_ost (pv 0) (pv 1)), init_readX T.e_BadText h⟩)
  obtain ⟨a, v, rfl, _⟩ := h
  rfl
theorem exm_root (T : Tx K mg) {c : Nat} {C : Addr} (hc : (cnT T).xm c = some C) : PySem.W.exmOne K (.ref C) (.ref T.root.C) = some true := by
  obtain ⟨n, E, eE⟩ := er_at T hc
  have q := E.kit T.root.isC T.root.tyC
  rw [decide_eq_true (rfl : T.root.C = T.root.C), Bool.or_true, eE] at q
  have ne : C ≠ T.root.C := fun z => by
    have a := xm_list T c
    rw [hc, z] at a
    have := (List.getElem?_inj (i := 0) (j := c + 1) (by simp) T.nd).mp a.symm
    omega
  unfold PySem.W.kitOne at q
  rw [if_neg (by simpa using ne)] at q
  unfold PySem.W.exmOne
  rw [T.x_rootx, if_pos (by rfl)]
  exact q
def w_Wiring_parts : DS := (dRet [] (dFld 0 0 (dVar 0)))
def f_Wiring_parts : DFp := fun a R _ => dfP 1 0 w_Wiring_parts a R fun _ _ => False
theorem ok_Wiring_parts (T : Tx K mg) : FnOk P w K mg base CX0 1 T.Wiring_parts.f T.Wiring_parts.fd ["self"] (spP K (cnT T) f_Wiring_parts) :=
  lift0 (fn_pure T.Wiring_parts.F sc_Wiring_parts rfl fun cdv A outer s H E hr => ⟨_, (pss_one (ps_ret (pe_frame (pe_fldK (K := K) (pv 0))))),
    (ss_ret [] (se_fld (c := 0) rfl rfl T.k_Wiring.cl T.no_parts (se_var 0)))⟩)

def w_Wiring_arrows : DS := (dRet [] (dFld 0 3 (dVar 0)))
def f_Wiring_arrows : DFp := fun a R _ => dfP 1 0 w_Wiring_arrows a R fun _ _ => False
theorem ok_Wiring_arrows (T : Tx K mg) : FnOk P w K mg base CX0 1 T.Wiring_arrows.f T.Wiring_arrows.fd ["self"] (spP K (cnT T) f_Wiring_arrows) :=
  lift0 (fn_pure T.Wiring_arrows.F sc_Wiring_arrows rfl fun cdv A outer s H E hr => ⟨_, (pss_one (ps_ret (pe_frame (pe_fldK (K := K) (pv 0))))),
    (ss_ret [] (se_fld (c := 0) rfl rfl T.k_Wiring.cl T.no_arrows (se_var 0)))⟩)

def w_Wiring__check_part : DS := (dIfS [] (dTv (dOp dNotIn (dVar 1) (dFld 0 1 (dVar 0)))) (dRaise [] 1 (dVar 1)) dNext)
def f_Wiring__check_part : DFp := dfP 2 0 w_Wiring__check_part
theorem ok_Wiring__check_part (T : Tx K mg) : FnOk P w K mg base (L2.CX P w) 3 T.Wiring__check_part.f T.Wiring__check_part.fd ["self", "name"] (spP K (cnT T) f_Wiring__check_part) :=
  liftX (fn_pureX T.Wiring__check_part.F sc_Wiring__check_part rfl fun cdv A outer s H E hr => ⟨_, (pss_one (ps_if (pt_frame (pt_cmpR (r := rNotInA K) (op_notInA hr) (pv 1) (pe_fldK (K := K) (pv 0)) rfl)) (pss_one (ps_raise rfl (takes_of rfl rfl rfl rfl) (pmk_oex T.e_UnknownName.oex T.e_UnknownName.iC T.e_UnknownName.tI (ok_i_UnknownName T) (hr.mono (by decide)) T.e_UnknownName.b .nil pass0 (by rfl) T.e_UnknownName.g (pa_frame (pa_cons (pv 1) pa_nil))))) pss_nil)),
    (ss_if [] (st_test (se_op sr_notIn (se_var 1) (se_fld (c := 0) rfl rfl T.k_Wiring.cl T.no_tops (se_var 0)))) (ss_raise [] 1 rfl rfl (se_var 1)) ss_next)⟩)

def w_Wiring_top : DS := (dSeqS (dExpr [] (dMeth 0 f_Wiring__check_part (dVar 0) (dCons (dVar 1) dNil)))
      (dRet [] (dOp dIx (dFld 0 1 (dVar 0)) (dVar 1))))
def f_Wiring_top : DFp := dfP 2 0 w_Wiring_top
theorem ok_Wiring_top (T : Tx K mg) : FnOk P w K mg base (L2.CX P w) 4 T.Wiring_top.f T.Wiring_top.fd ["self", "name"] (spP K (cnT T) f_Wiring_top) :=
  liftX (fn_pureX T.Wiring_top.F sc_Wiring_top rfl fun cdv A outer s H E hr => ⟨_, (pss_cons (ps_expr (pe_frame (pe_meth (pv 0) T.k_Wiring.cl T.Wiring__check_part.m (ok_Wiring__check_part T) (hr.mono (by decide)) T.Wiring__check_part.b .nil pX (pa_cons (pv 1) pa_nil))))
      (pss_one (ps_ret (pe_frame (pe_ix (r := rIxD K) (ix_any (hu_of hr)) (pe_fldK (K := K) (pv 0)) (pv 1) (fun _ _ => rfl)))))),
    (ss_seq (ss_expr [] (se_meth (c := 0) rfl (show _ ∉ cnF 0 by decide +kernel) (se_var 0) (sa_cons (se_var 1) sa_nil) fun _ _ _ _ h => h))
      (ss_ret [] (se_op sr_ix (se_fld (c := 0) rfl rfl T.k_Wiring.cl T.no_tops (se_var 0)) (se_var 1))))⟩)

def w_Wiring___eq__ : DS := (dRet [] (dAnd (dIsiO 0 (dVar 1)) (dAnd (dOp dEqK (dFld 0 1 (dVar 0)) (dFld 0 1 (dVar 1))) (dOp dEq (dFld 0 3 (dVar 0)) (dFld 0 3 (dVar 1))))))
def f_Wiring___eq__ : DFp := fun a R _ => dfP 2 0 w_Wiring___eq__ a R fun _ _ => False
theorem ok_Wiring___eq__ (T : Tx K mg) : FnOk P w K mg base CX0 1 T.Wiring___eq__.f T.Wiring___eq__.fd ["self", "other"] (spP K (cnT T) f_Wiring___eq__) :=
  lift0 (fn_pure T.Wiring___eq__.F sc_Wiring___eq__ rfl fun cdv A outer s H E hr => ⟨_, (pss_one (ps_ret (pe_frame (pe_and (pe_callB (id := "isinstance") (r := rIsi K) call_isi (by rfl) T.m_isinstance (by decide +kernel) (pa_cons (pv 1) (pa_cons (pe_glob (v := .ref T.k_Wiring.C) (by rfl) T.k_Wiring.g rfl) pa_nil))) (pe_and (pe_cmpR (Cmp.op_eqK hr.units0) (pe_fldK (K := K) (pv 0)) (pe_fldK (K := K) (pv 1)) (nomark _)) (pe_one (pe_cmpR (r := rEqD K) (op_eqD hr.units) (pe_fldK (K := K) (pv 0)) (pe_fldK (K := K) (pv 1)) (nomark _)))))))),
    (ss_ret [] (se_and (se_isiO (M := ⟨K, _, _, _⟩) (c := 0) T.k_Wiring T.oc rfl (se_var 1)) (se_and (se_op (sr_eqK rfl) (se_fld (c := 0) rfl rfl T.k_Wiring.cl T.no_tops (se_var 0)) (se_fld (c := 0) rfl rfl T.k_Wiring.cl T.no_tops (se_var 1))) (se_op sr_eqD (se_fld (c := 0) rfl rfl T.k_Wiring.cl T.no_arrows (se_var 0)) (se_fld (c := 0) rfl rfl T.k_Wiring.cl T.no_arrows (se_var 1))))))⟩)

def w_Wiring___str__ : DS := (dSeqS (dSet [] 1 (dJoin (dC (.str " ")) (dLc (dSeq (dFld 0 0 (dVar 0))) (dgName 3) dTyes (dJn [(dFmt (dVar 3)), (dC (.str ":")), (dFmt (dOp dIx (dFld 0 1 (dVar 0)) (dVar 3)))]) [3])))
      (dSeqS (dSet [] 2 (dLc (dSeq (dFld 0 3 (dVar 0))) (dgTup 3 (dgCons (dgName 4) (dgCons (dgName 5) (dgCons (dgName 6) dgNil)))) dTyes (dJn [(dFmt (dVar 4)), (dC (.str " ")), (dFmt (dVar 6)), (dC (.str " ")), (dFmt (dVar 5))]) [4, 5, 6]))
      (dRet [] (dJoin (dC (.str "; ")) (dLst (dCons (dVar 1) (dStar (dVar 2) dNil)))))))
def f_Wiring___str__ : DFp := fun a R _ => dfP 1 6 w_Wiring___str__ a R fun _ _ => False
theorem ok_Wiring___str__ (T : Tx K mg) : FnOk P w K mg base CX0 1 T.Wiring___str__.f T.Wiring___str__.fd ["self"] (spP K (cnT T) f_Wiring___str__) :=
  lift0 (fn_pure T.Wiring___str__.F sc_Wiring___str__ rfl fun cdv A outer s H E hr => ⟨_, (pss_cons (ps_frame (ps_set (i := 1) sc_Wiring___str__.nd rfl (.inl rfl) (pe_join pe_str (pe_lc (own := [("name", 3)]) (g := gName 3) (tt := ttFr tYes) rfl sc_Wiring___str__.nd (pi_seqL (pe_fldK (K := K) (pv 0))) (blkOk_by (own := [("name", 3)]) (N := N_Wiring___str__) (sc := defScope s_Wiring___str__) (by decide +kernel)) (fun _ _ _ _ _ => (pg_name (i := 3) sc_Wiring___str__.nd rfl (.inl rfl))) (fun _ _ _ _ _ => pts_yesF) (fun _ _ _ _ _ => (pe_frame (pe_joinedD (.cons (pe_fmt (pv 3)) (.cons pe_str (.cons (pe_fmt (pe_ix (r := rIxD K) (ix_any (hu_of hr)) (pe_fldK (K := K) (pv 0)) (pv 3) (fun _ _ => rfl))) .nil))))))))))
      (pss_cons (ps_frame (ps_setLc (i := 2) (own := [("source", 4), ("target", 5), ("sign", 6)]) (tt := ttFr tYes) rfl sc_Wiring___str__.nd rfl rfl (sw_true rfl rfl rfl (by decide +kernel)) (pi_seqL (pe_fldK (K := K) (pv 0))) (blkOk_by (own := [("source", 4), ("target", 5), ("sign", 6)]) (N := N_Wiring___str__) (sc := defScope s_Wiring___str__) (by decide +kernel)) (fun _ _ _ _ _ => (pg_tupK (K := K) 3 rfl (pgs_cons (pg_name (i := 4) sc_Wiring___str__.nd rfl (.inl rfl)) (pgs_cons (pg_name (i := 5) sc_Wiring___str__.nd rfl (.inl rfl)) (pgs_cons (pg_name (i := 6) sc_Wiring___str__.nd rfl (.inl rfl)) pgs_nil))))) (fun _ _ _ _ _ => pts_yesF) (fun _ _ _ _ _ => (pe_frame (pe_joinedD (.cons (pe_fmt (pv 4)) (.cons pe_str (.cons (pe_fmt (pv 6)) (.cons pe_str (.cons (pe_fmt (pv 5)) .nil))))))))))
      (pss_one (ps_ret (pe_frame (pe_join pe_str (pe_lst (pa_cons (pv 1) (StX.pa_star (pv 2) pa_nil))))))))),
    (ss_seq (ss_set [] 1 (se_join se_str (se_lc (si_seq (se_fld (c := 0) rfl rfl T.k_Wiring.cl T.no_parts (se_var 0))) (sg_name 3) st_yes (se_jn (.cons (se_fmt (se_var 3)) (.cons se_str (.cons (se_fmt (se_op sr_ix (se_fld (c := 0) rfl rfl T.k_Wiring.cl T.no_tops (se_var 0)) (se_var 3))) .nil)))))))
      (ss_seq (ss_set [] 2 (se_lc (si_seq (se_fld (c := 0) rfl rfl T.k_Wiring.cl T.no_arrows (se_var 0))) (sg_tup (sgs_cons (sg_name 4) (sgs_cons (sg_name 5) (sgs_cons (sg_name 6) sgs_nil)))) st_yes (se_jn (.cons (se_fmt (se_var 4)) (.cons se_str (.cons (se_fmt (se_var 6)) (.cons se_str (.cons (se_fmt (se_var 5)) .nil))))))))
      (ss_ret [] (se_join se_str (se_lst (sa_cons (se_var 1) (sa_star (se_var 2) sa_nil)))))))⟩)

def w_read_tops : DS := (dSeqS (dSetO [] 1 dNewK)
      (dSeqS (dFor [] (dSeq (dSplit (dVar 0) (dC (.str " ")))) [2] (dgName 2) (dSeqS (dAsg [] [3, 4, 5] (dgTup 3 (dgCons (dgName 3) (dgCons (dgName 4) (dgCons (dgName 5) dgNil)))) (dPart3 (dVar 2) (dC (.str ":"))))
      (dPut [] 1 [] (dVar 3) (dGetK TBT (dVar 5)))))
      (dRet [1] (dVar 1))))
def f_read_tops : DFp := fun a R _ => dfP 1 5 w_read_tops a R fun _ _ => False
theorem ok_read_tops (T : Tx K mg) (DT : KdE K P w mg "TOPS_BY_TEXT" TBT) : FnOk P w K mg base CX0 1 T.read_tops.f T.read_tops.fd ["text"] (spP K (cnT T) f_read_tops) :=
  lift0 (fn_pure T.read_tops.F sc_read_tops rfl fun cdv A outer s H E hr => ⟨_, (pss_cons (ps_frame (ps_set (i := 1) sc_read_tops.nd rfl (.inl rfl) pe_dnewK))
      (pss_cons (ps_for PassesOwn.never rfl (pi_frame (pi_seqL (pe_split (pv 0) pe_str))) (pg_name (i := 2) sc_read_tops.nd rfl (.inl rfl)) (pss_cons (ps_frame (ps_asg (pe_partition (pv 2) pe_str) (pg_tupK (K := K) 3 rfl (pgs_cons (pg_name (i := 3) sc_read_tops.nd rfl (.inl rfl)) (pgs_cons (pg_name (i := 4) sc_read_tops.nd rfl (.inl rfl)) (pgs_cons (pg_name (i := 5) sc_read_tops.nd rfl (.inl rfl)) pgs_nil))))))
      (pss_one (ps_dput (hu_of hr) (pv 1) (pe_frame (pv 3)) (pe_frame (pe_dgetK DT (by rfl) (pv 5) ⟨rfl, rfl, rfl, rfl⟩)) rfl))))
      (pss_one (ps_ret (pe_frame (pv 1)))))),
    (ss_seq (ss_setO [] 1 sef_newK)
      (ss_seq (ss_for [] (si_seq (se_split (se_var 0) se_str)) (sg_name 2) (ss_seq (ss_asg [] (se_part3 (se_var 2) se_str) (sg_tup (sgs_cons (sg_name 3) (sgs_cons (sg_name 4) (sgs_cons (sg_name 5) sgs_nil)))))
      (ss_put [] 1 [] (se_dgetK (se_var 5)) (se_var 3))))
      (ss_ret [1] (se_var 1))))⟩)

def w_read_arrow : DS := (dSeqS (dSet [] 1 (dSplit (dVar 0) (dC (.str " "))))
      (dSeqS (dIfS [] (dTv (dOp dNe (dCB dLen (dCons (dVar 1) dNil)) (dC (.int 3)))) (dRet [] (dC .non)) dNext)
      (dSeqS (dAsg [] [2, 3, 4] (dgLst 3 (dgCons (dgName 2) (dgCons (dgName 3) (dgCons (dgName 4) dgNil)))) (dVar 1))
      (dRet [] (dTup (dCons (dVar 2) (dCons (dVar 4) (dCons (dVar 3) dNil))))))))
def f_read_arrow : DFp := fun a R _ => dfP 1 4 w_read_arrow a R fun _ _ => False
theorem ok_read_arrow (T : Tx K mg) : FnOk P w K mg base CX0 1 T.read_arrow.f T.read_arrow.fd ["text"] (spP K (cnT T) f_read_arrow) :=
  lift0 (fn_pure T.read_arrow.F sc_read_arrow rfl fun cdv A outer s H E hr => ⟨_, (pss_cons (ps_frame (ps_set (i := 1) sc_read_arrow.nd rfl (.inl rfl) (pe_split (pv 0) pe_str)))
      (pss_cons (ps_if (pt_frame (pt_cmpR (r := rNeD K) (op_neD hr.units) (pe_callB (r := rLenD K) call_lenA (by rfl) T.m_len (by decide +kernel) (pa_cons (pv 1) pa_nil)) pe_int (nomark _))) (pss_one (ps_ret (pe_frame pe_non))) pss_nil)
      (pss_cons (ps_frame (ps_asg (pv 1) (pg_lstK (K := K) rfl 3 rfl (pgs_cons (pg_name (i := 2) sc_read_arrow.nd rfl (.inl rfl)) (pgs_cons (pg_name (i := 3) sc_read_arrow.nd rfl (.inl rfl)) (pgs_cons (pg_name (i := 4) sc_read_arrow.nd rfl (.inl rfl)) pgs_nil))))))
      (pss_one (ps_ret (pe_frame (pe_tup (pa_cons (pv 2) (pa_cons (pv 4) (pa_cons (pv 3) pa_nil)))))))))),
    (ss_seq (ss_set [] 1 (se_split (se_var 0) se_str))
      (ss_seq (ss_if [] (st_test (se_op sr_neD (se_cb sc_len (sa_cons (se_var 1) sa_nil)) se_int)) (ss_ret [] se_non) ss_next)
      (ss_seq (ss_asg [] (se_var 1) (sg_lst (sgs_cons (sg_name 2) (sgs_cons (sg_name 3) (sgs_cons (sg_name 4) sgs_nil)))))
      (ss_ret [] (se_tup (sa_cons (se_var 2) (sa_cons (se_var 4) (sa_cons (se_var 3) sa_nil))))))))⟩)

def w_Wiring_read (C : Addr) : DS := (dSeqS (dSet [] 2 (dSplit (dVar 1) (dC (.str "; "))))
      (dSeqS (dSet [] 3 (dCall0 f_read_tops (dCons (dOp dIx (dVar 2) (dC (.int 0))) dNil)))
      (dSeqS (dSet [] 4 (dLc (dSeq (dSl (dVar 2) (dPart (dC (.int 1))) dNoneO)) (dgName 6) dTyes (dCall0 f_read_arrow (dCons (dVar 6) dNil)) [6]))
      (dSeqS (dTryO (dSet [] 5 (dMakeV 0 C f_Wiring (dCons (dVar 3) (dCons (dVar 4) dNil)))) (dRaise [] 5 (dVar 1)))
      (dSeqS (dIfS [] (dTv (dOp dNe (dStrO 0 f_Wiring___str__ (dVar 5)) (dVar 1))) (dRaise [] 5 (dVar 1)) dNext)
      (dRet [] (dVar 5)))))))
def f_Wiring_read (C : Addr) : DFp := dfP 2 5 (w_Wiring_read C)
theorem ok_Wiring_read (T : Tx K mg) (DT : KdE K P w mg "TOPS_BY_TEXT" TBT) : FnOk P w K mg base (L2.CX P w) 7 T.Wiring_read.f T.Wiring_read.fd ["cls", "text"] (spP K (cnT T) (f_Wiring_read T.k_Wiring.C)) :=
  liftX (fn_pureX T.Wiring_read.F sc_Wiring_read rfl fun cdv A outer s H E hr => ⟨_, (pss_cons (ps_frame (ps_set (i := 2) sc_Wiring_read.nd rfl (.inl rfl) (pe_split (pv 1) pe_str)))
      (pss_cons (ps_frame (ps_set (i := 3) sc_Wiring_read.nd rfl (.inl rfl) (pcall T.read_tops (ok_read_tops T DT) (hr.mono (by decide)) (by rfl) pass0 (pa_cons (pe_ix (r := rIxD K) (ix_any (hu_of hr)) (pv 2) pe_int (fun _ _ => rfl)) pa_nil))))
      (pss_cons (ps_frame (ps_setLc (i := 4) (own := [("piece", 6)]) (g := gName 6) (tt := ttFr tYes) rfl sc_Wiring_read.nd rfl rfl (sw_true rfl rfl rfl (by decide +kernel)) (pi_seqL (pe_slice (r := rSlD K) sl_any (pv 2) (po_some pe_int) po_none)) (blkOk_by (own := [("piece", 6)]) (N := N_Wiring_read) (sc := defScope s_Wiring_read) (by decide +kernel)) (fun _ _ _ _ _ => (pg_name (i := 6) sc_Wiring_read.nd rfl (.inl rfl))) (fun _ _ _ _ _ => pts_yesF) (fun _ _ _ _ _ => (pe_frame (pcall T.read_arrow (ok_read_arrow T) (hr.mono (by decide)) (by rfl) pass0 (pa_cons (pv 6) pa_nil))))))
      (pss_cons (ps_tryO rfl rfl ⟨by rfl, by decide, .inl T.root.g⟩ (L2H.passesAt_of rfl) (takes_of rfl rfl rfl rfl) (fun W pn xe tk tp po => (pss_one (ps_frame (ps_set (i := 5) sc_Wiring_read.nd rfl (.inl rfl) (pe_makeV T.Wiring___init__.M (ok_Wiring___init__ T) (hr.mono (by decide)) (pv 0) T.Wiring___init__.b (fun σ => L2N.passAt tk σ) (pa_cons (pv 3) (pa_cons (pv 4) pa_nil))))))) (fun a oe cls d pn hz hv tk2 hot => (pss_one (L2H.ps_raiseHN hot tk2 (L2H.pmk5_oexH T.e_BadText.oex T.e_BadText.iC T.e_BadText.tI (okH_i_BadText T) (L2H.roomH_mark (hr.mono (by decide)) _) hot T.e_BadText.b pass0 (by rfl) T.e_BadText.g (pa_frame (pa_cons (pv 1) pa_nil)))))))
      (pss_cons (ps_if (pt_frame (pt_cmpR (r := rNeD K) (op_neD hr.units) (pe_callTy (Try.call_strO (ok_Wiring___str__ T) (hr.mono (by decide)) T.Wiring___str__.m T.Wiring___str__.b pass0) (by rfl) T.m_str (by decide +kernel) (pa_cons (pv 5) pa_nil)) (pv 1) (nomark _))) (pss_one (ps_raise rfl (takes_of rfl rfl rfl rfl) (pmk_oex T.e_BadText.oex T.e_BadText.iC T.e_BadText.tI (ok_i_BadText T) (hr.mono (by decide)) T.e_BadText.b .nil pass0 (by rfl) T.e_BadText.g (pa_frame (pa_cons (pv 1) pa_nil))))) pss_nil)
      (pss_one (ps_ret (pe_frame (pv 5))))))))),
    (ss_seq (ss_set [] 2 (se_split (se_var 1) se_str))
      (ss_seq (ss_set [] 3 (se_call0 (sa_cons (se_op sr_ix (se_var 2) se_int) sa_nil)))
      (ss_seq (ss_set [] 4 (se_lc (si_seq (se_sl (se_var 2) (so_part se_int) so_none)) (sg_name 6) st_yes (se_call0 (sa_cons (se_var 6) sa_nil))))
      (ss_seq (ss_tryO (fun k C hc => exm_root T hc) (fun W => (ss_set [] 5 (se_makeV (se_makeS_Wiring T (sa_cons (se_var 3) (sa_cons (se_var 4) sa_nil)))))) (fun a C d => (ss_raise [] 5 rfl rfl (se_var 1))))
      (ss_seq (ss_if [] (st_test (se_op sr_neD (se_strO (c := 0) rfl (se_var 5)) (se_var 1))) (ss_raise [] 5 rfl rfl (se_var 1)) ss_next)
      (ss_ret [] (se_var 5)))))))⟩)
--E--
end
end K11

set_option Elab.async false
set_option linter.all false
set_option maxRecDepth 100000
set_option maxHeartbeats 2000000
namespace K11
open PySem PySem.Spec PyProof.Rows L2 Rl Dr _root_.Tx Ex Er So Wi Vw Dl
section
variable {P : Program} {w : World} {K : PySem.W.Frag} {mg : Str → Option Value} {base : Heap}
--B--
def w_l_names (s : Addr) : DS := (dSeqS (dSetO [] 2 (dLst (dCons (dLst (dCons (dC (.str "a")) (dCons (dC (.str "b")) (dCons (dC (.str "c")) (dCons (dC (.str "d")) (dCons (dC (.str "e")) (dCons (dC (.str "f")) dNil))))))) (dCons (dLst (dCons (dC (.str "x")) (dCons (dC (.str "x1")) (dCons (dC (.str "x10")) (dCons (dC (.str "xy")) (dCons (dC (.str "y")) (dCons (dC (.str "z9")) dNil))))))) dNil))))
      (dSeqS (dApp [] 2 (dLst (dCons (dC (.str "valve")) (dCons (dC (.str "gene")) (dCons (dC (.str "drop")) (dCons (dC (.str "arrow")) (dCons (dC (.str "fact")) (dCons (dC (.str "t")) dNil))))))))
      (dSeqS (dApp [] 2 (dLst (dCons (dC (.str "gene1")) (dCons (dC (.str "gene2")) (dCons (dC (.str "gene12")) (dCons (dC (.str "gene")) (dCons (dC (.str "hene1")) (dCons (dC (.str "gene1a")) dNil))))))))
      (dRet [2] (dSl (dCallD s f_l_order (dCons (dVar 0) (dCons (dOp dIx (dVar 2) (dCallD s f_l_draw (dCons (dVar 0) (dCons (dC (.int 4)) dNil)))) dNil))) dNoneO (dPart (dVar 1)))))))
def f_l_names : DF := fun s a n R _ => dfD 2 1 (w_l_names s) a n R fun _ _ _ => False
theorem ok_l_names (T : Tx K mg) : FnOk P w K mg base CX0 3 T.l_names.f T.l_names.fd ["_law_state", "_law_count"] (spD K (cnT T) f_l_names) :=
  fn_draw T.l_names.F sc_l_names rfl fun sa cdv A outer s H E hr => ⟨_, (pss_cons (ps_frame (ps_set (i := 2) sc_l_names.nd rfl (.inl rfl) (pe_lst (pa_cons (pe_lst (pa_cons pe_str (pa_cons pe_str (pa_cons pe_str (pa_cons pe_str (pa_cons pe_str (pa_cons pe_str pa_nil))))))) (pa_cons (pe_lst (pa_cons pe_str (pa_cons pe_str (pa_cons pe_str (pa_cons pe_str (pa_cons pe_str (pa_cons pe_str pa_nil))))))) pa_nil)))))
      (pss_cons (ps_expr (pe_bm PySem.F.plainAttrs_list PySem.F.slot_list_append PySem.F.type_list_append mt_append (pv 2) (pa_frame (pa_cons (pe_lst (pa_cons pe_str (pa_cons pe_str (pa_cons pe_str (pa_cons pe_str (pa_cons pe_str (pa_cons pe_str pa_nil))))))) pa_nil))))
      (pss_cons (ps_expr (pe_bm PySem.F.plainAttrs_list PySem.F.slot_list_append PySem.F.type_list_append mt_append (pv 2) (pa_frame (pa_cons (pe_lst (pa_cons pe_str (pa_cons pe_str (pa_cons pe_str (pa_cons pe_str (pa_cons pe_str (pa_cons pe_str pa_nil))))))) pa_nil))))
      (pss_one (ps_ret (pe_frame (pe_slice (r := rSlD K) sl_any (pcall T.l_order (ok_l_order T) (hr.mono (by decide)) (by rfl) pass0 (pa_cons (pv 0) (pa_cons (pe_ix (r := rIxD K) (ix_any (hu_of hr)) (pv 2) (pcall T.l_draw (ok_l_draw T) (hr.mono (by decide)) (by rfl) pass0 (pa_cons (pv 0) (pa_cons pe_int pa_nil))) (fun _ _ => rfl)) pa_nil))) po_none (po_some (pv 1))))))))),
    (ss_seq (ss_setO [] 2 (sef_lst (sa_cons (se_lst (sa_cons se_str (sa_cons se_str (sa_cons se_str (sa_cons se_str (sa_cons se_str (sa_cons se_str sa_nil))))))) (sa_cons (se_lst (sa_cons se_str (sa_cons se_str (sa_cons se_str (sa_cons se_str (sa_cons se_str (sa_cons se_str sa_nil))))))) sa_nil))))
      (ss_seq (ss_app [] 2 (se_lst (sa_cons se_str (sa_cons se_str (sa_cons se_str (sa_cons se_str (sa_cons se_str (sa_cons se_str sa_nil))))))))
      (ss_seq (ss_app [] 2 (se_lst (sa_cons se_str (sa_cons se_str (sa_cons se_str (sa_cons se_str (sa_cons se_str (sa_cons se_str sa_nil))))))))
      (ss_ret [2] (se_sl (se_callD rfl (sa_cons (se_var 0) (sa_cons (se_op sr_ix (se_var 2) (se_callD rfl (sa_cons (se_var 0) (sa_cons se_int sa_nil)))) sa_nil))) so_none (so_part (se_var 1)))))))⟩

def f_l_good : DFp := fun ds R _ => match ds with
  | [.str z] => z.length ≤ 50000 ∧ R (.bl (vn z))
  | _ => False
theorem ok_l_good (T : Tx K mg) : FnOk P w K mg base CX0 1 T.l_good.f T.l_good.fd ["_law_word"] (spP K (cnT T) f_l_good) := (Hd.ok_l_good T).imp fun vs H Q E h => by
  obtain ⟨m, ds, N, R, Ex, w0, r, q, k, _⟩ := h
  unfold f_l_good at q
  split at q
  · cases r with | cons r0 r => ?_
    cases r
    obtain ⟨rfl, o⟩ := rp_str (M := ⟨K, cnT T, none, fun _ _ _ _ => False⟩) r0
    exact ⟨_, rfl, q.1, o, fun H' s => by
      obtain ⟨a, b⟩ := gv_keep w0 s
      exact k _ H' _ a b (.bl _) q.2⟩
  · exact q.elim
def w_l_signs : DS := (dSeqS (dSet [] 0 (dC (.str " !\"#$&'()*+,-./0123456789:;<=>?@ABCDEFGHIJKLMNOPQRSTUVWXYZ[\\]^_`")))
      (dRet [] (dOp dAdd (dVar 0) (dC (.str "abcdefghijklmnopqrstuvwxyz{|}~\n")))))
def f_l_signs : DFp := fun a R _ => dfP 0 1 w_l_signs a R fun _ _ => False
theorem ok_l_signs (T : Tx K mg) : FnOk P w K mg base CX0 1 T.l_signs.f T.l_signs.fd [] (spP K (cnT T) f_l_signs) :=
  lift0 (fn_pure T.l_signs.F sc_l_signs rfl fun cdv A outer s H E hr => ⟨_, (pss_cons (ps_frame (ps_set (i := 0) sc_l_signs.nd rfl (.inl rfl) pe_str))
      (pss_one (ps_ret (pe_frame (pe_op (r := rAddD K) op_addD (pv 0) pe_str))))),
    (ss_seq (ss_set [] 0 se_str)
      (ss_ret [] (se_op sr_add (se_var 0) se_str)))⟩)

def w_l_tops (s : Addr) : DS := (dSeqS (dSetO [] 2 dNewK)
      (dSeqS (dSet [] 3 (dC (.int 1)))
      (dSeqS (dFor [] (dSeq (dCallD s f_l_order (dCons (dVar 0) (dCons (dCB dList (dCons (dVar 1) dNil)) dNil)))) [4] (dgName 4) (dSeqS (dSet [] 5 (dOp dAdd (dC (.int 1)) (dCallD s f_l_draw (dCons (dVar 0) (dCons (dOp dIx (dLst (dCons (dC (.int 1)) (dCons (dC (.int 2)) (dCons (dC (.int 3)) dNil)))) (dCallD s f_l_draw (dCons (dVar 0) (dCons (dC (.int 3)) dNil)))) dNil)))))
      (dSeqS (dIfS [2] (dTv (dOp dGt (dOp dMul (dOp dMul (dVar 3) (dOp dAdd (dVar 5) (dC (.int 1)))) (dOp dIx (dLst (dCons (dC (.int 32)) (dCons (dC (.int 16)) (dCons (dC (.int 8)) (dCons (dC (.int 4)) (dCons (dC (.int 2)) (dCons (dC (.int 1)) dNil))))))) (dCB dLen (dCons (dVar 2) dNil)))) (dC (.int 256)))) (dSet [] 5 (dC (.int 1))) dNext)
      (dSeqS (dSet [] 3 (dOp dMul (dVar 3) (dOp dAdd (dVar 5) (dC (.int 1)))))
      (dPut [] 2 [] (dVar 4) (dVar 5))))))
      (dRet [2] (dVar 2)))))
def f_l_tops : DF := fun s a n R _ => dfD 2 4 (w_l_tops s) a n R fun _ _ _ => False
theorem ok_l_tops (T : Tx K mg) : FnOk P w K mg base CX0 3 T.l_tops.f T.l_tops.fd ["_law_state", "_law_pool"] (spD K (cnT T) f_l_tops) :=
  fn_draw T.l_tops.F sc_l_tops rfl fun sa cdv A outer s H E hr => ⟨_, (pss_cons (ps_frame (ps_set (i := 2) sc_l_tops.nd rfl (.inl rfl) pe_dnewK))
      (pss_cons (ps_frame (ps_set (i := 3) sc_l_tops.nd rfl (.inl rfl) pe_int))
      (pss_cons (ps_for PassesOwn.never rfl (pi_frame (pi_seqL (pcall T.l_order (ok_l_order T) (hr.mono (by decide)) (by rfl) pass0 (pa_cons (pv 0) (pa_cons (pe_callTy (r := rListD K) call_list_of (by rfl) T.m_list (by decide +kernel) (pa_cons (pv 1) pa_nil)) pa_nil))))) (pg_name (i := 4) sc_l_tops.nd rfl (.inl rfl)) (pss_cons (ps_frame (ps_set (i := 5) sc_l_tops.nd rfl (.inl rfl) (pe_op (r := rAddD K) op_addD pe_int (pcall T.l_draw (ok_l_draw T) (hr.mono (by decide)) (by rfl) pass0 (pa_cons (pv 0) (pa_cons (pe_ix (r := rIxD K) (ix_any (hu_of hr)) (pe_lst (pa_cons pe_int (pa_cons pe_int (pa_cons pe_int pa_nil)))) (pcall T.l_draw (ok_l_draw T) (hr.mono (by decide)) (by rfl) pass0 (pa_cons (pv 0) (pa_cons pe_int pa_nil))) (fun _ _ => rfl)) pa_nil))))))
      (pss_cons (ps_if (pt_frame (pt_cmpR (r := rOrdD (fun i j => decide (j < i)) fun a b => decide (b < a)) (op_or op_gt op_gt_str) (pe_op (r := rMulD K) op_mulD (pe_op (r := rMulD K) op_mulD (pv 3) (pe_op (r := rAddD K) op_addD (pv 5) pe_int)) (pe_ix (r := rIxD K) (ix_any (hu_of hr)) (pe_lst (pa_cons pe_int (pa_cons pe_int (pa_cons pe_int (pa_cons pe_int (pa_cons pe_int (pa_cons pe_int pa_nil))))))) (pe_callB (r := rLenD K) call_lenA (by rfl) T.m_len (by decide +kernel) (pa_cons (pv 2) pa_nil)) (fun _ _ => rfl))) pe_int (nomark _))) (pss_one (ps_frame (ps_set (i := 5) sc_l_tops.nd rfl (.inl rfl) pe_int))) pss_nil)
      (pss_cons (ps_frame (ps_set (i := 3) sc_l_tops.nd rfl (.inl rfl) (pe_op (r := rMulD K) op_mulD (pv 3) (pe_op (r := rAddD K) op_addD (pv 5) pe_int))))
      (pss_one (ps_dput (hu_of hr) (pv 2) (pe_frame (pv 4)) (pe_frame (pv 5)) rfl))))))
      (pss_one (ps_ret (pe_frame (pv 2))))))),
    (ss_seq (ss_setO [] 2 sef_newK)
      (ss_seq (ss_set [] 3 se_int)
      (ss_seq (ss_for [] (si_seq (se_callD rfl (sa_cons (se_var 0) (sa_cons (se_cb sc_list (sa_cons (se_var 1) sa_nil)) sa_nil)))) (sg_name 4) (ss_seq (ss_set [] 5 (se_op sr_add se_int (se_callD rfl (sa_cons (se_var 0) (sa_cons (se_op sr_ix (se_lst (sa_cons se_int (sa_cons se_int (sa_cons se_int sa_nil)))) (se_callD rfl (sa_cons (se_var 0) (sa_cons se_int sa_nil)))) sa_nil)))))
      (ss_seq (ss_if [2] (st_test (se_op sr_ord (se_op sr_mul (se_op sr_mul (se_var 3) (se_op sr_add (se_var 5) se_int)) (se_op sr_ix (se_lst (sa_cons se_int (sa_cons se_int (sa_cons se_int (sa_cons se_int (sa_cons se_int (sa_cons se_int sa_nil))))))) (se_cb sc_len (sa_cons (se_var 2) sa_nil)))) se_int)) (ss_set [] 5 se_int) ss_next)
      (ss_seq (ss_set [] 3 (se_op sr_mul (se_var 3) (se_op sr_add (se_var 5) se_int)))
      (ss_put [] 2 [] (se_var 5) (se_var 4))))))
      (ss_ret [2] (se_var 2)))))⟩

def w_l_arrows (s : Addr) : DS := (dSeqS (dSetO [] 2 (dLst dNil))
      (dSeqS (dSet [] 3 (dOp dIx (dLst (dCons (dC (.int 2)) (dCons (dC (.int 3)) (dCons (dC (.int 5)) dNil)))) (dCallD s f_l_draw (dCons (dVar 0) (dCons (dC (.int 3)) dNil)))))
      (dSeqS (dSet [] 4 (dCallD s f_l_draw (dCons (dVar 0) (dCons (dC (.int 4)) dNil))))
      (dSeqS (dSet [] 5 (dCallD s f_l_order (dCons (dVar 0) (dCons (dCB dList (dCons (dVar 1) dNil)) dNil))))
      (dSeqS (dSet [] 6 (dOp dIx (dLst (dCons (dC (.int 12)) (dCons (dC (.int 36)) dNil))) (dCB dInt (dCons (dOp dEq (dCallD s f_l_draw (dCons (dVar 0) (dCons (dC (.int 8)) dNil))) (dC (.int 0))) dNil))))
      (dSeqS (dFor [] (dSeq (dVar 1)) [7] (dgName 7) (dFor [] (dSeq (dVar 1)) [8] (dgName 8) (dSeqS (dSet [] 9 (dOp dIx (dLst (dCons (dC (.str "+")) (dCons (dC (.str "+")) (dCons (dC (.str "-")) (dCons (dC (.str "-")) (dCons (dC (.str "?")) dNil)))))) (dCallD s f_l_draw (dCons (dVar 0) (dCons (dOp dIx (dLst (dCons (dC (.int 5)) (dCons (dC (.int 4)) (dCons (dC (.int 2)) (dCons (dC (.int 5)) dNil))))) (dVar 4)) dNil)))))
      (dSeqS (dSet [] 10 (dOp dLt (dIndex (dVar 5) (dCons (dVar 7) dNil)) (dIndex (dVar 5) (dCons (dVar 8) dNil))))
      (dIfS [2] (dTand (dTv (dOp dEq (dCallD s f_l_draw (dCons (dVar 0) (dCons (dVar 3) dNil))) (dC (.int 0)))) (dTand (dTv (dOp dLt (dCB dLen (dCons (dVar 2) dNil)) (dVar 6))) (dTor (dTv (dOp dNe (dVar 4) (dC (.int 3)))) (dTv (dVar 10))))) (dApp [] 2 (dTup (dCons (dVar 7) (dCons (dVar 8) (dCons (dVar 9) dNil))))) dNext)))))
      (dRet [2] (dCallD s f_l_order (dCons (dVar 0) (dCons (dVar 2) dNil))))))))))
def f_l_arrows : DF := fun s a n R _ => dfD 2 9 (w_l_arrows s) a n R fun _ _ _ => False
theorem ok_l_arrows (T : Tx K mg) : FnOk P w K mg base CX0 3 T.l_arrows.f T.l_arrows.fd ["_law_state", "_law_pool"] (spD K (cnT T) f_l_arrows) :=
  fn_draw T.l_arrows.F sc_l_arrows rfl fun sa cdv A outer s H E hr => ⟨_, (pss_cons (ps_frame (ps_set (i := 2) sc_l_arrows.nd rfl (.inl rfl) (pe_lst pa_nil)))
      (pss_cons (ps_frame (ps_set (i := 3) sc_l_arrows.nd rfl (.inl rfl) (pe_ix (r := rIxD K) (ix_any (hu_of hr)) (pe_lst (pa_cons pe_int (pa_cons pe_int (pa_cons pe_int pa_nil)))) (pcall T.l_draw (ok_l_draw T) (hr.mono (by decide)) (by rfl) pass0 (pa_cons (pv 0) (pa_cons pe_int pa_nil))) (fun _ _ => rfl))))
      (pss_cons (ps_frame (ps_set (i := 4) sc_l_arrows.nd rfl (.inl rfl) (pcall T.l_draw (ok_l_draw T) (hr.mono (by decide)) (by rfl) pass0 (pa_cons (pv 0) (pa_cons pe_int pa_nil)))))
      (pss_cons (ps_frame (ps_set (i := 5) sc_l_arrows.nd rfl (.inl rfl) (pcall T.l_order (ok_l_order T) (hr.mono (by decide)) (by rfl) pass0 (pa_cons (pv 0) (pa_cons (pe_callTy (r := rListD K) call_list_of (by rfl) T.m_list (by decide +kernel) (pa_cons (pv 1) pa_nil)) pa_nil)))))
      (pss_cons (ps_frame (ps_set (i := 6) sc_l_arrows.nd rfl (.inl rfl) (pe_ix (r := rIxD K) (ix_any (hu_of hr)) (pe_lst (pa_cons pe_int (pa_cons pe_int pa_nil))) (pe_callTy call_int1 (by rfl) T.m_int (by decide +kernel) (pa_cons (pe_cmpR (r := rEqD K) (op_eqD hr.units) (pcall T.l_draw (ok_l_draw T) (hr.mono (by decide)) (by rfl) pass0 (pa_cons (pv 0) (pa_cons pe_int pa_nil))) pe_int (nomark _)) pa_nil)) (fun _ _ => rfl))))
      (pss_cons (ps_for PassesOwn.never rfl (pi_frame (pi_seqL (pv 1))) (pg_name (i := 7) sc_l_arrows.nd rfl (.inl rfl)) (pss_one (ps_for PassesOwn.never rfl (pi_frame (pi_seqL (pv 1))) (pg_name (i := 8) sc_l_arrows.nd rfl (.inl rfl)) (pss_cons (ps_frame (ps_set (i := 9) sc_l_arrows.nd rfl (.inl rfl) (pe_ix (r := rIxD K) (ix_any (hu_of hr)) (pe_lst (pa_cons pe_str (pa_cons pe_str (pa_cons pe_str (pa_cons pe_str (pa_cons pe_str pa_nil)))))) (pcall T.l_draw (ok_l_draw T) (hr.mono (by decide)) (by rfl) pass0 (pa_cons (pv 0) (pa_cons (pe_ix (r := rIxD K) (ix_any (hu_of hr)) (pe_lst (pa_cons pe_int (pa_cons pe_int (pa_cons pe_int (pa_cons pe_int pa_nil))))) (pv 4) (fun _ _ => rfl)) pa_nil))) (fun _ _ => rfl))))
      (pss_cons (ps_frame (ps_set (i := 10) sc_l_arrows.nd rfl (.inl rfl) (pe_cmpR (r := rOrdD (fun i j => decide (i < j)) fun a b => decide (a < b)) (op_or op_lt op_lt_str) (pe_bm PySem.F.plainAttrs_list PySem.F.slot_list_index PySem.F.type_list_index mt_index (pv 5) (pa_cons (pv 7) pa_nil)) (pe_bm PySem.F.plainAttrs_list PySem.F.slot_list_index PySem.F.type_list_index mt_index (pv 5) (pa_cons (pv 8) pa_nil)) (nomark _))))
      (pss_one (ps_if (pt_frame (PW.pt (pw_and (pt_cmpR (r := rEqD K) (op_eqD hr.units) (pcall T.l_draw (ok_l_draw T) (hr.mono (by decide)) (by rfl) pass0 (pa_cons (pv 0) (pa_cons (pv 3) pa_nil))) pe_int (nomark _)) (pw_and (pt_cmpR (r := rOrdD (fun i j => decide (i < j)) fun a b => decide (a < b)) (op_or op_lt op_lt_str) (pe_callB (r := rLenD K) call_lenA (by rfl) T.m_len (by decide +kernel) (pa_cons (pv 2) pa_nil)) (pv 6) (nomark _)) (pw_and1 (PW.pt (pw_or (pt_cmpR (r := rNeD K) (op_neD hr.units) (pv 4) pe_int (nomark _)) (pw_or1 (pt_val (pv 10)))))))))) (pss_one (ps_expr (pe_bm PySem.F.plainAttrs_list PySem.F.slot_list_append PySem.F.type_list_append mt_append (pv 2) (pa_frame (pa_cons (pe_tup (pa_cons (pv 7) (pa_cons (pv 8) (pa_cons (pv 9) pa_nil)))) pa_nil))))) pss_nil)))))))
      (pss_one (ps_ret (pe_frame (pcall T.l_order (ok_l_order T) (hr.mono (by decide)) (by rfl) pass0 (pa_cons (pv 0) (pa_cons (pv 2) pa_nil)))))))))))),
    (ss_seq (ss_setO [] 2 (sef_lst sa_nil))
      (ss_seq (ss_set [] 3 (se_op sr_ix (se_lst (sa_cons se_int (sa_cons se_int (sa_cons se_int sa_nil)))) (se_callD rfl (sa_cons (se_var 0) (sa_cons se_int sa_nil)))))
      (ss_seq (ss_set [] 4 (se_callD rfl (sa_cons (se_var 0) (sa_cons se_int sa_nil))))
      (ss_seq (ss_set [] 5 (se_callD rfl (sa_cons (se_var 0) (sa_cons (se_cb sc_list (sa_cons (se_var 1) sa_nil)) sa_nil))))
      (ss_seq (ss_set [] 6 (se_op sr_ix (se_lst (sa_cons se_int (sa_cons se_int sa_nil))) (se_cb sc_int (sa_cons (se_op sr_eqD (se_callD rfl (sa_cons (se_var 0) (sa_cons se_int sa_nil))) se_int) sa_nil))))
      (ss_seq (ss_for [] (si_seq (se_var 1)) (sg_name 7) (ss_for [] (si_seq (se_var 1)) (sg_name 8) (ss_seq (ss_set [] 9 (se_op sr_ix (se_lst (sa_cons se_str (sa_cons se_str (sa_cons se_str (sa_cons se_str (sa_cons se_str sa_nil)))))) (se_callD rfl (sa_cons (se_var 0) (sa_cons (se_op sr_ix (se_lst (sa_cons se_int (sa_cons se_int (sa_cons se_int (sa_cons se_int sa_nil))))) (se_var 4)) sa_nil)))))
      (ss_seq (ss_set [] 10 (se_op sr_ord (se_index (se_var 5) (sa_cons (se_var 7) sa_nil)) (se_index (se_var 5) (sa_cons (se_var 8) sa_nil))))
      (ss_if [2] (st_and (st_test (se_op sr_eqD (se_callD rfl (sa_cons (se_var 0) (sa_cons (se_var 3) sa_nil))) se_int)) (st_and (st_test (se_op sr_ord (se_cb sc_len (sa_cons (se_var 2) sa_nil)) (se_var 6))) (st_or (st_test (se_op sr_neD (se_var 4) se_int)) (st_b (se_var 10))))) (ss_app [] 2 (se_tup (sa_cons (se_var 7) (sa_cons (se_var 8) (sa_cons (se_var 9) sa_nil))))) ss_next)))))
      (ss_ret [2] (se_callD rfl (sa_cons (se_var 0) (sa_cons (se_var 2) sa_nil))))))))))⟩

def w_l_text : DS := (dSeqS (dSet [] 2 (dLst (dCons (dJoin (dC (.str " ")) (dLc (dSeq (dCB dSorted (dCons (dVar 0) dNil))) (dgName 3) dTyes (dOp dAdd (dOp dAdd (dVar 3) (dC (.str ":"))) (dCB dStrI (dCons (dOp dIx (dVar 0) (dVar 3)) dNil))) [3])) dNil)))
      (dRet [] (dJoin (dC (.str "; ")) (dOp dAdd (dVar 2) (dLc (dSeq (dCB dSorted (dCons (dVar 1) dNil))) (dgName 4) dTyes (dOp dAdd (dOp dAdd (dOp dAdd (dOp dAdd (dOp dIx (dVar 4) (dC (.int 0))) (dC (.str " "))) (dOp dIx (dVar 4) (dC (.int 2)))) (dC (.str " "))) (dOp dIx (dVar 4) (dC (.int 1)))) [4])))))
def f_l_text : DFp := fun a R _ => dfP 2 3 w_l_text a R fun _ _ => False
theorem ok_l_text (T : Tx K mg) : FnOk P w K mg base CX0 1 T.l_text.f T.l_text.fd ["_law_peaks_here", "_law_links"] (spP K (cnT T) f_l_text) :=
  lift0 (fn_pure T.l_text.F sc_l_text rfl fun cdv A outer s H E hr => ⟨_, (pss_cons (ps_frame (ps_set (i := 2) sc_l_text.nd rfl (.inl rfl) (pe_lst (pa_cons (pe_join pe_str (pe_lc (own := [("_law_label", 3)]) (g := gName 3) (tt := ttFr tYes) rfl sc_l_text.nd (pi_seqL (pe_callB (r := rSortA K) (cr_sortA rfl hr.units) (by rfl) T.m_sorted (by decide +kernel) (pa_cons (pv 0) pa_nil))) (blkOk_by (own := [("_law_label", 3)]) (N := N_l_text) (sc := defScope s_l_text) (by decide +kernel)) (fun _ _ _ _ _ => (pg_name (i := 3) sc_l_text.nd rfl (.inl rfl))) (fun _ _ _ _ _ => pts_yesF) (fun _ _ _ _ _ => (pe_frame (pe_op (r := rAddD K) op_addD (pe_op (r := rAddD K) op_addD (pv 3) pe_str) (pe_callTy call_str_int (by rfl) T.m_str (by decide +kernel) (pa_cons (pe_ix (r := rIxD K) (ix_any (hu_of hr)) (pv 0) (pv 3) (fun _ _ => rfl)) pa_nil))))))) pa_nil))))
      (pss_one (ps_ret (pe_frame (pe_join pe_str (pe_op (r := rAddD K) op_addD (pv 2) (pe_lc (own := [("_law_link", 4)]) (g := gName 4) (tt := ttFr tYes) rfl sc_l_text.nd (pi_seqL (pe_callB (r := rSortA K) (cr_sortA rfl hr.units) (by rfl) T.m_sorted (by decide +kernel) (pa_cons (pv 1) pa_nil))) (blkOk_by (own := [("_law_link", 4)]) (N := N_l_text) (sc := defScope s_l_text) (by decide +kernel)) (fun _ _ _ _ _ => (pg_name (i := 4) sc_l_text.nd rfl (.inl rfl))) (fun _ _ _ _ _ => pts_yesF) (fun _ _ _ _ _ => (pe_frame (pe_op (r := rAddD K) op_addD (pe_op (r := rAddD K) op_addD (pe_op (r := rAddD K) op_addD (pe_op (r := rAddD K) op_addD (pe_ix (r := rIxD K) (ix_any (hu_of hr)) (pv 4) pe_int (fun _ _ => rfl)) pe_str) (pe_ix (r := rIxD K) (ix_any (hu_of hr)) (pv 4) pe_int (fun _ _ => rfl))) pe_str) (pe_ix (r := rIxD K) (ix_any (hu_of hr)) (pv 4) pe_int (fun _ _ => rfl)))))))))))),
    (ss_seq (ss_set [] 2 (se_lst (sa_cons (se_join se_str (se_lc (si_seq (se_cb sc_sorted (sa_cons (se_var 0) sa_nil))) (sg_name 3) st_yes (se_op sr_add (se_op sr_add (se_var 3) se_str) (se_cb sc_strI (sa_cons (se_op sr_ix (se_var 0) (se_var 3)) sa_nil))))) sa_nil)))
      (ss_ret [] (se_join se_str (se_op sr_add (se_var 2) (se_lc (si_seq (se_cb sc_sorted (sa_cons (se_var 1) sa_nil))) (sg_name 4) st_yes (se_op sr_add (se_op sr_add (se_op sr_add (se_op sr_add (se_op sr_ix (se_var 4) se_int) se_str) (se_op sr_ix (se_var 4) se_int)) se_str) (se_op sr_ix (se_var 4) se_int)))))))⟩)

def w_l_spoiled (s : Addr) : DS := (dSeqS (dSet [] 2 (dOp dAdd (dCall0 f_l_signs dNil) (dC (.str ";:+-?123 "))))
      (dSeqS (dSet [] 3 (dOp dIx (dVar 2) (dCallD s f_l_draw (dCons (dVar 0) (dCons (dCB dLen (dCons (dVar 2) dNil)) dNil)))))
      (dSeqS (dSet [] 4 (dCallD s f_l_draw (dCons (dVar 0) (dCons (dOp dAdd (dCB dLen (dCons (dVar 1) dNil)) (dC (.int 1))) dNil))))
      (dSeqS (dSet [] 5 (dCallD s f_l_draw (dCons (dVar 0) (dCons (dC (.int 7)) dNil))))
      (dSeqS (dIfS [] (dTv (dOp dLt (dVar 5) (dC (.int 3)))) (dRet [] (dOp dAdd (dOp dAdd (dSl (dVar 1) dNoneO (dPart (dVar 4))) (dOp dIx (dLst (dCons (dC (.str "")) (dCons (dVar 3) (dCons (dVar 3) dNil)))) (dVar 5))) (dSl (dVar 1) (dPart (dOp dAdd (dVar 4) (dOp dIx (dLst (dCons (dC (.int 1)) (dCons (dC (.int 0)) (dCons (dC (.int 1)) dNil)))) (dVar 5)))) dNoneO))) dNext)
      (dSeqS (dSet [] 6 (dOp dIx (dLst (dCons (dC (.str "; ")) (dCons (dC (.str " ")) (dCons (dC (.str ":")) dNil)))) (dCallD s f_l_draw (dCons (dVar 0) (dCons (dC (.int 3)) dNil)))))
      (dSeqS (dSetO [] 7 (dSplit (dVar 1) (dVar 6)))
      (dSeqS (dSet [7] 8 (dCallD s f_l_draw (dCons (dVar 0) (dCons (dCB dLen (dCons (dVar 7) dNil)) dNil))))
      (dSeqS (dIfS [] (dTv (dOp dEq (dVar 5) (dC (.int 3)))) (dSeqS (dSet [] 9 (dLst (dCons (dC (.str "")) (dCons (dC (.str "a:1")) (dCons (dC (.str "zz9")) (dCons (dC (.str "X:1")) (dCons (dC (.str "a + a")) (dCons (dC (.str "a+a")) (dCons (dC (.str "a + + a")) (dCons (dC (.str "a:4")) (dCons (dC (.str "a:0")) (dCons (dC (.str "a:01")) (dCons (dC (.str "a : 1")) (dCons (dC (.str "a ? zz9")) (dCons (dC (.str "a\nb")) dNil)))))))))))))))
      (dLput [] 7 [] (dVar 8) (dOp dIx (dVar 9) (dCallD s f_l_draw (dCons (dVar 0) (dCons (dC (.int 13)) dNil)))))) dNext)
      (dSeqS (dIfS [] (dTv (dOp dEq (dVar 5) (dC (.int 4)))) (dSetO [7] 7 (dAddL (dSl (dVar 7) dNoneO (dPart (dVar 8))) (dSl (dVar 7) (dPart (dOp dAdd (dVar 8) (dC (.int 1)))) dNoneO))) dNext)
      (dSeqS (dIfS [] (dTv (dOp dEq (dVar 5) (dC (.int 5)))) (dSetO [7] 7 (dAddL (dSl (dVar 7) dNoneO (dPart (dOp dAdd (dVar 8) (dC (.int 1))))) (dSl (dVar 7) (dPart (dVar 8)) dNoneO))) dNext)
      (dSeqS (dIfS [] (dTv (dOp dEq (dVar 5) (dC (.int 6)))) (dSetO [7] 7 (dAddL (dSl (dVar 7) dNoneO (dPart (dVar 8))) (dRevL (dSl (dVar 7) (dPart (dVar 8)) dNoneO)))) dNext)
      (dRet [7] (dJoin (dVar 6) (dVar 7)))))))))))))))
def f_l_spoiled : DF := fun s a n R _ => dfD 2 8 (w_l_spoiled s) a n R fun _ _ _ => False
theorem ok_l_spoiled (T : Tx K mg) : FnOk P w K mg base CX0 2 T.l_spoiled.f T.l_spoiled.fd ["_law_state", "_law_word"] (spD K (cnT T) f_l_spoiled) :=
  fn_draw T.l_spoiled.F sc_l_spoiled rfl fun sa cdv A outer s H E hr => ⟨_, (pss_cons (ps_frame (ps_set (i := 2) sc_l_spoiled.nd rfl (.inl rfl) (pe_op (r := rAddD K) op_addD (pe_call0 (ok_l_signs T) (hr.mono (by decide)) (by rfl) T.l_signs.g T.l_signs.F.kp T.l_signs.b .nil pass0) pe_str)))
      (pss_cons (ps_frame (ps_set (i := 3) sc_l_spoiled.nd rfl (.inl rfl) (pe_ix (r := rIxD K) (ix_any (hu_of hr)) (pv 2) (pcall T.l_draw (ok_l_draw T) (hr.mono (by decide)) (by rfl) pass0 (pa_cons (pv 0) (pa_cons (pe_callB (r := rLenD K) call_lenA (by rfl) T.m_len (by decide +kernel) (pa_cons (pv 2) pa_nil)) pa_nil))) (fun _ _ => rfl))))
      (pss_cons (ps_frame (ps_set (i := 4) sc_l_spoiled.nd rfl (.inl rfl) (pcall T.l_draw (ok_l_draw T) (hr.mono (by decide)) (by rfl) pass0 (pa_cons (pv 0) (pa_cons (pe_op (r := rAddD K) op_addD (pe_callB (r := rLenD K) call_lenA (by rfl) T.m_len (by decide +kernel) (pa_cons (pv 1) pa_nil)) pe_int) pa_nil)))))
      (pss_cons (ps_frame (ps_set (i := 5) sc_l_spoiled.nd rfl (.inl rfl) (pcall T.l_draw (ok_l_draw T) (hr.mono (by decide)) (by rfl) pass0 (pa_cons (pv 0) (pa_cons pe_int pa_nil)))))
      (pss_cons (ps_if (pt_frame (pt_cmpR (r := rOrdD (fun i j => decide (i < j)) fun a b => decide (a < b)) (op_or op_lt op_lt_str) (pv 5) pe_int (nomark _))) (pss_one (ps_ret (pe_frame (pe_op (r := rAddD K) op_addD (pe_op (r := rAddD K) op_addD (pe_slice (r := rSlD K) sl_any (pv 1) po_none (po_some (pv 4))) (pe_ix (r := rIxD K) (ix_any (hu_of hr)) (pe_lst (pa_cons pe_str (pa_cons (pv 3) (pa_cons (pv 3) pa_nil)))) (pv 5) (fun _ _ => rfl))) (pe_slice (r := rSlD K) sl_any (pv 1) (po_some (pe_op (r := rAddD K) op_addD (pv 4) (pe_ix (r := rIxD K) (ix_any (hu_of hr)) (pe_lst (pa_cons pe_int (pa_cons pe_int (pa_cons pe_int pa_nil)))) (pv 5) (fun _ _ => rfl)))) po_none))))) pss_nil)
      (pss_cons (ps_frame (ps_set (i := 6) sc_l_spoiled.nd rfl (.inl rfl) (pe_ix (r := rIxD K) (ix_any (hu_of hr)) (pe_lst (pa_cons pe_str (pa_cons pe_str (pa_cons pe_str pa_nil)))) (pcall T.l_draw (ok_l_draw T) (hr.mono (by decide)) (by rfl) pass0 (pa_cons (pv 0) (pa_cons pe_int pa_nil))) (fun _ _ => rfl))))
      (pss_cons (ps_frame (ps_set (i := 7) sc_l_spoiled.nd rfl (.inl rfl) (pe_split (pv 1) (pv 6))))
      (pss_cons (ps_frame (ps_set (i := 8) sc_l_spoiled.nd rfl (.inl rfl) (pcall T.l_draw (ok_l_draw T) (hr.mono (by decide)) (by rfl) pass0 (pa_cons (pv 0) (pa_cons (pe_callB (r := rLenD K) call_lenA (by rfl) T.m_len (by decide +kernel) (pa_cons (pv 7) pa_nil)) pa_nil)))))
      (pss_cons (ps_if (pt_frame (pt_cmpR (r := rEqD K) (op_eqD hr.units) (pv 5) pe_int (nomark _))) (pss_cons (ps_frame (ps_set (i := 9) sc_l_spoiled.nd rfl (.inl rfl) (pe_lst (pa_cons pe_str (pa_cons pe_str (pa_cons pe_str (pa_cons pe_str (pa_cons pe_str (pa_cons pe_str (pa_cons pe_str (pa_cons pe_str (pa_cons pe_str (pa_cons pe_str (pa_cons pe_str (pa_cons pe_str (pa_cons pe_str pa_nil))))))))))))))))
      (pss_one (ps_asg (pe_frame (pe_ix (r := rIxD K) (ix_any (hu_of hr)) (pv 9) (pcall T.l_draw (ok_l_draw T) (hr.mono (by decide)) (by rfl) pass0 (pa_cons (pv 0) (pa_cons pe_int pa_nil))) (fun _ _ => rfl))) (pg_sub (pv 7) (pe_frame (pv 8)) set_list)))) pss_nil)
      (pss_cons (ps_if (pt_frame (pt_cmpR (r := rEqD K) (op_eqD hr.units) (pv 5) pe_int (nomark _))) (pss_one (ps_frame (ps_set (i := 7) sc_l_spoiled.nd rfl (.inl rfl) (pe_op (r := rAddD K) op_addD (pe_slice (r := rSlD K) sl_any (pv 7) po_none (po_some (pv 8))) (pe_slice (r := rSlD K) sl_any (pv 7) (po_some (pe_op (r := rAddD K) op_addD (pv 8) pe_int)) po_none))))) pss_nil)
      (pss_cons (ps_if (pt_frame (pt_cmpR (r := rEqD K) (op_eqD hr.units) (pv 5) pe_int (nomark _))) (pss_one (ps_frame (ps_set (i := 7) sc_l_spoiled.nd rfl (.inl rfl) (pe_op (r := rAddD K) op_addD (pe_slice (r := rSlD K) sl_any (pv 7) po_none (po_some (pe_op (r := rAddD K) op_addD (pv 8) pe_int))) (pe_slice (r := rSlD K) sl_any (pv 7) (po_some (pv 8)) po_none))))) pss_nil)
      (pss_cons (ps_if (pt_frame (pt_cmpR (r := rEqD K) (op_eqD hr.units) (pv 5) pe_int (nomark _))) (pss_one (ps_frame (ps_set (i := 7) sc_l_spoiled.nd rfl (.inl rfl) (pe_op (r := rAddD K) op_addD (pe_slice (r := rSlD K) sl_any (pv 7) po_none (po_some (pv 8))) (pe_revL (pe_slice (r := rSlD K) sl_any (pv 7) (po_some (pv 8)) po_none)))))) pss_nil)
      (pss_one (ps_ret (pe_frame (pe_join (pv 6) (pv 7))))))))))))))))),
    (ss_seq (ss_set [] 2 (se_op sr_add (se_call0 sa_nil) se_str))
      (ss_seq (ss_set [] 3 (se_op sr_ix (se_var 2) (se_callD rfl (sa_cons (se_var 0) (sa_cons (se_cb sc_len (sa_cons (se_var 2) sa_nil)) sa_nil)))))
      (ss_seq (ss_set [] 4 (se_callD rfl (sa_cons (se_var 0) (sa_cons (se_op sr_add (se_cb sc_len (sa_cons (se_var 1) sa_nil)) se_int) sa_nil))))
      (ss_seq (ss_set [] 5 (se_callD rfl (sa_cons (se_var 0) (sa_cons se_int sa_nil))))
      (ss_seq (ss_if [] (st_test (se_op sr_ord (se_var 5) se_int)) (ss_ret [] (se_op sr_add (se_op sr_add (se_sl (se_var 1) so_none (so_part (se_var 4))) (se_op sr_ix (se_lst (sa_cons se_str (sa_cons (se_var 3) (sa_cons (se_var 3) sa_nil)))) (se_var 5))) (se_sl (se_var 1) (so_part (se_op sr_add (se_var 4) (se_op sr_ix (se_lst (sa_cons se_int (sa_cons se_int (sa_cons se_int sa_nil)))) (se_var 5)))) so_none))) ss_next)
      (ss_seq (ss_set [] 6 (se_op sr_ix (se_lst (sa_cons se_str (sa_cons se_str (sa_cons se_str sa_nil)))) (se_callD rfl (sa_cons (se_var 0) (sa_cons se_int sa_nil)))))
      (ss_seq (ss_setO [] 7 (sef_split (se_var 1) (se_var 6)))
      (ss_seq (ss_set [7] 8 (se_callD rfl (sa_cons (se_var 0) (sa_cons (se_cb sc_len (sa_cons (se_var 7) sa_nil)) sa_nil))))
      (ss_seq (ss_if [] (st_test (se_op sr_eqD (se_var 5) se_int)) (ss_seq (ss_set [] 9 (se_lst (sa_cons se_str (sa_cons se_str (sa_cons se_str (sa_cons se_str (sa_cons se_str (sa_cons se_str (sa_cons se_str (sa_cons se_str (sa_cons se_str (sa_cons se_str (sa_cons se_str (sa_cons se_str (sa_cons se_str sa_nil)))))))))))))))
      (ss_lput [] 7 [] (se_op sr_ix (se_var 9) (se_callD rfl (sa_cons (se_var 0) (sa_cons se_int sa_nil)))) (se_var 8))) ss_next)
      (ss_seq (ss_if [] (st_test (se_op sr_eqD (se_var 5) se_int)) (ss_setO [7] 7 (sef_add (se_sl (se_var 7) so_none (so_part (se_var 8))) (se_sl (se_var 7) (so_part (se_op sr_add (se_var 8) se_int)) so_none))) ss_next)
      (ss_seq (ss_if [] (st_test (se_op sr_eqD (se_var 5) se_int)) (ss_setO [7] 7 (sef_add (se_sl (se_var 7) so_none (so_part (se_op sr_add (se_var 8) se_int))) (se_sl (se_var 7) (so_part (se_var 8)) so_none))) ss_next)
      (ss_seq (ss_if [] (st_test (se_op sr_eqD (se_var 5) se_int)) (ss_setO [7] 7 (sef_add (se_sl (se_var 7) so_none (so_part (se_var 8))) (se_revL (se_sl (se_var 7) (so_part (se_var 8)) so_none)))) ss_next)
      (ss_ret [7] (se_join (se_var 6) (se_var 7)))))))))))))))⟩

def w_l_peaks : DS := (dSeqS (dSetO [] 1 dNewK)
      (dSeqS (dFor [] (dSeq (dSplit (dVar 0) (dC (.str " ")))) [2] (dgName 2) (dSeqS (dSet [] 3 (dSplit (dVar 2) (dC (.str ":"))))
      (dSeqS (dIfS [1] (dTor (dTv (dOp dNe (dCB dLen (dCons (dVar 3) dNil)) (dC (.int 2)))) (dTor (dTv (dOp dNotIn (dOp dIx (dVar 3) (dC (.int 1))) (dLst (dCons (dC (.str "1")) (dCons (dC (.str "2")) (dCons (dC (.str "3")) dNil)))))) (dTor (dTnot (dTv (dCall0 f_l_good (dCons (dOp dIx (dVar 3) (dC (.int 0))) dNil)))) (dTv (dOp dIn (dOp dIx (dVar 3) (dC (.int 0))) (dVar 1)))))) (dRet [] dNewK) dNext)
      (dPut [] 1 [] (dOp dIx (dVar 3) (dC (.int 0))) (dCB dIntS (dCons (dOp dIx (dVar 3) (dC (.int 1))) dNil))))))
      (dRet [1] (dVar 1))))
def f_l_peaks : DFp := fun a R _ => dfP 1 3 w_l_peaks a R fun _ _ => False
theorem ok_l_peaks (T : Tx K mg) : FnOk P w K mg base CX0 2 T.l_peaks.f T.l_peaks.fd ["_law_word"] (spP K (cnT T) f_l_peaks) :=
  lift0 (fn_pure T.l_peaks.F sc_l_peaks rfl fun cdv A outer s H E hr => ⟨_, (pss_cons (ps_frame (ps_set (i := 1) sc_l_peaks.nd rfl (.inl rfl) pe_dnewK))
      (pss_cons (ps_for PassesOwn.never rfl (pi_frame (pi_seqL (pe_split (pv 0) pe_str))) (pg_name (i := 2) sc_l_peaks.nd rfl (.inl rfl)) (pss_cons (ps_frame (ps_set (i := 3) sc_l_peaks.nd rfl (.inl rfl) (pe_split (pv 2) pe_str)))
      (pss_cons (ps_if (pt_frame (PW.pt (pw_or (pt_cmpR (r := rNeD K) (op_neD hr.units) (pe_callB (r := rLenD K) call_lenA (by rfl) T.m_len (by decide +kernel) (pa_cons (pv 3) pa_nil)) pe_int (nomark _)) (pw_or (pt_cmpR (r := rNotInA K) (op_notInA hr) (pe_ix (r := rIxD K) (ix_any (hu_of hr)) (pv 3) pe_int (fun _ _ => rfl)) (pe_lst (pa_cons pe_str (pa_cons pe_str (pa_cons pe_str pa_nil)))) rfl) (pw_or (pt_not (pt_val (pcall T.l_good (ok_l_good T) (hr.mono (by decide)) (by rfl) pass0 (pa_cons (pe_ix (r := rIxD K) (ix_any (hu_of hr)) (pv 3) pe_int (fun _ _ => rfl)) pa_nil)))) (pw_or1 (pt_cmpR (r := rInA K) (op_inA hr) (pe_ix (r := rIxD K) (ix_any (hu_of hr)) (pv 3) pe_int (fun _ _ => rfl)) (pv 1) rfl))))))) (pss_one (ps_ret (pe_frame pe_dnewK))) pss_nil)
      (pss_one (ps_dput (hu_of hr) (pv 1) (pe_frame (pe_ix (r := rIxD K) (ix_any (hu_of hr)) (pv 3) pe_int (fun _ _ => rfl))) (pe_frame (pe_callTy call_int_str (by rfl) T.m_int (by decide +kernel) (pa_cons (pe_ix (r := rIxD K) (ix_any (hu_of hr)) (pv 3) pe_int (fun _ _ => rfl)) pa_nil))) rfl)))))
      (pss_one (ps_ret (pe_frame (pv 1)))))),
    (ss_seq (ss_setO [] 1 sef_newK)
      (ss_seq (ss_for [] (si_seq (se_split (se_var 0) se_str)) (sg_name 2) (ss_seq (ss_set [] 3 (se_split (se_var 2) se_str))
      (ss_seq (ss_if [1] (st_or (st_test (se_op sr_neD (se_cb sc_len (sa_cons (se_var 3) sa_nil)) se_int)) (st_or (st_test (se_op sr_notIn (se_op sr_ix (se_var 3) se_int) (se_lst (sa_cons se_str (sa_cons se_str (sa_cons se_str sa_nil)))))) (st_or (st_not (st_b (se_call0 (sa_cons (se_op sr_ix (se_var 3) se_int) sa_nil)))) (st_test (se_op sr_in (se_op sr_ix (se_var 3) se_int) (se_var 1)))))) (ss_ret [] se_newK) ss_next)
      (ss_put [] 1 [] (se_cb sc_intS (sa_cons (se_op sr_ix (se_var 3) se_int) sa_nil)) (se_op sr_ix (se_var 3) se_int)))))
      (ss_ret [1] (se_var 1))))⟩)

def w_l_due : DS := (dSeqS (dSet [] 1 (dSplit (dVar 0) (dC (.str "; "))))
      (dSeqS (dSet [] 2 (dCall0 f_l_peaks (dCons (dOp dIx (dVar 1) (dC (.int 0))) dNil)))
      (dSeqS (dSet [] 3 (dC (.int 1)))
      (dSeqS (dForK 2 [4] (dgName 4) (dSet [] 3 (dOp dMul (dVar 3) (dOp dAdd (dOp dIx (dVar 2) (dVar 4)) (dC (.int 1))))))
      (dSeqS (dIfS [] (dTor (dTv (dOp dEqK (dVar 2) dNewK)) (dTor (dTv (dOp dGt (dCB dLen (dCons (dVar 2) dNil)) (dC (.int 6)))) (dTv (dOp dGt (dVar 3) (dC (.int 256)))))) (dRet [] (dLst dNil)) dNext)
      (dSeqS (dSetO [] 5 (dLst dNil))
      (dSeqS (dFor [] (dSeq (dSl (dVar 1) (dPart (dC (.int 1))) dNoneO)) [6] (dgName 6) (dSeqS (dSet [] 7 (dSplit (dVar 6) (dC (.str " "))))
      (dSeqS (dIfS [] (dTor (dTv (dOp dNe (dCB dLen (dCons (dVar 7) dNil)) (dC (.int 3)))) (dTor (dTv (dOp dNotIn (dOp dIx (dVar 7) (dC (.int 0))) (dVar 2))) (dTor (dTv (dOp dNotIn (dOp dIx (dVar 7) (dC (.int 2))) (dVar 2))) (dTv (dOp dNotIn (dOp dIx (dVar 7) (dC (.int 1))) (dLst (dCons (dC (.str "+")) (dCons (dC (.str "-")) (dCons (dC (.str "?")) dNil))))))))) (dRet [] (dLst dNil)) dNext)
      (dSeqS (dIfS [5] (dTv (dOp dNe (dLc (dSeq (dVar 5)) (dgName 8) (dTv (dOp dEq (dSl (dVar 8) dNoneO (dPart (dC (.int 2)))) (dTup (dCons (dOp dIx (dVar 7) (dC (.int 0))) (dCons (dOp dIx (dVar 7) (dC (.int 2))) dNil))))) (dVar 8) [8]) (dLst dNil))) (dRet [] (dLst dNil)) dNext)
      (dApp [] 5 (dTup (dCons (dOp dIx (dVar 7) (dC (.int 0))) (dCons (dOp dIx (dVar 7) (dC (.int 2))) (dCons (dOp dIx (dVar 7) (dC (.int 1))) dNil)))))))))
      (dSeqS (dIfS [5] (dTv (dOp dNe (dCall0 f_l_text (dCons (dVar 2) (dCons (dVar 5) dNil))) (dVar 0))) (dRet [] (dLst dNil)) dNext)
      (dRet [5] (dLst (dCons (dVar 2) (dCons (dVar 5) dNil))))))))))))
def f_l_due : DFp := fun a R _ => dfP 1 8 w_l_due a R fun _ _ => False
theorem ok_l_due (T : Tx K mg) : FnOk P w K mg base CX0 3 T.l_due.f T.l_due.fd ["_law_word"] (spP K (cnT T) f_l_due) :=
  lift0 (fn_pure T.l_due.F sc_l_due rfl fun cdv A outer s H E hr => ⟨_, (pss_cons (ps_frame (ps_set (i := 1) sc_l_due.nd rfl (.inl rfl) (pe_split (pv 0) pe_str)))
      (pss_cons (ps_frame (ps_set (i := 2) sc_l_due.nd rfl (.inl rfl) (pcall T.l_peaks (ok_l_peaks T) (hr.mono (by decide)) (by rfl) pass0 (pa_cons (pe_ix (r := rIxD K) (ix_any (hu_of hr)) (pv 1) pe_int (fun _ _ => rfl)) pa_nil))))
      (pss_cons (ps_frame (ps_set (i := 3) sc_l_due.nd rfl (.inl rfl) pe_int))
      (pss_cons (ps_lock (ps_for PassesOwn.never rfl (pi_keys (pv 2)) (pg_name (i := 4) sc_l_due.nd rfl (.inl rfl)) (pss_one (ps_frame (ps_set (i := 3) sc_l_due.nd rfl (.inl rfl) (pe_op (r := rMulD K) op_mulD (pv 3) (pe_op (r := rAddD K) op_addD (pe_ix (r := rIxD K) (ix_any (hu_of hr)) (pv 2) (pv 4) (fun _ _ => rfl)) pe_int)))))))
      (pss_cons (ps_if (pt_frame (PW.pt (pw_or (pt_cmpR (Cmp.op_eqK hr.units0) (pv 2) pe_dnewK (nomark _)) (pw_or (pt_cmpR (r := rOrdD (fun i j => decide (j < i)) fun a b => decide (b < a)) (op_or op_gt op_gt_str) (pe_callB (r := rLenD K) call_lenA (by rfl) T.m_len (by decide +kernel) (pa_cons (pv 2) pa_nil)) pe_int (nomark _)) (pw_or1 (pt_cmpR (r := rOrdD (fun i j => decide (j < i)) fun a b => decide (b < a)) (op_or op_gt op_gt_str) (pv 3) pe_int (nomark _))))))) (pss_one (ps_ret (pe_frame (pe_lst pa_nil)))) pss_nil)
      (pss_cons (ps_frame (ps_set (i := 5) sc_l_due.nd rfl (.inl rfl) (pe_lst pa_nil)))
      (pss_cons (ps_for PassesOwn.never rfl (pi_frame (pi_seqL (pe_slice (r := rSlD K) sl_any (pv 1) (po_some pe_int) po_none))) (pg_name (i := 6) sc_l_due.nd rfl (.inl rfl)) (pss_cons (ps_frame (ps_set (i := 7) sc_l_due.nd rfl (.inr rfl) (pe_split (pv 6) pe_str)))
      (pss_cons (ps_if (pt_frame (PW.pt (pw_or (pt_cmpR (r := rNeD K) (op_neD hr.units) (pe_callB (r := rLenD K) call_lenA (by rfl) T.m_len (by decide +kernel) (pa_cons (pv 7) pa_nil)) pe_int (nomark _)) (pw_or (pt_cmpR (r := rNotInA K) (op_notInA hr) (pe_ix (r := rIxD K) (ix_any (hu_of hr)) (pv 7) pe_int (fun _ _ => rfl)) (pv 2) rfl) (pw_or (pt_cmpR (r := rNotInA K) (op_notInA hr) (pe_ix (r := rIxD K) (ix_any (hu_of hr)) (pv 7) pe_int (fun _ _ => rfl)) (pv 2) rfl) (pw_or1 (pt_cmpR (r := rNotInA K) (op_notInA hr) (pe_ix (r := rIxD K) (ix_any (hu_of hr)) (pv 7) pe_int (fun _ _ => rfl)) (pe_lst (pa_cons pe_str (pa_cons pe_str (pa_cons pe_str pa_nil)))) rfl))))))) (pss_one (ps_ret (pe_frame (pe_lst pa_nil)))) pss_nil)
      (pss_cons (ps_if (pt_frame (pt_cmpR (r := rNeD K) (op_neD hr.units) (pe_lc (own := [("_law_link", 8)]) (g := gName 8) rfl sc_l_due.nd (pi_seqL (pv 5)) (blkOk_by (own := [("_law_link", 8)]) (N := N_l_due) (sc := defScope s_l_due) (by decide +kernel)) (fun _ _ _ _ _ => (pg_name (i := 8) sc_l_due.nd rfl (.inl rfl))) (fun _ _ _ _ _ => (pts_one (pt_frame (pt_cmpR (r := rEqD K) (op_eqD hr.units) (pe_slice (r := rSlD K) sl_any (pv 8) po_none (po_some pe_int)) (pe_tup (pa_cons (pe_ix (r := rIxD K) (ix_any (hu_of hr)) (pv 7) pe_int (fun _ _ => rfl)) (pa_cons (pe_ix (r := rIxD K) (ix_any (hu_of hr)) (pv 7) pe_int (fun _ _ => rfl)) pa_nil))) (nomark _))))) (fun _ _ _ _ _ => (pe_frame (pv 8)))) (pe_lst pa_nil) (nomark _))) (pss_one (ps_ret (pe_frame (pe_lst pa_nil)))) pss_nil)
      (pss_one (ps_expr (pe_bm PySem.F.plainAttrs_list PySem.F.slot_list_append PySem.F.type_list_append mt_append (pv 5) (pa_frame (pa_cons (pe_tup (pa_cons (pe_ix (r := rIxD K) (ix_any (hu_of hr)) (pv 7) pe_int (fun _ _ => rfl)) (pa_cons (pe_ix (r := rIxD K) (ix_any (hu_of hr)) (pv 7) pe_int (fun _ _ => rfl)) (pa_cons (pe_ix (r := rIxD K) (ix_any (hu_of hr)) (pv 7) pe_int (fun _ _ => rfl)) pa_nil)))) pa_nil)))))))))
      (pss_cons (ps_if (pt_frame (pt_cmpR (r := rNeD K) (op_neD hr.units) (pcall T.l_text (ok_l_text T) (hr.mono (by decide)) (by rfl) pass0 (pa_cons (pv 2) (pa_cons (pv 5) pa_nil))) (pv 0) (nomark _))) (pss_one (ps_ret (pe_frame (pe_lst pa_nil)))) pss_nil)
      (pss_one (ps_ret (pe_frame (pe_lst (pa_cons (pv 2) (pa_cons (pv 5) pa_nil)))))))))))))),
    (ss_seq (ss_set [] 1 (se_split (se_var 0) se_str))
      (ss_seq (ss_set [] 2 (se_call0 (sa_cons (se_op sr_ix (se_var 1) se_int) sa_nil)))
      (ss_seq (ss_set [] 3 se_int)
      (ss_seq (ss_forK 2 rfl (fun lp => (sg_name 4)) (fun lp => (ss_set [] 3 (se_op sr_mul (se_var 3) (se_op sr_add (se_op sr_ix (se_var 2) (se_var 4)) se_int)))))
      (ss_seq (ss_if [] (st_or (st_test (se_op (sr_eqK rfl) (se_var 2) se_newK)) (st_or (st_test (se_op sr_ord (se_cb sc_len (sa_cons (se_var 2) sa_nil)) se_int)) (st_test (se_op sr_ord (se_var 3) se_int)))) (ss_ret [] (se_lst sa_nil)) ss_next)
      (ss_seq (ss_setO [] 5 (sef_lst sa_nil))
      (ss_seq (ss_for [] (si_seq (se_sl (se_var 1) (so_part se_int) so_none)) (sg_name 6) (ss_seq (ss_set [] 7 (se_split (se_var 6) se_str))
      (ss_seq (ss_if [] (st_or (st_test (se_op sr_neD (se_cb sc_len (sa_cons (se_var 7) sa_nil)) se_int)) (st_or (st_test (se_op sr_notIn (se_op sr_ix (se_var 7) se_int) (se_var 2))) (st_or (st_test (se_op sr_notIn (se_op sr_ix (se_var 7) se_int) (se_var 2))) (st_test (se_op sr_notIn (se_op sr_ix (se_var 7) se_int) (se_lst (sa_cons se_str (sa_cons se_str (sa_cons se_str sa_nil))))))))) (ss_ret [] (se_lst sa_nil)) ss_next)
      (ss_seq (ss_if [5] (st_test (se_op sr_neD (se_lc (si_seq (se_var 5)) (sg_name 8) (st_test (se_op sr_eqD (se_sl (se_var 8) so_none (so_part se_int)) (se_tup (sa_cons (se_op sr_ix (se_var 7) se_int) (sa_cons (se_op sr_ix (se_var 7) se_int) sa_nil))))) (se_var 8)) (se_lst sa_nil))) (ss_ret [] (se_lst sa_nil)) ss_next)
      (ss_app [] 5 (se_tup (sa_cons (se_op sr_ix (se_var 7) se_int) (sa_cons (se_op sr_ix (se_var 7) se_int) (sa_cons (se_op sr_ix (se_var 7) se_int) sa_nil)))))))))
      (ss_seq (ss_if [5] (st_test (se_op sr_neD (se_call0 (sa_cons (se_var 2) (sa_cons (se_var 5) sa_nil))) (se_var 0))) (ss_ret [] (se_lst sa_nil)) ss_next)
      (ss_ret [5] (se_lst (sa_cons (se_var 2) (sa_cons (se_var 5) sa_nil))))))))))))⟩)
--E--
end
end K11

set_option Elab.async false
set_option linter.all false
set_option maxRecDepth 100000
set_option maxHeartbeats 8000000
namespace K11
open PySem PySem.Spec PyProof.Rows L2 Rl Dr _root_.Tx Ex Er So Wi Vw Dl
section
variable {P : Program} {w : World} {K : PySem.W.Frag} {mg : Str → Option Value} {base : Heap}
--B--
def kb_Wiring_read_1_text_g {α : Type} : List α → List α → List α
  | [u0], [w0] => [u0, w0]
  | _, _ => []
theorem kb_Wiring_read_1_text {K : PySem.W.Frag} {mg : Str → Option Value} (T : Tx K mg) : KBinds K T.Wiring_read.fd ["cls", "text"] ["text"] kb_Wiring_read_1_text_g kb_Wiring_read_1_text_g := by
  refine kbinds T.Wiring_read.F (fun _ _ _ _ _ _ us ws hl => ?_) (fun {vs us zs ws} r1 r2 => ?_)
  · unfold kb_Wiring_read_1_text_g at hl ⊢
    split at hl
    · rfl
    · cases hl
  · by_cases hu : vs.length = 1 ∧ zs.length = 1
    · obtain ⟨h1, h2⟩ := hu
      have e1 := r1.length
      have e2 := r2.length
      match vs, us, zs, ws, r1, r2, h1, h2 with
      | [v0], [u0], [z0], [w0], (.cons p0 .nil), (.cons r0 .nil), _, _ => exact (.cons p0 (.cons r0 .nil))
    · have a1 : kb_Wiring_read_1_text_g vs zs = [] := by
        unfold kb_Wiring_read_1_text_g
        split
        · exact absurd ⟨rfl, rfl⟩ hu
        · rfl
      have a2 : kb_Wiring_read_1_text_g us ws = [] := by
        have e1 := r1.length
        have e2 := r2.length
        unfold kb_Wiring_read_1_text_g
        split
        · exact absurd ⟨e1, e2⟩ hu
        · rfl
      rw [a1, a2]
      exact .nil
theorem ok_Wiring__check_part_p (T : Tx K mg) (lp : Addr) : FnOk P w K mg base (L2.CX P w) 3 T.Wiring__check_part.f T.Wiring__check_part.fd ["self", "name"] (spP K ((cnT T).lkd lp) f_Wiring__check_part) :=
  liftX (fn_pureX T.Wiring__check_part.F sc_Wiring__check_part rfl fun cdv A outer s H E hr => ⟨_, (pss_one (ps_if (pt_frame (pt_cmpR (r := rNotInA K) (op_notInA hr) (pv 1) (pe_fldK (K := K) (pv 0)) rfl)) (pss_one (ps_raise rfl (takes_of rfl rfl rfl rfl) (pmk_oex T.e_UnknownName.oex T.e_UnknownName.iC T.e_UnknownName.tI (ok_i_UnknownName T) (hr.mono (by decide)) T.e_UnknownName.b .nil pass0 (by rfl) T.e_UnknownName.g (pa_frame (pa_cons (pv 1) pa_nil))))) pss_nil)),
    (ss_if [] (st_test (se_op sr_notIn (se_var 1) (se_fld (c := 0) rfl rfl T.k_Wiring.cl T.no_tops (se_var 0)))) (ss_raise [] 1 rfl rfl (se_var 1)) ss_next)⟩)
theorem ok_Wiring_top_p (T : Tx K mg) (lp : Addr) : FnOk P w K mg base (L2.CX P w) 4 T.Wiring_top.f T.Wiring_top.fd ["self", "name"] (spP K ((cnT T).lkd lp) f_Wiring_top) :=
  liftX (fn_pureX T.Wiring_top.F sc_Wiring_top rfl fun cdv A outer s H E hr => ⟨_, (pss_cons (ps_expr (pe_frame (pe_meth (pv 0) T.k_Wiring.cl T.Wiring__check_part.m (ok_Wiring__check_part_p T lp) (hr.mono (by decide)) T.Wiring__check_part.b .nil pX (pa_cons (pv 1) pa_nil))))
      (pss_one (ps_ret (pe_frame (pe_ix (r := rIxD K) (ix_any (hu_of hr)) (pe_fldK (K := K) (pv 0)) (pv 1) (fun _ _ => rfl)))))),
    (ss_seq (ss_expr [] (se_meth (c := 0) rfl (show _ ∉ cnF 0 by decide +kernel) (se_var 0) (sa_cons (se_var 1) sa_nil) fun _ _ _ _ h => h))
      (ss_ret [] (se_op sr_ix (se_fld (c := 0) rfl rfl T.k_Wiring.cl T.no_tops (se_var 0)) (se_var 1))))⟩)
theorem ok_Wiring_top_lk (T : Tx K mg) : FnOk P w K mg base (L2.CX P w) 4 T.Wiring_top.f T.Wiring_top.fd ["self", "name"] (spL K (cnT T) f_Wiring_top) := okL (ok_Wiring_top_p T)
theorem kit_root (T : Tx K mg) : PySem.W.kitOne K (.ref T.e_BadText.C) (.ref T.root.C) = some true := by
  have q := T.e_BadText.toErrB.kit T.root.isC T.root.tyC
  rw [decide_eq_true (rfl : T.root.C = T.root.C), Bool.or_true] at q
  exact q
/-! ### the law's own body: its term, and what is read over data -/
def w_law1 (C s : Addr) : DS := (dSet [] 2 (dCB dSorted (dCons (dCallD s f_l_names (dCons (dVar 1) (dCons (dOp dAdd (dC (.int 1)) (dCallD s f_l_draw (dCons (dVar 1) (dCons (dC (.int 6)) dNil)))) dNil))) dNil)))
def w_law2 (C s : Addr) : DS := (dSet [] 3 (dCallD s f_l_tops (dCons (dVar 1) (dCons (dVar 2) dNil))))
def w_law3 (C s : Addr) : DS := (dSet [] 4 (dCallD s f_l_arrows (dCons (dVar 1) (dCons (dVar 2) dNil))))
def w_law4 (C s : Addr) : DS := (dSet [] 5 (dCall0 f_l_text (dCons (dVar 3) (dCons (dVar 4) dNil))))
def w_law5 (C s : Addr) : DS := (dIfS [] (dTv (dOp dNe (dStrO 0 f_Wiring___str__ (dCall0 f_Wiring (dCons (dVar 3) (dCons (dVar 4) dNil)))) (dVar 5))) (dRet [] (dC (.bl false))) dNext)
def w_law6 (C s : Addr) : DS := (dForR [] (dRng1 (dCons (dOp dIx (dLst (dCons (dC (.int 0)) (dCons (dC (.int 1)) (dCons (dC (.int 2)) (dCons (dC (.int 3)) dNil))))) (dCallD s f_l_draw (dCons (dVar 1) (dCons (dC (.int 4)) dNil)))) dNil)) [6] (dgName 6) (dSet [] 5 (dCallD s f_l_spoiled (dCons (dVar 1) (dCons (dVar 5) dNil)))))
def w_law7 (C s : Addr) : DS := (dIfS [] (dTv (dOp dEq (dCallD s f_l_draw (dCons (dVar 1) (dCons (dC (.int 9)) dNil))) (dC (.int 0)))) (dSet [] 5 (dOp dIx (dLst (dCons (dOp dAdd (dVar 5) (dC (.str "\n"))) (dCons (dOp dAdd (dVar 5) (dC (.str " "))) (dCons (dOp dAdd (dC (.str " ")) (dVar 5)) (dCons (dOp dAdd (dVar 5) (dC (.str "; "))) dNil))))) (dCallD s f_l_draw (dCons (dVar 1) (dCons (dC (.int 4)) dNil))))) dNext)
def w_law8 (C s : Addr) : DS := (dSet [] 7 (dCall0 f_l_due (dCons (dVar 5) dNil)))
def w_law9 (C s : Addr) : DS := (dTry cnE 9 (dSet [] 8 (dCMeth C (f_Wiring_read C) (dC (.sta C)) (dCons (dVar 5) dNil))) [⟨(· == 5), fun a dx => (dRet [] (dAnd (dOp dEqE (dVar 7) (dLst dNil)) (dAnd (dOp dEq (dXf a dx "text" (dVar 9)) (dVar 5)) (dIsX a dx (dVar 9)))))⟩])
def w_law10 (C s : Addr) : DS := (dIfS [] (dTor (dTv (dOp dEqE (dVar 7) (dLst dNil))) (dTor (dTv (dOp dNe (dStrO 0 f_Wiring___str__ (dVar 8)) (dVar 5))) (dTor (dTv (dOp dNe (dProp 0 f_Wiring_parts (dVar 8)) (dCB dTuple (dCons (dCB dSorted (dCons (dOp dIx (dVar 7) (dC (.int 0))) dNil)) dNil)))) (dTv (dOp dNe (dProp 0 f_Wiring_arrows (dVar 8)) (dCB dTuple (dCons (dCB dSorted (dCons (dOp dIx (dVar 7) (dC (.int 1))) dNil)) dNil))))))) (dRet [] (dC (.bl false))) dNext)
def w_law11 (C s : Addr) : DS := (dForKI 7 0 [10] (dgName 10) (dIfS [] (dTv (dOp dNe (dMeth0 0 f_Wiring_top (dVar 8) (dCons (dVar 10) dNil)) (dOp dIx (dOp dIx (dVar 7) (dC (.int 0))) (dVar 10)))) (dRet [] (dC (.bl false))) dNext))
def w_law12 (C s : Addr) : DS := (dRet [] (dOp (dEqO 0 f_Wiring___eq__) (dCMeth0 C (f_Wiring_read C) (dC (.sta C)) (dCons (dVar 5) dNil)) (dCall0 f_Wiring (dCons (dOp dIx (dVar 7) (dC (.int 0))) (dCons (dOp dIx (dVar 7) (dC (.int 1))) dNil)))))
--E--
end
end K11

set_option Elab.async false
set_option linter.all false
set_option maxRecDepth 100000
set_option maxHeartbeats 8000000
namespace K11
open PySem PySem.Spec PyProof.Rows L2 Rl Dr _root_.Tx Ex Er So Wi Vw Dl
section
variable {P : Program} {w : World} {K : PySem.W.Frag} {mg : Str → Option Value} {base : Heap}
--B--
def S0 (K : PySem.W.Frag) (Dd : L2.Ends) (σ : L2.St) (H : Hp) : Prop := ∃ (a : Addr) (ns : List Int), σ[0]? = some (some (.ref a)) ∧ SqL K H a (ns.map V.int) ∧ ns.length ≤ 63 ∧
  ∀ (s : Addr) (H' : Hp), Same H H' → H s = none → Ds H' s 0 → (∀ b o, H b = some o → ¬ vol H' s b) → Dd.nx (σ.set 1 (some (.ref s))) H'
/-- statement 4 -/
theorem law_term {f : Addr} (T : Tx K mg) (DT : KdE K P w mg "TOPS_BY_TEXT" TBT) (cdv : Value) (A : Around) (outer : List Env) (s0 : Shared) (H : Hp) (E : XK) (hr : Room 11 (A.deeper (envOfC "law" (defScope s_law) s0.heap.objs.size f cdv))) : ∃ t0 t1 t2 t3 t4 t5 t6 t7 t8 t9 t10 t11 t12,
    PSs (cxOf CX0 P w K mg base N_law "law" (defScope s_law) f cdv A outer s0 H E).nox (defBody s_law) (tSeq t0 (tSeq t1 (tSeq t2 (tSeq t3 (tSeq t4 (tSeq t5 (tSeq t6 (tSeq t7 (tSeq t8 (tSeq t9 (tSeq t10 (tSeq t11 t12)))))))))))) ∧
    (∀ Dd σ H, S0 K Dd σ H → t0 Dd σ H) ∧ (∀ sa : Addr, SS ⟨K, cnT T, some sa, fun _ _ _ _ => False⟩ t1 (w_law1 T.k_Wiring.C sa)) ∧ (∀ sa : Addr, SS ⟨K, cnT T, some sa, fun _ _ _ _ => False⟩ t2 (w_law2 T.k_Wiring.C sa)) ∧ (∀ sa : Addr, SS ⟨K, cnT T, some sa, fun _ _ _ _ => False⟩ t3 (w_law3 T.k_Wiring.C sa)) ∧ (∀ sa : Addr, SS ⟨K, cnT T, some sa, fun _ _ _ _ => False⟩ t4 (w_law4 T.k_Wiring.C sa)) ∧ (∀ sa : Addr, SS ⟨K, cnT T, some sa, fun _ _ _ _ => False⟩ t5 (w_law5 T.k_Wiring.C sa)) ∧ (∀ sa : Addr, SS ⟨K, cnT T, some sa, fun _ _ _ _ => False⟩ t6 (w_law6 T.k_Wiring.C sa)) ∧ (∀ sa : Addr, SS ⟨K, cnT T, some sa, fun _ _ _ _ => False⟩ t7 (w_law7 T.k_Wiring.C sa)) ∧ (∀ sa : Addr, SS ⟨K, cnT T, some sa, fun _ _ _ _ => False⟩ t8 (w_law8 T.k_Wiring.C sa)) ∧ (∀ sa : Addr, SS ⟨K, cnT T, some sa, fun _ _ _ _ => False⟩ t9 (w_law9 T.k_Wiring.C sa)) ∧ (∀ sa : Addr, SS ⟨K, cnT T, some sa, fun _ _ _ _ => False⟩ t10 (w_law10 T.k_Wiring.C sa)) ∧ (∀ sa : Addr, SS ⟨K, cnT T, some sa, fun _ _ _ _ => False⟩ t11 (w_law11 T.k_Wiring.C sa)) ∧ (∀ sa : Addr, SS ⟨K, cnT T, some sa, fun _ _ _ _ => False⟩ t12 (w_law12 T.k_Wiring.C sa)) := by
  refine ⟨_, _, _, _, _, _, _, _, _, _, _, _, _, (pss_cons (ps_set (i := 1) sc_law.nd rfl (.inl rfl) (pcall T.l_start (Hd.ok_l_start T) (hr.mono (by decide)) (by rfl) pass0 (pa_cons (pv 0) pa_nil)))
      (pss_cons (ps_frame (ps_set (i := 2) sc_law.nd rfl (.inl rfl) (pe_callB (r := rSortA K) (cr_sortA rfl hr.units) (by rfl) T.m_sorted (by decide +kernel) (pa_cons (pcall T.l_names (ok_l_names T) (hr.mono (by decide)) (by rfl) pass0 (pa_cons (pv 1) (pa_cons (pe_op (r := rAddD K) op_addD pe_int (pcall T.l_draw (ok_l_draw T) (hr.mono (by decide)) (by rfl) pass0 (pa_cons (pv 1) (pa_cons pe_int pa_nil)))) pa_nil))) pa_nil))))
      (pss_cons (ps_frame (ps_set (i := 3) sc_law.nd rfl (.inl rfl) (pcall T.l_tops (ok_l_tops T) (hr.mono (by decide)) (by rfl) pass0 (pa_cons (pv 1) (pa_cons (pv 2) pa_nil)))))
      (pss_cons (ps_frame (ps_set (i := 4) sc_law.nd rfl (.inl rfl) (pcall T.l_arrows (ok_l_arrows T) (hr.mono (by decide)) (by rfl) pass0 (pa_cons (pv 1) (pa_cons (pv 2) pa_nil)))))
      (pss_cons (ps_frame (ps_set (i := 5) sc_law.nd rfl (.inl rfl) (pcall T.l_text (ok_l_text T) (hr.mono (by decide)) (by rfl) pass0 (pa_cons (pv 3) (pa_cons (pv 4) pa_nil)))))
      (pss_cons (ps_if (pt_frame (pt_cmpR (r := rNeD K) (op_neD hr.units) (pe_callTy (Try.call_strO (ok_Wiring___str__ T) (hr.mono (by decide)) T.Wiring___str__.m T.Wiring___str__.b pass0) (by rfl) T.m_str (by decide +kernel) (pa_cons (pe_make T.Wiring___init__.M (RlN.okN_X (ok_Wiring___init__ T)) (hr.mono (by decide)) (by rfl) T.k_Wiring.g T.Wiring___init__.b .nil passL (pa_cons (pv 3) (pa_cons (pv 4) pa_nil))) pa_nil)) (pv 5) (nomark _))) (pss_one (ps_ret (pe_frame pe_bl))) pss_nil)
      (pss_cons (ps_for PassesOwn.never rfl (pi_frame (pi_range1 rfl T.m_range (pa_cons (pe_ix (r := rIxD K) (ix_any (hu_of hr)) (pe_lst (pa_cons pe_int (pa_cons pe_int (pa_cons pe_int (pa_cons pe_int pa_nil))))) (pcall T.l_draw (ok_l_draw T) (hr.mono (by decide)) (by rfl) pass0 (pa_cons (pv 1) (pa_cons pe_int pa_nil))) (fun _ _ => rfl)) pa_nil))) (pg_name (i := 6) sc_law.nd rfl (.inl rfl)) (pss_one (ps_frame (ps_set (i := 5) sc_law.nd rfl (.inl rfl) (pcall T.l_spoiled (ok_l_spoiled T) (hr.mono (by decide)) (by rfl) pass0 (pa_cons (pv 1) (pa_cons (pv 5) pa_nil)))))))
      (pss_cons (ps_if (pt_frame (pt_cmpR (r := rEqD K) (op_eqD hr.units) (pcall T.l_draw (ok_l_draw T) (hr.mono (by decide)) (by rfl) pass0 (pa_cons (pv 1) (pa_cons pe_int pa_nil))) pe_int (nomark _))) (pss_one (ps_frame (ps_set (i := 5) sc_law.nd rfl (.inl rfl) (pe_ix (r := rIxD K) (ix_any (hu_of hr)) (pe_lst (pa_cons (pe_op (r := rAddD K) op_addD (pv 5) pe_str) (pa_cons (pe_op (r := rAddD K) op_addD (pv 5) pe_str) (pa_cons (pe_op (r := rAddD K) op_addD pe_str (pv 5)) (pa_cons (pe_op (r := rAddD K) op_addD (pv 5) pe_str) pa_nil))))) (pcall T.l_draw (ok_l_draw T) (hr.mono (by decide)) (by rfl) pass0 (pa_cons (pv 1) (pa_cons pe_int pa_nil))) (fun _ _ => rfl))))) pss_nil)
      (pss_cons (ps_frame (ps_set (i := 7) sc_law.nd rfl (.inl rfl) (pcall T.l_due (ok_l_due T) (hr.mono (by decide)) (by rfl) pass0 (pa_cons (pv 5) pa_nil))))
      (pss_cons (ps_tryD (i := 9) rfl rfl sc_law.nd rfl rfl takes0 (fun W pn xe tk po => (pss_one (ps_frame (ps_set (i := 8) sc_law.nd rfl (.inl rfl) (pe_cmethSD (pe_glob (v := .ref T.k_Wiring.C) (by rfl) T.k_Wiring.g rfl) T.Wiring_read.rd T.Wiring_read.cm (ok_Wiring_read T DT) (hr.mono (by decide)) T.Wiring_read.b (fun σ => passAt tk σ) (pa_cons (pv 5) pa_nil)))))) (.cons (k := (.ref T.e_BadText.C, _)) ⟨by rfl, by decide, .inl T.e_BadText.g⟩ (fun a oe cls d pn hz hf => (pss_one (ps_ret (pe_frame (pe_and (pe_cmpR (r := rEqE K) (op_eqE hr.units) (pv 7) (pe_lst pa_nil) (nomark _)) (pe_and (pe_cmpR (r := rEqD K) (op_eqD hr.units) (pe_xf T.e_BadText.xf T.e_BadText.no hz hf (pv 9)) (pv 5) (nomark _)) (pe_one (pe_callB (id := "isinstance") (r := rIsE2 K cls a d) (call_isE2 hz hf) (by rfl) T.m_isinstance (by decide +kernel) (pa_cons (pv 9) (pa_cons (pe_glob (v := .ref T.root.C) (by rfl) T.root.g rfl) pa_nil)))))))))) .nil))
      (pss_cons (ps_if (pt_frame (PW.pt (pw_or (pt_cmpR (r := rEqE K) (op_eqE hr.units) (pv 7) (pe_lst pa_nil) (nomark _)) (pw_or (pt_cmpR (r := rNeD K) (op_neD hr.units) (pe_callTy (Try.call_strO (ok_Wiring___str__ T) (hr.mono (by decide)) T.Wiring___str__.m T.Wiring___str__.b pass0) (by rfl) T.m_str (by decide +kernel) (pa_cons (pv 8) pa_nil)) (pv 5) (nomark _)) (pw_or (pt_cmpR (r := rNeD K) (op_neD hr.units) (pe_prop (pv 8) T.k_Wiring.cl T.Wiring_parts.hp (ok_Wiring_parts T) (hr.mono (by decide)) T.Wiring_parts.b .nil pass0 rfl) (pe_callTy (r := rTupleD K) call_tuple_of (by rfl) T.m_tuple (by decide +kernel) (pa_cons (pe_callB (r := rSortA K) (cr_sortA rfl hr.units) (by rfl) T.m_sorted (by decide +kernel) (pa_cons (pe_ix (r := rIxD K) (ix_any (hu_of hr)) (pv 7) pe_int (fun _ _ => rfl)) pa_nil)) pa_nil)) (nomark _)) (pw_or1 (pt_cmpR (r := rNeD K) (op_neD hr.units) (pe_prop (pv 8) T.k_Wiring.cl T.Wiring_arrows.hp (ok_Wiring_arrows T) (hr.mono (by decide)) T.Wiring_arrows.b .nil pass0 rfl) (pe_callTy (r := rTupleD K) call_tuple_of (by rfl) T.m_tuple (by decide +kernel) (pa_cons (pe_callB (r := rSortA K) (cr_sortA rfl hr.units) (by rfl) T.m_sorted (by decide +kernel) (pa_cons (pe_ix (r := rIxD K) (ix_any (hu_of hr)) (pv 7) pe_int (fun _ _ => rfl)) pa_nil)) pa_nil)) (nomark _)))))))) (pss_one (ps_ret (pe_frame pe_bl))) pss_nil)
      (pss_cons (ps_lock (ps_for PassesOwn.never rfl (pi_keys (pe_ix (r := rIxL K) ix_list (pv 7) pe_int (fun _ _ => rfl))) (pg_name (i := 10) sc_law.nd rfl (.inl rfl)) (pss_one (ps_if (pt_frame (pt_cmpR (r := rNeD K) (op_neD hr.units) (pe_meth (pv 8) T.k_Wiring.cl T.Wiring_top.m (ok_Wiring_top_lk T) (hr.mono (by decide)) T.Wiring_top.b .nil passL (pa_cons (pv 10) pa_nil)) (pe_ix (r := rIxD K) (ix_any (hu_of hr)) (pe_ix (r := rIxD K) (ix_any (hu_of hr)) (pv 7) pe_int (fun _ _ => rfl)) (pv 10) (fun _ _ => rfl)) (nomark _))) (pss_one (ps_ret (pe_frame pe_bl))) pss_nil))))
      (pss_one (ps_ret (pe_frame (pe_cmpR (op_eqO (ok_Wiring___eq__ T) (hr.mono (by decide)) T.Wiring___eq__.m.at_ T.Wiring___eq__.m.fn T.Wiring___eq__.b pass0) (pe_cmethK (pe_glob (v := .ref T.k_Wiring.C) (by rfl) T.k_Wiring.g rfl) T.Wiring_read.rd T.Wiring_read.cm (ok_Wiring_read T DT) (hr.mono (by decide)) (kb_Wiring_read_1_text T) passL (pk_cons (pv 5) pk_nil)) (pe_make T.Wiring___init__.M (RlN.okN_X (ok_Wiring___init__ T)) (hr.mono (by decide)) (by rfl) T.k_Wiring.g T.Wiring___init__.b .nil passL (pa_cons (pe_ix (r := rIxD K) (ix_any (hu_of hr)) (pv 7) pe_int (fun _ _ => rfl)) (pa_cons (pe_ix (r := rIxD K) (ix_any (hu_of hr)) (pv 7) pe_int (fun _ _ => rfl)) pa_nil))) (nomark _))))))))))))))))), ?_, ?_, ?_, ?_, ?_, ?_, ?_, ?_, ?_, ?_, ?_, ?_, ?_⟩
  · rintro Dd σ H ⟨a, ns, e0, h1, h2, k⟩
    exact ⟨_, e0, a, ns, rfl, h1, h2, fun s H' q1 q2 q3 q4 => k s H' q1 q2 q3 q4⟩
  · exact fun sa => (ss_set [] 2 (se_cb sc_sorted (sa_cons (se_callD rfl (sa_cons (se_var 1) (sa_cons (se_op sr_add se_int (se_callD rfl (sa_cons (se_var 1) (sa_cons se_int sa_nil)))) sa_nil))) sa_nil)))
  · exact fun sa => (ss_set [] 3 (se_callD rfl (sa_cons (se_var 1) (sa_cons (se_var 2) sa_nil))))
  · exact fun sa => (ss_set [] 4 (se_callD rfl (sa_cons (se_var 1) (sa_cons (se_var 2) sa_nil))))
  · exact fun sa => (ss_set [] 5 (se_call0 (sa_cons (se_var 3) (sa_cons (se_var 4) sa_nil))))
  · exact fun sa => (ss_if [] (st_test (se_op sr_neD (se_strO (c := 0) rfl (se_make0_Wiring T (sa_cons (se_var 3) (sa_cons (se_var 4) sa_nil)))) (se_var 5))) (ss_ret [] se_bl) ss_next)
  · exact fun sa => (ss_forR [] (sir_rng1 (sa_cons (se_op sr_ix (se_lst (sa_cons se_int (sa_cons se_int (sa_cons se_int (sa_cons se_int sa_nil))))) (se_callD rfl (sa_cons (se_var 1) (sa_cons se_int sa_nil)))) sa_nil)) (sg_name 6) (ss_set [] 5 (se_callD rfl (sa_cons (se_var 1) (sa_cons (se_var 5) sa_nil)))))
  · exact fun sa => (ss_if [] (st_test (se_op sr_eqD (se_callD rfl (sa_cons (se_var 1) (sa_cons se_int sa_nil))) se_int)) (ss_set [] 5 (se_op sr_ix (se_lst (sa_cons (se_op sr_add (se_var 5) se_str) (sa_cons (se_op sr_add (se_var 5) se_str) (sa_cons (se_op sr_add se_str (se_var 5)) (sa_cons (se_op sr_add (se_var 5) se_str) sa_nil))))) (se_callD rfl (sa_cons (se_var 1) (sa_cons se_int sa_nil))))) ss_next)
  · exact fun sa => (ss_set [] 7 (se_call0 (sa_cons (se_var 5) sa_nil)))
  · exact fun sa => (ss_tryD rfl (fun W => (ss_set [] 8 (se_cmethS (C := T.k_Wiring.C) se_cls (sa_cons (se_var 5) sa_nil)))) (.cons ⟨fun c C hc => exm_at T (k := 5) hc rfl, fun a c C d dx hc hh hd => by
        obtain ⟨rfl, rfl⟩ := hnd_at T (k := 5) hc rfl hh hd rfl
        exact (ss_ret [] (se_and (se_op sr_eqE (se_var 7) (se_lst sa_nil)) (se_and (se_op sr_eqD (se_xf (se_var 9)) (se_var 5)) (se_isX (T.e_BadText.ec T.oc) (kit_root T) (se_var 9)))))⟩ .nil))
  · exact fun sa => (ss_if [] (st_or (st_test (se_op sr_eqE (se_var 7) (se_lst sa_nil))) (st_or (st_test (se_op sr_neD (se_strO (c := 0) rfl (se_var 8)) (se_var 5))) (st_or (st_test (se_op sr_neD (se_prop (c := 0) rfl (se_var 8)) (se_cb sc_tuple (sa_cons (se_cb sc_sorted (sa_cons (se_op sr_ix (se_var 7) se_int) sa_nil)) sa_nil)))) (st_test (se_op sr_neD (se_prop (c := 0) rfl (se_var 8)) (se_cb sc_tuple (sa_cons (se_cb sc_sorted (sa_cons (se_op sr_ix (se_var 7) se_int) sa_nil)) sa_nil))))))) (ss_ret [] se_bl) ss_next)
  · exact fun sa => (ss_forKI 7 0 rfl (fun lp => (sg_name 10)) (fun lp => (ss_if [] (st_test (se_op sr_neD (se_meth0L (cn := cnT T) (p := lp) (c := 0) rfl rfl (show _ ∉ cnF 0 by decide +kernel) (se_var 8) (sa_cons (se_var 10) sa_nil)) (se_op sr_ix (se_op sr_ix (se_var 7) se_int) (se_var 10)))) (ss_ret [] se_bl) ss_next)))
  · exact fun sa => (ss_ret [] (se_op (sr_eqO (M := ⟨K, _, _, _⟩) (c := 0) T.k_Wiring T.oc rfl) (se_cmethK0 (C := T.k_Wiring.C) (fun x vs h => match vs, h with | [_], _ => rfl) se_cls (sa_cons (se_var 5) sa_nil)) (se_make0_Wiring T (sa_cons (se_op sr_ix (se_var 7) se_int) (sa_cons (se_op sr_ix (se_var 7) se_int) sa_nil)))))
--E--
end
end K11

set_option Elab.async false
set_option linter.all false
set_option maxRecDepth 100000
set_option maxHeartbeats 1000000
namespace K11
open PySem PySem.Spec PyProof.Rows L2 Rl Dr _root_.Tx Ex Er So Wi Vw Dl
section
--B--
/-! ### the wiring's own defs, over data -/
theorem topD_key (ns : List Str) (h : Str → Int) : topD ns (ns.map h) = keyI ns h := by
  unfold topD keyI
  induction ns with
  | nil => rfl
  | cons z ns ih => rw [List.map_cons, List.zip_cons_cons, List.map_cons, List.map_cons, ih]
abbrev wir (ns : List Str) (h : Str → Int) (l : List Arr) : D := .obj 0 [.tup (ns.map D.str), .dk (keyI ns h), .dt (sgnD l), .tup ((sortA l).map arrD)]
theorem wirD_wir (ns : List Str) (h : Str → Int) (l : List Arr) : wirD ns (ns.map h) l = wir ns h l := by
  unfold wirD
  rw [topD_key]
theorem keyI_get {ns : List Str} {h : Str → Int} {z : Str} : dkGet (keyI ns h) (.inr z) = if z ∈ ns then some (.int (h z)) else none := dkGet_map
variable {ns : List Str} {h : Str → Int} {l : List Arr} {z : Str} {R : D → Prop} {Ex : Nat → D → Prop}
theorem d_check (h1 : z ∈ ns → R .non) (h2 : z ∉ ns → Ex 1 (.str z)) : f_Wiring__check_part [wir ns h l, .str z] R Ex := by
  refine ⟨rfl, rfl, ?_⟩
  show if (!(dkGet (keyI ns h) (.inr z)).isSome) = true then Ex 1 (.str z) else R .non
  rw [keyI_get]
  by_cases c : z ∈ ns
  · rw [if_pos c]
    exact h1 c
  · rw [if_neg c]
    exact h2 c
theorem d_parts (h1 : R (.tup (ns.map D.str))) : f_Wiring_parts [wir ns h l] R fun _ _ => False := ⟨rfl, rfl, h1⟩
theorem d_arrows (h1 : R (.tup ((sortA l).map arrD))) : f_Wiring_arrows [wir ns h l] R fun _ _ => False := ⟨rfl, rfl, h1⟩
theorem d_top (h1 : z ∈ ns → R (.int (h z))) (h2 : z ∉ ns → Ex 1 (.str z)) : f_Wiring_top [wir ns h l, .str z] R Ex := by
  refine ⟨rfl, rfl, d_check (fun hz => ?_) h2⟩
  refine ⟨rfl, ?_⟩
  show match dkGet (keyI ns h) (.inr z) with | some d => R d | none => False
  rw [keyI_get, if_pos hz]
  exact h1 hz
--E--
end
end K11

set_option Elab.async false
set_option linter.all false
set_option maxRecDepth 100000
set_option maxHeartbeats 1000000
namespace K11
open PySem PySem.Spec PyProof.Rows L2 Rl Dr _root_.Tx Ex Er So Wi Vw Dl
section
variable {ns : List Str} {h : Str → Int} {l : List Arr} {z : Str} {R : D → Prop} {Ex : Nat → D → Prop}
--B--
def pyOf (d : D) : PyData := (toPy d).getD .none
structure PyOk (d : D) : Prop where
  py : toPy d = some (pyOf d)
  dep : (pyOf d).depth ≤ 32
theorem ne_py {x y : D} {p q : PyData} {Rr : D → Prop} (hx : toPy x = some p) (hy : toPy y = some q) (dp : p.depth ≤ 64) (dq : q.depth ≤ 64) (k : Rr (.bl (!(PyData.eqv p q)))) : dNe x y Rr := by
  show (match toPy x, toPy y with | some p, some q => p.depth ≤ 64 ∧ q.depth ≤ 64 ∧ Rr (.bl (!(PyData.eqv p q))) | _, _ => False)
  rw [hx, hy]
  exact ⟨dp, dq, k⟩
theorem eq_py {x y : D} {p q : PyData} {Rr : D → Prop} (hx : toPy x = some p) (hy : toPy y = some q) (dp : p.depth ≤ 64) (dq : q.depth ≤ 64) (k : Rr (.bl (PyData.eqv p q))) : dEq x y Rr := by
  show (match toPy x, toPy y with | some p, some q => p.depth ≤ 64 ∧ q.depth ≤ 64 ∧ Rr (.bl (PyData.eqv p q)) | _, _ => False)
  rw [hx, hy]
  exact ⟨dp, dq, k⟩
--E--
end
end K11

set_option Elab.async false
set_option linter.all false
set_option maxRecDepth 100000
set_option maxHeartbeats 1000000
namespace K11
open PySem PySem.Spec PyProof.Rows L2 Rl Dr _root_.Tx Ex Er So Wi Vw Dl
section
variable {ns : List Str} {h : Str → Int} {l : List Arr} {z : Str} {R : D → Prop} {Ex : Nat → D → Prop}
--B--
/-! ### str -/
theorem join_le (sep : Str) : ∀ zs : List Str, (Txt.join sep zs).length ≤ (zs.map (·.length)).sum + zs.length * sep.length := by
  intro zs
  rw [TL.join_eq]
  induction zs with
  | nil => exact Nat.zero_le _
  | cons x r ih =>
    cases r with
    | nil =>
      show x.length ≤ _
      simp
    | cons y r =>
      show (x ++ sep ++ Str.join sep (y :: r)).length ≤ _
      rw [app_len, app_len, List.map_cons, List.sum_cons, List.length_cons, Nat.succ_mul]
      omega
def tJn (ts : List TE) : TE := fun σ H Q => tJs ts Str.empty σ H fun out H1 => Q (.str out) H1
def headS (h : Str → Int) (z : Str) : Str := ((Str.empty ++ z) ++ ":") ++ toString (h z)
def tailS (x : Arr) : Str := ((((Str.empty ++ x.1) ++ " ") ++ x.2.2) ++ " ") ++ x.2.1
def strW (ns : List Str) (h : Str → Int) (la : List Arr) : Str := Txt.join "; " (Txt.join " " (ns.map (headS h)) :: la.map tailS)
theorem app_len (x y : Str) : (x ++ y).length = x.length + y.length := by
  show (x.cps ++ y.cps).size = _
  rw [Array.size_append]
  rfl
theorem dig_len {i : Int} (h0 : 1 ≤ i) (h9 : i ≤ 3) : (toString i : Str).length = 1 := by
  obtain rfl | rfl | rfl : i = 1 ∨ i = 2 ∨ i = 3 := by omega
  all_goals decide +kernel
theorem strs_map : ∀ l : List Str, strsOf (l.map D.str) = some l
  | [] => rfl
  | x :: r => by
    rw [List.map_cons]
    show (strsOf (r.map D.str)).map (x :: ·) = _
    rw [strs_map r]
    rfl
structure WirOk (ns : List Str) (h : Str → Int) (l : List Arr) : Prop where
  six : ns.length ≤ 6
  small : ∀ z ∈ ns, z.length ≤ 6
  one : ∀ z ∈ ns, 1 ≤ h z ∧ h z ≤ 3
  few : l.length ≤ 900
  arr : ∀ x ∈ l, x.1 ∈ ns ∧ x.2.1 ∈ ns ∧ x.2.2.length ≤ 1
theorem head_len {ns : List Str} (W : WirOk ns h l) {z : Str} (hz : z ∈ ns) : (headS h z).length ≤ 8 := by
  unfold headS
  rw [app_len, app_len, app_len, dig_len (W.one z hz).1 (W.one z hz).2]
  have a := W.small z hz
  have b : Str.empty.length = 0 := by decide +kernel
  have c : (":" : Str).length = 1 := by decide +kernel
  omega
theorem tail_len (W : WirOk ns h l) {x : Arr} (hx : x ∈ l) : (tailS x).length ≤ 15 := by
  unfold tailS
  rw [app_len, app_len, app_len, app_len, app_len]
  obtain ⟨a, b, c⟩ := W.arr x hx
  have a := W.small _ a
  have b := W.small _ b
  have e : Str.empty.length = 0 := by decide +kernel
  have f : (" " : Str).length = 1 := by decide +kernel
  omega
theorem sum_le {B : Nat} : ∀ {l : List Str}, (∀ z ∈ l, z.length ≤ B) → (l.map (·.length)).sum ≤ l.length * B
  | [], _ => by simp
  | x :: r, h => by
    have a := h x (by simp)
    have b := sum_le (l := r) fun z hz => h z (List.mem_cons_of_mem _ hz)
    rw [List.map_cons, List.sum_cons, List.length_cons, Nat.add_mul]
    omega
theorem d_str (W : WirOk ns h l) (h1 : R (.str (strW ns h (sortA l)))) : f_Wiring___str__ [wir ns h l] R fun _ _ => False := by
  have pl : (sortA l).length = l.length := (List.mergeSort_perm _ _).length_eq
  have s1 : (" " : Str).length = 1 := by decide +kernel
  have s2 : ("; " : Str).length = 2 := by decide +kernel
  refine ⟨rfl, rfl, ?_⟩
  refine lc_f (fun d => match d with | .str x => some (.str (headS h x)) | _ => none) _ [] (fun d hd C q => ?_) ?_
  · obtain ⟨x, hx, rfl⟩ := List.mem_map.mp hd
    have hl := head_len W hx
    unfold headS at hl
    rw [app_len, app_len, app_len] at hl
    have hx6 := W.small x hx
    refine ⟨sz (by omega), sz (by rw [app_len]; omega), sz (by rw [app_len, app_len]; omega), rfl, ?_⟩
    have g : dkGet (keyI ns h) (.inr x) = some (.int (h x)) := by rw [keyI_get, if_pos hx]
    show match dkGet (keyI ns h) (.inr x) with | some d => _ | none => False
    rw [g]
    have b := W.one x hx
    exact ⟨⟨by omega, by omega⟩, sz (by rw [app_len, app_len, app_len]; omega), q⟩
  · have e : (ns.map D.str).filterMap (fun d => match d with | .str x => some (.str (headS h x)) | _ => none) = (ns.map (headS h)).map D.str := by
      rw [List.filterMap_map]
      show ns.filterMap (fun x => some (D.str (headS h x))) = _
      rw [List.filterMap_eq_map', List.map_map]
      rfl
    rw [List.nil_append, e]
    dsimp only
    rw [strs_map]
    have bs : ∀ z ∈ ns.map (headS h), z.length ≤ 8 := fun z hz => by
      obtain ⟨y, hy, rfl⟩ := List.mem_map.mp hz
      exact head_len W hy
    have b1 := sum_le bs
    have b2 := W.six
    have b3 := join_le " " (ns.map (headS h))
    rw [List.length_map] at b1 b3
    rw [s1] at b3
    refine ⟨by rw [List.length_map, s1]; omega, rfl, ?_⟩
    refine lc_f (fun d => match d with | .tup [.str a, .str b, .str c] => some (.str (tailS (a, b, c))) | _ => none) _ [] (fun d hd C q => ?_) ?_
    · obtain ⟨x, hx, rfl⟩ := List.mem_map.mp hd
      obtain ⟨a, b, c⟩ := x
      have hx' : (a, b, c) ∈ l := (List.mergeSort_perm _ _).mem_iff.mp hx
      have hl := tail_len W hx'
      unfold tailS at hl
      rw [app_len, app_len, app_len, app_len, app_len] at hl
      dsimp only at hl
      exact ⟨rfl, sz (show a.length ≤ 100000 by omega), sz (show (Str.empty ++ a).length ≤ 100000 by simp only [app_len]; omega), sz (show (Str.empty ++ a ++ " ").length ≤ 100000 by simp only [app_len]; omega), sz (show c.length ≤ 100000 by omega), sz (show (Str.empty ++ a ++ " " ++ c).length ≤ 100000 by simp only [app_len]; omega), sz (show (Str.empty ++ a ++ " " ++ c ++ " ").length ≤ 100000 by simp only [app_len]; omega), sz (show b.length ≤ 100000 by omega), sz (show (Str.empty ++ a ++ " " ++ c ++ " " ++ b).length ≤ 100000 by simp only [app_len]; omega), q⟩
    · have e2 : ((sortA l).map arrD).filterMap (fun d => match d with | .tup [.str a, .str b, .str c] => some (.str (tailS (a, b, c))) | _ => none) = ((sortA l).map tailS).map D.str := by
        rw [List.filterMap_map]
        show (sortA l).filterMap (fun x => some (D.str (tailS x))) = _
        rw [List.filterMap_eq_map', List.map_map]
        rfl
      rw [List.nil_append, e2]
      generalize hj : Txt.join (Str.ofString " ") (ns.map (headS h)) = hd at b3
      have bt : ∀ z ∈ (sortA l).map tailS, z.length ≤ 15 := fun z hz => by
        obtain ⟨y, hy, rfl⟩ := List.mem_map.mp hz
        exact tail_len W ((List.mergeSort_perm _ _).mem_iff.mp hy)
      have b4 := sum_le bt
      rw [List.length_map, pl] at b4
      have b5 := W.few
      refine ⟨sz (show (D.str hd :: (((sortA l).map tailS).map D.str ++ [])).length ≤ 100000 by simp only [List.append_nil, List.length_cons, List.length_map]; omega), ?_⟩
      have e3 : strsOf (D.str hd :: (((sortA l).map tailS).map D.str ++ [])) = some (hd :: (sortA l).map tailS) := by
        rw [List.append_nil]
        exact strs_map (hd :: (sortA l).map tailS)
      show (match strsOf (D.str hd :: (((sortA l).map tailS).map D.str ++ [])) with | some zs => ((zs.map (·.length)).sum + zs.length * ("; " : Str).length ≤ 16777216 ∧ R (.str (Txt.join "; " zs))) | none => False)
      rw [e3]
      refine ⟨?_, ?_⟩
      · rw [List.map_cons, List.sum_cons, List.length_cons, List.length_map, pl, s2]
        omega
      · rw [← hj]
        exact h1
/-! ### == of wirings that say the same -/
theorem eqKvs_self {l : List (Key × V)} (h : ∀ p ∈ l, valV l p.1 = some p.2) (hf : ∀ p ∈ l, eqV p.2 p.2 = true) : Cmp.eqKvs l l = true := by
  unfold Cmp.eqKvs
  rw [Bool.and_eq_true]
  refine ⟨by simp, ?_⟩
  have go : ∀ k : List (Key × V), (∀ p ∈ k, valV l p.1 = some p.2) → (∀ p ∈ k, eqV p.2 p.2 = true) → Cmp.hitsB l k = true := by
    intro k
    induction k with
    | nil => exact fun _ _ => rfl
    | cons p r ih =>
      intro a b
      unfold Cmp.hitsB
      rw [a p (by simp)]
      dsimp only
      rw [b p (by simp), Bool.true_and]
      exact ih (fun q hq => a q (List.mem_cons_of_mem _ hq)) fun q hq => b q (List.mem_cons_of_mem _ hq)
  exact go l h hf
theorem kvV_key (ns : List Str) (h : Str → Int) : kvV (keyI ns h) = topF ns h := by
  unfold kvV keyI topF
  rw [List.map_map]
  rfl
theorem eqK_self {ns : List Str} {h h' : Str → Int} (e : ∀ z ∈ ns, h z = h' z) : Cmp.eqKvs (kvV (keyI ns h)) (kvV (keyI ns h')) = true := by
  have e1 : topF ns h = topF ns h' := List.map_congr_left fun z hz => by rw [e z hz]
  rw [kvV_key, kvV_key, e1]
  refine eqKvs_self (fun p hp => ?_) fun p hp => ?_
  · obtain ⟨z, hz, rfl⟩ := List.mem_map.mp hp
    rw [topF_val, if_pos hz]
  · obtain ⟨z, hz, rfl⟩ := List.mem_map.mp hp
    exact beq_self_eq_true _
--E--
end
end K11

set_option Elab.async false
set_option linter.all false
set_option maxRecDepth 100000
set_option maxHeartbeats 1000000
namespace K11
open PySem PySem.Spec PyProof.Rows L2 Rl Dr _root_.Tx Ex Er So Wi Vw Dl
open PySem.W (dataLe dataLt sortLe_total dataLt_cons dataLt_tuple dataLt_str alike)
section
variable {ns : List Str} {h : Str → Int} {l : List Arr} {z : Str} {R : D → Prop} {Ex : Nat → D → Prop}
--B--
/-! ### arrows in order: one order -/
theorem lt_dA (t u : Arr) : dataLt (dA t) (dA u) = if t.1 = u.1 then (if t.2.1 = u.2.1 then (if t.2.2 = u.2.2 then false else decide (t.2.2.cps.toList < u.2.2.cps.toList)) else decide (t.2.1.cps.toList < u.2.1.cps.toList)) else decide (t.1.cps.toList < u.1.cps.toList) := by
  have ev : ∀ x y : Str, (PyData.eqv (.str x) (.str y) = true) = (x = y) := fun x y => by
    show ((x == y) = true) = _
    simp
  unfold dA
  rw [dataLt_tuple, dataLt_cons (by rfl), dataLt_cons (by rfl), dataLt_cons (by rfl), dataLt_str, dataLt_str, dataLt_str]
  simp only [ev]
  rfl
theorem lt_anti {x y : Str} (h1 : decide (x.cps.toList < y.cps.toList) = false) (h2 : decide (y.cps.toList < x.cps.toList) = false) : x = y :=
  leS_anti (List.not_lt.mp (of_decide_eq_false h2)) (List.not_lt.mp (of_decide_eq_false h1))
theorem dA_anti {t u : Arr} (h1 : dataLt (dA t) (dA u) = false) (h2 : dataLt (dA u) (dA t) = false) : t = u := by
  obtain ⟨a, b, c⟩ := t
  obtain ⟨d, e, f⟩ := u
  rw [lt_dA] at h1 h2
  dsimp only at h1 h2
  by_cases e1 : a = d
  · subst e1
    rw [if_pos rfl] at h1 h2
    by_cases e2 : b = e
    · subst e2
      rw [if_pos rfl] at h1 h2
      by_cases e3 : c = f
      · rw [e3]
      · rw [if_neg e3] at h1
        rw [if_neg fun z => e3 z.symm] at h2
        exact absurd (lt_anti h1 h2) e3
    · rw [if_neg e2] at h1
      rw [if_neg fun z => e2 z.symm] at h2
      exact absurd (lt_anti h1 h2) e2
  · rw [if_neg e1] at h1
    rw [if_neg fun z => e1 z.symm] at h2
    exact absurd (lt_anti h1 h2) e1
theorem le_lt (t u : Arr) : dataLe false dA t u = !dataLt (dA u) (dA t) := rfl
theorem sortA_perm {l m : List Arr} (p : l.Perm m) : sortA l = sortA m := by
  have tl := sortLe_total (PyProof.Rows.listOrd PyProof.Rows.itemOrd) false fun t : Arr => PySem.W.keyToks (dA t)
  refine List.Perm.eq_of_pairwise (le := fun t u => dataLe false dA t u = true) (fun t u _ _ a b => ?_) (PySem.W.sort_pairwise tl l) (PySem.W.sort_pairwise tl m) ?_
  · rw [le_lt, Bool.not_eq_true'] at a b
    exact dA_anti b a
  · exact (List.mergeSort_perm _ _).trans (p.trans (List.mergeSort_perm _ _).symm)
theorem sortA_mem {l m : List Arr} (e : sortA l = sortA m) {t : Arr} (h : t ∈ l) : t ∈ m := by
  have : t ∈ sortA l := (List.mergeSort_perm _ _).mem_iff.mpr h
  rw [e] at this
  exact (List.mergeSort_perm _ _).mem_iff.mp this
theorem sortA_len (l : List Arr) : (sortA l).length = l.length := (List.mergeSort_perm _ _).length_eq
/-! ### what is due of arrows that stand -/
theorem perm_of : ∀ {xs ys : List Str}, xs.Nodup → (∀ z ∈ xs, z ∈ ys) → ys.length = xs.length → xs.Perm ys
  | [], ys, _, _, h => by
    rw [List.length_eq_zero_iff.mp h]
  | x :: r, ys, nd, sub, h => by
    obtain ⟨n1, n2⟩ := List.nodup_cons.mp nd
    have hx : x ∈ ys := sub x (List.mem_cons_self)
    have p := List.perm_cons_erase hx
    have ih : r.Perm (ys.erase x) := perm_of n2 (fun z hz => (List.mem_erase_of_ne (fun e => n1 (by rw [← e]; exact hz))).mpr (sub z (List.mem_cons_of_mem _ hz))) (by
      rw [List.length_erase_of_mem hx, h]
      rfl)
    exact (ih.cons x).trans p.symm

theorem nodup_perm : ∀ {xs ys : List Str}, xs.Nodup → ys.Nodup → (∀ z, z ∈ xs ↔ z ∈ ys) → xs.Perm ys
  | [], ys, _, _, h => by
    cases ys with
    | nil => exact .nil
    | cons y r => exact absurd ((h y).mpr (by simp)) (by simp)
  | x :: r, ys, nd, nd2, h => by
    obtain ⟨n1, n2⟩ := List.nodup_cons.mp nd
    have hx : x ∈ ys := (h x).mp (by simp)
    refine ((nodup_perm n2 (nd2.erase x) fun z => ?_).cons x).trans (List.perm_cons_erase hx).symm
    rw [nd2.mem_erase_iff]
    constructor
    · intro hz
      exact ⟨fun e => n1 (e ▸ hz), (h z).mp (List.mem_cons_of_mem _ hz)⟩
    · intro hz
      rcases List.mem_cons.mp ((h z).mpr hz.2) with w | w
      · exact absurd w hz.1
      · exact w
/-! ### the signs do not see the arrows' order -/
--E--
end
end K11

set_option Elab.async false
set_option linter.all false
set_option maxRecDepth 100000
set_option maxHeartbeats 1000000
namespace K11
open PySem PySem.Spec PyProof.Rows L2 Rl Dr _root_.Tx Ex Er So Wi Vw Dl
section
variable {ns ks : List Str} {h : Str → Int} {l : List Arr} {z : Str} {R : D → Prop} {Ex : Nat → D → Prop}
--B--
/-! ### wirings made of good arrows, of one odd one -/
def ArrIn (ns : List Str) (l : List Arr) : Prop := ∀ x ∈ l, x.1 ∈ ns ∧ x.2.1 ∈ ns ∧ x.2.2 ∈ Wi.SG
theorem arrOf_in {x : Arr} (hx : x.1 ∈ ns ∧ x.2.1 ∈ ns ∧ x.2.2 ∈ Wi.SG) : arrOf ns (arrD x) = some x := by
  show (if x.1 ∈ ns ∧ x.2.1 ∈ ns ∧ x.2.2 ∈ Wi.SG then some (x.1, x.2.1, x.2.2) else none) = some x
  rw [if_pos hx]
theorem prs_app (a b : List Arr) : prs (a ++ b) = prs a ++ prs b := List.map_append
theorem badA_cons {x : D} {r : List D} {seen : List (Str × Str)} : badA ns (x :: r) seen = match arrOf ns x with
    | none => some x
    | some t => if (t.1, t.2.1) ∈ seen then some x else badA ns r (seen ++ [(t.1, t.2.1)]) := rfl
theorem badA_good : ∀ {l : List Arr} {more : List D} (seen : List (Str × Str)), ArrIn ns l → (seen ++ prs l).Nodup → badA ns (l.map arrD ++ more) seen = badA ns more (seen ++ prs l)
  | [], more, seen, _, _ => by
    rw [List.map_nil, List.nil_append]
    show _ = badA ns more (seen ++ [])
    rw [List.append_nil]
  | x :: r, more, seen, hi, nd => by
    have e := arrOf_in (hi x (by simp))
    rw [List.map_cons, List.cons_append]
    rw [badA_cons, e]
    dsimp only
    have e2 : seen ++ prs (x :: r) = (seen ++ [(x.1, x.2.1)]) ++ prs r := by simp [prs]
    rw [e2] at nd ⊢
    have n1 : (x.1, x.2.1) ∉ seen := fun q => by
      have := (List.nodup_append.mp (List.nodup_append.mp nd).1).2.2 _ q _ (List.mem_singleton.mpr rfl)
      exact this rfl
    rw [if_neg n1]
    exact badA_good _ (fun y hy => hi y (List.mem_cons_of_mem _ hy)) nd
theorem fm_good : ∀ {l : List Arr}, ArrIn ns l → (l.map arrD).filterMap (arrOf ns) = l
  | [], _ => rfl
  | x :: r, hi => by
    rw [List.map_cons, List.filterMap_cons, arrOf_in (hi x (by simp))]
    dsimp only
    rw [fm_good fun y hy => hi y (List.mem_cons_of_mem _ hy)]
theorem anyT_arr (x : Arr) : anyTD (arrD x) = true := rfl
theorem vn_len {z : Str} (h : vn z = true) : z.length ≤ 6 := by
  unfold vn at h
  simp only [Bool.and_eq_true, decide_eq_true_eq] at h
  exact h.1.1.2
theorem good_ok (tk : TopsOk ns h) (n0 : ns ≠ []) : goodT ns (fun z => .int (h z)) = true := by
  have n1 : 1 ≤ ns.length := by
    cases ns with
    | nil => exact absurd rfl n0
    | cons a b => simp
  unfold goodT
  rw [decide_eq_true n1, decide_eq_true tk.few, decide_eq_true (show cnt (ns.map fun z => iD (D.int (h z))) ≤ 256 from tk.cnt)]
  rw [show ns.all vn = true from List.all_eq_true.mpr tk.ok, show (ns.all fun z => wholeD (D.int (h z))) = true from List.all_eq_true.mpr fun z hz => by
    show (decide (1 ≤ h z) && decide (h z ≤ 3)) = true
    rw [decide_eq_true (tk.one z hz).1, decide_eq_true (tk.one z hz).2]
    rfl]
  rfl
theorem mk_ok (tk : TopsOk ns h) (pk : ns.Perm ks) (n0 : ns ≠ []) (hi : ArrIn ns l) (nd : (prs l).Nodup) (few : l.length ≤ 900) (h1 : R (wir ns h l)) : f_Wiring [.dk (keyI ks h), .lst (l.map arrD)] R Ex := by
  refine ⟨ks, ns, fun z => .int (h z), l.map arrD, rfl, pk, tk.nd, tk.srt, fun z hz => by have := vn_len (tk.ok z hz); omega, fun _ _ => rfl, .inl rfl, by rw [List.length_map]; omega, fun d hd => ?_, ?_⟩
  · obtain ⟨x, _, rfl⟩ := List.mem_map.mp hd
    exact anyT_arr x
  · rw [if_pos (good_ok tk n0)]
    have e := badA_good (more := []) [] hi nd
    rw [List.append_nil] at e
    rw [e]
    show R (wirD ns (ns.map h) ((l.map arrD).filterMap (arrOf ns)))
    rw [fm_good hi, wirD_wir]
    exact h1
theorem wirOk_of (tk : TopsOk ns h) (hi : ArrIn ns l) (few : l.length ≤ 900) : WirOk ns h l := ⟨tk.few, fun z hz => by
  have q := tk.ok z hz
  unfold vn at q
  simp only [Bool.and_eq_true, decide_eq_true_eq] at q
  exact q.1.1.2, tk.one, few, fun x hx => ⟨(hi x hx).1, (hi x hx).2.1, by
    have q := (hi x hx).2.2
    simp only [Wi.SG, List.mem_cons, List.not_mem_nil, or_false] at q
    rcases q with q | q | q <;> (rw [q]; decide +kernel)⟩⟩
/-! ### fewer parts -/
theorem pw_sorted : ∀ {l : List Str}, l.Pairwise leS → sortedS l = true := fun {l} p => sortedS_of_pairwise l (p.imp fun {a b} q => by
  rw [ltCps_eq]
  have q2 : ¬ b.cps.toList < a.cps.toList := q
  simpa using q2)
theorem cnt_cons (t : Int) (ts : List Int) : cnt (t :: ts) = cnt ts * (t + 1) := by
  rw [← cnt_snoc]
  exact cnt_perm (List.perm_append_singleton t ts).symm
theorem mul_mono {a b k : Int} (h1 : 1 ≤ a) (h2 : a ≤ b) (hk : 1 ≤ k) : 1 ≤ a * k ∧ a * k ≤ b * k ∧ b ≤ b * k := by
  refine ⟨?_, Int.mul_le_mul_of_nonneg_right h2 (by omega), ?_⟩
  · have := Int.mul_le_mul h1 hk (by omega) (by omega)
    omega
  · have := Int.mul_le_mul_of_nonneg_left hk (show 0 ≤ b by omega)
    omega
theorem cnt_sub {f : Str → Int} {p : Str → Bool} : ∀ {us : List Str}, (∀ z ∈ us, 1 ≤ f z ∧ f z ≤ 3) → 1 ≤ cnt ((us.filter p).map f) ∧ cnt ((us.filter p).map f) ≤ cnt (us.map f)
  | [], _ => ⟨by show (1 : Int) ≤ 1; decide, by show (1 : Int) ≤ 1; decide⟩
  | z :: r, h => by
    obtain ⟨a, b⟩ := cnt_sub (p := p) (us := r) fun y hy => h y (List.mem_cons_of_mem _ hy)
    have bz := h z (by simp)
    obtain ⟨m1, m2, m3⟩ := mul_mono a b (show 1 ≤ f z + 1 by omega)
    rw [List.map_cons, cnt_cons, List.filter_cons]
    by_cases c : p z = true
    · rw [if_pos c, List.map_cons, cnt_cons]
      exact ⟨m1, m2⟩
    · rw [if_neg c]
      exact ⟨a, Int.le_trans b m3⟩
theorem tops_sub (tk : TopsOk ns h) (p : Str → Bool) : TopsOk (ns.filter p) h := ⟨tk.nd.filter p, pw_sorted ((sorted_le tk.srt).filter p), fun z hz => tk.ok z (List.mem_filter.mp hz).1, fun z hz => tk.one z (List.mem_filter.mp hz).1, Nat.le_trans (List.length_filter_le _ _) tk.few, Int.le_trans (cnt_sub tk.one).2 tk.cnt⟩
--E--
end
end K11

set_option Elab.async false
set_option linter.all false
set_option maxRecDepth 100000
set_option maxHeartbeats 1000000
namespace K11
open PySem PySem.Spec PyProof.Rows L2 Rl Dr _root_.Tx Ex Er So Wi Vw Dl
section
variable {s : Addr} {N : Nat} {Rk : RK} {Ek : EK}
--B--
/-! ### names -/
abbrev NA : List (List Str) := [["a", "b", "c", "d", "e", "f"], ["x", "x1", "x10", "xy", "y", "z9"], ["valve", "gene", "drop", "arrow", "fact", "t"], ["gene1", "gene2", "gene12", "gene", "hene1", "gene1a"]]
def okN (z : Str) : Bool := vn z && z.cps.toList.all fun c => decide (c < 128)
theorem na_ok : ∀ l ∈ NA, l.Nodup ∧ l.length = 6 ∧ ∀ z ∈ l, okN z = true := by decide +kernel
structure NmOk (z : Str) : Prop where
  v : vn z = true
  o : OkS z
  l : z.length ≤ 6
theorem nm_of {z : Str} (h : okN z = true) : NmOk z := by
  unfold okN at h
  rw [Bool.and_eq_true] at h
  refine ⟨h.1, fun c hc => of_decide_eq_true (List.all_eq_true.mp h.2 c hc), ?_⟩
  have q := h.1
  unfold vn at q
  simp only [Bool.and_eq_true, decide_eq_true_eq] at q
  exact q.1.1.2
structure NmsOk (zs : List Str) : Prop where
  nd : zs.Nodup
  ok : ∀ z ∈ zs, NmOk z

theorem perm_map {α : Type} {f : α → D} {ys : List D} : ∀ {zs : List α}, ys.Perm (zs.map f) → ∃ zs' : List α, ys = zs'.map f ∧ zs'.Perm zs := by
  intro zs p
  have r : Paired (fun v z => v = f z) (zs.map f) zs := by
    clear p
    induction zs with
    | nil => exact .nil
    | cons z r ih => exact .cons rfl ih
  obtain ⟨zs', h, q⟩ := paired_perm p r
  refine ⟨zs', ?_, q⟩
  clear q p r
  induction h with
  | nil => rfl
  | cons e _ ih => rw [e, ih]; rfl
theorem cutToD (xs : List D) (n : Nat) : Dl.cutD xs none (some (n : Int)) = xs.take n := by
  unfold Dl.cutD
  rw [HT.sIx_none, show HT.sIx xs.length xs.length (some (n : Int)) = min n xs.length from HT.sIx_nat xs.length xs.length n]
  show List.take (min n xs.length - 0) (List.drop 0 xs) = _
  rw [Nat.sub_zero, List.drop_zero]
  by_cases h : n ≤ xs.length
  · rw [Nat.min_eq_left h]
  · rw [Nat.min_eq_right (by omega), List.take_of_length_le (Nat.le_refl _), List.take_of_length_le (by omega)]
theorem d_names {k : Nat} (hk : k ≤ 6) (hN : N < 900000) (h1 : ∀ zs : List Str, NmsOk zs → zs.length = k → Rk (.lst (zs.map D.str)) (N + 7)) : f_l_names s [.sta s, .int (k : Int)] N Rk Ek := by
  have fin : ∀ na ∈ NA, ∀ l' : List D, l'.Perm (na.map D.str) → Rk (.lst (Dl.cutD l' none (some (k : Int)))) (N + 1 + (na.map D.str).length) := fun na hna l' p => by
    obtain ⟨n1, n2, n3⟩ := na_ok na hna
    obtain ⟨zs, rfl, q⟩ := perm_map p
    rw [cutToD, ← List.map_take, List.length_map, n2]
    refine h1 _ ⟨(q.nodup_iff.mpr n1).sublist (List.take_sublist _ _), fun z hz => nm_of (n3 z (q.mem_iff.mp (List.mem_of_mem_take hz)))⟩ ?_
    rw [List.length_take, q.length_eq, n2]
    omega
  refine ⟨rfl, ?_⟩
  refine ⟨sz (show (6 : Nat) ≤ 100000 by decide), sz (show (6 : Nat) ≤ 100000 by decide), sz (show (2 : Nat) ≤ 100000 by decide), ?_⟩
  refine ⟨sz (show (6 : Nat) ≤ 100000 by decide), szl (show (2 : Nat) < 100000 by decide), ?_⟩
  refine ⟨sz (show (6 : Nat) ≤ 100000 by decide), szl (show (3 : Nat) < 100000 by decide), ?_⟩
  refine ⟨rfl, by omega, by decide, by decide, fun d d0 d4 => ?_⟩
  obtain rfl | rfl | rfl | rfl : d = 0 ∨ d = 1 ∨ d = 2 ∨ d = 3 := by omega
  · exact ⟨rfl, by decide, (show N + 1 + 6 < 1000000 by omega), fun l' p => fin ["a", "b", "c", "d", "e", "f"] (by simp [NA]) l' p⟩
  · exact ⟨rfl, by decide, (show N + 1 + 6 < 1000000 by omega), fun l' p => fin ["x", "x1", "x10", "xy", "y", "z9"] (by simp [NA]) l' p⟩
  · exact ⟨rfl, by decide, (show N + 1 + 6 < 1000000 by omega), fun l' p => fin ["valve", "gene", "drop", "arrow", "fact", "t"] (by simp [NA]) l' p⟩
  · exact ⟨rfl, by decide, (show N + 1 + 6 < 1000000 by omega), fun l' p => fin ["gene1", "gene2", "gene12", "gene", "hene1", "gene1a"] (by simp [NA]) l' p⟩
--E--
end
end K11

set_option Elab.async false
set_option linter.all false
set_option maxRecDepth 100000
set_option maxHeartbeats 1000000
namespace K11
open PySem PySem.Spec PyProof.Rows L2 Rl Dr _root_.Tx Ex Er So Wi Vw Dl
section
variable {s : Addr} {N : Nat} {Rk : RK} {Ek : EK}
--B--
/-! ### tops -/
def setH (h : Str → Int) (u : Str) (t : Int) : Str → Int := fun y => if y = u then t else h y
def addK (ks : List Str) (z : Str) : List Str := if z ∈ ks then ks else ks ++ [z]
theorem put_key {ks : List Str} {z : Str} : putD (keyI ks h) (Sum.inr z : Key) (.int (h z)) = keyI (addK ks z) h := by
  have an : ((keyI ks h).any fun kv => decide (kv.1 = (Sum.inr z : Key))) = decide (z ∈ ks) := by
    unfold keyI
    rw [List.any_map]
    by_cases c : z ∈ ks
    · rw [decide_eq_true c]
      exact List.any_eq_true.mpr ⟨z, c, by simp⟩
    · rw [decide_eq_false c]
      refine List.any_eq_false.mpr fun y hy => ?_
      have : (Sum.inr y : Key) ≠ Sum.inr z := fun e => c (Sum.inr.inj e ▸ hy)
      simpa using this
  unfold putD addK
  rw [an]
  by_cases c : z ∈ ks
  · rw [if_pos (decide_eq_true c), if_pos c]
    unfold keyI
    rw [List.map_map]
    refine List.map_congr_left fun y _ => ?_
    show (if (Sum.inr y : Key) = Sum.inr z then ((Sum.inr y : Key), D.int (h z)) else ((Sum.inr y : Key), D.int (h y))) = _
    by_cases e : (Sum.inr y : Key) = Sum.inr z
    · rw [if_pos e, Sum.inr.inj e]
    · rw [if_neg e]
  · rw [if_neg (by rw [decide_eq_false c]; exact Bool.false_ne_true), if_neg c]
    unfold keyI
    rw [List.map_append]
    rfl
theorem keyI_set {us : List Str} {h : Str → Int} {u : Str} {t : Int} (hu : u ∉ us) : putD (keyI us h) (Sum.inr u : Key) (.int t) = keyI (us ++ [u]) (setH h u t) := by
  have e1 : keyI us h = keyI us (setH h u t) := List.map_congr_left fun y hy => by
    have n : y ≠ u := fun q => hu (q ▸ hy)
    unfold setH
    rw [if_neg n]
  have e2 : (D.int t) = .int (setH h u t u) := by
    unfold setH
    rw [if_pos rfl]
  rw [e1, e2, put_key]
  unfold addK
  rw [if_neg hu]
theorem w_fac : ∀ j : Nat, j < 6 → ∃ f : Int, atI [D.int 32, D.int 16, D.int 8, D.int 4, D.int 2, D.int 1] (j : Int) = some (.int f) ∧ f * 2 = 2 ^ (6 - j) ∧ f = 2 ^ (6 - (j + 1)) ∧ 1 ≤ f ∧ f ≤ 32 := by
  intro j hj
  obtain rfl | rfl | rfl | rfl | rfl | rfl : j = 0 ∨ j = 1 ∨ j = 2 ∨ j = 3 ∨ j = 4 ∨ j = 5 := by omega
  · exact ⟨32, rfl, by decide, by decide, by decide, by decide⟩
  · exact ⟨16, rfl, by decide, by decide, by decide, by decide⟩
  · exact ⟨8, rfl, by decide, by decide, by decide, by decide⟩
  · exact ⟨4, rfl, by decide, by decide, by decide, by decide⟩
  · exact ⟨2, rfl, by decide, by decide, by decide, by decide⟩
  · exact ⟨1, rfl, by decide, by decide, by decide, by decide⟩
theorem d_tops {pool : List Str} (nd : pool.Nodup) (h6 : pool.length ≤ 6) (hN : N < 900000)
    (h1 : ∀ (ks : List Str) (h : Str → Int), ks.Perm pool → (∀ z ∈ ks, 1 ≤ h z ∧ h z ≤ 3) → cnt (ks.map h) ≤ 256 → Rk (.dk (keyI ks h)) (N + 3 * pool.length)) : f_l_tops s [.sta s, .lst (pool.map D.str)] N Rk Ek := by
  refine ⟨rfl, ?_⟩
  refine ⟨rfl, by rw [List.length_map]; omega, by rw [List.length_map]; omega, fun l' p => ?_⟩
  obtain ⟨ks, rfl, pk⟩ := perm_map p
  have kl := pk.length_eq
  rw [List.length_map]
  refine for_0 (items := ks.map D.str) (fun pre δ M => ∃ (us rest : List Str) (h : Str → Int) (x y : Sl), ks = us ++ rest ∧ pre = us.map D.str ∧ M = N + pool.length + 2 * us.length ∧ (∀ d, x ≠ .o d) ∧ (∀ d, y ≠ .o d) ∧ δ = [.v (.sta s), .v (.lst (pool.map D.str)), .o (.dk (keyI us h)), .v (.int (cnt (us.map h))), x, y] ∧ (∀ z ∈ us, 1 ≤ h z ∧ h z ≤ 3) ∧ 1 ≤ cnt (us.map h) ∧ cnt (us.map h) * 2 ^ (6 - us.length) ≤ 256) ?_ ?_ ?_
  · rintro pre x post e δ M nx ⟨us, rest, h, y, y2, e1, rfl, rfl, hy, hy2, rfl, hh, c1, c2⟩ hn
    rw [e1, List.map_append, List.append_cancel_left_eq] at e
    cases rest with
    | nil => cases e
    | cons u rest =>
      rw [List.map_cons] at e
      injection e with e2 e3
      subst e2
      have hlen : us.length < 6 := by
        have q := congrArg List.length e1
        rw [List.length_append, List.length_cons] at q
        omega
      have nu : u ∉ us := fun q => by
        have n2 := pk.nodup_iff.mpr nd
        rw [e1] at n2
        exact (List.nodup_append.mp n2).2.2 u q u (by simp) rfl
      obtain ⟨f, f1, f2, f3, f4, f5⟩ := w_fac us.length hlen
      refine ⟨fun i hi => ?_, ?_⟩
      · obtain rfl : i = 4 := by simpa using hi
        cases y with
        | o d => exact absurd rfl (hy d)
        | v d => trivial
        | no => trivial
      have kl2 : (keyI us h).length = us.length := by
        unfold keyI
        rw [List.length_map]
      have c256 : cnt (us.map h) ≤ 256 := by
        have : (1 : Int) ≤ 2 ^ (6 - us.length) := by omega
        exact Int.le_trans (mul_mono c1 (Int.le_refl _) this).2.2 c2
      have fin : ∀ t : Int, 1 ≤ t → t ≤ 3 → cnt (us.map h) * (t + 1) * f ≤ 256 → nx [.v (.sta s), .v (.lst (pool.map D.str)), .o (.dk (keyI (us ++ [u]) (setH h u t))), .v (.int (cnt (us.map h) * (t + 1))), .v (.str u), .v (.int t)] (N + pool.length + 2 * us.length + 2) := fun t t1 t3 hb => by
        have em : (us ++ [u]).map (setH h u t) = us.map h ++ [t] := by
          rw [List.map_append]
          congr 1
          · exact List.map_congr_left fun y hy => by
              have n : y ≠ u := fun q => nu (q ▸ hy)
              unfold setH
              rw [if_neg n]
          · simp [setH]
        have ec : cnt ((us ++ [u]).map (setH h u t)) = cnt (us.map h) * (t + 1) := by rw [em, cnt_snoc]
        refine hn _ _ ⟨us ++ [u], rest, setH h u t, .v (.str u), .v (.int t), by rw [e1]; simp, by simp, by rw [List.length_append]; simp; omega, (fun _ z => by cases z), (fun _ z => by cases z), by rw [ec], fun z hz => ?_, ?_, ?_⟩
        · unfold setH
          by_cases q : z = u
          · rw [if_pos q]
            exact ⟨t1, t3⟩
          · rw [if_neg q]
            rcases List.mem_append.mp hz with hz | hz
            · exact hh z hz
            · exact absurd (by simpa using hz) q
        · rw [ec]
          exact (mul_mono c1 (Int.le_refl _) (by omega)).1
        · rw [ec, List.length_append, List.length_singleton, ← f3]
          exact hb
      have p64 : (2 : Int) ^ 64 = 18446744073709551616 := by decide
      have main : ∀ t : Int, 1 ≤ t → t ≤ 3 → ∀ M', M' = N + pool.length + 2 * us.length + 2 → (dSeqS (dIfS [2] (dTv (dOp dGt (dOp dMul (dOp dMul (dVar 3) (dOp dAdd (dVar 5) (dC (.int 1)))) (dOp dIx (dLst (dCons (dC (.int 32)) (dCons (dC (.int 16)) (dCons (dC (.int 8)) (dCons (dC (.int 4)) (dCons (dC (.int 2)) (dCons (dC (.int 1)) dNil))))))) (dCB dLen (dCons (dVar 2) dNil)))) (dC (.int 256)))) (dSet [] 5 (dC (.int 1))) dNext)
          (dSeqS (dSet [] 3 (dOp dMul (dVar 3) (dOp dAdd (dVar 5) (dC (.int 1))))) (dPut [] 2 [] (dVar 4) (dVar 5)))) { nx := nx, rt := Rk, bk := (dRet [2] (dVar 2)) (endD Rk fun _ _ _ => False), ct := nx, ex := (endD Rk fun _ _ _ => False).ex }
          [.v (.sta s), .v (.lst (pool.map D.str)), .o (.dk (keyI us h)), .v (.int (cnt (us.map h))), .v (.str u), .v (.int t)] M' := by
        intro t t1 t3 M' hM
        subst hM
        have put : ∀ t : Int, 1 ≤ t → t ≤ 3 → cnt (us.map h) * (t + 1) * f ≤ 256 → (dSeqS (dSet [] 3 (dOp dMul (dVar 3) (dOp dAdd (dVar 5) (dC (.int 1))))) (dPut [] 2 [] (dVar 4) (dVar 5))) { nx := nx, rt := Rk, bk := (dRet [2] (dVar 2)) (endD Rk fun _ _ _ => False), ct := nx, ex := (endD Rk fun _ _ _ => False).ex }
            [.v (.sta s), .v (.lst (pool.map D.str)), .o (.dk (keyI us h)), .v (.int (cnt (us.map h))), .v (.str u), .v (.int t)] (N + pool.length + 2 * us.length + 2) := fun t t1 t3 hb => by
          have q := fin t t1 t3 hb
          rw [← keyI_set nu] at q
          exact ⟨.inl ⟨by omega, by omega⟩, trivial, szl (by rw [kl2]; omega), q⟩
        refine ⟨.inl ⟨by omega, by omega⟩, sz (show (6 : Nat) ≤ 100000 by decide), ?_⟩
        show match atI [D.int 32, D.int 16, D.int 8, D.int 4, D.int 2, D.int 1] (((keyI us h).length : Nat) : Int) with | some d => _ | none => False
        rw [kl2, f1]
        refine ⟨.inr ⟨by omega, by omega⟩, ?_⟩
        show if decide (256 < cnt (us.map h) * (t + 1) * f) = true then _ else _
        by_cases c : 256 < cnt (us.map h) * (t + 1) * f
        · rw [if_pos (decide_eq_true c)]
          refine put 1 (by decide) (by decide) ?_
          rw [Int.mul_assoc, Int.mul_comm (1 + 1) f]
          show cnt (us.map h) * (f * 2) ≤ 256
          rw [f2]
          exact c2
        · rw [if_neg (by rw [decide_eq_false c]; exact Bool.false_ne_true)]
          exact put t t1 t3 (by omega)
      refine ⟨sz (show (3 : Nat) ≤ 100000 by decide), rfl, by omega, by decide, by decide, fun d d0 d3 => ?_⟩
      obtain rfl | rfl | rfl : d = 0 ∨ d = 1 ∨ d = 2 := by omega
      · exact ⟨rfl, by omega, by decide, by decide, fun t t0 t3 => main (1 + t) (by omega) (by omega) _ (by omega)⟩
      · exact ⟨rfl, by omega, by decide, by decide, fun t t0 t3 => main (1 + t) (by omega) (by omega) _ (by omega)⟩
      · exact ⟨rfl, by omega, by decide, by decide, fun t t0 t3 => main (1 + t) (by omega) (by omega) _ (by omega)⟩
  · rintro δ M ⟨us, rest, h, y, y2, e1, e2, rfl, hy, hy2, rfl, hh, c1, c2⟩
    have e3 : us = ks := by
      have := congrArg List.length e2
      rw [List.length_map, List.length_map] at this
      have l2 := congrArg List.length e1
      rw [List.length_append] at l2
      have : rest = [] := List.eq_nil_of_length_eq_zero (by omega)
      rw [e1, this, List.append_nil]
    subst e3
    have q := h1 us h pk hh (by
      have : (1 : Int) ≤ 2 ^ (6 - us.length) := by
        have : us.length ≤ 6 := by omega
        obtain r | r | r | r | r | r | r : us.length = 0 ∨ us.length = 1 ∨ us.length = 2 ∨ us.length = 3 ∨ us.length = 4 ∨ us.length = 5 ∨ us.length = 6 := by omega
        all_goals (rw [r]; decide)
      exact Int.le_trans (mul_mono c1 (Int.le_refl _) this).2.2 c2)
    have e4 : N + pool.length + 2 * us.length = N + 3 * pool.length := by omega
    rw [e4]
    exact q
  · exact ⟨[], ks, fun _ => 1, .no, .no, rfl, rfl, rfl, (fun _ z => by cases z), (fun _ z => by cases z), rfl, (fun z hz => by cases hz), by decide, by decide⟩
--E--
end
end K11

set_option Elab.async false
set_option linter.all false
set_option maxRecDepth 100000
set_option maxHeartbeats 1000000
namespace K11
open PySem PySem.Spec PyProof.Rows L2 Rl Dr _root_.Tx Ex Er So Wi Vw Dl
section
variable {s : Addr} {N : Nat} {Rk : RK} {Ek : EK} {ns ks : List Str} {h : Str → Int} {l : List Arr}
--B--
theorem atI_some {l : List D} {d : Int} (h0 : 0 ≤ d) (h1 : d < (l.length : Nat)) : ∃ x, atI l d = some x ∧ x ∈ l := by
  obtain ⟨j, rfl⟩ : ∃ j : Nat, d = (j : Int) := ⟨d.toNat, by omega⟩
  have hj : j < l.length := by omega
  have e : atI l (j : Int) = some l[j] := by
    unfold atI ixN
    rw [if_pos (by omega)]
    simp [hj]
  exact ⟨_, e, List.getElem_mem hj⟩
theorem ix_at {l : List D} {d : Int} {x : D} {C : D → Prop} (e : atI l d = some x) (k : C x) : dIx (.lst l) (.int d) C := by
  show match atI l d with | some x => C x | none => False
  rw [e]
  exact k
--E--
end
end K11

set_option Elab.async false
set_option linter.all false
set_option maxRecDepth 100000
set_option maxHeartbeats 1000000
namespace K11
open PySem PySem.Spec PyProof.Rows L2 Rl Dr _root_.Tx Ex Er So Wi Vw Dl
section
variable {s : Addr} {N : Nat} {Rk : RK} {Ek : EK} {ns ks : List Str} {h : Str → Int} {l : List Arr}
--B--
/-! ### arrows drawn -/
abbrev arB (s : Addr) : DS := (dSeqS (dSet [] 9 (dOp dIx (dLst (dCons (dC (.str "+")) (dCons (dC (.str "+")) (dCons (dC (.str "-")) (dCons (dC (.str "-")) (dCons (dC (.str "?")) dNil)))))) (dCallD s f_l_draw (dCons (dVar 0) (dCons (dOp dIx (dLst (dCons (dC (.int 5)) (dCons (dC (.int 4)) (dCons (dC (.int 2)) (dCons (dC (.int 5)) dNil))))) (dVar 4)) dNil)))))
      (dSeqS (dSet [] 10 (dOp dLt (dIndex (dVar 5) (dCons (dVar 7) dNil)) (dIndex (dVar 5) (dCons (dVar 8) dNil))))
      (dIfS [2] (dTand (dTv (dOp dEq (dCallD s f_l_draw (dCons (dVar 0) (dCons (dVar 3) dNil))) (dC (.int 0)))) (dTand (dTv (dOp dLt (dCB dLen (dCons (dVar 2) dNil)) (dVar 6))) (dTor (dTv (dOp dNe (dVar 4) (dC (.int 3)))) (dTv (dVar 10))))) (dApp [] 2 (dTup (dCons (dVar 7) (dCons (dVar 8) (dCons (dVar 9) dNil))))) dNext)))
abbrev arS (s : Addr) (pd : D) (acc : List Arr) (odds plan : Int) (ranks : List Str) (most : Int) (x7 x8 x9 x10 : Sl) : List Sl := [.v (.sta s), .v pd, .o (.lst (acc.map arrD)), .v (.int odds), .v (.int plan), .v (.lst (ranks.map D.str)), .v (.int most), x7, x8, x9, x10]
theorem idx_at {ranks : List Str} {u : Str} {C : D → Prop} (hu : u ∈ ranks) (k : C (.int (ranks.idxOf u : Nat))) : (match strsOf (ranks.map D.str) with | some zs => zs.idxOf u < zs.length ∧ C (.int (zs.idxOf u : Nat)) | none => False) := by
  rw [strs_map]
  exact ⟨List.idxOf_lt_length_of_mem hu, k⟩
theorem ar_body {E : DEnds} {pd : D} {acc : List Arr} {odds plan most : Int} {ranks : List Str} {u v : Str} {x9 x10 : Sl} {M : Nat} (ho : 2 ≤ odds ∧ odds ≤ 5) (hp : 0 ≤ plan ∧ plan ≤ 3) (hu : u ∈ ranks) (hv : v ∈ ranks) (hM : M < 990000) (ha : acc.length ≤ 36)
    (k1 : ∀ (g : Str) (x : Sl), g ∈ Wi.SG → (acc.length : Int) < most → E.nx (arS s pd (acc ++ [(u, v, g)]) odds plan ranks most (.v (.str u)) (.v (.str v)) (.v (.str g)) x) (M + 2))
    (k2 : ∀ x9 x10 : Sl, E.nx (arS s pd acc odds plan ranks most (.v (.str u)) (.v (.str v)) x9 x10) (M + 2)) :
    arB s E (arS s pd acc odds plan ranks most (.v (.str u)) (.v (.str v)) x9 x10) M := by
  refine ⟨sz (show (5 : Nat) ≤ 100000 by decide), sz (show (4 : Nat) ≤ 100000 by decide), ?_⟩
  obtain ⟨q, eq, hq⟩ := atI_some (l := [D.int 5, D.int 4, D.int 2, D.int 5]) hp.1 (by have := hp.2; simp; omega)
  refine ix_at eq ?_
  obtain ⟨n, rfl, n1, n5⟩ : ∃ n : Int, q = .int n ∧ 2 ≤ n ∧ n ≤ 5 := by
    simp only [List.mem_cons, List.not_mem_nil, or_false] at hq
    rcases hq with rfl | rfl | rfl | rfl
    · exact ⟨5, rfl, by decide, by decide⟩
    · exact ⟨4, rfl, by decide, by decide⟩
    · exact ⟨2, rfl, by decide, by decide⟩
    · exact ⟨5, rfl, by decide, by decide⟩
  refine ⟨rfl, by omega, by omega, by omega, fun d d0 d1 => ?_⟩
  obtain ⟨c, ec, hc⟩ := atI_some (l := [D.str "+", .str "+", .str "-", .str "-", .str "?"]) d0 (by simp; omega)
  refine ix_at ec ?_
  obtain ⟨g, rfl, hg⟩ : ∃ g : Str, c = .str g ∧ g ∈ Wi.SG := by
    simp only [List.mem_cons, List.not_mem_nil, or_false] at hc
    rcases hc with rfl | rfl | rfl | rfl | rfl
    · exact ⟨"+", rfl, by simp [Wi.SG]⟩
    · exact ⟨"+", rfl, by simp [Wi.SG]⟩
    · exact ⟨"-", rfl, by simp [Wi.SG]⟩
    · exact ⟨"-", rfl, by simp [Wi.SG]⟩
    · exact ⟨"?", rfl, by simp [Wi.SG]⟩
  refine ⟨⟨_, rfl⟩, ?_⟩
  show match strsOf (ranks.map D.str) with | some zs => zs.idxOf u < zs.length ∧ _ | none => False
  rw [strs_map]
  refine ⟨List.idxOf_lt_length_of_mem hu, ⟨_, rfl⟩, ?_⟩
  show match strsOf (ranks.map D.str) with | some zs => zs.idxOf v < zs.length ∧ _ | none => False
  rw [strs_map]
  refine ⟨List.idxOf_lt_length_of_mem hv, ?_⟩
  refine ⟨rfl, by omega, by omega, by omega, fun e e0 e1 => ?_⟩
  refine ⟨by simp [PyData.depth], by simp [PyData.depth], ?_⟩
  show if PyData.eqv (.int e) (.int 0) = true then _ else _
  by_cases c1 : e = 0
  · rw [if_pos (by rw [c1]; simp [PyData.eqv])]
    show if decide ((((acc.map arrD).length : Nat) : Int) < most) = true then _ else _
    rw [List.length_map]
    by_cases c2 : (acc.length : Int) < most
    · rw [if_pos (decide_eq_true c2)]
      refine ⟨by simp [PyData.depth], by simp [PyData.depth], ?_⟩
      have app : ∀ x : Sl, (dApp [] 2 (dTup (dCons (dVar 7) (dCons (dVar 8) (dCons (dVar 9) dNil))))) E (arS s pd acc odds plan ranks most (.v (.str u)) (.v (.str v)) (.v (.str g)) x) (M + 2) := fun x => by
        have q := k1 g x hg c2
        unfold arS at q
        rw [List.map_append] at q
        exact ⟨sz (show (3 : Nat) ≤ 100000 by decide), szl (by rw [List.length_map]; omega), q⟩
      show if (!(PyData.eqv (.int plan) (.int 3))) = true then _ else _
      by_cases c3 : (!(PyData.eqv (.int plan) (.int 3))) = true
      · rw [if_pos c3]
        exact app _
      · rw [if_neg c3]
        show if decide (((ranks.idxOf u : Nat) : Int) < ((ranks.idxOf v : Nat) : Int)) = true then _ else _
        by_cases c4 : decide (((ranks.idxOf u : Nat) : Int) < ((ranks.idxOf v : Nat) : Int)) = true
        · rw [if_pos c4]
          exact app _
        · rw [if_neg c4]
          exact k2 _ _
    · rw [if_neg (by rw [decide_eq_false c2]; exact Bool.false_ne_true)]
      exact k2 _ _
  · rw [if_neg (by simp [PyData.eqv, c1])]
    exact k2 _ _
structure ArG (pool : List Str) (acc : List Arr) : Prop where
  hi : ∀ x ∈ acc, x.1 ∈ pool ∧ x.2.1 ∈ pool ∧ x.2.2 ∈ Wi.SG
  nd : (prs acc).Nodup
  few : acc.length ≤ 36
theorem ArG.more {pool : List Str} {acc : List Arr} (G : ArG pool acc) {u v g : Str} {most : Int} (hu : u ∈ pool) (hv : v ∈ pool) (hg : g ∈ Wi.SG) (hn : (u, v) ∉ prs acc) (hl : (acc.length : Int) < most) (hm : most ≤ 36) : ArG pool (acc ++ [(u, v, g)]) := ⟨fun x hx => by
  rcases List.mem_append.mp hx with hx | hx
  · exact G.hi x hx
  · obtain rfl : x = (u, v, g) := by simpa using hx
    exact ⟨hu, hv, hg⟩, by
  rw [prs_app]
  refine List.nodup_append.mpr ⟨G.nd, by simp [prs], fun a ha b hb e => ?_⟩
  obtain rfl : b = (u, v) := by simpa [prs] using hb
  exact hn (e ▸ ha), by
  rw [List.length_append, List.length_singleton]
  omega⟩
theorem noOwn_one {k : Nat} {δ : List Sl} {x : Sl} (e : δ[k]? = some x) (hx : ∀ d, x ≠ .o d) : noOwn [k] δ := fun i hi => by
  obtain rfl : i = k := by simpa using hi
  rw [e]
  cases x with
  | o d => exact absurd rfl (hx d)
  | v d => trivial
  | no => trivial
theorem ar_row {E : DEnds} {pd : D} {pool : List Str} (hpd : pd = .lst (pool.map D.str)) {acc : List Arr} {odds plan most : Int} {ranks us : List Str} {u : Str} {x8 x9 x10 : Sl} {M : Nat} (ho : 2 ≤ odds ∧ odds ≤ 5) (hp : 0 ≤ plan ∧ plan ≤ 3) (pr : ranks.Perm pool) (nd : pool.Nodup) (h6 : pool.length ≤ 6) (hm : most ≤ 36)
    (hu : u ∈ pool) (nu : u ∉ us) (hM : M < 980000) (G : ArG pool acc) (hin : ∀ q ∈ prs acc, q.1 ∈ us) (h8 : ∀ d, x8 ≠ .o d)
    (k : ∀ (acc' : List Arr) (x8 x9 x10 : Sl) (M' : Nat), ArG pool acc' → (∀ q ∈ prs acc', q.1 ∈ us ++ [u]) → (∀ d, x8 ≠ .o d) → M' ≤ M + 12 → E.nx (arS s pd acc' odds plan ranks most (.v (.str u)) x8 x9 x10) M') :
    dFor [] (dSeq (dVar 1)) [8] (dgName 8) (arB s) E (arS s pd acc odds plan ranks most (.v (.str u)) x8 x9 x10) M := by
  subst hpd
  refine for_0 (items := pool.map D.str) (fun pre δ M' => ∃ (vs rest : List Str) (acc : List Arr) (x8 x9 x10 : Sl), pool = vs ++ rest ∧ pre = vs.map D.str ∧ M' = M + 2 * vs.length ∧ (∀ d, x8 ≠ .o d) ∧ δ = arS s (.lst (pool.map D.str)) acc odds plan ranks most (.v (.str u)) x8 x9 x10 ∧ ArG pool acc ∧ ∀ q ∈ prs acc, q.1 ∈ us ∨ (q.1 = u ∧ q.2 ∈ vs)) ?_ ?_ ?_
  · rintro pre x post e δ M' nx ⟨vs, rest, acc, x8, x9, x10, e1, rfl, rfl, h8, rfl, G, hin⟩ hn
    have e0 := e
    rw [e1, List.map_append, List.append_cancel_left_eq] at e
    cases rest with
    | nil => cases e
    | cons v rest =>
      rw [List.map_cons] at e
      injection e with e2 e3
      subst e2
      have hv : v ∈ pool := by rw [e1]; simp
      have nv : v ∉ vs := fun q => by
        rw [e1] at nd
        exact (List.nodup_append.mp nd).2.2 v q v (by simp) rfl
      have vl : vs.length < 6 := by
        have q := congrArg List.length e1
        rw [List.length_append, List.length_cons] at q
        omega
      have fresh : (u, v) ∉ prs acc := fun q => by
        rcases hin _ q with w | ⟨_, w⟩
        · exact nu w
        · exact nv w
      have step : ∀ q, q ∈ us ∨ (q = u) → True := fun _ _ => trivial
      refine ⟨noOwn_one rfl h8, ?_⟩
      refine ar_body ho hp (pr.mem_iff.mpr hu) (pr.mem_iff.mpr hv) (by omega) G.few (fun g x hg hl => ?_) fun y9 y10 => ?_
      · refine hn _ _ ⟨vs ++ [v], rest, acc ++ [(u, v, g)], _, _, _, by rw [e1]; simp, by simp, by rw [List.length_append]; simp; omega, (fun _ z => by cases z), rfl, G.more hu hv hg fresh hl hm, fun q hq => ?_⟩
        rw [prs_app] at hq
        rcases List.mem_append.mp hq with hq | hq
        · rcases hin q hq with w | ⟨w1, w2⟩
          · exact .inl w
          · exact .inr ⟨w1, List.mem_append_left _ w2⟩
        · obtain rfl : q = (u, v) := by simpa [prs] using hq
          exact .inr ⟨rfl, by simp⟩
      · refine hn _ _ ⟨vs ++ [v], rest, acc, _, _, _, by rw [e1]; simp, by simp, by rw [List.length_append]; simp; omega, (fun _ z => by cases z), rfl, G, fun q hq => ?_⟩
        rcases hin q hq with w | ⟨w1, w2⟩
        · exact .inl w
        · exact .inr ⟨w1, List.mem_append_left _ w2⟩
  · rintro δ M' ⟨vs, rest, acc, x8, x9, x10, e1, e2, rfl, h8, rfl, G, hin⟩
    have vl : vs.length ≤ 6 := by
      have q := congrArg List.length e1
      rw [List.length_append] at q
      omega
    refine k acc x8 x9 x10 _ G (fun q hq => ?_) h8 (by omega)
    rcases hin q hq with w | ⟨w, _⟩
    · exact List.mem_append_left _ w
    · rw [w]
      simp
  · exact ⟨[], pool, acc, x8, x9, x10, rfl, rfl, rfl, h8, rfl, G, fun q hq => .inl (hin q hq)⟩
--E--
end
end K11

set_option Elab.async false
set_option linter.all false
set_option maxRecDepth 100000
set_option maxHeartbeats 1000000
namespace K11
open PySem PySem.Spec PyProof.Rows L2 Rl Dr _root_.Tx Ex Er So Wi Vw Dl
section
variable {s : Addr} {N : Nat} {Rk : RK} {Ek : EK} {ns ks : List Str} {h : Str → Int} {l : List Arr}
--B--
theorem ar_end {E : DEnds} {pool : List Str} {odds plan most : Int} {ranks : List Str} {M : Nat} (ho : 2 ≤ odds ∧ odds ≤ 5) (hp : 0 ≤ plan ∧ plan ≤ 3) (pr : ranks.Perm pool) (nd : pool.Nodup) (h6 : pool.length ≤ 6) (hm : most ≤ 36) (hM : M < 900100)
    (hE : ∀ (acc : List Arr) (x7 x8 x9 x10 : Sl) (M' : Nat), ArG pool acc → M' ≤ M + 72 → E.nx (arS s (.lst (pool.map D.str)) acc odds plan ranks most x7 x8 x9 x10) M') :
    dFor [] (dSeq (dVar 1)) [7] (dgName 7) (dFor [] (dSeq (dVar 1)) [8] (dgName 8) (arB s)) E (arS s (.lst (pool.map D.str)) [] odds plan ranks most .no .no .no .no) M := by
  refine for_0 (items := pool.map D.str) (fun pre δ M' => ∃ (us rest : List Str) (acc : List Arr) (x7 x8 x9 x10 : Sl), pool = us ++ rest ∧ pre = us.map D.str ∧ M' ≤ M + 12 * us.length ∧ (∀ d, x7 ≠ .o d) ∧ (∀ d, x8 ≠ .o d) ∧ δ = arS s (.lst (pool.map D.str)) acc odds plan ranks most x7 x8 x9 x10 ∧ ArG pool acc ∧ ∀ q ∈ prs acc, q.1 ∈ us) ?_ ?_ ?_
  · rintro pre x post e δ M' nx ⟨us, rest, acc, x7, x8, x9, x10, e1, rfl, hM', h7, h8, rfl, G, hin⟩ hn
    rw [e1, List.map_append, List.append_cancel_left_eq] at e
    cases rest with
    | nil => cases e
    | cons u rest =>
      rw [List.map_cons] at e
      injection e with e2 e3
      subst e2
      have hu : u ∈ pool := by rw [e1]; simp
      have nu : u ∉ us := fun q => by
        rw [e1] at nd
        exact (List.nodup_append.mp nd).2.2 u q u (by simp) rfl
      have ul : us.length < 6 := by
        have q := congrArg List.length e1
        rw [List.length_append, List.length_cons] at q
        omega
      refine ⟨noOwn_one rfl h7, ?_⟩
      refine ar_row rfl ho hp pr nd h6 hm hu nu (by omega) G hin h8 fun acc' y8 y9 y10 M2 G' hin' h8' hM2 => ?_
      exact hn _ _ ⟨us ++ [u], rest, acc', _, _, _, _, by rw [e1]; simp, by simp, by rw [List.length_append, List.length_singleton]; omega, (fun _ z => by cases z), h8', rfl, G', hin'⟩
  · rintro δ M' ⟨us, rest, acc, x7, x8, x9, x10, e1, e2, hM', h7, h8, rfl, G, hin⟩
    have ul : us.length ≤ 6 := by
      have q := congrArg List.length e1
      rw [List.length_append] at q
      omega
    exact hE acc x7 x8 x9 x10 _ G (by omega)
  · exact ⟨[], pool, [], .no, .no, .no, .no, rfl, rfl, Nat.le_refl _, (fun _ z => by cases z), (fun _ z => by cases z), rfl, ⟨(fun x hx => by cases hx), .nil, by decide⟩, fun q hq => by cases hq⟩
theorem d_arrows_drawn {pool : List Str} (nd : pool.Nodup) (h6 : pool.length ≤ 6) (hN : N < 900000)
    (h1 : ∀ (l : List Arr) (M : Nat), ArG pool l → M ≤ N + 200 → Rk (.lst (l.map arrD)) M) : f_l_arrows s [.sta s, .lst (pool.map D.str)] N Rk Ek := by
  have ret : ∀ (odds plan most : Int) (ranks : List Str) (acc : List Arr) (x7 x8 x9 x10 : Sl) (M : Nat), ArG pool acc → M ≤ N + 100 → (dRet [2] (dCallD s f_l_order (dCons (dVar 0) (dCons (dVar 2) dNil)))) (endD Rk fun _ _ _ => False) (arS s (.lst (pool.map D.str)) acc odds plan ranks most x7 x8 x9 x10) M := by
    intro odds plan most ranks acc x7 x8 x9 x10 M G hM
    have few := G.few
    refine ⟨rfl, by rw [List.length_map]; omega, by rw [List.length_map]; omega, fun l' p => ?_⟩
    obtain ⟨m, rfl, pm⟩ := perm_map p
    rw [List.length_map]
    exact h1 m _ ⟨fun x hx => G.hi x (pm.mem_iff.mp hx), (pm.symm.map fun t : Arr => (t.1, t.2.1)).nodup G.nd, by rw [pm.length_eq]; exact few⟩ (by omega)
  refine ⟨rfl, ?_⟩
  refine ⟨sz (show (0 : Nat) ≤ 100000 by decide), ?_⟩
  refine ⟨sz (show (3 : Nat) ≤ 100000 by decide), rfl, by omega, by decide, by decide, fun d d0 d3 => ?_⟩
  obtain ⟨o, eo, ho⟩ := atI_some (l := [D.int 2, D.int 3, D.int 5]) d0 (by simp; omega)
  refine ix_at eo ?_
  obtain ⟨odds, rfl, o2, o5⟩ : ∃ n : Int, o = .int n ∧ 2 ≤ n ∧ n ≤ 5 := by
    simp only [List.mem_cons, List.not_mem_nil, or_false] at ho
    rcases ho with rfl | rfl | rfl
    · exact ⟨2, rfl, by decide, by decide⟩
    · exact ⟨3, rfl, by decide, by decide⟩
    · exact ⟨5, rfl, by decide, by decide⟩
  refine ⟨rfl, by omega, by decide, by decide, fun plan p0 p4 => ?_⟩
  refine ⟨rfl, by rw [List.length_map]; omega, by rw [List.length_map]; omega, fun l' pm => ?_⟩
  obtain ⟨ranks, rfl, pr⟩ := perm_map pm
  refine ⟨sz (show (2 : Nat) ≤ 100000 by decide), rfl, by rw [List.length_map]; omega, by decide, by decide, fun e e0 e8 => ?_⟩
  rw [List.length_map]
  refine ⟨by simp [PyData.depth], by simp [PyData.depth], ?_⟩
  show dIx (.lst [.int 12, .int 36]) (.int (if PyData.eqv (.int e) (.int 0) = true then 1 else 0)) _
  by_cases c : PyData.eqv (.int e) (.int 0) = true
  · rw [if_pos c]
    refine ix_at (x := .int 36) rfl ?_
    exact ar_end ⟨o2, o5⟩ ⟨p0, by omega⟩ pr nd h6 (by decide) (by omega) fun acc x7 x8 x9 x10 M' G hM' => ret odds plan 36 ranks acc x7 x8 x9 x10 M' G (by omega)
  · rw [if_neg c]
    refine ix_at (x := .int 12) rfl ?_
    exact ar_end ⟨o2, o5⟩ ⟨p0, by omega⟩ pr nd h6 (by decide) (by omega) fun acc x7 x8 x9 x10 M' G hM' => ret odds plan 12 ranks acc x7 x8 x9 x10 M' G (by omega)
--E--
end
end K11

set_option Elab.async false
set_option linter.all false
set_option maxRecDepth 100000
set_option maxHeartbeats 1000000
namespace K11
open PySem PySem.Spec PyProof.Rows L2 Rl Dr _root_.Tx Ex Er So Wi Vw Dl
open PySem.W (AllAlike Sortable dataLe)
section
variable {s : Addr} {N : Nat} {E : DEnds} {ns : List Str} {h : Str → Int} {l : List Arr}
--B--
/-! ### sorted arrows, over data -/
theorem sortDD_arr (l : List Arr) : sortDD (l.map arrD) (l.map dA) = (sortA l).map arrD := by
  unfold sortDD sortA
  have e1 : (l.map arrD).zip (l.map dA) = l.map fun t => (arrD t, dA t) := by
    induction l with
    | nil => rfl
    | cons x r ih => rw [List.map_cons, List.map_cons, List.zip_cons_cons, List.map_cons, ih]
  have e2 : (l.mergeSort fun t u => dataLe false dA t u).map (fun t => (arrD t, dA t)) = (l.map fun t => (arrD t, dA t)).mergeSort (dataLe false fun p : D × PyData => p.2) :=
    List.map_mergeSort fun a _ b _ => rfl
  rw [e1, ← e2, List.map_map]
  rfl
theorem py_arrs : ∀ l : List Arr, toPyA (l.map arrD) = some (l.map dA)
  | [] => by unfold toPyA; rfl
  | x :: r => by
    rw [List.map_cons]
    unfold toPyA
    rw [py_arrs r]
    rfl
theorem d_sortA {C : D → Prop} (k : C (.lst ((sortA l).map arrD))) : dSorted [.lst (l.map arrD)] C := by
  cases l with
  | nil =>
    refine ⟨by decide, fun ys p _ => ?_⟩
    rw [List.Perm.eq_nil p]
    have e : sortA [] = [] := List.Perm.eq_nil (List.mergeSort_perm _ _)
    rw [e] at k
    exact k
  | cons x r =>
    show dSortData ((x :: r).map arrD) C
    unfold dSortData
    rw [py_arrs]
    refine ⟨dA_alike _, dA_sortable _, dA_depth _, ?_⟩
    rw [sortDD_arr]
    exact k
--E--
end
end K11

set_option Elab.async false
set_option linter.all false
set_option maxRecDepth 100000
set_option maxHeartbeats 1000000
namespace K11
open PySem PySem.Spec PyProof.Rows L2 Rl Dr _root_.Tx Ex Er So Wi Vw Dl
section
variable {ns ks : List Str} {h : Str → Int} {l : List Arr} {z : Str}
--B--
/-! ### a wiring's text, cut -/
theorem app_cps (x y : Str) : (x ++ y).cps.toList = x.cps.toList ++ y.cps.toList := by
  show (x.cps ++ y.cps).toList = _
  simp
theorem join_cps (sep : Str) : ∀ ps : List Str, (Txt.join sep ps).cps.toList = Spl.joinL sep.cps.toList (ps.map (·.cps.toList)) := by
  intro ps
  rw [TL.join_eq]
  induction ps with
  | nil => rfl
  | cons x r ih =>
    cases r with
    | nil => rfl
    | cons y r =>
      show (x ++ sep ++ Str.join sep (y :: r)).cps.toList = _
      rw [app_cps, app_cps, ih]
      rfl
theorem sc_cps : ("; " : Str).cps.toList = [59, 32] := by decide +kernel
theorem sp_cps : (" " : Str).cps.toList = [32] := by decide +kernel
theorem co_cps : (":" : Str).cps.toList = [58] := by decide +kernel
theorem sc_kind : Builtin.Str.strKind ("; " : Str) = 1 := by decide +kernel
theorem sp_kind : Builtin.Str.strKind (" " : Str) = 1 := by decide +kernel
theorem co_kind : Builtin.Str.strKind (":" : Str) = 1 := by decide +kernel
theorem split_sc {ps : List Str} (h0 : ps ≠ []) (hc : ∀ a ∈ ps, 59 ∉ a.cps.toList) : Txt.split (Txt.join "; " ps) "; " = ps :=
  Spl.split_join sc_cps sc_kind h0 hc (by rw [join_cps, sc_cps])
theorem split_sp {ps : List Str} (h0 : ps ≠ []) (hc : ∀ a ∈ ps, 32 ∉ a.cps.toList) : Txt.split (Txt.join " " ps) " " = ps :=
  Spl.split_join sp_cps sp_kind h0 hc (by rw [join_cps, sp_cps])
theorem split_co {ps : List Str} (h0 : ps ≠ []) (hc : ∀ a ∈ ps, 58 ∉ a.cps.toList) : Txt.split (Txt.join ":" ps) ":" = ps :=
  Spl.split_join co_cps co_kind h0 hc (by rw [join_cps, co_cps])
/-! signs of names -/
theorem inL_no : inL 32 = false ∧ inL 58 = false ∧ inL 59 = false ∧ inD 32 = false ∧ inD 58 = false ∧ inD 59 = false := by decide +kernel
theorem vn_no {z : Str} (h : vn z = true) : 32 ∉ z.cps.toList ∧ 58 ∉ z.cps.toList ∧ 59 ∉ z.cps.toList := by
  unfold vn at h
  rw [Bool.and_eq_true] at h
  obtain ⟨a1, a2, a3, b1, b2, b3⟩ := inL_no
  have no : ∀ c, inL c = false → inD c = false → c ∉ z.cps.toList := fun c h1 h2 hc => by
    have := List.all_eq_true.mp h.2 c hc
    rw [h1, h2] at this
    cases this
  exact ⟨no _ a1 b1, no _ a2 b2, no _ a3 b3⟩
theorem dig_no {i : Int} (h0 : 1 ≤ i) (h9 : i ≤ 3) : 32 ∉ (toString i : Str).cps.toList ∧ 58 ∉ (toString i : Str).cps.toList ∧ 59 ∉ (toString i : Str).cps.toList := by
  obtain rfl | rfl | rfl : i = 1 ∨ i = 2 ∨ i = 3 := by omega
  all_goals decide +kernel
theorem sg_no {z : Str} (h : z ∈ Wi.SG) : 32 ∉ z.cps.toList ∧ 59 ∉ z.cps.toList := by
  simp only [Wi.SG, List.mem_cons, List.not_mem_nil, or_false] at h
  rcases h with rfl | rfl | rfl <;> decide +kernel
theorem em_cps : Str.empty.cps.toList = [] := rfl
structure Good (ns : List Str) (h : Str → Int) (l : List Arr) : Prop where
  t : TopsOk ns h
  n0 : ns ≠ []
  hi : ArrIn ns l
  nd : (prs l).Nodup
  few : l.length ≤ 36
theorem head_cps (z : Str) : (headS h z).cps.toList = z.cps.toList ++ ([58] ++ (toString (h z) : Str).cps.toList) := by
  unfold headS
  rw [app_cps, app_cps, app_cps, co_cps, em_cps]
  simp
theorem tail_cps (x : Arr) : (tailS x).cps.toList = x.1.cps.toList ++ ([32] ++ (x.2.2.cps.toList ++ ([32] ++ x.2.1.cps.toList))) := by
  unfold tailS
  rw [app_cps, app_cps, app_cps, app_cps, app_cps, sp_cps, em_cps]
  simp
theorem head_no (t : TopsOk ns h) {z : Str} (hz : z ∈ ns) : 32 ∉ (headS h z).cps.toList ∧ 59 ∉ (headS h z).cps.toList := by
  obtain ⟨a1, a2, a3⟩ := vn_no (t.ok z hz)
  obtain ⟨b1, b2, b3⟩ := dig_no (t.one z hz).1 (t.one z hz).2
  rw [head_cps]
  simp only [List.mem_append, List.mem_singleton, not_or]
  exact ⟨⟨a1, by decide, b1⟩, ⟨a3, by decide, b3⟩⟩
theorem tail_no (t : TopsOk ns h) (hi : ArrIn ns l) {x : Arr} (hx : x ∈ l) : 59 ∉ (tailS x).cps.toList := by
  obtain ⟨i1, i2, i3⟩ := hi x hx
  obtain ⟨a1, a2, a3⟩ := vn_no (t.ok _ i1)
  obtain ⟨b1, b2, b3⟩ := vn_no (t.ok _ i2)
  obtain ⟨c1, c2⟩ := sg_no i3
  rw [tail_cps]
  simp only [List.mem_append, List.mem_singleton, not_or]
  exact ⟨a3, by decide, c2, by decide, b3⟩
theorem joinL_no {c : Nat} {w : List Nat} (hw : c ∉ w) : ∀ {ps : List (List Nat)}, (∀ a ∈ ps, c ∉ a) → c ∉ Spl.joinL w ps
  | [], _ => by simp [Spl.joinL]
  | [a], h => h a (by simp)
  | a :: b :: r, h => by
    show c ∉ a ++ w ++ Spl.joinL w (b :: r)
    simp only [List.mem_append, not_or]
    exact ⟨⟨h a (by simp), hw⟩, joinL_no hw fun x hx => h x (List.mem_cons_of_mem _ hx)⟩
theorem cut_text (g : Good ns h l) : Txt.split (strW ns h l) "; " = Txt.join " " (ns.map (headS h)) :: l.map tailS := by
  refine split_sc (by simp) fun a ha => ?_
  rcases List.mem_cons.mp ha with rfl | ha
  · rw [join_cps, sp_cps]
    refine joinL_no (by decide) fun a ha => ?_
    rw [List.map_map] at ha
    obtain ⟨z, hz, rfl⟩ := List.mem_map.mp ha
    exact (head_no g.t hz).2
  · obtain ⟨x, hx, rfl⟩ := List.mem_map.mp ha
    exact tail_no g.t g.hi hx
theorem cut_heads (g : Good ns h l) : Txt.split (Txt.join " " (ns.map (headS h))) " " = ns.map (headS h) := by
  refine split_sp (by simpa using g.n0) fun a ha => ?_
  obtain ⟨z, hz, rfl⟩ := List.mem_map.mp ha
  exact (head_no g.t hz).1
theorem str_ext {x y : Str} (h : x.cps.toList = y.cps.toList) : x = y := by
  cases x
  cases y
  simpa using h
theorem cut_head (t : TopsOk ns h) {z : Str} (hz : z ∈ ns) : Txt.split (headS h z) ":" = [z, toString (h z)] ∧ Txt.partition (headS h z) ":" = (z, (":" : Str), (toString (h z) : Str)) := by
  obtain ⟨a1, a2, a3⟩ := vn_no (t.ok z hz)
  obtain ⟨b1, b2, b3⟩ := dig_no (t.one z hz).1 (t.one z hz).2
  constructor
  · have e : headS h z = Txt.join ":" [z, toString (h z)] := str_ext (by
      rw [head_cps, join_cps, co_cps]
      simp [Spl.joinL])
    rw [e]
    refine split_co (by simp) fun a ha => ?_
    rcases List.mem_cons.mp ha with rfl | ha
    · exact a2
    · rcases List.mem_cons.mp ha with rfl | ha
      · exact b2
      · cases ha
  · exact Spl.part_at co_cps a2 (head_cps z)
theorem cut_tail (t : TopsOk ns h) (hi : ArrIn ns l) {x : Arr} (hx : x ∈ l) : Txt.split (tailS x) " " = [x.1, x.2.2, x.2.1] := by
  obtain ⟨i1, i2, i3⟩ := hi x hx
  have e : tailS x = Txt.join " " [x.1, x.2.2, x.2.1] := str_ext (by
    rw [tail_cps, join_cps, sp_cps]
    simp [Spl.joinL])
  rw [e]
  refine split_sp (by simp) fun a ha => ?_
  rcases List.mem_cons.mp ha with rfl | ha
  · exact (vn_no (t.ok _ i1)).1
  · rcases List.mem_cons.mp ha with rfl | ha
    · exact (sg_no i3).1
    · rcases List.mem_cons.mp ha with rfl | ha
      · exact (vn_no (t.ok _ i2)).1
      · cases ha
/-! ### how long it is -/
theorem strW_len (W : WirOk ns h l) (few : l.length ≤ 36) : (strW ns h l).length ≤ 800 := by
  have s1 : (" " : Str).length = 1 := by decide +kernel
  have s2 : ("; " : Str).length = 2 := by decide +kernel
  have j1 := join_le " " (ns.map (headS h))
  have j2 := join_le "; " (Txt.join " " (ns.map (headS h)) :: l.map tailS)
  have b1 := sum_le (B := 8) (l := ns.map (headS h)) fun z hz => by
    obtain ⟨y, hy, rfl⟩ := List.mem_map.mp hz
    exact head_len W hy
  have b2 := sum_le (B := 15) (l := l.map tailS) fun z hz => by
    obtain ⟨y, hy, rfl⟩ := List.mem_map.mp hz
    exact tail_len W hy
  rw [List.length_map] at b1 b2
  rw [List.length_map, s1] at j1
  rw [List.map_cons, List.sum_cons, List.length_cons, List.length_map, s2] at j2
  have := W.six
  unfold strW
  omega
/-- as many pairs as can stand -/
theorem pairs_le {n : Nat} {ps : List (Str × Str)} (nd : ps.Nodup) (hn : ns.length ≤ n) (hi : ∀ p ∈ ps, p.1 ∈ ns ∧ p.2 ∈ ns) : ps.length ≤ n * n := by
  have sub : ∀ p ∈ ps, p ∈ ns.flatMap fun a => ns.map fun b => (a, b) := fun p hp => by
    obtain ⟨a, b⟩ := hi p hp
    exact List.mem_flatMap.mpr ⟨p.1, a, List.mem_map.mpr ⟨p.2, b, rfl⟩⟩
  have h1 : ps.length ≤ (ns.flatMap fun a => ns.map fun b => (a, b)).length := by
    have : ∀ (xs ys : List (Str × Str)), xs.Nodup → (∀ p ∈ xs, p ∈ ys) → xs.length ≤ ys.length := by
      intro xs
      induction xs with
      | nil => intro ys _ _; exact Nat.zero_le _
      | cons x r ih =>
        intro ys nd h
        obtain ⟨n1, n2⟩ := List.nodup_cons.mp nd
        have hx := h x (by simp)
        have := ih (ys.erase x) n2 fun p hp => (List.mem_erase_of_ne fun (e : p = x) => n1 (by rw [← e]; exact hp)).mpr (h p (List.mem_cons_of_mem _ hp))
        rw [List.length_erase_of_mem hx] at this
        have : 0 < ys.length := List.length_pos_of_mem hx
        simp
        omega
    exact this _ _ nd sub
  have h2 : ∀ xs : List Str, (xs.flatMap fun a => ns.map fun b => (a, b)).length = xs.length * ns.length := by
    intro xs
    induction xs with
    | nil => simp
    | cons x r ih =>
      rw [List.flatMap_cons, List.length_append, ih, List.length_map, List.length_cons, Nat.succ_mul]
      omega
  rw [h2] at h1
  exact Nat.le_trans h1 (Nat.mul_le_mul hn hn)
--E--
end
end K11

set_option Elab.async false
set_option linter.all false
set_option maxRecDepth 100000
set_option maxHeartbeats 1000000
namespace K11
open PySem PySem.Spec PyProof.Rows L2 Rl Dr _root_.Tx Ex Er So Wi Vw Dl
section
variable {ns ks : List Str} {h : Str → Int} {l : List Arr} {z : Str} {R : D → Prop} {Ex : Nat → D → Prop}
--B--
theorem keys_of : ∀ ks : List Str, keysOf (keyI ks h) = some ks
  | [] => rfl
  | z :: r => by
    show (keysOf (keyI r h)).map (z :: ·) = _
    rw [keys_of r]
    rfl
theorem sorted_keys (srt : sortedS ns = true) (pk : ns.Perm ks) (few : ns.length ≤ 6) {C : D → Prop} (k : C (.lst (ns.map D.str))) : dSorted [.dk (keyI ks h)] C := by
  show (match keysOf (keyI ks h) with | some zs => zs.length < 64 ∧ ∀ ys : List Str, ys.Perm zs → sortedS ys = true → C (.lst (ys.map .str)) | none => False)
  rw [keys_of]
  refine ⟨by rw [← pk.length_eq]; omega, fun ys p e => ?_⟩
  rw [sorted_one e srt (p.trans pk.symm)]
  exact k
/-! ### the law's text of a wiring -/
def hdS (h : Str → Int) (z : Str) : Str := (z ++ ":") ++ toString (h z)
def tlS (x : Arr) : Str := (((x.1 ++ " ") ++ x.2.2) ++ " ") ++ x.2.1
theorem em_app (z : Str) : Str.empty ++ z = z := str_ext (by
  rw [app_cps, em_cps]
  rfl)
theorem hdS_eq (z : Str) : hdS h z = headS h z := by
  unfold hdS headS
  rw [em_app]
theorem tlS_eq (x : Arr) : tlS x = tailS x := by
  unfold tlS tailS
  rw [em_app]
theorem d_text (W : WirOk ns h l) (srt : sortedS ns = true) (pk : ns.Perm ks) (h1 : R (.str (strW ns h (sortA l)))) : f_l_text [.dk (keyI ks h), .lst (l.map arrD)] R fun _ _ => False := by
  have pl : (sortA l).length = l.length := (List.mergeSort_perm _ _).length_eq
  have s1 : (" " : Str).length = 1 := by decide +kernel
  have s2 : ("; " : Str).length = 2 := by decide +kernel
  have s3 : (":" : Str).length = 1 := by decide +kernel
  refine ⟨rfl, ?_⟩
  dsimp only [w_l_text, dSeqS, dSet, dLst, dCons, dJoin, dC, strR, dLc, dSeq, dCB, dVar, dNil]
  show dSorted [.dk (keyI ks h)] _
  refine sorted_keys srt pk W.six ?_
  refine lc_f (fun d => match d with | .str x => some (.str (headS h x)) | _ => none) _ [] (fun d hd C q => ?_) ?_
  · obtain ⟨x, hx, rfl⟩ := List.mem_map.mp hd
    have hx6 := W.small x hx
    have b := W.one x hx
    have q' : C (some (.str (hdS h x))) 0 := by rw [hdS_eq]; exact q
    refine ⟨sz (by rw [s3]; omega), ?_⟩
    have g : dkGet (keyI ks h) (.inr x) = some (.int (h x)) := by rw [keyI_get, if_pos (pk.mem_iff.mp hx)]
    show match dkGet (keyI ks h) (.inr x) with | some d => _ | none => False
    rw [g]
    exact ⟨⟨by omega, by omega⟩, sz (by rw [app_len, s3, dig_len b.1 b.2]; omega), q'⟩
  · have e : (ns.map D.str).filterMap (fun d => match d with | .str x => some (.str (headS h x)) | _ => none) = (ns.map (headS h)).map D.str := by
      rw [List.filterMap_map]
      show ns.filterMap (fun x => some (D.str (headS h x))) = _
      rw [List.filterMap_eq_map', List.map_map]
      rfl
    rw [List.nil_append, e]
    dsimp only
    rw [strs_map]
    have bs : ∀ z ∈ ns.map (headS h), z.length ≤ 8 := fun z hz => by
      obtain ⟨y, hy, rfl⟩ := List.mem_map.mp hz
      exact head_len W hy
    have b1 := sum_le bs
    have b2 := W.six
    have b3 := join_le " " (ns.map (headS h))
    rw [List.length_map] at b1 b3
    rw [s1] at b3
    refine ⟨by rw [List.length_map, s1]; omega, sz (show (1 : Nat) ≤ 100000 by decide), ?_⟩
    dsimp only [dRet, dJoin, dC, strR, dOp, dLc, dSeq, dCB, dVar, dCons, dNil]
    show dSorted [.lst (l.map arrD)] _
    refine d_sortA ?_
    refine lc_f (fun d => match d with | .tup [.str a, .str b, .str c] => some (.str (tailS (a, b, c))) | _ => none) _ [] (fun d hd C q => ?_) ?_
    · obtain ⟨x, hx, rfl⟩ := List.mem_map.mp hd
      obtain ⟨a, b, c⟩ := x
      have hx' : (a, b, c) ∈ l := (List.mergeSort_perm _ _).mem_iff.mp hx
      have hl := tail_len W hx'
      have q' : C (some (.str (tlS (a, b, c)))) 0 := by rw [tlS_eq]; exact q
      unfold tailS at hl
      rw [app_len, app_len, app_len, app_len, app_len] at hl
      dsimp only at hl
      exact ⟨sz (show a.length + (" " : Str).length ≤ 100000 by omega), sz (show (a ++ " ").length + c.length ≤ 100000 by simp only [app_len]; omega), sz (show (a ++ " " ++ c).length + (" " : Str).length ≤ 100000 by simp only [app_len]; omega), sz (show (a ++ " " ++ c ++ " ").length + b.length ≤ 100000 by simp only [app_len]; omega), q'⟩
    · have e2 : ((sortA l).map arrD).filterMap (fun d => match d with | .tup [.str a, .str b, .str c] => some (.str (tailS (a, b, c))) | _ => none) = ((sortA l).map tailS).map D.str := by
        rw [List.filterMap_map]
        show (sortA l).filterMap (fun x => some (D.str (tailS x))) = _
        rw [List.filterMap_eq_map', List.map_map]
        rfl
      rw [List.nil_append, e2]
      generalize hj : Txt.join (Str.ofString " ") (ns.map (headS h)) = hd at b3
      have bt : ∀ z ∈ (sortA l).map tailS, z.length ≤ 15 := fun z hz => by
        obtain ⟨y, hy, rfl⟩ := List.mem_map.mp hz
        exact tail_len W ((List.mergeSort_perm _ _).mem_iff.mp hy)
      have b4 := sum_le bt
      rw [List.length_map, pl] at b4
      have b5 := W.few
      refine ⟨sz (show ([D.str hd] : List D).length + (((sortA l).map tailS).map D.str).length ≤ 100000 by simp only [List.length_cons, List.length_map, List.length_nil]; omega), ?_⟩
      have e3 : strsOf ([D.str hd] ++ ((sortA l).map tailS).map D.str) = some (hd :: (sortA l).map tailS) := strs_map (hd :: (sortA l).map tailS)
      show (match strsOf ([D.str hd] ++ ((sortA l).map tailS).map D.str) with | some zs => ((zs.map (·.length)).sum + zs.length * ("; " : Str).length ≤ 16777216 ∧ R (.str (Txt.join "; " zs))) | none => False)
      rw [e3]
      refine ⟨?_, ?_⟩
      · rw [List.map_cons, List.sum_cons, List.length_cons, List.length_map, pl, s2]
        omega
      · rw [← hj]
        exact h1
--E--
end
end K11

set_option Elab.async false
set_option linter.all false
set_option maxRecDepth 100000
set_option maxHeartbeats 1000000
namespace K11
open PySem PySem.Spec PyProof.Rows L2 Rl Dr _root_.Tx Ex Er So Wi Vw Dl
section
variable {ns ks : List Str} {h : Str → Int} {l : List Arr} {z : Str} {R : D → Prop} {Ex : Nat → D → Prop}
--B--
/-! ### the parts that a text names -/
def okPart (y : Str) (us : List Str) : Option (Str × Int) := match Txt.split y ":" with
  | [n, t] => if vn n = true ∧ n ∉ us then (TBT.lookup t).map fun v => (n, v) else none
  | _ => none
def pkB : DS := dSeqS (dSet [] 3 (dSplit (dVar 2) (dC (.str ":"))))
      (dSeqS (dIfS [1] (dTor (dTv (dOp dNe (dCB dLen (dCons (dVar 3) dNil)) (dC (.int 2)))) (dTor (dTv (dOp dNotIn (dOp dIx (dVar 3) (dC (.int 1))) (dLst (dCons (dC (.str "1")) (dCons (dC (.str "2")) (dCons (dC (.str "3")) dNil)))))) (dTor (dTnot (dTv (dCall0 f_l_good (dCons (dOp dIx (dVar 3) (dC (.int 0))) dNil)))) (dTv (dOp dIn (dOp dIx (dVar 3) (dC (.int 0))) (dVar 1)))))) (dRet [] dNewK) dNext)
      (dPut [] 1 [] (dOp dIx (dVar 3) (dC (.int 0))) (dCB dIntS (dCons (dOp dIx (dVar 3) (dC (.int 1))) dNil))))
theorem tbt_in (t : Str) : (match TBT.lookup t with | some v => (1 ≤ v ∧ v ≤ 3) ∧ PySem.intText? t = some v ∧ t.length ≤ 640 ∧ ([D.str "1", D.str "2", D.str "3"].any fun z => eqF z (.str t)) = true | none => ([D.str "1", D.str "2", D.str "3"].any fun z => eqF z (.str t)) = false) := by
  by_cases h1 : t = "1"
  · subst h1
    rw [show TBT.lookup ("1" : Str) = some 1 by decide +kernel]
    exact ⟨⟨by decide, by decide⟩, by decide +kernel, by decide +kernel, by decide +kernel⟩
  · by_cases h2 : t = "2"
    · subst h2
      rw [show TBT.lookup ("2" : Str) = some 2 by decide +kernel]
      exact ⟨⟨by decide, by decide⟩, by decide +kernel, by decide +kernel, by decide +kernel⟩
    · by_cases h3 : t = "3"
      · subst h3
        rw [show TBT.lookup ("3" : Str) = some 3 by decide +kernel]
        exact ⟨⟨by decide, by decide⟩, by decide +kernel, by decide +kernel, by decide +kernel⟩
      · have e : TBT.lookup t = none := by
          unfold TBT
          simp only [List.lookup_cons, List.lookup_nil]
          rw [show (t == "1") = false by simpa using h1, show (t == "2") = false by simpa using h2, show (t == "3") = false by simpa using h3]
        rw [e]
        have q : ∀ u : Str, t ≠ u → eqF (.str u) (.str t) = false := fun u hu => by
          show decide (u = t) = false
          exact decide_eq_false fun e => hu e.symm
        simp only [List.any_cons, List.any_nil, Bool.or_false]
        rw [q _ h1, q _ h2, q _ h3]
        rfl
theorem pk_body {E : DEnds} {z y : Str} {us : List Str} {g : Str → Int} {x3 : Sl} {N : Nat} (hy : y.length ≤ 50000) (hu : us.length ≤ 60000) (hx : ∀ d, x3 ≠ .o d) (hbad : okPart y us = none → E.rt (.dk []) N)
    (hgood : ∀ n v, okPart y us = some (n, v) → 1 ≤ v → v ≤ 3 → vn n = true → n ∉ us → E.nx [.v (.str z), .o (.dk (keyI (us ++ [n]) (setH g n v))), .v (.str y), .v (.lst ((Txt.split y ":").map D.str))] N) :
    pkB E [.v (.str z), .o (.dk (keyI us g)), .v (.str y), x3] N := by
  unfold okPart at hbad hgood
  have len : ∀ w ∈ Txt.split y ":", w.length ≤ 50000 := fun w hw => Nat.le_trans (Spl.split_in w hw).2 hy
  unfold pkB
  refine ⟨by decide +kernel, by omega, ?_⟩
  generalize Txt.split y (Str.ofString ":") = ps at hbad hgood len ⊢
  have sl : (keepO [] (D.lst (ps.map D.str)) [.v (.str z), .o (.dk (keyI us g)), .v (.str y), x3]).set 3 (Sl.v (D.lst (ps.map D.str))) = [.v (.str z), .o (.dk (keyI us g)), .v (.str y), .v (.lst (ps.map D.str))] := rfl
  dsimp only
  rw [sl]
  have bad : ∀ {d : D}, (match ps with | [n, t] => if vn n = true ∧ n ∉ us then (TBT.lookup t).map fun v => (n, v) else none | _ => (none : Option (Str × Int))) = none → E.rt (.dk []) N := fun e => hbad e
  refine ⟨by simp [PyData.depth], by simp [PyData.depth], ?_⟩
  show if (!PyData.eqv (.int ((ps.map D.str).length : Nat)) (.int 2)) = true then _ else _
  by_cases c2 : ps.length = 2
  · rw [if_neg (by
      rw [List.length_map, c2]
      simp [PyData.eqv])]
    obtain ⟨n, t, rfl⟩ : ∃ n t, ps = [n, t] := by
      match ps, c2 with
      | [n, t], _ => exact ⟨n, t, rfl⟩
    dsimp only at hbad hgood
    refine ⟨sz (show (3 : Nat) ≤ 100000 by decide), ?_⟩
    have q := tbt_in t
    cases et : TBT.lookup t with
    | none =>
      rw [et] at q hbad
      dsimp only at q
      show if (!([D.str "1", D.str "2", D.str "3"].any fun z => eqF z (.str t))) = true then _ else _
      rw [q, if_pos (by rfl)]
      exact hbad (by split <;> rfl)
    | some v =>
      rw [et] at q hbad hgood
      dsimp only at q
      show if (!([D.str "1", D.str "2", D.str "3"].any fun z => eqF z (.str t))) = true then _ else _
      rw [q.2.2.2, if_neg (by simp)]
      refine ⟨len n (by simp), ?_⟩
      show if (!vn n) = true then _ else _
      by_cases cv : vn n = true
      · rw [cv, if_neg (by simp)]
        show if (dkGet (keyI us g) (.inr n)).isSome = true then _ else _
        rw [keyI_get]
        by_cases cu : n ∈ us
        · rw [if_pos cu, if_pos (by rfl)]
          exact hbad (if_neg fun w => w.2 cu)
        · rw [if_neg cu, if_neg (by simp)]
          refine ⟨v, q.2.1, q.2.2.1, ?_⟩
          have fin := hgood n v (by rw [if_pos ⟨cv, cu⟩]; rfl) q.1.1 q.1.2 cv cu
          rw [← keyI_set cu] at fin
          exact ⟨trivial, szl (show (keyI us g).length < 100000 by unfold keyI; rw [List.length_map]; omega), fin⟩
      · rw [show vn n = false by simpa using cv, if_pos (by rfl)]
        exact hbad (if_neg fun w => cv w.1)
  · rw [if_pos (by
      rw [List.length_map]
      have : ((ps.length : Nat) : Int) ≠ 2 := by omega
      simp [PyData.eqv, this])]
    refine hbad ?_
    split
    · rename_i n t
      exact absurd rfl c2
    · rfl
--E--
end
end K11

set_option Elab.async false
set_option linter.all false
set_option maxRecDepth 100000
set_option maxHeartbeats 1000000
namespace K11
open PySem PySem.Spec PyProof.Rows L2 Rl Dr _root_.Tx Ex Er So Wi Vw Dl
section
variable {ns ks : List Str} {h : Str → Int} {l : List Arr} {z : Str} {R : D → Prop} {Ex : Nat → D → Prop}
--B--
/-! ### all parts of a text -/
theorem split_len (s sub : Str) : (Txt.split s sub).length ≤ s.length + 2 := by
  unfold Txt.split
  split
  · simp
  · split
    · simp
    · unfold Builtin.Str.partsBetween
      simp only [List.length_map, List.length_zip, List.length_cons, List.length_append, List.length_nil]
      have := StrLaws.occ_length_le_len s sub 0 s.length (s.length + 1)
      omega
structure PkOk (us : List Str) (g : Str → Int) : Prop where
  nd : us.Nodup
  ok : ∀ z ∈ us, vn z = true
  one : ∀ z ∈ us, 1 ≤ g z ∧ g z ≤ 3
theorem PkOk.more {us : List Str} {g : Str → Int} (P : PkOk us g) {n : Str} {v : Int} (h1 : 1 ≤ v) (h3 : v ≤ 3) (hv : vn n = true) (hn : n ∉ us) : PkOk (us ++ [n]) (setH g n v) := ⟨List.nodup_append.mpr ⟨P.nd, by simp, fun a ha b hb => by
    obtain rfl : b = n := by simpa using hb
    exact fun e => hn (e ▸ ha)⟩, fun z hz => by
    rcases List.mem_append.mp hz with hz | hz
    · exact P.ok z hz
    · obtain rfl : z = n := by simpa using hz
      exact hv, fun z hz => by
    unfold setH
    by_cases e : z = n
    · rw [if_pos e]
      exact ⟨h1, h3⟩
    · rw [if_neg e]
      rcases List.mem_append.mp hz with hz | hz
      · exact P.one z hz
      · exact absurd (by simpa using hz) e⟩
theorem pk_start {z : Str} {R : D → Prop} (hz : z.length ≤ 50000) (k : forGo [2] (dgName 2) pkB { endP R (fun _ _ => False) with nx := fun δ N => dRet [1] (dVar 1) (endP R fun _ _ => False) δ N } ((Txt.split z " ").map D.str) [.v (.str z), .o (.dk []), .no, .no] 0) : f_l_peaks [.str z] R fun _ _ => False := by
  refine ⟨rfl, ?_⟩
  exact ⟨by decide +kernel, by omega, k⟩
theorem d_peaksN {z : Str} (hz : z.length ≤ 50000) (h0 : R (.dk [])) (h1 : ∀ us g, us.length ≤ 60000 → us ≠ [] → PkOk us g → R (.dk (keyI us g))) : f_l_peaks [.str z] R fun _ _ => False := by
  have sl := split_len z " "
  refine pk_start hz ?_
  refine for_0 (items := (Txt.split z " ").map D.str) (fun pre δ N => ∃ (us : List Str) (g : Str → Int) (x y : Sl), PkOk us g ∧ us.length ≤ pre.length ∧ (pre ≠ [] → us ≠ []) ∧ N = 0 ∧ (∀ d, x ≠ .o d) ∧ (∀ d, y ≠ .o d) ∧ δ = [.v (.str z), .o (.dk (keyI us g)), x, y]) ?_ ?_ ⟨[], fun _ => 1, .no, .no, ⟨.nil, (fun z hz => by cases hz), fun z hz => by cases hz⟩, Nat.le_refl _, fun q => absurd rfl q, rfl, (fun d q => by cases q), (fun d q => by cases q), rfl⟩
  · rintro pre x post e δ N nx ⟨us, g, x2, x3, P, hl, hn0, rfl, hx2, hx3, rfl⟩ hn
    have hm : x ∈ (Txt.split z " ").map D.str := by rw [e]; simp
    obtain ⟨y, hy, rfl⟩ := List.mem_map.mp hm
    have hyl := (Spl.split_in y hy).2
    have hpl : pre.length ≤ z.length + 2 := by
      have := congrArg List.length e
      rw [List.length_map, List.length_append] at this
      omega
    refine ⟨fun i hi => ?_, ?_⟩
    · obtain rfl : i = 2 := by simpa using hi
      cases x2 with
      | o d => exact absurd rfl (hx2 d)
      | v d => trivial
      | no => trivial
    · refine pk_body (E := { endP R (fun _ _ => False) with nx := nx, ct := nx, bk := _ }) (z := z) (y := y) (us := us) (g := g) (x3 := x3) (N := 0) (by omega) (by omega) hx3 (fun _ => h0) fun n v _ v1 v3 hv hnu => hn _ _ ?_
      exact ⟨us ++ [n], setH g n v, _, _, P.more v1 v3 hv hnu, by rw [List.length_append, List.length_append]; simp; omega, fun _ => by simp, rfl, (fun d q => by cases q), (fun d q => by cases q), rfl⟩
  · rintro δ N ⟨us, g, x2, x3, P, hl, hn0, rfl, hx2, hx3, rfl⟩
    exact h1 us g (by rw [List.length_map] at hl; omega) (hn0 (by simpa using Spl.split_ne)) P
theorem setH_same (g : Str → Int) (u : Str) : setH g u (g u) = g := by
  funext y
  unfold setH
  by_cases e : y = u
  · rw [if_pos e, e]
  · rw [if_neg e]
theorem tbt_dig {i : Int} (h1 : 1 ≤ i) (h3 : i ≤ 3) : TBT.lookup (toString i : Str) = some i := by
  obtain rfl | rfl | rfl : i = 1 ∨ i = 2 ∨ i = 3 := by omega
  all_goals decide +kernel
theorem part_head (t : TopsOk ns h) {u : Str} {us : List Str} (hu : u ∈ ns) (nu : u ∉ us) : okPart (headS h u) us = some (u, h u) := by
  unfold okPart
  rw [(cut_head t hu).1]
  dsimp only
  rw [if_pos ⟨t.ok u hu, nu⟩, tbt_dig (t.one u hu).1 (t.one u hu).2]
  rfl
theorem d_peaks_good (g : Good ns h l) (h1 : R (.dk (keyI ns h))) : f_l_peaks [.str (Txt.join " " (ns.map (headS h)))] R fun _ _ => False := by
  have W := wirOk_of g.t g.hi (by have := g.few; omega)
  have jl : (Txt.join " " (ns.map (headS h))).length ≤ 50000 := by
    have s1 : (" " : Str).length = 1 := by decide +kernel
    have j1 := join_le " " (ns.map (headS h))
    have b1 := sum_le (B := 8) (l := ns.map (headS h)) fun z hz => by
      obtain ⟨y, hy, rfl⟩ := List.mem_map.mp hz
      exact head_len W hy
    rw [List.length_map] at b1 j1
    rw [s1] at j1
    have := W.six
    omega
  refine pk_start jl ?_
  rw [cut_heads g]
  generalize hz : Txt.join " " (ns.map (headS h)) = z
  refine for_0 (items := (ns.map (headS h)).map D.str) (fun pre δ N => ∃ (us rest : List Str) (x y : Sl), ns = us ++ rest ∧ pre = (us.map (headS h)).map D.str ∧ N = 0 ∧ (∀ d, x ≠ .o d) ∧ (∀ d, y ≠ .o d) ∧ δ = [.v (.str z), .o (.dk (keyI us h)), x, y]) ?_ ?_ ⟨[], ns, .no, .no, rfl, rfl, rfl, (fun d q => by cases q), (fun d q => by cases q), rfl⟩
  · rintro pre x post e δ N nx ⟨us, rest, x2, x3, e1, rfl, rfl, hx2, hx3, rfl⟩ hn
    cases rest with
    | nil =>
      exfalso
      rw [List.append_nil] at e1
      subst e1
      have := congrArg List.length e
      simp at this
    | cons u rest =>
      have e2 : x = D.str (headS h u) := by
        rw [e1, List.map_append, List.map_append, List.append_cancel_left_eq] at e
        injection e with a b
        exact a.symm
      subst e2
      have hu : u ∈ ns := by rw [e1]; simp
      have nu : u ∉ us := fun q => by
        have n2 := g.t.nd
        rw [e1] at n2
        exact (List.nodup_append.mp n2).2.2 u q u (by simp) rfl
      have ul : us.length ≤ 6 := by
        have := g.t.few
        rw [e1, List.length_append] at this
        omega
      have hh := head_len W hu
      refine ⟨fun i hi => ?_, ?_⟩
      · obtain rfl : i = 2 := by simpa using hi
        cases x2 with
        | o d => exact absurd rfl (hx2 d)
        | v d => trivial
        | no => trivial
      · refine pk_body (E := { endP R (fun _ _ => False) with nx := nx, ct := nx, bk := _ }) (z := z) (y := headS h u) (us := us) (g := h) (x3 := x3) (N := 0) (by omega) (by omega) hx3 (fun q => by rw [part_head g.t hu nu] at q; cases q) fun n v q _ _ _ _ => hn _ _ ?_
        rw [part_head g.t hu nu] at q
        cases q
        exact ⟨us ++ [u], rest, .v (.str (headS h u)), .v (.lst ((Txt.split (headS h u) ":").map D.str)), by rw [e1]; simp, by simp, rfl, (fun d q => by cases q), (fun d q => by cases q), by rw [setH_same]⟩
  · rintro δ N ⟨us, rest, x2, x3, e1, e2, rfl, hx2, hx3, rfl⟩
    have : us = ns := by
      have q := congrArg List.length e2
      have q1 := congrArg List.length e1
      simp at q q1
      have : rest = [] := List.eq_nil_of_length_eq_zero (by omega)
      rw [e1, this, List.append_nil]
    subst this
    exact h1
--E--
end
end K11

set_option Elab.async false
set_option linter.all false
set_option maxRecDepth 100000
set_option maxHeartbeats 1000000
namespace K11
open PySem PySem.Spec PyProof.Rows L2 Rl Dr _root_.Tx Ex Er So Wi Vw Dl
section
variable {ns ks : List Str} {h : Str → Int} {l : List Arr} {z : Str} {R : D → Prop} {Ex : Nat → D → Prop}
--B--
def pickA (p : Arr → Bool) : D → Option D
  | .tup [.str a, .str b, .str c] => if p (a, b, c) = true then some (.tup [.str a, .str b, .str c]) else none
  | _ => none
theorem pickA_map (p : Arr → Bool) : ∀ l : List Arr, (l.map arrD).filterMap (pickA p) = (l.filter p).map arrD
  | [] => rfl
  | y :: ys => by
    obtain ⟨a, b, c⟩ := y
    rw [List.map_cons, List.filterMap_cons, List.filter_cons]
    have e : pickA p (arrD (a, b, c)) = if p (a, b, c) = true then some (arrD (a, b, c)) else none := rfl
    rw [e]
    by_cases q : p (a, b, c) = true
    · rw [if_pos q, if_pos q, List.map_cons, ← pickA_map p ys]
    · rw [if_neg q, if_neg q, ← pickA_map p ys]
/-! ### the arrows that a text names -/
def okLink (y : Str) (us : List Str) (acc : List Arr) : Option Arr := match Txt.split y " " with
  | [a, s, b] => if a ∈ us ∧ b ∈ us ∧ s ∈ Wi.SG ∧ (a, b) ∉ prs acc then some (a, b, s) else none
  | _ => none
def lkB : DS := (dSeqS (dSet [] 7 (dSplit (dVar 6) (dC (.str " "))))
      (dSeqS (dIfS [] (dTor (dTv (dOp dNe (dCB dLen (dCons (dVar 7) dNil)) (dC (.int 3)))) (dTor (dTv (dOp dNotIn (dOp dIx (dVar 7) (dC (.int 0))) (dVar 2))) (dTor (dTv (dOp dNotIn (dOp dIx (dVar 7) (dC (.int 2))) (dVar 2))) (dTv (dOp dNotIn (dOp dIx (dVar 7) (dC (.int 1))) (dLst (dCons (dC (.str "+")) (dCons (dC (.str "-")) (dCons (dC (.str "?")) dNil))))))))) (dRet [] (dLst dNil)) dNext)
      (dSeqS (dIfS [5] (dTv (dOp dNe (dLc (dSeq (dVar 5)) (dgName 8) (dTv (dOp dEq (dSl (dVar 8) dNoneO (dPart (dC (.int 2)))) (dTup (dCons (dOp dIx (dVar 7) (dC (.int 0))) (dCons (dOp dIx (dVar 7) (dC (.int 2))) dNil))))) (dVar 8) [8]) (dLst dNil))) (dRet [] (dLst dNil)) dNext)
      (dApp [] 5 (dTup (dCons (dOp dIx (dVar 7) (dC (.int 0))) (dCons (dOp dIx (dVar 7) (dC (.int 2))) (dCons (dOp dIx (dVar 7) (dC (.int 1))) dNil))))))))
def lkS (z : Str) (parts : List Str) (us : List Str) (g : Str → Int) (rooms : Int) (x4 : Sl) (acc : List Arr) (y : Str) (x7 x8 : Sl) : List Sl := [.v (.str z), .v (.lst (parts.map D.str)), .v (.dk (keyI us g)), .v (.int rooms), x4, .o (.lst (acc.map arrD)), .v (.str y), x7, x8]
theorem sg_in (t : Str) : ([D.str "+", D.str "-", D.str "?"].any fun z => eqF z (.str t)) = decide (t ∈ Wi.SG) := by
  have q : ∀ u : Str, eqF (.str u) (.str t) = decide (u = t) := fun u => rfl
  simp only [List.any_cons, List.any_nil, Bool.or_false, q]
  rw [Bool.eq_iff_iff]
  simp only [Bool.or_eq_true, decide_eq_true_eq, Wi.SG, List.mem_cons, List.not_mem_nil, or_false]
  constructor
  · rintro (h | h | h)
    · exact .inl h.symm
    · exact .inr (.inl h.symm)
    · exact .inr (.inr h.symm)
  · rintro (h | h | h)
    · exact .inl h.symm
    · exact .inr (.inl h.symm)
    · exact .inr (.inr h.symm)
theorem key_in {us : List Str} {g : Str → Int} {a : Str} : (dkGet (keyI us g) (.inr a)).isSome = decide (a ∈ us) := by
  rw [keyI_get]
  by_cases c : a ∈ us
  · rw [if_pos c, decide_eq_true c]
    rfl
  · rw [if_neg c, decide_eq_false c]
    rfl
theorem eqv_two (c1 c2 a b : Str) : PyData.eqv (.tuple [.str c1, .str c2]) (.tuple [.str a, .str b]) = decide ((c1, c2) = (a, b)) := by
  rw [Bool.eq_iff_iff]
  simp [PyData.eqv, PyData.eqvAll]
theorem eqv_nil (ps : List PyData) : PyData.eqv (.list ps) (.list []) = ps.isEmpty := by
  cases ps with
  | nil => simp [PyData.eqv, PyData.eqvAll]
  | cons x r => simp [PyData.eqv, PyData.eqvAll]
theorem depAll_arrs : ∀ l : List Arr, PyData.depthAll (l.map dA) ≤ 3
  | [] => by simp [PyData.depthAll]
  | x :: r => by
    rw [List.map_cons]
    simp only [PyData.depthAll]
    have := depAll_arrs r
    have e : (dA x).depth ≤ 3 := by
      unfold dA
      simp [PyData.depth, PyData.depthAll]
    omega
theorem dep_arrs (l : List Arr) : (PyData.list (l.map dA)).depth ≤ 64 := by
  simp only [PyData.depth]
  have := depAll_arrs l
  omega
theorem lk_body {E : DEnds} {z y : Str} {parts us : List Str} {g : Str → Int} {rooms : Int} {x4 x7 x8 : Sl} {acc : List Arr} {N : Nat} (hy : y.length ≤ 50000) (ha : acc.length ≤ 60000) (h7 : ∀ d, x7 ≠ .o d) (h8 : ∀ d, x8 ≠ .o d) (hbad : okLink y us acc = none → E.rt (.lst []) N)
    (hgood : ∀ t, okLink y us acc = some t → E.nx (lkS z parts us g rooms x4 (acc ++ [t]) y (.v (.lst ((Txt.split y " ").map D.str))) x8) N) :
    lkB E (lkS z parts us g rooms x4 acc y x7 x8) N := by
  unfold okLink at hbad hgood
  unfold lkB
  refine ⟨by decide +kernel, by omega, ?_⟩
  generalize Txt.split y (Str.ofString " ") = ps at hbad hgood ⊢
  have sl : (keepO [] (D.lst (ps.map D.str)) (lkS z parts us g rooms x4 acc y x7 x8)).set 7 (Sl.v (D.lst (ps.map D.str))) = lkS z parts us g rooms x4 acc y (.v (.lst (ps.map D.str))) x8 := rfl
  dsimp only
  rw [sl]
  refine ⟨by simp [PyData.depth], by simp [PyData.depth], ?_⟩
  show if (!PyData.eqv (.int ((ps.map D.str).length : Nat)) (.int 3)) = true then _ else _
  by_cases c3 : ps.length = 3
  · rw [if_neg (by
      rw [List.length_map, c3]
      simp [PyData.eqv])]
    obtain ⟨a, s, b, rfl⟩ : ∃ a s b, ps = [a, s, b] := by
      match ps, c3 with
      | [a, s, b], _ => exact ⟨a, s, b, rfl⟩
    dsimp only at hbad hgood
    show if (!(dkGet (keyI us g) (.inr a)).isSome) = true then _ else _
    rw [key_in]
    by_cases ca : a ∈ us
    · rw [decide_eq_true ca, if_neg (by simp)]
      show if (!(dkGet (keyI us g) (.inr b)).isSome) = true then _ else _
      rw [key_in]
      by_cases cb : b ∈ us
      · rw [decide_eq_true cb, if_neg (by simp)]
        refine ⟨sz (show (3 : Nat) ≤ 100000 by decide), ?_⟩
        show if (!([D.str "+", D.str "-", D.str "?"].any fun z => eqF z (.str s))) = true then _ else _
        rw [sg_in]
        by_cases cs : s ∈ Wi.SG
        · rw [decide_eq_true cs, if_neg (by simp)]
          refine lc_f (pickA fun x => decide ((x.1, x.2.1) = (a, b))) _ [] (fun d hd C q => ?_) ?_
          · obtain ⟨x, _, rfl⟩ := List.mem_map.mp hd
            obtain ⟨c1, c2, c3⟩ := x
            refine ⟨sz (show (2 : Nat) ≤ 100000 by decide), ?_⟩
            refine eq_py (x := .tup [.str c1, .str c2]) (y := .tup [.str a, .str b]) (p := .tuple [.str c1, .str c2]) (q := .tuple [.str a, .str b]) rfl rfl (by simp [PyData.depth, PyData.depthAll]) (by simp [PyData.depth, PyData.depthAll]) ?_
            show if PyData.eqv (.tuple [.str c1, .str c2]) (.tuple [.str a, .str b]) = true then C (some (arrD (c1, c2, c3))) N else C none N
            rw [eqv_two]
            have e : pickA (fun x => decide ((x.1, x.2.1) = (a, b))) (arrD (c1, c2, c3)) = if decide ((c1, c2) = (a, b)) = true then some (arrD (c1, c2, c3)) else none := rfl
            rw [e] at q
            by_cases w : decide ((c1, c2) = (a, b)) = true
            · rw [if_pos w] at q
              rw [if_pos w]
              exact q
            · rw [if_neg w] at q
              rw [if_neg w]
              exact q
          · rw [List.nil_append, pickA_map]
            refine ⟨sz (show (0 : Nat) ≤ 100000 by decide), ?_⟩
            refine ne_py (x := .lst ((acc.filter fun x => decide ((x.1, x.2.1) = (a, b))).map arrD)) (y := .lst []) (p := .list ((acc.filter fun x => decide ((x.1, x.2.1) = (a, b))).map dA)) (q := .list []) (by
              show (toPyA _).map PyData.list = _
              rw [py_arrs]
              rfl) rfl (dep_arrs _) (by simp [PyData.depth, PyData.depthAll]) ?_
            show if (!(PyData.eqv (.list ((acc.filter fun x => decide ((x.1, x.2.1) = (a, b))).map dA)) (.list []))) = true then _ else _
            rw [eqv_nil]
            by_cases cp : (a, b) ∈ prs acc
            · rw [if_pos (by
                obtain ⟨x, hx, ex⟩ := List.mem_map.mp cp
                have : (acc.filter fun x => decide ((x.1, x.2.1) = (a, b))) ≠ [] := fun q => by
                  have m : x ∈ (acc.filter fun x => decide ((x.1, x.2.1) = (a, b))) := List.mem_filter.mpr ⟨hx, decide_eq_true ex⟩
                  rw [q] at m
                  cases m
                cases q : (acc.filter fun x => decide ((x.1, x.2.1) = (a, b))) with
                | nil => exact absurd q this
                | cons u r => rfl)]
              exact ⟨sz (show (0 : Nat) ≤ 100000 by decide), hbad (if_neg fun w => w.2.2.2 cp)⟩
            · rw [if_neg (by
                have : (acc.filter fun x => decide ((x.1, x.2.1) = (a, b))) = [] := List.filter_eq_nil_iff.mpr fun x hx q => cp (List.mem_map.mpr ⟨x, hx, of_decide_eq_true q⟩)
                rw [this]
                simp)]
              have fin := hgood (a, b, s) (if_pos ⟨ca, cb, cs, cp⟩)
              have e2 : (acc ++ [(a, b, s)]).map arrD = acc.map arrD ++ [arrD (a, b, s)] := by rw [List.map_append]; rfl
              unfold lkS at fin
              rw [e2] at fin
              exact ⟨sz (show (3 : Nat) ≤ 100000 by decide), szl (show (acc.map arrD).length < 100000 by rw [List.length_map]; omega), fin⟩
        · rw [decide_eq_false cs, if_pos (by rfl)]
          exact ⟨sz (show (0 : Nat) ≤ 100000 by decide), hbad (if_neg fun w => cs w.2.2.1)⟩
      · rw [decide_eq_false cb, if_pos (by rfl)]
        exact ⟨sz (show (0 : Nat) ≤ 100000 by decide), hbad (if_neg fun w => cb w.2.1)⟩
    · rw [decide_eq_false ca, if_pos (by rfl)]
      exact ⟨sz (show (0 : Nat) ≤ 100000 by decide), hbad (if_neg fun w => ca w.1)⟩
  · rw [if_pos (by
      rw [List.length_map]
      have : ((ps.length : Nat) : Int) ≠ 3 := by omega
      simp [PyData.eqv, this])]
    refine ⟨sz (show (0 : Nat) ≤ 100000 by decide), hbad ?_⟩
    split
    · rename_i a s b
      exact absurd rfl c3
    · rfl
--E--
end
end K11

set_option Elab.async false
set_option linter.all false
set_option maxRecDepth 100000
set_option maxHeartbeats 1000000
namespace K11
open PySem PySem.Spec PyProof.Rows L2 Rl Dr _root_.Tx Ex Er So Wi Vw Dl
section
variable {ns ks : List Str} {h : Str → Int} {l : List Arr} {z : Str} {R : D → Prop} {Ex : Nat → D → Prop}
--B--
/-! ### what is due, over data -/
def dueR : DS := (dSeqS (dSet [] 3 (dC (.int 1)))
      (dSeqS (dForK 2 [4] (dgName 4) (dSet [] 3 (dOp dMul (dVar 3) (dOp dAdd (dOp dIx (dVar 2) (dVar 4)) (dC (.int 1))))))
      (dSeqS (dIfS [] (dTor (dTv (dOp dEqK (dVar 2) dNewK)) (dTor (dTv (dOp dGt (dCB dLen (dCons (dVar 2) dNil)) (dC (.int 6)))) (dTv (dOp dGt (dVar 3) (dC (.int 256)))))) (dRet [] (dLst dNil)) dNext)
      (dSeqS (dSetO [] 5 (dLst dNil))
      (dSeqS (dFor [] (dSeq (dSl (dVar 1) (dPart (dC (.int 1))) dNoneO)) [6] (dgName 6) (dSeqS (dSet [] 7 (dSplit (dVar 6) (dC (.str " "))))
      (dSeqS (dIfS [] (dTor (dTv (dOp dNe (dCB dLen (dCons (dVar 7) dNil)) (dC (.int 3)))) (dTor (dTv (dOp dNotIn (dOp dIx (dVar 7) (dC (.int 0))) (dVar 2))) (dTor (dTv (dOp dNotIn (dOp dIx (dVar 7) (dC (.int 2))) (dVar 2))) (dTv (dOp dNotIn (dOp dIx (dVar 7) (dC (.int 1))) (dLst (dCons (dC (.str "+")) (dCons (dC (.str "-")) (dCons (dC (.str "?")) dNil))))))))) (dRet [] (dLst dNil)) dNext)
      (dSeqS (dIfS [5] (dTv (dOp dNe (dLc (dSeq (dVar 5)) (dgName 8) (dTv (dOp dEq (dSl (dVar 8) dNoneO (dPart (dC (.int 2)))) (dTup (dCons (dOp dIx (dVar 7) (dC (.int 0))) (dCons (dOp dIx (dVar 7) (dC (.int 2))) dNil))))) (dVar 8) [8]) (dLst dNil))) (dRet [] (dLst dNil)) dNext)
      (dApp [] 5 (dTup (dCons (dOp dIx (dVar 7) (dC (.int 0))) (dCons (dOp dIx (dVar 7) (dC (.int 2))) (dCons (dOp dIx (dVar 7) (dC (.int 1))) dNil)))))))))
      (dSeqS (dIfS [5] (dTv (dOp dNe (dCall0 f_l_text (dCons (dVar 2) (dCons (dVar 5) dNil))) (dVar 0))) (dRet [] (dLst dNil)) dNext)
      (dRet [5] (dLst (dCons (dVar 2) (dCons (dVar 5) dNil))))))))))
def due5 : DS := (dSeqS (dSetO [] 5 (dLst dNil))
      (dSeqS (dFor [] (dSeq (dSl (dVar 1) (dPart (dC (.int 1))) dNoneO)) [6] (dgName 6) (dSeqS (dSet [] 7 (dSplit (dVar 6) (dC (.str " "))))
      (dSeqS (dIfS [] (dTor (dTv (dOp dNe (dCB dLen (dCons (dVar 7) dNil)) (dC (.int 3)))) (dTor (dTv (dOp dNotIn (dOp dIx (dVar 7) (dC (.int 0))) (dVar 2))) (dTor (dTv (dOp dNotIn (dOp dIx (dVar 7) (dC (.int 2))) (dVar 2))) (dTv (dOp dNotIn (dOp dIx (dVar 7) (dC (.int 1))) (dLst (dCons (dC (.str "+")) (dCons (dC (.str "-")) (dCons (dC (.str "?")) dNil))))))))) (dRet [] (dLst dNil)) dNext)
      (dSeqS (dIfS [5] (dTv (dOp dNe (dLc (dSeq (dVar 5)) (dgName 8) (dTv (dOp dEq (dSl (dVar 8) dNoneO (dPart (dC (.int 2)))) (dTup (dCons (dOp dIx (dVar 7) (dC (.int 0))) (dCons (dOp dIx (dVar 7) (dC (.int 2))) dNil))))) (dVar 8) [8]) (dLst dNil))) (dRet [] (dLst dNil)) dNext)
      (dApp [] 5 (dTup (dCons (dOp dIx (dVar 7) (dC (.int 0))) (dCons (dOp dIx (dVar 7) (dC (.int 2))) (dCons (dOp dIx (dVar 7) (dC (.int 1))) dNil)))))))))
      (dSeqS (dIfS [5] (dTv (dOp dNe (dCall0 f_l_text (dCons (dVar 2) (dCons (dVar 5) dNil))) (dVar 0))) (dRet [] (dLst dNil)) dNext)
      (dRet [5] (dLst (dCons (dVar 2) (dCons (dVar 5) dNil)))))))
def dueE : DS := (dSeqS (dIfS [5] (dTv (dOp dNe (dCall0 f_l_text (dCons (dVar 2) (dCons (dVar 5) dNil))) (dVar 0))) (dRet [] (dLst dNil)) dNext)
      (dRet [5] (dLst (dCons (dVar 2) (dCons (dVar 5) dNil)))))
theorem cutFromD (xs : List D) : Dl.cutD xs (some 1) none = xs.drop 1 := by
  unfold Dl.cutD
  rw [HT.sIx_none, show HT.sIx xs.length 0 (some (1 : Int)) = min 1 xs.length from HT.sIx_nat xs.length 0 1]
  cases xs with
  | nil => rfl
  | cons x r =>
    have : min 1 (x :: r).length = 1 := by simp
    rw [this]
    simp
theorem flat_key (us : List Str) (g : Str → Int) : flatK (keyI us g) = true := List.all_eq_true.mpr fun p hp => by
  obtain ⟨z, _, rfl⟩ := List.mem_map.mp hp
  rfl
theorem eq_none (us : List Str) (g : Str → Int) : Cmp.eqKvs (kvV (keyI us g)) (kvV []) = us.isEmpty := by
  cases us with
  | nil => rfl
  | cons u r => rfl
theorem due_rest {E : DEnds} {z : Str} {parts us : List Str} {g : Str → Int} (one : ∀ z ∈ us, 1 ≤ g z ∧ g z ≤ 3) (few : us.length ≤ 60000) (hbad : ¬ (us ≠ [] ∧ us.length ≤ 6 ∧ cnt (us.map g) ≤ 256) → E.rt (.lst []) 0)
    (hgo : us ≠ [] → us.length ≤ 6 → cnt (us.map g) ≤ 256 → ∀ x4, (∀ d, x4 ≠ Sl.o d) → due5 E [.v (.str z), .v (.lst (parts.map D.str)), .v (.dk (keyI us g)), .v (.int (cnt (us.map g))), x4, .no, .no, .no, .no] 0) :
    dueR E [.v (.str z), .v (.lst (parts.map D.str)), .v (.dk (keyI us g)), .no, .no, .no, .no, .no, .no] 0 := by
  unfold dueR
  show dForK 2 [4] (dgName 4) (dSet [] 3 (dOp dMul (dVar 3) (dOp dAdd (dOp dIx (dVar 2) (dVar 4)) (dC (.int 1))))) _ [.v (.str z), .v (.lst (parts.map D.str)), .v (.dk (keyI us g)), .v (.int 1), .no, .no, .no, .no, .no] 0
  have ki : keysI (.dk (keyI us g)) = some (us.map D.str) := by
    show some ((keyI us g).map fun kv => kD kv.1) = _
    unfold keyI
    rw [List.map_map]
    rfl
  show (match keysI (.dk (keyI us g)) with | some items => items.length ≤ sizeLine ∧ forGo [4] (dgName 4) _ _ items _ 0 | none => False)
  rw [ki]
  refine ⟨sz (by rw [List.length_map]; omega), ?_⟩
  refine for_0 (items := us.map D.str) (fun pre δ N => ∃ (u1 rest : List Str) (x4 : Sl), us = u1 ++ rest ∧ pre = u1.map D.str ∧ N = 0 ∧ (∀ d, x4 ≠ .o d) ∧ δ = [.v (.str z), .v (.lst (parts.map D.str)), .v (.dk (keyI us g)), .v (.int (cnt (u1.map g))), x4, .no, .no, .no, .no]) ?_ ?_ ⟨[], us, .no, rfl, rfl, rfl, (fun d q => by cases q), rfl⟩
  · rintro pre x post e δ N nx ⟨u1, rest, x4, e1, rfl, rfl, hx, rfl⟩ hn
    cases rest with
    | nil =>
      exfalso
      rw [List.append_nil] at e1
      subst e1
      have := congrArg List.length e
      simp at this
    | cons u rest =>
      have e2 : x = D.str u := by
        rw [e1, List.map_append, List.append_cancel_left_eq] at e
        injection e with a b
        exact a.symm
      subst e2
      have hu : u ∈ us := by rw [e1]; simp
      refine ⟨fun i hi => ?_, ?_⟩
      · obtain rfl : i = 4 := by simpa using hi
        cases x4 with
        | o d => exact absurd rfl (hx d)
        | v d => trivial
        | no => trivial
      · have gg : dkGet (keyI us g) (.inr u) = some (.int (g u)) := by rw [keyI_get, if_pos hu]
        show match dkGet (keyI us g) (.inr u) with | some d => _ | none => False
        rw [gg]
        have b := one u hu
        refine ⟨.inr ⟨by omega, by omega⟩, hn _ _ ⟨us.take (u1.length + 1), us.drop (u1.length + 1), .v (.str u), by simp, ?_, rfl, (fun d q => by cases q), ?_⟩⟩
        · rw [e1, List.take_append, List.take_of_length_le (by omega)]
          simp
        · have et : us.take (u1.length + 1) = u1 ++ [u] := by
            rw [e1, List.take_append, List.take_of_length_le (by omega)]
            simp
          rw [et, List.map_append]
          show _ = [_, _, _, Sl.v (.int (cnt (u1.map g ++ [g u]))), _, _, _, _, _]
          rw [cnt_snoc]
          rfl
  · rintro δ N ⟨u1, rest, x4, e1, e2, rfl, hx, rfl⟩
    have : u1 = us := by
      have q := congrArg List.length e2
      have q1 := congrArg List.length e1
      simp at q q1
      have : rest = [] := List.eq_nil_of_length_eq_zero (by omega)
      rw [e1, this, List.append_nil]
    subst this
    refine ⟨flat_key u1 g, rfl, ?_⟩
    show if (Cmp.eqKvs (kvV (keyI u1 g)) (kvV [])) = true then _ else _
    rw [eq_none]
    cases u1 with
    | nil =>
      rw [if_pos (by rfl)]
      exact ⟨sz (show (0 : Nat) ≤ 100000 by decide), hbad fun w => w.1 rfl⟩
    | cons a r =>
      generalize hu : a :: r = u1 at hbad hgo ⊢
      have hne : u1 ≠ [] := by rw [← hu]; simp
      have hem : u1.isEmpty = false := by rw [← hu]; rfl
      rw [hem, if_neg (by simp)]
      show if decide ((6 : Int) < (((keyI u1 g).length : Nat) : Int)) = true then _ else _
      have kl : (keyI u1 g).length = u1.length := by unfold keyI; rw [List.length_map]
      rw [kl]
      by_cases c6 : u1.length ≤ 6
      · rw [if_neg (by simp; omega)]
        show if decide ((256 : Int) < cnt (u1.map g)) = true then _ else _
        by_cases c2 : cnt (u1.map g) ≤ 256
        · rw [if_neg (by simp; omega)]
          exact hgo hne c6 c2 x4 hx
        · rw [if_pos (by simp; omega)]
          exact ⟨sz (show (0 : Nat) ≤ 100000 by decide), hbad fun w => c2 w.2.2⟩
      · rw [if_pos (by simp; omega)]
        exact ⟨sz (show (0 : Nat) ≤ 100000 by decide), hbad fun w => c6 w.2.1⟩
--E--
end
end K11

set_option Elab.async false
set_option linter.all false
set_option maxRecDepth 100000
set_option maxHeartbeats 1000000
namespace K11
open PySem PySem.Spec PyProof.Rows L2 Rl Dr _root_.Tx Ex Er So Wi Vw Dl
section
variable {ns ks : List Str} {h : Str → Int} {l : List Arr} {z : Str} {R : D → Prop} {Ex : Nat → D → Prop}
--B--
/-! ### an order of names -/
theorem sort_ex (us : List Str) : ∃ ns : List Str, ns.Perm us ∧ sortedS ns = true := by
  classical
  refine ⟨us.mergeSort fun a b => decide (leS a b), List.mergeSort_perm _ _, pw_sorted ?_⟩
  have tr : ∀ a b c : Str, decide (leS a b) = true → decide (leS b c) = true → decide (leS a c) = true := fun a b c h1 h2 => decide_eq_true (leS_trans (of_decide_eq_true h1) (of_decide_eq_true h2))
  have to : ∀ a b : Str, (decide (leS a b) || decide (leS b a)) = true := fun a b => by
    rw [Bool.or_eq_true, decide_eq_true_eq, decide_eq_true_eq]
    exact List.le_total _ _
  exact (List.pairwise_mergeSort tr to us).imp fun h => of_decide_eq_true h
/-! ### the arrows of a text, all -/
theorem okLink_ok {y : Str} {us : List Str} {acc : List Arr} {t : Arr} (e : okLink y us acc = some t) (hi : ArrIn us acc) (nd : (prs acc).Nodup) : ArrIn us (acc ++ [t]) ∧ (prs (acc ++ [t])).Nodup := by
  unfold okLink at e
  split at e
  · rename_i a s b _
    by_cases c : a ∈ us ∧ b ∈ us ∧ s ∈ Wi.SG ∧ (a, b) ∉ prs acc
    · rw [if_pos c] at e
      cases e
      refine ⟨fun x hx => ?_, ?_⟩
      · rcases List.mem_append.mp hx with hx | hx
        · exact hi x hx
        · obtain rfl : x = (a, b, s) := by simpa using hx
          exact ⟨c.1, c.2.1, c.2.2.1⟩
      · rw [prs_app]
        refine List.nodup_append.mpr ⟨nd, by simp [prs], fun u hu v hv => ?_⟩
        obtain rfl : v = (a, b) := by simpa [prs] using hv
        exact fun q => c.2.2.2 (q ▸ hu)
    · rw [if_neg c] at e
      cases e
  · cases e
theorem link_tail (t : TopsOk ns h) (hi : ArrIn ns l) {x : Arr} {acc : List Arr} (hx : x ∈ l) (nx : (x.1, x.2.1) ∉ prs acc) : okLink (tailS x) ns acc = some x := by
  unfold okLink
  rw [cut_tail t hi hx]
  obtain ⟨a, b, c⟩ := hi x hx
  dsimp only
  rw [if_pos ⟨a, b, c, nx⟩]
def lkT (z : Str) (parts : List Str) (us : List Str) (g : Str → Int) (rooms : Int) (x4 : Sl) (acc : List Arr) (x6 x7 x8 : Sl) : List Sl := [.v (.str z), .v (.lst (parts.map D.str)), .v (.dk (keyI us g)), .v (.int rooms), x4, .o (.lst (acc.map arrD)), x6, x7, x8]
theorem links_start {E : DEnds} {z : Str} {parts us : List Str} {g : Str → Int} {rooms : Int} {x4 : Sl} (hx : ∀ d, x4 ≠ Sl.o d) (k : forGo [6] (dgName 6) lkB { E with nx := dueE E } ((parts.drop 1).map D.str) (lkT z parts us g rooms x4 [] .no .no .no) 0) : due5 E [.v (.str z), .v (.lst (parts.map D.str)), .v (.dk (keyI us g)), .v (.int rooms), x4, .no, .no, .no, .no] 0 := by
  unfold due5
  refine ⟨sz (show (0 : Nat) ≤ 100000 by decide), ?_⟩
  cases x4 with
  | o d => exact absurd rfl (hx d)
  | v d =>
    show forGo [6] (dgName 6) lkB { E with nx := dueE E } (Dl.cutD (parts.map D.str) (some 1) none) (lkT z parts us g rooms (.v d) [] .no .no .no) 0
    rw [cutFromD, ← List.map_drop]
    exact k
  | no =>
    show forGo [6] (dgName 6) lkB { E with nx := dueE E } (Dl.cutD (parts.map D.str) (some 1) none) (lkT z parts us g rooms .no [] .no .no .no) 0
    rw [cutFromD, ← List.map_drop]
    exact k
theorem links_any {E : DEnds} {z : Str} {parts us : List Str} {g : Str → Int} {rooms : Int} {x4 : Sl} (hx : ∀ d, x4 ≠ Sl.o d) (hp : parts.length ≤ 50002) (hpl : ∀ y ∈ parts, y.length ≤ 50000) (hbad : E.rt (.lst []) 0)
    (hend : ∀ acc x6 x7 x8, ArrIn us acc → (prs acc).Nodup → dueE E (lkT z parts us g rooms x4 acc x6 x7 x8) 0) : due5 E [.v (.str z), .v (.lst (parts.map D.str)), .v (.dk (keyI us g)), .v (.int rooms), x4, .no, .no, .no, .no] 0 := by
  refine links_start hx ?_
  refine for_0 (items := (parts.drop 1).map D.str) (fun pre δ N => ∃ (acc : List Arr) (x6 x7 x8 : Sl), ArrIn us acc ∧ (prs acc).Nodup ∧ acc.length ≤ pre.length ∧ N = 0 ∧ (∀ d, x6 ≠ .o d) ∧ (∀ d, x7 ≠ .o d) ∧ (∀ d, x8 ≠ .o d) ∧ δ = lkT z parts us g rooms x4 acc x6 x7 x8) ?_ ?_ ⟨[], .no, .no, .no, (fun x hx => by cases hx), .nil, Nat.le_refl _, rfl, (fun d q => by cases q), (fun d q => by cases q), (fun d q => by cases q), rfl⟩
  · rintro pre x post e δ N nx ⟨acc, x6, x7, x8, hi, nd, hl, rfl, h6, h7, h8, rfl⟩ hn
    have hm : x ∈ (parts.drop 1).map D.str := by rw [e]; simp
    obtain ⟨y, hy, rfl⟩ := List.mem_map.mp hm
    have hyl := hpl y (List.mem_of_mem_drop hy)
    have hpre : pre.length ≤ 50002 := by
      have := congrArg List.length e
      rw [List.length_map, List.length_append, List.length_drop] at this
      omega
    refine ⟨fun i hi => ?_, ?_⟩
    · obtain rfl : i = 6 := by simpa using hi
      cases x6 with
      | o d => exact absurd rfl (h6 d)
      | v d => trivial
      | no => trivial
    · refine lk_body (E := { E with nx := nx, ct := nx, bk := dueE E }) (z := z) (y := y) (parts := parts) (us := us) (g := g) (rooms := rooms) (x4 := x4) (x7 := x7) (x8 := x8) (acc := acc) (N := 0) hyl (by omega) h7 h8 (fun _ => hbad) fun t et => hn _ _ ?_
      obtain ⟨a, b⟩ := okLink_ok et hi nd
      exact ⟨acc ++ [t], .v (.str y), .v (.lst ((Txt.split y " ").map D.str)), x8, a, b, by rw [List.length_append, List.length_append]; simp; omega, rfl, (fun d q => by cases q), (fun d q => by cases q), h8, rfl⟩
  · rintro δ N ⟨acc, x6, x7, x8, hi, nd, hl, rfl, h6, h7, h8, rfl⟩
    exact hend acc x6 x7 x8 hi nd
theorem links_good {E : DEnds} {z p0 : Str} {g : Str → Int} {rooms : Int} {x4 : Sl} {la : List Arr} (hx : ∀ d, x4 ≠ Sl.o d) (t : TopsOk ns h) (hi : ArrIn ns la) (nd : (prs la).Nodup) (few : la.length ≤ 36) (W : WirOk ns h la)
    (hend : ∀ x6 x7 x8, dueE E (lkT z (p0 :: la.map tailS) ns h rooms x4 la x6 x7 x8) 0) : due5 E [.v (.str z), .v (.lst ((p0 :: la.map tailS).map D.str)), .v (.dk (keyI ns h)), .v (.int rooms), x4, .no, .no, .no, .no] 0 := by
  refine links_start hx ?_
  show forGo [6] (dgName 6) lkB _ ((la.map tailS).map D.str) _ 0
  refine for_0 (items := (la.map tailS).map D.str) (fun pre δ N => ∃ (acc rest : List Arr) (x6 x7 x8 : Sl), la = acc ++ rest ∧ pre = (acc.map tailS).map D.str ∧ N = 0 ∧ (∀ d, x6 ≠ .o d) ∧ (∀ d, x7 ≠ .o d) ∧ (∀ d, x8 ≠ .o d) ∧ δ = lkT z (p0 :: la.map tailS) ns h rooms x4 acc x6 x7 x8) ?_ ?_ ⟨[], la, .no, .no, .no, rfl, rfl, rfl, (fun d q => by cases q), (fun d q => by cases q), (fun d q => by cases q), rfl⟩
  · rintro pre x post e δ N nx ⟨acc, rest, x6, x7, x8, e1, rfl, rfl, h6, h7, h8, rfl⟩ hn
    cases rest with
    | nil =>
      exfalso
      rw [List.append_nil] at e1
      subst e1
      have := congrArg List.length e
      simp at this
    | cons u rest =>
      have e2 : x = D.str (tailS u) := by
        rw [e1, List.map_append, List.map_append, List.append_cancel_left_eq] at e
        injection e with a b
        exact a.symm
      subst e2
      have hu : u ∈ la := by rw [e1]; simp
      have nu : (u.1, u.2.1) ∉ prs acc := fun q => by
        rw [e1, prs_app] at nd
        exact (List.nodup_append.mp nd).2.2 _ q (u.1, u.2.1) (by simp [prs]) rfl
      have hl := tail_len W hu
      have al : acc.length ≤ 36 := by
        have := congrArg List.length e1
        rw [List.length_append] at this
        omega
      have lt := link_tail t hi hu nu
      refine ⟨fun i hi => ?_, ?_⟩
      · obtain rfl : i = 6 := by simpa using hi
        cases x6 with
        | o d => exact absurd rfl (h6 d)
        | v d => trivial
        | no => trivial
      · refine lk_body (E := { E with nx := nx, ct := nx, bk := dueE E }) (z := z) (y := tailS u) (parts := p0 :: la.map tailS) (us := ns) (g := h) (rooms := rooms) (x4 := x4) (x7 := x7) (x8 := x8) (acc := acc) (N := 0) (by omega) (by omega) h7 h8 (fun q => by rw [lt] at q; cases q) fun t et => hn _ _ ?_
        rw [lt] at et
        cases et
        exact ⟨acc ++ [u], rest, .v (.str (tailS u)), .v (.lst ((Txt.split (tailS u) " ").map D.str)), x8, by rw [e1]; simp, by simp, rfl, (fun d q => by cases q), (fun d q => by cases q), h8, rfl⟩
  · rintro δ N ⟨acc, rest, x6, x7, x8, e1, e2, rfl, h6, h7, h8, rfl⟩
    have : acc = la := by
      have q := congrArg List.length e2
      have q1 := congrArg List.length e1
      simp at q q1
      have : rest = [] := List.eq_nil_of_length_eq_zero (by omega)
      rw [e1, this, List.append_nil]
    subst this
    exact hend x6 x7 x8
--E--
end
end K11

set_option Elab.async false
set_option linter.all false
set_option maxRecDepth 100000
set_option maxHeartbeats 1000000
namespace K11
open PySem PySem.Spec PyProof.Rows L2 Rl Dr _root_.Tx Ex Er So Wi Vw Dl
section
variable {ns ks : List Str} {h : Str → Int} {l : List Arr} {z : Str} {R : D → Prop} {Ex : Nat → D → Prop}
--B--
/-! ### what is due -/
theorem str_eqv (a b : Str) : PyData.eqv (.str a) (.str b) = decide (a = b) := by
  rw [Bool.eq_iff_iff]
  simp [PyData.eqv]
theorem at_first (x : D) (l : List D) : atI (x :: l) 0 = some x := by
  unfold atI ixN
  rw [if_pos (by decide), if_pos (by simp)]
  rfl
theorem due_end {E : DEnds} {z : Str} {parts us : List Str} {g : Str → Int} {rooms : Int} {x4 x6 x7 x8 : Sl} {acc : List Arr} (W : WirOk ns g acc) (srt : sortedS ns = true) (pk : ns.Perm us) (hbad : strW ns g (sortA acc) ≠ z → E.rt (.lst []) 0)
    (hgood : strW ns g (sortA acc) = z → E.rt (.lst [.dk (keyI us g), .lst (acc.map arrD)]) 0) : dueE E (lkT z parts us g rooms x4 acc x6 x7 x8) 0 := by
  unfold dueE
  refine d_text (R := fun x => (fun (x : D) (N1 : Nat) => dNe x (.str z) fun y => match y with
    | .bl c => (if c = true then dRet [] (dLst dNil) { E with nx := dRet [5] (dLst (dCons (dVar 2) (dCons (dVar 5) dNil))) E } (lkT z parts us g rooms x4 acc x6 x7 x8) N1 else dRet [5] (dLst (dCons (dVar 2) (dCons (dVar 5) dNil))) E (lkT z parts us g rooms x4 acc x6 x7 x8) N1)
    | _ => False) x 0) W srt pk ?_
  refine ne_py (x := .str (strW ns g (sortA acc))) (y := .str z) (p := .str (strW ns g (sortA acc))) (q := .str z) rfl rfl (by simp [PyData.depth]) (by simp [PyData.depth]) ?_
  show if (!(PyData.eqv (.str (strW ns g (sortA acc))) (.str z))) = true then _ else _
  rw [str_eqv]
  by_cases c : strW ns g (sortA acc) = z
  · rw [decide_eq_true c, if_neg (by simp)]
    exact ⟨sz (show (2 : Nat) ≤ 100000 by decide), hgood c⟩
  · rw [decide_eq_false c, if_pos (by rfl)]
    exact ⟨sz (show (0 : Nat) ≤ 100000 by decide), hbad c⟩
theorem d_due {z : Str} (hz : z.length ≤ 50000) (h0 : R (.lst [])) (h1 : ∀ ns us g l, Good ns g l → ns.Perm us → z = strW ns g (sortA l) → R (.lst [.dk (keyI us g), .lst (l.map arrD)])) : f_l_due [.str z] R fun _ _ => False := by
  have sl := split_len z "; "
  have sn := Spl.split_ne (s := z) (sub := "; ")
  have si : ∀ y ∈ Txt.split z "; ", y.length ≤ 50000 := fun y hy => Nat.le_trans (Spl.split_in y hy).2 hz
  refine ⟨rfl, ?_⟩
  refine ⟨by decide +kernel, by omega, ?_⟩
  generalize Txt.split z (Str.ofString "; ") = parts at sl sn si ⊢
  obtain ⟨p0, rest, rfl⟩ : ∃ p0 rest, parts = p0 :: rest := by
    cases parts with
    | nil => exact absurd rfl sn
    | cons a b => exact ⟨a, b, rfl⟩
  have go : ∀ us g, us.length ≤ 60000 → PkOk us g → dueR (endP R fun _ _ => False) [.v (.str z), .v (.lst ((p0 :: rest).map D.str)), .v (.dk (keyI us g)), .no, .no, .no, .no, .no, .no] 0 := fun us g hl P => by
    refine due_rest P.one hl (fun _ => h0) fun n0 n6 c2 x4 hx => ?_
    refine links_any hx (by omega) si h0 fun acc x6 x7 x8 hi nd => ?_
    obtain ⟨ns, pk, srt⟩ := sort_ex us
    have t : TopsOk ns g := ⟨pk.nodup_iff.mpr P.nd, srt, fun z hz => P.ok z (pk.mem_iff.mp hz), fun z hz => P.one z (pk.mem_iff.mp hz), by rw [pk.length_eq]; exact n6, by rw [cnt_perm (pk.map g)]; exact c2⟩
    have hi2 : ArrIn ns acc := fun x hx => by
      obtain ⟨a, b, c⟩ := hi x hx
      exact ⟨pk.mem_iff.mpr a, pk.mem_iff.mpr b, c⟩
    have few : acc.length ≤ 36 := by
      have := pairs_le (ns := ns) (n := 6) nd t.few fun p hp => by
        obtain ⟨x, hx, rfl⟩ := List.mem_map.mp hp
        exact ⟨(hi2 x hx).1, (hi2 x hx).2.1⟩
      unfold prs at this
      rw [List.length_map] at this
      omega
    have nn : ns ≠ [] := fun e => n0 (by rw [e] at pk; exact List.Perm.eq_nil pk.symm)
    exact due_end (wirOk_of t hi2 (by omega)) srt pk (fun _ => h0) fun e => h1 ns us g acc ⟨t, nn, hi2, nd, few⟩ pk e.symm
  have pl := si p0 (by simp)
  show dIx (.lst ((p0 :: rest).map D.str)) (.int 0) fun y => f_l_peaks [y] (fun x => dueR (endP R fun _ _ => False) ((keepO [] x [.v (.str z), .v (.lst ((p0 :: rest).map D.str)), .no, .no, .no, .no, .no, .no, .no]).set 2 (.v x)) 0) fun _ _ => False
  refine ix_at (x := .str p0) (at_first _ _) ?_
  refine d_peaksN pl ?_ fun us g hl n0 P => ?_
  · exact go [] (fun _ => 1) (by simp) ⟨.nil, (fun z hz => by cases hz), fun z hz => by cases hz⟩
  · exact go us g hl P
theorem d_due_good {la : List Arr} (G : Good ns h la) (sa : sortA la = la) (h1 : R (.lst [.dk (keyI ns h), .lst (la.map arrD)])) : f_l_due [.str (strW ns h la)] R fun _ _ => False := by
  have W := wirOk_of G.t G.hi (by have := G.few; omega)
  have wl := strW_len W G.few
  refine ⟨rfl, ?_⟩
  refine ⟨by decide +kernel, by omega, ?_⟩
  rw [show Txt.split (strW ns h la) (Str.ofString "; ") = _ from cut_text G]
  generalize hz : strW ns h la = z
  generalize hp : Txt.join (Str.ofString " ") (ns.map (headS h)) = p0
  show dIx (.lst ((p0 :: la.map tailS).map D.str)) (.int 0) fun y => f_l_peaks [y] (fun x => dueR (endP R fun _ _ => False) ((keepO [] x [.v (.str z), .v (.lst ((p0 :: la.map tailS).map D.str)), .no, .no, .no, .no, .no, .no, .no]).set 2 (.v x)) 0) fun _ _ => False
  refine ix_at (x := .str p0) (at_first _ _) ?_
  rw [← hp]
  refine d_peaks_good G ?_
  rw [hp]
  show dueR (endP R fun _ _ => False) [.v (.str z), .v (.lst ((p0 :: la.map tailS).map D.str)), .v (.dk (keyI ns h)), .no, .no, .no, .no, .no, .no] 0
  have := G.t.few
  refine due_rest G.t.one (by omega) (fun w => absurd ⟨G.n0, G.t.few, G.t.cnt⟩ w) fun n0 n6 c2 x4 hx => ?_
  refine links_good (g := h) hx G.t G.hi G.nd G.few W fun x6 x7 x8 => ?_
  exact due_end W G.t.srt (.refl _) (fun e => absurd (by rw [sa, hz]) e) fun _ => h1
--E--
end
end K11

set_option Elab.async false
set_option linter.all false
set_option maxRecDepth 100000
set_option maxHeartbeats 1000000
namespace K11
open PySem PySem.Spec PyProof.Rows L2 Rl Dr _root_.Tx Ex Er So Wi Vw Dl
section
variable {ns ks : List Str} {h : Str → Int} {l : List Arr} {z : Str} {R : D → Prop} {Ex : Nat → D → Prop}
--B--
/-! ### read: the tops -/
def setD (g : Str → D) (u : Str) (v : D) : Str → D := fun y => if y = u then v else g y
theorem put_keyD {us : List Str} {g : Str → D} {n : Str} {v : D} : putD (keyD us g) (Sum.inr n : Key) v = keyD (addK us n) (setD g n v) := by
  have an : ((keyD us g).any fun kv => decide (kv.1 = (Sum.inr n : Key))) = decide (n ∈ us) := by
    unfold keyD
    rw [List.any_map]
    by_cases c : n ∈ us
    · rw [decide_eq_true c]
      exact List.any_eq_true.mpr ⟨n, c, by simp⟩
    · rw [decide_eq_false c]
      refine List.any_eq_false.mpr fun y hy => ?_
      have : (Sum.inr y : Key) ≠ Sum.inr n := fun e => c (Sum.inr.inj e ▸ hy)
      simpa using this
  unfold putD addK
  rw [an]
  by_cases c : n ∈ us
  · rw [if_pos (decide_eq_true c), if_pos c]
    unfold keyD
    rw [List.map_map]
    refine List.map_congr_left fun y hy => ?_
    show (if (Sum.inr y : Key) = Sum.inr n then ((Sum.inr y : Key), v) else ((Sum.inr y : Key), g y)) = ((Sum.inr y : Key), setD g n v y)
    unfold setD
    by_cases e : y = n
    · subst e
      rw [if_pos rfl, if_pos rfl]
    · rw [if_neg fun w => e (Sum.inr.inj w), if_neg e]
  · rw [if_neg (by simp [c]), if_neg c]
    unfold keyD
    rw [List.map_append]
    congr 1
    · refine List.map_congr_left fun y hy => ?_
      have : y ≠ n := fun e => c (e ▸ hy)
      unfold setD
      rw [if_neg this]
    · show _ = [((Sum.inr n : Key), setD g n v n)]
      unfold setD
      rw [if_pos rfl]
def rtB : DS := dSeqS (dAsg [] [3, 4, 5] (dgTup 3 (dgCons (dgName 3) (dgCons (dgName 4) (dgCons (dgName 5) dgNil)))) (dPart3 (dVar 2) (dC (.str ":"))))
      (dPut [] 1 [] (dVar 3) (dGetK TBT (dVar 5)))
def notO (x : Sl) : Prop := ∀ d, x ≠ .o d
theorem rt_body {E : DEnds} {z y : Str} {us : List Str} {g : Str → D} {x3 x4 x5 : Sl} {N : Nat} (hy : y.length ≤ 50000) (hu : us.length ≤ 60000) (h3 : notO x3) (h4 : notO x4) (h5 : notO x5)
    (k : E.nx [.v (.str z), .o (.dk (keyD (addK us (Txt.partition y ":").1) (setD g (Txt.partition y ":").1 (kvD TBT (Txt.partition y ":").2.2)))), .v (.str y), .v (.str (Txt.partition y ":").1), .v (.str (Txt.partition y ":").2.1), .v (.str (Txt.partition y ":").2.2)] N) :
    rtB E [.v (.str z), .o (.dk (keyD us g)), .v (.str y), x3, x4, x5] N := by
  unfold rtB
  refine ⟨by decide +kernel, by omega, ?_⟩
  generalize Txt.partition y (Str.ofString ":") = p3 at k ⊢
  obtain ⟨n, m, t⟩ := p3
  dsimp only at k ⊢
  rw [← put_keyD] at k
  refine ⟨rfl, fun i hi => ?_, ?_⟩
  · have : i = 3 ∨ i = 4 ∨ i = 5 := by simpa using hi
    rcases this with rfl | rfl | rfl
    · cases x3 with
      | o d => exact absurd rfl (h3 d)
      | v d => trivial
      | no => trivial
    · cases x4 with
      | o d => exact absurd rfl (h4 d)
      | v d => trivial
      | no => trivial
    · cases x5 with
      | o d => exact absurd rfl (h5 d)
      | v d => trivial
      | no => trivial
  · have fl : flatD (kvD TBT t) = true := by
      unfold kvD
      split <;> rfl
    have kp : keepO [] (kvD TBT t) [.v (.str z), .o (.dk (keyD us g)), .v (.str y), .v (.str n), .v (.str m), .v (.str t)] = [.v (.str z), .o (.dk (keyD us g)), .v (.str y), .v (.str n), .v (.str m), .v (.str t)] := by
      unfold keepO
      rw [if_pos fl]
    show isO (keepO [] (kvD TBT t) [.v (.str z), .o (.dk (keyD us g)), .v (.str y), .v (.str n), .v (.str m), .v (.str t)]) 1 ∧ dVar 3 (hideS (frz [] (keepO [] (kvD TBT t) [.v (.str z), .o (.dk (keyD us g)), .v (.str y), .v (.str n), .v (.str m), .v (.str t)]))) N (fun y2 N2 => isOd (keepO [] (kvD TBT t) [.v (.str z), .o (.dk (keyD us g)), .v (.str y), .v (.str n), .v (.str m), .v (.str t)]) 1 (fun l => l.length < sizeLine ∧ keyR y2 fun kk => E.nx ((keepO [] (kvD TBT t) [.v (.str z), .o (.dk (keyD us g)), .v (.str y), .v (.str n), .v (.str m), .v (.str t)]).set 1 (.o (.dk (putD l kk (kvD TBT t))))) N2) (fun l => l.length < sizeLine ∧ keysR y2 fun kk => E.nx ((keepO [] (kvD TBT t) [.v (.str z), .o (.dk (keyD us g)), .v (.str y), .v (.str n), .v (.str m), .v (.str t)]).set 1 (.o (.dt (putD l kk (kvD TBT t))))) N2)) _
    rw [kp]
    exact ⟨trivial, szl (show (keyD us g).length < 100000 by unfold keyD; rw [List.length_map]; omega), k⟩
structure TkOk (us : List Str) (g : Str → D) : Prop where
  nd : us.Nodup
  sm : ∀ z ∈ us, z.length ≤ 50000
  an : ∀ z ∈ us, anyD (g z) = true
theorem TkOk.more {us : List Str} {g : Str → D} (P : TkOk us g) {n t : Str} (hn : n.length ≤ 50000) : TkOk (addK us n) (setD g n (kvD TBT t)) := by
  have av : anyD (kvD TBT t) = true := by
    unfold kvD
    split <;> rfl
  have mem : ∀ z, z ∈ addK us n → z ∈ us ∨ z = n := fun z hz => by
    unfold addK at hz
    split at hz
    · exact .inl hz
    · simpa using hz
  refine ⟨?_, fun z hz => ?_, fun z hz => ?_⟩
  · unfold addK
    split
    · exact P.nd
    · rename_i c
      exact List.nodup_append.mpr ⟨P.nd, by simp, fun a ha b hb => by
        obtain rfl : b = n := by simpa using hb
        exact fun e => c (e ▸ ha)⟩
  · rcases mem z hz with h | rfl
    · exact P.sm z h
    · exact hn
  · unfold setD
    by_cases e : z = n
    · rw [if_pos e]
      exact av
    · rw [if_neg e]
      rcases mem z hz with h | h
      · exact P.an z h
      · exact absurd h e
theorem addK_len {us : List Str} {n : Str} : (addK us n).length ≤ us.length + 1 := by
  unfold addK
  split
  · omega
  · simp
theorem rt_start {z : Str} {R : D → Prop} (hz : z.length ≤ 50000) (k : forGo [2] (dgName 2) rtB { endP R (fun _ _ => False) with nx := fun δ N => dRet [1] (dVar 1) (endP R fun _ _ => False) δ N } ((Txt.split z " ").map D.str) [.v (.str z), .o (.dk []), .no, .no, .no, .no] 0) : f_read_tops [.str z] R fun _ _ => False := by
  refine ⟨rfl, ?_⟩
  exact ⟨by decide +kernel, by omega, k⟩
theorem d_read_tops {z : Str} (hz : z.length ≤ 50000) (h1 : ∀ us g, us.length ≤ 60000 → TkOk us g → R (.dk (keyD us g))) : f_read_tops [.str z] R fun _ _ => False := by
  have sl := split_len z " "
  refine rt_start hz ?_
  refine for_0 (items := (Txt.split z " ").map D.str) (fun pre δ N => ∃ (us : List Str) (g : Str → D) (x y p q : Sl), TkOk us g ∧ us.length ≤ pre.length ∧ N = 0 ∧ notO x ∧ notO y ∧ notO p ∧ notO q ∧ δ = [.v (.str z), .o (.dk (keyD us g)), x, y, p, q]) ?_ ?_ ⟨[], fun _ => .non, .no, .no, .no, .no, ⟨.nil, (fun z hz => by cases hz), fun z hz => by cases hz⟩, Nat.le_refl _, rfl, (fun d q => by cases q), (fun d q => by cases q), (fun d q => by cases q), (fun d q => by cases q), rfl⟩
  · rintro pre x post e δ N nx ⟨us, g, x2, x3, x4, x5, P, hl, rfl, hx2, hx3, hx4, hx5, rfl⟩ hn
    have hm : x ∈ (Txt.split z " ").map D.str := by rw [e]; simp
    obtain ⟨y, hy, rfl⟩ := List.mem_map.mp hm
    have hyl := (Spl.split_in y hy).2
    have hpl : pre.length ≤ z.length + 2 := by
      have := congrArg List.length e
      rw [List.length_map, List.length_append] at this
      omega
    obtain ⟨p1, p2, p3, p4, p5⟩ := Spl.part_in (s := y) (sub := ":")
    refine ⟨fun i hi => ?_, ?_⟩
    · obtain rfl : i = 2 := by simpa using hi
      cases x2 with
      | o d => exact absurd rfl (hx2 d)
      | v d => trivial
      | no => trivial
    · refine rt_body (E := { endP R (fun _ _ => False) with nx := nx, ct := nx, bk := _ }) (z := z) (y := y) (us := us) (g := g) (x3 := x3) (x4 := x4) (x5 := x5) (N := 0) (by omega) (by omega) hx3 hx4 hx5 (hn _ _ ?_)
      exact ⟨addK us (Txt.partition y ":").1, setD g (Txt.partition y ":").1 (kvD TBT (Txt.partition y ":").2.2), .v (.str y), .v (.str (Txt.partition y ":").1), .v (.str (Txt.partition y ":").2.1), .v (.str (Txt.partition y ":").2.2), P.more (by omega), by have := addK_len (us := us) (n := (Txt.partition y ":").1); rw [List.length_append]; simp; omega, rfl, (fun d q => by cases q), (fun d q => by cases q), (fun d q => by cases q), (fun d q => by cases q), rfl⟩
  · rintro δ N ⟨us, g, x2, x3, x4, x5, P, hl, rfl, hx2, hx3, hx4, hx5, rfl⟩
    exact h1 us g (by rw [List.length_map] at hl; omega) P
theorem keyD_int (us : List Str) (h : Str → Int) : keyD us (fun z => .int (h z)) = keyI us h := rfl
theorem head_put (t : TopsOk ns h) {u : Str} {us : List Str} (hu : u ∈ ns) (nu : u ∉ us) : keyD (addK us (Txt.partition (headS h u) ":").1) (setD (fun z => .int (h z)) (Txt.partition (headS h u) ":").1 (kvD TBT (Txt.partition (headS h u) ":").2.2)) = keyI (us ++ [u]) h := by
  rw [(cut_head t hu).2]
  dsimp only
  have e : kvD TBT (toString (h u) : Str) = .int (h u) := by
    unfold kvD
    rw [tbt_dig (t.one u hu).1 (t.one u hu).2]
  rw [e]
  unfold addK
  rw [if_neg nu, ← keyD_int]
  congr 1
  funext y
  unfold setD
  by_cases c : y = u
  · rw [if_pos c, c]
  · rw [if_neg c]
theorem d_read_tops_good (g : Good ns h l) (h1 : R (.dk (keyI ns h))) : f_read_tops [.str (Txt.join " " (ns.map (headS h)))] R fun _ _ => False := by
  have W := wirOk_of g.t g.hi (by have := g.few; omega)
  have jl : (Txt.join " " (ns.map (headS h))).length ≤ 50000 := by
    have s1 : (" " : Str).length = 1 := by decide +kernel
    have j1 := join_le " " (ns.map (headS h))
    have b1 := sum_le (B := 8) (l := ns.map (headS h)) fun z hz => by
      obtain ⟨y, hy, rfl⟩ := List.mem_map.mp hz
      exact head_len W hy
    rw [List.length_map] at b1 j1
    rw [s1] at j1
    have := W.six
    omega
  refine rt_start jl ?_
  rw [cut_heads g]
  generalize hz : Txt.join " " (ns.map (headS h)) = z
  refine for_0 (items := (ns.map (headS h)).map D.str) (fun pre δ N => ∃ (us rest : List Str) (x y p q : Sl), ns = us ++ rest ∧ pre = (us.map (headS h)).map D.str ∧ N = 0 ∧ notO x ∧ notO y ∧ notO p ∧ notO q ∧ δ = [.v (.str z), .o (.dk (keyI us h)), x, y, p, q]) ?_ ?_ ⟨[], ns, .no, .no, .no, .no, rfl, rfl, rfl, (fun d q => by cases q), (fun d q => by cases q), (fun d q => by cases q), (fun d q => by cases q), rfl⟩
  · rintro pre x post e δ N nx ⟨us, rest, x2, x3, x4, x5, e1, rfl, rfl, hx2, hx3, hx4, hx5, rfl⟩ hn
    cases rest with
    | nil =>
      exfalso
      rw [List.append_nil] at e1
      subst e1
      have := congrArg List.length e
      simp at this
    | cons u rest =>
      have e2 : x = D.str (headS h u) := by
        rw [e1, List.map_append, List.map_append, List.append_cancel_left_eq] at e
        injection e with a b
        exact a.symm
      subst e2
      have hu : u ∈ ns := by rw [e1]; simp
      have nu : u ∉ us := fun q => by
        have n2 := g.t.nd
        rw [e1] at n2
        exact (List.nodup_append.mp n2).2.2 u q u (by simp) rfl
      have ul : us.length ≤ 6 := by
        have := g.t.few
        rw [e1, List.length_append] at this
        omega
      have hh := head_len W hu
      refine ⟨fun i hi => ?_, ?_⟩
      · obtain rfl : i = 2 := by simpa using hi
        cases x2 with
        | o d => exact absurd rfl (hx2 d)
        | v d => trivial
        | no => trivial
      · refine rt_body (E := { endP R (fun _ _ => False) with nx := nx, ct := nx, bk := _ }) (z := z) (y := headS h u) (us := us) (g := fun z => .int (h z)) (x3 := x3) (x4 := x4) (x5 := x5) (N := 0) (by omega) (by omega) hx3 hx4 hx5 (hn _ _ ?_)
        rw [head_put g.t hu nu]
        exact ⟨us ++ [u], rest, .v (.str (headS h u)), .v (.str (Txt.partition (headS h u) ":").1), .v (.str (Txt.partition (headS h u) ":").2.1), .v (.str (Txt.partition (headS h u) ":").2.2), by rw [e1]; simp, by simp, rfl, (fun d q => by cases q), (fun d q => by cases q), (fun d q => by cases q), (fun d q => by cases q), rfl⟩
  · rintro δ N ⟨us, rest, x2, x3, x4, x5, e1, e2, rfl, hx2, hx3, hx4, hx5, rfl⟩
    have : us = ns := by
      have q := congrArg List.length e2
      have q1 := congrArg List.length e1
      simp at q q1
      have : rest = [] := List.eq_nil_of_length_eq_zero (by omega)
      rw [e1, this, List.append_nil]
    subst this
    exact h1
--E--
end
end K11

set_option Elab.async false
set_option linter.all false
set_option maxRecDepth 100000
set_option maxHeartbeats 1000000
namespace K11
open PySem PySem.Spec PyProof.Rows L2 Rl Dr _root_.Tx Ex Er So Wi Vw Dl
section
variable {ns ks : List Str} {h : Str → Int} {l : List Arr} {z : Str} {R : D → Prop} {Ex : Nat → D → Prop}
--B--
/-! ### read: one arrow -/
def rdA (y : Str) : D := match Txt.split y " " with
  | [a, s, b] => .tup [.str a, .str b, .str s]
  | _ => .non
theorem d_read_arrow {y : Str} (hy : y.length ≤ 50000) (h1 : R (rdA y)) : f_read_arrow [.str y] R fun _ _ => False := by
  unfold rdA at h1
  refine ⟨rfl, ?_⟩
  refine ⟨by decide +kernel, by omega, ?_⟩
  generalize Txt.split y (Str.ofString " ") = ps at h1 ⊢
  have sl : (keepO [] (D.lst (ps.map D.str)) [.v (.str y), .no, .no, .no, .no]).set 1 (Sl.v (D.lst (ps.map D.str))) = [.v (.str y), .v (.lst (ps.map D.str)), .no, .no, .no] := rfl
  refine ⟨by simp [PyData.depth], by simp [PyData.depth], ?_⟩
  show if (!PyData.eqv (.int ((ps.map D.str).length : Nat)) (.int 3)) = true then _ else _
  by_cases c3 : ps.length = 3
  · rw [if_neg (by
      rw [List.length_map, c3]
      simp [PyData.eqv])]
    obtain ⟨a, s, b, rfl⟩ : ∃ a s b, ps = [a, s, b] := by
      match ps, c3 with
      | [a, s, b], _ => exact ⟨a, s, b, rfl⟩
    exact ⟨rfl, fun i hi => by
      have : i = 2 ∨ i = 3 ∨ i = 4 := by simpa using hi
      rcases this with rfl | rfl | rfl <;> trivial, sz (show (3 : Nat) ≤ 100000 by decide), h1⟩
  · rw [if_pos (by
      rw [List.length_map]
      have : ((ps.length : Nat) : Int) ≠ 3 := by omega
      simp [PyData.eqv, this])]
    show R .non
    split at h1
    · exact absurd rfl c3
    · exact h1
theorem any_rdA (y : Str) : anyTD (rdA y) = true := by
  unfold rdA
  split <;> rfl
theorem rdA_tail (t : TopsOk ns h) (hi : ArrIn ns l) {x : Arr} (hx : x ∈ l) : rdA (tailS x) = arrD x := by
  unfold rdA
  rw [cut_tail t hi hx]
  rfl
/-! ### which arrows stand -/
theorem arrOf_some {ns : List Str} {d : D} {t : Arr} (e : arrOf ns d = some t) : t.1 ∈ ns ∧ t.2.1 ∈ ns ∧ t.2.2 ∈ Wi.SG := by
  unfold arrOf at e
  split at e
  · split at e
    · rename_i c
      cases e
      exact c
    · cases e
  · cases e
theorem badA_none {ns : List Str} : ∀ {xs : List D} {seen : List (Str × Str)}, badA ns xs seen = none → seen.Nodup → ArrIn ns (xs.filterMap (arrOf ns)) ∧ (seen ++ prs (xs.filterMap (arrOf ns))).Nodup
  | [], seen, _, nd => ⟨(fun x hx => by cases hx), by
    show (seen ++ []).Nodup
    rw [List.append_nil]
    exact nd⟩
  | x :: r, seen, e, nd => by
    rw [badA_cons] at e
    cases c : arrOf ns x with
    | none =>
      rw [c] at e
      cases e
    | some t =>
      rw [c] at e
      dsimp only at e
      by_cases q : (t.1, t.2.1) ∈ seen
      · rw [if_pos q] at e
        cases e
      · rw [if_neg q] at e
        obtain ⟨a, b⟩ := badA_none e (List.nodup_append.mpr ⟨nd, by simp, fun u hu v hv => by
          obtain rfl : v = (t.1, t.2.1) := by simpa using hv
          exact fun w => q (w ▸ hu)⟩)
        have ef : (x :: r).filterMap (arrOf ns) = t :: r.filterMap (arrOf ns) := by rw [List.filterMap_cons, c]
        rw [ef]
        refine ⟨fun y hy => ?_, ?_⟩
        · rcases List.mem_cons.mp hy with rfl | hy
          · exact arrOf_some c
          · exact a y hy
        · rw [List.append_assoc] at b
          exact b
/-! ### read -/
def rdE : DS := dSeqS (dIfS [] (dTv (dOp dNe (dStrO 0 f_Wiring___str__ (dVar 5)) (dVar 1))) (dRaise [] 5 (dVar 1)) dNext)
      (dRet [] (dVar 5))
theorem rd_end {C : Addr} {E : DEnds} {z : Str} {x2 x3 x4 x6 : Sl} {la : List Arr} (W : WirOk ns h la) (hbad : strW ns h (sortA la) ≠ z → ∀ δ N, E.ex 5 (.str z) δ N) (hgood : strW ns h (sortA la) = z → E.rt (wir ns h la) 0) :
    rdE E [.v (.sta C), .v (.str z), x2, x3, x4, .v (wir ns h la), x6] 0 := by
  unfold rdE
  refine ⟨rfl, ?_⟩
  refine d_str W ⟨⟨_, rfl⟩, ?_⟩
  refine ⟨by simp [PyData.depth], by simp [PyData.depth], ?_⟩
  show if (!(PyData.eqv (.str (strW ns h (sortA la))) (.str z))) = true then _ else _
  rw [str_eqv]
  by_cases c : strW ns h (sortA la) = z
  · rw [decide_eq_true c, if_neg (by simp)]
    exact hgood c
  · rw [decide_eq_false c, if_pos (by rfl)]
    exact hbad c _ _
/-- the pieces of a text, read -/
def rdS (C : Addr) (z : Str) (parts : List Str) (x3 x4 x5 x6 : Sl) : List Sl := [.v (.sta C), .v (.str z), .v (.lst (parts.map D.str)), x3, x4, x5, x6]
theorem rd_arrows {δ : DEnv} {C : RK} (h6 : δ.length = 7) : ∀ {ys : List Str}, (∀ y ∈ ys, y.length ≤ 50000) → C (.lst (ys.map rdA)) 0 → lcGo (dgName 6) dTyes (dCall0 f_read_arrow (dCons (dVar 6) dNil)) δ C (ys.map D.str) [] 0 := fun {ys} hy k => by
  refine lc_f (fun d => match d with | .str y => some (rdA y) | _ => none) _ [] (fun d hd Cc q => ?_) ?_
  · obtain ⟨y, hy', rfl⟩ := List.mem_map.mp hd
    show dCall0 f_read_arrow (dCons (dVar 6) dNil) (δ.set 6 (some (.str y))) 0 (fun e N2 => Cc (some e) N2) _
    show (match (δ.set 6 (some (D.str y)))[6]? with | some (some d) => f_read_arrow [d] (fun x => Cc (some x) 0) (fun _ _ => False) | _ => False)
    rw [List.getElem?_set_self (by omega)]
    exact d_read_arrow (hy y hy') q
  · rw [List.nil_append, List.filterMap_map]
    have e : ys.filterMap ((fun d => match d with | D.str y => some (rdA y) | _ => none) ∘ D.str) = ys.map rdA := by
      rw [← List.filterMap_eq_map]
      rfl
    rw [e]
    exact k
--E--
end
end K11

set_option Elab.async false
set_option linter.all false
set_option maxRecDepth 100000
set_option maxHeartbeats 1000000
namespace K11
open PySem PySem.Spec PyProof.Rows L2 Rl Dr _root_.Tx Ex Er So Wi Vw Dl
section
variable {ns ks : List Str} {h : Str → Int} {l : List Arr} {z : Str} {R : D → Prop} {Ex : Nat → D → Prop}
--B--
/-! ### read, whole -/
theorem good_t {g : Str → D} (nd : ns.Nodup) (srt : sortedS ns = true) (e : goodT ns g = true) : TopsOk ns (fun z => iD (g z)) ∧ ns ≠ [] := by
  unfold goodT at e
  simp only [Bool.and_eq_true, decide_eq_true_eq] at e
  obtain ⟨⟨⟨⟨a, b⟩, c⟩, d⟩, f⟩ := e
  refine ⟨⟨nd, srt, fun z hz => List.all_eq_true.mp c z hz, fun z hz => ?_, b, f⟩, fun q => ?_⟩
  · have q := List.all_eq_true.mp d z hz
    cases e : g z with
    | int n =>
      rw [e] at q
      have q2 : (decide (1 ≤ n) && decide (n ≤ 3)) = true := q
      rw [Bool.and_eq_true, decide_eq_true_eq, decide_eq_true_eq] at q2
      exact q2
    | _ =>
      rw [e] at q
      cases q
  · rw [q] at a
    simp at a
def rd4 (C : Addr) : DS := dSeqS (dTryO (dSet [] 5 (dMakeV 0 C f_Wiring (dCons (dVar 3) (dCons (dVar 4) dNil)))) (dRaise [] 5 (dVar 1))) rdE
theorem rd_make {C : Addr} {z : Str} {parts us : List Str} {g : Str → D} {xs : List D} (P : TkOk us g) (few : xs.length ≤ 50000) (any : ∀ x ∈ xs, anyTD x = true) (hx : Ex 5 (.str z))
    (h1 : ∀ ns h l, Good ns h l → z = strW ns h (sortA l) → R (wir ns h l)) : rd4 C (endP R Ex) [.v (.sta C), .v (.str z), .v (.lst (parts.map D.str)), .v (.dk (keyD us g)), .v (.lst xs), .no, .no] 0 := by
  obtain ⟨ns, pk, srt⟩ := sort_ex us
  have nd := pk.nodup_iff.mpr P.nd
  refine ⟨rfl, us, ns, g, xs, rfl, pk, nd, srt, fun z hz => P.sm z (pk.mem_iff.mp hz), fun z hz => P.an z (pk.mem_iff.mp hz), .inl rfl, few, any, ?_⟩
  by_cases gt : goodT ns g = true
  · rw [if_pos gt]
    cases e : badA ns xs [] with
    | some x => exact hx
    | none =>
      obtain ⟨t, n0⟩ := good_t nd srt gt
      obtain ⟨hi, nd2⟩ := badA_none e .nil
      rw [List.nil_append] at nd2
      dsimp only
      generalize xs.filterMap (arrOf ns) = la at hi nd2 ⊢
      have few2 : la.length ≤ 36 := by
        have := pairs_le (ns := ns) (n := 6) nd2 t.few fun p hp => by
          obtain ⟨x, hx, rfl⟩ := List.mem_map.mp hp
          exact ⟨(hi x hx).1, (hi x hx).2.1⟩
        unfold prs at this
        rw [List.length_map] at this
        omega
      have ew := wirD_wir ns (fun z => iD (g z)) la
      rw [ew]
      exact rd_end (wirOk_of t hi (by omega)) (fun _ _ _ => hx) fun q => h1 ns _ la ⟨t, n0, hi, nd2, few2⟩ q.symm
  · rw [if_neg gt]
    exact fun _ _ _ => hx
theorem rd_make_good {C : Addr} {z : Str} {parts : List Str} {la : List Arr} (G : Good ns h la) (sa : sortA la = la) (hz : strW ns h la = z) (h1 : R (wir ns h la)) : rd4 C (endP R Ex) [.v (.sta C), .v (.str z), .v (.lst (parts.map D.str)), .v (.dk (keyI ns h)), .v (.lst (la.map arrD)), .no, .no] 0 := by
  have few := G.few
  refine ⟨rfl, ?_⟩
  have q := mk_ok (R := fun x => rdE (endP R Ex) ((keepO [] x [.v (.sta C), .v (.str z), .v (.lst (parts.map D.str)), .v (.dk (keyI ns h)), .v (.lst (la.map arrD)), .no, .no]).set 5 (.v x)) 0) (Ex := fun _ _ => Ex 5 (.str z)) G.t (.refl _) G.n0 G.hi G.nd (by omega) (rd_end (wirOk_of G.t G.hi (by omega)) (fun e => absurd (by rw [sa]; exact hz) e) fun _ => h1)
  exact q
theorem d_read {C : Addr} {z : Str} (hz : z.length ≤ 40000) (hx : Ex 5 (.str z)) (h1 : ∀ ns h l, Good ns h l → z = strW ns h (sortA l) → R (wir ns h l)) : f_Wiring_read C [.sta C, .str z] R Ex := by
  have sl := split_len z "; "
  have sn := Spl.split_ne (s := z) (sub := "; ")
  have si : ∀ y ∈ Txt.split z "; ", y.length ≤ 50000 := fun y hy => Nat.le_trans (Spl.split_in y hy).2 (by omega)
  refine ⟨rfl, ?_⟩
  refine ⟨by decide +kernel, by omega, ?_⟩
  generalize Txt.split z (Str.ofString "; ") = parts at sl sn si ⊢
  obtain ⟨p0, rest, rfl⟩ : ∃ p0 rest, parts = p0 :: rest := by
    cases parts with
    | nil => exact absurd rfl sn
    | cons a b => exact ⟨a, b, rfl⟩
  show dIx (.lst ((p0 :: rest).map D.str)) (.int 0) fun y => f_read_tops [y] (fun x => dSeqS (dSet [] 4 (dLc (dSeq (dSl (dVar 2) (dPart (dC (.int 1))) dNoneO)) (dgName 6) dTyes (dCall0 f_read_arrow (dCons (dVar 6) dNil)) [6])) (rd4 C) (endP R Ex) ((keepO [] x [.v (.sta C), .v (.str z), .v (.lst ((p0 :: rest).map D.str)), .no, .no, .no, .no]).set 3 (.v x)) 0) fun _ _ => False
  refine ix_at (x := .str p0) (at_first _ _) ?_
  refine d_read_tops (si p0 (by simp)) fun us g hl P => ?_
  show lcGo (dgName 6) dTyes (dCall0 f_read_arrow (dCons (dVar 6) dNil)) _ _ (Dl.cutD ((p0 :: rest).map D.str) (some 1) none) [] 0
  rw [cutFromD]
  show lcGo (dgName 6) dTyes (dCall0 f_read_arrow (dCons (dVar 6) dNil)) _ _ (rest.map D.str) [] 0
  refine rd_arrows rfl (fun y hy => si y (List.mem_cons_of_mem _ hy)) ?_
  show rd4 C (endP R Ex) [.v (.sta C), .v (.str z), .v (.lst ((p0 :: rest).map D.str)), .v (.dk (keyD us g)), .v (.lst (rest.map rdA)), .no, .no] 0
  refine rd_make P (by rw [List.length_map]; simp at sl; omega) (fun x hx => ?_) hx h1
  obtain ⟨y, _, rfl⟩ := List.mem_map.mp hx
  exact any_rdA y
theorem d_read_good {C : Addr} {la : List Arr} (G : Good ns h la) (sa : sortA la = la) (h1 : R (wir ns h la)) : f_Wiring_read C [.sta C, .str (strW ns h la)] R Ex := by
  have W := wirOk_of G.t G.hi (by have := G.few; omega)
  have wl := strW_len W G.few
  refine ⟨rfl, ?_⟩
  refine ⟨by decide +kernel, by omega, ?_⟩
  rw [show Txt.split (strW ns h la) (Str.ofString "; ") = _ from cut_text G]
  generalize hz : strW ns h la = z
  generalize hp : Txt.join (Str.ofString " ") (ns.map (headS h)) = p0
  show dIx (.lst ((p0 :: la.map tailS).map D.str)) (.int 0) fun y => f_read_tops [y] (fun x => dSeqS (dSet [] 4 (dLc (dSeq (dSl (dVar 2) (dPart (dC (.int 1))) dNoneO)) (dgName 6) dTyes (dCall0 f_read_arrow (dCons (dVar 6) dNil)) [6])) (rd4 C) (endP R Ex) ((keepO [] x [.v (.sta C), .v (.str z), .v (.lst ((p0 :: la.map tailS).map D.str)), .no, .no, .no, .no]).set 3 (.v x)) 0) fun _ _ => False
  refine ix_at (x := .str p0) (at_first _ _) ?_
  rw [← hp]
  refine d_read_tops_good G ?_
  rw [hp]
  show lcGo (dgName 6) dTyes (dCall0 f_read_arrow (dCons (dVar 6) dNil)) _ _ (Dl.cutD ((p0 :: la.map tailS).map D.str) (some 1) none) [] 0
  rw [cutFromD]
  show lcGo (dgName 6) dTyes (dCall0 f_read_arrow (dCons (dVar 6) dNil)) _ _ ((la.map tailS).map D.str) [] 0
  refine rd_arrows rfl (fun y hy => ?_) ?_
  · obtain ⟨x, hx, rfl⟩ := List.mem_map.mp hy
    have := tail_len W hx
    omega
  have e : (la.map tailS).map rdA = la.map arrD := by
    rw [List.map_map]
    exact List.map_congr_left fun x hx => rdA_tail G.t G.hi hx
  rw [e]
  show rd4 C (endP R Ex) [.v (.sta C), .v (.str z), .v (.lst ((p0 :: la.map tailS).map D.str)), .v (.dk (keyI ns h)), .v (.lst (la.map arrD)), .no, .no] 0
  exact rd_make_good G sa hz h1
--E--
end
end K11

set_option Elab.async false
set_option linter.all false
set_option maxRecDepth 100000
set_option maxHeartbeats 1000000
namespace K11
open PySem PySem.Spec PyProof.Rows L2 Rl Dr _root_.Tx Ex Er So Wi Vw Dl
section
variable {s : Addr} {N : Nat} {Rk : RK} {Ek : EK} {ns ks : List Str} {h : Str → Int} {l : List Arr} {z : Str} {R : D → Prop} {Ex : Nat → D → Prop}
--B--
theorem if_eqI {k : Nat} {δ : List Sl} {i j : Int} {N : Nat} {E : DEnds} {a b : DS} (hk : (hideS (frz [] δ))[k]? = some (some (.int i))) (ha : i = j → a E δ N) (hb : i ≠ j → b E δ N) : dIfS [] (dTv (dOp dEq (dVar k) (dC (.int j)))) a b E δ N := by
  show (match (hideS (frz [] δ))[k]? with | some (some d) => _ | _ => False)
  rw [hk]
  refine ⟨by simp [PyData.depth], by simp [PyData.depth], ?_⟩
  show if PyData.eqv (.int i) (.int j) = true then a E δ N else b E δ N
  by_cases c : i = j
  · rw [if_pos (by simp [PyData.eqv, c])]
    exact ha c
  · rw [if_neg (by simp [PyData.eqv, c])]
    exact hb c
/-! ### a text spoiled -/
theorem cutS_len (z : Str) (l u : Option Int) : (L2.cutS z l u).length ≤ z.length := by
  unfold L2.cutS
  simp [Str.length]
  omega
def cutW (ws : List Str) (l u : Option Int) : List Str := (ws.drop (HT.sIx ws.length 0 l)).take (HT.sIx ws.length ws.length u - HT.sIx ws.length 0 l)
theorem cutD_str (ws : List Str) (l u : Option Int) : Dl.cutD (ws.map D.str) l u = (cutW ws l u).map D.str := by
  unfold Dl.cutD cutW
  rw [List.length_map, List.map_take, List.map_drop]
def tot (ws : List Str) : Nat := (ws.map (·.length)).sum
theorem tot_app (a b : List Str) : tot (a ++ b) = tot a + tot b := by
  unfold tot
  rw [List.map_append, List.sum_append]
theorem tot_sub {a b : List Str} (h : a.Sublist b) : tot a ≤ tot b := by
  induction h with
  | slnil => exact Nat.le_refl _
  | cons x _ ih =>
    unfold tot at ih ⊢
    rw [List.map_cons, List.sum_cons]
    omega
  | cons_cons x _ ih =>
    unfold tot at ih ⊢
    rw [List.map_cons, List.sum_cons, List.map_cons, List.sum_cons]
    omega
theorem cutW_sub (ws : List Str) (l u : Option Int) : (cutW ws l u).Sublist ws := (List.take_sublist _ _).trans (List.drop_sublist _ _)
theorem tot_rev (a : List Str) : tot a.reverse = tot a := by
  unfold tot
  rw [List.map_reverse, List.sum_reverse]
theorem tot_set : ∀ (ws : List Str) (j : Nat) (x : Str), tot (ws.set j x) ≤ tot ws + x.length
  | [], j, x => by simp [tot]
  | y :: ws, 0, x => by
    unfold tot
    simp
    omega
  | y :: ws, j + 1, x => by
    have := tot_set ws j x
    show tot (y :: ws.set j x) ≤ tot (y :: ws) + x.length
    unfold tot at this ⊢
    rw [List.map_cons, List.sum_cons, List.map_cons, List.sum_cons]
    omega
def spS (s : Addr) (z sg sn : Str) (sp p : Int) (mk : Str) (l : List D) (k : Int) (x9 : Sl) : List Sl := [.v (.sta s), .v (.str z), .v (.str sg), .v (.str sn), .v (.int sp), .v (.int p), .v (.str mk), .o (.lst l), .v (.int k), x9]
def sp9 (s : Addr) : DS := (dSeqS (dIfS [] (dTv (dOp dEq (dVar 5) (dC (.int 3)))) (dSeqS (dSet [] 9 (dLst (dCons (dC (.str "")) (dCons (dC (.str "a:1")) (dCons (dC (.str "zz9")) (dCons (dC (.str "X:1")) (dCons (dC (.str "a + a")) (dCons (dC (.str "a+a")) (dCons (dC (.str "a + + a")) (dCons (dC (.str "a:4")) (dCons (dC (.str "a:0")) (dCons (dC (.str "a:01")) (dCons (dC (.str "a : 1")) (dCons (dC (.str "a ? zz9")) (dCons (dC (.str "a\nb")) dNil)))))))))))))))
      (dLput [] 7 [] (dVar 8) (dOp dIx (dVar 9) (dCallD s f_l_draw (dCons (dVar 0) (dCons (dC (.int 13)) dNil)))))) dNext)
      (dSeqS (dIfS [] (dTv (dOp dEq (dVar 5) (dC (.int 4)))) (dSetO [7] 7 (dAddL (dSl (dVar 7) dNoneO (dPart (dVar 8))) (dSl (dVar 7) (dPart (dOp dAdd (dVar 8) (dC (.int 1)))) dNoneO))) dNext)
      (dSeqS (dIfS [] (dTv (dOp dEq (dVar 5) (dC (.int 5)))) (dSetO [7] 7 (dAddL (dSl (dVar 7) dNoneO (dPart (dOp dAdd (dVar 8) (dC (.int 1))))) (dSl (dVar 7) (dPart (dVar 8)) dNoneO))) dNext)
      (dSeqS (dIfS [] (dTv (dOp dEq (dVar 5) (dC (.int 6)))) (dSetO [7] 7 (dAddL (dSl (dVar 7) dNoneO (dPart (dVar 8))) (dRevL (dSl (dVar 7) (dPart (dVar 8)) dNoneO)))) dNext)
      (dRet [7] (dJoin (dVar 6) (dVar 7)))))))
def sp6 (s : Addr) : DS := (dSeqS (dSet [] 6 (dOp dIx (dLst (dCons (dC (.str "; ")) (dCons (dC (.str " ")) (dCons (dC (.str ":")) dNil)))) (dCallD s f_l_draw (dCons (dVar 0) (dCons (dC (.int 3)) dNil)))))
      (dSeqS (dSetO [] 7 (dSplit (dVar 1) (dVar 6)))
      (dSeqS (dSet [7] 8 (dCallD s f_l_draw (dCons (dVar 0) (dCons (dCB dLen (dCons (dVar 7) dNil)) dNil))))
      (dSeqS (dIfS [] (dTv (dOp dEq (dVar 5) (dC (.int 3)))) (dSeqS (dSet [] 9 (dLst (dCons (dC (.str "")) (dCons (dC (.str "a:1")) (dCons (dC (.str "zz9")) (dCons (dC (.str "X:1")) (dCons (dC (.str "a + a")) (dCons (dC (.str "a+a")) (dCons (dC (.str "a + + a")) (dCons (dC (.str "a:4")) (dCons (dC (.str "a:0")) (dCons (dC (.str "a:01")) (dCons (dC (.str "a : 1")) (dCons (dC (.str "a ? zz9")) (dCons (dC (.str "a\nb")) dNil)))))))))))))))
      (dLput [] 7 [] (dVar 8) (dOp dIx (dVar 9) (dCallD s f_l_draw (dCons (dVar 0) (dCons (dC (.int 13)) dNil)))))) dNext)
      (dSeqS (dIfS [] (dTv (dOp dEq (dVar 5) (dC (.int 4)))) (dSetO [7] 7 (dAddL (dSl (dVar 7) dNoneO (dPart (dVar 8))) (dSl (dVar 7) (dPart (dOp dAdd (dVar 8) (dC (.int 1)))) dNoneO))) dNext)
      (dSeqS (dIfS [] (dTv (dOp dEq (dVar 5) (dC (.int 5)))) (dSetO [7] 7 (dAddL (dSl (dVar 7) dNoneO (dPart (dOp dAdd (dVar 8) (dC (.int 1))))) (dSl (dVar 7) (dPart (dVar 8)) dNoneO))) dNext)
      (dSeqS (dIfS [] (dTv (dOp dEq (dVar 5) (dC (.int 6)))) (dSetO [7] 7 (dAddL (dSl (dVar 7) dNoneO (dPart (dVar 8))) (dRevL (dSl (dVar 7) (dPart (dVar 8)) dNoneO)))) dNext)
      (dRet [7] (dJoin (dVar 6) (dVar 7))))))))))
def sp10 : DS := (dSeqS (dIfS [] (dTv (dOp dEq (dVar 5) (dC (.int 4)))) (dSetO [7] 7 (dAddL (dSl (dVar 7) dNoneO (dPart (dVar 8))) (dSl (dVar 7) (dPart (dOp dAdd (dVar 8) (dC (.int 1)))) dNoneO))) dNext)
      (dSeqS (dIfS [] (dTv (dOp dEq (dVar 5) (dC (.int 5)))) (dSetO [7] 7 (dAddL (dSl (dVar 7) dNoneO (dPart (dOp dAdd (dVar 8) (dC (.int 1))))) (dSl (dVar 7) (dPart (dVar 8)) dNoneO))) dNext)
      (dSeqS (dIfS [] (dTv (dOp dEq (dVar 5) (dC (.int 6)))) (dSetO [7] 7 (dAddL (dSl (dVar 7) dNoneO (dPart (dVar 8))) (dRevL (dSl (dVar 7) (dPart (dVar 8)) dNoneO)))) dNext)
      (dRet [7] (dJoin (dVar 6) (dVar 7))))))
def sp11 : DS := (dSeqS (dIfS [] (dTv (dOp dEq (dVar 5) (dC (.int 5)))) (dSetO [7] 7 (dAddL (dSl (dVar 7) dNoneO (dPart (dOp dAdd (dVar 8) (dC (.int 1))))) (dSl (dVar 7) (dPart (dVar 8)) dNoneO))) dNext)
      (dSeqS (dIfS [] (dTv (dOp dEq (dVar 5) (dC (.int 6)))) (dSetO [7] 7 (dAddL (dSl (dVar 7) dNoneO (dPart (dVar 8))) (dRevL (dSl (dVar 7) (dPart (dVar 8)) dNoneO)))) dNext)
      (dRet [7] (dJoin (dVar 6) (dVar 7)))))
def sp12 : DS := (dSeqS (dIfS [] (dTv (dOp dEq (dVar 5) (dC (.int 6)))) (dSetO [7] 7 (dAddL (dSl (dVar 7) dNoneO (dPart (dVar 8))) (dRevL (dSl (dVar 7) (dPart (dVar 8)) dNoneO)))) dNext)
      (dRet [7] (dJoin (dVar 6) (dVar 7))))
def spR : DS := dRet [7] (dJoin (dVar 6) (dVar 7))
structure Fit (z : Str) (mk : Str) (ws : List Str) : Prop where
  len : tot ws + ws.length * mk.length ≤ 2 * z.length + 20
  few : ws.length ≤ 60000
variable {E : DEnds} {z sg sn mk : Str} {sp p k : Int} {x9 : Sl} {ws : List Str} {l : List D}
theorem spR_ok (hz : z.length ≤ 20000) (hl : l = ws.map D.str) (F : Fit z mk ws) (hk : ∀ y : Str, y.length ≤ 2 * z.length + 20 → E.rt (.str y) N) : spR E (spS s z sg sn sp p mk l k x9) N := by
  subst hl
  have := F.len
  have j := join_le mk ws
  unfold tot at this
  show (match strsOf (ws.map D.str) with | some zs => ((zs.map (·.length)).sum + zs.length * mk.length ≤ 16777216 ∧ E.rt (.str (Txt.join mk zs)) N) | none => False)
  rw [strs_map]
  exact ⟨by omega, hk _ (by omega)⟩
theorem sp12_ok (hz : z.length ≤ 20000) (hl : l = ws.map D.str) (F : Fit z mk ws) (F2 : p = 6 → 2 * tot ws + 2 * ws.length * mk.length ≤ 2 * z.length + 20 ∧ ws.length ≤ 30000) (hk : ∀ y : Str, y.length ≤ 2 * z.length + 20 → E.rt (.str y) N) : sp12 E (spS s z sg sn sp p mk l k x9) N := by
  subst hl
  unfold sp12
  refine if_eqI (i := p) rfl (fun hp => ?_) (fun hn => spR_ok (s := s) (z := z) (mk := mk) (sg := sg) (sn := sn) (sp := sp) (p := p) (k := k) (x9 := x9) (ws := ws) hz rfl F hk)
  obtain ⟨f1, f2⟩ := F2 hp
  have a1 := tot_sub (cutW_sub ws none (some k))
  have a2 := tot_sub (cutW_sub ws (some k) none)
  have b1 := (cutW_sub ws none (some k)).length_le
  have b2 := (cutW_sub ws (some k) none).length_le
  have e : Dl.cutD (ws.map D.str) none (some k) ++ (Dl.cutD (ws.map D.str) (some k) none).reverse = (cutW ws none (some k) ++ (cutW ws (some k) none).reverse).map D.str := by
    rw [cutD_str, cutD_str, List.map_append, List.map_reverse]
  have le : (cutW ws none (some k) ++ (cutW ws (some k) none).reverse).length ≤ 2 * ws.length := by
    rw [List.length_append, List.length_reverse]
    omega
  refine ⟨sz ?_, spR_ok (s := s) (z := z) (mk := mk) (sg := sg) (sn := sn) (sp := sp) (p := p) (k := k) (x9 := x9) (ws := cutW ws none (some k) ++ (cutW ws (some k) none).reverse) hz e ⟨?_, by omega⟩ hk⟩
  · have q := congrArg List.length e
    rw [List.length_append, List.length_map] at q
    omega
  · rw [tot_app, tot_rev]
    have := Nat.mul_le_mul_right mk.length le
    omega
theorem sp11_ok (hz : z.length ≤ 20000) (hl : l = ws.map D.str) (F : Fit z mk ws) (F2 : p = 5 ∨ p = 6 → 2 * tot ws + 2 * ws.length * mk.length ≤ 2 * z.length + 20 ∧ ws.length ≤ 30000) (hk : ∀ y : Str, y.length ≤ 2 * z.length + 20 → E.rt (.str y) N) : sp11 E (spS s z sg sn sp p mk l k x9) N := by
  subst hl
  unfold sp11
  refine if_eqI (i := p) rfl (fun hp => ?_) (fun hn => sp12_ok (s := s) (z := z) (mk := mk) (sg := sg) (sn := sn) (sp := sp) (p := p) (k := k) (x9 := x9) (ws := ws) hz rfl F (fun q => F2 (.inr q)) hk)
  obtain ⟨f1, f2⟩ := F2 (.inl hp)
  have a1 := tot_sub (cutW_sub ws none (some (k + 1)))
  have a2 := tot_sub (cutW_sub ws (some k) none)
  have b1 := (cutW_sub ws none (some (k + 1))).length_le
  have b2 := (cutW_sub ws (some k) none).length_le
  have e : Dl.cutD (ws.map D.str) none (some (k + 1)) ++ Dl.cutD (ws.map D.str) (some k) none = (cutW ws none (some (k + 1)) ++ cutW ws (some k) none).map D.str := by
    rw [cutD_str, cutD_str, List.map_append]
  have le : (cutW ws none (some (k + 1)) ++ cutW ws (some k) none).length ≤ 2 * ws.length := by
    rw [List.length_append]
    omega
  refine ⟨sz ?_, sp12_ok (s := s) (z := z) (mk := mk) (sg := sg) (sn := sn) (sp := sp) (p := p) (k := k) (x9 := x9) (ws := cutW ws none (some (k + 1)) ++ cutW ws (some k) none) hz e ⟨?_, by omega⟩ (fun q => by omega) hk⟩
  · have q := congrArg List.length e
    rw [List.length_append, List.length_map] at q
    omega
  · rw [tot_app]
    have := Nat.mul_le_mul_right mk.length le
    omega
theorem sp10_ok (hz : z.length ≤ 20000) (hl : l = ws.map D.str) (F : Fit z mk ws) (F2 : p = 4 ∨ p = 5 ∨ p = 6 → 2 * tot ws + 2 * ws.length * mk.length ≤ 2 * z.length + 20 ∧ ws.length ≤ 30000) (hk : ∀ y : Str, y.length ≤ 2 * z.length + 20 → E.rt (.str y) N) : sp10 E (spS s z sg sn sp p mk l k x9) N := by
  subst hl
  unfold sp10
  refine if_eqI (i := p) rfl (fun hp => ?_) (fun hn => sp11_ok (s := s) (z := z) (mk := mk) (sg := sg) (sn := sn) (sp := sp) (p := p) (k := k) (x9 := x9) (ws := ws) hz rfl F (fun q => F2 (.inr q)) hk)
  obtain ⟨f1, f2⟩ := F2 (.inl hp)
  have a1 := tot_sub (cutW_sub ws none (some k))
  have a2 := tot_sub (cutW_sub ws (some (k + 1)) none)
  have b1 := (cutW_sub ws none (some k)).length_le
  have b2 := (cutW_sub ws (some (k + 1)) none).length_le
  have e : Dl.cutD (ws.map D.str) none (some k) ++ Dl.cutD (ws.map D.str) (some (k + 1)) none = (cutW ws none (some k) ++ cutW ws (some (k + 1)) none).map D.str := by
    rw [cutD_str, cutD_str, List.map_append]
  have le : (cutW ws none (some k) ++ cutW ws (some (k + 1)) none).length ≤ 2 * ws.length := by
    rw [List.length_append]
    omega
  refine ⟨sz ?_, sp11_ok (s := s) (z := z) (mk := mk) (sg := sg) (sn := sn) (sp := sp) (p := p) (k := k) (x9 := x9) (ws := cutW ws none (some k) ++ cutW ws (some (k + 1)) none) hz e ⟨?_, by omega⟩ (fun q => by omega) hk⟩
  · have q := congrArg List.length e
    rw [List.length_append, List.length_map] at q
    omega
  · rw [tot_app]
    have := Nat.mul_le_mul_right mk.length le
    omega
--E--
end
end K11

set_option Elab.async false
set_option linter.all false
set_option maxRecDepth 100000
set_option maxHeartbeats 1000000
namespace K11
open PySem PySem.Spec PyProof.Rows L2 Rl Dr _root_.Tx Ex Er So Wi Vw Dl
section
variable {s : Addr} {N : Nat} {Rk : RK} {Ek : EK} {ns ks : List Str} {h : Str → Int} {l : List Arr} {z : Str} {R : D → Prop} {Ex : Nat → D → Prop}
--B--
variable {E : DEnds} {z sg sn mk : Str} {sp p k : Int} {x9 : Sl} {ws : List Str} {l : List D}
abbrev ODD : List D := [.str "", .str "a:1", .str "zz9", .str "X:1", .str "a + a", .str "a+a", .str "a + + a", .str "a:4", .str "a:0", .str "a:01", .str "a : 1", .str "a ? zz9", .str "a\nb"]
theorem odd_str : ∀ x ∈ ODD, ∃ o : Str, x = .str o ∧ o.length ≤ 7 := by
  intro x hx
  simp only [ODD, List.mem_cons, List.not_mem_nil, or_false] at hx
  rcases hx with rfl | rfl | rfl | rfl | rfl | rfl | rfl | rfl | rfl | rfl | rfl | rfl | rfl <;> exact ⟨_, rfl, by decide +kernel⟩
theorem sp9_ok (hz : z.length ≤ 20000) (hN : N < 999000) (k0 : 0 ≤ k) (k1 : k < ws.length) (F : Fit z mk ws) (F3 : p = 3 → tot ws + 7 + ws.length * mk.length ≤ 2 * z.length + 20) (F2 : p = 4 ∨ p = 5 ∨ p = 6 → 2 * tot ws + 2 * ws.length * mk.length ≤ 2 * z.length + 20 ∧ ws.length ≤ 30000) (hk : ∀ (y : Str) M, y.length ≤ 2 * z.length + 20 → N ≤ M → M ≤ N + 1 → E.rt (.str y) M) : sp9 s E (spS s z sg sn sp p mk (ws.map D.str) k .no) N := by
  unfold sp9
  refine if_eqI (i := p) rfl (fun hp => ?_) (fun hn => sp10_ok (s := s) (z := z) (mk := mk) (sg := sg) (sn := sn) (sp := sp) (p := p) (k := k) (x9 := .no) (ws := ws) hz rfl F F2 fun y hy => hk y _ hy (Nat.le_refl _) (by omega))
  refine ⟨sz (show (13 : Nat) ≤ 100000 by decide), ?_⟩
  refine ⟨rfl, by omega, by decide, by decide, fun d d0 d1 => ?_⟩
  obtain ⟨x, ex, mx⟩ := atI_some (l := ODD) d0 d1
  obtain ⟨o, rfl, ol⟩ := odd_str x mx
  refine ix_at ex ?_
  have hj : ixN (ws.map D.str).length k = some k.toNat := by
    unfold ixN
    rw [List.length_map, if_pos k0, if_pos k1]
  refine ⟨trivial, k, k.toNat, rfl, hj, ?_⟩
  have e : (ws.map D.str).set k.toNat (.str o) = (ws.set k.toNat o).map D.str := by rw [List.map_set]
  have t := tot_set ws k.toNat o
  exact sp10_ok (s := s) (z := z) (mk := mk) (sg := sg) (sn := sn) (sp := sp) (p := p) (k := k) (x9 := .v (.lst ODD)) (ws := ws.set k.toNat o) hz e ⟨by rw [List.length_set]; have := F3 hp; omega, by rw [List.length_set]; exact F.few⟩ (fun q => by omega) fun y hy => hk y _ hy (by omega) (by omega)
theorem mk_cases {d : Int} (d0 : 0 ≤ d) (d1 : d < 3) : ∃ mk : Str, atI [D.str "; ", D.str " ", D.str ":"] d = some (.str mk) ∧ 1 ≤ mk.length ∧ mk.length ≤ 2 ∧ (mk.length == 0) = false := by
  obtain rfl | rfl | rfl : d = 0 ∨ d = 1 ∨ d = 2 := by omega
  · exact ⟨"; ", rfl, by decide +kernel, by decide +kernel, by decide +kernel⟩
  · exact ⟨" ", rfl, by decide +kernel, by decide +kernel, by decide +kernel⟩
  · exact ⟨":", rfl, by decide +kernel, by decide +kernel, by decide +kernel⟩
theorem sp6_ok (hz : z.length ≤ 20000) (hN : N < 990000) (hk : ∀ (y : Str) M, y.length ≤ 2 * z.length + 20 → N ≤ M → M ≤ N + 3 → E.rt (.str y) M) : sp6 s E [.v (.sta s), .v (.str z), .v (.str sg), .v (.str sn), .v (.int sp), .v (.int p), .no, .no, .no, .no] N := by
  unfold sp6
  refine ⟨sz (show (3 : Nat) ≤ 100000 by decide), ?_⟩
  refine ⟨rfl, by omega, by decide, by decide, fun d d0 d1 => ?_⟩
  obtain ⟨mk, em, m1, m2, m3⟩ := mk_cases d0 d1
  refine ix_at em ?_
  have sm := Spl.sum_split z mk
  have sl := split_len z mk
  have sn0 := Spl.split_ne (s := z) (sub := mk)
  refine ⟨m3, by omega, ?_⟩
  generalize Txt.split z mk = ws at sm sl sn0 ⊢
  have n1 : 1 ≤ ws.length := by
    cases ws with
    | nil => exact absurd rfl sn0
    | cons a b => simp
  refine ⟨rfl, by omega, (show (0 : Int) < (((ws.map D.str).length : Nat) : Int) by rw [List.length_map]; omega), (show (((ws.map D.str).length : Nat) : Int) < 100000000 by rw [List.length_map]; omega), fun k k0 k1 => ?_⟩
  have k1' : k < ws.length := by
    have q : k < (((ws.map D.str).length : Nat) : Int) := k1
    rw [List.length_map] at q
    exact q
  have wm : ws.length * mk.length = (ws.length - 1) * mk.length + mk.length := by
    obtain ⟨n, hn⟩ : ∃ n, ws.length = n + 1 := ⟨ws.length - 1, by omega⟩
    rw [hn, Nat.add_sub_cancel, Nat.succ_mul]
  have tl : tot ws = (ws.map (·.length)).sum := rfl
  have d2 : 2 * ws.length * mk.length = ws.length * mk.length + ws.length * mk.length := by rw [Nat.mul_assoc, Nat.two_mul]
  refine sp9_ok (s := s) (N := N + 1 + 1) (z := z) (mk := mk) (sg := sg) (sn := sn) (sp := sp) (p := p) (k := k) (ws := ws) hz (by omega) k0 k1' ⟨by omega, by omega⟩ (fun _ => by omega) (fun _ => ⟨by omega, by omega⟩) fun y M hy h1 h2 => hk y M hy (by omega) (by omega)
theorem d_signs {R : D → Prop} (h1 : ∀ sg : Str, 1 ≤ sg.length → sg.length ≤ 1000 → R (.str sg)) : f_l_signs [] R fun _ _ => False := by
  refine ⟨rfl, ?_⟩
  refine ⟨sz (by decide +kernel), h1 _ (by decide +kernel) (by decide +kernel)⟩
theorem d_spoiled {z : Str} (hz : z.length ≤ 20000) (hN : N < 900000) (hk : ∀ (y : Str) M, y.length ≤ 2 * z.length + 20 → M ≤ N + 6 → Rk (.str y) M) : f_l_spoiled s [.sta s, .str z] N Rk Ek := by
  refine ⟨rfl, ?_⟩
  show f_l_signs [] _ fun _ _ => False
  refine d_signs fun s0 g1 g2 => ?_
  have le9 : (";:+-?123 " : Str).length ≤ 20 := by decide +kernel
  refine ⟨sz (by omega), ?_⟩
  have gl : (s0 ++ ";:+-?123 ").length = s0.length + (";:+-?123 " : Str).length := app_len _ _
  generalize s0 ++ ";:+-?123 " = sg at gl ⊢
  refine ⟨sz (show sg.length ≤ 100000 by omega), ?_⟩
  refine ⟨rfl, by omega, (show (0 : Int) < ((sg.length : Nat) : Int) by omega), (show ((sg.length : Nat) : Int) < 100000000 by omega), fun d d0 d1 => ?_⟩
  have hd : d.toNat < sg.cps.toList.length := by
    have q : d < ((sg.length : Nat) : Int) := d1
    show d.toNat < sg.cps.toList.length
    rw [Array.length_toList]
    show d.toNat < sg.length
    omega
  have at_ : atI sg.cps.toList d = some sg.cps.toList[d.toNat] := by
    unfold atI ixN
    rw [if_pos d0, if_pos (by omega)]
    exact List.getElem?_eq_getElem hd
  refine ⟨sz (show sg.length ≤ 100000 by omega), ?_⟩
  show match atI sg.cps.toList d with | some c => _ | none => False
  rw [at_]
  generalize sg.cps.toList[d.toNat] = c
  have cl : (⟨#[c]⟩ : Str).length = 1 := rfl
  refine ⟨sz (show z.length ≤ 100000 by omega), ?_⟩
  refine ⟨rfl, by omega, (show (0 : Int) < ((z.length : Nat) : Int) + 1 by omega), (show ((z.length : Nat) : Int) + 1 < 100000000 by omega), fun sp p0 p1 => ?_⟩
  refine ⟨rfl, by omega, by decide, by decide, fun p q0 q1 => ?_⟩
  show if decide (p < (3 : Int)) = true then _ else _
  by_cases c3 : p < 3
  · rw [if_pos (decide_eq_true c3)]
    obtain ⟨u, eu, ul⟩ : ∃ u : Str, atI [D.str "", D.str ⟨#[c]⟩, D.str ⟨#[c]⟩] p = some (.str u) ∧ u.length ≤ 1 := by
      obtain rfl | rfl | rfl : p = 0 ∨ p = 1 ∨ p = 2 := by omega
      · exact ⟨"", rfl, by decide +kernel⟩
      · exact ⟨⟨#[c]⟩, rfl, by omega⟩
      · exact ⟨⟨#[c]⟩, rfl, by omega⟩
    obtain ⟨v, ev⟩ : ∃ v : Int, atI [D.int 1, D.int 0, D.int 1] p = some (.int v) := by
      obtain rfl | rfl | rfl : p = 0 ∨ p = 1 ∨ p = 2 := by omega
      · exact ⟨1, rfl⟩
      · exact ⟨0, rfl⟩
      · exact ⟨1, rfl⟩
    have c1 := cutS_len z none (some sp)
    have c2 := cutS_len z (some (sp + v)) none
    refine ⟨sz (show z.length ≤ 100000 by omega), sz (show (3 : Nat) ≤ 100000 by decide), ?_⟩
    refine ix_at eu ?_
    refine ⟨sz (by omega), sz (show (3 : Nat) ≤ 100000 by decide), ?_⟩
    refine ix_at ev ?_
    have a1 := app_len (L2.cutS z none (some sp)) u
    have a2 := app_len (L2.cutS z none (some sp) ++ u) (L2.cutS z (some (sp + v)) none)
    exact ⟨sz (show z.length ≤ 100000 by omega), sz (by omega), hk _ _ (by omega) (by omega)⟩
  · rw [if_neg (by simpa using c3)]
    exact sp6_ok (E := endD Rk fun _ _ _ => False) (s := s) (z := z) (sg := sg) (sn := ⟨#[c]⟩) (sp := sp) (p := p) (N := N + 1 + 1 + 1) hz (by omega) fun y M hy h1 h2 => hk y M hy (by omega)
--E--
end
end K11

set_option Elab.async false
set_option linter.all false
set_option maxRecDepth 100000
set_option maxHeartbeats 1000000
namespace K11
open PySem PySem.Spec PyProof.Rows L2 Rl Dr _root_.Tx Ex Er So Wi Vw Dl
section
variable {s C : Addr} {N : Nat} {Rk : RK} {Ek : EK} {E : DEnds} {ns ks : List Str} {h : Str → Int} {l : List Arr} {z : Str} {R : D → Prop} {Ex : Nat → D → Prop}
--B--
theorem pl_arr (x : Arr) : Pl 1 (arrD x) := .tup fun d hd => by
  simp only [List.mem_cons, List.not_mem_nil, or_false] at hd
  rcases hd with rfl | rfl | rfl <;> exact .str _
theorem pl_arrs (la : List Arr) : Pl 2 (.tup (la.map arrD)) := .tup fun d hd => by
  obtain ⟨x, _, rfl⟩ := List.mem_map.mp hd
  exact pl_arr x
theorem d_eq {h' : Str → Int} {l' : List Arr} (e : ∀ z ∈ ns, h z = h' z) (e2 : sortA l = sortA l') (h1 : R (.bl true)) : f_Wiring___eq__ [wir ns h l, wir ns h' l'] R fun _ _ => False := by
  have fk : ∀ g : Str → Int, flatK (keyI ns g) = true := fun g => List.all_eq_true.mpr fun p hp => by
    obtain ⟨z, _, rfl⟩ := List.mem_map.mp hp
    rfl
  refine ⟨rfl, rfl, ?_⟩
  refine ⟨rfl, rfl, fk h, fk h', ?_⟩
  show (match D.bl (Cmp.eqKvs (kvV (keyI ns h)) (kvV (keyI ns h'))) with | .bl c => _ | _ => False)
  rw [eqK_self e]
  refine ⟨rfl, rfl, ?_⟩
  rw [e2]
  exact eq_same (f := id) (pl_arrs (sortA l')) (by decide) h1
variable {x0 x2 x3 x4 x5 x6 x7 x8 x9 x10 : Sl} {z : Str}
theorem d_law1 (hN : N < 700000) (q : ∀ ns M, NmsOk ns → sortedS ns = true → 1 ≤ ns.length → ns.length ≤ 6 → M ≤ N + 20 → E.nx [x0, .v (.sta s), .v (.lst (ns.map D.str)), x3, x4, x5, x6, x7, x8, x9, x10] M) : w_law1 C s E [x0, .v (.sta s), x2, x3, x4, x5, x6, x7, x8, x9, x10] N := by
  unfold w_law1
  refine ⟨rfl, by omega, by decide, by decide, fun d d0 d1 => ?_⟩
  obtain ⟨k, ek⟩ : ∃ k : Nat, (1 : Int) + d = (k : Int) := ⟨(1 + d).toNat, by omega⟩
  show f_l_names s [.sta s, .int (1 + d)] _ _ (fun _ _ _ => False)
  rw [ek]
  refine d_names (by omega) (by omega) fun zs hz hl => ?_
  show (match strsOf (zs.map D.str) with | some zs => zs.length < 64 ∧ ∀ ys : List Str, ys.Perm zs → sortedS ys = true → _ | none => dSortData (zs.map D.str) _)
  rw [strs_map]
  refine ⟨by omega, fun ys p srt => ?_⟩
  exact q ys _ ⟨p.nodup_iff.mpr hz.nd, fun y hy => hz.ok y (p.mem_iff.mp hy)⟩ srt (by rw [p.length_eq]; omega) (by rw [p.length_eq]; omega) (by omega)
theorem d_law2 (hN : N < 700000) (nm : NmsOk ns) (srt : sortedS ns = true) (n6 : ns.length ≤ 6) (q : ∀ ks h M, TopsOk ns h → ns.Perm ks → M ≤ N + 20 → E.nx [x0, .v (.sta s), .v (.lst (ns.map D.str)), .v (.dk (keyI ks h)), x4, x5, x6, x7, x8, x9, x10] M) : w_law2 C s E [x0, .v (.sta s), .v (.lst (ns.map D.str)), x3, x4, x5, x6, x7, x8, x9, x10] N := by
  unfold w_law2
  show f_l_tops s [.sta s, .lst (ns.map D.str)] _ _ (fun _ _ _ => False)
  refine d_tops nm.nd n6 (by omega) fun ks h pk one c => ?_
  exact q ks h _ ⟨nm.nd, srt, fun y hy => (nm.ok y hy).v, fun y hy => one y (pk.mem_iff.mpr hy), n6, by rw [← cnt_perm (pk.map h)]; exact c⟩ pk.symm (by omega)
theorem d_law3 (hN : N < 700000) (nd : ns.Nodup) (n6 : ns.length ≤ 6) (q : ∀ l M, ArG ns l → M ≤ N + 200 → E.nx [x0, .v (.sta s), .v (.lst (ns.map D.str)), x3, .v (.lst (l.map arrD)), x5, x6, x7, x8, x9, x10] M) : w_law3 C s E [x0, .v (.sta s), .v (.lst (ns.map D.str)), x3, x4, x5, x6, x7, x8, x9, x10] N := by
  unfold w_law3
  show f_l_arrows s [.sta s, .lst (ns.map D.str)] _ _ (fun _ _ _ => False)
  exact d_arrows_drawn nd n6 (by omega) fun l M G hM => q l M G hM
theorem d_law4 (W : WirOk ns h l) (srt : sortedS ns = true) (pk : ns.Perm ks) (q : E.nx [x0, .v (.sta s), x2, .v (.dk (keyI ks h)), .v (.lst (l.map arrD)), .v (.str (strW ns h (sortA l))), x6, x7, x8, x9, x10] N) : w_law4 C s E [x0, .v (.sta s), x2, .v (.dk (keyI ks h)), .v (.lst (l.map arrD)), x5, x6, x7, x8, x9, x10] N := by
  unfold w_law4
  show f_l_text [.dk (keyI ks h), .lst (l.map arrD)] _ (fun _ _ => False)
  exact d_text W srt pk q
theorem d_law5 (G : Good ns h l) (pk : ns.Perm ks) (q : E.nx [x0, .v (.sta s), x2, .v (.dk (keyI ks h)), .v (.lst (l.map arrD)), .v (.str (strW ns h (sortA l))), x6, x7, x8, x9, x10] N) : w_law5 C s E [x0, .v (.sta s), x2, .v (.dk (keyI ks h)), .v (.lst (l.map arrD)), .v (.str (strW ns h (sortA l))), x6, x7, x8, x9, x10] N := by
  unfold w_law5
  have few := G.few
  have q2 : f_Wiring [.dk (keyI ks h), .lst (l.map arrD)] (fun x => dStrO0 0 f_Wiring___str__ [x] fun y => dNe y (.str (strW ns h (sortA l))) fun b => match b with
      | .bl c => if c = true then dRet [] (dC (.bl false)) E [x0, .v (.sta s), x2, .v (.dk (keyI ks h)), .v (.lst (l.map arrD)), .v (.str (strW ns h (sortA l))), x6, x7, x8, x9, x10] N else dNext E [x0, .v (.sta s), x2, .v (.dk (keyI ks h)), .v (.lst (l.map arrD)), .v (.str (strW ns h (sortA l))), x6, x7, x8, x9, x10] N
      | _ => False) (fun _ _ => False) := by
    refine mk_ok G.t pk G.n0 G.hi G.nd (by omega) ?_
    refine ⟨rfl, ?_⟩
    refine d_str (wirOk_of G.t G.hi (by omega)) ⟨⟨_, rfl⟩, ?_⟩
    refine ⟨by simp [PyData.depth], by simp [PyData.depth], ?_⟩
    show if (!(PyData.eqv (.str (strW ns h (sortA l))) (.str (strW ns h (sortA l))))) = true then _ else _
    rw [str_eqv, decide_eq_true rfl, if_neg (by simp)]
    exact q
  exact q2
theorem four {d : Int} (d0 : 0 ≤ d) (d1 : d < 4) : ∃ n : Nat, atI [D.int 0, D.int 1, D.int 2, D.int 3] d = some (.int (n : Int)) ∧ n ≤ 3 := by
  obtain rfl | rfl | rfl | rfl : d = 0 ∨ d = 1 ∨ d = 2 ∨ d = 3 := by omega
  · exact ⟨0, rfl, by omega⟩
  · exact ⟨1, rfl, by omega⟩
  · exact ⟨2, rfl, by omega⟩
  · exact ⟨3, rfl, by omega⟩
theorem d_law6 (hN : N < 700000) (h6 : notO x6) (hz : z.length ≤ 800) (q : ∀ (y : Str) x6 M, y.length ≤ 7000 → M ≤ N + 30 → E.nx [x0, .v (.sta s), x2, x3, x4, .v (.str y), x6, x7, x8, x9, x10] M) : w_law6 C s E [x0, .v (.sta s), x2, x3, x4, .v (.str z), x6, x7, x8, x9, x10] N := by
  unfold w_law6
  refine ⟨sz (show (4 : Nat) ≤ 100000 by decide), ?_⟩
  refine ⟨rfl, by omega, by decide, by decide, fun d d0 d1 => ?_⟩
  obtain ⟨n, en, n3⟩ := four d0 d1
  refine ix_at en ?_
  refine ⟨⟨by omega, by omega⟩, ?_⟩
  refine for_0 (items := rangeD 0 ((n : Int)).toNat) (fun pre δ M => ∃ (y : Str) (x6 : Sl), pre.length ≤ 3 ∧ y.length + 20 ≤ 820 * 2 ^ pre.length ∧ M ≤ N + 1 + 6 * pre.length ∧ notO x6 ∧ δ = [x0, .v (.sta s), x2, x3, x4, .v (.str y), x6, x7, x8, x9, x10]) ?_ ?_ ⟨z, x6, by simp, by simp; omega, by simp, h6, rfl⟩
  · rintro pre x post e δ M nx ⟨y, x6, hp, hy, hM, h6, rfl⟩ hn
    have pl : pre.length + 1 ≤ 3 := by
      have := congrArg List.length e
      simp [rangeD] at this
      omega
    have p2 : (2 : Nat) ^ pre.length ≤ 2 ^ 2 := Nat.pow_le_pow_right (by decide) (by omega)
    refine ⟨fun i hi => ?_, ?_⟩
    · obtain rfl : i = 6 := by simpa using hi
      cases x6 with
      | o d => exact absurd rfl (h6 d)
      | v d => trivial
      | no => trivial
    · show f_l_spoiled s [.sta s, .str y] _ _ (fun _ _ _ => False)
      refine d_spoiled (by omega) (by omega) fun y2 M2 h1 h2 => hn _ _ ?_
      refine ⟨y2, .v x, by simp; omega, ?_, by simp; omega, (fun d q => by cases q), rfl⟩
      rw [List.length_append, show ([x] : List D).length = 1 from rfl, Nat.pow_succ]
      omega
  · rintro δ M ⟨y, x6, hp, hy, hM, h6, rfl⟩
    have p3 : (2 : Nat) ^ (rangeD 0 ((n : Int)).toNat).length ≤ 2 ^ 3 := Nat.pow_le_pow_right (by decide) hp
    exact q y x6 M (by omega) (by omega)
theorem d_law7 (hN : N < 800000) (hz : z.length ≤ 7000) (q : ∀ (y : Str) M, y.length ≤ 8000 → E.nx [x0, .v (.sta s), x2, x3, x4, .v (.str y), x6, x7, x8, x9, x10] M) : w_law7 C s E [x0, .v (.sta s), x2, x3, x4, .v (.str z), x6, x7, x8, x9, x10] N := by
  unfold w_law7
  have l1 : ("\n" : Str).length = 1 := by decide +kernel
  have l2 : (" " : Str).length = 1 := by decide +kernel
  have l3 : ("; " : Str).length = 2 := by decide +kernel
  refine ⟨rfl, by omega, by decide, by decide, fun d d0 d1 => ?_⟩
  refine ⟨by simp [PyData.depth], by simp [PyData.depth], ?_⟩
  show if PyData.eqv (.int d) (.int 0) = true then _ else _
  by_cases c : PyData.eqv (.int d) (.int 0) = true
  · rw [if_pos c]
    refine ⟨sz (by omega), sz (by omega), sz (by omega), sz (by omega), sz (show (4 : Nat) ≤ 100000 by decide), ?_⟩
    refine ⟨rfl, by omega, by decide, by decide, fun e e0 e1 => ?_⟩
    have a1 := app_len z "\n"
    have a2 := app_len z " "
    have a3 := app_len " " z
    have a4 := app_len z "; "
    obtain ⟨y, ey, yl⟩ : ∃ y : Str, atI [D.str (z ++ "\n"), D.str (z ++ " "), D.str (" " ++ z), D.str (z ++ "; ")] e = some (.str y) ∧ y.length ≤ 8000 := by
      obtain rfl | rfl | rfl | rfl : e = 0 ∨ e = 1 ∨ e = 2 ∨ e = 3 := by omega
      · exact ⟨_, rfl, by omega⟩
      · exact ⟨_, rfl, by omega⟩
      · exact ⟨_, rfl, by omega⟩
      · exact ⟨_, rfl, by omega⟩
    refine ix_at ey ?_
    exact q y _ yl
  · rw [if_neg c]
    exact q z _ (by omega)
--E--
end
end K11

set_option Elab.async false
set_option linter.all false
set_option maxRecDepth 100000
set_option maxHeartbeats 1000000
namespace K11
open PySem PySem.Spec PyProof.Rows L2 Rl Dr _root_.Tx Ex Er So Wi Vw Dl
section
variable {s C : Addr} {N : Nat} {Rk : RK} {Ek : EK} {E : DEnds} {ns ks : List Str} {h : Str → Int} {l : List Arr} {z : Str} {R : D → Prop} {Ex : Nat → D → Prop}
--B--
theorem sel_hit {ef : Nat → Option Str} {i c N : Nat} {E : DEnds} {d : DH} {r : List DH} {x : D} {δ : DEnv} (hh : d.hit c = true) (k : ∀ a dx, d.run a dx (shutE E i) ((backS δ).set i (match ef c with
    | some f => .v (.exc a dx f x)
    | none => .no)) N) : selH ef i E (d :: r) c x δ N := by
  unfold selH
  rw [if_pos hh]
  exact k
variable {x0 x2 x3 x4 x5 x6 x7 x8 x9 x10 : Sl} {z : Str} {la : List Arr}
theorem Good.sort (G : Good ns h l) : Good ns h (sortA l) ∧ sortA (sortA l) = sortA l := by
  have p : (sortA l).Perm l := List.mergeSort_perm _ _
  refine ⟨⟨G.t, G.n0, fun x hx => G.hi x (p.mem_iff.mp hx), ?_, by rw [p.length_eq]; exact G.few⟩, sortA_perm p⟩
  unfold prs
  exact (p.map _).nodup_iff.mpr G.nd
/-! ### a text that no wiring has -/
def NoW (z : Str) : Prop := ∀ ns h l, Good ns h l → z ≠ strW ns h (sortA l)
theorem d_law8_no (hz : z.length ≤ 8000) (no : NoW z) (q : E.nx [x0, .v (.sta s), x2, x3, x4, .v (.str z), x6, .v (.lst []), x8, x9, x10] N) : w_law8 C s E [x0, .v (.sta s), x2, x3, x4, .v (.str z), x6, x7, x8, x9, x10] N := by
  unfold w_law8
  show f_l_due [.str z] _ (fun _ _ => False)
  exact d_due (by omega) q fun ns us g l G _ e => absurd e (no ns g l G)
theorem d_law9_no (hz : z.length ≤ 8000) (no : NoW z) (q : ∀ M, E.rt (.bl true) M) : w_law9 C s E [x0, .v (.sta s), x2, x3, x4, .v (.str z), x6, .v (.lst []), x8, x9, x10] N := by
  unfold w_law9
  refine ⟨rfl, ?_⟩
  have q2 : f_Wiring_read C [.sta C, .str z] (fun x => E.nx ((keepO [] x [x0, .v (.sta s), x2, x3, x4, .v (.str z), x6, .v (.lst []), x8, x9, x10]).set 8 (.v x)) N) (fun c x => selH cnE 9 E [⟨(· == 5), fun a dx => (dRet [] (dAnd (dOp dEqE (dVar 7) (dLst dNil)) (dAnd (dOp dEq (dXf a dx "text" (dVar 9)) (dVar 5)) (dIsX a dx (dVar 9)))))⟩] c x (hideS [x0, .v (.sta s), x2, x3, x4, .v (.str z), x6, .v (.lst []), x8, x9, x10]) N) := by
    refine d_read (by omega) ?_ fun ns h l G e => absurd e (no ns h l G)
    refine sel_hit rfl fun a dx => ?_
    refine ⟨sz (show (0 : Nat) ≤ 100000 by decide), ?_⟩
    refine ⟨rfl, rfl, rfl, ?_⟩
    refine ⟨by simp [PyData.depth], by simp [PyData.depth], ?_⟩
    show if (PyData.eqv (.str z) (.str z)) = true then _ else _
    rw [str_eqv, decide_eq_true rfl, if_pos rfl]
    exact ⟨rfl, rfl, q _⟩
  exact q2
/-! ### a wiring's text -/
theorem d_law8_yes (G : Good ns h la) (sa : sortA la = la) (q : E.nx [x0, .v (.sta s), x2, x3, x4, .v (.str (strW ns h la)), x6, .v (.lst [.dk (keyI ns h), .lst (la.map arrD)]), x8, x9, x10] N) : w_law8 C s E [x0, .v (.sta s), x2, x3, x4, .v (.str (strW ns h la)), x6, x7, x8, x9, x10] N := by
  unfold w_law8
  show f_l_due [.str (strW ns h la)] _ (fun _ _ => False)
  exact d_due_good G sa q
theorem d_law9_yes (G : Good ns h la) (sa : sortA la = la) (q : E.nx [x0, .v (.sta s), x2, x3, x4, .v (.str (strW ns h la)), x6, .v (.lst [.dk (keyI ns h), .lst (la.map arrD)]), .v (wir ns h la), x9, x10] N) : w_law9 C s E [x0, .v (.sta s), x2, x3, x4, .v (.str (strW ns h la)), x6, .v (.lst [.dk (keyI ns h), .lst (la.map arrD)]), x8, x9, x10] N := by
  unfold w_law9
  refine ⟨rfl, ?_⟩
  have q2 : f_Wiring_read C [.sta C, .str (strW ns h la)] (fun x => E.nx ((keepO [] x [x0, .v (.sta s), x2, x3, x4, .v (.str (strW ns h la)), x6, .v (.lst [.dk (keyI ns h), .lst (la.map arrD)]), x8, x9, x10]).set 8 (.v x)) N) (fun c x => selH cnE 9 E [⟨(· == 5), fun a dx => (dRet [] (dAnd (dOp dEqE (dVar 7) (dLst dNil)) (dAnd (dOp dEq (dXf a dx "text" (dVar 9)) (dVar 5)) (dIsX a dx (dVar 9)))))⟩] c x (hideS [x0, .v (.sta s), x2, x3, x4, .v (.str (strW ns h la)), x6, .v (.lst [.dk (keyI ns h), .lst (la.map arrD)]), x8, x9, x10]) N) := d_read_good G sa q
  exact q2
theorem pl_strs (zs : List Str) : Pl 1 (.tup (zs.map D.str)) := .tup fun d hd => by
  obtain ⟨y, _, rfl⟩ := List.mem_map.mp hd
  exact .str y
theorem pl_tarrs (l : List Arr) : Pl 2 (.tup (l.map arrD)) := .tup fun d hd => by
  obtain ⟨x, _, rfl⟩ := List.mem_map.mp hd
  exact pl_arr x
theorem at_or {a b : DT} {δ : DEnv} {R : Bool → Nat → Prop} {Ex : EK} (k : a δ N (fun c N1 => if c = true then R true N1 else b δ N1 R Ex) Ex) : dTor a b δ N R Ex := k
theorem at_if {r : List Nat} {c : DT} {a b : DS} {δ : List Sl} (k : c (hideS (frz r δ)) N (fun z N' => if z = true then a E δ N' else b E δ N') (fun c x N' => E.ex c x (hideS (frz r δ)) N')) : dIfS r c a b E δ N := k
variable {δ : DEnv} {R : Bool → Nat → Prop}
theorem str_test (G : Good ns h la) (sa : sortA la = la) (h5 : δ[5]? = some (some (.str (strW ns h la)))) (h8 : δ[8]? = some (some (wir ns h la))) (k : R false N) : dTv (dOp dNe (dStrO 0 f_Wiring___str__ (dVar 8)) (dVar 5)) δ N R Ek := by
  have few := G.few
  dsimp only [dTv, dOp, dStrO, dCB, dCons, dNil, dVar]
  rw [h8]
  refine ⟨rfl, ?_⟩
  refine d_str (wirOk_of G.t G.hi (by omega)) ⟨⟨_, rfl⟩, ?_⟩
  dsimp only
  rw [h5]
  refine ⟨by simp [PyData.depth], by simp [PyData.depth], ?_⟩
  have e : (!(PyData.eqv (.str (strW ns h (sortA la))) (.str (strW ns h la)))) = false := by
    rw [str_eqv, sa, decide_eq_true rfl]
    rfl
  show R (!(PyData.eqv (.str (strW ns h (sortA la))) (.str (strW ns h la)))) N
  rw [e]
  exact k
theorem nil_test (h7 : δ[7]? = some (some (.lst [.dk (keyI ns h), .lst (la.map arrD)]))) (k : R false N) : dTv (dOp dEqE (dVar 7) (dLst dNil)) δ N R Ek := by
  dsimp only [dTv, dOp, dVar, dLst, dNil]
  rw [h7]
  exact ⟨sz (show (0 : Nat) ≤ 100000 by decide), k⟩
theorem parts_test (G : Good ns h la) (h7 : δ[7]? = some (some (.lst [.dk (keyI ns h), .lst (la.map arrD)]))) (h8 : δ[8]? = some (some (wir ns h la))) (k : R false N) : dTv (dOp dNe (dProp 0 f_Wiring_parts (dVar 8)) (dCB dTuple (dCons (dCB dSorted (dCons (dOp dIx (dVar 7) (dC (.int 0))) dNil)) dNil))) δ N R Ek := by
  have q : dSorted [.dk (keyI ns h)] (fun y => dTuple [y] fun w => dNe (.tup (ns.map D.str)) w fun b => match b with | .bl c => R c N | _ => False) := by
    refine sorted_keys G.t.srt (.refl _) G.t.few ?_
    exact eq_same (f := (!·)) (R := fun b => match b with | .bl c => R c N | _ => False) (pl_strs ns) (by decide) k
  dsimp only [dTv, dOp, dProp, dCB, dCons, dNil, dVar, dC]
  rw [h8]
  refine ⟨rfl, rfl, rfl, ?_⟩
  try dsimp only
  simp only [h7]
  exact q
theorem arrows_test (h7 : δ[7]? = some (some (.lst [.dk (keyI ns h), .lst (la.map arrD)]))) (h8 : δ[8]? = some (some (wir ns h la))) (k : R false N) : dTv (dOp dNe (dProp 0 f_Wiring_arrows (dVar 8)) (dCB dTuple (dCons (dCB dSorted (dCons (dOp dIx (dVar 7) (dC (.int 1))) dNil)) dNil))) δ N R Ek := by
  have q : dSorted [.lst (la.map arrD)] (fun y => dTuple [y] fun w => dNe (.tup ((sortA la).map arrD)) w fun b => match b with | .bl c => R c N | _ => False) := by
    refine d_sortA ?_
    exact eq_same (f := (!·)) (R := fun b => match b with | .bl c => R c N | _ => False) (pl_tarrs (sortA la)) (by decide) k
  dsimp only [dTv, dOp, dProp, dCB, dCons, dNil, dVar, dC]
  rw [h8]
  refine ⟨rfl, rfl, rfl, ?_⟩
  try dsimp only
  simp only [h7]
  exact q
theorem d_law10_yes (G : Good ns h la) (sa : sortA la = la) (q : E.nx [x0, .v (.sta s), x2, x3, x4, .v (.str (strW ns h la)), x6, .v (.lst [.dk (keyI ns h), .lst (la.map arrD)]), .v (wir ns h la), x9, x10] N) : w_law10 C s E [x0, .v (.sta s), x2, x3, x4, .v (.str (strW ns h la)), x6, .v (.lst [.dk (keyI ns h), .lst (la.map arrD)]), .v (wir ns h la), x9, x10] N := by
  unfold w_law10
  refine at_if (at_or (nil_test (ns := ns) (h := h) (la := la) rfl ?_))
  rw [if_neg (by simp)]
  refine at_or (str_test G sa rfl rfl ?_)
  rw [if_neg (by simp)]
  refine at_or (parts_test G rfl rfl ?_)
  rw [if_neg (by simp)]
  refine arrows_test (ns := ns) (h := h) rfl rfl ?_
  rw [if_neg (by simp)]
  exact q
--E--
end
end K11

set_option Elab.async false
set_option linter.all false
set_option maxRecDepth 100000
set_option maxHeartbeats 1000000
namespace K11
open PySem PySem.Spec PyProof.Rows L2 Rl Dr _root_.Tx Ex Er So Wi Vw Dl
section
variable {s C : Addr} {N : Nat} {Rk : RK} {Ek : EK} {E : DEnds} {ns ks : List Str} {h : Str → Int} {l : List Arr} {z : Str} {R : D → Prop} {Ex : Nat → D → Prop}
--B--
variable {x0 x2 x3 x4 x5 x6 x7 x8 x9 x10 : Sl} {z : Str} {la : List Arr} {δ : DEnv} {R : Bool → Nat → Prop}
theorem top_test {u : Str} (hu : u ∈ ns) (h7 : δ[7]? = some (some (.lst [.dk (keyI ns h), .lst (la.map arrD)]))) (h8 : δ[8]? = some (some (wir ns h la))) (h10 : δ[10]? = some (some (.str u))) (k : R false N) : dTv (dOp dNe (dMeth0 0 f_Wiring_top (dVar 8) (dCons (dVar 10) dNil)) (dOp dIx (dOp dIx (dVar 7) (dC (.int 0))) (dVar 10))) δ N R Ek := by
  have q : f_Wiring_top [wir ns h la, .str u] (fun x => dIx (.lst [.dk (keyI ns h), .lst (la.map arrD)]) (.int 0) fun y => dIx y (.str u) fun w => dNe x w fun b => match b with | .bl c => R c N | _ => False) (fun _ _ => False) := by
    refine d_top (fun hz => ?_) (fun n => absurd hu n)
    refine ix_at (x := .dk (keyI ns h)) (at_first _ _) ?_
    show match dkGet (keyI ns h) (.inr u) with | some d => dNe (.int (h u)) d (fun b => match b with | .bl c => R c N | _ => False) | none => False
    rw [keyI_get, if_pos hz]
    exact eq_same (f := (!·)) (R := fun b => match b with | .bl c => R c N | _ => False) (Pl.int (n := 0) (h u)) (by decide) k
  dsimp only [dTv, dOp, dMeth0, dCons, dNil, dVar, dC]
  rw [h8]
  refine ⟨rfl, ?_⟩
  simp only [h7, h10]
  exact q
theorem d_law11_yes (G : Good ns h la) (h10 : notO x10) (q : ∀ x10, E.nx [x0, .v (.sta s), x2, x3, x4, .v (.str (strW ns h la)), x6, .v (.lst [.dk (keyI ns h), .lst (la.map arrD)]), .v (wir ns h la), x9, x10] N) : w_law11 C s E [x0, .v (.sta s), x2, x3, x4, .v (.str (strW ns h la)), x6, .v (.lst [.dk (keyI ns h), .lst (la.map arrD)]), .v (wir ns h la), x9, x10] N := by
  unfold w_law11
  have ki : keysI (.dk (keyI ns h)) = some (ns.map D.str) := by
    show some ((keyI ns h).map fun kv => kD kv.1) = _
    unfold keyI
    rw [List.map_map]
    rfl
  show (match keysI (.dk (keyI ns h)) with | some items => items.length ≤ sizeLine ∧ forGo [10] (dgName 10) _ _ items _ N | none => False)
  rw [ki]
  refine ⟨sz (by rw [List.length_map]; have := G.t.few; omega), ?_⟩
  refine for_0 (items := ns.map D.str) (fun pre δ M => ∃ x10 : Sl, M = N ∧ notO x10 ∧ δ = [x0, .v (.sta s), x2, x3, x4, .v (.str (strW ns h la)), x6, .v (.lst [.dk (keyI ns h), .lst (la.map arrD)]), .v (wir ns h la), x9, x10]) ?_ ?_ ⟨x10, rfl, h10, rfl⟩
  · rintro pre x post e δ M nx ⟨x10, rfl, h10, rfl⟩ hn
    have hm : x ∈ ns.map D.str := by rw [e]; simp
    obtain ⟨u, hu, rfl⟩ := List.mem_map.mp hm
    refine ⟨fun i hi => ?_, ?_⟩
    · obtain rfl : i = 10 := by simpa using hi
      cases x10 with
      | o d => exact absurd rfl (h10 d)
      | v d => trivial
      | no => trivial
    · refine at_if (top_test (ns := ns) (h := h) (la := la) hu rfl rfl rfl ?_)
      rw [if_neg (by simp)]
      exact hn _ _ ⟨.v (.str u), rfl, (fun d q => by cases q), rfl⟩
  · rintro δ M ⟨x10, rfl, h10, rfl⟩
    exact q x10
theorem d_law12_yes (G : Good ns h la) (sa : sortA la = la) (q : E.rt (.bl true) N) : w_law12 C s E [x0, .v (.sta s), x2, x3, x4, .v (.str (strW ns h la)), x6, .v (.lst [.dk (keyI ns h), .lst (la.map arrD)]), .v (wir ns h la), x9, x10] N := by
  have few := G.few
  have q1 : f_Wiring_read C [.sta C, .str (strW ns h la)] (fun x => f_Wiring [.dk (keyI ns h), .lst (la.map arrD)] (fun y => dEqO 0 f_Wiring___eq__ x y fun z => E.rt z N) (fun _ _ => False)) (fun _ _ => False) :=
    d_read_good G sa (mk_ok G.t (.refl _) G.n0 G.hi G.nd (by omega) ⟨⟨rfl, rfl⟩, true, d_eq (fun _ _ => rfl) rfl rfl, q⟩)
  unfold w_law12
  dsimp only [dRet, dOp, dCMeth0, dC, dCons, dNil, dVar, dCall0]
  exact ⟨rfl, rfl, q1⟩
--E--
end
end K11

set_option Elab.async false
set_option linter.all false
set_option maxRecDepth 100000
set_option maxHeartbeats 1000000
namespace K11
open PySem PySem.Spec PyProof.Rows L2 Rl Dr _root_.Tx Ex Er So Wi Vw Dl
section
variable {s C : Addr} {N : Nat} {E : DEnds} {ns ks : List Str} {h : Str → Int} {l : List Arr} {z : Str} {R : D → Prop} {Ex : Nat → D → Prop}
--B--
/-! ### the law -/
def r12 (C s : Addr) : DS := w_law12 C s
def r11 (C s : Addr) : DS := dSeqS (w_law11 C s) (r12 C s)
def r10 (C s : Addr) : DS := dSeqS (w_law10 C s) (r11 C s)
def r9 (C s : Addr) : DS := dSeqS (w_law9 C s) (r10 C s)
def r8 (C s : Addr) : DS := dSeqS (w_law8 C s) (r9 C s)
def r7 (C s : Addr) : DS := dSeqS (w_law7 C s) (r8 C s)
def r6 (C s : Addr) : DS := dSeqS (w_law6 C s) (r7 C s)
def r5 (C s : Addr) : DS := dSeqS (w_law5 C s) (r6 C s)
def r4 (C s : Addr) : DS := dSeqS (w_law4 C s) (r5 C s)
def r3 (C s : Addr) : DS := dSeqS (w_law3 C s) (r4 C s)
def r2 (C s : Addr) : DS := dSeqS (w_law2 C s) (r3 C s)
def r1 (C s : Addr) : DS := dSeqS (w_law1 C s) (r2 C s)
theorem at_r {a b : DS} {E : DEnds} {δ : List Sl} {N : Nat} (k : a ⟨b E, E.rt, E.bk, E.ct, E.ex⟩ δ N) : dSeqS a b E δ N := k
abbrev nxE (b : DS) (E : DEnds) : DEnds := ⟨b E, E.rt, E.bk, E.ct, E.ex⟩
variable {x2 x3 x4 x6 : Sl} {la : List Arr} {z : Str}
theorem s12 (G : Good ns h la) (sa : sortA la = la) (hE : ∀ M, E.rt (.bl true) M) (x10 : Sl) : r12 C s E [.no, .v (.sta s), x2, x3, x4, .v (.str (strW ns h la)), x6, .v (.lst [.dk (keyI ns h), .lst (la.map arrD)]), .v (wir ns h la), .no, x10] N := d_law12_yes (C := C) G sa (hE _)
theorem s11 (G : Good ns h la) (sa : sortA la = la) (hE : ∀ M, E.rt (.bl true) M) : r11 C s E [.no, .v (.sta s), x2, x3, x4, .v (.str (strW ns h la)), x6, .v (.lst [.dk (keyI ns h), .lst (la.map arrD)]), .v (wir ns h la), .no, .no] N := at_r (d_law11_yes (C := C) (E := nxE (r12 C s) E) G (fun d q => by cases q) fun x10 => s12 G sa hE x10)
theorem s10 (G : Good ns h la) (sa : sortA la = la) (hE : ∀ M, E.rt (.bl true) M) : r10 C s E [.no, .v (.sta s), x2, x3, x4, .v (.str (strW ns h la)), x6, .v (.lst [.dk (keyI ns h), .lst (la.map arrD)]), .v (wir ns h la), .no, .no] N := at_r (d_law10_yes (C := C) (E := nxE (r11 C s) E) G sa (s11 G sa hE))
theorem s9y (G : Good ns h la) (sa : sortA la = la) (hE : ∀ M, E.rt (.bl true) M) : r9 C s E [.no, .v (.sta s), x2, x3, x4, .v (.str (strW ns h la)), x6, .v (.lst [.dk (keyI ns h), .lst (la.map arrD)]), .no, .no, .no] N := at_r (d_law9_yes (C := C) (E := nxE (r10 C s) E) G sa (s10 G sa hE))
theorem s8y (G : Good ns h la) (sa : sortA la = la) (hE : ∀ M, E.rt (.bl true) M) : r8 C s E [.no, .v (.sta s), x2, x3, x4, .v (.str (strW ns h la)), x6, .no, .no, .no, .no] N := at_r (d_law8_yes (C := C) (E := nxE (r9 C s) E) G sa (s9y G sa hE))
theorem s9n (hz : z.length ≤ 8000) (no : NoW z) (hE : ∀ M, E.rt (.bl true) M) : r9 C s E [.no, .v (.sta s), x2, x3, x4, .v (.str z), x6, .v (.lst []), .no, .no, .no] N := at_r (d_law9_no (C := C) (E := nxE (r10 C s) E) hz no hE)
theorem s8n (hz : z.length ≤ 8000) (no : NoW z) (hE : ∀ M, E.rt (.bl true) M) : r8 C s E [.no, .v (.sta s), x2, x3, x4, .v (.str z), x6, .no, .no, .no, .no] N := at_r (d_law8_no (C := C) (E := nxE (r9 C s) E) hz no (s9n hz no hE))
theorem s8 (hz : z.length ≤ 8000) (hE : ∀ M, E.rt (.bl true) M) : r8 C s E [.no, .v (.sta s), x2, x3, x4, .v (.str z), x6, .no, .no, .no, .no] N := by
  by_cases c : NoW z
  · exact s8n hz c hE
  · obtain ⟨ns, h, la, G, sa, rfl⟩ : ∃ ns h la, Good ns h la ∧ sortA la = la ∧ z = strW ns h la := by
      apply Classical.byContradiction
      intro no
      refine c fun ns h l G e => no ?_
      obtain ⟨G2, e2⟩ := G.sort
      exact ⟨ns, h, sortA l, G2, e2, e⟩
    exact s8y G sa hE
theorem s7 (hN : N < 800000) (hz : z.length ≤ 7000) (hE : ∀ M, E.rt (.bl true) M) : r7 C s E [.no, .v (.sta s), x2, x3, x4, .v (.str z), x6, .no, .no, .no, .no] N := at_r (d_law7 (C := C) (E := nxE (r8 C s) E) hN hz fun y M hy => s8 hy hE)
theorem s6 (hN : N < 700000) (hz : z.length ≤ 800) (h6 : notO x6) (hE : ∀ M, E.rt (.bl true) M) : r6 C s E [.no, .v (.sta s), x2, x3, x4, .v (.str z), x6, .no, .no, .no, .no] N := at_r (d_law6 (C := C) (E := nxE (r7 C s) E) hN h6 hz fun y x6 M hy hM => s7 (by omega) hy hE)
theorem strW_le (G : Good ns h l) : (strW ns h (sortA l)).length ≤ 800 := by
  obtain ⟨G2, _⟩ := G.sort
  exact strW_len (wirOk_of G2.t G2.hi (by have := G2.few; omega)) G2.few
theorem s5 (hN : N < 700000) (G : Good ns h l) (pk : ns.Perm ks) (hE : ∀ M, E.rt (.bl true) M) : r5 C s E [.no, .v (.sta s), x2, .v (.dk (keyI ks h)), .v (.lst (l.map arrD)), .v (.str (strW ns h (sortA l))), .no, .no, .no, .no, .no] N := at_r (d_law5 (C := C) (E := nxE (r6 C s) E) G pk (s6 hN (strW_le G) (fun d q => by cases q) hE))
theorem s4 (hN : N < 700000) (G : Good ns h l) (pk : ns.Perm ks) (hE : ∀ M, E.rt (.bl true) M) : r4 C s E [.no, .v (.sta s), x2, .v (.dk (keyI ks h)), .v (.lst (l.map arrD)), .no, .no, .no, .no, .no, .no] N := at_r (d_law4 (C := C) (E := nxE (r5 C s) E) (wirOk_of G.t G.hi (by have := G.few; omega)) G.t.srt pk (s5 hN G pk hE))
theorem s3 (hN : N < 600000) (t : TopsOk ns h) (n1 : 1 ≤ ns.length) (pk : ns.Perm ks) (hE : ∀ M, E.rt (.bl true) M) : r3 C s E [.no, .v (.sta s), .v (.lst (ns.map D.str)), .v (.dk (keyI ks h)), .no, .no, .no, .no, .no, .no, .no] N := at_r (d_law3 (C := C) (E := nxE (r4 C s) E) (by omega) t.nd t.few fun l M A hM => s4 (by omega) ⟨t, fun e => by rw [e] at n1; simp at n1, A.hi, A.nd, A.few⟩ pk hE)
theorem s2 (hN : N < 500000) (nm : NmsOk ns) (srt : sortedS ns = true) (n1 : 1 ≤ ns.length) (n6 : ns.length ≤ 6) (hE : ∀ M, E.rt (.bl true) M) : r2 C s E [.no, .v (.sta s), .v (.lst (ns.map D.str)), .no, .no, .no, .no, .no, .no, .no, .no] N := at_r (d_law2 (C := C) (E := nxE (r3 C s) E) (by omega) nm srt n6 fun ks h M t pk hM => s3 (by omega) t n1 pk hE)
theorem d_all (hE : ∀ M, E.rt (.bl true) M) : r1 C s E [.no, .v (.sta s), .no, .no, .no, .no, .no, .no, .no, .no, .no] 0 := at_r (d_law1 (C := C) (E := nxE (r2 C s) E) (by omega) fun ns M nm srt n1 n6 hM => s2 (by omega) nm srt n1 n6 hE)
end
section
variable {P : Program} {w : World} {K : PySem.W.Frag} {mg : Str → Option Value} {base : Heap}
def spLaw (K : PySem.W.Frag) : Sp := fun vs H Q _ => ∃ (a : Addr) (ns : List Int), vs = [.ref a] ∧ SqL K H a (ns.map V.int) ∧ ns.length ≤ 63 ∧ ∀ H', Q (.bl true) H'
theorem ok_law {f : Addr} {fd : FuncData} (F : Fun K "law" "law" s_law f fd) (T : Tx K mg) (DT : KdE K P w mg "TOPS_BY_TEXT" TBT) : FnOk P w K mg base CX0 12 f fd ["_law_script"] (spLaw K) := by
  refine F.ok sc_law (fun vs H Q E h => ?_) (fun cdv A outer s0 H vs Q E hr h => ?_)
  · obtain ⟨a, ns, rfl, _⟩ := h
    rfl
  · obtain ⟨a0, ns0, rfl, hq, n63, k⟩ := h
    obtain ⟨t0, t1, t2, t3, t4, t5, t6, t7, t8, t9, t10, t11, t12, PT, c0, c1, c2, c3, c4, c5, c6, c7, c8, c9, c10, c11, c12⟩ := law_term (P := P) (w := w) (base := base) T DT cdv A outer s0 H E hr
    refine ⟨_, PT, ?_⟩
    refine c0 _ _ _ ⟨a0, ns0, rfl, hq, n63, fun sa H1 s1 na D1 nv1 => ?_⟩
    have S1 : SI ⟨K, cnT T, some sa, fun _ _ _ _ => False⟩ (fun _ => none) 0 H1 [some (.ref a0), some (.ref sa), none, none, none, none, none, none, none, none, none]
        [.no, .v (.sta sa), .no, .no, .no, .no, .no, .no, .no, .no, .no] := by
      refine si_plain rfl (fun i d e => ?_) D1 (fun _ _ z => by cases z) (fun i d e => ?_)
      · match i, e with
        | 0, e => cases e
        | 1, e => cases e
        | n + 2, e =>
          have e' : (List.replicate 9 Sl.no)[n]? = some _ := e
          have := List.mem_of_getElem? e'
          simp at this
      · match i, e with
        | 0, e => cases e
        | 1, e =>
          cases e
          exact ⟨_, rfl, .sta sa⟩
        | n + 2, e =>
          have e' : (List.replicate 9 Sl.no)[n]? = some _ := e
          have := List.mem_of_getElem? e'
          simp at this
    have cAll : SS ⟨K, cnT T, some sa, fun _ _ _ _ => False⟩ _ (r1 T.k_Wiring.C sa) := (ss_seq (c1 sa) (ss_seq (c2 sa) (ss_seq (c3 sa) (ss_seq (c4 sa) (ss_seq (c5 sa) (ss_seq (c6 sa) (ss_seq (c7 sa) (ss_seq (c8 sa) (ss_seq (c9 sa) (ss_seq (c10 sa) (ss_seq (c11 sa) (c12 sa))))))))))))
    refine cAll _ _ _ H1 _ 0 ⟨fun _ _ => False, fun x _ => x = .bl true, fun _ _ => False, fun _ _ => False, fun _ _ _ _ => False⟩ S1 (d_all fun _ => rfl) ⟨fun _ _ _ _ _ z => z.elim, fun v H' x N' _ _ r e => ?_, fun _ _ _ _ _ z => z.elim, fun _ _ _ _ _ z => z.elim, fun _ _ _ _ _ _ _ _ _ _ _ _ _ z => z.elim⟩
    subst e
    cases r
    exact k H'
--E--
end
end K11

set_option Elab.async false
set_option linter.all false
set_option maxRecDepth 100000
set_option maxHeartbeats 4000000
namespace K11
open PySem PySem.Spec PyProof.Rows L2 Rl Dr _root_.Tx Ex Er So Wi Vw Dl
section
variable {P : Program} {w : World} {K : PySem.W.Frag} {mg : Str → Option Value} {base : Heap}
--B--
def kde_TOPS_BY_TEXT {d : Addr} {es : Array DictEntry} {n : Nat} {h1 h2 h3 : Int} {t1 u1 t2 u2 t3 u3 : Tok} (g : mg "TOPS_BY_TEXT" = some (.ref d)) (at_ : K.lookup d = some { cls := .type "dict", data := .dict es n }) (e : es.toList = [⟨h1, .str "1" t1, .int 1 u1⟩, ⟨h2, .str "2" t2, .int 2 u2⟩, ⟨h3, .str "3" t3, .int 3 u3⟩])
    (k1 : h1 = PyData.keyHash w.params "1") (k2 : h2 = PyData.keyHash w.params "2") (k3 : h3 = PyData.keyHash w.params "3") (low : (d == sysModules) = false) : KdE K P w mg "TOPS_BY_TEXT" TBT where
  d := d
  g := g
  es := es
  n := n
  at_ := at_
  lit := by
    rw [e]
    exact ⟨⟨_, _, rfl, k1⟩, ⟨_, _, rfl, k2⟩, ⟨_, _, rfl, k3⟩, trivial⟩
  low := low
  has := fun z => by
    refine ⟨_, rfl, ?_⟩
    unfold findBy
    rw [← Array.find?_toList, e]
    unfold kvF TBT
    by_cases c1 : z = "1"
    · subst c1
      exact ⟨_, rfl⟩
    · by_cases c2 : z = "2"
      · subst c2
        exact ⟨_, rfl⟩
      · by_cases c3 : z = "3"
        · subst c3
          exact ⟨_, rfl⟩
        · have q : ∀ y : Str, z ≠ y → (y == z) = false := fun y hy => beq_eq_false_iff_ne.mpr fun e => hy e.symm
          have q2 : ∀ y : Str, z ≠ y → (z == y) = false := fun y hy => beq_eq_false_iff_ne.mpr hy
          simp only [List.find?_cons, List.find?_nil, Value.isStrOf, List.lookup_cons, List.lookup_nil, q _ c1, q _ c2, q _ c3, q2 _ c1, q2 _ c2, q2 _ c3]
          exact rfl
--E--
end
theorem all_mk {l : PySem.W.OpenLaw} {w : World} {K : PySem.W.Frag} {h : Heap} {mg : Str → Option Value} {fa f0 f1 f2 f3 f4 f5 f6 f7 f8 f9 f10 f11 f12 f13 f14 f15 f16 f17 f18 f19 f20 f21 A_SIGNS R Ce0 fe0 Ce1 fe1 Ce2 fe2 Ce3 fe3 Ce4 fe4 Ce5 fe5 C_Wiring f_Wiring___init__ f_Wiring_read p_Wiring_read f_Wiring_parts p_Wiring_parts f_Wiring_arrows p_Wiring_arrows f_Wiring_top f_Wiring___eq__ f_Wiring___str__ f_Wiring__check_part D_TOPS_BY_TEXT : Addr} (X : K.In h) (G : h.Ns mainGlobals mg) (hfa : mg "law" = some (.ref fa))
    {od0 an0 od1 an1 od2 an2 od3 an3 od4 an4 od5 an5 od6 an6 od7 an7 od8 an8 od9 an9 od10 an10 od11 an11 od12 an12 od13 an13 od14 an14 od15 an15 od16 an16 od17 an17 od18 an18 od19 an19 od20 an20 od21 an21 : Option Addr} {sl0 sl1 sl2 sl3 sl4 sl5 sl6 sl7 sl8 sl9 sl10 sl11 sl12 sl13 sl14 sl15 sl16 sl17 sl18 sl19 sl20 sl21 : Array (Option Value)} {oc0 kV0 dc0 pm0 cd0 ct0 oc1 kV1 dc1 pm1 cd1 ct1 oc2 kV2 dc2 pm2 cd2 ct2 oc3 kV3 dc3 pm3 cd3 ct3 oc4 kV4 dc4 pm4 cd4 ct4 oc5 kV5 dc5 pm5 cd5 ct5 oc6 kV6 dc6 pm6 cd6 ct6 oc7 kV7 dc7 pm7 cd7 ct7 oc8 kV8 dc8 pm8 cd8 ct8 oc9 kV9 dc9 pm9 cd9 ct9 oc10 kV10 dc10 pm10 cd10 ct10 oc11 kV11 dc11 pm11 cd11 ct11 oc12 kV12 dc12 pm12 cd12 ct12 oc13 kV13 dc13 pm13 cd13 ct13 oc14 kV14 dc14 pm14 cd14 ct14 oc15 kV15 dc15 pm15 cd15 ct15 oc16 kV16 dc16 pm16 cd16 ct16 oc17 kV17 dc17 pm17 cd17 ct17 oc18 kV18 dc18 pm18 cd18 ct18 oc19 kV19 dc19 pm19 cd19 ct19 oc20 kV20 dc20 pm20 cd20 ct20 oc21 kV21 dc21 pm21 cd21 ct21 w_LETTERS w_DIGITS w_LONGEST w_MOST_PARTS w_MOST_STATES w_LEAST_TOP w_GREATEST_TOP : Value}
    {nmR qR : Str} {NR : Addr} {bsR bmR : List Value} {hdR abR : Bool} {snR : List Str} {suR : List Value} {coR : Option Bool} {ddR : Option Addr} {k0R k1R k2R k3R k5R : Option Value} {niR : String}
    {nme0 qe0 : Str} {Ne0 : Addr} {bse0 : List Value} {abe0 : Bool} {sne0 : List Str} {sue0 : List Value} {coe0 : Option Bool} {dde0 : Option Addr} {k0e0 k1e0 k2e0 k3e0 k5e0 : Option Value}
    {ode0 ane0 : Option Addr} {sle0 : Array (Option Value)} {oce0 kVe0 dce0 pme0 cde0 cte0 : Value}
    {nme1 qe1 : Str} {Ne1 : Addr} {bse1 : List Value} {abe1 : Bool} {sne1 : List Str} {sue1 : List Value} {coe1 : Option Bool} {dde1 : Option Addr} {k0e1 k1e1 k2e1 k3e1 k5e1 : Option Value}
    {ode1 ane1 : Option Addr} {sle1 : Array (Option Value)} {oce1 kVe1 dce1 pme1 cde1 cte1 : Value}
    {nme2 qe2 : Str} {Ne2 : Addr} {bse2 : List Value} {abe2 : Bool} {sne2 : List Str} {sue2 : List Value} {coe2 : Option Bool} {dde2 : Option Addr} {k0e2 k1e2 k2e2 k3e2 k5e2 : Option Value}
    {ode2 ane2 : Option Addr} {sle2 : Array (Option Value)} {oce2 kVe2 dce2 pme2 cde2 cte2 : Value}
    {nme3 qe3 : Str} {Ne3 : Addr} {bse3 : List Value} {abe3 : Bool} {sne3 : List Str} {sue3 : List Value} {coe3 : Option Bool} {dde3 : Option Addr} {k0e3 k1e3 k2e3 k3e3 k5e3 : Option Value}
    {ode3 ane3 : Option Addr} {sle3 : Array (Option Value)} {oce3 kVe3 dce3 pme3 cde3 cte3 : Value}
    {nme4 qe4 : Str} {Ne4 : Addr} {bse4 : List Value} {abe4 : Bool} {sne4 : List Str} {sue4 : List Value} {coe4 : Option Bool} {dde4 : Option Addr} {k0e4 k1e4 k2e4 k3e4 k5e4 : Option Value}
    {ode4 ane4 : Option Addr} {sle4 : Array (Option Value)} {oce4 kVe4 dce4 pme4 cde4 cte4 : Value}
    {nme5 qe5 : Str} {Ne5 : Addr} {bse5 : List Value} {abe5 : Bool} {sne5 : List Str} {sue5 : List Value} {coe5 : Option Bool} {dde5 : Option Addr} {k0e5 k1e5 k2e5 k3e5 k5e5 : Option Value}
    {ode5 ane5 : Option Addr} {sle5 : Array (Option Value)} {oce5 kVe5 dce5 pme5 cde5 cte5 : Value}
    {es_TOPS_BY_TEXT : Array DictEntry} {n_TOPS_BY_TEXT : Nat} {h0_TOPS_BY_TEXT h1_TOPS_BY_TEXT h2_TOPS_BY_TEXT : Int} {t0_TOPS_BY_TEXT u0_TOPS_BY_TEXT t1_TOPS_BY_TEXT u1_TOPS_BY_TEXT t2_TOPS_BY_TEXT u2_TOPS_BY_TEXT : Tok}
    {dd_SIGNS : Option Addr} {its_SIGNS : Array Value} {n_SIGNS : Nat} {sl_SIGNS : Array (Option Value)}
    {od_Wiring___init__ an_Wiring___init__ : Option Addr} {sl_Wiring___init__ : Array (Option Value)} {oc_Wiring___init__ kV_Wiring___init__ dc_Wiring___init__ pm_Wiring___init__ cd_Wiring___init__ ct_Wiring___init__ : Value}
    {od_Wiring_read an_Wiring_read : Option Addr} {sl_Wiring_read : Array (Option Value)} {oc_Wiring_read kV_Wiring_read dc_Wiring_read pm_Wiring_read cd_Wiring_read ct_Wiring_read : Value} {rs_Wiring_read : List Value}
    {od_Wiring_parts an_Wiring_parts : Option Addr} {sl_Wiring_parts : Array (Option Value)} {oc_Wiring_parts kV_Wiring_parts dc_Wiring_parts pm_Wiring_parts cd_Wiring_parts ct_Wiring_parts : Value} {rs_Wiring_parts : List Value}
    {od_Wiring_arrows an_Wiring_arrows : Option Addr} {sl_Wiring_arrows : Array (Option Value)} {oc_Wiring_arrows kV_Wiring_arrows dc_Wiring_arrows pm_Wiring_arrows cd_Wiring_arrows ct_Wiring_arrows : Value} {rs_Wiring_arrows : List Value}
    {od_Wiring_top an_Wiring_top : Option Addr} {sl_Wiring_top : Array (Option Value)} {oc_Wiring_top kV_Wiring_top dc_Wiring_top pm_Wiring_top cd_Wiring_top ct_Wiring_top : Value}
    {od_Wiring___eq__ an_Wiring___eq__ : Option Addr} {sl_Wiring___eq__ : Array (Option Value)} {oc_Wiring___eq__ kV_Wiring___eq__ dc_Wiring___eq__ pm_Wiring___eq__ cd_Wiring___eq__ ct_Wiring___eq__ : Value}
    {od_Wiring___str__ an_Wiring___str__ : Option Addr} {sl_Wiring___str__ : Array (Option Value)} {oc_Wiring___str__ kV_Wiring___str__ dc_Wiring___str__ pm_Wiring___str__ cd_Wiring___str__ ct_Wiring___str__ : Value}
    {od_Wiring__check_part an_Wiring__check_part : Option Addr} {sl_Wiring__check_part : Array (Option Value)} {oc_Wiring__check_part kV_Wiring__check_part dc_Wiring__check_part pm_Wiring__check_part cd_Wiring__check_part ct_Wiring__check_part : Value}
    (a0 : PySem.W.nsIn K mainGlobals "valid_name" = some (some (.ref f0))) (l0 : K.lookup f0 = some ⟨oc0, od0, .func (PySem.W.fnOf "valid_name" "valid_name" (defArgs s_valid_name) (defBody s_valid_name) (defScope s_valid_name) .none kV0 dc0 pm0 an0 cd0 ct0), sl0⟩) (c0 : PySem.W.codeIn K cd0 "valid_name" = true) (k0 : PySem.W.keepIn K (.ref f0) = true)
    (a1 : PySem.W.nsIn K mainGlobals "_stands_in_name" = some (some (.ref f1))) (l1 : K.lookup f1 = some ⟨oc1, od1, .func (PySem.W.fnOf "_stands_in_name" "_stands_in_name" (defArgs s_stands_in_name) (defBody s_stands_in_name) (defScope s_stands_in_name) .none kV1 dc1 pm1 an1 cd1 ct1), sl1⟩) (c1 : PySem.W.codeIn K cd1 "_stands_in_name" = true) (k1 : PySem.W.keepIn K (.ref f1) = true)
    (a2 : PySem.W.nsIn K mainGlobals "is_whole" = some (some (.ref f2))) (l2 : K.lookup f2 = some ⟨oc2, od2, .func (PySem.W.fnOf "is_whole" "is_whole" (defArgs s_is_whole) (defBody s_is_whole) (defScope s_is_whole) .none kV2 dc2 pm2 an2 cd2 ct2), sl2⟩) (c2 : PySem.W.codeIn K cd2 "is_whole" = true) (k2 : PySem.W.keepIn K (.ref f2) = true)
    (a3 : PySem.W.nsIn K mainGlobals "_check_tops" = some (some (.ref f3))) (l3 : K.lookup f3 = some ⟨oc3, od3, .func (PySem.W.fnOf "_check_tops" "_check_tops" (defArgs s_check_tops) (defBody s_check_tops) (defScope s_check_tops) .none kV3 dc3 pm3 an3 cd3 ct3), sl3⟩) (c3 : PySem.W.codeIn K cd3 "_check_tops" = true) (k3 : PySem.W.keepIn K (.ref f3) = true)
    (a4 : PySem.W.nsIn K mainGlobals "_count_states" = some (some (.ref f4))) (l4 : K.lookup f4 = some ⟨oc4, od4, .func (PySem.W.fnOf "_count_states" "_count_states" (defArgs s_count_states) (defBody s_count_states) (defScope s_count_states) .none kV4 dc4 pm4 an4 cd4 ct4), sl4⟩) (c4 : PySem.W.codeIn K cd4 "_count_states" = true) (k4 : PySem.W.keepIn K (.ref f4) = true)
    (a5 : PySem.W.nsIn K mainGlobals "_checked_signs" = some (some (.ref f5))) (l5 : K.lookup f5 = some ⟨oc5, od5, .func (PySem.W.fnOf "_checked_signs" "_checked_signs" (defArgs s_checked_signs) (defBody s_checked_signs) (defScope s_checked_signs) .none kV5 dc5 pm5 an5 cd5 ct5), sl5⟩) (c5 : PySem.W.codeIn K cd5 "_checked_signs" = true) (k5 : PySem.W.keepIn K (.ref f5) = true)
    (a6 : PySem.W.nsIn K mainGlobals "is_arrow" = some (some (.ref f6))) (l6 : K.lookup f6 = some ⟨oc6, od6, .func (PySem.W.fnOf "is_arrow" "is_arrow" (defArgs s_is_arrow) (defBody s_is_arrow) (defScope s_is_arrow) .none kV6 dc6 pm6 an6 cd6 ct6), sl6⟩) (c6 : PySem.W.codeIn K cd6 "is_arrow" = true) (k6 : PySem.W.keepIn K (.ref f6) = true)
    (a7 : PySem.W.nsIn K mainGlobals "_read_tops" = some (some (.ref f7))) (l7 : K.lookup f7 = some ⟨oc7, od7, .func (PySem.W.fnOf "_read_tops" "_read_tops" (defArgs s_read_tops) (defBody s_read_tops) (defScope s_read_tops) .none kV7 dc7 pm7 an7 cd7 ct7), sl7⟩) (c7 : PySem.W.codeIn K cd7 "_read_tops" = true) (k7 : PySem.W.keepIn K (.ref f7) = true)
    (a8 : PySem.W.nsIn K mainGlobals "_read_arrow" = some (some (.ref f8))) (l8 : K.lookup f8 = some ⟨oc8, od8, .func (PySem.W.fnOf "_read_arrow" "_read_arrow" (defArgs s_read_arrow) (defBody s_read_arrow) (defScope s_read_arrow) .none kV8 dc8 pm8 an8 cd8 ct8), sl8⟩) (c8 : PySem.W.codeIn K cd8 "_read_arrow" = true) (k8 : PySem.W.keepIn K (.ref f8) = true)
    (a9 : PySem.W.nsIn K mainGlobals "_law_start" = some (some (.ref f9))) (l9 : K.lookup f9 = some ⟨oc9, od9, .func (PySem.W.fnOf "_law_start" "_law_start" (defArgs s_l_start) (defBody s_l_start) (defScope s_l_start) .none kV9 dc9 pm9 an9 cd9 ct9), sl9⟩) (c9 : PySem.W.codeIn K cd9 "_law_start" = true) (k9 : PySem.W.keepIn K (.ref f9) = true)
    (a10 : PySem.W.nsIn K mainGlobals "_law_draw" = some (some (.ref f10))) (l10 : K.lookup f10 = some ⟨oc10, od10, .func (PySem.W.fnOf "_law_draw" "_law_draw" (defArgs s_l_draw) (defBody s_l_draw) (defScope s_l_draw) .none kV10 dc10 pm10 an10 cd10 ct10), sl10⟩) (c10 : PySem.W.codeIn K cd10 "_law_draw" = true) (k10 : PySem.W.keepIn K (.ref f10) = true)
    (a11 : PySem.W.nsIn K mainGlobals "_law_order" = some (some (.ref f11))) (l11 : K.lookup f11 = some ⟨oc11, od11, .func (PySem.W.fnOf "_law_order" "_law_order" (defArgs s_l_order) (defBody s_l_order) (defScope s_l_order) .none kV11 dc11 pm11 an11 cd11 ct11), sl11⟩) (c11 : PySem.W.codeIn K cd11 "_law_order" = true) (k11 : PySem.W.keepIn K (.ref f11) = true)
    (a12 : PySem.W.nsIn K mainGlobals "_law_names" = some (some (.ref f12))) (l12 : K.lookup f12 = some ⟨oc12, od12, .func (PySem.W.fnOf "_law_names" "_law_names" (defArgs s_l_names) (defBody s_l_names) (defScope s_l_names) .none kV12 dc12 pm12 an12 cd12 ct12), sl12⟩) (c12 : PySem.W.codeIn K cd12 "_law_names" = true) (k12 : PySem.W.keepIn K (.ref f12) = true)
    (a13 : PySem.W.nsIn K mainGlobals "_law_good" = some (some (.ref f13))) (l13 : K.lookup f13 = some ⟨oc13, od13, .func (PySem.W.fnOf "_law_good" "_law_good" (defArgs s_l_good) (defBody s_l_good) (defScope s_l_good) .none kV13 dc13 pm13 an13 cd13 ct13), sl13⟩) (c13 : PySem.W.codeIn K cd13 "_law_good" = true) (k13 : PySem.W.keepIn K (.ref f13) = true)
    (a14 : PySem.W.nsIn K mainGlobals "_law_signs" = some (some (.ref f14))) (l14 : K.lookup f14 = some ⟨oc14, od14, .func (PySem.W.fnOf "_law_signs" "_law_signs" (defArgs s_l_signs) (defBody s_l_signs) (defScope s_l_signs) .none kV14 dc14 pm14 an14 cd14 ct14), sl14⟩) (c14 : PySem.W.codeIn K cd14 "_law_signs" = true) (k14 : PySem.W.keepIn K (.ref f14) = true)
    (a15 : PySem.W.nsIn K mainGlobals "_law_tops" = some (some (.ref f15))) (l15 : K.lookup f15 = some ⟨oc15, od15, .func (PySem.W.fnOf "_law_tops" "_law_tops" (defArgs s_l_tops) (defBody s_l_tops) (defScope s_l_tops) .none kV15 dc15 pm15 an15 cd15 ct15), sl15⟩) (c15 : PySem.W.codeIn K cd15 "_law_tops" = true) (k15 : PySem.W.keepIn K (.ref f15) = true)
    (a16 : PySem.W.nsIn K mainGlobals "_law_arrows" = some (some (.ref f16))) (l16 : K.lookup f16 = some ⟨oc16, od16, .func (PySem.W.fnOf "_law_arrows" "_law_arrows" (defArgs s_l_arrows) (defBody s_l_arrows) (defScope s_l_arrows) .none kV16 dc16 pm16 an16 cd16 ct16), sl16⟩) (c16 : PySem.W.codeIn K cd16 "_law_arrows" = true) (k16 : PySem.W.keepIn K (.ref f16) = true)
    (a17 : PySem.W.nsIn K mainGlobals "_law_text" = some (some (.ref f17))) (l17 : K.lookup f17 = some ⟨oc17, od17, .func (PySem.W.fnOf "_law_text" "_law_text" (defArgs s_l_text) (defBody s_l_text) (defScope s_l_text) .none kV17 dc17 pm17 an17 cd17 ct17), sl17⟩) (c17 : PySem.W.codeIn K cd17 "_law_text" = true) (k17 : PySem.W.keepIn K (.ref f17) = true)
    (a18 : PySem.W.nsIn K mainGlobals "_law_spoiled" = some (some (.ref f18))) (l18 : K.lookup f18 = some ⟨oc18, od18, .func (PySem.W.fnOf "_law_spoiled" "_law_spoiled" (defArgs s_l_spoiled) (defBody s_l_spoiled) (defScope s_l_spoiled) .none kV18 dc18 pm18 an18 cd18 ct18), sl18⟩) (c18 : PySem.W.codeIn K cd18 "_law_spoiled" = true) (k18 : PySem.W.keepIn K (.ref f18) = true)
    (a19 : PySem.W.nsIn K mainGlobals "_law_peaks" = some (some (.ref f19))) (l19 : K.lookup f19 = some ⟨oc19, od19, .func (PySem.W.fnOf "_law_peaks" "_law_peaks" (defArgs s_l_peaks) (defBody s_l_peaks) (defScope s_l_peaks) .none kV19 dc19 pm19 an19 cd19 ct19), sl19⟩) (c19 : PySem.W.codeIn K cd19 "_law_peaks" = true) (k19 : PySem.W.keepIn K (.ref f19) = true)
    (a20 : PySem.W.nsIn K mainGlobals "_law_due" = some (some (.ref f20))) (l20 : K.lookup f20 = some ⟨oc20, od20, .func (PySem.W.fnOf "_law_due" "_law_due" (defArgs s_l_due) (defBody s_l_due) (defScope s_l_due) .none kV20 dc20 pm20 an20 cd20 ct20), sl20⟩) (c20 : PySem.W.codeIn K cd20 "_law_due" = true) (k20 : PySem.W.keepIn K (.ref f20) = true)
    (a21 : PySem.W.nsIn K mainGlobals "law" = some (some (.ref f21))) (l21 : K.lookup f21 = some ⟨oc21, od21, .func (PySem.W.fnOf "law" "law" (defArgs s_law) (defBody s_law) (defScope s_law) .none kV21 dc21 pm21 an21 cd21 ct21), sl21⟩) (c21 : PySem.W.codeIn K cd21 "law" = true) (k21 : PySem.W.keepIn K (.ref f21) = true)
    (z_abs : PySem.W.nsIn K mainGlobals "abs" = some none)
    (z_all : PySem.W.nsIn K mainGlobals "all" = some none)
    (z_bool : PySem.W.nsIn K mainGlobals "bool" = some none)
    (z_dict : PySem.W.nsIn K mainGlobals "dict" = some none)
    (z_int : PySem.W.nsIn K mainGlobals "int" = some none)
    (z_isinstance : PySem.W.nsIn K mainGlobals "isinstance" = some none)
    (z_len : PySem.W.nsIn K mainGlobals "len" = some none)
    (z_list : PySem.W.nsIn K mainGlobals "list" = some none)
    (z_range : PySem.W.nsIn K mainGlobals "range" = some none)
    (z_sorted : PySem.W.nsIn K mainGlobals "sorted" = some none)
    (z_str : PySem.W.nsIn K mainGlobals "str" = some none)
    (z_tuple : PySem.W.nsIn K mainGlobals "tuple" = some none)
    (y_LETTERS : PySem.W.nsIn K mainGlobals "LETTERS" = some (some w_LETTERS)) (x_LETTERS : RelV (.str "abcdefghijklmnopqrstuvwxyz") w_LETTERS)
    (y_DIGITS : PySem.W.nsIn K mainGlobals "DIGITS" = some (some w_DIGITS)) (x_DIGITS : RelV (.str "0123456789") w_DIGITS)
    (y_LONGEST : PySem.W.nsIn K mainGlobals "LONGEST" = some (some w_LONGEST)) (x_LONGEST : RelV (.int 6) w_LONGEST)
    (y_MOST_PARTS : PySem.W.nsIn K mainGlobals "MOST_PARTS" = some (some w_MOST_PARTS)) (x_MOST_PARTS : RelV (.int 6) w_MOST_PARTS)
    (y_MOST_STATES : PySem.W.nsIn K mainGlobals "MOST_STATES" = some (some w_MOST_STATES)) (x_MOST_STATES : RelV (.int 256) w_MOST_STATES)
    (y_LEAST_TOP : PySem.W.nsIn K mainGlobals "LEAST_TOP" = some (some w_LEAST_TOP)) (x_LEAST_TOP : RelV (.int 1) w_LEAST_TOP)
    (y_GREATEST_TOP : PySem.W.nsIn K mainGlobals "GREATEST_TOP" = some (some w_GREATEST_TOP)) (x_GREATEST_TOP : RelV (.int 3) w_GREATEST_TOP)
    (y_SIGNS : PySem.W.nsIn K mainGlobals "SIGNS" = some (some (.ref A_SIGNS))) (lt_SIGNS : K.lookup A_SIGNS = some ⟨.type "tuple", dd_SIGNS, .seq its_SIGNS n_SIGNS, sl_SIGNS⟩) (zz_SIGNS : its_SIGNS.size ≤ sizeLine) (x_SIGNS : Vals [(.str "+"), (.str "-"), (.str "?")] its_SIGNS.toList)
    (aR : PySem.W.nsIn K mainGlobals "RestError" = some (some (.ref R))) (lR : K.lookup R = some (excClassObj nmR qR R NR bsR bmR hdR snR suR abR coR ddR k0R k1R k2R k3R k5R niR)) (tR : PySem.W.typeIn K (.ref R) = some (.type "type"))
    (on : PySem.W.specialIn K (.builtin "object.__class__") "__get__" = some (some (.builtin "getset_descriptor.__get__"))) (ot : PySem.W.takesIn K (.builtin "object.__class__") = some true)
    (ae0 : PySem.W.nsIn K mainGlobals "BadName" = some (some (.ref Ce0))) (le0 : K.lookup Ce0 = some (excClassObj nme0 qe0 Ce0 Ne0 bse0 (.ref R :: PySem.HandSPX.veTail) true sne0 sue0 abe0 coe0 dde0 k0e0 k1e0 k2e0 k3e0 k5e0 "ValueError.__new__")) (ke0 : PySem.W.keepIn K (.ref Ce0) = true) (sae0 : PySem.W.findIn K (.ref Ce0) "__setattr__" = some (some (.builtin "object.__setattr__"))) (gae0 : PySem.W.findIn K (.ref Ce0) "__getattribute__" = some (some (.builtin "BaseException.__getattribute__"))) (gge0 : PySem.W.findIn K (.ref Ce0) "__getattr__" = some none) (exe0 : PySem.W.subIn K (.ref Ce0) (.type "BaseException") = some true) (tye0 : PySem.W.typeIn K (.ref Ce0) = some (.type "type")) (hde0 : PySem.W.hasDictIn K Ce0 = true) (hae0 : PySem.W.findIn K (.ref Ce0) "__class__" = some (some (.builtin "object.__class__"))) (hme0 : PySem.W.mroIn K Ce0 (.type "object") = some true)
    (ie0 : PySem.W.findIn K (.ref Ce0) "__init__" = some (some (.ref fe0))) (tie0 : PySem.W.typeIn K (.ref fe0) = some (.type "function")) (lie0 : K.lookup fe0 = some ⟨oce0, ode0, .func (PySem.W.fnOf "__init__" "BadName.__init__" (defArgs s_BadName___init__) (defBody s_BadName___init__) (defScope s_BadName___init__) .none kVe0 dce0 pme0 ane0 cde0 cte0), sle0⟩) (cie0 : PySem.W.codeIn K cde0 "BadName.__init__" = true) (kie0 : PySem.W.keepIn K (.ref fe0) = true) (noe0 : PySem.W.findIn K (.ref Ce0) "name" = some none)
    (ae1 : PySem.W.nsIn K mainGlobals "UnknownName" = some (some (.ref Ce1))) (le1 : K.lookup Ce1 = some (excClassObj nme1 qe1 Ce1 Ne1 bse1 (.ref R :: PySem.HandSPX.veTail) true sne1 sue1 abe1 coe1 dde1 k0e1 k1e1 k2e1 k3e1 k5e1 "ValueError.__new__")) (ke1 : PySem.W.keepIn K (.ref Ce1) = true) (sae1 : PySem.W.findIn K (.ref Ce1) "__setattr__" = some (some (.builtin "object.__setattr__"))) (gae1 : PySem.W.findIn K (.ref Ce1) "__getattribute__" = some (some (.builtin "BaseException.__getattribute__"))) (gge1 : PySem.W.findIn K (.ref Ce1) "__getattr__" = some none) (exe1 : PySem.W.subIn K (.ref Ce1) (.type "BaseException") = some true) (tye1 : PySem.W.typeIn K (.ref Ce1) = some (.type "type")) (hde1 : PySem.W.hasDictIn K Ce1 = true) (hae1 : PySem.W.findIn K (.ref Ce1) "__class__" = some (some (.builtin "object.__class__"))) (hme1 : PySem.W.mroIn K Ce1 (.type "object") = some true)
    (ie1 : PySem.W.findIn K (.ref Ce1) "__init__" = some (some (.ref fe1))) (tie1 : PySem.W.typeIn K (.ref fe1) = some (.type "function")) (lie1 : K.lookup fe1 = some ⟨oce1, ode1, .func (PySem.W.fnOf "__init__" "UnknownName.__init__" (defArgs s_UnknownName___init__) (defBody s_UnknownName___init__) (defScope s_UnknownName___init__) .none kVe1 dce1 pme1 ane1 cde1 cte1), sle1⟩) (cie1 : PySem.W.codeIn K cde1 "UnknownName.__init__" = true) (kie1 : PySem.W.keepIn K (.ref fe1) = true) (noe1 : PySem.W.findIn K (.ref Ce1) "name" = some none)
    (ae2 : PySem.W.nsIn K mainGlobals "BadCount" = some (some (.ref Ce2))) (le2 : K.lookup Ce2 = some (excClassObj nme2 qe2 Ce2 Ne2 bse2 (.ref R :: PySem.HandSPX.veTail) true sne2 sue2 abe2 coe2 dde2 k0e2 k1e2 k2e2 k3e2 k5e2 "ValueError.__new__")) (ke2 : PySem.W.keepIn K (.ref Ce2) = true) (sae2 : PySem.W.findIn K (.ref Ce2) "__setattr__" = some (some (.builtin "object.__setattr__"))) (gae2 : PySem.W.findIn K (.ref Ce2) "__getattribute__" = some (some (.builtin "BaseException.__getattribute__"))) (gge2 : PySem.W.findIn K (.ref Ce2) "__getattr__" = some none) (exe2 : PySem.W.subIn K (.ref Ce2) (.type "BaseException") = some true) (tye2 : PySem.W.typeIn K (.ref Ce2) = some (.type "type")) (hde2 : PySem.W.hasDictIn K Ce2 = true) (hae2 : PySem.W.findIn K (.ref Ce2) "__class__" = some (some (.builtin "object.__class__"))) (hme2 : PySem.W.mroIn K Ce2 (.type "object") = some true)
    (ie2 : PySem.W.findIn K (.ref Ce2) "__init__" = some (some (.ref fe2))) (tie2 : PySem.W.typeIn K (.ref fe2) = some (.type "function")) (lie2 : K.lookup fe2 = some ⟨oce2, ode2, .func (PySem.W.fnOf "__init__" "BadCount.__init__" (defArgs s_BadCount___init__) (defBody s_BadCount___init__) (defScope s_BadCount___init__) .none kVe2 dce2 pme2 ane2 cde2 cte2), sle2⟩) (cie2 : PySem.W.codeIn K cde2 "BadCount.__init__" = true) (kie2 : PySem.W.keepIn K (.ref fe2) = true) (noe2 : PySem.W.findIn K (.ref Ce2) "count" = some none)
    (ae3 : PySem.W.nsIn K mainGlobals "BadTop" = some (some (.ref Ce3))) (le3 : K.lookup Ce3 = some (excClassObj nme3 qe3 Ce3 Ne3 bse3 (.ref R :: PySem.HandSPX.veTail) true sne3 sue3 abe3 coe3 dde3 k0e3 k1e3 k2e3 k3e3 k5e3 "ValueError.__new__")) (ke3 : PySem.W.keepIn K (.ref Ce3) = true) (sae3 : PySem.W.findIn K (.ref Ce3) "__setattr__" = some (some (.builtin "object.__setattr__"))) (gae3 : PySem.W.findIn K (.ref Ce3) "__getattribute__" = some (some (.builtin "BaseException.__getattribute__"))) (gge3 : PySem.W.findIn K (.ref Ce3) "__getattr__" = some none) (exe3 : PySem.W.subIn K (.ref Ce3) (.type "BaseException") = some true) (tye3 : PySem.W.typeIn K (.ref Ce3) = some (.type "type")) (hde3 : PySem.W.hasDictIn K Ce3 = true) (hae3 : PySem.W.findIn K (.ref Ce3) "__class__" = some (some (.builtin "object.__class__"))) (hme3 : PySem.W.mroIn K Ce3 (.type "object") = some true)
    (ie3 : PySem.W.findIn K (.ref Ce3) "__init__" = some (some (.ref fe3))) (tie3 : PySem.W.typeIn K (.ref fe3) = some (.type "function")) (lie3 : K.lookup fe3 = some ⟨oce3, ode3, .func (PySem.W.fnOf "__init__" "BadTop.__init__" (defArgs s_BadTop___init__) (defBody s_BadTop___init__) (defScope s_BadTop___init__) .none kVe3 dce3 pme3 ane3 cde3 cte3), sle3⟩) (cie3 : PySem.W.codeIn K cde3 "BadTop.__init__" = true) (kie3 : PySem.W.keepIn K (.ref fe3) = true) (noe3 : PySem.W.findIn K (.ref Ce3) "value" = some none)
    (ae4 : PySem.W.nsIn K mainGlobals "BadArrow" = some (some (.ref Ce4))) (le4 : K.lookup Ce4 = some (excClassObj nme4 qe4 Ce4 Ne4 bse4 (.ref R :: PySem.HandSPX.veTail) true sne4 sue4 abe4 coe4 dde4 k0e4 k1e4 k2e4 k3e4 k5e4 "ValueError.__new__")) (ke4 : PySem.W.keepIn K (.ref Ce4) = true) (sae4 : PySem.W.findIn K (.ref Ce4) "__setattr__" = some (some (.builtin "object.__setattr__"))) (gae4 : PySem.W.findIn K (.ref Ce4) "__getattribute__" = some (some (.builtin "BaseException.__getattribute__"))) (gge4 : PySem.W.findIn K (.ref Ce4) "__getattr__" = some none) (exe4 : PySem.W.subIn K (.ref Ce4) (.type "BaseException") = some true) (tye4 : PySem.W.typeIn K (.ref Ce4) = some (.type "type")) (hde4 : PySem.W.hasDictIn K Ce4 = true) (hae4 : PySem.W.findIn K (.ref Ce4) "__class__" = some (some (.builtin "object.__class__"))) (hme4 : PySem.W.mroIn K Ce4 (.type "object") = some true)
    (ie4 : PySem.W.findIn K (.ref Ce4) "__init__" = some (some (.ref fe4))) (tie4 : PySem.W.typeIn K (.ref fe4) = some (.type "function")) (lie4 : K.lookup fe4 = some ⟨oce4, ode4, .func (PySem.W.fnOf "__init__" "BadArrow.__init__" (defArgs s_BadArrow___init__) (defBody s_BadArrow___init__) (defScope s_BadArrow___init__) .none kVe4 dce4 pme4 ane4 cde4 cte4), sle4⟩) (cie4 : PySem.W.codeIn K cde4 "BadArrow.__init__" = true) (kie4 : PySem.W.keepIn K (.ref fe4) = true) (noe4 : PySem.W.findIn K (.ref Ce4) "value" = some none)
    (ae5 : PySem.W.nsIn K mainGlobals "BadText" = some (some (.ref Ce5))) (le5 : K.lookup Ce5 = some (excClassObj nme5 qe5 Ce5 Ne5 bse5 (.ref R :: PySem.HandSPX.veTail) true sne5 sue5 abe5 coe5 dde5 k0e5 k1e5 k2e5 k3e5 k5e5 "ValueError.__new__")) (ke5 : PySem.W.keepIn K (.ref Ce5) = true) (sae5 : PySem.W.findIn K (.ref Ce5) "__setattr__" = some (some (.builtin "object.__setattr__"))) (gae5 : PySem.W.findIn K (.ref Ce5) "__getattribute__" = some (some (.builtin "BaseException.__getattribute__"))) (gge5 : PySem.W.findIn K (.ref Ce5) "__getattr__" = some none) (exe5 : PySem.W.subIn K (.ref Ce5) (.type "BaseException") = some true) (tye5 : PySem.W.typeIn K (.ref Ce5) = some (.type "type")) (hde5 : PySem.W.hasDictIn K Ce5 = true) (hae5 : PySem.W.findIn K (.ref Ce5) "__class__" = some (some (.builtin "object.__class__"))) (hme5 : PySem.W.mroIn K Ce5 (.type "object") = some true)
    (ie5 : PySem.W.findIn K (.ref Ce5) "__init__" = some (some (.ref fe5))) (tie5 : PySem.W.typeIn K (.ref fe5) = some (.type "function")) (lie5 : K.lookup fe5 = some ⟨oce5, ode5, .func (PySem.W.fnOf "__init__" "BadText.__init__" (defArgs s_BadText___init__) (defBody s_BadText___init__) (defScope s_BadText___init__) .none kVe5 dce5 pme5 ane5 cde5 cte5), sle5⟩) (cie5 : PySem.W.codeIn K cde5 "BadText.__init__" = true) (kie5 : PySem.W.keepIn K (.ref fe5) = true) (noe5 : PySem.W.findIn K (.ref Ce5) "text" = some none)
    (nd : (R :: [Ce0, Ce1, Ce2, Ce3, Ce4, Ce5]).Nodup)
    (a_Wiring : PySem.W.nsIn K mainGlobals "Wiring" = some (some (.ref C_Wiring))) (pg_Wiring : PySem.W.plainGet K C_Wiring Str.empty = true) (hd_Wiring : PySem.W.hasDictIn K C_Wiring = true) (po_Wiring : PySem.W.plainOver K C_Wiring = true) (sa_Wiring : PySem.W.findIn K (.ref C_Wiring) "__setattr__" = some (some (.builtin "object.__setattr__"))) (tc_Wiring : PySem.W.typeIn K (.ref C_Wiring) = some (.type "type")) (ha_Wiring : PySem.W.findIn K (.ref C_Wiring) "__class__" = some (some (.builtin "object.__class__"))) (hm_Wiring : PySem.W.mroIn K C_Wiring (.type "object") = some true) (mk_Wiring : PySem.W.makesIn K C_Wiring = true) (kc_Wiring : PySem.W.keepIn K (.ref C_Wiring) = true)
    (no_Wiring__parts : PySem.W.findIn K (.ref C_Wiring) "_parts" = some none)
    (no_Wiring__tops : PySem.W.findIn K (.ref C_Wiring) "_tops" = some none)
    (no_Wiring__signs : PySem.W.findIn K (.ref C_Wiring) "_signs" = some none)
    (no_Wiring__arrows : PySem.W.findIn K (.ref C_Wiring) "_arrows" = some none)
    (ex_Wiring_rootx : PySem.W.subIn K (.ref R) (.type "BaseException") = some true)
    (ex_Wiring_ne : PySem.W.findIn K (.ref C_Wiring) "__ne__" = some (some (.builtin "object.__ne__")))
    (at_Wiring___init__ : PySem.W.findIn K (.ref C_Wiring) "__init__" = some (some (.ref f_Wiring___init__))) (fn_Wiring___init__ : PySem.W.isFn K (.ref f_Wiring___init__) = true)
    (l_Wiring___init__ : K.lookup f_Wiring___init__ = some ⟨oc_Wiring___init__, od_Wiring___init__, .func (PySem.W.fnOf "__init__" "Wiring.__init__" (defArgs s_Wiring___init__) (defBody s_Wiring___init__) (defScope s_Wiring___init__) .none kV_Wiring___init__ dc_Wiring___init__ pm_Wiring___init__ an_Wiring___init__ cd_Wiring___init__ ct_Wiring___init__), sl_Wiring___init__⟩) (cc_Wiring___init__ : PySem.W.codeIn K cd_Wiring___init__ "Wiring.__init__" = true) (kk_Wiring___init__ : PySem.W.keepIn K (.ref f_Wiring___init__) = true)
    (rd_Wiring_read : PySem.W.readsIn K C_Wiring (.type "type") = true) (ga_Wiring_read : PySem.W.specialIn K (.ref C_Wiring) "__getattribute__" = some (some (.builtin "type.__getattribute__"))) (cm_Wiring_read : PySem.W.findCls K (.ref C_Wiring) (.type "type") "read" = some (PySem.W.CFound.get (.builtin "classmethod.__get__") (.ref p_Wiring_read) .none (.ref C_Wiring))) (rc_Wiring_read : PySem.W.recIn K p_Wiring_read "classmethod" = some (.ref f_Wiring_read :: rs_Wiring_read)) (fi_Wiring_read : PySem.W.fnIn K f_Wiring_read = true)
    (l_Wiring_read : K.lookup f_Wiring_read = some ⟨oc_Wiring_read, od_Wiring_read, .func (PySem.W.fnOf "read" "Wiring.read" (defArgs s_Wiring_read) (defBody s_Wiring_read) (defScope s_Wiring_read) .none kV_Wiring_read dc_Wiring_read pm_Wiring_read an_Wiring_read cd_Wiring_read ct_Wiring_read), sl_Wiring_read⟩) (cc_Wiring_read : PySem.W.codeIn K cd_Wiring_read "Wiring.read" = true) (kk_Wiring_read : PySem.W.keepIn K (.ref f_Wiring_read) = true)
    (at_Wiring_parts : PySem.W.findIn K (.ref C_Wiring) "parts" = some (some (.ref p_Wiring_parts))) (gt_Wiring_parts : PySem.W.specialIn K (.ref p_Wiring_parts) "__get__" = some (some (.builtin "property.__get__"))) (tk_Wiring_parts : PySem.W.takesIn K (.ref p_Wiring_parts) = some true) (rc_Wiring_parts : PySem.W.recIn K p_Wiring_parts "property" = some (.ref f_Wiring_parts :: rs_Wiring_parts))
    (l_Wiring_parts : K.lookup f_Wiring_parts = some ⟨oc_Wiring_parts, od_Wiring_parts, .func (PySem.W.fnOf "parts" "Wiring.parts" (defArgs s_Wiring_parts) (defBody s_Wiring_parts) (defScope s_Wiring_parts) .none kV_Wiring_parts dc_Wiring_parts pm_Wiring_parts an_Wiring_parts cd_Wiring_parts ct_Wiring_parts), sl_Wiring_parts⟩) (cc_Wiring_parts : PySem.W.codeIn K cd_Wiring_parts "Wiring.parts" = true) (kk_Wiring_parts : PySem.W.keepIn K (.ref f_Wiring_parts) = true)
    (at_Wiring_arrows : PySem.W.findIn K (.ref C_Wiring) "arrows" = some (some (.ref p_Wiring_arrows))) (gt_Wiring_arrows : PySem.W.specialIn K (.ref p_Wiring_arrows) "__get__" = some (some (.builtin "property.__get__"))) (tk_Wiring_arrows : PySem.W.takesIn K (.ref p_Wiring_arrows) = some true) (rc_Wiring_arrows : PySem.W.recIn K p_Wiring_arrows "property" = some (.ref f_Wiring_arrows :: rs_Wiring_arrows))
    (l_Wiring_arrows : K.lookup f_Wiring_arrows = some ⟨oc_Wiring_arrows, od_Wiring_arrows, .func (PySem.W.fnOf "arrows" "Wiring.arrows" (defArgs s_Wiring_arrows) (defBody s_Wiring_arrows) (defScope s_Wiring_arrows) .none kV_Wiring_arrows dc_Wiring_arrows pm_Wiring_arrows an_Wiring_arrows cd_Wiring_arrows ct_Wiring_arrows), sl_Wiring_arrows⟩) (cc_Wiring_arrows : PySem.W.codeIn K cd_Wiring_arrows "Wiring.arrows" = true) (kk_Wiring_arrows : PySem.W.keepIn K (.ref f_Wiring_arrows) = true)
    (at_Wiring_top : PySem.W.findIn K (.ref C_Wiring) "top" = some (some (.ref f_Wiring_top))) (fn_Wiring_top : PySem.W.isFn K (.ref f_Wiring_top) = true)
    (l_Wiring_top : K.lookup f_Wiring_top = some ⟨oc_Wiring_top, od_Wiring_top, .func (PySem.W.fnOf "top" "Wiring.top" (defArgs s_Wiring_top) (defBody s_Wiring_top) (defScope s_Wiring_top) .none kV_Wiring_top dc_Wiring_top pm_Wiring_top an_Wiring_top cd_Wiring_top ct_Wiring_top), sl_Wiring_top⟩) (cc_Wiring_top : PySem.W.codeIn K cd_Wiring_top "Wiring.top" = true) (kk_Wiring_top : PySem.W.keepIn K (.ref f_Wiring_top) = true)
    (at_Wiring___eq__ : PySem.W.findIn K (.ref C_Wiring) "__eq__" = some (some (.ref f_Wiring___eq__))) (fn_Wiring___eq__ : PySem.W.isFn K (.ref f_Wiring___eq__) = true)
    (l_Wiring___eq__ : K.lookup f_Wiring___eq__ = some ⟨oc_Wiring___eq__, od_Wiring___eq__, .func (PySem.W.fnOf "__eq__" "Wiring.__eq__" (defArgs s_Wiring___eq__) (defBody s_Wiring___eq__) (defScope s_Wiring___eq__) .none kV_Wiring___eq__ dc_Wiring___eq__ pm_Wiring___eq__ an_Wiring___eq__ cd_Wiring___eq__ ct_Wiring___eq__), sl_Wiring___eq__⟩) (cc_Wiring___eq__ : PySem.W.codeIn K cd_Wiring___eq__ "Wiring.__eq__" = true) (kk_Wiring___eq__ : PySem.W.keepIn K (.ref f_Wiring___eq__) = true)
    (at_Wiring___str__ : PySem.W.findIn K (.ref C_Wiring) "__str__" = some (some (.ref f_Wiring___str__))) (fn_Wiring___str__ : PySem.W.isFn K (.ref f_Wiring___str__) = true)
    (l_Wiring___str__ : K.lookup f_Wiring___str__ = some ⟨oc_Wiring___str__, od_Wiring___str__, .func (PySem.W.fnOf "__str__" "Wiring.__str__" (defArgs s_Wiring___str__) (defBody s_Wiring___str__) (defScope s_Wiring___str__) .none kV_Wiring___str__ dc_Wiring___str__ pm_Wiring___str__ an_Wiring___str__ cd_Wiring___str__ ct_Wiring___str__), sl_Wiring___str__⟩) (cc_Wiring___str__ : PySem.W.codeIn K cd_Wiring___str__ "Wiring.__str__" = true) (kk_Wiring___str__ : PySem.W.keepIn K (.ref f_Wiring___str__) = true)
    (at_Wiring__check_part : PySem.W.findIn K (.ref C_Wiring) "_check_part" = some (some (.ref f_Wiring__check_part))) (fn_Wiring__check_part : PySem.W.isFn K (.ref f_Wiring__check_part) = true)
    (l_Wiring__check_part : K.lookup f_Wiring__check_part = some ⟨oc_Wiring__check_part, od_Wiring__check_part, .func (PySem.W.fnOf "_check_part" "Wiring._check_part" (defArgs s_Wiring__check_part) (defBody s_Wiring__check_part) (defScope s_Wiring__check_part) .none kV_Wiring__check_part dc_Wiring__check_part pm_Wiring__check_part an_Wiring__check_part cd_Wiring__check_part ct_Wiring__check_part), sl_Wiring__check_part⟩) (cc_Wiring__check_part : PySem.W.codeIn K cd_Wiring__check_part "Wiring._check_part" = true) (kk_Wiring__check_part : PySem.W.keepIn K (.ref f_Wiring__check_part) = true)
    (a_DTOPS_BY_TEXT : PySem.W.nsIn K mainGlobals "TOPS_BY_TEXT" = some (some (.ref D_TOPS_BY_TEXT))) (l_DTOPS_BY_TEXT : K.lookup D_TOPS_BY_TEXT = some { cls := .type "dict", data := .dict es_TOPS_BY_TEXT n_TOPS_BY_TEXT }) (e_DTOPS_BY_TEXT : es_TOPS_BY_TEXT.toList = [⟨h0_TOPS_BY_TEXT, .str "1" t0_TOPS_BY_TEXT, .int 1 u0_TOPS_BY_TEXT⟩, ⟨h1_TOPS_BY_TEXT, .str "2" t1_TOPS_BY_TEXT, .int 2 u1_TOPS_BY_TEXT⟩, ⟨h2_TOPS_BY_TEXT, .str "3" t2_TOPS_BY_TEXT, .int 3 u2_TOPS_BY_TEXT⟩])
    (k0_DTOPS_BY_TEXT : h0_TOPS_BY_TEXT = PyData.keyHash w.params "1")
    (k1_DTOPS_BY_TEXT : h1_TOPS_BY_TEXT = PyData.keyHash w.params "2")
    (k2_DTOPS_BY_TEXT : h2_TOPS_BY_TEXT = PyData.keyHash w.params "3")
    (w_DTOPS_BY_TEXT : (D_TOPS_BY_TEXT == sysModules) = false) :
    ∃ fd : FuncData, (∀ (s : Shared) (v : Value), BindsTo s fd ⟨[v], []⟩ [("_law_script", v)]) ∧ ∀ base : Heap, K.In base → base.Ns mainGlobals mg → FnOk l.prog w K mg base CX0 12 fa fd ["_law_script"] (spLaw K) := by
  have e := hfa.symm.trans (PySem.W.mg_of X G a21)
  cases e
  have F0 := fun_mk (st := s_valid_name) l0 c0 k0
  have b0 := F0.binds (ps := ["text"]) fun _ _ _ _ _ _ us hl => match us, hl with | [_], _ => rfl
  have F1 := fun_mk (st := s_stands_in_name) l1 c1 k1
  have b1 := F1.binds (ps := ["character"]) fun _ _ _ _ _ _ us hl => match us, hl with | [_], _ => rfl
  have F2 := fun_mk (st := s_is_whole) l2 c2 k2
  have b2 := F2.binds (ps := ["value", "least", "most"]) fun _ _ _ _ _ _ us hl => match us, hl with | [_, _, _], _ => rfl
  have F3 := fun_mk (st := s_check_tops) l3 c3 k3
  have b3 := F3.binds (ps := ["tops"]) fun _ _ _ _ _ _ us hl => match us, hl with | [_], _ => rfl
  have F4 := fun_mk (st := s_count_states) l4 c4 k4
  have b4 := F4.binds (ps := ["tops"]) fun _ _ _ _ _ _ us hl => match us, hl with | [_], _ => rfl
  have F5 := fun_mk (st := s_checked_signs) l5 c5 k5
  have b5 := F5.binds (ps := ["tops", "arrows"]) fun _ _ _ _ _ _ us hl => match us, hl with | [_, _], _ => rfl
  have F6 := fun_mk (st := s_is_arrow) l6 c6 k6
  have b6 := F6.binds (ps := ["parts", "value"]) fun _ _ _ _ _ _ us hl => match us, hl with | [_, _], _ => rfl
  have F7 := fun_mk (st := s_read_tops) l7 c7 k7
  have b7 := F7.binds (ps := ["text"]) fun _ _ _ _ _ _ us hl => match us, hl with | [_], _ => rfl
  have F8 := fun_mk (st := s_read_arrow) l8 c8 k8
  have b8 := F8.binds (ps := ["text"]) fun _ _ _ _ _ _ us hl => match us, hl with | [_], _ => rfl
  have F9 := fun_mk (st := s_l_start) l9 c9 k9
  have b9 := F9.binds (ps := ["_law_script"]) fun _ _ _ _ _ _ us hl => match us, hl with | [_], _ => rfl
  have F10 := fun_mk (st := s_l_draw) l10 c10 k10
  have b10 := F10.binds (ps := ["_law_state", "_law_size"]) fun _ _ _ _ _ _ us hl => match us, hl with | [_, _], _ => rfl
  have F11 := fun_mk (st := s_l_order) l11 c11 k11
  have b11 := F11.binds (ps := ["_law_state", "_law_items"]) fun _ _ _ _ _ _ us hl => match us, hl with | [_, _], _ => rfl
  have F12 := fun_mk (st := s_l_names) l12 c12 k12
  have b12 := F12.binds (ps := ["_law_state", "_law_count"]) fun _ _ _ _ _ _ us hl => match us, hl with | [_, _], _ => rfl
  have F13 := fun_mk (st := s_l_good) l13 c13 k13
  have b13 := F13.binds (ps := ["_law_word"]) fun _ _ _ _ _ _ us hl => match us, hl with | [_], _ => rfl
  have F14 := fun_mk (st := s_l_signs) l14 c14 k14
  have b14 := F14.binds (ps := []) fun _ _ _ _ _ _ us hl => match us, hl with | [], _ => rfl
  have F15 := fun_mk (st := s_l_tops) l15 c15 k15
  have b15 := F15.binds (ps := ["_law_state", "_law_pool"]) fun _ _ _ _ _ _ us hl => match us, hl with | [_, _], _ => rfl
  have F16 := fun_mk (st := s_l_arrows) l16 c16 k16
  have b16 := F16.binds (ps := ["_law_state", "_law_pool"]) fun _ _ _ _ _ _ us hl => match us, hl with | [_, _], _ => rfl
  have F17 := fun_mk (st := s_l_text) l17 c17 k17
  have b17 := F17.binds (ps := ["_law_peaks_here", "_law_links"]) fun _ _ _ _ _ _ us hl => match us, hl with | [_, _], _ => rfl
  have F18 := fun_mk (st := s_l_spoiled) l18 c18 k18
  have b18 := F18.binds (ps := ["_law_state", "_law_word"]) fun _ _ _ _ _ _ us hl => match us, hl with | [_, _], _ => rfl
  have F19 := fun_mk (st := s_l_peaks) l19 c19 k19
  have b19 := F19.binds (ps := ["_law_word"]) fun _ _ _ _ _ _ us hl => match us, hl with | [_], _ => rfl
  have F20 := fun_mk (st := s_l_due) l20 c20 k20
  have b20 := F20.binds (ps := ["_law_word"]) fun _ _ _ _ _ _ us hl => match us, hl with | [_], _ => rfl
  have F21 := fun_mk (st := s_law) l21 c21 k21
  have Fie0 := fun_mk (st := s_BadName___init__) lie0 cie0 kie0
  have bie0 := Fie0.binds (ps := ["self", "name"]) fun _ _ _ _ _ _ us hl => match us, hl with | [_, _], _ => rfl
  have Fie1 := fun_mk (st := s_UnknownName___init__) lie1 cie1 kie1
  have bie1 := Fie1.binds (ps := ["self", "name"]) fun _ _ _ _ _ _ us hl => match us, hl with | [_, _], _ => rfl
  have Fie2 := fun_mk (st := s_BadCount___init__) lie2 cie2 kie2
  have bie2 := Fie2.binds (ps := ["self", "count"]) fun _ _ _ _ _ _ us hl => match us, hl with | [_, _], _ => rfl
  have Fie3 := fun_mk (st := s_BadTop___init__) lie3 cie3 kie3
  have bie3 := Fie3.binds (ps := ["self", "value"]) fun _ _ _ _ _ _ us hl => match us, hl with | [_, _], _ => rfl
  have Fie4 := fun_mk (st := s_BadArrow___init__) lie4 cie4 kie4
  have bie4 := Fie4.binds (ps := ["self", "value"]) fun _ _ _ _ _ _ us hl => match us, hl with | [_, _], _ => rfl
  have Fie5 := fun_mk (st := s_BadText___init__) lie5 cie5 kie5
  have bie5 := Fie5.binds (ps := ["self", "text"]) fun _ _ _ _ _ _ us hl => match us, hl with | [_, _], _ => rfl
  have F_Wiring___init__ := fun_mk (st := s_Wiring___init__) l_Wiring___init__ cc_Wiring___init__ kk_Wiring___init__
  have b_Wiring___init__ := F_Wiring___init__.binds (ps := ["self", "tops", "arrows"]) fun _ _ _ _ _ _ us hl => match us, hl with | [_, _, _], _ => rfl
  have F_Wiring_read := fun_mk (st := s_Wiring_read) l_Wiring_read cc_Wiring_read kk_Wiring_read
  have b_Wiring_read := F_Wiring_read.binds (ps := ["cls", "text"]) fun _ _ _ _ _ _ us hl => match us, hl with | [_, _], _ => rfl
  have F_Wiring_parts := fun_mk (st := s_Wiring_parts) l_Wiring_parts cc_Wiring_parts kk_Wiring_parts
  have b_Wiring_parts := F_Wiring_parts.binds (ps := ["self"]) fun _ _ _ _ _ _ us hl => match us, hl with | [_], _ => rfl
  have F_Wiring_arrows := fun_mk (st := s_Wiring_arrows) l_Wiring_arrows cc_Wiring_arrows kk_Wiring_arrows
  have b_Wiring_arrows := F_Wiring_arrows.binds (ps := ["self"]) fun _ _ _ _ _ _ us hl => match us, hl with | [_], _ => rfl
  have F_Wiring_top := fun_mk (st := s_Wiring_top) l_Wiring_top cc_Wiring_top kk_Wiring_top
  have b_Wiring_top := F_Wiring_top.binds (ps := ["self", "name"]) fun _ _ _ _ _ _ us hl => match us, hl with | [_, _], _ => rfl
  have F_Wiring___eq__ := fun_mk (st := s_Wiring___eq__) l_Wiring___eq__ cc_Wiring___eq__ kk_Wiring___eq__
  have b_Wiring___eq__ := F_Wiring___eq__.binds (ps := ["self", "other"]) fun _ _ _ _ _ _ us hl => match us, hl with | [_, _], _ => rfl
  have F_Wiring___str__ := fun_mk (st := s_Wiring___str__) l_Wiring___str__ cc_Wiring___str__ kk_Wiring___str__
  have b_Wiring___str__ := F_Wiring___str__.binds (ps := ["self"]) fun _ _ _ _ _ _ us hl => match us, hl with | [_], _ => rfl
  have F_Wiring__check_part := fun_mk (st := s_Wiring__check_part) l_Wiring__check_part cc_Wiring__check_part kk_Wiring__check_part
  have b_Wiring__check_part := F_Wiring__check_part.binds (ps := ["self", "name"]) fun _ _ _ _ _ _ us hl => match us, hl with | [_, _], _ => rfl
  have T : Tx K mg := ⟨PySem.W.mg_none_of X G z_abs, PySem.W.mg_none_of X G z_all, PySem.W.mg_none_of X G z_bool, PySem.W.mg_none_of X G z_dict, PySem.W.mg_none_of X G z_int, PySem.W.mg_none_of X G z_isinstance, PySem.W.mg_none_of X G z_len, PySem.W.mg_none_of X G z_list, PySem.W.mg_none_of X G z_range, PySem.W.mg_none_of X G z_sorted, PySem.W.mg_none_of X G z_str, PySem.W.mg_none_of X G z_tuple, ⟨_, PySem.W.mg_of X G y_LETTERS, x_LETTERS⟩, ⟨_, PySem.W.mg_of X G y_DIGITS, x_DIGITS⟩, ⟨_, PySem.W.mg_of X G y_LONGEST, x_LONGEST⟩, ⟨_, PySem.W.mg_of X G y_MOST_PARTS, x_MOST_PARTS⟩, ⟨_, PySem.W.mg_of X G y_MOST_STATES, x_MOST_STATES⟩, ⟨_, PySem.W.mg_of X G y_LEAST_TOP, x_LEAST_TOP⟩, ⟨_, PySem.W.mg_of X G y_GREATEST_TOP, x_GREATEST_TOP⟩, ⟨A_SIGNS, PySem.W.mg_of X G y_SIGNS, fun _ => .inr ⟨_, _, _, lt_SIGNS, rfl, rfl, zz_SIGNS, x_SIGNS⟩⟩, ⟨f0, _, F0, PySem.W.mg_of X G a0, b0⟩, ⟨f1, _, F1, PySem.W.mg_of X G a1, b1⟩, ⟨f2, _, F2, PySem.W.mg_of X G a2, b2⟩, ⟨f3, _, F3, PySem.W.mg_of X G a3, b3⟩, ⟨f4, _, F4, PySem.W.mg_of X G a4, b4⟩, ⟨f5, _, F5, PySem.W.mg_of X G a5, b5⟩, ⟨f6, _, F6, PySem.W.mg_of X G a6, b6⟩, ⟨f7, _, F7, PySem.W.mg_of X G a7, b7⟩, ⟨f8, _, F8, PySem.W.mg_of X G a8, b8⟩, ⟨f9, _, F9, PySem.W.mg_of X G a9, b9⟩, ⟨f10, _, F10, PySem.W.mg_of X G a10, b10⟩, ⟨f11, _, F11, PySem.W.mg_of X G a11, b11⟩, ⟨f12, _, F12, PySem.W.mg_of X G a12, b12⟩, ⟨f13, _, F13, PySem.W.mg_of X G a13, b13⟩, ⟨f14, _, F14, PySem.W.mg_of X G a14, b14⟩, ⟨f15, _, F15, PySem.W.mg_of X G a15, b15⟩, ⟨f16, _, F16, PySem.W.mg_of X G a16, b16⟩, ⟨f17, _, F17, PySem.W.mg_of X G a17, b17⟩, ⟨f18, _, F18, PySem.W.mg_of X G a18, b18⟩, ⟨f19, _, F19, PySem.W.mg_of X G a19, b19⟩, ⟨f20, _, F20, PySem.W.mg_of X G a20, b20⟩, ⟨on, ot⟩, ⟨R, PySem.W.mg_of X G aR, by unfold PySem.W.clsIn; rw [lR]; rfl, tR⟩, ⟨⟨Ce0, ⟨_, _, _, _, _, _, _, _, _, _, _, _, _, _, le0⟩, PySem.W.mg_of X G ae0, ke0, sae0, gae0, gge0, exe0, tye0, hde0, hae0, hme0⟩, fe0, _, Fie0, bie0, ie0, tie0, noe0⟩, ⟨⟨Ce1, ⟨_, _, _, _, _, _, _, _, _, _, _, _, _, _, le1⟩, PySem.W.mg_of X G ae1, ke1, sae1, gae1, gge1, exe1, tye1, hde1, hae1, hme1⟩, fe1, _, Fie1, bie1, ie1, tie1, noe1⟩, ⟨⟨Ce2, ⟨_, _, _, _, _, _, _, _, _, _, _, _, _, _, le2⟩, PySem.W.mg_of X G ae2, ke2, sae2, gae2, gge2, exe2, tye2, hde2, hae2, hme2⟩, fe2, _, Fie2, bie2, ie2, tie2, noe2⟩, ⟨⟨Ce3, ⟨_, _, _, _, _, _, _, _, _, _, _, _, _, _, le3⟩, PySem.W.mg_of X G ae3, ke3, sae3, gae3, gge3, exe3, tye3, hde3, hae3, hme3⟩, fe3, _, Fie3, bie3, ie3, tie3, noe3⟩, ⟨⟨Ce4, ⟨_, _, _, _, _, _, _, _, _, _, _, _, _, _, le4⟩, PySem.W.mg_of X G ae4, ke4, sae4, gae4, gge4, exe4, tye4, hde4, hae4, hme4⟩, fe4, _, Fie4, bie4, ie4, tie4, noe4⟩, ⟨⟨Ce5, ⟨_, _, _, _, _, _, _, _, _, _, _, _, _, _, le5⟩, PySem.W.mg_of X G ae5, ke5, sae5, gae5, gge5, exe5, tye5, hde5, hae5, hme5⟩, fe5, _, Fie5, bie5, ie5, tie5, noe5⟩, nd, ⟨C_Wiring, PySem.W.mg_of X G a_Wiring, ⟨pg_Wiring, hd_Wiring, po_Wiring, sa_Wiring⟩, isC_mro hm_Wiring, tc_Wiring, ha_Wiring, hm_Wiring⟩, no_Wiring__parts, no_Wiring__tops, no_Wiring__signs, no_Wiring__arrows, ex_Wiring_rootx, ex_Wiring_ne, ⟨f_Wiring___init__, _, F_Wiring___init__, b_Wiring___init__, ⟨mk_Wiring, at_Wiring___init__, fn_Wiring___init__, kc_Wiring⟩⟩, ⟨p_Wiring_read, f_Wiring_read, _, .type "type", F_Wiring_read, b_Wiring_read, ⟨rd_Wiring_read, ga_Wiring_read⟩, ⟨cm_Wiring_read, ⟨_, rc_Wiring_read⟩, fi_Wiring_read⟩⟩, ⟨p_Wiring_parts, f_Wiring_parts, _, F_Wiring_parts, b_Wiring_parts, ⟨at_Wiring_parts, gt_Wiring_parts, tk_Wiring_parts, ⟨_, rc_Wiring_parts⟩⟩⟩, ⟨p_Wiring_arrows, f_Wiring_arrows, _, F_Wiring_arrows, b_Wiring_arrows, ⟨at_Wiring_arrows, gt_Wiring_arrows, tk_Wiring_arrows, ⟨_, rc_Wiring_arrows⟩⟩⟩, ⟨f_Wiring_top, _, F_Wiring_top, b_Wiring_top, ⟨at_Wiring_top, fn_Wiring_top, kk_Wiring_top⟩⟩, ⟨f_Wiring___eq__, _, F_Wiring___eq__, b_Wiring___eq__, ⟨at_Wiring___eq__, fn_Wiring___eq__, kk_Wiring___eq__⟩⟩, ⟨f_Wiring___str__, _, F_Wiring___str__, b_Wiring___str__, ⟨at_Wiring___str__, fn_Wiring___str__, kk_Wiring___str__⟩⟩, ⟨f_Wiring__check_part, _, F_Wiring__check_part, b_Wiring__check_part, ⟨at_Wiring__check_part, fn_Wiring__check_part, kk_Wiring__check_part⟩⟩⟩
  exact ⟨PySem.W.fnOf "law" "law" (defArgs s_law) (defBody s_law) (defScope s_law) .none kV21 dc21 pm21 an21 cd21 ct21, fun s v => .of_eq rfl, fun base _ _ => ok_law F21 T (kde_TOPS_BY_TEXT (PySem.W.mg_of X G a_DTOPS_BY_TEXT) l_DTOPS_BY_TEXT e_DTOPS_BY_TEXT k0_DTOPS_BY_TEXT k1_DTOPS_BY_TEXT k2_DTOPS_BY_TEXT w_DTOPS_BY_TEXT)⟩

end K11

open PySem PySem.W PyProof.Rows
set_option maxRecDepth 100000 in
set_option maxHeartbeats 0 in
theorem PySem.Challenge.cw_surerests_k11_wiring_texts_holds : PySem.Challenge.rw_surerests_k11_wiring_texts.Holds := by
  w_on; o_law; k_head; (case hw => w_witness2)
  k_fill
  refine L2.walk_of (l := PySem.Challenge.rw_surerests_k11_wiring_texts) (n := 63) (k := 12) (x := "_law_script") (CX := fun _ => L2.CX0) (sp := fun w => K11.spLaw _) rfl (by decide) rfl ⟨rfl, by decide, by decide⟩ (fun w h Y => PySem.W.kIn_of Y) ?F (fun _ _ a ns hl _ hS => ⟨a, ns, rfl, hS, hl, fun _ => rfl⟩) (fun _ _ _ _ _ h => h)
  case F =>
    intro w mg fa h KX G hmg
    refine' K11.all_mk KX G hmg ?a0 ?l0 ?c0 ?k0 ?a1 ?l1 ?c1 ?k1 ?a2 ?l2 ?c2 ?k2 ?a3 ?l3 ?c3 ?k3 ?a4 ?l4 ?c4 ?k4 ?a5 ?l5 ?c5 ?k5 ?a6 ?l6 ?c6 ?k6 ?a7 ?l7 ?c7 ?k7 ?a8 ?l8 ?c8 ?k8 ?a9 ?l9 ?c9 ?k9 ?a10 ?l10 ?c10 ?k10 ?a11 ?l11 ?c11 ?k11 ?a12 ?l12 ?c12 ?k12 ?a13 ?l13 ?c13 ?k13 ?a14 ?l14 ?c14 ?k14 ?a15 ?l15 ?c15 ?k15 ?a16 ?l16 ?c16 ?k16 ?a17 ?l17 ?c17 ?k17 ?a18 ?l18 ?c18 ?k18 ?a19 ?l19 ?c19 ?k19 ?a20 ?l20 ?c20 ?k20 ?a21 ?l21 ?c21 ?k21 ?z_abs ?z_all ?z_bool ?z_dict ?z_int ?z_isinstance ?z_len ?z_list ?z_range ?z_sorted ?z_str ?z_tuple ?y_LETTERS ?x_LETTERS ?y_DIGITS ?x_DIGITS ?y_LONGEST ?x_LONGEST ?y_MOST_PARTS ?x_MOST_PARTS ?y_MOST_STATES ?x_MOST_STATES ?y_LEAST_TOP ?x_LEAST_TOP ?y_GREATEST_TOP ?x_GREATEST_TOP ?y_SIGNS ?lt_SIGNS ?zz_SIGNS ?x_SIGNS ?aR ?lR ?tR ?on ?ot ?ae0 ?le0 ?ke0 ?sae0 ?gae0 ?gge0 ?exe0 ?tye0 ?hde0 ?hae0 ?hme0 ?ie0 ?tie0 ?lie0 ?cie0 ?kie0 ?noe0 ?ae1 ?le1 ?ke1 ?sae1 ?gae1 ?gge1 ?exe1 ?tye1 ?hde1 ?hae1 ?hme1 ?ie1 ?tie1 ?lie1 ?cie1 ?kie1 ?noe1 ?ae2 ?le2 ?ke2 ?sae2 ?gae2 ?gge2 ?exe2 ?tye2 ?hde2 ?hae2 ?hme2 ?ie2 ?tie2 ?lie2 ?cie2 ?kie2 ?noe2 ?ae3 ?le3 ?ke3 ?sae3 ?gae3 ?gge3 ?exe3 ?tye3 ?hde3 ?hae3 ?hme3 ?ie3 ?tie3 ?lie3 ?cie3 ?kie3 ?noe3 ?ae4 ?le4 ?ke4 ?sae4 ?gae4 ?gge4 ?exe4 ?tye4 ?hde4 ?hae4 ?hme4 ?ie4 ?tie4 ?lie4 ?cie4 ?kie4 ?noe4 ?ae5 ?le5 ?ke5 ?sae5 ?gae5 ?gge5 ?exe5 ?tye5 ?hde5 ?hae5 ?hme5 ?ie5 ?tie5 ?lie5 ?cie5 ?kie5 ?noe5 ?nd ?a_Wiring ?pg_Wiring ?hd_Wiring ?po_Wiring ?sa_Wiring ?tc_Wiring ?ha_Wiring ?hm_Wiring ?mk_Wiring ?kc_Wiring ?no_Wiring__parts ?no_Wiring__tops ?no_Wiring__signs ?no_Wiring__arrows ?ex_Wiring_rootx ?ex_Wiring_ne ?at_Wiring___init__ ?fn_Wiring___init__ ?l_Wiring___init__ ?cc_Wiring___init__ ?kk_Wiring___init__ ?rd_Wiring_read ?ga_Wiring_read ?cm_Wiring_read ?rc_Wiring_read ?fi_Wiring_read ?l_Wiring_read ?cc_Wiring_read ?kk_Wiring_read ?at_Wiring_parts ?gt_Wiring_parts ?tk_Wiring_parts ?rc_Wiring_parts ?l_Wiring_parts ?cc_Wiring_parts ?kk_Wiring_parts ?at_Wiring_arrows ?gt_Wiring_arrows ?tk_Wiring_arrows ?rc_Wiring_arrows ?l_Wiring_arrows ?cc_Wiring_arrows ?kk_Wiring_arrows ?at_Wiring_top ?fn_Wiring_top ?l_Wiring_top ?cc_Wiring_top ?kk_Wiring_top ?at_Wiring___eq__ ?fn_Wiring___eq__ ?l_Wiring___eq__ ?cc_Wiring___eq__ ?kk_Wiring___eq__ ?at_Wiring___str__ ?fn_Wiring___str__ ?l_Wiring___str__ ?cc_Wiring___str__ ?kk_Wiring___str__ ?at_Wiring__check_part ?fn_Wiring__check_part ?l_Wiring__check_part ?cc_Wiring__check_part ?kk_Wiring__check_part ?a_DTOPS_BY_TEXT ?l_DTOPS_BY_TEXT ?e_DTOPS_BY_TEXT ?k0_DTOPS_BY_TEXT ?k1_DTOPS_BY_TEXT ?k2_DTOPS_BY_TEXT ?w_DTOPS_BY_TEXT
    (case a0 => k_is)
    (case l0 => k_is)
    (case c0 => k_is)
    (case k0 => k_is)
    (case a1 => k_is)
    (case l1 => k_is)
    (case c1 => k_is)
    (case k1 => k_is)
    (case a2 => k_is)
    (case l2 => k_is)
    (case c2 => k_is)
    (case k2 => k_is)
    (case a3 => k_is)
    (case l3 => k_is)
    (case c3 => k_is)
    (case k3 => k_is)
    (case a4 => k_is)
    (case l4 => k_is)
    (case c4 => k_is)
    (case k4 => k_is)
    (case a5 => k_is)
    (case l5 => k_is)
    (case c5 => k_is)
    (case k5 => k_is)
    (case a6 => k_is)
    (case l6 => k_is)
    (case c6 => k_is)
    (case k6 => k_is)
    (case a7 => k_is)
    (case l7 => k_is)
    (case c7 => k_is)
    (case k7 => k_is)
    (case a8 => k_is)
    (case l8 => k_is)
    (case c8 => k_is)
    (case k8 => k_is)
    (case a9 => k_is)
    (case l9 => k_is)
    (case c9 => k_is)
    (case k9 => k_is)
    (case a10 => k_is)
    (case l10 => k_is)
    (case c10 => k_is)
    (case k10 => k_is)
    (case a11 => k_is)
    (case l11 => k_is)
    (case c11 => k_is)
    (case k11 => k_is)
    (case a12 => k_is)
    (case l12 => k_is)
    (case c12 => k_is)
    (case k12 => k_is)
    (case a13 => k_is)
    (case l13 => k_is)
    (case c13 => k_is)
    (case k13 => k_is)
    (case a14 => k_is)
    (case l14 => k_is)
    (case c14 => k_is)
    (case k14 => k_is)
    (case a15 => k_is)
    (case l15 => k_is)
    (case c15 => k_is)
    (case k15 => k_is)
    (case a16 => k_is)
    (case l16 => k_is)
    (case c16 => k_is)
    (case k16 => k_is)
    (case a17 => k_is)
    (case l17 => k_is)
    (case c17 => k_is)
    (case k17 => k_is)
    (case a18 => k_is)
    (case l18 => k_is)
    (case c18 => k_is)
    (case k18 => k_is)
    (case a19 => k_is)
    (case l19 => k_is)
    (case c19 => k_is)
    (case k19 => k_is)
    (case a20 => k_is)
    (case l20 => k_is)
    (case c20 => k_is)
    (case k20 => k_is)
    (case a21 => k_is)
    (case l21 => k_is)
    (case c21 => k_is)
    (case k21 => k_is)
    (case z_abs => k_is)
    (case z_all => k_is)
    (case z_bool => k_is)
    (case z_dict => k_is)
    (case z_int => k_is)
    (case z_isinstance => k_is)
    (case z_len => k_is)
    (case z_list => k_is)
    (case z_range => k_is)
    (case z_sorted => k_is)
    (case z_str => k_is)
    (case z_tuple => k_is)
    (case y_LETTERS => k_is)
    (case x_LETTERS => exact ⟨_, rfl⟩)
    (case y_DIGITS => k_is)
    (case x_DIGITS => exact ⟨_, rfl⟩)
    (case y_LONGEST => k_is)
    (case x_LONGEST => exact ⟨_, rfl⟩)
    (case y_MOST_PARTS => k_is)
    (case x_MOST_PARTS => exact ⟨_, rfl⟩)
    (case y_MOST_STATES => k_is)
    (case x_MOST_STATES => exact ⟨_, rfl⟩)
    (case y_LEAST_TOP => k_is)
    (case x_LEAST_TOP => exact ⟨_, rfl⟩)
    (case y_GREATEST_TOP => k_is)
    (case x_GREATEST_TOP => exact ⟨_, rfl⟩)
    (case y_SIGNS => k_is)
    (case lt_SIGNS => k_is)
    (case zz_SIGNS => decide)
    (case x_SIGNS => exact (.cons ⟨_, rfl⟩ (.cons ⟨_, rfl⟩ (.cons ⟨_, rfl⟩ .nil))))
    (case aR => k_is)
    (case lR => k_is)
    (case tR => k_is)
    (case on => k_is)
    (case ot => k_is)
    (case ae0 => k_is)
    (case le0 => k_is)
    (case ke0 => k_is)
    (case sae0 => k_is)
    (case gae0 => k_is)
    (case gge0 => k_is)
    (case exe0 => k_is)
    (case tye0 => k_is)
    (case hde0 => k_is)
    (case hae0 => k_is)
    (case hme0 => k_is)
    (case ie0 => k_is)
    (case tie0 => k_is)
    (case lie0 => k_is)
    (case cie0 => k_is)
    (case kie0 => k_is)
    (case noe0 => k_is)
    (case ae1 => k_is)
    (case le1 => k_is)
    (case ke1 => k_is)
    (case sae1 => k_is)
    (case gae1 => k_is)
    (case gge1 => k_is)
    (case exe1 => k_is)
    (case tye1 => k_is)
    (case hde1 => k_is)
    (case hae1 => k_is)
    (case hme1 => k_is)
    (case ie1 => k_is)
    (case tie1 => k_is)
    (case lie1 => k_is)
    (case cie1 => k_is)
    (case kie1 => k_is)
    (case noe1 => k_is)
    (case ae2 => k_is)
    (case le2 => k_is)
    (case ke2 => k_is)
    (case sae2 => k_is)
    (case gae2 => k_is)
    (case gge2 => k_is)
    (case exe2 => k_is)
    (case tye2 => k_is)
    (case hde2 => k_is)
    (case hae2 => k_is)
    (case hme2 => k_is)
    (case ie2 => k_is)
    (case tie2 => k_is)
    (case lie2 => k_is)
    (case cie2 => k_is)
    (case kie2 => k_is)
    (case noe2 => k_is)
    (case ae3 => k_is)
    (case le3 => k_is)
    (case ke3 => k_is)
    (case sae3 => k_is)
    (case gae3 => k_is)
    (case gge3 => k_is)
    (case exe3 => k_is)
    (case tye3 => k_is)
    (case hde3 => k_is)
    (case hae3 => k_is)
    (case hme3 => k_is)
    (case ie3 => k_is)
    (case tie3 => k_is)
    (case lie3 => k_is)
    (case cie3 => k_is)
    (case kie3 => k_is)
    (case noe3 => k_is)
    (case ae4 => k_is)
    (case le4 => k_is)
    (case ke4 => k_is)
    (case sae4 => k_is)
    (case gae4 => k_is)
    (case gge4 => k_is)
    (case exe4 => k_is)
    (case tye4 => k_is)
    (case hde4 => k_is)
    (case hae4 => k_is)
    (case hme4 => k_is)
    (case ie4 => k_is)
    (case tie4 => k_is)
    (case lie4 => k_is)
    (case cie4 => k_is)
    (case kie4 => k_is)
    (case noe4 => k_is)
    (case ae5 => k_is)
    (case le5 => k_is)
    (case ke5 => k_is)
    (case sae5 => k_is)
    (case gae5 => k_is)
    (case gge5 => k_is)
    (case exe5 => k_is)
    (case tye5 => k_is)
    (case hde5 => k_is)
    (case hae5 => k_is)
    (case hme5 => k_is)
    (case ie5 => k_is)
    (case tie5 => k_is)
    (case lie5 => k_is)
    (case cie5 => k_is)
    (case kie5 => k_is)
    (case noe5 => k_is)
    (case nd => decide)
    (case a_Wiring => k_is)
    (case pg_Wiring => k_is)
    (case hd_Wiring => k_is)
    (case po_Wiring => k_is)
    (case sa_Wiring => k_is)
    (case tc_Wiring => k_is)
    (case ha_Wiring => k_is)
    (case hm_Wiring => k_is)
    (case mk_Wiring => k_is)
    (case kc_Wiring => k_is)
    (case no_Wiring__parts => k_is)
    (case no_Wiring__tops => k_is)
    (case no_Wiring__signs => k_is)
    (case no_Wiring__arrows => k_is)
    (case ex_Wiring_rootx => k_is)
    (case ex_Wiring_ne => k_is)
    (case at_Wiring___init__ => k_is)
    (case fn_Wiring___init__ => k_is)
    (case l_Wiring___init__ => k_is)
    (case cc_Wiring___init__ => k_is)
    (case kk_Wiring___init__ => k_is)
    (case rd_Wiring_read => k_is)
    (case ga_Wiring_read => k_is)
    (case cm_Wiring_read => k_is)
    (case rc_Wiring_read => k_is)
    (case fi_Wiring_read => k_is)
    (case l_Wiring_read => k_is)
    (case cc_Wiring_read => k_is)
    (case kk_Wiring_read => k_is)
    (case at_Wiring_parts => k_is)
    (case gt_Wiring_parts => k_is)
    (case tk_Wiring_parts => k_is)
    (case rc_Wiring_parts => k_is)
    (case l_Wiring_parts => k_is)
    (case cc_Wiring_parts => k_is)
    (case kk_Wiring_parts => k_is)
    (case at_Wiring_arrows => k_is)
    (case gt_Wiring_arrows => k_is)
    (case tk_Wiring_arrows => k_is)
    (case rc_Wiring_arrows => k_is)
    (case l_Wiring_arrows => k_is)
    (case cc_Wiring_arrows => k_is)
    (case kk_Wiring_arrows => k_is)
    (case at_Wiring_top => k_is)
    (case fn_Wiring_top => k_is)
    (case l_Wiring_top => k_is)
    (case cc_Wiring_top => k_is)
    (case kk_Wiring_top => k_is)
    (case at_Wiring___eq__ => k_is)
    (case fn_Wiring___eq__ => k_is)
    (case l_Wiring___eq__ => k_is)
    (case cc_Wiring___eq__ => k_is)
    (case kk_Wiring___eq__ => k_is)
    (case at_Wiring___str__ => k_is)
    (case fn_Wiring___str__ => k_is)
    (case l_Wiring___str__ => k_is)
    (case cc_Wiring___str__ => k_is)
    (case kk_Wiring___str__ => k_is)
    (case at_Wiring__check_part => k_is)
    (case fn_Wiring__check_part => k_is)
    (case l_Wiring__check_part => k_is)
    (case cc_Wiring__check_part => k_is)
    (case kk_Wiring__check_part => k_is)
    (case a_DTOPS_BY_TEXT => k_is)
    (case l_DTOPS_BY_TEXT => k_is)
    (case e_DTOPS_BY_TEXT => rfl)
    (case k0_DTOPS_BY_TEXT => rfl)
    (case k1_DTOPS_BY_TEXT => rfl)
    (case k2_DTOPS_BY_TEXT => rfl)
    (case w_DTOPS_BY_TEXT => decide)

