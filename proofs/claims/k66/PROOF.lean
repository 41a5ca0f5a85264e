import PyProof.Rows.All
import Wide.All
import OpenK.AllK
import Wide.FinOn
import HandS.ForMost
import HandS.ForExc
import HandS.Walk
import HandS.IsInst
import HandS.Wide
import HandS.Style
import HandS.Evl
import HandS.TryMany
import HandS.ExcInit
import HandS.ExcField
import HandS.Property
import HandS.DictComp
import HandS.MakeKw
import KE.KEqNest
import HandS.WordsDict
import PyProof.Rows.StrMeet
import HandS.Small
import HandS.SlotsOwn
import PyProof.InstEq
import HandS.SetFor
import HandS.Strs
import HandS.SetBool
import PyProof.EqAt
import PyProof.EqKinds
import HandS.TupAny
import HandS.Deep
import HandS.Lambda
import KE.SortKeyHeap
import HandS.SortKw
import KE.SortData
import KE.KStateDown
import HandS.Head0
import HandS.Head1
import HandS.Head2
import HandS.HeadEnd
import HandS.HeadHook1
import HandS.HeadHook2
import HandS.HeadHook3
import HandS.HeadHook4
import HandS.HeadWalk
import HandS.HeadNt
import HandS.EndTab
import KE.GoesZip
import KE.GoesMore
import HandS.Zip
import HandS.Star
import KE.KItemsList
import PyProof.TupleOfGen
import HandS.More
import HandS.NoneIn
import KE.GoesEnum
import PySem.Challenge.RW_twochoosers_k66_put_forces
set_option Elab.async false
set_option linter.all false
set_option maxRecDepth 100000
set_option maxHeartbeats 4000000
namespace L2
open PySem PySem.Spec PyProof.Rows
section
variable {X : Cx}
theorem pg_list : PGet X (rIxL X.K) := by
  intro pins s σ H x y v u Q I rx ry h
  obtain ⟨p, xs, i, z, rfl, rfl, hq, he, q⟩ := h
  cases rx
  obtain ⟨t, rfl⟩ := ry
  obtain ⟨its, r, pl, hz⟩ := I.list hq
  obtain ⟨j, h1, h2, h3, h4, h5⟩ := atI_get he
  obtain ⟨w, ew, rw'⟩ := r.get h2
  have hl := r.length
  have hn := line63
  have fin : EP X pins σ Q w s := ⟨z, H, I, rw', q⟩
  by_cases h0 : 0 ≤ i
  · have hj : i.toNat = j := by
      rw [seqIndex_of h0 h5] at h1
      exact Option.some.inj h1
    exact wpAny_getItem_list pl.isList h0 (by omega) (by rw [hj]; simpa using ew) fin
  · have hj : (i + (its.toArray.size : Int)).toNat = j := by
      rw [seqIndex_neg (by omega) h4] at h1
      rw [List.size_toArray, ← hl]
      exact Option.some.inj h1
    exact wpAny_getItem_list_neg pl.isList (by omega) (by rw [List.size_toArray] <;> omega) (by omega) (by rw [hj]; simpa using ew) fin
/-- s[::-1] of a text -/
def revS (z : Str) : Str := ⟨z.cps.toList.reverse.toArray⟩
theorem rev_all {α : Type} (xs : Array α) : (List.range xs.size).filterMap (xs[·]?) = xs.toList := by
  have h := pick_run xs 0 xs.size
  have e : (List.range xs.size).map (0 + ·) = List.range xs.size := by
    rw [show ((0 + ·) : Nat → Nat) = id from funext fun k => Nat.zero_add k, List.map_id]
  rw [e, List.drop_zero, List.take_of_length_le (by rw [Array.length_toList]; exact Nat.le_refl _)] at h
  exact h
theorem rev_ix (z : Str) : (Builtin.Str.strSliceIndices none none (-1) z.length).filterMap (z.cps[·]?) = z.cps.toList.reverse := by
  show (sliceRange ((z.length : Int) - 1) (-1) (-1)).filterMap (z.cps[·]?) = _
  rw [PySem.W.krv_sliceRange, PySem.W.krv_range, List.filterMap_reverse]
  rw [show z.length = z.cps.size from rfl, rev_all]
def tRevS (te : TE) : TE := fun σ H Q => te σ H fun x H1 => ∃ z, x = .str z ∧ z.length ≤ sizeLine ∧ Q (.str (revS z)) H1
theorem pe_revS {e : Expr} {te : TE} {k : Nat} {p1 p2 p3 pos : Pos} (he : PE X e te) : PE X (.Subscript e (.Slice none none (some (.UnaryOp .USub (.Constant (.int 1) k p1) p2)) p3) pos) (tRevS te) := by
  refine ⟨fun pins s σ H Q I h => ?_⟩
  refine Subscript_ (thn (he.run pins s σ H _ I h) fun v s1 ⟨x, H1, I1, r1, q1⟩ => ?_)
  obtain ⟨z, ex, hz, q⟩ := q1
  subst ex
  obtain ⟨t, rfl⟩ := r1
  have hst : PO X (some (.UnaryOp .USub (.Constant (.int 1) k p1) p2)) (tPart (tUn (rU fun i => .int (-i)) (tC (.int 1)))) := po_some (pe_un un_neg pe_int)
  refine wpAny_Slice (thn (po_none.run pins s1 σ H1 (fun o H2 => o = none ∧ H2 = H1) I1 ⟨rfl, rfl⟩) fun vl s2 ⟨l, H2, I2, pl, el, e2⟩ => ?_)
  subst el e2
  refine thn (po_none.run pins s2 σ H2 (fun o H3 => o = none ∧ H3 = H2) I2 ⟨rfl, rfl⟩) fun vu s3 ⟨u, H3, I3, pu, eu, e3⟩ => ?_
  subst eu e3
  refine thn (hst.run pins s3 σ H3 (fun o H4 => o = some (-1) ∧ H4 = H3) I3 ⟨1, rfl, -1, rfl, rfl, rfl⟩) fun vs s4 ⟨o, H4, I4, ps, eo, e4⟩ => ?_
  subst eo e4
  have I5 : Inv X pins σ H4 { s4 with heap := s4.heap.push { cls := .type "slice", data := .fields #[vl, vu, vs] } } := I4.kept (t' := s4.toks) fun b ob q => Heap.get?_push_of_some _ q
  obtain ⟨l, rfl, el⟩ := IsPart.raw pl
  obtain ⟨u, rfl, eu⟩ := IsPart.raw pu
  obtain ⟨st, rfl, e3⟩ := IsPart.raw ps
  have e1 : l = none := by cases l with | none => rfl | some _ => cases el
  have e2 : u = none := by cases u with | none => rfl | some _ => cases eu
  subst e1 e2
  show wpAny (model X.prog X.w) X.A (subscriptTail e (.Slice none none (some (.UnaryOp .USub (.Constant (.int 1) k p1) p2)) p3) (.str z t) (.ref s4.heap.objs.size)) (EP X pins σ Q) X.xe { s4 with heap := s4.heap.push { cls := .type "slice", data := .fields #[partValue none, partValue none, partValue st] } }
  refine tail_any (ops := [.str z t, .ref s4.heap.objs.size]) (typeIs_str _ z t) F.slot_str_getitem.lookup ?_ (by with_unfolding_all rfl)
  refine wpAny_getItem_str_slice (l := none) (u := none) (st := st) ⟨_, Heap.get?_push_size _ rfl, rfl, rfl⟩ (by rw [e3]; rfl) ?_
  unfold sliceMade slicePicked
  rw [e3]
  show Made.post (if ((-1 : Int) == 1 && _) = true then Made.val (.str z t) else Made.str ⟨((Builtin.Str.strSliceIndices none none (-1) z.length).filterMap (z.cps[·]?)).toArray⟩) _ _
  rw [if_neg (by simp), rev_ix]
  refine ⟨?_, .str _, _, I5.tok _, ⟨_, rfl⟩, q⟩
  show z.cps.toList.reverse.toArray.size ≤ sizeLine
  rw [List.size_toArray, List.length_reverse, Array.length_toList]
  exact hz
end
section
variable {X : Cx} {k : Nat} {f : Addr} {fd : FuncData} {ps ks : List Str} {sp : Sp} {CX : CXT} {E : XK} {g : List Value → List Value → List Value} {gV : List V → List V → List V}
/-- f(k = v, ..) -/
theorem pe_callK0 {x : Str} {p pos : Pos} {kws : List Keyword} {tk : TA} (F : FnOk X.prog X.w X.K X.mg X.base CX k f fd ps sp) (hr : Room k X.A) (hg : Gl X x) (hm : X.mg x = some (.ref f)) (hk : PySem.W.keepIn X.K (.ref f) = true) (hb : KBinds X.K fd ps ks g gV) (hx : Passes CX X E)
    (hkw : PK X kws tk) (hall : (backToKw pos (keywordEach kws X.env)).all (·.1.isSome) = true := by rfl) (hks : (backToKw pos (keywordEach kws X.env)).filterMap (·.1) = ks := by rfl)
    (hdb : (x == ("__debug__" : Str)) = false := by decide)
    (hpl : ((backTo pos (starEach [] X.env)).any (·.1) || (backToKw pos (keywordEach kws X.env)).any (·.1.isNone)) = false := by rfl) :
    PE X (.Call (.Name x p) [] kws pos) (tCallK sp gV E tNil tk) := by
  refine ⟨fun pins s σ H Q I h => ?_⟩
  refine wpAny_Call_Name_kw (ld_glob I hg hm ?_ hdb)
  refine PySem.W.callWith_KW0 (h₀ := X.base) I.ok.mod.kin hk hall ?_ hpl
  refine thn (hkw.run pos pins s σ H _ I h) fun ws s2 ⟨zs, H2, I2, rz, q2⟩ => ⟨I2.kIn, ?_⟩
  rw [hks]
  exact run_fnk F hr hb hx I2 .nil rz q2
end
end L2

namespace L2
open PySem PySem.Spec PyProof.Rows
section
variable {X : Cx} {CX : CXT} {k : Nat} {C g : Addr} {fd : FuncData} {ps ks : List Str} {sp : Sp} {E : XK} {e i : Expr} {pos : Pos} {ta ti : TE}
/-- o[i] of a class with its own __getitem__ -/
def rOwnIx (C : Addr) (sp : Sp) (E : XK) : R2 := fun x y H Q => ∃ a dx fs, x = .ref a ∧ H a = some (.ins C dx fs) ∧ sp [.ref a, y] H Q E
theorem pe_ixOwn (c : Cls X.K C) (hs : PySem.W.findIn X.K (.ref C) "__getitem__" = some (some (.ref g))) (hf : PySem.W.fnIn X.K g = true) (hfn : PySem.W.isFn X.K (.ref g) = true)
    (F : FnOk X.prog X.w X.K X.mg X.base CX k g fd ps sp) (hr : Room (k + 1) X.A) (hb : Binds X.K fd ps []) (hx : Passes CX X E) (he : PE X e ta) (hi : PE X i ti)
    (hsl : ∀ v u, subscripted i true v u = runValue (.builtin "lifetime.subscript" ⟨[v, u], []⟩) := by intros; with_unfolding_all rfl) : PE X (.Subscript e i pos) (tOp (rOwnIx C sp E) ta ti) := by
  refine ⟨fun pins s σ H Q I h => Subscript_ (binT he hi I h fun v u s2 x y H2 I2 rx ry q => ?_)⟩
  obtain ⟨a, dx, fs, rfl, ea, q⟩ := q
  obtain rfl : v = Value.ref a := rx
  obtain ⟨mA, O, _, _, _, _⟩ := ins_get I2.hok ea
  obtain ⟨od, J, _⟩ := O.look
  obtain ⟨m, fr⟩ := I2.fr
  have hv : Vals [V.ref a, y] [Value.ref a, u] := .cons rfl (.cons ry .nil)
  have hl : ([Value.ref a, u] ++ ([] : List Value)).length = ps.length := by
    rw [List.append_nil, ← hv.length]
    exact F.len _ _ _ _ q
  refine PySem.W.sub_K fr I2.ok.mod.kin J hs hf hfn (wpAny_call (codeAny_mono (F.run X.A.in1 X.stack s2 H2 ⟨[.ref a, u], []⟩ ([.ref a, u] ++ []) [.ref a, y] Q E hr.in1 I2.env0.in1 (hb s2 [.ref a, u] I2.kIn hl) (by rw [List.append_nil]; exact hv) q) fun r s' hq => ?_)) (hsl _ _)
  cases r with
  | error er => exact hx pins σ H2 s2 er s' I2 hq
  | ok fl =>
    cases fl with
    | ret z => exact I2.after hq
    | next => exact False.elim hq
    | brk => exact False.elim hq
    | cont => exact False.elim hq
variable {gf : List Value → List Value → List Value} {gV : List V → List V → List V} {f : Addr} {m : Str} {o : Expr} {apos : Pos} {kws : List Keyword} {tk : TA}
/-- o.m(k = v, ..): the receiver stands first -/
def tMethK (C : Addr) (m : Str) (sp : Sp) (gV : List V → List V → List V) (E : XK) (ta : TE) (tk : TA) : TE := fun σ H Q => ta σ H fun x H1 => ∃ a dx fs, x = .ref a ∧ H1 a = some (.ins C dx fs) ∧ fs.lookup m = none ∧
  tk σ H1 fun zs H2 => sp (gV [.ref a] zs) H2 Q E
theorem pe_methK0 {pl : Sem Bool} (he : PE X o ta) (c : Cls X.K C) (hm : Meth X.K C m f) (F : FnOk X.prog X.w X.K X.mg X.base CX k f fd ps sp) (hr : Room k X.A) (hb : KBinds X.K fd ps ks gf gV) (hx : Passes CX X E) (hkw : PK X kws tk)
    (hall : (backToKw pos (keywordEach kws X.env)).all (·.1.isSome) = true := by rfl) (hks : (backToKw pos (keywordEach kws X.env)).filterMap (·.1) = ks := by rfl)
    (hpl : ((backTo pos (starEach [] X.env)).any (·.1) || (backToKw pos (keywordEach kws X.env)).any (·.1.isNone)) = false := by rfl)
    (ht : eval (.Call (.Attribute o m apos) [] kws pos) X.env = (do
      let ov ← eval o X.env
      standAt apos.atName
      let (f, first) ← holding [ov] (getMethod ov m pl)
      callWith pos f first (backTo pos (starEach [] X.env)) (backToKw pos (keywordEach kws X.env))) := by rfl) :
    PE X (.Call (.Attribute o m apos) [] kws pos) (tMethK C m sp gV E ta tk) := by
  refine ⟨fun pins s σ H Q I h => PySem.W.methodCall_KW (pl := pl) (thn (he.run pins s σ H _ I h) fun u s1 ⟨x, H1, I1, rx, a, dx, fs, ex, ea, l, q⟩ => ?_) ht⟩
  subst ex
  obtain rfl : u = Value.ref a := rx
  refine getmeth_ok I1 ea c hm l (PySem.W.callWith_KW0 (first := [.ref a]) (h₀ := X.base) I.ok.mod.kin hm.kp hall ?_ hpl)
  refine thn (hkw.run pos pins s1 σ H1 _ I1 q) fun ws s2 ⟨zs, H2, I2, rz, q2⟩ => ⟨I2.kIn, ?_⟩
  rw [hks]
  exact run_fnk (us := [.ref a]) (vs := [.ref a]) F hr hb hx I2 (.cons rfl .nil) rz q2
end
/-! ### several except clauses, each with a name -/
/-- what the clauses wish of an exception; slot i is the name's -/
def wManyAs (K : PySem.W.Frag) (Wout : WX) (D : Ends) : List (Value × Nat × (Addr → Value → Option Addr → TS)) → WX
  | [] => Wout
  | (c, i, ts) :: r => fun cls d σ H => ∃ b, PySem.W.exmOne K cls c = some b ∧
      (b = true → ∀ a, H a = none → ts a cls d { nx := fun σ' H' => D.nx (σ'.set i none) H', rt := D.rt, bk := fun σ' H' => D.bk (σ'.set i none) H', ct := fun σ' H' => D.ct (σ'.set i none) H' } (σ.set i (some (.ref a))) H) ∧
      (b = false → wManyAs K Wout D r cls d σ H)
inductive HdsAs (X : Cx) : List ExceptHandler → List (Value × Nat × (Addr → Value → Option Addr → TS)) → Prop
  | nil : HdsAs X [] []
  | cons {x n : Str} {c : Value} {i : Nat} {ts : Addr → Value → Option Addr → TS} {b₀ : Stmt} {suite : List Stmt} {np pos' : Pos} {hds : List ExceptHandler} {l : List (Value × Nat × (Addr → Value → Option Addr → TS))}
      (hi : X.N[i]? = some n) (hln : X.env.kindOf n = some .local) (hc : Names X x c)
      (hsu : ∀ (a : Addr) (oe : Obj) (cls : Value) (d : Option Addr) (pn : List (Addr × Obj)), Zc cls d oe → (∃ vs, oe.data = .fields vs) → PSs (X.suite a ((a, oe) :: pn)) (b₀ :: suite) (ts a cls d)) (r : HdsAs X hds l) :
      HdsAs X (.ExceptHandler (some (.Name x np)) (some n) (b₀ :: suite) pos' :: hds) ((c, i, ts) :: l)
section
variable {X : Cx} {body : List Stmt} {h₀ : ExceptHandler} {hds : List ExceptHandler} {l : List (Value × Nat × (Addr → Value → Option Addr → TS))} {pos : Pos} {tb : WX → TS} {Wout : WX}
theorem ps_try_manyAs (hs : X.stack = X.env :: X.outer) (hf : X.env.frame = some X.env.locals) (hN : X.N.Nodup) (tk : Takes X Wout)
    (hb : ∀ (W : WX) (pn : List (Addr × Obj)) (xe : Value → Shared → Prop), Takes (X.tr pn xe) W → PassesOwn (model X.prog X.w) X.A X.env xe → PSs (X.tr pn xe) body (tb W))
    (hh : HdsAs X (h₀ :: hds) l) : PS X (.Try body (h₀ :: hds) [] [] pos) (fun D σ H => tb (wManyAs X.K Wout D l) D σ H) := by
  refine ⟨fun pins s σ H D I h => wpAny_Try_except ?_⟩
  have ok := I.ok
  have hfr : X.A.frames = some (X.env :: X.outer) := by rw [ok.frames, hs]
  refine wpAny_mono ((hb (wManyAs X.K Wout D l) (X.pn ++ pins) (fun e s₁ => wpAny (model X.prog X.w) X.A (noteFrame e X.env) (fun _ s₂ => wpAny (model X.prog X.w) X.A (setFlight e none) (fun _ s₃ =>
    wpAny (model X.prog X.w) X.A (handleBy e X.env (h₀ :: hds)) (SP X pins D) X.xe s₃) X.xe s₂) X.xe s₁) (fun u s' xx => ?_) PassesOwn.looking).run [] s σ H D (I.toTry _) h) (fun f s1 hsp => ?_) (fun e s1 he => he)
  · obtain ⟨a, B, sI, pins', σ', H', cls, d, rfl, J', nb, up, sky, na, os, ag, w⟩ := xx
    have J : Inv X pins σ' H' sI := J'.ofTry ok
    have sky' : Sky B (X.env :: X.outer) a (Zc cls d) X.env.locals s'.heap := by rw [← hs]; exact sky
    refine Sky.land Zc.steady hfr hf sky' fun h3 fl3 up3 => ?_
    have J3 : Inv X pins σ' H' { s' with heap := h3 } := J.landed nb fl3.1 (up.trans up3) os ag
    obtain ⟨oe3, vs3, he3, hz3, hd3⟩ := fl3.there
    have nfr : a ∉ frs (X.env :: X.outer) := fun hm => by
      obtain ⟨_, o', e', hnf⟩ := fl3.2.2.1.mem hm
      rw [he3] at e'
      cases e'
      exact hnf _ hd3
    have nL : a ≠ X.env.locals := fun z => nfr (List.mem_filterMap.mpr ⟨X.env, List.mem_cons_self, by rw [hf, z]⟩)
    have nF : a ∉ X.fs := fun hm => by
      obtain ⟨e, he, q⟩ := List.mem_filterMap.mp hm
      exact nfr (List.mem_filterMap.mpr ⟨e, List.mem_cons_of_mem _ he, q⟩)
    have S3 := J3.suite he3 hd3 na nL nF
    have go : ∀ {hds' : List ExceptHandler} {l' : List (Value × Nat × (Addr → Value → Option Addr → TS))}, HdsAs X hds' l' → wManyAs X.K Wout D l' cls d σ' H' →
        wpAny (model X.prog X.w) X.A (handleBy (.ref a) X.env hds') (SP X pins D) X.xe { s' with heap := h3 } := by
      intro hds' l' hk
      induction hk with
      | nil =>
        intro w
        refine wpAny_handleBy_nil ?_
        obtain ⟨k1, k2, k3, oe, vs, T, oT, ts', he, hz, hd, h1, hr⟩ := id fl3
        have fin : wpAny (model X.prog X.w) X.A (setFlight (.ref a) X.env.frame) (fun _ s4 => wpAny (model X.prog X.w) X.A (throw (.ref a) : Sem Flow) (SP X pins D) X.xe s4) X.xe { s' with heap := h3 } := by
          rw [hf]
          exact HandSPX.setFlight_upZ fl3 fun h4 hh4 up4 => wpAny_throw (tk _ _ ⟨a, B, sI, pins, σ', H', cls, d, rfl, J, nb, (up.trans up3).trans up4, .inr (.inr (by rw [hs]; exact hh4)), na, os, ag, w⟩)
        unfold PySem.passOn
        refine wpAny_bind (wpAny_field he hd h1 ?_)
        rw [if_neg (show ¬ ((Value.ref T == Value.none) = true) from by simp)]
        first
          | exact wpAny_bind (wpAny_pure (wpAny_bind fin))
          | exact wpAny_bind fin
      | @cons x n c i ts b₀ suite np pos' hds2 l2 hi hln hc hsu r ih =>
        intro w
        obtain ⟨b, hb1, hyes, hno⟩ := w
        refine wpAny_handleBy_cons (codeAny_handlers_test ?_) (by intro q; cases q)
        have LT : PySem.W.Looks (model X.prog X.w) h3 (typeOf (.ref a)) cls := fun A Q E s k q => wpAny_typeOf_ref (k _ _ he3) (by rw [hz3.1]; exact q)
        have LM := PySem.W.exm_one (M := model X.prog X.w) J3.kIn LT hb1
        have test : ∀ {Q : Value → Shared → Prop} {E : Value → Shared → Prop}, Q c { s' with heap := h3 } → wpAny (model X.prog X.w) (X.A.mark (some (.ref a))) (eval (.Name x np) X.env) Q E { s' with heap := h3 } := fun {Q E} q => by
          obtain ⟨hg, hdbg, hm⟩ := hc
          rcases hm with hm | ⟨hm, hv, hnn⟩
          · exact ld_glob (X := X.suite a ((a, oe3) :: (X.pn ++ pins))) S3 hg hm q hdbg
          · exact ld_blt (X := X.suite a ((a, oe3) :: (X.pn ++ pins))) S3 hg hm hv q hnn hdbg
        refine test (LM.here ?_)
        cases b with
        | false => exact ih (hno rfl)
        | true =>
          refine codeAny_handlers_suite_as (HandSPX.lands_againZ fl3 fun h4 fl4 up4 => ?_)
          have J4 : Inv X pins σ' H' { s' with heap := h4 } := J.landed nb fl4.1 ((up.trans up3).trans up4) os ag
          obtain ⟨oe4, vs4, he4, hz4, hd4⟩ := fl4.there
          have S4 := J4.suite he4 hd4 na nL nF
          refine store_ok (X := X.suite a ((a, oe4) :: (X.pn ++ pins))) (v := .ref a) S4 hN hi (.inl hln) rfl (fun s5 S5 => ?_) (.inr hln)
          refine wpAny_mono ((hsu a oe4 cls d (X.pn ++ pins) hz4 ⟨_, hd4⟩).run [] s5 _ H' _ S5 (hyes rfl a na)) (fun f s6 hsp => ?_) (fun _ _ z => False.elim z)
          have fin : ∀ {σ6 : St} {H6 : Hp} {Q : Shared → Prop}, Inv (X.suite a ((a, oe4) :: (X.pn ++ pins))) [] σ6 H6 s6 → (∀ s7, Inv X pins (σ6.set i none) H6 s7 → Q s7) →
              wpAny (model X.prog X.w) X.A (do bindName X.env n .none; unbindBehindTheSuite X.env n pos') (fun _ s7 => Q s7) X.xe s6 := fun {σ6 H6 Q} S6 hq => gone_ok (S6.unsuite ok) hN hi hln hq
          cases f with
          | next =>
            obtain ⟨σ6, H6, S6, q6⟩ := hsp
            exact fin S6 fun s7 J7 => ⟨_, _, J7, q6⟩
          | brk =>
            obtain ⟨σ6, H6, S6, q6⟩ := hsp
            exact fin S6 fun s7 J7 => ⟨_, _, J7, q6⟩
          | cont =>
            obtain ⟨σ6, H6, S6, q6⟩ := hsp
            exact fin S6 fun s7 J7 => ⟨_, _, J7, q6⟩
          | ret u =>
            obtain ⟨v6, σ6, H6, S6, r6, q6⟩ := hsp
            exact fin S6 fun s7 J7 => ⟨_, _, _, J7, r6, q6⟩
    exact go hh w
  · cases f with
    | next =>
      obtain ⟨σ', H', J', q⟩ := hsp
      exact wpAny_execs_nil ⟨σ', H', J'.ofTry ok, q⟩
    | brk =>
      obtain ⟨σ', H', J', q⟩ := hsp
      exact ⟨σ', H', J'.ofTry ok, q⟩
    | cont =>
      obtain ⟨σ', H', J', q⟩ := hsp
      exact ⟨σ', H', J'.ofTry ok, q⟩
    | ret u =>
      obtain ⟨v, σ', H', J', r, q⟩ := hsp
      exact ⟨v, σ', H', J'.ofTry ok, r, q⟩
end
end L2

/-! ### != of two lists whose items are compared within one model -/
namespace PySem.SeqAt
open AutoSeq1 (wpAny_loadPart')
open MeetsSeq MeetsSeq2 MeetsSeq3 SeqRoads2
section
variable {prog : Program} {w : World}
theorem neIn_go (l b : Addr) (xs ys : Array Value) (n n2 : Nat) (dd dd2 : Option Addr) (sl sl2 : Array (Option Value)) (hsz : xs.size = ys.size) (e : Nat → Bool) (k : Nat) :
    ∀ i : Nat, xs.size - i = k → MeetsIn prog w (Builtin.«list.__eq__.loop» ⟨[.ref l, .ref b, rawInt i, rawInt 3], []⟩)
      (fun A R s => s.heap.get? l = some { cls := .type "list", dict := dd, data := .seq xs n, slots := sl } ∧ s.heap.get? b = some { cls := .type "list", dict := dd2, data := .seq ys n2, slots := sl2 } ∧
        (∀ j (h1 : j < xs.size) (h2 : j < ys.size), EqIn prog w A.in1 s xs[j] ys[j] (e j)) ∧ R (.ok (.ret (.bool (!((List.range xs.size).drop i).all e)))) s) := by
  induction k with
  | zero =>
    intro i hk A R s h
    obtain ⟨hp, g, d, tk, os⟩ := s
    obtain ⟨hl, hb, he, h⟩ := h
    wp_walk using wpAny_loadPart' hl, wpAny_loadPart' hb
    rw [show ((List.range xs.size).drop i) = [] by simp; omega] at h
    rw [show xs[((i : Nat) : Int).toNat]? = none by simp; omega, show ys[((i : Nat) : Int).toNat]? = none by simp; omega]
    wp_walk using wpAny_loadPart' hl, wpAny_loadPart' hb
    show R (.ok (.ret (.bool (xs.size != ys.size)))) _
    rw [hsz]
    simpa using h
  | succ k ih =>
    intro i hk A R s h
    obtain ⟨hp, g, d, tk, os⟩ := s
    obtain ⟨hl, hb, he, h⟩ := h
    wp_walk using wpAny_loadPart' hl, wpAny_loadPart' hb
    have l1 : i < xs.size := by omega
    have l2 : i < ys.size := by omega
    have g1 : xs[((i : Nat) : Int).toNat]? = some xs[i] := by simp [l1]
    have g2 : ys[((i : Nat) : Int).toNat]? = some ys[i] := by simp [l2]
    rw [show (List.range xs.size).drop i = i :: (List.range xs.size).drop (i + 1) by simp [List.drop_eq_getElem_cons, l1], List.all_cons] at h
    rw [g1, g2]
    refine wpAny_bind (he i l1 l2 _ _ ?_)
    cases hv : e i with
    | true =>
      rw [hv] at h
      wp_walk
      rw [show ((i : Int) + 1) = ((i + 1 : Nat) : Int) by push_cast; rfl]
      exact ⟨plainId_quiet plain_eq_loop _, codeAny_builtin entry_eq_loop (by
        rw [Around.under_plainId plain_eq_loop _]
        exact ih (i + 1) (by omega) A R _ ⟨hl, hb, he, by simpa using h⟩)⟩
    | false =>
      rw [hv] at h
      wp_walk using wpAny_loadPart' hl, wpAny_loadPart' hb
      rw [g1, g2]
      wp_walk
      simpa using h
theorem neIn_list (l b : Addr) (xs ys : Array Value) (n n2 : Nat) (dd dd2 : Option Addr) (sl sl2 : Array (Option Value)) (hsz : xs.size = ys.size) (e : Nat → Bool) :
    MeetsIn prog w (Builtin.«list.__ne__» ⟨[.ref l, .ref b], []⟩)
      (fun A R s => s.heap.get? l = some { cls := .type "list", dict := dd, data := .seq xs n, slots := sl } ∧ s.heap.get? b = some { cls := .type "list", dict := dd2, data := .seq ys n2, slots := sl2 } ∧
        (∀ j (h1 : j < xs.size) (h2 : j < ys.size), EqIn prog w A.in1 s xs[j] ys[j] (e j)) ∧ R (.ok (.ret (.bool (!(List.range xs.size).all e)))) s) := by
  intro A R s h
  obtain ⟨hp, g, d, tk, os⟩ := s
  obtain ⟨hl, hb, he, h⟩ := h
  have f3 := AutoSeq1.sub_list_list
  have hne : ¬ (xs.size != ys.size) = true := by simp [hsz]
  wp_walk using wpAny_loadPart' hl, wpAny_loadPart' hb
  exact ⟨plainId_quiet plain_eq_loop _, codeAny_builtin entry_eq_loop (by
    rw [Around.under_plainId plain_eq_loop _]
    exact neIn_go l b xs ys n n2 dd dd2 sl sl2 hsz e _ 0 rfl A R _ ⟨hl, hb, he, by simpa using h⟩)⟩
theorem neIn_lists {A : Around} {s : Shared} {E : Value → Shared → Prop} {l b : Addr} {xs ys : Array Value} {e : Nat → Bool} {Q : Value → Shared → Prop} (hl : s.heap.IsList l xs) (hb : s.heap.IsList b ys) (hsz : xs.size = ys.size) (hu : A.units < cLine)
    (he : ∀ j (h1 : j < xs.size) (h2 : j < ys.size), EqIn prog w A.in1 s xs[j] ys[j] (e j)) (h : Q (.bool (!(List.range xs.size).all e)) s) : wpAny (model prog w) A (richCompare .NotEq (.ref l) (.ref b)) Q E s := by
  obtain ⟨⟨cls, dd, data, sl⟩, ho, hc, n, hd⟩ := id hl
  obtain ⟨⟨cls2, dd2, data2, sl2⟩, ho2, hc2, n2, hd2⟩ := id hb
  simp only at hc hd hc2 hd2
  subst hc hd hc2 hd2
  exact wpAny_richCompare_same_room (T := "list") (op := .NotEq) ⟨_, ho, rfl⟩ ⟨_, ho2, rfl⟩ F.slot_list_ne (call_meetsIn F.slot_list_ne ⟨_, ho, rfl⟩ F.entry_list_ne (F.args_list_ne_2 _ _) (neIn_list l b xs ys n n2 dd dd2 sl sl2 hsz e)
    ⟨ho, ho2, he, show Value.bool (!(List.range xs.size).all e) ≠ Value.notImplemented ∧ Q (.bool (!(List.range xs.size).all e)) s from ⟨(fun x => nomatch x), h⟩⟩) hu
end
end PySem.SeqAt
namespace PySem.W
open PySem.SeqAt (EqAt)
theorem KeqHits.of_all {K : Type} [DecidableEq K] {A : Around} {s : Shared} {kb : List (K × Value)} {e : K → Bool} : ∀ (r : List (K × Value)), (∀ k v y, (k, v) ∈ r → valueAt kb k = some y → EqAt A s v y (e k)) →
    KeqHits A s kb r (r.all fun p => (valueAt kb p.1).isSome && e p.1)
  | [], _ => .nil
  | (k, v) :: r, h => by
    cases hv : valueAt kb k with
    | none =>
      rw [show (((k, v) :: r).all fun p => (valueAt kb p.1).isSome && e p.1) = false by simp [hv]]
      exact .miss hv
    | some y =>
      rw [show (((k, v) :: r).all fun p => (valueAt kb p.1).isSome && e p.1) = (e k && r.all fun p => (valueAt kb p.1).isSome && e p.1) by simp [hv]]
      exact .hit hv (h k v y List.mem_cons_self hv) (KeqHits.of_all r fun k' v' y' hm hv' => h k' v' y' (List.mem_cons_of_mem _ hm) hv')
end PySem.W
namespace L2
open PySem PySem.Spec PyProof.Rows
/-- x == y answers the Bool, nested at most n deep; data of plain kinds want 64 -/
inductive Eqv (K : PySem.W.Frag) (H : Hp) : Nat → V → V → Bool → Prop
  | flat {n : Nat} {x y : V} : flatV x = true → flatV y = true → Eqv K H n x y (eqV x y)
  | same {n : Nat} {a : Addr} : Eqv K H n (.ref a) (.ref a) true
  | data {n : Nat} {x y : V} {d e : PyData} : 64 ≤ n → Dp K H x d → Dp K H y e → SeqAt.shaped d = true → SeqAt.shaped e = true → Eqv K H n x y (PyData.eqv d e)
  | lists {n : Nat} {a b : Addr} {xs ys : List V} {e : Nat → Bool} : a ≠ b → SqL K H a xs → SqL K H b ys → xs.length = ys.length → (∀ j x y, xs[j]? = some x → ys[j]? = some y → Eqv K H n x y (e j)) →
      Eqv K H (n + 1) (.ref a) (.ref b) ((List.range xs.length).all e)
  | listsLen {n : Nat} {a b : Addr} {xs ys : List V} : a ≠ b → SqL K H a xs → SqL K H b ys → xs.length ≠ ys.length → Eqv K H (n + 1) (.ref a) (.ref b) false
  | tups {n : Nat} {a b : Addr} {xs ys : List V} {e : Nat → Bool} : a ≠ b → SqT K H a xs → SqT K H b ys → (∀ j x y, xs[j]? = some x → ys[j]? = some y → Eqv K H n x y (e j)) →
      Eqv K H (n + 1) (.ref a) (.ref b) ((List.range (min xs.length ys.length)).all e && xs.length == ys.length)
  | dicts {n : Nat} {a b : Addr} {ks ls : List (Key × V)} {e : Key → Bool} : a ≠ b → H a = some (.dK ks) → H b = some (.dK ls) → (∀ k v y, (k, v) ∈ ks → valV ls k = some y → Eqv K H n v y (e k)) →
      Eqv K H (n + 1) (.ref a) (.ref b) (ks.length == ls.length && ks.all fun p => (valV ls p.1).isSome && e p.1)
section
variable {X : Cx} {pins : List (Addr × Obj)} {σ : St} {H : Hp} {s : Shared}
theorem kv_mem {kvs : List (Key × V)} {vs : List (Key × Value)} (r : KV kvs vs) : ∀ {k : Key} {u : Value}, (k, u) ∈ vs → ∃ v, (k, v) ∈ kvs ∧ RelV v u := by
  unfold KV at r
  induction r with
  | nil => intro k u h; cases h
  | @cons p q ps qs h t ih =>
    intro k u hm
    rcases List.mem_cons.mp hm with e | hm
    · subst e
      obtain ⟨h1, h2⟩ := h
      exact ⟨p.2, by rw [← show p.1 = k from h1]; exact List.mem_cons_self, h2⟩
    · obtain ⟨v, h1, h2⟩ := ih hm
      exact ⟨v, List.mem_cons_of_mem _ h1, h2⟩
theorem vals_at {xs : List V} {us : List Value} (r : Vals xs us) (j : Nat) (h : j < us.toArray.size) : ∃ x, xs[j]? = some x ∧ RelV x us.toArray[j] := by
  have hj : j < us.length := by simpa using h
  have hx : j < xs.length := by rw [r.length]; exact hj
  obtain ⟨u, hu, ru⟩ := r.get (List.getElem?_eq_getElem hx)
  refine ⟨_, List.getElem?_eq_getElem hx, ?_⟩
  rw [List.getElem?_eq_getElem hj] at hu
  have e : us.toArray[j] = u := by
    rw [← Option.some.inj hu]
    simp
  rw [e]
  exact ru
theorem tup_of {h : Heap} {a : Addr} {its : Array Value} (t : IsTup h a its) : h.IsTuple a its := by
  obtain ⟨o, h1, h2, n, h3⟩ := t
  exact ⟨o, h1, h2, n, h3⟩
theorem val_is {ls : List (Key × V)} {vb : List (Key × Value)} (rb : KV ls vb) {k : Key} {y : Value} (hv : valueAt vb k = some y) : ∃ y0, valV ls k = some y0 ∧ RelV y0 y := by
  have q := rb.val k
  rw [hv] at q
  cases h3 : valV ls k with
  | none => rw [h3] at q; exact q.elim
  | some y0 => rw [h3] at q; exact ⟨y0, rfl, q⟩
theorem hits_allV {ks ls : List (Key × V)} {va vb : List (Key × Value)} (e : Key → Bool) (ra : KV ks va) (rb : KV ls vb) : (ks.all fun p => (valV ls p.1).isSome && e p.1) = va.all fun p => (valueAt vb p.1).isSome && e p.1 := by
  have hk : ks.map (·.1) = va.map (·.1) := ra.keys
  have hs : ∀ k : Key, (valV ls k).isSome = (valueAt vb k).isSome := fun k => by
    have q := rb.val k
    cases h3 : valV ls k <;> cases h4 : valueAt vb k <;> rw [h3, h4] at q <;> first | rfl | exact q.elim
  have f : ∀ l : List (Key × V), (l.all fun p => (valV ls p.1).isSome && e p.1) = (l.map (·.1)).all fun k => (valueAt vb k).isSome && e k := fun l => by
    rw [List.all_map]
    congr 1
    funext p
    rw [hs p.1]
    rfl
  rw [f, hk, List.all_map]
  rfl
theorem Eqv.tree (I : Inv X pins σ H s) {n : Nat} {x y : V} {r : Bool} (t : Eqv X.K H n x y r) : ∀ {v u : Value}, RelV x v → RelV y u → PySem.W.EqTree X.prog X.w s n v u r := by
  induction t with
  | flat h1 h2 => exact fun rv ru => .leaf fun A _ => eqAt_V rv ru h1 h2
  | same =>
    intro v u rv ru
    obtain rfl : v = _ := rv
    obtain rfl : u = _ := ru
    exact .same
  | data hn d1 d2 s1 s2 =>
    intro v u rv ru
    obtain ⟨as, r1⟩ := Dp.reads I _ _ _ d1 rv
    obtain ⟨bs, r2⟩ := Dp.reads I _ _ _ d2 ru
    exact .leaf fun A hu => SeqAt.eqAt_reads _ _ A s _ _ _ _ r1 r2 (SeqAt.canLay_of_shaped s1) (SeqAt.canLay_of_shaped s2) (SeqAt.room_of_shaped s1 (by omega))
  | @lists n a b xs ys e hne h1 h2 hl _ ih =>
    intro v u rv ru
    obtain rfl : v = _ := rv
    obtain rfl : u = _ := ru
    obtain ⟨us, r1, p1, _⟩ := I.list h1
    obtain ⟨ws, r2, p2, _⟩ := I.list h2
    have e1 : xs.length = us.toArray.size := by rw [r1.length]; simp
    have e2 : ys.length = ws.toArray.size := by rw [r2.length]; simp
    rw [e1]
    refine .lists hne p1.isList p2.isList (by rw [← e1, ← e2, hl]) fun j j1 j2 => ?_
    obtain ⟨x, hx, rx⟩ := vals_at r1 j j1
    obtain ⟨y, hy, ry⟩ := vals_at r2 j j2
    exact ih j x y hx hy rx ry
  | @listsLen n a b xs ys hne h1 h2 hl =>
    intro v u rv ru
    obtain rfl : v = _ := rv
    obtain rfl : u = _ := ru
    obtain ⟨us, r1, p1, _⟩ := I.list h1
    obtain ⟨ws, r2, p2, _⟩ := I.list h2
    refine .listsLen hne p1.isList p2.isList ?_
    have e1 := r1.length
    have e2 := r2.length
    simp only [List.size_toArray, bne_iff_ne]
    omega
  | @tups n a b xs ys e hne h1 h2 _ ih =>
    intro v u rv ru
    obtain rfl : v = _ := rv
    obtain rfl : u = _ := ru
    obtain ⟨us, r1, p1, _⟩ := I.tuple h1
    obtain ⟨ws, r2, p2, _⟩ := I.tuple h2
    have e1 : xs.length = us.toArray.size := by rw [r1.length]; simp
    have e2 : ys.length = ws.toArray.size := by rw [r2.length]; simp
    rw [e1, e2]
    refine .tuples hne (tup_of p1) (tup_of p2) fun j j1 j2 => ?_
    obtain ⟨x, hx, rx⟩ := vals_at r1 j j1
    obtain ⟨y, hy, ry⟩ := vals_at r2 j j2
    exact ih j x y hx hy rx ry
  | @dicts n a b ks ls e hne h1 h2 _ ih =>
    intro v u rv ru
    obtain rfl : v = _ := rv
    obtain rfl : u = _ := ru
    obtain ⟨_, ya, va, ra, da⟩ := (show ObjOk X.prog X.w H s.heap a (.dK ks) from I.hok a _ h1)
    obtain ⟨_, yb, vb, rb, db⟩ := (show ObjOk X.prog X.w H s.heap b (.dK ls) from I.hok b _ h2)
    have ea : ks.length = va.length := ra.length
    have eb : ls.length = vb.length := rb.length
    have eall := hits_allV e ra rb
    rw [eall, ea, eb]
    refine .dicts hne ya yb da db fun k v y hm hv => ?_
    obtain ⟨v0, hm0, rv0⟩ := kv_mem ra hm
    obtain ⟨y0, hy0, ry0⟩ := val_is rb hv
    exact ih k v0 y0 hm0 hy0 rv0 ry0
end
section
variable {X : Cx}
/-- a == b of two lists, two tuples, two dicts -/
def rEqT (K : PySem.W.Frag) : R2 := fun x y H Q =>
  (∃ a b xs ys e, x = .ref a ∧ y = .ref b ∧ SqL K H a xs ∧ SqL K H b ys ∧ xs.length = ys.length ∧ (∀ j x y, xs[j]? = some x → ys[j]? = some y → Eqv K H 70 x y (e j)) ∧ Q (.bl ((List.range xs.length).all e)) H) ∨
  (∃ a b xs ys e, x = .ref a ∧ y = .ref b ∧ SqT K H a xs ∧ SqT K H b ys ∧ (∀ j x y, xs[j]? = some x → ys[j]? = some y → Eqv K H 70 x y (e j)) ∧ Q (.bl ((List.range (min xs.length ys.length)).all e && xs.length == ys.length)) H) ∨
  (∃ (a b : Addr) (ks ls : List (Key × V)) (e : Key → Bool), x = .ref a ∧ y = .ref b ∧ H a = some (.dK ks) ∧ H b = some (.dK ls) ∧ (∀ k v y, (k, v) ∈ ks → valV ls k = some y → Eqv K H 70 v y (e k)) ∧ Q (.bl (ks.length == ls.length && ks.all fun p => (valV ls p.1).isSome && e p.1)) H)
theorem op_eqT (hu : X.A.units + 100 < cLine) : OpR X (compareOp .Eq) (rEqT X.K) := by
  intro pins s σ H x y v u Q I rx ry h
  rcases h with ⟨a, b, xs, ys, e, rfl, rfl, h1, h2, hl, he, q⟩ | ⟨a, b, xs, ys, e, rfl, rfl, h1, h2, he, q⟩ | ⟨a, b, ks, ls, e, rfl, rfl, h1, h2, he, q⟩
  · obtain rfl : v = _ := rx
    obtain rfl : u = _ := ry
    obtain ⟨us, r1, p1, _⟩ := I.list h1
    obtain ⟨ws, r2, p2, _⟩ := I.list h2
    have e1 : xs.length = us.toArray.size := by rw [r1.length]; simp
    have e2 : ys.length = ws.toArray.size := by rw [r2.length]; simp
    refine PySem.W.eq_listsT (n := 70) (e := e) p1.isList p2.isList (by rw [← e1, ← e2, hl]) (fun j j1 j2 => ?_) (by omega) ⟨.bl _, H, I, rfl, by rw [← e1]; exact q⟩
    obtain ⟨x, hx, rx⟩ := vals_at r1 j j1
    obtain ⟨y, hy, ry⟩ := vals_at r2 j j2
    exact (he j x y hx hy).tree I rx ry
  · obtain rfl : v = _ := rx
    obtain rfl : u = _ := ry
    obtain ⟨us, r1, p1, _⟩ := I.tuple h1
    obtain ⟨ws, r2, p2, _⟩ := I.tuple h2
    have e1 : xs.length = us.toArray.size := by rw [r1.length]; simp
    have e2 : ys.length = ws.toArray.size := by rw [r2.length]; simp
    refine PySem.W.eq_tuplesT (n := 70) (e := e) (tup_of p1) (tup_of p2) (fun j j1 j2 => ?_) (by omega) ⟨.bl _, H, I, rfl, by rw [← e1, ← e2]; exact q⟩
    obtain ⟨x, hx, rx⟩ := vals_at r1 j j1
    obtain ⟨y, hy, ry⟩ := vals_at r2 j j2
    exact (he j x y hx hy).tree I rx ry
  · obtain rfl : v = _ := rx
    obtain rfl : u = _ := ry
    obtain ⟨_, ya, va, ra, da⟩ := (show ObjOk X.prog X.w H s.heap a (.dK ks) from I.hok a _ h1)
    obtain ⟨_, yb, vb, rb, db⟩ := (show ObjOk X.prog X.w H s.heap b (.dK ls) from I.hok b _ h2)
    refine PySem.W.eq_dictsT (n := 70) (e := e) ya yb da db (fun k v y hm hv => ?_) (by omega) ⟨.bl _, H, I, rfl, by rw [← hits_allV e ra rb, ← show ks.length = va.length from ra.length, ← show ls.length = vb.length from rb.length]; exact q⟩
    obtain ⟨v0, hm0, rv0⟩ := kv_mem ra hm
    obtain ⟨y0, hy0, ry0⟩ := val_is rb hv
    exact (he k v0 y0 hm0 hy0).tree I rv0 ry0
/-- a != b of two lists -/
def rNeT (K : PySem.W.Frag) : R2 := fun x y H Q => ∃ (a b : Addr) (xs ys : List V) (e : Nat → Bool), x = .ref a ∧ y = .ref b ∧ SqL K H a xs ∧ SqL K H b ys ∧ xs.length = ys.length ∧ (∀ j x y, xs[j]? = some x → ys[j]? = some y → Eqv K H 70 x y (e j)) ∧
  Q (.bl (!(List.range xs.length).all e)) H
theorem op_neT (hu : X.A.units + 100 < cLine) : OpR X (compareOp .NotEq) (rNeT X.K) := by
  intro pins s σ H x y v u Q I rx ry h
  obtain ⟨a, b, xs, ys, e, rfl, rfl, h1, h2, hl, he, q⟩ := h
  obtain rfl : v = _ := rx
  obtain rfl : u = _ := ry
  obtain ⟨us, r1, p1, _⟩ := I.list h1
  obtain ⟨ws, r2, p2, _⟩ := I.list h2
  have e1 : xs.length = us.toArray.size := by rw [r1.length]; simp
  have e2 : ys.length = ws.toArray.size := by rw [r2.length]; simp
  refine SeqAt.neIn_lists (e := e) p1.isList p2.isList (by rw [← e1, ← e2, hl]) (by omega) (fun j j1 j2 => ?_) ⟨.bl _, H, I, rfl, by rw [← e1]; exact q⟩
  obtain ⟨x, hx, rx⟩ := vals_at r1 j j1
  obtain ⟨y, hy, ry⟩ := vals_at r2 j j2
  exact ((he j x y hx hy).tree I rx ry).at X.A.in1 (by show X.A.units + 1 + 70 < cLine; omega)
/-- a != b of two dicts of the same keys and equal plain values -/
def rNeDc (K : PySem.W.Frag) : R2 := fun x y H Q => ∃ (a b : Addr) (ks ls : List (Key × V)) (e : Key → Bool), x = .ref a ∧ y = .ref b ∧ H a = some (.dK ks) ∧ H b = some (.dK ls) ∧
  (∀ k v y, (k, v) ∈ ks → valV ls k = some y → (flatV v = true ∧ flatV y = true ∧ e k = eqV v y) ∨ ((∃ a, v = .ref a ∧ y = .ref a) ∧ e k = true)) ∧ Q (.bl (!(ks.length == ls.length && ks.all fun p => (valV ls p.1).isSome && e p.1))) H
theorem op_neDc (hu : X.A.units + 100 < cLine) : OpR X (compareOp .NotEq) (rNeDc X.K) := by
  intro pins s σ H x y v u Q I rx ry h
  obtain ⟨a, b, ks, ls, e, rfl, rfl, h1, h2, he, q⟩ := h
  obtain rfl : v = _ := rx
  obtain rfl : u = _ := ry
  obtain ⟨_, ya, va, ra, da⟩ := (show ObjOk X.prog X.w H s.heap a (.dK ks) from I.hok a _ h1)
  obtain ⟨_, yb, vb, rb, db⟩ := (show ObjOk X.prog X.w H s.heap b (.dK ls) from I.hok b _ h2)
  refine PySem.W.keq_ne ya yb da db (by omega) (fun _ => PySem.W.KeqHits.of_all (e := e) va fun k v y hm hv => ?_) ⟨.bl _, H, I, rfl, by rw [← hits_allV e ra rb, ← show ks.length = va.length from ra.length, ← show ls.length = vb.length from rb.length]; exact q⟩
  obtain ⟨v0, hm0, rv0⟩ := kv_mem ra hm
  obtain ⟨y0, hy0, ry0⟩ := val_is rb hv
  rcases he k v0 y0 hm0 hy0 with ⟨f1, f2, f3⟩ | ⟨⟨a, rfl, rfl⟩, f3⟩
  · rw [f3]
    exact eqAt_V rv0 ry0 f1 f2
  · obtain rfl : v = _ := rv0
    obtain rfl : y = _ := ry0
    rw [f3]
    exact SeqAt.EqAt.same _
end
end L2

namespace L2
open PySem PySem.Spec PyProof.Rows
/-! ### the drawing state: s holds [big, cells, counter]; G is what the others see -/
structure VS (s b c : Addr) (n : Int) (bs cs : List Int) (G H : Hp) : Prop where
  sub : Same G H
  gs : G s = none
  gb : G b = none
  gc : G c = none
  bs' : b ≠ s
  cs' : c ≠ s
  bc : b ≠ c
  hs : H s = some (.lst [.ref b, .ref c, .int n])
  hb : H b = some (.lst (bs.map V.int))
  hc : H c = some (.lst (cs.map V.int))
  nn : ∀ x ∈ bs, (0 : Int) ≤ x
  lb : bs.length ≤ 63
  lc : 0 < cs.length ∧ cs.length ≤ 64
  n0 : 0 ≤ n
def View (s : Addr) (N : Nat) (G H : Hp) : Prop := ∃ b c n bs cs, VS s b c n bs cs G H ∧ n ≤ (N : Int)
theorem same_of_none {H : Hp} {p : Addr} {o : HO} (h : H p = none) : Same H (upd H p o) := fun b x e => by
  rw [upd_ne (ne_of_none e h)]
  exact e
/-- what the others do not see may change -/
theorem Same.unseen {G H : Hp} {p : Addr} {o : HO} (e : Same G H) (h : G p = none) : Same G (upd H p o) := fun b x g => by
  rw [upd_ne (ne_of_none g h)]
  exact e _ _ g
theorem View.sub {s : Addr} {N : Nat} {G H : Hp} (v : View s N G H) : Same G H := let ⟨_, _, _, _, _, k, _⟩ := v; k.sub
theorem View.gs {s : Addr} {N : Nat} {G H : Hp} (v : View s N G H) : G s = none := let ⟨_, _, _, _, _, k, _⟩ := v; k.gs
theorem View.mono {s : Addr} {N M : Nat} {G H : Hp} (v : View s N G H) (h : N ≤ M) : View s M G H :=
  let ⟨b, c, n, bs, cs, k, l⟩ := v; ⟨b, c, n, bs, cs, k, by omega⟩
theorem VS.ext {s b c : Addr} {n : Int} {bs cs : List Int} {G H H' : Hp} (k : VS s b c n bs cs G H) (e : Same H H') : VS s b c n bs cs G H' :=
  { k with sub := k.sub.trans e, hs := e _ _ k.hs, hb := e _ _ k.hb, hc := e _ _ k.hc }
theorem View.ext {s : Addr} {N : Nat} {G H H' : Hp} (v : View s N G H) (e : Same H H') : View s N G H' :=
  let ⟨b, c, n, bs, cs, k, l⟩ := v; ⟨b, c, n, bs, cs, k.ext e, l⟩
/-- a new object, seen from now on -/
theorem View.see {s : Addr} {N : Nat} {G H H' : Hp} {p : Addr} {o : HO} (v : View s N G H) (e : Same H H') (n : H p = none) (h : H' p = some o) : View s N (upd G p o) H' := by
  obtain ⟨b, c, i, bs, cs, k, l⟩ := v
  have f : ∀ q u, H q = some u → p ≠ q := fun q u hq z => by rw [z, hq] at n; cases n
  refine ⟨b, c, i, bs, cs, { k.ext e with sub := fun q u hq => ?_, gs := ?_, gb := ?_, gc := ?_ }, l⟩
  · by_cases hqp : q = p
    · subst hqp
      rw [upd_same] at hq
      cases hq
      exact h
    · rw [upd_ne hqp] at hq
      exact e _ _ (k.sub _ _ hq)
  · rw [upd_ne (f _ _ k.hs).symm]; exact k.gs
  · rw [upd_ne (f _ _ k.hb).symm]; exact k.gb
  · rw [upd_ne (f _ _ k.hc).symm]; exact k.gc
theorem View.new {s : Addr} {N : Nat} {G H : Hp} {p : Addr} {o : HO} (v : View s N G H) (n : H p = none) : View s N (upd G p o) (upd H p o) := v.see (same_of_none n) n upd_same
/-- an object that is seen, stored to -/
theorem View.put {s : Addr} {N : Nat} {G H : Hp} {p : Addr} {u o : HO} (v : View s N G H) (h : G p = some u) : View s N (upd G p o) (upd H p o) := by
  obtain ⟨b, c, i, bs, cs, k, l⟩ := v
  have f : ∀ q, G q = none → q ≠ p := fun q hq z => by rw [z, h] at hq; cases hq
  refine ⟨b, c, i, bs, cs, ⟨fun q x hq => ?_, ?_, ?_, ?_, k.bs', k.cs', k.bc, ?_, ?_, ?_, k.nn, k.lb, k.lc, k.n0⟩, l⟩
  · by_cases hqp : q = p
    · subst hqp
      rw [upd_same] at hq ⊢
      exact hq
    · rw [upd_ne hqp] at hq ⊢
      exact k.sub _ _ hq
  · rw [upd_ne (f _ k.gs)]; exact k.gs
  · rw [upd_ne (f _ k.gb)]; exact k.gb
  · rw [upd_ne (f _ k.gc)]; exact k.gc
  · rw [upd_ne (f _ k.gs)]; exact k.hs
  · rw [upd_ne (f _ k.gb)]; exact k.hb
  · rw [upd_ne (f _ k.gc)]; exact k.hc
theorem VS.count {s b c : Addr} {n : Int} {bs cs : List Int} {G H : Hp} (k : VS s b c n bs cs G H) : VS s b c (n + 1) bs cs G (upd H s (.lst [.ref b, .ref c, .int (n + 1)])) where
  sub := k.sub.unseen k.gs
  gs := k.gs
  gb := k.gb
  gc := k.gc
  bs' := k.bs'
  cs' := k.cs'
  bc := k.bc
  hs := upd_same
  hb := by rw [upd_ne k.bs']; exact k.hb
  hc := by rw [upd_ne k.cs']; exact k.hc
  nn := k.nn
  lb := k.lb
  lc := k.lc
  n0 := by have := k.n0; omega
/-- another big list in the first place -/
theorem VS.big {s b c p : Addr} {n y : Int} {r cs : List Int} {G H : Hp} (k : VS s b c n (y :: r) cs G H) (hp : H p = none) :
    VS s p c n r cs G (upd (upd H p (.lst (r.map V.int))) s (.lst [.ref p, .ref c, .int n])) := by
  have ps : p ≠ s := fun z => by rw [z, k.hs] at hp; cases hp
  have pc : p ≠ c := fun z => by rw [z, k.hc] at hp; cases hp
  exact { sub := (k.sub.unseen (k.sub.free hp)).unseen k.gs, gs := k.gs, gb := k.sub.free hp, gc := k.gc, bs' := ps, cs' := k.cs', bc := pc, hs := upd_same,
          hb := by rw [upd_ne ps, upd_same], hc := by rw [upd_ne k.cs', upd_ne pc.symm]; exact k.hc, nn := fun x hx => k.nn x (List.mem_cons_of_mem _ hx),
          lb := by have := k.lb; rw [List.length_cons] at this; omega, lc := k.lc, n0 := k.n0 }
/-- the big list's head, changed -/
theorem VS.head {s b c : Addr} {n y z : Int} {r cs : List Int} {G H : Hp} (k : VS s b c n (y :: r) cs G H) (hz : 0 ≤ z) : VS s b c n (z :: r) cs G (upd H b (.lst ((z :: r).map V.int))) where
  sub := k.sub.unseen k.gb
  gs := k.gs
  gb := k.gb
  gc := k.gc
  bs' := k.bs'
  cs' := k.cs'
  bc := k.bc
  hs := by rw [upd_ne k.bs'.symm]; exact k.hs
  hb := upd_same
  hc := by rw [upd_ne k.bc.symm]; exact k.hc
  nn := fun x hx => by
    rcases List.mem_cons.mp hx with rfl | hx
    · exact hz
    · exact k.nn x (List.mem_cons_of_mem _ hx)
  lb := k.lb
  lc := k.lc
  n0 := k.n0
/-- a seen object is left out of sight -/
theorem Same.free' {G H : Hp} {p : Addr} (e : Same G H) (h : H p = none) : G p = none := e.free h
/-! ### lists of ints -/
theorem dpAll_ints {K : PySem.W.Frag} {H : Hp} : ∀ ns : List Int, DpAll K H (ns.map V.int) (ns.map PyData.int)
  | [] => .nil
  | i :: r => .cons (.int i) (dpAll_ints r)
theorem dpAll_strs {K : PySem.W.Frag} {H : Hp} : ∀ ns : List Str, DpAll K H (ns.map V.str) (ns.map PyData.str)
  | [] => .nil
  | i :: r => .cons (.str i) (dpAll_strs r)
theorem cut1 (x : V) (xs : List V) : cutV (x :: xs) (some 1) none = xs := by
  unfold cutV
  rw [show HT.sIx (x :: xs).length 0 (some 1) = min 1 (x :: xs).length from HT.sIx_nat (x :: xs).length 0 1, HT.sIx_none]
  rw [show min 1 (x :: xs).length = 1 by
    rw [List.length_cons]
    omega]
  show (List.take ((x :: xs).length - 1) xs) = xs
  rw [List.length_cons, Nat.add_sub_cancel]
  exact List.take_length
theorem shaped_ints : ∀ ns : List Int, SeqAt.shaped (.list (ns.map PyData.int)) = true
  | [] => rfl
  | _ :: r => shaped_ints r
/-! ### comprehensions whose parts touch nothing -/
def Is (te : TE) (σ : St) (H : Hp) (v : V) : Prop := ∀ Q : VK, Q v H → te σ H Q
def TIs (t : TT) (σ : St) (H : Hp) (b : Bool) : Prop := ∀ Q : Bool → Hp → Prop, Q b H → t σ H Q
theorem take_more {α : Type} : ∀ {l : List α} {i : Nat} {x : α}, l[i]? = some x → l.take (i + 1) = l.take i ++ [x]
  | [], i, x, h => by simp at h
  | a :: l, 0, x, h => by
    have e : a = x := Option.some.inj h
    subst e
    rfl
  | a :: l, i + 1, x, h => by
    have ih := take_more (l := l) (i := i) (x := x) h
    show a :: l.take (i + 1) = a :: l.take i ++ [x]
    rw [ih]
    rfl
theorem fm_len {α β : Type} (l : List α) (p : α → Bool) (f : α → β) : ((l.filter p).map f).length ≤ l.length := by
  rw [List.length_map]
  exact List.length_filter_le _ _
theorem lc_fm {J : It} {G : Hp → Prop} {xs : List V} (w : Walk J xs.length G (YAt xs)) {tt : TT} {te : TE} {vs : List Nat} {σ : St} {H1 : Hp} {D : Addr} {Qd : Hp → Prop} {j : Nat} (p : V → Bool) (f : V → V)
    (hD : H1 D = none) (hG : ∀ H', Same H1 H' → G H') (hl : xs.length ≤ 1000) (hw : ∀ x, wipe ((wipe σ vs).set j (some x)) vs = wipe σ vs)
    (ht : ∀ x ∈ xs, ∀ H', Same H1 H' → TIs tt ((wipe σ vs).set j (some x)) H' (p x)) (he : ∀ x ∈ xs, p x = true → ∀ H', Same H1 H' → Is te ((wipe σ vs).set j (some x)) H' (f x))
    (hd : Qd (upd H1 D (.lst ((xs.filter p).map f)))) :
    ∃ W : Nat → Nat → Hp → Prop, (∃ m, W 0 m (upd H1 D (.lst []))) ∧ ∀ i m H, W i m H →
      (J.stop i H ∧ Qd H) ∨ (J.go i H ∧ ∃ Nx : Hp → Prop, (∀ H', Nx H' → ∃ m', m' < m ∧ W (i + 1) m' H') ∧ ∀ x H', J.yld i H x H' → gName j x (wipe σ vs) H' fun σ2 H2 => wipe σ2 vs = wipe σ vs ∧ tt σ2 H2 fun b H3 =>
        if b = true then te σ2 H3 fun y H4 => ∃ acc, H4 D = some (.lst acc) ∧ acc.length < sizeLine ∧ Nx (upd H4 D (.lst (acc ++ [y]))) else Nx H3) := by
  have sm : ∀ l : List V, Same H1 (upd H1 D (.lst l)) := fun l => same_of_none hD
  refine lc_it w (fun i H => H = upd H1 D (.lst (((xs.take i).filter p).map f))) rfl (fun i H _ e => by rw [e]; exact hG _ (sm _)) (fun i x H H' hi e y => ?_) (fun H e => by rw [e, List.take_length]; exact hd)
  obtain ⟨rfl, hx⟩ := y
  subst e
  have hm : x ∈ xs := List.mem_of_getElem? hx
  have ht' := take_more hx
  refine ⟨hw x, ht x hm _ (sm _) _ ?_⟩
  cases hp : p x with
  | true =>
    refine if_pos rfl |>.mpr ?_
    refine he x hm hp _ (sm _) _ ⟨_, upd_same, small1000 (Nat.le_trans (fm_len _ _ _) (by rw [List.length_take]; omega)), ?_⟩
    rw [upd_upd, ht', List.filter_append, List.map_append, List.filter_cons, if_pos hp]
    rfl
  | false =>
    refine if_neg Bool.false_ne_true |>.mpr ?_
    rw [ht', List.filter_append, List.filter_cons, if_neg (by rw [hp]; exact Bool.false_ne_true)]
    show upd H1 D _ = upd H1 D (.lst ((((xs.take i).filter p) ++ []).map f))
    rw [List.append_nil]
/-- the signs of a text -/
def sgn (c : Nat) : V := .str ⟨#[c]⟩
def sgns (z : Str) : List V := z.cps.toList.map sgn
theorem walk_sgns {z : Str} : Walk (Its z) (sgns z).length (fun _ => True) (YAt (sgns z)) := by
  have hn : (sgns z).length = z.cps.size := by unfold sgns; simp
  rw [hn]
  refine walk_str.mono (fun _ h => h) (fun i H v H' hi _ ⟨e, c, hc, hv⟩ => ⟨e, ?_⟩)
  unfold sgns
  rw [List.getElem?_map, Array.getElem?_toList, hc, hv]
  rfl
theorem View.hide {s : Addr} {N : Nat} {G H : Hp} {p : Addr} {o : HO} (v : View s N (upd G p o) H) (h : G p = none) : View s N G H := by
  obtain ⟨b, c, n, bs, cs, k, l⟩ := v
  have f : ∀ q, upd G p o q = none → G q = none := fun q hq => by
    by_cases e : q = p
    · rw [e]; exact h
    · rw [upd_ne e] at hq; exact hq
  exact ⟨b, c, n, bs, cs, { k with sub := fun q u hq => k.sub q u (same_of_none h q u hq), gs := f _ k.gs, gb := f _ k.gb, gc := f _ k.gc }, l⟩
theorem View.free {s : Addr} {N : Nat} {G H : Hp} {p : Addr} (v : View s N G H) (h : H p = none) : G p = none := v.sub.free h
/-! ### "".join of signs -/
theorem glue_go (l : List Str) : ∀ acc : Array Nat, (l.foldl (fun acc p => acc ++ (Str.ofString "").cps ++ p.cps) acc).toList = acc.toList ++ l.flatMap (·.cps.toList) := by
  induction l with
  | nil => intro acc; simp
  | cons x r ih =>
    intro acc
    rw [List.foldl_cons, ih]
    have e : (Str.ofString "").cps = #[] := by decide +kernel
    rw [e]
    simp
theorem join_flat (l : List Str) : (Txt.join "" l).cps.toList = l.flatMap (·.cps.toList) := by
  show ((l.drop 1).foldl (fun acc p => acc ++ (Str.ofString "").cps ++ p.cps) (l.headD Str.empty).cps).toList = _
  rw [glue_go]
  cases l with
  | nil => rfl
  | cons x r => simp
theorem join_signs (cs : List Nat) : (Txt.join "" (cs.map fun c => (⟨#[c]⟩ : Str))).cps.toList = cs := by
  rw [join_flat]
  induction cs with
  | nil => rfl
  | cons c r ih => simp [ih]
theorem sgn_strs (cs : List Nat) : (cs.map fun c => (⟨#[c]⟩ : Str)).map V.str = cs.map sgn := by
  rw [List.map_map]
  rfl
theorem ones_len (cs : List Nat) : ((cs.map fun c => (⟨#[c]⟩ : Str)).map (·.length)).sum = cs.length := by
  induction cs with
  | nil => rfl
  | cons c r ih =>
    show 1 + ((r.map fun c => (⟨#[c]⟩ : Str)).map (·.length)).sum = r.length + 1
    rw [ih]
    omega
/-! ### numbers, names, texts -/
def spDraw : Sp := fun vs H Q _ => ∃ (s : Addr) (N : Nat) (G : Hp) (m : Int), vs = [.ref s, .int m] ∧ View s N G H ∧ N ≤ 1000000 ∧ 0 < m ∧ m < 2 ^ 100 ∧
  ∀ (d : Int) (H' : Hp), 0 ≤ d → d < m → View s (N + 1) G H' → Q (.int d) H'
def spStart (K : PySem.W.Frag) : Sp := fun vs H Q _ => ∃ (a : Addr) (ns : List Int), vs = [.ref a] ∧ SqL K H a (ns.map V.int) ∧ ns.length ≤ 63 ∧ ∀ (s : Addr) (H' : Hp), View s 0 H H' → Q (.ref s) H'
theorem fmod_in (x : Int) {m : Int} (h : 0 < m) : 0 ≤ x.fmod m ∧ x.fmod m < m := by
  rw [Int.fmod_eq_emod_of_nonneg x (by omega)]
  exact ⟨Int.emod_nonneg _ (by omega), Int.emod_lt_of_pos _ h⟩
theorem ix_mod (cs : List Int) (n : Int) (h : 0 < cs.length) : ∃ (j : Nat) (z : Int), n.fmod (cs.length : Int) = (j : Int) ∧ cs[j]? = some z := by
  obtain ⟨h0, h1⟩ := fmod_in n (m := (cs.length : Int)) (by omega)
  obtain ⟨j, hj⟩ := Int.eq_ofNat_of_zero_le h0
  refine ⟨j, cs[j]'(by omega), hj, List.getElem?_eq_getElem _⟩
theorem nz1 : (2147483647 : Int) ≠ 0 := by decide
theorem nz2 : (2147483629 : Int) ≠ 0 := by decide
theorem ixN_zero {y : Int} {r : List Int} : ixN ((y :: r).map V.int).length 0 = some 0 := by
  unfold ixN
  rw [if_pos (by decide), if_pos (by rw [List.length_map, List.length_cons]; omega)]
  rfl
theorem dec_true {c : Bool} {A B : Prop} (hc : c = true) (h : A) : if c = true then A else B := by rw [if_pos hc]; exact h
theorem dec_false {c : Bool} {A B : Prop} (hc : c = false) (h : B) : if c = true then A else B := by rw [hc, if_neg Bool.false_ne_true]; exact h
theorem pow5 {x : Int} (h0 : 0 ≤ x) (h : x < 2 ^ 60) : (0 : Int) ≤ 5 ∧ (5 : Int) ≤ 1000000 ∧ x.natAbs < 2 ^ 64 := ⟨by decide, by decide, by
  have : x.natAbs < 2 ^ 60 := by omega
  omega⟩
theorem wmul {i j : Int} (h0 : 0 ≤ i) (h : i < 2 ^ 40) (h1 : 0 ≤ j) (h2 : j < 2 ^ 40) : CMulW i j := wide_mul (a := 40) (b := 40) (by omega) (by omega) (by decide) (by decide) (by decide)

theorem cpow1018 : CPow 10 18 := ⟨by decide, by decide, by decide⟩

def lets : List Nat := ("abcdefghijklmnopqrstuvwxyz" : Str).cps.toList
def digs : List Nat := ("0123456789" : Str).cps.toList
def okc (c : Nat) : Bool := decide (c ∈ lets) || decide (c ∈ digs)
def goodL : List Nat → Bool
  | [] => false
  | c :: r => decide (r.length < 6) && decide (c ∈ lets) && (c :: r).all okc
def good (z : Str) : Bool := goodL z.cps.toList

def Asc (z : Str) : Prop := ∀ c ∈ z.cps.toList, c < 128
def spGood : Sp := fun vs H Q _ => ∃ z : Str, vs = [.str z] ∧ z.length ≤ 1000 ∧ Asc z ∧ ∀ H', Same H H' → Q (.bl (good z)) H'
theorem size1000 {n : Nat} (h : n ≤ 1000) : n ≤ sizeLine := Nat.le_of_lt (small1000 h)

theorem okc_cat (y : Nat) : okc y = decide (y ∈ (Str.ofString "abcdefghijklmnopqrstuvwxyz" ++ Str.ofString "0123456789").cps.toList) := by
  have e : (Str.ofString "abcdefghijklmnopqrstuvwxyz" ++ Str.ofString "0123456789").cps.toList = lets ++ digs := by decide +kernel
  rw [e]
  simp [okc, List.mem_append]
theorem shaped_go : ∀ ns : List Str, (∀ w ∈ ns, PyData.strOk w = true) → PyData.canLayAll0 (ns.map PyData.str) = true ∧ PyData.depthAll (ns.map PyData.str) = 0
  | [], _ => ⟨rfl, rfl⟩
  | x :: r, h => by
    obtain ⟨h1, h2⟩ := shaped_go r fun w hw => h w (List.mem_cons_of_mem _ hw)
    refine ⟨?_, ?_⟩
    · show (PyData.canLay0 (.str x) && PyData.canLayAll0 (r.map PyData.str)) = true
      rw [h1, Bool.and_true]
      exact h x List.mem_cons_self
    · show max (PyData.depth (.str x)) (PyData.depthAll (r.map PyData.str)) = 0
      rw [h2]
      rfl
theorem shaped_strs (ns : List Str) (h : ∀ w ∈ ns, PyData.strOk w = true) : SeqAt.shaped (.list (ns.map PyData.str)) = true := by
  obtain ⟨h1, h2⟩ := shaped_go ns h
  unfold SeqAt.shaped
  rw [Bool.and_eq_true]
  refine ⟨h1, decide_eq_true ?_⟩
  show PyData.depthAll (ns.map PyData.str) + 1 ≤ 64
  rw [h2]
  decide
theorem strOk_one {c : Nat} (h : c < 128) : PyData.strOk ⟨#[c]⟩ = true := by
  simp [PyData.strOk]
  omega
theorem bads : ∀ l : List Nat, (∀ c ∈ l, c < 128) → ∃ ws : List Str, (ws.map V.str = ((l.map sgn).filter (fun v => match v with | .str x => !(x.cps.toList.all okc) | _ => false))) ∧ PyData.eqv (.list (ws.map .str)) (.list []) = l.all okc ∧ ∀ w ∈ ws, PyData.strOk w = true
  | [], _ => ⟨[], rfl, rfl, fun _ h => nomatch h⟩
  | c :: r, ha => by
    obtain ⟨ws, h1, h2, h3⟩ := bads r fun x hx => ha x (List.mem_cons_of_mem _ hx)
    by_cases hc : okc c = true
    · refine ⟨ws, ?_, ?_, h3⟩
      · rw [h1, List.map_cons, List.filter_cons]
        simp [sgn, hc]
      · rw [h2, List.all_cons, hc, Bool.true_and]
    · have hc' : okc c = false := by simpa using hc
      refine ⟨⟨#[c]⟩ :: ws, ?_, ?_, fun w hw => ?_⟩
      · rw [List.map_cons, h1, List.map_cons, List.filter_cons]
        simp [sgn, hc']
      · rw [List.all_cons, hc']
        rfl
      · rcases List.mem_cons.mp hw with rfl | hw
        · exact strOk_one (ha c List.mem_cons_self)
        · exact h3 w hw

def signsS : Str := " !\"#$&'()*+,-./0123456789:;<=>?@ABCDEFGHIJKLMNOPQRSTUVWXYZ[\\]^_`" ++ "abcdefghijklmnopqrstuvwxyz{|}~\n"

theorem pick (z : Str) {e : Int} (h0 : 0 ≤ e) (h1 : e < (z.length : Int)) : ∃ c, atI z.cps.toList e = some c ∧ c ∈ z.cps.toList := by
  obtain ⟨j, rfl⟩ := Int.eq_ofNat_of_zero_le h0
  have hl : z.cps.toList.length = z.length := by simp [Str.length]
  have hj : j < z.cps.toList.length := by omega
  exact ⟨_, atI_nat (List.getElem?_eq_getElem hj), List.getElem_mem hj⟩
theorem ixN_nat {n j : Nat} (h : j < n) : ixN n (j : Int) = some j := by
  unfold ixN
  rw [if_pos (by omega), if_pos (by omega), Int.toNat_natCast]
theorem ones_ok {cs : List Nat} (h : ∀ c ∈ cs, c < 128) : ∀ w ∈ cs.map fun c => (⟨#[c]⟩ : Str), PyData.strOk w = true := fun w hw => by
  obtain ⟨c, hc, rfl⟩ := List.mem_map.mp hw
  exact strOk_one (h c hc)
theorem rev_ok {z : Str} (h : z.length ≤ 81) (ha : Asc z) : (revS z).length ≤ 81 ∧ Asc (revS z) := by
  have e : (revS z).cps.toList = z.cps.toList.reverse := by simp [revS]
  refine ⟨?_, fun c hc => ha c (by rw [e] at hc; exact List.mem_reverse.mp hc)⟩
  have e1 : (revS z).cps.toList.length = (revS z).length := by simp [Str.length]
  have e2 : z.cps.toList.length = z.length := by simp [Str.length]
  rw [e, List.length_reverse] at e1
  omega
theorem cat_ok {x y : Str} {n m : Nat} (h : x.length ≤ n) (h2 : y.length ≤ m) (ha : Asc x) (hb : Asc y) : (x ++ y).length ≤ n + m ∧ Asc (x ++ y) := by
  have e : (x ++ y).cps.toList = x.cps.toList ++ y.cps.toList := by
    show (x.cps ++ y.cps).toList = _
    simp
  refine ⟨?_, fun c hc => ?_⟩
  · show (x.cps ++ y.cps).size ≤ _
    rw [Array.size_append]
    have : x.cps.size ≤ n := h
    have : y.cps.size ≤ m := h2
    omega
  · rw [e] at hc
    rcases List.mem_append.mp hc with hc | hc
    · exact ha c hc
    · exact hb c hc
theorem menu_word {wd : Str} {d : Int} (h0 : 0 ≤ d) (h1 : d < 4) (hn : wd.length ≤ 80) (ha : Asc wd) :
    ∃ w2 : Str, atI [V.str (wd ++ Str.ofString "\n"), .str (wd ++ Str.ofString " "), .str (Str.ofString " " ++ wd), .str (Str.ofString "\n" ++ wd)] d = some (.str w2) ∧ w2.length ≤ 81 ∧ Asc w2 := by
  have l1 : (Str.ofString "\n").length ≤ 1 := by decide +kernel
  have l2 : (Str.ofString " ").length ≤ 1 := by decide +kernel
  have a1 : Asc (Str.ofString "\n") := fun c hc => of_decide_eq_true (List.all_eq_true.mp (show (Str.ofString "\n").cps.toList.all (fun c => decide (c < 128)) = true by decide +kernel) c hc)
  have a2 : Asc (Str.ofString " ") := fun c hc => of_decide_eq_true (List.all_eq_true.mp (show (Str.ofString " ").cps.toList.all (fun c => decide (c < 128)) = true by decide +kernel) c hc)
  have : d = 0 ∨ d = 1 ∨ d = 2 ∨ d = 3 := by omega
  rcases this with rfl | rfl | rfl | rfl
  · exact ⟨_, atI_nat (j := 0) rfl, cat_ok hn l1 ha a1⟩
  · exact ⟨_, atI_nat (j := 1) rfl, cat_ok hn l2 ha a2⟩
  · exact ⟨_, atI_nat (j := 2) rfl, (by have := (cat_ok l2 hn a2 ha).1; omega), (cat_ok l2 hn a2 ha).2⟩
  · exact ⟨_, atI_nat (j := 3) rfl, (by have := (cat_ok l1 hn a1 ha).1; omega), (cat_ok l1 hn a1 ha).2⟩

theorem asc_of {z : Str} (h : z.cps.toList.all (fun c => decide (c < 128)) = true) : Asc z := fun c hc => of_decide_eq_true (List.all_eq_true.mp h c hc)
theorem asc_signs : Asc signsS := asc_of (by decide +kernel)
theorem asc_plain : Asc "abcdefghijklmnopqrstuvwxyz0123456789" := asc_of (by decide +kernel)

/-- a def of one parameter, called by place or by name -/
theorem kb_one {K : PySem.W.Frag} {x qual p : Str} {st : Stmt} {f : Addr} {fd : FuncData} (F : Fun K x qual st f fd)
    (h : ∀ (kV doc pm : Value) (an : Option Addr) (cdv ct v : Value), bindArgs (PySem.W.fnOf x qual (defArgs st) (defBody st) (defScope st) .none kV doc pm an cdv ct) ⟨[v], []⟩ = pure [(p, v)] ∧
      bindArgs (PySem.W.fnOf x qual (defArgs st) (defBody st) (defScope st) .none kV doc pm an cdv ct) ⟨[], [(p, v)]⟩ = pure [(p, v)]) :
    KBinds K fd [p] [p] (fun us ws => us ++ ws) (fun vs zs => vs ++ zs) := by
  obtain ⟨oc, od, kV, doc, pm, an, cdv, ct, osl, rfl, lk, hcd⟩ := F.ex
  refine ⟨fun s us ws _ hl => ?_, fun r rz => r.append rz⟩
  have hl : (us ++ ws).length = 1 := hl
  match us, ws, hl with
  | [], [v], _ => exact .of_eq (h kV doc pm an cdv ct v).2
  | [v], [], _ => exact .of_eq (h kV doc pm an cdv ct v).1
  | _ :: _ :: _, _, hl => simp at hl
  | [_], _ :: _, hl => simp at hl
  | [], [], hl => simp at hl
  | [], _ :: _ :: _, hl => simp at hl

/-- a list of signs, one draw a turn -/
theorem lc_signs {te : TE} {vs : List Nat} {σ : St} {j n N : Nat} {Q : VK} {G H : Hp} {s : Addr} {S : List Nat} (v : View s N G H) (hn : n ≤ 1000) (hw : ∀ x, wipe ((wipe σ vs).set j (some x)) vs = wipe σ vs)
    (hte : ∀ (x : V) (i : Nat) (G' H' : Hp) (Q' : VK), i < n → View s (N + i) G' H' → (∀ (c : Nat) (H2 : Hp), c ∈ S → View s (N + i + 1) G' H2 → Q' (sgn c) H2) → te ((wipe σ vs).set j (some x)) H' Q')
    (hq : ∀ (D : Addr) (cs : List Nat) (H' : Hp), G D = none → cs.length = n → (∀ c ∈ cs, c ∈ S) → View s (N + n) (upd G D (.lst (cs.map sgn))) H' → Q (.ref D) H') (D : Addr) (hD : H D = none) :
    ∃ W : Nat → Nat → Hp → Prop, (∃ m, W 0 m (upd H D (.lst []))) ∧ ∀ i m H, W i m H →
      ((Itr 0 n).stop i H ∧ Q (.ref D) H) ∨ ((Itr 0 n).go i H ∧ ∃ Nx : Hp → Prop, (∀ H', Nx H' → ∃ m', m' < m ∧ W (i + 1) m' H') ∧ ∀ x H', (Itr 0 n).yld i H x H' → gName j x (wipe σ vs) H' fun σ2 H2 => wipe σ2 vs = wipe σ vs ∧ tYes σ2 H2 fun b H3 =>
        if b = true then te σ2 H3 fun y H4 => ∃ acc, H4 D = some (.lst acc) ∧ acc.length < sizeLine ∧ Nx (upd H4 D (.lst (acc ++ [y]))) else Nx H3) := by
  refine lc_range (lo := 0) (n := n) (fun i H' => ∃ cs : List Nat, cs.length = i ∧ (∀ c ∈ cs, c ∈ S) ∧ View s (N + i) (upd G D (.lst (cs.map sgn))) H') ⟨[], rfl, (fun _ h => nomatch h), v.new hD⟩ ?_ ?_
  · rintro i H' hi ⟨cs, hl, ha, u⟩
    refine ⟨hw _, ?_⟩
    unfold tYes
    simp only [if_true]
    refine hte _ i _ _ _ hi u fun c H2 hc u2 => ?_
    refine ⟨cs.map sgn, u2.sub _ _ upd_same, small1000 (by rw [List.length_map]; omega), cs ++ [c], by simp [hl], fun x hx => ?_, ?_⟩
    · rcases List.mem_append.mp hx with hx | hx
      · exact ha x hx
      · have : x = c := by simpa using hx
        rw [this]
        exact hc
    · have := u2.put (o := .lst (cs.map sgn ++ [sgn c])) upd_same
      rw [upd_upd] at this
      rw [List.map_append]
      exact this
  · rintro H' ⟨cs, hl, ha, u⟩
    exact hq D cs H' (v.sub.free hD) hl ha u
/-- a def as its callers see it -/
structure Cal (P : Program) (w : World) (K : PySem.W.Frag) (mg : Str → Option Value) (base : Heap) (nm : Str) (CX : CXT) (k : Nat) (ps : List Str) (sp : Sp) where
  f : Addr
  fd : FuncData
  g : mg nm = some (.ref f)
  kp : PySem.W.keepIn K (.ref f) = true
  b : Binds K fd ps []
  G : FnOk P w K mg base CX k f fd ps sp
end L2

namespace L2
open PySem PySem.Spec PyProof.Rows
/-! ### drawn names -/
def C36 : Str := "abcdefghijklmnopqrstuvwxyz0123456789"
theorem c36_ok : ∀ c ∈ C36.cps.toList, okc c = true := fun c hc => List.all_eq_true.mp (show C36.cps.toList.all okc = true by decide +kernel) c hc
theorem c36_len : C36.length = 36 := by decide +kernel
theorem c36_take : C36.cps.toList.take 26 = lets := by decide +kernel
theorem lets_ok : ∀ c ∈ lets, okc c = true := fun c hc => List.all_eq_true.mp (show lets.all okc = true by decide +kernel) c hc
theorem lets_nd : lets.Nodup := by decide +kernel
theorem lets_len : lets.length = 26 := by decide +kernel
theorem okc_lt {c : Nat} (h : okc c = true) : c < 128 := by
  have h1 : ∀ x ∈ lets ++ digs, x < 128 := fun x hx => of_decide_eq_true (List.all_eq_true.mp (show (lets ++ digs).all (fun x => decide (x < 128)) = true by decide +kernel) x hx)
  refine h1 c (List.mem_append.mpr ?_)
  unfold okc at h
  rcases Bool.or_eq_true_iff.mp h with h | h
  · exact .inl (of_decide_eq_true h)
  · exact .inr (of_decide_eq_true h)
/-- the i-th letter -/
def let_ (i : Nat) : Nat := lets.getD i 0
theorem let_mem {i : Nat} (h : i < 26) : let_ i ∈ lets := by
  unfold let_
  rw [List.getD_eq_getElem?_getD, List.getElem?_eq_getElem (by rw [lets_len]; exact h)]
  exact List.getElem_mem _
theorem let_inj {i j : Nat} (hi : i < 26) (hj : j < 26) (e : let_ i = let_ j) : i = j := by
  unfold let_ at e
  rw [List.getD_eq_getElem?_getD, List.getD_eq_getElem?_getD, List.getElem?_eq_getElem (by rw [lets_len]; exact hi), List.getElem?_eq_getElem (by rw [lets_len]; exact hj)] at e
  exact (List.getElem_inj lets_nd).mp e
theorem c36_at {i : Nat} (h : i < 26) : atI C36.cps.toList (i : Int) = some (let_ i) := by
  refine atI_nat ?_
  have e : C36.cps.toList[i]? = (C36.cps.toList.take 26)[i]? := by rw [List.getElem?_take, if_pos h]
  rw [e, c36_take]
  unfold let_
  rw [List.getD_eq_getElem?_getD, List.getElem?_eq_getElem (by rw [lets_len]; exact h)]
  rfl
theorem cat_list (x y : Str) : (x ++ y).cps.toList = x.cps.toList ++ y.cps.toList := by
  show (x.cps ++ y.cps).toList = _
  simp
theorem len_list (x : Str) : x.cps.toList.length = x.length := by simp [Str.length]
theorem str_ext {x y : Str} (h : x.cps.toList = y.cps.toList) : x = y := by
  obtain ⟨a⟩ := x
  obtain ⟨b⟩ := y
  have : a = b := Array.ext' h
  rw [this]
theorem good_of {w : Str} {c : Nat} {r : List Nat} (e : w.cps.toList = c :: r) (hc : c ∈ lets) (hr : r.length < 6) (ha : ∀ x ∈ r, okc x = true) : good w = true := by
  unfold good
  rw [e]
  show (decide (r.length < 6) && decide (c ∈ lets) && (c :: r).all okc) = true
  rw [decide_eq_true hr, decide_eq_true hc, List.all_cons, lets_ok c hc, List.all_eq_true.mpr ha]
  rfl
theorem good_asc {w : Str} (h : good w = true) : Asc w := fun c hc => by
  unfold good at h
  cases e : w.cps.toList with
  | nil => rw [e] at hc; cases hc
  | cons a r =>
    rw [e] at h hc
    have h2 : (decide (r.length < 6) && decide (a ∈ lets) && (a :: r).all okc) = true := h
    have h3 := (Bool.and_eq_true_iff.mp h2).2
    exact okc_lt (List.all_eq_true.mp h3 c hc)
theorem good_len {w : Str} (h : good w = true) : w.length ≤ 6 := by
  unfold good at h
  rw [← len_list]
  cases e : w.cps.toList with
  | nil => exact Nat.zero_le _
  | cons a r =>
    rw [e] at h
    have h2 : (decide (r.length < 6) && decide (a ∈ lets) && (a :: r).all okc) = true := h
    have h3 := of_decide_eq_true (Bool.and_eq_true_iff.mp (Bool.and_eq_true_iff.mp h2).1).1
    rw [List.length_cons]
    omega
theorem nodup_map {f : Nat → Str} {n : Nat} (h : ∀ i j, i < j → j < n → f i ≠ f j) : ((List.range n).map f).Nodup := by
  unfold List.Nodup
  rw [List.pairwise_map]
  refine List.Pairwise.imp_of_mem (fun {a b} ha hb hab => ?_) List.pairwise_lt_range
  exact h a b hab (List.mem_range.mp hb)
/-- letter and number -/
def numW (l : Nat) (n : Nat) : Str := (⟨#[l]⟩ : Str) ++ Str.ofString (toString (n : Int))
theorem num_digs : ∀ n, n < 64 → (Str.ofString (toString ((n : Nat) : Int))).cps.toList.all okc = true ∧ (Str.ofString (toString ((n : Nat) : Int))).cps.toList.length < 6 := by
  have : (List.range 64).all (fun n => (Str.ofString (toString ((n : Nat) : Int))).cps.toList.all okc && decide ((Str.ofString (toString ((n : Nat) : Int))).cps.toList.length < 6)) = true := by decide +kernel
  intro n hn
  have q := List.all_eq_true.mp this n (List.mem_range.mpr hn)
  obtain ⟨h1, h2⟩ := Bool.and_eq_true_iff.mp q
  exact ⟨h1, of_decide_eq_true h2⟩
theorem num_inj : ∀ n m, n < 64 → m < 64 → (Str.ofString (toString ((n : Nat) : Int))).cps.toList = (Str.ofString (toString ((m : Nat) : Int))).cps.toList → n = m := by
  have : (List.range 64).all (fun n => (List.range 64).all (fun m => decide (n = m) || !((Str.ofString (toString ((n : Nat) : Int))).cps.toList == (Str.ofString (toString ((m : Nat) : Int))).cps.toList))) = true := by decide +kernel
  intro n m hn hm e
  have q := List.all_eq_true.mp (List.all_eq_true.mp this n (List.mem_range.mpr hn)) m (List.mem_range.mpr hm)
  rw [e] at q
  simpa using q
theorem numW_list (l n : Nat) : (numW l n).cps.toList = l :: (Str.ofString (toString ((n : Nat) : Int))).cps.toList := by
  unfold numW
  rw [cat_list]
  rfl
theorem numW_good {l n : Nat} (hl : l ∈ lets) (hn : n < 64) : good (numW l n) = true := by
  obtain ⟨h1, h2⟩ := num_digs n hn
  exact good_of (numW_list l n) hl h2 fun x hx => List.all_eq_true.mp h1 x hx
theorem numW_inj {l n m : Nat} (hn : n < 64) (hm : m < 64) (e : numW l n = numW l m) : n = m := by
  have q : (numW l n).cps.toList = (numW l m).cps.toList := by rw [e]
  rw [numW_list, numW_list] at q
  exact num_inj n m hn hm (List.cons.inj q).2
theorem strides {d : Int} (h0 : 0 ≤ d) (h1 : d < 6) : ∃ s : Nat, (s = 1 ∨ s = 3 ∨ s = 5 ∨ s = 7 ∨ s = 9 ∨ s = 11) ∧ atI [V.int 1, V.int 3, V.int 5, V.int 7, V.int 9, V.int 11] d = some (.int (s : Int)) := by
  have : d = 0 ∨ d = 1 ∨ d = 2 ∨ d = 3 ∨ d = 4 ∨ d = 5 := by omega
  rcases this with rfl | rfl | rfl | rfl | rfl | rfl
  · exact ⟨1, .inl rfl, atI_nat (j := 0) rfl⟩
  · exact ⟨3, .inr (.inl rfl), atI_nat (j := 1) rfl⟩
  · exact ⟨5, .inr (.inr (.inl rfl)), atI_nat (j := 2) rfl⟩
  · exact ⟨7, .inr (.inr (.inr (.inl rfl))), atI_nat (j := 3) rfl⟩
  · exact ⟨9, .inr (.inr (.inr (.inr (.inl rfl)))), atI_nat (j := 4) rfl⟩
  · exact ⟨11, .inr (.inr (.inr (.inr (.inr rfl)))), atI_nat (j := 5) rfl⟩
/-- _law_names: c good names, all different -/
def spNames : Sp := fun vs H Q _ => ∃ (s : Addr) (N : Nat) (G : Hp) (c : Nat), vs = [.ref s, .int (c : Int)] ∧ View s N G H ∧ N ≤ 900000 ∧ c ≤ 7 ∧
  ∀ (ws : List Str) (p : Addr) (H' : Hp), ws.length = c → ws.Nodup → (∀ w ∈ ws, good w = true) → G p = none → View s (N + 20) (upd G p (.lst (ws.map V.str))) H' → Q (.ref p) H'
/-- the written names -/
def fixedW : List Str := ["rows", "leaf", "x", "x1", "x10", "none"]
theorem fixed_ok (c : Nat) : (fixedW.take c).Nodup ∧ ∀ w ∈ fixedW.take c, good w = true := by
  have h1 : fixedW.Nodup := by decide +kernel
  have h2 : fixedW.all good = true := by decide +kernel
  exact ⟨h1.sublist (List.take_sublist _ _), fun w hw => List.all_eq_true.mp h2 w (List.mem_of_mem_take hw)⟩
/-- one word's beginnings -/
def preW (z : Str) (k : Nat) : Str := ⟨(z.cps.toList.take (k + 1)).toArray⟩
theorem preW_list (z : Str) (k : Nat) : (preW z k).cps.toList = z.cps.toList.take (k + 1) := by simp [preW]
/-- the k-th word of the common plan -/
def comW (l : Nat) (st : List Nat) (pl o sr k : Nat) : Str :=
  let g := let_ ((o + sr * k) % 26)
  let b := if 1 < pl ∧ k % 2 = 1 then [] else st
  if pl % 2 = 0 then ⟨(l :: (b ++ [g])).toArray⟩ else ⟨(g :: b).toArray⟩
theorem mod_inj {o sr i j : Nat} (hs : sr = 1 ∨ sr = 3 ∨ sr = 5 ∨ sr = 7 ∨ sr = 9 ∨ sr = 11) (hi : i < 7) (hj : j < 7) (e : (o + sr * i) % 26 = (o + sr * j) % 26) : i = j := by
  rcases hs with rfl | rfl | rfl | rfl | rfl | rfl <;> omega
theorem comW_good {l : Nat} {st : List Nat} {pl o sr k : Nat} (hl : l ∈ lets) (h4 : st.length ≤ 4) (ho : ∀ x ∈ st, okc x = true) : good (comW l st pl o sr k) = true := by
  have hg := let_mem (Nat.mod_lt (o + sr * k) (by decide : 26 > 0))
  unfold comW
  have hb : ∀ x ∈ (if 1 < pl ∧ k % 2 = 1 then [] else st), okc x = true := fun x hx => by
    split at hx
    · cases hx
    · exact ho x hx
  have hbl : (if 1 < pl ∧ k % 2 = 1 then [] else st).length ≤ 4 := by
    split
    · exact Nat.zero_le _
    · exact h4
  dsimp only
  split
  · refine good_of (c := l) rfl hl (by rw [List.length_append, List.length_singleton]; omega) fun x hx => ?_
    rcases List.mem_append.mp hx with hx | hx
    · exact hb x hx
    · rw [show x = _ by simpa using hx]
      exact lets_ok _ hg
  · exact good_of rfl hg (by omega) hb
theorem comW_inj {l : Nat} {st : List Nat} {pl o sr i j : Nat} (hs : sr = 1 ∨ sr = 3 ∨ sr = 5 ∨ sr = 7 ∨ sr = 9 ∨ sr = 11) (hi : i < 7) (hj : j < 7) (e : comW l st pl o sr i = comW l st pl o sr j) : i = j := by
  have el : (comW l st pl o sr i).cps.toList = (comW l st pl o sr j).cps.toList := by rw [e]
  have key : let_ ((o + sr * i) % 26) = let_ ((o + sr * j) % 26) := by
    unfold comW at el
    dsimp only at el
    split at el
    · have h := congrArg List.getLast? el
      rw [← List.cons_append, ← List.cons_append, List.getLast?_concat, List.getLast?_concat] at h
      exact Option.some.inj h
    · have h := congrArg List.head? el
      simpa using h
  exact mod_inj hs hi hj (let_inj (Nat.mod_lt _ (by decide)) (Nat.mod_lt _ (by decide)) key)
end L2

namespace L2
open PySem PySem.Spec PyProof.Rows
/-- an if, its test told at once -/
theorem cond_if {tc : TT} {t u : TS} {D : Ends} {σ : St} {H : Hp} {C : Prop} [Decidable C] (hc : ∀ K : Bool → Hp → Prop, K (decide C) H → tc σ H K) (ht : C → t D σ H) (hu : ¬ C → u D σ H) : tIfS tc t u D σ H := by
  refine hc _ ?_
  by_cases h : C
  · rw [decide_eq_true h, if_pos rfl]; exact ht h
  · rw [decide_eq_false h, if_neg Bool.false_ne_true]; exact hu h
theorem kdec {K : Bool → Hp → Prop} {H : Hp} {b : Bool} {C : Prop} [Decidable C] (k : K (decide C) H) (h : b = true ↔ C) : K b H := by
  have : b = decide C := by
    by_cases c : C
    · rw [decide_eq_true c]; exact h.mpr c
    · rw [decide_eq_false c]
      cases e : b with
      | false => rfl
      | true => exact absurd (h.mp e) c
  rw [this]
  exact k
theorem dec_vint {i j : Int} : decide (V.int i = V.int j) = true ↔ i = j := by
  rw [decide_eq_true_iff]
  exact ⟨fun h => V.int.inj h, fun h => by rw [h]⟩
theorem cutV_to (xs : List V) (c : Nat) : cutV xs none (some (c : Int)) = xs.take c := by
  unfold cutV
  rw [HT.sIx_none, HT.sIx_nat, List.drop_zero, Nat.sub_zero]
  by_cases h : c ≤ xs.length
  · rw [Nat.min_eq_left h]
  · rw [Nat.min_eq_right (by omega), List.take_of_length_le (Nat.le_refl _), List.take_of_length_le (by omega)]
theorem cutS_to (z : Str) (c : Nat) : (cutS z none (some (c : Int))).cps.toList = z.cps.toList.take c := by
  unfold cutS
  rw [HT.sIx_none, HT.sIx_nat, Nat.sub_zero]
  simp only [List.drop_zero]
  by_cases h : c ≤ z.length
  · rw [Nat.min_eq_left h]
  · rw [Nat.min_eq_right (by omega), List.take_of_length_le (by rw [len_list]; exact Nat.le_refl _), List.take_of_length_le (by rw [len_list]; omega)]
theorem range_more (n : Nat) (f : Nat → Str) : ((List.range (n + 1)).map f).map V.str = ((List.range n).map f).map V.str ++ [V.str (f n)] := by
  rw [List.range_succ]
  simp
theorem lc_signsD {te : TE} {vs : List Nat} {σ : St} {j n N : Nat} {Qd : Hp → Prop} {G H : Hp} {s : Addr} {S : List Nat} {D : Addr} (v : View s N G H) (hn : n ≤ 1000) (hw : ∀ x, wipe ((wipe σ vs).set j (some x)) vs = wipe σ vs)
    (hte : ∀ (x : V) (i : Nat) (G' H' : Hp) (Q' : VK), i < n → View s (N + i) G' H' → (∀ (c : Nat) (H2 : Hp), c ∈ S → View s (N + i + 1) G' H2 → Q' (sgn c) H2) → te ((wipe σ vs).set j (some x)) H' Q')
    (hq : ∀ (cs : List Nat) (H' : Hp), G D = none → cs.length = n → (∀ c ∈ cs, c ∈ S) → View s (N + n) (upd G D (.lst (cs.map sgn))) H' → Qd H') (hD : H D = none) :
    ∃ W : Nat → Nat → Hp → Prop, (∃ m, W 0 m (upd H D (.lst []))) ∧ ∀ i m H, W i m H →
      ((Itr 0 n).stop i H ∧ Qd H) ∨ ((Itr 0 n).go i H ∧ ∃ Nx : Hp → Prop, (∀ H', Nx H' → ∃ m', m' < m ∧ W (i + 1) m' H') ∧ ∀ x H', (Itr 0 n).yld i H x H' → gName j x (wipe σ vs) H' fun σ2 H2 => wipe σ2 vs = wipe σ vs ∧ tYes σ2 H2 fun b H3 =>
        if b = true then te σ2 H3 fun y H4 => ∃ acc, H4 D = some (.lst acc) ∧ acc.length < sizeLine ∧ Nx (upd H4 D (.lst (acc ++ [y]))) else Nx H3) :=
  lc_signs (Q := fun v H' => v = .ref D → Qd H') v hn hw hte (fun D' cs H' a b c d e => by cases e; exact hq cs H' a b c d) D hD |> fun ⟨W, a, b⟩ => ⟨W, a, fun i m H h => (b i m H h).elim (fun x => .inl ⟨x.1, x.2 rfl⟩) .inr⟩
/-- a list of words over range(n), no draw -/
theorem lc_words {te : TE} {vs : List Nat} {σ : St} {j n N : Nat} {Qd : Hp → Prop} {G H : Hp} {s : Addr} {D : Addr} (f : Nat → Str) (v : View s N G H) (hn : n ≤ 1000) (hw : ∀ x, wipe ((wipe σ vs).set j (some x)) vs = wipe σ vs)
    (hte : ∀ (i : Nat) (H' : Hp) (Q' : VK), i < n → Q' (.str (f i)) H' → te ((wipe σ vs).set j (some (.int (0 + (i : Int))))) H' Q')
    (hq : ∀ (H' : Hp), G D = none → View s N (upd G D (.lst (((List.range n).map f).map V.str))) H' → Qd H') (hD : H D = none) :
    ∃ W : Nat → Nat → Hp → Prop, (∃ m, W 0 m (upd H D (.lst []))) ∧ ∀ i m H, W i m H →
      ((Itr 0 n).stop i H ∧ Qd H) ∨ ((Itr 0 n).go i H ∧ ∃ Nx : Hp → Prop, (∀ H', Nx H' → ∃ m', m' < m ∧ W (i + 1) m' H') ∧ ∀ x H', (Itr 0 n).yld i H x H' → gName j x (wipe σ vs) H' fun σ2 H2 => wipe σ2 vs = wipe σ vs ∧ tYes σ2 H2 fun b H3 =>
        if b = true then te σ2 H3 fun y H4 => ∃ acc, H4 D = some (.lst acc) ∧ acc.length < sizeLine ∧ Nx (upd H4 D (.lst (acc ++ [y]))) else Nx H3) := by
  refine lc_range (lo := 0) (n := n) (fun i H' => View s N (upd G D (.lst (((List.range i).map f).map V.str))) H') (v.new hD) ?_ ?_
  · rintro i H' hi u
    refine ⟨hw _, ?_⟩
    unfold tYes
    simp only [if_true]
    refine hte i _ _ hi ⟨_, u.sub _ _ upd_same, small1000 (by rw [List.length_map, List.length_map, List.length_range]; omega), ?_⟩
    have := u.put (o := .lst (((List.range i).map f).map V.str ++ [V.str (f i)])) upd_same
    rw [upd_upd] at this
    rw [range_more]
    exact this
  · intro H' u
    exact hq H' (v.sub.free hD) u
theorem preW_good {z : Str} {l : Nat} {cs : List Nat} {k : Nat} (e : z.cps.toList = l :: cs) (hl : l ∈ lets) (hc : cs.length ≤ 5) (ho : ∀ x ∈ cs, okc x = true) : good (preW z k) = true := by
  refine good_of (c := l) (r := cs.take k) (by rw [preW_list, e]; rfl) hl ?_ fun x hx => ho x (List.mem_of_mem_take hx)
  rw [List.length_take]; omega
theorem preW_inj {z : Str} {i j : Nat} (hi : i < z.length) (hj : j < z.length) (e : preW z i = preW z j) : i = j := by
  have h : (preW z i).cps.toList.length = (preW z j).cps.toList.length := by rw [e]
  rw [preW_list, preW_list, List.length_take, List.length_take, len_list] at h
  omega
theorem c36_mod (i : Nat) : atI C36.cps.toList (((i % 26 : Nat)) : Int) = some (let_ (i % 26)) := c36_at (Nat.mod_lt _ (by decide))
theorem one_cat (x : Nat) (y : Str) : ((⟨#[x]⟩ : Str) ++ y).cps.toList = x :: y.cps.toList := by rw [cat_list]; rfl
theorem com_even {l : Nat} {st : Str} {pl o sr k : Nat} (b : Str) (hb : b = if 1 < pl ∧ k % 2 = 1 then Str.ofString "" else st) (h : pl % 2 = 0) : ((⟨#[l]⟩ : Str) ++ b) ++ (⟨#[let_ ((o + sr * k) % 26)]⟩ : Str) = comW l st.cps.toList pl o sr k := by
  refine str_ext ?_
  rw [cat_list, one_cat]
  unfold comW
  rw [if_pos h, hb]
  split
  · rfl
  · rfl
theorem com_odd {l : Nat} {st : Str} {pl o sr k : Nat} (b : Str) (hb : b = if 1 < pl ∧ k % 2 = 1 then Str.ofString "" else st) (h : pl % 2 = 1) : ((⟨#[let_ ((o + sr * k) % 26)]⟩ : Str) ++ b) = comW l st.cps.toList pl o sr k := by
  refine str_ext ?_
  rw [one_cat]
  unfold comW
  rw [if_neg (by omega), hb]
  split
  · rfl
  · rfl
theorem fmod_nn (a b : Nat) : (a : Int).fmod (b : Int) = ((a % b : Nat) : Int) := by
  rw [Int.fmod_eq_emod_of_nonneg _ (by omega)]
  rfl
theorem and_dec {b c : Bool} {P Q : Prop} (h1 : b = true ↔ P) (h2 : c = true ↔ Q) : (b && c) = true ↔ (P ∧ Q) := by
  rw [Bool.and_eq_true, h1, h2]
theorem tyL_ok {K : PySem.W.Frag} {H : Hp} {p : Addr} {xs : List V} (h : SqL K H p xs) : tyV K "list" (.ref p) H := .inl ⟨rfl, _, h⟩
theorem upd_swap {G : Hp} {p r : Addr} {a b c : HO} (h : p ≠ r) : upd (upd (upd G p a) r b) p c = upd (upd G p c) r b := by
  funext x
  unfold upd
  by_cases h1 : x = p
  · subst h1; rw [if_pos rfl, if_neg h, if_pos rfl]
  · rw [if_neg h1, if_neg h1, if_neg h1]
theorem upd_comm2 {G : Hp} {p r : Addr} {a b : HO} (h : p ≠ r) : upd (upd G p a) r b = upd (upd G r b) p a := by
  funext x
  unfold upd
  by_cases h1 : x = p
  · subst h1; rw [if_neg h, if_pos rfl, if_pos rfl]
  · rw [if_neg h1, if_neg h1]
/-- an order: the same items, moved about -/
def spOrder (K : PySem.W.Frag) : Sp := fun vs H Q _ => ∃ (s : Addr) (N : Nat) (G : Hp) (a : Addr) (xs : List V), vs = [.ref s, .ref a] ∧ View s N G H ∧ SqL K G a xs ∧ N ≤ 900000 ∧ xs.length ≤ 60 ∧
  ∀ (ys : List V) (p : Addr) (H' : Hp), ys.Perm xs → G p = none → View s (N + 60) (upd G p (.lst ys)) H' → Q (.ref p) H'
theorem SqL.up {K : PySem.W.Frag} {G H : Hp} {a : Addr} {xs : List V} (h : SqL K G a xs) (e : Same G H) : SqL K H a xs := e.seq h
theorem atI_ex {α : Type} {xs : List α} {i : Int} (h0 : 0 ≤ i) (h1 : i < (xs.length : Int)) : ∃ (k : Nat) (y : α), i = (k : Int) ∧ k < xs.length ∧ seqIndex? i xs.length = some k ∧ xs[k]? = some y := by
  obtain ⟨k, rfl⟩ := Int.eq_ofNat_of_zero_le h0
  have hk : k < xs.length := by omega
  exact ⟨k, xs[k], rfl, hk, (ixN_seq (ixN_nat hk)).1, List.getElem?_eq_getElem hk⟩
theorem erase_perm' {α : Type} (l : List α) (i : Nat) (y : α) (h : l[i]? = some y) : (y :: l.eraseIdx i).Perm l := by
  induction l generalizing i with
  | nil => cases h
  | cons x r ih =>
    cases i with
    | zero =>
      cases Option.some.inj h
      exact .refl _
    | succ i => exact (List.Perm.swap x y _).trans ((ih i h).cons x)
end L2

namespace L2
open PySem PySem.Spec PyProof.Rows
/-- amounts by name, in an order -/
abbrev Am := List (Str × Int)
def amN (am : Am) : List V := am.map fun p => V.str p.1
def amK (am : Am) : List (Key × V) := am.map fun p => (Sum.inr p.1, V.int p.2)
def amS (am : Am) : List Str := am.map (·.1)
theorem amN_S (am : Am) : amN am = (amS am).map V.str := by unfold amN amS; rw [List.map_map]; rfl
theorem valV_am : ∀ {am : Am}, (amS am).Nodup → ∀ {w : Str} {z : Int}, (w, z) ∈ am → valV (amK am) (Sum.inr w : Key) = some (.int z)
  | [], _, _, _, h => nomatch h
  | (u, y) :: r, hn, w, z, h => by
    have hn' : u ∉ amS r ∧ (amS r).Nodup := List.nodup_cons.mp hn
    rcases List.mem_cons.mp h with e | h
    · cases e
      exact valV_pos rfl
    · refine (valV_neg (fun e => ?_)).trans (valV_am hn'.2 h)
      have e : u = w := Sum.inr.inj e
      subst e
      exact hn'.1 (List.mem_map.mpr ⟨_, h, rfl⟩)
theorem valV_am0 {am : Am} {w : Str} (h : w ∉ amS am) : valV (amK am) (Sum.inr w : Key) = none := by
  induction am with
  | nil => rfl
  | cons p r ih =>
    have h1 : ¬ w = p.1 := fun e => h (by rw [e]; exact List.mem_cons_self)
    have h2 : w ∉ amS r := fun e => h (List.mem_cons_of_mem _ e)
    exact (valV_neg (fun e => h1 (Sum.inr.inj e).symm)).trans (ih h2)
/-- what the law's text holds for the class of wishes -/
structure Wsh (K : PySem.W.Frag) (mg : Str → Option Value) where
  C : Addr
  g : mg "Wishes" = some (.ref C)
  cl : Cls K C
  n1 : NoAttr K C "_outcomes"
  n2 : NoAttr K C "_amounts"
  me : PySem.W.kitOne K (.ref C) (.ref C) = some true
  kc : PySem.W.findIn K (.ref C) "__class__" = some (some (.builtin "object.__class__"))
  kg : PySem.W.specialIn K (.builtin "object.__class__") "__get__" = some (some (.builtin "getset_descriptor.__get__"))
  kt : PySem.W.takesIn K (.builtin "object.__class__") = some true
  ko : PySem.W.mroIn K C (.type "object") = some true
theorem hu100 {A : Around} {k : Nat} (hr : Room k A) : A.units + 100 < cLine := by have := hr.un; omega
/-- no other attribute -/
def OnlyTwo (fs : List (Str × V)) : Prop := ∀ f : Str, f ≠ "_outcomes" → f ≠ "_amounts" → fs.lookup f = none
/-- wishes made, at x -/
def WAt (C : Addr) (H : Hp) (x : Addr) (am : Am) : Prop := ∃ (dx : Addr) (fs : List (Str × V)) (t d : Addr), H x = some (.ins C dx fs) ∧ fs.lookup ("_outcomes" : Str) = some (.ref t) ∧ fs.lookup ("_amounts" : Str) = some (.ref d) ∧
  H t = some (.tup (amN am)) ∧ H d = some (.dK (amK am)) ∧ OnlyTwo fs
theorem WAt.up {C : Addr} {G H : Hp} {x : Addr} {am : Am} (h : WAt C G x am) (e : Same G H) : WAt C H x am := by
  obtain ⟨dx, fs, t, d, a1, a2, a3, a4, a5, a6⟩ := h
  exact ⟨dx, fs, t, d, e _ _ a1, a2, a3, e _ _ a4, e _ _ a5, a6⟩
/-- a well made list of amounts -/
structure AmOk (am : Am) : Prop where
  nd : (amS am).Nodup
  gd : ∀ w ∈ amS am, good w = true
  n1 : am.length ≤ 8
theorem DGet.amI {H : Hp} {d : Addr} {am : Am} {w : Str} {z : Int} (hd : H d = some (.dK (amK am))) (hn : (amS am).Nodup) (h : (w, z) ∈ am) : DGet H d (.str w) (some (.int z)) :=
  .inl ⟨amK am, .inr w, .inl hd, rfl, (valV_am hn h).symm⟩
/-- a method that looks and makes one new object -/
def spNew (C : Addr) (ok : Am → List V → Prop) (o : Am → List V → HO) : Sp := fun vs H Q _ => ∃ (x : Addr) (am : Am) (r : List V), vs = .ref x :: r ∧ AmOk am ∧ WAt C H x am ∧ ok am r ∧ ∀ (p : Addr) (H' : Hp), Same H H' → H p = none → H' p = some (o am r) → Q (.ref p) H'
theorem pe_fldK {X : Cx} {K : PySem.W.Frag} {e : Expr} {f : Str} {pos : Pos} {ta : TE} (hk : X.K = K) (he : PE X e ta) (hb : attributeBase e f X.env (eval e X.env) = eval e X.env) : PE X (.Attribute e f pos) (tFld K ta f) := by
  subst hk
  exact pe_fld he hb
theorem lc_am {α : Type} {J : It} {G : Hp → Prop} {as : List α} {g : α → V} (w : Walk J (as.map g).length G (YAt (as.map g))) {tt : TT} {te : TE} {vs : List Nat} {σ : St} {H1 : Hp} {D : Addr} {Qd : Hp → Prop} {j : Nat} (p : α → Bool) (f : α → V)
    (hD : H1 D = none) (hG : ∀ H', Same H1 H' → G H') (hl : as.length ≤ 1000) (hw : ∀ x, wipe ((wipe σ vs).set j (some x)) vs = wipe σ vs)
    (ht : ∀ a ∈ as, ∀ H', Same H1 H' → TIs tt ((wipe σ vs).set j (some (g a))) H' (p a)) (he : ∀ a ∈ as, p a = true → ∀ H', Same H1 H' → Is te ((wipe σ vs).set j (some (g a))) H' (f a))
    (hd : Qd (upd H1 D (.lst ((as.filter p).map f)))) :
    ∃ W : Nat → Nat → Hp → Prop, (∃ m, W 0 m (upd H1 D (.lst []))) ∧ ∀ i m H, W i m H →
      (J.stop i H ∧ Qd H) ∨ (J.go i H ∧ ∃ Nx : Hp → Prop, (∀ H', Nx H' → ∃ m', m' < m ∧ W (i + 1) m' H') ∧ ∀ x H', J.yld i H x H' → gName j x (wipe σ vs) H' fun σ2 H2 => wipe σ2 vs = wipe σ vs ∧ tt σ2 H2 fun b H3 =>
        if b = true then te σ2 H3 fun y H4 => ∃ acc, H4 D = some (.lst acc) ∧ acc.length < sizeLine ∧ Nx (upd H4 D (.lst (acc ++ [y]))) else Nx H3) := by
  have sm : ∀ l : List V, Same H1 (upd H1 D (.lst l)) := fun l => same_of_none hD
  have ln : (as.map g).length = as.length := List.length_map _
  refine lc_it w (fun i H => H = upd H1 D (.lst (((as.take i).filter p).map f))) rfl (fun i H _ e => by rw [e]; exact hG _ (sm _)) (fun i x H H' hi e y => ?_) (fun H e => by rw [e, ln, List.take_length]; exact hd)
  obtain ⟨rfl, hx⟩ := y
  subst e
  rw [List.getElem?_map] at hx
  obtain ⟨a, ha, rfl⟩ := Option.map_eq_some_iff.mp hx
  have hm : a ∈ as := List.mem_of_getElem? ha
  have ht' := take_more ha
  refine ⟨hw _, ht a hm _ (sm _) _ ?_⟩
  cases hp : p a with
  | true =>
    refine if_pos rfl |>.mpr ?_
    refine he a hm hp _ (sm _) _ ⟨_, upd_same, small1000 (Nat.le_trans (fm_len _ _ _) (by rw [List.length_take]; omega)), ?_⟩
    rw [upd_upd, ht', List.filter_append, List.map_append, List.filter_cons, if_pos hp]
    rfl
  | false =>
    refine if_neg Bool.false_ne_true |>.mpr ?_
    rw [ht', List.filter_append, List.filter_cons, if_neg (by rw [hp]; exact Bool.false_ne_true)]
    show upd H1 D _ = upd H1 D (.lst ((((as.take i).filter p) ++ []).map f))
    rw [List.append_nil]
/-- all that is new is seen -/
theorem View.grow {s : Addr} {N : Nat} {G H H' : Hp} (v : View s N G H) (e : Same H H') : ∃ G' : Hp, View s N G' H' ∧ Same G G' ∧ (∀ b o, H b = none → H' b = some o → G' b = some o) ∧ ∀ b, H' b = none → G' b = none := by
  obtain ⟨b, c, i, bs, cs, k, l⟩ := v
  refine ⟨fun q => match H q with | none => H' q | some _ => G q, ⟨b, c, i, bs, cs, { k.ext e with sub := fun q u hq => ?_, gs := ?_, gb := ?_, gc := ?_ }, l⟩, fun q u hq => ?_, fun q u h1 h2 => ?_, fun q h => ?_⟩
  · cases h : H q with
    | none => simp only [h] at hq; exact hq
    | some _ => simp only [h] at hq; exact e _ _ (k.sub _ _ hq)
  · simp only [k.hs]; exact k.gs
  · simp only [k.hb]; exact k.gb
  · simp only [k.hc]; exact k.gc
  · simp only [k.sub _ _ hq]; exact hq
  · simp only [h1]; exact h2
  · have : H q = none := e.free h
    simp only [this]; exact h
/-- wishes made, all their parts new -/
def WNew (C : Addr) (H H' : Hp) (x : Addr) (am : Am) : Prop := ∃ (dx : Addr) (fs : List (Str × V)) (t d : Addr), (H x = none ∧ H t = none ∧ H d = none) ∧ H' x = some (.ins C dx fs) ∧ fs.lookup ("_outcomes" : Str) = some (.ref t) ∧ fs.lookup ("_amounts" : Str) = some (.ref d) ∧
  H' t = some (.tup (amN am)) ∧ H' d = some (.dK (amK am)) ∧ OnlyTwo fs
theorem WNew.at {C : Addr} {G' H H' : Hp} {x : Addr} {am : Am} (h : WNew C H H' x am) (g : ∀ b o, H b = none → H' b = some o → G' b = some o) : WAt C G' x am := by
  obtain ⟨dx, fs, t, d, ⟨n1, n2, n3⟩, a1, a2, a3, a4, a5, a6⟩ := h
  exact ⟨dx, fs, t, d, g _ _ n1 a1, a2, a3, g _ _ n2 a4, g _ _ n3 a5, a6⟩
/-- sorted by name -/
def srt (am : Am) : Prop := sortedS (amS am) = true
/-- Wishes.__init__, of amounts that are right -/
def spInit (C : Addr) : Sp := fun vs H Q _ => ∃ (x g dx : Addr) (am0 : Am), vs = [.ref x, .ref g] ∧ H x = some (.ins C dx []) ∧ H g = some (.dK (amK am0)) ∧ AmOk am0 ∧ 1 ≤ am0.length ∧ am0.length ≤ 6 ∧
  ∀ (am : Am) (H' : Hp) (dx' : Addr) (fs : List (Str × V)) (t d : Addr), am.Perm am0 → srt am → AmOk am → (∀ b o, H b = some o → b ≠ x → H' b = some o) → H t = none → H d = none → H' x = some (.ins C dx' fs) → fs.lookup ("_outcomes" : Str) = some (.ref t) → fs.lookup ("_amounts" : Str) = some (.ref d) →
    H' t = some (.tup (amN am)) → H' d = some (.dK (amK am)) → OnlyTwo fs → Q .non H'
/-- Wishes.__eq__ -/
def spEq (K : PySem.W.Frag) (C : Addr) : Sp := fun vs H Q _ => ∃ (x : Addr) (a : Am) (o : V) (r : Bool), vs = [.ref x, o] ∧ WAt C H x a ∧ AmOk a ∧
  ((∃ (y : Addr) (b : Am), o = .ref y ∧ WAt C H y b ∧ AmOk b ∧ r = decide (a.Perm b)) ∨ ((∃ t, TyX K H o t ∧ PySem.W.kitOne K t (.ref C) = some false) ∧ r = false)) ∧ Q (.bl r) H
def spOpp (C : Addr) : Sp := fun vs H Q _ => ∃ (x : Addr) (am : Am), vs = [.ref x] ∧ AmOk am ∧ 1 ≤ am.length ∧ am.length ≤ 6 ∧ WAt C H x am ∧
  ∀ (y : Addr) (am2 : Am) (H' : Hp), am2.Perm (am.map fun p => (p.1, -p.2)) → srt am2 → AmOk am2 → Same H H' → WNew C H H' y am2 → Q (.ref y) H'
def spCheck : Sp := fun vs H Q _ => ∃ c : Int, vs = [.int c] ∧ 1 ≤ c ∧ c ≤ 6 ∧ Q .non H
def spIsInt : Sp := fun vs H Q _ => ∃ c : Int, vs = [.int c] ∧ Q (.bl true) H
/-- what a permutation of the names brings -/
theorem am_perm {am0 : Am} {ys : List Str} (hn : (amS am0).Nodup) (h : ys.Perm (amS am0)) : ∃ am : Am, am.Perm am0 ∧ amS am = ys := by
  induction ys generalizing am0 with
  | nil =>
    have : amS am0 = [] := List.nil_perm.mp h
    have : am0 = [] := List.map_eq_nil_iff.mp this
    exact ⟨[], by rw [this], rfl⟩
  | cons y r ih =>
    have hy : y ∈ amS am0 := h.mem_iff.mp List.mem_cons_self
    obtain ⟨p, hp, rfl⟩ := List.mem_map.mp hy
    obtain ⟨l1, l2, rfl⟩ := List.append_of_mem hp
    have e : amS (l1 ++ p :: l2) = amS l1 ++ p.1 :: amS l2 := by unfold amS; rw [List.map_append]; rfl
    rw [e] at h hn
    have h2 : r.Perm (amS (l1 ++ l2)) := by
      have : amS (l1 ++ l2) = amS l1 ++ amS l2 := by unfold amS; rw [List.map_append]
      rw [this]
      exact (h.trans List.perm_middle).cons_inv
    have hn2 : (amS (l1 ++ l2)).Nodup := by
      have : amS (l1 ++ l2) = amS l1 ++ amS l2 := by unfold amS; rw [List.map_append]
      rw [this]
      exact ((List.perm_middle.nodup_iff).mp hn |> List.nodup_cons.mp).2
    obtain ⟨am, ha, hs⟩ := ih hn2 h2
    exact ⟨p :: am, (ha.cons p).trans List.perm_middle.symm, by show p.1 :: amS am = _; rw [hs]⟩
theorem AmOk.perm {a b : Am} (h : a.Perm b) (k : AmOk b) : AmOk a :=
  ⟨((h.map Prod.fst).nodup_iff).mpr k.nd, fun w hw => k.gd w ((h.map Prod.fst).mem_iff.mp hw), by rw [h.length_eq]; exact k.n1⟩
/-- a dict comprehension whose parts touch nothing, all keys different -/
theorem dc_am {α : Type} {J : It} {G : Hp → Prop} {as : List α} {g : α → V} (w : Walk J (as.map g).length G (YAt (as.map g))) {tk tv : TE} {vs : List Nat} {σ : St} {H1 : Hp} {D : Addr} {Qd : Hp → Prop} {j : Nat} (kf : α → Key) (vf : α → V)
    (hD : H1 D = none) (hG : ∀ H', Same H1 H' → G H') (hl : as.length ≤ 1000) (hw : ∀ x, wipe ((wipe σ vs).set j (some x)) vs = wipe σ vs) (hn : (as.map kf).Nodup)
    (hk : ∀ a ∈ as, ∀ H', Same H1 H' → Is tk ((wipe σ vs).set j (some (g a))) H' (kV (kf a))) (hv : ∀ a ∈ as, ∀ H', Same H1 H' → Is tv ((wipe σ vs).set j (some (g a))) H' (vf a))
    (hd : Qd (upd H1 D (.dK (as.map fun a => (kf a, vf a))))) :
    ∃ W : Nat → Nat → Hp → Prop, (∃ m, W 0 m (upd H1 D (.dK []))) ∧ ∀ i m H, W i m H →
      (J.stop i H ∧ Qd H) ∨ (J.go i H ∧ ∃ Nx : Hp → Prop, (∀ H', Nx H' → ∃ m', m' < m ∧ W (i + 1) m' H') ∧ ∀ x H', J.yld i H x H' → gName j x (wipe σ vs) H' fun σ2 H2 => wipe σ2 vs = wipe σ vs ∧ tYes σ2 H2 fun b H3 =>
        if b = true then tk σ2 H3 fun y H4 => tv σ2 H4 fun z H5 => ∃ kvs k, y = kV k ∧ H5 D = some (.dK kvs) ∧ kvs.length < sizeLine ∧ Nx (upd H5 D (.dK (putK kvs k z))) else Nx H3) := by
  have sm : ∀ l, Same H1 (upd H1 D (.dK l)) := fun l => same_of_none hD
  have ln : (as.map g).length = as.length := List.length_map _
  refine ⟨fun i m H => m = (as.map g).length - i ∧ i ≤ (as.map g).length ∧ H = upd H1 D (.dK ((as.take i).map fun a => (kf a, vf a))), ⟨(as.map g).length, by simp, Nat.zero_le _, rfl⟩, ?_⟩
  rintro i m H ⟨rfl, hi, rfl⟩
  by_cases hlt : i < (as.map g).length
  · refine .inr ⟨w.goes i _ hlt (hG _ (sm _)), fun H => H = upd H1 D (.dK ((as.take (i + 1)).map fun a => (kf a, vf a))), fun H' p' => ⟨(as.map g).length - (i + 1), by omega, rfl, hlt, p'⟩, fun x H' y => ?_⟩
    obtain ⟨rfl, hx⟩ := w.yields i _ x H' hlt (hG _ (sm _)) y
    rw [List.getElem?_map] at hx
    obtain ⟨a, ha, rfl⟩ := Option.map_eq_some_iff.mp hx
    have hm : a ∈ as := List.mem_of_getElem? ha
    have ht' := take_more ha
    refine ⟨hw _, ?_⟩
    unfold tYes
    refine if_pos rfl |>.mpr (hk a hm _ (sm _) _ (hv a hm _ (sm _) _ ⟨_, kf a, rfl, upd_same, small1000 (by rw [List.length_map, List.length_take]; omega), ?_⟩))
    have hnew : valV ((as.take i).map fun a => (kf a, vf a)) (kf a) = none := by
      refine Option.eq_none_iff_forall_ne_some.mpr fun v hv => ?_
      have h1 := valV_in hv
      rw [List.map_map] at h1
      have h2 : kf a ∈ (as.take i).map kf := h1
      have h3 : ((as.take (i + 1)).map kf).Nodup := hn.sublist ((List.take_sublist _ _).map kf)
      rw [ht', List.map_append] at h3
      exact (List.nodup_append.mp h3).2.2 _ h2 _ (List.mem_singleton.mpr rfl) rfl
    rw [upd_upd, putK_new _ hnew, ht', List.map_append]
    rfl
  · have e : i = (as.map g).length := by omega
    subst e
    refine .inl ⟨w.stops _ (hG _ (sm _)), ?_⟩
    rw [ln, List.take_length]
    exact hd
theorem amK_nd {am : Am} (h : (amS am).Nodup) : (am.map fun p => (Sum.inr p.1 : Key)).Nodup := by
  have : (am.map fun p => (Sum.inr p.1 : Key)) = (amS am).map Sum.inr := by unfold amS; rw [List.map_map]; rfl
  rw [this]
  exact h.map _ fun _ _ hab e => hab (Sum.inr.inj e)
theorem amK_keys (am : Am) : (amK am).map (·.1) = (amS am).map Sum.inr := by unfold amK amS; rw [List.map_map, List.map_map]; rfl
end L2

namespace L2
open PySem PySem.Spec PyProof.Rows
theorem perm_of_sub {α : Type} : ∀ {a b : List α}, a.Nodup → (∀ x ∈ a, x ∈ b) → b.length ≤ a.length → a.Perm b
  | [], b, _, _, h => by rw [List.eq_nil_of_length_eq_zero (Nat.le_zero.mp h)]
  | x :: r, b, hn, hs, hl => by
    obtain ⟨l1, l2, rfl⟩ := List.append_of_mem (hs x List.mem_cons_self)
    obtain ⟨n1, n2⟩ := List.nodup_cons.mp hn
    have hr : ∀ y ∈ r, y ∈ l1 ++ l2 := fun y hy => by
      have h := hs y (List.mem_cons_of_mem _ hy)
      rcases List.mem_append.mp h with h | h
      · exact List.mem_append_left _ h
      · rcases List.mem_cons.mp h with h | h
        · subst h; exact absurd hy n1
        · exact List.mem_append_right _ h
    have := perm_of_sub n2 hr (by simp at hl ⊢; omega)
    exact (this.cons x).trans List.perm_middle.symm
theorem nodup_am {am : Am} (h : (amS am).Nodup) : am.Nodup := by
  induction am with
  | nil => exact List.nodup_nil
  | cons p r ih =>
    obtain ⟨h1, h2⟩ := List.nodup_cons.mp h
    exact List.nodup_cons.mpr ⟨fun hp => h1 (List.mem_map.mpr ⟨p, hp, rfl⟩), ih h2⟩
theorem valV_mem {am : Am} {w : Str} {v : V} (h : valV (amK am) (Sum.inr w : Key) = some v) : ∃ z, v = .int z ∧ (w, z) ∈ am := by
  induction am with
  | nil => cases h
  | cons p r ih =>
    by_cases e : p.1 = w
    · subst e
      have h2 : valV (amK (p :: r)) (Sum.inr p.1 : Key) = some (.int p.2) := valV_pos rfl
      rw [h] at h2
      exact ⟨p.2, Option.some.inj h2, List.mem_cons_self⟩
    · have h2 : valV (amK (p :: r)) (Sum.inr w : Key) = valV (amK r) (Sum.inr w : Key) := valV_neg (fun z => e (Sum.inr.inj z))
      rw [h2] at h
      obtain ⟨z, e1, e2⟩ := ih h
      exact ⟨z, e1, List.mem_cons_of_mem _ e2⟩
/-- equal under a key -/
def amE (a b : Am) (k : Key) : Bool := decide (valV (amK a) k = valV (amK b) k)
theorem amK_len (a : Am) : (amK a).length = a.length := by unfold amK; rw [List.length_map]
theorem amK_mem {a : Am} {k : Key} {v : V} (h : (k, v) ∈ amK a) : ∃ p ∈ a, k = .inr p.1 ∧ v = .int p.2 := by
  obtain ⟨p, hp, e⟩ := List.mem_map.mp h
  cases e
  exact ⟨p, hp, rfl, rfl⟩
theorem dict_eq {a b : Am} (ha : (amS a).Nodup) (hb : (amS b).Nodup) :
    ((amK a).length == (amK b).length && (amK a).all fun p => (valV (amK b) p.1).isSome && amE a b p.1) = decide (a.Perm b) := by
  by_cases h : a.Perm b
  · rw [decide_eq_true h, Bool.and_eq_true, beq_iff_eq, amK_len, amK_len, List.all_eq_true]
    refine ⟨h.length_eq, fun p hp => ?_⟩
    obtain ⟨q, hq, e1, e2⟩ := amK_mem (k := p.1) (v := p.2) hp
    have h1 := valV_am ha hq
    have h2 := valV_am hb (h.mem_iff.mp hq)
    unfold amE
    rw [e1, h1, h2]
    simp
  · rw [decide_eq_false h]
    cases e : ((amK a).length == (amK b).length && (amK a).all fun p => (valV (amK b) p.1).isSome && amE a b p.1) with
    | false => rfl
    | true =>
      rw [Bool.and_eq_true, beq_iff_eq, amK_len, amK_len, List.all_eq_true] at e
      refine absurd (perm_of_sub (nodup_am ha) (fun p hp => ?_) (by omega)) h
      have h1 := valV_am ha hp
      have h2 := e.2 (Sum.inr p.1, V.int p.2) (List.mem_map.mpr ⟨p, hp, rfl⟩)
      rw [Bool.and_eq_true] at h2
      have h3 := of_decide_eq_true h2.2
      simp only [h1] at h3
      obtain ⟨z, e1, e2⟩ := valV_mem h3.symm
      cases e1
      exact e2
theorem amE_eqv {K : PySem.W.Frag} {H : Hp} {n : Nat} {a b : Am} (ha : (amS a).Nodup) {k : Key} {v y : V} (hm : (k, v) ∈ amK a) (hy : valV (amK b) k = some y) : Eqv K H n v y (amE a b k) := by
  obtain ⟨p, hp, rfl, rfl⟩ := amK_mem hm
  obtain ⟨z, rfl, _⟩ := valV_mem hy
  have h1 := valV_am ha hp
  have : amE a b (Sum.inr p.1) = eqV (.int p.2) (.int z) := by
    unfold amE
    rw [h1, hy]
    show decide (some (V.int p.2) = some (V.int z)) = (p.2 == z)
    by_cases e : p.2 = z
    · subst e; simp
    · simp [e]
  rw [this]
  exact .flat rfl rfl
/-- a method as its callers see it -/
structure CalM (P : Program) (w : World) (K : PySem.W.Frag) (mg : Str → Option Value) (base : Heap) (CX : CXT) (k : Nat) (ps : List Str) (sp : Sp) where
  f : Addr
  fd : FuncData
  b : Binds K fd ps []
  G : FnOk P w K mg base CX k f fd ps sp
theorem amK_neg (am : Am) : amK (am.map fun p => (p.1, -p.2)) = am.map fun p => ((Sum.inr p.1 : Key), V.int (-p.2)) := by unfold amK; rw [List.map_map]; rfl
theorem amS_neg (am : Am) : amS (am.map fun p => (p.1, -p.2)) = amS am := by unfold amS; rw [List.map_map]; rfl
theorem AmOk.neg {am : Am} (h : AmOk am) : AmOk (am.map fun p => (p.1, -p.2)) := ⟨by rw [amS_neg]; exact h.nd, by rw [amS_neg]; exact h.gd, by rw [List.length_map]; exact h.n1⟩
theorem strs_flat (ws : List Str) : (ws.map V.str).all flatV = true := by
  rw [List.all_eq_true]
  intro v hv
  obtain ⟨q, _, rfl⟩ := List.mem_map.mp hv
  rfl
theorem inV_strs (w : Str) (ws : List Str) : inV (.str w) (ws.map V.str) = decide (w ∈ ws) := by
  unfold inV
  induction ws with
  | nil => rfl
  | cons u r ih =>
    rw [List.map_cons, List.any_cons, ih]
    show ((u == w) || decide (w ∈ r)) = decide (w ∈ u :: r)
    by_cases e : u = w
    · subst e; simp
    · have e2 : ¬ w = u := fun z => e z.symm
      simp [e, e2]
theorem op_inF {X : Cx} {K : PySem.W.Frag} (hk : X.K = K) : OpR X (compareOp .In) (rIn K false) := by subst hk; exact op_in_seq
theorem op_niF {X : Cx} {K : PySem.W.Frag} (hk : X.K = K) : OpR X (compareOp .NotIn) (rIn K true) := by subst hk; exact op_notIn_seq
/-- what x[i] finds -/
structure IxF (K : PySem.W.Frag) (C g : Addr) : Prop where
  hs : PySem.W.findIn K (.ref C) "__getitem__" = some (some (.ref g))
  hf : PySem.W.fnIn K g = true
  hfn : PySem.W.isFn K (.ref g) = true
end L2

namespace L2
open PySem PySem.Spec PyProof.Rows
/-- names, as data -/
def tD (ws : List Str) : PyData := .tuple (ws.map .str)
/-- lists of tuples of names, as data -/
def lD (l : List (List Str)) : PyData := .list (l.map tD)
theorem eqvAll_strs : ∀ a b : List Str, PyData.eqvAll (a.map .str) (b.map .str) = decide (a = b)
  | [], [] => by rw [List.map_nil, PyData.eqvAll]; simp
  | [], y :: s => by rw [List.map_nil, List.map_cons, PyData.eqvAll]; simp
  | x :: r, [] => by rw [List.map_nil, List.map_cons, PyData.eqvAll]; simp
  | x :: r, y :: s => by
    rw [List.map_cons, List.map_cons, PyData.eqvAll, eqvAll_strs r s, PyData.eqv]
    by_cases h : x = y <;> by_cases h2 : r = s <;> simp [h, h2]
theorem eqv_tD (a b : List Str) : PyData.eqv (tD a) (tD b) = decide (a = b) := by
  unfold tD
  rw [PyData.eqv, eqvAll_strs]
theorem eqvAll_tD : ∀ a b : List (List Str), PyData.eqvAll (a.map tD) (b.map tD) = decide (a = b)
  | [], [] => by rw [List.map_nil, PyData.eqvAll]; simp
  | [], y :: s => by rw [List.map_nil, List.map_cons, PyData.eqvAll]; simp
  | x :: r, [] => by rw [List.map_nil, List.map_cons, PyData.eqvAll]; simp
  | x :: r, y :: s => by
    rw [List.map_cons, List.map_cons, PyData.eqvAll, eqvAll_tD r s, eqv_tD]
    by_cases h : x = y <;> by_cases h2 : r = s <;> simp [h, h2]
theorem eqv_lD (a b : List (List Str)) : PyData.eqv (lD a) (lD b) = decide (a = b) := by
  unfold lD
  rw [PyData.eqv, eqvAll_tD]
theorem lay_tD {ws : List Str} (h : ∀ w ∈ ws, PyData.strOk w = true) : (tD ws).canLay0 = true ∧ (tD ws).depth = 1 := by
  obtain ⟨h1, h2⟩ := shaped_go ws h
  refine ⟨h1, ?_⟩
  show PyData.depthAll (ws.map PyData.str) + 1 = 1
  rw [h2]
theorem shaped_tD {ws : List Str} (h : ∀ w ∈ ws, PyData.strOk w = true) : SeqAt.shaped (tD ws) = true := by
  obtain ⟨h1, h2⟩ := lay_tD h
  unfold SeqAt.shaped
  rw [h1, h2]
  rfl
theorem lay_lD : ∀ {l : List (List Str)}, (∀ ws ∈ l, ∀ w ∈ ws, PyData.strOk w = true) → PyData.canLayAll0 (l.map tD) = true ∧ PyData.depthAll (l.map tD) ≤ 1
  | [], _ => ⟨rfl, Nat.zero_le _⟩
  | x :: r, h => by
    obtain ⟨h1, h2⟩ := lay_lD fun ws hw => h ws (List.mem_cons_of_mem _ hw)
    obtain ⟨g1, g2⟩ := lay_tD (h x List.mem_cons_self)
    refine ⟨?_, ?_⟩
    · show (PyData.canLay0 (tD x) && PyData.canLayAll0 (r.map tD)) = true
      rw [h1, g1]
      rfl
    · show max (PyData.depth (tD x)) (PyData.depthAll (r.map tD)) ≤ 1
      rw [g2]
      omega
theorem shaped_lD {l : List (List Str)} (h : ∀ ws ∈ l, ∀ w ∈ ws, PyData.strOk w = true) : SeqAt.shaped (lD l) = true := by
  obtain ⟨h1, h2⟩ := lay_lD h
  unfold SeqAt.shaped
  rw [Bool.and_eq_true]
  refine ⟨h1, decide_eq_true ?_⟩
  show PyData.depthAll (l.map tD) + 1 ≤ 64
  omega
theorem good_ok {w : Str} (h : good w = true) : PyData.strOk w = true := by
  have := good_asc h
  simp [PyData.strOk]
  intro c hc
  have := this (w.cps[c]) (by simp)
  omega
theorem dp_tD {K : PySem.W.Frag} {H : Hp} {t : Addr} {ws : List Str} (h : H t = some (.tup (ws.map V.str))) : Dp K H (.ref t) (tD ws) := .tup (SqT.of h) (dpAll_strs ws)
/-- a list of tuples of names in a heap -/
inductive TupsAt (H : Hp) : List V → List (List Str) → Prop
  | nil : TupsAt H [] []
  | cons {t : Addr} {ws : List Str} {vs : List V} {l : List (List Str)} : H t = some (.tup (ws.map V.str)) → TupsAt H vs l → TupsAt H (.ref t :: vs) (ws :: l)
theorem TupsAt.up {G H : Hp} {vs : List V} {l : List (List Str)} (h : TupsAt G vs l) (e : Same G H) : TupsAt H vs l := by
  induction h with
  | nil => exact .nil
  | cons a _ ih => exact .cons (e _ _ a) ih
theorem TupsAt.dp {K : PySem.W.Frag} {H : Hp} {vs : List V} {l : List (List Str)} (h : TupsAt H vs l) : DpAll K H vs (l.map tD) := by
  induction h with
  | nil => exact .nil
  | cons a _ ih => exact .cons (dp_tD a) ih
theorem TupsAt.snoc {H : Hp} {vs : List V} {l : List (List Str)} (h : TupsAt H vs l) {t : Addr} {ws : List Str} (ht : H t = some (.tup (ws.map V.str))) : TupsAt H (vs ++ [.ref t]) (l ++ [ws]) := by
  induction h with
  | nil => exact .cons ht .nil
  | cons a _ ih => exact .cons a ih
theorem dp_lD {K : PySem.W.Frag} {H : Hp} {p : Addr} {vs : List V} {l : List (List Str)} (h : H p = some (.lst vs)) (t : TupsAt H vs l) : Dp K H (.ref p) (lD l) := .lst (SqL.of h) t.dp
/-- the ranks of amounts: the levels down, each with its names in order -/
def lvls (am : Am) : List Int := ((am.map (·.2)).mergeSort (fun a b => decide (b ≤ a))).eraseDups
/-- a list that names the levels, the highest first -/
def IsLv (am : Am) (ns : List Int) : Prop := ns.Pairwise (· > ·) ∧ ∀ z, z ∈ ns ↔ z ∈ am.map (·.2)
def rks (am : Am) (ns : List Int) : List (List Str) := ns.map fun z => amS (am.filter fun p => decide (p.2 = z))
theorem isLv_one {am : Am} {a b : List Int} (ha : IsLv am a) (hb : IsLv am b) : a = b := by
  obtain ⟨a1, a2⟩ := ha
  obtain ⟨b1, b2⟩ := hb
  have h : ∀ z, z ∈ a ↔ z ∈ b := fun z => (a2 z).trans (b2 z).symm
  clear a2 b2
  induction a generalizing b with
  | nil =>
    cases b with
    | nil => rfl
    | cons y s => exact absurd ((h y).mpr List.mem_cons_self) (by simp)
  | cons x r ih =>
    cases b with
    | nil => exact absurd ((h x).mp List.mem_cons_self) (by simp)
    | cons y s =>
      obtain ⟨p1, p2⟩ := List.pairwise_cons.mp a1
      obtain ⟨q1, q2⟩ := List.pairwise_cons.mp b1
      have exy : x = y := by
        have h1 := (h x).mp List.mem_cons_self
        have h2 := (h y).mpr List.mem_cons_self
        rcases List.mem_cons.mp h1 with e | h1
        · exact e
        · rcases List.mem_cons.mp h2 with e | h2
          · exact e.symm
          · have := q1 _ h1
            have := p1 _ h2
            omega
      subst exy
      refine congrArg _ (ih p2 q2 fun z => ⟨fun hz => ?_, fun hz => ?_⟩)
      · rcases List.mem_cons.mp ((h z).mp (List.mem_cons_of_mem _ hz)) with e | e
        · subst e; exact absurd (p1 _ hz) (by omega)
        · exact e
      · rcases List.mem_cons.mp ((h z).mpr (List.mem_cons_of_mem _ hz)) with e | e
        · subst e; exact absurd (q1 _ hz) (by omega)
        · exact e
/-- Wishes.ranks and the law's own: the levels of sorted amounts -/
def rkR (am : Am) (H : Hp) (Q : VK) : Prop := ∀ (p : Addr) (vs : List V) (H' : Hp) (ns : List Int), IsLv am ns → Same H H' → H p = none → (∀ v ∈ vs, ∃ t, v = .ref t ∧ H t = none) → H' p = some (.lst vs) → TupsAt H' vs (rks am ns) → Q (.ref p) H'
def spRanks (C : Addr) : Sp := fun vs H Q _ => ∃ (x : Addr) (am : Am), vs = [.ref x] ∧ WAt C H x am ∧ AmOk am ∧ rkR am H Q
/-- __init__ of an exception that keeps one thing -/
def spXI (C : Addr) (f : Str) : Sp := fun vs H Q _ => ∃ (a : Addr) (v : V), vs = [.ref a, v] ∧ H a = some (exo a C none) ∧ ∀ dx, H dx = none → dx ≠ a → Q .non (upd (upd H dx (exd dx [(f, v)])) a (exo a C (some dx)))
/-- what the law's text holds for such a class -/
structure XCls (K : PySem.W.Frag) (mg : Str → Option Value) (nm f : Str) where
  C : Addr
  g : mg nm = some (.ref C)
  T : OexC K C
  no : PySem.W.findIn K (.ref C) f = some none
  xf : XfC K C
  ex : PySem.W.exmOne K (.ref C) (.ref C) = some true
/-- what its __init__ is, as pmk_oex wishes -/
structure XIni (K : PySem.W.Frag) (C fI : Addr) : Prop where
  iC : PySem.W.findIn K (.ref C) "__init__" = some (some (.ref fI))
  tI : PySem.W.typeIn K (.ref fI) = some (.type "function")
theorem rks_ok {am : Am} (h : AmOk am) (ns : List Int) : ∀ ws ∈ rks am ns, ∀ w ∈ ws, PyData.strOk w = true := fun ws hws w hw => by
  obtain ⟨z, _, rfl⟩ := List.mem_map.mp hws
  obtain ⟨p, hp, rfl⟩ := List.mem_map.mp hw
  exact good_ok (h.gd _ (List.mem_map.mpr ⟨p, (List.mem_filter.mp hp).1, rfl⟩))
theorem dp_am {K : PySem.W.Frag} {H : Hp} {t : Addr} {am : Am} (h : H t = some (.tup (amN am))) : Dp K H (.ref t) (tD (amS am)) := dp_tD (by rw [← amN_S]; exact h)
/-- o.m(e, ..) that may raise, inside a try: the way out may know the slots -/
def tMethT (C : Addr) (m : Str) (sp : Sp) (E : St → XK) (ta : TE) (t : TA) : TE := fun σ H Q => ta σ H fun x H1 => ∃ a dx fs, x = .ref a ∧ H1 a = some (.ins C dx fs) ∧ fs.lookup m = none ∧ t σ H1 fun vs H2 => sp (x :: vs) H2 Q (E σ)
theorem pe_methT {X : Cx} {CX : CXT} {k : Nat} {f C : Addr} {fd : FuncData} {ps : List Str} {sp : Sp} {E : St → XK} {m : Str} {o e : Expr} {es : List Expr} {ta : TE} {t : TA} {apos pos : Pos} {pl : Sem Bool} (he : PE X o ta) (c : Cls X.K C) (hm : Meth X.K C m f)
    (F : FnOk X.prog X.w X.K X.mg X.base CX k f fd ps sp) (hr : Room k X.A) (hb : Binds X.K fd ps []) (hx : ∀ σ, PassesAt CX X σ (E σ)) (ha : PA X (e :: es) t)
    (hst : starEach (e :: es) X.env = (false, eval e X.env) :: starEach es X.env := by rfl) (hpl : (backTo pos (starEach es X.env)).any (·.1) = false := by rfl)
    (ht : eval (.Call (.Attribute o m apos) (e :: es) [] pos) X.env = (do
      let ov ← eval o X.env
      standAt apos.atName
      let (f, first) ← holding [ov] (getMethod ov m pl)
      callWith pos f first (backTo pos (starEach (e :: es) X.env)) (backToKw pos (keywordEach [] X.env))) := by rfl) :
    PE X (.Call (.Attribute o m apos) (e :: es) [] pos) (tMethT C m sp E ta t) := by
  refine ⟨fun pins s σ H Q I h => PySem.W.methodCall_KW (pl := pl) (thn (he.run pins s σ H _ I h) fun u s1 hh => ?_) ht⟩
  obtain ⟨x, H1, I1, rx, a, dx, fs, rfl, ea, l, q⟩ := hh
  obtain rfl : u = Value.ref a := rx
  refine getmeth_ok I1 ea c hm l (PySem.W.callWith_K (first := [.ref a]) (h₀ := X.base) I.ok.mod.kin hm.kp ?_ hst hpl)
  refine thn (ha.run pos pins s1 σ H1 _ I1 q) fun us s2 hh => ?_
  obtain ⟨vs, H2, I2, r, q2⟩ := hh
  exact ⟨I2.kIn, run_fnS (E := E) (us := .ref a :: us) (vs := .ref a :: vs) F hr hb (hx σ) I2 (.cons rfl r) q2⟩
end L2

namespace L2
open PySem PySem.Spec PyProof.Rows
/-! ### sorted names are told by what they are -/
def LeS (x y : Str) : Prop := ltCps y.cps.toList x.cps.toList = false
theorem leS_iff {x y : Str} : LeS x y ↔ x.cps.toList ≤ y.cps.toList := by
  unfold LeS
  rw [ltCps_eq, decide_eq_false_iff_not, List.not_lt]
theorem leS_trans {x y z : Str} (a : LeS x y) (b : LeS y z) : LeS x z := leS_iff.mpr (List.le_trans (leS_iff.mp a) (leS_iff.mp b))
theorem leS_anti {x y : Str} (a : LeS x y) (b : LeS y x) : x = y := str_ext (List.le_antisymm (leS_iff.mp a) (leS_iff.mp b))
theorem rising_pw : ∀ {l : List Str} {p : Str}, risingS p l = true → (p :: l).Pairwise LeS
  | [], p, _ => List.pairwise_singleton _ _
  | x :: r, p, h => by
    have h' : (!ltCps x.cps.toList p.cps.toList && risingS x r) = true := h
    rw [Bool.and_eq_true, Bool.not_eq_true'] at h'
    have ih := rising_pw h'.2
    refine List.pairwise_cons.mpr ⟨fun y hy => ?_, ih⟩
    rcases List.mem_cons.mp hy with rfl | hy
    · exact h'.1
    · exact leS_trans h'.1 ((List.pairwise_cons.mp ih).1 y hy)
theorem sorted_pw : ∀ {l : List Str}, sortedS l = true → l.Pairwise LeS
  | [], _ => .nil
  | x :: r, h => rising_pw h
theorem pw_one : ∀ {a b : List Str}, a.Pairwise LeS → b.Pairwise LeS → a.Perm b → a = b
  | [], b, _, _, h => (List.nil_perm.mp h).symm
  | x :: r, [], _, _, h => absurd h.length_eq (by simp)
  | x :: r, y :: s, ha, hb, h => by
    obtain ⟨a1, a2⟩ := List.pairwise_cons.mp ha
    obtain ⟨b1, b2⟩ := List.pairwise_cons.mp hb
    have e : x = y := by
      rcases List.mem_cons.mp (h.mem_iff.mp (List.mem_cons_self (a := x) (l := r))) with e | h1
      · exact e
      · rcases List.mem_cons.mp (h.mem_iff.mpr (List.mem_cons_self (a := y) (l := s))) with e | h2
        · exact e.symm
        · exact leS_anti (a1 _ h2) (b1 _ h1)
    subst e
    rw [pw_one a2 b2 h.cons_inv]
theorem sortedS_one {a b : List Str} (ha : sortedS a = true) (hb : sortedS b = true) (h : a.Perm b) : a = b := pw_one (sorted_pw ha) (sorted_pw hb) h
/-- of the same names in the same order, all different: the same amounts -/
theorem am_one : ∀ {a b : Am}, (amS a).Nodup → amS a = amS b → a.Perm b → a = b
  | [], b, _, _, h => (List.nil_perm.mp h).symm
  | p :: r, [], _, _, h => absurd h.length_eq (by simp)
  | p :: r, q :: s, hn, he, h => by
    obtain ⟨e1, e2⟩ := List.cons.inj (show p.1 :: amS r = q.1 :: amS s from he)
    obtain ⟨n1, n2⟩ := List.nodup_cons.mp (show (p.1 :: amS r).Nodup from hn)
    have e : p = q := by
      rcases List.mem_cons.mp (h.mem_iff.mpr (List.mem_cons_self (a := q) (l := s))) with e | h2
      · exact e.symm
      · exact absurd (List.mem_map.mpr ⟨q, h2, e1.symm⟩) n1
    subst e
    rw [am_one n2 e2 h.cons_inv]
theorem srt_one {a b c : Am} (hc : (amS c).Nodup) (ha : srt a) (hb : srt b) (pa : a.Perm c) (pb : b.Perm c) : a = b := by
  have e : amS a = amS b := sortedS_one ha hb ((pa.trans pb.symm).map _)
  exact am_one ((pa.map Prod.fst).nodup_iff.mpr hc) e (pa.trans pb.symm)
/-- the law's own ranks of a dict of amounts -/
def spLR : Sp := fun vs H Q _ => ∃ (g : Addr) (a : Am), vs = [.ref g] ∧ H g = some (.dK (amK a)) ∧ AmOk a ∧ ∀ sa : Am, sa.Perm a → srt sa → rkR sa H Q
/-- _law_due -/
def spDue : Sp := fun vs H Q _ => ∃ (g n : Addr) (a b : Am), vs = [.ref g, .ref n] ∧ H g = some (.dK (amK a)) ∧ H n = some (.dK (amK b)) ∧ AmOk a ∧ AmOk b ∧
  ∀ sa sb : Am, sa.Perm a → srt sa → sb.Perm b → srt sb →
  (amS sa = amS sb → ∀ (p : Addr) (H' : Hp) (na nb : List Int), IsLv sa na → IsLv sb nb → Same H H' → H p = none → H' p = some (.lst [.str "agrees", .bl (decide (rks sa na = rks sb nb))]) → Q (.ref p) H') ∧
  (amS sa ≠ amS sb → ∀ (p t : Addr) (H' : Hp), Same H H' → H p = none → H t = none → H' t = some (.tup (amN sb)) → H' p = some (.lst [.str "unlike", .ref t]) → Q (.ref p) H')
theorem shaped_am {ys : List Str} {a : Am} (h : AmOk a) (p : ys.Perm (amS a)) : SeqAt.shaped (.list (ys.map PyData.str)) = true := shaped_strs ys fun w hw => good_ok (h.gd w (p.mem_iff.mp hw))
theorem eqv_strs (a b : List Str) : PyData.eqv (.list (a.map .str)) (.list (b.map .str)) = decide (a = b) := by rw [PyData.eqv, eqvAll_strs]
end L2

namespace L2
open PySem PySem.Spec PyProof.Rows
theorem walk_amK {d : Addr} {o : Obj} {am : Am} : Walk (Itk d o (amK am)) (am.map fun p => V.str p.1).length (fun H => H d = some (.frz o (.dK (amK am)))) (YAt (am.map fun p => V.str p.1)) := by
  have w := walk_keys (d := d) (o := o) (kvs := amK am)
  rw [amK_len, ← List.length_map (as := am) (f := fun p : Str × Int => V.str p.1)] at w
  refine w.mono (fun _ h => h) fun i H x H' _ _ y => ?_
  obtain ⟨e, k, v, hk, rfl⟩ := y
  refine ⟨e, ?_⟩
  unfold amK at hk
  rw [List.getElem?_map] at hk ⊢
  obtain ⟨p, hp, e2⟩ := Option.map_eq_some_iff.mp hk
  cases e2
  rw [hp]
  rfl
/-- a list comprehension that makes a pair a turn -/
theorem lc_pairs {α : Type} {J : It} {G : Hp → Prop} {as : List α} {g : α → V} (w : Walk J (as.map g).length G (YAt (as.map g))) {te : TE} {vs : List Nat} {σ : St} {H1 : Hp} {D : Addr} {Qd : Hp → Prop} {j : Nat} (kv : α → Key × V)
    (hD : H1 D = none) (hG : ∀ H', Same H1 H' → G H') (hl : as.length ≤ 1000) (hw : ∀ x, wipe ((wipe σ vs).set j (some x)) vs = wipe σ vs)
    (he : ∀ a ∈ as, ∀ (H' : Hp) (Q : VK), Same H1 H' → (∀ t, H' t = none → Q (.ref t) (upd H' t (.tup [kV (kv a).1, (kv a).2]))) → te ((wipe σ vs).set j (some (g a))) H' Q)
    (hd : ∀ (ps : List Addr) (H' : Hp), Same H1 H' → H' D = some (.lst (ps.map V.ref)) → Paired (fun p q => H' p = some (.tup [kV q.1, q.2])) ps (as.map kv) → Qd H') :
    ∃ W : Nat → Nat → Hp → Prop, (∃ m, W 0 m (upd H1 D (.lst []))) ∧ ∀ i m H, W i m H →
      (J.stop i H ∧ Qd H) ∨ (J.go i H ∧ ∃ Nx : Hp → Prop, (∀ H', Nx H' → ∃ m', m' < m ∧ W (i + 1) m' H') ∧ ∀ x H', J.yld i H x H' → gName j x (wipe σ vs) H' fun σ2 H2 => wipe σ2 vs = wipe σ vs ∧ tYes σ2 H2 fun b H3 =>
        if b = true then te σ2 H3 fun y H4 => ∃ acc, H4 D = some (.lst acc) ∧ acc.length < sizeLine ∧ Nx (upd H4 D (.lst (acc ++ [y]))) else Nx H3) := by
  have ln : (as.map g).length = as.length := List.length_map _
  refine lc_it w (fun i H => ∃ ps : List Addr, Same H1 H ∧ H D = some (.lst (ps.map V.ref)) ∧ ps.length = i ∧ Paired (fun p q => H p = some (.tup [kV q.1, q.2])) ps ((as.take i).map kv)) ⟨[], same_of_none hD, upd_same, rfl, .nil⟩ (fun i H _ ⟨ps, s, _⟩ => hG _ s) (fun i x H H' hi h y => ?_) (fun H h => ?_)
  · obtain ⟨ps, s, hDl, hpl, hP⟩ := h
    obtain ⟨rfl, hx⟩ := y
    rw [List.getElem?_map] at hx
    obtain ⟨a, ha, rfl⟩ := Option.map_eq_some_iff.mp hx
    have hm : a ∈ as := List.mem_of_getElem? ha
    have ht' := take_more ha
    refine ⟨hw _, ?_⟩
    unfold tYes
    refine if_pos rfl |>.mpr (he a hm _ _ s fun t ht => ?_)
    have hDt : D ≠ t := ne_of_none hDl ht
    have s2 := same_of_none (o := .tup [kV (kv a).1, (kv a).2]) ht
    refine ⟨_, s2 _ _ hDl, small1000 (by rw [List.length_map]; omega), ps ++ [t], ?_, by rw [upd_same, List.map_append]; rfl, by rw [List.length_append, hpl]; rfl, ?_⟩
    · exact (s.trans s2).unseen hD
    · rw [ht', List.map_append]
      refine Paired.snoc ?_ (by rw [upd_ne hDt.symm]; exact upd_same)
      refine hP.mono fun p q h => ?_
      have hpD : p ≠ D := fun z => by rw [z, hDl] at h; cases h
      rw [upd_ne hpD]
      exact s2 _ _ h
  · obtain ⟨ps, s, hDl, _, hP⟩ := h
    rw [ln, List.take_length] at hP
    exact hd ps H s hDl hP
theorem mergeK_am : ∀ {kvs acc : List (Key × V)}, (kvs.map (·.1)).Nodup → (∀ p ∈ kvs, valV acc p.1 = none) → mergeK acc kvs = acc ++ kvs
  | [], acc, _, _ => (List.append_nil _).symm
  | p :: r, acc, hn, ha => by
    obtain ⟨n1, n2⟩ := List.nodup_cons.mp hn
    have h1 := ha p List.mem_cons_self
    show mergeK (putK acc p.1 p.2) r = acc ++ p :: r
    rw [putK_new _ h1, mergeK_am n2 fun q hq => ?_]
    · rw [List.append_assoc]; rfl
    · rw [valV_snoc _ _ _ _ h1, if_neg fun e => n1 (by show p.1 ∈ _; rw [← e]; exact List.mem_map.mpr ⟨q, hq, rfl⟩)]
      exact ha q (List.mem_cons_of_mem _ hq)
/-! ### amounts put and dropped -/
def aput (b : Am) (w : Str) (z : Int) : Am := if w ∈ amS b then b.map (fun p => if p.1 = w then (p.1, z) else p) else b ++ [(w, z)]
theorem amK_any (b : Am) (w : Str) : ((amK b).any fun kv => decide (kv.1 = (Sum.inr w : Key))) = decide (w ∈ amS b) := by
  induction b with
  | nil => rfl
  | cons p r ih =>
    show (decide ((Sum.inr p.1 : Key) = Sum.inr w) || (amK r).any fun kv => decide (kv.1 = (Sum.inr w : Key))) = decide (w ∈ p.1 :: amS r)
    rw [ih]
    by_cases e : p.1 = w
    · subst e; simp
    · have e2 : ¬ w = p.1 := fun z => e z.symm
      have e3 : ¬ (Sum.inr p.1 : Key) = Sum.inr w := fun z => e (Sum.inr.inj z)
      simp [e2, e3]
theorem amK_put (b : Am) (w : Str) (z : Int) : amK (aput b w z) = putK (amK b) (Sum.inr w) (.int z) := by
  unfold aput putK
  rw [amK_any]
  by_cases h : w ∈ amS b
  · rw [if_pos h, if_pos (decide_eq_true h)]
    unfold amK
    rw [List.map_map, List.map_map]
    refine List.map_congr_left fun p _ => ?_
    show ((Sum.inr (if p.1 = w then (p.1, z) else p).1 : Key), V.int (if p.1 = w then (p.1, z) else p).2) = if (Sum.inr p.1 : Key) = Sum.inr w then ((Sum.inr p.1 : Key), V.int z) else (Sum.inr p.1, V.int p.2)
    by_cases e : p.1 = w
    · rw [if_pos e, if_pos (by rw [e])]
    · rw [if_neg e, if_neg fun q => e (Sum.inr.inj q)]
  · rw [if_neg h, if_neg (by rw [decide_eq_false h]; exact Bool.false_ne_true)]
    unfold amK
    rw [List.map_append]
    rfl
theorem amS_put (b : Am) (w : Str) (z : Int) : amS (aput b w z) = if w ∈ amS b then amS b else amS b ++ [w] := by
  unfold aput
  by_cases h : w ∈ amS b
  · rw [if_pos h, if_pos h]
    unfold amS
    rw [List.map_map]
    refine List.map_congr_left fun p _ => ?_
    show (if p.1 = w then (p.1, z) else p).1 = p.1
    split <;> rfl
  · rw [if_neg h, if_neg h]
    unfold amS
    rw [List.map_append]
    rfl
theorem amS_len (b : Am) : (amS b).length = b.length := by unfold amS; rw [List.length_map]
theorem put_len (b : Am) (w : Str) (z : Int) : (aput b w z).length = if w ∈ amS b then b.length else b.length + 1 := by
  rw [← amS_len, amS_put]
  split
  · exact amS_len b
  · rw [List.length_append, amS_len]; rfl
theorem AmOk.put {b : Am} (h : AmOk b) (w : Str) (z : Int) (g : good w = true) (l : b.length ≤ 7) : AmOk (aput b w z) := by
  refine ⟨?_, fun u hu => ?_, ?_⟩
  · rw [amS_put]
    split
    · exact h.nd
    · rename_i n
      refine List.nodup_append.mpr ⟨h.nd, List.nodup_cons.mpr ⟨by simp, List.nodup_nil⟩, fun x hx y hy e => ?_⟩
      rw [List.mem_singleton.mp hy] at e
      exact n (e ▸ hx)
  · rw [amS_put] at hu
    split at hu
    · exact h.gd u hu
    · rcases List.mem_append.mp hu with hu | hu
      · exact h.gd u hu
      · rw [List.mem_singleton.mp hu]; exact g
  · rw [put_len]; split <;> omega
def adrop (b : Am) (w : Str) : Am := b.filter fun p => decide (p.1 ≠ w)
theorem amK_drop (b : Am) (w : Str) : amK (adrop b w) = dropK (amK b) (Sum.inr w) := by
  unfold adrop dropK amK
  rw [List.filter_map]
  refine congrArg _ (List.filter_congr fun p _ => ?_)
  show decide (p.1 ≠ w) = decide ((Sum.inr p.1 : Key) ≠ Sum.inr w)
  rw [decide_eq_decide]
  exact ⟨fun h e => h (Sum.inr.inj e), fun h e => h (by rw [e])⟩
theorem AmOk.drop {b : Am} (h : AmOk b) (w : Str) : AmOk (adrop b w) := by
  have s : (amS (adrop b w)).Sublist (amS b) := (List.filter_sublist).map _
  exact ⟨h.nd.sublist s, fun u hu => h.gd u (s.subset hu), Nat.le_trans (List.length_filter_le _ _) h.n1⟩
theorem drop_not (b : Am) (w : Str) : w ∉ amS (adrop b w) := fun h => by
  obtain ⟨p, hp, e⟩ := List.mem_map.mp h
  exact of_decide_eq_true (List.mem_filter.mp hp).2 e
theorem drop_len {b : Am} (h : (amS b).Nodup) {w : Str} (hw : w ∈ amS b) : (adrop b w).length + 1 = b.length := by
  induction b with
  | nil => cases hw
  | cons p r ih =>
    obtain ⟨n1, n2⟩ := List.nodup_cons.mp (show (p.1 :: amS r).Nodup from h)
    by_cases e : p.1 = w
    · subst e
      have : adrop (p :: r) p.1 = r := by
        unfold adrop
        rw [List.filter_cons, if_neg (by simp)]
        refine List.filter_eq_self.mpr fun q hq => decide_eq_true fun e => n1 (List.mem_map.mpr ⟨q, hq, e⟩)
      rw [this]
      rfl
    · have hw' : w ∈ amS r := by
        rcases List.mem_cons.mp (show w ∈ p.1 :: amS r from hw) with h | h
        · exact absurd h.symm e
        · exact h
      have : adrop (p :: r) w = p :: adrop r w := by
        unfold adrop
        rw [List.filter_cons, if_pos (decide_eq_true e)]
      rw [this]
      show (adrop r w).length + 1 + 1 = r.length + 1
      rw [ih n2 hw']
/-- another amount for each -/
theorem amK_map (b : Am) (f : Int → Int) : amK (b.map fun p => (p.1, f p.2)) = b.map fun p => ((Sum.inr p.1 : Key), V.int (f p.2)) := by unfold amK; rw [List.map_map]; rfl
theorem amS_map (b : Am) (f : Int → Int) : amS (b.map fun p => (p.1, f p.2)) = amS b := by unfold amS; rw [List.map_map]; rfl
theorem AmOk.map {b : Am} (h : AmOk b) (f : Int → Int) : AmOk (b.map fun p => (p.1, f p.2)) := ⟨by rw [amS_map]; exact h.nd, by rw [amS_map]; exact h.gd, by rw [List.length_map]; exact h.n1⟩
theorem DPut.am {H : Hp} {d : Addr} {b : Am} {w : Str} {z : Int} (h : H d = some (.dK (amK b))) (l : b.length ≤ 1000) : DPut H d (.str w) (.int z) (upd H d (.dK (amK (aput b w z)))) :=
  .inl ⟨amK b, .inr w, h, rfl, by rw [amK_len]; exact small1000 l, by rw [amK_put]⟩
theorem am_val {b : Am} {w : Str} (h : w ∈ amS b) : ∃ z, (w, z) ∈ b := by
  obtain ⟨p, hp, e⟩ := List.mem_map.mp h
  exact ⟨p.2, by rw [← e]; exact hp⟩
/-- _law_near: amounts near the given ones -/
def spNear : Sp := fun vs H Q _ => ∃ (s : Addr) (N : Nat) (G : Hp) (g : Addr) (a : Am), vs = [.ref s, .ref g] ∧ View s N G H ∧ N ≤ 800000 ∧ G g = some (.dK (amK a)) ∧ AmOk a ∧ 1 ≤ a.length ∧ a.length ≤ 6 ∧ (∀ p ∈ a, p.2.natAbs < 2 ^ 100) ∧
  ∀ (p : Addr) (b : Am) (H' : Hp), AmOk b → 1 ≤ b.length → b.length ≤ 6 → G p = none → View s (N + 70) (upd G p (.dK (amK b))) H' → Q (.ref p) H'
theorem am_permV {a : Am} {zs : List V} (hn : (amS a).Nodup) (h : zs.Perm (amN a)) : ∃ am : Am, am.Perm a ∧ zs = amN am := by
  let un : V → Str := fun v => match v with | .str w => w | _ => Str.ofString ""
  have e1 : (amN a).map un = amS a := by unfold amN amS; rw [List.map_map]; rfl
  have h2 : (zs.map un).Perm (amS a) := by rw [← e1]; exact h.map un
  obtain ⟨am, ha, hs⟩ := am_perm hn h2
  refine ⟨am, ha, ?_⟩
  rw [amN_S, hs, List.map_map]
  refine (List.map_id zs).symm.trans (List.map_congr_left fun v hv => ?_)
  obtain ⟨p, _, rfl⟩ := List.mem_map.mp (h.mem_iff.mp hv)
  rfl
theorem pickW {ws : List Str} {d : Int} (h0 : 0 ≤ d) (h1 : d < (ws.length : Int)) : ∃ w ∈ ws, atI (ws.map V.str) d = some (.str w) := by
  obtain ⟨k, rfl⟩ := Int.eq_ofNat_of_zero_le h0
  have hk : k < ws.length := by omega
  exact ⟨ws[k], List.getElem_mem hk, atI_nat (by rw [List.getElem?_map, List.getElem?_eq_getElem hk]; rfl)⟩
theorem aput_new {b : Am} {w : Str} {z : Int} (h : w ∉ amS b) : aput b w z = b ++ [(w, z)] := if_neg h
theorem good_zz9 : good "zz9" = true := by decide +kernel
end L2

namespace L2
open PySem PySem.Spec PyProof.Rows
/-- x == y by the own __eq__ at g: two instances of the class at C -/
def rOwnEq (C : Addr) (sp : Sp) (E : XK) : R2 := fun x y H Q => ∃ a dx fs b dy gs, x = .ref a ∧ y = .ref b ∧ H a = some (.ins C dx fs) ∧ H b = some (.ins C dy gs) ∧ sp [.ref a, .ref b] H Q E
theorem op_eqOwn {X : Cx} {CX : CXT} {k : Nat} {C g : Addr} {fd : FuncData} {ps : List Str} {sp : Sp} {E : XK} (hs : PySem.W.findIn X.K (.ref C) "__eq__" = some (some (.ref g))) (hf : PySem.W.isFn X.K (.ref g) = true) (nf : PySem.W.notFirst X.K C (.ref C) = true)
    (F : FnOk X.prog X.w X.K X.mg X.base CX k g fd ps sp) (hr : Room k X.A) (hb : Binds X.K fd ps []) (hx : Passes CX X E) : OpR X (compareOp .Eq) (rOwnEq C sp E) := by
  intro pins s σ H x y v u Q I rx ry h
  obtain ⟨a, dx, fs, b, dy, gs, rfl, rfl, ea, eb, q⟩ := h
  obtain rfl : v = Value.ref a := rx
  obtain rfl : u = Value.ref b := ry
  obtain ⟨_, O, _, _, _, _⟩ := ins_get I.hok ea
  obtain ⟨_, O', _, _, _, _⟩ := ins_get I.hok eb
  obtain ⟨_, J, _⟩ := O.look
  obtain ⟨_, J', _⟩ := O'.look
  obtain ⟨_, fr⟩ := I.fr
  show wpAny _ _ (richCompare .Eq (.ref a) (.ref b)) _ _ _
  refine PySem.W.cmp_K (op := .Eq) (tb := .ref C) (by have := hr.un; omega) fr I.ok.mod.kin J J'.type nf hs hf ?_
  refine wpAny_mono (run_fn (us := [.ref a, .ref b]) (vs := [.ref a, .ref b]) (ds := []) (dvs := []) F hr hb .nil hx I (.cons rfl (.cons rfl .nil)) (by rw [List.append_nil]; exact q)) (fun w s' z => ?_) fun _ _ e => e
  obtain ⟨z', H', I', rz, qz⟩ := z
  exact SlX.cmpback rz ⟨z', H', I', rz, qz⟩
/-! ### x != y by object.__ne__, which asks the own __eq__ -/
section
open PySem.W
variable {prog : Program} {w : World} {A : Around} {E : Value → Shared → Prop} {s : Shared} {K : Frag} {x C L g : Addr} {h₀ : Heap} {m : Str → Option Value} {ox : Obj} {od : Option Obj} {b tb : Value}
/-- the special method that is a built-in's -/
theorem asked_B {M : Model} {id : String} {name : Str} {args : List Value} {Q : Option Value → Shared → Prop} (X : K.In s.heap) (I : InstAt s.heap x ox C od) (hs : findIn K (.ref C) name = some (some (.builtin id))) {B : String} (S : Slot B name id)
    (h : wpAny M A (call (.builtin id) (.ref x :: args)) (fun v => Q (some v)) E s) : wpAny M A (callSpecialIfBound? (.ref x) name args) Q E s := by
  have fin : wpAny M A (call (.builtin id) ([.ref x] ++ args) >>= fun v => pure (some v)) Q E s := wpAny_bind (wpAny_mono h (fun v s' q => wpAny_pure q) fun _ _ e => e)
  simp only [callSpecialIfBound?, bindSpecialIfBound?]
  refine wpAny_holding (wpAny_bind (wpAny_bind (wpAny_bind (I.type.here ((looks_findIn X hs).here ?_)))))
  simp only [S.bind]
  refine wpAny_bind (wpAny_askSetting (wpAny_ite ?_))
  split
  · exact wpAny_bind (wpAny_pure (wpAny_pure fin))
  · exact wpAny_tryCatch (wpAny_bind (wpAny_pure (wpAny_pure fin)))
/-- object.__ne__ is called at all -/
theorem may_ne {M : Model} {Q : Unit → Shared → Prop} (X : K.In s.heap) (I : InstAt s.heap x ox C od) (ko : subIn K (.ref C) (.type "object") = some true) (q : Q () s) : wpAny M A (checkBuiltinCall "object.__ne__" ⟨[.ref x, b], []⟩) Q E s := by
  simp only [checkBuiltinCall, PySem.F.cmpKind_ne, PySem.F.cmpSplit_ne]
  refine wpAny_bind ?_
  unfold isInstance
  refine wpAny_bind (I.type.here ((looks_subIn X ko).here ?_))
  simp only [Bool.not_true, Bool.false_eq_true, if_false]
  cases hsig : Manifest.signature? "object.__ne__" with
  | none => exact wpAny_pure q
  | some sig =>
    have ha := PySem.F.cmpArgs_ne (.ref x) b
    simp only [argsOk, hsig] at ha
    have h2 : Bind.checkArgs "object.__ne__" sig ⟨[.ref x, b], []⟩ = pure () := ha
    show wpAny M A (Bind.checkArgs "object.__ne__" sig ⟨[.ref x, b], []⟩) Q E s
    rw [h2]
    exact wpAny_pure q
/-- object.__ne__(x, b), its question put to the own __eq__ at g, which answers with a truth value -/
theorem ne_asks {Q : Value → Shared → Prop} (hu : A.units + 1 < cLine) (X : K.In s.heap) (I : InstAt s.heap x ox C od) (he : findIn K (.ref C) "__eq__" = some (some (.ref g))) (hf : isFn K (.ref g) = true) (ko : subIn K (.ref C) (.type "object") = some true)
    (h : wpAny (model prog w) A.in1 (call (.ref g) [.ref x, b]) (fun v s' => ∃ c, v = .bool c ∧ Q (.bool (!c)) s') E s) : wpAny (model prog w) A (call (.builtin "object.__ne__") [.ref x, b]) Q E s := by
  refine wpAny_call (codeAny_call_builtin PySem.F.cmp_object.ne.plain PySem.F.cmpEntry_ne (may_ne X I ko ?_))
  unfold Builtin.«object.__ne__»
  refine wpAny_bind (wpAny_pure ?_)
  dsimp only
  refine wpAny_bind (wpAny_cRoomFor (by show A.units + 1 < cLine; exact hu) ?_)
  refine wpAny_bind (ifBound_K X I he hf (wpAny_mono h (fun v s' hv => ?_) fun _ _ e => e))
  obtain ⟨c, rfl, q⟩ := hv
  refine wpAny_bind (wpAny_pure ?_)
  exact wpAny_pure q
end
/-- x != y of two instances of the class at C, by object.__ne__ over the own __eq__ at g -/
def rOwnNe (C : Addr) (sp : Sp) (E : XK) : R2 := fun x y H Q => ∃ a dx fs b dy gs, x = .ref a ∧ y = .ref b ∧ H a = some (.ins C dx fs) ∧ H b = some (.ins C dy gs) ∧ sp [.ref a, .ref b] H (fun v H' => ∃ c, v = .bl c ∧ Q (.bl (!c)) H') E
theorem op_neOwn {X : Cx} {CX : CXT} {k : Nat} {C g : Addr} {fd : FuncData} {ps : List Str} {sp : Sp} {E : XK} (hs : PySem.W.findIn X.K (.ref C) "__eq__" = some (some (.ref g))) (hf : PySem.W.isFn X.K (.ref g) = true) (nf : PySem.W.notFirst X.K C (.ref C) = true)
    (hne : PySem.W.findIn X.K (.ref C) "__ne__" = some (some (.builtin "object.__ne__"))) (ko : PySem.W.subIn X.K (.ref C) (.type "object") = some true)
    (F : FnOk X.prog X.w X.K X.mg X.base CX k g fd ps sp) (hr : Room (k + 1) X.A) (hb : Binds X.K fd ps []) (hx : Passes CX X E) : OpR X (compareOp .NotEq) (rOwnNe C sp E) := by
  intro pins s σ H x y v u Q I rx ry h
  obtain ⟨a, dx, fs, b, dy, gs, rfl, rfl, ea, eb, q⟩ := h
  obtain rfl : v = Value.ref a := rx
  obtain rfl : u = Value.ref b := ry
  obtain ⟨_, O, _, _, _, _⟩ := ins_get I.hok ea
  obtain ⟨_, O', _, _, _, _⟩ := ins_get I.hok eb
  obtain ⟨_, J, _⟩ := O.look
  obtain ⟨_, J', _⟩ := O'.look
  have hun := hr.un
  have hv : Vals [V.ref a, V.ref b] [Value.ref a, Value.ref b] := .cons rfl (.cons rfl .nil)
  have hl : ([Value.ref a, Value.ref b] ++ ([] : List Value)).length = ps.length := by
    rw [List.append_nil, ← hv.length]
    exact F.len _ _ _ _ q
  have told : wpAny (model X.prog X.w) X.A (tryCompare (.ref a) "__ne__" (.ref b)) (fun r s' => ∃ c, r = some (.bool c) ∧ EP X pins σ Q (.bool c) s') X.xe s := by
    simp only [tryCompare]
    refine wpAny_bind (asked_B I.kIn J hne PySem.F.cmp_object.ne (wpAny_mono (ne_asks (Q := fun v s' => ∃ c, v = .bool c ∧ EP X pins σ Q (.bool c) s') (by omega) I.kIn J hs hf ko (wpAny_call (codeAny_mono (F.run X.A.in1 X.stack s H ⟨[.ref a, .ref b], []⟩ ([.ref a, .ref b] ++ []) [.ref a, .ref b] _ E hr.in1 I.env0.in1 (hb s [.ref a, .ref b] I.kIn hl) (by rw [List.append_nil]; exact hv) q) fun r s' hq => ?_))) (fun v s' hv' => ?_) fun _ _ e => e))
    · cases r with
      | error er => exact hx pins σ H s er s' I hq
      | ok fl =>
        cases fl with
        | ret z =>
          obtain ⟨z', H', I', rz, c, rfl, qz⟩ := I.after hq
          cases (show z = Value.bool c from rz)
          exact ⟨c, rfl, !c, rfl, .bl (!c), H', I', rfl, qz⟩
        | next => exact False.elim hq
        | brk => exact False.elim hq
        | cont => exact False.elim hq
    · obtain ⟨c, rfl, hp⟩ := hv'
      exact wpAny_pure ⟨c, rfl, hp⟩
  show wpAny _ _ (richCompare .NotEq (.ref a) (.ref b)) _ _ _
  unfold richCompare
  simp only [oneThing_ref]
  refine wpAny_holding (wpAny_bind (wpAny_cRoomFor (by omega) ?_))
  refine wpAny_bind (J.type.here (wpAny_bind (J'.type.here ?_)))
  have fin : ∀ {k : Option Value → Sem Value}, (∀ c s', EP X pins σ Q (.bool c) s' → wpAny (model X.prog X.w) X.A (k (some (.bool c))) (EP X pins σ Q) X.xe s') → wpAny (model X.prog X.w) X.A (tryCompare (.ref a) "__ne__" (.ref b) >>= k) (EP X pins σ Q) X.xe s := fun hk =>
    wpAny_bind (wpAny_mono told (fun r s' hr' => by obtain ⟨c, rfl, hp⟩ := hr'; exact hk c s' hp) fun _ _ e => e)
  split
  · rename_i q'
    exact absurd q' (by simp)
  · refine wpAny_bind (wpAny_pure ?_)
    simp only [Bool.false_eq_true, if_false]
    exact fin fun c s' hp => wpAny_pure hp
/-- what x == y and x != y find -/
structure EqF (K : PySem.W.Frag) (C g : Addr) : Prop where
  hs : PySem.W.findIn K (.ref C) "__eq__" = some (some (.ref g))
  hf : PySem.W.isFn K (.ref g) = true
  nf : PySem.W.notFirst K C (.ref C) = true
  ne : PySem.W.findIn K (.ref C) "__ne__" = some (some (.builtin "object.__ne__"))
  ko : PySem.W.subIn K (.ref C) (.type "object") = some true
end L2

namespace L2
open PySem PySem.Spec PyProof.Rows
/-! ### set(xs), xs a list of whole numbers (SetFor has it of a tuple) -/
section
variable {P : Program} {w : World} {A : Around} {E : Value → Shared → Prop} {s : Shared}
/-- a fresh set's object -/
abbrev emptySet (w : World) : Obj := { cls := .type "set", dict := none, data := .set #[] 0 (.fresh 0 0 (!w.params.followText "set-order")) }
set_option maxHeartbeats 6400000 in
/-- what __init__ makes of a fresh set -/
theorem fill_listI {a l : Addr} {items : Array Value} (ns : List Int) {R : Result → Shared → Prop} (hh : A.handled = none) (ha : s.heap.get? a = some (emptySet w)) (hl : s.heap.IsList l items) (hal : a ≠ l) (hit : IntsAre items.toList ns) (hb : ns.length + 1 < scanBound)
    (h : ∀ (h' : Heap) (tk c : Nat), SetR w h' a (fun j => decide (j ∈ ns)) c → c ≤ ns.length → (∀ b o, b ≠ a → s.heap.get? b = some o → h'.get? b = some o) → R (.ok (.ret .none)) { s with heap := h', toks := tk }) :
    codeAny (model P w) A (.call (.builtin "set.__init__") ⟨[.ref a, .ref l], []⟩) R s := by
  have n0 : items.size = ns.length := by simpa using IntsAre.length hit
  refine codeAny_call_builtin F.called_set.init.plain F.entry_set_init (check_set_init_1 ⟨_, ha, rfl⟩ ?_)
  obtain ⟨⟨oc, od, odt, osl⟩, hol, hcl, nl, hdl⟩ := id hl
  simp only at hcl hdl
  subst hcl hdl
  have k1 := F.sub_list_set
  have k2 := F.sub_list_frozenset
  have k3 : (Value.type "list" == Value.type "dict") = false := by decide
  unfold Builtin.«set.__init__» noKeywords Builtin.Frozenset.updateFrom
  generalize hI : pyIter = I
  wp_walk
  subst hI
  refine wpAny_pyIter_list hl ?_
  refine wpAny_bind (wpAny_runValue ?_)
  have la : a < s.heap.objs.size := Heap.lt_size ha
  have ll : l < s.heap.objs.size := Heap.lt_size hol
  have h2 : A.in1.in1.handled = none := by simp [hh]
  have nI : l ≠ s.heap.objs.size := Nat.ne_of_lt ll
  have na : a ∉ [s.heap.objs.size, l] := by
    simp only [List.mem_cons, List.not_mem_nil, or_false, not_or]
    exact ⟨Nat.ne_of_lt la, hal⟩
  have each : ∀ (i : Nat) (v : Value), items[i]? = some v → ∃ k t, ns[i]? = some k ∧ v = .int k t := fun i v hv => by
    have hi : i < ns.length := by rw [← n0]; exact (Array.getElem?_eq_some_iff.mp hv).1
    obtain ⟨t, e⟩ := PyProof.Rows.IntsAre.int_at hit i v (by rw [Array.getElem?_toList]; exact hv)
    exact ⟨ns[i], t, List.getElem?_eq_getElem hi, by rw [e, List.getD_eq_getElem?_getD, List.getElem?_eq_getElem hi]; rfl⟩
  refine set_update_ints ((Walks.list h2 _ l nI items).toS) a na ns n0 hb each (items.size - 0) 0 _ (by omega) (Nat.zero_le _) ⟨⟨_, Heap.get?_push_size _ rfl, rfl, rfl⟩, hl.push _⟩ ⟨0, Nat.le_refl 0, setR_new_at (Heap.get?_push_of_some _ ha)⟩ ?_
  intro s' c hm hc hS
  obtain ⟨h', g', d', tk', os'⟩ := s'
  obtain rfl : g' = s.gens := hm.gens
  obtain rfl : d' = s.drawn := hm.drawn
  obtain rfl : os' = s.os := hm.os
  rw [n0] at hc
  refine wpAny_pure (wpAny_pure (h h' tk' c hS hc fun b o hba e => ?_))
  have hb0 : b < s.heap.objs.size := Heap.lt_size e
  exact hm.heap b o (by simp only [List.mem_cons, List.not_mem_nil, or_false, not_or]; exact ⟨hba, Nat.ne_of_lt hb0⟩) (Heap.get?_push_of_some _ e)
set_option maxHeartbeats 6400000 in
theorem call_set_listI {l : Addr} {items : Array Value} (ns : List Int) {Q : Value → Shared → Prop} (hh : A.handled = none) (hl : s.heap.IsList l items) (hit : IntsAre items.toList ns) (hb : ns.length + 1 < scanBound)
    (h : ∀ (h' : Heap) (tk c : Nat), SetR w h' s.heap.objs.size (fun j => decide (j ∈ ns)) c → c ≤ ns.length → (∀ b o, s.heap.get? b = some o → h'.get? b = some o) → Q (.ref s.heap.objs.size) { s with heap := h', toks := tk }) :
    wpAny (model P w) A (call (.type "set") [.ref l]) Q E s := by
  have n0 : items.size = ns.length := by simpa using IntsAre.length hit
  have lt0 : l < s.heap.objs.size := by
    obtain ⟨_, e, _⟩ := hl
    exact Heap.lt_size e
  have c1 := F.called_set.made
  have c2 := F.called_set.sub
  have c3 := F.called_set.notType
  have c4 := F.called_set.canCreate
  have c5 := F.typeCall_set_1 (.ref l)
  have c6 := F.called_set.init.lookup
  have c7 := F.called_set.init.bind (.ref s.heap.objs.size)
  obtain ⟨c, tl, c8⟩ := F.called_set.mro
  refine wpAny_call (codeAny_of_tree ?_)
  show wpAny _ _ (callAny (.type "set") _) _ _ _
  refine wpAny_pure ⟨Code.quiet_builtin _ (by decide +kernel), codeAny_builtin F.entry_type_call ?_⟩
  rw [Around.under_plain (weight_type_call_type "set" [.ref l] []) rfl]
  repeat (any_goals (first | assumption | wp_step))
  -- the new set
  refine codeAny_mono (code_set_led1 (.ref l) (E := E) (Q₁ := fun v s1 => v = .ref s.heap.objs.size ∧ s1 = { s with heap := s.heap.push (emptySet w) }) ⟨rfl, rfl⟩) fun r s1 hr => ?_
  rcases r with e | f
  · exact hr
  rcases f with _ | v | _ | _
  case next => exact hr.elim
  case brk => exact hr.elim
  case cont => exact hr.elim
  obtain ⟨rfl, rfl⟩ := hr
  have sz1 : (s.heap.push (emptySet w)).objs.size = s.heap.objs.size + 1 := Heap.size_push ..
  have got : (s.heap.push (emptySet w)).get? s.heap.objs.size = some (emptySet w) := Heap.get?_push_size _ rfl
  have ty : Shared.TypeIs { s with heap := s.heap.push (emptySet w) } (.ref s.heap.objs.size) "set" := ⟨_, got, rfl⟩
  repeat (any_goals (first | assumption | wp_step))
  have hl1 : (s.heap.push (emptySet w)).IsList l items := hl.push _
  refine fill_listI (w := w) ns (by simp [hh]) got hl1 (Nat.ne_of_gt lt0) hit hb fun h' tk c hS hc hk => ?_
  refine wpAny_pure ?_
  repeat (any_goals (first | assumption | wp_step))
  exact h h' tk c hS hc fun b o e => hk b o (Nat.ne_of_lt (Heap.lt_size e)) (Heap.get?_push_of_some _ e)
end
section
variable {X : Cx}
/-- set(xs), xs a list of whole numbers: the set's members are told, their number is some c -/
def rSetOfI (K : PySem.W.Frag) (w : World) : List V → Hp → VK → Prop := fun xs H Q => ∃ (l : Addr) (ns : List Int), xs = [.ref l] ∧ SqL K H l (ns.map V.int) ∧ ns.length ≤ 1000 ∧
  ∀ (p : Addr) (c : Nat), c ≤ ns.length → H p = none → Q (.ref p) (upd H p (SetO w p (fun j => decide (j ∈ ns)) c))
theorem cr_setOfI (hc : X.calm = true) : CallR X (.type "set") (rSetOfI X.K X.w) := by
  intro pins s σ H xs us Q I r h
  obtain ⟨l, ns, rfl, hs, h10, q⟩ := h
  rw [Vals.ref1 r]
  obtain ⟨its, rv, pl, hz⟩ := I.list hs
  refine call_set_listI ns (I.ok.hd hc) pl.isList (by simpa using ints_of_vals rv) (by unfold scanBound; omega) fun h' tk c hS hc hk => ?_
  have hn : H s.heap.objs.size = none := I.hok.fresh (Nat.le_refl _)
  exact ⟨.ref _, _, I.laid (t' := tk) hk (Nat.le_refl _) (setO_new hS), rfl, q _ c hc hn⟩
end
end L2

namespace L2
open PySem PySem.Spec PyProof.Rows
open PpSet
/-! ### {e for x in xs}, e a whole number (SetBool has it of truth values) -/
/-- D is the new set; each turn's e joins it -/
def tScI (w : World) (wi : TI) (g : TG) (te : TE) (vs : List Nat) : TE := fun σ H Q => wi σ H fun J H1 => ∀ D, H1 D = none → ∃ W : Nat → Nat → Hp → Prop, (∃ m, W 0 m (upd H1 D (SetO w D (fun _ => false) 0))) ∧ ∀ i m H, W i m H →
  (J.stop i H ∧ Q (.ref D) H) ∨ (J.go i H ∧ ∃ Nx : Hp → Prop, (∀ H', Nx H' → ∃ m', m' < m ∧ W (i + 1) m' H') ∧ ∀ x H', J.yld i H x H' → g x (wipe σ vs) H' fun σ2 H2 => wipe σ2 vs = wipe σ vs ∧
    te σ2 H2 fun y H4 => ∃ (c : Int) (S : Int → Bool) (n : Nat), y = .int c ∧ H4 D = some (SetO w D S n) ∧ n + 1 < scanBound ∧ Nx (upd H4 D (SetO w D (fun j => S j || decide (j = c)) (if S c = true then n else n + 1))))
section
variable {X : Cx}
theorem joinI {pins : List (Addr × Obj)} {σ : L2.St} {H : Hp} {s : Shared} {E : Value → Shared → Prop} {D : Addr} {S : Int → Bool} {n : Nat} {y : Int} {tk : Tok} {Q : Value → Shared → Prop} (I : Inv X pins σ H s) (hD : H D = some (SetO X.w D S n)) (room : n + 1 < scanBound)
    (h : ∀ s', Inv X pins σ (upd H D (SetO X.w D (fun j => S j || decide (j = y)) (if S y = true then n else n + 1))) s' → Q .none s') : wpAny (model X.prog X.w) X.A (call (.builtin "set.add") [.ref D, .int y tk]) Q E s := by
  refine setR_add (setO_get I hD) room fun h' sb new => h _ ?_
  obtain ⟨o, _, _, _, ho, _⟩ := id new
  exact I.write (e := D) (t' := s.toks + 1) (by rw [hD]; trivial) (.inl rfl) (fun b u hb hu => (sb.2 b hb).trans hu) ⟨o, ho⟩ (setO_new new)
theorem pe_scI {elt tg iter : Expr} {scope : Scope} {own : List (PySem.Str × Nat)} {pos : Pos} {wi : TI} {g : TG} {te : TE} (hc : X.calm = true) (hN : X.N.Nodup) (hi : PI X tg iter wi) (ok : BlkOk X.N X.env.scope scope own)
    (hg : ∀ (s : Shared) (H : Hp) (C : Addr) (cl : List (PySem.Str × Addr)) (fp : List Addr), PG (X.blk s H scope (compEnvC scope cl C X.env) fp) tg g)
    (he : ∀ (s : Shared) (H : Hp) (C : Addr) (cl : List (PySem.Str × Addr)) (fp : List Addr), PE (X.blk s H scope (compEnvC scope cl C X.env) fp) elt te) (hs : ∀ x, foldedSetIterable iter X.env x = pure x := by intro _; rfl) :
    PE X (.SetComp elt [⟨tg, iter, [], 0⟩] scope pos) (tScI X.w wi g te (own.map (·.2))) := by
  refine ⟨fun pins s σ H Q I h => ?_⟩
  rw [eval_SetComp]
  have free : ∀ y ∈ scope.names, y.2 = .free → ∃ c, X.env.cells.lookup y.1 = some c := fun y hy e => (ok.free y hy e).elim (fun k => I.ok.has _ (.inl k)) (fun k => I.ok.has _ (.inr k))
  refine wpAny_comprehension_free rfl hs (closure_ok free) ok.kind (fun y hy e => by rw [ok.uniq y hy, e]) (thn (hi.run pins s σ H _ I h) fun xv s1 hx => thn hx fun itv s2 hw => ?_)
  obtain ⟨it, fp, tn, J, H2, rfl, I2, T, st2, f2, q⟩ := hw
  refine newSet_ok (newEnv_comp ?_)
  generalize eD : s2.heap.objs.size = D
  obtain ⟨W, ⟨m0, w0⟩, turn⟩ := q D (I2.hok.fresh (Nat.le_of_eq eD))
  -- the set that has just been made, then the block's own names
  obtain ⟨s3, e3⟩ : ∃ s3 : Shared, s3 = { s2 with heap := s2.heap.push (emptySet X.w) } := ⟨_, rfl⟩
  obtain ⟨H3, eH⟩ : ∃ H3 : Hp, H3 = upd H2 D (SetO X.w D (fun _ => false) 0) := ⟨_, rfl⟩
  rw [← eH] at w0
  have I3 : Inv X pins σ H3 s3 := by
    rw [e3, eH]
    refine I2.laid (t' := s2.toks) (fun b o e => Heap.get?_push_of_some _ e) (Nat.le_of_eq eD) ?_
    rw [← eD]
    exact setO_new (setR_fresh X.w)
  have kept : ∀ b o, s2.heap.get? b = some o → s3.heap.get? b = some o := fun b o e => by rw [e3]; exact Heap.get?_push_of_some _ e
  have below : ∀ b ∈ fp, b < D ∧ b < s3.heap.objs.size := fun b hb => by
    obtain ⟨o, e, _⟩ := T.obj _ _ st2 b hb
    exact ⟨by rw [← eD]; exact Heap.lt_size e, Heap.lt_size (kept b o e)⟩
  have f3 : ∀ b ∈ fp, FpOk X pins H3 b ∧ b < s3.heap.objs.size := fun b hb => ⟨⟨by rw [eH, upd_ne (Nat.ne_of_lt (below b hb).1)]; exact (f2 b hb).1, (f2 b hb).2⟩, (below b hb).2⟩
  have unseen : ∀ b ∈ fp, H3 b = none := fun b hb => (f3 b hb).1.1
  have I4 := block_start I3 ok hN f3
  have pg := hg s3 H3 s3.heap.objs.size (cellsFrom (s3.heap.objs.size + 1) scope.names (cloFrom X.env.cells scope.names [])) fp
  have pe := he s3 H3 s3.heap.objs.size (cellsFrom (s3.heap.objs.size + 1) scope.names (cloFrom X.env.cells scope.names [])) fp
  have goal : codeAny (model X.prog X.w) X.A (.compStart (.SetComp elt [⟨tg, iter, [], 0⟩] scope pos) 0 (.ref it) (.ref D) (compEnvC scope (cellsFrom (s3.heap.objs.size + 1) scope.names (cloFrom X.env.cells scope.names [])) s3.heap.objs.size X.env))
      (compPost (model X.prog X.w) X.A X.xe none (EP X pins σ Q) (.ref D) s3.heap.objs.size) { s3 with heap := pushCells (s3.heap.push { cls := .type "dict", data := .dict #[] }) scope.names } := ?_
  · rw [e3, ← eD] at goal
    rw [← eD]
    exact goal
  have st3 : tn 0 s3.heap := T.keep _ _ _ st2 fun b _ o e => kept b o e
  generalize eE : compEnvC scope (cellsFrom (s3.heap.objs.size + 1) scope.names (cloFrom X.env.cells scope.names [])) s3.heap.objs.size X.env = ce at I4 pg pe ⊢
  have loc : ce.locals = s3.heap.objs.size := by rw [← eE]; rfl
  obtain ⟨s4, e4⟩ : ∃ s4 : Shared, s4 = { s3 with heap := pushCells (s3.heap.push { cls := .type "dict", data := .dict #[] }) scope.names } := ⟨_, rfl⟩
  rw [← e4] at I4 ⊢
  have st4 : tn 0 s4.heap := T.keep _ _ _ st3 fun b _ o e => by rw [e4]; exact pushCells_keeps _ _ _ _ (Heap.get?_push_of_some _ e)
  -- the walker's own objects stay out of sight within the block
  have out : ∀ {σ' : L2.St} {H' : Hp} {s' : Shared}, Inv (X.blk s3 H3 scope ce fp) [] σ' H' s' → (∀ b ∈ fp, H' b = none) → ∀ b ∈ fp, FpOk (X.blk s3 H3 scope ce fp) [] H' b := fun {σ' H' s'} J' hn b hb =>
    ⟨hn b hb, (J'.ok.exf b hb).1, J'.ok.exfs b hb, .inl hb, fun x c e => (J'.ok.exf b hb).2 x c e, fun p hp => absurd (show p ∈ ([] : List (Addr × Obj)) ++ [] from hp) (by simp)⟩
  have loop : codeAny (model X.prog X.w) X.A (.compLoop (.SetComp elt [⟨tg, iter, [], 0⟩] scope pos) 0 (.ref it) (.ref D) ce) (compPost (model X.prog X.w) X.A X.xe none (EP X pins σ Q) (.ref D) s3.heap.objs.size) s4 := by
    refine compLoopS_any (fun n s' => ∃ i H', Inv (X.blk s3 H3 scope ce fp) [] (wipe σ (own.map (·.2))) H' s' ∧ tn i s'.heap ∧ (∀ b ∈ fp, H' b = none) ∧ W i n H') ?_ m0 ⟨0, H3, I4, st4, unseen, w0⟩
    rintro n s5 ⟨i, H5, I5, st5, n5, w5⟩
    rcases turn i n H5 w5 with ⟨stop, done⟩ | ⟨go, Nx, less, step⟩
    · refine thnF (T.done (X.blk s3 H3 scope ce fp) rfl rfl rfl hc i [] s5 _ H5 (fun _ _ => False) I5 (out I5 n5) st5 stop) fun r s6 hr => ?_
      obtain ⟨rfl, I6⟩ := hr
      have I7 : Inv X pins σ H5 s6 := I3.call' (ch := fp) I6.os I6.base I6.hok I6.bare fun b hb => ⟨(f3 b hb).1.2.2.2.1, (f3 b hb).1.2.1, (f3 b hb).1.2.2.2.2.1, (f3 b hb).1.2.2.2.2.2⟩
      have nL : H5 s3.heap.objs.size = none := by
        have z : H5 ce.locals = none := I6.free
        rwa [loc] at z
      obtain ⟨m, hm, _⟩ := I6.loc
      have hm : s6.heap.Ns ce.locals m := hm
      rw [loc] at hm
      refine ⟨m, hm, fun h'' sb => ?_⟩
      obtain ⟨f0, f1, _, g3, g4, g5⟩ := I3.fpOk (Nat.le_refl _) nL
      exact ⟨.ref D, H5, I7.turned (t' := s6.toks) (fun b o hb e => (sb.2 b hb).trans e) f0 f1 g3 g4 g5, rfl, done⟩
    · refine thnF (T.item (X.blk s3 H3 scope ce fp) rfl rfl rfl hc i [] s5 _ H5 (fun _ _ => False) I5 (out I5 n5) st5 go) fun r s6 hr => ?_
      obtain ⟨u, rfl, h6⟩ := hr
      refine thnF h6 fun _ s7 hy => ?_
      obtain ⟨x, H7, I7, r7, y7, st7, n7⟩ := hy
      refine thnF (pg.run _ s7 _ H7 x u _ (I7.pinned (out I7 n7) (T.obj _ _ st7)) r7 (step x H7 y7)) fun _ s8 hp => ?_
      obtain ⟨σ8, H8, I8, w8, q8⟩ := hp
      -- no test: on to the item
      refine wpAny_pure ?_
      simp only [if_true]
      refine thnF (pe.run _ s8 σ8 H8 _ I8 q8) fun z s9 hz => ?_
      obtain ⟨y, H9, I9, r9, c, S, k, rfl, hD9, room, nx⟩ := hz
      obtain ⟨tk, rfl⟩ := r9
      refine joinI (X := X.blk s3 H3 scope ce fp) I9 hD9 room fun s10 I10 => ?_
      obtain ⟨m', hm', w'⟩ := less _ nx
      have pin : ∀ b ∈ fp, ∀ o, s7.heap.get? b = some o → s10.heap.get? b = some o ∧ _ = none := fun b hb o e =>
        let z := I10.pin (b, o) (List.mem_append_right _ (List.mem_append_right _ (mem_pinsAt hb e)))
        ⟨z.1, z.2.1⟩
      refine ⟨m', hm', i + 1, _, (I10.unpinned (pins := [])).weak (by rw [← w8, wipe_length]) (fun j v e => ?_), T.keep _ _ _ st7 fun b hb o e => (pin b hb o e).1, fun b hb => ?_, w'⟩
      · rw [← w8] at e
        exact (wipe_some e).1
      · obtain ⟨o, e, _⟩ := T.obj _ _ st7 b hb
        exact (pin b hb o e).2
  exact codeAny_compStart_set loop (T.self X.A 0 _ _ _ st4 loop)
end
end L2

namespace L2
open PySem PySem.Spec PyProof.Rows
/-- a list comprehension that makes one new object a turn, whatever else it lays -/
theorem lc_made {α : Type} {J : It} {G : Hp → Prop} {as : List α} {g : α → V} (w : Walk J (as.map g).length G (YAt (as.map g))) {te : TE} {vs : List Nat} {σ : St} {H1 : Hp} {D : Addr} {Qd : Hp → Prop} {j : Nat} (o : α → HO)
    (hD : H1 D = none) (hG : ∀ H', Same H1 H' → G H') (hl : as.length ≤ 1000) (hw : ∀ x, wipe ((wipe σ vs).set j (some x)) vs = wipe σ vs)
    (he : ∀ a ∈ as, ∀ (H' : Hp) (Q : VK), Same H1 H' → (∀ t H'', Same H' H'' → H' t = none → H'' t = some (o a) → Q (.ref t) H'') → te ((wipe σ vs).set j (some (g a))) H' Q)
    (hd : ∀ (ps : List Addr) (H' : Hp), Same H1 H' → H' D = some (.lst (ps.map V.ref)) → Paired (fun p a => H' p = some (o a) ∧ H1 p = none) ps as → Qd H') (ho : ∀ a xs, o a ≠ .lst xs) :
    ∃ W : Nat → Nat → Hp → Prop, (∃ m, W 0 m (upd H1 D (.lst []))) ∧ ∀ i m H, W i m H →
      (J.stop i H ∧ Qd H) ∨ (J.go i H ∧ ∃ Nx : Hp → Prop, (∀ H', Nx H' → ∃ m', m' < m ∧ W (i + 1) m' H') ∧ ∀ x H', J.yld i H x H' → gName j x (wipe σ vs) H' fun σ2 H2 => wipe σ2 vs = wipe σ vs ∧ tYes σ2 H2 fun b H3 =>
        if b = true then te σ2 H3 fun y H4 => ∃ acc, H4 D = some (.lst acc) ∧ acc.length < sizeLine ∧ Nx (upd H4 D (.lst (acc ++ [y]))) else Nx H3) := by
  have ln : (as.map g).length = as.length := List.length_map _
  refine lc_it w (fun i H => ∃ ps : List Addr, Same H1 H ∧ H D = some (.lst (ps.map V.ref)) ∧ ps.length = i ∧ Paired (fun p a => H p = some (o a) ∧ H1 p = none) ps (as.take i)) ⟨[], same_of_none hD, upd_same, rfl, .nil⟩ (fun i H _ ⟨ps, s, _⟩ => hG _ s) (fun i x H H' hi h y => ?_) (fun H h => ?_)
  · obtain ⟨ps, s, hDl, hpl, hP⟩ := h
    obtain ⟨rfl, hx⟩ := y
    rw [List.getElem?_map] at hx
    obtain ⟨a, ha, rfl⟩ := Option.map_eq_some_iff.mp hx
    have hm : a ∈ as := List.mem_of_getElem? ha
    refine ⟨hw _, ?_⟩
    unfold tYes
    refine if_pos rfl |>.mpr (he a hm _ _ s fun t H2 s2 ht h2 => ?_)
    have hD2 := s2 _ _ hDl
    have htD : t ≠ D := fun z => by rw [z, hDl] at ht; cases ht
    refine ⟨_, hD2, small1000 (by rw [List.length_map]; omega), ps ++ [t], (s.trans s2).unseen hD, by rw [upd_same, List.map_append]; rfl, by rw [List.length_append, hpl]; rfl, ?_⟩
    rw [take_more ha]
    refine Paired.snoc (hP.mono fun p b h => ?_) ⟨by rw [upd_ne htD]; exact h2, s.free ht⟩
    have hpD : p ≠ D := fun z => by
      have h1 := h.1
      rw [z, hDl] at h1
      exact ho _ _ (Option.some.inj h1).symm
    exact ⟨by rw [upd_ne hpD]; exact s2 _ _ h.1, h.2⟩
  · obtain ⟨ps, s, hDl, _, hP⟩ := h
    rw [ln, List.take_length] at hP
    exact hd ps H s hDl hP
/-- a set comprehension of whole numbers whose parts touch nothing -/
theorem sc_am {wd : World} {α : Type} {J : It} {G : Hp → Prop} {as : List α} {g : α → V} (w : Walk J (as.map g).length G (YAt (as.map g))) {te : TE} {vs : List Nat} {σ : St} {H1 : Hp} {D : Addr} {Qd : Hp → Prop} {j : Nat} (f : α → Int)
    (hD : H1 D = none) (hG : ∀ H', Same H1 H' → G H') (hl : as.length ≤ 1000) (hw : ∀ x, wipe ((wipe σ vs).set j (some x)) vs = wipe σ vs)
    (he : ∀ a ∈ as, ∀ H', Same H1 H' → Is te ((wipe σ vs).set j (some (g a))) H' (.int (f a)))
    (hd : ∀ c, c ≤ as.length → Qd (upd H1 D (SetO wd D (fun k => decide (k ∈ as.map f)) c))) :
    ∃ W : Nat → Nat → Hp → Prop, (∃ m, W 0 m (upd H1 D (SetO wd D (fun _ => false) 0))) ∧ ∀ i m H, W i m H →
      (J.stop i H ∧ Qd H) ∨ (J.go i H ∧ ∃ Nx : Hp → Prop, (∀ H', Nx H' → ∃ m', m' < m ∧ W (i + 1) m' H') ∧ ∀ x H', J.yld i H x H' → gName j x (wipe σ vs) H' fun σ2 H2 => wipe σ2 vs = wipe σ vs ∧
        te σ2 H2 fun y H4 => ∃ (c : Int) (S : Int → Bool) (n : Nat), y = .int c ∧ H4 D = some (SetO wd D S n) ∧ n + 1 < scanBound ∧ Nx (upd H4 D (SetO wd D (fun j => S j || decide (j = c)) (if S c = true then n else n + 1)))) := by
  have sm : ∀ o, Same H1 (upd H1 D o) := fun o => same_of_none hD
  have ln : (as.map g).length = as.length := List.length_map _
  refine ⟨fun i m H => m = (as.map g).length - i ∧ i ≤ (as.map g).length ∧ ∃ c, c ≤ i ∧ H = upd H1 D (SetO wd D (fun k => decide (k ∈ (as.take i).map f)) c), ⟨(as.map g).length, by simp, Nat.zero_le _, 0, Nat.le_refl 0, by simp⟩, ?_⟩
  rintro i m H ⟨rfl, hi, c, hc, rfl⟩
  by_cases hlt : i < (as.map g).length
  · refine .inr ⟨w.goes i _ hlt (hG _ (sm _)), fun H => ∃ c, c ≤ i + 1 ∧ H = upd H1 D (SetO wd D (fun k => decide (k ∈ (as.take (i + 1)).map f)) c), fun H' p' => ⟨(as.map g).length - (i + 1), by omega, rfl, hlt, p'⟩, fun x H' y => ?_⟩
    obtain ⟨rfl, hx⟩ := w.yields i _ x H' hlt (hG _ (sm _)) y
    rw [List.getElem?_map] at hx
    obtain ⟨a, ha, rfl⟩ := Option.map_eq_some_iff.mp hx
    refine ⟨hw _, he a (List.mem_of_getElem? ha) _ (sm _) _ ⟨f a, _, c, rfl, upd_same, by unfold scanBound; omega, (if decide (f a ∈ (as.take i).map f) = true then c else c + 1), ?_, ?_⟩⟩
    · split <;> omega
    · rw [upd_upd]
      have : (fun j => decide (j ∈ (as.take i).map f) || decide (j = f a)) = fun k => decide (k ∈ (as.take (i + 1)).map f) := by
        funext k
        rw [take_more ha, List.map_append]
        simp [List.mem_append]
      rw [this]
  · have e : i = (as.map g).length := by omega
    subst e
    refine .inl ⟨w.stops _ (hG _ (sm _)), ?_⟩
    rw [ln, List.take_length]
    exact hd c (by omega)
theorem lv_of {am : Am} {ns : List Int} (h : ns.Pairwise (· < ·)) (hm : ∀ k : Int, k ∈ ns ↔ decide (k ∈ am.map (·.2)) = true) : IsLv am ns.reverse :=
  ⟨List.pairwise_reverse.mpr h, fun z => by rw [List.mem_reverse, hm z, decide_eq_true_iff]⟩
theorem tups_of {H1 H' : Hp} {f : Int → List Str} {ps : List Addr} {ns : List Int} (h : Paired (fun p z => H' p = some (.tup ((f z).map V.str)) ∧ H1 p = none) ps ns) : TupsAt H' (ps.map V.ref) (ns.map f) := by
  induction h with
  | nil => exact .nil
  | cons a _ ih => exact .cons a.1 ih
theorem new_of {H1 H' : Hp} {β : Type} {o : β → HO} {ps : List Addr} {ns : List β} (h : Paired (fun p z => H' p = some (o z) ∧ H1 p = none) ps ns) : ∀ v ∈ ps.map V.ref, ∃ t, v = .ref t ∧ H1 t = none := by
  induction h with
  | nil => exact fun _ h => nomatch h
  | @cons p z _ _ a _ ih =>
    intro v hv
    rcases List.mem_cons.mp hv with rfl | hv
    · exact ⟨p, rfl, a.2⟩
    · exact ih v hv
theorem ex_srt (a : Am) : ∃ sa : Am, sa.Perm a ∧ srt sa := by
  refine ⟨a.mergeSort (fun p q => !ltCps q.1.cps.toList p.1.cps.toList), List.mergeSort_perm _ _, sortedS_of_pairwise _ ?_⟩
  have h := List.pairwise_mergeSort (le := fun p q : Str × Int => !ltCps q.1.cps.toList p.1.cps.toList) (fun x y z h1 h2 => by
    rw [Bool.not_eq_true'] at h1 h2 ⊢
    exact leS_trans (x := x.1) (y := y.1) (z := z.1) h1 h2) (fun x y => by
    rw [ltCps_eq, ltCps_eq]
    by_cases h : y.1.cps.toList < x.1.cps.toList
    · have : ¬ x.1.cps.toList < y.1.cps.toList := List.lt_asymm h
      simp [this]
    · simp [h]) a
  unfold amS
  rw [List.pairwise_map]
  exact h.imp fun {x y} hxy => by rwa [Bool.not_eq_true'] at hxy
theorem TupsAt.put {H : Hp} {vs : List V} {l : List (List Str)} (h : TupsAt H vs l) {r : Addr} {xs ys : List V} (hr : H r = some (.lst xs)) : TupsAt (upd H r (.lst ys)) vs l := by
  induction h with
  | nil => exact .nil
  | @cons t ws _ _ a _ ih => exact .cons (by rw [upd_ne (fun z => by rw [z, hr] at a; cases a)]; exact a) ih
end L2

namespace L2
open PySem PySem.Spec PyProof.Rows
/-- a def that may raise, asked only where it doesn't -/
theorem passF {X : Cx} : Passes (L2.CX X.prog X.w) X E0 := by
  intro pins σ H s e s' I c
  obtain ⟨_, _, _, _, _, _, _, _, _, _, _, _, z⟩ := c
  exact False.elim z
end L2

namespace OwnIn
open PySem PySem.SeqAt PySem.W
open AutoSeq1 (wpAny_loadPart')
open MeetsSeq MeetsSeq2 MeetsSeq3 SeqRoads2
section
variable {prog : Program} {w : World} {A : Around} {R : Result → Shared → Prop}
/-- a built-in's body has ended, or goes on -/
abbrev FinOf (prog : Program) (w : World) (A : Around) (R : Result → Shared → Prop) : Fin → Shared → Prop := fun fin s' => match fin with
  | .done f => R (.ok f) s'
  | .again c' => c'.quiet = true ∧ codeAny (model prog w) A c' R s'
theorem call_here {T : String} {name : Str} {id : String} {B : Builtin} {u : Value} {us : List Value} {E : Value → Shared → Prop} {Q : Value → Shared → Prop} {s : Shared} (sl : Slot T name id) (hT : s.TypeIs u T) (en : entryFor table id = some B) (ar : argsOk id ⟨u :: us, []⟩)
    (h : wpAny (model prog w) A.in1 (B ⟨u :: us, []⟩) (FinOf prog w A (wants Q E)) (fun e s' => wants Q E (.error e) s') s) : wpAny (model prog w) A (call (.builtin id) (u :: us)) Q E s := by
  refine wpAny_call (codeAny_call_builtin sl.plain en (sl.check _ _ _ _ _ _ _ _ hT ar ?_))
  refine wpAny_mono h (fun fin s' q => ?_) fun _ _ e => e
  cases fin <;> exact q
/-- at each turn the list is read anew: N items, none of them equal to x -/
def ListC (prog : Program) (w : World) (A : Around) (E : Value → Shared → Prop) (l : Addr) (x : Value) (N : Nat) (I : Nat → Shared → Prop) : Prop :=
  ∀ i s, I i s → ∃ (items : Array Value) (n : Nat) (dd : Option Addr) (sl : Array (Option Value)), s.heap.get? l = some { cls := .type "list", dict := dd, data := .seq items n, slots := sl } ∧ items.size = N ∧
    ∀ (h1 : i < items.size), wpAny (model prog w) A.in1 (eqBool items[i] x) (fun r s' => r = false ∧ I (i + 1) s') E s
theorem contains_loopG (l : Addr) (x : Value) (N : Nat) (I : Nat → Shared → Prop) (hl : ListC prog w A (fun e s' => R (.error e) s') l x N I)
    (fin : ∀ s, I N s → R (.ok (.ret (.bool false))) s) (k : Nat) :
    ∀ i : Nat, N - i = k → i ≤ N → ∀ s, I i s →
      wpAny (model prog w) A.in1 (Builtin.«list.__contains__.loop» ⟨[.ref l, x, rawInt i], []⟩) (FinOf prog w A R) (fun e s' => R (.error e) s') s := by
  induction k with
  | zero =>
    intro i hk hi s h
    obtain ⟨items, n, dd, sl, hl1, hs1, _⟩ := hl _ _ h
    have hi' : i = N := by omega
    have hR : R (.ok (.ret (.bool false))) s := fin s (hi' ▸ h)
    obtain ⟨hp, g, d, tk, os⟩ := s
    wp_walk using wpAny_loadPart' hl1
    have hi1 : items[((i : Nat) : Int).toNat]? = none := by simp; omega
    rw [hi1]
    wp_walk
    exact hR
  | succ k ih =>
    intro i hk hi s h
    obtain ⟨items, n, dd, sl, hl1, hs1, turn⟩ := hl _ _ h
    have hlt : i < items.size := by omega
    have ht := turn hlt
    obtain ⟨hp, g, d, tk, os⟩ := s
    wp_walk using wpAny_loadPart' hl1
    have hi1 : items[((i : Nat) : Int).toNat]? = some items[i] := by simp [hlt]
    have hc : ((i : Int) + 1) = ((i + 1 : Nat) : Int) := by omega
    rw [hi1]
    refine wpAny_bind (wpAny_mono ht (fun r s2 h2 => ?_) fun _ _ x => x)
    obtain ⟨hr, h2⟩ := h2
    subst hr
    have hrec := ih (i + 1) (by omega) (by omega) s2 h2
    obtain ⟨hp2, g2, d2, tk2, os2⟩ := s2
    wp_walk
    rw [hc]
    exact ⟨plainId_quiet plain_contains_loop _, codeAny_builtin entry_contains_loop (by
      rw [Around.under_plainId plain_contains_loop _]
      exact hrec)⟩
theorem list_containsG (l : Addr) (x : Value) (N : Nat) (I : Nat → Shared → Prop) (hl : ListC prog w A (fun e s' => R (.error e) s') l x N I)
    (fin : ∀ s, I N s → R (.ok (.ret (.bool false))) s) {s : Shared} (h : I 0 s) :
    wpAny (model prog w) A.in1 (Builtin.«list.__contains__» ⟨[.ref l, x], []⟩) (FinOf prog w A R) (fun e s' => R (.error e) s') s := by
  obtain ⟨items, n, dd, sl, hl1, hs1, _⟩ := hl _ _ h
  have hrec := contains_loopG (A := A) (R := R) l x N I hl fin _ 0 rfl (Nat.zero_le _) s h
  obtain ⟨hp, g, d, tk, os⟩ := s
  wp_walk using wpAny_loadPart' hl1
  exact ⟨plainId_quiet plain_contains_loop _, codeAny_builtin entry_contains_loop (by
    rw [Around.under_plainId plain_contains_loop _]
    exact hrec)⟩
end
section
variable {prog : Program} {w : World} {A : Around} {E : Value → Shared → Prop} {s : Shared}
theorem in_listG {l : Addr} {x : Value} {N : Nat} {Q : Value → Shared → Prop} (I : Nat → Shared → Prop) (hl : ListC prog w A E l x N I)
    (fin : ∀ s, I N s → Q (.bool false) s) (h : I 0 s) : wpAny (model prog w) A (compareOp .In x (.ref l)) Q E s := by
  obtain ⟨items, n, dd, sl, hl1, hs1, _⟩ := hl _ _ h
  show wpAny _ A (do return .bool (← contains (.ref l) x)) Q E s
  refine wpAny_bind (wpAny_contains_slot ⟨_, hl1, rfl⟩ F.slot_list_contains (wpAny_mono (call_here (Q := fun v s' => v = .bool false ∧ Q (.bool false) s') F.slot_list_contains ⟨_, hl1, rfl⟩ F.entry_list_contains (F.args_list_contains_2 _ _) ?_) (fun v s' hv => ?_) fun _ _ e => e))
  · exact list_containsG (R := wants (fun v s' => v = .bool false ∧ Q (.bool false) s') E) l x N I hl (fun s' q => ⟨rfl, fin s' q⟩) h
  · obtain ⟨rfl, hq⟩ := hv
    exact wpAny_truthy_bool (wpAny_pure hq)
end
section
variable {prog : Program} {w : World} {A : Around} {E : Value → Shared → Prop} {s : Shared} {K : Frag} {b C g : Addr} {ob : Obj} {od : Option Obj}
/-- u == b, b an instance with its own __eq__ at g, which is asked behind a refusal -/
theorem rc_own {u : Value} {Q : Value → Shared → Prop} {T id : String} (hu : A.units < cLine) (X : K.In s.heap) (J : InstAt s.heap b ob C od) (hT : s.TypeIs u T) (slot : Slot T "__eq__" id)
    (hc : wpAny (model prog w) A (call (.builtin id) [u, .ref b]) (fun v s' => v = .notImplemented ∧ s' = s) E s) (h1 : oneThing? .Eq u (.ref b) = none) (hsub : subIn K (.ref C) (.type T) = some false)
    (hs : findIn K (.ref C) "__eq__" = some (some (.ref g))) (hf : isFn K (.ref g) = true)
    (h : wpAny (model prog w) A (call (.ref g) [.ref b, u]) (fun v s' => ∃ c, v = .bool c ∧ Q (.bool c) s') E s) : wpAny (model prog w) A (richCompare .Eq u (.ref b)) Q E s := by
  have two : wpAny (model prog w) A (tryCompare (.ref b) "__eq__" u) (fun r s' => ∃ c, r = some (.bool c) ∧ Q (.bool c) s') E s := by
    unfold tryCompare
    refine wpAny_bind (ifBound_K X J hs hf (wpAny_mono h (fun v s' hv => ?_) fun _ _ e => e))
    obtain ⟨c, rfl, q⟩ := hv
    exact wpAny_pure ⟨c, rfl, q⟩
  have one : wpAny (model prog w) A (tryCompare u "__eq__" (.ref b)) (fun r s' => r = none ∧ s' = s) E s :=
    wpAny_tryCompare_declines hT slot (wpAny_mono hc (fun v s' z => ⟨z.1, rfl, z.2⟩) fun _ _ e => e)
  simp only [richCompare, cmpInfo_Eq, h1]
  refine wpAny_holding (wpAny_bind (wpAny_cRoomFor hu ?_))
  refine wpAny_bind (wpAny_typeOf hT (wpAny_bind (J.type.here ?_)))
  split
  · refine wpAny_bind ((looks_subIn X hsub).here ?_)
    simp only [Bool.false_eq_true, if_false, Bool.not_false, if_true]
    refine wpAny_bind (m := tryCompare u _ (.ref b)) (wpAny_mono one (fun r s1 z => ?_) fun _ _ e => e)
    obtain ⟨z1, z2⟩ := z
    subst z1
    subst z2
    refine wpAny_bind (m := tryCompare (.ref b) _ u) (wpAny_mono two (fun r s2 z => ?_) fun _ _ e => e)
    obtain ⟨c, z1, q⟩ := z
    subst z1
    exact wpAny_pure q
  · rename_i q
    exact absurd (by simp) q
theorem eqBool_own {u : Value} {Q : Bool → Shared → Prop} (hne : (u == Value.ref b) = false) (h : wpAny (model prog w) A (richCompare .Eq u (.ref b)) (fun v s' => ∃ c, v = .bool c ∧ Q c s') E s) : wpAny (model prog w) A (eqBool u (.ref b)) Q E s := by
  have fin : wpAny (model prog w) A (richCompare .Eq u (.ref b) >>= fun v => truthOfDropped v) Q E s := wpAny_bind (wpAny_mono h (fun v s' hv => by
    obtain ⟨c, rfl, q⟩ := hv
    exact wpAny_truthy_bool q) fun _ _ e => e)
  unfold eqBool
  refine wpAny_holding ?_
  refine wpAny_ite_split (fun hab => by rw [hne] at hab; cases hab) (fun _ => ?_)
  cases u <;> exact fin
/-! ### built-in kinds refuse -/
theorem dec_none : wpAny (model prog w) A (call (.builtin "NoneType.__eq__") [.none, .ref b]) (fun v s' => v = .notImplemented ∧ s' = s) E s :=
  call_gives F.slot_NoneType_eq rfl F.entry_NoneType_eq (F.args_NoneType_eq_2 _ _) (NoneType___eq___none_ref_0 b) ⟨rfl, rfl⟩
theorem dec_int {i : Int} {t : Tok} (X : K.In s.heap) (hb : s.heap.get? b = some ob) (hd : ∀ i t, ob.data ≠ .prim (.int i t)) : wpAny (model prog w) A (call (.builtin "int.__eq__") [.int i t, .ref b]) (fun v s' => v = .notImplemented ∧ s' = s) E s := by
  refine call_here F.slot_int_eq rfl F.entry_int_eq (F.args_int_eq_2 _ _) ?_
  obtain ⟨hp, g, d, tk, os⟩ := s
  wp_walk using wpAny_loadPart' hb
  split
  · rename_i q
    exact absurd q (hd _ _)
  · wp_walk
    first | rfl | exact ⟨rfl, rfl⟩ | exact ⟨_, rfl, rfl, rfl⟩
theorem dec_str {i : Str} {t : Tok} (X : K.In s.heap) (hb : s.heap.get? b = some ob) (hd : ∀ i t, ob.data ≠ .prim (.str i t)) : wpAny (model prog w) A (call (.builtin "str.__eq__") [.str i t, .ref b]) (fun v s' => v = .notImplemented ∧ s' = s) E s := by
  refine call_here F.slot_str_eq rfl F.entry_str_eq (F.args_str_eq_2 _ _) ?_
  obtain ⟨hp, g, d, tk, os⟩ := s
  wp_walk using wpAny_loadPart' hb
  split
  · rename_i q
    exact absurd q (hd _ _)
  · wp_walk
    first | rfl | exact ⟨rfl, rfl⟩ | exact ⟨_, rfl, rfl, rfl⟩
theorem dec_list {l : Addr} (X : K.In s.heap) (J : InstAt s.heap b ob C od) (hl : s.TypeIs (.ref l) "list") (hsub : subIn K (.ref C) (.type "list") = some false) : wpAny (model prog w) A (call (.builtin "list.__eq__") [.ref l, .ref b]) (fun v s' => v = .notImplemented ∧ s' = s) E s := by
  refine call_here F.slot_list_eq hl F.entry_list_eq (F.args_list_eq_2 _ _) ?_
  have K2 := looks_subIn (M := model prog w) X hsub
  obtain ⟨hp, g, d, tk, os⟩ := s
  have hb := J.at_
  wp_walk using wpAny_loadPart' hb
  rw [J.cls]
  refine K2.here ?_
  wp_walk
  first | rfl | exact ⟨rfl, rfl⟩ | exact ⟨_, rfl, rfl, rfl⟩
theorem dec_tuple {l : Addr} (X : K.In s.heap) (J : InstAt s.heap b ob C od) (hl : s.TypeIs (.ref l) "tuple") (hsub : subIn K (.ref C) (.type "tuple") = some false) : wpAny (model prog w) A (call (.builtin "tuple.__eq__") [.ref l, .ref b]) (fun v s' => v = .notImplemented ∧ s' = s) E s := by
  refine call_here F.slot_tuple_eq hl F.entry_tuple_eq (F.args_tuple_eq_2 _ _) ?_
  have K2 := looks_subIn (M := model prog w) X hsub
  obtain ⟨hp, g, d, tk, os⟩ := s
  have hb := J.at_
  wp_walk using wpAny_loadPart' hb
  rw [J.cls]
  refine K2.here ?_
  wp_walk
  first | rfl | exact ⟨rfl, rfl⟩ | exact ⟨_, rfl, rfl, rfl⟩
theorem dec_dict {l : Addr} (X : K.In s.heap) (J : InstAt s.heap b ob C od) (hl : s.TypeIs (.ref l) "dict") (hsub : subIn K (.ref C) (.type "dict") = some false) : wpAny (model prog w) A (call (.builtin "dict.__eq__") [.ref l, .ref b]) (fun v s' => v = .notImplemented ∧ s' = s) E s := by
  refine call_here F.slot_dict_eq hl F.entry_dict_eq (F.args_dict_eq_2 _ _) ?_
  have K2 := looks_subIn (M := model prog w) X hsub
  obtain ⟨hp, g, d, tk, os⟩ := s
  have hb := J.at_
  wp_walk using wpAny_loadPart' hb
  rw [J.cls]
  refine K2.here ?_
  wp_walk
  first | rfl | exact ⟨rfl, rfl⟩ | exact ⟨_, rfl, rfl, rfl⟩
end
end OwnIn
namespace L2
open PySem PySem.Spec PyProof.Rows
/-- a value that knows no own __eq__ -/
inductive Dull (H : Hp) : V → Prop
  | non : Dull H .non
  | int (i : Int) : Dull H (.int i)
  | str (z : Str) : Dull H (.str z)
  | lst {p : Addr} {xs : List V} (h : H p = some (.lst xs)) : Dull H (.ref p)
  | tup {p : Addr} {xs : List V} (h : H p = some (.tup xs)) : Dull H (.ref p)
  | dic {p : Addr} {es : List (Key × V)} (h : H p = some (.dK es)) : Dull H (.ref p)
/-- a class under none of these kinds -/
structure EqN (K : PySem.W.Frag) (C : Addr) : Prop where
  none : PySem.W.subIn K (.ref C) (.type "NoneType") = some false
  int : PySem.W.subIn K (.ref C) (.type "int") = some false
  str : PySem.W.subIn K (.ref C) (.type "str") = some false
  list : PySem.W.subIn K (.ref C) (.type "list") = some false
  tuple : PySem.W.subIn K (.ref C) (.type "tuple") = some false
  dict : PySem.W.subIn K (.ref C) (.type "dict") = some false
/-- x in [..], x with its own __eq__, which tells nothing there equal -/
def rInOwn (C : Addr) (sp : Sp) (E : XK) : R2 := fun x y H Q => ∃ a dx fs p xs, x = .ref a ∧ H a = some (.ins C dx fs) ∧ y = .ref p ∧ H p = some (.lst xs) ∧ (∀ v ∈ xs, Dull H v ∧ ∀ Q' : VK, Q' (.bl false) H → sp [.ref a, v] H Q' E) ∧ Q (.bl false) H
theorem op_inOwn {X : Cx} {CX : CXT} {k : Nat} {C g : Addr} {fd : FuncData} {ps : List Str} {sp : Sp} {E : XK} (hs : PySem.W.findIn X.K (.ref C) "__eq__" = some (some (.ref g))) (hf : PySem.W.isFn X.K (.ref g) = true) (hn : EqN X.K C)
    (FO : FnOk X.prog X.w X.K X.mg X.base CX k g fd ps sp) (hr : Room (k + 1) X.A) (hb : Binds X.K fd ps []) (hx : Passes CX X E) : OpR X (compareOp .In) (rInOwn C sp E) := by
  intro pins s σ H x y v u Q I rx ry h
  obtain ⟨a, dx, fs, p, xs, rfl, ea, rfl, ep, hv, q⟩ := h
  obtain rfl : v = Value.ref a := rx
  obtain rfl : u = Value.ref p := ry
  refine OwnIn.in_listG (N := xs.length) (fun _ s' => Inv X pins σ H s') (fun i s' I' => ?_) (fun s' I' => ⟨.bl false, H, I', rfl, q⟩) I
  obtain ⟨_, its, n, vr, hlen, hl⟩ := I'.lstM ep
  refine ⟨its.toArray, n, none, #[], hl, by simp [hlen], fun h1 => ?_⟩
  have h2 : i < xs.length := by simpa [hlen] using h1
  obtain ⟨du, hsp⟩ := hv xs[i] (List.getElem_mem h2)
  have rel : RelV xs[i] its.toArray[i] := by
    obtain ⟨u', e', r'⟩ := vr.get (List.getElem?_eq_getElem h2)
    have e2 : its.toArray[i] = u' := by
      have e3 : its.toArray[i]? = some u' := by simpa using e'
      rw [Array.getElem?_eq_getElem h1] at e3
      exact Option.some.inj e3
    rw [e2]
    exact r'
  generalize its.toArray[i] = u at rel ⊢
  generalize xs[i] = z at rel du hsp
  obtain ⟨_, O, _, _, _, _⟩ := ins_get I'.hok ea
  obtain ⟨_, J, _⟩ := O.look
  have hun := hr.in1.un
  have hlen' : ([Value.ref a, u] ++ ([] : List Value)).length = ps.length := by
    rw [List.append_nil, ← (show Vals [V.ref a, z] [Value.ref a, u] from .cons rfl (.cons rel .nil)).length]
    exact FO.len _ _ _ _ (hsp (fun _ _ => True) trivial)
  have ask : wpAny (model X.prog X.w) X.A.in1 (call (.ref g) [.ref a, u]) (fun v s'' => ∃ c, v = .bool c ∧ (c = false ∧ Inv X pins σ H s'')) X.xe s' := by
    refine wpAny_call (codeAny_mono (FO.run X.A.in1 X.stack s' H ⟨[.ref a, u], []⟩ ([.ref a, u] ++ []) [.ref a, z] (fun v H' => v = .bl false ∧ H' = H) E hr.in1 I'.env0.in1 (hb s' [.ref a, u] I'.kIn hlen') (by rw [List.append_nil]; exact .cons rfl (.cons rel .nil)) (hsp _ ⟨rfl, rfl⟩)) fun r s'' hq => ?_)
    cases r with
    | error er => exact hx pins σ H s' er s'' I' hq
    | ok fl =>
      cases fl with
      | ret zz =>
        obtain ⟨z', H', I'', rz, rfl, rfl⟩ := I'.after hq
        cases (show zz = Value.bool false from rz)
        exact ⟨false, rfl, rfl, I''⟩
      | next => exact False.elim hq
      | brk => exact False.elim hq
      | cont => exact False.elim hq
  cases du with
  | non =>
    obtain rfl : u = Value.none := rel
    exact OwnIn.eqBool_own rfl (OwnIn.rc_own (Q := fun v s'' => ∃ c, v = Value.bool c ∧ c = false ∧ Inv X pins σ H s'') (by omega) I'.kIn J rfl F.slot_NoneType_eq OwnIn.dec_none rfl hn.none hs hf (wpAny_mono ask (fun v s'' hv => by obtain ⟨c, rfl, e⟩ := hv; exact ⟨c, rfl, c, rfl, e⟩) fun _ _ e => e))
  | int j =>
    obtain ⟨t, rfl⟩ := rel
    exact OwnIn.eqBool_own rfl (OwnIn.rc_own (Q := fun v s'' => ∃ c, v = Value.bool c ∧ c = false ∧ Inv X pins σ H s'') (by omega) I'.kIn J rfl F.slot_int_eq (OwnIn.dec_int I'.kIn J.at_ (fun _ _ => nofun)) rfl hn.int hs hf (wpAny_mono ask (fun v s'' hv => by obtain ⟨c, rfl, e⟩ := hv; exact ⟨c, rfl, c, rfl, e⟩) fun _ _ e => e))
  | str j =>
    obtain ⟨t, rfl⟩ := rel
    exact OwnIn.eqBool_own rfl (OwnIn.rc_own (Q := fun v s'' => ∃ c, v = Value.bool c ∧ c = false ∧ Inv X pins σ H s'') (by omega) I'.kIn J rfl F.slot_str_eq (OwnIn.dec_str I'.kIn J.at_ (fun _ _ => nofun)) rfl hn.str hs hf (wpAny_mono ask (fun v s'' hv => by obtain ⟨c, rfl, e⟩ := hv; exact ⟨c, rfl, c, rfl, e⟩) fun _ _ e => e))
  | lst h =>
    rename_i l xs'
    obtain rfl : u = Value.ref l := rel
    obtain ⟨_, its2, n2, _, _, hl2⟩ := I'.lstM h
    have ne : l ≠ a := fun e => by subst e; rw [h] at ea; cases ea
    exact OwnIn.eqBool_own (by simpa using ne) (OwnIn.rc_own (Q := fun v s'' => ∃ c, v = Value.bool c ∧ c = false ∧ Inv X pins σ H s'') (by omega) I'.kIn J ⟨_, hl2, rfl⟩ F.slot_list_eq (OwnIn.dec_list I'.kIn J ⟨_, hl2, rfl⟩ hn.list) (oneThing_ref _ _ _) hn.list hs hf (wpAny_mono ask (fun v s'' hv => by obtain ⟨c, rfl, e⟩ := hv; exact ⟨c, rfl, c, rfl, e⟩) fun _ _ e => e))
  | tup h =>
    rename_i l xs'
    obtain rfl : u = Value.ref l := rel
    obtain ⟨its2, _, hT, _⟩ := I'.tuple (SqT.of h)
    obtain ⟨⟨cls2, dd2, data2, sl2⟩, ho2, hc2, n2, hd2⟩ := id hT
    simp only at hc2 hd2
    subst hc2
    have ne : l ≠ a := fun e => by subst e; rw [h] at ea; cases ea
    exact OwnIn.eqBool_own (by simpa using ne) (OwnIn.rc_own (Q := fun v s'' => ∃ c, v = Value.bool c ∧ c = false ∧ Inv X pins σ H s'') (by omega) I'.kIn J ⟨_, ho2, rfl⟩ F.slot_tuple_eq (OwnIn.dec_tuple I'.kIn J ⟨_, ho2, rfl⟩ hn.tuple) (oneThing_ref _ _ _) hn.tuple hs hf (wpAny_mono ask (fun v s'' hv => by obtain ⟨c, rfl, e⟩ := hv; exact ⟨c, rfl, c, rfl, e⟩) fun _ _ e => e))
  | dic h =>
    rename_i l xs'
    obtain rfl : u = Value.ref l := rel
    obtain ⟨_, _, vs, _, o, es, ep, h1, h2, _⟩ := (show ObjOk X.prog X.w H s'.heap l (.dK xs') from I'.hok l _ h)
    have hT : s'.TypeIs (.ref l) "dict" := ⟨o, h1, h2.1⟩
    have ne : l ≠ a := fun e => by subst e; rw [h] at ea; cases ea
    exact OwnIn.eqBool_own (by simpa using ne) (OwnIn.rc_own (Q := fun v s'' => ∃ c, v = Value.bool c ∧ c = false ∧ Inv X pins σ H s'') (by omega) I'.kIn J hT F.slot_dict_eq (OwnIn.dec_dict I'.kIn J hT hn.dict) (oneThing_ref _ _ _) hn.dict hs hf (wpAny_mono ask (fun v s'' hv => by obtain ⟨c, rfl, e⟩ := hv; exact ⟨c, rfl, c, rfl, e⟩) fun _ _ e => e))
end L2

namespace L2
open PySem PySem.Spec PyProof.Rows
/-! ### what agrees tells -/
inductive TD
  | ag (c : Bool)
  | un (ws : List Str)
def TD.d : TD → PyData
  | .ag c => .list [.str "agrees", .bool c]
  | .un ws => .list [.str "unlike", tD ws]
def TDAt (H : Hp) (p : Addr) : TD → Prop
  | .ag c => H p = some (.lst [.str "agrees", .bl c])
  | .un ws => ∃ t, H p = some (.lst [.str "unlike", .ref t]) ∧ H t = some (.tup (ws.map V.str))
def TD.Of (a b : Am) (t : TD) : Prop := (amS a = amS b ∧ ∃ na nb, IsLv a na ∧ IsLv b nb ∧ t = .ag (decide (rks a na = rks b nb))) ∨ (amS a ≠ amS b ∧ t = .un (amS b))
theorem TD.Of.one {a b : Am} {t u : TD} (h : t.Of a b) (k : u.Of a b) : t = u := by
  rcases h with ⟨h, na, nb, l1, l2, rfl⟩ | ⟨h, rfl⟩
  · rcases k with ⟨_, ma, mb, m1, m2, rfl⟩ | ⟨k, _⟩
    · rw [isLv_one l1 m1, isLv_one l2 m2]
    · exact absurd h k
  · rcases k with ⟨k, _⟩ | ⟨_, rfl⟩
    · exact absurd k h
    · rfl
theorem TDAt.up {H H' : Hp} {p : Addr} {t : TD} (h : TDAt H p t) (e : Same H H') : TDAt H' p t := by
  cases t with
  | ag c => exact e _ _ h
  | un ws =>
    obtain ⟨t, h1, h2⟩ := h
    exact ⟨t, e _ _ h1, e _ _ h2⟩
theorem TDAt.dp {K : PySem.W.Frag} {H : Hp} {p : Addr} {t : TD} (h : TDAt H p t) : Dp K H (.ref p) t.d := by
  cases t with
  | ag c => exact .lst (SqL.of h) (.cons (.str _) (.cons (.bl _) .nil))
  | un ws =>
    obtain ⟨t, h1, h2⟩ := h
    exact .lst (SqL.of h1) (.cons (.str _) (.cons (dp_tD h2) .nil))
theorem TD.eqv_self (t : TD) : PyData.eqv t.d t.d = true := by
  cases t with
  | ag c => cases c <;> decide
  | un ws =>
    show PyData.eqv (.list [.str "unlike", tD ws]) (.list [.str "unlike", tD ws]) = true
    rw [PyData.eqv, PyData.eqvAll, PyData.eqvAll, PyData.eqvAll, eqv_tD, PyData.eqv]
    simp
theorem TD.eqv_two (t u : TD) : PyData.eqv (.list [t.d, u.d]) (.list [t.d, u.d]) = true := by
  rw [PyData.eqv, PyData.eqvAll, PyData.eqvAll, PyData.eqvAll, TD.eqv_self, TD.eqv_self]
  rfl
def TD.ok : TD → Prop
  | .ag _ => True
  | .un ws => ∀ w ∈ ws, good w = true
theorem TD.Of.ok {a b : Am} {t : TD} (h : t.Of a b) (k : AmOk b) : t.ok := by
  rcases h with ⟨_, _, _, _, _, rfl⟩ | ⟨_, rfl⟩
  · trivial
  · exact k.gd
theorem TD.lay {t : TD} (h : t.ok) : t.d.canLay0 = true ∧ t.d.depth ≤ 2 := by
  cases t with
  | ag c =>
    refine ⟨?_, ?_⟩
    · show PyData.canLayAll0 [.str "agrees", .bool c] = true
      cases c <;> decide +kernel
    · show PyData.depthAll [.str "agrees", .bool c] + 1 ≤ 2
      cases c <;> decide +kernel
  | un ws =>
    obtain ⟨h1, h2⟩ := lay_tD fun w hw => good_ok (h w hw)
    refine ⟨?_, ?_⟩
    · show (PyData.canLay0 (.str "unlike") && (PyData.canLay0 (tD ws) && PyData.canLayAll0 [])) = true
      rw [h1]
      decide +kernel
    · show max (PyData.depth (.str "unlike")) (max (PyData.depth (tD ws)) (PyData.depthAll [])) + 1 ≤ 2
      rw [h2]
      decide +kernel
theorem TD.shaped {t : TD} (h : t.ok) : SeqAt.shaped t.d = true := by
  obtain ⟨h1, h2⟩ := TD.lay h
  unfold SeqAt.shaped
  rw [Bool.and_eq_true]
  exact ⟨h1, decide_eq_true (by omega)⟩
theorem TD.shaped2 {t u : TD} (h : t.ok) (k : u.ok) : SeqAt.shaped (.list [t.d, u.d]) = true := by
  obtain ⟨h1, h2⟩ := TD.lay h
  obtain ⟨k1, k2⟩ := TD.lay k
  unfold SeqAt.shaped
  rw [Bool.and_eq_true]
  refine ⟨?_, decide_eq_true ?_⟩
  · show (PyData.canLay0 t.d && (PyData.canLay0 u.d && PyData.canLayAll0 [])) = true
    rw [h1, k1]
    rfl
  · show max (PyData.depth t.d) (max (PyData.depth u.d) (PyData.depthAll [])) + 1 ≤ 64
    have : PyData.depthAll [] = 0 := rfl
    omega
theorem dp_two {K : PySem.W.Frag} {H : Hp} {p p1 p2 : Addr} {t u : TD} (h : H p = some (.lst [.ref p1, .ref p2])) (h1 : TDAt H p1 t) (h2 : TDAt H p2 u) : Dp K H (.ref p) (.list [t.d, u.d]) := .lst (SqL.of h) (.cons h1.dp (.cons h2.dp .nil))
theorem due_of {H : Hp} {Q : VK} {E : XK} {g n : Addr} {a b sa sb : Am} (hg : H g = some (.dK (amK a))) (hn : H n = some (.dK (amK b))) (oka : AmOk a) (okb : AmOk b) (pa : sa.Perm a) (ra : srt sa) (pb : sb.Perm b) (rb : srt sb)
    (q : ∀ (t : TD) (p : Addr) (H' : Hp), t.Of sa sb → Same H H' → H p = none → TDAt H' p t → Q (.ref p) H') : spDue [.ref g, .ref n] H Q E := by
  refine ⟨g, n, a, b, rfl, hg, hn, oka, okb, fun ta tb pta rta ptb rtb => ?_⟩
  obtain rfl := srt_one oka.nd ra rta pa pta
  obtain rfl := srt_one okb.nd rb rtb pb ptb
  refine ⟨fun e p H' na nb l1 l2 s hp hp' => q _ p H' (.inl ⟨e, na, nb, l1, l2, rfl⟩) s hp hp', fun e p t H' s hp ht ht' hp' => q _ p H' (.inr ⟨e, rfl⟩) s hp ⟨t, hp', by rw [← amN_S]; exact ht'⟩⟩
theorem ix_listF {X : Cx} {K : PySem.W.Frag} (hk : X.K = K) : IxR X (rIxL K) := by subst hk; exact ix_list
/-- what isinstance says of plain values and the class at C -/
structure KitN (K : PySem.W.Frag) (C : Addr) : Prop where
  none : PySem.W.kitOne K (.type "NoneType") (.ref C) = some false
  int : PySem.W.kitOne K (.type "int") (.ref C) = some false
  str : PySem.W.kitOne K (.type "str") (.ref C) = some false
  list : PySem.W.kitOne K (.type "list") (.ref C) = some false
  tuple : PySem.W.kitOne K (.type "tuple") (.ref C) = some false
  dict : PySem.W.kitOne K (.type "dict") (.ref C) = some false
theorem Dull.kit {K : PySem.W.Frag} {H : Hp} {C : Addr} {v : V} (h : Dull H v) (k : KitN K C) : ∃ t, TyX K H v t ∧ PySem.W.kitOne K t (.ref C) = some false := by
  cases h with
  | non => exact ⟨_, .base .non, k.none⟩
  | int i => exact ⟨_, .base (.int i), k.int⟩
  | str z => exact ⟨_, .base (.str z), k.str⟩
  | lst h => exact ⟨_, .base (.lst h), k.list⟩
  | tup h => exact ⟨_, .base (.tup h), k.tuple⟩
  | dic h => exact ⟨_, .base (.dK h), k.dict⟩
/-- o.m(q = b): one place, one name -/
def g2 : List Value → List Value → List Value
  | [a], [b] => [a, b]
  | _, _ => []
def gV2 : List V → List V → List V
  | [a], [b] => [a, b]
  | _, _ => []
theorem kb_two {K : PySem.W.Frag} {x qual p q : Str} {st : Stmt} {f : Addr} {fd : FuncData} (F : Fun K x qual st f fd)
    (h : ∀ (kV doc pm : Value) (an : Option Addr) (cdv ct a b : Value), bindArgs (PySem.W.fnOf x qual (defArgs st) (defBody st) (defScope st) .none kV doc pm an cdv ct) ⟨[a], [(q, b)]⟩ = pure [(p, a), (q, b)]) :
    KBinds K fd [p, q] [q] g2 gV2 := by
  obtain ⟨oc, od, kV, doc, pm, an, cdv, ct, osl, rfl, lk, hcd⟩ := F.ex
  refine ⟨fun s us ws _ hl => ?_, fun r rz => ?_⟩
  · match us, ws, hl with
    | [a], [b], _ => exact .of_eq (h kV doc pm an cdv ct a b)
    | [], _, hl => exact absurd hl (by simp [g2])
    | _ :: _ :: _, _, hl => exact absurd hl (by simp [g2])
    | [_], [], hl => exact absurd hl (by simp [g2])
    | [_], _ :: _ :: _, hl => exact absurd hl (by simp [g2])
  · cases r with
    | nil => exact .nil
    | cons r1 r => cases r with
      | cons _ _ => exact .nil
      | nil => cases rz with
        | nil => exact .nil
        | cons z1 rz => cases rz with
          | cons _ _ => exact .nil
          | nil => exact .cons r1 (.cons z1 .nil)
/-- what a class of the program's own is to plain values -/
theorem cls_pair {K : PySem.W.Frag} {C : Addr} (i : PySem.W.isClsIn K C = true) (t : PySem.W.typeIn K (.ref C) = some (.type "type")) : ((PySem.W.clsIn K C).isSome && PySem.W.typeIn K (.ref C) == some (.type "type")) = true := by
  have h2 : (PySem.W.clsIn K C).isSome = true := i
  rw [h2, t]
  rfl
theorem kit_no {K : PySem.W.Frag} {C : Addr} {T : String} (i : PySem.W.isClsIn K C = true) (t : PySem.W.typeIn K (.ref C) = some (.type "type")) (h : PySem.W.subIn K (.type T) (.ref C) = some false) : PySem.W.kitOne K (.type T) (.ref C) = some false := by
  have e := cls_pair i t
  unfold PySem.W.kitOne
  rw [if_neg (by simp)]
  unfold PySem.W.kitCls
  dsimp only
  rw [if_pos e]
  exact h
theorem kit_self {K : PySem.W.Frag} {C : Addr} : PySem.W.kitOne K (.ref C) (.ref C) = some true := by
  unfold PySem.W.kitOne
  rw [if_pos (by simp)]
theorem first_self {K : PySem.W.Frag} {C : Addr} : PySem.W.notFirst K C (.ref C) = true := by
  unfold PySem.W.notFirst
  simp
theorem exm_me {K : PySem.W.Frag} {S : Addr} (b : PySem.W.subIn K (.ref S) (.type "BaseException") = some true) (i : PySem.W.isClsIn K S = true) (t : PySem.W.typeIn K (.ref S) = some (.type "type")) (m : PySem.W.subIn K (.ref S) (.ref S) = some true) : PySem.W.exmOne K (.ref S) (.ref S) = some true := by
  have e := cls_pair i t
  unfold PySem.W.exmOne
  rw [if_pos (by rw [b]; rfl)]
  unfold PySem.W.kitCls
  dsimp only
  rw [if_pos e]
  exact m
theorem no_sub {K : PySem.W.Frag} {C : Addr} {T : String} {l : List Value} (h : fastBuiltinMro T = some l) (hl : l.contains (.ref C) = false) : PySem.W.subIn K (.type T) (.ref C) = some false := by
  show (fastBuiltinMro T).map (·.contains (.ref C)) = some false
  rw [h]
  show some (l.contains (.ref C)) = some false
  rw [hl]
theorem no_NoneType {K : PySem.W.Frag} {C : Addr} : PySem.W.subIn K (.type "NoneType") (.ref C) = some false := no_sub (l := [.type "NoneType", .type "object"]) (by decide +kernel) (by first | rfl | simp)
theorem no_int {K : PySem.W.Frag} {C : Addr} : PySem.W.subIn K (.type "int") (.ref C) = some false := no_sub (l := [.type "int", .type "object"]) (by decide +kernel) (by first | rfl | simp)
theorem no_str {K : PySem.W.Frag} {C : Addr} : PySem.W.subIn K (.type "str") (.ref C) = some false := no_sub (l := [.type "str", .type "object"]) (by decide +kernel) (by first | rfl | simp)
theorem no_list {K : PySem.W.Frag} {C : Addr} : PySem.W.subIn K (.type "list") (.ref C) = some false := no_sub (l := [.type "list", .type "object"]) (by decide +kernel) (by first | rfl | simp)
theorem no_tuple {K : PySem.W.Frag} {C : Addr} : PySem.W.subIn K (.type "tuple") (.ref C) = some false := no_sub (l := [.type "tuple", .type "object"]) (by decide +kernel) (by first | rfl | simp)
theorem no_dict {K : PySem.W.Frag} {C : Addr} : PySem.W.subIn K (.type "dict") (.ref C) = some false := no_sub (l := [.type "dict", .type "object"]) (by decide +kernel) (by first | rfl | simp)
/-! ### a list of drawn amounts -/
theorem lc_given {K : PySem.W.Frag} {te : TE} {vs : List Nat} {σ : St} {j N : Nat} {G H : Hp} {s p : Addr} {ws : List Str} {Qd : Hp → Prop} {D : Addr} (v : View s N G H) (hp : G p = some (.lst (ws.map V.str))) (hl : ws.length ≤ 100) (hw : ∀ x, wipe ((wipe σ vs).set j (some x)) vs = wipe σ vs)
    (hte : ∀ (x : Str) (M : Nat) (G' H' : Hp) (Q' : VK), x ∈ ws → M ≤ N + 200 → View s M G' H' → (∀ (z : Int) (t : Addr) (H2 : Hp), z.natAbs < 2 ^ 100 → G' t = none → View s (M + 2) (upd G' t (.tup [.str x, .int z])) H2 → Q' (.ref t) H2) → te ((wipe σ vs).set j (some (.str x))) H' Q')
    (hD : H D = none)
    (hq : ∀ (G' H' : Hp) (am : Am) (ps : List Addr), amS am = ws → (∀ q ∈ am, q.2.natAbs < 2 ^ 100) → Same G G' → View s (N + 200) G' H' → G' D = some (.lst (ps.map V.ref)) → Paired (fun p (q : Key × V) => G' p = some (.tup [kV q.1, q.2])) ps (amK am) → Qd H') :
    ∃ W : Nat → Nat → Hp → Prop, (∃ m, W 0 m (upd H D (.lst []))) ∧ ∀ i m H, W i m H →
      ((Itl K p).stop i H ∧ Qd H) ∨ ((Itl K p).go i H ∧ ∃ Nx : Hp → Prop, (∀ H', Nx H' → ∃ m', m' < m ∧ W (i + 1) m' H') ∧ ∀ x H', (Itl K p).yld i H x H' → gName j x (wipe σ vs) H' fun σ2 H2 => wipe σ2 vs = wipe σ vs ∧ tYes σ2 H2 fun b H3 =>
        if b = true then te σ2 H3 fun y H4 => ∃ acc, H4 D = some (.lst acc) ∧ acc.length < sizeLine ∧ Nx (upd H4 D (.lst (acc ++ [y]))) else Nx H3) := by
  have ln : (ws.map V.str).length = ws.length := List.length_map _
  have hGD := v.free hD
  refine lc_it (walk_list (xs := ws.map V.str)) (fun i H => ∃ (G' : Hp) (am : Am) (ps : List Addr), amS am = ws.take i ∧ (∀ q ∈ am, q.2.natAbs < 2 ^ 100) ∧ Same G G' ∧ View s (N + 2 * i) G' H ∧ G' D = some (.lst (ps.map V.ref)) ∧ Paired (fun p (q : Key × V) => G' p = some (.tup [kV q.1, q.2])) ps (amK am)) ⟨_, [], [], rfl, (fun _ h => nomatch h), same_of_none hGD, v.new hD, upd_same, .nil⟩ (fun i H _ ⟨G', am, ps, _, _, sm, v, _⟩ => SqL.of (v.sub _ _ (sm _ _ hp))) (fun i x H H' hi h y => ?_) (fun H h => ?_)
  · obtain ⟨G', am, ps, e1, e2, sm, v, hDl, hP⟩ := h
    obtain ⟨rfl, hx⟩ := y
    rw [List.getElem?_map] at hx
    obtain ⟨a, ha, rfl⟩ := Option.map_eq_some_iff.mp hx
    have hm : a ∈ ws := List.mem_of_getElem? ha
    rw [ln] at hi
    have hlen : ps.length = i := by
      rw [hP.length, amK_len, ← amS_len, e1, List.length_take]
      omega
    refine ⟨hw _, ?_⟩
    unfold tYes
    refine if_pos rfl |>.mpr (hte a _ _ _ _ hm (by omega) v fun z t H2 hz ht v2 => ?_)
    have hDt : D ≠ t := ne_of_none hDl ht
    have hGD2 : upd G' t (.tup [.str a, .int z]) D = some (.lst (ps.map V.ref)) := by rw [upd_ne hDt]; exact hDl
    refine ⟨_, v2.sub _ _ hGD2, small1000 (by rw [List.length_map]; omega), _, am ++ [(a, z)], ps ++ [t], ?_, fun q hq => ?_, (sm.trans (same_of_none (o := .tup [.str a, .int z]) ht)).unseen (o := .lst ((ps ++ [t]).map V.ref)) hGD, ?_, by rw [upd_same], ?_⟩
    · rw [take_more ha, ← e1]; unfold amS; rw [List.map_append]; rfl
    · rcases List.mem_append.mp hq with hq | hq
      · exact e2 q hq
      · rw [List.mem_singleton.mp hq]; exact hz
    · have := v2.put (o := .lst ((ps ++ [t]).map V.ref)) hGD2
      rw [List.map_append] at this ⊢
      exact this
    · have e3 : amK (am ++ [(a, z)]) = amK am ++ [((Sum.inr a : Key), V.int z)] := by unfold amK; rw [List.map_append]; rfl
      rw [e3]
      refine Paired.snoc ?_ (by rw [upd_ne hDt.symm, upd_same]; rfl)
      refine hP.mono fun p q h => ?_
      have hpD : p ≠ D := fun z => by rw [z, hDl] at h; cases h
      rw [upd_ne hpD, upd_ne (ne_of_none h ht)]
      exact h
  · obtain ⟨G', am, ps, e1, e2, sm, v, hDl, hP⟩ := h
    rw [ln, List.take_length] at e1
    exact hq G' H am ps e1 e2 sm (v.mono (by rw [ln]; omega)) hDl hP
end L2

namespace VL
open PySem PySem.Spec PyProof.Rows L2
/-! ### typed values: what is true of a value in a frozen heap -/
structure VP where
  P : V → Hp → Prop
  up : ∀ {v : V} {G G' : Hp}, Same G G' → P v G → P v G'
/-- what is true of an object that one slot alone holds -/
structure CP where
  P : HO → Hp → Prop
  up : ∀ {o : HO} {G G' : Hp}, Same G G' → P o G → P o G'
/-- a slot, a result: nothing known; frozen; borrowed; owned -/
inductive SL where
  | un | fr (p : VP) | bo (p : VP) | ow (c : CP)
/-- an exception of an own class: its name, its field, what it holds -/
structure Exc where
  nm : Str
  f : Str
  d : PyData
/-- a computation: what it may give, what it may raise, how many draws were made -/
abbrev M (α : Type) := (α → Nat → Prop) → (Exc → Nat → Prop) → Nat → Prop
namespace M
def pure {α : Type} (a : α) : M α := fun Q _ n => Q a n
def bind {α β : Type} (m : M α) (f : α → M β) : M β := fun Q E n => m (fun a k => f a Q E k) E n
def raise {α : Type} (x : Exc) : M α := fun _ E n => E x n
def req (c : Prop) : M Unit := fun Q _ n => c ∧ Q () n
def ite {α : Type} (b : Bool) (m k : M α) : M α := fun Q E n => if b = true then m Q E n else k Q E n
/-- only asked for a condition -/
def when {α : Type} (c : Prop) (a : α) : M α := fun Q _ n => c ∧ Q a n
end M
/-- no table, nothing that is told by its own words alone -/
structure NT (o : HO) : Prop where
  t : ∀ ps, o ≠ .tbl ps
  x : ∀ φ, o ≠ .ext φ
/-- what callers know of the heap at all times -/
structure Th (TB : List (Addr × Str)) where
  T : Nat → Hp → Hp → Prop
  sub : ∀ {n W H}, T n W H → Same W H
  ext : ∀ {n W H W' H'}, T n W H → Same H H' → Same W W' → (∀ q o, W' q = some o → W q = some o ∨ (H q = none ∧ H' q = some o ∧ NT o)) → T n W' H'
  put : ∀ {n W H p u o}, T n W H → W p = some u → NT u → NT o → T n (upd W p o) (upd H p o)
  tabs : ∀ {n W H}, T n W H → LamX.Tabs TB H
  tset : ∀ {n W H H'}, T n W H → LamX.ExtN H H' → LamX.Tabs TB H' → T n W H'
  see : ∀ {n W H q o}, T n W H → H q = some o → NT o → (∀ xs, o ≠ .lst xs) → T n (upd W q o) H
structure Cfg where
  TB : List (Addr × Str)
  Θ : Th TB
  mg : Str → Option Value
  K : PySem.W.Frag
  B : Hp
  G0 : Hp
  Ew : L2.St → XK
  px : List SL
structure Stt (C : Cfg) (n : Nat) (G W H : Hp) : Prop where
  t : C.Θ.T n W H
  gw : Same G W
  bw : Same C.B W
  g0 : Same C.G0 G
  gb : ∀ q o, G q = some o → C.G0 q = some o ∨ C.B q = none
structure Stp (G W G' W' : Hp) : Prop where
  g : Same G G'
  w : Same W W'
  gw : Same G' W'
  ng : ∀ q o, G' q = some o → G q = some o ∨ W q = none
theorem Stp.refl {G W : Hp} (h : Same G W) : Stp G W G W := ⟨Same.refl _, Same.refl _, h, fun _ _ e => .inl e⟩
theorem Stp.trans {G W G1 W1 G2 W2 : Hp} (a : Stp G W G1 W1) (b : Stp G1 W1 G2 W2) : Stp G W G2 W2 :=
  ⟨a.g.trans b.g, a.w.trans b.w, b.gw, fun q o e => by
    rcases b.ng q o e with h | h
    · exact a.ng q o h
    · exact .inr (a.w.free h)⟩
theorem Stt.stp {C : Cfg} {n n' : Nat} {G W H G' W' H' : Hp} (s : Stt C n G W H) (p : Stp G W G' W') (t : C.Θ.T n' W' H') : Stt C n' G' W' H' :=
  ⟨t, p.gw, s.bw.trans p.w, s.g0.trans p.g, fun q o e => by
    rcases p.ng q o e with h | h
    · exact s.gb q o h
    · exact .inr (s.bw.free h)⟩
theorem Stt.wh {C : Cfg} {n : Nat} {G W H : Hp} (s : Stt C n G W H) : Same W H := C.Θ.sub s.t
theorem Stt.gh {C : Cfg} {n : Nat} {G W H : Hp} (s : Stt C n G W H) : Same G H := s.gw.trans s.wh
theorem Stt.wfree {C : Cfg} {n : Nat} {G W H : Hp} {p : Addr} (s : Stt C n G W H) (h : H p = none) : W p = none := s.wh.free h
theorem Stt.gfree {C : Cfg} {n : Nat} {G W H : Hp} {p : Addr} (s : Stt C n G W H) (h : H p = none) : G p = none := s.gh.free h
theorem same_upd {H : Hp} {p : Addr} {o : HO} (h : H p = none) : Same H (upd H p o) := same_of_none h
theorem same_two {G W : Hp} {p : Addr} {o : HO} (e : Same G W) : Same (upd G p o) (upd W p o) := fun q x h => by
  by_cases z : q = p
  · subst z; rw [upd_same] at h ⊢; exact h
  · rw [upd_ne z] at h ⊢; exact e _ _ h
theorem same_put {G W : Hp} {p : Addr} {o : HO} (e : Same G W) (h : W p = some o) : Same (upd G p o) W := fun q x hq => by
  by_cases z : q = p
  · subst z; rw [upd_same] at hq; rw [h]; exact hq
  · rw [upd_ne z] at hq; exact e _ _ hq
/-- a new object, frozen at once -/
theorem Stp.newF {C : Cfg} {n : Nat} {G W H : Hp} {p : Addr} {o : HO} (s : Stt C n G W H) (h : H p = none) : Stp G W (upd G p o) (upd W p o) :=
  ⟨same_upd (s.gfree h), same_upd (s.wfree h), same_two s.gw, fun q x e => by
    by_cases z : q = p
    · subst z; exact .inr (s.wfree h)
    · rw [upd_ne z] at e; exact .inl e⟩
/-- a new object, owned -/
theorem Stp.newO {C : Cfg} {n : Nat} {G W H : Hp} {p : Addr} {o : HO} (s : Stt C n G W H) (h : H p = none) : Stp G W G (upd W p o) :=
  ⟨Same.refl _, same_upd (s.wfree h), s.gw.trans (same_upd (s.wfree h)), fun _ _ e => .inl e⟩
theorem Stt.newT {C : Cfg} {n : Nat} {G W H : Hp} {p : Addr} {o : HO} (s : Stt C n G W H) (h : H p = none) (nt : NT o := by exact ⟨(fun _ h => nomatch h), (fun _ h => nomatch h)⟩) : C.Θ.T n (upd W p o) (upd H p o) :=
  C.Θ.ext s.t (same_upd h) (same_upd (s.wfree h)) fun q x e => by
    by_cases z : q = p
    · subst z; rw [upd_same] at e ⊢; exact .inr ⟨h, e, by cases e; exact nt⟩
    · rw [upd_ne z] at e; exact .inl e
/-- the heap grew unseen -/
theorem Stt.more {C : Cfg} {n : Nat} {G W H H' : Hp} (s : Stt C n G W H) (h : Same H H') : Stt C n G W H' :=
  { s with t := C.Θ.ext s.t h (Same.refl _) fun _ _ e => .inl e }
def Res (B : Hp) (s : SL) (v : V) (G W : Hp) : Prop := match s with
  | .un => True
  | .fr p => p.P v G
  | .bo p => p.P v B
  | .ow c => ∃ a o, v = .ref a ∧ W a = some o ∧ G a = none ∧ B a = none ∧ c.P o G
def Fre (s : SL) (v : V) (W : Hp) : Prop := match s with
  | .ow _ => ∀ p, v = .ref p → W p = none
  | _ => True
theorem Res.stp {B : Hp} {s : SL} {v : V} {G W G' W' : Hp} (r : Res B s v G W) (p : Stp G W G' W') : Res B s v G' W' := by
  cases s with
  | un => trivial
  | fr q => exact q.up p.g r
  | bo q => exact r
  | ow c =>
    obtain ⟨a, o, e, h1, h2, h3, h4⟩ := r
    refine ⟨a, o, e, p.w _ _ h1, ?_, h3, c.up p.g h4⟩
    cases z : G' a with
    | none => rfl
    | some u =>
      rcases p.ng _ _ z with h | h
      · rw [h2] at h; cases h
      · rw [h1] at h; cases h
theorem Fre.stp {s : SL} {v : V} {G W G' W' : Hp} (r : Fre s v W') (p : Stp G W G' W') : Fre s v W := by
  cases s with
  | ow c => exact fun q e => p.w.free (r q e)
  | _ => trivial
structure Ee (B : Hp) (ps : List SL) (σ : L2.St) (G W : Hp) : Prop where
  len : σ.length = ps.length
  at_ : ∀ {i : Nat} {s : SL}, ps[i]? = some s → s ≠ .un → ∃ v, σ[i]? = some (some v) ∧ Res B s v G W
  sep : ∀ {i j : Nat} {c d : CP} {a : Addr}, i ≠ j → ps[i]? = some (.ow c) → ps[j]? = some (.ow d) → σ[i]? = some (some (.ref a)) → σ[j]? = some (some (.ref a)) → False
theorem Ee.stp {B : Hp} {ps : List SL} {σ : L2.St} {G W G' W' : Hp} (e : Ee B ps σ G W) (p : Stp G W G' W') : Ee B ps σ G' W' :=
  ⟨e.len, fun h n => let ⟨v, h1, h2⟩ := e.at_ h n; ⟨v, h1, h2.stp p⟩, e.sep⟩
/-- what is known when an exception is in the air -/
inductive PxL : List SL → List SL → Prop
  | nil : PxL [] []
  | un {p l s} : PxL p l → PxL (.un :: p) (s :: l)
  | same {p l s} : PxL p l → PxL (s :: p) (s :: l)
def PxLe (p l : List SL) : Prop := p = [] ∨ PxL p l
theorem PxLe.nil {l : List SL} : PxLe [] l := .inl rfl
def Ex_ (B : Hp) (px : List SL) (σ : L2.St) (G W : Hp) : Prop := px = [] ∨ (σ.length = px.length ∧ ∀ {i : Nat} {s : SL}, px[i]? = some s → s ≠ .un → ∃ v, σ[i]? = some (some v) ∧ Res B s v G W)
theorem PxL.len {px ps : List SL} (h : PxL px ps) : px.length = ps.length := by
  induction h with
  | nil => rfl
  | un _ ih => simp [ih]
  | same _ ih => simp [ih]
theorem PxL.get {px ps : List SL} (h : PxL px ps) : ∀ {i : Nat} {s : SL}, px[i]? = some s → s ≠ .un → ps[i]? = some s := by
  induction h with
  | nil => intro i s e; simp at e
  | un _ ih =>
    intro i s e n
    cases i with
    | zero => simp at e; exact absurd e.symm n
    | succ i => simp at e ⊢; exact ih e n
  | same _ ih =>
    intro i s e n
    cases i with
    | zero => simpa using e
    | succ i => simp at e ⊢; exact ih e n
theorem Ee.x {B : Hp} {px ps : List SL} {σ : L2.St} {G W : Hp} (e : Ee B ps σ G W) (h : PxLe px ps) : Ex_ B px σ G W := h.imp id fun h => ⟨by rw [h.len]; exact e.len, fun a b => e.at_ (h.get a b) b⟩
/-! ### kinds of values -/
def rInt (i : Int) : VP := ⟨fun v _ => v = .int i, fun _ h => h⟩
def rBl (b : Bool) : VP := ⟨fun v _ => v = .bl b, fun _ h => h⟩
def rStr (z : Str) : VP := ⟨fun v _ => v = .str z, fun _ h => h⟩
def rNon (_ : Unit) : VP := ⟨fun v _ => v = .non, fun _ h => h⟩
def reps {α : Type} (R : α → VP) : List α → List V → Hp → Prop
  | [], [], _ => True
  | x :: xs, v :: vs, G => (R x).P v G ∧ reps R xs vs G
  | _, _, _ => False
section
variable {α : Type} {R : α → VP} {G G' : Hp}
theorem reps.up : ∀ {xs : List α} {vs : List V}, Same G G' → reps R xs vs G → reps R xs vs G'
  | [], [], _, _ => trivial
  | x :: xs, v :: vs, e, h => ⟨(R x).up e h.1, reps.up e h.2⟩
theorem reps.len : ∀ {xs : List α} {vs : List V}, reps R xs vs G → vs.length = xs.length
  | [], [], _ => rfl
  | _ :: xs, _ :: vs, h => by rw [List.length_cons, List.length_cons, reps.len h.2]
theorem reps.get : ∀ {xs : List α} {vs : List V} {i : Nat} {x : α}, reps R xs vs G → xs[i]? = some x → ∃ v, vs[i]? = some v ∧ (R x).P v G
  | [], [], _, _, _, e => by simp at e
  | y :: xs, v :: vs, 0, x, h, e => by
    have e : y = x := Option.some.inj e
    subst e
    exact ⟨v, rfl, h.1⟩
  | y :: xs, v :: vs, i + 1, x, h, e => by
    obtain ⟨u, h1, h2⟩ := reps.get (i := i) (x := x) h.2 e
    exact ⟨u, h1, h2⟩
theorem reps.get' : ∀ {xs : List α} {vs : List V} {i : Nat} {v : V}, reps R xs vs G → vs[i]? = some v → ∃ x, xs[i]? = some x ∧ (R x).P v G
  | [], [], _, _, _, e => by simp at e
  | y :: xs, v :: vs, 0, u, h, e => by
    have e : v = u := Option.some.inj e
    subst e
    exact ⟨y, rfl, h.1⟩
  | y :: xs, v :: vs, i + 1, u, h, e => by
    obtain ⟨x, h1, h2⟩ := reps.get' (i := i) (v := u) h.2 e
    exact ⟨x, h1, h2⟩
theorem reps.app : ∀ {xs ys : List α} {vs us : List V}, reps R xs vs G → reps R ys us G → reps R (xs ++ ys) (vs ++ us) G
  | [], _, [], _, _, k => k
  | _ :: _, _, _ :: _, _, h, k => ⟨h.1, reps.app h.2 k⟩
theorem reps.take : ∀ {xs : List α} {vs : List V} (n : Nat), reps R xs vs G → reps R (xs.take n) (vs.take n) G
  | _, _, 0, _ => by simp only [List.take_zero]; trivial
  | [], [], _ + 1, _ => trivial
  | _ :: _, _ :: _, n + 1, h => ⟨h.1, reps.take n h.2⟩
theorem reps.drop : ∀ {xs : List α} {vs : List V} (n : Nat), reps R xs vs G → reps R (xs.drop n) (vs.drop n) G
  | _, _, 0, h => h
  | [], [], _ + 1, _ => trivial
  | _ :: _, _ :: _, n + 1, h => reps.drop n h.2
theorem reps.rev : ∀ {xs : List α} {vs : List V}, reps R xs vs G → reps R xs.reverse vs.reverse G
  | [], [], _ => trivial
  | x :: xs, v :: vs, h => by
    rw [List.reverse_cons, List.reverse_cons]
    exact reps.app (reps.rev h.2) ⟨h.1, trivial⟩
theorem reps.nil {vs : List V} (h : reps R [] vs G) : vs = [] := by
  cases vs with
  | nil => rfl
  | cons _ _ => exact h.elim
theorem reps.set : ∀ {xs : List α} {vs : List V} (i : Nat) {x : α} {v : V}, reps R xs vs G → (R x).P v G → reps R (xs.set i x) (vs.set i v) G
  | [], [], _, _, _, _, _ => trivial
  | _ :: _, _ :: _, 0, _, _, h, k => ⟨k, h.2⟩
  | _ :: _, _ :: _, i + 1, _, _, h, k => ⟨h.1, reps.set i h.2 k⟩
end
def rLst {α : Type} (R : α → VP) (xs : List α) : VP := ⟨fun v G => ∃ p vs, v = .ref p ∧ G p = some (.lst vs) ∧ reps R xs vs G, fun e ⟨p, vs, h, h1, h2⟩ => ⟨p, vs, h, e _ _ h1, h2.up e⟩⟩
theorem same_sqT (K : PySem.W.Frag) {G G' : Hp} {a : Addr} {xs : List V} (e : Same G G') (h : SqT K G a xs) : SqT K G' a xs := by
  rcases h with (h | ⟨o, h⟩) | h
  · exact .inl (.inl (e _ _ h))
  · exact .inl (.inr ⟨o, e _ _ h⟩)
  · exact .inr h
section
variable {α β : Type}
def rTup (R : α → VP) (xs : List α) : VP := ⟨fun v G => ∃ p vs, v = .ref p ∧ G p = some (.tup vs) ∧ reps R xs vs G, fun e ⟨p, vs, h, h1, h2⟩ => ⟨p, vs, h, e _ _ h1, h2.up e⟩⟩
/-- a tuple of the module -/
def rTupK (K : PySem.W.Frag) (R : α → VP) (xs : List α) : VP := ⟨fun v G => ∃ p vs, v = .ref p ∧ SqT K G p vs ∧ reps R xs vs G, fun e ⟨p, vs, h, h1, h2⟩ => ⟨p, vs, h, same_sqT K e h1, h2.up e⟩⟩
/-- a tuple of two -/
def rPr (R : α → VP) (S : β → VP) (q : α × β) : VP := ⟨fun v G => ∃ p x y, v = .ref p ∧ G p = some (.tup [x, y]) ∧ (R q.1).P x G ∧ (S q.2).P y G,
  fun e ⟨p, x, y, h, h1, h2, h3⟩ => ⟨p, x, y, h, e _ _ h1, (R _).up e h2, (S _).up e h3⟩⟩
def rOpt (R : α → VP) (q : Option α) : VP := ⟨fun v G => match q with | none => v = .non | some a => (R a).P v G, fun {v G G'} e h => by
  cases q with
  | none => exact h
  | some a => exact (R a).up e h⟩
/-! data of any depth, dicts of texts too -/
mutual
inductive Dq (G : Hp) : V → PyData → Prop
  | non : Dq G .non .none
  | bl (b : Bool) : Dq G (.bl b) (.bool b)
  | int (i : Int) : Dq G (.int i) (.int i)
  | str (x : Str) : Dq G (.str x) (.str x)
  | lst {a : Addr} {xs : List V} {ds : List PyData} : G a = some (.lst xs) → DqAll G xs ds → Dq G (.ref a) (.list ds)
  | tup {a : Addr} {xs : List V} {ds : List PyData} : G a = some (.tup xs) → DqAll G xs ds → Dq G (.ref a) (.tuple ds)
  | dict {a : Addr} {ks : List (Key × V)} {ds : List (Str × PyData)} : G a = some (.dK ks) → DqKv G ks ds → Dq G (.ref a) (.dict (ds.map fun p => (.str p.1, p.2)))
inductive DqAll (G : Hp) : List V → List PyData → Prop
  | nil : DqAll G [] []
  | cons {v : V} {vs : List V} {d : PyData} {ds : List PyData} : Dq G v d → DqAll G vs ds → DqAll G (v :: vs) (d :: ds)
inductive DqKv (G : Hp) : List (Key × V) → List (Str × PyData) → Prop
  | nil : DqKv G [] []
  | cons {k : Str} {v : V} {vs : List (Key × V)} {d : PyData} {ds : List (Str × PyData)} : Dq G v d → DqKv G vs ds → DqKv G ((.inr k, v) :: vs) ((k, d) :: ds)
end
theorem dq_up {G G' : Hp} (e : Same G G') {v : V} {d : PyData} (h : Dq G v d) : Dq G' v d :=
  Dq.rec (motive_1 := fun v d _ => Dq G' v d) (motive_2 := fun vs ds _ => DqAll G' vs ds) (motive_3 := fun vs ds _ => DqKv G' vs ds) .non .bl .int .str (fun h _ ih => .lst (e _ _ h) ih) (fun h _ ih => .tup (e _ _ h) ih) (fun h _ ih => .dict (e _ _ h) ih) .nil (fun _ _ a b => .cons a b) .nil (fun _ _ a b => .cons a b) h
theorem dq_dp {K : PySem.W.Frag} {G : Hp} {v : V} {d : PyData} (h : Dq G v d) : d.canLay0 = true → Dp K G v d :=
  Dq.rec (motive_1 := fun v d _ => d.canLay0 = true → Dp K G v d) (motive_2 := fun vs ds _ => PyData.canLayAll0 ds = true → DpAll K G vs ds) (motive_3 := fun _ _ _ => True)
    (fun _ => .non) (fun b _ => .bl b) (fun i _ => .int i) (fun x _ => .str x) (fun h _ ih c => .lst (SqL.of h) (ih c)) (fun h _ ih c => .tup (SqT.of h) (ih c)) (fun _ _ _ c => nomatch c) (fun _ => .nil)
    (fun _ _ a b c => .cons (a (Bool.and_eq_true_iff.mp c).1) (b (Bool.and_eq_true_iff.mp c).2)) trivial (fun _ _ _ _ => trivial) h
theorem dp_up {K : PySem.W.Frag} {G G' : Hp} (e : Same G G') {v : V} {d : PyData} (h : Dp K G v d) : Dp K G' v d :=
  Dp.rec (motive_1 := fun v d _ => Dp K G' v d) (motive_2 := fun vs ds _ => DpAll K G' vs ds) .non .bl .int .str (fun h _ ih => .lst (e.seq h) ih) (fun h _ ih => .tup (same_sqT K e h) ih) .nil (fun _ _ a b => .cons a b) h
def rDat (d : PyData) : VP := ⟨fun v G => Dq G v d, fun e h => dq_up e h⟩
def cLst (R : α → VP) (xs : List α) : CP := ⟨fun o G => ∃ vs, o = .lst vs ∧ reps R xs vs G, fun e ⟨vs, h, h2⟩ => ⟨vs, h, h2.up e⟩⟩
end
def XRep (mg : Str → Option Value) (x : Exc) (cls : Value) (d : Option Addr) (G W H : Hp) : Prop :=
  ∃ C dd v, mg x.nm = some (.ref C) ∧ cls = .ref C ∧ d = some dd ∧ H dd = some (.xd [(x.f, v)]) ∧ W dd = none ∧ Dq G v x.d
def Kt (C : Cfg) {α : Type} (R : α → SL) (G W : Hp) (Q : VK) (Φ : α → Nat → Prop) : Prop :=
  ∀ a n v G' W' H', Φ a n → Stp G W G' W' → C.Θ.T n W' H' → Res C.B (R a) v G' W' → Fre (R a) v W → Q v H'
def Xt (C : Cfg) (σ : L2.St) (G W : Hp) (Ψ : Exc → Nat → Prop) : Prop :=
  ∀ x n cls d G' W' H', Ψ x n → XRep C.mg x cls d G' W' H' → Stp G W G' W' → C.Θ.T n W' H' → C.Ew σ cls d H'
theorem Kt.stp {C : Cfg} {α : Type} {R : α → SL} {G W G' W' : Hp} {Q : VK} {Φ : α → Nat → Prop} (k : Kt C R G W Q Φ) (p : Stp G W G' W') : Kt C R G' W' Q Φ :=
  fun a n v G2 W2 H2 h s t r f => k a n v G2 W2 H2 h (p.trans s) t r (f.stp p)
theorem Xt.stp {C : Cfg} {σ : L2.St} {G W G' W' : Hp} {Ψ : Exc → Nat → Prop} (k : Xt C σ G W Ψ) (p : Stp G W G' W') : Xt C σ G' W' Ψ :=
  fun x n cls d G2 W2 H2 h r s t => k x n cls d G2 W2 H2 h r (p.trans s) t
/-- an expression -/
def VE (C : Cfg) {α : Type} (te : TE) (ps : List SL) (m : M α) (R : α → SL) : Prop :=
  ∀ σ G W H n (Q : VK) Φ Ψ, Ee C.B ps σ G W → Stt C n G W H → m Φ Ψ n → Kt C R G W Q Φ → Xt C σ G W Ψ → te σ H Q
/-- a test -/
def VT (C : Cfg) (tt : TT) (ps : List SL) (m : M Bool) : Prop :=
  ∀ σ G W H n (Q : Bool → Hp → Prop) (Φ : Bool → Nat → Prop) Ψ, Ee C.B ps σ G W → Stt C n G W H → m Φ Ψ n →
    (∀ b n G' W' H', Φ b n → Stp G W G' W' → C.Θ.T n W' H' → Q b H') → Xt C σ G W Ψ → tt σ H Q
inductive RepL : List VP → List V → Hp → Prop
  | nil {G} : RepL [] [] G
  | cons {p ps v vs G} : p.P v G → RepL ps vs G → RepL (p :: ps) (v :: vs) G
theorem RepL.up {ps : List VP} {vs : List V} {G G' : Hp} (e : Same G G') (h : RepL ps vs G) : RepL ps vs G' := by
  revert e
  induction h with
  | nil => exact fun _ => .nil
  | cons a _ ih => exact fun e => .cons (VP.up _ e a) (ih e)
/-- arguments -/
def VA (C : Cfg) {α : Type} (ta : TA) (ps : List SL) (m : M α) (Rs : α → List VP) : Prop :=
  ∀ σ G W H n (Q : List V → Hp → Prop) Φ Ψ, Ee C.B ps σ G W → Stt C n G W H → m Φ Ψ n →
    (∀ a n vs G' W' H', Φ a n → Stp G W G' W' → C.Θ.T n W' H' → RepL (Rs a) vs G' → Q vs H') → Xt C σ G W Ψ → ta σ H Q
/-- an operator on values; of one; of several -/
def V2 (C : Cfg) {α β γ : Type} (r : R2) (Ra : α → VP) (Rb : β → VP) (m : α → β → M γ) (R : γ → SL) : Prop :=
  ∀ a b v u σ G W H n (Q : VK) Φ Ψ, (Ra a).P v G → (Rb b).P u G → Stt C n G W H → m a b Φ Ψ n → Kt C R G W Q Φ → Xt C σ G W Ψ → r v u H Q
def V1 (C : Cfg) {α γ : Type} (r : V → Hp → VK → Prop) (Ra : α → VP) (m : α → M γ) (R : γ → SL) : Prop :=
  ∀ a v σ G W H n (Q : VK) Φ Ψ, (Ra a).P v G → Stt C n G W H → m a Φ Ψ n → Kt C R G W Q Φ → Xt C σ G W Ψ → r v H Q
def Vn (C : Cfg) {α γ : Type} (r : List V → Hp → VK → Prop) (Rs : α → List VP) (m : α → M γ) (R : γ → SL) : Prop :=
  ∀ a vs σ G W H n (Q : VK) Φ Ψ, RepL (Rs a) vs G → Stt C n G W H → m a Φ Ψ n → Kt C R G W Q Φ → Xt C σ G W Ψ → r vs H Q
@[reducible] def Fz {α : Type} (R : α → VP) : α → SL := fun a => .fr (R a)
@[reducible] def Ow {α : Type} (c : α → CP) : α → SL := fun a => .ow (c a)
section
variable {C : Cfg} {α β γ : Type} {ps : List SL} {te ta tb : TE} {ma : M α} {mb : M β}
theorem ve_op2 {r : R2} {Ra : α → VP} {Rb : β → VP} {mr : α → β → M γ} {R : γ → SL} (ha : VE C ta ps ma (Fz Ra)) (hb : VE C tb ps mb (Fz Rb)) (hr : V2 C r Ra Rb mr R) :
    VE C (tOp r ta tb) ps (M.bind ma fun a => M.bind mb fun b => mr a b) R := by
  intro σ G W H n Q Φ Ψ e st hm k x
  refine ha σ G W H n _ (fun a n' => M.bind mb (fun b => mr a b) Φ Ψ n') Ψ e st hm ?_ x
  intro a n1 v G1 W1 H1 h1 s1 t1 r1 _
  have st1 := st.stp s1 t1
  refine hb σ G1 W1 H1 n1 _ (fun b n' => mr a b Φ Ψ n') Ψ (e.stp s1) st1 h1 ?_ (x.stp s1)
  intro b n2 u G2 W2 H2 h2 s2 t2 r2 _
  exact hr a b v u σ G2 W2 H2 n2 Q Φ Ψ ((Ra a).up s2.g r1) r2 (st1.stp s2 t2) h2 (k.stp (s1.trans s2)) (x.stp (s1.trans s2))
theorem ve_un {r : V → Hp → VK → Prop} {Ra : α → VP} {mr : α → M γ} {R : γ → SL} (ha : VE C ta ps ma (Fz Ra)) (hr : V1 C r Ra mr R) :
    VE C (tUn r ta) ps (M.bind ma fun a => mr a) R := by
  intro σ G W H n Q Φ Ψ e st hm k x
  refine ha σ G W H n _ (fun a n' => mr a Φ Ψ n') Ψ e st hm ?_ x
  intro a n1 v G1 W1 H1 h1 s1 t1 r1 _
  exact hr a v σ G1 W1 H1 n1 Q Φ Ψ r1 (st.stp s1 t1) h1 (k.stp s1) (x.stp s1)
theorem va_nil : VA C tNil ps (M.pure ()) (fun _ => []) := by
  intro σ G W H n Q Φ Ψ e st hm k x
  exact k () n [] G W H hm (Stp.refl st.gw) st.t .nil
theorem va_cons {Ra : α → VP} {Rs : β → List VP} {tr : TA} (ha : VE C ta ps ma (Fz Ra)) (hr : VA C tr ps mb Rs) :
    VA C (tCons ta tr) ps (M.bind ma fun a => M.bind mb fun b => M.pure (a, b)) (fun q => Ra q.1 :: Rs q.2) := by
  intro σ G W H n Q Φ Ψ e st hm k x
  refine ha σ G W H n _ (fun a n' => M.bind mb (fun b => M.pure (a, b)) Φ Ψ n') Ψ e st hm ?_ x
  intro a n1 v G1 W1 H1 h1 s1 t1 r1 _
  have st1 := st.stp s1 t1
  refine hr σ G1 W1 H1 n1 _ (fun b n' => Φ (a, b) n') Ψ (e.stp s1) st1 h1 ?_ (x.stp s1)
  intro b n2 vs G2 W2 H2 h2 s2 t2 r2
  exact k (a, b) n2 (v :: vs) G2 W2 H2 h2 (s1.trans s2) t2 (.cons ((Ra a).up s2.g r1) r2)
/-- a call of a built-in by its values -/
theorem ve_cb {r : List V → Hp → VK → Prop} {t : TA} {Rs : α → List VP} {mr : α → M γ} {R : γ → SL} (ha : VA C t ps ma Rs) (hr : Vn C r Rs mr R) :
    VE C (tCB r t) ps (M.bind ma fun a => mr a) R := by
  intro σ G W H n Q Φ Ψ e st hm k x
  refine ha σ G W H n _ (fun a n' => mr a Φ Ψ n') Ψ e st hm ?_ x
  intro a n1 vs G1 W1 H1 h1 s1 t1 r1
  exact hr a vs σ G1 W1 H1 n1 Q Φ Ψ r1 (st.stp s1 t1) h1 (k.stp s1) (x.stp s1)
/-! ### ends of a value-level step -/
theorem Kt.here {R : α → SL} {G W H : Hp} {Q : VK} {Φ : α → Nat → Prop} {n : Nat} {a : α} {v : V} (k : Kt C R G W Q Φ) (st : Stt C n G W H) (h : Φ a n) (r : Res C.B (R a) v G W) (f : Fre (R a) v W) : Q v H :=
  k a n v G W H h (Stp.refl st.gw) st.t r f
theorem Kt.hereF {R : α → VP} {G W H : Hp} {Q : VK} {Φ : α → Nat → Prop} {n : Nat} {a : α} {v : V} (k : Kt C (Fz R) G W Q Φ) (st : Stt C n G W H) (h : Φ a n) (r : (R a).P v G) : Q v H :=
  k a n v G W H h (Stp.refl st.gw) st.t r trivial
theorem Kt.newF {R : α → VP} {G W H : Hp} {Q : VK} {Φ : α → Nat → Prop} {n : Nat} {a : α} {p : Addr} {o : HO} (k : Kt C (Fz R) G W Q Φ) (st : Stt C n G W H) (h : Φ a n) (hp : H p = none) (r : (R a).P (.ref p) (upd G p o)) (nt : NT o := by exact ⟨(fun _ h => nomatch h), (fun _ h => nomatch h)⟩) : Q (.ref p) (upd H p o) :=
  k a n _ (upd G p o) (upd W p o) _ h (Stp.newF st hp) (st.newT hp nt) r trivial
theorem Kt.newO {c : α → CP} {G W H : Hp} {Q : VK} {Φ : α → Nat → Prop} {n : Nat} {a : α} {p : Addr} {o : HO} (k : Kt C (Ow c) G W Q Φ) (st : Stt C n G W H) (h : Φ a n) (hp : H p = none) (r : (c a).P o G) (nt : NT o := by exact ⟨(fun _ h => nomatch h), (fun _ h => nomatch h)⟩) : Q (.ref p) (upd H p o) :=
  k a n _ G (upd W p o) _ h (Stp.newO st hp) (st.newT hp nt) ⟨p, o, rfl, upd_same, st.gfree hp, st.bw.free (st.wfree hp), r⟩ fun q e => by cases e; exact st.wfree hp
/-! ### names and constants -/
theorem ve_var {i : Nat} {p : VP} (h : ps[i]? = some (.fr p) := by rfl) : VE C (tVar i) ps (M.pure ()) (Fz fun _ : Unit => p) := by
  intro σ G W H n Q Φ Ψ e st hm k x
  obtain ⟨v, h1, h2⟩ := e.at_ h (by simp)
  exact ⟨v, h1, k.hereF st hm h2⟩
/-- a name whose datum is known -/
theorem ve_v (R : α → VP) (a : α) {i : Nat} (h : ps[i]? = some (.fr (R a)) := by rfl) : VE C (tVar i) ps (M.pure a) (Fz R) := by
  intro σ G W H n Q Φ Ψ e st hm k x
  obtain ⟨v, h1, h2⟩ := e.at_ h (by simp)
  exact ⟨v, h1, k.hereF st hm h2⟩
theorem ve_c (R : α → VP) (a : α) {v : V} (h : ∀ G, (R a).P v G) : VE C (tC v) ps (M.pure a) (Fz R) := by
  intro σ G W H n Q Φ Ψ e st hm k x
  exact k.hereF st hm (h G)
end
/-- an owned list is shown -/
theorem ve_fr {C : Cfg} {α : Type} {te : TE} {ps : List SL} {γ : Type} {m : M γ} {c : γ → CP} {R : γ → VP} (h : VE C te ps m (Ow c)) (hc : ∀ a p o G, (c a).P o G → G p = none → (R a).P (.ref p) (upd G p o)) : VE C te ps m (Fz R) := by
  intro σ G W H n Q Φ Ψ e st hm k x
  refine h σ G W H n Q Φ Ψ e st hm ?_ x
  intro a n' v G' W' H' hΦ s t r f
  obtain ⟨p, o, rfl, h1, h2, h3, h4⟩ := r
  have hw := f p rfl
  refine k a n' _ (upd G' p o) W' H' hΦ ⟨s.g.trans (same_upd h2), s.w, same_put s.gw h1, fun q x hq => ?_⟩ t (hc a p o G' h4 h2) trivial
  by_cases z : q = p
  · subst z; exact .inr hw
  · rw [upd_ne z] at hq; exact s.ng q x hq
theorem ve_frL {C : Cfg} {α : Type} {te : TE} {ps : List SL} {R : α → VP} {m : M (List α)} (h : VE C te ps m (Ow (cLst R))) : VE C te ps m (Fz (rLst R)) :=
  ve_fr (α := α) h fun a p o G hc hp => by
    obtain ⟨vs, rfl, hv⟩ := hc
    exact ⟨p, vs, rfl, upd_same, hv.up (same_upd hp)⟩
end VL

namespace VL
open PySem PySem.Spec PyProof.Rows L2
section
variable {C : Cfg} {α β γ : Type} {ps : List SL}
/-! ### whole numbers, truth values, texts -/
theorem v2_i0 {g : Int → Int → V} (f : Int → Int → γ) (R : γ → VP) (h : ∀ i j G, (R (f i j)).P (g i j) G) : V2 C (rI0 g) rInt rInt (fun i j => M.pure (f i j)) (Fz R) := by
  intro i j v u σ G W H n Q Φ Ψ hv hu st hm k x
  exact ⟨i, j, hv, hu, k.hereF st hm (h i j G)⟩
theorem v2_add : V2 C (rI0 fun i j => .int (i + j)) rInt rInt (fun i j => M.pure (i + j)) (Fz rInt) := v2_i0 _ rInt fun _ _ _ => rfl
theorem v2_sub : V2 C (rI0 fun i j => .int (i - j)) rInt rInt (fun i j => M.pure (i - j)) (Fz rInt) := v2_i0 _ rInt fun _ _ _ => rfl
theorem v2_lt : V2 C (rI0 fun i j => .bl (decide (i < j))) rInt rInt (fun i j => M.pure (decide (i < j))) (Fz rBl) := v2_i0 _ rBl fun _ _ _ => rfl
theorem v2_le : V2 C (rI0 fun i j => .bl (decide (i ≤ j))) rInt rInt (fun i j => M.pure (decide (i ≤ j))) (Fz rBl) := v2_i0 _ rBl fun _ _ _ => rfl
theorem v2_gt : V2 C (rI0 fun i j => .bl (decide (j < i))) rInt rInt (fun i j => M.pure (decide (j < i))) (Fz rBl) := v2_i0 _ rBl fun _ _ _ => rfl
theorem v2_ge : V2 C (rI0 fun i j => .bl (decide (j ≤ i))) rInt rInt (fun i j => M.pure (decide (j ≤ i))) (Fz rBl) := v2_i0 _ rBl fun _ _ _ => rfl
theorem v2_ic {c : Int → Int → Prop} {g : Int → Int → V} (f : Int → Int → γ) (R : γ → VP) (h : ∀ i j G, (R (f i j)).P (g i j) G) : V2 C (rI c g) rInt rInt (fun i j => M.when (c i j) (f i j)) (Fz R) := by
  intro i j v u σ G W H n Q Φ Ψ hv hu st hm k x
  exact ⟨i, j, hv, hu, hm.1, k.hereF st hm.2 (h i j G)⟩
theorem v2_mul : V2 C (rI CMulW fun i j => .int (i * j)) rInt rInt (fun i j => M.when (CMulW i j) (i * j)) (Fz rInt) := v2_ic _ rInt fun _ _ _ => rfl
theorem v2_fdiv : V2 C (rI CDivW fun i j => .int (i / j)) rInt rInt (fun i j => M.when (CDivW i j) (i / j)) (Fz rInt) := v2_ic _ rInt fun _ _ _ => rfl
theorem v2_mod : V2 C (rI (fun _ j => j ≠ 0) fun i j => .int (i.fmod j)) rInt rInt (fun i j => M.when (j ≠ 0) (i.fmod j)) (Fz rInt) := v2_ic (c := fun _ j => j ≠ 0) _ rInt fun _ _ _ => rfl
theorem v2_pow : V2 C (rI CPow fun i j => .int (i ^ j.toNat)) rInt rInt (fun i j => M.when (CPow i j) (i ^ j.toNat)) (Fz rInt) := v2_ic _ rInt fun _ _ _ => rfl
theorem v1_neg : V1 C (rU fun i => .int (-i)) rInt (fun i => M.pure (-i)) (Fz rInt) := by
  intro i v σ G W H n Q Φ Ψ hv st hm k x
  exact ⟨i, hv, k.hereF st hm rfl⟩
theorem dec_congr {p q : Prop} [Decidable p] [Decidable q] (h : p ↔ q) : decide p = decide q := by
  by_cases hp : p
  · rw [decide_eq_true hp, decide_eq_true (h.mp hp)]
  · rw [decide_eq_false hp, decide_eq_false fun hq => hp (h.mpr hq)]
theorem v2_eqI : V2 C rEq rInt rInt (fun i j => M.pure (decide (i = j))) (Fz rBl) := by
  intro i j v u σ G W H n Q Φ Ψ hv hu st hm k x
  have hv : v = .int i := hv
  have hu : u = .int j := hu
  subst hv hu
  exact ⟨rfl, k.hereF (a := decide (i = j)) st hm (congrArg V.bl (dec_congr (by simp)))⟩
theorem v2_neI : V2 C rNe rInt rInt (fun i j => M.pure (!decide (i = j))) (Fz rBl) := by
  intro i j v u σ G W H n Q Φ Ψ hv hu st hm k x
  have hv : v = .int i := hv
  have hu : u = .int j := hu
  subst hv hu
  exact ⟨rfl, k.hereF (a := !decide (i = j)) st hm (congrArg (fun b => V.bl (!b)) (dec_congr (by simp)))⟩
theorem v2_eqS : V2 C rEq rStr rStr (fun i j => M.pure (decide (i = j))) (Fz rBl) := by
  intro i j v u σ G W H n Q Φ Ψ hv hu st hm k x
  have hv : v = .str i := hv
  have hu : u = .str j := hu
  subst hv hu
  exact ⟨rfl, k.hereF (a := decide (i = j)) st hm (congrArg V.bl (dec_congr (by simp)))⟩
theorem v2_neS : V2 C rNe rStr rStr (fun i j => M.pure (!decide (i = j))) (Fz rBl) := by
  intro i j v u σ G W H n Q Φ Ψ hv hu st hm k x
  have hv : v = .str i := hv
  have hu : u = .str j := hu
  subst hv hu
  exact ⟨rfl, k.hereF (a := !decide (i = j)) st hm (congrArg (fun b => V.bl (!b)) (dec_congr (by simp)))⟩
theorem v2_eqB : V2 C rEq rBl rBl (fun i j => M.pure (decide (i = j))) (Fz rBl) := by
  intro i j v u σ G W H n Q Φ Ψ hv hu st hm k x
  have hv : v = .bl i := hv
  have hu : u = .bl j := hu
  subst hv hu
  exact ⟨rfl, k.hereF (a := decide (i = j)) st hm (congrArg V.bl (dec_congr (by simp)))⟩
theorem v2_neB : V2 C rNe rBl rBl (fun i j => M.pure (!decide (i = j))) (Fz rBl) := by
  intro i j v u σ G W H n Q Φ Ψ hv hu st hm k x
  have hv : v = .bl i := hv
  have hu : u = .bl j := hu
  subst hv hu
  exact ⟨rfl, k.hereF (a := !decide (i = j)) st hm (congrArg (fun b => V.bl (!b)) (dec_congr (by simp)))⟩
theorem v2_catS : V2 C (fun x y H Q => ∃ i j, x = .str i ∧ y = .str j ∧ i.length + j.length ≤ sizeLine ∧ Q (.str (i ++ j)) H) rStr rStr (fun i j => M.when (i.length + j.length ≤ sizeLine) (i ++ j)) (Fz rStr) := by
  intro i j v u σ G W H n Q Φ Ψ hv hu st hm k x
  exact ⟨i, j, hv, hu, hm.1, k.hereF st hm.2 rfl⟩
theorem v2_isN {R : α → VP} : V2 C (fun x y H Q => y = .non ∧ Q (.bl (decide (x = .non))) H) (rOpt R) rNon (fun q _ => fun Φ _ n => (∀ a, q = some a → ∀ v G, (R a).P v G → v ≠ .non) ∧ Φ q.isNone n) (Fz rBl) := by
  intro q _ v u σ G W H n Q Φ Ψ hv hu st hm k x
  refine ⟨hu, k.hereF (a := q.isNone) st hm.2 ?_⟩
  cases q with
  | none =>
    have hv : v = .non := hv
    subst hv
    rfl
  | some a => exact congrArg V.bl (decide_eq_false (hm.1 a rfl v G hv))
theorem v2_notN {R : α → VP} : V2 C (fun x y H Q => y = .non ∧ Q (.bl (!decide (x = .non))) H) (rOpt R) rNon (fun q _ => fun Φ _ n => (∀ a, q = some a → ∀ v G, (R a).P v G → v ≠ .non) ∧ Φ q.isSome n) (Fz rBl) := by
  intro q _ v u σ G W H n Q Φ Ψ hv hu st hm k x
  refine ⟨hu, k.hereF (a := q.isSome) st hm.2 ?_⟩
  cases q with
  | none =>
    have hv : v = .non := hv
    subst hv
    rfl
  | some a => exact congrArg (fun b => V.bl (!b)) (decide_eq_false (hm.1 a rfl v G hv))
theorem v2_isBl : V2 C rIsB rBl rBl (fun a b => M.pure (decide (a = b))) (Fz rBl) := by
  intro i j v u σ G W H n Q Φ Ψ hv hu st hm k x
  exact ⟨i, j, hv, hu, k.hereF st hm rfl⟩
theorem v2_notBl : V2 C rNotB rBl rBl (fun a b => M.pure (!decide (a = b))) (Fz rBl) := by
  intro i j v u σ G W H n Q Φ Ψ hv hu st hm k x
  exact ⟨i, j, hv, hu, k.hereF st hm rfl⟩
def M.inS (a z : Str) : M Bool := fun Φ _ n => ∃ c, a = ⟨#[c]⟩ ∧ Φ (decide (c ∈ z.cps.toList)) n
def M.niS (a z : Str) : M Bool := fun Φ _ n => ∃ c, a = ⟨#[c]⟩ ∧ Φ (!decide (c ∈ z.cps.toList)) n
theorem v2_inSign : V2 C (fun x y H Q => ∃ (c : Nat) (z : Str), x = .str ⟨#[c]⟩ ∧ y = .str z ∧ Q (.bl (decide (c ∈ z.cps.toList))) H) rStr rStr M.inS (Fz rBl) := by
  rintro i j v u σ G W H n Q Φ Ψ hv hu st ⟨c, rfl, hm⟩ k x
  exact ⟨c, j, hv, hu, k.hereF st hm rfl⟩
theorem v2_niSign : V2 C (fun x y H Q => ∃ (c : Nat) (z : Str), x = .str ⟨#[c]⟩ ∧ y = .str z ∧ Q (.bl (!decide (c ∈ z.cps.toList))) H) rStr rStr M.niS (Fz rBl) := by
  rintro i j v u σ G W H n Q Φ Ψ hv hu st ⟨c, rfl, hm⟩ k x
  exact ⟨c, j, hv, hu, k.hereF st hm rfl⟩
/-! ### lists, tuples -/
def M.idx {α : Type} (xs : List α) (i : Int) : M α := fun Q _ n => ∃ x, atI xs i = some x ∧ Q x n
theorem reps.atI {R : α → VP} {xs : List α} {vs : List V} {G : Hp} {i : Int} {x : α} (h : reps R xs vs G) (e : L2.atI xs i = some x) : ∃ v, L2.atI vs i = some v ∧ (R x).P v G := by
  unfold L2.atI at e ⊢
  rw [h.len]
  cases hi : ixN xs.length i with
  | none => rw [hi] at e; cases e
  | some j =>
    rw [hi] at e
    exact h.get e
theorem v2_ixL {R : α → VP} : V2 C (rIxL C.K) (rLst R) rInt M.idx (Fz R) := by
  rintro xs i v u σ G W H n Q Φ Ψ ⟨p, vs, rfl, h1, h2⟩ hu st ⟨y, hy, hm⟩ k x
  obtain ⟨z, hz, hr⟩ := h2.atI hy
  exact ⟨p, vs, i, z, rfl, hu, SqL.of (st.gh _ _ h1), hz, k.hereF st hm hr⟩
theorem v2_ixT {R : α → VP} : V2 C (rIxT C.K) (rTup R) rInt M.idx (Fz R) := by
  rintro xs i v u σ G W H n Q Φ Ψ ⟨p, vs, rfl, h1, h2⟩ hu st ⟨y, hy, hm⟩ k x
  obtain ⟨z, hz, hr⟩ := h2.atI hy
  exact ⟨p, vs, i, z, rfl, hu, SqT.of (st.gh _ _ h1), hz, k.hereF st hm hr⟩
def M.sgn (z : Str) (i : Int) : M Str := fun Φ _ n => z.length ≤ sizeLine ∧ ∃ c, L2.atI z.cps.toList i = some c ∧ Φ ⟨#[c]⟩ n
theorem v2_ixS : V2 C rIxS rStr rInt M.sgn (Fz rStr) := by
  rintro z i v u σ G W H n Q Φ Ψ hv hu st ⟨hl, c, hc, hm⟩ k x
  exact ⟨z, i, c, hv, hu, hl, hc, k.hereF st hm rfl⟩
/-- the first, the second of a pair -/
theorem v2_fst {R : α → VP} {S : β → VP} : V2 C (rIxT C.K) (rPr R S) rInt (fun q i => fun Φ _ n => i = 0 ∧ Φ q.1 n) (Fz R) := by
  rintro q i v u σ G W H n Q Φ Ψ ⟨p, a, b, rfl, h1, h2, h3⟩ hu st ⟨rfl, hm⟩ k x
  exact ⟨p, _, 0, a, rfl, hu, SqT.of (st.gh _ _ h1), rfl, k.hereF st hm h2⟩
theorem v2_snd {R : α → VP} {S : β → VP} : V2 C (rIxT C.K) (rPr R S) rInt (fun q i => fun Φ _ n => i = 1 ∧ Φ q.2 n) (Fz S) := by
  rintro q i v u σ G W H n Q Φ Ψ ⟨p, a, b, rfl, h1, h2, h3⟩ hu st ⟨rfl, hm⟩ k x
  exact ⟨p, _, 1, b, rfl, hu, SqT.of (st.gh _ _ h1), rfl, k.hereF st hm h3⟩
theorem v2_catL {R : α → VP} : V2 C rCat (rLst R) (rLst R) (fun xs ys => M.when (xs.length + ys.length ≤ sizeLine) (xs ++ ys)) (Ow (cLst R)) := by
  rintro xs ys v u σ G W H n Q Φ Ψ ⟨p, vs, rfl, h1, h2⟩ ⟨q, us, rfl, h3, h4⟩ st ⟨hl, hm⟩ k x
  refine ⟨p, q, vs, us, rfl, rfl, st.gh _ _ h1, st.gh _ _ h3, by rw [h2.len, h4.len]; exact hl, fun r hr => k.newO (a := xs ++ ys) st hm hr ⟨_, rfl, h2.app h4⟩⟩
theorem v2_catT {R : α → VP} : V2 C (rCatA C.K) (rTup R) (rTup R) (fun xs ys => M.when (xs.length + ys.length ≤ sizeLine) (xs ++ ys)) (Fz (rTup R)) := by
  rintro xs ys v u σ G W H n Q Φ Ψ ⟨p, vs, rfl, h1, h2⟩ ⟨q, us, rfl, h3, h4⟩ st ⟨hl, hm⟩ k x
  refine ⟨p, q, vs, us, rfl, rfl, SqT.of (st.gh _ _ h1), SqT.of (st.gh _ _ h3), by rw [h2.len, h4.len]; exact hl, fun e => ?_, fun _ e => ?_, fun _ _ r hr => ?_⟩
  · have : xs = [] := List.eq_nil_of_length_eq_zero (by rw [← h2.len, e]; rfl)
    subst this
    exact k.hereF st hm ⟨q, us, rfl, h3, h4⟩
  · have : ys = [] := List.eq_nil_of_length_eq_zero (by rw [← h4.len, e]; rfl)
    subst this
    rw [List.append_nil] at hm
    exact k.hereF st hm ⟨p, vs, rfl, h1, h2⟩
  · exact k.newF (a := xs ++ ys) st hm hr ⟨r, _, rfl, upd_same, (h2.app h4).up (same_upd (st.gfree hr))⟩
theorem reps.rep {R : α → VP} {xs : List α} {vs : List V} {G : Hp} (h : reps R xs vs G) : ∀ k : Nat, reps R (List.replicate k xs).flatten (List.replicate k vs).flatten G
  | 0 => trivial
  | k + 1 => by
    rw [List.replicate_succ, List.replicate_succ, List.flatten_cons, List.flatten_cons]
    exact h.app (reps.rep h k)
theorem v2_rep {R : α → VP} : V2 C rRep (rLst R) rInt (fun xs k => M.when (-(2 ^ 63) ≤ k ∧ k < 2 ^ 63 ∧ xs.length * k.toNat ≤ sizeLine) (List.replicate k.toNat xs).flatten) (Ow (cLst R)) := by
  rintro xs i v u σ G W H n Q Φ Ψ ⟨p, vs, rfl, h1, h2⟩ hu st ⟨⟨a, b, c⟩, hm⟩ k x
  exact ⟨p, i, vs, rfl, hu, st.gh _ _ h1, a, b, by rw [h2.len]; exact c, fun r hr => k.newO (a := (List.replicate i.toNat xs).flatten) st hm hr ⟨_, rfl, h2.rep _⟩⟩
theorem RepL.len {ps : List VP} {vs : List V} {G : Hp} (h : RepL ps vs G) : vs.length = ps.length := by
  induction h with
  | nil => rfl
  | cons _ _ ih => rw [List.length_cons, List.length_cons, ih]
/-! ### displays -/
theorem ve_tup {t : TA} {m : M α} {Rs : α → List VP} (R : α → VP) (ht : VA C t ps m Rs) (hl : ∀ a, (Rs a).length ≤ 1000) (hR : ∀ a p vs G, G p = some (.tup vs) → RepL (Rs a) vs G → (R a).P (.ref p) G) : VE C (tTup t) ps m (Fz R) := by
  intro σ G W H n Q Φ Ψ e st hm k x
  refine ht σ G W H n _ Φ Ψ e st hm (fun a n' vs G' W' H' hΦ s t' r => ⟨?_, fun p hp => ?_⟩) x
  · rw [r.len]; exact size1000 (hl a)
  · have st' := st.stp s t'
    exact (k.stp s).newF (a := a) st' hΦ hp (hR a p vs _ upd_same (r.up (same_upd (st'.gfree hp))))
theorem ve_lst {t : TA} {m : M α} {Rs : α → List VP} (c : α → CP) (ht : VA C t ps m Rs) (hl : ∀ a, (Rs a).length ≤ 1000) (hR : ∀ a vs G, RepL (Rs a) vs G → (c a).P (.lst vs) G) : VE C (tLst t) ps m (Ow c) := by
  intro σ G W H n Q Φ Ψ e st hm k x
  refine ht σ G W H n _ Φ Ψ e st hm (fun a n' vs G' W' H' hΦ s t' r => ⟨?_, fun p hp => ?_⟩) x
  · rw [r.len]; exact size1000 (hl a)
  · exact (k.stp s).newO (a := a) (st.stp s t') hΦ hp (hR a vs G' r)
/-- another shape of the datum -/
theorem ve_map {te : TE} {m : M α} {R : α → SL} {S : β → SL} (f : α → β) (h : VE C te ps m R) (hR : ∀ a, R a = S (f a)) : VE C te ps (M.bind m fun a => M.pure (f a)) S := by
  intro σ G W H n Q Φ Ψ e st hm k x
  exact h σ G W H n Q (fun a n' => Φ (f a) n') Ψ e st hm (fun a n' v G' W' H' hΦ s t r fr => k (f a) n' v G' W' H' hΦ s t (by rw [← hR]; exact r) (by rw [← hR]; exact fr)) x
/-- the same datum, known by less -/
theorem ve_weak {te : TE} {m : M α} {R S : α → VP} (h : VE C te ps m (Fz R)) (hR : ∀ a v G, (R a).P v G → (S a).P v G) : VE C te ps m (Fz S) := by
  intro σ G W H n Q Φ Ψ e st hm k x
  exact h σ G W H n Q Φ Ψ e st hm (fun a n' v G' W' H' hΦ s t r fr => k a n' v G' W' H' hΦ s t (hR a v G' r) trivial) x
theorem ve_weakM {te : TE} {m : M α} {R : α → VP} {S : β → VP} (f : α → β) (h : VE C te ps m (Fz R)) (hR : ∀ a v G, (R a).P v G → (S (f a)).P v G) : VE C te ps (M.bind m fun a => M.pure (f a)) (Fz S) := by
  intro σ G W H n Q Φ Ψ e st hm k x
  exact h σ G W H n Q (fun a n' => Φ (f a) n') Ψ e st hm (fun a n' v G' W' H' hΦ s t r fr => k (f a) n' v G' W' H' hΦ s t (hR a v G' r) trivial) x
/-! ### slices -/
def cutL {α : Type} (xs : List α) (lo hi : Option Int) : List α := (xs.drop (HT.sIx xs.length 0 lo)).take (HT.sIx xs.length xs.length hi - HT.sIx xs.length 0 lo)
theorem reps.cut {R : α → VP} {xs : List α} {vs : List V} {G : Hp} (h : reps R xs vs G) (lo hi : Option Int) : reps R (cutL xs lo hi) (cutV vs lo hi) G := by
  unfold cutL cutV
  rw [h.len]
  exact (h.drop _).take _
def VO (C : Cfg) (to : TO) (ps : List SL) (m : M (Option Int)) : Prop :=
  ∀ σ G W H n (Q : Option Int → Hp → Prop) (Φ : Option Int → Nat → Prop) Ψ, Ee C.B ps σ G W → Stt C n G W H → m Φ Ψ n →
    (∀ b n G' W' H', Φ b n → Stp G W G' W' → C.Θ.T n W' H' → Q b H') → Xt C σ G W Ψ → to σ H Q
theorem vo_none : VO C tNoPart ps (M.pure none) := by
  intro σ G W H n Q Φ Ψ e st hm k x
  exact k none n G W H hm (Stp.refl st.gw) st.t
theorem vo_some {te : TE} {m : M Int} (h : VE C te ps m (Fz rInt)) : VO C (tPart te) ps (M.bind m fun i => M.pure (some i)) := by
  intro σ G W H n Q Φ Ψ e st hm k x
  exact h σ G W H n _ (fun a n' => Φ (some a) n') Ψ e st hm (fun a n' v G' W' H' hΦ s t r _ => ⟨a, r, k (some a) n' G' W' H' hΦ s t⟩) x
def V3 (C : Cfg) {α γ : Type} (r : V → Option Int → Option Int → Hp → VK → Prop) (Ra : α → VP) (m : α → Option Int → Option Int → M γ) (R : γ → SL) : Prop :=
  ∀ a v lo hi σ G W H n (Q : VK) Φ Ψ, (Ra a).P v G → Stt C n G W H → m a lo hi Φ Ψ n → Kt C R G W Q Φ → Xt C σ G W Ψ → r v lo hi H Q
theorem ve_sl {r : V → Option Int → Option Int → Hp → VK → Prop} {te : TE} {tl th : TO} {Ra : α → VP} {ma : M α} {ml mh : M (Option Int)} {mr : α → Option Int → Option Int → M γ} {R : γ → SL} (ha : VE C te ps ma (Fz Ra)) (hl : VO C tl ps ml) (hh : VO C th ps mh) (hr : V3 C r Ra mr R) :
    VE C (tSl r te tl th) ps (M.bind ma fun a => M.bind ml fun lo => M.bind mh fun hi => mr a lo hi) R := by
  intro σ G W H n Q Φ Ψ e st hm k x
  refine ha σ G W H n _ (fun a n' => M.bind ml (fun lo => M.bind mh fun hi => mr a lo hi) Φ Ψ n') Ψ e st hm ?_ x
  intro a n1 v G1 W1 H1 h1 s1 t1 r1 _
  have st1 := st.stp s1 t1
  refine hl σ G1 W1 H1 n1 _ (fun lo n' => M.bind mh (fun hi => mr a lo hi) Φ Ψ n') Ψ (e.stp s1) st1 h1 ?_ (x.stp s1)
  intro lo n2 G2 W2 H2 h2 s2 t2
  have st2 := st1.stp s2 t2
  have s12 := s1.trans s2
  refine hh σ G2 W2 H2 n2 _ (fun hi n' => mr a lo hi Φ Ψ n') Ψ (e.stp s12) st2 h2 ?_ (x.stp s12)
  intro hi n3 G3 W3 H3 h3 s3 t3
  have s13 := s12.trans s3
  exact hr a v lo hi σ G3 W3 H3 n3 Q Φ Ψ ((Ra a).up (s2.trans s3).g r1) (st2.stp s3 t3) h3 (k.stp s13) (x.stp s13)
theorem v3_slL {R : α → VP} : V3 C (rSlL C.K) (rLst R) (fun xs lo hi => M.pure (cutL xs lo hi)) (Ow (cLst R)) := by
  rintro xs v lo hi σ G W H n Q Φ Ψ ⟨p, vs, rfl, h1, h2⟩ st hm k x
  exact ⟨p, vs, rfl, SqL.of (st.gh _ _ h1), fun r hr => k.newO (a := cutL xs lo hi) st hm hr ⟨_, rfl, h2.cut lo hi⟩⟩
theorem cutL_all {xs : List α} {lo hi : Option Int} (h : HT.sIx xs.length 0 lo = 0 ∧ HT.sIx xs.length xs.length hi = xs.length) : cutL xs lo hi = xs := by
  unfold cutL
  rw [h.1, h.2, List.drop_zero, Nat.sub_zero, List.take_length]
theorem v3_slT {R : α → VP} : V3 C (rSlA C.K) (rTup R) (fun xs lo hi => M.pure (cutL xs lo hi)) (Fz (rTup R)) := by
  rintro xs v lo hi σ G W H n Q Φ Ψ ⟨p, vs, rfl, h1, h2⟩ st hm k x
  refine ⟨p, vs, rfl, SqT.of (st.gh _ _ h1), fun e => ?_, fun _ r hr => k.newF (a := cutL xs lo hi) st hm hr ⟨r, _, rfl, upd_same, (h2.cut lo hi).up (same_upd (st.gfree hr))⟩⟩
  rw [h2.len] at e
  exact k.hereF (a := cutL xs lo hi) st hm (by rw [cutL_all e]; exact ⟨p, vs, rfl, h1, h2⟩)
theorem v3_slS : V3 C rSlS rStr (fun z lo hi => M.when (z.length ≤ sizeLine) (cutS z lo hi)) (Fz rStr) := by
  rintro z v lo hi σ G W H n Q Φ Ψ hv st hm k x
  exact ⟨z, hv, hm.1, k.hereF st hm.2 rfl⟩
theorem ve_revL {R : α → VP} {te : TE} {m : M (List α)} (h : VE C te ps m (Fz (rLst R))) : VE C (tRevL C.K te) ps (M.bind m fun xs => M.pure xs.reverse) (Ow (cLst R)) := by
  intro σ G W H n Q Φ Ψ e st hm k x
  refine h σ G W H n _ (fun a n' => Φ a.reverse n') Ψ e st hm ?_ x
  rintro xs n1 v G1 W1 H1 h1 s1 t1 ⟨p, vs, rfl, h2, h3⟩ _
  have st1 := st.stp s1 t1
  exact ⟨p, vs, rfl, SqL.of (st1.gh _ _ h2), fun r hr => (k.stp s1).newO (a := xs.reverse) st1 h1 hr ⟨_, rfl, h3.rev⟩⟩
/-! ### built-ins -/
theorem vn_lenL {R : α → VP} : Vn C (fun xs H Q => ∃ p ys, xs = [.ref p] ∧ (SqL C.K H p ys ∨ SqT C.K H p ys) ∧ Q (.int ys.length) H) (fun q : List α × Unit => [rLst R q.1]) (fun q => M.pure (q.1.length : Int)) (Fz rInt) := by
  rintro q vs σ G W H n Q Φ Ψ (_ | ⟨⟨p, us, rfl, h1, h2⟩, _ | _⟩) st hm k x
  exact ⟨p, us, rfl, .inl (SqL.of (st.gh _ _ h1)), k.hereF (a := (q.1.length : Int)) st hm (by rw [h2.len]; rfl)⟩
theorem vn_lenT {R : α → VP} : Vn C (fun xs H Q => ∃ p ys, xs = [.ref p] ∧ (SqL C.K H p ys ∨ SqT C.K H p ys) ∧ Q (.int ys.length) H) (fun q : List α × Unit => [rTup R q.1]) (fun q => M.pure (q.1.length : Int)) (Fz rInt) := by
  rintro q vs σ G W H n Q Φ Ψ (_ | ⟨⟨p, us, rfl, h1, h2⟩, _ | _⟩) st hm k x
  exact ⟨p, us, rfl, .inr (SqT.of (st.gh _ _ h1)), k.hereF (a := (q.1.length : Int)) st hm (by rw [h2.len]; rfl)⟩
theorem vn_lenS : Vn C (fun xs H Q => ∃ z, xs = [.str z] ∧ z.length ≤ sizeLine ∧ Q (.int z.length) H) (fun q : Str × Unit => [rStr q.1]) (fun q => M.when (q.1.length ≤ sizeLine) (q.1.length : Int)) (Fz rInt) := by
  rintro q vs σ G W H n Q Φ Ψ (_ | ⟨hv, _ | _⟩) st hm k x
  cases hv
  exact ⟨q.1, rfl, hm.1, k.hereF (a := (q.1.length : Int)) st hm.2 rfl⟩
theorem vn_abs : Vn C (fun xs H Q => ∃ i, xs = [.int i] ∧ Q (.int (if i < 0 then -i else i)) H) (fun q : Int × Unit => [rInt q.1]) (fun q => M.pure (if q.1 < 0 then -q.1 else q.1)) (Fz rInt) := by
  rintro q vs σ G W H n Q Φ Ψ (_ | ⟨hv, _ | _⟩) st hm k x
  cases hv
  exact ⟨q.1, rfl, k.hereF (a := if q.1 < 0 then -q.1 else q.1) st hm rfl⟩
theorem vn_intI : Vn C (fun xs H Q => (∃ i, xs = [.int i] ∧ Q (.int i) H) ∨ ∃ k, xs = [.bl k] ∧ Q (.int (if k then 1 else 0)) H) (fun q : Int × Unit => [rInt q.1]) (fun q => M.pure q.1) (Fz rInt) := by
  rintro q vs σ G W H n Q Φ Ψ (_ | ⟨hv, _ | _⟩) st hm k x
  cases hv
  exact .inl ⟨q.1, rfl, k.hereF (a := q.1) st hm rfl⟩
theorem vn_intB : Vn C (fun xs H Q => (∃ i, xs = [.int i] ∧ Q (.int i) H) ∨ ∃ k, xs = [.bl k] ∧ Q (.int (if k then 1 else 0)) H) (fun q : Bool × Unit => [rBl q.1]) (fun q => M.pure (if q.1 then (1 : Int) else 0)) (Fz rInt) := by
  rintro q vs σ G W H n Q Φ Ψ (_ | ⟨hv, _ | _⟩) st hm k x
  cases hv
  exact .inr ⟨q.1, rfl, k.hereF (a := if q.1 then (1 : Int) else 0) st hm rfl⟩
def M.strI (i : Int) : M Str := M.when (i.natAbs.log2 < 1920) (Str.ofString (toString i))
theorem vn_strI : Vn C (fun xs H Q => ∃ i, xs = [.int i] ∧ i.natAbs.log2 < 1920 ∧ Q (.str (toString i)) H) (fun q : Int × Unit => [rInt q.1]) (fun q => M.strI q.1) (Fz rStr) := by
  rintro q vs σ G W H n Q Φ Ψ (_ | ⟨hv, _ | _⟩) st hm k x
  cases hv
  exact ⟨q.1, rfl, hm.1, k.hereF (a := Str.ofString (toString q.1)) st hm.2 rfl⟩
theorem vn_listL {R : α → VP} : Vn C (fun xs H Q => ∃ p ys, xs = [.ref p] ∧ (SqL C.K H p ys ∨ SqT C.K H p ys) ∧ ∀ l, H l = none → Q (.ref l) (upd H l (.lst ys))) (fun q : List α × Unit => [rLst R q.1]) (fun q => M.pure q.1) (Ow (cLst R)) := by
  rintro q vs σ G W H n Q Φ Ψ (_ | ⟨⟨p, us, rfl, h1, h2⟩, _ | _⟩) st hm k x
  exact ⟨p, us, rfl, .inl (SqL.of (st.gh _ _ h1)), fun r hr => k.newO (a := q.1) st hm hr ⟨_, rfl, h2⟩⟩
theorem vn_listT {R : α → VP} : Vn C (fun xs H Q => ∃ p ys, xs = [.ref p] ∧ (SqL C.K H p ys ∨ SqT C.K H p ys) ∧ ∀ l, H l = none → Q (.ref l) (upd H l (.lst ys))) (fun q : List α × Unit => [rTup R q.1]) (fun q => M.pure q.1) (Ow (cLst R)) := by
  rintro q vs σ G W H n Q Φ Ψ (_ | ⟨⟨p, us, rfl, h1, h2⟩, _ | _⟩) st hm k x
  exact ⟨p, us, rfl, .inr (SqT.of (st.gh _ _ h1)), fun r hr => k.newO (a := q.1) st hm hr ⟨_, rfl, h2⟩⟩
theorem vn_tupL {R : α → VP} : Vn C (fun xs H Q => ∃ p ys, xs = [.ref p] ∧ ((SqL C.K H p ys ∧ ∀ l, H l = none → Q (.ref l) (upd H l (.tup ys))) ∨ (SqT C.K H p ys ∧ Q (.ref p) H))) (fun q : List α × Unit => [rLst R q.1]) (fun q => M.pure q.1) (Fz (rTup R)) := by
  rintro q vs σ G W H n Q Φ Ψ (_ | ⟨⟨p, us, rfl, h1, h2⟩, _ | _⟩) st hm k x
  exact ⟨p, us, rfl, .inl ⟨SqL.of (st.gh _ _ h1), fun r hr => k.newF (a := q.1) st hm hr ⟨r, _, rfl, upd_same, h2.up (same_upd (st.gfree hr))⟩⟩⟩
theorem vn_tupT {R : α → VP} : Vn C (fun xs H Q => ∃ p ys, xs = [.ref p] ∧ ((SqL C.K H p ys ∧ ∀ l, H l = none → Q (.ref l) (upd H l (.tup ys))) ∨ (SqT C.K H p ys ∧ Q (.ref p) H))) (fun q : List α × Unit => [rTup R q.1]) (fun q => M.pure q.1) (Fz (rTup R)) := by
  rintro q vs σ G W H n Q Φ Ψ (_ | ⟨⟨p, us, rfl, h1, h2⟩, _ | _⟩) st hm k x
  exact ⟨p, us, rfl, .inr ⟨SqT.of (st.gh _ _ h1), k.hereF (a := q.1) st hm ⟨p, us, rfl, h1, h2⟩⟩⟩
theorem reps.map {G : Hp} {g : α → V} {R : α → VP} (hR : ∀ a v G, (R a).P v G ↔ v = g a) : ∀ {xs : List α} {vs : List V}, reps R xs vs G → vs = xs.map g
  | [], [], _ => rfl
  | x :: xs, v :: vs, h => by rw [List.map_cons, ← (hR x v G).mp h.1, ← reps.map hR h.2]
theorem reps.of_map {G : Hp} {g : α → V} {R : α → VP} (hR : ∀ a v G, (R a).P v G ↔ v = g a) : ∀ (xs : List α), reps R xs (xs.map g) G
  | [] => trivial
  | x :: xs => ⟨(hR x _ G).mpr rfl, reps.of_map hR xs⟩
theorem reps.ints {G : Hp} {xs : List Int} {vs : List V} (h : reps rInt xs vs G) : vs = xs.map V.int := h.map fun _ _ _ => Iff.rfl
theorem reps.strs {G : Hp} {xs : List Str} {vs : List V} (h : reps rStr xs vs G) : vs = xs.map V.str := h.map fun _ _ _ => Iff.rfl
theorem reps.bls {G : Hp} {xs : List Bool} {vs : List V} (h : reps rBl xs vs G) : vs = xs.map V.bl := h.map fun _ _ _ => Iff.rfl
theorem reps.of_ints {G : Hp} (xs : List Int) : reps rInt xs (xs.map V.int) G := reps.of_map (fun _ _ _ => Iff.rfl) xs
theorem reps.of_strs {G : Hp} (xs : List Str) : reps rStr xs (xs.map V.str) G := reps.of_map (fun _ _ _ => Iff.rfl) xs
theorem reps.of_bls {G : Hp} (xs : List Bool) : reps rBl xs (xs.map V.bl) G := reps.of_map (fun _ _ _ => Iff.rfl) xs
theorem vn_all : Vn C (rAll C.K) (fun q : List Bool × Unit => [rLst rBl q.1]) (fun q => M.pure (q.1.all id)) (Fz rBl) := by
  rintro q vs σ G W H n Q Φ Ψ (_ | ⟨⟨p, us, rfl, h1, h2⟩, _ | _⟩) st hm k x
  rw [h2.bls] at h1
  exact ⟨p, q.1, rfl, SqL.of (st.gh _ _ h1), k.hereF (a := q.1.all id) st hm rfl⟩
theorem vn_any : Vn C (rAny C.K) (fun q : List Bool × Unit => [rLst rBl q.1]) (fun q => M.pure (q.1.any id)) (Fz rBl) := by
  rintro q vs σ G W H n Q Φ Ψ (_ | ⟨⟨p, us, rfl, h1, h2⟩, _ | _⟩) st hm k x
  rw [h2.bls] at h1
  exact ⟨p, q.1, rfl, SqL.of (st.gh _ _ h1), k.hereF (a := q.1.any id) st hm rfl⟩
def M.max (xs : List Int) : M Int := fun Φ _ n => 0 < xs.length ∧ ∀ m, m ∈ xs → (∀ y, y ∈ xs → y ≤ m) → Φ m n
def M.min (xs : List Int) : M Int := fun Φ _ n => 0 < xs.length ∧ ∀ m, m ∈ xs → (∀ y, y ∈ xs → m ≤ y) → Φ m n
theorem vn_max : Vn C (rMax C.K) (fun q : List Int × Unit => [rLst rInt q.1]) (fun q => M.max q.1) (Fz rInt) := by
  rintro q vs σ G W H n Q Φ Ψ (_ | ⟨⟨p, us, rfl, h1, h2⟩, _ | _⟩) st hm k x
  rw [h2.ints] at h1
  exact ⟨p, q.1, rfl, SqL.of (st.gh _ _ h1), hm.1, fun m h3 h4 => k.hereF (a := m) st (hm.2 m h3 h4) rfl⟩
theorem vn_min : Vn C (rMin C.K) (fun q : List Int × Unit => [rLst rInt q.1]) (fun q => M.min q.1) (Fz rInt) := by
  rintro q vs σ G W H n Q Φ Ψ (_ | ⟨⟨p, us, rfl, h1, h2⟩, _ | _⟩) st hm k x
  rw [h2.ints] at h1
  exact ⟨p, q.1, rfl, SqL.of (st.gh _ _ h1), hm.1, fun m h3 h4 => k.hereF (a := m) st (hm.2 m h3 h4) rfl⟩
def M.sortI (xs : List Int) : M (List Int) := fun Φ _ n => xs.length < 64 ∧ ∀ ns : List Int, ns.Perm xs → ns.Pairwise (· ≤ ·) → Φ ns n
def M.sortS (xs : List Str) : M (List Str) := fun Φ _ n => xs.length < 64 ∧ ∀ ns : List Str, ns.Perm xs → sortedS ns = true → Φ ns n
theorem vn_sortedI : Vn C (rSorted C.K) (fun q : List Int × Unit => [rLst rInt q.1]) (fun q => M.sortI q.1) (Ow (cLst rInt)) := by
  rintro q vs σ G W H n Q Φ Ψ (_ | ⟨⟨p, us, rfl, h1, h2⟩, _ | _⟩) st hm k x
  rw [h2.ints] at h1
  exact ⟨p, q.1, rfl, SqL.of (st.gh _ _ h1), hm.1, fun ns r hp hs hr => k.newO (a := ns) st (hm.2 ns hp hs) hr ⟨_, rfl, reps.of_ints ns⟩⟩
theorem vn_sortedS : Vn C (rSortedS C.K) (fun q : List Str × Unit => [rLst rStr q.1]) (fun q => M.sortS q.1) (Ow (cLst rStr)) := by
  rintro q vs σ G W H n Q Φ Ψ (_ | ⟨⟨p, us, rfl, h1, h2⟩, _ | _⟩) st hm k x
  rw [h2.strs] at h1
  exact ⟨p, q.1, rfl, SqL.of (st.gh _ _ h1), hm.1, fun ns r hp hs hr => k.newO (a := ns) st (hm.2 ns hp hs) hr ⟨_, rfl, reps.of_strs ns⟩⟩
/-! ### deep data: == -/
/-- a kind of values that are data -/
class IsD {α : Type} (R : α → VP) where
  d : α → PyData
  dq : ∀ a v G, (R a).P v G → Dq G v (d a)
instance : IsD rInt := ⟨.int, fun a v G h => by have h : v = .int a := h; subst h; exact .int a⟩
instance : IsD rBl := ⟨.bool, fun a v G h => by have h : v = .bl a := h; subst h; exact .bl a⟩
instance : IsD rStr := ⟨.str, fun a v G h => by have h : v = .str a := h; subst h; exact .str a⟩
instance : IsD rNon := ⟨fun _ => .none, fun a v G h => by have h : v = .non := h; subst h; exact .non⟩
instance : IsD rDat := ⟨id, fun _ _ _ h => h⟩
theorem reps.dq {R : α → VP} [I : IsD R] {G : Hp} : ∀ {xs : List α} {vs : List V}, reps R xs vs G → DqAll G vs (xs.map (IsD.d R))
  | [], [], _ => .nil
  | _ :: _, _ :: _, h => .cons (I.dq _ _ _ h.1) (reps.dq h.2)
instance {R : α → VP} [IsD R] : IsD (rLst R) := ⟨fun xs => .list (xs.map (IsD.d R)), fun xs v G ⟨p, vs, e, h1, h2⟩ => by subst e; exact .lst h1 h2.dq⟩
instance {R : α → VP} [IsD R] : IsD (rTup R) := ⟨fun xs => .tuple (xs.map (IsD.d R)), fun xs v G ⟨p, vs, e, h1, h2⟩ => by subst e; exact .tup h1 h2.dq⟩
instance {R : α → VP} {S : β → VP} [I : IsD R] [J : IsD S] : IsD (rPr R S) := ⟨fun q => .tuple [IsD.d R q.1, IsD.d S q.2], fun q v G ⟨p, a, b, e, h1, h2, h3⟩ => by
  subst e; exact .tup h1 (.cons (I.dq _ _ _ h2) (.cons (J.dq _ _ _ h3) .nil))⟩
instance {R : α → VP} [I : IsD R] : IsD (rOpt R) := ⟨fun q => match q with | none => .none | some a => IsD.d R a, fun q v G h => by
  cases q with
  | none => have h : v = .non := h; subst h; exact .non
  | some a => exact I.dq a v G h⟩
def M.eqD (d e : PyData) : M Bool := fun Q _ n => (SeqAt.shaped d = true ∧ SeqAt.shaped e = true) ∧ Q (PyData.eqv d e) n
def M.neD (d e : PyData) : M Bool := fun Q _ n => (SeqAt.shaped d = true ∧ SeqAt.shaped e = true) ∧ Q (!PyData.eqv d e) n
theorem dq_sh {K : PySem.W.Frag} {G : Hp} {v : V} {d : PyData} (h : Dq G v d) (s : SeqAt.shaped d = true) : Dp K G v d := dq_dp h (SeqAt.canLay_of_shaped s)
theorem v2_eqD {R : α → VP} {S : β → VP} [I : IsD R] [J : IsD S] : V2 C (rEqD C.K) R S (fun a b => M.eqD (IsD.d R a) (IsD.d S b)) (Fz rBl) := by
  rintro a b v u σ G W H n Q Φ Ψ hv hu st ⟨⟨h1, h2⟩, hm⟩ k x
  exact ⟨_, _, dp_up st.gh (dq_sh (I.dq a v G hv) h1), dp_up st.gh (dq_sh (J.dq b u G hu) h2), h1, h2, k.hereF (a := PyData.eqv (IsD.d R a) (IsD.d S b)) st hm rfl⟩
theorem v2_neD {R : α → VP} {S : β → VP} [I : IsD R] [J : IsD S] : V2 C (rNeD C.K) R S (fun a b => M.neD (IsD.d R a) (IsD.d S b)) (Fz rBl) := by
  rintro a b v u σ G W H n Q Φ Ψ hv hu st ⟨⟨h1, h2⟩, hm⟩ k x
  exact ⟨_, _, dp_up st.gh (dq_sh (I.dq a v G hv) h1), dp_up st.gh (dq_sh (J.dq b u G hu) h2), h1, h2, k.hereF (a := !PyData.eqv (IsD.d R a) (IsD.d S b)) st hm rfl⟩
def M.inD (d : PyData) (ds : List PyData) : M Bool := fun Q _ n => (SeqAt.shaped d = true ∧ SeqAt.shaped (.list ds) = true) ∧ Q (ds.any fun z => PyData.eqv z d) n
theorem v2_inD {R : α → VP} {S : β → VP} [I : IsD R] [J : IsD S] : V2 C (rInD C.K) R (rLst S) (fun a b => M.inD (IsD.d R a) (b.map (IsD.d S))) (Fz rBl) := by
  rintro a b v u σ G W H n Q Φ Ψ hv ⟨p, vs, rfl, g1, g2⟩ st ⟨⟨h1, h2⟩, hm⟩ k x
  exact ⟨_, b.map (IsD.d S), dp_up st.gh (dq_sh (I.dq a v G hv) h1), dp_up st.gh (dq_sh (.lst g1 g2.dq) h2), h1, h2, k.hereF st hm rfl⟩
/-! ### in, of flat things -/
theorem v2_inL : V2 C (rIn C.K false) rStr (rLst rStr) (fun a b => M.pure (decide (a ∈ b))) (Fz rBl) := by
  rintro a b v u σ G W H n Q Φ Ψ hv ⟨p, vs, rfl, h1, h2⟩ st hm k x
  cases hv
  rw [h2.strs] at h1
  exact ⟨p, _, rfl, .inl (SqL.of (st.gh _ _ h1)), rfl, strs_flat _, k.hereF (a := decide (a ∈ b)) st hm (congrArg V.bl (inV_strs a b))⟩
theorem v2_niL : V2 C (rIn C.K true) rStr (rLst rStr) (fun a b => M.pure (!decide (a ∈ b))) (Fz rBl) := by
  rintro a b v u σ G W H n Q Φ Ψ hv ⟨p, vs, rfl, h1, h2⟩ st hm k x
  cases hv
  rw [h2.strs] at h1
  exact ⟨p, _, rfl, .inl (SqL.of (st.gh _ _ h1)), rfl, strs_flat _, k.hereF (a := !decide (a ∈ b)) st hm (congrArg (fun c => V.bl (!c)) (inV_strs a b))⟩
theorem v2_inT : V2 C (rIn C.K false) rStr (rTup rStr) (fun a b => M.pure (decide (a ∈ b))) (Fz rBl) := by
  rintro a b v u σ G W H n Q Φ Ψ hv ⟨p, vs, rfl, h1, h2⟩ st hm k x
  cases hv
  rw [h2.strs] at h1
  exact ⟨p, _, rfl, .inr (SqT.of (st.gh _ _ h1)), rfl, strs_flat _, k.hereF (a := decide (a ∈ b)) st hm (congrArg V.bl (inV_strs a b))⟩
theorem v2_niT : V2 C (rIn C.K true) rStr (rTup rStr) (fun a b => M.pure (!decide (a ∈ b))) (Fz rBl) := by
  rintro a b v u σ G W H n Q Φ Ψ hv ⟨p, vs, rfl, h1, h2⟩ st hm k x
  cases hv
  rw [h2.strs] at h1
  exact ⟨p, _, rfl, .inr (SqT.of (st.gh _ _ h1)), rfl, strs_flat _, k.hereF (a := !decide (a ∈ b)) st hm (congrArg (fun c => V.bl (!c)) (inV_strs a b))⟩
theorem ints_flat (b : List Int) : (b.map V.int).all flatV = true := by
  rw [List.all_map]
  exact List.all_eq_true.mpr fun _ _ => rfl
theorem inV_ints (a : Int) (b : List Int) : inV (.int a) (b.map V.int) = decide (a ∈ b) := by
  unfold inV
  rw [List.any_map]
  induction b with
  | nil => simp
  | cons z r ih =>
    rw [List.any_cons, ih]
    by_cases h : z = a
    · subst h; simp [eqV]
    · have e1 : eqV (V.int z) (V.int a) = false := by simp [eqV, h]
      have e2 : decide (a ∈ z :: r) = decide (a ∈ r) := dec_congr (by rw [List.mem_cons]; exact ⟨fun q => q.resolve_left fun q => h q.symm, Or.inr⟩)
      show (eqV (V.int z) (V.int a) || decide (a ∈ r)) = _
      rw [e1, e2, Bool.false_or]
theorem v2_inLI : V2 C (rIn C.K false) rInt (rLst rInt) (fun a b => M.pure (decide (a ∈ b))) (Fz rBl) := by
  rintro a b v u σ G W H n Q Φ Ψ hv ⟨p, vs, rfl, h1, h2⟩ st hm k x
  cases hv
  rw [h2.ints] at h1
  exact ⟨p, _, rfl, .inl (SqL.of (st.gh _ _ h1)), rfl, ints_flat _, k.hereF (a := decide (a ∈ b)) st hm (congrArg V.bl (inV_ints a b))⟩
end
end VL

namespace VL
open PySem PySem.Spec PyProof.Rows L2
/-! ### slots, stored to -/
theorem getElem_set {α : Type} {l : List α} {i k : Nat} {x y : α} (h : (l.set i x)[k]? = some y) : (k = i ∧ y = x ∧ i < l.length) ∨ (k ≠ i ∧ l[k]? = some y) := by
  by_cases e : i = k
  · subst e
    by_cases hl : i < l.length
    · rw [List.getElem?_set_self hl] at h
      exact .inl ⟨rfl, (Option.some.inj h).symm, hl⟩
    · rw [List.getElem?_eq_none (by rw [List.length_set]; omega)] at h
      cases h
  · rw [List.getElem?_set_ne e] at h
    exact .inr ⟨fun z => e z.symm, h⟩
section
variable {B : Hp} {ps : List SL} {σ : L2.St} {G W : Hp} {i : Nat} {s : SL} {v : V}
theorem Ee.set (e : Ee B ps σ G W) (r : Res B s v G W) (f : ∀ c, s = .ow c → ∀ k d a, k ≠ i → ps[k]? = some (.ow d) → σ[k]? = some (some (.ref a)) → v ≠ .ref a) : Ee B (ps.set i s) (σ.set i (some v)) G W := by
  refine ⟨by rw [List.length_set, List.length_set]; exact e.len, fun {k t} h n => ?_, fun {k l c d a} hkl h1 h2 h3 h4 => ?_⟩
  · rcases getElem_set h with ⟨rfl, rfl, hl⟩ | ⟨hne, h⟩
    · exact ⟨v, by rw [List.getElem?_set_self (by rw [e.len]; exact hl)], r⟩
    · obtain ⟨u, hu, hr⟩ := e.at_ h n
      exact ⟨u, by rw [List.getElem?_set_ne (fun z => hne z.symm)]; exact hu, hr⟩
  · rcases getElem_set h1 with ⟨rfl, e1, hl⟩ | ⟨hn1, h1⟩
    · rcases getElem_set h2 with ⟨rfl, _, _⟩ | ⟨hn2, h2⟩
      · exact hkl rfl
      · rw [List.getElem?_set_self (by rw [e.len]; exact hl)] at h3
        rw [List.getElem?_set_ne (fun z => hn2 z.symm)] at h4
        exact f c e1.symm l d a hn2 h2 h4 (by injection h3 with h3; injection h3)
    · rw [List.getElem?_set_ne (fun z => hn1 z.symm)] at h3
      rcases getElem_set h2 with ⟨rfl, e2, hl⟩ | ⟨hn2, h2⟩
      · rw [List.getElem?_set_self (by rw [e.len]; exact hl)] at h4
        exact f d e2.symm k c a hkl ((getElem_set h1).resolve_left fun q => hkl q.1).2 h3 (by injection h4 with h4; injection h4)
      · rw [List.getElem?_set_ne (fun z => hn2 z.symm)] at h4
        exact e.sep hkl h1 h2 h3 h4
theorem Ee.setF {p : VP} (e : Ee B ps σ G W) (r : p.P v G) : Ee B (ps.set i (.fr p)) (σ.set i (some v)) G W := e.set (s := .fr p) r fun _ h => nomatch h
theorem Ee.putOwn {c c' : CP} {p : Addr} {o : HO} (e : Ee B ps σ G W) (hi : ps[i]? = some (.ow c)) (hσ : σ[i]? = some (some (.ref p))) (hc : c'.P o G) : Ee B (ps.set i (.ow c')) σ G (upd W p o) := by
  obtain ⟨u, hu, a, q, e1, hw, hg, hb, _⟩ := e.at_ hi (by simp)
  rw [hσ] at hu
  cases hu
  cases e1
  refine ⟨by rw [List.length_set]; exact e.len, fun {k t} h n => ?_, fun {k l d d' a} hkl h1 h2 h3 h4 => ?_⟩
  · rcases getElem_set h with ⟨rfl, rfl, hl⟩ | ⟨hne, h⟩
    · exact ⟨_, hσ, p, o, rfl, upd_same, hg, hb, hc⟩
    · obtain ⟨v, hv, hr⟩ := e.at_ h n
      refine ⟨v, hv, ?_⟩
      cases t with
      | un => trivial
      | fr _ => exact hr
      | bo _ => exact hr
      | ow d =>
        obtain ⟨a, q, e1, hw', hg', hb', hc'⟩ := hr
        refine ⟨a, q, e1, ?_, hg', hb', hc'⟩
        rw [upd_ne]
        · exact hw'
        · rintro rfl
          subst e1
          exact e.sep hne h hi hv hσ
  · have f : ∀ {m : Nat} {d : CP}, (ps.set i (.ow c'))[m]? = some (.ow d) → ∃ d', ps[m]? = some (.ow d') := fun {m d} h => by
      rcases getElem_set h with ⟨rfl, _, _⟩ | ⟨_, h⟩
      · exact ⟨_, hi⟩
      · exact ⟨_, h⟩
    obtain ⟨_, h1⟩ := f h1
    obtain ⟨_, h2⟩ := f h2
    exact e.sep hkl h1 h2 h3 h4
/-- less is known -/
inductive Le : List SL → List SL → Prop
  | nil : Le [] []
  | un {p l s} : Le p l → Le (.un :: p) (s :: l)
  | same {p l s} : Le p l → Le (s :: p) (s :: l)
theorem Le.get {p l : List SL} (h : Le p l) : p.length = l.length ∧ ∀ {k : Nat} {s : SL}, p[k]? = some s → s ≠ .un → l[k]? = some s := by
  induction h with
  | nil => exact ⟨rfl, fun e _ => by simp at e⟩
  | @un p l t _ ih =>
    refine ⟨by rw [List.length_cons, List.length_cons, ih.1], fun {k s} e n => ?_⟩
    cases k with
    | zero => simp at e; exact absurd e.symm n
    | succ k => simp at e ⊢; exact ih.2 e n
  | @same p l t _ ih =>
    refine ⟨by rw [List.length_cons, List.length_cons, ih.1], fun {k s} e n => ?_⟩
    cases k with
    | zero => simpa using e
    | succ k => simp at e ⊢; exact ih.2 e n
theorem Le.refl : ∀ l : List SL, Le l l
  | [] => .nil
  | _ :: l => .same (Le.refl l)
theorem Ee.le {ps' : List SL} (e : Ee B ps σ G W) (h : Le ps' ps) : Ee B ps' σ G W :=
  ⟨by rw [h.get.1]; exact e.len, fun a b => e.at_ (h.get.2 a b) b, fun n a b => e.sep n (h.get.2 a (by simp)) (h.get.2 b (by simp))⟩
theorem Ee.wipe (e : Ee B ps σ G W) : ∀ {vs : List Nat}, (∀ k ∈ vs, ps[k]? = some .un) → Ee B ps (wipe σ vs) G W
  | [], _ => e
  | k :: vs, h => by
    have ih := e.wipe (vs := vs) fun m hm => h m (List.mem_cons_of_mem _ hm)
    have hk := h k List.mem_cons_self
    refine ⟨by unfold L2.wipe; rw [List.length_set]; exact ih.len, fun {m t} a n => ?_, fun {m l c d x} hml a b h3 h4 => ?_⟩
    · obtain ⟨u, hu, hr⟩ := ih.at_ a n
      refine ⟨u, ?_, hr⟩
      unfold L2.wipe
      rw [List.getElem?_set_ne]
      · exact hu
      · rintro rfl; rw [hk] at a; exact n (Option.some.inj a).symm
    · have g : ∀ {m : Nat} {x : Addr}, ((L2.wipe σ vs).set k none)[m]? = some (some (.ref x)) → (L2.wipe σ vs)[m]? = some (some (.ref x)) := fun {m x} q => by
        rcases getElem_set q with ⟨_, q, _⟩ | ⟨_, q⟩
        · cases q
        · exact q
      exact ih.sep hml a b (g h3) (g h4)
end
theorem Stt.put {C : Cfg} {n : Nat} {G W H : Hp} {p : Addr} {u o : HO} (s : Stt C n G W H) (h : W p = some u) (hg : G p = none) (hb : C.B p = none) (nu : NT u := by exact ⟨(fun _ h => nomatch h), (fun _ h => nomatch h)⟩) (no : NT o := by exact ⟨(fun _ h => nomatch h), (fun _ h => nomatch h)⟩) : Stt C n G (upd W p o) (upd H p o) where
  t := C.Θ.put s.t h nu no
  gw := s.gw.unseen hg
  bw := s.bw.unseen hb
  g0 := s.g0
  gb := s.gb
theorem Stp.put {G W G' W' : Hp} {p : Addr} {o : HO} (s : Stp G W G' W') (h : W p = none) (hg : G' p = none) : Stp G W G' (upd W' p o) :=
  ⟨s.g, s.w.unseen h, s.gw.unseen hg, s.ng⟩
/-! ### tests -/
section
variable {C : Cfg} {α β γ : Type} {ps : List SL} {te ta tb : TE} {tt tu : TT} {m mb : M Bool}
theorem vt_test (h : VE C te ps m (Fz rBl)) : VT C (tTest te) ps m := by
  intro σ G W H n Q Φ Ψ e st hm k x
  exact h σ G W H n _ Φ Ψ e st hm (fun b n' v G' W' H' hΦ s t r _ => ⟨b, r, k b n' G' W' H' hΦ s t⟩) x
theorem vt_b (h : VE C te ps m (Fz rBl)) : VT C (tB te) ps m := by
  intro σ G W H n Q Φ Ψ e st hm k x
  exact h σ G W H n _ Φ Ψ e st hm (fun b n' v G' W' H' hΦ s t r _ => ⟨b, r, k b n' G' W' H' hΦ s t⟩) x
theorem vt_and (h : VT C tt ps m) (h2 : VT C tu ps mb) : VT C (tAnd tt tu) ps (M.bind m fun b => M.ite b mb (M.pure false)) := by
  intro σ G W H n Q Φ Ψ e st hm k x
  refine h σ G W H n _ (fun b n' => M.ite b mb (M.pure false) Φ Ψ n') Ψ e st hm (fun b n' G' W' H' hΦ s t => ?_) x
  cases b with
  | true => exact iteT (h2 σ G' W' H' n' Q Φ Ψ (e.stp s) (st.stp s t) hΦ (fun b n2 G2 W2 H2 q s2 t2 => k b n2 G2 W2 H2 q (s.trans s2) t2) (x.stp s))
  | false => exact iteF (k false n' G' W' H' hΦ s t)
theorem vt_or (h : VT C tt ps m) (h2 : VT C tu ps mb) : VT C (tOr tt tu) ps (M.bind m fun b => M.ite b (M.pure true) mb) := by
  intro σ G W H n Q Φ Ψ e st hm k x
  refine h σ G W H n _ (fun b n' => M.ite b (M.pure true) mb Φ Ψ n') Ψ e st hm (fun b n' G' W' H' hΦ s t => ?_) x
  cases b with
  | true => exact iteT (k true n' G' W' H' hΦ s t)
  | false => exact iteF (h2 σ G' W' H' n' Q Φ Ψ (e.stp s) (st.stp s t) hΦ (fun b n2 G2 W2 H2 q s2 t2 => k b n2 G2 W2 H2 q (s.trans s2) t2) (x.stp s))
theorem vt_not (h : VT C tt ps m) : VT C (tNot tt) ps (M.bind m fun b => M.pure (!b)) := by
  intro σ G W H n Q Φ Ψ e st hm k x
  exact h σ G W H n _ (fun b n' => Φ (!b) n') Ψ e st hm (fun b n' G' W' H' hΦ s t => k (!b) n' G' W' H' hΦ s t) x
theorem vt_tru {R : α → VP} {ma : M α} (f : α → M Bool) (h : VE C te ps ma (Fz R)) (hf : ∀ a v G n (Φ : Bool → Nat → Prop) Ψ, (R a).P v G → f a Φ Ψ n → ∃ b, TruV C.K v G b ∧ Φ b n) (hu : ∀ v G H b, Same G H → TruV C.K v G b → TruV C.K v H b) :
    VT C (fun σ H Q => te σ H fun x H' => ∃ k, TruV C.K x H' k ∧ Q k H') ps (M.bind ma f) := by
  intro σ G W H n Q Φ Ψ e st hm k x
  refine h σ G W H n _ (fun a n' => f a Φ Ψ n') Ψ e st hm (fun a n' v G' W' H' hΦ s t r _ => ?_) x
  obtain ⟨b, h1, h2⟩ := hf a v G' n' Φ Ψ r hΦ
  exact ⟨b, hu v G' H' b (st.stp s t).gh h1, k b n' G' W' H' h2 s t⟩
theorem truV_up {K : PySem.W.Frag} {v : V} {G H : Hp} {b : Bool} (e : Same G H) (h : TruV K v G b) : TruV K v H b := by
  cases v with
  | ref p =>
    rcases h with ⟨xs, h1, h2⟩ | ⟨xs, h1, h2⟩ | ⟨kvs, h1, h2⟩
    · exact .inl ⟨xs, e.seq h1, h2⟩
    · exact .inr (.inl ⟨xs, same_sqT K e h1, h2⟩)
    · exact .inr (.inr ⟨kvs, e _ _ h1, h2⟩)
  | _ => exact h
theorem isEmpty_reps {R : α → VP} {xs : List α} {vs : List V} {G : Hp} (h : reps R xs vs G) : vs.isEmpty = xs.isEmpty := by
  have := h.len
  cases xs <;> cases vs <;> simp_all
theorem vt_truL {R : α → VP} {ma : M (List α)} (h : VE C te ps ma (Fz (rLst R))) : VT C (fun σ H Q => te σ H fun x H' => ∃ k, TruV C.K x H' k ∧ Q k H') ps (M.bind ma fun xs => M.pure (!xs.isEmpty)) :=
  vt_tru _ h (fun xs v G n Φ Ψ ⟨p, vs, e, h1, h2⟩ hΦ => ⟨_, by subst e; exact .inl ⟨vs, SqL.of h1, (congrArg (!·) (isEmpty_reps h2)).symm⟩, hΦ⟩) fun _ _ _ _ => truV_up
theorem vt_truT {R : α → VP} {ma : M (List α)} (h : VE C te ps ma (Fz (rTup R))) : VT C (fun σ H Q => te σ H fun x H' => ∃ k, TruV C.K x H' k ∧ Q k H') ps (M.bind ma fun xs => M.pure (!xs.isEmpty)) :=
  vt_tru _ h (fun xs v G n Φ Ψ ⟨p, vs, e, h1, h2⟩ hΦ => ⟨_, by subst e; exact .inr (.inl ⟨vs, SqT.of h1, (congrArg (!·) (isEmpty_reps h2)).symm⟩), hΦ⟩) fun _ _ _ _ => truV_up
/-! ### and, or, not, if .. else as values; chains -/
theorem ve_and (h : VE C ta ps m (Fz rBl)) (h2 : VE C tb ps mb (Fz rBl)) : VE C (tAndV ta tb) ps (M.bind m fun b => M.ite b mb (M.pure false)) (Fz rBl) := by
  intro σ G W H n Q Φ Ψ e st hm k x
  refine h σ G W H n _ (fun b n' => M.ite b mb (M.pure false) Φ Ψ n') Ψ e st hm (fun b n' v G' W' H' hΦ s t r _ => ⟨b, r, ?_⟩) x
  have st' := st.stp s t
  cases b with
  | true => exact iteT (h2 σ G' W' H' n' Q Φ Ψ (e.stp s) st' hΦ (k.stp s) (x.stp s))
  | false => exact iteF ((k.stp s).hereF (a := false) st' hΦ rfl)
theorem ve_or (h : VE C ta ps m (Fz rBl)) (h2 : VE C tb ps mb (Fz rBl)) : VE C (tOrV ta tb) ps (M.bind m fun b => M.ite b (M.pure true) mb) (Fz rBl) := by
  intro σ G W H n Q Φ Ψ e st hm k x
  refine h σ G W H n _ (fun b n' => M.ite b (M.pure true) mb Φ Ψ n') Ψ e st hm (fun b n' v G' W' H' hΦ s t r _ => ⟨b, r, ?_⟩) x
  have st' := st.stp s t
  cases b with
  | true => exact iteT ((k.stp s).hereF (a := true) st' hΦ rfl)
  | false => exact iteF (h2 σ G' W' H' n' Q Φ Ψ (e.stp s) st' hΦ (k.stp s) (x.stp s))
theorem ve_not (h : VE C ta ps m (Fz rBl)) : VE C (tNotV ta) ps (M.bind m fun b => M.pure (!b)) (Fz rBl) := by
  intro σ G W H n Q Φ Ψ e st hm k x
  exact h σ G W H n _ (fun b n' => Φ (!b) n') Ψ e st hm (fun b n' v G' W' H' hΦ s t r _ => ⟨b, r, (k.stp s).hereF (a := !b) (st.stp s t) hΦ rfl⟩) x
theorem ve_if {ma mc : M α} {R : α → SL} (h : VT C tt ps m) (ha : VE C ta ps ma R) (hb : VE C tb ps mc R) : VE C (tIf tt ta tb) ps (M.bind m fun b => M.ite b ma mc) R := by
  intro σ G W H n Q Φ Ψ e st hm k x
  refine h σ G W H n _ (fun b n' => M.ite b ma mc Φ Ψ n') Ψ e st hm (fun b n' G' W' H' hΦ s t => ?_) x
  cases b with
  | true => exact iteT (ha σ G' W' H' n' Q Φ Ψ (e.stp s) (st.stp s t) hΦ (k.stp s) (x.stp s))
  | false => exact iteF (hb σ G' W' H' n' Q Φ Ψ (e.stp s) (st.stp s t) hΦ (k.stp s) (x.stp s))
/-- a < b < c -/
theorem ve_chain {r r' : R2} {tc : TE} {Ra : α → VP} {Rb : β → VP} {Rc : γ → VP} {ma : M α} {mb : M β} {mc : M γ} {f : α → β → M Bool} {g : β → γ → M Bool} (ha : VE C ta ps ma (Fz Ra)) (hb : VE C tb ps mb (Fz Rb)) (hc : VE C tc ps mc (Fz Rc))
    (h1 : V2 C r Ra Rb f (Fz rBl)) (h2 : V2 C r' Rb Rc g (Fz rBl)) : VE C (tChain r r' ta tb tc) ps (M.bind ma fun a => M.bind mb fun b => M.bind (f a b) fun k => M.ite k (M.bind mc fun c => g b c) (M.pure false)) (Fz rBl) := by
  intro σ G W H n Q Φ Ψ e st hm k x
  refine ha σ G W H n _ (fun a n' => M.bind mb (fun b => M.bind (f a b) fun k => M.ite k (M.bind mc fun c => g b c) (M.pure false)) Φ Ψ n') Ψ e st hm ?_ x
  intro a n1 v G1 W1 H1 hm1 s1 t1 r1 _
  have st1 := st.stp s1 t1
  refine hb σ G1 W1 H1 n1 _ (fun b n' => M.bind (f a b) (fun k => M.ite k (M.bind mc fun c => g b c) (M.pure false)) Φ Ψ n') Ψ (e.stp s1) st1 hm1 ?_ (x.stp s1)
  intro b n2 u G2 W2 H2 hm2 s2 t2 r2 _
  have st2 := st1.stp s2 t2
  have s12 := s1.trans s2
  refine h1 a b v u σ G2 W2 H2 n2 _ (fun k n' => M.ite k (M.bind mc fun c => g b c) (M.pure false) Φ Ψ n') Ψ ((Ra a).up s2.g r1) r2 st2 hm2 ?_ (x.stp s12)
  intro c n3 z G3 W3 H3 hm3 s3 t3 r3 _
  have st3 := st2.stp s3 t3
  have s13 := s12.trans s3
  refine ⟨c, r3, ?_⟩
  cases c with
  | false => exact iteF ((k.stp s13).hereF (a := false) st3 hm3 rfl)
  | true =>
    refine iteT (hc σ G3 W3 H3 n3 _ (fun c n' => g b c Φ Ψ n') Ψ (e.stp s13) st3 hm3 ?_ (x.stp s13))
    intro d n4 w G4 W4 H4 hm4 s4 t4 r4 _
    have s14 := s13.trans s4
    exact h2 b d u w σ G4 W4 H4 n4 Q Φ Ψ ((Rb b).up (s3.trans s4).g r2) r4 (st3.stp s4 t4) hm4 (k.stp s14) (x.stp s14)
/-! ### what is walked -/
structure WalkV (C : Cfg) (J : It) (xs : List β) (R : β → VP) (G0 : Hp) : Prop where
  goes : ∀ i n G W H, i < xs.length → Stt C n G W H → Same G0 G → J.go i H
  stops : ∀ n G W H, Stt C n G W H → Same G0 G → J.stop xs.length H
  yields : ∀ i n G W H v H', i < xs.length → Stt C n G W H → Same G0 G → J.yld i H v H' → ∃ x G' W', xs[i]? = some x ∧ Stp G W G' W' ∧ C.Θ.T n W' H' ∧ (R x).P v G'
def VI (C : Cfg) (wi : TI) (ps : List SL) (m : M (List β)) (R : β → VP) : Prop :=
  ∀ σ G W H n (Q : It → Hp → Prop) Φ Ψ, Ee C.B ps σ G W → Stt C n G W H → m Φ Ψ n →
    (∀ xs n' J G' W' H', Φ xs n' → Stp G W G' W' → C.Θ.T n' W' H' → WalkV C J xs R G' → Q J H') → Xt C σ G W Ψ → wi σ H Q
theorem vi_list {R : β → VP} {mx : M (List β)} (h : VE C te ps mx (Fz (rLst R))) : VI C (iList C.K te) ps mx R := by
  intro σ G W H n Q Φ Ψ e st hm k x
  refine h σ G W H n _ Φ Ψ e st hm ?_ x
  rintro xs n' v G' W' H' hΦ s t ⟨p, vs, rfl, h1, h2⟩ _
  have st' := st.stp s t
  refine ⟨p, rfl, ⟨vs, SqL.of (st'.gh _ _ h1)⟩, k xs n' _ G' W' H' hΦ s t ⟨fun i n G W H hi q e => ?_, fun n G W H q e => ?_, fun i n G W H v H' hi q e y => ?_⟩⟩
  · have := q.gh _ _ (e _ _ h1)
    rw [← h2.len] at hi
    exact ⟨vs, vs[i], SqL.of this, List.getElem?_eq_getElem hi⟩
  · exact ⟨vs, SqL.of (q.gh _ _ (e _ _ h1)), by rw [h2.len]; exact Nat.le_refl _⟩
  · obtain ⟨rfl, y⟩ := y
    obtain ⟨x, hx, hr⟩ := h2.get' (y vs (SqL.of (q.gh _ _ (e _ _ h1))))
    exact ⟨x, G, W, hx, Stp.refl q.gw, q.t, (R x).up e hr⟩
theorem vi_tup {R : β → VP} {mx : M (List β)} (h : VE C te ps mx (Fz (rTup R))) : VI C (iTup C.K te) ps mx R := by
  intro σ G W H n Q Φ Ψ e st hm k x
  refine h σ G W H n _ Φ Ψ e st hm ?_ x
  rintro xs n' v G' W' H' hΦ s t ⟨p, vs, rfl, h1, h2⟩ _
  have st' := st.stp s t
  have g : ∀ {n G W H}, Stt C n G W H → Same G' G → SqT C.K H p vs := fun q e => SqT.of ((e.trans q.gh) _ _ h1)
  refine ⟨p, rfl, ⟨vs, SqT.of (st'.gh _ _ h1)⟩, k xs n' _ G' W' H' hΦ s t ⟨fun i n G W H hi q e => ?_, fun n G W H q e => ?_, fun i n G W H v H' hi q e y => ?_⟩⟩
  · rw [← h2.len] at hi
    exact ⟨vs, vs[i], g q e, List.getElem?_eq_getElem hi⟩
  · exact ⟨vs, g q e, by rw [h2.len]; exact Nat.le_refl _⟩
  · obtain ⟨rfl, y⟩ := y
    obtain ⟨x, hx, hr⟩ := h2.get' (y vs (g q e))
    exact ⟨x, G, W, hx, Stp.refl q.gw, q.t, (R x).up e hr⟩
def M.rng (lo hi : Int) : M (List Int) := fun Q _ n => (-(2 ^ 62) ≤ lo ∧ lo < 2 ^ 62 ∧ -(2 ^ 62) ≤ hi ∧ hi < 2 ^ 62) ∧ Q ((List.range (hi - lo).toNat).map fun k : Nat => lo + (k : Int)) n
theorem walk_rng (lo : Int) (k : Nat) (G0 : Hp) : WalkV C (Itr lo k) ((List.range k).map fun j : Nat => lo + (j : Int)) rInt G0 := by
  have hl : ((List.range k).map fun j : Nat => lo + (j : Int)).length = k := by rw [List.length_map, List.length_range]
  refine ⟨fun i n G W H hi q e => by rw [hl] at hi; exact hi, fun n G W H q e => by rw [hl]; exact Nat.le_refl _, fun i n G W H v H' hi q e y => ?_⟩
  obtain ⟨rfl, rfl⟩ := y
  rw [hl] at hi
  exact ⟨lo + (i : Int), G, W, by rw [List.getElem?_map, List.getElem?_range hi]; rfl, Stp.refl q.gw, q.t, rfl⟩
theorem vi_range1 {mx : M Int} (h : VE C te ps mx (Fz rInt)) : VI C (iRng1 (tCons te tNil)) ps (M.bind mx fun j => M.rng 0 j) rInt := by
  intro σ G W H n Q Φ Ψ e st hm k x
  refine h σ G W H n _ (fun j n' => M.rng 0 j Φ Ψ n') Ψ e st hm ?_ x
  rintro j n' v G' W' H' hΦ s t r _
  obtain ⟨⟨_, _, h1, h2⟩, hΦ⟩ := hΦ
  rw [show j - 0 = j by omega] at hΦ
  exact ⟨j, by rw [show v = .int j from r], h1, h2, k _ n' _ G' W' H' hΦ s t (walk_rng 0 j.toNat G')⟩
theorem vi_range2 {mx my : M Int} (h : VE C ta ps mx (Fz rInt)) (h2 : VE C tb ps my (Fz rInt)) : VI C (iRng2 (tCons ta (tCons tb tNil))) ps (M.bind mx fun i => M.bind my fun j => M.rng i j) rInt := by
  intro σ G W H n Q Φ Ψ e st hm k x
  refine h σ G W H n _ (fun i n' => M.bind my (fun j => M.rng i j) Φ Ψ n') Ψ e st hm ?_ x
  rintro i n1 v G1 W1 H1 hm1 s1 t1 r1 _
  have st1 := st.stp s1 t1
  refine h2 σ G1 W1 H1 n1 _ (fun j n' => M.rng i j Φ Ψ n') Ψ (e.stp s1) st1 hm1 ?_ (x.stp s1)
  rintro j n2 u G2 W2 H2 ⟨⟨a1, a2, a3, a4⟩, hΦ⟩ s2 t2 r2 _
  exact ⟨i, j, by rw [show v = .int i from r1, show u = .int j from r2], ⟨a1, a2, a3, a4⟩, k _ n2 _ G2 W2 H2 hΦ (s1.trans s2) t2 (walk_rng i (j - i).toNat G2)⟩
def signs (z : Str) : List Str := z.cps.toList.map fun c => (⟨#[c]⟩ : Str)
theorem vi_str {mx : M Str} (h : VE C te ps mx (Fz rStr)) : VI C (iStr te) ps (M.bind mx fun z => M.pure (signs z)) rStr := by
  intro σ G W H n Q Φ Ψ e st hm k x
  refine h σ G W H n _ (fun z n' => Φ (signs z) n') Ψ e st hm ?_ x
  rintro z n' v G' W' H' hΦ s t r _
  have hl : (signs z).length = z.cps.size := by unfold signs; simp
  refine ⟨z, r, k _ n' _ G' W' H' hΦ s t ⟨fun i n G W H hi q e => by rw [hl] at hi; exact hi, fun n G W H q e => by rw [hl]; exact Nat.le_refl _, fun i n G W H v H' hi q e y => ?_⟩⟩
  obtain ⟨rfl, c, hc, rfl⟩ := y
  exact ⟨⟨#[c]⟩, G, W, by unfold signs; rw [List.getElem?_map, Array.getElem?_toList, hc]; rfl, Stp.refl q.gw, q.t, rfl⟩
def zipI {α : Type} (xs : List α) : List (Int × α) := (xs.zipIdx).map fun p => ((p.2 : Int), p.1)
theorem zipI_get {xs : List α} {i : Nat} {x : α} (h : xs[i]? = some x) : (zipI xs)[i]? = some ((i : Int), x) := by
  unfold zipI
  rw [List.getElem?_map, List.getElem?_zipIdx, h]
  simp
theorem zipI_len (xs : List α) : (zipI xs).length = xs.length := by unfold zipI; simp
theorem vi_enum {R : β → VP} {mx : M (List β)} (h : VE C te ps mx (Fz (rLst R))) : VI C (iEnum C.K (tCons te tNil)) ps (M.bind mx fun xs => M.pure (zipI xs)) (rPr rInt R) := by
  intro σ G W H n Q Φ Ψ e st hm k x
  refine h σ G W H n _ (fun xs n' => Φ (zipI xs) n') Ψ e st hm ?_ x
  rintro xs n' v G' W' H' hΦ s t ⟨p, vs, rfl, h1, h2⟩ _
  have st' := st.stp s t
  have g : ∀ {n G W H}, Stt C n G W H → Same G' G → SqL C.K H p vs := fun q e => SqL.of (q.gh _ _ (e _ _ h1))
  refine ⟨p, vs, rfl, SqL.of (st'.gh _ _ h1), k (zipI xs) n' _ G' W' H' hΦ s t ⟨fun i n G W H hi q e => ?_, fun n G W H q e => ?_, fun i n G W H v H' hi q e y => ?_⟩⟩
  · rw [zipI_len, ← h2.len] at hi
    exact ⟨vs, vs[i], g q e, List.getElem?_eq_getElem hi⟩
  · exact ⟨vs, g q e, by rw [h2.len, zipI_len]; exact Nat.le_refl _⟩
  · obtain ⟨T, z, rfl, hT, rfl, y⟩ := y
    obtain ⟨x, hx, hr⟩ := h2.get' (y vs (g q e))
    exact ⟨((i : Int), x), _, _, zipI_get hx, Stp.newF q hT, q.newT hT, T, _, _, rfl, upd_same, rfl, (R x).up (e.trans (same_upd (q.gfree hT))) hr⟩
theorem vi_zip {R : β → VP} {S : γ → VP} {mx : M (List β)} {my : M (List γ)} (h : VE C ta ps mx (Fz (rLst R))) (h2 : VE C tb ps my (Fz (rLst S))) : VI C (iZip C.K (tCons ta (tCons tb tNil))) ps (M.bind mx fun xs => M.bind my fun ys => M.pure (xs.zip ys)) (rPr R S) := by
  intro σ G W H n Q Φ Ψ e st hm k x
  refine h σ G W H n _ (fun xs n' => M.bind my (fun ys => M.pure (xs.zip ys)) Φ Ψ n') Ψ e st hm ?_ x
  rintro xs n1 v G1 W1 H1 hm1 s1 t1 ⟨p, vs, rfl, h1, h3⟩ _
  have st1 := st.stp s1 t1
  refine h2 σ G1 W1 H1 n1 _ (fun ys n' => Φ (xs.zip ys) n') Ψ (e.stp s1) st1 hm1 ?_ (x.stp s1)
  rintro ys n2 u G' W' H' hΦ s2 t2 ⟨q, us, rfl, h4, h5⟩ _
  have st' := st1.stp s2 t2
  have h1 := s2.g _ _ h1
  have h3 := h3.up s2.g
  have g1 : ∀ {n G W H}, Stt C n G W H → Same G' G → SqL C.K H p vs := fun q e => SqL.of (q.gh _ _ (e _ _ h1))
  have g2 : ∀ {n G W H}, Stt C n G W H → Same G' G → SqL C.K H q us := fun q e => SqL.of (q.gh _ _ (e _ _ h4))
  have l1 := h3.len
  have l2 := h5.len
  refine ⟨p, q, vs, us, rfl, SqL.of (st'.gh _ _ h1), SqL.of (st'.gh _ _ h4), k _ n2 _ G' W' H' hΦ (s1.trans s2) t2 ⟨fun i n G W H hi q e => ?_, fun n G W H q e => ?_, fun i n G W H v H' hi q e y => ?_⟩⟩
  · rw [List.length_zip] at hi
    exact ⟨vs, us, vs[i]'(by omega), us[i]'(by omega), g1 q e, g2 q e, List.getElem?_eq_getElem _, List.getElem?_eq_getElem _⟩
  · exact ⟨vs, us, g1 q e, g2 q e, by rw [List.length_zip]; omega⟩
  · obtain ⟨T, a, b, rfl, hT, rfl, y1, y2⟩ := y
    obtain ⟨x, hx, hr⟩ := h3.get' (y1 vs (g1 q e))
    obtain ⟨z, hz, hs⟩ := h5.get' (y2 us (g2 q e))
    have e' := e.trans (same_upd (o := .tup [a, b]) (q.gfree hT))
    exact ⟨(x, z), _, _, by rw [List.getElem?_zip_eq_some]; exact ⟨hx, hz⟩, Stp.newF q hT, q.newT hT, T, _, _, rfl, upd_same, (R x).up e' hr, (S z).up e' hs⟩
/-! ### targets -/
/-- what a target stores: the slots known then; which slots may differ -/
def VG (C : Cfg) (g : TG) (R : β → VP) (ps : List SL) (ψ : β → List SL) (js : List Nat) : Prop :=
  ∀ b v σ G W H n (Q : L2.St → Hp → Prop), Ee C.B ps σ G W → Stt C n G W H → (R b).P v G → (∀ σ', Ee C.B (ψ b) σ' G W → (∀ vs, (∀ j ∈ js, j ∈ vs) → wipe σ' vs = wipe σ vs) → Q σ' H) → g v σ H Q
theorem wipe_set {σ : L2.St} {j : Nat} {x : Option V} : ∀ {vs : List Nat}, j ∈ vs → wipe (σ.set j x) vs = wipe σ vs
  | [], h => absurd h (by simp)
  | k :: vs, h => by
    unfold wipe
    by_cases e : j ∈ vs
    · rw [wipe_set e]
    · have hk : j = k := (List.mem_cons.mp h).resolve_right e
      subst hk
      have go : ∀ (vs : List Nat) (σ : L2.St), (wipe (σ.set j x) vs).set j none = (wipe σ vs).set j none := by
        intro vs
        induction vs with
        | nil => intro σ; unfold wipe; rw [List.set_set]
        | cons m vs ih =>
          intro σ
          unfold wipe
          by_cases hm : m = j
          · subst hm; rw [ih]
          · rw [List.set_comm _ _ hm, ih, List.set_comm _ _ (fun z => hm z.symm)]
      exact go vs σ
theorem vg_name {R : β → VP} {i : Nat} : VG C (gName i) R ps (fun b => ps.set i (.fr (R b))) [i] := by
  intro b v σ G W H n Q e st r q
  exact q _ (e.setF r) fun vs h => wipe_set (h i (by simp))
theorem vg_pair {R : β → VP} {S : γ → VP} {i j : Nat} : VG C (gTup C.K 2 (gCons (gName i) (gCons (gName j) gNil))) (rPr R S) ps (fun q => (ps.set i (.fr (R q.1))).set j (.fr (S q.2))) [i, j] := by
  rintro q v σ G W H n Q e st ⟨p, a, b, rfl, h1, h2, h3⟩ k
  refine ⟨p, _, rfl, SqT.of (st.gh _ _ h1), rfl, a, [b], rfl, b, [], rfl, rfl, k _ ((e.setF h2).setF h3) fun vs h => ?_⟩
  rw [wipe_set (h j (by simp)), wipe_set (h i (by simp))]
/-! ### comprehensions -/
def M.nox {α : Type} (m : M α) : M α := fun Q _ n => m Q (fun _ _ => False) n
def M.compA {β γ : Type} (f : β → M (Option γ)) : List γ → List β → M (List γ)
  | acc, [] => M.pure acc
  | acc, x :: r => M.bind (f x) fun o => M.compA f (acc ++ o.toList) r
def M.comp {β γ : Type} (xs : List β) (f : β → M (Option γ)) : M (List γ) := fun Q _ n => xs.length ≤ 1000 ∧ M.compA f [] xs Q (fun _ _ => False) n
theorem vt_yes : VT C tYes ps (M.pure true) := by
  intro σ G W H n Q Φ Ψ e st hm k x
  exact k true n G W H hm (Stp.refl st.gw) st.t
theorem xt_no {σ : L2.St} {G W : Hp} : Xt C σ G W fun _ _ => False := fun _ _ _ _ _ _ _ h => h.elim
theorem ve_lc {wi : TI} {g : TG} {vs js : List Nat} {mi : M (List β)} {Rb : β → VP} {ψ : β → List SL} {mt : β → M Bool} {me : β → M γ} {R : γ → VP} (hi : VI C wi ps mi Rb) (hv : ∀ k ∈ vs, ps[k]? = some .un) (hg : VG C g Rb ps ψ js) (hj : ∀ j ∈ js, j ∈ vs)
    (ht : ∀ b, VT C tt (ψ b) (mt b)) (he : ∀ b, VE C te (ψ b) (me b) (Fz R)) :
    VE C (tLc wi g tt te vs) ps (M.bind mi fun xs => M.comp xs fun b => M.bind (mt b) fun c => M.ite c (M.bind (me b) fun y => M.pure (some y)) (M.pure none)) (Ow (cLst R)) := by
  intro σ G W H n Q Φ Ψ e st hm k x
  refine hi σ G W H n _ (fun xs n' => M.comp xs (fun b => M.bind (mt b) fun c => M.ite c (M.bind (me b) fun y => M.pure (some y)) (M.pure none)) Φ Ψ n') Ψ e st hm ?_ x
  rintro xs n1 J G1 W1 H1 ⟨hlen, hc⟩ s1 t1 wk D hD
  have st1 := st.stp s1 t1
  have hW1 := st1.wfree hD
  let f : β → M (Option γ) := fun b => M.bind (mt b) fun c => M.ite c (M.bind (me b) fun y => M.pure (some y)) (M.pure none)
  let I : Nat → Hp → Prop := fun i H => i ≤ xs.length ∧ ∃ G' W' n acc us, Stp G1 W1 G' W' ∧ Stt C n G' W' H ∧ W' D = some (.lst us) ∧ G' D = none ∧ reps R acc us G' ∧ acc.length ≤ i ∧ M.compA f acc (xs.drop i) Φ (fun _ _ => False) n
  refine ⟨fun i m H => m = xs.length - i ∧ I i H, ⟨xs.length, by simp, Nat.zero_le _, G1, upd W1 D (.lst []), n1, [], [], Stp.newO st1 hD, st1.stp (Stp.newO st1 hD) (st1.newT hD), upd_same, st1.gfree hD, trivial, Nat.zero_le _, hc⟩, ?_⟩
  rintro i m H2 ⟨rfl, hi2, G2, W2, n2, acc, us, s2, st2, hD2, hG2, hr, hal, hm2⟩
  by_cases hlt : i < xs.length
  · refine .inr ⟨wk.goes i n2 G2 W2 H2 hlt st2 s2.g, I (i + 1), fun H' p => ⟨xs.length - (i + 1), by omega, rfl, p⟩, fun v H' y => ?_⟩
    obtain ⟨b, G3, W3, hb, s3, t3, r3⟩ := wk.yields i n2 G2 W2 H2 v H' hlt st2 s2.g y
    have st3 := st2.stp s3 t3
    have hdrop : xs.drop i = b :: xs.drop (i + 1) := by
      obtain ⟨h1, h2⟩ := List.getElem?_eq_some_iff.mp hb
      rw [← h2]; exact List.drop_eq_getElem_cons h1
    rw [hdrop] at hm2
    have e3 : Ee C.B ps (wipe σ vs) G3 W3 := ((e.stp (s1.trans (s2.trans s3)))).wipe hv
    refine hg b v (wipe σ vs) G3 W3 H' n2 _ e3 st3 r3 fun σ' e4 hw => ?_
    have hww : wipe σ' vs = wipe σ vs := by
      rw [hw vs hj]
      have idem : ∀ (vs : List Nat) (σ : L2.St), wipe (wipe σ vs) vs = wipe σ vs := by
        intro vs
        have sub : ∀ (us : List Nat), (∀ u ∈ us, u ∈ vs) → ∀ σ : L2.St, wipe (wipe σ us) vs = wipe σ vs := by
          intro us
          induction us with
          | nil => intro _ σ; rfl
          | cons u us ih =>
            intro h σ
            show wipe ((wipe σ us).set u none) vs = _
            rw [wipe_set (h u List.mem_cons_self)]
            exact ih (fun z hz => h z (List.mem_cons_of_mem _ hz)) σ
        exact sub vs fun _ h => h
      exact idem vs σ
    refine ⟨hww, ?_⟩
    refine ht b σ' G3 W3 H' n2 _ (fun c n' => M.ite c (M.bind (me b) fun y => M.pure (some y)) (M.pure none) (fun o n' => M.compA f (acc ++ o.toList) (xs.drop (i + 1)) Φ (fun _ _ => False) n') (fun _ _ => False) n') (fun _ _ => False) e4 st3 hm2 (fun c n3 G4 W4 H4 hm3 s4 t4 => ?_) xt_no
    have st4 := st3.stp s4 t4
    have s14 := s2.trans (s3.trans s4)
    have hD4 := s4.w _ _ (s3.w _ _ hD2)
    have hG4 : G4 D = none := by
      cases z : G4 D with
      | none => rfl
      | some u =>
        rcases (s3.trans s4).ng _ _ z with h | h
        · rw [hG2] at h; cases h
        · rw [hD2] at h; cases h
    cases c with
    | false =>
      refine iteF ⟨by omega, G4, W4, n3, acc, us, s14, st4, hD4, hG4, hr.up (s3.trans s4).g, by omega, ?_⟩
      have hm3 : M.compA f (acc ++ (none : Option γ).toList) (xs.drop (i + 1)) Φ (fun _ _ => False) n3 := hm3
      rw [show (none : Option γ).toList = [] from rfl, List.append_nil] at hm3
      exact hm3
    | true =>
      refine iteT (he b σ' G4 W4 H4 n3 _ (fun y n' => M.compA f (acc ++ (some y).toList) (xs.drop (i + 1)) Φ (fun _ _ => False) n') (fun _ _ => False) (e4.stp s4) st4 hm3 (fun y n5 u G5 W5 H5 hm5 s5 t5 r5 _ => ?_) xt_no)
      have st5 := st4.stp s5 t5
      have hD5 := s5.w _ _ hD4
      have hG5 : G5 D = none := by
        cases z : G5 D with
        | none => rfl
        | some u =>
          rcases s5.ng _ _ z with h | h
          · rw [hG4] at h; cases h
          · rw [hD4] at h; cases h
      have hr5 := hr.up (s3.trans (s4.trans s5)).g
      refine ⟨us, st5.wh _ _ hD5, small1000 (by rw [hr.len]; omega), by omega, G5, upd W5 D (.lst (us ++ [u])), n5, acc ++ [y], us ++ [u], (s14.trans s5).put hW1 hG5, st5.put hD5 hG5 ?_, upd_same, hG5, hr5.app ⟨r5, trivial⟩, by rw [List.length_append]; exact Nat.add_le_add_right hal 1, hm5⟩
      exact st1.bw.free hW1
  · have hi3 : i = xs.length := by omega
    subst hi3
    rw [List.drop_length] at hm2
    exact .inl ⟨wk.stops n2 G2 W2 H2 st2 s2.g, k acc n2 _ G2 W2 H2 hm2 (s1.trans s2) st2.t ⟨D, _, rfl, hD2, hG2, st1.bw.free hW1, us, rfl, hr⟩ fun q eq => by cases eq; exact s1.w.free hW1⟩
end
end VL

namespace VL
open PySem PySem.Spec PyProof.Rows L2
inductive Fl (ρ α : Type) where
  | nx (a : α) | rt (r : ρ)
/-- a statement, a block -/
def SV (C : Cfg) {ρ α : Type} (Rr : ρ → SL) (ts : TS) (ps : List SL) (m : M (Fl ρ α)) (ψ : α → List SL) : Prop :=
  ∀ (D : Ends) (σ : L2.St) G W H n Φ Ψ, Ee C.B ps σ G W → Stt C n G W H → m Φ Ψ n →
    (∀ a n σ G' W H, Φ (.nx a) n → Same G G' → Ee C.B (ψ a) σ G' W → Stt C n G' W H → D.nx σ H) →
    (∀ r n v G W H, Φ (.rt r) n → Stt C n G W H → Res C.B (Rr r) v G W → D.rt v H) →
    (∀ x n cls d σ G W H, Ψ x n → XRep C.mg x cls d G W H → Ex_ C.B C.px σ G W → Stt C n G W H → C.Ew σ cls d H) →
    ts D σ H
/-- an expression that may change what the slots own -/
def VX (C : Cfg) {α : Type} (te : TE) (ps : List SL) (m : M α) (R : α → SL) (ψ : α → List SL) : Prop :=
  ∀ σ G W H n (Q : VK) Φ Ψ, Ee C.B ps σ G W → Stt C n G W H → m Φ Ψ n →
    (∀ a n v G' W H, Φ a n → Same G G' → Ee C.B (ψ a) σ G' W → Stt C n G' W H → Res C.B (R a) v G' W → (∀ c, R a = .ow c → ∀ (k : Nat) d p, (ψ a)[k]? = some (.ow d) → σ[k]? = some (some (.ref p)) → v ≠ .ref p) → Q v H) →
    (∀ x n cls d G W H, Ψ x n → XRep C.mg x cls d G W H → Ex_ C.B C.px σ G W → Stt C n G W H → C.Ew σ cls d H) → te σ H Q
def M.seq {ρ α β : Type} (m : M (Fl ρ α)) (f : α → M (Fl ρ β)) : M (Fl ρ β) := fun Q E n => m (fun fl n => match fl with | .nx a => f a Q E n | .rt r => Q (.rt r) n) E n
def M.nx {ρ α : Type} (a : α) : M (Fl ρ α) := fun Q _ n => Q (.nx a) n
def M.rt {ρ α : Type} (r : ρ) : M (Fl ρ α) := fun Q _ n => Q (.rt r) n
/-- the def's answer -/
def M.ret {ρ α : Type} (m : M (Fl ρ α)) : M ρ := fun Q E n => m (fun fl n => match fl with | .nx _ => False | .rt r => Q r n) E n
def M.retN {ρ α : Type} (m : M (Fl ρ α)) (r0 : ρ) : M ρ := fun Q E n => m (fun fl n => match fl with | .nx _ => Q r0 n | .rt r => Q r n) E n
section
variable {C : Cfg} {ρ α β γ : Type} {Rr : ρ → SL} {ps : List SL} {te ta tb : TE} {tt : TT} {t u : TS}
theorem vx_of {m : M α} {R : α → SL} (h : VE C te ps m R) (hp : PxLe C.px ps) : VX C te ps m R (fun _ => ps) := by
  intro σ G W H n Q Φ Ψ e st hm k x
  refine h σ G W H n Q Φ Ψ e st hm (fun a n' v G' W' H' hΦ s t r f => k a n' v G' W' H' hΦ s.g (e.stp s) (st.stp s t) r fun c hc j d p h1 h2 z => ?_) fun y n' cls d G' W' H' hΨ r s t => x y n' cls d G' W' H' hΨ r ((e.stp s).x hp) (st.stp s t)
  obtain ⟨w, hw, a, o, e1, hW, _⟩ := e.at_ h1 (by simp)
  rw [h2] at hw
  cases hw
  cases e1
  rw [hc] at f
  rw [f p z] at hW
  cases hW
theorem sv_nil : SV C Rr tNext ps (M.nx ()) (fun _ => ps) := by
  intro D σ G W H n Φ Ψ e st hm k r x
  exact k () n σ G W H hm (Same.refl _) e st
theorem sv_seq {m : M (Fl ρ α)} {ψ : α → List SL} {f : α → M (Fl ρ β)} {χ : β → List SL} (h : SV C Rr t ps m ψ) (h2 : ∀ a, SV C Rr u (ψ a) (f a) χ) : SV C Rr (tSeq t u) ps (M.seq m f) χ := by
  intro D σ G W H n Φ Ψ e st hm k r x
  exact h { D with nx := u D } σ G W H n _ Ψ e st hm (fun a n' σ' G' W' H' hΦ s e' st' => h2 a D σ' G' W' H' n' Φ Ψ e' st' hΦ (fun a n σ G' W H hΦ s' => k a n σ G' W H hΦ (s.trans s')) r x) r x
theorem sv_ret {m : M ρ} (h : VE C te ps m Rr) (hp : PxLe C.px ps) {ψ : α → List SL} : SV C Rr (tRet te) ps (M.bind m fun a => M.rt a) ψ := by
  intro D σ G W H n Φ Ψ e st hm k r x
  exact h σ G W H n D.rt (fun a n' => Φ (.rt a) n') Ψ e st hm (fun a n' v G' W' H' hΦ s t q f => r a n' v G' W' H' hΦ (st.stp s t) q) fun y n' cls d G' W' H' hΨ q s t => x y n' cls d σ G' W' H' hΨ q ((e.stp s).x hp) (st.stp s t)
/-- an owned slot is given back -/
theorem sv_retO {c : ρ → CP} {b : ρ} {i : Nat} (hi : ps[i]? = some (.ow (c b)) := by rfl) {ψ : α → List SL} : SV C (Ow c) (tRet (tVar i)) ps (M.rt b) ψ := by
  intro D σ G W H n Φ Ψ e st hm k r x
  obtain ⟨v, hv, hr⟩ := e.at_ hi (by simp)
  exact ⟨v, hv, r b n v G W H hm st hr⟩
theorem sv_asgX {m : M α} {R : α → SL} {ψ : α → List SL} {i : Nat} (h : VX C te ps m R ψ) : SV C Rr (tAsg te (gName i)) ps (M.bind m fun a => M.nx a) (fun a => (ψ a).set i (R a)) := by
  intro D σ G W H n Φ Ψ e st hm k r x
  refine h σ G W H n _ (fun a n' => Φ (.nx a) n') Ψ e st hm (fun a n' v G' W' H' hΦ s e' st' q f => ?_) fun y n' cls d G' W' H' hΨ q e' s => x y n' cls d σ G' W' H' hΨ q e' s
  exact k a n' _ G' W' H' hΦ s (e'.set q fun c hc j d b _ h1 h2 => f c hc j d b h1 h2) st'
theorem sv_asg {m : M α} {R : α → SL} {i : Nat} (h : VE C te ps m R) (hp : PxLe C.px ps) : SV C Rr (tAsg te (gName i)) ps (M.bind m fun a => M.nx a) (fun a => ps.set i (R a)) :=
  sv_asgX (vx_of h hp)
theorem sv_asgG {m : M α} {R : α → VP} {ψ : α → List SL} {js : List Nat} {g : TG} (h : VE C te ps m (Fz R)) (hp : PxLe C.px ps) (hg : VG C g R ps ψ js) : SV C Rr (tAsg te g) ps (M.bind m fun a => M.nx a) ψ := by
  intro D σ G W H n Φ Ψ e st hm k r x
  exact h σ G W H n _ (fun a n' => Φ (.nx a) n') Ψ e st hm (fun a n' v G' W' H' hΦ s t q f => hg a v σ G' W' H' n' _ (e.stp s) (st.stp s t) q fun σ' e' _ => k a n' σ' G' W' H' hΦ s.g e' (st.stp s t)) fun y n' cls d G' W' H' hΨ q s t => x y n' cls d σ G' W' H' hΨ q ((e.stp s).x hp) (st.stp s t)
theorem sv_exprX {m : M α} {R : α → SL} {ψ : α → List SL} (h : VX C te ps m R ψ) : SV C Rr (tDrop te) ps (M.bind m fun a => M.nx a) ψ := by
  intro D σ G W H n Φ Ψ e st hm k r x
  exact h σ G W H n _ (fun a n' => Φ (.nx a) n') Ψ e st hm (fun a n' v G' W' H' hΦ s e' st' q f => k a n' σ G' W' H' hΦ s e' st') fun y n' cls d G' W' H' hΨ q e' s => x y n' cls d σ G' W' H' hΨ q e' s
theorem sv_expr {m : M α} {R : α → SL} (h : VE C te ps m R) (hp : PxLe C.px ps) : SV C Rr (tDrop te) ps (M.bind m fun a => M.nx a) (fun _ => ps) := sv_exprX (vx_of h hp)
theorem sv_if {m : M Bool} {m1 m2 : M (Fl ρ α)} {ψ : α → List SL} (h : VT C tt ps m) (hp : PxLe C.px ps) (h1 : SV C Rr t ps m1 ψ) (h2 : SV C Rr u ps m2 ψ) : SV C Rr (tIfS tt t u) ps (M.bind m fun b => M.ite b m1 m2) ψ := by
  intro D σ G W H n Φ Ψ e st hm k r x
  refine h σ G W H n _ (fun b n' => M.ite b m1 m2 Φ Ψ n') Ψ e st hm (fun b n' G' W' H' hΦ s t => ?_) fun y n' cls d G' W' H' hΨ q s t => x y n' cls d σ G' W' H' hΨ q ((e.stp s).x hp) (st.stp s t)
  have k' := fun a n σ G'' W H hΦ (s' : Same G' G'') => k a n σ G'' W H hΦ (s.g.trans s')
  cases b with
  | true => exact iteT (h1 D σ G' W' H' n' Φ Ψ (e.stp s) (st.stp s t) hΦ k' r x)
  | false => exact iteF (h2 D σ G' W' H' n' Φ Ψ (e.stp s) (st.stp s t) hΦ k' r x)
/-- another datum for what is known behind it -/
theorem sv_conv {m : M (Fl ρ α)} {ψ : α → List SL} {χ : β → List SL} (f : α → β) (h : SV C Rr t ps m ψ) (hf : ∀ a, Le (χ (f a)) (ψ a)) : SV C Rr t ps (M.seq m fun a => M.nx (f a)) χ := by
  intro D σ G W H n Φ Ψ e st hm k r x
  exact h D σ G W H n _ Ψ e st hm (fun a n' σ' G' W' H' hΦ s e' st' => k (f a) n' σ' G' W' H' hΦ s (e'.le (hf a)) st') r x
/-- it starts from less -/
theorem sv_le {m : M (Fl ρ α)} {ps' : List SL} {ψ : α → List SL} (h : SV C Rr t ps' m ψ) (hf : Le ps' ps) : SV C Rr t ps m ψ := by
  intro D σ G W H n Φ Ψ e st hm k r x
  exact h D σ G W H n Φ Ψ (e.le hf) st hm k r x
/-! ### loops -/
def M.forL {ρ β σ : Type} (f : β → σ → M (Fl ρ σ)) : List β → σ → M (Fl ρ σ)
  | [], s => M.nx s
  | x :: r, s => M.seq (f x s) fun s => M.forL f r s
theorem sv_for {wi : TI} {g : TG} {mi : M (List β)} {Rb : β → VP} {S : Type} {ψ : S → List SL} {χ : S → β → List SL} {js : List Nat} {f : β → S → M (Fl ρ S)} {s0 : S} (hi : VI C wi ps mi Rb) (hp : PxLe C.px ps) (h0 : Le (ψ s0) ps)
    (hg : ∀ s, VG C g Rb (ψ s) (χ s) js) (hb : ∀ b s, SV C Rr t (χ s b) (f b s) ψ) : SV C Rr (tFor wi g t) ps (M.bind mi fun xs => M.forL f xs s0) ψ := by
  intro D σ G W H n Φ Ψ e st hm k r x
  refine hi σ G W H n _ (fun xs n' => M.forL f xs s0 Φ Ψ n') Ψ e st hm ?_ fun y n' cls d G' W' H' hΨ q s t => x y n' cls d σ G' W' H' hΨ q ((e.stp s).x hp) (st.stp s t)
  rintro xs n1 J G1 W1 H1 hm1 s1 t1 wk
  have st1 := st.stp s1 t1
  let I : Nat → L2.St → Hp → Prop := fun i σ H => i ≤ xs.length ∧ ∃ s G W n, Ee C.B (ψ s) σ G W ∧ Stt C n G W H ∧ Same G1 G ∧ M.forL f (xs.drop i) s Φ Ψ n
  refine ⟨fun i m σ H => m = xs.length - i ∧ I i σ H, ⟨xs.length, by simp, Nat.zero_le _, s0, G1, W1, n1, (e.stp s1).le h0, st1, Same.refl _, hm1⟩, ?_⟩
  rintro i m σ2 H2 ⟨rfl, hi2, s, G2, W2, n2, e2, st2, q2, hm2⟩
  by_cases hlt : i < xs.length
  · refine .inr ⟨wk.goes i n2 G2 W2 H2 hlt st2 q2, I (i + 1), fun σ' H' p => ⟨xs.length - (i + 1), by omega, rfl, p⟩, fun v H' y => ?_⟩
    obtain ⟨b, G3, W3, hb', s3, t3, r3⟩ := wk.yields i n2 G2 W2 H2 v H' hlt st2 q2 y
    have st3 := st2.stp s3 t3
    have hdrop : xs.drop i = b :: xs.drop (i + 1) := by
      obtain ⟨h1, h2⟩ := List.getElem?_eq_some_iff.mp hb'
      rw [← h2]; exact List.drop_eq_getElem_cons h1
    rw [hdrop] at hm2
    refine hg s b v σ2 G3 W3 H' n2 _ (e2.stp s3) st3 r3 fun σ' e4 _ => ?_
    exact hb b s { D with nx := I (i + 1), ct := I (i + 1), bk := D.nx } σ' G3 W3 H' n2 _ Ψ e4 st3 hm2 (fun s' n5 σ5 G5 W5 H5 hΦ q5 e5 st5 => ⟨by omega, s', G5, W5, n5, e5, st5, q2.trans (s3.g.trans q5), hΦ⟩) r x
  · have hi3 : i = xs.length := by omega
    subst hi3
    rw [List.drop_length] at hm2
    exact .inl ⟨wk.stops n2 G2 W2 H2 st2 q2, k s n2 σ2 G2 W2 H2 hm2 (s1.g.trans q2) e2 st2⟩
def M.loop {ρ σ : Type} (c : σ → M Bool) (f : σ → M (Fl ρ σ)) : Nat → σ → M (Fl ρ σ)
  | 0, _ => fun _ _ _ => False
  | k + 1, s => M.bind (c s) fun b => M.ite b (M.seq (f s) fun s => M.loop c f k s) (M.nx s)
theorem sv_while {S : Type} {ψ : S → List SL} {c : S → M Bool} {f : S → M (Fl ρ S)} {s0 : S} (h0 : Le (ψ s0) ps) (hp : ∀ s, PxLe C.px (ψ s)) (hc : ∀ s, VT C tt (ψ s) (c s)) (hb : ∀ s, SV C Rr t (ψ s) (f s) ψ) :
    SV C Rr (tWhile tt t) ps (fun Q E n => ∃ k, M.loop c f k s0 Q E n) ψ := by
  rintro D σ G W H n Φ Ψ e st ⟨m0, hm⟩ k r x
  let I : Nat → L2.St → Hp → Prop := fun m σ H => ∃ s G' W n, Ee C.B (ψ s) σ G' W ∧ Stt C n G' W H ∧ Same G G' ∧ M.loop c f m s Φ Ψ n
  refine ⟨I, ⟨m0, s0, G, W, n, e.le h0, st, Same.refl _, hm⟩, ?_⟩
  rintro m σ2 H2 ⟨s, G2, W2, n2, e2, st2, q2, hm2⟩
  cases m with
  | zero => exact hm2.elim
  | succ m =>
    refine hc s σ2 G2 W2 H2 n2 _ (fun b n' => M.ite b (M.seq (f s) fun s => M.loop c f m s) (M.nx s) Φ Ψ n') Ψ e2 st2 hm2 (fun b n3 G3 W3 H3 hm3 s3 t3 => ?_) fun y n' cls d G' W' H' hΨ q s' t => x y n' cls d σ2 G' W' H' hΨ q ((e2.stp s').x (hp s)) (st2.stp s' t)
    have st3 := st2.stp s3 t3
    cases b with
    | true =>
      refine iteT ⟨I m, fun σ' H' p => ⟨m, Nat.lt_succ_self m, p⟩, ?_⟩
      exact hb s { D with nx := I m, ct := I m, bk := D.nx } σ2 G3 W3 H3 n3 _ Ψ (e2.stp s3) st3 hm3 (fun s' n5 σ5 G5 W5 H5 hΦ q5 e5 st5 => ⟨s', G5, W5, n5, e5, st5, q2.trans (s3.g.trans q5), hΦ⟩) r x
    | false => exact iteF (k s n3 σ2 G3 W3 H3 hm3 (q2.trans s3.g) (e2.stp s3) st3)
/-! ### what a slot owns: shown, lent, changed -/
theorem Ee.show {B : Hp} {σ : L2.St} {G W : Hp} {i : Nat} {c : CP} {p : Addr} {o : HO} {q : VP} (e : Ee B ps σ G W) (hi : ps[i]? = some (.ow c)) (hσ : σ[i]? = some (some (.ref p))) (ho : W p = some o) (hg : G p = none) (hq : q.P (.ref p) (upd G p o)) : Ee B (ps.set i (.fr q)) σ (upd G p o) W := by
  refine ⟨by rw [List.length_set]; exact e.len, fun {k t} h n => ?_, fun {k l d d' a} hkl h1 h2 h3 h4 => ?_⟩
  · rcases getElem_set h with ⟨rfl, rfl, hl⟩ | ⟨hne, h⟩
    · exact ⟨_, hσ, hq⟩
    · obtain ⟨v, hv, hr⟩ := e.at_ h n
      refine ⟨v, hv, ?_⟩
      cases t with
      | un => trivial
      | fr r => exact r.up (same_upd hg) hr
      | bo _ => exact hr
      | ow d =>
        obtain ⟨a, q, e1, hw', hg', hb', hc'⟩ := hr
        refine ⟨a, q, e1, hw', ?_, hb', d.up (same_upd hg) hc'⟩
        rw [upd_ne]
        · exact hg'
        · rintro rfl
          subst e1
          exact e.sep hne h hi hv hσ
  · have f : ∀ {m : Nat} {d : CP}, (ps.set i (.fr q))[m]? = some (.ow d) → ps[m]? = some (.ow d) := fun {m d} h => by
      rcases getElem_set h with ⟨_, h, _⟩ | ⟨_, h⟩
      · cases h
      · exact h
    exact e.sep hkl (f h1) (f h2) h3 h4
theorem Stt.show {n : Nat} {G W H : Hp} {p : Addr} {o : HO} (s : Stt C n G W H) (h : W p = some o) (hg : G p = none) (hb : C.B p = none) : Stt C n (upd G p o) W H where
  t := s.t
  gw := same_put s.gw h
  bw := s.bw
  g0 := s.g0.trans (same_upd hg)
  gb := fun q x hq => by
    by_cases z : q = p
    · subst z; exact .inr hb
    · rw [upd_ne z] at hq; exact s.gb q x hq
/-- from here on the slot's object is shown -/
theorem sv_show {m : M (Fl ρ α)} {ψ : α → List SL} {i : Nat} {c : CP} {q : VP} (hi : ps[i]? = some (.ow c)) (hc : ∀ p o G, c.P o G → G p = none → q.P (.ref p) (upd G p o)) (h : SV C Rr t (ps.set i (.fr q)) m ψ) : SV C Rr t ps m ψ := by
  intro D σ G W H n Φ Ψ e st hm k r x
  obtain ⟨v, hσ, p, o, rfl, hw, hg, hb, hP⟩ := e.at_ hi (by simp)
  exact h D σ (upd G p o) W H n Φ Ψ (e.show hi hσ hw hg (hc p o G hP hg)) (st.show hw hg hb) hm (fun a n σ G' W H hΦ s => k a n σ G' W H hΦ ((same_upd hg).trans s)) r x
theorem cLst_show {R : α → VP} {xs : List α} (p : Addr) (o : HO) (G : Hp) (h : (cLst R xs).P o G) (hp : G p = none) : (rLst R xs).P (.ref p) (upd G p o) := by
  obtain ⟨vs, rfl, hv⟩ := h
  exact ⟨p, vs, rfl, upd_same, hv.up (same_upd hp)⟩
theorem sv_showL {m : M (Fl ρ α)} {ψ : α → List SL} (i : Nat) {R : β → VP} {xs : List β} (hi : ps[i]? = some (.ow (cLst R xs))) (h : SV C Rr t (ps.set i (.fr (rLst R xs))) m ψ) : SV C Rr t ps m ψ :=
  sv_show hi cLst_show h
/-- a value that leans on no object -/
def Flat {α : Type} (R : α → VP) : Prop := ∀ a v G G', (R a).P v G → (R a).P v G'
theorem flat_int : Flat rInt := fun _ _ _ _ h => h
theorem flat_bl : Flat rBl := fun _ _ _ _ h => h
theorem flat_str : Flat rStr := fun _ _ _ _ h => h
/-- a slot's object is lent to an expression that gives a flat value -/
theorem ve_lend {m : M α} {R : α → VP} {i : Nat} {c : CP} {q : VP} (hi : ps[i]? = some (.ow c)) (hc : ∀ p o G, c.P o G → G p = none → q.P (.ref p) (upd G p o)) (hR : Flat R) (h : VE C te (ps.set i (.fr q)) m (Fz R)) : VE C te ps (M.nox m) (Fz R) := by
  intro σ G W H n Q Φ Ψ e st hm k x
  obtain ⟨v, hσ, p, o, rfl, hw, hg, hb, hP⟩ := e.at_ hi (by simp)
  have back : ∀ {G' W' : Hp}, Stp (upd G p o) W G' W' → Stp G W G W' := fun s => ⟨Same.refl _, s.w, st.gw.trans s.w, fun q x hq => .inl hq⟩
  exact h σ (upd G p o) W H n Q Φ (fun _ _ => False) (e.show hi hσ hw hg (hc p o G hP hg)) (st.show hw hg hb) hm (fun a n' v G' W' H' hΦ s t r _ => k a n' v G W' H' hΦ (back s) t (hR a v G' G r) trivial) xt_no
end
end VL

namespace VL
open PySem PySem.Spec PyProof.Rows L2
section
variable {C : Cfg} {ρ α β γ : Type} {Rr : ρ → SL} {ps : List SL} {te ta tb : TE} {tt : TT} {t u : TS}
/-! ### what a slot owns, changed -/
/-- the slot's own list, read -/
theorem own_get {σ : L2.St} {G W H : Hp} {n : Nat} {i : Nat} {R : α → VP} {xs : List α} (e : Ee C.B ps σ G W) (st : Stt C n G W H) (hi : ps[i]? = some (.ow (cLst R xs))) :
    ∃ p vs, σ[i]? = some (some (.ref p)) ∧ W p = some (.lst vs) ∧ H p = some (.lst vs) ∧ G p = none ∧ C.B p = none ∧ reps R xs vs G := by
  obtain ⟨v, hσ, p, o, rfl, hw, hg, hb, vs, rfl, hr⟩ := e.at_ hi (by simp)
  exact ⟨p, vs, hσ, hw, st.wh _ _ hw, hg, hb, hr⟩
theorem M.req_iff {c : Prop} {Q : Unit → Nat → Prop} {E : Exc → Nat → Prop} {n : Nat} : M.req c Q E n ↔ c ∧ Q () n := Iff.rfl
theorem vx_append {R : α → VP} {xs : List α} {m : M α} {ψ : α → List SL} {i : Nat} (he : VX C te ps m (Fz R) ψ) (hi : ps[i]? = some (.ow (cLst R xs))) (f : α → List α) (hi2 : ∀ a, (ψ a)[i]? = some (.ow (cLst R (f a)))) :
    VX C (tBM C.K "list" rAppend (tVar i) (tCons te tNil)) ps (M.bind m fun a => M.when ((f a).length < sizeLine) a) (fun _ => .fr (rNon ())) (fun a => (ψ a).set i (.ow (cLst R (f a ++ [a])))) := by
  intro σ G W H n Q Φ Ψ e st hm k x
  obtain ⟨p, vs, hσ, hw, hh, hg, hb, hr⟩ := own_get e st hi
  refine ⟨.ref p, hσ, .inl ⟨rfl, vs, SqL.of hh⟩, ?_⟩
  refine he σ G W H n _ (fun a n' => M.when ((f a).length < sizeLine) a Φ Ψ n') Ψ e st hm (fun a n' v G' W' H' hΦ s e' st' r _ => ?_) x
  obtain ⟨q, us, hσ', hw', hh', hg', hb', hr'⟩ := own_get e' st' (hi2 a)
  rw [hσ] at hσ'
  cases hσ'
  refine ⟨p, us, v, rfl, rfl, hh', by rw [hr'.len]; exact hΦ.1, ?_⟩
  exact k a n' .non G' (upd W' p (.lst (us ++ [v]))) _ hΦ.2 s (e'.putOwn (hi2 a) hσ ⟨_, rfl, hr'.app ⟨r, trivial⟩⟩) (st'.put hw' hg' hb') rfl fun c h => nomatch h
theorem sv_append {R : α → VP} {xs : List α} {m : M α} {i : Nat} (he : VE C te ps m (Fz R)) (hp : PxLe C.px ps) (hi : ps[i]? = some (.ow (cLst R xs)) := by rfl) :
    SV C Rr (tDrop (tBM C.K "list" rAppend (tVar i) (tCons te tNil))) ps (M.bind (M.bind m fun a => M.when (xs.length < sizeLine) a) fun a => M.nx a) (fun a => ps.set i (.ow (cLst R (xs ++ [a])))) :=
  sv_exprX (vx_append (vx_of he hp) hi (fun _ => xs) fun _ => hi)
def M.popAt {α : Type} (xs : List α) (j : Int) : M (α × List α) := fun Φ _ n => ∃ (k : Nat) (a : α), (-(2 ^ 63) ≤ j ∧ j < 2 ^ 63) ∧ seqIndex? j xs.length = some k ∧ xs[k]? = some a ∧ Φ (a, xs.eraseIdx k) n
def M.popE {α : Type} (xs : List α) : M (α × List α) := fun Φ _ n => ∃ a, xs[xs.length - 1]? = some a ∧ Φ (a, xs.dropLast) n
theorem vx_popAt {R : α → VP} {xs : List α} {m : M Int} {i : Nat} (he : VE C te ps m (Fz rInt)) (hp : PxLe C.px ps) (hi : ps[i]? = some (.ow (cLst R xs)) := by rfl) :
    VX C (tBM C.K "list" rPopAt (tVar i) (tCons te tNil)) ps (M.bind m fun j => M.popAt xs j) (fun q => .fr (R q.1)) (fun q => ps.set i (.ow (cLst R q.2))) := by
  intro σ G W H n Q Φ Ψ e st hm k x
  obtain ⟨p, vs, hσ, hw, hh, hg, hb, hr⟩ := own_get e st hi
  refine ⟨.ref p, hσ, .inl ⟨rfl, vs, SqL.of hh⟩, ?_⟩
  refine (vx_of he hp) σ G W H n _ (fun j n => M.popAt xs j Φ Ψ n) Ψ e st hm (fun j n' v G' W' H' hΦ s e' st' r _ => ?_) x
  obtain ⟨m, a, ⟨h1, h2⟩, h3, h4, hΦ⟩ := hΦ
  obtain ⟨q, us, hσ', hw', hh', hg', hb', hr'⟩ := own_get e' st' hi
  rw [hσ] at hσ'
  cases hσ'
  obtain ⟨y, hy, hry⟩ := hr'.get h4
  refine ⟨p, us, j, m, y, rfl, by rw [show v = .int j from r], hh', h1, h2, by rw [hr'.len]; exact h3, hy, ?_⟩
  have era : ∀ {xs : List α} {vs : List V} {G : Hp} (m : Nat), reps R xs vs G → reps R (xs.eraseIdx m) (vs.eraseIdx m) G := by
    intro xs
    induction xs with
    | nil =>
      intro vs G m h
      cases vs with
      | nil => exact trivial
      | cons _ _ => exact h.elim
    | cons x xs ih =>
      intro vs G m h
      cases vs with
      | nil => exact h.elim
      | cons v vs =>
        cases m with
        | zero => exact h.2
        | succ m => exact ⟨h.1, ih m h.2⟩
  exact k (a, xs.eraseIdx m) n' y G' (upd W' p (.lst (us.eraseIdx m))) _ hΦ s (e'.putOwn hi hσ ⟨_, rfl, era m hr'⟩) (st'.put hw' hg' hb') hry fun c h => nomatch h
theorem vx_pop {R : α → VP} {xs : List α} {i : Nat} (hp : PxLe C.px ps) (hi : ps[i]? = some (.ow (cLst R xs)) := by rfl) :
    VX C (tBM0 C.K "list" rPop (tVar i)) ps (M.popE xs) (fun q => .fr (R q.1)) (fun q => ps.set i (.ow (cLst R q.2))) := by
  rintro σ G W H n Q Φ Ψ e st ⟨a, ha, hm⟩ k x
  obtain ⟨p, vs, hσ, hw, hh, hg, hb, hr⟩ := own_get e st hi
  obtain ⟨y, hy, hry⟩ := hr.get ha
  refine ⟨.ref p, hσ, .inl ⟨rfl, vs, SqL.of hh⟩, p, vs, y, rfl, rfl, hh, by rw [hr.len]; exact hy, ?_⟩
  have hdl : reps R xs.dropLast vs.dropLast G := by
    rw [List.dropLast_eq_take, List.dropLast_eq_take, hr.len]
    exact hr.take _
  exact k (a, xs.dropLast) n y G (upd W p (.lst vs.dropLast)) _ hm (Same.refl _) (e.putOwn hi hσ ⟨_, rfl, hdl⟩) (st.put hw hg hb) hry fun c h => nomatch h
theorem vx_clear {R : α → VP} {xs : List α} {i : Nat} (hp : PxLe C.px ps) (hi : ps[i]? = some (.ow (cLst R xs)) := by rfl) :
    VX C (tBM0 C.K "list" rClear (tVar i)) ps (M.pure ()) (fun _ => .fr (rNon ())) (fun _ => ps.set i (.ow (cLst R []))) := by
  rintro σ G W H n Q Φ Ψ e st hm k x
  obtain ⟨p, vs, hσ, hw, hh, hg, hb, hr⟩ := own_get e st hi
  exact ⟨.ref p, hσ, .inl ⟨rfl, vs, SqL.of hh⟩, p, vs, rfl, rfl, hh, k () n .non G (upd W p (.lst [])) _ hm (Same.refl _) (e.putOwn hi hσ ⟨_, rfl, trivial⟩) (st.put hw hg hb) rfl fun c h => nomatch h⟩
/-- xs[j] = e, xs owned -/
def M.setL {α : Type} (xs : List α) (j : Int) (a : α) : M (List α) := fun Φ _ n => ∃ k, ixN xs.length j = some k ∧ Φ (xs.set k a) n
theorem sv_setL {R : α → VP} {xs : List α} {m : M α} {mj : M Int} {i : Nat} (he : VE C te ps m (Fz R)) (hj : VE C ta ps mj (Fz rInt)) (hp : PxLe C.px ps) (hi : ps[i]? = some (.ow (cLst R xs)) := by rfl) :
    SV C Rr (tAsg te (gSub (tVar i) ta rSetL)) ps (M.bind (M.bind m fun a => M.bind mj fun j => M.setL xs j a) fun ys => M.nx ys) (fun ys => ps.set i (.ow (cLst R ys))) := by
  intro D σ G W H n Φ Ψ e st hm k r x
  refine he σ G W H n _ (fun a n' => M.bind mj (fun j => fun (Φ : Fl ρ (List α) → Nat → Prop) _ n => ∃ k, ixN xs.length j = some k ∧ Φ (.nx (xs.set k a)) n) Φ Ψ n') Ψ e st hm (fun a n1 v G1 W1 H1 hm1 s1 t1 r1 _ => ?_) fun y n' cls d G' W' H' hΨ q s t => x y n' cls d σ G' W' H' hΨ q ((e.stp s).x hp) (st.stp s t)
  have st1 := st.stp s1 t1
  have e1 := e.stp s1
  obtain ⟨p, vs, hσ, hw, hh, hg, hb, hr⟩ := own_get e1 st1 hi
  refine ⟨.ref p, hσ, ?_⟩
  refine hj σ G1 W1 H1 n1 _ (fun j n => ∃ k, ixN xs.length j = some k ∧ Φ (.nx (xs.set k a)) n) Ψ e1 st1 hm1 (fun j n2 u G2 W2 H2 hm2 s2 t2 r2 _ => ?_) fun y n' cls d G' W' H' hΨ q s t => x y n' cls d σ G' W' H' hΨ q ((e1.stp s).x hp) (st1.stp s t)
  obtain ⟨kk, hk, hm2⟩ := hm2
  have st2 := st1.stp s2 t2
  have e2 := e1.stp s2
  obtain ⟨q, us, hσ', hw', hh', hg', hb', hr'⟩ := own_get e2 st2 hi
  rw [hσ] at hσ'
  cases hσ'
  refine ⟨p, us, j, kk, rfl, r2, hh', by rw [hr'.len]; exact hk, ?_⟩
  exact k (xs.set kk a) n2 σ G2 (upd W2 p (.lst (us.set kk v))) _ hm2 (s1.g.trans s2.g) (e2.putOwn hi hσ ⟨_, rfl, hr'.set kk ((R a).up s2.g r1)⟩) (st2.put hw' hg' hb')
/-- x += e: whole numbers -/
theorem sv_augI {te : TE} {a0 : Int} {f : Int → Int → Int} {m : M Int} {i : Nat} (he : VE C te ps m (Fz rInt)) (hp : PxLe C.px ps) (hi : ps[i]? = some (.fr (rInt a0)) := by rfl) :
    SV C Rr (tAug i te (ipI f)) ps (M.bind m fun a => M.nx (f a0 a)) (fun a => ps.set i (.fr (rInt a))) := by
  intro D σ G W H n Φ Ψ e st hm k r x
  obtain ⟨v, hσ, hv⟩ := e.at_ hi (by simp)
  have hv : v = .int a0 := hv
  subst hv
  refine ⟨_, hσ, he σ G W H n _ (fun a n' => Φ (.nx (f a0 a)) n') Ψ e st hm (fun a n' v G' W' H' hΦ s t q _ => ⟨a0, a, rfl, q, ?_⟩) fun y n' cls d G' W' H' hΨ q s t => x y n' cls d σ G' W' H' hΨ q ((e.stp s).x hp) (st.stp s t)⟩
  exact k _ n' _ G' W' H' hΦ s.g ((e.stp s).setF rfl) (st.stp s t)
end
/-! ### defs -/
section
variable (mg : Str → Option Value) (K : PySem.W.Frag) (TB : List (Addr × Str))
/-- a def's promise by its answer: over any view of the heap -/
def spG {α β : Type} (Rs : α → List VP) (F : α → M β) (Rr : β → SL) : Sp := fun vs H Q E =>
  ∃ (Θ : Th TB) (a : α) (G W : Hp) (n : Nat) (Φ : β → Nat → Prop) (Ψ : Exc → Nat → Prop), RepL (Rs a) vs G ∧ Same G W ∧ Θ.T n W H ∧ F a Φ Ψ n ∧
    Kt ⟨TB, Θ, mg, K, W, G, fun _ => E, []⟩ Rr G W Q Φ ∧ Xt ⟨TB, Θ, mg, K, W, G, fun _ => E, []⟩ [] G W Ψ
/-- .. over one view -/
def spT {α β : Type} (Θ : Addr → Th TB) (Rs : Addr → α → List VP) (F : α → M β) (Rr : β → SL) : Sp := fun vs H Q E =>
  ∃ (s : Addr) (a : α) (G W : Hp) (n : Nat) (Φ : β → Nat → Prop) (Ψ : Exc → Nat → Prop), RepL (Rs s a) vs G ∧ Same G W ∧ (Θ s).T n W H ∧ F a Φ Ψ n ∧
    Kt ⟨TB, Θ s, mg, K, W, G, fun _ => E, []⟩ Rr G W Q Φ ∧ Xt ⟨TB, Θ s, mg, K, W, G, fun _ => E, []⟩ [] G W Ψ
end
theorem spG_len {mg : Str → Option Value} {K : PySem.W.Frag} {TB : List (Addr × Str)} {α β : Type} {Rs : α → List VP} {F : α → M β} {Rr : β → SL} {ps : List Str} (h : ∀ a, (Rs a).length = ps.length := by intro _; rfl) : ∀ vs H Q E, spG mg K TB Rs F Rr vs H Q E → vs.length = ps.length := by
  rintro vs H Q E ⟨_, a, _, _, _, _, _, r, _⟩
  rw [r.len, h]
theorem spT_len {mg : Str → Option Value} {K : PySem.W.Frag} {TB : List (Addr × Str)} {Θ : Addr → Th TB} {α β : Type} {Rs : Addr → α → List VP} {F : α → M β} {Rr : β → SL} {ps : List Str} (h : ∀ s a, (Rs s a).length = ps.length := by intros; rfl) : ∀ vs H Q E, spT mg K TB Θ Rs F Rr vs H Q E → vs.length = ps.length := by
  rintro vs H Q E ⟨_, a, _, _, _, _, _, r, _⟩
  rw [r.len, h]
/-- the slots at a def's start -/
def slots (N : List Str) (rs : List VP) : List SL := rs.map SL.fr ++ List.replicate (N.length - rs.length) .un
theorem repL_get {G : Hp} {rs : List VP} {vs : List V} (r : RepL rs vs G) : ∀ {i : Nat} {p : VP}, rs[i]? = some p → ∃ v, vs[i]? = some v ∧ p.P v G := by
  induction r with
  | nil => intro i p e; simp at e
  | cons a _ ih =>
    intro i p e
    cases i with
    | zero => simp at e; subst e; exact ⟨_, rfl, a⟩
    | succ i => simp at e ⊢; exact ih e
theorem ee_start {B G W : Hp} {N : List Str} {rs : List VP} {vs : List V} (r : RepL rs vs G) : Ee B (slots N rs) (start N vs) G W := by
  refine ⟨?_, fun {i s} h n => ?_, fun {i j c d a} _ h _ _ _ => ?_⟩
  · unfold L2.start slots
    rw [List.length_append, List.length_append, List.length_map, List.length_map, List.length_replicate, List.length_replicate, r.len]
  · unfold slots at h
    by_cases hi : i < rs.length
    · rw [List.getElem?_append_left (by rw [List.length_map]; exact hi), List.getElem?_map] at h
      rw [List.getElem?_eq_getElem hi] at h
      cases h
      obtain ⟨v, hv, hp⟩ := repL_get r (List.getElem?_eq_getElem hi)
      refine ⟨v, ?_, hp⟩
      unfold L2.start
      have hl : i < vs.length := by rw [r.len]; exact hi
      rw [List.getElem?_append_left (by rw [List.length_map]; exact hl), List.getElem?_map, hv]
      rfl
    · rw [List.getElem?_append_right (by rw [List.length_map]; omega), List.getElem?_replicate] at h
      split at h
      · exact absurd (Option.some.inj h).symm n
      · cases h
  · unfold slots at h
    rcases List.mem_append.mp (List.mem_of_getElem? h) with h | h
    · obtain ⟨_, _, h⟩ := List.mem_map.mp h
      cases h
    · have := (List.mem_replicate.mp h).2
      cases this
theorem stt_start {C : Cfg} {n : Nat} {G W H : Hp} (hB : C.B = W) (hG : C.G0 = G) (gw : Same G W) (t : C.Θ.T n W H) : Stt C n G W H :=
  ⟨t, gw, by rw [hB]; exact Same.refl _, by rw [hG]; exact Same.refl _, fun q o h => by rw [hG]; exact .inl h⟩
theorem stt_end {C : Cfg} {n : Nat} {G W G' W' H' : Hp} (hB : C.B = W) (hG : C.G0 = G) (st : Stt C n G' W' H') : Stp G W G' W' :=
  ⟨by rw [← hG]; exact st.g0, by rw [← hB]; exact st.bw, st.gw, fun q o h => by rw [← hG, ← hB]; exact st.gb q o h⟩
theorem res_fre {B : Hp} {s : SL} {v : V} {G W : Hp} (r : Res B s v G W) : Fre s v B := by
  cases s with
  | ow c =>
    obtain ⟨a, o, e, _, _, hb, _⟩ := r
    intro p ep
    rw [e] at ep
    cases ep
    exact hb
  | _ => trivial
/-- a def's body gives what is promised: every way returns -/
theorem fn_G {mg : Str → Option Value} {K : PySem.W.Frag} {TB : List (Addr × Str)} {α β δ : Type} {Rs : α → List VP} {F : α → M β} {Rr : β → SL} {vs : List V} {H : Hp} {Q : VK} {E : XK} {N : List Str} {t : TS} {m : α → M (Fl β δ)} {ψ : α → δ → List SL} (h : spG mg K TB Rs F Rr vs H Q E)
    (hF : ∀ a, F a = M.ret (m a)) (hb : ∀ (Θ : Th TB) (B G0 : Hp) (a : α), SV ⟨TB, Θ, mg, K, B, G0, fun _ => E, []⟩ Rr t (slots N (Rs a)) (m a) (ψ a)) : t { nx := fun _ H' => Q .non H', rt := Q } (start N vs) H := by
  obtain ⟨Θ, a, G, W, n, Φ, Ψ, r, gw, t1, hm, k, x⟩ := h
  rw [hF] at hm
  refine hb Θ W G a _ (start N vs) G W H n _ Ψ (ee_start r) (stt_start rfl rfl gw t1) hm (fun _ _ _ _ _ _ z => z.elim) (fun b n' v G' W' H' hΦ st q => k b n' v G' W' H' hΦ (stt_end rfl rfl st) st.t q (res_fre q)) fun y n' cls d σ G' W' H' hΨ q _ st => x y n' cls d G' W' H' hΨ q (stt_end rfl rfl st) st.t
/-- .. some ways come to the end: None -/
theorem fn_GN {mg : Str → Option Value} {K : PySem.W.Frag} {TB : List (Addr × Str)} {α δ : Type} {Rs : α → List VP} {F : α → M Unit} {vs : List V} {H : Hp} {Q : VK} {E : XK} {N : List Str} {t : TS} {m : α → M (Fl Unit δ)} {ψ : α → δ → List SL} (h : spG mg K TB Rs F (Fz rNon) vs H Q E)
    (hF : ∀ a, F a = M.retN (m a) ()) (hb : ∀ (Θ : Th TB) (B G0 : Hp) (a : α), SV ⟨TB, Θ, mg, K, B, G0, fun _ => E, []⟩ (Fz rNon) t (slots N (Rs a)) (m a) (ψ a)) : t { nx := fun _ H' => Q .non H', rt := Q } (start N vs) H := by
  obtain ⟨Θ, a, G, W, n, Φ, Ψ, r, gw, t1, hm, k, x⟩ := h
  rw [hF] at hm
  refine hb Θ W G a _ (start N vs) G W H n _ Ψ (ee_start r) (stt_start rfl rfl gw t1) hm (fun _ n' σ' G' W' H' hΦ _ _ st => k () n' .non G' W' H' hΦ (stt_end rfl rfl st) st.t rfl trivial) (fun b n' v G' W' H' hΦ st q => k b n' v G' W' H' hΦ (stt_end rfl rfl st) st.t q (res_fre q)) fun y n' cls d σ G' W' H' hΨ q _ st => x y n' cls d G' W' H' hΨ q (stt_end rfl rfl st) st.t
theorem fn_T {mg : Str → Option Value} {K : PySem.W.Frag} {TB : List (Addr × Str)} {Θ : Addr → Th TB} {α β δ : Type} {Rs : Addr → α → List VP} {F : α → M β} {Rr : β → SL} {vs : List V} {H : Hp} {Q : VK} {E : XK} {N : List Str} {t : TS} {m : α → M (Fl β δ)} {ψ : Addr → α → δ → List SL} (h : spT mg K TB Θ Rs F Rr vs H Q E)
    (hF : ∀ a, F a = M.ret (m a)) (hb : ∀ (s : Addr) (B G0 : Hp) (a : α), SV ⟨TB, Θ s, mg, K, B, G0, fun _ => E, []⟩ Rr t (slots N (Rs s a)) (m a) (ψ s a)) : t { nx := fun _ H' => Q .non H', rt := Q } (start N vs) H := by
  obtain ⟨s, a, G, W, n, Φ, Ψ, r, gw, t1, hm, k, x⟩ := h
  rw [hF] at hm
  refine hb s W G a _ (start N vs) G W H n _ Ψ (ee_start r) (stt_start rfl rfl gw t1) hm (fun _ _ _ _ _ _ z => z.elim) (fun b n' v G' W' H' hΦ st q => k b n' v G' W' H' hΦ (stt_end rfl rfl st) st.t q (res_fre q)) fun y n' cls d σ G' W' H' hΨ q _ st => x y n' cls d G' W' H' hΨ q (stt_end rfl rfl st) st.t
section
variable {C : Cfg} {α β γ : Type} {ps : List SL} {ta : TA}
theorem res_call {s : SL} {v : V} {W G' W' : Hp} (hb : Same C.B W) (r : Res W s v G' W') (f : ∀ p, s ≠ .bo p) : Res C.B s v G' W' := by
  cases s with
  | un => trivial
  | fr _ => exact r
  | bo p => exact absurd rfl (f p)
  | ow c =>
    obtain ⟨a, o, e, h1, h2, h3, h4⟩ := r
    exact ⟨a, o, e, h1, h2, hb.free h3, h4⟩
/-- f(..): nothing is raised -/
theorem ve_call {Rs : α → List VP} {F : α → M β} {Rr : β → SL} {m : M α} {E : XK} (ha : VA C ta ps m Rs) (hr : ∀ b p, Rr b ≠ .bo p := by intro _ _ h; cases h) : VE C (tCall (spG C.mg C.K C.TB Rs F Rr) [] E ta) ps (M.bind m fun a => M.nox (F a)) Rr := by
  intro σ G W H n Q Φ Ψ e st hm k x
  refine ha σ G W H n _ (fun a n' => M.nox (F a) Φ Ψ n') Ψ e st hm (fun a n1 vs G1 W1 H1 hm1 s1 t1 r1 => ?_) x
  have st1 := st.stp s1 t1
  rw [List.append_nil]
  refine ⟨C.Θ, a, G1, W1, n1, Φ, fun _ _ => False, r1, st1.gw, st1.t, hm1, fun b n2 v G2 W2 H2 hΦ s2 t2 r2 f2 => ?_, fun _ _ _ _ _ _ _ h => h.elim⟩
  exact (k.stp s1) b n2 v G2 W2 H2 hΦ s2 t2 (res_call st1.bw r2 (hr b)) f2
theorem ve_callT {Θ : Addr → Th C.TB} {s : Addr} {Rs : Addr → α → List VP} {F : α → M β} {Rr : β → SL} {m : M α} {E : XK} (hΘ : C.Θ = Θ s) (ha : VA C ta ps m (Rs s)) (hr : ∀ b p, Rr b ≠ .bo p := by intro _ _ h; cases h) : VE C (tCall (spT C.mg C.K C.TB Θ Rs F Rr) [] E ta) ps (M.bind m fun a => M.nox (F a)) Rr := by
  intro σ G W H n Q Φ Ψ e st hm k x
  refine ha σ G W H n _ (fun a n' => M.nox (F a) Φ Ψ n') Ψ e st hm (fun a n1 vs G1 W1 H1 hm1 s1 t1 r1 => ?_) x
  have st1 := st.stp s1 t1
  rw [List.append_nil]
  refine ⟨s, a, G1, W1, n1, Φ, fun _ _ => False, r1, st1.gw, by rw [← hΘ]; exact st1.t, hm1, fun b n2 v G2 W2 H2 hΦ s2 t2 r2 f2 => ?_, fun _ _ _ _ _ _ _ h => h.elim⟩
  exact (k.stp s1) b n2 v G2 W2 H2 hΦ s2 (by rw [hΘ]; exact t2) (res_call st1.bw r2 (hr b)) f2
end
/-! ### the drawing state as a view -/
def thV {TB : List (Addr × Str)} (s : Addr) : Th TB where
  T n W H := View s n W H ∧ (∀ q o, W q = some o → NT o) ∧ LamX.Tabs TB H
  sub h := h.1.sub
  ext {n W H W' H'} h e e2 hn := by
    obtain ⟨⟨b, c, i, bs, cs, k, l⟩, hnt, ht⟩ := h
    have f : ∀ q u, H q = some u → W q = none → W' q = none := fun q u hq hw => by
      cases z : W' q with
      | none => rfl
      | some o =>
        rcases hn q o z with h | ⟨h, _⟩
        · rw [hw] at h; cases h
        · rw [hq] at h; cases h
    have sb : Same W' H' := fun q o hq => by
      rcases hn q o hq with h | ⟨_, h, _⟩
      · exact e _ _ (k.sub _ _ h)
      · exact h
    refine ⟨⟨b, c, i, bs, cs, { k.ext e with sub := sb, gs := f _ _ k.hs k.gs, gb := f _ _ k.hb k.gb, gc := f _ _ k.hc k.gc }, l⟩, fun q o hq => ?_, ht.ext e⟩
    rcases hn q o hq with h | ⟨_, _, h⟩
    · exact hnt _ _ h
    · exact h
  put {n W H p u o} h e nu no := by
    refine ⟨h.1.put e, fun q x hq => ?_, fun t htm => ?_⟩
    · by_cases z : q = p
      · subst z; rw [upd_same] at hq; cases hq; exact no
      · rw [upd_ne z] at hq; exact h.2.1 _ _ hq
    · have hp := h.1.sub _ _ e
      obtain ⟨ps, h1, h2, h3⟩ := h.2.2 t htm
      refine ⟨ps, ?_, h2, fun pos cv hc => ?_⟩
      · rw [upd_ne (fun z => by rw [z, hp] at h1; exact nu.t _ (Option.some.inj h1))]; exact h1
      · obtain ⟨c, e1, e2⟩ := h3 pos cv hc
        refine ⟨c, e1, ?_⟩
        rw [upd_ne (fun z => by rw [z, hp] at e2; exact nu.x _ (Option.some.inj e2))]; exact e2
  tabs h := h.2.2
  tset {n W H H'} h e t := by
    obtain ⟨⟨b, c, i, bs, cs, k, l⟩, hnt, ht⟩ := h
    have f : ∀ q u, H q = some u → (∀ ps, u ≠ .tbl ps) → H' q = some u := fun q u h n => e q u h n
    exact ⟨⟨b, c, i, bs, cs, { k with sub := fun q o hq => e _ _ (k.sub _ _ hq) (hnt _ _ hq).t, hs := f _ _ k.hs (by intro _ h; cases h), hb := f _ _ k.hb (by intro _ h; cases h), hc := f _ _ k.hc (by intro _ h; cases h) }, l⟩, hnt, t⟩
  see {n W H q o} h hq no nl := by
    obtain ⟨⟨b, c, i, bs, cs, k, l⟩, hnt, ht⟩ := h
    have ne : ∀ a xs, H a = some (.lst xs) → a ≠ q := fun a xs ha z => by rw [z, hq] at ha; exact nl xs (Option.some.inj ha)
    refine ⟨⟨b, c, i, bs, cs, { k with sub := fun a o' ha => ?_, gs := by rw [upd_ne (ne _ _ k.hs)]; exact k.gs, gb := by rw [upd_ne (ne _ _ k.hb)]; exact k.gb, gc := by rw [upd_ne (ne _ _ k.hc)]; exact k.gc }, l⟩, fun a o' ha => ?_, ht⟩
    · by_cases z : a = q
      · subst z; rw [upd_same] at ha; rw [hq]; exact ha
      · rw [upd_ne z] at ha; exact k.sub _ _ ha
    · by_cases z : a = q
      · subst z; rw [upd_same] at ha; cases ha; exact no
      · rw [upd_ne z] at ha; exact hnt _ _ ha
/-- an object that is no list comes into sight -/
def rSt (s : Addr) : VP := ⟨fun v _ => v = .ref s, fun _ h => h⟩
def M.draw (m : Int) : M Int := fun Q _ n => (n ≤ 1000000 ∧ 0 < m ∧ m < 2 ^ 100) ∧ ∀ d, 0 ≤ d → d < m → Q d (n + 1)
open Classical in
/-- the view with all tables in it -/
theorem big_view {TB : List (Addr × Str)} {s : Addr} {n : Nat} {W H : Hp} (t : (thV (TB := TB) s).T n W H) : ∃ G', View s n G' H ∧ ∀ n' H', View s n' G' H' → (thV (TB := TB) s).T n' W H' := by
  obtain ⟨⟨b, c, i, bs, cs, k, l⟩, hnt, ht⟩ := t
  let G' : Hp := fun q => match W q with
    | some o => some o
    | none => if (∃ ps, H q = some (.tbl ps)) ∨ (∃ r, H q = some (LamX.CodeO q r)) then H q else none
  have gw : ∀ q o, W q = some o → G' q = some o := fun q o h => by simp only [G', h]
  have gh : ∀ q o, G' q = some o → H q = some o := fun q o h => by
    simp only [G'] at h
    cases z : W q with
    | some u => rw [z] at h; cases h; exact k.sub _ _ z
    | none => rw [z] at h; simp only at h; split at h
              · exact h
              · cases h
  have gt : ∀ q, ((∃ ps, H q = some (.tbl ps)) ∨ (∃ r, H q = some (LamX.CodeO q r))) → G' q = H q := fun q h => by
    simp only [G']
    cases z : W q with
    | some u => simp only; exact (k.sub _ _ z).symm
    | none => simp only; rw [if_pos h]
  have gn : ∀ q vs, W q = none → H q = some (.lst vs) → G' q = none := fun q vs h1 h2 => by
    simp only [G', h1]
    rw [if_neg]
    rintro (⟨ps, e⟩ | ⟨r, e⟩)
    · rw [h2] at e; cases e
    · rw [h2] at e; cases e
  refine ⟨G', ⟨b, c, i, bs, cs, { k with sub := gh, gs := gn _ _ k.gs k.hs, gb := gn _ _ k.gb k.hb, gc := gn _ _ k.gc k.hc }, l⟩, fun n' H' v => ?_⟩
  obtain ⟨b', c', i', bs', cs', k', l'⟩ := v
  have wn : ∀ q, G' q = none → W q = none := fun q h => by
    cases z : W q with
    | none => rfl
    | some u => rw [gw _ _ z] at h; cases h
  refine ⟨⟨b', c', i', bs', cs', { k' with sub := fun q o h => k'.sub _ _ (gw _ _ h), gs := wn _ k'.gs, gb := wn _ k'.gb, gc := wn _ k'.gc }, l'⟩, hnt, fun p hp => ?_⟩
  obtain ⟨ps, h1, h2, h3⟩ := ht p hp
  refine ⟨ps, k'.sub _ _ ((gt _ (.inl ⟨_, h1⟩)).trans h1), h2, fun pos cv hc => ?_⟩
  obtain ⟨c, e1, e2⟩ := h3 pos cv hc
  exact ⟨c, e1, k'.sub _ _ ((gt _ (.inr ⟨_, e2⟩)).trans e2)⟩
/-- the drawing def as its callers see it -/
theorem sp_draw {mg : Str → Option Value} {K : PySem.W.Frag} {TB : List (Addr × Str)} {vs : List V} {H : Hp} {Q : VK} {E : XK} (h : spT mg K TB thV (fun s (m : Int × Unit) => [rSt s, rInt m.1]) (fun m => M.draw m.1) (Fz rInt) vs H Q E) : spDraw vs H Q E := by
  obtain ⟨s, m, G, W, n, Φ, Ψ, r, gw, t, ⟨⟨h1, h2, h3⟩, hm⟩, k, x⟩ := h
  cases r with
  | cons a r =>
    cases r with
    | cons b r =>
      cases r
      have a : _ = V.ref s := a
      have b : _ = V.int m.1 := b
      subst a b
      obtain ⟨G', v', back⟩ := big_view t
      exact ⟨s, n, G', m.1, rfl, v', h1, h2, h3, fun d H' d0 d1 v => k d (n + 1) (.int d) G W H' (hm d d0 d1) (Stp.refl gw) (back _ _ v) rfl trivial⟩
end VL

namespace VL
open PySem PySem.Spec PyProof.Rows L2
section
variable {C : Cfg} {ρ α β γ δ : Type} {Rr : ρ → SL} {ps : List SL} {te ta tb : TE} {tt : TT} {t u : TS}
/-! ### displays by their data -/
theorem repL_map {R : β → VP} {G : Hp} : ∀ {xs : List β} {vs : List V}, RepL (xs.map R) vs G → reps R xs vs G
  | [], _, .nil => trivial
  | _ :: _, _, .cons a r => ⟨a, repL_map r⟩
theorem ve_lstL (R : β → VP) (f : α → List β) {ta : TA} {m : M α} {Rs : α → List VP} (ha : VA C ta ps m Rs) (hR : ∀ a, Rs a = (f a).map R := by intro _; rfl) (hl : ∀ a, (f a).length ≤ 1000 := by intro _; exact Nat.le_of_ble_eq_true rfl) :
    VE C (tLst ta) ps (M.bind m fun a => M.pure (f a)) (Ow (cLst R)) :=
  ve_map f (ve_lst (fun a => cLst R (f a)) ha (fun a => by rw [hR, List.length_map]; exact hl a) fun a vs G h => ⟨vs, rfl, repL_map (by rw [← hR]; exact h)⟩) fun _ => rfl
theorem ve_tupL (R : β → VP) (f : α → List β) {ta : TA} {m : M α} {Rs : α → List VP} (ha : VA C ta ps m Rs) (hR : ∀ a, Rs a = (f a).map R := by intro _; rfl) (hl : ∀ a, (f a).length ≤ 1000 := by intro _; exact Nat.le_of_ble_eq_true rfl) :
    VE C (tTup ta) ps (M.bind m fun a => M.pure (f a)) (Fz (rTup R)) :=
  ve_map f (ve_tup (fun a => rTup R (f a)) ha (fun a => by rw [hR, List.length_map]; exact hl a) fun a p vs G hp h => ⟨p, vs, rfl, hp, repL_map (by rw [← hR]; exact h)⟩) fun _ => rfl
theorem ve_tup2 {Ra : α → VP} {Rb : β → VP} {ta : TA} {m : M (α × β × Unit)} (ha : VA C ta ps m (fun q => Ra q.1 :: Rb q.2.1 :: [])) : VE C (tTup ta) ps (M.bind m fun q => M.pure (q.1, q.2.1)) (Fz (rPr Ra Rb)) :=
  ve_map (fun q : α × β × Unit => (q.1, q.2.1)) (ve_tup (fun q : α × β × Unit => rPr Ra Rb (q.1, q.2.1)) ha (fun a => Nat.le_of_ble_eq_true rfl) fun a p vs G hp h => by
    cases h with
    | cons h1 h =>
      cases h with
      | cons h2 h =>
        cases h
        exact ⟨p, _, _, rfl, hp, h1, h2⟩) fun _ => rfl
theorem ve_dat {R : α → VP} [I : IsD R] {m : M α} (h : VE C te ps m (Fz R)) : VE C te ps (M.bind m fun a => M.pure (IsD.d R a)) (Fz rDat) := ve_weakM (IsD.d R) h fun a v G h => I.dq a v G h
theorem ve_none {R : α → VP} {m : M Unit} (h : VE C te ps m (Fz rNon)) : VE C te ps (M.bind m fun _ => M.pure none) (Fz (rOpt R)) := ve_weakM (fun _ => none) h fun _ _ _ h => h
theorem ve_some {R : α → VP} {m : M α} (h : VE C te ps m (Fz R)) : VE C te ps (M.bind m fun a => M.pure (some a)) (Fz (rOpt R)) := ve_weakM some h fun _ _ _ h => h
theorem ve_prT {R : α → VP} {m : M (α × α)} (h : VE C te ps m (Fz (rPr R R))) : VE C te ps (M.bind m fun a => M.pure [a.1, a.2]) (Fz (rTup R)) := ve_weakM (S := rTup R) (fun a => [a.1, a.2]) h fun a v G ⟨p, x, y, e, h1, h2, h3⟩ => ⟨p, _, e, h1, h2, h3, trivial⟩
/-! ### None or a value -/
def NoNone {α : Type} (R : α → VP) : Prop := ∀ a v G, (R a).P v G → v ≠ .non
theorem nn_int : NoNone rInt := fun a v G h e => by rw [show v = .int a from h] at e; cases e
theorem nn_bool : NoNone rBl := fun a v G h e => by rw [show v = .bl a from h] at e; cases e
theorem nn_str : NoNone rStr := fun a v G h e => by rw [show v = .str a from h] at e; cases e
theorem nn_list {R : α → VP} : NoNone (rLst R) := fun a v G ⟨p, _, h, _⟩ e => by rw [h] at e; cases e
theorem nn_tuple {R : α → VP} : NoNone (rTup R) := fun a v G ⟨p, _, h, _⟩ e => by rw [h] at e; cases e
theorem nn_tup2 {R : α → VP} {S : β → VP} : NoNone (rPr R S) := fun a v G ⟨p, _, _, h, _⟩ e => by rw [h] at e; cases e
theorem v2_isN' {R : α → VP} (hn : NoNone R) : V2 C (fun x y H Q => y = .non ∧ Q (.bl (decide (x = .non))) H) (rOpt R) rNon (fun q _ => M.pure q.isNone) (Fz rBl) := by
  intro q _ v u σ G W H n Q Φ Ψ hv hu st hm k x
  exact v2_isN q () v u σ G W H n Q Φ Ψ hv hu st ⟨fun a _ v G h => hn a v G h, hm⟩ k x
theorem v2_notN' {R : α → VP} (hn : NoNone R) : V2 C (fun x y H Q => y = .non ∧ Q (.bl (!decide (x = .non))) H) (rOpt R) rNon (fun q _ => M.pure q.isSome) (Fz rBl) := by
  intro q _ v u σ G W H n Q Φ Ψ hv hu st hm k x
  exact v2_notN q () v u σ G W H n Q Φ Ψ hv hu st ⟨fun a _ v G h => hn a v G h, hm⟩ k x
theorem ve_isN {R : α → VP} {m : M (Option α)} (hn : NoNone R) (h : VE C ta ps m (Fz (rOpt R))) : VE C (tOp (fun x y H Q => y = .non ∧ Q (.bl (decide (x = .non))) H) ta (tC .non)) ps (M.bind m fun q => M.pure q.isNone) (Fz rBl) := ve_op2 h (ve_c rNon () fun _ => rfl) (v2_isN' hn)
theorem ve_notN {R : α → VP} {m : M (Option α)} (hn : NoNone R) (h : VE C ta ps m (Fz (rOpt R))) : VE C (tOp (fun x y H Q => y = .non ∧ Q (.bl (!decide (x = .non))) H) ta (tC .non)) ps (M.bind m fun q => M.pure q.isSome) (Fz rBl) := ve_op2 h (ve_c rNon () fun _ => rfl) (v2_notN' hn)
theorem ve_fst {R : α → VP} {S : β → VP} {m : M (α × β)} (h : VE C ta ps m (Fz (rPr R S))) : VE C (tOp (rIxT C.K) ta (tC (.int 0))) ps (M.bind m fun q => M.pure q.1) (Fz R) := by
  intro σ G W H n Q Φ Ψ e st hm k x
  refine h σ G W H n _ (fun q n' => Φ q.1 n') Ψ e st hm ?_ x
  rintro q n1 v G1 W1 H1 h1 s1 t1 ⟨p, a, b, rfl, h2, h3, h4⟩ _
  have st1 := st.stp s1 t1
  exact ⟨p, _, 0, a, rfl, rfl, SqT.of (st1.gh _ _ h2), rfl, (k.stp s1).hereF st1 h1 h3⟩
theorem ve_snd {R : α → VP} {S : β → VP} {m : M (α × β)} (h : VE C ta ps m (Fz (rPr R S))) : VE C (tOp (rIxT C.K) ta (tC (.int 1))) ps (M.bind m fun q => M.pure q.2) (Fz S) := by
  intro σ G W H n Q Φ Ψ e st hm k x
  refine h σ G W H n _ (fun q n' => Φ q.2 n') Ψ e st hm ?_ x
  rintro q n1 v G1 W1 H1 h1 s1 t1 ⟨p, a, b, rfl, h2, h3, h4⟩ _
  have st1 := st.stp s1 t1
  exact ⟨p, _, 1, b, rfl, rfl, SqT.of (st1.gh _ _ h2), rfl, (k.stp s1).hereF st1 h1 h4⟩
/-! ### lent slots -/
theorem ve_lendO {m : M (List α)} {R : α → VP} {i : Nat} {c : CP} {q : VP} (hi : ps[i]? = some (.ow c)) (hc : ∀ p o G, c.P o G → G p = none → q.P (.ref p) (upd G p o)) (hR : Flat R) (h : VE C te (ps.set i (.fr q)) m (Ow (cLst R))) : VE C te ps (M.nox m) (Ow (cLst R)) := by
  intro σ G W H n Q Φ Ψ e st hm k x
  obtain ⟨v, hσ, p, o, rfl, hw, hg, hb, hP⟩ := e.at_ hi (by simp)
  have back : ∀ {G' W' : Hp}, Stp (upd G p o) W G' W' → Stp G W G W' := fun s => ⟨Same.refl _, s.w, st.gw.trans s.w, fun q x hq => .inl hq⟩
  refine h σ (upd G p o) W H n Q Φ (fun _ _ => False) (e.show hi hσ hw hg (hc p o G hP hg)) (st.show hw hg hb) hm (fun a n' v G' W' H' hΦ s t r f => ?_) xt_no
  obtain ⟨a', o', e1, h1, h2, h3, us, rfl, h4⟩ := r
  have fl : ∀ {xs : List α} {vs : List V}, reps R xs vs G' → reps R xs vs G := by
    intro xs
    induction xs with
    | nil => intro vs h; cases vs with
      | nil => trivial
      | cons _ _ => exact h.elim
    | cons x xs ih => intro vs h; cases vs with
      | nil => exact h.elim
      | cons v vs => exact ⟨hR x v G' G h.1, ih h.2⟩
  refine k a n' v G W' H' hΦ (back s) t ⟨a', _, e1, h1, ?_, h3, us, rfl, fl h4⟩ f
  exact (s.g.free h2 |> (same_upd hg).free)
theorem vt_lend {m : M Bool} {i : Nat} {c : CP} {q : VP} (hi : ps[i]? = some (.ow c)) (hc : ∀ p o G, c.P o G → G p = none → q.P (.ref p) (upd G p o)) (h : VT C tt (ps.set i (.fr q)) m) : VT C tt ps (M.nox m) := by
  intro σ G W H n Q Φ Ψ e st hm k x
  obtain ⟨v, hσ, p, o, rfl, hw, hg, hb, hP⟩ := e.at_ hi (by simp)
  exact h σ (upd G p o) W H n Q Φ (fun _ _ => False) (e.show hi hσ hw hg (hc p o G hP hg)) (st.show hw hg hb) hm (fun a n' G' W' H' hΦ s t => k a n' G W' H' hΦ ⟨Same.refl _, s.w, st.gw.trans s.w, fun q x hq => .inl hq⟩ t) xt_no
/-! ### comprehensions: which slots are wiped -/
theorem hv1 {i : Nat} (h : ps[i]? = some .un) : ∀ k ∈ [i], ps[k]? = some .un := fun k hk => by rw [List.mem_singleton.mp hk]; exact h
theorem hv2 {i j : Nat} (h : ps[i]? = some .un) (h2 : ps[j]? = some .un) : ∀ k ∈ [i, j], ps[k]? = some .un := fun k hk => by
  rcases List.mem_cons.mp hk with rfl | hk
  · exact h
  · exact hv1 h2 k hk
theorem hv3 {i j l : Nat} (h : ps[i]? = some .un) (h2 : ps[j]? = some .un) (h3 : ps[l]? = some .un) : ∀ k ∈ [i, j, l], ps[k]? = some .un := fun k hk => by
  rcases List.mem_cons.mp hk with rfl | hk
  · exact h
  · exact hv2 h2 h3 k hk
/-! ### calls, whose arguments' kinds are told by reduction -/
theorem va_eq {t : TA} {m : M α} {Rs Rs' : α → List VP} (h : VA C t ps m Rs') (hR : ∀ a, Rs' a = Rs a) : VA C t ps m Rs := by
  have : Rs' = Rs := funext hR
  subst this; exact h
theorem ve_callF {Rs Rs' : α → List VP} {F : α → M β} {Rr : β → SL} {m : M α} {E : XK} {t : TA} (ha : VA C t ps m Rs') (hR : ∀ a, Rs' a = Rs a := by intro _; rfl) (hr : ∀ b p, Rr b ≠ .bo p := by intro _ _ h; cases h) : VE C (tCall (spG C.mg C.K C.TB Rs F Rr) [] E t) ps (M.bind m fun a => M.nox (F a)) Rr := ve_call (va_eq ha hR) hr
theorem ve_callFT {Θ : Addr → Th C.TB} {s : Addr} {Rs : Addr → α → List VP} {Rs' : α → List VP} {F : α → M β} {Rr : β → SL} {m : M α} {E : XK} {t : TA} (hΘ : C.Θ = Θ s) (ha : VA C t ps m Rs') (hR : ∀ a, Rs' a = Rs s a := by intro _; rfl) (hr : ∀ b p, Rr b ≠ .bo p := by intro _ _ h; cases h) : VE C (tCall (spT C.mg C.K C.TB Θ Rs F Rr) [] E t) ps (M.bind m fun a => M.nox (F a)) Rr := ve_callT hΘ (va_eq ha hR) hr
/-- the state as an argument: it is no datum -/
theorem va_st (s : Addr) {i : Nat} {Rs : β → List VP} {tr : TA} {mb : M β} (hr : VA C tr ps mb Rs) (hi : ps[i]? = some (.fr (rSt s)) := by rfl) : VA C (tCons (tVar i) tr) ps mb (fun q => rSt s :: Rs q) := by
  intro σ G W H n Q Φ Ψ e st hm k x
  obtain ⟨v, hσ, hv⟩ := e.at_ hi (by simp)
  refine ⟨v, hσ, hr σ G W H n _ Φ Ψ e st hm (fun b n2 vs G2 W2 H2 h2 s2 t2 r2 => k b n2 (v :: vs) G2 W2 H2 h2 s2 t2 (.cons hv r2)) x⟩
/-! ### keywords -/
theorem ve_callK {Rs : α → List VP} {F : α → M β} {Rr : β → SL} {m1 : M γ} {m2 : M δ} {E : XK} {t tk : TA} {R1 : γ → List VP} {R2 : δ → List VP} {gV : List V → List V → List V} (f : γ → δ → α) (ha : VA C t ps m1 R1) (hk : VA C tk ps m2 R2)
    (hg : ∀ a b vs zs G, RepL (R1 a) vs G → RepL (R2 b) zs G → RepL (Rs (f a b)) (gV vs zs) G) (hr : ∀ b p, Rr b ≠ .bo p := by intro _ _ h; cases h) :
    VE C (tCallK (spG C.mg C.K C.TB Rs F Rr) gV E t tk) ps (M.bind m1 fun a => M.bind m2 fun b => M.nox (F (f a b))) Rr := by
  intro σ G W H n Q Φ Ψ e st hm k x
  refine ha σ G W H n _ (fun a n' => M.bind m2 (fun b => M.nox (F (f a b))) Φ Ψ n') Ψ e st hm (fun a n1 vs G1 W1 H1 hm1 s1 t1 r1 => ?_) x
  have st1 := st.stp s1 t1
  refine hk σ G1 W1 H1 n1 _ (fun b n' => M.nox (F (f a b)) Φ Ψ n') Ψ (e.stp s1) st1 hm1 (fun b n2 zs G2 W2 H2 hm2 s2 t2 r2 => ?_) (x.stp s1)
  have st2 := st1.stp s2 t2
  have s12 := s1.trans s2
  refine ⟨C.Θ, f a b, G2, W2, n2, Φ, fun _ _ => False, hg a b vs zs G2 (r1.up s2.g) r2, st2.gw, st2.t, hm2, fun b n3 v G3 W3 H3 hΦ s3 t3 r3 f3 => ?_, fun _ _ _ _ _ _ _ h => h.elim⟩
  exact (k.stp s12) b n3 v G3 W3 H3 hΦ s3 t3 (res_call st2.bw r3 (hr b)) f3
/-! ### join -/
def M.join (a : Str) (ys : List Str) : M Str := M.when ((ys.map (·.length)).sum + ys.length * a.length ≤ 16777216) (Txt.join a ys)
theorem ve_join {to te : TE} {m : M Str} {m2 : M (List Str)} (ho : VE C to ps m (Fz rStr)) (he : VE C te ps m2 (Fz (rLst rStr))) :
    VE C (tM1 (fun x xs H Q => ∃ a p, ∃ ys : List Str, x = .str a ∧ xs = [.ref p] ∧ (SqL C.K H p (ys.map V.str) ∨ SqT C.K H p (ys.map V.str)) ∧ (ys.map (·.length)).sum + ys.length * a.length ≤ 16777216 ∧ Q (.str (Txt.join a ys)) H) to te) ps
      (M.bind m fun a => M.bind m2 fun ys => M.join a ys) (Fz rStr) := by
  intro σ G W H n Q Φ Ψ e st hm k x
  refine ho σ G W H n _ (fun a n' => M.bind m2 (fun ys => M.join a ys) Φ Ψ n') Ψ e st hm (fun a n1 v G1 W1 H1 hm1 s1 t1 r1 _ => ?_) x
  have r1 : v = .str a := r1
  have st1 := st.stp s1 t1
  refine ⟨⟨a, r1⟩, ?_⟩
  refine he σ G1 W1 H1 n1 _ (fun ys n' => M.join a ys Φ Ψ n') Ψ (e.stp s1) st1 hm1 ?_ (x.stp s1)
  rintro ys n2 u G2 W2 H2 hm2 s2 t2 ⟨p, vs, rfl, h1, h2⟩ _
  have st2 := st1.stp s2 t2
  rw [h2.strs] at h1
  exact ⟨a, p, ys, r1, rfl, .inl (SqL.of (st2.gh _ _ h1)), hm2.1, (k.stp (s1.trans s2)).hereF (a := Txt.join a ys) st2 hm2.2 rfl⟩
/-! ### isinstance -/
theorem ve_isi {R : α → VP} {m : M α} (nm : String) (f : α → Bool) (h : VE C te ps m (Fz R)) (hf : ∀ a v G K, (R a).P v G → ∃ t, TyX K G v t ∧ PySem.W.kitOne K t (.type nm) = some (f a)) : VE C (tCB (rIsi C.K) (tCons te (tCons (tC (.ty nm)) tNil))) ps (M.bind m fun a => M.pure (f a)) (Fz rBl) := by
  intro σ G W H n Q Φ Ψ e st hm k x
  refine h σ G W H n _ (fun a n' => Φ (f a) n') Ψ e st hm (fun a n1 v G1 W1 H1 hm1 s1 t1 r1 _ => ?_) x
  have st1 := st.stp s1 t1
  obtain ⟨t, h1, h2⟩ := hf a v H1 C.K ((R a).up st1.gh r1)
  exact ⟨v, .ty nm, t, .type nm, f a, rfl, .ty nm, h1, h2, (k.stp s1).hereF (a := f a) st1 hm1 rfl⟩
def isD_tuple : PyData → Bool | .tuple _ => true | _ => false
def isD_list : PyData → Bool | .list _ => true | _ => false
def isD_dict : PyData → Bool | .dict _ => true | _ => false
def isD_str : PyData → Bool | .str _ => true | _ => false
def isD_bool : PyData → Bool | .bool _ => true | _ => false
def isD_int : PyData → Bool | .int _ => true | .bool _ => true | _ => false
theorem dq_ty {K : PySem.W.Frag} {G : Hp} {v : V} {d : PyData} (h : Dq G v d) : TyX K G v (match d with | .none => .type "NoneType" | .bool _ => .type "bool" | .int _ => .type "int" | .str _ => .type "str" | .list _ => .type "list" | .tuple _ => .type "tuple" | .dict _ => .type "dict") := by
  cases h with
  | non => exact .base .non
  | bl b => exact .base (.bl b)
  | int i => exact .base (.int i)
  | str x => exact .base (.str x)
  | lst h _ => exact .base (.lst h)
  | tup h _ => exact .base (.tup h)
  | dict h _ => exact .base (.dK h)
theorem ve_isiDtuple {m : M PyData} (h : VE C te ps m (Fz rDat)) : VE C (tCB (rIsi C.K) (tCons te (tCons (tC (.ty "tuple")) tNil))) ps (M.bind m fun a => M.pure (isD_tuple a)) (Fz rBl) := ve_isi "tuple" _ h fun a v G K h => ⟨_, dq_ty h, by cases a <;> rfl⟩
theorem ve_isiDlist {m : M PyData} (h : VE C te ps m (Fz rDat)) : VE C (tCB (rIsi C.K) (tCons te (tCons (tC (.ty "list")) tNil))) ps (M.bind m fun a => M.pure (isD_list a)) (Fz rBl) := ve_isi "list" _ h fun a v G K h => ⟨_, dq_ty h, by cases a <;> rfl⟩
theorem ve_isiDdict {m : M PyData} (h : VE C te ps m (Fz rDat)) : VE C (tCB (rIsi C.K) (tCons te (tCons (tC (.ty "dict")) tNil))) ps (M.bind m fun a => M.pure (isD_dict a)) (Fz rBl) := ve_isi "dict" _ h fun a v G K h => ⟨_, dq_ty h, by cases a <;> rfl⟩
theorem ve_isiDstr {m : M PyData} (h : VE C te ps m (Fz rDat)) : VE C (tCB (rIsi C.K) (tCons te (tCons (tC (.ty "str")) tNil))) ps (M.bind m fun a => M.pure (isD_str a)) (Fz rBl) := ve_isi "str" _ h fun a v G K h => ⟨_, dq_ty h, by cases a <;> rfl⟩
theorem ve_isiDbool {m : M PyData} (h : VE C te ps m (Fz rDat)) : VE C (tCB (rIsi C.K) (tCons te (tCons (tC (.ty "bool")) tNil))) ps (M.bind m fun a => M.pure (isD_bool a)) (Fz rBl) := ve_isi "bool" _ h fun a v G K h => ⟨_, dq_ty h, by cases a <;> rfl⟩
theorem ve_isiDint {m : M PyData} (h : VE C te ps m (Fz rDat)) : VE C (tCB (rIsi C.K) (tCons te (tCons (tC (.ty "int")) tNil))) ps (M.bind m fun a => M.pure (isD_int a)) (Fz rBl) := ve_isi "int" _ h fun a v G K h => ⟨_, dq_ty h, by cases a <;> rfl⟩
theorem ve_isi_list_list {R : α → VP} {m : M (List α)} (h : VE C te ps m (Fz (rLst R))) : VE C (tCB (rIsi C.K) (tCons te (tCons (tC (.ty "list")) tNil))) ps (M.bind m fun _ => M.pure true) (Fz rBl) := ve_isi "list" (fun _ => true) h fun a v G K ⟨p, vs, e, h1, _⟩ => ⟨.type "list", by subst e; exact .base (.lst h1), rfl⟩
theorem ve_isi_list_tuple {R : α → VP} {m : M (List α)} (h : VE C te ps m (Fz (rLst R))) : VE C (tCB (rIsi C.K) (tCons te (tCons (tC (.ty "tuple")) tNil))) ps (M.bind m fun _ => M.pure false) (Fz rBl) := ve_isi "tuple" (fun _ => false) h fun a v G K ⟨p, vs, e, h1, _⟩ => ⟨.type "list", by subst e; exact .base (.lst h1), rfl⟩
theorem ve_isi_tuple_tuple {R : α → VP} {m : M (List α)} (h : VE C te ps m (Fz (rTup R))) : VE C (tCB (rIsi C.K) (tCons te (tCons (tC (.ty "tuple")) tNil))) ps (M.bind m fun _ => M.pure true) (Fz rBl) := ve_isi "tuple" (fun _ => true) h fun a v G K ⟨p, vs, e, h1, _⟩ => ⟨.type "tuple", by subst e; exact .base (.tup h1), rfl⟩
theorem ve_isi_bool_bool {m : M Bool} (h : VE C te ps m (Fz rBl)) : VE C (tCB (rIsi C.K) (tCons te (tCons (tC (.ty "bool")) tNil))) ps (M.bind m fun _ => M.pure true) (Fz rBl) := ve_isi "bool" (fun _ => true) h fun a v G K e => ⟨.type "bool", by rw [show v = .bl a from e]; exact .base (.bl a), rfl⟩
theorem ve_isi_int_int {m : M Int} (h : VE C te ps m (Fz rInt)) : VE C (tCB (rIsi C.K) (tCons te (tCons (tC (.ty "int")) tNil))) ps (M.bind m fun _ => M.pure true) (Fz rBl) := ve_isi "int" (fun _ => true) h fun a v G K e => ⟨.type "int", by rw [show v = .int a from e]; exact .base (.int a), rfl⟩
theorem ve_isi_int_bool {m : M Int} (h : VE C te ps m (Fz rInt)) : VE C (tCB (rIsi C.K) (tCons te (tCons (tC (.ty "bool")) tNil))) ps (M.bind m fun _ => M.pure false) (Fz rBl) := ve_isi "bool" (fun _ => false) h fun a v G K e => ⟨.type "int", by rw [show v = .int a from e]; exact .base (.int a), rfl⟩
theorem vn_sortedST : Vn C (fun vs H Q => ∃ (a : Addr) (xs : List Str), vs = [V.ref a] ∧ SqT C.K H a (xs.map V.str) ∧ xs.length < 64 ∧ ∀ (ys : List Str) (p : Addr), ys.Perm xs → sortedS ys = true → H p = none → Q (.ref p) (upd H p (.lst (ys.map V.str)))) (fun q : List Str × Unit => [rTup rStr q.1]) (fun q => M.sortS q.1) (Ow (cLst rStr)) := by
  rintro q vs σ G W H n Q Φ Ψ (_ | ⟨⟨p, us, rfl, h1, h2⟩, _ | _⟩) st hm k x
  rw [h2.strs] at h1
  exact ⟨p, q.1, rfl, SqT.of (st.gh _ _ h1), hm.1, fun ns r hp hs hr => k.newO (a := ns) st (hm.2 ns hp hs) hr ⟨_, rfl, reps.of_strs ns⟩⟩
end
end VL

/-! sorted(xs, key=lambda a: (len(a), a)) over tuples of texts -/
namespace VL
open PySem PySem.Spec PyProof.Rows L2 LamX
def lamPar (a : Str) (ap : Pos) : Arguments := { posonlyargs := [], args := [{ arg := a, annotation := none, pos := ap }], vararg := none, kwonlyargs := [], kw_defaults := [], kwarg := none, defaults := [] }
def lamScope (a : Str) : Scope := { kind := .function, names := [(a, .local), ("len", .globalImplicit)], isGenerator := false, isCoroutine := false, more := [] }
def lamBody (a : Str) (j : Nat) (p1 p2 p3 p4 p5 : Pos) : Expr := .Tuple [.Call (.Name "len" p1) [.Name a p2] [] p3, .Name a p4] j p5
theorem lam_key {prog : Program} {w : World} {A : Around} {s : Shared} {mg mb : Str → Option Value} {f c' b : Addr} {qual a : Str} {pm ctv v : Value} {j : Nat} {ap p1 p2 p3 p4 p5 : Pos} {its : Array Value} {d : PyData} {E : Value → Shared → Prop}
    (ho : s.heap.get? f = some (PySem.W.kla_obj "<lambda>" qual (lamPar a ap) (lamBody a j p1 p2 p3 p4 p5) (lamScope a) [] pm c' ctv)) (hcd : s.heap.CodeRec (.ref c') qual)
    (hroom : A.depth < recursionLimit) (lim : s.heap.NoLimit) (hg : s.heap.Ns mainGlobals mg) (hmg : mg "len" = none) (hb : s.heap.Ns builtinsNs mb) (hmb : mb "len" = some (.builtin "len"))
    (hbind : bindArgs (PySem.W.kla_fn "<lambda>" qual (lamPar a ap) (lamBody a j p1 p2 p3 p4 p5) (lamScope a) [] pm (.ref c') ctv) ⟨[.ref b], []⟩ = pure [(a, .ref b)])
    (hv : IsTup s.heap b its) (hsz : its.size ≤ sizeLine) (hr : Reads s.heap (.ref b) d []) (hna : a ≠ "len") (had : (a == ("__debug__" : Str)) = false) :
    wpAny (model prog w) A (call (.ref f) [.ref b]) (PySem.W.KeyPure (.tuple [.int its.size, d]) s) E s := by
  have rc : codeAny (model prog w) A (.call (.ref f) ⟨[.ref b], []⟩) (fun r s' => ∃ u, r = .ok (.ret u) ∧ PySem.W.KeyPure (.tuple [.int its.size, d]) s u s') s := by
    refine PySem.W.kla_callFunE hroom ho rfl rfl rfl rfl hcd ?_
    rw [hbind]
    have hloc : (lamScope a).names.lookup a = some .local := by simp [lamScope, List.lookup]
    refine wpAny_pure (wpAny_newFunctionEnv (by intro x hx; simp [lamScope] at hx; rcases hx with rfl | rfl <;> simp) (by intro x hx; simp at hx; subst hx; exact hloc) (fun h₁ hns hsb => ⟨lim.fresh _ hsb, ?_⟩) rfl)
    have kp : ∀ b o, s.heap.get? b = some o → h₁.get? b = some o := fun b o e => hsb.extBut b o (Nat.ne_of_lt (Heap.lt_size e)) (Heap.get?_push_of_some _ e)
    refine PySem.W.kla_codeExpr ?_
    have var : ∀ {Q : Value → Shared → Prop} {E : Value → Shared → Prop} {p : Pos}, ∀ s' : Shared, s'.heap.Ns s.heap.objs.size (fun x => [(a, Value.ref b)].reverse.lookup x) → Q (.ref b) s' →
        wpAny (model prog w) (A.deeper (PySem.W.envX qual (lamScope a) s.heap.objs.size f (.ref c') [])) (eval (.Name a p) (PySem.W.envX qual (lamScope a) s.heap.objs.size f (.ref c') [])) Q E s' := fun s' hn hq =>
      wpAny_Name (wpAny_loadName_local rfl hloc hn (by simp [List.lookup]) hq) had
    refine wpAny_Tuple_spliced (Calls.spliced_cons ?_)
    refine wpAny_Call_Name_kw (Calls.Name_function_global rfl (by show (lamScope a).names.lookup _ = _; simp [lamScope, List.lookup, beq_eq_false_iff_ne.mpr hna.symm]) (Calls.loadGlobal_builtin (hg.keeps kp) hmg (hb.keeps kp) hmb ?_) (by decide))
    refine callWith_builtin1 (var _ hns ?_)
    have hn := line63
    refine len_tuple (hv.keeps kp) (by omega) ?_
    refine Calls.spliced_cons (var _ hns (Calls.spliced_nil ?_))
    refine ⟨by simp [sizeLine_eq], _, rfl, ⟨_, _, rfl, fun b o e => Heap.get?_push_of_some _ (kp b o e), ?_⟩⟩
    exact .tuple (Heap.get?_push_size _ rfl) rfl rfl (.cons (.int _ _) (.cons (Reads.keeps (fun b o e => Heap.get?_push_of_some _ (kp b o e)) hr) .nil))
  refine wpAny_call (codeAny_mono rc fun r s2 hq => ?_)
  obtain ⟨u, rfl, h⟩ := hq
  exact h
end VL

namespace VL
open PySem PySem.Spec PyProof.Rows L2 LamX
/-- the key of the names' order -/
def keyLK (z : List Str) : PyData := .tuple [.int z.length, .tuple (z.map .str)]
def leLK : List Str → List Str → Bool := PySem.W.dataLe false keyLK
def kSortLam (K : PySem.W.Frag) (T : List (Addr × Str)) (Q : VK) (v : V) (H1 : Hp) : Prop := Tabs T H1 ∧ ∀ H2, ExtN H1 H2 → Tabs T H2 →
  ∃ (p : Addr) (vs : List V) (zs : List (List Str)), v = .ref p ∧ SqL K H2 p vs ∧ DpAll K H2 vs (zs.map fun z => .tuple (z.map .str)) ∧ ∀ a, H2 a = none → Q (.ref a) (upd H2 a (.lst (((zs.zip vs).mergeSort fun x y => leLK x.1 y.1).map (·.2))))
def tSortLam (K : PySem.W.Frag) (T : List (Addr × Str)) (te : TE) : TE := fun σ H Q => te σ H fun v H1 => kSortLam K T Q v H1
theorem alike_strs : ∀ xs ys : List Str, PySem.W.alikeAll (xs.map .str) (ys.map .str) = true
  | [], [] => by simp [PySem.W.alikeAll]
  | [], _ :: _ => by simp [PySem.W.alikeAll]
  | _ :: _, [] => by simp [PySem.W.alikeAll]
  | x :: xs, y :: ys => by simp [PySem.W.alikeAll, PySem.W.alike, alike_strs xs ys]
theorem depth_strs : ∀ xs : List Str, PyData.depthAll (xs.map .str) = 0
  | [] => by simp [PyData.depthAll]
  | x :: xs => by simp [PyData.depthAll, PyData.depth, depth_strs xs]
theorem reads_strs {h : Heap} : ∀ {us : List Value} {xs : List Str} {as : List Addr}, ReadsAll h us (xs.map .str) as → as = []
  | _, [], _, r => by cases r; rfl
  | _, x :: xs, _, r => by
    cases r with
    | cons a b => cases a; rw [reads_strs b]; rfl
/-- an item, as the sort sees it -/
def ItLK (h : Heap) (u : Value) (x : List Str × V) : Prop := RelV x.2 u ∧ ∃ b its, u = .ref b ∧ IsTup h b its ∧ its.size = x.1.length ∧ its.size ≤ sizeLine ∧ Reads h u (.tuple (x.1.map .str)) []
section
variable {X : Cx} {pins : List (Addr × Obj)} {σ : L2.St} {H : Hp} {s : Shared}
theorem items_LK (I : Inv X pins σ H s) : ∀ {vs : List V} {us : List Value} {zs : List (List Str)}, Vals vs us → DpAll X.K H vs (zs.map fun z => .tuple (z.map .str)) → PySem.W.EachIs (ItLK s.heap) us (zs.zip vs)
  | [], _, [], r, _ => by cases r; exact .nil
  | [], _, _ :: _, _, d => nomatch d
  | _ :: _, _, [], _, d => nomatch d
  | v :: vs, _, z :: zs, r, d => by
    cases r with
    | cons r1 r2 =>
      cases d with
      | cons d1 d2 =>
        refine .cons ⟨r1, ?_⟩ (items_LK I r2 d2)
        cases d1 with
        | tup h1 h2 =>
          rename_i a xs
          cases r1
          obtain ⟨its, r', pl, hz⟩ := I.tuple h1
          obtain ⟨as, ra⟩ := Dp.readsAll I _ _ _ h2 r'
          obtain rfl := reads_strs ra
          have hl : its.length = z.length := by
            have e1 := r'.length
            have e2 : xs.length = z.length := by
              have : ∀ {vs : List V} {z : List Str}, DpAll X.K H vs (z.map .str) → vs.length = z.length := fun {vs} {z} => by
                induction vs generalizing z with
                | nil => intro q; cases z with
                  | nil => rfl
                  | cons _ _ => nomatch q
                | cons _ _ ih => intro q; cases z with
                  | nil => nomatch q
                  | cons _ _ => cases q with
                    | cons _ q => simp [ih q]
              exact this h2
            omega
          obtain ⟨o, e1, e2, n, e3⟩ := pl
          refine ⟨a, its.toArray, rfl, ⟨o, e1, e2, n, e3⟩, by simpa using hl, by have := r'.length; simp; omega, .tuple e1 e2 e3 (by simpa using ra)⟩
theorem items_vals {h : Heap} : ∀ {us : List Value} {xs : List (List Str × V)}, PySem.W.EachIs (ItLK h) us xs → Vals (xs.map (·.2)) us
  | _, _, .nil => .nil
  | _, _, .cons a b => .cons a.1 (items_vals b)
end
section
variable {X : Cx} {pins : List (Addr × Obj)} {σ : L2.St} {H : Hp} {s : Shared}
theorem pe_sortLam {e : Expr} {te : TE} {T : List (Addr × Str)} {c P : Addr} {k j : Nat} {a : Str} {p p1 p2 p3 p4 p5 ap lpos kpos pos : Pos} (he : PE X e te) (hg : Gl X "sorted") (hm : X.mg "sorted" = none) (hml : X.mg "len" = none) (TB : TabB X.base X.mg c P) (hcode : X.env.code = .ref c) (hr : Room k X.A)
    (hmT : (P, X.env.qual ++ "<lambda>") ∈ T) (hu : ∀ p ∈ T, p.1 = P → p.2 = X.env.qual ++ "<lambda>")
    (hbind : ∀ (q : Str) (pm cv ctv v : Value), bindArgs (PySem.W.kla_fn "<lambda>" q (lamPar a ap) (lamBody a j p1 p2 p3 p4 p5) (lamScope a) [] pm cv ctv) ⟨[v], []⟩ = pure [(a, v)] := by intros; rfl) (hna : a ≠ "len" := by decide) (had : (a == ("__debug__" : Str)) = false := by decide) (hs : starEach [e] X.env = (false, eval e X.env) :: starEach [] X.env := by rfl) (hpl : (backTo pos (starEach [e] X.env)).any (·.1) = false := by rfl) :
    PE X (.Call (.Name "sorted" p) [e] [{ arg := some "key", value := .Lambda (lamPar a ap) (lamBody a j p1 p2 p3 p4 p5) (lamScope a) lpos, pos := kpos }] pos) (tSortLam X.K T te) := by
  refine ⟨fun pins s σ H Q I h => ?_⟩
  refine wpAny_Call_Name_kw (ld_blt I hg hm (by rfl) ?_)
  have h' : tCons te tNil σ H (fun vs H1 => match vs with | [v] => kSortLam X.K T Q v H1 | _ => False) := h
  refine PyProof.Rows.callWith_kw (thn ((pa_cons he pa_nil hs).run pos pins s σ H _ I h') fun us s1 ⟨vs1, H1, I1, r1, q1⟩ => ?_) (by rw [hs]; rfl) hpl rfl rfl
  have hv : ∃ v, vs1 = [v] := by
    cases vs1 with
    | nil => exact q1.elim
    | cons v r =>
      cases r with
      | nil => exact ⟨v, rfl⟩
      | cons _ _ => exact q1.elim
  obtain ⟨v, rfl⟩ := hv
  obtain ⟨u, rfl, ru⟩ := vals1 r1
  have q1 : kSortLam X.K T Q v H1 := q1
  obtain ⟨hT1, q1⟩ := q1
  show wpAny _ _ (evalAll [(do let v ← eval (.Lambda (lamPar a ap) (lamBody a j p1 p2 p3 p4 p5) (lamScope a) lpos) X.env; standAt pos; pure v)]) _ _ s1
  have hfree : ∀ y ∈ (lamScope a).names, y.2 = .free → ∃ c, X.env.cells.lookup y.1 = some c := fun y hy e => by
    simp [lamScope] at hy
    rcases hy with rfl | rfl <;> cases e
  refine wpAny_evalAll_cons (wpAny_bind (lam_make2 I1 TB hcode hmT hu hT1 rfl hfree fun f c' pm ctv H2 s2 I2 eN hT2 hf hfn hfr hco => wpAny_bind (wpAny_standAt (wpAny_pure (wpAny_evalAll_nil ?_)))))
  obtain ⟨pl, vs, zs, rfl, hq, hd, hQ⟩ := q1 H2 eN hT2
  cases ru
  have hcl : cloFrom X.env.cells (lamScope a).names [] = [] := by simp [lamScope, cloFrom]
  rw [hcl] at hf
  obtain ⟨its, rv, hl, hz⟩ := I2.list hq
  have ei := items_LK I2 rv hd
  obtain ⟨⟨oc, ws, t, hoc, hdc, hvc⟩, _, _⟩ := I2.hok c' _ hco
  obtain ⟨mb, hb1, hb2⟩ := I2.mod.blt
  have hun := hr.units
  have hdp := hr.depth
  refine PySem.W.sorted_key_data (b := false) (R := ItLK s2.heap) (fun x : List Str × V => keyLK x.1) hl.isList ei (PySem.W.AllAlike.of fun x y => by simp [keyLK, PySem.W.alike, PySem.W.alikeAll, alike_strs]) (PySem.W.Sortable.tuples fun _ => ⟨_, _, rfl⟩)
    (by rw [List.length_zip]; omega) (fun x _ => by
      have hd : (keyLK x.1).depth = 2 := by simp [keyLK, PyData.depth, PyData.depthAll, depth_strs]
      omega) (ksk_s1 _ _) (fun _ => ksk_l1 _ _) (fun _ => ksk_t1 _ _) (fun u x hR _ h tk kp => ?_) fun out cc h' tk kp _ hD hlen eo => ?_
  · obtain ⟨_, b, its, rfl, ht, hsz, hsz2, hrd⟩ := hR
    have := lam_key (v := .none) (prog := X.prog) (w := X.w) (A := X.A.in1.in1) (s := { s2 with heap := h, toks := tk }) (mg := X.mg) (mb := mb) (E := fun _ _ => False) (kp _ _ hf) ⟨c', oc, ws, t, rfl, kp _ _ hoc, hdc, hvc⟩ (show X.A.depth < _ from hdp) (I2.nolimit.keeps kp) ((I2.mod.glob.keeps I2.bk).keeps kp) hml ((hb1.keeps I2.bk).keeps kp) (hb2 _ (by decide)) (hbind _ _ _ _ _) (ht.keeps kp) hsz2 (Reads.keeps kp hrd) hna had
    rw [hsz] at this
    exact this
  · have rv2 := items_vals eo
    have hf2 : H2 (s2.heap.objs.size + 1) = none := I2.hok.fresh (Nat.le_succ _)
    refine ⟨.ref _, upd H2 (s2.heap.objs.size + 1) (.lst (((zs.zip vs).mergeSort fun x y => leLK x.1 y.1).map (·.2))), I2.laid (t' := tk) kp (Nat.le_succ _) ⟨?_, out, cc, rv2, hD⟩, rfl, hQ _ hf2⟩
    rw [List.length_map, List.length_mergeSort, List.length_zip]
    omega
end
/-! ### typed -/
def sortLK (xs : List (List Str)) : List (List Str) := xs.mergeSort leLK
theorem reps_zip {α : Type} {R : α → VP} {G : Hp} : ∀ {xs : List α} {vs : List V}, reps R xs vs G → ∀ p ∈ xs.zip vs, (R p.1).P p.2 G
  | [], [], _, p, h => by simp at h
  | x :: xs, v :: vs, h, p, hp => by
    rw [List.zip_cons_cons, List.mem_cons] at hp
    rcases hp with rfl | hp
    · exact h.1
    · exact reps_zip h.2 p hp
theorem reps_of_zip {α : Type} {R : α → VP} {G : Hp} : ∀ {l : List (α × V)}, (∀ p ∈ l, (R p.1).P p.2 G) → reps R (l.map (·.1)) (l.map (·.2)) G
  | [], _ => trivial
  | p :: l, h => ⟨h p (List.mem_cons_self ..), reps_of_zip fun q hq => h q (List.mem_cons_of_mem _ hq)⟩
theorem fst_zip {α β : Type} : ∀ {xs : List α} {ys : List β}, ys.length = xs.length → (xs.zip ys).map (·.1) = xs
  | [], _, _ => by simp
  | x :: xs, [], h => by simp at h
  | x :: xs, y :: ys, h => by simp; exact fst_zip (by simpa using h)
theorem reps_sort {α : Type} {R : α → VP} {G : Hp} {xs : List α} {vs : List V} (le : α → α → Bool) (h : reps R xs vs G) : reps R (xs.mergeSort le) (((xs.zip vs).mergeSort fun x y => le x.1 y.1).map (·.2)) G := by
  have e : xs.mergeSort le = ((xs.zip vs).mergeSort fun x y => le x.1 y.1).map (·.1) := by
    rw [List.map_mergeSort (r := fun x y : α × V => le x.1 y.1) (s := le) (fun _ _ _ _ => rfl), fst_zip h.len]
  rw [e]
  exact reps_of_zip fun p hp => reps_zip h p ((List.mergeSort_perm _ _).mem_iff.mp hp)
theorem dpAll_rTup {K : PySem.W.Frag} {G : Hp} : ∀ {xs : List (List Str)} {vs : List V}, reps (rTup rStr) xs vs G → DpAll K G vs (xs.map fun z => .tuple (z.map .str))
  | [], [], _ => .nil
  | x :: xs, v :: vs, h => by
    obtain ⟨p, us, rfl, h1, h2⟩ := h.1
    refine .cons (.tup (SqT.of h1) ?_) (dpAll_rTup h.2)
    have : ∀ {xs : List Str} {vs : List V}, reps rStr xs vs G → DpAll K G vs (xs.map .str) := fun {xs vs} => by
      induction xs generalizing vs with
      | nil => intro h; rw [reps.nil h]; exact .nil
      | cons x xs ih => intro h; cases vs with
        | nil => exact h.elim
        | cons v vs => obtain ⟨rfl, h⟩ := h; exact .cons (.str x) (ih h)
    exact this h2
theorem dpAll_up {K : PySem.W.Frag} {G G' : Hp} (e : Same G G') : ∀ {vs : List V} {ds : List PyData}, DpAll K G vs ds → DpAll K G' vs ds
  | [], _, .nil => .nil
  | _ :: _, _, .cons a b => .cons (dp_up e a) (dpAll_up e b)
section
variable {C : Cfg} {ps : List SL} {te : TE} {m : M (List (List Str))}
theorem ve_sortLam (he : VE C te ps m (Fz (rLst (rTup rStr)))) : VE C (tSortLam C.K C.TB te) ps (M.bind m fun xs => M.pure (sortLK xs)) (Ow (cLst (rTup rStr))) := by
  intro σ G W H n Q Φ Ψ e st hm k x
  refine he σ G W H n _ (fun xs n' => M.pure (sortLK xs) Φ Ψ n') Ψ e st hm (fun xs n1 v G1 W1 H1 hm1 s1 t1 r1 _ => ?_) x
  obtain ⟨p, vs, rfl, h1, h2⟩ := r1
  refine ⟨C.Θ.tabs t1, fun H2 eN hT2 => ?_⟩
  have t2 := C.Θ.tset t1 eN hT2
  have st1 : Stt C n1 G1 W1 H2 := st.stp s1 t2
  refine ⟨p, vs, xs, rfl, SqL.of (st1.gh _ _ h1), dpAll_up st1.gh (dpAll_rTup h2), fun a ha => ?_⟩
  exact (k.stp s1).newO (a := sortLK xs) st1 hm1 ha ⟨_, rfl, reps_sort leLK h2⟩
end
end VL

namespace VL
open PySem PySem.Spec PyProof.Rows L2 PySem.Calls
/-! ### machine: sorted of a tuple of texts -/
section
variable {prog : Program} {w : World} {A : Around} {E : Value → Shared → Prop} {s : Shared}
theorem collect_tup {l : Addr} {vs : List Value} {Q : List Value → Shared → Prop} (hl : IsTup s.heap l vs.toArray)
    (h : Q vs { s with heap := (s.heap.push (seqObj "list" #[] 0)).update s.heap.objs.size (Obj.mapSeq (· ++ vs.toArray)) }) (hsz : vs.length ≤ sizeLine) :
    wpAny (model prog w) A (collect (.ref l)) Q E s := by
  obtain ⟨o, ho, hc, n, hd⟩ := id hl
  unfold collect
  refine wpAny_bind (wpAny_runValue (codeAny_builtin entry_proto_collect' ?_))
  show wpAny _ _ (do again (.builtin "list.__iadd__" ⟨[← newList [], .ref l], []⟩)) _ _ s
  refine wpAny_bind (wpAny_newList (wpAny_pure ⟨Code.quiet_builtin _ (by decide +kernel), codeAny_builtin entry_list_iadd' ?_⟩))
  show wpAny _ _ (Builtin.List.listExtendWith (.ref s.heap.objs.size) (.ref l) (.ref s.heap.objs.size)) _ _ { s with heap := s.heap.push (seqObj "list" #[] 0) }
  unfold Builtin.List.listExtendWith
  have ho' : (s.heap.push (seqObj "list" #[] 0)).get? l = some o := Heap.get?_push_of_some _ ho
  refine wpAny_bind (wpAny_typeOf (T := "tuple") ⟨o, ho', hc⟩ ?_)
  rw [if_pos (by rw [show (Value.type "tuple" == Value.type "tuple") = true from rfl]; simp)]
  refine wpAny_bind (listItems_at ho' hd ?_)
  refine wpAny_bind (listItems_at (xs := #[]) (n := 0) (Heap.get?_push_size _ rfl) rfl ?_)
  rw [if_neg (by simp)]
  refine wpAny_bind (listUpdate_at (xs := #[]) (n := 0) (Heap.get?_push_size _ rfl) rfl ?_ (Nat.zero_le _) (by show (#[] ++ vs.toArray).size ≤ sizeLine + 1; simp only [Array.size_append, List.size_toArray, List.length_nil]; omega))
  refine wpAny_pure ?_
  show wpAny (model prog w) A (do
      let o ← load s.heap.objs.size
      match o.data with
      | .seq xs _ => pure xs.toList
      | _ => unsupported "internal:collect") Q E { s with heap := (s.heap.push (seqObj "list" #[] 0)).update s.heap.objs.size (Obj.mapSeq (· ++ vs.toArray)) }
  refine wpAny_bind (wpAny_load (get?_update_seq (Heap.get?_push_size _ rfl) _) ?_)
  show wpAny _ _ (pure ((#[] : Array Value) ++ vs.toArray).toList) Q E _
  rw [show ((#[] : Array Value) ++ vs.toArray).toList = vs by simp]
  exact wpAny_pure h
theorem sorted_strsT {l : Addr} {vs : List Value} {ss : List Str} {Q : Value → Shared → Prop} (hl : IsTup s.heap l vs.toArray) (hS : StrsAre vs ss) (h64 : vs.length < 64)
    (h : ∀ (out : Array Value) (ss' : List Str), StrsAre out.toList ss' → ss'.Perm ss → sortedS ss' = true → Q (.ref (s.heap.objs.size + 1)) { s with heap := sortedAll s.heap vs out }) :
    wpAny (model prog w) A (call (.builtin "sorted") [.ref l]) Q E s := by
  refine Calls.call_function_entry kind_sorted plain_sorted entry_sorted (args_sorted1 _) ?_
  unfold Builtin.«sorted»
  refine wpAny_bind (m := checkCount "sorted" 1 1 _) (wpAny_pure ?_)
  refine wpAny_bind (collect_tup hl ?_ (by rw [sizeLine_eq]; omega))
  refine wpAny_bind (wpAny_newList ?_ (by rw [sizeLine_eq]; omega))
  have hsz : ((s.heap.push (seqObj "list" #[] 0)).update s.heap.objs.size (Obj.mapSeq (· ++ vs.toArray))).objs.size = s.heap.objs.size + 1 := by
    rw [Heap.size_update, size_push']
  have hoL : (((s.heap.push (seqObj "list" #[] 0)).update s.heap.objs.size (Obj.mapSeq (· ++ vs.toArray))).push (seqObj "list" vs.toArray 0)).get? (s.heap.objs.size + 1) = some (seqObj "list" vs.toArray 0) := by
    rw [← hsz]; exact Heap.get?_push_size _ rfl
  show wpAny _ _ _ _ _ { s with heap := ((s.heap.push (seqObj "list" #[] 0)).update s.heap.objs.size (Obj.mapSeq (· ++ vs.toArray))).push (seqObj "list" vs.toArray 0) }
  rw [hsz]
  refine wpAny_bind (wpAny_holding (wpAny_call_entry slot_list_sort ⟨_, hoL, rfl⟩ entry_list_sort (list_sort_treeK strKind_oneLt hoL hS.keysOf (fun v₁ v₂ rest e => keyKind_strs (by rw [← e]; exact hS)) h64 fun st' a1 a2 => ⟨_, rfl, ?_⟩) (args_list_sort _)))
  obtain ⟨ss', h1, h2, h3⟩ := sorted_out_str hS a1 a2
  exact wpAny_pure ⟨_, rfl, h _ ss' h1 h2 h3⟩
/-! ### machine: t[::-1] of a tuple -/
theorem sliceApplied_rev {sl : Addr} {vl vu vk : Value} {n : Nat} {Q : Int × Int × Nat → Shared → Prop} (hs : s.heap.IsSliceOf sl vl vu vk) (pl : IsPart vl none) (pu : IsPart vu none) (pk : IsPart vk (some (-1)))
    (h : Q ((n : Int) - 1, -1, n) s) : wpAny (model prog w) A (Builtin.Slice.sliceApplied (.ref sl) (pure (n : Int))) Q E s := by
  obtain ⟨os, hos, hcs, hds⟩ := id hs
  unfold Builtin.Slice.sliceApplied Builtin.Slice.sliceFields
  refine wpAny_bind (wpAny_bind (wpAny_field hos hds (x := vl) rfl (wpAny_bind (wpAny_field hos hds (x := vu) rfl (wpAny_bind (wpAny_field hos hds (x := vk) rfl (wpAny_pure ?_)))))))
  refine wpAny_bind (HT.slicePart_ pk ?_)
  show wpAny _ _ (if ((-1 : Int) == 0) = true then _ else _) _ _ s
  rw [if_neg (by decide)]
  refine wpAny_bind (HT.slicePart_ pl (wpAny_bind (HT.slicePart_ pu (wpAny_bind (wpAny_pure ?_)))))
  have e : Builtin.Slice.sliceAdjust none none (-1) (n : Int) = ((n : Int) - 1, -1) := by
    unfold Builtin.Slice.sliceAdjust
    simp
  have e2 : Builtin.Slice.slicePlaces ((n : Int) - 1) (-1) (-1) = n := by
    unfold Builtin.Slice.slicePlaces
    simp
    try omega
  show wpAny _ _ (match Builtin.Slice.sliceAdjust none none (-1) (n : Int) with | (lo, hi) => pure (lo, (-1 : Int), Builtin.Slice.slicePlaces lo hi (-1))) _ _ s
  rw [e]
  show wpAny _ _ (pure (((n : Int) - 1), (-1 : Int), Builtin.Slice.slicePlaces ((n : Int) - 1) (-1) (-1))) _ _ s
  rw [e2]
  exact wpAny_pure h
theorem pick_rev (xs : Array Value) : ((List.range xs.size).filterMap fun (m : Nat) => xs[((xs.size : Int) - 1 + (m : Int) * (-1)).toNat]?).toArray = xs.toList.reverse.toArray := by
  have e : (fun (m : Nat) => xs[((xs.size : Int) - 1 + (m : Int) * (-1)).toNat]?) = fun m => xs[((fun k => xs.size - 1 - k) m)]? := by
    funext m
    have : ((xs.size : Int) - 1 + (m : Int) * (-1)).toNat = xs.size - 1 - m := by omega
    rw [this]
  have h := PySem.W.krv_range xs.size
  have h2 : (List.range xs.size).filterMap (fun m => xs[((fun k => xs.size - 1 - k) m)]?) = ((List.range xs.size).map fun k => xs.size - 1 - k).filterMap (xs[·]?) := by
    rw [List.filterMap_map]; rfl
  rw [e, h2, h, List.filterMap_reverse, PySem.W.krv_all]
theorem getItem_tuple_rev {t sl : Addr} {items : Array Value} {vl vu vk : Value} {Q : Value → Shared → Prop} (ht : IsTup s.heap t items) (hs : s.heap.IsSliceOf sl vl vu vk) (pl : IsPart vl none) (pu : IsPart vu none) (pk : IsPart vk (some (-1)))
    (h : Q (.ref s.heap.objs.size) { s with heap := s.heap.push { cls := .type "tuple", data := .seq items.toList.reverse.toArray } })
    (hsz : items.size ≤ sizeLine) : wpAny (model prog w) A (getItem (.ref t) (.ref sl)) Q E s := by
  have htake : sizeOk (.seq items.toList.reverse.toArray) := by
    show items.toList.reverse.toArray.size ≤ sizeLine
    rw [List.size_toArray, List.length_reverse, Array.length_toList]
    omega
  obtain ⟨os, hos, hcs, hds⟩ := id hs
  have hTs : s.TypeIs (.ref sl) "slice" := ⟨os, hos, hcs⟩
  unfold getItem
  try with_reducible refine wpAny_holding ?_
  first | refine wpAny_bind (wpAny_pure ?_) | skip
  refine wpAny_bind (wpAny_sequenceKey ht.typeIs (by decide) ?_)
  refine wpAny_bind (wpAny_callSpecial?_slot (name := Str.ofString "__getitem__") ht.typeIs PyProof.Rows.slot_tuple_getitem
    (wpAny_call_entry PyProof.Rows.slot_tuple_getitem ht.typeIs entry_tuple_getitem ?_ (args_tuple_getitem _ _)))
  show wpAny _ _ (Builtin.Tuple.tupleItemsOf (.ref t) >>= _) _ _ s
  refine wpAny_bind (PyProof.Rows.tupleItemsOf_ ht ?_)
  refine wpAny_bind (wpAny_typeOf hTs ?_)
  rw [if_pos (by decide)]
  refine wpAny_bind (sliceApplied_rev hs pl pu pk ?_)
  have hno : ¬ ((((items.size : Int) - 1) == 0 && (-1 : Int) == 1 && items.size == items.size) = true) := by
    intro q
    rw [Bool.and_eq_true, Bool.and_eq_true] at q
    exact absurd (eq_of_beq q.1.2) (by decide)
  show wpAny _ _ (if (((items.size : Int) - 1) == 0 && (-1 : Int) == 1 && items.size == items.size) = true then _ else _) _ _ s
  rw [if_neg hno, pick_rev]
  first
    | exact wpAny_bind (m := Builtin.Tuple.tupleExact _) (wpAny_newObj_type (wpAny_pure ⟨_, rfl, wpAny_pure h⟩) htake)
    | exact wpAny_bind (m := Builtin.Tuple.tupleExact _) (wpAny_newObj_type (wpAny_bind (wpAny_pure (wpAny_pure ⟨_, rfl, wpAny_pure h⟩))) htake)
    | exact wpAny_bind (wpAny_bind (m := Builtin.Tuple.tupleExact _) (wpAny_newObj_type (wpAny_pure (wpAny_pure ⟨_, rfl, wpAny_pure h⟩)) htake))
    | exact wpAny_bind (wpAny_bind (m := Builtin.Tuple.tupleExact _) (wpAny_newObj_type (wpAny_pure ⟨_, rfl, wpAny_pure h⟩) htake))
end
section
variable {X : Cx}
theorem cr_sortedST : CallR X (.builtin "sorted") (fun vs H Q => ∃ (a : Addr) (xs : List Str), vs = [V.ref a] ∧ SqT X.K H a (xs.map V.str) ∧ xs.length < 64 ∧ ∀ (ys : List Str) (p : Addr), ys.Perm xs → sortedS ys = true → H p = none → Q (.ref p) (upd H p (.lst (ys.map V.str)))) := by
  intro pins s σ H vs us Q I r h
  obtain ⟨a, xs, rfl, hs, h64, q⟩ := h
  obtain ⟨its, rv, hl, _⟩ := I.tuple hs
  rw [Vals.ref1 r]
  have hlen0 := rv.length
  rw [List.length_map] at hlen0
  refine sorted_strsT hl rv.strs (by rw [← hlen0]; exact h64) fun out ys h1 h2 h3 => ?_
  obtain ⟨ep, he'⟩ := PyProof.Rows.sortedAll_at s.heap its out
  have hlen : (ys.map V.str).length ≤ sizeLine := by rw [List.length_map, h2.length_eq]; exact small64 h64
  exact ⟨.ref _, upd H (s.heap.objs.size + 1) (.lst (ys.map V.str)), I.laid (t' := s.toks) (fun _ _ => PyProof.Rows.sortedAll_old) (Nat.le_succ _) ⟨hlen, out.toList, ep, vals_of_strs h1, he'⟩, rfl, q ys _ h2 h3 (I.hok.fresh (Nat.le_succ _))⟩
def tRevT (K : PySem.W.Frag) (te : TE) : TE := fun σ H Q => te σ H fun x H1 => ∃ a xs, x = .ref a ∧ SqT K H1 a xs ∧ ∀ p, H1 p = none → Q (.ref p) (upd H1 p (.tup xs.reverse))
theorem pe_revT {e : Expr} {te : TE} {k : Nat} {p1 p2 p3 pos : Pos} (he : PE X e te) : PE X (.Subscript e (.Slice none none (some (.UnaryOp .USub (.Constant (.int 1) k p1) p2)) p3) pos) (tRevT X.K te) := by
  refine ⟨fun pins s σ H Q I h => ?_⟩
  refine Subscript_ (thn (he.run pins s σ H _ I h) fun v s1 ⟨x, H1, I1, r1, q1⟩ => ?_)
  obtain ⟨a, xs, ex, hx, q⟩ := q1
  subst ex
  cases r1
  have hst : PO X (some (.UnaryOp .USub (.Constant (.int 1) k p1) p2)) (tPart (tUn (rU fun i => .int (-i)) (tC (.int 1)))) := po_some (pe_un un_neg pe_int)
  refine wpAny_Slice (thn (po_none.run pins s1 σ H1 (fun o H2 => o = none ∧ H2 = H1) I1 ⟨rfl, rfl⟩) fun vl s2 ⟨l, H2, I2, pl, el, e2⟩ => ?_)
  subst el e2
  refine thn (po_none.run pins s2 σ H2 (fun o H3 => o = none ∧ H3 = H2) I2 ⟨rfl, rfl⟩) fun vu s3 ⟨u, H3, I3, pu, eu, e3⟩ => ?_
  subst eu e3
  refine thn (hst.run pins s3 σ H3 (fun o H4 => o = some (-1) ∧ H4 = H3) I3 ⟨1, rfl, -1, rfl, rfl, rfl⟩) fun vs s4 ⟨o, H4, I4, ps, eo, e4⟩ => ?_
  subst eo e4
  have I5 : Inv X pins σ H4 { s4 with heap := s4.heap.push { cls := .type "slice", data := .fields #[vl, vu, vs] } } := I4.kept (t' := s4.toks) fun b ob q => Heap.get?_push_of_some _ q
  obtain ⟨its, r, ht, hz⟩ := I5.tuple hx
  have hlen := r.length
  show wpAny (model X.prog X.w) X.A (subscriptTail e (.Slice none none (some (.UnaryOp .USub (.Constant (.int 1) k p1) p2)) p3) (.ref a) (.ref s4.heap.objs.size)) (EP X pins σ Q) X.xe { s4 with heap := s4.heap.push { cls := .type "slice", data := .fields #[vl, vu, vs] } }
  refine tail_any (ops := [.ref a, .ref s4.heap.objs.size]) ht.typeIs (PyProof.Rows.slot_tuple_getitem.lookup) ?_ (by with_unfolding_all rfl)
  refine getItem_tuple_rev ht (Heap.IsSliceOf.new _ vl vu vs) pl pu ps ?_ (by rw [List.size_toArray]; omega)
  refine ⟨.ref _, _, I5.laid (t' := s4.toks) (o := .tup xs.reverse) (fun b ob q => Heap.get?_push_of_some _ q) (Nat.le_refl _) ?_, rfl, q _ (I5.hok.fresh (Nat.le_refl _))⟩
  have e : its.toArray.toList.reverse = its.reverse := by simp
  rw [e]
  exact ⟨by rw [List.length_reverse]; exact hz, its.reverse, r.reverse, IsTup.new _ _⟩
/-! ### machine: x in a tuple of data -/
def rInDT (K : PySem.W.Frag) : R2 := fun x y H Q => ∃ d ds, Dp K H x d ∧ Dp K H y (.tuple ds) ∧ SeqAt.shaped d = true ∧ SeqAt.shaped (.tuple ds) = true ∧ Q (.bl (ds.any fun z => PyData.eqv z d)) H
theorem room_in_shapedT {A : Around} {d : PyData} {ds : List PyData} (sd : SeqAt.shaped d = true) (hu : A.units + 65 < cLine) : A.units + 1 + min (PyData.depthAll ds) d.depth < cLine := room_in_shaped sd hu
theorem op_inDT (hu : X.A.units + 65 < cLine) : OpR X (compareOp .In) (rInDT X.K) := by
  intro pins s σ H x y v u Q I rx ry h
  obtain ⟨d, ds, hd, he, sd, se, q⟩ := h
  obtain ⟨as, r1⟩ := Dp.reads I d x v hd rx
  obtain ⟨bs, r2⟩ := Dp.reads I (.tuple ds) y u he ry
  exact SeqAt.in_tuple_reads r2 r1 (SeqAt.canLay_of_shaped se) (SeqAt.canLay_of_shaped sd) (room_in_shaped sd hu) ⟨.bl _, H, I, rfl, q⟩
/-! ### machine: sorted of data -/
def rSortD {β : Type} (K : PySem.W.Frag) (enc : β → PyData) : List V → Hp → VK → Prop := fun us H Q =>
  ∃ (p : Addr) (vs : List V) (zs : List β), us = [.ref p] ∧ SqL K H p vs ∧ DpAll K H vs (zs.map enc) ∧ (∀ x y, PySem.W.alike (enc x) (enc y) = true) ∧ (∀ x, ∃ y r, enc x = .tuple (y :: r)) ∧ (∀ x, (enc x).depth ≤ 60) ∧
    ∀ a, H a = none → Q (.ref a) (upd H a (.lst (((zs.zip vs).mergeSort fun x y => PySem.W.dataLe false enc x.1 y.1).map (·.2))))
theorem items_D {β : Type} {enc : β → PyData} {pins : List (Addr × Obj)} {σ : L2.St} {H : Hp} {s : Shared} (I : Inv X pins σ H s) : ∀ {vs : List V} {us : List Value} {zs : List β}, Vals vs us → DpAll X.K H vs (zs.map enc) → PySem.W.EachIs (fun u (x : β × V) => RelV x.2 u) us (zs.zip vs) ∧ PySem.W.EachIs (fun u (x : β × V) => ∃ as, Reads s.heap u (enc x.1) as) us (zs.zip vs) ∧ zs.length = vs.length
  | [], _, [], r, _ => by cases r; exact ⟨.nil, .nil, rfl⟩
  | [], _, _ :: _, _, d => nomatch d
  | _ :: _, _, [], _, d => nomatch d
  | v :: vs, _, z :: zs, r, d => by
    cases r with
    | cons r1 r2 =>
      cases d with
      | cons d1 d2 =>
        obtain ⟨a, b, c⟩ := items_D I r2 d2
        obtain ⟨as, ra⟩ := Dp.reads I _ _ _ d1 r1
        exact ⟨.cons r1 a, .cons ⟨as, ra⟩ b, by simp [c]⟩
theorem vals_D {β : Type} : ∀ {us : List Value} {xs : List (β × V)}, PySem.W.EachIs (fun u (x : β × V) => RelV x.2 u) us xs → Vals (xs.map (·.2)) us
  | _, _, .nil => .nil
  | _, _, .cons a b => .cons a (vals_D b)
theorem cr_sortD {β : Type} {enc : β → PyData} (hr : X.A.units + 100 < cLine) : CallR X (.builtin "sorted") (rSortD X.K enc) := by
  intro pins s σ H vs us Q I r h
  obtain ⟨p, ws, zs, rfl, hs, hd, hal, ht, hdp, q⟩ := h
  obtain ⟨its, rv, hl, hz⟩ := I.list hs
  rw [Vals.ref1 r]
  obtain ⟨e, er, hlen⟩ := items_D I rv hd
  have hlz := rv.length
  refine PySem.W.sorted_data (enc := fun x : β × V => enc x.1) hl.isList e er (PySem.W.AllAlike.of fun x y => hal _ _) (PySem.W.Sortable.tuples fun x => ht _) (by rw [List.length_zip]; omega) (fun x _ => by have := hdp x.1; omega) fun out ho eo => ?_
  obtain ⟨ep, he'⟩ := PyProof.Rows.sortedAll_at s.heap its out.toArray
  refine ⟨.ref _, upd H (s.heap.objs.size + 1) (.lst (((zs.zip ws).mergeSort fun x y => PySem.W.dataLe false enc x.1 y.1).map (·.2))), I.laid (t' := s.toks) (fun _ _ => PyProof.Rows.sortedAll_old) (Nat.le_succ _) ⟨?_, out, ep, vals_D eo, by simpa using he'⟩, rfl, q _ (I.hok.fresh (Nat.le_succ _))⟩
  rw [List.length_map, List.length_mergeSort, List.length_zip]
  omega
end
end VL

namespace VL
open PySem PySem.Spec PyProof.Rows L2 LamX
section
variable {C : Cfg} {ρ α β γ δ : Type} {Rr : ρ → SL} {ps : List SL} {te ta tb : TE} {tt : TT} {t u : TS}
theorem ve_revT {R : α → VP} {m : M (List α)} (h : VE C te ps m (Fz (rTup R))) : VE C (tRevT C.K te) ps (M.bind m fun xs => M.pure xs.reverse) (Fz (rTup R)) := by
  intro σ G W H n Q Φ Ψ e st hm k x
  refine h σ G W H n _ (fun a n' => Φ a.reverse n') Ψ e st hm ?_ x
  rintro xs n1 v G1 W1 H1 h1 s1 t1 ⟨p, vs, rfl, h2, h3⟩ _
  have st1 := st.stp s1 t1
  exact ⟨p, vs, rfl, SqT.of (st1.gh _ _ h2), fun r hr => (k.stp s1).newF (a := xs.reverse) st1 h1 hr ⟨r, _, rfl, upd_same, h3.rev.up (same_upd (st1.gfree hr))⟩⟩
/-- x in a tuple of data -/
def M.inDT (d e : PyData) : M Bool := fun Q _ n => ∃ ds, e = .tuple ds ∧ (SeqAt.shaped d = true ∧ SeqAt.shaped e = true) ∧ Q (ds.any fun z => PyData.eqv z d) n
theorem v2_inDT {R : α → VP} [I : IsD R] : V2 C (rInDT C.K) R rDat (fun a e => M.inDT (IsD.d R a) e) (Fz rBl) := by
  rintro a e v u σ G W H n Q Φ Ψ hv hu st ⟨ds, rfl, ⟨h1, h2⟩, hm⟩ k x
  exact ⟨_, ds, dp_up st.gh (dq_sh (I.dq a v G hv) h1), dp_up st.gh (dq_sh hu h2), h1, h2, k.hereF (a := ds.any fun z => PyData.eqv z (IsD.d R a)) st hm rfl⟩
/-- sorted of data -/
def M.sortD {α : Type} (d : α → PyData) (xs : List α) : M (List α) := fun Φ _ n => ((∀ x y, PySem.W.alike (d x) (d y) = true) ∧ (∀ x, ∃ y r, d x = .tuple (y :: r)) ∧ (∀ x, (d x).depth ≤ 60) ∧ PyData.canLayAll0 (xs.map d) = true) ∧ Φ (xs.mergeSort (PySem.W.dataLe false d)) n
theorem dqAll_dp {K : PySem.W.Frag} {G : Hp} : ∀ {vs : List V} {ds : List PyData}, DqAll G vs ds → PyData.canLayAll0 ds = true → DpAll K G vs ds
  | [], [], _, _ => .nil
  | [], _ :: _, h, _ => nomatch h
  | _ :: _, [], h, _ => nomatch h
  | v :: vs, d :: ds, h, c => by
    cases h with
    | cons a b => exact .cons (dq_dp a (Bool.and_eq_true_iff.mp c).1) (dqAll_dp b (Bool.and_eq_true_iff.mp c).2)
theorem vn_sortD {R : α → VP} [I : IsD R] : Vn C (rSortD C.K (IsD.d R)) (fun q : List α × Unit => [rLst R q.1]) (fun q => M.sortD (IsD.d R) q.1) (Ow (cLst R)) := by
  rintro q vs σ G W H n Q Φ Ψ (_ | ⟨⟨p, us, rfl, h1, h2⟩, _ | _⟩) st ⟨⟨c1, c2, c3, c4⟩, hm⟩ k x
  exact ⟨p, us, q.1, rfl, SqL.of (st.gh _ _ h1), dpAll_up st.gh (dqAll_dp h2.dq c4), c1, c2, c3, fun a ha => k.newO (a := q.1.mergeSort (PySem.W.dataLe false (IsD.d R))) st hm ha ⟨_, rfl, reps_sort (PySem.W.dataLe false (IsD.d R)) h2⟩⟩
/-- lists, tuples as lists, tuples of data -/
theorem reps_dat {R : α → VP} [I : IsD R] {G : Hp} : ∀ {xs : List α} {vs : List V}, reps R xs vs G → reps rDat (xs.map (IsD.d R)) vs G
  | [], [], _ => trivial
  | _ :: _, _ :: _, h => ⟨I.dq _ _ _ h.1, reps_dat h.2⟩
theorem ve_datL {R : α → VP} [I : IsD R] {m : M (List α)} (h : VE C te ps m (Fz (rLst R))) : VE C te ps (M.bind m fun a => M.pure (a.map (IsD.d R))) (Fz (rLst rDat)) := ve_weakM (S := rLst rDat) (fun a => a.map (IsD.d R)) h fun a v G ⟨p, vs, e, h1, h2⟩ => ⟨p, vs, e, h1, reps_dat h2⟩
theorem ve_datT {R : α → VP} [I : IsD R] {m : M (List α)} (h : VE C te ps m (Fz (rTup R))) : VE C te ps (M.bind m fun a => M.pure (a.map (IsD.d R))) (Fz (rTup rDat)) := ve_weakM (S := rTup rDat) (fun a => a.map (IsD.d R)) h fun a v G ⟨p, vs, e, h1, h2⟩ => ⟨p, vs, e, h1, reps_dat h2⟩
theorem dqAll_reps {G : Hp} : ∀ {vs : List V} {ds : List PyData}, DqAll G vs ds → reps rDat ds vs G
  | [], [], _ => trivial
  | [], _ :: _, h => nomatch h
  | _ :: _, [], h => nomatch h
  | _ :: _, _ :: _, h => by
    cases h with
    | cons a b => exact ⟨a, dqAll_reps b⟩
/-- list(x) of a datum -/
def M.listD (d : PyData) : M (List PyData) := fun Φ _ n => ∃ ds, (d = .tuple ds ∨ d = .list ds) ∧ Φ ds n
theorem vn_listD : Vn C (fun xs H Q => ∃ p ys, xs = [.ref p] ∧ (SqL C.K H p ys ∨ SqT C.K H p ys) ∧ ∀ l, H l = none → Q (.ref l) (upd H l (.lst ys))) (fun q : PyData × Unit => [rDat q.1]) (fun q => M.listD q.1) (Ow (cLst rDat)) := by
  rintro ⟨d, z⟩ vs σ G W H n Q Φ Ψ (_ | ⟨hd, _ | _⟩) st ⟨ds, hds, hm⟩ k x
  have hd : Dq G _ d := hd
  rcases hds with hds | hds
  · have hds : d = .tuple ds := hds
    subst hds
    cases hd with
    | tup h1 h2 => exact ⟨_, _, rfl, .inr (SqT.of (st.gh _ _ h1)), fun r hr => k.newO (a := ds) st hm hr ⟨_, rfl, dqAll_reps h2⟩⟩
  · have hds : d = .list ds := hds
    subst hds
    cases hd with
    | lst h1 h2 => exact ⟨_, _, rfl, .inl (SqL.of (st.gh _ _ h1)), fun r hr => k.newO (a := ds) st hm hr ⟨_, rfl, dqAll_reps h2⟩⟩
/-- join of a tuple -/
theorem ve_joinT {to te : TE} {m : M Str} {m2 : M (List Str)} (ho : VE C to ps m (Fz rStr)) (he : VE C te ps m2 (Fz (rTup rStr))) :
    VE C (tM1 (fun x xs H Q => ∃ a p, ∃ ys : List Str, x = .str a ∧ xs = [.ref p] ∧ (SqL C.K H p (ys.map V.str) ∨ SqT C.K H p (ys.map V.str)) ∧ (ys.map (·.length)).sum + ys.length * a.length ≤ 16777216 ∧ Q (.str (Txt.join a ys)) H) to te) ps
      (M.bind m fun a => M.bind m2 fun ys => M.join a ys) (Fz rStr) := by
  intro σ G W H n Q Φ Ψ e st hm k x
  refine ho σ G W H n _ (fun a n' => M.bind m2 (fun ys => M.join a ys) Φ Ψ n') Ψ e st hm (fun a n1 v G1 W1 H1 hm1 s1 t1 r1 _ => ?_) x
  have r1 : v = .str a := r1
  have st1 := st.stp s1 t1
  refine ⟨⟨a, r1⟩, ?_⟩
  refine he σ G1 W1 H1 n1 _ (fun ys n' => M.join a ys Φ Ψ n') Ψ (e.stp s1) st1 hm1 ?_ (x.stp s1)
  rintro ys n2 u G2 W2 H2 hm2 s2 t2 ⟨p, vs, rfl, h1, h2⟩ _
  have st2 := st1.stp s2 t2
  rw [h2.strs] at h1
  exact ⟨a, p, ys, r1, rfl, .inr (SqT.of (st2.gh _ _ h1)), hm2.1, (k.stp (s1.trans s2)).hereF (a := Txt.join a ys) st2 hm2.2 rfl⟩
/-- {k: v} -/
theorem ve_disp1 {tk tv : TE} {mk : M Str} {mv : M PyData} (hk : VE C tk ps mk (Fz rStr)) (hv : VE C tv ps mv (Fz rDat)) :
    VE C (tDisp [(tk, tv)]) ps (M.bind mk fun a => M.bind mv fun d => M.pure (PyData.dict [(.str a, d)])) (Fz rDat) := by
  intro σ G W H n Q Φ Ψ e st hm k x p hp
  have s0 : Stp G W G (upd W p (.dK [])) := Stp.newO st hp
  have t0 : C.Θ.T n (upd W p (.dK [])) (upd H p (.dK [])) := st.newT hp
  have st0 := st.stp s0 t0
  refine hk σ _ _ _ n _ (fun a n' => M.bind mv (fun d => M.pure (PyData.dict [(.str a, d)])) Φ Ψ n') Ψ (e.stp s0) st0 hm (fun a n1 v G1 W1 H1 hm1 s1 t1 r1 _ => ?_) (x.stp s0)
  have st1 := st0.stp s1 t1
  have s01 := s0.trans s1
  refine hv σ _ _ _ n1 _ (fun d n' => Φ (PyData.dict [(.str a, d)]) n') Ψ (e.stp s01) st1 hm1 (fun d n2 u G2 W2 H2 hm2 s2 t2 r2 _ => ?_) (x.stp s01)
  have st2 := st1.stp s2 t2
  have s12 := s1.trans s2
  have hW2 : W2 p = some (.dK []) := s12.w _ _ upd_same
  have hWp : W p = none := st.wfree hp
  have hG2 : G2 p = none := by
    cases z : G2 p with
    | none => rfl
    | some o =>
      rcases s12.ng _ _ z with h | h
      · rw [st.gfree hp] at h; cases h
      · rw [upd_same] at h; cases h
  have hB : C.B p = none := st.bw.free hWp
  have st3 : Stt C n2 G2 (upd W2 p (.dK [(.inr a, u)])) (upd H2 p (.dK [(.inr a, u)])) := st2.put hW2 hG2 hB
  have st4 := st3.show (p := p) (o := .dK [(.inr a, u)]) upd_same hG2 hB
  have r1 : v = .str a := r1
  subst r1
  refine ⟨st2.wh _ _ hW2, [(.inr a, u)], rfl, by simp, ?_⟩
  refine k (PyData.dict [(.str a, d)]) n2 (.ref p) (upd G2 p (.dK [(.inr a, u)])) (upd W2 p (.dK [(.inr a, u)])) _ hm2 ⟨?_, ?_, ?_, ?_⟩ st4.t ?_ trivial
  · exact (s0.g.trans s12.g).trans (same_upd hG2)
  · exact (s0.trans s12).w.unseen hWp
  · exact same_two st2.gw
  · intro q o hq
    by_cases z : q = p
    · subst z; exact .inr hWp
    · rw [upd_ne z] at hq
      exact (s0.trans s12).ng q o hq
  · exact Dq.dict (ds := [(a, d)]) upd_same (.cons (dq_up (same_upd hG2) r2) .nil)
end
/-! ### calls by keywords: the places, told by numbers -/
def gP {α : Type} (a b : Nat) (perm : List Nat) (us ws : List α) : List α := match us.length == a && ws.length == b with
  | true => perm.filterMap fun i => (us ++ ws)[i]?
  | false => []
theorem vals_get {vs : List V} {us : List Value} (r : Vals vs us) (i : Nat) : (vs[i]? = none ∧ us[i]? = none) ∨ ∃ v u, vs[i]? = some v ∧ us[i]? = some u ∧ RelV v u := by
  induction r generalizing i with
  | nil => simp
  | cons a _ ih =>
    cases i with
    | zero => exact .inr ⟨_, _, rfl, rfl, a⟩
    | succ i => simpa using ih i
theorem vals_app {vs zs : List V} {us ws : List Value} (r : Vals vs us) (q : Vals zs ws) : Vals (vs ++ zs) (us ++ ws) := by
  induction r with
  | nil => exact q
  | cons a _ ih => exact .cons a ih
theorem gP_rel {a b : Nat} {perm : List Nat} {vs zs : List V} {us ws : List Value} (r : Vals vs us) (q : Vals zs ws) : Vals (gP a b perm vs zs) (gP a b perm us ws) := by
  unfold gP
  rw [r.length, q.length]
  split
  · induction perm with
    | nil => exact .nil
    | cons i p ih =>
      rw [List.filterMap_cons, List.filterMap_cons]
      rcases vals_get (vals_app r q) i with ⟨h1, h2⟩ | ⟨v, u, h1, h2, h3⟩
      · rw [h1, h2]; exact ih
      · rw [h1, h2]; exact .cons h3 ih
  · exact .nil
theorem kb_P {K : PySem.W.Frag} {x qual : Str} {st : Stmt} {f : Addr} {fd : FuncData} {ps ks : List Str} (a b : Nat) (perm : List Nat) (F : Fun K x qual st f fd) (hp : ps ≠ [])
    (h : ∀ (kV doc pm : Value) (an : Option Addr) (cdv ct : Value) (us ws : List Value), us.length = a → ws.length = b → bindArgs (PySem.W.fnOf x qual (defArgs st) (defBody st) (defScope st) .none kV doc pm an cdv ct) ⟨us, ks.zip ws⟩ = pure (ps.zip (gP a b perm us ws))) :
    KBinds K fd ps ks (gP a b perm) (gP a b perm) := by
  obtain ⟨oc, od, kV, doc, pm, an, cdv, ct, osl, rfl, lk, hcd⟩ := F.ex
  refine ⟨fun s us ws _ hl => ?_, fun r rz => gP_rel r rz⟩
  by_cases e : (us.length == a && ws.length == b) = true
  · have e2 := Bool.and_eq_true_iff.mp e
    exact .of_eq (h kV doc pm an cdv ct us ws (eq_of_beq e2.1) (eq_of_beq e2.2))
  · have e3 : (us.length == a && ws.length == b) = false := by simpa using e
    unfold gP at hl
    rw [e3] at hl
    exact absurd (List.eq_nil_of_length_eq_zero hl.symm) hp
/-! ### a def whose code object's address is known -/
structure FunC (K : PySem.W.Frag) (x qual : Str) (st : Stmt) (f : Addr) (fd : FuncData) (c : Addr) : Prop where
  ex : ∃ (oc : Value) (od : Option Addr) (kV doc pm : Value) (an : Option Addr) (ct : Value) (osl : Array (Option Value)),
    fd = PySem.W.fnOf x qual (defArgs st) (defBody st) (defScope st) .none kV doc pm an (.ref c) ct ∧ K.lookup f = some ⟨oc, od, .func fd, osl⟩ ∧ PySem.W.codeIn K (.ref c) qual = true
  kp : PySem.W.keepIn K (.ref f) = true
theorem FunC.ok {P : Program} {w : World} {K : PySem.W.Frag} {mg : Str → Option Value} {base : Heap} {x qual : Str} {st : Stmt} {f c : Addr} {fd : FuncData} {N ps : List Str} {k : Nat} {sp : Sp} (F : FunC K x qual st f fd c) (S : FnScope N ps (defScope st)) (len : ∀ vs H Q E, sp vs H Q E → vs.length = ps.length)
    (hbody : ∀ (A : Around) (outer : List Env) (s : Shared) (H : Hp) (vs : List V) (Q : VK) (E : XK), Room k (A.deeper (envOfC qual (defScope st) s.heap.objs.size f (.ref c))) → sp vs H Q E →
      ∃ t, PSs (cxOf CX0 P w K mg base N qual (defScope st) f (.ref c) A outer s H E).nox (defBody st) t ∧ t { nx := fun _ H' => Q .non H', rt := Q } (start N vs) H) : FnOk P w K mg base CX0 (k + 1) f fd ps sp := by
  obtain ⟨oc, od, kV, doc, pm, an, ct, osl, rfl, lk, hcd⟩ := F.ex
  refine fn_of lk hcd S len fun A outer s H vs Q E hr hsp => ?_
  obtain ⟨t, h, q⟩ := hbody A outer s H vs Q E hr hsp
  exact ⟨t, h.nox, q⟩
theorem FunC.toFun {K : PySem.W.Frag} {x qual : Str} {st : Stmt} {f c : Addr} {fd : FuncData} (F : FunC K x qual st f fd c) : Fun K x qual st f fd := by
  obtain ⟨oc, od, kV, doc, pm, an, ct, osl, e, lk, hcd⟩ := F.ex
  exact ⟨⟨oc, od, kV, doc, pm, an, .ref c, ct, osl, e, lk, hcd⟩, F.kp⟩
end VL

namespace VL
open PySem PySem.Spec PyProof.Rows L2 LamX
theorem ix_tupF {X : Cx} {K : PySem.W.Frag} (hk : X.K = K) : IxR X (rIxT K) := by subst hk; exact ix_tup
theorem op_inDK {X : Cx} {K : PySem.W.Frag} (hk : X.K = K) (hu : X.A.units + 65 < cLine) : OpR X (compareOp .In) (rInD K) := by subst hk; exact op_inD hu
theorem op_inDTK {X : Cx} {K : PySem.W.Frag} (hk : X.K = K) (hu : X.A.units + 65 < cLine) : OpR X (compareOp .In) (rInDT K) := by subst hk; exact op_inDT hu
theorem hu65 {A : Around} {k : Nat} (hr : Room k A) : A.units + 65 < cLine := by have := hr.un; omega
abbrev rLenSq (K : PySem.W.Frag) : List V → Hp → VK → Prop := fun xs H Q => ∃ p ys, xs = [.ref p] ∧ (SqL K H p ys ∨ SqT K H p ys) ∧ Q (.int ys.length) H
abbrev rListOf (K : PySem.W.Frag) : List V → Hp → VK → Prop := fun xs H Q => ∃ p ys, xs = [.ref p] ∧ (SqL K H p ys ∨ SqT K H p ys) ∧ ∀ l, H l = none → Q (.ref l) (upd H l (.lst ys))
abbrev rTupOf (K : PySem.W.Frag) : List V → Hp → VK → Prop := fun xs H Q => ∃ p ys, xs = [.ref p] ∧ ((SqL K H p ys ∧ ∀ l, H l = none → Q (.ref l) (upd H l (.tup ys))) ∨ (SqT K H p ys ∧ Q (.ref p) H))
theorem lam_u {P : Addr} {q : Str} : ∀ p ∈ [(P, q)], p.1 = P → p.2 = q := fun p hp _ => by rw [List.mem_singleton.mp hp]
/-! ### tests of pure parts -/
section
variable {C : Cfg} {α β : Type} {ps : List SL} {te ta tb : TE} {tt tu : TT} {m : M Bool} {y : Bool}
theorem ve_andP (h : VE C ta ps m (Fz rBl)) (h2 : VE C tb ps (M.pure y) (Fz rBl)) : VE C (tAndV ta tb) ps (M.bind m fun b => M.pure (b && y)) (Fz rBl) := by
  intro σ G W H n Q Φ Ψ e st hm k x
  refine ve_and h h2 σ G W H n Q Φ Ψ e st ?_ k x
  have : (M.bind m fun b => M.ite b (M.pure y) (M.pure false)) = (M.bind m fun b => M.pure (b && y)) := by
    congr 1; funext b; cases b <;> rfl
  rw [this]; exact hm
theorem ve_orP (h : VE C ta ps m (Fz rBl)) (h2 : VE C tb ps (M.pure y) (Fz rBl)) : VE C (tOrV ta tb) ps (M.bind m fun b => M.pure (b || y)) (Fz rBl) := by
  intro σ G W H n Q Φ Ψ e st hm k x
  refine ve_or h h2 σ G W H n Q Φ Ψ e st ?_ k x
  have : (M.bind m fun b => M.ite b (M.pure true) (M.pure y)) = (M.bind m fun b => M.pure (b || y)) := by
    congr 1; funext b; cases b <;> rfl
  rw [this]; exact hm
theorem vt_andP (h : VT C tt ps m) (h2 : VT C tu ps (M.pure y)) : VT C (tAnd tt tu) ps (M.bind m fun b => M.pure (b && y)) := by
  intro σ G W H n Q Φ Ψ e st hm k x
  refine vt_and h h2 σ G W H n Q Φ Ψ e st ?_ k x
  have : (M.bind m fun b => M.ite b (M.pure y) (M.pure false)) = (M.bind m fun b => M.pure (b && y)) := by
    congr 1; funext b; cases b <;> rfl
  rw [this]; exact hm
theorem vt_orP (h : VT C tt ps m) (h2 : VT C tu ps (M.pure y)) : VT C (tOr tt tu) ps (M.bind m fun b => M.pure (b || y)) := by
  intro σ G W H n Q Φ Ψ e st hm k x
  refine vt_or h h2 σ G W H n Q Φ Ψ e st ?_ k x
  have : (M.bind m fun b => M.ite b (M.pure true) (M.pure y)) = (M.bind m fun b => M.pure (b || y)) := by
    congr 1; funext b; cases b <;> rfl
  rw [this]; exact hm
theorem ve_ifP {R : α → SL} {a b : α} (h : VT C tt ps m) (ha : VE C ta ps (M.pure a) R) (hb : VE C tb ps (M.pure b) R) : VE C (tIf tt ta tb) ps (M.bind m fun c => M.pure (if c then a else b)) R := by
  intro σ G W H n Q Φ Ψ e st hm k x
  refine ve_if h ha hb σ G W H n Q Φ Ψ e st ?_ k x
  have : (M.bind m fun c => M.ite c (M.pure a) (M.pure b)) = (M.bind m fun c => M.pure (if c then a else b)) := by
    congr 1; funext c; cases c <;> rfl
  rw [this]; exact hm
theorem ite_ {b : Bool} {m k : M α} {Φ : α → Nat → Prop} {Ψ : Exc → Nat → Prop} {n : Nat} (h1 : b = true → m Φ Ψ n) (h2 : b = false → k Φ Ψ n) : M.ite b m k Φ Ψ n := by
  cases b with
  | true => exact iteT (h1 rfl)
  | false => exact iteF (h2 rfl)
end
/-! ### the law: from the script to the view -/
def spLawT (K : PySem.W.Frag) (TB : List (Addr × Str)) : Sp := fun vs H Q _ => ∃ (a : Addr) (ns : List Int), vs = [.ref a] ∧ SqL K H a (ns.map V.int) ∧ ns.length ≤ 63 ∧ LamX.Tabs TB H ∧ ∀ H', Q (.bl true) H'
theorem spLawT_len {K : PySem.W.Frag} {TB : List (Addr × Str)} {p : Str} : ∀ vs H Q E, spLawT K TB vs H Q E → vs.length = [p].length := by
  rintro vs H Q E ⟨_, _, rfl, _⟩
  rfl
theorem th_start {TB : List (Addr × Str)} {s : Addr} {H H' : Hp} (v : View s 0 H H') (t : LamX.Tabs TB H) : (thV (TB := TB) s).T 0 (fun _ => none) H' := by
  have sub := v.sub
  obtain ⟨b, c, n, bs, cs, k, l⟩ := v
  exact ⟨⟨b, c, n, bs, cs, { k with sub := fun _ _ h => (nomatch h), gs := rfl, gb := rfl, gc := rfl }, l⟩, fun _ _ h => (nomatch h), t.ext sub⟩
theorem law_T {mg : Str → Option Value} {K : PySem.W.Frag} {TB : List (Addr × Str)} {δ : Type} {vs : List V} {H : Hp} {Q : VK} {E : XK} {N : List Str} {t : TS} {m : M (Fl Bool δ)} {ψ : δ → List SL} (h : spLawT K TB vs H Q E)
    (hb : ∀ (s : Addr) (B G0 : Hp), SV ⟨TB, thV s, mg, K, B, G0, fun _ => E, []⟩ (Fz rBl) t ((SL.un :: .fr (rSt s) :: List.replicate (N.length - 2) .un)) m ψ)
    (hm : ∀ Ψ, M.ret m (fun b _ => b = true) Ψ 0) (hN : 2 ≤ N.length := by decide) :
    tSeq (tAsg (tCall (spStart K) [] E0 (tCons (tVar 0) tNil)) (gName 1)) t { nx := fun _ H' => Q .non H', rt := Q } (start N vs) H := by
  obtain ⟨a, ns, rfl, hS, hl, ht, hQ⟩ := h
  refine ⟨.ref a, rfl, a, ns, rfl, hS, hl, fun s H' v => ?_⟩
  have T := th_start v ht
  have e : (start N [V.ref a]).set 1 (some (.ref s)) = some (.ref a) :: some (.ref s) :: List.replicate (N.length - 2) none := by
    unfold L2.start
    match N, hN with
    | _ :: _ :: N, _ => simp [List.replicate_succ]
  show t { nx := fun _ H' => Q .non H', rt := Q } ((start N [V.ref a]).set 1 (some (.ref s))) H'
  rw [e]
  have un : ∀ {i : Nat} {x : SL}, (List.replicate (N.length - 2) SL.un)[i]? = some x → x = .un := fun {i x} h => by
    rw [List.getElem?_replicate] at h
    split at h
    · exact (Option.some.inj h).symm
    · cases h
  have no : ∀ {i : Nat} {d : CP}, (SL.un :: .fr (rSt s) :: List.replicate (N.length - 2) .un)[i]? = some (.ow d) → False := fun {i d} h => by
    match i with
    | 0 => simp at h
    | 1 => simp at h
    | i + 2 => exact absurd (un (show (List.replicate (N.length - 2) SL.un)[i]? = some (.ow d) by simpa using h)) (by simp)
  refine hb s (fun _ => none) (fun _ => none) _ _ (fun _ => none) (fun _ => none) H' 0 _ (fun _ _ => False) ⟨by simp, fun {i x} h n => ?_, fun {i j c d a} _ h _ _ _ => (no h).elim⟩ ⟨T, Same.refl _, Same.refl _, Same.refl _, fun _ _ h => (nomatch h)⟩ (hm _) ?_ ?_ ?_
  · match i with
    | 0 => simp at h; exact absurd h.symm n
    | 1 => simp at h; subst h; exact ⟨.ref s, rfl, rfl⟩
    | i + 2 => exact absurd (un (show (List.replicate (N.length - 2) SL.un)[i]? = some x by simpa using h)) n
  · intro _ _ _ _ _ _ z; exact z.elim
  · intro r n v G W H z _ hv
    have z : r = true := z
    subst z
    have hv : v = .bl true := hv
    subst hv
    exact hQ H
  · intro _ _ _ _ _ _ _ _ z; exact z.elim
end VL

namespace VL
open PySem PySem.Spec PyProof.Rows L2
/-! ### what a meaning comes to: the parts, shut -/
@[irreducible] def Mi.neD (d e : PyData) : M Bool := M.neD d e
@[irreducible] def Mi.eqD (d e : PyData) : M Bool := M.eqD d e
@[irreducible] def Mi.inD (d : PyData) (ds : List PyData) : M Bool := M.inD d ds
@[irreducible] def Mi.inDT (d e : PyData) : M Bool := M.inDT d e
@[irreducible] def Mi.idx {α : Type} (xs : List α) (i : Int) : M α := M.idx xs i
@[irreducible] def Mi.sgn (z : Str) (i : Int) : M Str := M.sgn z i
@[irreducible] def Mi.rng (lo hi : Int) : M (List Int) := M.rng lo hi
@[irreducible] def Mi.comp {β γ : Type} (xs : List β) (f : β → M (Option γ)) : M (List γ) := M.comp xs f
@[irreducible] def Mi.join (a : Str) (ys : List Str) : M Str := M.join a ys
@[irreducible] def Mi.popAt {α : Type} (xs : List α) (j : Int) : M (α × List α) := M.popAt xs j
@[irreducible] def Mi.popE {α : Type} (xs : List α) : M (α × List α) := M.popE xs
@[irreducible] def Mi.sortI (xs : List Int) : M (List Int) := M.sortI xs
@[irreducible] def Mi.sortS (xs : List Str) : M (List Str) := M.sortS xs
@[irreducible] def Mi.sortD {α : Type} (d : α → PyData) (xs : List α) : M (List α) := M.sortD d xs
@[irreducible] def Mi.listD (d : PyData) : M (List PyData) := M.listD d
@[irreducible] def Mi.setL {α : Type} (xs : List α) (j : Int) (a : α) : M (List α) := M.setL xs j a
@[irreducible] def Mi.max (xs : List Int) : M Int := M.max xs
@[irreducible] def Mi.min (xs : List Int) : M Int := M.min xs
@[irreducible] def Mi.draw (m : Int) : M Int := M.draw m
section
variable {α β γ σ ρ : Type} {Ψ : Exc → Nat → Prop} {n : Nat}
theorem draw_ok {m : Int} {Φ : Int → Nat → Prop} (hn : n ≤ 1000000) (h0 : 0 < m) (h1 : m < 2 ^ 100) (k : ∀ d, 0 ≤ d → d < m → Φ d (n + 1)) : Mi.draw m Φ Ψ n := by delta Mi.draw; exact ⟨⟨hn, h0, h1⟩, k⟩
theorem drop_at {xs ys : List β} {i : Nat} {y : β} (e : xs.drop i = y :: ys) : xs[i]? = some y ∧ xs.drop (i + 1) = ys ∧ i < xs.length := by
  refine ⟨?_, ?_, ?_⟩
  · have : (xs.drop i)[0]? = some y := by rw [e]; rfl
    rwa [List.getElem?_drop, Nat.add_zero] at this
  · have := congrArg List.tail e
    simpa using this
  · have := congrArg List.length e
    simp at this
    omega
theorem drop_nil {xs : List β} {i : Nat} (e : xs.drop i = []) (hi : i ≤ xs.length) : i = xs.length := by
  have := congrArg List.length e
  simp at this
  omega
/-- a comprehension by an invariant -/
theorem comp_rule {f : β → M (Option γ)} {xs : List β} {Φ : List γ → Nat → Prop} (I : Nat → List γ → Nat → Prop) (hl : xs.length ≤ 1000) (h0 : I 0 [] n)
    (hs : ∀ i x acc n', xs[i]? = some x → I i acc n' → ∀ Φ' : Option γ → Nat → Prop, (∀ o n2, I (i + 1) (acc ++ o.toList) n2 → Φ' o n2) → f x Φ' (fun _ _ => False) n')
    (hk : ∀ acc n', I xs.length acc n' → Φ acc n') : Mi.comp xs f Φ Ψ n := by
  delta Mi.comp
  refine ⟨hl, ?_⟩
  have go : ∀ (ys : List β) (i : Nat) (acc : List γ) (n : Nat), xs.drop i = ys → i ≤ xs.length → I i acc n → M.compA f acc ys Φ (fun _ _ => False) n := by
    intro ys
    induction ys with
    | nil =>
      intro i acc n e hi h
      have := drop_nil e hi
      subst this
      exact hk acc n h
    | cons y ys ih =>
      intro i acc n e hi h
      obtain ⟨h1, h2, h3⟩ := drop_at e
      exact hs i y acc n h1 h _ fun o n2 h4 => ih (i + 1) _ n2 h2 h3 h4
  exact go xs 0 [] n rfl (Nat.zero_le _) h0
/-- .. that draws nothing -/
theorem comp_pure {f : β → M (Option γ)} {xs : List β} {Φ : List γ → Nat → Prop} (g : β → Option γ) (hf : ∀ x ∈ xs, ∀ (Φ' : Option γ → Nat → Prop) n', Φ' (g x) n' → f x Φ' (fun _ _ => False) n') (hl : xs.length ≤ 1000) (hk : Φ (xs.filterMap g) n) : Mi.comp xs f Φ Ψ n := by
  refine comp_rule (fun i acc n' => acc = (xs.take i).filterMap g ∧ n' = n) hl ⟨rfl, rfl⟩ (fun i x acc n' hx hI Φ' k => ?_) fun acc n' h => ?_
  · obtain ⟨rfl, rfl⟩ := hI
    refine hf x (List.mem_of_getElem? hx) Φ' _ (k _ _ ⟨?_, rfl⟩)
    rw [List.take_succ, hx, List.filterMap_append]
    simp [List.filterMap]
    cases g x <;> rfl
  · obtain ⟨rfl, rfl⟩ := h
    rw [List.take_length]
    exact hk
theorem comp_map {f : β → M (Option γ)} {xs : List β} {Φ : List γ → Nat → Prop} (g : β → γ) (hf : ∀ x ∈ xs, ∀ (Φ' : Option γ → Nat → Prop) n', Φ' (some (g x)) n' → f x Φ' (fun _ _ => False) n') (hl : xs.length ≤ 1000) (hk : Φ (xs.map g) n) : Mi.comp xs f Φ Ψ n :=
  comp_pure (fun x => some (g x)) hf hl (by rw [List.filterMap_eq_map']; exact hk)
theorem filterMap_if (p : β → Bool) : ∀ xs : List β, xs.filterMap (fun x => if p x then some x else none) = xs.filter p
  | [] => rfl
  | x :: xs => by
    rw [List.filterMap_cons, List.filter_cons]
    cases h : p x with
    | true => simp [filterMap_if p xs]
    | false => simp [filterMap_if p xs]
theorem comp_filter {f : β → M (Option β)} {xs : List β} {Φ : List β → Nat → Prop} (p : β → Bool) (hf : ∀ x ∈ xs, ∀ (Φ' : Option β → Nat → Prop) n', Φ' (if p x then some x else none) n' → f x Φ' (fun _ _ => False) n') (hl : xs.length ≤ 1000) (hk : Φ (xs.filter p) n) : Mi.comp xs f Φ Ψ n :=
  comp_pure (fun x => if p x then some x else none) hf hl (by rw [filterMap_if]; exact hk)
/-- a for loop by an invariant; r: a way out by return -/
theorem for_rule {f : β → σ → M (Fl ρ σ)} {xs : List β} {s : σ} {Φ : Fl ρ σ → Nat → Prop} (I : Nat → σ → Nat → Prop) (h0 : I 0 s n)
    (hs : ∀ i x s n', xs[i]? = some x → I i s n' → ∀ Φ' : Fl ρ σ → Nat → Prop, (∀ s2 n2, I (i + 1) s2 n2 → Φ' (.nx s2) n2) → (∀ r n2, Φ (.rt r) n2 → Φ' (.rt r) n2) → f x s Φ' Ψ n')
    (hk : ∀ s n', I xs.length s n' → Φ (.nx s) n') : M.forL f xs s Φ Ψ n := by
  have go : ∀ (ys : List β) (i : Nat) (s : σ) (n : Nat), xs.drop i = ys → i ≤ xs.length → I i s n → M.forL f ys s Φ Ψ n := by
    intro ys
    induction ys with
    | nil =>
      intro i s n e hi h
      have := drop_nil e hi
      subst this
      exact hk s n h
    | cons y ys ih =>
      intro i s n e hi h
      obtain ⟨h1, h2, h3⟩ := drop_at e
      refine hs i y s n h1 h _ (fun s2 n2 h4 => ih (i + 1) s2 n2 h2 h3 h4) fun r n2 h4 => h4
  exact go xs 0 s n rfl (Nat.zero_le _) h0
/-- a for loop that draws nothing and comes to its end -/
theorem for_fold {f : β → σ → M (Fl ρ σ)} {xs : List β} {s : σ} {Φ : Fl ρ σ → Nat → Prop} (g : σ → β → σ) (hf : ∀ i x, xs[i]? = some x → ∀ (Φ' : Fl ρ σ → Nat → Prop) n', Φ' (.nx (g ((xs.take i).foldl g s) x)) n' → f x ((xs.take i).foldl g s) Φ' Ψ n')
    (hk : Φ (.nx (xs.foldl g s)) n) : M.forL f xs s Φ Ψ n := by
  refine for_rule (fun i s' n' => s' = (xs.take i).foldl g s ∧ n' = n) ⟨rfl, rfl⟩ (fun i x s' n' hx hI Φ' k _ => ?_) fun s' n' h => ?_
  · obtain ⟨rfl, rfl⟩ := hI
    refine hf i x hx Φ' _ (k _ _ ⟨?_, rfl⟩)
    rw [List.take_succ, hx, List.foldl_append]
    rfl
  · obtain ⟨rfl, rfl⟩ := h
    rw [List.take_length]
    exact hk
theorem atI_lt {xs : List α} {i : Int} (h0 : 0 ≤ i) (h1 : i < xs.length) : ∃ (k : Nat) (h : k < xs.length), i = (k : Int) ∧ L2.atI xs i = some xs[k] := by
  obtain ⟨k, rfl⟩ := Int.eq_ofNat_of_zero_le h0
  have hk : k < xs.length := by omega
  exact ⟨k, hk, rfl, atI_nat (List.getElem?_eq_getElem hk)⟩
theorem idx_ex {xs : List α} {i : Int} (h0 : 0 ≤ i) (h1 : i < xs.length) : ∃ x, L2.atI xs i = some x ∧ x ∈ xs ∧ xs[i.toNat]? = some x := by
  obtain ⟨j, hj, rfl, e⟩ := atI_lt h0 h1
  exact ⟨_, e, List.getElem_mem _, by simp [hj]⟩
theorem idx_ok {xs : List α} {i : Int} {Φ : α → Nat → Prop} (h0 : 0 ≤ i) (h1 : i < xs.length) (k : ∀ x, x ∈ xs → xs[i.toNat]? = some x → Φ x n) : Mi.idx xs i Φ Ψ n := by
  delta Mi.idx
  obtain ⟨j, hj, rfl, e⟩ := atI_lt h0 h1
  exact ⟨_, e, k _ (List.getElem_mem _) (by simp [hj])⟩
theorem sgn_ok {z : Str} {i : Int} {Φ : Str → Nat → Prop} (hz : z.length ≤ 1000) (h0 : 0 ≤ i) (h1 : i < z.length) (k : ∀ c, c ∈ z.cps.toList → z.cps.toList[i.toNat]? = some c → Φ ⟨#[c]⟩ n) : Mi.sgn z i Φ Ψ n := by
  delta Mi.sgn
  obtain ⟨j, hj, rfl, e⟩ := atI_lt (xs := z.cps.toList) h0 (by rw [L2.len_list]; exact h1)
  exact ⟨size1000 hz, _, e, k _ (List.getElem_mem _) (by simp [hj])⟩
theorem rng_nat (m : Nat) : ((List.range (((m : Nat) : Int) - 0).toNat).map fun k : Nat => (0 : Int) + (k : Int)) = (List.range m).map fun i : Nat => (i : Int) := by
  rw [show (((m : Int)) - 0).toNat = m by omega]
  apply List.map_congr_left
  intro a _
  omega
theorem rng0 {m : Nat} {Φ : List Int → Nat → Prop} (h : m < 1000000) (k : Φ ((List.range m).map fun i : Nat => (i : Int)) n) : Mi.rng 0 ((m : Nat) : Int) Φ Ψ n := by
  delta Mi.rng
  refine ⟨⟨by omega, by omega, by omega, by omega⟩, ?_⟩
  rw [rng_nat]
  exact k
theorem rng_i {lo hi : Int} {Φ : List Int → Nat → Prop} (h : -(2 ^ 62) ≤ lo ∧ lo < 2 ^ 62 ∧ -(2 ^ 62) ≤ hi ∧ hi < 2 ^ 62) (k : Φ ((List.range (hi - lo).toNat).map fun k : Nat => lo + (k : Int)) n) : Mi.rng lo hi Φ Ψ n := by delta Mi.rng; exact ⟨h, k⟩
theorem idx_i {xs : List α} {i : Int} {x : α} {Φ : α → Nat → Prop} (h : L2.atI xs i = some x) (k : Φ x n) : Mi.idx xs i Φ Ψ n := by delta Mi.idx; exact ⟨x, h, k⟩
theorem sgn_i {z : Str} {i : Int} {c : Nat} {Φ : Str → Nat → Prop} (hz : z.length ≤ sizeLine) (h : L2.atI z.cps.toList i = some c) (k : Φ ⟨#[c]⟩ n) : Mi.sgn z i Φ Ψ n := by delta Mi.sgn; exact ⟨hz, c, h, k⟩
theorem join_i {a : Str} {ys : List Str} {Φ : Str → Nat → Prop} (h : (ys.map (·.length)).sum + ys.length * a.length ≤ 16777216) (k : Φ (Txt.join a ys) n) : Mi.join a ys Φ Ψ n := by delta Mi.join; exact ⟨h, k⟩
theorem sortS_i {xs : List Str} {Φ : List Str → Nat → Prop} (h : xs.length < 64) (k : ∀ ns : List Str, ns.Perm xs → sortedS ns = true → Φ ns n) : Mi.sortS xs Φ Ψ n := by delta Mi.sortS; exact ⟨h, k⟩
theorem sortI_i {xs : List Int} {Φ : List Int → Nat → Prop} (h : xs.length < 64) (k : ∀ ns : List Int, ns.Perm xs → ns.Pairwise (· ≤ ·) → Φ ns n) : Mi.sortI xs Φ Ψ n := by delta Mi.sortI; exact ⟨h, k⟩
theorem popE_i {xs : List α} {a : α} {Φ : α × List α → Nat → Prop} (h : xs[xs.length - 1]? = some a) (k : Φ (a, xs.dropLast) n) : Mi.popE xs Φ Ψ n := by delta Mi.popE; exact ⟨a, h, k⟩
theorem popAt_i {xs : List α} {j : Int} {m : Nat} {a : α} {Φ : α × List α → Nat → Prop} (h0 : -(2 ^ 63) ≤ j ∧ j < 2 ^ 63) (h : seqIndex? j xs.length = some m) (h2 : xs[m]? = some a) (k : Φ (a, xs.eraseIdx m) n) : Mi.popAt xs j Φ Ψ n := by delta Mi.popAt; exact ⟨m, a, h0, h, h2, k⟩
theorem listD_i {d : PyData} {ds : List PyData} {Φ : List PyData → Nat → Prop} (h : d = .tuple ds ∨ d = .list ds) (k : Φ ds n) : Mi.listD d Φ Ψ n := by delta Mi.listD; exact ⟨ds, h, k⟩
theorem inDT_i {d : PyData} {ds : List PyData} {Φ : Bool → Nat → Prop} (h1 : SeqAt.shaped d = true) (h2 : SeqAt.shaped (.tuple ds) = true) (k : Φ (ds.any fun z => PyData.eqv z d) n) : Mi.inDT d (.tuple ds) Φ Ψ n := by delta Mi.inDT; exact ⟨ds, rfl, ⟨h1, h2⟩, k⟩
theorem inD_i {d : PyData} {ds : List PyData} {Φ : Bool → Nat → Prop} (h1 : SeqAt.shaped d = true) (h2 : SeqAt.shaped (.list ds) = true) (k : Φ (ds.any fun z => PyData.eqv z d) n) : Mi.inD d ds Φ Ψ n := by delta Mi.inD; exact ⟨⟨h1, h2⟩, k⟩
theorem eqD_i {d e : PyData} {Φ : Bool → Nat → Prop} (h1 : SeqAt.shaped d = true) (h2 : SeqAt.shaped e = true) (k : Φ (PyData.eqv d e) n) : Mi.eqD d e Φ Ψ n := by delta Mi.eqD; exact ⟨⟨h1, h2⟩, k⟩
theorem neD_i {d e : PyData} {Φ : Bool → Nat → Prop} (h1 : SeqAt.shaped d = true) (h2 : SeqAt.shaped e = true) (k : Φ (!PyData.eqv d e) n) : Mi.neD d e Φ Ψ n := by delta Mi.neD; exact ⟨⟨h1, h2⟩, k⟩
theorem sortD_i {d : α → PyData} {xs : List α} {Φ : List α → Nat → Prop} (h : (∀ x y, PySem.W.alike (d x) (d y) = true) ∧ (∀ x, ∃ y r, d x = .tuple (y :: r)) ∧ (∀ x, (d x).depth ≤ 60) ∧ PyData.canLayAll0 (xs.map d) = true) (k : Φ (xs.mergeSort (PySem.W.dataLe false d)) n) : Mi.sortD d xs Φ Ψ n := by delta Mi.sortD; exact ⟨h, k⟩
theorem setL_i {xs : List α} {j : Int} {a : α} {m : Nat} {Φ : List α → Nat → Prop} (h : ixN xs.length j = some m) (k : Φ (xs.set m a) n) : Mi.setL xs j a Φ Ψ n := by delta Mi.setL; exact ⟨m, h, k⟩
theorem max_i {xs : List Int} {Φ : Int → Nat → Prop} (h : 0 < xs.length) (k : ∀ m, m ∈ xs → (∀ y, y ∈ xs → y ≤ m) → Φ m n) : Mi.max xs Φ Ψ n := by delta Mi.max; exact ⟨h, k⟩
theorem min_i {xs : List Int} {Φ : Int → Nat → Prop} (h : 0 < xs.length) (k : ∀ m, m ∈ xs → (∀ y, y ∈ xs → m ≤ y) → Φ m n) : Mi.min xs Φ Ψ n := by delta Mi.min; exact ⟨h, k⟩
theorem range_at {m i : Nat} {x : Int} (h : ((List.range m).map fun i : Nat => (i : Int))[i]? = some x) : x = (i : Int) ∧ i < m := by
  rw [List.getElem?_map] at h
  cases e : (List.range m)[i]? with
  | none => rw [e] at h; cases h
  | some k =>
    rw [e] at h
    obtain ⟨h1, h2⟩ := List.getElem?_eq_some_iff.mp e
    rw [List.length_range] at h1
    rw [List.getElem_range] at h2
    subst h2
    exact ⟨(Option.some.inj h).symm, h1⟩
end
/-! ### equality of data -/
class IsQ {α : Type} (R : α → VP) [IsD R] where
  ok : α → Prop
  k : Nat
  lay : ∀ a : α, ok a → (IsD.d R a).canLay0 = true
  dep : ∀ a : α, (IsD.d R a).depth ≤ k
  eqv : ∀ a b : α, PyData.eqv (IsD.d R a) (IsD.d R b) = true ↔ a = b
instance : IsQ rInt := ⟨fun _ => True, 0, fun _ _ => by simp [IsD.d, PyData.canLay0], fun _ => by simp [IsD.d, PyData.depth], fun a b => by simp [IsD.d, PyData.eqv]⟩
instance : IsQ rBl := ⟨fun _ => True, 0, fun _ _ => by simp [IsD.d, PyData.canLay0], fun _ => by simp [IsD.d, PyData.depth], fun a b => by simp [IsD.d, PyData.eqv]⟩
instance : IsQ rStr := ⟨fun z => PyData.strOk z = true, 0, fun _ h => by simp [IsD.d, PyData.canLay0, h], fun _ => by simp [IsD.d, PyData.depth], fun a b => by simp [IsD.d, PyData.eqv]⟩
instance : IsQ rNon := ⟨fun _ => True, 0, fun _ _ => by simp [IsD.d, PyData.canLay0], fun _ => by simp [IsD.d, PyData.depth], fun a b => by simp [IsD.d, PyData.eqv]⟩
section
variable {α β : Type} {R : α → VP} {S : β → VP} [IsD R] [IsQ R] [IsD S] [IsQ S]
theorem q_layAll : ∀ xs : List α, (∀ x ∈ xs, IsQ.ok R x) → PyData.canLayAll0 (xs.map (IsD.d R)) = true
  | [], _ => by simp [PyData.canLayAll0]
  | x :: xs, h => by simp [PyData.canLayAll0, IsQ.lay (R := R) x (h x (List.mem_cons_self ..)), q_layAll xs fun y hy => h y (List.mem_cons_of_mem _ hy)]
theorem q_depAll : ∀ xs : List α, PyData.depthAll (xs.map (IsD.d R)) ≤ IsQ.k R
  | [] => by simp [PyData.depthAll]
  | x :: xs => by
    have h1 := IsQ.dep (R := R) x
    have h2 := q_depAll xs
    simp only [List.map_cons, PyData.depthAll]
    omega
theorem q_eqvAll : ∀ xs ys : List α, PyData.eqvAll (xs.map (IsD.d R)) (ys.map (IsD.d R)) = true ↔ xs = ys
  | [], [] => by simp [PyData.eqvAll]
  | [], _ :: _ => by simp [PyData.eqvAll]
  | _ :: _, [] => by simp [PyData.eqvAll]
  | x :: xs, y :: ys => by
    have h1 := IsQ.eqv (R := R) x y
    have h2 := q_eqvAll xs ys
    simp only [List.map_cons, PyData.eqvAll, Bool.and_eq_true, List.cons.injEq]
    rw [h1, h2]
instance : IsQ (rLst R) := ⟨fun xs => ∀ x ∈ xs, IsQ.ok R x, IsQ.k R + 1, fun xs h => by simp only [IsD.d, PyData.canLay0]; exact q_layAll xs h, fun xs => by
  have := q_depAll (R := R) xs
  simp only [IsD.d, PyData.depth]
  omega, fun xs ys => by simp only [IsD.d, PyData.eqv]; exact q_eqvAll xs ys⟩
instance : IsQ (rTup R) := ⟨fun xs => ∀ x ∈ xs, IsQ.ok R x, IsQ.k R + 1, fun xs h => by simp only [IsD.d, PyData.canLay0]; exact q_layAll xs h, fun xs => by
  have := q_depAll (R := R) xs
  simp only [IsD.d, PyData.depth]
  omega, fun xs ys => by simp only [IsD.d, PyData.eqv]; exact q_eqvAll xs ys⟩
instance : IsQ (rPr R S) := ⟨fun q => IsQ.ok R q.1 ∧ IsQ.ok S q.2, max (IsQ.k R) (IsQ.k S) + 1, fun q h => by simp [IsD.d, PyData.canLay0, PyData.canLayAll0, IsQ.lay (R := R) q.1 h.1, IsQ.lay (R := S) q.2 h.2], fun q => by
  have h1 := IsQ.dep (R := R) q.1
  have h2 := IsQ.dep (R := S) q.2
  simp only [IsD.d, PyData.depth, PyData.depthAll]
  omega, fun q r => by
  have h1 := IsQ.eqv (R := R) q.1 r.1
  have h2 := IsQ.eqv (R := S) q.2 r.2
  simp only [IsD.d, PyData.eqv, PyData.eqvAll, Bool.and_eq_true, Bool.and_true, h1, h2]
  obtain ⟨a, b⟩ := q
  obtain ⟨c, d⟩ := r
  simp⟩
theorem q_sh {a : α} (h : IsQ.ok R a) (hk : IsQ.k R ≤ 64) : SeqAt.shaped (IsD.d R a) = true := by
  unfold SeqAt.shaped
  rw [Bool.and_eq_true]
  exact ⟨IsQ.lay a h, decide_eq_true (Nat.le_trans (IsQ.dep a) hk)⟩
variable {Φ : Bool → Nat → Prop} {Ψ : Exc → Nat → Prop} {n : Nat} {a b : α}
theorem eq_yes (h : a = b) (ha : IsQ.ok R a) (k : Φ true n) (hk : IsQ.k R ≤ 64 := by decide) : Mi.eqD (IsD.d R a) (IsD.d R b) Φ Ψ n := by
  delta Mi.eqD
  subst h
  exact ⟨⟨q_sh ha hk, q_sh ha hk⟩, by rw [(IsQ.eqv a a).mpr rfl]; exact k⟩
theorem ne_no (h : a = b) (ha : IsQ.ok R a) (k : Φ false n) (hk : IsQ.k R ≤ 64 := by decide) : Mi.neD (IsD.d R a) (IsD.d R b) Φ Ψ n := by
  delta Mi.neD
  subst h
  exact ⟨⟨q_sh ha hk, q_sh ha hk⟩, by rw [(IsQ.eqv a a).mpr rfl]; exact k⟩
theorem eq_dec [DecidableEq α] (ha : IsQ.ok R a) (hb : IsQ.ok R b) (k : Φ (decide (a = b)) n) (hk : IsQ.k R ≤ 64 := by decide) : Mi.eqD (IsD.d R a) (IsD.d R b) Φ Ψ n := by
  delta Mi.eqD
  exact ⟨⟨q_sh ha hk, q_sh hb hk⟩, by
  have : PyData.eqv (IsD.d R a) (IsD.d R b) = decide (a = b) := by rw [Bool.eq_iff_iff, IsQ.eqv, decide_eq_true_iff]
  rw [this]; exact k⟩
theorem ne_dec [DecidableEq α] (ha : IsQ.ok R a) (hb : IsQ.ok R b) (k : Φ (!decide (a = b)) n) (hk : IsQ.k R ≤ 64 := by decide) : Mi.neD (IsD.d R a) (IsD.d R b) Φ Ψ n := by
  delta Mi.neD
  exact ⟨⟨q_sh ha hk, q_sh hb hk⟩, by
  have : PyData.eqv (IsD.d R a) (IsD.d R b) = decide (a = b) := by rw [Bool.eq_iff_iff, IsQ.eqv, decide_eq_true_iff]
  rw [this]; exact k⟩
end
end VL

namespace VL
open PySem PySem.Spec PyProof.Rows L2 LamX
/-- a def as the head tells it, with its code object -/
theorem funC_of {K : PySem.W.Frag} {x qual : Str} {st : Stmt} {p : Str × Option Str} {fd : FuncData} (F : FunD K x qual (defArgs st) (defBody st) (defScope st) [] [] (He.fAd K p) fd) : FunC K x qual st (He.fAd K p) fd (He.cT K p).1 := by
  obtain ⟨oc, od, dV, kV, doc, pm, an, cdv, ct, osl, e, l, c, hd, _⟩ := F.ex
  rcases hd with ⟨_, e2⟩ | ⟨e2, _⟩
  · subst e2
    obtain ⟨cc, rfl⟩ := He.codeIn_ref c
    have e3 : He.codeOf K p = cc := He.codeOf_eq l (by rw [e])
    exact ⟨⟨oc, od, kV, doc, pm, an, ct, osl, by rw [e]; show _ = PySem.W.fnOf x qual _ _ _ _ _ _ _ _ (Value.ref (He.codeOf K p)) _; rw [e3], l, by show PySem.W.codeIn K (.ref (He.codeOf K p)) qual = true; rw [e3]; exact c⟩, F.kp⟩
  · exact absurd rfl e2
end VL
namespace VL
open PySem PySem.Spec PyProof.Rows L2
theorem law_binds {K : PySem.W.Frag} {x qual p : Str} {st : Stmt} {f : Addr} {fd : FuncData} (F : Fun K x qual st f fd) (h : ∀ (kV doc pm : Value) (an : Option Addr) (cdv ct v : Value), bindArgs (PySem.W.fnOf x qual (defArgs st) (defBody st) (defScope st) .none kV doc pm an cdv ct) ⟨[v], []⟩ = pure [(p, v)]) (s : Shared) (v : Value) : BindsTo s fd ⟨[v], []⟩ [(p, v)] := by
  obtain ⟨oc, od, kV, doc, pm, an, cdv, ct, osl, rfl, lk, hcd⟩ := F.ex
  exact .of_eq (h kV doc pm an cdv ct v)
end VL

namespace ZN
open PySem PySem.Spec PyProof.Rows
/-! zip(*lines), drained by tuple(..): any number of lines -/
theorem typeCall_zip_n (us : List Value) : checkTypeCall "zip" ⟨us, []⟩ = pure () := by
  kernel_rfl
theorem newCall_zip_n : ∀ (us : List Value), us.length ≤ 10 → checkBuiltinCall "zip.__new__" ⟨.type "zip" :: us, []⟩ = pure ()
  | [], _ => by kernel_rfl
  | [a0], _ => by kernel_rfl
  | [a0, a1], _ => by kernel_rfl
  | [a0, a1, a2], _ => by kernel_rfl
  | [a0, a1, a2, a3], _ => by kernel_rfl
  | [a0, a1, a2, a3, a4], _ => by kernel_rfl
  | [a0, a1, a2, a3, a4, a5], _ => by kernel_rfl
  | [a0, a1, a2, a3, a4, a5, a6], _ => by kernel_rfl
  | [a0, a1, a2, a3, a4, a5, a6, a7], _ => by kernel_rfl
  | [a0, a1, a2, a3, a4, a5, a6, a7, a8], _ => by kernel_rfl
  | [a0, a1, a2, a3, a4, a5, a6, a7, a8, a9], _ => by kernel_rfl
  | _ :: _ :: _ :: _ :: _ :: _ :: _ :: _ :: _ :: _ :: _ :: _, h => absurd h (by simp)
theorem args_init_n (o : Value) (us : List Value) : argsOk "object.__init__" ⟨o :: us, []⟩ := by
  unfold argsOk; rw [signature?_of (id := "object.__init__") (n := ['_', '_', 't', 'i', 'n', 'i', '_', '_']) (o := ['t', 'c', 'e', 'j', 'b', 'o']) (by kernel_rfl) PySem.F.owner_object]; kernel_rfl
theorem zip_nolen : typeLookup (.type "zip") "__len__" = pure none := by rw [typeLookup_type, builtinLookup_eq_fast]; kernel_rfl
theorem zip_nohint : typeLookup (.type "zip") "__length_hint__" = pure none := by rw [typeLookup_type, builtinLookup_eq_fast]; kernel_rfl

/-- zip's own object -/
abbrev ZipO (h : Heap) (z TI TO : Addr) (f0 f1 : Value) : Prop :=
  h.get? z = some { cls := .type "zip", dict := none, data := .fields #[f0, f1, .bool false, .ref TI, .ref TO], slots := #[] }
abbrev TupO (h : Heap) (T : Addr) (vs : Array Value) : Prop := h.get? T = some { cls := .type "tuple", data := .seq vs }
/-- an iterator at `it` over the line at l, its next place i -/
def ItSt (h : Heap) (it l : Addr) (items : Array Value) (i : Nat) : Prop := (h.IsListIter it l i ∧ h.IsList l items) ∨ (h.IsTupleIter it l i ∧ h.IsTuple l items)
theorem ItSt.at {h h' : Heap} {it l : Addr} {items : Array Value} {i : Nat} (x : ItSt h it l items i) (e1 : ∀ o, h.get? it = some o → h'.get? it = some o) (e2 : ∀ o, h.get? l = some o → h'.get? l = some o) : ItSt h' it l items i := by
  rcases x with ⟨a, b⟩ | ⟨a, b⟩
  · exact .inl ⟨a.at e1, b.at e2⟩
  · exact .inr ⟨a.at e1, b.at e2⟩
section
variable {prog : Program} {w : World} {A : Around} {E : Value → Shared → Prop} {s : Shared}
theorem itSt_item (hh : A.handled = none) {it l : Addr} {items : Array Value} {i : Nat} {x : Value} {Q : Value → Shared → Prop} (st : ItSt s.heap it l items i) (hne : l ≠ it) (hx : items[i]? = some x)
    (hQ : ∀ h' tk, ItSt h' it l items (i + 1) → Heap.SameBut it s.heap h' → Q x { s with heap := h', toks := tk }) : wpAny (model prog w) A (Builtin.SmallTypes.nextOf (.ref it)) Q E s := by
  have hi : i < items.size := (Array.getElem?_eq_some_iff.mp hx).1
  rcases st with st | st
  · refine (Draws.list (prog := prog) (w := w) hh it l hne items).item i s Q E hi st fun y h' tk hy st' sb => ?_
    have : x = y := by rw [hx] at hy; exact Option.some.inj hy
    subst this
    exact hQ h' tk (.inl st') sb
  · refine (Draws.tuple (prog := prog) (w := w) hh it l hne items).item i s Q E hi st fun y h' tk hy st' sb => ?_
    have : x = y := by rw [hx] at hy; exact Option.some.inj hy
    subst this
    exact hQ h' tk (.inr st') sb
theorem itSt_done (hh : A.handled = none) {it l : Addr} {items : Array Value} {Q : Value → Shared → Prop} (st : ItSt s.heap it l items items.size) (hne : l ≠ it)
    (hE : ∀ h' e, Heap.ExtBut it s.heap h' → (∃ o, h'.get? e = some o ∧ o.cls = .type "StopIteration") → E (.ref e) { s with heap := h' }) : wpAny (model prog w) A (Builtin.SmallTypes.nextOf (.ref it)) Q E s := by
  rcases st with st | st
  · exact (Draws.list (prog := prog) (w := w) hh it l hne items).done s Q E st hE
  · exact (Draws.tuple (prog := prog) (w := w) hh it l hne items).done s Q E st hE
end
end ZN

namespace ZN
open PySem PySem.Spec PyProof.Rows
section
variable {M : Model} {A : Around} {E : Value → Shared → Prop}
theorem forIn_inv {α β : Type} {f : α → β → Sem (ForInStep β)} {Q : β → Shared → Prop} (J : List α → β → Shared → Prop) (step : ∀ a r b s, J (a :: r) b s → wpAny M A (f a b) (fun st s' => ∃ b', st = .yield b' ∧ J r b' s') E s) (fin : ∀ b s, J [] b s → Q b s) :
    ∀ (l : List α) (b : β) (s : Shared), J l b s → wpAny M A (forIn l b f) Q E s
  | [], b, s, h => by
    rw [List.forIn_nil]
    exact wpAny_pure (fin b s h)
  | a :: r, b, s, h => by
    rw [List.forIn_cons]
    refine wpAny_bind (wpAny_mono (step a r b s h) (fun st s' ⟨b', e, h'⟩ => ?_) fun _ _ e => e)
    subst e
    exact forIn_inv J step fin r b' s' h'
end
/-- the iterators, their lines, the lines' items -/
abbrev Ls := List (Addr × Addr × Array Value)
structure Sep (z TI TO : Addr) (L : Ls) : Prop where
  TIz : TI ≠ z
  TOz : TO ≠ z
  TITO : TI ≠ TO
  it : ∀ p ∈ L, p.1 ≠ z ∧ p.1 ≠ TI ∧ p.1 ≠ TO
  ln : ∀ p ∈ L, p.2.1 ≠ z ∧ p.2.1 ≠ TO
  li : ∀ p ∈ L, ∀ q ∈ L, p.2.1 ≠ q.1
  nd : (L.map (·.1)).Nodup
/-- all iterators at place i -/
def All (h : Heap) (L : Ls) (i : Nat) : Prop := ∀ p ∈ L, ItSt h p.1 p.2.1 p.2.2 i
def col (L : Ls) (i : Nat) : List Value := L.map fun p => (p.2.2[i]?).getD .none
section
variable {prog : Program} {w : World} {A : Around} {E : Value → Shared → Prop} {s : Shared} {z TI TO : Addr} {L : Ls}
theorem refs_eq (L : Ls) : (L.map fun p => Value.ref p.1).toArray.toList = L.map fun p => Value.ref p.1 := by simp
/-- what may have changed -/
def Kp (z TO : Addr) (L : Ls) (h h' : Heap) : Prop := h'.objs.size = h.objs.size ∧ ∀ c o, c ≠ z → c ≠ TO → (∀ p ∈ L, c ≠ p.1) → h.get? c = some o → h'.get? c = some o
theorem Kp.refl (h : Heap) : Kp z TO L h h := ⟨rfl, fun _ _ _ _ _ e => e⟩
theorem Kp.trans {h1 h2 h3 : Heap} (a : Kp z TO L h1 h2) (b : Kp z TO L h2 h3) : Kp z TO L h1 h3 := ⟨b.1.trans a.1, fun c o x y k e => b.2 c o x y k (a.2 c o x y k e)⟩
/-- behind the first k iterators of this turn -/
structure Mid (z TI TO : Addr) (L : Ls) (i : Nat) (h0 : Heap) (f0 f1 : Value) (k : Nat) (rest : Ls) (h : Heap) : Prop where
  pre : L = L.take k ++ rest
  kl : k ≤ L.length
  zz : ZipO h z TI TO f0 f1
  ti : TupO h TI (L.map fun p => Value.ref p.1).toArray
  done : ∀ p ∈ L.take k, ItSt h p.1 p.2.1 p.2.2 (i + 1)
  todo : ∀ p ∈ rest, ItSt h p.1 p.2.1 p.2.2 i
  kp : Kp z TO L h0 h
theorem Mid.next {i : Nat} {h0 h h' : Heap} {f0 f1 : Value} {k : Nat} {rest : Ls} {p : Addr × Addr × Array Value} (D : Sep z TI TO L) (m : Mid z TI TO L i h0 f0 f1 k (p :: rest) h) (st : ItSt h' p.1 p.2.1 p.2.2 (i + 1)) (sb : Heap.SameBut p.1 h h') :
    Mid z TI TO L i h0 f0 f1 (k + 1) rest h' := by
  have hp : p ∈ L := by rw [m.pre]; exact List.mem_append_right _ List.mem_cons_self
  have hlen : k < L.length := by
    have := congrArg List.length m.pre
    rw [List.length_append, List.length_cons, List.length_take] at this
    omega
  have htk : (L.take k).length = k := by rw [List.length_take]; omega
  have hk : L.take (k + 1) = L.take k ++ [p] := by
    have e : L[k]? = some p := by
      rw [m.pre, List.getElem?_append_right (by omega), htk, Nat.sub_self]
      rfl
    exact L2.take_more e
  have other : ∀ q ∈ L, q.1 ≠ p.1 → ∀ j, ItSt h q.1 q.2.1 q.2.2 j → ItSt h' q.1 q.2.1 q.2.2 j := fun q hq hne j x => x.at (fun o e => sb.extBut _ _ hne e) fun o e => sb.extBut _ _ (D.li q hq p hp) e
  have nd := D.nd
  rw [m.pre, List.map_append, List.map_cons] at nd
  obtain ⟨_, nd2, nd3⟩ := List.nodup_append.mp nd
  refine ⟨?_, hlen, ?_, ?_, fun q hq => ?_, fun q hq => ?_, m.kp.trans ⟨sb.1, fun c o _ _ k3 e => sb.extBut _ _ (k3 p hp) e⟩⟩
  · rw [hk, List.append_assoc]; exact m.pre
  · exact sb.extBut _ _ (D.it p hp).1.symm m.zz
  · exact sb.extBut _ _ (D.it p hp).2.1.symm m.ti
  · rw [hk] at hq
    rcases List.mem_append.mp hq with hq | hq
    · exact other q (List.mem_of_mem_take hq) (nd3 _ (List.mem_map.mpr ⟨q, hq, rfl⟩) _ List.mem_cons_self) _ (m.done q hq)
    · rw [List.mem_singleton.mp hq]; exact st
  · have hqL : q ∈ L := by rw [m.pre]; exact List.mem_append_right _ (List.mem_cons_of_mem _ hq)
    exact other q hqL (fun e => (List.nodup_cons.mp nd2).1 (by rw [← e]; exact List.mem_map.mpr ⟨q, hq, rfl⟩)) _ (m.todo q (List.mem_cons_of_mem _ hq))
theorem Mid.keep {i : Nat} {h0 h h' : Heap} {f0 f1 : Value} {k : Nat} {rest : Ls} (D : Sep z TI TO L) (m : Mid z TI TO L i h0 f0 f1 k rest h) (sb : Heap.SameBut TO h h') : Mid z TI TO L i h0 f0 f1 k rest h' := by
  have hr : ∀ q ∈ rest, q ∈ L := fun q hq => by rw [m.pre]; exact List.mem_append_right _ hq
  have other : ∀ q ∈ L, ∀ j, ItSt h q.1 q.2.1 q.2.2 j → ItSt h' q.1 q.2.1 q.2.2 j := fun q hq j x => x.at (fun o e => sb.extBut _ _ (D.it q hq).2.2 e) fun o e => sb.extBut _ _ (D.ln q hq).2 e
  exact ⟨m.pre, m.kl, sb.extBut _ _ D.TOz.symm m.zz, sb.extBut _ _ D.TITO m.ti, fun q hq => other q (List.mem_of_mem_take hq) _ (m.done q hq), fun q hq => other q (hr q hq) _ (m.todo q hq), m.kp.trans ⟨sb.1, fun c o _ k2 _ e => sb.extBut _ _ k2 e⟩⟩
theorem col_take {i k : Nat} {p : Addr × Addr × Array Value} {x : Value} (e : L[k]? = some p) (hx : p.2.2[i]? = some x) : (col L i).take (k + 1) = (col L i).take k ++ [x] := by
  have : (col L i)[k]? = some x := by
    unfold col
    rw [List.getElem?_map, e]
    show some ((p.2.2[i]?).getD .none) = some x
    rw [hx]
    rfl
  exact L2.take_more this
/-- the first draw: its own tuple is free -/
theorem next_first (hh : A.handled = none) {i : Nat} {Q : Value → Shared → Prop} (D : Sep z TI TO L) (hz : ZipO s.heap z TI TO .none (.bool false)) (hTI : TupO s.heap TI (L.map fun p => Value.ref p.1).toArray)
    (hTO : ∃ vs : Array Value, TupO s.heap TO vs ∧ vs.size = L.length) (hL : L ≠ []) (hLn : L.length ≤ 1000) (ha : All s.heap L i) (hi : ∀ p ∈ L, i < p.2.2.size)
    (hQ : ∀ h' tk, ZipO h' z TI TO (rawInt s.heap.objs.size) (.bool false) → TupO h' TI (L.map fun p => Value.ref p.1).toArray → All h' L (i + 1) → TupO h' s.heap.objs.size (col L i).toArray → h'.objs.size = s.heap.objs.size + 1 →
      (∀ c o, c ≠ z → c ≠ TO → (∀ p ∈ L, c ≠ p.1) → s.heap.get? c = some o → h'.get? c = some o) → Q (.ref s.heap.objs.size) { s with heap := h', toks := tk }) :
    wpAny (model prog w) A (Builtin.«zip.__next__» ⟨[.ref z], []⟩) (fun fin s' => ∃ v, fin = .done (.ret v) ∧ Q v s') E s := by
  obtain ⟨vs0, hTO, hvs⟩ := hTO
  obtain ⟨hp, g, d, tk0, os⟩ := s
  show wpAny _ _ (field (.ref z) 2 >>= _) _ _ _
  refine wpAny_bind (wpAny_field hz rfl (x := .bool false) rfl ?_)
  show wpAny _ _ (field (.ref z) 3 >>= _) _ _ _
  refine wpAny_bind (wpAny_field hz rfl (x := .ref TI) rfl ?_)
  refine wpAny_bind (wpAny_seqItems hTI rfl ?_)
  have hne : (L.map fun p => Value.ref p.1).toArray.isEmpty = false := by
    cases L with
    | nil => exact absurd rfl hL
    | cons _ _ => rfl
  dsimp only
  rw [if_neg (by rw [hne]; exact Bool.false_ne_true)]
  show wpAny _ _ (Builtin.SmallTypes.ownedTupleIsFree (.ref z) >>= _) _ _ _
  refine wpAny_bind ?_
  unfold Builtin.SmallTypes.ownedTupleIsFree
  refine wpAny_bind (wpAny_field hz rfl (x := .none) rfl (wpAny_pure ?_))
  simp only [if_true]
  refine wpAny_bind (wpAny_rule ?_)
  refine wpAny_bind (wpAny_field hz rfl (x := .ref TO) rfl ?_)
  refine wpAny_bind (wpAny_setField_rec hz (by simp) fun g0 hz0 hs0 => ?_)
  replace hz0 : ZipO g0 z TI TO .ellipsis (.bool false) := hz0
  replace hs0 : Heap.SameBut z hp g0 := hs0
  refine wpAny_bind ?_
  have sz : ∀ {n : Nat}, n = L.length → n ≤ sizeLine ∧ n ≤ sizeLine + 1 := fun e => by rw [e, sizeLine_eq]; omega
  have set_k : ∀ (vs : Array Value) (k : Nat) (x : Value), vs.size = L.length → k < L.length → (vs.setIfInBounds k x).size = L.length ∧ (vs.setIfInBounds k x).toList.take (k + 1) = vs.toList.take k ++ [x] := by
    intro vs k x h1 h2
    refine ⟨by rw [Array.size_setIfInBounds]; exact h1, ?_⟩
    rw [Array.toList_setIfInBounds]
    have hl : k < vs.toList.length := by simpa [h1] using h2
    have e : (vs.toList.set k x)[k]? = some x := by rw [List.getElem?_set_self hl]
    rw [L2.take_more e, List.take_set_of_le (Nat.le_refl k)]
  have m0 : Mid z TI TO L i hp .ellipsis (.bool false) 0 L g0 := ⟨rfl, Nat.zero_le _, hz0, hs0.extBut _ _ D.TIz hTI, fun p hq => (nomatch hq), fun p hq => (ha p hq).at (fun o e => hs0.extBut _ _ (D.it p hq).1 e) (fun o e => hs0.extBut _ _ (D.ln p hq).1 e), hs0.1, fun c o k1 _ _ e => hs0.extBut _ _ k1 e⟩
  refine forIn_inv (fun rest b s' => ∃ (k : Nat) (rl : Ls) (vs : Array Value) (h' : Heap) (tk : Nat), rest = (rl.map fun p => Value.ref p.1).zipIdx k ∧ b = (none, ()) ∧ s' = ⟨h', g, d, tk, os⟩ ∧ Mid z TI TO L i hp .ellipsis (.bool false) k rl h' ∧ TupO h' TO vs ∧ vs.size = L.length ∧ vs.toList.take k = (col L i).take k) ?_ ?_ _ _ _
    ⟨0, L, vs0, g0, tk0, rfl, rfl, rfl, m0, hs0.extBut _ _ D.TOz hTO, hvs, rfl⟩
  · rintro a r b s' ⟨k, rl, vs, h', tk, er, rfl, rfl, m, hTO', hvs', hcol⟩
    cases rl with
    | nil => cases er
    | cons p rl =>
      rw [List.map_cons, List.zipIdx_cons] at er
      injection er with e1 e2
      subst e1 e2
      have hpL : p ∈ L := by rw [m.pre]; exact List.mem_append_right _ List.mem_cons_self
      have hkl : k < L.length := by
        have := congrArg List.length m.pre
        rw [List.length_append, List.length_cons, List.length_take] at this
        omega
      have ek : L[k]? = some p := by
        have htk : (L.take k).length = k := by rw [List.length_take]; omega
        rw [m.pre, List.getElem?_append_right (by omega), htk, Nat.sub_self]
        rfl
      have hx : p.2.2[i]? = some (p.2.2[i]'(hi p hpL)) := Array.getElem?_eq_getElem _
      refine wpAny_bind (wpAny_onRaise ?_)
      show wpAny _ _ (Builtin.SmallTypes.nextOf (.ref p.1) >>= _) _ _ _
      refine wpAny_bind (itSt_item hh (m.todo p List.mem_cons_self) (D.li p hpL p hpL) hx fun h2 tk2 st2 sb2 => wpAny_pure ?_)
      have m2 := m.next D st2 sb2
      have hTO2 : TupO h2 TO vs := sb2.extBut _ _ (D.it p hpL).2.2.symm hTO'
      refine wpAny_bind (wpAny_seqItems (s := ⟨h2, g, d, tk2, os⟩) hTO2 rfl ?_)
      refine wpAny_bind (wpAny_updateSeq (s := ⟨h2, g, d, tk2, os⟩) hTO2 rfl ?_ (sz hvs').1 (sz (by rw [Array.size_setIfInBounds]; exact hvs')).2)
      obtain ⟨z1, z2⟩ := set_k vs k (p.2.2[i]'(hi p hpL)) hvs' hkl
      have sb3 : Heap.SameBut TO h2 (h2.update TO (Obj.mapSeq (·.setIfInBounds k (p.2.2[i]'(hi p hpL))))) := Heap.SameBut.update ..
      refine wpAny_bind (wpAny_letGo (wpAny_pure ⟨_, rfl, k + 1, rl, vs.setIfInBounds k (p.2.2[i]'(hi p hpL)), _, tk2, rfl, rfl, rfl, m2.keep D sb3, ?_, z1, ?_⟩))
      · show (h2.update TO _).get? TO = _
        rw [Heap.get?_update_self _ hTO2 rfl]
        simp [Obj.mapSeq]
      · rw [z2, col_take ek hx, hcol]
  · rintro b s' ⟨k, rl, vs, h', tk, er, rfl, rfl, m, hTO', hvs', hcol⟩
    have hrl : rl = [] := by
      cases rl with
      | nil => rfl
      | cons _ _ => cases er
    subst hrl
    have hkL : L.take k = L := by have := m.pre; rw [List.append_nil] at this; exact this.symm
    have hk : L.length ≤ k := by have := congrArg List.length hkL; rw [List.length_take] at this; omega
    have hvc : vs.toList = col L i := by
      have l1 : vs.toList.length ≤ k := by simpa [hvs'] using hk
      have l2 : (col L i).length ≤ k := by unfold col; simpa using hk
      rw [List.take_of_length_le l1, List.take_of_length_le l2] at hcol
      exact hcol
    show wpAny _ _ (seqItems? (.ref TO) >>= _) _ _ _
    refine wpAny_bind (wpAny_seqItems (s := ⟨h', g, d, tk, os⟩) hTO' rfl ?_)
    refine wpAny_bind (wpAny_newTuple ?_ (sz (by simpa using hvs')).1)
    show wpAny _ _ (Builtin.SmallTypes.ownedTupleHandOut (.ref z) (.ref h'.objs.size) >>= _) _ _ ⟨h'.push { cls := .type "tuple", data := .seq vs.toList.toArray }, g, d, tk, os⟩
    have hTn : TupO (h'.push { cls := .type "tuple", data := .seq vs.toList.toArray }) h'.objs.size (col L i).toArray := by
      rw [hvc]; exact Heap.get?_push_size _ rfl
    have hzlt : z < h'.objs.size := Heap.lt_size m.zz
    refine wpAny_bind ?_
    unfold Builtin.SmallTypes.ownedTupleHandOut
    have hz6 : ZipO (h'.push { cls := .type "tuple", data := .seq vs.toList.toArray }) z TI TO .ellipsis (.bool false) := Heap.get?_push_of_some _ m.zz
    refine wpAny_bind (wpAny_setField_rec hz6 (by simp) fun h7 hz7 hs7 => ?_)
    replace hz7 : ZipO h7 z TI TO (rawInt h'.objs.size) (.bool false) := hz7
    refine wpAny_setField_rec hz7 (by simp) fun h8 hz8 hs8 => ?_
    replace hz8 : ZipO h8 z TI TO (rawInt h'.objs.size) (.bool false) := hz8
    replace hs7 : Heap.SameBut z (h'.push { cls := .type "tuple", data := .seq vs.toList.toArray }) h7 := hs7
    replace hs8 : Heap.SameBut z h7 h8 := hs8
    have up : ∀ c o, c ≠ z → h'.get? c = some o → h8.get? c = some o := fun c o c1 e => hs8.extBut _ _ c1 (hs7.extBut _ _ c1 (Heap.get?_push_of_some _ e))
    have hT8 : TupO h8 h'.objs.size (col L i).toArray := hs8.extBut _ _ (Nat.ne_of_gt hzlt) (hs7.extBut _ _ (Nat.ne_of_gt hzlt) hTn)
    have hz9 : h8.objs.size = h'.objs.size + 1 := by rw [hs8.1, hs7.1, Heap.size_push]
    have hsz : h'.objs.size = hp.objs.size := m.kp.1
    rw [hsz] at hz8 hT8 hz9
    refine wpAny_pure ⟨_, rfl, ?_⟩
    show Q (.ref h'.objs.size) ⟨h8, g, d, tk, os⟩
    rw [hsz]
    exact hQ h8 tk hz8 (up _ _ D.TIz m.ti) (fun q hq => (m.done q (by rw [hkL]; exact hq)).at (fun o e => up _ o (D.it q hq).1 e) fun o e => up _ o (D.ln q hq).1 e) hT8 hz9 fun c o c1 c2 c3 e => up c o c1 (m.kp.2 c o c1 c2 c3 e)

theorem arr_forIn {β : Type} {f : Value → β → Sem (ForInStep β)} {Q : β → Shared → Prop} {l : List Value} {b : β} (h : wpAny (model prog w) A (forIn l b f) Q E s) : wpAny (model prog w) A (forIn l.toArray b f) Q E s := by
  have e : (forIn l.toArray b f : Sem β) = forIn l b f := by simp
  rw [e]; exact h
/-- a later draw: the tuple handed out before is alive -/
theorem next_later (hh : A.handled = none) {i : Nat} {ad : Addr} {f1 : Value} {Q : Value → Shared → Prop} (D : Sep z TI TO L) (hz : ZipO s.heap z TI TO (rawInt ad) f1) (hal : ∃ o, s.heap.get? ad = some o) (hTI : TupO s.heap TI (L.map fun p => Value.ref p.1).toArray)
    (hL : L ≠ []) (hLn : L.length ≤ 1000) (ha : All s.heap L i) (hi : ∀ p ∈ L, i < p.2.2.size)
    (hQ : ∀ h' tk f1', ZipO h' z TI TO (rawInt ad) f1' → TupO h' TI (L.map fun p => Value.ref p.1).toArray → All h' L (i + 1) → TupO h' s.heap.objs.size (col L i).toArray → h'.objs.size = s.heap.objs.size + 1 →
      (∀ c o, c ≠ z → c ≠ TO → (∀ p ∈ L, c ≠ p.1) → s.heap.get? c = some o → h'.get? c = some o) → Q (.ref s.heap.objs.size) { s with heap := h', toks := tk }) :
    wpAny (model prog w) A (Builtin.«zip.__next__» ⟨[.ref z], []⟩) (fun fin s' => ∃ v, fin = .done (.ret v) ∧ Q v s') E s := by
  obtain ⟨oa, hal⟩ := hal
  obtain ⟨hp, g, d, tk0, os⟩ := s
  show wpAny _ _ (field (.ref z) 2 >>= _) _ _ _
  refine wpAny_bind (wpAny_field hz rfl (x := .bool false) rfl ?_)
  show wpAny _ _ (field (.ref z) 3 >>= _) _ _ _
  refine wpAny_bind (wpAny_field hz rfl (x := .ref TI) rfl ?_)
  refine wpAny_bind (wpAny_seqItems hTI rfl ?_)
  have hne : (L.map fun p => Value.ref p.1).toArray.isEmpty = false := by
    cases L with
    | nil => exact absurd rfl hL
    | cons _ _ => rfl
  dsimp only
  rw [if_neg (by rw [hne]; exact Bool.false_ne_true)]
  show wpAny _ _ (Builtin.SmallTypes.ownedTupleIsFree (.ref z) >>= _) _ _ _
  refine wpAny_bind ?_
  unfold Builtin.SmallTypes.ownedTupleIsFree
  refine wpAny_bind (wpAny_field hz rfl (x := rawInt ad) rfl ?_)
  show wpAny _ _ (loadIfAlive ((ad : Int)).toNat >>= _) _ _ _
  rw [Int.toNat_natCast]
  refine wpAny_bind (PySem.W.kdx_alive hal ?_)
  dsimp only [Option.isNone]
  rw [if_neg Bool.false_ne_true]
  refine wpAny_bind (wpAny_field hz rfl (x := f1) rfl ?_)
  refine wpAny_mono (Q := fun b s' => b = false ∧ ∃ g0 f1', s' = (⟨g0, g, d, tk0, os⟩ : Shared) ∧ ZipO g0 z TI TO (rawInt ad) f1' ∧ Heap.SameBut z hp g0) ?_ (fun b s' hb => ?_) (fun _ _ e => e)
  · by_cases hf : (f1 != Value.bool true) = true
    · rw [if_pos hf]
      refine wpAny_bind (wpAny_setField_rec hz (by simp) fun g0 hz0 hs0 => wpAny_pure ⟨rfl, g0, .bool true, rfl, hz0, hs0⟩)
    · rw [if_neg hf]
      exact wpAny_pure ⟨rfl, hp, f1, rfl, hz, Heap.SameBut.refl ..⟩
  obtain ⟨rfl, g0, f1', rfl, hz0, hs0⟩ := hb
  rw [if_neg Bool.false_ne_true]
  have sz : ∀ {n : Nat}, n = L.length → n ≤ sizeLine ∧ n ≤ sizeLine + 1 := fun e => by rw [e, sizeLine_eq]; omega
  have m0 : Mid z TI TO L i hp (rawInt ad) f1' 0 L g0 := ⟨rfl, Nat.zero_le _, hz0, hs0.extBut _ _ D.TIz hTI, fun p hq => (nomatch hq), fun p hq => (ha p hq).at (fun o e => hs0.extBut _ _ (D.it p hq).1 e) (fun o e => hs0.extBut _ _ (D.ln p hq).1 e), hs0.1, fun c o k1 _ _ e => hs0.extBut _ _ k1 e⟩
  refine wpAny_bind (arr_forIn ?_)
  refine forIn_inv (fun rest b s' => ∃ (k : Nat) (rl : Ls) (h' : Heap) (tk : Nat) (vs : Array Value), rest = (rl.map fun p => Value.ref p.1) ∧ b = (none, vs) ∧ s' = ⟨h', g, d, tk, os⟩ ∧ Mid z TI TO L i hp (rawInt ad) f1' k rl h' ∧ vs.toList = (col L i).take k) ?_ ?_ _ _ _
    ⟨0, L, g0, tk0, #[], rfl, rfl, rfl, m0, rfl⟩
  · rintro a r b s' ⟨k, rl, h', tk, vs, er, rfl, rfl, m, hcol⟩
    cases rl with
    | nil => cases er
    | cons p rl =>
      rw [List.map_cons] at er
      injection er with e1 e2
      subst e1 e2
      have hpL : p ∈ L := by rw [m.pre]; exact List.mem_append_right _ List.mem_cons_self
      have hkl : k < L.length := by
        have := congrArg List.length m.pre
        rw [List.length_append, List.length_cons, List.length_take] at this
        omega
      have ek : L[k]? = some p := by
        have htk : (L.take k).length = k := by rw [List.length_take]; omega
        rw [m.pre, List.getElem?_append_right (by omega), htk, Nat.sub_self]
        rfl
      have hx : p.2.2[i]? = some (p.2.2[i]'(hi p hpL)) := Array.getElem?_eq_getElem _
      refine wpAny_bind (wpAny_holding ?_)
      show wpAny _ _ (Builtin.SmallTypes.nextOf (.ref p.1) >>= _) _ _ _
      refine wpAny_bind (itSt_item hh (m.todo p List.mem_cons_self) (D.li p hpL p hpL) hx fun h2 tk2 st2 sb2 => wpAny_pure ?_)
      refine wpAny_pure ⟨_, rfl, k + 1, rl, h2, tk2, vs.push (p.2.2[i]'(hi p hpL)), rfl, rfl, rfl, m.next D st2 sb2, ?_⟩
      rw [Array.toList_push, col_take ek hx, hcol]
  · rintro b s' ⟨k, rl, h', tk, vs, er, rfl, rfl, m, hcol⟩
    have hrl : rl = [] := by
      cases rl with
      | nil => rfl
      | cons _ _ => cases er
    subst hrl
    have hkL : L.take k = L := by have := m.pre; rw [List.append_nil] at this; exact this.symm
    have hk : L.length ≤ k := by have := congrArg List.length hkL; rw [List.length_take] at this; omega
    have hvc : vs.toList = col L i := by
      have l2 : (col L i).length ≤ k := by unfold col; simpa using hk
      rw [List.take_of_length_le l2] at hcol
      exact hcol
    refine wpAny_bind (wpAny_newTuple ?_ (sz (by show vs.toList.length = _; rw [hvc]; unfold col; simp)).1)
    have hTn : TupO (h'.push { cls := .type "tuple", data := .seq vs.toList.toArray }) h'.objs.size (col L i).toArray := by
      rw [hvc]; exact Heap.get?_push_size _ rfl
    have hsz : h'.objs.size = hp.objs.size := m.kp.1
    have up : ∀ c o, h'.get? c = some o → (h'.push { cls := .type "tuple", data := .seq vs.toList.toArray }).get? c = some o := fun c o e => Heap.get?_push_of_some _ e
    refine wpAny_pure ⟨_, rfl, ?_⟩
    show Q (.ref h'.objs.size) ⟨h'.push { cls := .type "tuple", data := .seq vs.toList.toArray }, g, d, tk, os⟩
    rw [hsz] at hTn ⊢
    refine hQ _ tk f1' (up _ _ m.zz) (up _ _ m.ti) (fun q hq => (m.done q (by rw [hkL]; exact hq)).at (fun o e => up _ o e) fun o e => up _ o e) hTn (by rw [Heap.size_push, hsz]) fun c o c1 c2 c3 e => up c o (m.kp.2 c o c1 c2 c3 e)
/-- the end -/
theorem next_end (hh : A.handled = none) {i : Nat} {f0 f1 : Value} {Q : Fin → Shared → Prop} (D : Sep z TI TO L) (hz : ZipO s.heap z TI TO f0 f1) (hf0 : ∃ (ad : Addr), f0 = rawInt ad ∧ ∃ o, s.heap.get? ad = some o) (hTI : TupO s.heap TI (L.map fun p => Value.ref p.1).toArray)
    (hL : L ≠ []) (ha : All s.heap L i) (hi : ∀ p ∈ L, i = p.2.2.size)
    (hE : ∀ h' tk e, (∀ c o, c ≠ z → c ≠ TO → (∀ p ∈ L, c ≠ p.1) → s.heap.get? c = some o → h'.get? c = some o) → (∃ o, h'.get? e = some o ∧ o.cls = .type "StopIteration") → E (.ref e) { s with heap := h', toks := tk }) :
    wpAny (model prog w) A (Builtin.«zip.__next__» ⟨[.ref z], []⟩) Q E s := by
  obtain ⟨hp, g, d, tk0, os⟩ := s
  obtain ⟨p, r, rfl⟩ : ∃ p r, L = p :: r := by
    cases L with
    | nil => exact absurd rfl hL
    | cons p r => exact ⟨p, r, rfl⟩
  have hpL : p ∈ p :: r := List.mem_cons_self
  show wpAny _ _ (field (.ref z) 2 >>= _) _ _ _
  refine wpAny_bind (wpAny_field hz rfl (x := .bool false) rfl ?_)
  show wpAny _ _ (field (.ref z) 3 >>= _) _ _ _
  refine wpAny_bind (wpAny_field hz rfl (x := .ref TI) rfl ?_)
  refine wpAny_bind (wpAny_seqItems hTI rfl ?_)
  have hne : ((p :: r).map fun p => Value.ref p.1).toArray.isEmpty = false := rfl
  dsimp only
  rw [if_neg (by rw [hne]; exact Bool.false_ne_true)]
  show wpAny _ _ (Builtin.SmallTypes.ownedTupleIsFree (.ref z) >>= _) _ _ _
  refine wpAny_bind ?_
  unfold Builtin.SmallTypes.ownedTupleIsFree
  have st0 : ∀ {g0 : Heap}, Heap.SameBut z hp g0 → ItSt g0 p.1 p.2.1 p.2.2 p.2.2.size := fun {g0} sb => by
    have := ha p hpL
    rw [hi p hpL] at this
    exact this.at (fun o e => sb.extBut _ _ (D.it p hpL).1 e) fun o e => sb.extBut _ _ (D.ln p hpL).1 e
  obtain ⟨ad, rfl, oa, hal⟩ := hf0
  refine wpAny_bind (wpAny_field hz rfl (x := rawInt ad) rfl ?_)
  show wpAny _ _ (loadIfAlive ((ad : Int)).toNat >>= _) _ _ _
  rw [Int.toNat_natCast]
  refine wpAny_bind (PySem.W.kdx_alive hal ?_)
  dsimp only [Option.isNone]
  rw [if_neg Bool.false_ne_true]
  refine wpAny_bind (wpAny_field hz rfl (x := f1) rfl ?_)
  refine wpAny_mono (Q := fun b s' => b = false ∧ ∃ g0 f1', s' = (⟨g0, g, d, tk0, os⟩ : Shared) ∧ ZipO g0 z TI TO (rawInt ad) f1' ∧ Heap.SameBut z hp g0) ?_ (fun b s' hb => ?_) (fun _ _ e => e)
  · by_cases hf : (f1 != Value.bool true) = true
    · rw [if_pos hf]
      refine wpAny_bind (wpAny_setField_rec hz (by simp) fun g0 hz0 hs0 => wpAny_pure ⟨rfl, g0, .bool true, rfl, hz0, hs0⟩)
    · rw [if_neg hf]
      exact wpAny_pure ⟨rfl, hp, f1, rfl, hz, Heap.SameBut.refl ..⟩
  obtain ⟨rfl, g0, f1', rfl, hz0, hs0⟩ := hb
  rw [if_neg Bool.false_ne_true]
  refine wpAny_bind (arr_forIn ?_)
  rw [List.map_cons, List.forIn_cons]
  refine wpAny_bind (wpAny_bind (wpAny_holding ?_))
  show wpAny _ _ (Builtin.SmallTypes.nextOf (.ref p.1) >>= _) _ _ _
  refine wpAny_bind (itSt_done hh (st0 hs0) (D.li p hpL p hpL) fun h' e hq he => ?_)
  exact hE h' tk0 e (fun c o c1 c2 c3 x => hq _ _ (c3 p hpL) (hs0.extBut _ _ c1 x)) he
/-! ### drawn by pyNext -/
theorem zip_type {f0 f1 : Value} {h : Heap} (hz : ZipO h z TI TO f0 f1) : ({ s with heap := h } : Shared).TypeIs (.ref z) "zip" := ⟨_, hz, rfl⟩
theorem pyNext_first (hh : A.handled = none) {i : Nat} {Q : Option Value → Shared → Prop} (D : Sep z TI TO L) (hz : ZipO s.heap z TI TO .none (.bool false)) (hTI : TupO s.heap TI (L.map fun p => Value.ref p.1).toArray)
    (hTO : ∃ vs : Array Value, TupO s.heap TO vs ∧ vs.size = L.length) (hL : L ≠ []) (hLn : L.length ≤ 1000) (ha : All s.heap L i) (hi : ∀ p ∈ L, i < p.2.2.size)
    (hQ : ∀ h' tk, ZipO h' z TI TO (rawInt s.heap.objs.size) (.bool false) → TupO h' TI (L.map fun p => Value.ref p.1).toArray → All h' L (i + 1) → TupO h' s.heap.objs.size (col L i).toArray → h'.objs.size = s.heap.objs.size + 1 →
      (∀ c o, c ≠ z → c ≠ TO → (∀ p ∈ L, c ≠ p.1) → s.heap.get? c = some o → h'.get? c = some o) → Q (some (.ref s.heap.objs.size)) { s with heap := h', toks := tk }) :
    wpAny (model prog w) A (pyNext (.ref z)) Q E s := by
  have hT : s.TypeIs (.ref z) "zip" := ⟨_, hz, rfl⟩
  unfold pyNext
  refine wpAny_bind (wpAny_attempt (wpAny_callSpecial?_slot (name := Str.ofString "__next__") hT F.slot_zip_next
    (wpAny_call_entry F.slot_zip_next hT F.entry_zip_next (next_first (A := A.in1) (show A.in1.handled = none from hh) D hz hTI hTO hL hLn ha hi fun h' tk a1 a2 a3 a4 a5 a6 => ?_) (F.args_zip_next_1 _))))
  exact wpAny_pure (hQ h' tk a1 a2 a3 a4 a5 a6)
theorem pyNext_later (hh : A.handled = none) {i : Nat} {ad : Addr} {f1 : Value} {Q : Option Value → Shared → Prop} (D : Sep z TI TO L) (hz : ZipO s.heap z TI TO (rawInt ad) f1) (hal : ∃ o, s.heap.get? ad = some o) (hTI : TupO s.heap TI (L.map fun p => Value.ref p.1).toArray)
    (hL : L ≠ []) (hLn : L.length ≤ 1000) (ha : All s.heap L i) (hi : ∀ p ∈ L, i < p.2.2.size)
    (hQ : ∀ h' tk f1', ZipO h' z TI TO (rawInt ad) f1' → TupO h' TI (L.map fun p => Value.ref p.1).toArray → All h' L (i + 1) → TupO h' s.heap.objs.size (col L i).toArray → h'.objs.size = s.heap.objs.size + 1 →
      (∀ c o, c ≠ z → c ≠ TO → (∀ p ∈ L, c ≠ p.1) → s.heap.get? c = some o → h'.get? c = some o) → Q (some (.ref s.heap.objs.size)) { s with heap := h', toks := tk }) :
    wpAny (model prog w) A (pyNext (.ref z)) Q E s := by
  have hT : s.TypeIs (.ref z) "zip" := ⟨_, hz, rfl⟩
  unfold pyNext
  refine wpAny_bind (wpAny_attempt (wpAny_callSpecial?_slot (name := Str.ofString "__next__") hT F.slot_zip_next
    (wpAny_call_entry F.slot_zip_next hT F.entry_zip_next (next_later (A := A.in1) (show A.in1.handled = none from hh) D hz hal hTI hL hLn ha hi fun h' tk f1' a1 a2 a3 a4 a5 a6 => ?_) (F.args_zip_next_1 _))))
  exact wpAny_pure (hQ h' tk f1' a1 a2 a3 a4 a5 a6)
theorem pyNext_end (hh : A.handled = none) {i : Nat} {f0 f1 : Value} {Q : Option Value → Shared → Prop} (D : Sep z TI TO L) (hz : ZipO s.heap z TI TO f0 f1) (hf0 : ∃ (ad : Addr), f0 = rawInt ad ∧ ∃ o, s.heap.get? ad = some o) (hTI : TupO s.heap TI (L.map fun p => Value.ref p.1).toArray)
    (hL : L ≠ []) (ha : All s.heap L i) (hi : ∀ p ∈ L, i = p.2.2.size)
    (hQ : ∀ h' tk, (∀ c o, c ≠ z → c ≠ TO → (∀ p ∈ L, c ≠ p.1) → s.heap.get? c = some o → h'.get? c = some o) → Q none { s with heap := h', toks := tk }) :
    wpAny (model prog w) A (pyNext (.ref z)) Q E s := by
  have hT : s.TypeIs (.ref z) "zip" := ⟨_, hz, rfl⟩
  unfold pyNext
  refine wpAny_bind (wpAny_attempt (wpAny_callSpecial?_slot (name := Str.ofString "__next__") hT F.slot_zip_next
    (wpAny_call_entry F.slot_zip_next hT F.entry_zip_next (next_end (A := A.in1) (show A.in1.handled = none from hh) D hz hf0 hTI hL ha hi fun h' tk e hk he => ?_) (F.args_zip_next_1 _))))
  obtain ⟨o, ho, hc⟩ := he
  refine wpAny_bind (wpAny_isInstance (T := "StopIteration") (b := true) ⟨o, ho, hc⟩ isSubtype_stop ?_)
  exact wpAny_pure (hQ _ _ hk)
/-! ### all of it into a list -/
/-- behind i draws: the list at S holds the columns so far -/
structure Acc (z TI TO S : Addr) (L : Ls) (h0 : Heap) (i : Nat) (s : Shared) : Prop where
  zz : (i = 0 ∧ ZipO s.heap z TI TO .none (.bool false) ∧ ∃ vs : Array Value, TupO s.heap TO vs ∧ vs.size = L.length) ∨ ∃ (ad : Addr) (f1 : Value), 0 < i ∧ ZipO s.heap z TI TO (rawInt ad) f1 ∧ (∃ o, s.heap.get? ad = some o) ∧ ad ≠ S ∧ ad ≠ z ∧ ad ≠ TO ∧ ∀ p ∈ L, ad ≠ p.1
  ti : TupO s.heap TI (L.map fun p => Value.ref p.1).toArray
  al : All s.heap L i
  ls : ∃ (ts : List Addr) (c : Nat), s.heap.get? S = some { cls := .type "list", dict := none, data := .seq (ts.map Value.ref).toArray c, slots := #[] } ∧ ts.length = i ∧
    ∀ j t, ts[j]? = some t → TupO s.heap t (col L j).toArray ∧ h0.get? t = none ∧ t ≠ S ∧ t ≠ z ∧ t ≠ TO ∧ ∀ p ∈ L, t ≠ p.1
  keep : ∀ c o, h0.get? c = some o → s.heap.get? c = some o
  more : h0.objs.size ≤ s.heap.objs.size
end
end ZN

namespace ZN
open PySem PySem.Spec PyProof.Rows L2
/-! ### zip(*lines) is made -/
def itObj (l : Addr) : Obj := { cls := .type "tuple_iterator", data := .fields #[.ref l, .int 0 0] }
def pushIts (h : Heap) : List Addr → Heap
  | [] => h
  | l :: r => pushIts (h.push (itObj l)) r
theorem pushIts_snoc (h : Heap) (ls : List Addr) (l : Addr) : pushIts h (ls ++ [l]) = (pushIts h ls).push (itObj l) := by
  induction ls generalizing h with
  | nil => rfl
  | cons a r ih => exact ih (h.push (itObj a))
theorem pushIts_size (h : Heap) (ls : List Addr) : (pushIts h ls).objs.size = h.objs.size + ls.length := by
  induction ls generalizing h with
  | nil => rfl
  | cons a r ih =>
    show (pushIts (h.push (itObj a)) r).objs.size = _
    rw [ih, Heap.size_push, List.length_cons]
    omega
theorem pushIts_old (h : Heap) (ls : List Addr) {c : Addr} {o : Obj} (e : h.get? c = some o) : (pushIts h ls).get? c = some o := by
  induction ls generalizing h with
  | nil => exact e
  | cons a r ih => exact ih (h.push (itObj a)) (Heap.get?_push_of_some _ e)
theorem pushIts_at (h : Heap) (ls : List Addr) {j : Nat} {l : Addr} (e : ls[j]? = some l) : (pushIts h ls).get? (h.objs.size + j) = some (itObj l) := by
  induction ls generalizing h j with
  | nil => simp at e
  | cons a r ih =>
    cases j with
    | zero =>
      simp at e
      subst e
      exact pushIts_old _ r (Heap.get?_push_size _ rfl)
    | succ j =>
      have := ih (h.push (itObj a)) (j := j) (by simpa using e)
      rw [Heap.size_push] at this
      rw [show h.objs.size + (j + 1) = h.objs.size + 1 + j by omega]
      exact this
section
variable {prog : Program} {w : World} {A : Around} {E : Value → Shared → Prop} {s : Shared}
theorem iterAll_tup {ls : List Addr} {Q : List Value → Shared → Prop} (hl : ∀ l ∈ ls, ∃ items, s.heap.IsTuple l items)
    (hQ : Q ((List.range ls.length).map fun j => Value.ref (s.heap.objs.size + j)) { s with heap := pushIts s.heap ls }) : wpAny (model prog w) A (Builtin.SmallTypes.iterAll (ls.map Value.ref)) Q E s := by
  unfold Builtin.SmallTypes.iterAll
  refine wpAny_bind (forIn_inv (M := model prog w) (J := fun rest its s' => ∃ k, k ≤ ls.length ∧ rest = (ls.drop k).map Value.ref ∧ its.toList = ((List.range k).map fun j => Value.ref (s.heap.objs.size + j)) ∧ s' = { s with heap := pushIts s.heap (ls.take k) }) (fun a r b s' h => ?_) (fun b s' h => ?_) _ _ _ ⟨0, Nat.zero_le _, by simp, by simp, rfl⟩)
  · obtain ⟨k, hk, e1, e2, rfl⟩ := h
    have hlt : k < ls.length := by
      have := congrArg List.length e1
      simp at this
      omega
    have hd : ls.drop k = ls[k] :: ls.drop (k + 1) := List.drop_eq_getElem_cons hlt
    rw [hd, List.map_cons] at e1
    obtain ⟨rfl, rfl⟩ := List.cons.inj e1
    obtain ⟨items, ht⟩ := hl ls[k] (List.getElem_mem _)
    have ht' : ({ s with heap := pushIts s.heap (ls.take k) } : Shared).heap.IsTuple ls[k] items := ht.at fun o e => pushIts_old _ _ e
    refine wpAny_bind (wpAny_holding (wpAny_pyIter_tuple ht' ?_))
    refine wpAny_pure ⟨_, rfl, k + 1, hlt, rfl, ?_, ?_⟩
    · rw [Array.toList_push, e2, List.range_succ, List.map_append]
      congr 2
      show Value.ref (pushIts s.heap (ls.take k)).objs.size = _
      rw [pushIts_size, List.length_take, Nat.min_eq_left hk]
    · rw [List.take_succ, List.getElem?_eq_getElem hlt]
      show _ = ({ s with heap := pushIts s.heap (ls.take k ++ [ls[k]]) } : Shared)
      rw [pushIts_snoc]
      rfl
  · obtain ⟨k, hk, e1, e2, rfl⟩ := h
    have : k = ls.length := by
      have := congrArg List.length e1
      simp at this
      omega
    subst this
    rw [List.take_length]
    refine wpAny_pure ?_
    rw [e2]
    exact hQ
end
end ZN

namespace ZN
open PySem PySem.Spec PyProof.Rows L2
/-- the heap behind zip(*lines) -/
def zH3 (h : Heap) (ls : List Addr) : Heap := (pushIts h ls).push { cls := .type "tuple", data := .seq ((List.range ls.length).map fun j => Value.ref (h.objs.size + j)).toArray }
def zH4 (h : Heap) (ls : List Addr) : Heap := (zH3 h ls).push { cls := .type "tuple", data := .seq (List.replicate ls.length Value.none).toArray }
def zH5 (h : Heap) (ls : List Addr) : Heap := (zH4 h ls).push { cls := .type "zip", data := .fields #[.none, .bool false, .bool false, .ref (pushIts h ls).objs.size, .ref (zH3 h ls).objs.size] }
theorem meets_zip_n (ls : List Addr) (hn : ls.length ≤ 1000) :
    Meets (Builtin.«zip.__new__» ⟨.type "zip" :: ls.map Value.ref, []⟩) (fun _ R s => (∀ l ∈ ls, ∃ items, s.heap.IsTuple l items) ∧
      R (.ok (.ret (.ref (zH4 s.heap ls).objs.size))) { s with heap := zH5 s.heap ls }) :=
  .of_wp fun prog w A R s h => by
    obtain ⟨hl, h⟩ := h
    have hsub := sub_zip
    unfold Builtin.«zip.__new__»
    have e0 : Builtin.SmallTypes.newClass "zip" ⟨.type "zip" :: ls.map Value.ref, []⟩ = pure (.type "zip", ls.map Value.ref) := by
      unfold Builtin.SmallTypes.newClass
      simp only [hsub]
      rfl
    rw [e0]
    refine wpAny_bind (wpAny_pure ?_)
    try simp only [List.length_nil, Nat.not_lt_zero, if_false, gt_iff_lt]
    first
      | refine wpAny_bind (iterAll_tup hl ?_)
      | refine wpAny_bind (wpAny_pure (wpAny_bind (iterAll_tup hl ?_)))
    have hl1 : ((List.range ls.length).map fun j => Value.ref (s.heap.objs.size + j)).length = ls.length := by simp
    have e2 : ((List.range ls.length).map fun j => Value.ref (s.heap.objs.size + j)).map (fun _ => Value.none) = List.replicate ls.length Value.none := by
      rw [List.map_map, List.eq_replicate_iff]
      refine ⟨by simp, fun b hb => ?_⟩
      obtain ⟨_, _, rfl⟩ := List.mem_map.mp hb
      rfl
    rw [e2]
    simp only [newTuple]
    refine wpAny_bind (wpAny_newObj_type ?_ (by show (List.toArray _).size ≤ sizeLine; rw [List.size_toArray, hl1]; exact size1000 hn))
    refine wpAny_bind (wpAny_newObj_type ?_ (by show (List.toArray _).size ≤ sizeLine; rw [List.size_toArray, List.length_replicate]; exact size1000 hn))
    refine wpAny_bind ?_
    unfold Builtin.SmallTypes.newRecord
    refine wpAny_newObj_type ?_ (by show (5 : Nat) ≤ sizeLine + 2; decide)
    exact wpAny_pure ⟨_, rfl, h⟩
section
variable {prog : Program} {w : World} {A : Around} {E : Value → Shared → Prop} {s : Shared}
theorem call_zip_n {ls : List Addr} {Q : Value → Shared → Prop} (hn : ls.length ≤ 10) (hl : ∀ l ∈ ls, ∃ items, s.heap.IsTuple l items)
    (h : Q (.ref (zH4 s.heap ls).objs.size) { s with heap := zH5 s.heap ls }) : wpAny (model prog w) A (call (.type "zip") (ls.map Value.ref)) Q E s := by
  refine callType_new F.called_zip (by decide) (typeCall_zip_n _) (newCall_zip_n _ (by rw [List.length_map]; exact hn)) (fun obj => args_init_n obj _) F.entry_zip_new (meets_zip_n ls (by omega)) ⟨hl, ?_⟩
  exact ⟨⟨_, Heap.get?_push_size _ rfl, rfl⟩, h⟩
end
end ZN

namespace ZN
open PySem PySem.Spec PyProof.Rows L2
section
variable {prog : Program} {w : World} {A : Around} {E : Value → Shared → Prop} {s : Shared} {z TI TO : Addr} {L : Ls}
theorem pyIter_zip {f0 f1 : Value} {Q : Value → Shared → Prop} (hz : ZipO s.heap z TI TO f0 f1) (h : Q (.ref z) s) : wpAny (model prog w) A (pyIter (.ref z)) Q E s := by
  have hT : s.TypeIs (.ref z) "zip" := ⟨_, hz, rfl⟩
  refine wpAny_pyIter_slot hT F.slot_zip_iter (wpAny_call_entry F.slot_zip_iter hT F.entry_zip_iter ?_ (F.args_zip_iter_1 _))
  show wpAny _ _ (ret (.ref z)) _ _ s
  exact wpAny_pure ⟨_, rfl, "zip", _, hT, F.slot_zip_next.lookup, h⟩
/-- behind i draws: the list at S holds the columns so far -/
structure Ac (z TI TO S : Addr) (L : Ls) (s0 : Shared) (i : Nat) (ts : List Addr) (s : Shared) : Prop where
  zz : (i = 0 ∧ ZipO s.heap z TI TO .none (.bool false) ∧ ∃ vs : Array Value, TupO s.heap TO vs ∧ vs.size = L.length) ∨ ∃ (ad : Addr) (f1 : Value), ZipO s.heap z TI TO (rawInt ad) f1 ∧ ad ∈ ts
  ti : TupO s.heap TI (L.map fun p => Value.ref p.1).toArray
  al : All s.heap L i
  ls : ∃ c : Nat, s.heap.get? S = some { cls := .type "list", dict := none, data := .seq (ts.map Value.ref).toArray c, slots := #[] }
  n : ts.length = i
  at_ : ∀ j t, ts[j]? = some t → TupO s.heap t (col L j).toArray ∧ s0.heap.objs.size ≤ t ∧ t ≠ S ∧ t ≠ z ∧ t ≠ TO ∧ ∀ p ∈ L, t ≠ p.1
  keep : ∀ c o, s0.heap.get? c = some o → s.heap.get? c = some o
  ge : s0.heap.objs.size ≤ s.heap.objs.size
  nd : ts.Nodup
  tob : TO < s.heap.objs.size
  sh : ∃ h tk, s = { s0 with heap := h, toks := tk }
theorem loop_zip (hh : A.handled = none) {n : Nat} (hn : n ≤ 1000) (hn0 : 0 < n) (D : Sep z TI TO L) (hL : L ≠ []) (hLn : L.length ≤ 1000) (hsz : ∀ p ∈ L, p.2.2.size = n) {S : Addr} (hS : S ≠ z ∧ S ≠ TO ∧ S ≠ TI ∧ ∀ p ∈ L, S ≠ p.1 ∧ S ≠ p.2.1) {s0 : Shared}
    (hfr : s0.heap.objs.size ≤ z ∧ s0.heap.objs.size ≤ TO ∧ s0.heap.objs.size ≤ S ∧ ∀ p ∈ L, s0.heap.objs.size ≤ p.1) (res : Value) {R : Result → Shared → Prop} :
    ∀ (k i : Nat) (ts : List Addr) (s : Shared), n - i = k → i ≤ n → Ac z TI TO S L s0 i ts s →
    (∀ (ts' : List Addr) (s' : Shared), (∃ c : Nat, s'.heap.get? S = some { cls := .type "list", dict := none, data := .seq (ts'.map Value.ref).toArray c, slots := #[] }) → ts'.length = n → ts'.Nodup → (∀ j t, ts'[j]? = some t → TupO s'.heap t (col L j).toArray ∧ s0.heap.objs.size ≤ t) →
      (∀ c o, s0.heap.get? c = some o → s'.heap.get? c = some o) → (∃ h tk, s' = { s0 with heap := h, toks := tk }) → R (.ok (.ret res)) s') →
    codeAny (model prog w) A (.builtin "list.extend.loop" ⟨[.ref S, .ref z, res], []⟩) R s := by
  have old : ∀ {b o}, s0.heap.get? b = some o → b ≠ z ∧ b ≠ TO ∧ b ≠ S ∧ ∀ p ∈ L, b ≠ p.1 := fun {b o} e => by
    have h := Heap.lt_size e
    obtain ⟨h1, h2, h3, h4⟩ := hfr
    exact ⟨Nat.ne_of_lt (Nat.lt_of_lt_of_le h h1), Nat.ne_of_lt (Nat.lt_of_lt_of_le h h2), Nat.ne_of_lt (Nat.lt_of_lt_of_le h h3), fun p hp => Nat.ne_of_lt (Nat.lt_of_lt_of_le h (h4 p hp))⟩
  intro k
  induction k with
  | zero =>
    intro i ts s hk hi a hR
    have hin : i = n := by omega
    subst hin
    refine codeAny_builtin F.entry_extend_loop ?_
    rw [Around.under_plainId F.plain_extend_loop _]
    show wpAny _ A.in1 (pyNext (.ref z) >>= _) _ _ s
    obtain ⟨c, hc⟩ := a.ls
    obtain ⟨h0, tk0, es⟩ := a.sh
    have fin : ∀ h' tk, (∀ c o, c ≠ z → c ≠ TO → (∀ p ∈ L, c ≠ p.1) → s.heap.get? c = some o → h'.get? c = some o) → R (.ok (.ret res)) { s with heap := h', toks := tk } := fun h' tk kp => by
      refine hR ts _ ⟨c, kp _ _ hS.1 hS.2.1 (fun p hp => (hS.2.2.2 p hp).1) hc⟩ a.n a.nd (fun j t e => ?_) (fun b o e => ?_) ⟨h', tk, by rw [es]⟩
      · obtain ⟨q1, q2, q3, q4, q5, q6⟩ := a.at_ j t e
        exact ⟨kp _ _ q4 q5 q6 q1, q2⟩
      · obtain ⟨o1, o2, _, o4⟩ := old e
        exact kp _ _ o1 o2 o4 (a.keep _ _ e)
    rcases a.zz with ⟨e0, hz, hTO⟩ | ⟨ad, f1, hz, had⟩
    · omega
    · obtain ⟨j, hj⟩ := List.getElem?_of_mem had
      refine wpAny_bind (pyNext_end (A := A.in1) hh D hz ⟨ad, rfl, _, (a.at_ j ad hj).1⟩ a.ti hL a.al (fun p hp => (hsz p hp).symm) fun h' tk kp => wpAny_pure (fin h' tk kp))
  | succ k ih =>
    intro i ts s hk hi a hR
    have hlt : i < n := by omega
    refine codeAny_builtin F.entry_extend_loop ?_
    rw [Around.under_plainId F.plain_extend_loop _]
    show wpAny _ A.in1 (pyNext (.ref z) >>= _) _ _ s
    obtain ⟨c, hc⟩ := a.ls
    obtain ⟨h0, tk0, es⟩ := a.sh
    have hil : ∀ p ∈ L, i < p.2.2.size := fun p hp => by rw [hsz p hp]; exact hlt
    have step : ∀ (h' : Heap) (tk : Nat) (ad : Addr) (f1 : Value), ZipO h' z TI TO (rawInt ad) f1 → (ad ∈ ts ∨ ad = s.heap.objs.size) → TupO h' TI (L.map fun p => Value.ref p.1).toArray → All h' L (i + 1) → TupO h' s.heap.objs.size (col L i).toArray → h'.objs.size = s.heap.objs.size + 1 →
        (∀ c o, c ≠ z → c ≠ TO → (∀ p ∈ L, c ≠ p.1) → s.heap.get? c = some o → h'.get? c = some o) →
        wpAny (model prog w) A.in1 (updateSeq S (·.push (.ref s.heap.objs.size)) >>= fun _ => again (.builtin "list.extend.loop" ⟨[.ref S, .ref z, res], []⟩)) (fun fin s' => match fin with | .done f => R (.ok f) s' | .again c' => c'.quiet = true ∧ codeAny (model prog w) A c' R s') (fun e s' => R (.error e) s') { s with heap := h', toks := tk } := by
      intro h' tk ad f1 hz had hti hal ht hsz' kp
      have hS' : h'.get? S = some { cls := .type "list", dict := none, data := .seq (ts.map Value.ref).toArray c, slots := #[] } := kp _ _ hS.1 hS.2.1 (fun p hp => (hS.2.2.2 p hp).1) hc
      have hSlt : S < s.heap.objs.size := Heap.lt_size hc
      refine wpAny_bind (wpAny_updateSeq hS' rfl (wpAny_pure ⟨plainId_quiet F.plain_extend_loop _, ?_⟩) (by rw [List.size_toArray, List.length_map, a.n]; exact Nat.le_of_lt (small1000 (by omega))) (by
        show (Array.push _ _).size ≤ sizeLine + 1
        rw [Array.size_push, List.size_toArray, List.length_map, a.n]
        have := small1000 (n := i) (by omega)
        omega))
      have hot : ∀ b o, b ≠ S → h'.get? b = some o → (h'.update S (Obj.mapSeq (·.push (.ref s.heap.objs.size)))).get? b = some o := fun b o hb e => (Heap.get?_update_other _ _ (Ne.symm hb)).trans e
      have hTi : TI ≠ S := fun e => hS.2.2.1 e.symm
      have hls : ∃ c' : Nat, (h'.update S (Obj.mapSeq (·.push (.ref s.heap.objs.size)))).get? S = some { cls := .type "list", dict := none, data := .seq ((ts ++ [s.heap.objs.size]).map Value.ref).toArray c', slots := #[] } := by
        have q := Heap.get?_update_self (Obj.mapSeq (·.push (Value.ref s.heap.objs.size))) hS' rfl
        refine ⟨c + 1, q.trans ?_⟩
        simp [Obj.mapSeq]
      refine ih (i + 1) (ts ++ [s.heap.objs.size]) _ (by omega) hlt ⟨.inr ⟨ad, f1, hot _ _ (fun e => hS.1 e.symm) hz, ?_⟩, hot _ _ hTi hti, fun p hp => (hal p hp).at (fun o e => hot _ _ (fun q => (hS.2.2.2 p hp).1 q.symm) e) (fun o e => hot _ _ (fun q => (hS.2.2.2 p hp).2 q.symm) e), hls, by rw [List.length_append, a.n]; rfl, fun j t e => ?_, fun b o e => ?_, ?_, ?_, ?_, ⟨_, _, by rw [es]⟩⟩ hR
      · rcases had with h | h
        · exact List.mem_append_left _ h
        · rw [h]; simp
      · have hfresh : ∀ {b o}, s.heap.get? b = some o → s.heap.objs.size ≠ b := fun e => Nat.ne_of_gt (Heap.lt_size e)
        by_cases hj : j < ts.length
        · rw [List.getElem?_append_left hj] at e
          obtain ⟨q1, q2, q3, q4, q5, q6⟩ := a.at_ j t e
          exact ⟨hot _ _ q3 (kp _ _ q4 q5 q6 q1), q2, q3, q4, q5, q6⟩
        · rw [List.getElem?_append_right (by omega)] at e
          have hj0 : j - ts.length = 0 := by
            cases q : j - ts.length with
            | zero => rfl
            | succ m => rw [q] at e; simp at e
          rw [hj0] at e
          have e : s.heap.objs.size = t := by simpa using e
          subst e
          have hji : j = i := by rw [← a.n]; omega
          subst hji
          have zlt : s.heap.objs.size ≠ z ∧ s.heap.objs.size ≠ TO := by
            rcases a.zz with ⟨_, hz, vs, hTO, _⟩ | ⟨_, _, hz, _⟩
            · exact ⟨hfresh hz, hfresh hTO⟩
            · refine ⟨hfresh hz, fun q => ?_⟩
              -- TO lives: it is below the new tuple
              exact Nat.ne_of_gt a.tob q
          exact ⟨hot _ _ (Nat.ne_of_gt hSlt) ht, a.ge, Nat.ne_of_gt hSlt, zlt.1, zlt.2, fun p hp => by
            rcases a.al p hp with ⟨⟨o, e, _⟩, _⟩ | ⟨⟨o, e, _⟩, _⟩
            · exact hfresh e
            · exact hfresh e⟩
      · obtain ⟨o1, o2, o3, o4⟩ := old e
        exact hot _ _ o3 (kp _ _ o1 o2 o4 (a.keep _ _ e))
      · show s0.heap.objs.size ≤ (h'.update S _).objs.size
        rw [Heap.size_update, hsz']
        have := a.ge
        omega
      · refine List.nodup_append.mpr ⟨a.nd, by simp, fun x hx y hy => ?_⟩
        rw [show y = s.heap.objs.size by simpa using hy]
        obtain ⟨j, hj⟩ := List.getElem?_of_mem hx
        exact Nat.ne_of_lt (Heap.lt_size (a.at_ j x hj).1)
      · show TO < (h'.update S _).objs.size
        rw [Heap.size_update, hsz']
        exact Nat.lt_succ_of_lt a.tob
    rcases a.zz with ⟨e0, hz, hTO⟩ | ⟨ad, f1, hz, had⟩
    · subst e0
      refine wpAny_bind (pyNext_first (A := A.in1) hh D hz a.ti hTO hL hLn a.al hil fun h' tk a1 a2 a3 a4 a5 a6 => ?_)
      exact step h' tk s.heap.objs.size (.bool false) a1 (.inr rfl) a2 a3 a4 a5 a6
    · obtain ⟨j, hj⟩ := List.getElem?_of_mem had
      refine wpAny_bind (pyNext_later (A := A.in1) hh D hz ⟨_, (a.at_ j ad hj).1⟩ a.ti hL hLn a.al hil fun h' tk f1' a1 a2 a3 a4 a5 a6 => ?_)
      exact step h' tk ad f1' a1 (.inl had) a2 a3 a4 a5 a6
end
end ZN

namespace ZN
open PySem PySem.Spec PyProof.Rows L2
section
variable {prog : Program} {w : World} {A : Around} {E : Value → Shared → Prop} {s : Shared} {z TI TO : Addr} {L : Ls}
/-- what comes of it -/
def Got (L : Ls) (n : Nat) (s0 : Shared) (ts : List Addr) (h' : Heap) : Prop :=
  ts.length = n ∧ ts.Nodup ∧ (∀ j t, ts[j]? = some t → TupO h' t (col L j).toArray ∧ s0.heap.objs.size ≤ t) ∧ ∀ c o, s0.heap.get? c = some o → h'.get? c = some o
theorem collect_zip (hh : A.handled = none) {n : Nat} (hn : n ≤ 1000) (hn0 : 0 < n) (D : Sep z TI TO L) (hL : L ≠ []) (hLn : L.length ≤ 1000) (hsz : ∀ p ∈ L, p.2.2.size = n) {s0 : Shared}
    (hfr : s0.heap.objs.size ≤ z ∧ s0.heap.objs.size ≤ TO ∧ s0.heap.objs.size ≤ TI ∧ ∀ p ∈ L, s0.heap.objs.size ≤ p.1) (hz : ZipO s.heap z TI TO .none (.bool false)) (hTI : TupO s.heap TI (L.map fun p => Value.ref p.1).toArray)
    (hTO : ∃ vs : Array Value, TupO s.heap TO vs ∧ vs.size = L.length) (ha : All s.heap L 0) (keep : ∀ c o, s0.heap.get? c = some o → s.heap.get? c = some o) (ge : s0.heap.objs.size ≤ s.heap.objs.size) (sh : ∃ h tk, s = { s0 with heap := h, toks := tk })
    {Q : List Value → Shared → Prop} (hQ : ∀ ts h' tk, Got L n s0 ts h' → Q (ts.map Value.ref) { s0 with heap := h', toks := tk }) : wpAny (model prog w) A (collect (.ref z)) Q E s := by
  obtain ⟨vs0, hTO, hvs⟩ := hTO
  have lt : ∀ {b o}, s.heap.get? b = some o → s.heap.objs.size ≠ b := fun e => Nat.ne_of_gt (Heap.lt_size e)
  have hSz := lt hz
  have hSTI := lt hTI
  have hSTO := lt hTO
  have hSit : ∀ p ∈ L, s.heap.objs.size ≠ p.1 ∧ s.heap.objs.size ≠ p.2.1 := fun p hp => by
    rcases ha p hp with ⟨⟨o, e, _⟩, ⟨o2, e2, _⟩⟩ | ⟨⟨o, e, _⟩, ⟨o2, e2, _⟩⟩
    · exact ⟨lt e, lt e2⟩
    · exact ⟨lt e, lt e2⟩
  unfold collect
  refine wpAny_bind (wpAny_runValue (codeAny_builtin F.entry_proto_collect ?_))
  rw [Around.under_plainId F.plain_proto_collect _]
  show wpAny _ A.in1 (newList [] >>= fun l => again (.builtin "list.__iadd__" ⟨[l, .ref z], []⟩)) _ _ s
  refine wpAny_bind (wpAny_newObj_type ?_)
  refine wpAny_pure ⟨plainId_quiet F.plain_list_iadd _, codeAny_builtin F.entry_list_iadd ?_⟩
  rw [Around.under_plainId F.plain_list_iadd _]
  have up : ∀ {b o}, s.heap.get? b = some o → (s.heap.push { cls := .type "list", data := .seq ([] : List Value).toArray }).get? b = some o := fun e => Heap.get?_push_of_some _ e
  have hz1 := up hz
  have hT : ({ s with heap := s.heap.push { cls := .type "list", data := .seq ([] : List Value).toArray } } : Shared).TypeIs (.ref z) "zip" := ⟨_, hz1, rfl⟩
  show wpAny _ A.in1 (Builtin.List.listExtendWith (.ref s.heap.objs.size) (.ref z) (.ref s.heap.objs.size)) _ _ _
  unfold Builtin.List.listExtendWith
  refine wpAny_bind (wpAny_typeOf hT ?_)
  have h1 : Builtin.List.listSameRef (.ref s.heap.objs.size) (.ref z) = false := by simp [Builtin.List.listSameRef, hSz]
  have h2 : (Value.type "zip" == Value.type "list") = false := by decide
  have h3 : (Value.type "zip" == Value.type "tuple") = false := by decide
  simp only [h1, h2, h3, Bool.or_false, Bool.false_eq_true, if_false]
  refine wpAny_bind (pyIter_zip (s := { s with heap := s.heap.push { cls := .type "list", data := .seq ([] : List Value).toArray } }) hz1 ?_)
  refine wpAny_bind (wpAny_holding ?_)
  unfold Builtin.List.listLengthHint
  refine wpAny_bind (wpAny_specialOf hT zip_nolen ?_)
  show wpAny _ A.in1 (specialOf (Value.ref z) (Str.ofString "__length_hint__") >>= _) _ _ _
  refine wpAny_bind (wpAny_specialOf hT zip_nohint ?_)
  refine wpAny_pure ?_
  show wpAny _ A.in1 (rule "list.extend.makes-room" >>= fun _ => Builtin.List.listTouch (.ref s.heap.objs.size) >>= fun _ =>
    again (.builtin "list.extend.loop" ⟨[.ref s.heap.objs.size, .ref z, .ref s.heap.objs.size], []⟩)) _ _ _
  refine wpAny_bind (wpAny_rule ?_)
  have hS₁ : (s.heap.push { cls := .type "list", data := .seq ([] : List Value).toArray }).get? s.heap.objs.size = some { cls := .type "list", data := .seq ([] : List Value).toArray } := Heap.get?_push_size _ rfl
  refine wpAny_bind ?_
  show wpAny _ A.in1 (updateSeq s.heap.objs.size (·.push .none) >>= fun _ => updateSeq s.heap.objs.size (·.pop)) _ _ _
  refine wpAny_bind (wpAny_updateSeq hS₁ rfl ?_)
  have hS₂ := Heap.get?_update_self (Obj.mapSeq (·.push Value.none)) hS₁ rfl
  refine wpAny_updateSeq hS₂ rfl ?_
  have hS₃ := Heap.get?_update_self (Obj.mapSeq (·.pop)) hS₂ rfl
  have oth : ∀ b o, b ≠ s.heap.objs.size → (s.heap.push { cls := .type "list", data := .seq ([] : List Value).toArray }).get? b = some o →
      (((s.heap.push { cls := .type "list", data := .seq ([] : List Value).toArray }).update s.heap.objs.size (Obj.mapSeq (·.push Value.none))).update s.heap.objs.size (Obj.mapSeq (·.pop))).get? b = some o :=
    fun b o hb e => (Heap.get?_update_other _ _ (Ne.symm hb)).trans ((Heap.get?_update_other _ _ (Ne.symm hb)).trans e)
  have old : ∀ {b o}, s.heap.get? b = some o → _ := fun {b o} e => oth b o (lt e).symm (up e)
  obtain ⟨h0, tk0, es⟩ := sh
  refine wpAny_pure ⟨plainId_quiet F.plain_extend_loop _, loop_zip hh hn hn0 D hL hLn hsz ⟨hSz, hSTO, hSTI, hSit⟩ ⟨hfr.1, hfr.2.1, ge, hfr.2.2.2⟩ _ n 0 [] _ rfl (Nat.zero_le _) ⟨.inl ⟨rfl, old hz, vs0, old hTO, hvs⟩, old hTI, fun p hp => (ha p hp).at (fun o e => old e) (fun o e => old e), ⟨_, hS₃⟩, rfl, fun j t e => by simp at e, fun c o e => old (keep _ _ e), ?_, List.nodup_nil, Heap.lt_size (old hTO), ⟨_, _, by rw [es]⟩⟩ fun ts' s' hc hl hnd hat hk hsh => ?_⟩
  · show s0.heap.objs.size ≤ (Heap.update _ _ _).objs.size
    rw [Heap.size_update, Heap.size_update, Heap.size_push]
    exact Nat.le_succ_of_le ge
  · obtain ⟨c, hc⟩ := hc
    obtain ⟨h1, tk1, rfl⟩ := hsh
    show wpAny _ A (load s.heap.objs.size >>= _) _ _ _
    refine wpAny_bind (wpAny_load hc ?_)
    refine wpAny_pure ?_
    exact hQ ts' h1 tk1 ⟨hl, hnd, hat, hk⟩
theorem call_tuple_zip (hh : A.handled = none) {n : Nat} (hn : n ≤ 1000) (hn0 : 0 < n) (D : Sep z TI TO L) (hL : L ≠ []) (hLn : L.length ≤ 1000) (hsz : ∀ p ∈ L, p.2.2.size = n) {s0 : Shared}
    (hfr : s0.heap.objs.size ≤ z ∧ s0.heap.objs.size ≤ TO ∧ s0.heap.objs.size ≤ TI ∧ ∀ p ∈ L, s0.heap.objs.size ≤ p.1) (hz : ZipO s.heap z TI TO .none (.bool false)) (hTI : TupO s.heap TI (L.map fun p => Value.ref p.1).toArray)
    (hTO : ∃ vs : Array Value, TupO s.heap TO vs ∧ vs.size = L.length) (ha : All s.heap L 0) (keep : ∀ c o, s0.heap.get? c = some o → s.heap.get? c = some o) (ge : s0.heap.objs.size ≤ s.heap.objs.size) (sh : ∃ h tk, s = { s0 with heap := h, toks := tk })
    {Q : Value → Shared → Prop} (hQ : ∀ ts h' tk, Got L n s0 ts h' → Q (.ref h'.objs.size) { s0 with heap := h'.push { cls := .type "tuple", data := .seq (ts.map Value.ref).toArray }, toks := tk }) :
    wpAny (model prog w) A (call (.type "tuple") [.ref z]) Q E s := by
  have hnew : codeAny (model prog w) A.in1 (.call (.builtin "tuple.__new__") ⟨[.type "tuple", .ref z], []⟩) (wants (fun obj s₁ => s₁.TypeIs obj "tuple" ∧ Q obj s₁) E) s := by
    refine codeAny_of_tree ?_
    show wpAny _ A.in1.in1 (do checkBuiltinCall "tuple.__new__" ⟨[.type "tuple", .ref z], []⟩; again (.builtin "tuple.__new__" ⟨[.type "tuple", .ref z], []⟩)) _ _ s
    refine wpAny_bind (wpAny_of_eq (F.newCall_tuple_1 _) (wpAny_pure ⟨plainId_quiet F.plain_tuple_new _, codeAny_builtin F.entry_tuple_new ?_⟩))
    rw [Around.under_plainId F.plain_tuple_new _]
    have hsub := sub_tuple_self
    have hinit := init_tuple_lookup
    have hmh := madeHere_tuple
    have hTI' : s.TypeIs (.ref z) "zip" := ⟨_, hz, rfl⟩
    have hh1 : A.in1.in1.handled = none := hh
    wp_walk using wpAny_typeOf hTI', collect_zip (A := A.in1.in1) hh1 hn hn0 D hL hLn hsz hfr hz hTI hTO ha keep ge sh
    intro ts h' tk g
    show wpAny _ _ (Builtin.Tuple.tupleExact (ts.map Value.ref).toArray >>= fun v => ret v) _ _ _
    unfold Builtin.Tuple.tupleExact
    refine wpAny_bind (wpAny_newObj_type ?_ (by show (List.toArray _).size ≤ sizeLine; rw [List.size_toArray, List.length_map, g.1]; exact size1000 hn))
    exact wpAny_pure ⟨⟨_, Heap.get?_push_size _ rfl, rfl⟩, hQ ts h' tk g⟩
  refine callType_codes (Q₁ := fun obj s₁ => s₁.TypeIs obj "tuple" ∧ Q obj s₁) F.called_tuple (F.typeCall_tuple_1 _) F.entry_object_init hnew fun obj s₁ h₁ => ?_
  exact ⟨h₁.1, F.args_object_init_2 obj _, object_init_meets F.called_tuple.init.lookup F.called_tuple.made (by decide) prog w A.in1 _ s₁ ⟨h₁.1, rfl, h₁.2⟩⟩
end
end ZN

namespace ZN
open PySem PySem.Spec PyProof.Rows L2
/-! ### over the layer: tuple(zip(*y)), y a tuple of tuples -/
def colV (ls : List (Addr × List V)) (j : Nat) : List V := ls.map fun p => (p.2[j]?).getD .non
/-- the answer: p, the tuple of the columns ts -/
structure Cols (ls : List (Addr × List V)) (n : Nat) (H : Hp) (p : Addr) (ts : List Addr) (H' : Hp) : Prop where
  n : ts.length = n
  nd : ts.Nodup
  hp : H p = none
  np : p ∉ ts
  ht : ∀ t ∈ ts, H t = none
  sub : Same H H'
  out : H' p = some (.tup (ts.map V.ref))
  cols : ∀ j t, ts[j]? = some t → H' t = some (.tup (colV ls j))
  new : ∀ b o, H' b = some o → H b = some o ∨ (H b = none ∧ ∃ xs, o = .tup xs)
def tExch (K : PySem.W.Frag) (te : TE) : TE := fun σ H Q => te σ H fun x H1 => ∃ (a : Addr) (ls : List (Addr × List V)) (n : Nat), x = .ref a ∧ SqT K H1 a (ls.map fun p => V.ref p.1) ∧ (∀ p ∈ ls, SqT K H1 p.1 p.2 ∧ p.2.length = n) ∧ 0 < ls.length ∧ ls.length ≤ 10 ∧ 0 < n ∧ n ≤ 1000 ∧
  ∀ p ts H', Cols ls n H1 p ts H' → Q (.ref p) H'
section
variable {X : Cx} {pins : List (Addr × Obj)} {σ : L2.St} {H : Hp} {s : Shared}
/-- several new tuples -/
theorem inv_tups {H' : Hp} {h' : Heap} {t' : Nat} (I : Inv X pins σ H s) (k : ∀ b o, s.heap.get? b = some o → h'.get? b = some o) (e : Same H H')
    (hn : ∀ b o, H' b = some o → H b = some o ∨ (s.heap.objs.size ≤ b ∧ ∃ xs, o = .tup xs ∧ xs.length ≤ sizeLine ∧ ∃ its : List Value, Vals xs its ∧ IsTup h' b its.toArray)) : Inv X pins σ H' { s with heap := h', toks := t' } := by
  refine I.un ⟨fun b u q _ _ _ => k b u q, fun b u q _ _ _ => ⟨u.slots, k b u q⟩, fun b u q n _ => ?_, fun b u q _ => ⟨u, k b u q⟩, fun b xs q => e _ _ q, fun b u xs q => e _ _ q, fun b ps q => ⟨#[], by rw [e _ _ q]; simp⟩⟩ fun b u q => ?_
  · cases z : H' b with
    | none => rfl
    | some o =>
      rcases hn b o z with h | ⟨h, _⟩
      · rw [n] at h; cases h
      · exact absurd (Heap.lt_size q) (Nat.not_lt.mpr h)
  · rcases hn b u q with h | ⟨_, xs, rfl, hz, its, r, it⟩
    · exact (I.hok b u h).stay (fun c v _ q => k c v q) (fun c q => e _ _ q) fun c xs q => e _ _ q
    · exact ⟨hz, its, r, it⟩
theorem vals_col {L : List (Addr × List V)} {its : List (Addr × List Value)} (j : Nat) (h : L.length = its.length) (hr : ∀ (k : Nat) (p : Addr × List V) (q : Addr × List Value), L[k]? = some p → its[k]? = some q → Vals p.2 q.2) : Vals (colV L j) (its.map fun q => (q.2[j]?).getD .none) := by
  induction L generalizing its with
  | nil =>
    cases its with
    | nil => exact .nil
    | cons _ _ => simp at h
  | cons p L ih =>
    cases its with
    | nil => simp at h
    | cons q its =>
      refine .cons ?_ (ih (by simpa using h) fun k a b e1 e2 => hr (k + 1) a b (by simpa using e1) (by simpa using e2))
      have r := hr 0 p q rfl rfl
      rcases VL.vals_get r j with ⟨h1, h2⟩ | ⟨v, u, h1, h2, h3⟩
      · show RelV ((p.2[j]?).getD V.non) ((q.2[j]?).getD Value.none)
        rw [h1, h2]; rfl
      · show RelV ((p.2[j]?).getD V.non) ((q.2[j]?).getD Value.none)
        rw [h1, h2]; exact h3
theorem lines_of (I : Inv X pins σ H s) : ∀ {ls : List (Addr × List V)}, (∀ p ∈ ls, SqT X.K H p.1 p.2) → ∃ its : List (Addr × List Value), its.length = ls.length ∧ its.map (·.1) = ls.map (·.1) ∧ ∀ (k : Nat) (p : Addr × List V) (q : Addr × List Value), ls[k]? = some p → its[k]? = some q → q.1 = p.1 ∧ Vals p.2 q.2 ∧ IsTup s.heap q.1 q.2.toArray
  | [], _ => ⟨[], rfl, rfl, fun k p q h => by simp at h⟩
  | p :: ls, h => by
    obtain ⟨its, h1, h2, h3⟩ := lines_of I (ls := ls) fun q hq => h q (List.mem_cons_of_mem _ hq)
    obtain ⟨it, r, ht, _⟩ := I.tuple (h p (List.mem_cons_self ..))
    refine ⟨(p.1, it) :: its, by simp [h1], by simp [h2], fun k a b e1 e2 => ?_⟩
    cases k with
    | zero =>
      simp at e1 e2
      subst e1 e2
      exact ⟨rfl, r, ht⟩
    | succ k => exact h3 k a b (by simpa using e1) (by simpa using e2)
theorem vals_refs : ∀ ts : List Addr, Vals (ts.map V.ref) (ts.map Value.ref)
  | [] => .nil
  | _ :: r => .cons rfl (vals_refs r)
theorem isTuple_of {h : Heap} {a : Addr} {its : Array Value} (t : IsTup h a its) : h.IsTuple a its := by
  obtain ⟨o, e, c, n, d⟩ := t
  exact ⟨o, e, c, n, d⟩
open Classical in
theorem pe_exch {e : Expr} {te : TE} {p1 p2 p3 p4 sp : Pos} (he : PE X e te) (hg1 : Gl X "tuple") (hm1 : X.mg "tuple" = none) (hg2 : Gl X "zip") (hm2 : X.mg "zip" = none) (hcalm : X.calm = true := by rfl)
    (hs1 : starEach [.Call (.Name "zip" p2) [.Starred e sp] [] p3] X.env = (false, eval (.Call (.Name "zip" p2) [.Starred e sp] [] p3) X.env) :: starEach [] X.env := by rfl) (hpl : (backTo p4 (starEach [] X.env)).any (·.1) = false := by rfl)
    (hs2 : starEach [.Starred e sp] X.env = [(true, eval e X.env)] := by rfl) :
    PE X (.Call (.Name "tuple" p1) [.Call (.Name "zip" p2) [.Starred e sp] [] p3] [] p4) (tExch X.K te) := by
  refine ⟨fun pins s σ H Q I h => ?_⟩
  refine wpAny_Call_Name_kw (ld_blt I hg1 hm1 (u := .type "tuple") (by decide +kernel) ?_)
  refine PyProof.Rows.callWith_type1 ?_ hs1 hpl
  rw [hs1]
  show wpAny _ _ (spliced ((false, eval (.Call (.Name "zip" p2) [.Starred e sp] [] p3) X.env) :: backTo p4 (starEach [] X.env))) _ _ s
  refine Calls.spliced_cons ?_
  refine wpAny_Call_Name_kw (ld_blt I hg2 hm2 (u := .type "zip") PyProof.Rows.boot_zip ?_)
  rw [hs2]
  refine PySem.W.ks_call (P := fun _ => True) rfl (fun _ _ => ⟨.machine, .inr (.inl rfl), PySem.W.Looks.of_pure rfl⟩) (PySem.W.ks_lone (thn (he.run pins s σ H _ I h) fun v s1 ⟨x, H1, I1, r1, q1⟩ => ?_))
  obtain ⟨a, ls, n, rfl, hsq, hl, hl0, hl10, hn0, hn, hQ⟩ := q1
  obtain rfl : v = Value.ref a := r1
  refine StX.star_any I1 (.inl hsq) fun us s2 I2 rv => ⟨trivial, ?_⟩
  obtain ⟨its, i1, i2, i3⟩ := lines_of I2 fun p hp => (hl p hp).1
  have hus : us = (ls.map (·.1)).map Value.ref := by
    have : ∀ {ls : List (Addr × List V)} {us : List Value}, Vals (ls.map fun p => V.ref p.1) us → us = (ls.map (·.1)).map Value.ref := by
      intro ls
      induction ls with
      | nil => intro us r; cases r; rfl
      | cons p ls ih =>
        intro us r
        cases r with
        | cons r1 r2 =>
          rw [ih r2]
          rw [show _ = Value.ref p.1 from r1]
          rfl
    exact this rv
  rw [List.nil_append, hus, ← i2]
  have hit : ∀ l ∈ its.map (·.1), ∃ items, s2.heap.IsTuple l items := fun l hl' => by
    obtain ⟨q, hq, rfl⟩ := List.mem_map.mp hl'
    obtain ⟨k, hk⟩ := List.getElem?_of_mem hq
    have hkl : k < ls.length := by rw [← i1]; exact (List.getElem?_eq_some_iff.mp hk).1
    obtain ⟨_, _, t⟩ := i3 k _ q (List.getElem?_eq_getElem hkl) hk
    exact ⟨_, isTuple_of t⟩
  refine call_zip_n (by rw [List.length_map, i1]; exact hl10) hit ?_
  refine Calls.spliced_nil ?_
  -- draining
  let n0 := s2.heap.objs.size
  let m := (its.map (·.1)).length
  have hm : m = ls.length := by show (its.map (·.1)).length = _; rw [List.length_map, i1]
  let L : Ls := (its.zipIdx).map fun q => (n0 + q.2, q.1.1, q.1.2.toArray)
  have hLget : ∀ {p}, p ∈ L → ∃ (k : Nat) (q : Addr × List Value), its[k]? = some q ∧ p = (n0 + k, q.1, q.2.toArray) := fun {p} hp => by
    obtain ⟨q, hq, rfl⟩ := List.mem_map.mp hp
    obtain ⟨a, k⟩ := q
    have := List.mem_zipIdx hq
    exact ⟨k, a, by have := List.mk_mem_zipIdx_iff_getElem?.mp hq; exact this, rfl⟩
  have hLl : L.length = ls.length := by show (List.map _ _).length = _; rw [List.length_map, List.length_zipIdx, i1]
  have sz1 : (pushIts s2.heap (its.map (·.1))).objs.size = n0 + m := pushIts_size _ _
  have sz3 : (zH3 s2.heap (its.map (·.1))).objs.size = n0 + m + 1 := by unfold zH3; rw [Heap.size_push, sz1]
  have sz4 : (zH4 s2.heap (its.map (·.1))).objs.size = n0 + m + 2 := by unfold zH4; rw [Heap.size_push, sz3]
  have sz5 : (zH5 s2.heap (its.map (·.1))).objs.size = n0 + m + 3 := by unfold zH5; rw [Heap.size_push, sz4]
  have up3 : ∀ {c o}, (pushIts s2.heap (its.map (·.1))).get? c = some o → (zH5 s2.heap (its.map (·.1))).get? c = some o := fun e => Heap.get?_push_of_some _ (Heap.get?_push_of_some _ (Heap.get?_push_of_some _ e))
  have old5 : ∀ {c o}, s2.heap.get? c = some o → (zH5 s2.heap (its.map (·.1))).get? c = some o := fun e => up3 (pushIts_old _ _ e)
  have gz : (zH5 s2.heap (its.map (·.1))).get? (n0 + m + 2) = some { cls := .type "zip", data := .fields #[.none, .bool false, .bool false, .ref (n0 + m), .ref (n0 + m + 1)] } := by
    have := Heap.get?_push_size (zH4 s2.heap (its.map (·.1))) (o := { cls := .type "zip", data := .fields #[.none, .bool false, .bool false, .ref (pushIts s2.heap (its.map (·.1))).objs.size, .ref (zH3 s2.heap (its.map (·.1))).objs.size] }) rfl
    rw [sz4, sz1, sz3] at this
    show (Heap.push _ _).get? _ = _
    rw [sz1, sz3]
    exact this
  have gTI : (zH5 s2.heap (its.map (·.1))).get? (n0 + m) = some { cls := .type "tuple", data := .seq ((List.range (its.map (·.1)).length).map fun j => Value.ref (s2.heap.objs.size + j)).toArray } := by
    have := Heap.get?_push_size (pushIts s2.heap (its.map (·.1))) (o := { cls := .type "tuple", data := .seq ((List.range (its.map (·.1)).length).map fun j => Value.ref (s2.heap.objs.size + j)).toArray }) rfl
    rw [sz1] at this
    exact Heap.get?_push_of_some _ (Heap.get?_push_of_some _ this)
  have gTO : (zH5 s2.heap (its.map (·.1))).get? (n0 + m + 1) = some { cls := .type "tuple", data := .seq (List.replicate (its.map (·.1)).length Value.none).toArray } := by
    have := Heap.get?_push_size (zH3 s2.heap (its.map (·.1))) (o := { cls := .type "tuple", data := .seq (List.replicate (its.map (·.1)).length Value.none).toArray }) rfl
    rw [sz3] at this
    exact Heap.get?_push_of_some _ this
  have hTIeq : (L.map fun p => Value.ref p.1) = (List.range (its.map (·.1)).length).map fun j => Value.ref (s2.heap.objs.size + j) := by
    show List.map _ (List.map _ _) = _
    rw [List.map_map, List.length_map]
    apply List.ext_getElem
    · simp
    · intro j h1 h2
      simp [n0]
  have line_lt : ∀ {k : Nat} {q : Addr × List Value}, its[k]? = some q → q.1 < n0 := fun {k q} hk => by
    have hkl : k < ls.length := by rw [← i1]; exact (List.getElem?_eq_some_iff.mp hk).1
    obtain ⟨_, _, t⟩ := i3 k _ q (List.getElem?_eq_getElem hkl) hk
    exact t.lt
  have k_lt : ∀ {k : Nat} {q : Addr × List Value}, its[k]? = some q → k < m := fun {k q} hk => by rw [hm, ← i1]; exact (List.getElem?_eq_some_iff.mp hk).1
  have D : Sep (n0 + m + 2) (n0 + m) (n0 + m + 1) L := by
    refine ⟨Nat.ne_of_lt (by omega), Nat.ne_of_lt (by omega), Nat.ne_of_lt (by omega), fun p hp => ?_, fun p hp => ?_, fun p hp q hq => ?_, ?_⟩
    · obtain ⟨k, q, hk, rfl⟩ := hLget hp
      have := k_lt hk
      exact ⟨Nat.ne_of_lt (by show n0 + k < n0 + m + 2; omega), Nat.ne_of_lt (by show n0 + k < n0 + m; omega), Nat.ne_of_lt (by show n0 + k < n0 + m + 1; omega)⟩
    · obtain ⟨k, q, hk, rfl⟩ := hLget hp
      have := line_lt hk
      exact ⟨Nat.ne_of_lt (Nat.lt_of_lt_of_le this (by show n0 ≤ n0 + m + 2; omega)), Nat.ne_of_lt (Nat.lt_of_lt_of_le this (by show n0 ≤ n0 + m + 1; omega))⟩
    · obtain ⟨k, a, hk, rfl⟩ := hLget hp
      obtain ⟨k2, a2, hk2, rfl⟩ := hLget hq
      exact Nat.ne_of_lt (Nat.lt_of_lt_of_le (line_lt hk) (by show n0 ≤ n0 + k2; omega))
    · have e : L.map (·.1) = (List.range its.length).map fun j => n0 + j := by
        show List.map _ (List.map _ _) = _
        rw [List.map_map]
        apply List.ext_getElem
        · simp
        · intro j h1 h2
          simp
      rw [e]
      exact List.Pairwise.map _ (fun a b h q => h (Nat.add_left_cancel q)) List.nodup_range
  have hsz : ∀ p ∈ L, p.2.2.size = n := fun p hp => by
    obtain ⟨k, q, hk, rfl⟩ := hLget hp
    have hkl : k < ls.length := by rw [← hm]; exact k_lt hk
    obtain ⟨_, r, _⟩ := i3 k _ q (List.getElem?_eq_getElem hkl) hk
    show q.2.toArray.size = n
    rw [List.size_toArray, ← r.length]
    exact (hl _ (List.getElem_mem hkl)).2
  show wpAny _ _ (call (.type "tuple") [.ref (zH4 s2.heap (its.map (·.1))).objs.size]) _ _ { s2 with heap := zH5 s2.heap (its.map (·.1)) }
  rw [sz4]
  refine call_tuple_zip (z := n0 + m + 2) (TI := n0 + m) (TO := n0 + m + 1) (L := L) (s0 := s2) (I2.ok.hd hcalm) hn hn0 D (fun e => by rw [e] at hLl; simp at hLl; omega) (by rw [hLl]; omega) hsz ⟨by show n0 ≤ _; omega, by show n0 ≤ _; omega, by show n0 ≤ _; omega, fun p hp => ?_⟩ gz (by rw [hTIeq]; exact gTI) ⟨_, gTO, by rw [List.size_toArray, List.length_replicate, List.length_map, i1, hLl]⟩ (fun p hp => ?_) (fun c o e => old5 e) (by show n0 ≤ (zH5 _ _).objs.size; rw [sz5]; omega) ⟨_, s2.toks, rfl⟩ fun ts h' tk g => ?_
  · obtain ⟨k, q, hk, rfl⟩ := hLget hp
    show n0 ≤ n0 + k
    omega
  · obtain ⟨k, q, hk, rfl⟩ := hLget hp
    have hkl : k < ls.length := by rw [← hm]; exact k_lt hk
    obtain ⟨_, _, t⟩ := i3 k _ q (List.getElem?_eq_getElem hkl) hk
    refine .inr ⟨?_, (isTuple_of t).at fun o e => old5 e⟩
    have := pushIts_at s2.heap (its.map (·.1)) (j := k) (l := q.1) (by rw [List.getElem?_map, hk]; rfl)
    exact ⟨_, up3 this, rfl, rfl⟩
  · obtain ⟨g1, g2, g3, g4⟩ := g
    have hcol : ∀ j, Vals (colV ls j) (col L j) := fun j => by
      have : col L j = its.map fun q => (q.2[j]?).getD .none := by
        show List.map _ (List.map _ _) = _
        rw [List.map_map]
        apply List.ext_getElem
        · simp
        · intro i h1 h2
          simp
      rw [this]
      exact vals_col j i1.symm fun k p q e1 e2 => (i3 k p q e1 e2).2.1
    -- the abstract heap behind it
    let P := h'.objs.size
    have tlt : ∀ t ∈ ts, t < P := fun t ht => by
      obtain ⟨j, hj⟩ := List.getElem?_of_mem ht
      exact Heap.lt_size (g3 j t hj).1
    have tge : ∀ t ∈ ts, n0 ≤ t := fun t ht => by
      obtain ⟨j, hj⟩ := List.getElem?_of_mem ht
      exact (g3 j t hj).2
    have Hge : ∀ b, n0 ≤ b → H1 b = none := fun b hb => I2.hok.fresh hb
    have hP : n0 ≤ P := by
      show n0 ≤ h'.objs.size
      cases ts with
      | nil => simp at g1; omega
      | cons t r => exact Nat.le_trans (tge t (List.mem_cons_self ..)) (Nat.le_of_lt (tlt t (List.mem_cons_self ..)))
    let H' : Hp := fun b => if b = P then some (.tup (ts.map V.ref)) else if b ∈ ts then some (.tup (colV ls (ts.idxOf b))) else H1 b
    have atP : H' P = some (.tup (ts.map V.ref)) := if_pos rfl
    have att : ∀ j t, ts[j]? = some t → H' t = some (.tup (colV ls j)) := fun j t hj => by
      have hm : t ∈ ts := List.mem_of_getElem? hj
      have hne : t ≠ P := Nat.ne_of_lt (tlt t hm)
      have hjl := (List.getElem?_eq_some_iff.mp hj).1
      show (if t = P then _ else if t ∈ ts then some (HO.tup (colV ls (ts.idxOf t))) else H1 t) = _
      rw [if_neg hne, if_pos hm]
      have : ts.idxOf t = j := by
        have e := (List.getElem?_eq_some_iff.mp hj).2
        rw [← e]
        exact g2.idxOf_getElem j hjl
      rw [this]
    have sub : Same H1 H' := fun b o e => by
      have hb : b < n0 := I2.hok.lt e
      show (if b = P then _ else if b ∈ ts then _ else H1 b) = _
      rw [if_neg (Nat.ne_of_lt (Nat.lt_of_lt_of_le hb hP)), if_neg (fun h => absurd (tge b h) (Nat.not_le.mpr hb))]
      exact e
    have new : ∀ b o, H' b = some o → H1 b = some o ∨ (n0 ≤ b ∧ ∃ xs, o = .tup xs ∧ (b = P ∧ xs = ts.map V.ref ∨ ∃ j, ts[j]? = some b ∧ xs = colV ls j)) := fun b o e => by
      by_cases h1 : b = P
      · subst h1
        rw [atP] at e
        cases e
        exact .inr ⟨hP, _, rfl, .inl ⟨rfl, rfl⟩⟩
      · by_cases h2 : b ∈ ts
        · obtain ⟨j, hj⟩ := List.getElem?_of_mem h2
          rw [att j b hj] at e
          cases e
          exact .inr ⟨tge b h2, _, rfl, .inr ⟨j, hj, rfl⟩⟩
        · left
          have : H' b = H1 b := by
            show (if b = P then _ else if b ∈ ts then _ else H1 b) = _
            rw [if_neg h1, if_neg h2]
          rw [← this]; exact e
    have I5 : Inv X pins σ H' { s2 with heap := h'.push { cls := .type "tuple", data := .seq (ts.map Value.ref).toArray }, toks := tk } := by
      refine inv_tups I2 (fun b o e => Heap.get?_push_of_some _ (g4 _ _ e)) sub fun b o e => ?_
      rcases new b o e with h | ⟨h, xs, rfl, h3⟩
      · exact .inl h
      · refine .inr ⟨h, xs, rfl, ?_⟩
        rcases h3 with ⟨rfl, rfl⟩ | ⟨j, hj, rfl⟩
        · refine ⟨by rw [List.length_map, g1]; exact size1000 hn, ts.map Value.ref, ?_, IsTup.new _ _⟩
          exact vals_refs ts
        · refine ⟨by unfold colV; rw [List.length_map]; exact size1000 (by omega), col L j, hcol j, ?_⟩
          obtain ⟨q, _⟩ := g3 j b hj
          exact ⟨_, Heap.get?_push_of_some _ q, rfl, _, rfl⟩
    refine ⟨.ref P, H', I5, rfl, hQ P ts H' ⟨g1, g2, Hge _ hP, fun h => absurd (tlt _ h) (Nat.lt_irrefl _), fun t ht => Hge _ (tge t ht), sub, atP, att, fun b o e => ?_⟩⟩
    rcases new b o e with h | ⟨h, xs, rfl, _⟩
    · exact .inl h
    · exact .inr ⟨Hge _ h, xs, rfl⟩
end
end ZN

namespace VL
open PySem PySem.Spec PyProof.Rows L2 ZN
/-! ### tuple(zip(*lines)), typed -/
def colsL {α : Type} (xss : List (List α)) (n : Nat) : List (List α) := (List.range n).map fun j => xss.filterMap (·[j]?)
def M.exch {α : Type} (xss : List (List α)) : M (List (List α)) := fun Φ _ k => ∃ n, (0 < xss.length ∧ xss.length ≤ 10 ∧ 0 < n ∧ n ≤ 1000 ∧ ∀ r ∈ xss, r.length = n) ∧ Φ (colsL xss n) k
section
variable {α : Type} {R : α → VP} {G : Hp}
def LR (R : α → VP) (G : Hp) : List (List α) → List (Addr × List V) → Prop
  | [], [] => True
  | x :: xs, q :: qs => (G q.1 = some (.tup q.2) ∧ reps R x q.2 G) ∧ LR R G xs qs
  | _, _ => False
theorem lines_rep : ∀ {xss : List (List α)} {vs : List V}, reps (rTup R) xss vs G → ∃ ls : List (Addr × List V), vs = ls.map (fun p => V.ref p.1) ∧ LR R G xss ls
  | [], [], _ => ⟨[], rfl, trivial⟩
  | x :: xs, v :: vs, h => by
    obtain ⟨p, us, rfl, h1, h2⟩ := h.1
    obtain ⟨ls, rfl, h3⟩ := lines_rep h.2
    exact ⟨(p, us) :: ls, rfl, ⟨h1, h2⟩, h3⟩
theorem LR.len : ∀ {xss : List (List α)} {ls : List (Addr × List V)}, LR R G xss ls → ls.length = xss.length
  | [], [], _ => rfl
  | _ :: _, _ :: _, h => by rw [List.length_cons, List.length_cons, LR.len h.2]
theorem LR.at_ : ∀ {xss : List (List α)} {ls : List (Addr × List V)} {n : Nat}, LR R G xss ls → (∀ r ∈ xss, r.length = n) → ∀ p ∈ ls, G p.1 = some (.tup p.2) ∧ p.2.length = n
  | [], [], _, _, _, p, hp => by simp at hp
  | x :: xs, q :: qs, n, h, hn, p, hp => by
    rcases List.mem_cons.mp hp with rfl | hp
    · exact ⟨h.1.1, by rw [h.1.2.len]; exact hn x (List.mem_cons_self ..)⟩
    · exact LR.at_ h.2 (fun r hr => hn r (List.mem_cons_of_mem _ hr)) p hp
theorem LR.col {G' : Hp} (e : Same G G') {j : Nat} : ∀ {xss : List (List α)} {ls : List (Addr × List V)}, LR R G xss ls → (∀ r ∈ xss, j < r.length) → reps R (xss.filterMap (·[j]?)) (colV ls j) G'
  | [], [], _, _ => trivial
  | x :: xs, q :: qs, h, hn => by
    have hj := hn x (List.mem_cons_self ..)
    obtain ⟨v, h1, h2⟩ := h.1.2.get (List.getElem?_eq_getElem hj)
    rw [List.filterMap_cons, List.getElem?_eq_getElem hj]
    show reps R (x[j] :: xs.filterMap (·[j]?)) (((q.2[j]?).getD .non) :: colV qs j) G'
    rw [h1]
    exact ⟨(R _).up e h2, LR.col e h.2 fun r hr => hn r (List.mem_cons_of_mem _ hr)⟩
end
theorem reps_of_at {α : Type} {R : α → VP} {G : Hp} : ∀ {xs : List α} {vs : List V}, vs.length = xs.length → (∀ (j : Nat) (x : α) (v : V), xs[j]? = some x → vs[j]? = some v → (R x).P v G) → reps R xs vs G
  | [], [], _, _ => trivial
  | [], _ :: _, h, _ => by simp at h
  | _ :: _, [], h, _ => by simp at h
  | x :: xs, v :: vs, h, k => ⟨k 0 x v rfl rfl, reps_of_at (by simpa using h) fun j y u e1 e2 => k (j + 1) y u (by simpa using e1) (by simpa using e2)⟩
section
variable {C : Cfg} {α : Type} {ps : List SL} {te : TE}
open Classical in
theorem ve_exch {R : α → VP} {m : M (List (List α))} (h : VE C te ps m (Fz (rTup (rTup R)))) : VE C (tExch C.K te) ps (M.bind m fun xss => M.exch xss) (Fz (rTup (rTup R))) := by
  intro σ G W H n Q Φ Ψ e st hm k x
  refine h σ G W H n _ (fun xss n' => M.exch xss Φ Ψ n') Ψ e st hm ?_ x
  rintro xss n1 v G1 W1 H1 ⟨w, ⟨c1, c2, c3, c4, c5⟩, hΦ⟩ s1 t1 ⟨p, vs, rfl, h1, h2⟩ _
  have st1 := st.stp s1 t1
  obtain ⟨ls, rfl, hls⟩ := lines_rep h2
  have hlen := hls.len
  refine ⟨p, ls, w, rfl, SqT.of (st1.gh _ _ h1), fun q hq => ?_, by omega, by omega, c3, c4, fun P ts H2 co => ?_⟩
  · obtain ⟨a, b⟩ := hls.at_ c5 q hq
    exact ⟨SqT.of (st1.gh _ _ a), b⟩
  have nw : ∀ b, b = P ∨ b ∈ ts → H1 b = none := fun b hb => by
    rcases hb with rfl | hb
    · exact co.hp
    · exact co.ht b hb
  let ex : Hp → Hp := fun F b => if b = P ∨ b ∈ ts then H2 b else F b
  have exN : ∀ (F : Hp) (b : Addr), b = P ∨ b ∈ ts → ex F b = H2 b := fun F b hb => if_pos hb
  have exO : ∀ (F : Hp) (b : Addr), ¬ (b = P ∨ b ∈ ts) → ex F b = F b := fun F b hb => if_neg hb
  have sub : ∀ (F : Hp), (∀ b, H1 b = none → F b = none) → Same F (ex F) := fun F hF b o ho => by
    by_cases hb : b = P ∨ b ∈ ts
    · rw [hF b (nw b hb)] at ho; cases ho
    · rw [exO F b hb]; exact ho
  have sG := sub G1 fun b hb => st1.gfree hb
  have sW := sub W1 fun b hb => st1.wfree hb
  have hG : ∀ b o, (b = P ∨ b ∈ ts) → H2 b = some o → ex G1 b = some o := fun b o hb ho => by rw [exN G1 b hb]; exact ho
  refine k (colsL xss w) n1 (.ref P) (ex G1) (ex W1) H2 hΦ ⟨s1.g.trans sG, s1.w.trans sW, ?_, ?_⟩ ?_ ?_ trivial
  · intro b o ho
    by_cases hb : b = P ∨ b ∈ ts
    · rw [exN G1 b hb] at ho; rw [exN W1 b hb]; exact ho
    · rw [exO G1 b hb] at ho; rw [exO W1 b hb]; exact s1.gw _ _ ho
  · intro b o ho
    by_cases hb : b = P ∨ b ∈ ts
    · exact .inr (s1.w.free (st1.wfree (nw b hb)))
    · rw [exO G1 b hb] at ho; exact s1.ng _ _ ho
  · refine C.Θ.ext st1.t co.sub sW fun b o ho => ?_
    by_cases hb : b = P ∨ b ∈ ts
    · rw [exN W1 b hb] at ho
      refine .inr ⟨nw b hb, ho, ?_⟩
      rcases co.new b o ho with h | ⟨_, xs, rfl⟩
      · rw [nw b hb] at h; cases h
      · exact ⟨(fun _ h => nomatch h), (fun _ h => nomatch h)⟩
    · rw [exO W1 b hb] at ho; exact .inl ho
  · refine ⟨P, ts.map V.ref, rfl, hG P _ (.inl rfl) co.out, reps_of_at (by simp [colsL, co.n]) fun j y v e1 e2 => ?_⟩
    unfold colsL at e1
    rw [List.getElem?_map] at e1
    have hj : j < w := by
      cases z : (List.range w)[j]? with
      | none => rw [z] at e1; cases e1
      | some m => have := (List.getElem?_eq_some_iff.mp z).1; simpa using this
    rw [List.getElem?_range hj] at e1
    have e1 : xss.filterMap (·[j]?) = y := Option.some.inj e1
    subst e1
    rw [List.getElem?_map] at e2
    cases z : ts[j]? with
    | none => rw [z] at e2; cases e2
    | some t =>
      rw [z] at e2
      have e2 : V.ref t = v := Option.some.inj e2
      subst e2
      exact ⟨t, _, rfl, hG t _ (.inr (List.mem_of_getElem? z)) (co.cols j t z), hls.col sG fun r hr => by rw [c5 r hr]; exact hj⟩
end
end VL

namespace L2
open PySem PySem.Spec PyProof.Rows
/-! ### sets of texts whose order can be walked: made of a list, sorted -/
/-- an entry's text -/
def txOf (e : Int × Value) : Str := match e.2 with
  | .str x _ => x
  | _ => Str.empty
def addS (k : Str) (l : List Str) : List Str := if k ∈ l then l else k :: l
/-- the payload holds the texts l -/
structure Pay (P : Program) (w : World) (l : List Str) (es : Array (Int × Value)) (t : SetTable) : Prop where
  el : ElemsOf (PySem.strKind P w) es.toList
  pm : (es.toList.map txOf).Perm l
  nd : l.Nodup
  sz : es.size < scanBound
  fits : t.fits es.size = true
  ris : Ris t.place.toList
  led : w.params.followText "set-order" = true ∨ t.led = true
def TxR (P : Program) (w : World) (h : Heap) (a : Addr) (l : List Str) : Prop := ∃ o es ep t, h.get? a = some o ∧ o.ExactSet ∧ o.data = .set es ep t ∧ Pay P w l es t
section
variable {P : Program} {w : World} {A : Around} {E : Value → Shared → Prop} {s : Shared} {a : Addr} {l : List Str}
theorem TxR.at {h h' : Heap} (R : TxR P w h a l) (k : ∀ o, h.get? a = some o → h'.get? a = some o) : TxR P w h' a l := by
  obtain ⟨o, es, ep, t, ho, r⟩ := R
  exact ⟨o, es, ep, t, k o ho, r⟩
theorem el_text {e : Int × Value} {k : Str} (h : (PySem.strKind P w).is k e.2 = true) : txOf e = k := by
  obtain ⟨tk, e1⟩ := Value.isStrOf_shape (x := k) (v := e.2) h
  unfold txOf
  rw [e1]
theorem Pay.mem {es : Array (Int × Value)} {t : SetTable} (p : Pay P w l es t) {k : Str} : k ∈ l ↔ ∃ e ∈ es.toList, (PySem.strKind P w).is k e.2 = true := by
  rw [← p.pm.mem_iff, List.mem_map]
  refine ⟨fun ⟨e, he, q⟩ => ⟨e, he, ?_⟩, fun ⟨e, he, q⟩ => ⟨e, he, el_text q⟩⟩
  obtain ⟨⟨x, hx, _⟩, _⟩ := p.el e he
  rw [el_text hx] at q
  exact q ▸ hx
theorem Pay.len {es : Array (Int × Value)} {t : SetTable} (p : Pay P w l es t) : es.size = l.length := by
  rw [← p.pm.length_eq, List.length_map, Array.length_toList]
/-- the same entries in another order, another table -/
theorem Pay.re {es es' : Array (Int × Value)} {t t' : SetTable} (p : Pay P w l es t) (pm : es'.toList.Perm es.toList) (hf : t'.fits es'.size = true) (hr : Ris t'.place.toList) (hl : t'.led = t.led) : Pay P w l es' t' where
  el := fun e he => p.el e (pm.mem_iff.mp he)
  pm := (pm.map txOf).trans p.pm
  nd := p.nd
  sz := by rw [← Array.length_toList, pm.length_eq, Array.length_toList]; exact p.sz
  fits := hf
  ris := hr
  led := p.led.imp id fun z => by rw [hl]; exact z
/-- what add writes, and lays anew where it is too full -/
theorem tx_tail {g : Bool → Sem Unit} (hg : ∀ (b : Bool) (s₁ : Shared) (Q' : Unit → Shared → Prop), Q' () s₁ → wpAny (model P w) A (g b) Q' E s₁)
    {o : Obj} {es : Array (Int × Value)} {ep : Nat} {t : SetTable} (ho : s.heap.get? a = some o) (hex : o.ExactSet) (hd : o.data = .set es ep t)
    {es1 : Array (Int × Value)} {t2 : SetTable} (p1 : Pay P w l es1 t2) {wasDummy : Bool} {R : Option Bool → Shared → Prop}
    (hR : ∀ h', Heap.SameBut a s.heap h' → TxR P w h' a l → R (some true) { s with heap := h' }) :
    wpAny (model P w) A (do
        storeSet a es1 t2
        if (!wasDummy && t2.tooFull) = true then do
            g (relayAll t2 es1 (SetTable.grown es1.size)).2.2
            storeSet a (relayAll t2 es1 (SetTable.grown es1.size)).1 (relayAll t2 es1 (SetTable.grown es1.size)).2.1
            pure (some true)
          else pure (some true)) R E s := by
  have ho1 := store_at (es' := es1) (t' := t2) ho hd
  have sb1 := Heap.SameBut.update s.heap a (Obj.putSet es1 t2)
  refine wpAny_bind (wpAny_storeSet_of ho hd ?_ (fits_of_scanBound p1.sz))
  split
  · have p2 : Pay P w l (relayAll t2 es1 (SetTable.grown es1.size)).1 (relayAll t2 es1 (SetTable.grown es1.size)).2.1 :=
      p1.re (relayAll_perm t2 es1 _) (relayAll_fits t2 es1 _) (relayAll_ris t2 es1 _) (relayAll_led t2 es1 _)
    refine wpAny_bind (hg _ _ _ (wpAny_bind (wpAny_storeSet_of ho1 rfl ?_ (fits_of_scanBound p2.sz))))
    exact wpAny_pure (hR _ (sb1.trans (Heap.SameBut.update _ a _)) ⟨_, _, _, _, store_at (es' := (relayAll t2 es1 (SetTable.grown es1.size)).1) (t' := (relayAll t2 es1 (SetTable.grown es1.size)).2.1) ho1 rfl, hex, rfl, p2⟩)
  · exact wpAny_pure (hR _ sb1 ⟨_, _, _, _, ho1, hex, rfl, p1⟩)
theorem tx_add {k : Str} {tk : Tok} {Q : Bool → Shared → Prop} (R : TxR P w s.heap a l) (room : l.length + 1 < scanBound)
    (hQ : ∀ b h', Heap.SameBut a s.heap h' → TxR P w h' a (addS k l) → Q b { s with heap := h' }) :
    wpAny (model P w) A (setAddHashed a (.str k tk) ((PySem.strKind P w).hash k)) Q E s := by
  obtain ⟨o, es, ep, t, ho, hex, hd, p⟩ := R
  have hkey : (PySem.strKind P w).is k (.str k tk) = true := strKind_is _ _ _ _
  have hsc : (Value.str k tk).scannable = true := rfl
  unfold setAddHashed setAddHashedIn
  refine wpAny_holding (wpAny_bind (wpAny_setState_of ho hd p.fits ?_))
  dsimp only
  rw [byScan_of hsc p.sz p.el]
  simp only [↓reduceIte]
  unfold setAddByScan
  refine wpAny_bind (wpAny_bind (wpAny_rule (wpAny_bind (wpAny_setScan_of hkey ho hd p.fits p.el ?_))))
  cases hfi : List.findIdx? (fun e => (PySem.strKind P w).is k e.2) es.toList with
  | some j =>
    dsimp only
    obtain ⟨hj, pj, _⟩ := List.findIdx?_eq_some_iff_getElem.mp hfi
    have hm : k ∈ l := p.mem.mpr ⟨_, List.getElem_mem hj, pj⟩
    refine wpAny_pure (wpAny_pure (hQ _ s.heap (Heap.SameBut.refl a s.heap) ?_))
    unfold addS
    rw [if_pos hm]
    exact ⟨o, es, ep, t, ho, hex, hd, p⟩
  | none =>
    dsimp only
    have hm : k ∉ l := fun z => by
      obtain ⟨e, he, q⟩ := p.mem.mp z
      have c := List.findIdx?_eq_none_iff.mp hfi e he
      rw [q] at c
      cases c
    have hgw : ∀ (b : Bool) {s₁ : Shared} {Q' : Unit → Shared → Prop}, Q' () s₁ → wpAny (model P w) A (match b with | true => rule "set.scan.the-table-gave-way" | false => pure ()) Q' E s₁ :=
      fun b s₁ Q' q => by cases b <;> first | exact wpAny_pure q | exact wpAny_rule q
    have pm := layNew_perm t es ((PySem.strKind P w).hash k) (.str k tk)
    have hf1 := layNew_fits t es ((PySem.strKind P w).hash k) (.str k tk)
    have hr1 := layNew_ris t es ((PySem.strKind P w).hash k) (.str k tk) p.ris
    have hl1 := layNew_led t es ((PySem.strKind P w).hash k) (.str k tk)
    generalize layNew t es ((PySem.strKind P w).hash k) (.str k tk) = Z at pm hf1 hr1 hl1 ⊢
    obtain ⟨es1, t1, wasDummy, gave⟩ := Z
    dsimp only at pm hf1 hr1 hl1 ⊢
    rw [Array.toList_push] at pm
    have pc : es1.toList.Perm (((PySem.strKind P w).hash k, Value.str k tk) :: es.toList) := pm.trans (List.perm_append_singleton _ _)
    have mk : ∀ t2 : SetTable, t2.fits es1.size = true → Ris t2.place.toList → t2.led = t.led → Pay P w (k :: l) es1 t2 := fun t2 a1 a2 a3 =>
      { el := fun e he => by
          rcases List.mem_cons.mp (pc.mem_iff.mp he) with z | z
          · rw [z]; exact ⟨⟨k, hkey, rfl⟩, rfl⟩
          · exact p.el e z
        pm := (pc.map txOf).trans (List.Perm.cons k p.pm)
        nd := List.nodup_cons.mpr ⟨hm, p.nd⟩
        sz := by rw [← Array.length_toList, pc.length_eq, List.length_cons, Array.length_toList, p.len]; exact room
        fits := a1, ris := a2, led := p.led.imp id fun z => by rw [a3]; exact z }
    have fin : ∀ h', Heap.SameBut a s.heap h' → TxR P w h' a (k :: l) → ∀ b, Q b { s with heap := h' } := fun h' sb r b => hQ b h' sb (by unfold addS; rw [if_neg hm]; exact r)
    refine wpAny_bind (hgw _ ?_)
    split
    · refine wpAny_bind ?_
      rw [hashByValue_scannable 8 hsc]
      refine wpAny_pure ?_
      refine tx_tail (fun b s₁ Q' q => ?_) ho hex hd (mk _ ?_ ?_ ?_) fun h' sb r => ?_
      · cases b <;> first | exact wpAny_pure q | exact wpAny_rule q
      · first | (split <;> first | exact hf1 | exact SetTable.fits_plain_off hf1) | exact hf1
      · first | (split <;> exact hr1) | exact hr1
      · first | (split <;> exact hl1) | exact hl1
      · dsimp only; exact wpAny_pure (fin h' sb r _)
    · refine wpAny_bind (wpAny_pure ?_)
      simp only [↓reduceIte]
      refine tx_tail (fun b s₁ Q' q => ?_) ho hex hd (mk _ hf1 hr1 hl1) fun h' sb r => ?_
      · cases b <;> first | exact wpAny_pure q | exact wpAny_rule q
      · dsimp only; exact wpAny_pure (fin h' sb r _)
/-- the texts of xs, each once -/
def distS (xs : List Str) : List Str := xs.foldl (fun l k => addS k l) []
theorem addS_mem {k x : Str} {l : List Str} : x ∈ addS k l ↔ x = k ∨ x ∈ l := by
  unfold addS
  split
  · rename_i h
    exact ⟨.inr, fun z => z.elim (fun e => e ▸ h) id⟩
  · exact List.mem_cons
theorem addS_len {k : Str} {l : List Str} : (addS k l).length ≤ l.length + 1 := by
  unfold addS
  split <;> simp
theorem distS_go : ∀ (xs : List Str) (l : List Str) (x : Str), x ∈ xs.foldl (fun l k => addS k l) l ↔ x ∈ l ∨ x ∈ xs
  | [], l, x => by simp
  | y :: r, l, x => by
    rw [List.foldl_cons, distS_go r, addS_mem, List.mem_cons]
    constructor
    · rintro ((h | h) | h)
      · exact .inr (.inl h)
      · exact .inl h
      · exact .inr (.inr h)
    · rintro (h | h | h)
      · exact .inl (.inr h)
      · exact .inl (.inl h)
      · exact .inr h
theorem distS_mem {xs : List Str} {x : Str} : x ∈ distS xs ↔ x ∈ xs := (distS_go xs [] x).trans (by simp)
theorem distS_take {xs : List Str} {i : Nat} {k : Str} (h : xs[i]? = some k) : distS (xs.take (i + 1)) = addS k (distS (xs.take i)) := by
  unfold distS
  rw [List.take_add_one, h]
  show ((xs.take i) ++ [k]).foldl _ _ = _
  rw [List.foldl_append] <;> rfl
theorem distS_len_go : ∀ (xs l : List Str), (xs.foldl (fun l k => addS k l) l).length ≤ l.length + xs.length
  | [], l => by simp
  | y :: r, l => by
    have h1 := distS_len_go r (addS y l)
    have h2 := @addS_len y l
    rw [List.foldl_cons, List.length_cons]
    omega
theorem distS_len (xs : List Str) : (distS xs).length ≤ xs.length := by
  have := distS_len_go xs []
  unfold distS
  simpa using this
end
end L2

set_option maxHeartbeats 6400000
namespace L2
open PySem PySem.Spec PyProof.Rows
section
variable {P : Program} {w : World} {A : Around} {E : Value → Shared → Prop} {s : Shared}
theorem tx_update {I : Addr} {fp wr : List Addr} {G : Array GenState → Array GenState → Prop} {n : Nat} {Pv : Nat → Value → Prop} {St : Nat → Shared → Prop} {R : Result → Shared → Prop}
    (W : WalksS P w A.in1 I fp wr G n Pv St) (S : Addr) (hSf : S ∉ fp) (xs : List Str) (hn : n = xs.length) (hb : xs.length + 1 < scanBound) (hval : ∀ i v, Pv i v → ∃ k t, xs[i]? = some k ∧ v = .str k t) :
    ∀ (k i : Nat) (s : Shared), n - i = k → i ≤ n → St i s → TxR P w s.heap S (distS (xs.take i)) →
      (∀ s', Moved (S :: wr) G s s' → TxR P w s'.heap S (distS xs) → R (.ok (.ret .none)) s') →
      codeAny (model P w) A (.builtin "set.update.loop" ⟨[.ref S, .ref I], []⟩) R s := by
  have hSw : S ∉ wr := fun h => hSf (W.sub _ h)
  have hsub : ∀ b ∈ wr, b ∈ S :: wr := fun b hb => List.mem_cons_of_mem _ hb
  intro k
  induction k with
  | zero =>
    intro i s hk hi hst hS hR
    obtain rfl : i = n := by omega
    refine codeAny_builtin F.entry_set_update_loop ?_
    rw [Around.under_plainId F.plain_set_update_loop _]
    show wpAny _ A.in1 (pyNext (.ref I) >>= _) _ _ s
    refine wpAny_bind (W.done s _ _ hst fun s' hm => ?_)
    show wpAny _ A.in1 (ret Value.none) _ _ s'
    rw [List.take_of_length_le (by omega)] at hS
    exact wpAny_pure (hR s' (hm.mono hsub) (hS.at fun o e => hm.heap S o hSw e))
  | succ k ih =>
    intro i s hk hi hst hS hR
    have hlt : i < n := by omega
    refine codeAny_builtin F.entry_set_update_loop ?_
    rw [Around.under_plainId F.plain_set_update_loop _]
    show wpAny _ A.in1 (pyNext (.ref I) >>= _) _ _ s
    refine wpAny_bind (W.item i s _ _ hlt hst fun v s' hP hst' hm => ?_)
    obtain ⟨z, t, hz, rfl⟩ := hval i v hP
    have hS' : TxR P w s'.heap S (distS (xs.take i)) := hS.at fun o e => hm.heap S o hSw e
    have hl := distS_len (xs.take i)
    rw [List.length_take] at hl
    show wpAny _ A.in1 (holding [Value.str z t] (setAdd S (.str z t)) >>= _) _ _ s'
    refine wpAny_bind (wpAny_holding ?_)
    unfold setAdd
    refine wpAny_holding (wpAny_bind ((PySem.strKind P w).pyHash (k := z) (strKind_is _ _ _ _) ?_))
    refine tx_add (s := { s' with toks := s'.toks + 1 }) hS' (by omega) fun b h' hsb hS2 => ?_
    rw [← distS_take hz] at hS2
    refine wpAny_pure ⟨plainId_quiet F.plain_set_update_loop _, ih (i + 1) _ (by omega) hlt (W.frame _ s' _ _ hst' (Nat.le_succ _) fun b hb o e => ?_) hS2 fun s'' hm'' hS'' => ?_⟩
    · rw [hsb.2 b (fun h : b = S => hSf (by rw [← h]; exact hb))]; exact e
    · refine hR s'' (Moved.trans W.gtrans ((hm.mono hsub).then_heap (Nat.le_succ _) fun b o hb e => ?_) hm'') hS''
      rw [hsb.2 b (fun h : b = S => hb (by rw [h]; exact List.mem_cons_self))]; exact e
theorem led0 {w : World} : w.params.followText "set-order" = true ∨ (!w.params.followText "set-order") = true := by
  cases w.params.followText "set-order"
  · exact .inr rfl
  · exact .inl rfl
theorem tx_fresh {h : Heap} {a : Addr} (ho : h.get? a = some (emptySet w)) : TxR P w h a [] :=
  ⟨_, #[], 0, _, ho, ⟨rfl, rfl, rfl⟩, rfl, { el := fun e he => by simp at he, pm := .nil, nd := .nil, sz := by decide, fits := rfl, ris := .nil, led := led0 }⟩
/-- __init__ of a fresh set, by a list of texts -/
theorem fill_listT {a l : Addr} {items : Array Value} (xs : List Str) {R : Result → Shared → Prop} (hh : A.handled = none) (ha : s.heap.get? a = some (emptySet w)) (hl : s.heap.IsList l items) (hal : a ≠ l) (hit : StrsAre items.toList xs) (hb : xs.length + 1 < scanBound)
    (h : ∀ (h' : Heap) (tk : Nat), TxR P w h' a (distS xs) → (∀ b o, b ≠ a → s.heap.get? b = some o → h'.get? b = some o) → R (.ok (.ret .none)) { s with heap := h', toks := tk }) :
    codeAny (model P w) A (.call (.builtin "set.__init__") ⟨[.ref a, .ref l], []⟩) R s := by
  have n0 : items.size = xs.length := by rw [← Array.length_toList]; exact hit.length
  refine codeAny_call_builtin F.called_set.init.plain F.entry_set_init (check_set_init_1 ⟨_, ha, rfl⟩ ?_)
  obtain ⟨⟨oc, od, odt, osl⟩, hol, hcl, nl, hdl⟩ := id hl
  simp only at hcl hdl
  subst hcl hdl
  have k1 := F.sub_list_set
  have k2 := F.sub_list_frozenset
  have k3 : (Value.type "list" == Value.type "dict") = false := by decide
  unfold Builtin.«set.__init__» noKeywords Builtin.Frozenset.updateFrom
  generalize hI : pyIter = I
  wp_walk
  subst hI
  refine wpAny_pyIter_list hl (wpAny_bind (wpAny_runValue ?_))
  have la : a < s.heap.objs.size := Heap.lt_size ha
  have nI : l ≠ s.heap.objs.size := Nat.ne_of_lt (Heap.lt_size hol)
  have na : a ∉ [s.heap.objs.size, l] := by
    simp only [List.mem_cons, List.not_mem_nil, or_false, not_or]
    exact ⟨Nat.ne_of_lt la, hal⟩
  have each : ∀ (i : Nat) (v : Value), items[i]? = some v → ∃ k t, xs[i]? = some k ∧ v = .str k t := fun i v hv => by
    have hi : i < xs.length := by rw [← n0]; exact (Array.getElem?_eq_some_iff.mp hv).1
    obtain ⟨t, e⟩ := SS.strs_at hit i v (by rw [Array.getElem?_toList]; exact hv)
    exact ⟨xs[i], t, List.getElem?_eq_getElem hi, by rw [e, List.getD_eq_getElem?_getD, List.getElem?_eq_getElem hi]; rfl⟩
  refine tx_update ((Walks.list (by simp [hh]) _ l nI items).toS) a na xs n0 hb each (items.size - 0) 0 _ (by omega) (Nat.zero_le _) ⟨⟨_, Heap.get?_push_size _ rfl, rfl, rfl⟩, hl.push _⟩ (tx_fresh (Heap.get?_push_of_some _ ha)) ?_
  intro s' hm hS
  obtain ⟨h', g', d', tk', os'⟩ := s'
  obtain rfl : g' = s.gens := hm.gens
  obtain rfl : d' = s.drawn := hm.drawn
  obtain rfl : os' = s.os := hm.os
  refine wpAny_pure (wpAny_pure (h h' tk' hS fun b o hba e => ?_))
  have hb0 : b < s.heap.objs.size := Heap.lt_size e
  exact hm.heap b o (by simp only [List.mem_cons, List.not_mem_nil, or_false, not_or]; exact ⟨hba, Nat.ne_of_lt hb0⟩) (Heap.get?_push_of_some _ e)
theorem call_set_listT {l : Addr} {items : Array Value} (xs : List Str) {Q : Value → Shared → Prop} (hh : A.handled = none) (hl : s.heap.IsList l items) (hit : StrsAre items.toList xs) (hb : xs.length + 1 < scanBound)
    (h : ∀ (h' : Heap) (tk : Nat), TxR P w h' s.heap.objs.size (distS xs) → (∀ b o, s.heap.get? b = some o → h'.get? b = some o) → Q (.ref s.heap.objs.size) { s with heap := h', toks := tk }) :
    wpAny (model P w) A (call (.type "set") [.ref l]) Q E s := by
  have lt0 : l < s.heap.objs.size := by
    obtain ⟨_, e, _⟩ := hl
    exact Heap.lt_size e
  have c1 := F.called_set.made
  have c2 := F.called_set.sub
  have c3 := F.called_set.notType
  have c4 := F.called_set.canCreate
  have c5 := F.typeCall_set_1 (.ref l)
  have c6 := F.called_set.init.lookup
  have c7 := F.called_set.init.bind (.ref s.heap.objs.size)
  obtain ⟨c, tl, c8⟩ := F.called_set.mro
  refine wpAny_call (codeAny_of_tree ?_)
  show wpAny _ _ (callAny (.type "set") _) _ _ _
  refine wpAny_pure ⟨Code.quiet_builtin _ (by decide +kernel), codeAny_builtin F.entry_type_call ?_⟩
  rw [Around.under_plain (weight_type_call_type "set" [.ref l] []) rfl]
  repeat (any_goals (first | assumption | wp_step))
  refine codeAny_mono (code_set_led1 (.ref l) (E := E) (Q₁ := fun v s1 => v = .ref s.heap.objs.size ∧ s1 = { s with heap := s.heap.push (emptySet w) }) ⟨rfl, rfl⟩) fun r s1 hr => ?_
  rcases r with e | f
  · exact hr
  rcases f with _ | v | _ | _
  case next => exact hr.elim
  case brk => exact hr.elim
  case cont => exact hr.elim
  obtain ⟨rfl, rfl⟩ := hr
  have sz1 : (s.heap.push (emptySet w)).objs.size = s.heap.objs.size + 1 := Heap.size_push ..
  have got : (s.heap.push (emptySet w)).get? s.heap.objs.size = some (emptySet w) := Heap.get?_push_size _ rfl
  have ty : Shared.TypeIs { s with heap := s.heap.push (emptySet w) } (.ref s.heap.objs.size) "set" := ⟨_, got, rfl⟩
  repeat (any_goals (first | assumption | wp_step))
  have hl1 : (s.heap.push (emptySet w)).IsList l items := hl.push _
  refine fill_listT (P := P) (w := w) xs (by simp [hh]) got hl1 (Nat.ne_of_gt lt0) hit hb fun h' tk hS hk => ?_
  refine wpAny_pure ?_
  repeat (any_goals (first | assumption | wp_step))
  exact h h' tk hS fun b o e => hk b o (Nat.ne_of_lt (Heap.lt_size e)) (Heap.get?_push_of_some _ e)
end
/-- the set of the texts l, at a -/
def SetX (P : Program) (w : World) (a : Addr) (l : List Str) : HO := .ext fun h => TxR P w h a l
section
variable {X : Cx}
theorem setX_new {w : World} {P : Program} {H : Hp} {h : Heap} {a : Addr} {l : List Str} (R : TxR P w h a l) : ObjOk P w H h a (SetX P w a l) := by
  have ⟨o, _, _, _, ho, _⟩ := R
  exact ⟨R, ⟨o, ho⟩, fun h1 h2 p k => TxR.at p k⟩
theorem setX_get {pins : List (Addr × Obj)} {σ : St} {H : Hp} {s : Shared} {a : Addr} {l : List Str} (I : Inv X pins σ H s) (ha : H a = some (SetX X.prog X.w a l)) : TxR X.prog X.w s.heap a l := (I.hok a _ ha).1
/-- set(xs), xs a list of texts -/
def rSetOfT (K : PySem.W.Frag) (P : Program) (w : World) : List V → Hp → VK → Prop := fun vs H Q => ∃ (l : Addr) (xs : List Str), vs = [.ref l] ∧ SqL K H l (xs.map V.str) ∧ xs.length ≤ 1000 ∧
  ∀ (p : Addr), H p = none → Q (.ref p) (upd H p (SetX P w p (distS xs)))
theorem cr_setOfT (hc : X.calm = true) : CallR X (.type "set") (rSetOfT X.K X.prog X.w) := by
  intro pins s σ H vs us Q I r h
  obtain ⟨l, xs, rfl, hs, h10, q⟩ := h
  rw [Vals.ref1 r]
  obtain ⟨its, rv, pl, hz⟩ := I.list hs
  refine call_set_listT xs (I.ok.hd hc) pl.isList (by simpa using strsAre_of rv) (by unfold scanBound; omega) fun h' tk hS hk => ?_
  exact ⟨.ref _, _, I.laid (t' := tk) hk (Nat.le_refl _) (setX_new hS), rfl, q _ (I.hok.fresh (Nat.le_refl _))⟩
/-- sorted(the set of texts), fewer than 64 -/
def rSortedX (P : Program) (w : World) : List V → Hp → VK → Prop := fun vs H Q => ∃ (a : Addr) (l : List Str), vs = [V.ref a] ∧ H a = some (SetX P w a l) ∧ l.length < 64 ∧
  ∀ (ys : List Str) (p : Addr), ys.Perm l → ys.Nodup → sortedS ys = true → H p = none → Q (.ref p) (upd H p (.lst (ys.map V.str)))
theorem texts_of : ∀ (l : List Value), (∀ v ∈ l, ∃ k tk, v = Value.str k tk) → StrsAre l (l.map fun v => txOf (0, v))
  | [], _ => .nil
  | v :: r, h => by
    obtain ⟨k, tk, e⟩ := h v List.mem_cons_self
    have ih := texts_of r fun u hu => h u (List.mem_cons_of_mem _ hu)
    subst e
    exact .cons _ _ ih
theorem cr_sortedX (hc : X.calm = true) : CallR X (.builtin "sorted") (rSortedX X.prog X.w) := by
  intro pins s σ H vs us Q I r h
  obtain ⟨a, l, rfl, ha, h64, q⟩ := h
  obtain ⟨o, es, ep, t, ho, hex, hd, p⟩ := setX_get I ha
  rw [Vals.ref1 r]
  have hsz : es.size = l.length := p.len
  refine Calls.call_function_entry PyProof.Rows.kind_sorted PyProof.Rows.plain_sorted PyProof.Rows.entry_sorted (PyProof.Rows.args_sorted1 _) ?_
  unfold Builtin.«sorted»
  refine wpAny_bind (m := checkCount "sorted" 1 1 _) (wpAny_pure ?_)
  refine wpAny_bind (collect_set (A := X.A.in1) (I.ok.hd hc) ⟨o, ho, hex.1, hd⟩ p.fits p.sz p.ris p.led fun s1 us k1 hz g1 o1 pm => ?_)
  have hal : us.length = l.length := by rw [pm.length_eq, List.length_map, Array.length_toList, hsz]
  have hS0 := texts_of us fun v hv => by
    obtain ⟨e, he, q⟩ := List.mem_map.mp (pm.mem_iff.mp hv)
    obtain ⟨⟨x, hx, _⟩, _⟩ := p.el e he
    obtain ⟨tk, e1⟩ := Value.isStrOf_shape (x := x) (v := e.2) hx
    exact ⟨x, tk, by rw [← q]; exact e1⟩
  have pk : (us.map fun v => txOf (0, v)).Perm l := by
    refine List.Perm.trans ?_ p.pm
    have q := pm.map fun v => txOf (0, v)
    rw [List.map_map] at q
    exact q
  generalize (us.map fun v => txOf (0, v)) = ks at hS0 pk
  have hS : StrsAre us ks := hS0
  obtain ⟨h', g', d', tk, os'⟩ := s1
  obtain rfl : os' = s.os := o1
  refine wpAny_bind (wpAny_newList ?_ (by rw [hal, sizeLine_eq]; omega))
  have hoL : (h'.push (seqObj "list" us.toArray 0)).get? h'.objs.size = some (seqObj "list" us.toArray 0) := Heap.get?_push_size _ rfl
  refine wpAny_bind (wpAny_holding (wpAny_call_entry PyProof.Rows.slot_list_sort ⟨_, hoL, rfl⟩ PyProof.Rows.entry_list_sort
    (list_sort_treeK strKind_oneLt (s := { s with heap := h'.push (seqObj "list" us.toArray 0), gens := g', drawn := d', toks := tk }) hoL hS.keysOf (fun v₁ v₂ rest e => keyKind_strs (by rw [← e]; exact hS)) (by rw [hal]; exact h64) fun st' hp hs => ⟨_, rfl, ?_⟩)
    (PyProof.Rows.args_list_sort _)))
  obtain ⟨ys, e1, e2, e3⟩ := sorted_out_str hS hp hs
  obtain ⟨e', he'⟩ := PyProof.Rows.sortedHeap_at (vs := us) (out := (arrOf st').map (·.2)) hoL
  have pl : ys.Perm l := e2.trans pk
  have hlen : (ys.map V.str).length ≤ sizeLine := by
    rw [List.length_map, pl.length_eq]
    exact Nat.le_trans (Nat.le_of_lt h64) (by decide)
  have kk : ∀ b u, s.heap.get? b = some u → (sortedHeap (h'.push (seqObj "list" us.toArray 0)) h'.objs.size us ((arrOf st').map (·.2))).get? b = some u := fun b u e => by
    have e1 := k1 b u e
    have hb : b < h'.objs.size := Heap.lt_size e1
    rw [PyProof.Rows.sortedHeap_old (Nat.ne_of_lt hb) (by rw [size_push']; exact Nat.lt_succ_of_lt hb)]
    exact Heap.get?_push_of_some _ e1
  have hn : H h'.objs.size = none := I.hok.fresh hz
  obtain rfl : g' = s.gens := g1
  have J := I.call (ch := []) (g' := s.gens) (t' := tk) (d' := d') (Un.laid kk hz hn) (I.hok.laid kk hz
    (show ObjOk X.prog X.w _ _ _ (.lst (ys.map V.str)) from ⟨hlen, ((arrOf st').map (·.2)).toList, e', vals_of_strs e1, by rw [Array.toArray_toList]; exact he'⟩)) I.bare (fun _ z => nomatch z)
  exact wpAny_pure ⟨_, rfl, .ref h'.objs.size, _, J, rfl, q ys _ pl (pl.nodup_iff.mpr p.nd) e3 hn⟩
end
end L2

namespace VL
open PySem PySem.Spec PyProof.Rows L2
/-! ### sorted(set(texts)) -/
def M.sortSet (xs : List Str) : M (List Str) := fun Φ _ n => xs.length ≤ 1000 ∧ (distS xs).length < 64 ∧ ∀ ys : List Str, ys.Perm (distS xs) → ys.Nodup → sortedS ys = true → Φ ys n
theorem reps_strs' {G : Hp} : ∀ {xs : List Str} {vs : List V}, reps rStr xs vs G → vs = xs.map V.str
  | [], [], _ => rfl
  | x :: xs, v :: vs, h => by rw [List.map_cons, ← reps_strs' h.2, show v = .str x from h.1]
theorem reps_strs_of {G : Hp} : ∀ xs : List Str, reps rStr xs (xs.map V.str) G
  | [] => trivial
  | x :: xs => ⟨rfl, reps_strs_of xs⟩
section
variable {C : Cfg} {α β γ ρ : Type} {Rr : ρ → SL} {ps : List SL} {te ta tb : TE} {P : Program} {w : World}
theorem ve_sortSet {m : M (List Str)} (h : VE C te ps m (Fz (rLst rStr))) :
    VE C (tCB (rSortedX P w) (tCons (tCB (rSetOfT C.K P w) (tCons te tNil)) tNil)) ps (M.bind m fun xs => M.sortSet xs) (Ow (cLst rStr)) := by
  intro σ G W H n Q Φ Ψ e st hm k x
  refine h σ G W H n _ (fun xs n' => M.sortSet xs Φ Ψ n') Ψ e st hm ?_ x
  rintro xs n1 v G1 W1 H1 ⟨h1, h2, hΦ⟩ s1 t1 ⟨p, vs, rfl, h3, h4⟩ _
  have st1 := st.stp s1 t1
  have hv := reps_strs' h4
  subst hv
  refine ⟨p, xs, rfl, SqL.of (st1.gh _ _ h3), h1, fun q hq => ?_⟩
  refine ⟨q, distS xs, rfl, upd_same, h2, fun ys r pm nd so hr => ?_⟩
  have st2 := st1.more (same_upd (o := SetX P w q (distS xs)) hq)
  exact (k.stp s1).newO st2 (hΦ ys pm nd so) hr ⟨_, rfl, reps_strs_of ys⟩
/-! ### insert -/
def M.insert {α : Type} (xs : List α) (j : Int) (a : α) : M (List α) := fun Φ _ n => (xs.length < sizeLine ∧ 0 ≤ j ∧ j < 2 ^ 63) ∧ Φ (xs.take j.toNat ++ [a] ++ xs.drop j.toNat) n
def rInsert : V → List V → Hp → VK → Prop := fun x vs H Q => ∃ (l : Addr) (xs : List V) (i : Int) (y : V), x = .ref l ∧ vs = [.int i, y] ∧ H l = some (.lst xs) ∧ xs.length < sizeLine ∧ 0 ≤ i ∧ i < 2 ^ 63 ∧
    Q .non (upd H l (.lst (xs.take i.toNat ++ [y] ++ xs.drop i.toNat)))
theorem mt_ins {X : Cx} : MtR X "list.insert" rInsert := mt_insert
theorem vx_insert {R : α → VP} {xs : List α} {m : M α} {mj : M Int} {i : Nat} (hj : VE C ta ps mj (Fz rInt)) (he : VE C tb ps m (Fz R)) (hp : PxLe C.px ps) (hi : ps[i]? = some (.ow (cLst R xs)) := by rfl) :
    VX C (tBM C.K "list" rInsert (tVar i) (tCons ta (tCons tb tNil))) ps (M.bind mj fun j => M.bind m fun a => M.insert xs j a) (fun _ => .fr (rNon ())) (fun ys => ps.set i (.ow (cLst R ys))) := by
  intro σ G W H n Q Φ Ψ e st hm k x
  obtain ⟨p, vs, hσ, hw, hh, hg, hb, hr⟩ := own_get e st hi
  refine ⟨.ref p, hσ, .inl ⟨rfl, vs, SqL.of hh⟩, ?_⟩
  refine (vx_of hj hp) σ G W H n _ (fun j n => M.bind m (fun a => M.insert xs j a) Φ Ψ n) Ψ e st hm (fun j n1 v G1 W1 H1 hm1 g1 e1 st1 r1 _ => ?_) x
  refine (vx_of he hp) σ G1 W1 H1 n1 _ (fun a n => M.insert xs j a Φ Ψ n) Ψ e1 st1 hm1 (fun a n2 u G2 W2 H2 hm2 g2 e2 st2 r2 _ => ?_) x
  obtain ⟨⟨c1, c2, c3⟩, hΦ⟩ := hm2
  obtain ⟨q, us, hσ', hw', hh', hg', hb', hr'⟩ := own_get e2 st2 hi
  rw [hσ] at hσ'
  cases hσ'
  refine ⟨p, us, j, u, rfl, by rw [show v = .int j from r1], hh', by rw [hr'.len]; exact c1, c2, c3, ?_⟩
  have hx : reps R (xs.take j.toNat ++ [a] ++ xs.drop j.toNat) (us.take j.toNat ++ [u] ++ us.drop j.toNat) G2 := reps.app (reps.app (ys := [a]) (us := [u]) (hr'.take _) ⟨r2, trivial⟩) (hr'.drop _)
  exact k _ n2 .non G2 (upd W2 p (.lst (us.take j.toNat ++ [u] ++ us.drop j.toNat))) _ hΦ (g1.trans g2) (e2.putOwn hi hσ ⟨_, rfl, hx⟩) (st2.put hw' hg' hb') rfl fun c h => nomatch h
/-- append of what may change another slot -/
theorem vx_appendP {R : α → VP} {xs : List α} {m : M γ} {val : γ → α} {ψ : γ → List SL} {i : Nat} (he : VX C te ps m (fun q => .fr (R (val q))) ψ) (hi : ps[i]? = some (.ow (cLst R xs))) (f : γ → List α) (hi2 : ∀ a, (ψ a)[i]? = some (.ow (cLst R (f a)))) :
    VX C (tBM C.K "list" rAppend (tVar i) (tCons te tNil)) ps (M.bind m fun a => M.when ((f a).length < sizeLine) a) (fun _ => .fr (rNon ())) (fun a => (ψ a).set i (.ow (cLst R (f a ++ [val a])))) := by
  intro σ G W H n Q Φ Ψ e st hm k x
  obtain ⟨p, vs, hσ, hw, hh, hg, hb, hr⟩ := own_get e st hi
  refine ⟨.ref p, hσ, .inl ⟨rfl, vs, SqL.of hh⟩, ?_⟩
  refine he σ G W H n _ (fun a n' => M.when ((f a).length < sizeLine) a Φ Ψ n') Ψ e st hm (fun a n' v G' W' H' hΦ s e' st' r _ => ?_) x
  obtain ⟨q, us, hσ', hw', hh', hg', hb', hr'⟩ := own_get e' st' (hi2 a)
  rw [hσ] at hσ'
  cases hσ'
  refine ⟨p, us, v, rfl, rfl, hh', by rw [hr'.len]; exact hΦ.1, ?_⟩
  exact k a n' .non G' (upd W' p (.lst (us ++ [v]))) _ hΦ.2 s (e'.putOwn (hi2 a) hσ ⟨_, rfl, hr'.app ⟨r, trivial⟩⟩) (st'.put hw' hg' hb') rfl fun c h => nomatch h
/-! ### new lists: their address is none that stood at the start -/
def rNw (B : Hp) (R : α → VP) (a : α) : VP := ⟨fun v G => ∃ p, v = .ref p ∧ B p = none ∧ (R a).P v G, fun e ⟨p, h, h1, h2⟩ => ⟨p, h, h1, (R a).up e h2⟩⟩
theorem ve_new {R : α → VP} {m : M (List α)} (h : VE C te ps m (Ow (cLst R))) : VE C te ps m (Fz (rNw C.B (rLst R))) := by
  intro σ G W H n Q Φ Ψ e st hm k x
  refine h σ G W H n Q Φ Ψ e st hm ?_ x
  intro a n' v G' W' H' hΦ s t r f
  obtain ⟨p, o, rfl, h1, h2, h3, vs, rfl, hv⟩ := r
  have hw := f p rfl
  refine k a n' _ (upd G' p (.lst vs)) W' H' hΦ ⟨s.g.trans (same_upd h2), s.w, same_put s.gw h1, fun q x hq => ?_⟩ t ⟨p, rfl, h3, p, vs, rfl, upd_same, hv.up (same_upd h2)⟩ trivial
  by_cases z : q = p
  · subst z; exact .inr hw
  · rw [upd_ne z] at hq; exact s.ng q x hq
theorem nw_old {B : Hp} {R : α → VP} {a : α} {v : V} {G : Hp} (h : (rNw B R a).P v G) : (R a).P v G := let ⟨_, _, _, h⟩ := h; h
theorem reps_imp {R S : α → VP} {G : Hp} (h : ∀ a v, (R a).P v G → (S a).P v G) : ∀ {xs : List α} {vs : List V}, reps R xs vs G → reps S xs vs G
  | [], [], _ => trivial
  | _ :: _, _ :: _, k => ⟨h _ _ k.1, reps_imp h k.2⟩
theorem lst_imp {R S : α → VP} {G : Hp} (h : ∀ a v, (R a).P v G → (S a).P v G) {xs : List α} {v : V} (k : (rLst R xs).P v G) : (rLst S xs).P v G :=
  let ⟨p, vs, e, h1, h2⟩ := k; ⟨p, vs, e, h1, reps_imp h h2⟩
theorem nw_back {B B' : Hp} (e : Same B B') {R : α → VP} {a : α} {v : V} {G : Hp} (h : (rNw B' R a).P v G) : (rNw B R a).P v G := let ⟨p, h0, h1, h2⟩ := h; ⟨p, h0, e.free h1, h2⟩
end
end VL

namespace VL
open PySem PySem.Spec PyProof.Rows L2
section
variable {C : Cfg} {α β γ δ ρ : Type} {Rr : ρ → SL} {ps : List SL} {te ta tb : TE} {tt : TT} {t u : TS}
/-! ### what is never reached -/
def M.never {α : Type} : M α := fun _ _ _ => False
theorem sv_never {ψ : α → List SL} : SV C Rr tNever ps M.never ψ := fun _ _ _ _ _ _ _ _ _ _ h => h.elim
/-! ### two clauses -/
def M.comp2A {β δ γ : Type} (f : β → M (List δ)) (g : β → δ → M (Option γ)) : List γ → List β → M (List γ)
  | acc, [] => M.pure acc
  | acc, x :: r => M.bind (f x) fun ys => fun Q E n => ys.length ≤ 1000 ∧ M.bind (M.compA (g x) acc ys) (fun acc => M.comp2A f g acc r) Q E n
def M.comp2 {β δ γ : Type} (xs : List β) (f : β → M (List δ)) (g : β → δ → M (Option γ)) : M (List γ) := fun Q _ n => xs.length ≤ 1000 ∧ M.comp2A f g [] xs Q (fun _ _ => False) n
theorem wipe_idem {vs : List Nat} {σ : L2.St} : wipe (wipe σ vs) vs = wipe σ vs := by
  have sub : ∀ (us : List Nat), (∀ u ∈ us, u ∈ vs) → ∀ σ : L2.St, wipe (wipe σ us) vs = wipe σ vs := by
    intro us
    induction us with
    | nil => intro _ σ; rfl
    | cons u us ih =>
      intro h σ
      show wipe ((wipe σ us).set u none) vs = _
      rw [wipe_set (h u List.mem_cons_self)]
      exact ih (fun z hz => h z (List.mem_cons_of_mem _ hz)) σ
  exact sub vs (fun _ h => h) σ
theorem ow_set {i k : Nat} {p : VP} {c : CP} (h : (ps.set i (.fr p))[k]? = some (.ow c)) : ps[k]? = some (.ow c) := by
  rcases getElem_set h with ⟨_, h, _⟩ | ⟨_, h⟩
  · cases h
  · exact h
theorem size_big {n : Nat} (h : n ≤ 2000000) : n < sizeLine := Nat.lt_of_le_of_lt h (by decide)
theorem ve_lc2 {wi wi1 : TI} {g g1 : TG} {tt1 : TT} {vs vs1 js js1 : List Nat} {mi : M (List β)} {Rb : β → VP} {ψ : β → List SL} {mi1 : β → M (List δ)} {Rd : δ → VP} {χ : β → δ → List SL} {mt : β → δ → M Bool} {me : β → δ → M γ} {R : γ → VP}
    (hi : VI C wi ps mi Rb) (hv : ∀ k ∈ vs, ps[k]? = some .un) (hg : VG C g Rb ps ψ js) (hj : ∀ j ∈ js, j ∈ vs) (hψ : ∀ (b : β) (k : Nat) (c : CP), (ψ b)[k]? = some (SL.ow c) → ps[k]? = some (SL.ow c))
    (hi1 : ∀ b, VI C wi1 (ψ b) (mi1 b) Rd) (hv1 : ∀ b, ∀ k ∈ vs1, (ψ b)[k]? = some .un) (hg1 : ∀ b, VG C g1 Rd (ψ b) (χ b) js1) (hj1 : ∀ j ∈ js1, j ∈ vs1)
    (ht : ∀ b d, VT C tt1 (χ b d) (mt b d)) (he : ∀ b d, VE C te (χ b d) (me b d) (Fz R)) :
    VE C (tLc2 wi g tYes wi1 g1 tt1 te vs vs1) ps (M.bind mi fun xs => M.comp2 xs mi1 fun b d => M.bind (mt b d) fun c => M.ite c (M.bind (me b d) fun y => M.pure (some y)) (M.pure none)) (Ow (cLst R)) := by
  intro σ G W H n Q Φ Ψ e st hm k x
  let f : β → δ → M (Option γ) := fun b d => M.bind (mt b d) fun c => M.ite c (M.bind (me b d) fun y => M.pure (some y)) (M.pure none)
  refine hi σ G W H n _ (fun xs n' => M.comp2 xs mi1 f Φ Ψ n') Ψ e st hm ?_ x
  rintro xs n1 J G1 W1 H1 ⟨hlen, hc⟩ s1 t1 wk D hD
  have st1 := st.stp s1 t1
  have hW1 := st1.wfree hD
  have noG : ∀ {Ga Wa Gb Wb : Hp} {us : List V}, Ga D = none → Wa D = some (.lst us) → Stp Ga Wa Gb Wb → Gb D = none := fun {Ga Wa Gb Wb us} h1 h2 s => by
    cases z : Gb D with
    | none => rfl
    | some u =>
      rcases s.ng _ _ z with h | h
      · rw [h1] at h; cases h
      · rw [h2] at h; cases h
  let I : Nat → Hp → Prop := fun i H => i ≤ xs.length ∧ ∃ G' W' n acc us, Stp G1 W1 G' W' ∧ Stt C n G' W' H ∧ W' D = some (.lst us) ∧ G' D = none ∧ reps R acc us G' ∧ acc.length ≤ i * 1000 ∧ M.comp2A mi1 f acc (xs.drop i) Φ (fun _ _ => False) n
  refine ⟨fun i m H => m = xs.length - i ∧ I i H, ⟨xs.length, by simp, Nat.zero_le _, G1, upd W1 D (.lst []), n1, [], [], Stp.newO st1 hD, st1.stp (Stp.newO st1 hD) (st1.newT hD), upd_same, st1.gfree hD, trivial, Nat.zero_le _, hc⟩, ?_⟩
  rintro i m H2 ⟨rfl, hi2, G2, W2, n2, acc, us, s2, st2, hD2, hG2, hr, hal, hm2⟩
  by_cases hlt : i < xs.length
  · refine .inr ⟨wk.goes i n2 G2 W2 H2 hlt st2 s2.g, I (i + 1), fun H' p => ⟨xs.length - (i + 1), by omega, rfl, p⟩, fun v H' y => ?_⟩
    obtain ⟨b, G3, W3, hb, s3, t3, r3⟩ := wk.yields i n2 G2 W2 H2 v H' hlt st2 s2.g y
    have st3 := st2.stp s3 t3
    have hdrop : xs.drop i = b :: xs.drop (i + 1) := by
      obtain ⟨h1, h2⟩ := List.getElem?_eq_some_iff.mp hb
      rw [← h2]; exact List.drop_eq_getElem_cons h1
    rw [hdrop] at hm2
    have e3 : Ee C.B ps (wipe σ vs) G3 W3 := ((e.stp (s1.trans (s2.trans s3)))).wipe hv
    refine hg b v (wipe σ vs) G3 W3 H' n2 _ e3 st3 r3 fun σ2 e4 hw => ?_
    refine ⟨by rw [hw vs hj]; exact wipe_idem, ?_⟩
    refine iteT (B := I (i + 1) H') (hi1 b σ2 G3 W3 H' n2 _ (fun ys n' => ys.length ≤ 1000 ∧ M.bind (M.compA (f b) acc ys) (fun acc => M.comp2A mi1 f acc (xs.drop (i + 1))) Φ (fun _ _ => False) n') (fun _ _ => False) e4 st3 hm2 ?_ xt_no)
    rintro ys n4 J1 G4 W4 H4 ⟨hlen4, hm4⟩ s4 t4 wk1
    have st4 := st3.stp s4 t4
    have s24 := s2.trans (s3.trans s4)
    have hD3 := s3.w _ _ hD2
    have hG3 := noG hG2 hD2 s3
    have hD4 := s4.w _ _ hD3
    have hG4 := noG hG3 hD3 s4
    let I1 : Nat → Hp → Prop := fun j H => j ≤ ys.length ∧ ∃ G' W' n acc' us', Stp G1 W1 G' W' ∧ Stt C n G' W' H ∧ W' D = some (.lst us') ∧ G' D = none ∧ Same G4 G' ∧ Ee C.B (ψ b) (wipe σ2 vs1) G' W' ∧ reps R acc' us' G' ∧ acc'.length ≤ i * 1000 + j ∧ M.bind (M.compA (f b) acc' (ys.drop j)) (fun acc => M.comp2A mi1 f acc (xs.drop (i + 1))) Φ (fun _ _ => False) n
    have e44 : Ee C.B (ψ b) (wipe σ2 vs1) G4 W4 := (e4.stp s4).wipe (hv1 b)
    refine ⟨fun j m H => m = ys.length - j ∧ I1 j H, ⟨ys.length, by simp, Nat.zero_le _, G4, W4, n4, acc, us, s24, st4, hD4, hG4, Same.refl _, e44, hr.up (s3.trans s4).g, by omega, hm4⟩, ?_⟩
    rintro j m5 H5 ⟨rfl, hj5, G5, W5, n5, acc5, us5, s5, st5, hD5, hG5, g45, e5, hr5, hal5, hm5⟩
    by_cases hlt5 : j < ys.length
    · refine .inr ⟨wk1.goes j n5 G5 W5 H5 hlt5 st5 g45, I1 (j + 1), fun H' p => ⟨ys.length - (j + 1), by omega, rfl, p⟩, fun v6 H6 y6 => ?_⟩
      obtain ⟨d, G6, W6, hd, s6, t6, r6⟩ := wk1.yields j n5 G5 W5 H5 v6 H6 hlt5 st5 g45 y6
      have st6 := st5.stp s6 t6
      have hdrop6 : ys.drop j = d :: ys.drop (j + 1) := by
        obtain ⟨h1, h2⟩ := List.getElem?_eq_some_iff.mp hd
        rw [← h2]; exact List.drop_eq_getElem_cons h1
      rw [hdrop6] at hm5
      refine hg1 b d v6 (wipe σ2 vs1) G6 W6 H6 n5 _ (e5.stp s6) st6 r6 fun σ3 e6 hw6 => ?_
      refine ⟨by rw [hw6 vs1 hj1]; exact wipe_idem, ?_⟩
      refine ht b d σ3 G6 W6 H6 n5 _ (fun c n' => M.ite c (M.bind (me b d) fun y => M.pure (some y)) (M.pure none) (fun o n' => M.compA (f b) (acc5 ++ o.toList) (ys.drop (j + 1)) (fun acc n => M.comp2A mi1 f acc (xs.drop (i + 1)) Φ (fun _ _ => False) n) (fun _ _ => False) n') (fun _ _ => False) n') (fun _ _ => False) e6 st6 hm5 (fun c n7 G7 W7 H7 hm7 s7 t7 => ?_) xt_no
      have st7 := st6.stp s7 t7
      have s57 := s5.trans (s6.trans s7)
      have hD7 := s7.w _ _ (s6.w _ _ hD5)
      have hG7 : G7 D = none := noG hG5 hD5 (s6.trans s7)
      have e57 := e5.stp (s6.trans s7)
      cases c with
      | false =>
        refine iteF ⟨by omega, G7, W7, n7, acc5, us5, s57, st7, hD7, hG7, g45.trans (s6.trans s7).g, e57, hr5.up (s6.trans s7).g, by omega, ?_⟩
        have hm7 : M.compA (f b) (acc5 ++ (none : Option γ).toList) (ys.drop (j + 1)) (fun acc n => M.comp2A mi1 f acc (xs.drop (i + 1)) Φ (fun _ _ => False) n) (fun _ _ => False) n7 := hm7
        rw [show (none : Option γ).toList = [] from rfl, List.append_nil] at hm7
        exact hm7
      | true =>
        refine iteT (he b d σ3 G7 W7 H7 n7 _ (fun y n' => M.compA (f b) (acc5 ++ (some y).toList) (ys.drop (j + 1)) (fun acc n => M.comp2A mi1 f acc (xs.drop (i + 1)) Φ (fun _ _ => False) n) (fun _ _ => False) n') (fun _ _ => False) (e6.stp s7) st7 hm7 (fun y n8 u8 G8 W8 H8 hm8 s8 t8 r8 _ => ?_) xt_no)
        have st8 := st7.stp s8 t8
        have hD8 := s8.w _ _ hD7
        have hG8 : G8 D = none := noG hG7 hD7 s8
        have hr8 := hr5.up ((s6.trans s7).trans s8).g
        have hB : C.B D = none := st1.bw.free hW1
        have e8 : Ee C.B (ψ b) (wipe σ2 vs1) G8 (upd W8 D (.lst (us5 ++ [u8]))) := by
          have e8' := e57.stp s8
          refine ⟨e8'.len, fun {k t} h n => ?_, e8'.sep⟩
          obtain ⟨v, hv', r⟩ := e8'.at_ h n
          refine ⟨v, hv', ?_⟩
          cases t with
          | un => trivial
          | fr _ => exact r
          | bo _ => exact r
          | ow c =>
            obtain ⟨a, o, ea, h1, h2, h3, h4⟩ := r
            refine ⟨a, o, ea, ?_, h2, h3, h4⟩
            rw [upd_ne]
            · exact h1
            · rintro rfl
              obtain ⟨v0, hv0, a0, o0, ea0, hw0, _⟩ := e4.at_ (i := k) (s := .ow c) h n
              have hk : k ∉ vs1 := fun hk => by
                have h7 := hv1 b k hk
                have h8 : (ψ b)[k]? = some (.ow c) := h
                rw [h7] at h8; cases h8
              have hne : ∀ (us : List Nat) (σ : L2.St), k ∉ us → (wipe σ us)[k]? = σ[k]? := by
                intro us
                induction us with
                | nil => intro σ _; rfl
                | cons z us ih =>
                  intro σ hz
                  have hz1 : z ≠ k := fun q => hz (by rw [q]; exact List.mem_cons_self)
                  show ((wipe σ us).set z none)[k]? = _
                  rw [List.getElem?_set_ne hz1]
                  exact ih _ fun q => hz (List.mem_cons_of_mem _ q)
              rw [hne vs1 σ2 hk, hv0] at hv'
              cases hv'
              cases ea0
              cases ea
              have hp := hψ b k c h
              obtain ⟨v1, hv1', a1, o1, ea1, hw1, _⟩ := e.at_ (i := k) (s := .ow c) hp n
              have hk2 : k ∉ vs := fun q => by
                have h7 := hv k q
                rw [h7] at hp; cases hp
              have h5 : (wipe σ2 vs)[k]? = (wipe σ vs)[k]? := by rw [hw vs hj, wipe_idem]
              rw [hne vs σ2 hk2, hne vs σ hk2, hv0, hv1'] at h5
              injection h5 with h5; injection h5 with h5
              rw [ea1] at h5
              injection h5 with h5
              subst h5
              rw [s1.w _ _ hw1] at hW1
              cases hW1
        refine ⟨us5, st8.wh _ _ hD8, size_big ?_, by omega, G8, upd W8 D (.lst (us5 ++ [u8])), n8, acc5 ++ [y], us5 ++ [u8], (s57.trans s8).put hW1 hG8, st8.put hD8 hG8 hB, upd_same, hG8, g45.trans ((s6.trans s7).trans s8).g, e8, hr8.app ⟨r8, trivial⟩, by rw [List.length_append]; simp only [List.length_cons, List.length_nil]; omega, hm8⟩
        rw [hr5.len]; omega
    · have hj6 : j = ys.length := by omega
      subst hj6
      rw [List.drop_length] at hm5
      refine .inl ⟨wk1.stops n5 G5 W5 H5 st5 g45, by omega, G5, W5, n5, acc5, us5, s5, st5, hD5, hG5, hr5, by omega, hm5⟩
  · have hi3 : i = xs.length := by omega
    subst hi3
    rw [List.drop_length] at hm2
    exact .inl ⟨wk.stops n2 G2 W2 H2 st2 s2.g, k acc n2 _ G2 W2 H2 hm2 (s1.trans s2) st2.t ⟨D, _, rfl, hD2, hG2, st1.bw.free hW1, us, rfl, hr⟩ fun q eq => by cases eq; exact s1.w.free hW1⟩
end
end VL

namespace VL
open PySem PySem.Spec PyProof.Rows L2
/-! ### instances of an own class -/
def SL.isF : SL → Bool | .un => true | .fr _ => true | _ => false
theorem isF_no {ps : List SL} (h : ps.all SL.isF = true) : ∀ (j : Nat) (c : CP), ps[j]? ≠ some (SL.ow c) := fun j c e => by
  have := List.all_eq_true.mp h _ (List.mem_of_getElem? e)
  cases this
theorem isF_nb {ps : List SL} (h : ps.all SL.isF = true) : ∀ (j : Nat) (c : VP), ps[j]? ≠ some (SL.bo c) := fun j c e => by
  have := List.all_eq_true.mp h _ (List.mem_of_getElem? e)
  cases this
/-- an instance of the class at Cl with these attributes and no other -/
def InsP (Cl : Addr) (fl : List (Str × VP)) (o : HO) (G : Hp) : Prop := ∃ dx fs, o = .ins Cl dx fs ∧ (∀ q ∈ fl, ∃ u, fs.lookup q.1 = some u ∧ q.2.P u G) ∧ (∀ f, (∀ q ∈ fl, q.1 ≠ f) → fs.lookup f = none) ∧ fs.length ≤ fl.length
theorem InsP.up {Cl : Addr} {fl : List (Str × VP)} {o : HO} {G G' : Hp} (e : Same G G') (h : InsP Cl fl o G) : InsP Cl fl o G' :=
  let ⟨dx, fs, e1, h1, h2, h3⟩ := h; ⟨dx, fs, e1, fun q hq => let ⟨u, a, b⟩ := h1 q hq; ⟨u, a, q.2.up e b⟩, h2, h3⟩
def cIns (Cl : Addr) (fl : List (Str × VP)) : CP := ⟨InsP Cl fl, fun e h => h.up e⟩
def rIns (Cl : Addr) (fl : List (Str × VP)) : VP := ⟨fun v G => ∃ p o, v = .ref p ∧ G p = some o ∧ InsP Cl fl o G, fun e ⟨p, o, h, h1, h2⟩ => ⟨p, o, h, e _ _ h1, h2.up e⟩⟩
section
variable {C : Cfg} {α β γ δ ρ : Type} {Rr : ρ → SL} {ps : List SL} {te ta tb : TE} {tt : TT} {t u : TS} {Cl : Addr} {f : Str}
theorem ve_frI {fl : α → List (Str × VP)} {m : M α} (h : VE C te ps m (Ow fun a => cIns Cl (fl a))) : VE C te ps m (Fz fun a => rIns Cl (fl a)) :=
  ve_fr (α := Unit) (c := fun a => cIns Cl (fl a)) (R := fun a => rIns Cl (fl a)) h fun a p o G hc hp => ⟨p, o, rfl, upd_same, hc.up (same_upd hp)⟩
/-- o.f, an attribute -/
theorem ve_fld {fl : α → List (Str × VP)} {R : β → VP} (g : α → β) {m : M α} (h : VE C te ps m (Fz fun a => rIns Cl (fl a))) (c : Cls C.K Cl) (na : NoAttr C.K Cl f) (hf : ∀ a, (f, R (g a)) ∈ fl a) :
    VE C (tFld C.K te f) ps (M.bind m fun a => M.pure (g a)) (Fz R) := by
  intro σ G W H n Q Φ Ψ e st hm k x
  refine h σ G W H n _ (fun a n' => Φ (g a) n') Ψ e st hm ?_ x
  rintro a n1 v G1 W1 H1 h1 s1 t1 ⟨p, o, rfl, h2, dx, fs, rfl, h3, _, _⟩ _
  have st1 := st.stp s1 t1
  obtain ⟨u, hu, hr⟩ := h3 _ (hf a)
  exact ⟨p, Cl, dx, fs, u, rfl, st1.gh _ _ h2, c, na, hu, (k.stp s1).hereF st1 h1 hr⟩
/-- .. of the instance that a slot owns -/
theorem ve_fldO {fl : List (Str × VP)} {R : β → VP} {b : β} {i : Nat} (hi : ps[i]? = some (.ow (cIns Cl fl))) (c : Cls C.K Cl) (na : NoAttr C.K Cl f) (hf : (f, R b) ∈ fl) :
    VE C (tFld C.K (tVar i) f) ps (M.pure b) (Fz R) := by
  intro σ G W H n Q Φ Ψ e st hm k x
  obtain ⟨v, hσ, p, o, rfl, hw, hg, hb, dx, fs, rfl, h3, _, _⟩ := e.at_ hi (by simp)
  obtain ⟨u, hu, hr⟩ := h3 _ hf
  exact ⟨.ref p, hσ, p, Cl, dx, fs, u, rfl, st.wh _ _ hw, c, na, hu, k.hereF st hm hr⟩
/-- o.f, a property -/
theorem ve_prop {fl : α → List (Str × VP)} {F : α × Unit → M β} {Rr : β → SL} {E : XK} {m : M α} {Rs : α × Unit → List VP} (h : VE C te ps m (Fz fun a => rIns Cl (fl a))) (hR : ∀ a, Rs a = [rIns Cl (fl a.1)] := by intro _; rfl) (hr : ∀ b p, Rr b ≠ .bo p := by intro _ _ h; cases h) :
    VE C (tProp Cl (spG C.mg C.K C.TB Rs F Rr) [] E te) ps (M.bind m fun a => M.nox (F (a, ()))) Rr := by
  intro σ G W H n Q Φ Ψ e st hm k x
  refine h σ G W H n _ (fun a n' => M.nox (F (a, ())) Φ Ψ n') Ψ e st hm ?_ x
  rintro a n1 v G1 W1 H1 hm1 s1 t1 r1 _
  have r0 := r1
  obtain ⟨p, o, rfl, h2, dx, fs, rfl, _⟩ := r1
  have st1 := st.stp s1 t1
  refine ⟨p, dx, fs, rfl, st1.gh _ _ h2, C.Θ, (a, ()), G1, W1, n1, Φ, fun _ _ => False, by rw [hR]; exact .cons r0 .nil, st1.gw, st1.t, hm1, fun b n2 v G2 W2 H2 hΦ s2 t2 r2 f2 => ?_, fun _ _ _ _ _ _ _ h => h.elim⟩
  exact (k.stp s1) b n2 v G2 W2 H2 hΦ s2 t2 (res_call st1.bw r2 (hr b)) f2
/-- o.m(..) -/
theorem ve_meth {fl : α → List (Str × VP)} {Ra : β → List VP} {F : α × β → M γ} {Rr : γ → SL} {E : XK} {m : M α} {mb : M β} {Rs : α × β → List VP} {t : TA} (h : VE C te ps m (Fz fun a => rIns Cl (fl a))) (ha : VA C t ps mb Ra) (hR : ∀ q, Rs q = rIns Cl (fl q.1) :: Ra q.2 := by intro _; rfl)
    (hn : ∀ a, ∀ q ∈ fl a, q.1 ≠ f) (hr : ∀ b p, Rr b ≠ .bo p := by intro _ _ h; cases h) :
    VE C (tMeth Cl f (spG C.mg C.K C.TB Rs F Rr) [] E te t) ps (M.bind m fun a => M.bind mb fun b => M.nox (F (a, b))) Rr := by
  intro σ G W H n Q Φ Ψ e st hm k x
  refine h σ G W H n _ (fun a n' => M.bind mb (fun b => M.nox (F (a, b))) Φ Ψ n') Ψ e st hm ?_ x
  rintro a n1 v G1 W1 H1 hm1 s1 t1 r1 _
  have r0 := r1
  obtain ⟨p, o, rfl, h2, dx, fs, rfl, _, h4, _⟩ := r1
  have st1 := st.stp s1 t1
  refine ⟨p, dx, fs, rfl, st1.gh _ _ h2, h4 _ (hn a), ?_⟩
  refine ha σ G1 W1 H1 n1 _ (fun b n' => M.nox (F (a, b)) Φ Ψ n') Ψ (e.stp s1) st1 hm1 (fun b n2 vs G2 W2 H2 hm2 s2 t2 r2 => ?_) (x.stp s1)
  have st2 := st1.stp s2 t2
  rw [List.append_nil]
  refine ⟨C.Θ, (a, b), G2, W2, n2, Φ, fun _ _ => False, by rw [hR]; exact .cons ((rIns Cl (fl a)).up s2.g r0) r2, st2.gw, st2.t, hm2, fun c n3 v G3 W3 H3 hΦ s3 t3 r3 f3 => ?_, fun _ _ _ _ _ _ _ h => h.elim⟩
  exact (k.stp (s1.trans s2)) c n3 v G3 W3 H3 hΦ s3 t3 (res_call st2.bw r3 (hr c)) f3
end
/-! ### making -/
def del (W : Hp) (x : Addr) : Hp := fun q => if q = x then none else W q
theorem del_ne {W : Hp} {x q : Addr} (h : q ≠ x) : del W x q = W q := if_neg h
theorem del_at {W : Hp} {x : Addr} : del W x x = none := if_pos rfl
theorem del_sub {W : Hp} {x : Addr} : Same (del W x) W := fun q o h => by
  by_cases z : q = x
  · subst z; rw [del_at] at h; cases h
  · rwa [del_ne z] at h
theorem del_none {W : Hp} {x q : Addr} (h : W q = none) : del W x q = none := del_sub.free h
section
variable (mg : Str → Option Value) (K : PySem.W.Frag) (TB : List (Addr × Str))
/-- __init__: x the new instance -/
def spI {α β : Type} (Cl : Addr) (Rs : α → List VP) (F : α → M β) (c : β → CP) : Sp := fun vs H Q E =>
  ∃ (Θ : Th TB) (a : α) (x dx : Addr) (us : List V) (G W : Hp) (n : Nat) (Φ : β → Nat → Prop) (Ψ : Exc → Nat → Prop), vs = .ref x :: us ∧ RepL (Rs a) us G ∧ Same G W ∧ W x = none ∧ Θ.T n (upd W x (.ins Cl dx [])) H ∧ F a Φ Ψ n ∧
    Kt ⟨TB, Θ, mg, K, W, G, fun _ => E, []⟩ (Ow c) G W (fun v H' => v = .ref x → Q .non H') Φ ∧ Xt ⟨TB, Θ, mg, K, W, G, fun _ => E, []⟩ [] G W Ψ
end
theorem spI_len {mg : Str → Option Value} {K : PySem.W.Frag} {TB : List (Addr × Str)} {α β : Type} {Cl : Addr} {Rs : α → List VP} {F : α → M β} {c : β → CP} {p : Str} {ps : List Str} (h : ∀ a, (Rs a).length = ps.length := by intro _; rfl) : ∀ vs H Q E, spI mg K TB Cl Rs F c vs H Q E → vs.length = (p :: ps).length := by
  rintro vs H Q E ⟨_, a, x, dx, us, _, _, _, _, _, rfl, r, _⟩
  rw [List.length_cons, List.length_cons, r.len, h]
section
variable {C : Cfg} {α β γ δ : Type} {ps : List SL} {Cl : Addr}
/-- C(..) -/
theorem ve_make {Rs : α → List VP} {F : α → M β} {c : β → CP} {m : M α} {E : XK} {t : TA} (ha : VA C t ps m Rs) : VE C (tMake Cl (spI C.mg C.K C.TB Cl Rs F c) [] E t) ps (M.bind m fun a => M.nox (F a)) (Ow c) := by
  intro σ G W H n Q Φ Ψ e st hm k x
  refine ha σ G W H n _ (fun a n' => M.nox (F a) Φ Ψ n') Ψ e st hm (fun a n1 vs G1 W1 H1 hm1 s1 t1 r1 => ?_) x
  have st1 := st.stp s1 t1
  intro y dx hy hdx hne
  rw [List.append_nil]
  have hW : W1 y = none := st1.wfree hy
  have sH : Same H1 (upd (upd H1 dx (.own y)) y (.ins Cl dx [])) := fun q o h => by
    rw [upd_ne (ne_of_none h hy), upd_ne (ne_of_none h hdx)]; exact h
  have t2 : C.Θ.T n1 (upd W1 y (.ins Cl dx [])) (upd (upd H1 dx (.own y)) y (.ins Cl dx [])) :=
    C.Θ.ext st1.t sH (same_upd hW) fun q o h => by
      by_cases z : q = y
      · subst z; rw [upd_same] at h ⊢; exact .inr ⟨hy, h, by cases h; exact ⟨(fun _ h => nomatch h), (fun _ h => nomatch h)⟩⟩
      · rw [upd_ne z] at h; exact .inl h
  refine ⟨C.Θ, a, y, dx, vs, G1, W1, n1, Φ, fun _ _ => False, rfl, r1, st1.gw, hW, t2, hm1, fun b n2 v G2 W2 H2 hΦ s2 t3 r2 f2 => ?_, fun _ _ _ _ _ _ _ h => h.elim⟩
  rintro rfl
  exact ⟨rfl, (k.stp s1) b n2 _ G2 W2 H2 hΦ s2 t3 (res_call st1.bw r2 fun p h => nomatch h) f2⟩
/-- the last part of an __init__: x is filled -/
def SF (C : Cfg) (Cl x : Addr) {γ : Type} (ts : TS) (ps : List SL) (fl : List (Str × VP)) (m : M γ) (fl' : γ → List (Str × VP)) : Prop :=
  ∀ (D : Ends) (σ : L2.St) G W H n Φ o, Ee C.B ps σ G W → Stt C n G W H → W x = some o → G x = none → InsP Cl fl o G → m Φ (fun _ _ => False) n →
    (∀ d n' σ' G' W' H' o', Φ d n' → Stp G (del W x) G' W' → Stt C n' G' W' H' → W' x = some o' → G' x = none → InsP Cl (fl' d) o' G' → D.nx σ' H') → ts D σ H
theorem stp_del {G W G' W' : Hp} {x : Addr} (s : Stp G W G' W') : Stp G (del W x) G' W' :=
  ⟨s.g, del_sub.trans s.w, s.gw, fun q o h => (s.ng q o h).imp id del_none⟩
theorem sf_one {te : TE} {f : Str} {x : Addr} {fl : List (Str × VP)} {m : M α} {R : α → VP} (hB : C.B = fun _ => none) (hps : ps[0]? = some (.fr ⟨fun v _ => v = .ref x, fun _ h => h⟩)) (hall : ps.all SL.isF = true)
    (he : VE C te (ps.set 0 (.ow (cIns Cl fl))) m (Fz R)) (c : Cls C.K Cl) (na : NoAttr C.K Cl f) (nf : ∀ q ∈ fl, q.1 ≠ f) (hl : fl.length < 1000) :
    SF C Cl x (sFld C.K (tVar 0) te f) ps fl m (fun a => fl ++ [(f, R a)]) := by
  intro D σ G W H n Φ o e st hw hg hi hm k
  have hno := isF_no hall
  obtain ⟨v0, hσ, hv0⟩ := e.at_ hps (by simp)
  have hv0 : v0 = .ref x := hv0
  subst hv0
  have no' : ∀ {i : Nat} {d : CP}, (ps.set 0 (.ow (cIns Cl fl)))[i]? = some (.ow d) → i = 0 := fun {i d} h => by
    rcases getElem_set h with ⟨e, _, _⟩ | ⟨_, h⟩
    · exact e
    · exact absurd h (hno i d)
  have e0 : Ee C.B (ps.set 0 (.ow (cIns Cl fl))) σ G W := by
    refine ⟨by rw [List.length_set]; exact e.len, fun {i s} h n => ?_, fun {i j c d a} hij h1 h2 _ _ => absurd ((no' h1).trans (no' h2).symm) hij⟩
    rcases getElem_set h with ⟨rfl, rfl, _⟩ | ⟨_, h⟩
    · exact ⟨_, hσ, x, o, rfl, hw, hg, by rw [hB], hi⟩
    · exact e.at_ h n
  refine he σ G W H n _ Φ (fun _ _ => False) e0 st hm (fun a n1 v G1 W1 H1 hΦ s1 t1 r1 _ => ?_) fun _ _ _ _ _ _ _ h => h.elim
  have st1 := st.stp s1 t1
  have hw1 := s1.w _ _ hw
  have hg1 : G1 x = none := by
    cases z : G1 x with
    | none => rfl
    | some u =>
      rcases s1.ng _ _ z with h | h
      · rw [hg] at h; cases h
      · rw [hw] at h; cases h
  obtain ⟨dx, fs, rfl, h3, h4, h5⟩ := hi.up s1.g
  refine ⟨.ref x, hσ, x, Cl, dx, fs, rfl, st1.wh _ _ hw1, c, na, by omega, ?_⟩
  have st2 : Stt C n1 G1 (upd W1 x (.ins Cl dx (putF f v fs))) (upd H1 x (.ins Cl dx (putF f v fs))) := st1.put hw1 hg1 (by rw [hB])
  refine k a n1 σ G1 _ _ _ hΦ ⟨s1.g, fun q u h => ?_, st2.gw, fun q u h => (s1.ng q u h).imp id del_none⟩ st2 upd_same hg1 ⟨dx, _, rfl, fun q hq => ?_, fun g hg => ?_, ?_⟩
  · have hq : q ≠ x := fun z => by subst z; rw [del_at] at h; cases h
    rw [del_ne hq] at h
    rw [upd_ne hq]; exact s1.w _ _ h
  · rcases List.mem_append.mp hq with hq | hq
    · obtain ⟨u, hu, hr⟩ := h3 q hq
      exact ⟨u, by rw [lookup_putF, if_neg (nf q hq)]; exact hu, hr⟩
    · rw [List.mem_singleton.mp hq]
      exact ⟨v, by rw [lookup_putF, if_pos rfl], r1⟩
  · rw [lookup_putF, if_neg (fun z => hg (f, R a) (by simp) z.symm)]
    exact h4 g fun q hq => hg q (List.mem_append_left _ hq)
  · have := length_putF f v fs
    rw [List.length_append, List.length_singleton]; omega
theorem sf_seq {x : Addr} {te : TE} {f : Str} {fl : List (Str × VP)} {m : M α} {R : α → VP} {u : TS} {mb : α → M β} {fl' : β → List (Str × VP)} (hB : C.B = fun _ => none) (hG : C.G0 = fun _ => none) (hps : ps[0]? = some (.fr ⟨fun v _ => v = .ref x, fun _ h => h⟩)) (hall : ps.all SL.isF = true)
    (he : VE C te (ps.set 0 (.ow (cIns Cl fl))) m (Fz R)) (c : Cls C.K Cl) (na : NoAttr C.K Cl f) (nf : ∀ q ∈ fl, q.1 ≠ f) (hl : fl.length < 1000) (h2 : ∀ a, SF C Cl x u ps (fl ++ [(f, R a)]) (mb a) fl') :
    SF C Cl x (tSeq (sFld C.K (tVar 0) te f) u) ps fl (M.bind m mb) fl' := by
  intro D σ G W H n Φ o e st hw hg hi hm k
  have hno := isF_no hall
  obtain ⟨v0, hσ, hv0⟩ := e.at_ hps (by simp)
  have hv0 : v0 = .ref x := hv0
  subst hv0
  have no' : ∀ {i : Nat} {d : CP}, (ps.set 0 (.ow (cIns Cl fl)))[i]? = some (.ow d) → i = 0 := fun {i d} h => by
    rcases getElem_set h with ⟨e, _, _⟩ | ⟨_, h⟩
    · exact e
    · exact absurd h (hno i d)
  have e0 : Ee C.B (ps.set 0 (.ow (cIns Cl fl))) σ G W := by
    refine ⟨by rw [List.length_set]; exact e.len, fun {i s} h n => ?_, fun {i j c d a} hij h1 h2 _ _ => absurd ((no' h1).trans (no' h2).symm) hij⟩
    rcases getElem_set h with ⟨rfl, rfl, _⟩ | ⟨_, h⟩
    · exact ⟨_, hσ, x, o, rfl, hw, hg, by rw [hB], hi⟩
    · exact e.at_ h n
  refine he σ G W H n _ (fun a n' => mb a Φ (fun _ _ => False) n') (fun _ _ => False) e0 st hm (fun a n1 v G1 W1 H1 hΦ s1 t1 r1 _ => ?_) fun _ _ _ _ _ _ _ h => h.elim
  have st1 := st.stp s1 t1
  have hw1 := s1.w _ _ hw
  have hg1 : G1 x = none := by
    cases z : G1 x with
    | none => rfl
    | some u =>
      rcases s1.ng _ _ z with h | h
      · rw [hg] at h; cases h
      · rw [hw] at h; cases h
  obtain ⟨dx, fs, rfl, h3, h4, h5⟩ := hi.up s1.g
  refine ⟨.ref x, hσ, x, Cl, dx, fs, rfl, st1.wh _ _ hw1, c, na, by omega, ?_⟩
  have st2 : Stt C n1 G1 (upd W1 x (.ins Cl dx (putF f v fs))) (upd H1 x (.ins Cl dx (putF f v fs))) := st1.put hw1 hg1 (by rw [hB])
  have sd : Stp G (del W x) G1 (upd W1 x (.ins Cl dx (putF f v fs))) := ⟨s1.g, fun q u h => by
    have hq : q ≠ x := fun z => by subst z; rw [del_at] at h; cases h
    rw [del_ne hq] at h
    rw [upd_ne hq]; exact s1.w _ _ h, st2.gw, fun q u h => (s1.ng q u h).imp id del_none⟩
  have e2 : Ee C.B ps σ G1 (upd W1 x (.ins Cl dx (putF f v fs))) := ⟨e.len, fun {i s} h n => by
    obtain ⟨v, hv, r⟩ := (e.stp s1).at_ h n
    refine ⟨v, hv, ?_⟩
    cases s with
    | ow d => exact absurd h (hno i d)
    | un => trivial
    | fr _ => exact r
    | bo _ => exact r, fun {i j c d a} _ h1 _ _ _ => absurd h1 (hno i c)⟩
  refine h2 a D σ G1 _ _ n1 Φ _ e2 st2 upd_same hg1 ⟨dx, _, rfl, fun q hq => ?_, fun g hg => ?_, ?_⟩ hΦ fun d n' σ' G' W' H' o' hd s' st' hw' hg' hi' => k d n' σ' G' W' H' o' hd ⟨sd.g.trans s'.g, fun q u h => ?_, s'.gw, fun q u h => ?_⟩ st' hw' hg' hi'
  · rcases List.mem_append.mp hq with hq | hq
    · obtain ⟨u, hu, hr⟩ := h3 q hq
      exact ⟨u, by rw [lookup_putF, if_neg (nf q hq)]; exact hu, hr⟩
    · rw [List.mem_singleton.mp hq]
      exact ⟨v, by rw [lookup_putF, if_pos rfl], r1⟩
  · rw [lookup_putF, if_neg (fun z => hg (f, R a) (by simp) z.symm)]
    exact h4 g fun q hq => hg q (List.mem_append_left _ hq)
  · have := length_putF f v fs
    rw [List.length_append, List.length_singleton]; omega
  · refine s'.w _ _ ?_
    have hq : q ≠ x := fun z => by subst z; rw [del_at] at h; cases h
    rw [del_ne hq]; exact sd.w _ _ h
  · rcases s'.ng q u h with h | h
    · exact sd.ng q u h
    · by_cases z : q = x
      · subst z; exact .inr del_at
      · rw [del_ne z] at h; exact .inr (sd.w.free h)
end
/-- an __init__: a first part that leaves self alone, then the attributes -/
theorem fn_I {mg : Str → Option Value} {K : PySem.W.Frag} {TB : List (Addr × Str)} {α β δ : Type} {Cl : Addr} {Rs : α → List VP} {F : α → M β} {c : β → CP} {fl : β → List (Str × VP)} {vs : List V} {H : Hp} {Q : VK} {E : XK} {N : List Str} {t1 t2 : TS} {m : α → M (Fl Unit δ)} {mf : α → δ → M β} {ψ : Addr → α → δ → List SL} (h : spI mg K TB Cl Rs F c vs H Q E)
    (hF : ∀ a, F a = M.bind (fun Q E n => m a (fun fl n => match fl with | .nx d => Q d n | .rt _ => False) E n) fun d => M.nox (mf a d)) (hc : ∀ b, c b = cIns Cl (fl b))
    (hb : ∀ (Θ : Th TB) (B G0 : Hp) (x : Addr) (a : α), SV ⟨TB, Θ, mg, K, B, G0, fun _ => E, []⟩ (Fz rNon) t1 (slots N (⟨fun v _ => v = .ref x, fun _ h => h⟩ :: Rs a)) (m a) (ψ x a))
    (hf : ∀ (Θ : Th TB) (x : Addr) (a : α) (d : δ), SF ⟨TB, Θ, mg, K, fun _ => none, fun _ => none, fun _ => E, []⟩ Cl x t2 (ψ x a d) [] (mf a d) fl) (hno : ∀ x a d, (ψ x a d).all SL.isF = true := by intros; rfl) :
    tSeq t1 t2 { nx := fun _ H' => Q .non H', rt := Q } (start N vs) H := by
  obtain ⟨Θ, a, x, dx, us, G, W, n, Φ, Ψ, rfl, r, gw, wx, t0, hm, k, xt⟩ := h
  rw [hF] at hm
  have gx : G x = none := gw.free wx
  refine hb Θ (upd W x (.ins Cl dx [])) G x a { nx := t2 { nx := fun _ H' => Q .non H', rt := Q }, rt := Q } (start N (.ref x :: us)) G (upd W x (.ins Cl dx [])) H n _ Ψ (ee_start (.cons rfl r)) (stt_start rfl rfl (gw.trans (same_upd wx)) t0) hm ?_ ?_ ?_
  · intro d n1 σ1 G1 W1 H1 hΦ s1 e1 st1
    have hw1 : W1 x = some (.ins Cl dx []) := st1.bw _ _ upd_same
    have hg1 : G1 x = none := by
      cases z : G1 x with
      | none => rfl
      | some u =>
        rcases st1.gb _ _ z with h | h
        · have h : G x = some u := h
          rw [gx] at h; cases h
        · have h : upd W x (.ins Cl dx []) x = none := h
          rw [upd_same] at h; cases h
    have e1' : Ee (fun _ => none) (ψ x a d) σ1 G1 W1 := ⟨e1.len, fun {i s} h n => by
      obtain ⟨v, hv, r⟩ := e1.at_ h n
      refine ⟨v, hv, ?_⟩
      cases s with
      | ow c => exact absurd h (isF_no (hno x a d) i c)
      | un => trivial
      | fr _ => exact r
      | bo p => exact absurd h (isF_nb (hno x a d) i p), fun {i j c d' a'} _ h1 _ _ _ => absurd h1 (isF_no (hno x a d) i c)⟩
    refine hf Θ x a d _ σ1 G1 W1 H1 n1 Φ _ e1' ⟨st1.t, st1.gw, fun _ _ h => (nomatch h), fun _ _ h => (nomatch h), fun _ _ _ => .inr rfl⟩ hw1 hg1 ⟨dx, [], rfl, fun _ h => (nomatch h), fun _ _ => rfl, Nat.le_refl _⟩ hΦ ?_
    intro b n2 σ2 G2 W2 H2 o2 hb2 s2 st2 hw2 hg2 hi2
    have sW : Same W W1 := (same_upd wx).trans st1.bw
    refine k b n2 (.ref x) G2 W2 H2 hb2 ⟨s1.trans s2.g, fun q u h => ?_, s2.gw, fun q u h => ?_⟩ st2.t ⟨x, o2, rfl, hw2, hg2, wx, by rw [hc]; exact hi2⟩ (fun p e => by cases e; exact wx) rfl
    · refine s2.w _ _ ?_
      rw [del_ne (fun z => by subst z; rw [wx] at h; cases h)]; exact sW _ _ h
    · rcases s2.ng q u h with h | h
      · rcases st1.gb q u h with h | h
        · exact .inl h
        · exact .inr ((same_upd wx).free h)
      · by_cases z : q = x
        · subst z; exact .inr wx
        · rw [del_ne z] at h; exact .inr (sW.free h)
  · intro _ _ _ _ _ _ z; exact z.elim
  · intro y n' cls d σ G' W' H' hΨ q _ st
    refine xt y n' cls d G' W' H' hΨ q ⟨st.g0, (same_upd wx).trans st.bw, st.gw, fun q u h => ?_⟩ st.t
    rcases st.gb q u h with h | h
    · exact .inl h
    · exact .inr ((same_upd wx).free h)
end VL

namespace VL
open PySem PySem.Spec PyProof.Rows L2
section
variable {C : Cfg} {α β γ δ ρ : Type} {Rr : ρ → SL} {ps : List SL} {te ta tb tc : TE} {tt : TT} {t u : TS} {i j : Nat}
/-! ### pairs -/
theorem vn_lenP {R : α → VP} {S : β → VP} : Vn C (rLenSq C.K) (fun q : (α × β) × Unit => [rPr R S q.1]) (fun _ => M.pure (2 : Int)) (Fz rInt) := by
  rintro q vs σ G W H n Q Φ Ψ (_ | ⟨⟨p, a, b, rfl, h1, h2⟩, _ | _⟩) st hm k x
  exact ⟨p, _, rfl, .inr (SqT.of (st.gh _ _ h1)), k.hereF (a := (2 : Int)) st hm rfl⟩
theorem ve_isi_tup2_tuple {R : α → VP} {S : β → VP} {m : M (α × β)} (h : VE C te ps m (Fz (rPr R S))) : VE C (tCB (rIsi C.K) (tCons te (tCons (tC (.ty "tuple")) tNil))) ps (M.bind m fun _ => M.pure true) (Fz rBl) := ve_isi "tuple" (fun _ => true) h fun a v G K ⟨p, x, y, e, h1, _⟩ => ⟨.type "tuple", by subst e; exact .base (.tup h1), rfl⟩
theorem ve_isi_int_bool' {m : M Int} (h : VE C te ps m (Fz rInt)) : VE C (tCB (rIsi C.K) (tCons te (tCons (tC (.ty "bool")) tNil))) ps (M.bind m fun _ => M.pure false) (Fz rBl) := ve_isi_int_bool h
theorem vn_tupP {R : α → VP} : Vn C (fun xs H Q => ∃ p ys, xs = [.ref p] ∧ SqT C.K H p ys ∧ Q (.ref p) H) (fun q : (α × α) × Unit => [rPr R R q.1]) (fun q => M.pure [q.1.1, q.1.2]) (Fz (rTup R)) := by
  rintro q vs σ G W H n Q Φ Ψ (_ | ⟨⟨p, a, b, rfl, h1, h2, h3⟩, _ | _⟩) st hm k x
  exact ⟨p, _, rfl, SqT.of (st.gh _ _ h1), k.hereF (a := [q.1.1, q.1.2]) st hm ⟨p, _, rfl, h1, h2, h3, trivial⟩⟩
/-! ### a, b = a list of two -/
def M.two {α : Type} (xs : List α) : M (α × α) := fun Φ _ n => ∃ a b, xs = [a, b] ∧ Φ (a, b) n
theorem sv_unl2 {R : α → VP} {m : M (List α)} (h : VE C te ps m (Fz (rLst R))) (hp : PxLe C.px ps) :
    SV C Rr (tAsg te (gUnl C.K 2 (gCons (gName i) (gCons (gName j) gNil)))) ps (M.bind (M.bind m fun xs => M.two xs) fun q => M.nx q) (fun q => (ps.set i (.fr (R q.1))).set j (.fr (R q.2))) := by
  intro D σ G W H n Φ Ψ e st hm k r x
  refine h σ G W H n _ (fun xs n' => M.two xs (fun q n => Φ (.nx q) n) Ψ n') Ψ e st hm ?_ fun y n' cls d G' W' H' hΨ q s t => x y n' cls d σ G' W' H' hΨ q ((e.stp s).x hp) (st.stp s t)
  rintro xs n1 v G1 W1 H1 ⟨a, b, rfl, hΦ⟩ s1 t1 ⟨p, vs, rfl, h1, h2⟩ _
  have st1 := st.stp s1 t1
  match vs, h2 with
  | [va, vb], ⟨ha, hb, _⟩ =>
    exact ⟨p, _, rfl, SqL.of (st1.gh _ _ h1), rfl, va, [vb], rfl, vb, [], rfl, rfl, k (a, b) n1 _ G1 W1 H1 hΦ s1.g (((e.stp s1).setF ha).setF hb) st1⟩
/-! ### dicts by text -/
def repsD {α : Type} (R : α → VP) : List (Str × α) → List (Key × V) → Hp → Prop
  | [], [], _ => True
  | (k, a) :: d, (kk, v) :: ks, G => kk = .inr k ∧ (R a).P v G ∧ repsD R d ks G
  | _, _, _ => False
theorem repsD.up {R : α → VP} {G G' : Hp} : ∀ {d : List (Str × α)} {ks : List (Key × V)}, Same G G' → repsD R d ks G → repsD R d ks G'
  | [], [], _, _ => trivial
  | (_, _) :: _, (_, _) :: _, e, h => ⟨h.1, (R _).up e h.2.1, repsD.up e h.2.2⟩
theorem repsD.len {R : α → VP} {G : Hp} : ∀ {d : List (Str × α)} {ks : List (Key × V)}, repsD R d ks G → ks.length = d.length
  | [], [], _ => rfl
  | (_, _) :: _, (_, _) :: _, h => by rw [List.length_cons, List.length_cons, repsD.len h.2.2]
def putD {α : Type} (d : List (Str × α)) (k : Str) (a : α) : List (Str × α) := if (d.any fun q => decide (q.1 = k)) = true then d.map (fun q => if q.1 = k then (q.1, a) else q) else d ++ [(k, a)]
def getD {α : Type} (d : List (Str × α)) (k : Str) : Option α := (d.find? fun q => decide (q.1 = k)).map (·.2)
theorem getD_nil {k : Str} : getD ([] : List (Str × α)) k = none := rfl
theorem getD_cons {q : Str × α} {d : List (Str × α)} {k : Str} : getD (q :: d) k = if q.1 = k then some q.2 else getD d k := by
  unfold getD
  rw [List.find?_cons]
  by_cases h : q.1 = k
  · simp [h]
  · simp [h]
theorem repsD.get {R : α → VP} {G : Hp} {k : Str} : ∀ {d : List (Str × α)} {ks : List (Key × V)}, repsD R d ks G → match getD d k with | some a => ∃ v, valV ks (.inr k : Key) = some v ∧ (R a).P v G | none => valV ks (.inr k : Key) = none
  | [], [], _ => rfl
  | (k', a) :: d, (kk, v) :: ks, h => by
    obtain ⟨rfl, h1, h2⟩ := h
    have ih := repsD.get (k := k) h2
    by_cases e : k' = k
    · subst e
      rw [getD_cons, if_pos rfl]
      exact ⟨v, valV_pos rfl, h1⟩
    · rw [getD_cons, if_neg e]
      have e2 : ¬ (Sum.inr k' : Key) = .inr k := fun z => e (Sum.inr.inj z)
      revert ih
      cases getD d k with
      | none => exact fun ih => (valV_neg (p := ((.inr k' : Key), v)) e2).trans ih
      | some b => exact fun ⟨u, h3, h4⟩ => ⟨u, (valV_neg (p := ((.inr k' : Key), v)) e2).trans h3, h4⟩
theorem repsD.any {R : α → VP} {G : Hp} {k : Str} : ∀ {d : List (Str × α)} {ks : List (Key × V)}, repsD R d ks G → (ks.any fun kv => decide (kv.1 = (.inr k : Key))) = d.any fun q => decide (q.1 = k)
  | [], [], _ => rfl
  | (k', a) :: d, (kk, v) :: ks, h => by
    obtain ⟨rfl, h1, h2⟩ := h
    rw [List.any_cons, List.any_cons, repsD.any h2]
    congr 1
    by_cases e : k' = k
    · subst e; simp
    · have e2 : ¬ (Sum.inr k' : Key) = .inr k := fun z => e (Sum.inr.inj z)
      simp [e, e2]
theorem repsD.map {R : α → VP} {G : Hp} {k : Str} {a : α} {v : V} (hv : (R a).P v G) : ∀ {d : List (Str × α)} {ks : List (Key × V)}, repsD R d ks G →
    repsD R (d.map fun q => if q.1 = k then (q.1, a) else q) (ks.map fun kv => if kv.1 = (.inr k : Key) then (kv.1, v) else kv) G
  | [], [], _ => trivial
  | (k', b) :: d, (kk, w) :: ks, h => by
    obtain ⟨rfl, h1, h2⟩ := h
    have ih := repsD.map (k := k) hv h2
    by_cases e : k' = k
    · subst e
      simp only [List.map_cons, if_true]
      exact ⟨rfl, hv, ih⟩
    · have e2 : ¬ (Sum.inr k' : Key) = .inr k := fun z => e (Sum.inr.inj z)
      simp only [List.map_cons, if_neg e, if_neg e2]
      exact ⟨rfl, h1, ih⟩
theorem repsD.snoc {R : α → VP} {G : Hp} {k : Str} {a : α} {v : V} (hv : (R a).P v G) : ∀ {d : List (Str × α)} {ks : List (Key × V)}, repsD R d ks G → repsD R (d ++ [(k, a)]) (ks ++ [(.inr k, v)]) G
  | [], [], _ => ⟨rfl, hv, trivial⟩
  | (_, _) :: _, (_, _) :: _, h => ⟨h.1, h.2.1, repsD.snoc hv h.2.2⟩
theorem repsD.put {R : α → VP} {G : Hp} {k : Str} {a : α} {v : V} {d : List (Str × α)} {ks : List (Key × V)} (h : repsD R d ks G) (hv : (R a).P v G) : repsD R (putD d k a) (putK ks (.inr k) v) G := by
  unfold putD putK
  rw [h.any]
  split
  · exact h.map hv
  · exact h.snoc hv
def cDct {α : Type} (R : α → VP) (d : List (Str × α)) : CP := ⟨fun o G => ∃ ks, o = .dK ks ∧ repsD R d ks G, fun e ⟨ks, h, h2⟩ => ⟨ks, h, h2.up e⟩⟩
def rDct {α : Type} (R : α → VP) (d : List (Str × α)) : VP := ⟨fun v G => ∃ p ks, v = .ref p ∧ G p = some (.dK ks) ∧ repsD R d ks G, fun e ⟨p, ks, h, h1, h2⟩ => ⟨p, ks, h, e _ _ h1, h2.up e⟩⟩
theorem cDct_show {R : α → VP} {d : List (Str × α)} (p : Addr) (o : HO) (G : Hp) (h : (cDct R d).P o G) (hp : G p = none) : (rDct R d).P (.ref p) (upd G p o) := by
  obtain ⟨ks, rfl, hv⟩ := h
  exact ⟨p, ks, rfl, upd_same, hv.up (same_upd hp)⟩
theorem ve_frD {R : α → VP} {m : M (List (Str × α))} (h : VE C te ps m (Ow (cDct R))) : VE C te ps m (Fz (rDct R)) :=
  ve_fr (α := Unit) (c := cDct R) (R := rDct R) h fun a p o G hc hp => cDct_show p o G hc hp
theorem sv_showD {Rr : ρ → SL} {m : M (Fl ρ α)} {ψ : α → List SL} (i : Nat) {R : β → VP} {d : List (Str × β)} (hi : ps[i]? = some (.ow (cDct R d))) (h : SV C Rr t (ps.set i (.fr (rDct R d))) m ψ) : SV C Rr t ps m ψ :=
  sv_show hi cDct_show h
theorem ve_dnew {R : α → VP} : VE C tDNewK ps (M.pure []) (Ow (cDct R)) := by
  intro σ G W H n Q Φ Ψ e st hm k x
  exact fun p hp => k.newO (a := []) st hm hp ⟨[], rfl, trivial⟩
theorem sv_dput {R : α → VP} {d : List (Str × α)} {m : M α} {mk : M Str} (he : VE C te ps m (Fz R)) (hk : VE C ta ps mk (Fz rStr)) (hp : PxLe C.px ps) (hi : ps[i]? = some (.ow (cDct R d)) := by rfl) :
    SV C Rr (sDPut (tVar i) ta te) ps (M.bind (M.bind m fun a => M.bind mk fun k => M.when (d.length < sizeLine) (putD d k a)) fun e => M.nx e) (fun e => ps.set i (.ow (cDct R e))) := by
  intro D σ G W H n Φ Ψ e st hm k r x
  refine he σ G W H n _ (fun a n' => M.bind mk (fun k => fun (Φ : Fl ρ (List (Str × α)) → Nat → Prop) _ n => d.length < sizeLine ∧ Φ (.nx (putD d k a)) n) Φ Ψ n') Ψ e st hm (fun a n1 v G1 W1 H1 hm1 s1 t1 r1 _ => ?_) fun y n' cls d G' W' H' hΨ q s t => x y n' cls d σ G' W' H' hΨ q ((e.stp s).x hp) (st.stp s t)
  have st1 := st.stp s1 t1
  have e1 := e.stp s1
  obtain ⟨v0, hσ, p, o, rfl, hw, hg, hb, ks, rfl, hr⟩ := e1.at_ hi (by simp)
  refine ⟨.ref p, hσ, ?_⟩
  refine hk σ G1 W1 H1 n1 _ (fun z n => d.length < sizeLine ∧ Φ (.nx (putD d z a)) n) Ψ e1 st1 hm1 (fun z n2 u G2 W2 H2 hm2 s2 t2 r2 _ => ?_) fun y n' cls d G' W' H' hΨ q s t => x y n' cls d σ G' W' H' hΨ q ((e1.stp s).x hp) (st1.stp s t)
  obtain ⟨hl, hm2⟩ := hm2
  have st2 := st1.stp s2 t2
  have e2 := e1.stp s2
  obtain ⟨v2, hσ', p', o', e5, hw', hg', hb', ks', rfl, hr'⟩ := e2.at_ hi (by simp)
  rw [hσ] at hσ'
  cases hσ'
  cases e5
  have r2 : u = .str z := r2
  subst r2
  refine ⟨p, _, rfl, DPut.k (k := .inr z) (st2.wh _ _ hw') (by rw [hr'.len]; exact hl), ?_⟩
  exact k _ n2 σ G2 (upd W2 p (.dK (putK ks' (.inr z) v))) _ hm2 (s1.g.trans s2.g) (e2.putOwn hi hσ ⟨_, rfl, hr'.put ((R a).up s2.g r1)⟩) (st2.put hw' hg' hb')
def M.dget {α : Type} (d : List (Str × α)) (k : Str) : M α := fun Φ _ n => ∃ a, getD d k = some a ∧ Φ a n
theorem ve_dget {R : α → VP} {m : M (List (Str × α))} {mk : M Str} (h : VE C te ps m (Fz (rDct R))) (hk : VE C ta ps mk (Fz rStr)) : VE C (tDGet te ta) ps (M.bind m fun d => M.bind mk fun k => M.dget d k) (Fz R) := by
  intro σ G W H n Q Φ Ψ e st hm k x
  refine h σ G W H n _ (fun d n' => M.bind mk (fun k => M.dget d k) Φ Ψ n') Ψ e st hm ?_ x
  rintro d n1 v G1 W1 H1 hm1 s1 t1 ⟨p, ks, rfl, h1, h2⟩ _
  have st1 := st.stp s1 t1
  refine hk σ G1 W1 H1 n1 _ (fun z n' => M.dget d z Φ Ψ n') Ψ (e.stp s1) st1 hm1 ?_ (x.stp s1)
  rintro z n2 u G2 W2 H2 ⟨a, ha, hm2⟩ s2 t2 r2 _
  have r2 : u = .str z := r2
  subst r2
  have st2 := st1.stp s2 t2
  have := h2.get (k := z)
  rw [ha] at this
  obtain ⟨w, hw, hr⟩ := this
  refine ⟨p, w, rfl, ?_, (k.stp (s1.trans s2)).hereF st2 hm2 ((R a).up s2.g hr)⟩
  have := DGet.k (k := (.inr z : Key)) (st2.gh _ _ (s2.g _ _ h1))
  rw [hw] at this
  exact this
/-! ### data of None or a value -/
class NoNn {α : Type} (R : α → VP) [IsD R] where
  l : ∀ a : α, PyData.eqv .none (IsD.d R a) = false
  r : ∀ a : α, PyData.eqv (IsD.d R a) .none = false
instance {R : α → VP} {S : β → VP} [IsD R] [IsD S] : NoNn (rPr R S) := ⟨fun a => by simp [IsD.d, PyData.eqv], fun a => by simp [IsD.d, PyData.eqv]⟩
instance {R : α → VP} [IsD R] : NoNn (rTup R) := ⟨fun a => by simp [IsD.d, PyData.eqv], fun a => by simp [IsD.d, PyData.eqv]⟩
instance {R : α → VP} [IsD R] : NoNn (rLst R) := ⟨fun a => by simp [IsD.d, PyData.eqv], fun a => by simp [IsD.d, PyData.eqv]⟩
instance : NoNn rInt := ⟨fun a => by simp [IsD.d, PyData.eqv], fun a => by simp [IsD.d, PyData.eqv]⟩
instance : NoNn rStr := ⟨fun a => by simp [IsD.d, PyData.eqv], fun a => by simp [IsD.d, PyData.eqv]⟩
instance {R : α → VP} [IsD R] [IsQ R] [NoNn R] : IsQ (rOpt R) := ⟨fun q => ∀ a, q = some a → IsQ.ok R a, IsQ.k R, fun q h => by
  cases q with
  | none => simp [IsD.d, PyData.canLay0]
  | some a => exact IsQ.lay (R := R) a (h a rfl), fun q => by
  cases q with
  | none => simp [IsD.d, PyData.depth]
  | some a => exact IsQ.dep (R := R) a, fun q r => by
  cases q with
  | none =>
    cases r with
    | none => simp [IsD.d, PyData.eqv]
    | some b => simp [IsD.d, NoNn.l (R := R) b]
  | some a =>
    cases r with
    | none => simp [IsD.d, NoNn.r (R := R) a]
    | some b => simp only [IsD.d, Option.some.injEq]; exact IsQ.eqv a b⟩
/-! ### defs whose lists are new -/
abbrev rGr (B : Hp) : List (List Str) → VP := rLst (rNw B (rLst rStr))
theorem gr_back {B B' : Hp} (e : Same B B') {a : List (List Str)} {v : V} {G : Hp} (h : (rGr B' a).P v G) : (rGr B a).P v G := lst_imp (fun _ _ k => nw_back e k) h
theorem ve_grOld {B : Hp} {m : M (List (List Str))} (h : VE C te ps m (Fz (rGr B))) : VE C te ps m (Fz (rLst (rLst rStr))) := by
  intro σ G W H n Q Φ Ψ e st hm k x
  exact h σ G W H n Q Φ Ψ e st hm (fun a n' v G' W' H' hΦ s t r f => k a n' v G' W' H' hΦ s t (lst_imp (fun _ _ => nw_old) r) f) x
theorem ve_nwOld {B : Hp} {R : α → VP} {m : M α} (h : VE C te ps m (Fz (rNw B R))) : VE C te ps m (Fz R) := by
  intro σ G W H n Q Φ Ψ e st hm k x
  exact h σ G W H n Q Φ Ψ e st hm (fun a n' v G' W' H' hΦ s t r f => k a n' v G' W' H' hΦ s t (nw_old r) f) x
end
section
variable (mg : Str → Option Value) (K : PySem.W.Frag) (TB : List (Addr × Str))
def spGN {α β : Type} (Rs : α → List VP) (F : α → M β) (Rn : Hp → β → VP) : Sp := fun vs H Q E =>
  ∃ (Θ : Th TB) (a : α) (G W : Hp) (n : Nat) (Φ : β → Nat → Prop) (Ψ : Exc → Nat → Prop), RepL (Rs a) vs G ∧ Same G W ∧ Θ.T n W H ∧ F a Φ Ψ n ∧
    Kt ⟨TB, Θ, mg, K, W, G, fun _ => E, []⟩ (Fz (Rn W)) G W Q Φ ∧ Xt ⟨TB, Θ, mg, K, W, G, fun _ => E, []⟩ [] G W Ψ
def spTN {α β : Type} (Θ : Addr → Th TB) (Rs : Addr → α → List VP) (F : α → M β) (Rn : Hp → β → VP) : Sp := fun vs H Q E =>
  ∃ (s : Addr) (a : α) (G W : Hp) (n : Nat) (Φ : β → Nat → Prop) (Ψ : Exc → Nat → Prop), RepL (Rs s a) vs G ∧ Same G W ∧ (Θ s).T n W H ∧ F a Φ Ψ n ∧
    Kt ⟨TB, Θ s, mg, K, W, G, fun _ => E, []⟩ (Fz (Rn W)) G W Q Φ ∧ Xt ⟨TB, Θ s, mg, K, W, G, fun _ => E, []⟩ [] G W Ψ
end
theorem spGN_len {mg : Str → Option Value} {K : PySem.W.Frag} {TB : List (Addr × Str)} {α β : Type} {Rs : α → List VP} {F : α → M β} {Rn : Hp → β → VP} {ps : List Str} (h : ∀ a, (Rs a).length = ps.length := by intro _; rfl) : ∀ vs H Q E, spGN mg K TB Rs F Rn vs H Q E → vs.length = ps.length := by
  rintro vs H Q E ⟨_, a, _, _, _, _, _, r, _⟩
  rw [r.len, h]
theorem spTN_len {mg : Str → Option Value} {K : PySem.W.Frag} {TB : List (Addr × Str)} {Θ : Addr → Th TB} {α β : Type} {Rs : Addr → α → List VP} {F : α → M β} {Rn : Hp → β → VP} {ps : List Str} (h : ∀ s a, (Rs s a).length = ps.length := by intros; rfl) : ∀ vs H Q E, spTN mg K TB Θ Rs F Rn vs H Q E → vs.length = ps.length := by
  rintro vs H Q E ⟨_, a, _, _, _, _, _, r, _⟩
  rw [r.len, h]
theorem fn_GW {mg : Str → Option Value} {K : PySem.W.Frag} {TB : List (Addr × Str)} {α β δ : Type} {Rs : α → List VP} {F : α → M β} {Rn : Hp → β → VP} {vs : List V} {H : Hp} {Q : VK} {E : XK} {N : List Str} {t : TS} {m : α → M (Fl β δ)} {ψ : α → δ → List SL} (h : spGN mg K TB Rs F Rn vs H Q E)
    (hF : ∀ a, F a = M.ret (m a)) (hb : ∀ (Θ : Th TB) (B G0 : Hp) (a : α), Same G0 B → SV ⟨TB, Θ, mg, K, B, G0, fun _ => E, []⟩ (Fz (Rn B)) t (slots N (Rs a)) (m a) (ψ a)) : t { nx := fun _ H' => Q .non H', rt := Q } (start N vs) H := by
  obtain ⟨Θ, a, G, W, n, Φ, Ψ, r, gw, t1, hm, k, x⟩ := h
  rw [hF] at hm
  refine hb Θ W G a gw _ (start N vs) G W H n _ Ψ (ee_start r) (stt_start rfl rfl gw t1) hm (fun _ _ _ _ _ _ z => z.elim) (fun b n' v G' W' H' hΦ st q => k b n' v G' W' H' hΦ (stt_end rfl rfl st) st.t q (res_fre q)) fun y n' cls d σ G' W' H' hΨ q _ st => x y n' cls d G' W' H' hΨ q (stt_end rfl rfl st) st.t
theorem fn_TW {mg : Str → Option Value} {K : PySem.W.Frag} {TB : List (Addr × Str)} {Θ : Addr → Th TB} {α β δ : Type} {Rs : Addr → α → List VP} {F : α → M β} {Rn : Hp → β → VP} {vs : List V} {H : Hp} {Q : VK} {E : XK} {N : List Str} {t : TS} {m : α → M (Fl β δ)} {ψ : Addr → α → δ → List SL} (h : spTN mg K TB Θ Rs F Rn vs H Q E)
    (hF : ∀ a, F a = M.ret (m a)) (hb : ∀ (s : Addr) (B G0 : Hp) (a : α), Same G0 B → SV ⟨TB, Θ s, mg, K, B, G0, fun _ => E, []⟩ (Fz (Rn B)) t (slots N (Rs s a)) (m a) (ψ s a)) : t { nx := fun _ H' => Q .non H', rt := Q } (start N vs) H := by
  obtain ⟨s, a, G, W, n, Φ, Ψ, r, gw, t1, hm, k, x⟩ := h
  rw [hF] at hm
  refine hb s W G a gw _ (start N vs) G W H n _ Ψ (ee_start r) (stt_start rfl rfl gw t1) hm (fun _ _ _ _ _ _ z => z.elim) (fun b n' v G' W' H' hΦ st q => k b n' v G' W' H' hΦ (stt_end rfl rfl st) st.t q (res_fre q)) fun y n' cls d σ G' W' H' hΨ q _ st => x y n' cls d G' W' H' hΨ q (stt_end rfl rfl st) st.t
section
variable {C : Cfg} {α β γ : Type} {ps : List SL} {ta : TA}
theorem ve_callN {Rs Rs' : α → List VP} {F : α → M β} {Rn : Hp → β → VP} {m : M α} {E : XK} (ha : VA C ta ps m Rs') (hn : ∀ {B W : Hp}, Same B W → ∀ {b v G}, (Rn W b).P v G → (Rn B b).P v G) (hR : ∀ a, Rs' a = Rs a := by intro _; rfl) : VE C (tCall (spGN C.mg C.K C.TB Rs F Rn) [] E ta) ps (M.bind m fun a => M.nox (F a)) (Fz (Rn C.B)) := by
  intro σ G W H n Q Φ Ψ e st hm k x
  refine va_eq ha hR σ G W H n _ (fun a n' => M.nox (F a) Φ Ψ n') Ψ e st hm (fun a n1 vs G1 W1 H1 hm1 s1 t1 r1 => ?_) x
  have st1 := st.stp s1 t1
  rw [List.append_nil]
  refine ⟨C.Θ, a, G1, W1, n1, Φ, fun _ _ => False, r1, st1.gw, st1.t, hm1, fun b n2 v G2 W2 H2 hΦ s2 t2 r2 f2 => ?_, fun _ _ _ _ _ _ _ h => h.elim⟩
  exact (k.stp s1) b n2 v G2 W2 H2 hΦ s2 t2 (hn st1.bw r2) trivial
theorem ve_callTN {Θ : Addr → Th C.TB} {s : Addr} {Rs : Addr → α → List VP} {Rs' : α → List VP} {F : α → M β} {Rn : Hp → β → VP} {m : M α} {E : XK} (hΘ : C.Θ = Θ s) (ha : VA C ta ps m Rs') (hn : ∀ {B W : Hp}, Same B W → ∀ {b v G}, (Rn W b).P v G → (Rn B b).P v G) (hR : ∀ a, Rs' a = Rs s a := by intro _; rfl) : VE C (tCall (spTN C.mg C.K C.TB Θ Rs F Rn) [] E ta) ps (M.bind m fun a => M.nox (F a)) (Fz (Rn C.B)) := by
  intro σ G W H n Q Φ Ψ e st hm k x
  refine va_eq ha hR σ G W H n _ (fun a n' => M.nox (F a) Φ Ψ n') Ψ e st hm (fun a n1 vs G1 W1 H1 hm1 s1 t1 r1 => ?_) x
  have st1 := st.stp s1 t1
  rw [List.append_nil]
  refine ⟨s, a, G1, W1, n1, Φ, fun _ _ => False, r1, st1.gw, by rw [← hΘ]; exact st1.t, hm1, fun b n2 v G2 W2 H2 hΦ s2 t2 r2 f2 => ?_, fun _ _ _ _ _ _ _ h => h.elim⟩
  exact (k.stp s1) b n2 v G2 W2 H2 hΦ s2 (by rw [hΘ]; exact t2) (hn st1.bw r2) trivial
end
end VL

namespace L2
open PySem PySem.Spec PyProof.Rows
/-! ### the other drawing state: s holds [cells, place, counter] -/
structure VS2 (s c : Addr) (i n : Int) (cs : List Int) (G H : Hp) : Prop where
  sub : Same G H
  gs : G s = none
  gc : G c = none
  cs' : c ≠ s
  hs : H s = some (.lst [.ref c, .int i, .int n])
  hc : H c = some (.lst (cs.map V.int))
  lc : cs.length ≤ 63
  i0 : 0 ≤ i
  n0 : 0 ≤ n
def View2 (s : Addr) (N : Nat) (G H : Hp) : Prop := ∃ c i n cs, VS2 s c i n cs G H ∧ n ≤ (N : Int)
theorem View2.sub {s : Addr} {N : Nat} {G H : Hp} (v : View2 s N G H) : Same G H := let ⟨_, _, _, _, k, _⟩ := v; k.sub
theorem VS2.ext {s c : Addr} {i n : Int} {cs : List Int} {G H H' : Hp} (k : VS2 s c i n cs G H) (e : Same H H') : VS2 s c i n cs G H' :=
  { k with sub := k.sub.trans e, hs := e _ _ k.hs, hc := e _ _ k.hc }
theorem VS2.st {s c : Addr} {i n i' n' : Int} {cs : List Int} {G H : Hp} (k : VS2 s c i n cs G H) (hi : 0 ≤ i') (hn : 0 ≤ n') : VS2 s c i' n' cs G (upd H s (.lst [.ref c, .int i', .int n'])) where
  sub := k.sub.unseen k.gs
  gs := k.gs
  gc := k.gc
  cs' := k.cs'
  hs := upd_same
  hc := by rw [upd_ne k.cs']; exact k.hc
  lc := k.lc
  i0 := hi
  n0 := hn
theorem VS2.cell {s c : Addr} {i n z : Int} {j : Nat} {cs : List Int} {G H : Hp} (k : VS2 s c i n cs G H) : VS2 s c i n (cs.set j z) G (upd H c (.lst ((cs.set j z).map V.int))) where
  sub := k.sub.unseen k.gc
  gs := k.gs
  gc := k.gc
  cs' := k.cs'
  hs := by rw [upd_ne k.cs'.symm]; exact k.hs
  hc := upd_same
  lc := by rw [List.length_set]; exact k.lc
  i0 := k.i0
  n0 := k.n0
theorem View2.put {s : Addr} {N : Nat} {G H : Hp} {p : Addr} {u o : HO} (v : View2 s N G H) (h : G p = some u) : View2 s N (upd G p o) (upd H p o) := by
  obtain ⟨c, i, n, cs, k, l⟩ := v
  have f : ∀ q, G q = none → q ≠ p := fun q hq z => by rw [z, h] at hq; cases hq
  refine ⟨c, i, n, cs, ⟨fun q x hq => ?_, ?_, ?_, k.cs', ?_, ?_, k.lc, k.i0, k.n0⟩, l⟩
  · by_cases hqp : q = p
    · subst hqp
      rw [upd_same] at hq ⊢
      exact hq
    · rw [upd_ne hqp] at hq ⊢
      exact k.sub _ _ hq
  · rw [upd_ne (f _ k.gs)]; exact k.gs
  · rw [upd_ne (f _ k.gc)]; exact k.gc
  · rw [upd_ne (f _ k.gs)]; exact k.hs
  · rw [upd_ne (f _ k.gc)]; exact k.hc
def spDraw2 : Sp := fun vs H Q _ => ∃ (s : Addr) (N : Nat) (G : Hp) (m : Int), vs = [.ref s, .int m] ∧ View2 s N G H ∧ N ≤ 1000000 ∧ 0 < m ∧ m < 2 ^ 100 ∧
  ∀ (d : Int) (H' : Hp), 0 ≤ d → d < m → View2 s (N + 1) G H' → Q (.int d) H'
def spStart2 (K : PySem.W.Frag) : Sp := fun vs H Q _ => ∃ (a : Addr) (ns : List Int), vs = [.ref a] ∧ SqL K H a (ns.map V.int) ∧ ns.length ≤ 63 ∧ ∀ (s : Addr) (H' : Hp), View2 s 0 H H' → Q (.ref s) H'
end L2
namespace VL
open PySem PySem.Spec PyProof.Rows L2
def thW {TB : List (Addr × Str)} (s : Addr) : Th TB where
  T n W H := View2 s n W H ∧ (∀ q o, W q = some o → NT o) ∧ LamX.Tabs TB H
  sub h := h.1.sub
  ext {n W H W' H'} h e e2 hn := by
    obtain ⟨⟨c, i, m, cs, k, l⟩, hnt, ht⟩ := h
    have f : ∀ q u, H q = some u → W q = none → W' q = none := fun q u hq hw => by
      cases z : W' q with
      | none => rfl
      | some o =>
        rcases hn q o z with h | ⟨h, _⟩
        · rw [hw] at h; cases h
        · rw [hq] at h; cases h
    have sb : Same W' H' := fun q o hq => by
      rcases hn q o hq with h | ⟨_, h, _⟩
      · exact e _ _ (k.sub _ _ h)
      · exact h
    refine ⟨⟨c, i, m, cs, { k.ext e with sub := sb, gs := f _ _ k.hs k.gs, gc := f _ _ k.hc k.gc }, l⟩, fun q o hq => ?_, ht.ext e⟩
    rcases hn q o hq with h | ⟨_, _, h⟩
    · exact hnt _ _ h
    · exact h
  put {n W H p u o} h e nu no := by
    refine ⟨h.1.put e, fun q x hq => ?_, fun t htm => ?_⟩
    · by_cases z : q = p
      · subst z; rw [upd_same] at hq; cases hq; exact no
      · rw [upd_ne z] at hq; exact h.2.1 _ _ hq
    · have hp := h.1.sub _ _ e
      obtain ⟨ps, h1, h2, h3⟩ := h.2.2 t htm
      refine ⟨ps, ?_, h2, fun pos cv hc => ?_⟩
      · rw [upd_ne (fun z => by rw [z, hp] at h1; exact nu.t _ (Option.some.inj h1))]; exact h1
      · obtain ⟨c, e1, e2⟩ := h3 pos cv hc
        refine ⟨c, e1, ?_⟩
        rw [upd_ne (fun z => by rw [z, hp] at e2; exact nu.x _ (Option.some.inj e2))]; exact e2
  tabs h := h.2.2
  tset {n W H H'} h e t := by
    obtain ⟨⟨c, i, m, cs, k, l⟩, hnt, ht⟩ := h
    have f : ∀ q u, H q = some u → (∀ ps, u ≠ .tbl ps) → H' q = some u := fun q u h n => e q u h n
    exact ⟨⟨c, i, m, cs, { k with sub := fun q o hq => e _ _ (k.sub _ _ hq) (hnt _ _ hq).t, hs := f _ _ k.hs (by intro _ h; cases h), hc := f _ _ k.hc (by intro _ h; cases h) }, l⟩, hnt, t⟩
  see {n W H q o} h hq no nl := by
    obtain ⟨⟨c, i, m, cs, k, l⟩, hnt, ht⟩ := h
    have ne : ∀ a xs, H a = some (.lst xs) → a ≠ q := fun a xs ha z => by rw [z, hq] at ha; exact nl xs (Option.some.inj ha)
    refine ⟨⟨c, i, m, cs, { k with sub := fun a o' ha => ?_, gs := by rw [upd_ne (ne _ _ k.hs)]; exact k.gs, gc := by rw [upd_ne (ne _ _ k.hc)]; exact k.gc }, l⟩, fun a o' ha => ?_, ht⟩
    · by_cases z : a = q
      · subst z; rw [upd_same] at ha; rw [hq]; exact ha
      · rw [upd_ne z] at ha; exact k.sub _ _ ha
    · by_cases z : a = q
      · subst z; rw [upd_same] at ha; cases ha; exact no
      · rw [upd_ne z] at ha; exact hnt _ _ ha
open Classical in
theorem big_view2 {TB : List (Addr × Str)} {s : Addr} {n : Nat} {W H : Hp} (t : (thW (TB := TB) s).T n W H) : ∃ G', View2 s n G' H ∧ ∀ n' H', View2 s n' G' H' → (thW (TB := TB) s).T n' W H' := by
  obtain ⟨⟨c, i, m, cs, k, l⟩, hnt, ht⟩ := t
  let G' : Hp := fun q => match W q with
    | some o => some o
    | none => if (∃ ps, H q = some (.tbl ps)) ∨ (∃ r, H q = some (LamX.CodeO q r)) then H q else none
  have gw : ∀ q o, W q = some o → G' q = some o := fun q o h => by simp only [G', h]
  have gh : ∀ q o, G' q = some o → H q = some o := fun q o h => by
    simp only [G'] at h
    cases z : W q with
    | some u => rw [z] at h; cases h; exact k.sub _ _ z
    | none => rw [z] at h; simp only at h; split at h
              · exact h
              · cases h
  have gt : ∀ q, ((∃ ps, H q = some (.tbl ps)) ∨ (∃ r, H q = some (LamX.CodeO q r))) → G' q = H q := fun q h => by
    simp only [G']
    cases z : W q with
    | some u => simp only; exact (k.sub _ _ z).symm
    | none => simp only; rw [if_pos h]
  have gn : ∀ q vs, W q = none → H q = some (.lst vs) → G' q = none := fun q vs h1 h2 => by
    simp only [G', h1]
    rw [if_neg]
    rintro (⟨ps, e⟩ | ⟨r, e⟩)
    · rw [h2] at e; cases e
    · rw [h2] at e; cases e
  refine ⟨G', ⟨c, i, m, cs, { k with sub := gh, gs := gn _ _ k.gs k.hs, gc := gn _ _ k.gc k.hc }, l⟩, fun n' H' v => ?_⟩
  obtain ⟨c', i', m', cs', k', l'⟩ := v
  have wn : ∀ q, G' q = none → W q = none := fun q h => by
    cases z : W q with
    | none => rfl
    | some u => rw [gw _ _ z] at h; cases h
  refine ⟨⟨c', i', m', cs', { k' with sub := fun q o h => k'.sub _ _ (gw _ _ h), gs := wn _ k'.gs, gc := wn _ k'.gc }, l'⟩, hnt, fun p hp => ?_⟩
  obtain ⟨ps, h1, h2, h3⟩ := ht p hp
  refine ⟨ps, k'.sub _ _ ((gt _ (.inl ⟨_, h1⟩)).trans h1), h2, fun pos cv hc => ?_⟩
  obtain ⟨c, e1, e2⟩ := h3 pos cv hc
  exact ⟨c, e1, k'.sub _ _ ((gt _ (.inr ⟨_, e2⟩)).trans e2)⟩
theorem sp_draw2 {mg : Str → Option Value} {K : PySem.W.Frag} {TB : List (Addr × Str)} {vs : List V} {H : Hp} {Q : VK} {E : XK} (h : spT mg K TB thW (fun s (m : Int × Unit) => [rSt s, rInt m.1]) (fun m => M.draw m.1) (Fz rInt) vs H Q E) : spDraw2 vs H Q E := by
  obtain ⟨s, m, G, W, n, Φ, Ψ, r, gw, t, ⟨⟨h1, h2, h3⟩, hm⟩, k, x⟩ := h
  cases r with
  | cons a r =>
    cases r with
    | cons b r =>
      cases r
      have a : _ = V.ref s := a
      have b : _ = V.int m.1 := b
      subst a b
      obtain ⟨G', v', back⟩ := big_view2 t
      exact ⟨s, n, G', m.1, rfl, v', h1, h2, h3, fun d H' d0 d1 v => k d (n + 1) (.int d) G W H' (hm d d0 d1) (Stp.refl gw) (back _ _ v) rfl trivial⟩
theorem th_start2 {TB : List (Addr × Str)} {s : Addr} {H H' : Hp} (v : View2 s 0 H H') (t : LamX.Tabs TB H) : (thW (TB := TB) s).T 0 (fun _ => none) H' := by
  have sub := v.sub
  obtain ⟨c, i, n, cs, k, l⟩ := v
  exact ⟨⟨c, i, n, cs, { k with sub := fun _ _ h => (nomatch h), gs := rfl, gc := rfl }, l⟩, fun _ _ h => (nomatch h), t.ext sub⟩
theorem law_T2 {mg : Str → Option Value} {K : PySem.W.Frag} {TB : List (Addr × Str)} {δ : Type} {vs : List V} {H : Hp} {Q : VK} {E : XK} {N : List Str} {t : TS} {m : M (Fl Bool δ)} {ψ : δ → List SL} (h : spLawT K TB vs H Q E)
    (hb : ∀ (s : Addr) (B G0 : Hp), SV ⟨TB, thW s, mg, K, B, G0, fun _ => E, []⟩ (Fz rBl) t ((SL.un :: .fr (rSt s) :: List.replicate (N.length - 2) .un)) m ψ)
    (hm : ∀ Ψ, M.ret m (fun b _ => b = true) Ψ 0) (hN : 2 ≤ N.length := by decide) :
    tSeq (tAsg (tCall (spStart2 K) [] E0 (tCons (tVar 0) tNil)) (gName 1)) t { nx := fun _ H' => Q .non H', rt := Q } (start N vs) H := by
  obtain ⟨a, ns, rfl, hS, hl, ht, hQ⟩ := h
  refine ⟨.ref a, rfl, a, ns, rfl, hS, hl, fun s H' v => ?_⟩
  have T := th_start2 v ht
  have e : (start N [V.ref a]).set 1 (some (.ref s)) = some (.ref a) :: some (.ref s) :: List.replicate (N.length - 2) none := by
    unfold L2.start
    match N, hN with
    | _ :: _ :: N, _ => simp [List.replicate_succ]
  show t { nx := fun _ H' => Q .non H', rt := Q } ((start N [V.ref a]).set 1 (some (.ref s))) H'
  rw [e]
  have un : ∀ {i : Nat} {x : SL}, (List.replicate (N.length - 2) SL.un)[i]? = some x → x = .un := fun {i x} h => by
    rw [List.getElem?_replicate] at h
    split at h
    · exact (Option.some.inj h).symm
    · cases h
  have no : ∀ {i : Nat} {d : CP}, (SL.un :: .fr (rSt s) :: List.replicate (N.length - 2) .un)[i]? = some (.ow d) → False := fun {i d} h => by
    match i with
    | 0 => simp at h
    | 1 => simp at h
    | i + 2 => exact absurd (un (show (List.replicate (N.length - 2) SL.un)[i]? = some (.ow d) by simpa using h)) (by simp)
  refine hb s (fun _ => none) (fun _ => none) _ _ (fun _ => none) (fun _ => none) H' 0 _ (fun _ _ => False) ⟨by simp, fun {i x} h n => ?_, fun {i j c d a} _ h _ _ _ => (no h).elim⟩ ⟨T, Same.refl _, Same.refl _, Same.refl _, fun _ _ h => (nomatch h)⟩ (hm _) ?_ ?_ ?_
  · match i with
    | 0 => simp at h; exact absurd h.symm n
    | 1 => simp at h; subst h; exact ⟨.ref s, rfl, rfl⟩
    | i + 2 => exact absurd (un (show (List.replicate (N.length - 2) SL.un)[i]? = some x by simpa using h)) n
  · intro _ _ _ _ _ _ z; exact z.elim
  · intro r n v G W H z _ hv
    have z : r = true := z
    subst z
    have hv : v = .bl true := hv
    subst hv
    exact hQ H
  · intro _ _ _ _ _ _ _ _ z; exact z.elim
end VL

namespace VL
open PySem PySem.Spec PyProof.Rows L2
/-! ### a row of a new table, changed in its place at a def's end -/
structure MutR (g : List (List Str)) (r : List Str) (g' : List (List Str)) : Prop where
  len : g'.length = g.length
  at_ : ∀ (t : Nat) (x : List Str), g'[t]? = some x → g[t]? = some x ∨ x = r
def M.mutR {α : Type} (g : List (List Str)) (i : Int) (mb : M Str) (mc : List Str → M Int) : M (Fl (List (List Str)) α) := fun Φ Ψ n =>
  ∃ row, atI g i = some row ∧ M.bind mb (fun w => M.bind (mc row) fun j => fun Φ _ n => ∃ k, ixN row.length j = some k ∧ ∀ g', MutR g (row.set k w) g' → Φ (Fl.rt g') n) Φ Ψ n
section
variable {C : Cfg} {α : Type} {ps : List SL} {ta tb tc : TE} {tt : TT}
theorem mut_rows {B G : Hp} {q : Addr} {us : List V} {r : List Str} (hB : B q = none) (hr : reps rStr r us G) : ∀ {g : List (List Str)} {vs : List V}, reps (rNw B (rLst rStr)) g vs G → ∃ g', MutR g r g' ∧ reps (rNw B (rLst rStr)) g' vs (upd G q (.lst us))
  | [], [], _ => ⟨[], ⟨rfl, fun t x h => .inl h⟩, trivial⟩
  | x :: g, v :: vs, h => by
    obtain ⟨g', m, h2⟩ := mut_rows hB hr h.2
    obtain ⟨p, rfl, hp, p', vs', e, h3, h4⟩ := h.1
    cases e
    by_cases z : p = q
    · subst z
      refine ⟨r :: g', ⟨by simp [m.len], fun t y hy => ?_⟩, ⟨p, rfl, hp, p, us, rfl, upd_same, by rw [reps_strs' hr]; exact reps_strs_of r⟩, h2⟩
      cases t with
      | zero => simp at hy; exact .inr hy.symm
      | succ t => simp at hy ⊢; exact m.at_ t y hy
    · refine ⟨x :: g', ⟨by simp [m.len], fun t y hy => ?_⟩, ⟨p, rfl, hp, p, vs', rfl, by rw [upd_ne z]; exact h3, by rw [reps_strs' h4]; exact reps_strs_of x⟩, h2⟩
      cases t with
      | zero => simp at hy ⊢; exact .inl hy
      | succ t => simp at hy ⊢; exact m.at_ t y hy
theorem atI_of {β : Type} {xs : List β} {i : Int} {x : β} (h : atI xs i = some x) : ∃ j, ixN xs.length i = some j ∧ xs[j]? = some x := by
  unfold atI at h
  cases e : ixN xs.length i with
  | none => rw [e] at h; cases h
  | some j => rw [e] at h; exact ⟨j, rfl, h⟩
theorem sv_mutret {gi li : Nat} {g : List (List Str)} {m : M Bool} {ma : M Int} {mb : M Str} {mc : List Str → M Int} {ψ : α → List SL} (hg : ps[gi]? = some (.fr (rGr C.B g))) (hl : ps[li]? = some .un) (hp : PxLe C.px ps) (hGB : Same C.G0 C.B)
    (ht : VT C tt ps m) (ha : VE C ta ps ma (Fz rInt)) (hb : ∀ row, VE C tb (ps.set li (.fr (rLst rStr row))) mb (Fz rStr)) (hc : ∀ row, VE C tc (ps.set li (.fr (rLst rStr row))) (mc row) (Fz rInt)) (hpx : C.px = []) :
    SV C (Fz (rGr C.B)) (tSeq (tIfS tt (tSeq (tAsg (tOp (rIxL C.K) (tVar gi) ta) (gName li)) (tAsg tb (gSub (tVar li) tc rSetL))) tNext) (tRet (tVar gi))) ps (M.bind m fun c => M.ite c (M.bind ma fun i => M.mutR g i mb mc) (M.rt g)) ψ := by
  intro D σ G W H n Φ Ψ e st hm k r x
  have hne : gi ≠ li := fun z => by rw [z, hl] at hg; cases hg
  refine ht σ G W H n _ (fun c n' => M.ite c (M.bind ma fun i => M.mutR g i mb mc) (M.rt g) Φ Ψ n') Ψ e st hm (fun c n0 G0 W0 H0 hm0 s0 t0 => ?_) fun y n' cls d G' W' H' hΨ q s t => x y n' cls d σ G' W' H' hΨ q ((e.stp s).x hp) (st.stp s t)
  have e0 := e.stp s0
  have st0 := st.stp s0 t0
  obtain ⟨v, hσ, hv⟩ := e0.at_ hg (by simp)
  cases c with
  | false => exact iteF ⟨v, hσ, r g n0 v G0 W0 H0 hm0 st0 hv⟩
  | true =>
    have hm0 : M.bind ma (fun i => M.mutR g i mb mc) Φ Ψ n0 := hm0
    refine iteT ⟨v, hσ, ?_⟩
    refine ha σ G0 W0 H0 n0 _ (fun i n' => M.mutR g i mb mc Φ Ψ n') Ψ e0 st0 hm0 ?_ fun y n' cls d G' W' H' hΨ q s t => x y n' cls d σ G' W' H' hΨ q ((e0.stp s).x hp) (st0.stp s t)
    rintro i n1 iv G1 W1 H1 ⟨row, hrow, hm1⟩ s1 t1 rfl _
    have e1 := e0.stp s1
    have st1 := st0.stp s1 t1
    obtain ⟨v', hσ', p, vs, rfl, hGp, hvs⟩ := e1.at_ hg (by simp)
    rw [hσ] at hσ'
    cases hσ'
    obtain ⟨j, hj, hgj⟩ := atI_of hrow
    obtain ⟨rv, hrv, q, rfl, hBq, q', us, eq', hGq, hus⟩ := hvs.get hgj
    cases eq'
    refine ⟨p, vs, i, .ref q, rfl, rfl, SqL.of (st1.gh _ _ hGp), by unfold atI; rw [hvs.len, hj]; exact hrv, ?_⟩
    have e2 : Ee C.B (ps.set li (.fr (rLst rStr row))) (σ.set li (some (.ref q))) G1 W1 := e1.setF (p := rLst rStr row) ⟨q, us, rfl, hGq, hus⟩
    refine hb row _ G1 W1 H1 n1 _ (fun w n' => M.bind (mc row) (fun j => fun (Φ : Fl (List (List Str)) α → Nat → Prop) _ n => ∃ k, ixN row.length j = some k ∧ ∀ g', MutR g (row.set k w) g' → Φ (Fl.rt g') n) Φ Ψ n') Ψ e2 st1 hm1 ?_ fun y n' cls d G' W' H' hΨ q s t => x y n' cls d _ G' W' H' hΨ q (.inl hpx) (st1.stp s t)
    rintro w n3 wv G3 W3 H3 hm3 s3 t3 rfl _
    have e3 := e2.stp s3
    have st3 := st1.stp s3 t3
    have hlen : li < σ.length := by
      rw [e.len]; exact (List.getElem?_eq_some_iff.mp hl).1
    refine ⟨.ref q, List.getElem?_set_self hlen, ?_⟩
    refine hc row _ G3 W3 H3 n3 _ (fun j n' => ∃ k, ixN row.length j = some k ∧ ∀ g', MutR g (row.set k w) g' → Φ (Fl.rt g') n') Ψ e3 st3 hm3 ?_ fun y n' cls d G' W' H' hΨ q s t => x y n' cls d _ G' W' H' hΨ q (.inl hpx) (st3.stp s t)
    rintro jj n4 jv G4 W4 H4 ⟨kk, hk, hm4⟩ s4 t4 rfl _
    have st4 := st3.stp s4 t4
    have s14 := s3.trans s4
    have hGq4 := s14.g _ _ hGq
    have hGp4 := s14.g _ _ hGp
    refine ⟨q, us, jj, kk, rfl, rfl, st4.gh _ _ hGq4, by rw [hus.len]; exact hk, ?_⟩
    have hg4 : reps rStr (row.set kk w) (us.set kk (.str w)) G4 := (hus.up s14.g).set kk rfl
    obtain ⟨g', mg', hg'⟩ := mut_rows (B := C.B) (q := q) hBq hg4 (hvs.up s14.g)
    have hpq : p ≠ q := by
      rintro rfl
      rw [hGp] at hGq
      cases hGq
      rw [reps_strs' hus, List.getElem?_map] at hrv
      cases z : row[j]? with
      | none => rw [z] at hrv; cases hrv
      | some y => rw [z] at hrv; cases hrv
    have hW4 := st4.gw _ _ hGq4
    have hG0 : C.G0 q = none := hGB.free hBq
    have st5 : Stt C n4 (upd G4 q (.lst (us.set kk (.str w)))) (upd W4 q (.lst (us.set kk (.str w)))) (upd H4 q (.lst (us.set kk (.str w)))) :=
      ⟨C.Θ.put st4.t hW4 ⟨(fun _ h => nomatch h), (fun _ h => nomatch h)⟩ ⟨(fun _ h => nomatch h), (fun _ h => nomatch h)⟩, same_two st4.gw, st4.bw.unseen hBq, st4.g0.unseen hG0, fun z o hz => by
        by_cases y : z = q
        · subst y; exact .inr hBq
        · rw [upd_ne y] at hz; exact st4.gb z o hz⟩
    refine ⟨.ref p, by rw [List.getElem?_set_ne hne.symm]; exact hσ, ?_⟩
    exact r g' n4 _ _ _ _ (hm4 g' mg') st5 ⟨p, vs, rfl, by rw [upd_ne hpq]; exact hGp4, hg'⟩
end
end VL

namespace L2
open PySem PySem.Spec PyProof.Rows
theorem pi_listF {X : Cx} {K : PySem.W.Frag} {tg l : Expr} {tl : TE} (hk : X.K = K) (hl : PE X l tl) : PI X tg l (iList K tl) := by subst hk; exact pi_list hl
theorem pi_tupF {X : Cx} {K : PySem.W.Frag} {tg l : Expr} {tl : TE} (hk : X.K = K) (hl : PE X l tl) : PI X tg l (iTup K tl) := by subst hk; exact pi_tup hl
end L2
namespace VL
open PySem PySem.Spec PyProof.Rows L2
/-- a class of the text -/
structure ClsI (K : PySem.W.Frag) (mg : Str → Option Value) (x : Str) (fs : List Str) where
  C : Addr
  g : mg x = some (.ref C)
  cl : Cls K C
  na : ∀ f ∈ fs, NoAttr K C f
abbrev rAt (x : Addr) : VP := ⟨fun v _ => v = .ref x, fun _ h => h⟩
theorem nm_ne {fl : List (Str × VP)} {f : Str} (h : (fl.map (·.1)).all (fun g => !decide (g = f)) = true) : ∀ q ∈ fl, q.1 ≠ f := fun q hq e => by
  have := List.all_eq_true.mp h q.1 (List.mem_map.mpr ⟨q, hq, rfl⟩)
  rw [e] at this
  simp at this
def M.seqI {ρ α β : Type} (m : M (Fl ρ α)) (f : α → M β) : M β := fun Q E n => m (fun fl n => match fl with | .nx a => f a Q E n | .rt _ => False) E n
section
variable {C : Cfg} {α β γ δ : Type} {ps : List SL} {Cl x : Addr} {t u : TS}
/-- a part of an __init__ -/
def SI (C : Cfg) (Cl x : Addr) {β : Type} (ts : TS) (ps : List SL) (m : M β) (fl : β → List (Str × VP)) : Prop :=
  ∀ (D : Ends) (σ : L2.St) G W H n Φ Ψ, Ee C.B ps σ G W → Stt C n G W H → m Φ Ψ n →
    (∀ b n' σ' G' W' H' o', Φ b n' → Stp C.G0 (del C.B x) G' W' → C.Θ.T n' W' H' → W' x = some o' → G' x = none → InsP Cl (fl b) o' G' → D.nx σ' H') →
    (∀ y n cls d σ G W H, Ψ y n → XRep C.mg y cls d G W H → Ex_ C.B C.px σ G W → Stt C n G W H → C.Ew σ cls d H) → ts D σ H
theorem si_seq {m : M (Fl Unit δ)} {ψ : δ → List SL} {f : δ → M β} {fl : β → List (Str × VP)} (h : SV C (Fz rNon) t ps m ψ) (h2 : ∀ d, SI C Cl x u (ψ d) (f d) fl) : SI C Cl x (tSeq t u) ps (M.seqI m f) fl := by
  intro D σ G W H n Φ Ψ e st hm k xt
  exact h { D with nx := u D } σ G W H n _ Ψ e st hm (fun d n1 σ1 G1 W1 H1 hΦ _ e1 st1 => h2 d D σ1 G1 W1 H1 n1 Φ Ψ e1 st1 hΦ k xt) (fun _ _ _ _ _ _ z => z.elim) xt
theorem si_end {dx : Addr} {m : M β} {fl : β → List (Str × VP)} (hx : C.B x = some (.ins Cl dx [])) (hg : C.G0 x = none) (hall : ps.all SL.isF = true) (hGB : Same C.G0 C.B) (h : SF { C with B := fun _ => none, G0 := fun _ => none } Cl x t ps [] m fl) : SI C Cl x t ps (M.nox m) fl := by
  intro D σ G1 W1 H1 n1 Φ Ψ e1 st1 hm k xt
  have hw1 : W1 x = some (.ins Cl dx []) := st1.bw _ _ hx
  have hg1 : G1 x = none := by
    cases z : G1 x with
    | none => rfl
    | some u =>
      rcases st1.gb _ _ z with h | h
      · rw [hg] at h; cases h
      · rw [hx] at h; cases h
  have e1' : Ee (fun _ => none) ps σ G1 W1 := ⟨e1.len, fun {i s} h n => by
    obtain ⟨v, hv, r⟩ := e1.at_ h n
    refine ⟨v, hv, ?_⟩
    cases s with
    | ow c => exact absurd h (isF_no hall i c)
    | un => trivial
    | fr _ => exact r
    | bo p => exact absurd h (isF_nb hall i p), fun {i j c d' a'} _ h1 _ _ _ => absurd h1 (isF_no hall i c)⟩
  refine h D σ G1 W1 H1 n1 Φ _ e1' ⟨st1.t, st1.gw, fun _ _ h => (nomatch h), fun _ _ h => (nomatch h), fun _ _ _ => .inr rfl⟩ hw1 hg1 ⟨dx, [], rfl, fun _ h => (nomatch h), fun _ _ => rfl, Nat.le_refl _⟩ hm ?_
  intro b n2 σ2 G2 W2 H2 o2 hb2 s2 st2 hw2 hg2 hi2
  refine k b n2 σ2 G2 W2 H2 o2 hb2 ⟨st1.g0.trans s2.g, fun q u h => ?_, s2.gw, fun q u h => ?_⟩ st2.t hw2 hg2 hi2
  · have hq : q ≠ x := fun z => by subst z; rw [del_at] at h; cases h
    rw [del_ne hq] at h
    refine s2.w _ _ ?_
    rw [del_ne hq]; exact st1.bw _ _ h
  · rcases s2.ng q u h with h | h
    · rcases st1.gb q u h with h | h
      · exact .inl h
      · exact .inr (del_none h)
    · by_cases z : q = x
      · subst z; exact .inr del_at
      · rw [del_ne z] at h; exact .inr (by rw [del_ne z]; exact st1.bw.free h)
theorem sf_conv {fl0 : List (Str × VP)} {m : M γ} {fl1 : γ → List (Str × VP)} {fl : β → List (Str × VP)} (g : γ → β) (h : SF C Cl x t ps fl0 m fl1) (hf : ∀ c, fl (g c) = fl1 c := by intro _; rfl) : SF C Cl x t ps fl0 (M.bind m fun c => M.pure (g c)) fl := by
  intro D σ G W H n Φ o e st hw hg hi hm k
  exact h D σ G W H n _ o e st hw hg hi hm fun d n' σ' G' W' H' o' hd s st' hw' hg' hi' => k (g d) n' σ' G' W' H' o' hd s st' hw' hg' (by rw [hf]; exact hi')
end
theorem fn_J {mg : Str → Option Value} {K : PySem.W.Frag} {TB : List (Addr × Str)} {α β : Type} {Cl : Addr} {Rs : α → List VP} {F : α → M β} {c : β → CP} {fl : β → List (Str × VP)} {vs : List V} {H : Hp} {Q : VK} {E : XK} {N : List Str} {t : TS} {m : α → M β} (h : spI mg K TB Cl Rs F c vs H Q E)
    (hF : ∀ a, F a = m a) (hc : ∀ b, c b = cIns Cl (fl b))
    (hb : ∀ (Θ : Th TB) (B G0 : Hp) (x dx : Addr) (a : α), B x = some (.ins Cl dx []) → G0 x = none → Same G0 B → SI ⟨TB, Θ, mg, K, B, G0, fun _ => E, []⟩ Cl x t (slots N (rAt x :: Rs a)) (m a) fl) :
    t { nx := fun _ H' => Q .non H', rt := Q } (start N vs) H := by
  obtain ⟨Θ, a, x, dx, us, G, W, n, Φ, Ψ, rfl, r, gw, wx, t0, hm, k, xt⟩ := h
  rw [hF] at hm
  have gx : G x = none := gw.free wx
  refine hb Θ (upd W x (.ins Cl dx [])) G x dx a upd_same gx (gw.trans (same_upd wx)) _ (start N (.ref x :: us)) G (upd W x (.ins Cl dx [])) H n Φ Ψ (ee_start (.cons rfl r)) (stt_start rfl rfl (gw.trans (same_upd wx)) t0) hm ?_ ?_
  · intro b n2 σ2 G2 W2 H2 o2 hb2 s2 t2 hw2 hg2 hi2
    have dl : ∀ q u, W q = some u → del (upd W x (.ins Cl dx [])) x q = some u := fun q u h => by
      have hq : q ≠ x := fun z => by subst z; rw [wx] at h; cases h
      rw [del_ne hq, upd_ne hq]; exact h
    refine k b n2 (.ref x) G2 W2 H2 hb2 ⟨s2.g, fun q u h => s2.w _ _ (dl q u h), s2.gw, fun q u h => (s2.ng q u h).imp id fun z => ?_⟩ t2 ⟨x, o2, rfl, hw2, hg2, wx, by rw [hc]; exact hi2⟩ (fun p e => by cases e; exact wx) rfl
    cases e : W q with
    | none => rfl
    | some v => rw [dl q v e] at z; cases z
  · intro y n' cls d σ G' W' H' hΨ q _ st
    refine xt y n' cls d G' W' H' hΨ q ⟨st.g0, (same_upd wx).trans st.bw, st.gw, fun q u h => ?_⟩ st.t
    rcases st.gb q u h with h | h
    · exact .inl h
    · exact .inr ((same_upd wx).free h)
/-! ### shut parts -/
@[irreducible] def Mi.sortSet (xs : List Str) : M (List Str) := M.sortSet xs
@[irreducible] def Mi.insert {α : Type} (xs : List α) (j : Int) (a : α) : M (List α) := M.insert xs j a
@[irreducible] def Mi.dget {α : Type} (d : List (Str × α)) (k : Str) : M α := M.dget d k
@[irreducible] def Mi.comp2 {β δ γ : Type} (xs : List β) (f : β → M (List δ)) (g : β → δ → M (Option γ)) : M (List γ) := M.comp2 xs f g
@[irreducible] def Mi.exch {α : Type} (xss : List (List α)) : M (List (List α)) := M.exch xss
@[irreducible] def Mi.two {α : Type} (xs : List α) : M (α × α) := M.two xs
section
variable {α β γ δ σ ρ : Type} {Ψ : Exc → Nat → Prop} {n : Nat}
theorem sortSet_i {xs : List Str} {Φ : List Str → Nat → Prop} (h : xs.length ≤ 1000) (h2 : (distS xs).length < 64) (k : ∀ ys : List Str, ys.Perm (distS xs) → ys.Nodup → sortedS ys = true → Φ ys n) : Mi.sortSet xs Φ Ψ n := by delta Mi.sortSet; exact ⟨h, h2, k⟩
theorem insert_i {xs : List α} {j : Int} {a : α} {Φ : List α → Nat → Prop} (h : xs.length ≤ 1000) (h0 : 0 ≤ j) (h1 : j ≤ xs.length) (k : Φ (xs.take j.toNat ++ [a] ++ xs.drop j.toNat) n) : Mi.insert xs j a Φ Ψ n := by
  delta Mi.insert; exact ⟨⟨small1000 h, h0, by omega⟩, k⟩
theorem dget_i {d : List (Str × α)} {k : Str} {a : α} {Φ : α → Nat → Prop} (h : getD d k = some a) (q : Φ a n) : Mi.dget d k Φ Ψ n := by delta Mi.dget; exact ⟨a, h, q⟩
theorem exch_i {xss : List (List α)} {m : Nat} {Φ : List (List α) → Nat → Prop} (h0 : 0 < xss.length) (h1 : xss.length ≤ 10) (h2 : 0 < m) (h3 : m ≤ 1000) (h4 : ∀ r ∈ xss, r.length = m) (k : Φ (colsL xss m) n) : Mi.exch xss Φ Ψ n := by delta Mi.exch; exact ⟨m, ⟨h0, h1, h2, h3, h4⟩, k⟩
theorem two_i {a b : α} {Φ : α × α → Nat → Prop} (k : Φ (a, b) n) : Mi.two [a, b] Φ Ψ n := by delta Mi.two; exact ⟨a, b, rfl, k⟩
theorem compA_pure {f : β → M (Option γ)} (g : β → Option γ) : ∀ {xs : List β} {acc : List γ} {Φ : List γ → Nat → Prop} {n : Nat}, (∀ x ∈ xs, ∀ (Φ' : Option γ → Nat → Prop) n', Φ' (g x) n' → f x Φ' (fun _ _ => False) n') → Φ (acc ++ xs.filterMap g) n → M.compA f acc xs Φ (fun _ _ => False) n
  | [], acc, Φ, n, _, k => by
    rw [List.filterMap_nil, List.append_nil] at k
    exact k
  | x :: xs, acc, Φ, n, hf, k => by
    refine hf x List.mem_cons_self _ n ?_
    refine compA_pure g (fun y hy => hf y (List.mem_cons_of_mem _ hy)) ?_
    rw [List.filterMap_cons] at k
    cases e : g x with
    | none => rw [e] at k; simpa using k
    | some y => rw [e] at k; simpa using k
/-- two clauses that draw nothing -/
theorem comp2_pure {f : β → M (List δ)} {h : β → δ → M (Option γ)} {xs : List β} {Φ : List γ → Nat → Prop} (ys : β → List δ) (g : β → δ → Option γ) (hl : xs.length ≤ 1000) (hy : ∀ x ∈ xs, (ys x).length ≤ 1000)
    (hf : ∀ x ∈ xs, ∀ (Φ' : List δ → Nat → Prop) n', Φ' (ys x) n' → f x Φ' (fun _ _ => False) n')
    (hg : ∀ x ∈ xs, ∀ d ∈ ys x, ∀ (Φ' : Option γ → Nat → Prop) n', Φ' (g x d) n' → h x d Φ' (fun _ _ => False) n')
    (hk : Φ (xs.flatMap fun x => (ys x).filterMap (g x)) n) : Mi.comp2 xs f h Φ Ψ n := by
  delta Mi.comp2
  refine ⟨hl, ?_⟩
  have go : ∀ (xs : List β) (acc : List γ), (∀ x ∈ xs, (ys x).length ≤ 1000) → (∀ x ∈ xs, ∀ (Φ' : List δ → Nat → Prop) n', Φ' (ys x) n' → f x Φ' (fun _ _ => False) n') →
      (∀ x ∈ xs, ∀ d ∈ ys x, ∀ (Φ' : Option γ → Nat → Prop) n', Φ' (g x d) n' → h x d Φ' (fun _ _ => False) n') → Φ (acc ++ xs.flatMap fun x => (ys x).filterMap (g x)) n → M.comp2A f h acc xs Φ (fun _ _ => False) n := by
    intro xs
    induction xs with
    | nil => intro acc _ _ _ k; rw [List.flatMap_nil, List.append_nil] at k; exact k
    | cons x xs ih =>
      intro acc hy hf hg k
      refine hf x List.mem_cons_self _ n ⟨hy x List.mem_cons_self, ?_⟩
      refine compA_pure (g x) (hg x List.mem_cons_self) ?_
      refine ih _ (fun y q => hy y (List.mem_cons_of_mem _ q)) (fun y q => hf y (List.mem_cons_of_mem _ q)) (fun y q => hg y (List.mem_cons_of_mem _ q)) ?_
      rw [List.flatMap_cons] at k
      rw [List.append_assoc]; exact k
  exact go xs [] hy hf hg (by rw [List.nil_append]; exact hk)
end
end VL

namespace VL
open PySem PySem.Spec PyProof.Rows L2
/-! ### the head's facts with the getters of properties -/
structure PrD where
  cls : Str
  prop : Str
  qual : Str
  st : Stmt
def prAt (K : PySem.W.Frag) (c f : Str) : Addr := match PySem.W.findIn K (.ref (He.ga K c)) f with
  | some (some (.ref p)) => p
  | _ => 0
def prFn (K : PySem.W.Frag) (c f : Str) : Addr := match PySem.W.recIn K (prAt K c f) "property" with
  | some (.ref g :: _) => g
  | _ => 0
def PrD.obs (K : PySem.W.Frag) (d : PrD) : He.FnW := match K.lookup (prFn K d.cls d.prop) with
  | some ⟨_, _, .func fd, _⟩ => some (fd.name, fd.qualname, fd.params, fd.body, fd.scope, fd.globals, fd.closure, fd.builtins)
  | _ => none
def PrD.val (d : PrD) : He.FnW := some (d.prop, d.qual, defArgs d.st, .stmts (defBody d.st), defScope d.st, mainGlobals, [], builtinsNs)
def PrD.ok1 (K : PySem.W.Frag) (d : PrD) : Bool := He.eqO (PySem.W.findIn K (.ref (He.ga K d.cls)) d.prop) (some (some (.ref (prAt K d.cls d.prop)))) && (He.eqO (PySem.W.specialIn K (.ref (prAt K d.cls d.prop)) "__get__") (some (some (.builtin "property.__get__"))) &&
  (decide (PySem.W.takesIn K (.ref (prAt K d.cls d.prop)) = some true) && (match PySem.W.recIn K (prAt K d.cls d.prop) "property" with | some (.ref g :: _) => true | _ => false)))
def PrD.ok2 (K : PySem.W.Frag) (d : PrD) : Bool := PySem.W.keepIn K (.ref (prFn K d.cls d.prop)) && (match K.lookup (prFn K d.cls d.prop) with
  | some ⟨_, _, .func fd, _⟩ => PySem.W.codeIn K fd.code d.qual && (He.dflB K fd.defaults [] && He.kwdB K fd.kwdefaults [])
  | _ => false)
theorem PrD.prop_ok {K : PySem.W.Frag} {d : PrD} (h : d.ok1 K = true) : PropOf K (He.ga K d.cls) d.prop (prAt K d.cls d.prop) (prFn K d.cls d.prop) := by
  obtain ⟨h1, h2⟩ := He.ba h
  obtain ⟨h3, h4⟩ := He.ba h2
  obtain ⟨h5, h6⟩ := He.ba h4
  refine ⟨He.eqO_ok h1, He.eqO_ok h3, of_decide_eq_true h5, ?_⟩
  unfold prFn
  cases e : PySem.W.recIn K (prAt K d.cls d.prop) "property" with
  | none => rw [e] at h6; cases h6
  | some l =>
    rw [e] at h6
    cases l with
    | nil => cases h6
    | cons v r =>
      cases v with
      | ref g => exact ⟨r, rfl⟩
      | _ => cases h6
theorem PrD.fun_ok {K : PySem.W.Frag} {d : PrD} (e : d.obs K = d.val) (c : d.ok2 K = true) : ∃ fd, Fun K d.prop d.qual d.st (prFn K d.cls d.prop) fd := by
  obtain ⟨kp, c2⟩ := He.ba c
  unfold PrD.obs at e
  cases q : K.lookup (prFn K d.cls d.prop) with
  | none => rw [q] at c2; cases c2
  | some o =>
    obtain ⟨oc, od, dt, osl⟩ := o
    rw [q] at c2 e
    cases dt with
    | func fd =>
      obtain ⟨n1, n2, n3, n4, n5, n6, n7, n8, n9, n10, n11, n12, n13, n14, n15⟩ := fd
      have e2 : (some (n1, n2, n3, n4, n5, n6, n7, n15) : He.FnW) = some (d.prop, d.qual, defArgs d.st, .stmts (defBody d.st), defScope d.st, mainGlobals, [], builtinsNs) := e
      simp only [Option.some.injEq, Prod.mk.injEq] at e2
      obtain ⟨h1, h2, h3, h4, h5, h6, h7, h8⟩ := e2
      subst h1 h2 h3 h4 h5 h6 h7 h8
      have c3 : (PySem.W.codeIn K n13 d.qual && (He.dflB K n8 [] && He.kwdB K n9 [])) = true := c2
      obtain ⟨k1, k2⟩ := He.ba c3
      obtain ⟨k3, k4⟩ := He.ba k2
      exact ⟨_, He5.fun_of (kws := []) ⟨⟨oc, od, n8, n9, n10, n11, n12, n13, n14, osl, rfl, q, k1, He.dflB_ok k3, He.kwdB_ok k4⟩, kp⟩⟩
    | _ => cases c2
abbrev AlP : Type := He.AlX × (Bool × List He.FnW)
def obsP (n : Nat) (fa : List He.Fa) (fn : List He.DefD) (prs : List PrD) (tf : List He.Defn) (ex : PySem.W.Frag → Bool) (g : Addr → Option Obj) : AlP :=
  (He.obsX n fa fn [] tf ex g, (prs.all (fun d => d.ok1 (He.frT g (He.asD g n)) && d.ok2 (He.frT g (He.asD g n))), prs.map fun d => d.obs (He.frT g (He.asD g n))))
def valP (fn : List He.DefD) (prs : List PrD) (w : World) : AlP := (He.valX fn [] w, (true, prs.map PrD.val))
structure SaysP (fa : List He.Fa) (fn : List He.DefD) (prs : List PrD) (tf : List He.Defn) (ex : PySem.W.Frag → Bool) (w : World) (h : Heap) (K : PySem.W.Frag) : Prop where
  x : He.SaysX fa fn [] tf ex w h K
  ok : ∀ d ∈ prs, d.ok1 K = true ∧ d.ok2 K = true
  ob : prs.map (fun d => d.obs K) = prs.map PrD.val
def hookP (n : Nat) (fa : List He.Fa) (fn : List He.DefD) (prs : List PrD) (tf : List He.Defn) (ex : PySem.W.Frag → Bool) : PySem.W.Hook where
  α := AlP
  obs := fun s => obsP n fa fn prs tf ex s.heap.get?
  val := fun w => valP fn prs w
  says := fun w h => ∃ K : PySem.W.Frag, K.In h ∧ SaysP fa fn prs tf ex w h K
  of := fun w s e => by
    have e1 := congrArg (fun z : AlP => z.1) e
    have e2 := congrArg (fun z : AlP => z.2.1) e
    have e3 := congrArg (fun z : AlP => z.2.2) e
    exact ⟨_, He.frT_in, He.saysX_of e1, fun d hd => He.ba (List.all_eq_true.mp e2 d hd), e3⟩
  keeps := fun _ _ _ ⟨K, hK, c⟩ k => ⟨K, PySem.W.Frag.In.keeps hK k, ⟨⟨c.x.t, c.x.more, c.x.hd, c.x.out, fun p hp => k _ _ (c.x.empty p hp)⟩, c.ok, c.ob⟩⟩
theorem obsP_eq {n : Nat} {fa : List He.Fa} {fn : List He.DefD} {prs : List PrD} {tf : List He.Defn} {ex : PySem.W.Frag → Bool} {g : Addr → Option Obj} {s : Shared} (h : ∀ a, g a = s.heap.get? a) : obsP n fa fn prs tf ex g = (hookP n fa fn prs tf ex).obs s := by
  have e : g = s.heap.get? := funext h
  rw [e] <;> rfl
theorem SaysP.pr {fa : List He.Fa} {fn : List He.DefD} {prs : List PrD} {tf : List He.Defn} {ex : PySem.W.Frag → Bool} {w : World} {h : Heap} {K : PySem.W.Frag} (c : SaysP fa fn prs tf ex w h K) (i : Nat) {d : PrD} (hd : prs[i]? = some d) :
    PropOf K (He.ga K d.cls) d.prop (prAt K d.cls d.prop) (prFn K d.cls d.prop) ∧ ∃ fd, Fun K d.prop d.qual d.st (prFn K d.cls d.prop) fd := by
  have hm := List.mem_of_getElem? hd
  obtain ⟨h1, h2⟩ := c.ok d hm
  refine ⟨PrD.prop_ok h1, PrD.fun_ok ?_ h2⟩
  have := congrArg (fun l : List He.FnW => l[i]?) c.ob
  simp only [List.getElem?_map, hd, Option.map_some, Option.some.injEq] at this
  exact this
end VL

namespace VL
open PySem PySem.Spec PyProof.Rows L2
section
variable (mg : Str → Option Value) (K : PySem.W.Frag) (TB : List (Addr × Str))
/-- .. a list of new lists, owned -/
def spGO {α β : Type} (Rs : α → List VP) (F : α → M β) (Rn : Hp → β → CP) : Sp := fun vs H Q E =>
  ∃ (Θ : Th TB) (a : α) (G W : Hp) (n : Nat) (Φ : β → Nat → Prop) (Ψ : Exc → Nat → Prop), RepL (Rs a) vs G ∧ Same G W ∧ Θ.T n W H ∧ F a Φ Ψ n ∧
    Kt ⟨TB, Θ, mg, K, W, G, fun _ => E, []⟩ (Ow (Rn W)) G W Q Φ ∧ Xt ⟨TB, Θ, mg, K, W, G, fun _ => E, []⟩ [] G W Ψ
end
theorem spGO_len {mg : Str → Option Value} {K : PySem.W.Frag} {TB : List (Addr × Str)} {α β : Type} {Rs : α → List VP} {F : α → M β} {Rn : Hp → β → CP} {ps : List Str} (h : ∀ a, (Rs a).length = ps.length := by intro _; rfl) : ∀ vs H Q E, spGO mg K TB Rs F Rn vs H Q E → vs.length = ps.length := by
  rintro vs H Q E ⟨_, a, _, _, _, _, _, r, _⟩
  rw [r.len, h]
theorem fn_GO {mg : Str → Option Value} {K : PySem.W.Frag} {TB : List (Addr × Str)} {α β δ : Type} {Rs : α → List VP} {F : α → M β} {Rn : Hp → β → CP} {vs : List V} {H : Hp} {Q : VK} {E : XK} {N : List Str} {t : TS} {m : α → M (Fl β δ)} {ψ : α → δ → List SL} (h : spGO mg K TB Rs F Rn vs H Q E)
    (hF : ∀ a, F a = M.ret (m a)) (hb : ∀ (Θ : Th TB) (B G0 : Hp) (a : α), Same G0 B → SV ⟨TB, Θ, mg, K, B, G0, fun _ => E, []⟩ (Ow (Rn B)) t (slots N (Rs a)) (m a) (ψ a)) : t { nx := fun _ H' => Q .non H', rt := Q } (start N vs) H := by
  obtain ⟨Θ, a, G, W, n, Φ, Ψ, r, gw, t1, hm, k, x⟩ := h
  rw [hF] at hm
  refine hb Θ W G a gw _ (start N vs) G W H n _ Ψ (ee_start r) (stt_start rfl rfl gw t1) hm (fun _ _ _ _ _ _ z => z.elim) (fun b n' v G' W' H' hΦ st q => k b n' v G' W' H' hΦ (stt_end rfl rfl st) st.t q (res_fre q)) fun y n' cls d σ G' W' H' hΨ q _ st => x y n' cls d G' W' H' hΨ q (stt_end rfl rfl st) st.t
section
variable {C : Cfg} {α β γ : Type} {ps : List SL} {ta : TA}
theorem ve_callO {Rs Rs' : α → List VP} {F : α → M β} {Rn : Hp → β → CP} {m : M α} {E : XK} (ha : VA C ta ps m Rs') (hn : ∀ {B W : Hp}, Same B W → ∀ {b o G}, (Rn W b).P o G → (Rn B b).P o G) (hR : ∀ a, Rs' a = Rs a := by intro _; rfl) : VE C (tCall (spGO C.mg C.K C.TB Rs F Rn) [] E ta) ps (M.bind m fun a => M.nox (F a)) (Ow (Rn C.B)) := by
  intro σ G W H n Q Φ Ψ e st hm k x
  refine va_eq ha hR σ G W H n _ (fun a n' => M.nox (F a) Φ Ψ n') Ψ e st hm (fun a n1 vs G1 W1 H1 hm1 s1 t1 r1 => ?_) x
  have st1 := st.stp s1 t1
  rw [List.append_nil]
  refine ⟨C.Θ, a, G1, W1, n1, Φ, fun _ _ => False, r1, st1.gw, st1.t, hm1, fun b n2 v G2 W2 H2 hΦ s2 t2 r2 f2 => ?_, fun _ _ _ _ _ _ _ h => h.elim⟩
  obtain ⟨p, o, rfl, h1, h2, h3, h4⟩ := r2
  exact (k.stp s1) b n2 _ G2 W2 H2 hΦ s2 t2 ⟨p, o, rfl, h1, h2, st1.bw.free h3, hn st1.bw h4⟩ f2
theorem gr_backO {B W : Hp} (e : Same B W) {b : List (List Str)} {o : HO} {G : Hp} (h : (cLst (rNw W (rLst rStr)) b).P o G) : (cLst (rNw B (rLst rStr)) b).P o G :=
  let ⟨vs, e1, h1⟩ := h; ⟨vs, e1, reps_imp (fun _ _ k => nw_back e k) h1⟩
end
@[irreducible] def Mi.inS (a z : Str) : M Bool := M.inS a z
@[irreducible] def Mi.niS (a z : Str) : M Bool := M.niS a z
theorem inS_i {Ψ : Exc → Nat → Prop} {n : Nat} {c : Nat} {z : Str} {Φ : Bool → Nat → Prop} (k : Φ (decide (c ∈ z.cps.toList)) n) : Mi.inS ⟨#[c]⟩ z Φ Ψ n := by delta Mi.inS; exact ⟨c, rfl, k⟩
theorem niS_i {Ψ : Exc → Nat → Prop} {n : Nat} {c : Nat} {z : Str} {Φ : Bool → Nat → Prop} (k : Φ (!decide (c ∈ z.cps.toList)) n) : Mi.niS ⟨#[c]⟩ z Φ Ψ n := by delta Mi.niS; exact ⟨c, rfl, k⟩
end VL

namespace VL
open PySem PySem.Spec PyProof.Rows L2
/-! ### a loop that seeks -/
section
variable {β ρ γ : Type} {Ψ : Exc → Nat → Prop} {n : Nat}
def found {ρ : Type} (Φ : Fl ρ Unit → Nat → Prop) (n : Nat) : Option ρ → Prop
  | some r => Φ (.rt r) n
  | none => Φ (.nx ()) n
theorem for_first {f : β → Unit → M (Fl ρ Unit)} {Φ : Fl ρ Unit → Nat → Prop} (p : β → Option ρ) : ∀ {xs : List β}, (∀ x ∈ xs, ∀ (Φ' : Fl ρ Unit → Nat → Prop) n', found Φ' n' (p x) → f x () Φ' Ψ n') → found Φ n (xs.findSome? p) → M.forL f xs () Φ Ψ n
  | [], _, k => k
  | x :: xs, hf, k => by
    refine hf x List.mem_cons_self _ n ?_
    rw [List.findSome?_cons] at k
    cases e : p x with
    | some r => rw [e] at k; exact k
    | none =>
      rw [e] at k
      exact for_first p (fun y hy => hf y (List.mem_cons_of_mem _ hy)) k
theorem fs_flatMap {α β γ : Type} (f : α → List β) (p : β → Option γ) : ∀ xs : List α, (xs.flatMap f).findSome? p = xs.findSome? fun x => (f x).findSome? p
  | [] => rfl
  | x :: xs => by
    rw [List.flatMap_cons, List.findSome?_append, List.findSome?_cons, fs_flatMap f p xs]
    cases (f x).findSome? p <;> rfl
theorem fs_map {α β γ : Type} (f : α → β) (p : β → Option γ) : ∀ xs : List α, (xs.map f).findSome? p = xs.findSome? fun x => p (f x)
  | [] => rfl
  | x :: xs => by
    rw [List.map_cons, List.findSome?_cons, List.findSome?_cons, fs_map f p xs]
theorem fs_congr {α γ : Type} {p q : α → Option γ} : ∀ {xs : List α}, (∀ x ∈ xs, p x = q x) → xs.findSome? p = xs.findSome? q
  | [], _ => rfl
  | x :: xs, h => by
    rw [List.findSome?_cons, List.findSome?_cons, h x List.mem_cons_self, fs_congr fun y hy => h y (List.mem_cons_of_mem _ hy)]
end
theorem ret_i {ρ α : Type} {m : M (Fl ρ α)} {Φ : ρ → Nat → Prop} {Ψ : Exc → Nat → Prop} {n : Nat} (k : m (fun fl n => match fl with | .nx _ => False | .rt r => Φ r n) Ψ n) : M.ret m Φ Ψ n := k
theorem seq_i {ρ α β : Type} {m : M (Fl ρ α)} {f : α → M (Fl ρ β)} {Φ : Fl ρ β → Nat → Prop} {Ψ : Exc → Nat → Prop} {n : Nat} (k : m (fun fl n => match fl with | .nx a => f a Φ Ψ n | .rt r => Φ (.rt r) n) Ψ n) : M.seq m f Φ Ψ n := k
theorem bind_i {α β : Type} {m : M α} {f : α → M β} {Φ : β → Nat → Prop} {Ψ : Exc → Nat → Prop} {n : Nat} (k : m (fun a n => f a Φ Ψ n) Ψ n) : M.bind m f Φ Ψ n := k
theorem nox_i {α : Type} {m : M α} {Φ : α → Nat → Prop} {Ψ : Exc → Nat → Prop} {n : Nat} (k : m Φ (fun _ _ => False) n) : M.nox m Φ Ψ n := k
theorem pure_i {α : Type} {a : α} {Φ : α → Nat → Prop} {Ψ : Exc → Nat → Prop} {n : Nat} (k : Φ a n) : M.pure a Φ Ψ n := k
theorem seq_post {ρ α β : Type} {m : M (Fl ρ α)} {f : α → M (Fl ρ β)} {Φ : Fl ρ β → Nat → Prop} {Ψ : Exc → Nat → Prop} {n : Nat} (P : α → Nat → Prop)
    (hm : ∀ Φ' : Fl ρ α → Nat → Prop, (∀ a n', P a n' → Φ' (.nx a) n') → (∀ r n', Φ (.rt r) n' → Φ' (.rt r) n') → m Φ' Ψ n) (hf : ∀ a n', P a n' → f a Φ Ψ n') : M.seq m f Φ Ψ n := hm _ hf (fun _ _ h => h)
theorem bind_post {α β : Type} {m : M α} {f : α → M β} {Φ : β → Nat → Prop} {Ψ : Exc → Nat → Prop} {n : Nat} (P : α → Nat → Prop)
    (hm : ∀ Φ' : α → Nat → Prop, (∀ a n', P a n' → Φ' a n') → m Φ' Ψ n) (hf : ∀ a n', P a n' → f a Φ Ψ n') : M.bind m f Φ Ψ n := hm _ hf
/-! ### whole numbers from .. to -/
def rngI (lo hi : Int) : List Int := (List.range (hi - lo).toNat).map fun k : Nat => lo + (k : Int)
theorem rngI_mem {lo hi x : Int} : x ∈ rngI lo hi ↔ lo ≤ x ∧ x < hi := by
  unfold rngI
  rw [List.mem_map]
  constructor
  · rintro ⟨k, hk, rfl⟩
    rw [List.mem_range] at hk
    omega
  · rintro ⟨h1, h2⟩
    exact ⟨(x - lo).toNat, by rw [List.mem_range]; omega, by omega⟩
theorem rngI_len {lo hi : Int} : (rngI lo hi).length = (hi - lo).toNat := by unfold rngI; rw [List.length_map, List.length_range]
theorem rng_ok {lo hi : Int} {Φ : List Int → Nat → Prop} {Ψ : Exc → Nat → Prop} {n : Nat} (h0 : -1000 ≤ lo) (h1 : lo ≤ 1000000) (h2 : -1000 ≤ hi) (h3 : hi ≤ 1000000) (k : Φ (rngI lo hi) n) : Mi.rng lo hi Φ Ψ n :=
  rng_i ⟨by omega, by omega, by omega, by omega⟩ k
theorem rngI_at {lo hi x : Int} {i : Nat} (h : (rngI lo hi)[i]? = some x) : x = lo + i ∧ (i : Int) < hi - lo := by
  unfold rngI at h
  rw [List.getElem?_map] at h
  obtain ⟨k, hk, rfl⟩ := Option.map_eq_some_iff.mp h
  obtain ⟨h1, h2⟩ := List.getElem?_eq_some_iff.mp hk
  rw [List.length_range] at h1
  rw [List.getElem_range] at h2
  subst h2
  exact ⟨rfl, by omega⟩
/-! ### tables as lists of lists -/
structure Grid (ws : List Str) (h w : Nat) (g : List (List Str)) : Prop where
  len : g.length = h
  row : ∀ r ∈ g, r.length = w
  mem : ∀ r ∈ g, ∀ x ∈ r, x ∈ ws
theorem Grid.at_ {ws : List Str} {h w : Nat} {g : List (List Str)} (G : Grid ws h w g) {i : Nat} (hi : i < h) : ∃ r, g[i]? = some r ∧ r ∈ g ∧ r.length = w := by
  have hi' : i < g.length := by rw [G.len]; exact hi
  exact ⟨g[i], List.getElem?_eq_getElem hi', List.getElem_mem _, G.row _ (List.getElem_mem _)⟩
def cell (g : List (List Str)) (i j : Nat) : Option Str := g[i]?.bind (·[j]?)
theorem Grid.cell {ws : List Str} {h w : Nat} {g : List (List Str)} (G : Grid ws h w g) {i j : Nat} (hi : i < h) (hj : j < w) : ∃ x, VL.cell g i j = some x ∧ x ∈ ws := by
  obtain ⟨r, h1, h2, h3⟩ := G.at_ hi
  have hj' : j < r.length := by rw [h3]; exact hj
  exact ⟨r[j], by unfold VL.cell; rw [h1]; exact List.getElem?_eq_getElem hj', G.mem r h2 _ (List.getElem_mem _)⟩
theorem fm_all {α β : Type} {p : α → Option β} : ∀ {xs : List α}, (∀ x ∈ xs, ∃ y, p x = some y) → (xs.filterMap p).length = xs.length
  | [], _ => rfl
  | x :: xs, h => by
    obtain ⟨y, hy⟩ := h x List.mem_cons_self
    rw [List.filterMap_cons, hy, List.length_cons, List.length_cons, fm_all fun z hz => h z (List.mem_cons_of_mem _ hz)]
theorem fm_at {α β : Type} {p : α → Option β} : ∀ {xs : List α} {i : Nat}, (∀ x ∈ xs, ∃ y, p x = some y) → (xs.filterMap p)[i]? = xs[i]?.bind p
  | [], i, _ => by simp
  | x :: xs, i, h => by
    obtain ⟨y, hy⟩ := h x List.mem_cons_self
    rw [List.filterMap_cons, hy]
    cases i with
    | zero => simp [hy]
    | succ i =>
      rw [List.getElem?_cons_succ, List.getElem?_cons_succ]
      exact fm_at fun z hz => h z (List.mem_cons_of_mem _ hz)
theorem Grid.cols {ws : List Str} {h w : Nat} {g : List (List Str)} (G : Grid ws h w g) : Grid ws w h (colsL g w) := by
  have ex : ∀ j < w, ∀ r ∈ g, ∃ y, r[j]? = some y := fun j hj r hr => ⟨_, List.getElem?_eq_getElem (by rw [G.row r hr]; exact hj)⟩
  refine ⟨by unfold colsL; rw [List.length_map, List.length_range], fun c hc => ?_, fun c hc x hx => ?_⟩
  · unfold colsL at hc
    obtain ⟨j, hj, rfl⟩ := List.mem_map.mp hc
    rw [List.mem_range] at hj
    rw [fm_all (ex j hj), G.len]
  · unfold colsL at hc
    obtain ⟨j, hj, rfl⟩ := List.mem_map.mp hc
    obtain ⟨r, hr, e⟩ := List.mem_filterMap.mp hx
    exact G.mem r hr x (List.mem_of_getElem? e)
theorem Grid.cols_at {ws : List Str} {h w : Nat} {g : List (List Str)} (G : Grid ws h w g) {i j : Nat} (hi : i < h) (hj : j < w) : VL.cell (colsL g w) j i = VL.cell g i j := by
  have ex : ∀ r ∈ g, ∃ y, r[j]? = some y := fun r hr => ⟨_, List.getElem?_eq_getElem (by rw [G.row r hr]; exact hj)⟩
  unfold VL.cell colsL
  rw [List.getElem?_map, List.getElem?_range hj]
  show (g.filterMap (·[j]?))[i]? = _
  rw [fm_at ex]
/-- the words of a law -/
structure WordsOk (ws : List Str) : Prop where
  len : ws.length = 6
  ok : ∀ x ∈ ws, PyData.strOk x = true
theorem Grid.put {ws : List Str} {h w k : Nat} {g g' : List (List Str)} {row : List Str} {x : Str} (G : Grid ws h w g) (hr : row ∈ g) (hx : x ∈ ws) (m : MutR g (row.set k x) g') : Grid ws h w g' := by
  have key : ∀ r ∈ g', r ∈ g ∨ r = row.set k x := fun r hr' => by
    obtain ⟨t, ht, e⟩ := List.mem_iff_getElem.mp hr'
    rcases m.at_ t r (by rw [List.getElem?_eq_getElem ht, e]) with h | h
    · exact .inl (List.mem_of_getElem? h)
    · exact .inr h
  refine ⟨by rw [m.len, G.len], fun r hr' => ?_, fun r hr' y hy => ?_⟩
  · rcases key r hr' with h | rfl
    · exact G.row r h
    · rw [List.length_set]; exact G.row row hr
  · rcases key r hr' with h | rfl
    · exact G.mem r h y hy
    · rcases List.mem_or_eq_of_mem_set hy with h | rfl
      · exact G.mem row hr y h
      · exact hx
/-! ### names put by text -/
theorem getD_append {α : Type} {d e : List (Str × α)} {k : Str} : getD (d ++ e) k = match getD d k with | some a => some a | none => getD e k := by
  induction d with
  | nil => rfl
  | cons q d ih =>
    rw [List.cons_append, getD_cons, getD_cons, ih]
    by_cases h : q.1 = k
    · rw [if_pos h, if_pos h]
    · rw [if_neg h, if_neg h]
theorem getD_any {α : Type} {d : List (Str × α)} {k : Str} : (d.any fun q => decide (q.1 = k)) = (getD d k).isSome := by
  induction d with
  | nil => rfl
  | cons q d ih =>
    rw [List.any_cons, getD_cons, ih]
    by_cases h : q.1 = k
    · rw [if_pos h]; simp [h]
    · rw [if_neg h]; simp [h]
theorem getD_map {α : Type} {d : List (Str × α)} {k j : Str} {a : α} : getD (d.map fun q => if q.1 = k then (q.1, a) else q) j = if j = k then (getD d k).map fun _ => a else getD d j := by
  induction d with
  | nil => by_cases h : j = k <;> simp [h, getD_nil]
  | cons q d ih =>
    rw [List.map_cons, getD_cons, ih, getD_cons, getD_cons]
    by_cases h1 : q.1 = k
    · subst h1
      by_cases h2 : j = q.1
      · subst h2; simp
      · have h3 : ¬ q.1 = j := fun z => h2 z.symm
        simp [h2, h3]
    · by_cases h2 : j = k
      · subst h2; simp [h1]
      · simp [h1, h2]
theorem getD_put {α : Type} {d : List (Str × α)} {k j : Str} {a : α} : getD (putD d k a) j = if j = k then some a else getD d j := by
  unfold putD
  by_cases h : (d.any fun q => decide (q.1 = k)) = true
  · rw [if_pos h, getD_map]
    rw [getD_any] at h
    by_cases e : j = k
    · rw [if_pos e, if_pos e]
      cases z : getD d k with
      | none => rw [z] at h; cases h
      | some b => rfl
    · rw [if_neg e, if_neg e]
  · rw [if_neg h, getD_append, getD_cons, getD_nil]
    rw [getD_any] at h
    by_cases e : j = k
    · subst e
      rw [if_pos rfl, if_pos rfl]
      cases z : getD d j with
      | none => rfl
      | some b => rw [z] at h; exact absurd rfl h
    · rw [if_neg e]
      have e2 : ¬ k = j := fun z => e z.symm
      rw [if_neg e2]
      cases getD d j <;> rfl
theorem putD_len {α : Type} {d : List (Str × α)} {k : Str} {a : α} : (putD d k a).length ≤ d.length + 1 := by
  unfold putD
  split
  · rw [List.length_map]; omega
  · rw [List.length_append]; simp
theorem cutL_take {α : Type} {xs : List α} {m : Nat} (h : m ≤ xs.length) : cutL xs none (some (m : Int)) = xs.take m := by
  unfold cutL
  rw [HT.sIx_none, HT.sIx_nat, List.drop_zero, Nat.sub_zero, Nat.min_eq_left h]
/-! ### sets of texts -/
theorem distS_nd (xs : List Str) : (distS xs).Nodup := by
  have go : ∀ (xs l : List Str), l.Nodup → (xs.foldl (fun l k => addS k l) l).Nodup := by
    intro xs
    induction xs with
    | nil => intro l h; exact h
    | cons x xs ih =>
      intro l h
      refine ih _ ?_
      show (addS x l).Nodup
      unfold addS
      split
      · exact h
      · rename_i hx; exact List.nodup_cons.mpr ⟨hx, h⟩
  exact go xs [] List.nodup_nil
theorem nodup_sub {α : Type} [DecidableEq α] : ∀ {xs ys : List α}, xs.Nodup → (∀ x ∈ xs, x ∈ ys) → xs.length ≤ ys.length
  | [], _, _, _ => Nat.zero_le _
  | x :: xs, ys, h, k => by
    have h := List.nodup_cons.mp h
    have := nodup_sub (xs := xs) (ys := ys.erase x) h.2 fun y hy => (List.mem_erase_of_ne (fun z => h.1 (by rw [← z]; exact hy))).mpr (k y (List.mem_cons_of_mem _ hy))
    rw [List.length_erase_of_mem (k x List.mem_cons_self)] at this
    have := List.length_pos_of_mem (k x List.mem_cons_self)
    rw [List.length_cons]; omega
theorem popAt_ok {α : Type} {xs : List α} {d : Int} {Φ : α × List α → Nat → Prop} {Ψ : Exc → Nat → Prop} {n : Nat} (h0 : 0 ≤ d) (h1 : d < xs.length) (hl : xs.length ≤ 1000000) (k : ∀ (m : Nat) (hm : m < xs.length), d = (m : Int) → Φ (xs[m], xs.eraseIdx m) n) : Mi.popAt xs d Φ Ψ n := by
  obtain ⟨m, rfl⟩ := Int.eq_ofNat_of_zero_le h0
  have hm : m < xs.length := by omega
  refine popAt_i (m := m) ⟨by omega, by omega⟩ ?_ (List.getElem?_eq_getElem hm) (k m hm rfl)
  have e : L2.ixN xs.length (m : Int) = some m := by
    unfold L2.ixN
    rw [if_pos (by omega), if_pos (by omega)]
    rfl
  exact (L2.ixN_seq e).1
theorem erase_perm {α : Type} {xs : List α} {m : Nat} (hm : m < xs.length) : (xs[m] :: xs.eraseIdx m).Perm xs := by
  induction xs generalizing m with
  | nil => simp at hm
  | cons x xs ih =>
    cases m with
    | zero => exact List.Perm.refl _
    | succ m =>
      simp only [List.getElem_cons_succ, List.eraseIdx_cons_succ]
      have := ih (m := m) (by simpa using hm)
      exact (List.Perm.swap _ _ _).trans (this.cons x)
/-- six names -/
structure Six (ws : List Str) : Prop where
  len : ws.length = 6
  gd : ∀ x ∈ ws, good x = true
theorem Six.perm {ws us : List Str} (h : Six ws) (p : us.Perm ws) : Six us := ⟨by rw [p.length_eq, h.len], fun x hx => h.gd x (p.mem_iff.mp hx)⟩
/-- a table of 1 to 8 lines a side -/
def Grid8 (ws : List Str) (g : List (List Str)) : Prop := ∃ h w, 1 ≤ h ∧ h ≤ 8 ∧ 1 ≤ w ∧ w ≤ 8 ∧ Grid ws h w g
theorem Grid.app {ws : List Str} {h h' w : Nat} {g g' : List (List Str)} (a : Grid ws h w g) (b : Grid ws h' w g') : Grid ws (h + h') w (g ++ g') :=
  ⟨by rw [List.length_append, a.len, b.len], fun r hr => (List.mem_append.mp hr).elim (a.row r) (b.row r), fun r hr => (List.mem_append.mp hr).elim (a.mem r) (b.mem r)⟩
theorem Grid.snoc {ws : List Str} {h w : Nat} {g : List (List Str)} {r : List Str} (a : Grid ws h w g) (hr : r.length = w) (hm : ∀ x ∈ r, x ∈ ws) : Grid ws (h + 1) w (g ++ [r]) :=
  a.app (g' := [r]) (h' := 1) ⟨rfl, fun z hz => by rw [List.mem_singleton.mp hz]; exact hr, fun z hz => by rw [List.mem_singleton.mp hz]; exact hm⟩
theorem Grid.nil {ws : List Str} {w : Nat} : Grid ws 0 w [] := ⟨rfl, (fun _ h => nomatch h), (fun _ h => nomatch h)⟩
theorem rep_flat {α : Type} (k : Nat) (xs : List α) : (List.replicate k xs).flatten.length = k * xs.length ∧ ∀ x ∈ (List.replicate k xs).flatten, x ∈ xs := by
  induction k with
  | zero => exact ⟨by simp, fun x h => by simp at h⟩
  | succ k ih =>
    rw [List.replicate_succ, List.flatten_cons, List.length_append, ih.1]
    refine ⟨by rw [Nat.succ_mul]; omega, fun x hx => ?_⟩
    rcases List.mem_append.mp hx with h | h
    · exact h
    · exact ih.2 x h
end VL

namespace VL
open PySem PySem.Spec PyProof.Rows L2
/-! ### exceptions -/
section
variable {C : Cfg} {α β ρ : Type} {Rr : ρ → SL} {ps : List SL} {te : TE} {t : TA} {nm f : Str}
/-- raise X(e) -/
theorem sv_raise {R : α → VP} [IsD R] {A : Addr} {m : M α} {ψ : β → List SL} (x : XCls C.K C.mg nm f) (he : VE C te ps m (Fz R)) (hp : PxLe C.px ps) (hA : x.C = A := by rfl) :
    SV C Rr (fun _ σ H => tMkO A (spXI A f) [] (tCons te tNil) σ H fun cls d H' => C.Ew σ cls d H') ps (M.bind m fun a => M.raise ⟨nm, f, IsD.d R a⟩) ψ := by
  subst hA
  intro D σ G W H n Φ Ψ e st hm k r xt
  refine he σ G W H n _ (fun a n' => Ψ ⟨nm, f, IsD.d R a⟩ n') Ψ e st hm (fun a n1 v G1 W1 H1 hm1 s1 t1 r1 _ => ?_) fun y n' cls d G' W' H' hΨ q s t => xt y n' cls d σ G' W' H' hΨ q ((e.stp s).x hp) (st.stp s t)
  have st1 := st.stp s1 t1
  refine ⟨(show 1 ≤ 1000 by decide), fun a0 ha0 => ⟨a0, v, rfl, upd_same, fun dx n1' n2 => ⟨rfl, dx, [(f, v)], upd_same, ?_, ?_, ?_⟩⟩⟩
  · rw [upd_ne n2]; exact upd_same
  · rw [upd_ne n2] at n1'; exact n1'
  · rw [upd_ne n2] at n1'
    have same : Same H1 (upd (L2.del (upd (upd (upd H1 a0 (exo a0 x.C none)) dx (exd dx [(f, v)])) a0 (exo a0 x.C (some dx))) a0) dx (.xd [(f, v)])) := fun b o hb => by
      have b1 : b ≠ dx := ne_of_none hb n1'
      have b2 : b ≠ a0 := ne_of_none hb ha0
      rw [upd_ne b1, L2.del_ne b2, upd_ne b2, upd_ne b1, upd_ne b2]
      exact hb
    exact xt ⟨nm, f, IsD.d R a⟩ n1 (.ref x.C) (some dx) σ G1 W1 _ hm1 ⟨x.C, dx, v, x.g, rfl, rfl, upd_same, st1.wfree n1', IsD.dq a v G1 r1⟩ ((e.stp s1).x hp) (st1.more same)
/-- f(..): what f raises goes on -/
theorem ve_callR {Rs Rs' : α → List VP} {F : α → M β} {Rc : β → SL} {m : M α} (ha : VA C t ps m Rs') (hR : ∀ a, Rs' a = Rs a := by intro _; rfl) (hr : ∀ b p, Rc b ≠ .bo p := by intro _ _ h; cases h) :
    VE C (tCallS (spG C.mg C.K C.TB Rs F Rc) (fun σ => C.Ew σ) t) ps (M.bind m fun a => F a) Rc := by
  intro σ G W H n Q Φ Ψ e st hm k x
  refine va_eq ha hR σ G W H n _ (fun a n' => F a Φ Ψ n') Ψ e st hm (fun a n1 vs G1 W1 H1 hm1 s1 t1 r1 => ?_) x
  have st1 := st.stp s1 t1
  refine ⟨C.Θ, a, G1, W1, n1, Φ, Ψ, r1, st1.gw, st1.t, hm1, fun b n2 v G2 W2 H2 hΦ s2 t2 r2 f2 => (k.stp s1) b n2 v G2 W2 H2 hΦ s2 t2 (res_call st1.bw r2 (hr b)) f2, fun y n2 cls d G2 W2 H2 hΨ q s2 t2 => ?_⟩
  exact x y n2 cls d G2 W2 H2 hΨ q (s1.trans s2) t2
/-- o.m(..): what m raises goes on -/
theorem ve_methR {Cl : Addr} {g : Str} {γ : Type} {fl : α → List (Str × VP)} {Ra : β → List VP} {F : α × β → M γ} {Rc : γ → SL} {m : M α} {mb : M β} {Rs : α × β → List VP} (h : VE C te ps m (Fz fun a => rIns Cl (fl a))) (ha : VA C t ps mb Ra) (hR : ∀ q, Rs q = rIns Cl (fl q.1) :: Ra q.2 := by intro _; rfl)
    (hn : ∀ a, ∀ q ∈ fl a, q.1 ≠ g) (hr : ∀ b p, Rc b ≠ .bo p := by intro _ _ h; cases h) :
    VE C (tMethT Cl g (spG C.mg C.K C.TB Rs F Rc) (fun σ => C.Ew σ) te t) ps (M.bind m fun a => M.bind mb fun b => F (a, b)) Rc := by
  intro σ G W H n Q Φ Ψ e st hm k x
  refine h σ G W H n _ (fun a n' => M.bind mb (fun b => F (a, b)) Φ Ψ n') Ψ e st hm ?_ x
  rintro a n1 v G1 W1 H1 hm1 s1 t1 r1 _
  have r0 := r1
  obtain ⟨p, o, rfl, h2, dx, fs, rfl, _, h4, _⟩ := r1
  have st1 := st.stp s1 t1
  refine ⟨p, dx, fs, rfl, st1.gh _ _ h2, h4 _ (hn a), ?_⟩
  refine ha σ G1 W1 H1 n1 _ (fun b n' => F (a, b) Φ Ψ n') Ψ (e.stp s1) st1 hm1 (fun b n2 vs G2 W2 H2 hm2 s2 t2 r2 => ?_) (x.stp s1)
  have st2 := st1.stp s2 t2
  refine ⟨C.Θ, (a, b), G2, W2, n2, Φ, Ψ, by rw [hR]; exact .cons ((rIns Cl (fl a)).up s2.g r0) r2, st2.gw, st2.t, hm2, fun c n3 v G3 W3 H3 hΦ s3 t3 r3 f3 => ?_, fun y n3 cls d G3 W3 H3 hΨ q s3 t3 => ?_⟩
  · exact (k.stp (s1.trans s2)) c n3 v G3 W3 H3 hΦ s3 t3 (res_call st2.bw r3 (hr c)) f3
  · exact x y n3 cls d G3 W3 H3 hΨ q ((s1.trans s2).trans s3) t3
/-- the caught exception, in its slot -/
def rXc (a dd : Addr) (f : Str) (d : PyData) : VP := ⟨fun v G => v = .ref a ∧ ∃ u, G dd = some (.xd [(f, u)]) ∧ Dq G u d, fun e ⟨h, u, h1, h2⟩ => ⟨h, u, e _ _ h1, dq_up e h2⟩⟩
theorem ve_xf {a dd Cx : Addr} {d : PyData} {i : Nat} (h : ps[i]? = some (.fr (rXc a dd f d)) := by rfl) : VE C (tXf a (.ref Cx) (some dd) Cx f (tVar i)) ps (M.pure d) (Fz rDat) := by
  intro σ G W H n Q Φ Ψ e st hm k x
  obtain ⟨v, hσ, rfl, u, h1, h2⟩ := e.at_ h (by simp)
  refine ⟨_, hσ, rfl, rfl, dd, _, u, rfl, st.gh _ _ h1, ?_, k.hereF st hm h2⟩
  simp [List.lookup]
/-- the handlers: by the exception's name -/
def M.hnd {β : Type} (x : Exc) : List (Str × Str × (PyData → M β)) → M β
  | [] => M.never
  | (nm, f, h) :: r => fun Φ Ψ n => (x.nm = nm → x.f = f ∧ h x.d Φ Ψ n) ∧ (x.nm ≠ nm → M.hnd x r Φ Ψ n)
def M.up {ρ α : Type} (m : M (Fl ρ Empty)) : M (Fl ρ α) := fun Φ Ψ n => m (fun fl n => match fl with | .nx z => z.elim | .rt r => Φ (.rt r) n) Ψ n
def M.try_ {ρ α : Type} (m : M (Fl ρ α)) (hs : List (Str × Str × (PyData → M (Fl ρ Empty)))) : M (Fl ρ α) := fun Φ Ψ n => m Φ (fun x n => M.up (M.hnd x hs) Φ Ψ n) n
inductive HL (C : Cfg) (Ew' : L2.St → XK) {ρ : Type} (Rr : ρ → SL) (tbl : List (Str × Addr)) : List (Value × Nat × (Addr → Value → Option Addr → TS)) → List (Str × Str × (PyData → M (Fl ρ Empty))) → Prop
  | nil : HL C Ew' Rr tbl [] []
  | cons {nm f : Str} {i : Nat} {ts : Addr → Value → Option Addr → TS} {h : PyData → M (Fl ρ Empty)} {l : List (Value × Nat × (Addr → Value → Option Addr → TS))} {hs : List (Str × Str × (PyData → M (Fl ρ Empty)))} {ψ : Addr → Addr → PyData → Empty → List SL} {A : Addr} (X : XCls C.K C.mg nm f) (hA : X.C = A) (hm : (nm, A) ∈ tbl) (hi : C.px[i]? = some .un)
      (hb : ∀ a dd d, SV { C with px := [], Ew := Ew' } Rr (ts a (.ref A) (some dd)) (C.px.set i (.fr (rXc a dd f d))) (h d) (ψ a dd d)) (r : HL C Ew' Rr tbl l hs) : HL C Ew' Rr tbl ((.ref A, i, ts) :: l) ((nm, f, h) :: hs)
theorem hnd_mem {Ew' : L2.St → XK} {tbl : List (Str × Addr)} {l : List (Value × Nat × (Addr → Value → Option Addr → TS))} {hs : List (Str × Str × (PyData → M (Fl ρ Empty)))} (hl : HL C Ew' Rr tbl l hs) {x : Exc} {Φ : Fl ρ Empty → Nat → Prop} {Ψ : Exc → Nat → Prop} {n : Nat} (h : M.hnd x hs Φ Ψ n) : ∃ A, (x.nm, A) ∈ tbl ∧ C.mg x.nm = some (.ref A) := by
  induction hl with
  | nil => exact h.elim
  | @cons nm f i ts g l hs ψ A X hA hm hi hb r ih =>
    subst hA
    by_cases e : x.nm = nm
    · exact ⟨X.C, by rw [e]; exact hm, by rw [e]; exact X.g⟩
    · exact ih (h.2 e)
theorem wmany {Ew' : L2.St → XK} {tbl : List (Str × Addr)} {l : List (Value × Nat × (Addr → Value → Option Addr → TS))} {hs : List (Str × Str × (PyData → M (Fl ρ Empty)))} (hl : HL C Ew' Rr tbl l hs) (hE : ∀ p ∈ tbl, ∀ q ∈ tbl, PySem.W.exmOne C.K (.ref p.2) (.ref q.2) = some (decide (p.1 = q.1))) (hF : C.px.all SL.isF = true) (hne : C.px ≠ [])
    {D : Ends} {σ : L2.St} {G W H : Hp} {n : Nat} {Φ : Fl ρ α → Nat → Prop} {Ψ : Exc → Nat → Prop} {x : Exc} {cls : Value} {d : Option Addr} (hx : Ex_ C.B C.px σ G W) (st : Stt C n G W H) (q : XRep C.mg x cls d G W H) (hm : M.up (M.hnd x hs) Φ Ψ n)
    (r : ∀ r n v G W H, Φ (.rt r) n → Stt C n G W H → Res C.B (Rr r) v G W → D.rt v H) (xt : ∀ y n cls d σ G W H, Ψ y n → XRep C.mg y cls d G W H → Ex_ C.B [] σ G W → Stt C n G W H → Ew' σ cls d H) {Wout : WX} :
    wManyAs C.K Wout D l cls d σ H := by
  obtain ⟨A, hA, gA⟩ := hnd_mem hl hm
  obtain ⟨Cx, dd, v, hg, rfl, rfl, hdd, hW, hq⟩ := q
  rw [gA] at hg
  cases hg
  have hG : G dd = none := st.gw.free hW
  have hB : C.B dd = none := st.bw.free hW
  have hG0 : C.G0 dd = none := st.g0.free hG
  rcases hx with hx | ⟨hlen, hx⟩
  · exact absurd hx hne
  induction hl with
  | nil => exact hm.elim
  | @cons nm f i ts h l hs ψ A0 X hA0 hmem hi hb hl ih =>
    subst hA0
    refine ⟨decide (x.nm = nm), hE _ hA _ hmem, fun e a ha => ?_, fun e => ?_⟩
    · have e : x.nm = nm := of_decide_eq_true e
      obtain ⟨hf, hm⟩ := hm.1 e
      have eC : A = X.C := by
        have g2 : C.mg x.nm = some (.ref X.C) := (congrArg C.mg e).trans X.g
        rw [gA] at g2
        injection g2 with g2
        injection g2
      subst eC
      have same : Same (upd G dd (.xd [(x.f, v)])) (upd W dd (.xd [(x.f, v)])) := same_two st.gw
      have st' : Stt { C with px := [], Ew := Ew' } n (upd G dd (.xd [(x.f, v)])) (upd W dd (.xd [(x.f, v)])) H :=
        ⟨C.Θ.see st.t hdd ⟨(fun _ h => nomatch h), (fun _ h => nomatch h)⟩ (fun _ h => nomatch h), same, st.bw.trans (same_upd hW), st.g0.trans (same_upd hG), fun z o hz => by
          by_cases y : z = dd
          · subst y; exact .inr hB
          · rw [upd_ne y] at hz; exact st.gb z o hz⟩
      have ee : Ee C.B (C.px.set i (.fr (rXc a dd f x.d))) (σ.set i (some (.ref a))) (upd G dd (.xd [(x.f, v)])) (upd W dd (.xd [(x.f, v)])) := by
        have e0 : Ee C.B C.px σ (upd G dd (.xd [(x.f, v)])) (upd W dd (.xd [(x.f, v)])) := ⟨hlen, fun {j s} h n => by
          obtain ⟨u, hu, hr⟩ := hx h n
          refine ⟨u, hu, ?_⟩
          cases s with
          | un => trivial
          | fr p => exact p.up (same_upd hG) hr
          | bo p => exact hr
          | ow c => exact absurd h (isF_no hF j c), fun {i j c d a} _ h1 _ _ _ => absurd h1 (isF_no hF i c)⟩
        exact e0.setF (p := rXc a dd f x.d) ⟨rfl, v, by rw [upd_same, hf], dq_up (same_upd hG) hq⟩
      exact hb a dd x.d _ _ _ _ H n _ Ψ ee st' hm (fun z _ _ _ _ _ _ => z.elim) (fun r' n' v' G' W' H' hΦ s' res => r r' n' v' G' W' H' hΦ ⟨s'.t, s'.gw, s'.bw, s'.g0, s'.gb⟩ res) (fun y n' cls' d' σ' G' W' H' hΨ q' ex' s' => xt y n' cls' d' σ' G' W' H' hΨ q' (.inl rfl) ⟨s'.t, s'.gw, s'.bw, s'.g0, s'.gb⟩)
    · have e : x.nm ≠ nm := of_decide_eq_false e
      exact ih (hm.2 e)
/-- try: .. except X as e: .. -/
theorem sv_try {C : Cfg} {ps px : List SL} {tbl : List (Str × Addr)} {tb : WX → TS} {l : List (Value × Nat × (Addr → Value → Option Addr → TS))} {hs : List (Str × Str × (PyData → M (Fl ρ Empty)))} {m : M (Fl ρ α)} {ψ : α → List SL} {Wout : WX} (hl : HL { C with px := px } C.Ew Rr tbl l hs)
    (hE : ∀ p ∈ tbl, ∀ q ∈ tbl, PySem.W.exmOne C.K (.ref p.2) (.ref q.2) = some (decide (p.1 = q.1))) (hF : px.all SL.isF = true) (hne : px ≠ []) (hpx : C.px = [])
    (hb : ∀ D : Ends, SV { C with px := px, Ew := fun σ cls d H => wManyAs C.K Wout D l cls d σ H } Rr (tb (wManyAs C.K Wout D l)) ps m ψ) :
    SV C Rr (fun D σ H => tb (wManyAs C.K Wout D l) D σ H) ps (M.try_ m hs) ψ := by
  intro D σ G W H n Φ Ψ e st hm k r xt
  refine hb D D σ G W H n Φ _ e ⟨st.t, st.gw, st.bw, st.g0, st.gb⟩ hm (fun a n' σ' G' W' H' hΦ s e' st' => k a n' σ' G' W' H' hΦ s e' ⟨st'.t, st'.gw, st'.bw, st'.g0, st'.gb⟩) (fun r' n' v G' W' H' hΦ st' res => r r' n' v G' W' H' hΦ ⟨st'.t, st'.gw, st'.bw, st'.g0, st'.gb⟩ res) ?_
  intro x n' cls d σ' G' W' H' hΨ q ex st'
  exact wmany (C := { C with px := px }) hl hE hF hne (Φ := Φ) (Ψ := Ψ) ex ⟨st'.t, st'.gw, st'.bw, st'.g0, st'.gb⟩ q hΨ (fun r' n' v G' W' H' hΦ st' res => r r' n' v G' W' H' hΦ ⟨st'.t, st'.gw, st'.bw, st'.g0, st'.gb⟩ res) (fun y n' cls d σ G W H hΨ q _ s => xt y n' cls d σ G W H hΨ q (.inl hpx) ⟨s.t, s.gw, s.bw, s.g0, s.gb⟩)
end
end VL

namespace L2
open PySem PySem.Spec PyProof.Rows
section
variable {X : Cx} {CX : CXT} {k : Nat} {f : Addr} {fd : FuncData} {ps ks : List Str} {sp : Sp} {E : St → XK} {g : List Value → List Value → List Value} {gV : List V → List V → List V} {es : List Expr} {e : Expr} {t : TA}
theorem run_fnkT {pins : List (Addr × Obj)} {σ : St} {H : Hp} {s : Shared} {Q : VK} {us ws : List Value} {vs zs : List V} (F : FnOk X.prog X.w X.K X.mg X.base CX k f fd ps sp) (hr : Room k X.A) (hb : KBinds X.K fd ps ks g gV) (hx : PassesAt CX X σ (E σ))
    (I : Inv X pins σ H s) (r : Vals vs us) (rz : Vals zs ws) (h : sp (gV vs zs) H Q (E σ)) : wpAny (model X.prog X.w) X.A (call (.ref f) us (ks.zip ws)) (EP X pins σ Q) X.xe s := by
  have r2 := hb.rel r rz
  have hl : (g us ws).length = ps.length := by rw [← r2.length]; exact F.len _ _ _ _ h
  refine wpAny_call (codeAny_mono (F.run X.A X.stack s H ⟨us, ks.zip ws⟩ (g us ws) (gV vs zs) Q (E σ) hr I.env0 (hb.to s us ws I.kIn hl) r2 h) fun r s' hq => ?_)
  cases r with
  | error e => exact hx pins H s e s' I hq
  | ok fl =>
    cases fl with
    | ret u => exact I.after hq
    | next => exact False.elim hq
    | brk => exact False.elim hq
    | cont => exact False.elim hq
def tCallKT (sp : Sp) (gV : List V → List V → List V) (E : St → XK) (t tk : TA) : TE := fun σ H Q => t σ H fun vs H1 => tk σ H1 fun zs H2 => sp (gV vs zs) H2 Q (E σ)
theorem pe_callKT {x : Str} {p pos : Pos} {kws : List Keyword} {tk : TA} (F : FnOk X.prog X.w X.K X.mg X.base CX k f fd ps sp) (hr : Room k X.A) (hg : Gl X x) (hm : X.mg x = some (.ref f)) (hk : PySem.W.keepIn X.K (.ref f) = true) (hb : KBinds X.K fd ps ks g gV) (hx : ∀ σ, PassesAt CX X σ (E σ))
    (ha : PA X (e :: es) t) (hkw : PK X kws tk) (hall : (backToKw pos (keywordEach kws X.env)).all (·.1.isSome) = true := by rfl) (hks : (backToKw pos (keywordEach kws X.env)).filterMap (·.1) = ks := by rfl)
    (hdb : (x == ("__debug__" : Str)) = false := by decide) (he : starEach (e :: es) X.env = (false, eval e X.env) :: starEach es X.env := by rfl)
    (hpl : ((backTo pos (starEach (e :: es) X.env)).any (·.1) || (backToKw pos (keywordEach kws X.env)).any (·.1.isNone)) = false := by rfl) :
    PE X (.Call (.Name x p) (e :: es) kws pos) (tCallKT sp gV E t tk) := by
  refine ⟨fun pins s σ H Q I h => ?_⟩
  refine wpAny_Call_Name_kw (ld_glob I hg hm ?_ hdb)
  refine PySem.W.callWith_KW (h₀ := X.base) I.ok.mod.kin hk hall (thn (ha.run pos pins s σ H _ I h) fun us s1 ⟨vs, H1, I1, r, q⟩ => ?_) hpl he
  refine thn (hkw.run pos pins s1 σ H1 _ I1 q) fun ws s2 ⟨zs, H2, I2, rz, q2⟩ => ⟨I2.kIn, ?_⟩
  rw [hks]
  exact run_fnkT F hr hb (hx σ) I2 r rz q2
theorem pe_callK0T {x : Str} {p pos : Pos} {kws : List Keyword} {tk : TA} (F : FnOk X.prog X.w X.K X.mg X.base CX k f fd ps sp) (hr : Room k X.A) (hg : Gl X x) (hm : X.mg x = some (.ref f)) (hk : PySem.W.keepIn X.K (.ref f) = true) (hb : KBinds X.K fd ps ks g gV) (hx : ∀ σ, PassesAt CX X σ (E σ))
    (hkw : PK X kws tk) (hall : (backToKw pos (keywordEach kws X.env)).all (·.1.isSome) = true := by rfl) (hks : (backToKw pos (keywordEach kws X.env)).filterMap (·.1) = ks := by rfl)
    (hdb : (x == ("__debug__" : Str)) = false := by decide)
    (hpl : ((backTo pos (starEach [] X.env)).any (·.1) || (backToKw pos (keywordEach kws X.env)).any (·.1.isNone)) = false := by rfl) :
    PE X (.Call (.Name x p) [] kws pos) (tCallKT sp gV E tNil tk) := by
  refine ⟨fun pins s σ H Q I h => ?_⟩
  refine wpAny_Call_Name_kw (ld_glob I hg hm ?_ hdb)
  refine PySem.W.callWith_KW0 (h₀ := X.base) I.ok.mod.kin hk hall ?_ hpl
  refine thn (hkw.run pos pins s σ H _ I h) fun ws s2 ⟨zs, H2, I2, rz, q2⟩ => ⟨I2.kIn, ?_⟩
  rw [hks]
  exact run_fnkT F hr hb (hx σ) I2 .nil rz q2
end
end L2
namespace VL
open PySem PySem.Spec PyProof.Rows L2
section
variable {C : Cfg} {α β γ δ : Type} {ps : List SL} {te : TE}
theorem ve_callKR {Rs : α → List VP} {F : α → M β} {Rr : β → SL} {m1 : M γ} {m2 : M δ} {t tk : TA} {R1 : γ → List VP} {R2 : δ → List VP} {gV : List V → List V → List V} (f : γ → δ → α) (ha : VA C t ps m1 R1) (hk : VA C tk ps m2 R2)
    (hg : ∀ a b vs zs G, RepL (R1 a) vs G → RepL (R2 b) zs G → RepL (Rs (f a b)) (gV vs zs) G) (hr : ∀ b p, Rr b ≠ .bo p := by intro _ _ h; cases h) :
    VE C (tCallKT (spG C.mg C.K C.TB Rs F Rr) gV (fun σ => C.Ew σ) t tk) ps (M.bind m1 fun a => M.bind m2 fun b => F (f a b)) Rr := by
  intro σ G W H n Q Φ Ψ e st hm k x
  refine ha σ G W H n _ (fun a n' => M.bind m2 (fun b => F (f a b)) Φ Ψ n') Ψ e st hm (fun a n1 vs G1 W1 H1 hm1 s1 t1 r1 => ?_) x
  have st1 := st.stp s1 t1
  refine hk σ G1 W1 H1 n1 _ (fun b n' => F (f a b) Φ Ψ n') Ψ (e.stp s1) st1 hm1 (fun b n2 zs G2 W2 H2 hm2 s2 t2 r2 => ?_) (x.stp s1)
  have st2 := st1.stp s2 t2
  have s12 := s1.trans s2
  refine ⟨C.Θ, f a b, G2, W2, n2, Φ, Ψ, hg a b vs zs G2 (r1.up s2.g) r2, st2.gw, st2.t, hm2, fun b n3 v G3 W3 H3 hΦ s3 t3 r3 f3 => ?_, fun y n3 cls d G3 W3 H3 hΨ q s3 t3 => x y n3 cls d G3 W3 H3 hΨ q (s12.trans s3) t3⟩
  exact (k.stp s12) b n3 v G3 W3 H3 hΦ s3 t3 (res_call st2.bw r3 (hr b)) f3
end
/-! ### the head's facts of the errors' classes -/
def new6 : List (Option Value) → Bool
  | [_, _, _, _, k4, _] => decide (k4 = some (Value.builtin "ValueError.__new__"))
  | _ => false
theorem new6_ok {l : List (Option Value)} (h : new6 l = true) : ∃ k0 k1 k2 k3 k5, l = [k0, k1, k2, k3, some (Value.builtin "ValueError.__new__"), k5] := by
  unfold new6 at h
  split at h
  · have h := of_decide_eq_true h
    subst h
    exact ⟨_, _, _, _, _, rfl⟩
  · cases h
def oexB (K : PySem.W.Frag) (C : Addr) : Bool := (match K.lookup C with
  | some ⟨.type t, _, .cls cd, sl⟩ => decide (t = "type") && ((match cd.mro with
    | v :: bm => decide (v = Value.ref C) && PySem.HandSPX.refsVE bm
    | [] => false) && (cd.hasDict && (!cd.hasDel && new6 sl.toList)))
  | _ => false) && (He.eqO (PySem.W.findIn K (.ref C) "__setattr__") (some (some (.builtin "object.__setattr__"))) && (decide (PySem.W.subIn K (.ref C) (.type "BaseException") = some true) &&
  (decide (PySem.W.typeIn K (.ref C) = some (.type "type")) && PySem.W.keepIn K (.ref C))))
theorem oexB_ok {K : PySem.W.Frag} {C : Addr} (h : oexB K C = true) : OexC K C := by
  obtain ⟨h0, h⟩ := He.ba h
  obtain ⟨h1, h⟩ := He.ba h
  obtain ⟨h2, h⟩ := He.ba h
  obtain ⟨h3, h4⟩ := He.ba h
  refine ⟨?_, He.eqO_ok h1, of_decide_eq_true h2, of_decide_eq_true h3, h4⟩
  cases q : K.lookup C with
  | none => rw [q] at h0; cases h0
  | some o =>
    obtain ⟨oc, od, dt, sl⟩ := o
    rw [q] at h0
    cases oc with
    | type t =>
      cases dt with
      | cls cd =>
        obtain ⟨a1, h0⟩ := He.ba h0
        obtain ⟨a2, h0⟩ := He.ba h0
        obtain ⟨a3, h0⟩ := He.ba h0
        obtain ⟨a4, a5⟩ := He.ba h0
        have a1 : t = "type" := of_decide_eq_true a1
        subst a1
        obtain ⟨nm, bs, mro, ns, qn, hd, sn, sub, ab, col, del⟩ := cd
        have a3 : hd = true := a3
        have a4' : del = false := by
          have a4 : (!del) = true := a4
          cases del with
          | false => rfl
          | true => cases a4
        clear a4
        subst a3 a4'
        cases mro with
        | nil => cases a2
        | cons v bm =>
          obtain ⟨b1, b2⟩ := He.ba a2
          have b1 : v = Value.ref C := of_decide_eq_true b1
          subst b1
          obtain ⟨l⟩ := sl
          obtain ⟨k0, k1, k2, k3, k5, e⟩ := new6_ok a5
          have e : l = [k0, k1, k2, k3, some (Value.builtin "ValueError.__new__"), k5] := e
          subst e
          exact ⟨nm, qn, ns, bs, bm, sn, sub, ab, col, od, k0, k1, k2, k3, k5, rfl, b2⟩
      | _ => cases h0
    | _ => cases h0
def exsB (xs : List (Str × Str)) (K : PySem.W.Frag) : Bool := xs.all fun x => oexB K (He.ga K x.1) && (L2.xfB K (He.ga K x.1) && decide (PySem.W.typeIn K (.ref (He.ma K (He.ga K x.1) "__init__")) = some (.type "function")))
theorem exsB_ok {xs : List (Str × Str)} {K : PySem.W.Frag} (h : exsB xs K = true) {i : Nat} {x : Str × Str} (hx : xs[i]? = some x) : OexC K (He.ga K x.1) ∧ XfC K (He.ga K x.1) ∧ PySem.W.typeIn K (.ref (He.ma K (He.ga K x.1) "__init__")) = some (.type "function") := by
  have := List.all_eq_true.mp h x (List.mem_of_getElem? hx)
  obtain ⟨h1, h⟩ := He.ba this
  obtain ⟨h2, h3⟩ := He.ba h
  exact ⟨oexB_ok h1, xfB_ok h2, of_decide_eq_true h3⟩
end VL

set_option maxHeartbeats 6400000
namespace L2
open PySem PySem.Spec PyProof.Rows
section
variable {P : Program} {w : World} {A : Around} {E : Value → Shared → Prop} {s : Shared}
theorem isTup_push {h : Heap} {o : Obj} {l : Addr} {items : Array Value} (hl : h.IsTuple l items) : (h.push o).IsTuple l items := by
  obtain ⟨u, hol, hcl, nl, hdl⟩ := hl
  exact ⟨u, Heap.get?_push_of_some _ hol, hcl, nl, hdl⟩
theorem fill_tupT {a l : Addr} {items : Array Value} (xs : List Str) {R : Result → Shared → Prop} (hh : A.handled = none) (ha : s.heap.get? a = some (emptySet w)) (hl : s.heap.IsTuple l items) (hal : a ≠ l) (hit : StrsAre items.toList xs) (hb : xs.length + 1 < scanBound)
    (h : ∀ (h' : Heap) (tk : Nat), TxR P w h' a (distS xs) → (∀ b o, b ≠ a → s.heap.get? b = some o → h'.get? b = some o) → R (.ok (.ret .none)) { s with heap := h', toks := tk }) :
    codeAny (model P w) A (.call (.builtin "set.__init__") ⟨[.ref a, .ref l], []⟩) R s := by
  have n0 : items.size = xs.length := by rw [← Array.length_toList]; exact hit.length
  refine codeAny_call_builtin F.called_set.init.plain F.entry_set_init (check_set_init_1 ⟨_, ha, rfl⟩ ?_)
  obtain ⟨⟨oc, od, odt, osl⟩, hol, hcl, nl, hdl⟩ := id hl
  simp only at hcl hdl
  subst hcl hdl
  have k1 := F.sub_tuple_set
  have k2 := F.sub_tuple_frozenset
  have k3 : (Value.type "tuple" == Value.type "dict") = false := by decide
  unfold Builtin.«set.__init__» noKeywords Builtin.Frozenset.updateFrom
  generalize hI : pyIter = I
  wp_walk
  subst hI
  refine wpAny_pyIter_tuple hl (wpAny_bind (wpAny_runValue ?_))
  have la : a < s.heap.objs.size := Heap.lt_size ha
  have nI : l ≠ s.heap.objs.size := Nat.ne_of_lt (Heap.lt_size hol)
  have na : a ∉ [s.heap.objs.size, l] := by
    simp only [List.mem_cons, List.not_mem_nil, or_false, not_or]
    exact ⟨Nat.ne_of_lt la, hal⟩
  have each : ∀ (i : Nat) (v : Value), items[i]? = some v → ∃ k t, xs[i]? = some k ∧ v = .str k t := fun i v hv => by
    have hi : i < xs.length := by rw [← n0]; exact (Array.getElem?_eq_some_iff.mp hv).1
    obtain ⟨t, e⟩ := SS.strs_at hit i v (by rw [Array.getElem?_toList]; exact hv)
    exact ⟨xs[i], t, List.getElem?_eq_getElem hi, by rw [e, List.getD_eq_getElem?_getD, List.getElem?_eq_getElem hi]; rfl⟩
  refine tx_update ((Walks.tuple (by simp [hh]) _ l nI items).toS) a na xs n0 hb each (items.size - 0) 0 _ (by omega) (Nat.zero_le _) ⟨⟨_, Heap.get?_push_size _ rfl, rfl, rfl⟩, isTup_push hl⟩ (tx_fresh (Heap.get?_push_of_some _ ha)) ?_
  intro s' hm hS
  obtain ⟨h', g', d', tk', os'⟩ := s'
  obtain rfl : g' = s.gens := hm.gens
  obtain rfl : d' = s.drawn := hm.drawn
  obtain rfl : os' = s.os := hm.os
  refine wpAny_pure (wpAny_pure (h h' tk' hS fun b o hba e => ?_))
  have hb0 : b < s.heap.objs.size := Heap.lt_size e
  exact hm.heap b o (by simp only [List.mem_cons, List.not_mem_nil, or_false, not_or]; exact ⟨hba, Nat.ne_of_lt hb0⟩) (Heap.get?_push_of_some _ e)
theorem call_set_tupT {l : Addr} {items : Array Value} (xs : List Str) {Q : Value → Shared → Prop} (hh : A.handled = none) (hl : s.heap.IsTuple l items) (hit : StrsAre items.toList xs) (hb : xs.length + 1 < scanBound)
    (h : ∀ (h' : Heap) (tk : Nat), TxR P w h' s.heap.objs.size (distS xs) → (∀ b o, s.heap.get? b = some o → h'.get? b = some o) → Q (.ref s.heap.objs.size) { s with heap := h', toks := tk }) :
    wpAny (model P w) A (call (.type "set") [.ref l]) Q E s := by
  have lt0 : l < s.heap.objs.size := by
    obtain ⟨_, e, _⟩ := hl
    exact Heap.lt_size e
  have c1 := F.called_set.made
  have c2 := F.called_set.sub
  have c3 := F.called_set.notType
  have c4 := F.called_set.canCreate
  have c5 := F.typeCall_set_1 (.ref l)
  have c6 := F.called_set.init.lookup
  have c7 := F.called_set.init.bind (.ref s.heap.objs.size)
  obtain ⟨c, tl, c8⟩ := F.called_set.mro
  refine wpAny_call (codeAny_of_tree ?_)
  show wpAny _ _ (callAny (.type "set") _) _ _ _
  refine wpAny_pure ⟨Code.quiet_builtin _ (by decide +kernel), codeAny_builtin F.entry_type_call ?_⟩
  rw [Around.under_plain (weight_type_call_type "set" [.ref l] []) rfl]
  repeat (any_goals (first | assumption | wp_step))
  refine codeAny_mono (code_set_led1 (.ref l) (E := E) (Q₁ := fun v s1 => v = .ref s.heap.objs.size ∧ s1 = { s with heap := s.heap.push (emptySet w) }) ⟨rfl, rfl⟩) fun r s1 hr => ?_
  rcases r with e | f
  · exact hr
  rcases f with _ | v | _ | _
  case next => exact hr.elim
  case brk => exact hr.elim
  case cont => exact hr.elim
  obtain ⟨rfl, rfl⟩ := hr
  have sz1 : (s.heap.push (emptySet w)).objs.size = s.heap.objs.size + 1 := Heap.size_push ..
  have got : (s.heap.push (emptySet w)).get? s.heap.objs.size = some (emptySet w) := Heap.get?_push_size _ rfl
  have ty : Shared.TypeIs { s with heap := s.heap.push (emptySet w) } (.ref s.heap.objs.size) "set" := ⟨_, got, rfl⟩
  repeat (any_goals (first | assumption | wp_step))
  have hl1 : (s.heap.push (emptySet w)).IsTuple l items := isTup_push hl
  refine fill_tupT (P := P) (w := w) xs (by simp [hh]) got hl1 (Nat.ne_of_gt lt0) hit hb fun h' tk hS hk => ?_
  refine wpAny_pure ?_
  repeat (any_goals (first | assumption | wp_step))
  exact h h' tk hS fun b o e => hk b o (Nat.ne_of_lt (Heap.lt_size e)) (Heap.get?_push_of_some _ e)
end
section
variable {X : Cx}
/-- set(xs), xs a tuple of texts -/
def rSetOfU (K : PySem.W.Frag) (P : Program) (w : World) : List V → Hp → VK → Prop := fun vs H Q => ∃ (l : Addr) (xs : List Str), vs = [.ref l] ∧ SqT K H l (xs.map V.str) ∧ xs.length ≤ 1000 ∧
  ∀ (p : Addr), H p = none → Q (.ref p) (upd H p (SetX P w p (distS xs)))
theorem cr_setOfU (hc : X.calm = true) : CallR X (.type "set") (rSetOfU X.K X.prog X.w) := by
  intro pins s σ H vs us Q I r h
  obtain ⟨l, xs, rfl, hs, h10, q⟩ := h
  rw [Vals.ref1 r]
  obtain ⟨its, rv, ht, hz⟩ := I.tuple hs
  refine call_set_tupT xs (I.ok.hd hc) (ZN.isTuple_of ht) (by simpa using strsAre_of rv) (by unfold scanBound; omega) fun h' tk hS hk => ?_
  exact ⟨.ref _, _, I.laid (t' := tk) hk (Nat.le_refl _) (setX_new hS), rfl, q _ (I.hok.fresh (Nat.le_refl _))⟩
/-- set(xs), xs a list or a tuple of texts -/
def rSetOfB (K : PySem.W.Frag) (P : Program) (w : World) : List V → Hp → VK → Prop := fun vs H Q => ∃ (l : Addr) (xs : List Str), vs = [.ref l] ∧ (SqL K H l (xs.map V.str) ∨ SqT K H l (xs.map V.str)) ∧ xs.length ≤ 1000 ∧
  ∀ (p : Addr), H p = none → Q (.ref p) (upd H p (SetX P w p (distS xs)))
theorem cr_setOfB (hc : X.calm = true) : CallR X (.type "set") (rSetOfB X.K X.prog X.w) := by
  intro pins s σ H vs us Q I r h
  obtain ⟨l, xs, e, hs, h10, q⟩ := h
  rcases hs with hs | hs
  · exact cr_setOfT hc pins s σ H vs us Q I r ⟨l, xs, e, hs, h10, q⟩
  · exact cr_setOfU hc pins s σ H vs us Q I r ⟨l, xs, e, hs, h10, q⟩
end
end L2

namespace VL
open PySem PySem.Spec PyProof.Rows L2
section
variable {C : Cfg} {α β ρ : Type} {Rr : ρ → SL} {ps : List SL} {te ta tb : TE} {P : Program} {w : World}
/-- a list or a tuple -/
def rSq (R : α → VP) (xs : List α) : VP := ⟨fun v G => (rLst R xs).P v G ∨ (rTup R xs).P v G, fun e h => h.imp (rLst R xs |>.up e) (rTup R xs |>.up e)⟩
theorem ve_sqL {R : α → VP} {m : M (List α)} (h : VE C te ps m (Fz (rLst R))) : VE C te ps m (Fz (rSq R)) := by
  intro σ G W H n Q Φ Ψ e st hm k x
  exact h σ G W H n Q Φ Ψ e st hm (fun a n' v G' W' H' hΦ s t r f => k a n' v G' W' H' hΦ s t (.inl r) f) x
theorem ve_sqT {R : α → VP} {m : M (List α)} (h : VE C te ps m (Fz (rTup R))) : VE C te ps m (Fz (rSq R)) := by
  intro σ G W H n Q Φ Ψ e st hm k x
  exact h σ G W H n Q Φ Ψ e st hm (fun a n' v G' W' H' hΦ s t r f => k a n' v G' W' H' hΦ s t (.inr r) f) x
theorem ve_sortSetB {m : M (List Str)} (h : VE C te ps m (Fz (rSq rStr))) :
    VE C (tCB (rSortedX P w) (tCons (tCB (rSetOfB C.K P w) (tCons te tNil)) tNil)) ps (M.bind m fun xs => M.sortSet xs) (Ow (cLst rStr)) := by
  intro σ G W H n Q Φ Ψ e st hm k x
  refine h σ G W H n _ (fun xs n' => M.sortSet xs Φ Ψ n') Ψ e st hm ?_ x
  rintro xs n1 v G1 W1 H1 ⟨h1, h2, hΦ⟩ s1 t1 r1 _
  have st1 := st.stp s1 t1
  obtain ⟨p, rfl, hs⟩ : ∃ p, v = .ref p ∧ (SqL C.K H1 p (xs.map V.str) ∨ SqT C.K H1 p (xs.map V.str)) := by
    rcases r1 with ⟨p, vs, rfl, h3, h4⟩ | ⟨p, vs, rfl, h3, h4⟩
    · rw [reps_strs' h4] at h3
      exact ⟨p, rfl, .inl (SqL.of (st1.gh _ _ h3))⟩
    · rw [reps_strs' h4] at h3
      exact ⟨p, rfl, .inr (SqT.of (st1.gh _ _ h3))⟩
  refine ⟨p, xs, rfl, hs, h1, fun q hq => ?_⟩
  refine ⟨q, distS xs, rfl, upd_same, h2, fun ys r pm nd so hr => ?_⟩
  have st2 := st1.more (same_upd (o := SetX P w q (distS xs)) hq)
  exact (k.stp s1).newO st2 (hΦ ys pm nd so) hr ⟨_, rfl, reps_strs_of ys⟩
/-- any value that is a tuple of texts -/
def M.datS (d : PyData) : M (List Str) := fun Φ _ n => ∃ xs : List Str, d = .tuple (xs.map PyData.str) ∧ Φ xs n
theorem dq_strs {G : Hp} : ∀ {vs : List V} {xs : List Str}, DqAll G vs (xs.map PyData.str) → reps rStr xs vs G
  | [], [], _ => trivial
  | v :: vs, x :: xs, h => by
    cases h with
    | cons a b =>
      cases a
      exact ⟨rfl, dq_strs b⟩
  | _ :: _, [], h => by cases h
  | [], _ :: _, h => by cases h
theorem ve_datS {m : M PyData} (h : VE C te ps m (Fz rDat)) : VE C te ps (M.bind m fun d => M.datS d) (Fz (rTup rStr)) := by
  intro σ G W H n Q Φ Ψ e st hm k x
  refine h σ G W H n Q (fun d n' => M.datS d Φ Ψ n') Ψ e st hm ?_ x
  rintro d n1 v G1 W1 H1 ⟨xs, rfl, hΦ⟩ s1 t1 r1 _
  refine k xs n1 v G1 W1 H1 hΦ s1 t1 ?_ trivial
  have r1 : Dq G1 v (.tuple (xs.map PyData.str)) := r1
  cases r1 with
  | tup h1 h2 => exact ⟨_, _, rfl, h1, dq_strs h2⟩
theorem ve_dnewD : VE C tDNewK ps (M.pure (PyData.dict [])) (Fz rDat) := by
  intro σ G W H n Q Φ Ψ e st hm k x
  exact fun p hp => k.newF (a := PyData.dict []) st hm hp (.dict (ds := []) upd_same .nil)
/-- x in, not in a tuple of the module -/
theorem ve_inG {p : Addr} {xs : List Str} {m : M Str} {neg : Bool} (hS : ∀ H, SqT C.K H p (xs.map V.str)) (h : VE C ta ps m (Fz rStr)) :
    VE C (tOp (rIn C.K neg) ta (tC (.ref p))) ps (M.bind m fun a => M.pure (neg ^^ decide (a ∈ xs))) (Fz rBl) := by
  intro σ G W H n Q Φ Ψ e st hm k x
  refine h σ G W H n _ (fun a n' => Φ (neg ^^ decide (a ∈ xs)) n') Ψ e st hm ?_ x
  rintro a n1 v G1 W1 H1 hm1 s1 t1 rfl _
  have st1 := st.stp s1 t1
  refine ⟨p, _, rfl, .inr (hS H1), rfl, strs_flat _, (k.stp s1).hereF (a := (neg ^^ decide (a ∈ xs))) st1 hm1 ?_⟩
  show _ = _
  rw [inV_strs]
  cases neg <;> simp
end
@[irreducible] def Mi.datS (d : PyData) : M (List Str) := M.datS d
theorem datS_i {xs : List Str} {Φ : List Str → Nat → Prop} {Ψ : Exc → Nat → Prop} {n : Nat} (k : Φ xs n) : Mi.datS (.tuple (xs.map PyData.str)) Φ Ψ n := by delta Mi.datS; exact ⟨xs, rfl, k⟩
end VL

namespace L2
open PySem PySem.Spec PyProof.Rows
/-- enumerate(v), for whatever iter(v) makes -/
theorem enum_new1 {v : Value} {o : Obj} {Y : Heap → Prop} (B : Begins v o Y) : Meets (Builtin.«enumerate.__new__» ⟨[.type "enumerate", v], []⟩) (fun _ R s => Y s.heap ∧
    R (.ok (.ret (.ref (s.heap.push o).objs.size))) { s with heap := (s.heap.push o).push { cls := .type "enumerate", data := .fields #[.none, .bool false, .ref s.heap.objs.size, rawInt 0, .none, .none] } }) :=
  .of_wp fun P w A R s y => by
    rcases s with ⟨hp, gs, dr, tk, os⟩
    rcases y with ⟨hy, y⟩
    have hsub := sub_enumerate
    have it1 : ∀ {A' : Around} {E : Value → Shared → Prop} {Q : Value → Shared → Prop}, Q (.ref hp.objs.size) ⟨hp.push o, gs, dr, tk, os⟩ → wpAny (model P w) A' (pyIter v) Q E ⟨hp, gs, dr, tk, os⟩ := fun z => B.iter P w _ _ ⟨hp, gs, dr, tk, os⟩ _ hy z
    wp_walk using it1
    refine wpAny_stack_any fun _ => wpAny_pure ?_
    split
    next c _ _ _ _ _ =>
      cases (c == Value.type "enumerate") <;> (wp_walk using it1; exact ⟨_, rfl, y⟩)
    next => wp_walk using it1; exact ⟨_, rfl, y⟩
section
variable {P : Program} {w : World} {A : Around} {E : Value → Shared → Prop} {s : Shared}
theorem enum_call1 {v : Value} {o : Obj} {Y : Heap → Prop} {Q : Value → Shared → Prop} (B : Begins v o Y) (hy : Y s.heap)
    (k : ∀ h', IsEnum h' (s.heap.objs.size + 1) s.heap.objs.size 0 .none → h'.get? s.heap.objs.size = some o → (∀ b u, s.heap.get? b = some u → h'.get? b = some u) → Q (.ref (s.heap.objs.size + 1)) { s with heap := h' }) :
    wpAny (model P w) A (call (.type "enumerate") [v]) Q E s := by
  refine callType_new F.called_enumerate (by decide) (F.typeCall_enumerate_1 _) (F.newCall_enumerate_1 _) (fun ob => F.args_object_init_2 ob _) F.entry_enumerate_new (enum_new1 B) ⟨hy, ?_⟩
  have z1 : (s.heap.push o).objs.size = s.heap.objs.size + 1 := Heap.size_push ..
  have ie := Heap.get?_push_size (s.heap.push o) (o := { cls := .type "enumerate", data := .fields #[.none, .bool false, .ref s.heap.objs.size, rawInt 0, .none, .none] }) rfl
  show _ ∧ _
  rw [z1]
  rw [z1] at ie
  exact ⟨⟨_, ie, rfl⟩, k _ ie (Heap.get?_push_of_some _ (Heap.get?_push_size _ B.free)) fun b u q => Heap.get?_push_of_some _ (Heap.get?_push_of_some _ q)⟩
end
/-- the tuple at a, item by item, each with its number in a new pair -/
def IteU (K : PySem.W.Frag) (a : Addr) : It :=
  ⟨fun i H => ∃ (xs : List V) (x : V), SqT K H a xs ∧ xs[i]? = some x,
    fun i H v H' => ∃ T x, v = .ref T ∧ H T = none ∧ H' = upd H T (.tup [.int (i : Nat), x]) ∧ ∀ xs, SqT K H a xs → xs[i]? = some x,
    fun i H => ∃ xs : List V, SqT K H a xs ∧ xs.length = i⟩
theorem turn_enumU {P : Program} {w : World} {K : PySem.W.Frag} {elts : List Expr} {kk : Nat} {tpos : Pos} (a e it : Addr) (n1 : e ≠ it) (n2 : e ≠ a) (n3 : a ≠ it) :
    Turn P w K (.Tuple elts kk tpos) (IteU K a) [e, it] e (fun i h => (∃ old, IsEnum h e it ((i : Nat) : Int) old) ∧ h.IsTupleIter it a i) where
  mem := List.mem_cons_self ..
  obj := by
    rintro i h ⟨⟨old, ie⟩, ⟨u, hu, hc, hd⟩⟩ b hb
    rcases List.mem_cons.mp hb with rfl | hb
    · exact ⟨_, ie, fun v q => nomatch q⟩
    · rw [List.mem_singleton.mp hb]
      exact ⟨u, hu, fun v q => by rw [hd] at q; cases q⟩
  keep := by
    rintro i h h' ⟨⟨old, ie⟩, ii⟩ k
    exact ⟨⟨old, k e (by simp) _ ie⟩, ii.at fun o q => k it (by simp) o q⟩
  item := by
    rintro X hP hw hK hc i pins s σ H E I hf ⟨⟨old, ie⟩, ii⟩ ⟨xs, x, hq, hx⟩
    subst hP hw hK
    obtain ⟨its, rv, pt, hz⟩ := I.tuple hq
    obtain ⟨u, hu, ru⟩ := rv.get hx
    have lt1 : e < s.heap.objs.size := Heap.lt_size ie
    have lt2 : it < s.heap.objs.size := by
      obtain ⟨_, q, _⟩ := ii
      exact Heap.lt_size q
    have hi : i < its.toArray.size := by
      rw [List.size_toArray]
      exact (List.getElem?_eq_some_iff.mp hu).1
    have D := Draws.tuple (prog := X.prog) (w := X.w) (A := X.A.in1) (show X.A.in1.handled = none from I.ok.hd hc) it a n3 its.toArray
    refine wpAny_pyNext_enum_itemD D ie ⟨ii, pt⟩ hi n1 (by simp only [List.mem_cons, List.not_mem_nil, or_false, not_or]; exact ⟨n1, n2⟩) fun z h' tk hz' ho st' hT hsz hk => ?_
    have ez : z = u := by
      rw [List.getElem?_toArray, hu] at hz'
      exact (Option.some.inj hz').symm
    subst ez
    refine ⟨_, rfl, wpAny_letOwnedTupleGo_enum (s := { s with heap := h', toks := tk + 1 }) ho fun h2 ie2 sb => ?_⟩
    have atT : h2.get? s.heap.objs.size = some { cls := .type "tuple", data := .seq #[.int i tk, z] } := (sb.2 _ (Nat.ne_of_gt lt1)).trans hT
    have made : ObjOk X.prog X.w (upd H s.heap.objs.size (.tup [.int (i : Nat), x])) h2 s.heap.objs.size (.tup [.int (i : Nat), x]) :=
      ⟨(by decide : 2 ≤ sizeLine), [.int i tk, z], .cons ⟨_, rfl⟩ (.cons ru .nil), ⟨_, atT, rfl, _, rfl⟩⟩
    have I2 : Inv X pins σ (upd H s.heap.objs.size (.tup [.int (i : Nat), x])) { s with heap := h2, toks := tk + 1 } :=
      I.turnedNew (ch := [e, it]) (fun b ob hb q => by
        simp only [List.mem_cons, List.not_mem_nil, or_false, not_or] at hb
        exact (sb.2 b hb.1).trans (hk b ob hb.1 hb.2 q)) hf (Nat.le_refl _) made
    have up1 : ((i + 1 : Nat) : Int) = (i : Int) + 1 := by omega
    refine ⟨.ref s.heap.objs.size, _, I2, rfl, ⟨_, x, rfl, I.hok.fresh (Nat.le_refl _), rfl, fun ys hy => (I.tuple_inj hy hq) ▸ hx⟩, ⟨⟨z, up1 ▸ ie2⟩, st'.1.at fun o q => (sb.2 it (Ne.symm n1)).trans q⟩, fun b hb => ?_⟩
    have ltb : b < s.heap.objs.size := by
      rcases List.mem_cons.mp hb with rfl | hb
      · exact lt1
      · rw [List.mem_singleton.mp hb]; exact lt2
    rw [upd_ne (Nat.ne_of_lt ltb)]
    exact (hf b hb).1
  done := by
    rintro X hP hw hK hc i pins s σ H E I hf ⟨⟨old, ie⟩, ii⟩ ⟨xs, hq, hx⟩
    subst hP hw hK hx
    obtain ⟨its, rv, pt, hz⟩ := I.tuple hq
    obtain ⟨f0, f1, f2, f3, f4, f5⟩ := hf it (by simp)
    have ln : xs.length = its.toArray.size := by rw [List.size_toArray]; exact rv.length
    have D := Draws.tuple (prog := X.prog) (w := X.w) (A := X.A.in1) (show X.A.in1.handled = none from I.ok.hd hc) it a n3 its.toArray
    exact wpAny_pyNext_enum_endD D ie ⟨ln ▸ ii, pt⟩ fun h' eb => ⟨rfl, I.turned (t' := s.toks) (fun b o hb q => eb b o hb q) f0 f1 f3 f4 f5⟩
  self := fun A i s Q E st h => wpAny_pyIter_enum st.1.choose_spec h
def iEnumU (K : PySem.W.Frag) (ta : TA) : TI := fun σ H R => ta σ H fun vs H1 => ∃ a xs, vs = [.ref a] ∧ SqT K H1 a xs ∧ R (IteU K a) H1
theorem pi_enumU {X : Cx} {e : Expr} {ta : TA} {p pos tpos : Pos} {elts : List Expr} {kk : Nat} (hg : Gl X "enumerate") (hm : X.mg "enumerate" = none) (ha : PA X [e] ta) (hs : starEach [e] X.env = [(false, eval e X.env)] := by rfl) :
    PI X (.Tuple elts kk tpos) (.Call (.Name "enumerate" p) [e] [] pos) (iEnumU X.K ta) := by
  constructor
  intro pins s σ H R I h
  refine Call_ (ld_blt I hg hm boot_enumerate (PyProof.Rows.callWith_type1 (thn (ha.run pos pins s σ H _ I h) fun us s1 y => ?_) hs rfl))
  obtain ⟨vs, H1, I1, r1, a, xs, rfl, hq, q⟩ := y
  obtain ⟨its, rv, pt, hz⟩ := I1.tuple hq
  have la : a < s1.heap.objs.size := by
    obtain ⟨_, z, _⟩ := pt
    exact Heap.lt_size z
  cases r1 with
  | cons r rr =>
    cases rr
    cases r
    refine enum_call1 (begins_tuple a its.toArray) pt fun h' ie io hk => wpAny_pyIter_enum ie ?_
    have I2 : Inv X pins σ H1 { s1 with heap := h' } := I1.kept (t' := s1.toks) hk
    refine ⟨s1.heap.objs.size + 1, [s1.heap.objs.size + 1, s1.heap.objs.size], _, _, H1, rfl, I2, turn_enumU a (s1.heap.objs.size + 1) s1.heap.objs.size (Nat.succ_ne_self _) (by intro z; rw [← z] at la; exact absurd la (by exact Nat.not_lt.mpr (Nat.le_succ _))) (Nat.ne_of_lt la), ⟨⟨.none, ie⟩, ⟨_, io, rfl, rfl⟩⟩, fun b hb => ?_, q⟩
    have hle : s1.heap.objs.size ≤ b := by
      rcases List.mem_cons.mp hb with rfl | hb
      · exact Nat.le_succ _
      · rw [List.mem_singleton.mp hb]; exact Nat.le_refl _
    exact I1.fpOk hle (I1.hok.fresh hle)
end L2
namespace VL
open PySem PySem.Spec PyProof.Rows L2
section
variable {C : Cfg} {α β ρ : Type} {Rr : ρ → SL} {ps : List SL} {te ta tb : TE} {P : Program} {w : World}
theorem vi_enumT {R : β → VP} {mx : M (List β)} (h : VE C te ps mx (Fz (rTup R))) : VI C (iEnumU C.K (tCons te tNil)) ps (M.bind mx fun xs => M.pure (zipI xs)) (rPr rInt R) := by
  intro σ G W H n Q Φ Ψ e st hm k x
  refine h σ G W H n _ (fun xs n' => Φ (zipI xs) n') Ψ e st hm ?_ x
  rintro xs n' v G' W' H' hΦ s t ⟨p, vs, rfl, h1, h2⟩ _
  have here : ∀ {n G W H}, Stt C n G W H → Same G' G → SqT C.K H p vs := fun q e => SqT.of ((e.trans q.gh) _ _ h1)
  have ln : (zipI xs).length = vs.length := by rw [zipI_len, h2.len]
  refine ⟨p, vs, rfl, SqT.of ((st.stp s t).gh _ _ h1), k (zipI xs) n' _ G' W' H' hΦ s t ⟨?_, ?_, ?_⟩⟩
  · intro i n G W H hi q e
    rw [ln] at hi
    exact ⟨vs, vs[i], here q e, List.getElem?_eq_getElem hi⟩
  · intro n G W H q e
    exact ⟨vs, here q e, ln.symm⟩
  · rintro i n G W H v H' hi q e ⟨T, z, rfl, hT, rfl, y⟩
    obtain ⟨x, hx, hr⟩ := h2.get' (y vs (here q e))
    refine ⟨((i : Int), x), _, _, zipI_get hx, Stp.newF q hT, q.newT hT, T, _, _, rfl, upd_same, rfl, ?_⟩
    exact (R x).up (e.trans (same_upd (q.gfree hT))) hr
end
end VL

/-! ### != of two tuples whose items are compared within one model -/
namespace PySem.SeqAt
open AutoSeq1 (wpAny_loadPart')
open MeetsSeq MeetsSeq2 MeetsSeq3 SeqRoads2
section
variable {prog : Program} {w : World}
def alike2 (e : Nat → Bool) (m : Nat) (same : Bool) (i : Nat) : Bool := !(((List.range m).drop i).all e && same)
theorem alike2_step {e : Nat → Bool} {m i : Nat} {same : Bool} (h : i < m) : alike2 e m same i = !(e i && ((List.range m).drop (i + 1)).all e && same) := by
  unfold alike2
  rw [List.drop_eq_getElem_cons (by rw [List.length_range]; exact h), List.all_cons, List.getElem_range]
theorem neIn_tuple (l b : Addr) (xs ys : Array Value) (n n2 : Nat) (dd dd2 : Option Addr) (sl sl2 : Array (Option Value)) (e : Nat → Bool) :
    MeetsIn prog w (Builtin.«tuple.__ne__» ⟨[.ref l, .ref b], []⟩)
      (fun A R s => s.heap.get? l = some { cls := .type "tuple", dict := dd, data := .seq xs n, slots := sl } ∧ s.heap.get? b = some { cls := .type "tuple", dict := dd2, data := .seq ys n2, slots := sl2 } ∧
        (∀ j (h1 : j < xs.size) (h2 : j < ys.size), EqIn prog w A.in1 s xs[j] ys[j] (e j)) ∧ R (.ok (.ret (.bool (alike2 e (min xs.size ys.size) (xs.size == ys.size) 0)))) s) :=
  .of_wp fun A R s h => by
    rcases s with ⟨hp, g, d, tk, os⟩
    rcases h with ⟨hl, hb, he, h⟩
    have f2 := AutoSeq1.sub_tuple_tuple
    have hZ : (xs.toList.zip ys.toList).length = min xs.size ys.size := by simp
    wp_walk using wpAny_loadPart' hl, wpAny_loadPart' hb, wpAny_forIn_list _ (fun rest b s' => b.1 = none ∧ s' = ⟨hp, g, d, tk, os⟩ ∧ ∃ i, rest = (xs.toList.zip ys.toList).drop i ∧
      R (.ok (.ret (.bool (alike2 e (min xs.size ys.size) (xs.size == ys.size) i)))) ⟨hp, g, d, tk, os⟩) _
    case turn =>
      rintro ⟨y, x⟩ rest b s' ⟨hb', rfl, i, hz, hR⟩
      have lt : i < (xs.toList.zip ys.toList).length := by
        apply Decidable.byContradiction
        intro z
        rw [List.drop_of_length_le (Nat.le_of_not_lt z)] at hz
        cases hz
      have lm : i < min xs.size ys.size := by rw [← hZ]; exact lt
      rw [List.drop_eq_getElem_cons lt] at hz
      injection hz with hyx hrest
      obtain ⟨ey, ex⟩ : y = xs[i]'(by omega) ∧ x = ys[i]'(by omega) := by
        have q1 := congrArg Prod.fst hyx
        have q2 := congrArg Prod.snd hyx
        exact ⟨by simpa using q1, by simpa using q2⟩
      subst ey ex
      rw [alike2_step lm] at hR
      refine wpAny_bind (he i (by omega) (by omega) _ _ ?_)
      cases hy : e i with
      | true =>
        rw [hy, Bool.true_and] at hR
        wp_walk
        exact ⟨rfl, rfl, i + 1, hrest, hR⟩
      | false =>
        rw [hy, Bool.false_and, Bool.false_and] at hR
        wp_walk
        exact ⟨_, rfl, hR⟩
    case fin =>
      rintro ⟨b1, b2⟩ s' ⟨hb', rfl, i, hz, hR⟩
      simp only at hb'
      subst hb'
      have ge : min xs.size ys.size ≤ i := by
        apply Decidable.byContradiction
        intro z
        rw [List.drop_eq_getElem_cons (by rw [hZ]; omega)] at hz
        cases hz
      unfold alike2 at hR
      rw [List.drop_of_length_le (by rw [List.length_range]; exact ge)] at hR
      wp_walk
      rw [List.all_nil, Bool.true_and] at hR
      exact ⟨_, rfl, hR⟩
    case h => exact ⟨rfl, rfl, 0, rfl, h⟩
theorem neIn_tuples {A : Around} {s : Shared} {E : Value → Shared → Prop} {l b : Addr} {xs ys : Array Value} {e : Nat → Bool} {Q : Value → Shared → Prop} (hl : s.heap.IsTuple l xs) (hb : s.heap.IsTuple b ys) (hu : A.units < cLine)
    (he : ∀ j (h1 : j < xs.size) (h2 : j < ys.size), EqIn prog w A.in1 s xs[j] ys[j] (e j)) (h : Q (.bool (!((List.range (min xs.size ys.size)).all e && xs.size == ys.size))) s) : wpAny (model prog w) A (richCompare .NotEq (.ref l) (.ref b)) Q E s := by
  obtain ⟨⟨cls, dd, data, sl⟩, ho, hc, n, hd⟩ := id hl
  obtain ⟨⟨cls2, dd2, data2, sl2⟩, ho2, hc2, n2, hd2⟩ := id hb
  simp only at hc hd hc2 hd2
  subst hc hd hc2 hd2
  exact wpAny_richCompare_same_room (T := "tuple") (op := .NotEq) ⟨_, ho, rfl⟩ ⟨_, ho2, rfl⟩ F.slot_tuple_ne (call_meetsIn F.slot_tuple_ne ⟨_, ho, rfl⟩ F.entry_tuple_ne (F.args_tuple_ne_2 _ _) (neIn_tuple l b xs ys n n2 dd dd2 sl sl2 e)
    ⟨ho, ho2, he, show Value.bool (alike2 e (min xs.size ys.size) (xs.size == ys.size) 0) ≠ Value.notImplemented ∧ Q (.bool (alike2 e (min xs.size ys.size) (xs.size == ys.size) 0)) s from ⟨(fun x => nomatch x), h⟩⟩) hu
end
end PySem.SeqAt
namespace L2
open PySem PySem.Spec PyProof.Rows
section
variable {X : Cx}
/-- a != b: plain data, or two tuples item by item -/
def rNeQ (K : PySem.W.Frag) : R2 := fun x y H Q => rNeD K x y H Q ∨
  ∃ (a b : Addr) (xs ys : List V) (e : Nat → Bool), x = .ref a ∧ y = .ref b ∧ SqT K H a xs ∧ SqT K H b ys ∧ (∀ j x y, xs[j]? = some x → ys[j]? = some y → Eqv K H 70 x y (e j)) ∧
    Q (.bl (!((List.range (min xs.length ys.length)).all e && xs.length == ys.length))) H
theorem op_neQ (hv : X.A.units + 64 < cLine) (hu : X.A.units + 100 < cLine) : OpR X (compareOp .NotEq) (rNeQ X.K) := by
  intro pins s σ H x y v u Q I rx ry h
  rcases h with h | ⟨a, b, xs, ys, e, rfl, rfl, h1, h2, he, q⟩
  · exact op_neD hv pins s σ H x y v u Q I rx ry h
  obtain rfl : v = _ := rx
  obtain rfl : u = _ := ry
  obtain ⟨us, r1, p1, _⟩ := I.tuple h1
  obtain ⟨ws, r2, p2, _⟩ := I.tuple h2
  have e1 : xs.length = us.toArray.size := by rw [List.size_toArray]; exact r1.length
  have e2 : ys.length = ws.toArray.size := by rw [List.size_toArray]; exact r2.length
  refine SeqAt.neIn_tuples (e := e) (tup_of p1) (tup_of p2) (by omega) (fun j j1 j2 => ?_) ⟨.bl _, H, I, rfl, by rw [← e1, ← e2]; exact q⟩
  obtain ⟨x, hx, rx⟩ := vals_at r1 j j1
  obtain ⟨y, hy, ry⟩ := vals_at r2 j j2
  exact ((he j x y hx hy).tree I rx ry).at X.A.in1 (by show X.A.units + 1 + 70 < cLine; omega)
end
end L2
namespace VL
open PySem PySem.Spec PyProof.Rows L2
/-! ### data that hold at most empty dicts: equal to themselves -/
mutual
def okE : PyData → Bool
  | .none | .bool _ | .int _ | .str _ => true
  | .list xs | .tuple xs => okEs xs
  | .dict ks => ks.isEmpty
def okEs : List PyData → Bool
  | [] => true
  | x :: xs => okE x && okEs xs
end
section
variable {K : PySem.W.Frag} {H : Hp}
theorem dq_dict0 {v : V} (h : Dq H v (.dict [])) : ∃ a, v = .ref a ∧ H a = some (.dK []) := by
  generalize e : PyData.dict [] = d at h
  cases h with
  | @dict a ks ds h1 h2 =>
    injection e with e
    cases ds with
    | nil => cases h2; exact ⟨a, rfl, h1⟩
    | cons _ _ => cases e
  | _ => cases e
mutual
theorem dq_same : ∀ (d : PyData) (n : Nat) (v u : V), PyData.depth d ≤ n → okE d = true → Dq H v d → Dq H u d → Eqv K H n v u true
  | .none, n, _, _, _, _, .non, .non => .flat rfl rfl
  | .bool b, n, _, _, _, _, .bl _, .bl _ => by
    have := Eqv.flat (K := K) (H := H) (n := n) (x := .bl b) (y := .bl b) rfl rfl
    rwa [show eqV (.bl b) (.bl b) = true by cases b <;> rfl] at this
  | .int i, n, _, _, _, _, .int _, .int _ => by
    have := Eqv.flat (K := K) (H := H) (n := n) (x := .int i) (y := .int i) rfl rfl
    rwa [show eqV (.int i) (.int i) = true by simp [eqV]] at this
  | .str z, n, _, _, _, _, .str _, .str _ => by
    have := Eqv.flat (K := K) (H := H) (n := n) (x := .str z) (y := .str z) rfl rfl
    rwa [show eqV (.str z) (.str z) = true by simp [eqV]] at this
  | .list ds, n, _, _, hn, ho, .lst (a := a) h1 h2, .lst (a := b) h3 h4 => by
    by_cases e : a = b
    · subst e; exact .same
    obtain ⟨m, rfl⟩ : ∃ m, n = m + 1 := ⟨n - 1, by simp only [PyData.depth] at hn; omega⟩
    have hn' : PyData.depthAll ds ≤ m := by simp only [PyData.depth] at hn; omega
    have ih := dqAll_same ds m _ _ hn' (by simpa only [okE] using ho) h2 h4
    have := Eqv.lists (n := m) (e := fun _ => true) e (SqL.of (K := K) h1) (SqL.of (K := K) h3) ih.1 ih.2
    rwa [show (List.range _).all (fun _ => true) = true from List.all_eq_true.mpr fun _ _ => rfl] at this
  | .tuple ds, n, _, _, hn, ho, .tup (a := a) h1 h2, .tup (a := b) h3 h4 => by
    by_cases e : a = b
    · subst e; exact .same
    obtain ⟨m, rfl⟩ : ∃ m, n = m + 1 := ⟨n - 1, by simp only [PyData.depth] at hn; omega⟩
    have hn' : PyData.depthAll ds ≤ m := by simp only [PyData.depth] at hn; omega
    have ih := dqAll_same ds m _ _ hn' (by simpa only [okE] using ho) h2 h4
    have := Eqv.tups (n := m) (e := fun _ => true) e (SqT.of (K := K) h1) (SqT.of (K := K) h3) ih.2
    rwa [show (List.range _).all (fun _ => true) = true from List.all_eq_true.mpr fun _ _ => rfl, ih.1, Bool.true_and, beq_self_eq_true] at this
  | .dict ks, n, v, u, hn, ho, h, h' => by
    have e0 : ks = [] := by
      cases ks with
      | nil => rfl
      | cons _ _ => simp [okE] at ho
    subst e0
    obtain ⟨m, rfl⟩ : ∃ m, n = m + 1 := ⟨n - 1, by simp only [PyData.depth] at hn; omega⟩
    obtain ⟨a, rfl, h1⟩ := dq_dict0 h
    obtain ⟨b, rfl, h3⟩ := dq_dict0 h'
    by_cases e : a = b
    · subst e; exact .same
    exact .dicts (n := m) (ks := []) (ls := []) (e := fun _ => true) e h1 h3 (fun _ _ _ z => nomatch z)
theorem dqAll_same : ∀ (ds : List PyData) (n : Nat) (vs us : List V), PyData.depthAll ds ≤ n → okEs ds = true → DqAll H vs ds → DqAll H us ds → vs.length = us.length ∧ ∀ (j : Nat) (x y : V), vs[j]? = some x → us[j]? = some y → Eqv K H n x y true
  | [], n, _, _, _, _, .nil, .nil => ⟨rfl, fun j x y h => by simp at h⟩
  | d :: ds, n, _, _, hn, ho, .cons a b, .cons a' b' => by
    have ho : okE d = true ∧ okEs ds = true := by simpa only [okEs, Bool.and_eq_true] using ho
    have hn1 : PyData.depth d ≤ n := by simp only [PyData.depthAll] at hn; omega
    have hn2 : PyData.depthAll ds ≤ n := by simp only [PyData.depthAll] at hn; omega
    have ih := dqAll_same ds n _ _ hn2 ho.2 b b'
    refine ⟨by rw [List.length_cons, List.length_cons, ih.1], fun j x y hx hy => ?_⟩
    cases j with
    | zero =>
      cases hx
      cases hy
      exact dq_same d n _ _ hn1 ho.1 a a'
    | succ j => exact ih.2 j x y hx hy
end
end
/-- a != b: of plain data, or of one tuple's data with itself -/
def M.neQ (d e : PyData) : M Bool := fun Φ _ n => (SeqAt.shaped d = true ∧ SeqAt.shaped e = true ∧ Φ (!PyData.eqv d e) n) ∨ ∃ ds, d = .tuple ds ∧ e = .tuple ds ∧ okEs ds = true ∧ PyData.depthAll ds ≤ 60 ∧ Φ false n
section
variable {C : Cfg} {α β : Type} {ps : List SL}
theorem v2_neQ {R : α → VP} {S : β → VP} [I : IsD R] [J : IsD S] : V2 C (rNeQ C.K) R S (fun a b => M.neQ (IsD.d R a) (IsD.d S b)) (Fz rBl) := by
  rintro a b v u σ G W H n Q Φ Ψ hv hu st hm k x
  rcases hm with ⟨h1, h2, hm⟩ | ⟨ds, e1, e2, ho, hn, hm⟩
  · exact .inl ⟨_, _, dp_up st.gh (dq_sh (I.dq a v G hv) h1), dp_up st.gh (dq_sh (J.dq b u G hu) h2), h1, h2, k.hereF (a := !PyData.eqv (IsD.d R a) (IsD.d S b)) st hm rfl⟩
  · have d1 := dq_up st.gh (I.dq a v G hv)
    have d2 := dq_up st.gh (J.dq b u G hu)
    rw [e1] at d1
    rw [e2] at d2
    cases d1 with
    | @tup p xs _ g1 g2 =>
      cases d2 with
      | @tup q ys _ g3 g4 =>
        have al := dqAll_same (K := C.K) ds 70 _ _ (by omega) ho g2 g4
        refine .inr ⟨p, q, xs, ys, fun _ => true, rfl, rfl, SqT.of g1, SqT.of g3, al.2, ?_⟩
        rw [show (List.range _).all (fun _ => true) = true from List.all_eq_true.mpr fun _ _ => rfl, al.1, Bool.true_and, beq_self_eq_true]
        exact k.hereF (a := false) st hm rfl
end
@[irreducible] def Mi.neQ (d e : PyData) : M Bool := M.neQ d e
theorem neQ_i {d e : PyData} {Φ : Bool → Nat → Prop} {Ψ : Exc → Nat → Prop} {n : Nat} (h1 : SeqAt.shaped d = true) (h2 : SeqAt.shaped e = true) (k : Φ (!PyData.eqv d e) n) : Mi.neQ d e Φ Ψ n := by delta Mi.neQ; exact .inl ⟨h1, h2, k⟩
theorem neQ_same {ds : List PyData} {Φ : Bool → Nat → Prop} {Ψ : Exc → Nat → Prop} {n : Nat} (h1 : okEs ds = true) (h2 : PyData.depthAll ds ≤ 60) (k : Φ false n) : Mi.neQ (.tuple ds) (.tuple ds) Φ Ψ n := by delta Mi.neQ; exact .inr ⟨ds, rfl, rfl, h1, h2, k⟩
end VL
namespace L2
open PySem PySem.Spec PyProof.Rows
/-- try: .. except X as e: .., with its parts told -/
def tTryAs (K : PySem.W.Frag) (Wout : WX) (tb : WX → TS) (l : List (Value × Nat × (Addr → Value → Option Addr → TS))) : TS := fun D σ H => tb (wManyAs K Wout D l) D σ H
section
variable {X : Cx} {body : List Stmt} {h₀ : ExceptHandler} {hds : List ExceptHandler} {l : List (Value × Nat × (Addr → Value → Option Addr → TS))} {pos : Pos} {tb : WX → TS} {Wout : WX}
theorem ps_tryM (hs : X.stack = X.env :: X.outer) (hf : X.env.frame = some X.env.locals) (hN : X.N.Nodup) (tk : Takes X Wout)
    (hb : ∀ (W : WX) (pn : List (Addr × Obj)) (xe : Value → Shared → Prop), Takes (X.tr pn xe) W → PassesOwn (model X.prog X.w) X.A X.env xe → PSs (X.tr pn xe) body (tb W))
    (hh : HdsAs X (h₀ :: hds) l) : PS X (.Try body (h₀ :: hds) [] [] pos) (tTryAs X.K Wout tb l) := ps_try_manyAs hs hf hN tk hb hh
end
end L2
namespace VL
open PySem PySem.Spec PyProof.Rows L2
theorem sv_tryM {α ρ : Type} {Rr : ρ → SL} {C : Cfg} {ps px : List SL} {tbl : List (Str × Addr)} {tb : WX → TS} {l : List (Value × Nat × (Addr → Value → Option Addr → TS))} {hs : List (Str × Str × (PyData → M (Fl ρ Empty)))} {m : M (Fl ρ α)} {ψ : α → List SL} {Wout : WX} (hl : HL { C with px := px } C.Ew Rr tbl l hs)
    (hE : ∀ p ∈ tbl, ∀ q ∈ tbl, PySem.W.exmOne C.K (.ref p.2) (.ref q.2) = some (decide (p.1 = q.1))) (hF : px.all SL.isF = true) (hne : px ≠ []) (hpx : C.px = [])
    (hb : ∀ D : Ends, SV { C with px := px, Ew := fun σ cls d H => wManyAs C.K Wout D l cls d σ H } Rr (tb (wManyAs C.K Wout D l)) ps m ψ) :
    SV C Rr (tTryAs C.K Wout tb l) ps (M.try_ m hs) ψ := sv_try hl hE hF hne hpx hb
/-- a drawn table, read as it stands -/
theorem ve_callGR {C : Cfg} {ps : List SL} {ta : TA} {α : Type} {Θ : Addr → Th C.TB} {s : Addr} {Rs : Addr → α → List VP} {Rs' : α → List VP} {F : α → M (List (List Str))} {m : M α} {E : XK} (hΘ : C.Θ = Θ s) (ha : VA C ta ps m Rs') (hR : ∀ a, Rs' a = Rs s a := by intro _; rfl) :
    VE C (tCall (spTN C.mg C.K C.TB Θ Rs F (fun B => rLst (rNw B (rLst rStr)))) [] E ta) ps (M.bind m fun a => M.nox (F a)) (Fz (rLst (rLst rStr))) :=
  ve_grOld (B := C.B) (ve_callTN hΘ ha (fun e => gr_back e) hR)
end VL

namespace VL
open PySem PySem.Spec PyProof.Rows L2
/-! ### sorted names, each once -/
def okN (names : List Str) : Prop := ∀ w ∈ names, PyData.strOk w = true
theorem good_strOk {z : Str} (h : good z = true) : PyData.strOk z = true := by
  unfold PyData.strOk
  have all : ∀ c ∈ z.cps.toList, c < 128 := by
    intro c hc
    have h : goodL z.cps.toList = true := h
    cases e : z.cps.toList with
    | nil => rw [e] at hc; cases hc
    | cons a r =>
      rw [e] at h hc
      have h : (decide (r.length < 6) && decide (a ∈ lets) && (a :: r).all okc) = true := h
      rw [Bool.and_eq_true] at h
      exact okc_lt (List.all_eq_true.mp h.2 c hc)
  rw [Array.all_eq_true]
  intro i hi
  have := all z.cps[i] (by rw [Array.mem_toList_iff]; exact Array.getElem_mem hi)
  exact decide_eq_true (by omega)
theorem rising_of : ∀ {l : List Str} {p : Str}, (p :: l).Pairwise LeS → risingS p l = true
  | [], _, _ => rfl
  | x :: r, p, h => by
    obtain ⟨h1, h2⟩ := List.pairwise_cons.mp h
    show (!ltCps x.cps.toList p.cps.toList && risingS x r) = true
    rw [Bool.and_eq_true, Bool.not_eq_true']
    exact ⟨h1 x List.mem_cons_self, rising_of h2⟩
theorem sorted_of : ∀ {l : List Str}, l.Pairwise LeS → sortedS l = true
  | [], _ => rfl
  | _ :: _, h => rising_of h
structure Srt (o : List Str) : Prop where
  nd : o.Nodup
  so : sortedS o = true
theorem Srt.uniq {a b : List Str} (ha : Srt a) (hb : Srt b) (h : ∀ x, x ∈ a ↔ x ∈ b) : a = b := sortedS_one ha.so hb.so ((List.perm_ext_iff_of_nodup ha.nd hb.nd).mpr (fun x => h x))
theorem Srt.filter {a : List Str} (ha : Srt a) (p : Str → Bool) : Srt (a.filter p) := ⟨List.Pairwise.filter p ha.nd, sorted_of (List.Pairwise.filter p (sorted_pw ha.so))⟩
/-- what lies in o, sorted and each once, is what o has of it -/
theorem Srt.part {o c : List Str} (ho : Srt o) (hc : Srt c) (h : ∀ x ∈ c, x ∈ o) : c = o.filter fun w => decide (w ∈ c) := by
  refine hc.uniq (ho.filter _) fun x => ?_
  rw [List.mem_filter, decide_eq_true_iff]
  exact ⟨fun hx => ⟨h x hx, hx⟩, fun hx => hx.2⟩
/-- the names of a table -/
structure Nm (g : List (List Str)) (o : List Str) : Prop where
  srt : Srt o
  mem : ∀ x, x ∈ o ↔ x ∈ g.flatten
  len : o.length ≤ 6
theorem nm_of {g : List (List Str)} {o : List Str} (p : o.Perm (distS g.flatten)) (nd : o.Nodup) (so : sortedS o = true) (l : o.length ≤ 6) : Nm g o := ⟨⟨nd, so⟩, fun x => p.mem_iff.trans distS_mem, l⟩
/-- what is_set says of the sorted names -/
def isSetV (names : List Str) : PyData → Bool
  | .tuple ds => PyData.eqvAll ds ((names.filter fun w => ds.any fun z => PyData.eqv z (.str w)).map .str)
  | _ => false
theorem any_str (c : List Str) (w : Str) : ((c.map PyData.str).any fun z => PyData.eqv z (.str w)) = decide (w ∈ c) := by
  induction c with
  | nil => rfl
  | cons x c ih =>
    rw [List.map_cons, List.any_cons, ih, Bool.eq_iff_iff, Bool.or_eq_true, decide_eq_true_iff, decide_eq_true_iff, List.mem_cons]
    have : PyData.eqv (.str x) (.str w) = true ↔ x = w := IsQ.eqv (R := rStr) x w
    rw [this]
    exact ⟨fun h => h.imp Eq.symm id, fun h => h.imp Eq.symm id⟩
theorem isSetV_of (names c : List Str) : isSetV names (.tuple (c.map .str)) = decide (c = names.filter fun w => decide (w ∈ c)) := by
  have e : (fun w => (c.map PyData.str).any fun z => PyData.eqv z (.str w)) = fun w => decide (w ∈ c) := funext (any_str c)
  show PyData.eqvAll (c.map PyData.str) ((names.filter fun w => (c.map PyData.str).any fun z => PyData.eqv z (.str w)).map .str) = _
  rw [e, Bool.eq_iff_iff, decide_eq_true_iff]
  exact q_eqvAll (R := rStr) c _
theorem eqvAll_strs : ∀ {ds : List PyData} {xs : List Str}, PyData.eqvAll ds (xs.map .str) = true → ds = xs.map .str
  | [], [], _ => rfl
  | [], _ :: _, h => by simp [PyData.eqvAll] at h
  | _ :: _, [], h => by simp [PyData.eqvAll] at h
  | d :: ds, x :: xs, h => by
    have h : PyData.eqv d (.str x) = true ∧ PyData.eqvAll ds (xs.map .str) = true := by simpa only [List.map_cons, PyData.eqvAll, Bool.and_eq_true] using h
    have e : d = .str x := by
      have h1 := h.1
      cases d with
      | str z => simp [PyData.eqv] at h1; rw [h1]
      | _ => simp [PyData.eqv] at h1
    rw [e, eqvAll_strs h.2]
    rfl
/-- a set of names: the tuple of what it has of them -/
theorem isSetV_yes {names : List Str} {d : PyData} (h : isSetV names d = true) : ∃ c : List Str, d = .tuple (c.map .str) ∧ c = names.filter fun w => decide (w ∈ c) := by
  cases d with
  | tuple ds =>
    have e := eqvAll_strs (show PyData.eqvAll ds _ = true from h)
    refine ⟨_, congrArg _ e, ?_⟩
    have h2 := h
    rw [e, isSetV_of] at h2
    exact of_decide_eq_true h2
  | _ => cases h
/-! ### data that are drawn -/
mutual
theorem okE_lay : ∀ d : PyData, d.canLay0 = true → okE d = true
  | .none, _ => by simp [okE]
  | .bool _, _ => by simp [okE]
  | .int _, _ => by simp [okE]
  | .str _, _ => by simp [okE]
  | .list xs, h => by simp only [okE]; exact okEs_lay xs (by simpa [PyData.canLay0] using h)
  | .tuple xs, h => by simp only [okE]; exact okEs_lay xs (by simpa [PyData.canLay0] using h)
  | .dict _, h => by simp [PyData.canLay0] at h
theorem okEs_lay : ∀ ds : List PyData, PyData.canLayAll0 ds = true → okEs ds = true
  | [], _ => by simp [okEs]
  | d :: ds, h => by
    have h : d.canLay0 = true ∧ PyData.canLayAll0 ds = true := by simpa [PyData.canLayAll0] using h
    simp only [okEs, Bool.and_eq_true]
    exact ⟨okE_lay d h.1, okEs_lay ds h.2⟩
end
/-- plain data, or an empty dict -/
def OkD (d : PyData) : Prop := (d.canLay0 = true ∧ d.depth ≤ 50) ∨ d = .dict []
theorem OkD.e {d : PyData} (h : OkD d) : okE d = true := by
  rcases h with h | rfl
  · exact okE_lay d h.1
  · simp [okE]
theorem OkD.dep {d : PyData} (h : OkD d) : d.depth ≤ 50 := by
  rcases h with h | rfl
  · exact h.2
  · simp [PyData.depth, PyData.depthKv]
theorem OkD.sh {ds : List PyData} (h : OkD (.tuple ds)) : SeqAt.shaped (.tuple ds) = true := by
  rcases h with h | h
  · unfold SeqAt.shaped
    rw [Bool.and_eq_true]
    exact ⟨h.1, decide_eq_true (by have := h.2; omega)⟩
  · cases h
theorem okD_of {α : Type} {R : α → VP} [IsD R] [IsQ R] {a : α} (h : IsQ.ok R a) (hk : IsQ.k R ≤ 50 := by decide) : OkD (IsD.d R a) := .inl ⟨IsQ.lay a h, Nat.le_trans (IsQ.dep a) hk⟩
/-! ### seeking -/
theorem fs_if {β ρ : Type} (q : β → Bool) (f : β → ρ) : ∀ xs : List β, (xs.findSome? fun b => if q b = true then some (f b) else none) = ((xs.filter q).head?).map f
  | [] => rfl
  | x :: xs => by
    rw [List.findSome?_cons, List.filter_cons, fs_if q f xs]
    cases h : q x with
    | true => simp
    | false => simp
theorem any_filter {β : Type} (q : β → Bool) : ∀ xs : List β, ((xs.filter q).head?).isSome = xs.any q
  | [] => rfl
  | x :: xs => by
    rw [List.filter_cons, List.any_cons, ← any_filter q xs]
    cases h : q x with
    | true => simp
    | false => simp
/-- a line lies in what has the same names -/
theorem any_all {ls : List (List Str)} {c e : List Str} (h : ∀ x, x ∈ c ↔ x ∈ e) : (ls.any fun l => l.all fun x => decide (x ∈ c)) = ls.any fun l => l.all fun x => decide (x ∈ e) := by
  congr 1
  funext l
  congr 1
  funext x
  exact decide_eq_decide.mpr (h x)
theorem cutL_drop {α : Type} {xs : List α} {m : Nat} (h : m ≤ xs.length) : cutL xs (some (m : Int)) none = xs.drop m := by
  unfold cutL
  rw [HT.sIx_none, HT.sIx_nat, Nat.min_eq_left h]
  exact List.take_of_length_le (by rw [List.length_drop]; exact Nat.le_refl _)
theorem idx_last {α : Type} {xs : List α} {Φ : α → Nat → Prop} {Ψ : Exc → Nat → Prop} {n : Nat} (h : 0 < xs.length) (k : ∀ x ∈ xs, Φ x n) : Mi.idx xs (-(1 : Int)) Φ Ψ n := by
  have hl : xs.length - 1 < xs.length := by omega
  refine idx_i (x := xs[xs.length - 1]) ?_ (k _ (List.getElem_mem _))
  unfold L2.atI L2.ixN
  rw [if_neg (by omega), if_pos (by omega)]
  show xs[((-1 : Int) + xs.length).toNat]? = _
  rw [show ((-1 : Int) + xs.length).toNat = xs.length - 1 by omega]
  exact List.getElem?_eq_getElem hl
theorem raise_i {α : Type} {x : Exc} {Φ : α → Nat → Prop} {Ψ : Exc → Nat → Prop} {n : Nat} (k : Ψ x n) : M.raise x Φ Ψ n := k
theorem head_nil {β : Type} {xs : List β} (h : xs.head? = none) : xs = [] := List.head?_eq_none_iff.mp h
end VL

set_option pp.deepTerms false
set_option pp.deepTerms.threshold 8
namespace K66
open PySem PySem.Spec PyProof.Rows L2 VL
def top (i : Nat) : Stmt := PySem.Challenge.pw_twochoosers_k66_put_forces.main.body.getD i (.Pass ⟨0, 0, 0, 0⟩)
structure TxtB (mg : Str → Option Value) : Prop where
  z_abs : mg "abs" = none
  z_all : mg "all" = none
  z_bool : mg "bool" = none
  z_enumerate : mg "enumerate" = none
  z_int : mg "int" = none
  z_isinstance : mg "isinstance" = none
  z_len : mg "len" = none
  z_list : mg "list" = none
  z_max : mg "max" = none
  z_range : mg "range" = none
  z_set : mg "set" = none
  z_sorted : mg "sorted" = none
  z_tuple : mg "tuple" = none
  z_zip : mg "zip" = none
  c_DIGITS : ∃ t, mg "DIGITS" = some (.str "0123456789" t)
  c_LETTERS : ∃ t, mg "LETTERS" = some (.str "abcdefghijklmnopqrstuvwxyz" t)
  c_LONGEST_NAME : ∃ t, mg "LONGEST_NAME" = some (.int 6 t)
  c_MOST_LINES : ∃ t, mg "MOST_LINES" = some (.int 8 t)
  c_MOST_OUTCOMES : ∃ t, mg "MOST_OUTCOMES" = some (.int 6 t)
section
variable {P : Program} {w : World} {K : PySem.W.Frag} {mg : Str → Option Value} {base : Heap} {W_Table : ClsI K mg "Table" ["_outcomes", "_rows", "_columns"]}
abbrev s_Lstart : Stmt := top 44
abbrev N_Lstart : List Str := ["_law_script", "_law_cell"]
theorem sc_Lstart : FnScope ["_law_script", "_law_cell"] ["_law_script"] (defScope s_Lstart) := ⟨rfl, rfl, rfl, by decide +kernel, rfl, by decide +kernel, by decide +kernel⟩
theorem ok_Lstart {f : Addr} {fd : FuncData} (F : Fun K "_law_start" "_law_start" s_Lstart f fd) (T : TxtB mg) : FnOk P w K mg base CX0 1 f fd ["_law_script"] (spStart2 K) := by
  refine F.ok sc_Lstart (fun vs H Q E h => ?_) (fun cdv A outer s H vs Q E hr h => ?_)
  · obtain ⟨a, ns, rfl, _⟩ := h
    rfl
  · obtain ⟨a, ns, rfl, hS, hlen, q⟩ := h
    refine ⟨_, (pss_one (ps_ret (pe_lst (pa_cons (pe_lc (own := [("_law_cell", 1)]) (g := gName 1) (tt := tYes) rfl sc_Lstart.nd (pi_list (pv 0)) (blkOk_by (own := [("_law_cell", 1)]) (N := N_Lstart) (sc := defScope s_Lstart) (by decide +kernel)) (fun _ _ _ _ _ => (pg_name (i := 1) sc_Lstart.nd rfl (.inl rfl))) (fun _ _ _ _ _ => pts_nil) (fun _ _ _ _ _ => (pe_callTy call_int1 (by rfl) T.z_int (by decide +kernel) (pa_cons (pv 1) pa_nil)))) (pa_cons pe_int (pa_cons pe_int pa_nil)))))), ?_⟩
    refine ⟨_, rfl, a, rfl, ⟨_, hS⟩, fun D hD => lc_list (K := K) (a := a) (xs := ns.map V.int) (fun i H' => ∃ bs : List Int, H' = upd H D (.lst (bs.map V.int)) ∧ bs.length ≤ i)
      ⟨[], rfl, Nat.le_refl _⟩ (fun i H' _ ⟨bs, e, _⟩ => by rw [e]; exact (same_of_none hD).seq hS) ?_ ?_⟩
    · rintro i x H' hx ⟨bs, rfl, hb⟩
      have hi : i < ns.length := by
        have := (List.getElem?_eq_some_iff.mp hx).1
        rwa [List.length_map] at this
      obtain ⟨z, rfl⟩ : ∃ z, x = V.int z := by
        rw [List.getElem?_map] at hx
        cases e : ns[i]? with
        | none => rw [e] at hx; cases hx
        | some u => rw [e] at hx; exact ⟨u, (Option.some.inj hx).symm⟩
      refine ⟨rfl, .int z, rfl, .inl ⟨z, rfl, _, upd_same, ?_, ?_⟩⟩
      · rw [List.length_map]; exact small1000 (by omega)
      · exact ⟨bs ++ [z], by rw [upd_upd, List.map_append]; rfl, by simp; omega⟩
    · rintro H' ⟨bs, rfl, hb⟩
      have s1 : Same H (upd H D (.lst (bs.map V.int))) := same_of_none hD
      refine ⟨by show 3 ≤ sizeLine; decide, fun s hs => q s _ ?_⟩
      have s5 := same_of_none (o := HO.lst [.ref D, V.int 0, V.int 0]) hs
      have hs0 : H s = none := s1.free hs
      refine ⟨D, 0, 0, bs, ⟨s1.trans s5, hs0, hD, ?_, upd_same, s5 _ _ upd_same, by rw [List.length_map] at hb; omega, Int.le_refl _, Int.le_refl _⟩, Int.le_refl _⟩
      exact ne_of_none upd_same hs

abbrev s_Ltake : Stmt := top 45
abbrev N_Ltake : List Str := ["_law_state", "_law_limit", "_law_cells", "_law_at", "_law_cell", "_law_number"]
theorem sc_Ltake : FnScope ["_law_state", "_law_limit", "_law_cells", "_law_at", "_law_cell", "_law_number"] ["_law_state", "_law_limit"] (defScope s_Ltake) := ⟨rfl, rfl, rfl, by decide +kernel, rfl, by decide +kernel, by decide +kernel⟩
set_option maxHeartbeats 20000000 in
theorem ok_Ltake {f : Addr} {fd : FuncData} (F : Fun K "_law_take" "_law_take" s_Ltake f fd) (T : TxtB mg) : FnOk P w K mg base CX0 1 f fd ["_law_state", "_law_limit"] spDraw2 := by
  refine F.ok sc_Ltake (fun vs H Q E h => ?_) (fun cdv A outer s H vs Q E hr h => ?_)
  · obtain ⟨s, N, G, m, rfl, _⟩ := h
    rfl
  · obtain ⟨s, N, G, m, rfl, ⟨c, i, n, cs, k, hnN⟩, hN, hm, hm2, q⟩ := h
    refine ⟨_, (pss_cons (ps_set (i := 2) sc_Ltake.nd rfl (.inl rfl) (pe_ix ix_list (pv 0) pe_int (fun _ _ => rfl)))
      (pss_cons (ps_asg (pe_op op_add (pe_ix ix_list (pv 0) pe_int (fun _ _ => rfl)) pe_int) (pg_sub (pv 0) pe_int set_list))
      (pss_cons (ps_set (i := 3) sc_Ltake.nd rfl (.inl rfl) (pe_op op_modN (pe_callTy call_int1 (by rfl) T.z_int (by decide +kernel) (pa_cons (pe_ix ix_list (pv 0) pe_int (fun _ _ => rfl)) pa_nil)) (pe_callB (call_max2 rfl) (by rfl) T.z_max (by decide +kernel) (pa_cons pe_int (pa_cons (pe_callB call_len_seq (by rfl) T.z_len PySem.boot_len (pa_cons (pv 2) pa_nil)) pa_nil)))))
      (pss_cons (ps_set (i := 4) sc_Ltake.nd rfl (.inl rfl) pe_int)
      (Evl.pss_cut (ps_if (pt_truth (pv 2) (by intro _; rfl)) (pss_one (ps_set (i := 4) sc_Ltake.nd rfl (.inl rfl) (pe_ix ix_list (pv 2) (pv 3) (fun _ _ => rfl)))) pss_nil)
      (pss_cons (ps_if (pt_cmpR op_ge (pe_callB call_abs (by rfl) T.z_abs (by decide +kernel) (pa_cons (pv 4) pa_nil)) (pe_op op_pow pe_int pe_int) (nomark _)) (pss_cons (ps_asg (pe_op op_fdivW (pe_callB call_abs (by rfl) T.z_abs (by decide +kernel) (pa_cons (pv 4) pa_nil)) (pv 1)) (pg_sub (pv 2) (pv 3) set_list))
      (pss_one (ps_ret (pe_op op_modN (pe_callB call_abs (by rfl) T.z_abs (by decide +kernel) (pa_cons (pv 4) pa_nil)) (pv 1))))) pss_nil)
      (pss_cons (ps_asg (pe_op op_add (pe_ix ix_list (pv 0) pe_int (fun _ _ => rfl)) pe_int) (pg_sub (pv 0) pe_int set_list))
      (pss_cons (ps_set (i := 5) sc_Ltake.nd rfl (.inl rfl) (pe_op op_modN (pe_op op_pow (pe_callTy call_int1 (by rfl) T.z_int (by decide +kernel) (pa_cons (pe_op op_add (pe_op op_add (pe_op op_mulW (pe_op op_modN (pe_callTy call_int1 (by rfl) T.z_int (by decide +kernel) (pa_cons (pv 4) pa_nil)) pe_int) pe_int) (pe_op op_mulW (pe_ix ix_list (pv 0) pe_int (fun _ _ => rfl)) pe_int)) pe_int) pa_nil)) pe_int) pe_int))
      (pss_cons (ps_set (i := 5) sc_Ltake.nd rfl (.inl rfl) (pe_op op_modN (pe_op op_pow (pe_callTy call_int1 (by rfl) T.z_int (by decide +kernel) (pa_cons (pe_op op_add (pe_op op_add (pe_op op_mulW (pv 5) pe_int) (pe_op op_mulW (pe_ix ix_list (pv 0) pe_int (fun _ _ => rfl)) pe_int)) pe_int) pa_nil)) pe_int) pe_int))
      (pss_one (ps_ret (pe_op op_modN (pe_op op_fdivW (pv 5) pe_int) (pv 1))))))))))))), ?_⟩
    -- cells = state[0]
    refine ⟨.ref s, rfl, s, _, 0, _, rfl, rfl, SqL.of k.hs, atI_nat (j := 0) rfl, ?_⟩
    -- state[2] = state[2] + 1
    refine ⟨.ref s, rfl, s, _, 2, _, rfl, rfl, SqL.of k.hs, atI_nat (j := 2) rfl, n, 1, rfl, rfl, .ref s, rfl, s, _, 2, 2, rfl, rfl, k.hs, rfl, ?_⟩
    have hn0 := k.n0
    have hi0 := k.i0
    have k1 := k.st (i' := i) (n' := n + 1) k.i0 (by omega)
    -- at
    obtain ⟨L, hL⟩ : ∃ L : Int, L = (if ((cs.map V.int).length : Int) > 1 then ((cs.map V.int).length : Int) else 1) := ⟨_, rfl⟩
    have hL1 : 1 ≤ L := by rw [hL]; split <;> omega
    have hL2 : L ≤ 63 := by have := k.lc; rw [hL, List.length_map]; split <;> omega
    refine ⟨.ref s, rfl, s, _, 1, _, rfl, rfl, SqL.of k1.hs, atI_nat (j := 1) rfl, .inl ⟨i, rfl, ?_⟩⟩
    refine ⟨.ref c, rfl, c, _, rfl, .inl (SqL.of k1.hc), 1, _, rfl, ?_⟩
    rw [← hL]
    refine ⟨i, L, rfl, rfl, by omega, ?_⟩
    obtain ⟨f0, f1⟩ := fmod_in i (m := L) (by omega)
    obtain ⟨j, hj⟩ := Int.eq_ofNat_of_zero_le f0
    rw [show (fun i j => V.int (i.fmod j)) i L = V.int (j : Int) from congrArg V.int hj]
    rw [hj] at f1
    -- cell = 0
    obtain ⟨H1, hH1⟩ : ∃ H1, H1 = upd H s (HO.lst ([V.ref c, V.int i, V.int n].set 2 ((fun i j => V.int (i + j)) n 1))) := ⟨_, rfl⟩
    rw [← hH1]
    have k1 : VS2 s c i (n + 1) cs G H1 := by rw [hH1]; exact k1
    clear hH1
    refine ⟨fun σ' H' => ∃ z : Int, σ' = [some (.ref s), some (.int m), some (.ref c), some (.int (j : Int)), some (.int z), none] ∧ H' = H1 ∧ (cs ≠ [] → cs[j]? = some z) ∧ (cs = [] → z = 0), ?_, ?_⟩
    · refine ⟨.ref c, rfl, _, .inl ⟨_, SqL.of k1.hc, rfl⟩, ?_⟩
      cases cs with
      | nil => exact iteF ⟨0, rfl, rfl, (fun h => absurd rfl h), fun _ => rfl⟩
      | cons y r =>
        have hlt : j < (y :: r).length := by
          rw [hL, List.length_map] at f1
          split at f1
          · omega
          · simp only [List.length_cons] at *; omega
        refine iteT ⟨.ref c, rfl, .int (j : Int), rfl, c, _, (j : Int), .int ((y :: r)[j]'hlt), rfl, rfl, SqL.of k1.hc, atI_nat (by rw [List.getElem?_map, List.getElem?_eq_getElem hlt]; rfl), ?_⟩
        exact ⟨_, rfl, rfl, fun _ => List.getElem?_eq_getElem hlt, fun h => nomatch h⟩
    rintro σ' H' ⟨z, rfl, rfl, hz1, hz2⟩
    refine ⟨.int z, rfl, z, rfl, 10, 18, rfl, rfl, cpow1018, ?_⟩
    have ixz : ∀ {l : List Int} {x : Int}, l[j]? = some x → ixN (l.map V.int).length (j : Int) = some j := fun {l x} h => by
      have := (List.getElem?_eq_some_iff.mp h).1
      unfold ixN
      rw [if_pos (by omega), if_pos (by rw [List.length_map]; omega)]
      rfl
    refine ⟨_, _, rfl, rfl, _, rfl, ite2 (fun e0 => ?_) (fun e0 => ?_)⟩
    · have e0 : (10 : Int) ^ (18 : Int).toNat ≤ (if z < 0 then -z else z) := of_decide_eq_true e0
      have hcs : cs ≠ [] := fun h => by
        rw [hz2 h] at e0
        exact absurd e0 (by decide)
      have hj2 := hz1 hcs
      refine ⟨.int z, rfl, z, rfl, .int m, rfl, _, m, rfl, rfl, wide_div (b := 100) hm (by omega) (by decide) (by decide), .ref c, rfl, .int (j : Int), rfl, c, _, (j : Int), j, rfl, rfl, k1.hc, ixz hj2, ?_⟩
      refine ⟨.int z, rfl, z, rfl, .int m, rfl, _, m, rfl, rfl, by omega, ?_⟩
      have k2 := k1.cell (j := j) (z := (if z < 0 then -z else z) / m)
      rw [List.map_set] at k2
      exact q _ _ (fmod_in _ hm).1 (fmod_in _ hm).2 ⟨c, i, n + 1, _, k2, by omega⟩
    · refine ⟨.ref s, rfl, s, _, 1, _, rfl, rfl, SqL.of k1.hs, atI_nat (j := 1) rfl, i, 1, rfl, rfl, .ref s, rfl, s, _, 1, 1, rfl, rfl, k1.hs, rfl, ?_⟩
      have k2 := k1.st (i' := i + 1) (n' := n + 1) (by omega) (by omega)
      obtain ⟨c0, c1⟩ := fmod_in z (m := 2147483647) (by decide)
      have hn1 : n + 1 ≤ 1000002 := by omega
      refine ⟨.int z, rfl, .inl ⟨z, rfl, z, 2147483647, rfl, rfl, nz1, _, 48271, rfl, rfl, wmul c0 (by omega) (by decide) (by decide), .ref s, rfl, s, _, 2, _, rfl, rfl, SqL.of k2.hs, atI_nat (j := 2) rfl, _, 69621, rfl, rfl, wmul (by omega) (by omega) (by decide) (by decide), _, _, rfl, rfl, _, _, rfl, rfl, .inl ⟨_, rfl, _, 5, rfl, rfl, pow5 (by omega) (by omega), _, _, rfl, rfl, nz1, ?_⟩⟩⟩
      obtain ⟨d0, d1⟩ := fmod_in ((z.fmod 2147483647 * 48271 + (n + 1) * 69621 + 11) ^ (5 : Int).toNat) (m := 2147483647) (by decide)
      obtain ⟨nu, hnu⟩ : ∃ nu, nu = ((z.fmod 2147483647 * 48271 + (n + 1) * 69621 + 11) ^ (5 : Int).toNat).fmod 2147483647 := ⟨_, rfl⟩
      rw [← hnu] at d0 d1
      refine ⟨.int nu, by rw [hnu]; rfl, ?_⟩
      refine ⟨_, 16807, rfl, rfl, wmul d0 (by omega) (by decide) (by decide), .ref s, rfl, s, _, 2, _, rfl, rfl, SqL.of k2.hs, atI_nat (j := 2) rfl, _, 40692, rfl, rfl, wmul (by omega) (by omega) (by decide) (by decide), _, _, rfl, rfl, _, _, rfl, rfl, .inl ⟨_, rfl, _, 5, rfl, rfl, pow5 (by omega) (by omega), _, _, rfl, rfl, nz2, ?_⟩⟩
      refine ⟨_, rfl, _, 16, rfl, rfl, wide_div (b := 100) (by decide) (by decide) (by decide) (by decide), .int m, rfl, _, m, rfl, rfl, by omega, ?_⟩
      exact q _ _ (fmod_in _ hm).1 (fmod_in _ hm).2 ⟨c, i + 1, n + 1, _, k2, by omega⟩

def F_Ltake (q : Int × Unit) : M Int := Mi.draw q.1
theorem okT_Ltake {f : Addr} {fd : FuncData} (F : Fun K "_law_take" "_law_take" s_Ltake f fd) (T : TxtB mg) : FnOk P w K mg base CX0 1 f fd ["_law_state", "_law_limit"] (spT mg K ([] : List (Addr × Str)) thW (fun s (m : Int × Unit) => [rSt s, rInt m.1]) F_Ltake (Fz rInt)) := by
  delta F_Ltake Mi.draw
  exact (ok_Ltake F T).imp fun _ _ _ _ h => sp_draw2 h

abbrev s_BadSetD_initD : Stmt := inClass (top 8) 0
abbrev N_BadSetD_initD : List Str := ["self", "value"]
theorem sc_BadSetD_initD : FnScope ["self", "value"] ["self", "value"] (defScope s_BadSetD_initD) := ⟨rfl, rfl, rfl, by decide +kernel, rfl, by decide +kernel, by decide +kernel⟩
theorem ok_BadSetD_initD {f : Addr} {fd : FuncData} (F : Fun K "__init__" "BadSet.__init__" s_BadSetD_initD f fd) (T : TxtB mg) (x_BadSet : XCls K mg "BadSet" "value") : FnOk P w K mg base CX0 1 f fd ["self", "value"] (spXI x_BadSet.C "value") := by
  refine F.ok sc_BadSetD_initD (fun vs H Q E h => ?_) (fun cdv A outer s H vs Q E hr h => ?_)
  · obtain ⟨a, v, rfl, _⟩ := h
    rfl
  · obtain ⟨a, v, rfl, ha, q⟩ := h
    refine ⟨_, (pss_one (ps_ost (pv 0) (pv 1))), ?_⟩
    exact ⟨_, rfl, _, rfl, a, x_BadSet.C, rfl, x_BadSet.T, x_BadSet.no, .inl ⟨ha, fun dx h1 h2 => q dx h1 h2⟩⟩

abbrev s_BadSideD_initD : Stmt := inClass (top 10) 0
abbrev N_BadSideD_initD : List Str := ["self", "word"]
theorem sc_BadSideD_initD : FnScope ["self", "word"] ["self", "word"] (defScope s_BadSideD_initD) := ⟨rfl, rfl, rfl, by decide +kernel, rfl, by decide +kernel, by decide +kernel⟩
theorem ok_BadSideD_initD {f : Addr} {fd : FuncData} (F : Fun K "__init__" "BadSide.__init__" s_BadSideD_initD f fd) (T : TxtB mg) (x_BadSide : XCls K mg "BadSide" "word") : FnOk P w K mg base CX0 1 f fd ["self", "word"] (spXI x_BadSide.C "word") := by
  refine F.ok sc_BadSideD_initD (fun vs H Q E h => ?_) (fun cdv A outer s H vs Q E hr h => ?_)
  · obtain ⟨a, v, rfl, _⟩ := h
    rfl
  · obtain ⟨a, v, rfl, ha, q⟩ := h
    refine ⟨_, (pss_one (ps_ost (pv 0) (pv 1))), ?_⟩
    exact ⟨_, rfl, _, rfl, a, x_BadSide.C, rfl, x_BadSide.T, x_BadSide.no, .inl ⟨ha, fun dx h1 h2 => q dx h1 h2⟩⟩

abbrev s_DuplicateNameD_initD : Stmt := inClass (top 4) 0
abbrev N_DuplicateNameD_initD : List Str := ["self", "name"]
theorem sc_DuplicateNameD_initD : FnScope ["self", "name"] ["self", "name"] (defScope s_DuplicateNameD_initD) := ⟨rfl, rfl, rfl, by decide +kernel, rfl, by decide +kernel, by decide +kernel⟩
theorem ok_DuplicateNameD_initD {f : Addr} {fd : FuncData} (F : Fun K "__init__" "DuplicateName.__init__" s_DuplicateNameD_initD f fd) (T : TxtB mg) (x_DuplicateName : XCls K mg "DuplicateName" "name") : FnOk P w K mg base CX0 1 f fd ["self", "name"] (spXI x_DuplicateName.C "name") := by
  refine F.ok sc_DuplicateNameD_initD (fun vs H Q E h => ?_) (fun cdv A outer s H vs Q E hr h => ?_)
  · obtain ⟨a, v, rfl, _⟩ := h
    rfl
  · obtain ⟨a, v, rfl, ha, q⟩ := h
    refine ⟨_, (pss_one (ps_ost (pv 0) (pv 1))), ?_⟩
    exact ⟨_, rfl, _, rfl, a, x_DuplicateName.C, rfl, x_DuplicateName.T, x_DuplicateName.no, .inl ⟨ha, fun dx h1 h2 => q dx h1 h2⟩⟩

abbrev s_UnknownNameD_initD : Stmt := inClass (top 5) 0
abbrev N_UnknownNameD_initD : List Str := ["self", "name"]
theorem sc_UnknownNameD_initD : FnScope ["self", "name"] ["self", "name"] (defScope s_UnknownNameD_initD) := ⟨rfl, rfl, rfl, by decide +kernel, rfl, by decide +kernel, by decide +kernel⟩
theorem ok_UnknownNameD_initD {f : Addr} {fd : FuncData} (F : Fun K "__init__" "UnknownName.__init__" s_UnknownNameD_initD f fd) (T : TxtB mg) (x_UnknownName : XCls K mg "UnknownName" "name") : FnOk P w K mg base CX0 1 f fd ["self", "name"] (spXI x_UnknownName.C "name") := by
  refine F.ok sc_UnknownNameD_initD (fun vs H Q E h => ?_) (fun cdv A outer s H vs Q E hr h => ?_)
  · obtain ⟨a, v, rfl, _⟩ := h
    rfl
  · obtain ⟨a, v, rfl, ha, q⟩ := h
    refine ⟨_, (pss_one (ps_ost (pv 0) (pv 1))), ?_⟩
    exact ⟨_, rfl, _, rfl, a, x_UnknownName.C, rfl, x_UnknownName.T, x_UnknownName.no, .inl ⟨ha, fun dx h1 h2 => q dx h1 h2⟩⟩

abbrev s_valid_name : Stmt := top 16
abbrev N_valid_name : List Str := ["text", "sign"]
theorem sc_valid_name : FnScope ["text", "sign"] ["text"] (defScope s_valid_name) := ⟨rfl, rfl, rfl, by decide +kernel, rfl, by decide +kernel, by decide +kernel⟩
@[irreducible] def F_valid_name (q : Str × Unit) : M Bool := M.ret ((M.seq (M.bind (M.bind (M.bind (M.when ((q.1).length ≤ sizeLine) (((q.1).length : Int))) fun x_1 => (M.ite (decide (((1 : Int)) ≤ (x_1))) (M.pure (decide ((x_1) ≤ ((6 : Int))))) (M.pure false))) fun x_2 => (M.pure ((!(x_2))))) fun x_4 => (M.ite (x_4) (M.rt (false)) (M.nx (())))) fun s_3 => (M.bind (M.bind (M.bind (Mi.sgn (q.1) ((0 : Int))) fun x_9 => (Mi.inS (x_9) (("abcdefghijklmnopqrstuvwxyz" : Str)))) fun x_10 => (M.ite (x_10) (M.bind (Mi.comp ((VL.signs (q.1))) fun b_5 => (M.bind (M.bind (Mi.inS (b_5) (("abcdefghijklmnopqrstuvwxyz" : Str))) fun x_6 => (M.ite (x_6) (M.pure true) (Mi.inS (b_5) (("0123456789" : Str))))) fun x_7 => (M.pure ((some (x_7)))))) fun x_8 => (M.pure (((x_8).all id)))) (M.pure false))) fun x_11 => (M.rt (x_11)))) : M (Fl Bool Unit))
theorem ok_valid_name {f : Addr} {fd : FuncData} (F : Fun K "valid_name" "valid_name" s_valid_name f fd) (T : TxtB mg) : FnOk P w K mg base CX0 1 f fd ["text"] (spG mg K ([] : List (Addr × Str)) (fun q : Str × Unit => [rStr q.1]) F_valid_name (Fz rBl)) := by
  refine F.ok sc_valid_name spG_len (fun cdv A outer s H vs Q E hr h => ?_)
  refine ⟨_, (pss_cons (ps_if (pt_not (pt_chain op_le op_le pe_int (pe_callB call_len_str (by rfl) T.z_len PySem.boot_len (pa_cons (pv 0) pa_nil)) (pe_glob (v := .int 6) (by rfl) T.c_LONGEST_NAME.choose_spec ⟨_, rfl⟩))) (pss_one (ps_ret pe_bl)) pss_nil)
      (pss_one (ps_ret (pe_and (pe_cmpR op_in_sign (pe_ix ix_str (pv 0) pe_int (fun _ _ => rfl)) (pe_glob (v := .str "abcdefghijklmnopqrstuvwxyz") (by rfl) T.c_LETTERS.choose_spec ⟨_, rfl⟩) (by rfl)) (pe_one (pe_callB (cr_all rfl) (by rfl) T.z_all (by decide +kernel) (pa_cons (pe_lc (own := [("sign", 1)]) (g := gName 1) (tt := tYes) rfl sc_valid_name.nd (pi_str (pv 0)) (blkOk_by (own := [("sign", 1)]) (N := N_valid_name) (sc := defScope s_valid_name) (by decide +kernel)) (fun _ _ _ _ _ => (pg_name (i := 1) sc_valid_name.nd rfl (.inl rfl))) (fun _ _ _ _ _ => pts_nil) (fun _ _ _ _ _ => (pe_or (pe_cmpR op_in_sign (pv 1) (pe_glob (v := .str "abcdefghijklmnopqrstuvwxyz") (by rfl) T.c_LETTERS.choose_spec ⟨_, rfl⟩) (by rfl)) (pe_one (pe_cmpR op_in_sign (pv 1) (pe_glob (v := .str "0123456789") (by rfl) T.c_DIGITS.choose_spec ⟨_, rfl⟩) (by rfl)))))) pa_nil))))))), ?_⟩
  refine fn_G (δ := Unit) (ψ := fun _ _ => []) h ?_ (fun Θ B G0 q => 
      (sv_seq (sv_if (vt_not (vt_test (ve_chain (ve_c rInt 1 fun _ => rfl) (ve_cb (va_cons (ve_v rStr (q.1)) va_nil) vn_lenS) (ve_c rInt 6 fun _ => rfl) v2_le v2_le))) PxLe.nil (sv_ret (ve_c rBl false fun _ => rfl) PxLe.nil) (sv_conv (χ := (fun s_3 : Unit => [.fr (rStr (q.1)), .un])) (fun _ => ()) sv_nil (fun _ => (Le.same (Le.un Le.nil))))) fun s_3 =>
      (sv_ret (ve_and (ve_op2 (ve_op2 (ve_v rStr (q.1)) (ve_c rInt 0 fun _ => rfl) v2_ixS) (ve_c rStr ("abcdefghijklmnopqrstuvwxyz" : Str) fun _ => rfl) v2_inSign) (ve_cb (va_cons (ve_frL (ve_lc (vs := [1]) (js := [1]) (vi_str (ve_v rStr (q.1))) (hv1 rfl) (vg_name (i := 1)) (fun _ h => h) (fun b_5 => vt_yes) (fun b_5 => (ve_or (ve_op2 (ve_v rStr (b_5)) (ve_c rStr ("abcdefghijklmnopqrstuvwxyz" : Str) fun _ => rfl) v2_inSign) (ve_op2 (ve_v rStr (b_5)) (ve_c rStr ("0123456789" : Str) fun _ => rfl) v2_inSign))))) va_nil) vn_all)) PxLe.nil)))
  intro q; delta F_valid_name Mi.neQ Mi.datS Mi.inS Mi.niS Mi.sortSet Mi.insert Mi.dget Mi.comp2 Mi.exch Mi.two Mi.neD Mi.eqD Mi.inD Mi.inDT Mi.idx Mi.sgn Mi.rng Mi.comp Mi.join Mi.popAt Mi.popE Mi.sortI Mi.sortS Mi.sortD Mi.listD Mi.setL Mi.max Mi.min Mi.draw; rfl

abbrev s_as_set : Stmt := top 17
abbrev N_as_set : List Str := ["names"]
theorem sc_as_set : FnScope ["names"] ["names"] (defScope s_as_set) := ⟨rfl, rfl, rfl, by decide +kernel, rfl, by decide +kernel, by decide +kernel⟩
@[irreducible] def F_as_set (q : (List Str) × Unit) : M (List Str) := M.ret ((M.bind (M.bind (Mi.sortSet (q.1)) fun x_12 => (M.pure (x_12))) fun x_13 => (M.rt (x_13))) : M (Fl (List Str) Unit))
theorem ok_as_set {f : Addr} {fd : FuncData} (F : Fun K "as_set" "as_set" s_as_set f fd) (T : TxtB mg) : FnOk P w K mg base CX0 1 f fd ["names"] (spG mg K ([] : List (Addr × Str)) (fun q : (List Str) × Unit => [(rSq rStr) q.1]) F_as_set (Fz (rTup rStr))) := by
  refine F.ok sc_as_set spG_len (fun cdv A outer s H vs Q E hr h => ?_)
  refine ⟨_, (pss_one (ps_ret (pe_callTy call_tuple_of (by rfl) T.z_tuple (by decide +kernel) (pa_cons (pe_callB (cr_sortedX rfl) (by rfl) T.z_sorted (by decide +kernel) (pa_cons (pe_callTy (cr_setOfB rfl) (by rfl) T.z_set (by decide +kernel) (pa_cons (pv 0) pa_nil)) pa_nil)) pa_nil)))), ?_⟩
  refine fn_G (δ := Unit) (ψ := fun _ _ => []) h ?_ (fun Θ B G0 q => 
      (sv_ret (ve_cb (va_cons (ve_frL (ve_sortSetB (ve_v (rSq rStr) (q.1)))) va_nil) vn_tupL) PxLe.nil))
  intro q; delta F_as_set Mi.neQ Mi.datS Mi.inS Mi.niS Mi.sortSet Mi.insert Mi.dget Mi.comp2 Mi.exch Mi.two Mi.neD Mi.eqD Mi.inD Mi.inDT Mi.idx Mi.sgn Mi.rng Mi.comp Mi.join Mi.popAt Mi.popE Mi.sortI Mi.sortS Mi.sortD Mi.listD Mi.setL Mi.max Mi.min Mi.draw; rfl

abbrev s_is_set_of : Stmt := top 23
abbrev N_is_set_of : List Str := ["outcomes", "value", "name"]
theorem sc_is_set_of : FnScope ["outcomes", "value", "name"] ["outcomes", "value"] (defScope s_is_set_of) := ⟨rfl, rfl, rfl, by decide +kernel, rfl, by decide +kernel, by decide +kernel⟩
@[irreducible] def F_is_set_of (q : (List Str) × PyData × Unit) : M Bool := M.ret ((M.seq (M.ite ((!((isD_tuple (q.2.1))))) (M.rt (false)) (M.nx (()))) fun s_14 => (M.bind (M.bind (M.bind (M.bind (Mi.sortS (q.1)) fun x_17 => (Mi.comp (x_17) fun b_15 => (M.bind (Mi.inDT (IsD.d rStr (b_15)) (q.2.1)) fun x_16 => (M.ite (x_16) ((M.pure ((some (b_15))))) (M.pure none))))) fun x_18 => (M.pure (x_18))) fun x_19 => (Mi.eqD (IsD.d rDat (q.2.1)) (IsD.d (rTup rStr) (x_19)))) fun x_20 => (M.rt (x_20)))) : M (Fl Bool Unit))
theorem ok_is_set_of {f : Addr} {fd : FuncData} (F : Fun K "is_set_of" "is_set_of" s_is_set_of f fd) (T : TxtB mg) : FnOk P w K mg base CX0 1 f fd ["outcomes", "value"] (spG mg K ([] : List (Addr × Str)) (fun q : (List Str) × PyData × Unit => [(rTup rStr) q.1, rDat q.2.1]) F_is_set_of (Fz rBl)) := by
  refine F.ok sc_is_set_of spG_len (fun cdv A outer s H vs Q E hr h => ?_)
  refine ⟨_, (pss_cons (ps_if (pt_not (pt_val (pe_callB call_isi (by rfl) T.z_isinstance (by decide +kernel) (pa_cons (pv 1) (pa_cons (pe_bltn (v := .ty "tuple") (by rfl) T.z_tuple (by decide +kernel) rfl) pa_nil))))) (pss_one (ps_ret pe_bl)) pss_nil)
      (pss_one (ps_ret (pe_cmpR (op_eqD hr.units) (pv 1) (pe_callTy call_tuple_of (by rfl) T.z_tuple (by decide +kernel) (pa_cons (pe_lc (own := [("name", 2)]) (g := gName 2) rfl sc_is_set_of.nd (pi_list (pe_callB cr_sortedST (by rfl) T.z_sorted (by decide +kernel) (pa_cons (pv 0) pa_nil))) (blkOk_by (own := [("name", 2)]) (N := N_is_set_of) (sc := defScope s_is_set_of) (by decide +kernel)) (fun _ _ _ _ _ => (pg_name (i := 2) sc_is_set_of.nd rfl (.inl rfl))) (fun _ _ _ _ _ => (pts_one (pt_cmpR (op_inDTK (K := K) rfl (hu65 hr)) (pv 2) (pv 1) (by rfl)))) (fun _ _ _ _ _ => (pv 2))) pa_nil)) (nomark _))))), ?_⟩
  refine fn_G (δ := Unit) (ψ := fun _ _ => []) h ?_ (fun Θ B G0 q => 
      (sv_seq (sv_if (vt_not (vt_b (ve_isiDtuple (ve_v rDat (q.2.1))))) PxLe.nil (sv_ret (ve_c rBl false fun _ => rfl) PxLe.nil) (sv_conv (χ := (fun s_14 : Unit => [.fr ((rTup rStr) (q.1)), .fr (rDat (q.2.1)), .un])) (fun _ => ()) sv_nil (fun _ => (Le.same (Le.same (Le.un Le.nil)))))) fun s_14 =>
      (sv_ret (ve_op2 (ve_v rDat (q.2.1)) (ve_cb (va_cons (ve_frL (ve_lc (vs := [2]) (js := [2]) (vi_list (ve_frL (ve_cb (va_cons (ve_v (rTup rStr) (q.1)) va_nil) vn_sortedST))) (hv1 rfl) (vg_name (i := 2)) (fun _ h => h) (fun b_15 => (vt_test (ve_op2 (ve_v rStr (b_15)) (ve_v rDat (q.2.1)) v2_inDT))) (fun b_15 => (ve_v rStr (b_15))))) va_nil) vn_tupL) v2_eqD) PxLe.nil)))
  intro q; delta F_is_set_of Mi.neQ Mi.datS Mi.inS Mi.niS Mi.sortSet Mi.insert Mi.dget Mi.comp2 Mi.exch Mi.two Mi.neD Mi.eqD Mi.inD Mi.inDT Mi.idx Mi.sgn Mi.rng Mi.comp Mi.join Mi.popAt Mi.popE Mi.sortI Mi.sortS Mi.sortD Mi.listD Mi.setL Mi.max Mi.min Mi.draw; rfl

abbrev s_check_count : Stmt := top 24
abbrev N_check_count : List Str := ["count"]
theorem sc_check_count : FnScope ["count"] ["count"] (defScope s_check_count) := ⟨rfl, rfl, rfl, by decide +kernel, rfl, by decide +kernel, by decide +kernel⟩
@[irreducible] def F_check_count (q : Int × Unit) : M Unit := M.retN ((M.seq (M.bind (M.bind (M.ite (decide (((1 : Int)) ≤ (q.1))) (M.pure (decide ((q.1) ≤ ((6 : Int))))) (M.pure false)) fun x_21 => (M.pure ((!(x_21))))) fun x_23 => (M.ite (x_23) M.never (M.nx (())))) fun s_22 => (M.nx ())) : M (Fl Unit Unit)) ()
theorem ok_check_count {f : Addr} {fd : FuncData} (F : Fun K "check_count" "check_count" s_check_count f fd) (T : TxtB mg) : FnOk P w K mg base CX0 1 f fd ["count"] (spG mg K ([] : List (Addr × Str)) (fun q : Int × Unit => [rInt q.1]) F_check_count (Fz rNon)) := by
  refine F.ok sc_check_count spG_len (fun cdv A outer s H vs Q E hr h => ?_)
  refine ⟨_, (pss_one (ps_if (pt_not (pt_chain op_le op_le pe_int (pv 0) (pe_glob (v := .int 6) (by rfl) T.c_MOST_OUTCOMES.choose_spec ⟨_, rfl⟩))) (pss_one ps_never) pss_nil)), ?_⟩
  refine fn_GN (δ := Unit) h ?_ (fun Θ B G0 q => 
      (sv_conv (χ := fun _ : Unit => [.un]) (fun _ => ()) (sv_if (vt_not (vt_test (ve_chain (ve_c rInt 1 fun _ => rfl) (ve_v rInt (q.1)) (ve_c rInt 6 fun _ => rfl) v2_le v2_le))) PxLe.nil sv_never (sv_conv (χ := (fun s_22 : Unit => [.fr (rInt (q.1))])) (fun _ => ()) sv_nil (fun _ => (Le.same Le.nil)))) (fun _ => (Le.un Le.nil))))
  intro q; delta F_check_count Mi.neQ Mi.datS Mi.inS Mi.niS Mi.sortSet Mi.insert Mi.dget Mi.comp2 Mi.exch Mi.two Mi.neD Mi.eqD Mi.inD Mi.inDT Mi.idx Mi.sgn Mi.rng Mi.comp Mi.join Mi.popAt Mi.popE Mi.sortI Mi.sortS Mi.sortD Mi.listD Mi.setL Mi.max Mi.min Mi.draw; rfl

abbrev s_check_side : Stmt := top 26
abbrev N_check_side : List Str := ["word"]
theorem sc_check_side : FnScope ["word"] ["word"] (defScope s_check_side) := ⟨rfl, rfl, rfl, by decide +kernel, rfl, by decide +kernel, by decide +kernel⟩
@[irreducible] def F_check_side (q : Str × Unit) : M Unit := M.retN ((M.seq (M.ite ((true ^^ decide ((q.1) ∈ [("rows" : Str), ("columns" : Str)]))) (M.raise ⟨"BadSide", "word", IsD.d rStr (q.1)⟩) (M.nx (()))) fun s_24 => (M.nx ())) : M (Fl Unit Unit)) ()
theorem ok_check_side {f : Addr} {fd : FuncData} (F : Fun K "check_side" "check_side" s_check_side f fd) (T : TxtB mg) {G_SIDES : Addr} (g_SIDES : mg "SIDES" = some (.ref G_SIDES)) (s_SIDES : ∀ H, SqT K H G_SIDES [V.str "rows", V.str "columns"]) (x_BadSide : XCls K mg "BadSide" "word") (c_BadSideD_initD : CalM P w K mg base CX0 1 ["self", "word"] (spXI x_BadSide.C "word")) (i_BadSide : XIni K x_BadSide.C c_BadSideD_initD.f) : FnOk P w K mg base (CX P w) 3 f fd ["word"] (spG mg K ([] : List (Addr × Str)) (fun q : Str × Unit => [rStr q.1]) F_check_side (Fz rNon)) := by
  refine F.okX sc_check_side spG_len (fun cdv A outer s H vs Q E hr h => ?_)
  refine ⟨_, (pss_one (ps_if (pt_cmpR op_notIn_seq (pv 0) (pe_glob (v := .ref G_SIDES) (by rfl) g_SIDES rfl) (by rfl)) (pss_one (ps_raise rfl (takes_of rfl rfl rfl rfl) (pmk_oex x_BadSide.T i_BadSide.iC i_BadSide.tI c_BadSideD_initD.G (hr.mono (by decide)) c_BadSideD_initD.b .nil pass0 (by rfl) x_BadSide.g (pa_cons (pv 0) pa_nil)))) pss_nil)), ?_⟩
  refine fn_GN (δ := Unit) h ?_ (fun Θ B G0 q => 
      (sv_conv (χ := fun _ : Unit => [.un]) (fun _ => ()) (sv_if (vt_test (ve_inG (xs := [("rows" : Str), ("columns" : Str)]) (neg := true) s_SIDES (ve_v rStr (q.1)))) PxLe.nil (sv_raise (R := rStr) x_BadSide (ve_v rStr (q.1)) PxLe.nil) (sv_conv (χ := (fun s_24 : Unit => [.fr (rStr (q.1))])) (fun _ => ()) sv_nil (fun _ => (Le.same Le.nil)))) (fun _ => (Le.un Le.nil))))
  intro q; delta F_check_side Mi.neQ Mi.datS Mi.inS Mi.niS Mi.sortSet Mi.insert Mi.dget Mi.comp2 Mi.exch Mi.two Mi.neD Mi.eqD Mi.inD Mi.inDT Mi.idx Mi.sgn Mi.rng Mi.comp Mi.join Mi.popAt Mi.popE Mi.sortI Mi.sortS Mi.sortD Mi.listD Mi.setL Mi.max Mi.min Mi.draw; rfl

abbrev s_check_set : Stmt := top 25
abbrev N_check_set : List Str := ["outcomes", "value"]
theorem sc_check_set : FnScope ["outcomes", "value"] ["outcomes", "value"] (defScope s_check_set) := ⟨rfl, rfl, rfl, by decide +kernel, rfl, by decide +kernel, by decide +kernel⟩
@[irreducible] def F_check_set (q : (List Str) × PyData × Unit) : M Unit := M.retN ((M.seq (M.bind (M.bind (M.nox (F_is_set_of ((q.1), ((q.2.1), ())))) fun x_25 => (M.pure ((!(x_25))))) fun x_27 => (M.ite (x_27) (M.raise ⟨"BadSet", "value", IsD.d rDat (q.2.1)⟩) (M.nx (())))) fun s_26 => (M.nx ())) : M (Fl Unit Unit)) ()
theorem ok_check_set {f : Addr} {fd : FuncData} (F : Fun K "check_set" "check_set" s_check_set f fd) (T : TxtB mg) (x_BadSet : XCls K mg "BadSet" "value") (c_BadSetD_initD : CalM P w K mg base CX0 1 ["self", "value"] (spXI x_BadSet.C "value")) (i_BadSet : XIni K x_BadSet.C c_BadSetD_initD.f) (c_is_set_of : Cal P w K mg base "is_set_of" CX0 1 ["outcomes", "value"] (spG mg K ([] : List (Addr × Str)) (fun q : (List Str) × PyData × Unit => [(rTup rStr) q.1, rDat q.2.1]) F_is_set_of (Fz rBl))) : FnOk P w K mg base (CX P w) 3 f fd ["outcomes", "value"] (spG mg K ([] : List (Addr × Str)) (fun q : (List Str) × PyData × Unit => [(rTup rStr) q.1, rDat q.2.1]) F_check_set (Fz rNon)) := by
  refine F.okX sc_check_set spG_len (fun cdv A outer s H vs Q E hr h => ?_)
  refine ⟨_, (pss_one (ps_if (pt_not (pt_val (pe_call c_is_set_of.G (hr.mono (by decide)) (by rfl) c_is_set_of.g c_is_set_of.kp c_is_set_of.b .nil pass0 (pa_cons (pv 0) (pa_cons (pv 1) pa_nil))))) (pss_one (ps_raise rfl (takes_of rfl rfl rfl rfl) (pmk_oex x_BadSet.T i_BadSet.iC i_BadSet.tI c_BadSetD_initD.G (hr.mono (by decide)) c_BadSetD_initD.b .nil pass0 (by rfl) x_BadSet.g (pa_cons (pv 1) pa_nil)))) pss_nil)), ?_⟩
  refine fn_GN (δ := Unit) h ?_ (fun Θ B G0 q => 
      (sv_conv (χ := fun _ : Unit => [.un, .un]) (fun _ => ()) (sv_if (vt_not (vt_b (ve_callF (va_cons (ve_v (rTup rStr) (q.1)) (va_cons (ve_v rDat (q.2.1)) va_nil))))) PxLe.nil (sv_raise (R := rDat) x_BadSet (ve_v rDat (q.2.1)) PxLe.nil) (sv_conv (χ := (fun s_26 : Unit => [.fr ((rTup rStr) (q.1)), .fr (rDat (q.2.1))])) (fun _ => ()) sv_nil (fun _ => (Le.same (Le.same Le.nil))))) (fun _ => (Le.un (Le.un Le.nil)))))
  intro q; delta F_check_set Mi.neQ Mi.datS Mi.inS Mi.niS Mi.sortSet Mi.insert Mi.dget Mi.comp2 Mi.exch Mi.two Mi.neD Mi.eqD Mi.inD Mi.inDT Mi.idx Mi.sgn Mi.rng Mi.comp Mi.join Mi.popAt Mi.popE Mi.sortI Mi.sortS Mi.sortD Mi.listD Mi.setL Mi.max Mi.min Mi.draw; rfl

abbrev s_check_shape : Stmt := top 36
abbrev N_check_shape : List Str := ["lines", "width", "line"]
theorem sc_check_shape : FnScope ["lines", "width", "line"] ["lines"] (defScope s_check_shape) := ⟨rfl, rfl, rfl, by decide +kernel, rfl, by decide +kernel, by decide +kernel⟩
@[irreducible] def F_check_shape (q : (List (List Str)) × Unit) : M Unit := M.retN ((M.seq (M.bind (M.bind (M.ite (decide (((1 : Int)) ≤ (((q.1).length : Int)))) (M.pure (decide ((((q.1).length : Int)) ≤ ((8 : Int))))) (M.pure false)) fun x_28 => (M.pure ((!(x_28))))) fun x_30 => (M.ite (x_30) M.never (M.nx (())))) fun s_29 => (M.bind (M.bind (Mi.idx (q.1) ((0 : Int))) fun x_31 => (M.pure (((x_31).length : Int)))) fun width_32 => (M.seq (M.bind (M.bind (M.ite (decide (((1 : Int)) ≤ (width_32))) (M.pure (decide ((width_32) ≤ ((8 : Int))))) (M.pure false)) fun x_33 => (M.pure ((!(x_33))))) fun x_35 => (M.ite (x_35) M.never (M.nx (())))) fun s_34 => (M.seq (M.forL (fun b_36 s_37 => (M.seq (M.ite ((!decide ((((b_36).length : Int)) = (width_32)))) M.never (M.nx (()))) fun s_38 => (M.nx (())))) (q.1) ()) fun s_37 => (M.nx ()))))) : M (Fl Unit Unit)) ()
theorem ok_check_shape {f : Addr} {fd : FuncData} (F : Fun K "check_shape" "check_shape" s_check_shape f fd) (T : TxtB mg) : FnOk P w K mg base CX0 1 f fd ["lines"] (spG mg K ([] : List (Addr × Str)) (fun q : (List (List Str)) × Unit => [(rLst (rLst rStr)) q.1]) F_check_shape (Fz rNon)) := by
  refine F.ok sc_check_shape spG_len (fun cdv A outer s H vs Q E hr h => ?_)
  refine ⟨_, (pss_cons (ps_if (pt_not (pt_chain op_le op_le pe_int (pe_callB call_len_seq (by rfl) T.z_len PySem.boot_len (pa_cons (pv 0) pa_nil)) (pe_glob (v := .int 8) (by rfl) T.c_MOST_LINES.choose_spec ⟨_, rfl⟩))) (pss_one ps_never) pss_nil)
      (pss_cons (ps_set (i := 1) sc_check_shape.nd rfl (.inl rfl) (pe_callB call_len_seq (by rfl) T.z_len PySem.boot_len (pa_cons (pe_ix ix_list (pv 0) pe_int (fun _ _ => rfl)) pa_nil)))
      (pss_cons (ps_if (pt_not (pt_chain op_le op_le pe_int (pv 1) (pe_glob (v := .int 8) (by rfl) T.c_MOST_LINES.choose_spec ⟨_, rfl⟩))) (pss_one ps_never) pss_nil)
      (pss_one (ps_for PassesOwn.never rfl (pi_list (pv 0)) (pg_name (i := 2) sc_check_shape.nd rfl (.inl rfl)) (pss_one (ps_if (pt_cmpR op_ne (pe_callB call_len_seq (by rfl) T.z_len PySem.boot_len (pa_cons (pv 2) pa_nil)) (pv 1) (nomark _)) (pss_one ps_never) pss_nil))))))), ?_⟩
  refine fn_GN (δ := Unit) h ?_ (fun Θ B G0 q => 
      (sv_seq (sv_if (vt_not (vt_test (ve_chain (ve_c rInt 1 fun _ => rfl) (ve_cb (va_cons (ve_v (rLst (rLst rStr)) (q.1)) va_nil) vn_lenL) (ve_c rInt 8 fun _ => rfl) v2_le v2_le))) PxLe.nil sv_never (sv_conv (χ := (fun s_29 : Unit => [.fr ((rLst (rLst rStr)) (q.1)), .un, .un])) (fun _ => ()) sv_nil (fun _ => (Le.same (Le.un (Le.un Le.nil)))))) fun s_29 =>
      (sv_seq (sv_asg (i := 1) (ve_cb (va_cons (ve_op2 (ve_v (rLst (rLst rStr)) (q.1)) (ve_c rInt 0 fun _ => rfl) v2_ixL) va_nil) vn_lenL) PxLe.nil) fun width_32 =>
      (sv_seq (sv_if (vt_not (vt_test (ve_chain (ve_c rInt 1 fun _ => rfl) (ve_v rInt (width_32)) (ve_c rInt 8 fun _ => rfl) v2_le v2_le))) PxLe.nil sv_never (sv_conv (χ := (fun s_34 : Unit => [.fr ((rLst (rLst rStr)) (q.1)), .fr (rInt (width_32)), .un])) (fun _ => ()) sv_nil (fun _ => (Le.same (Le.same (Le.un Le.nil)))))) fun s_34 =>
      (sv_conv (χ := fun _ : Unit => [.un, .un, .un]) (fun _ => ()) (sv_for (ψ := (fun s_37 : Unit => [.fr ((rLst (rLst rStr)) (q.1)), .fr (rInt (width_32)), .un])) (s0 := ()) (vi_list (ve_v (rLst (rLst rStr)) (q.1))) PxLe.nil (Le.same (Le.same (Le.un Le.nil))) (fun s_37 => (vg_name (i := 2))) (fun b_36 s_37 => (sv_conv (χ := (fun s_37 : Unit => [.fr ((rLst (rLst rStr)) (q.1)), .fr (rInt (width_32)), .un])) (fun s_38 => ()) (sv_if (vt_test (ve_op2 (ve_cb (va_cons (ve_v (rLst rStr) (b_36)) va_nil) vn_lenL) (ve_v rInt (width_32)) v2_neI)) PxLe.nil sv_never (sv_conv (χ := (fun s_38 : Unit => [.fr ((rLst (rLst rStr)) (q.1)), .fr (rInt (width_32)), .fr ((rLst rStr) (b_36))])) (fun _ => ()) sv_nil (fun _ => (Le.same (Le.same (Le.same Le.nil)))))) (fun s_38 => (Le.same (Le.same (Le.un Le.nil))))))) (fun _ => (Le.un (Le.un (Le.un Le.nil)))))))))
  intro q; delta F_check_shape Mi.neQ Mi.datS Mi.inS Mi.niS Mi.sortSet Mi.insert Mi.dget Mi.comp2 Mi.exch Mi.two Mi.neD Mi.eqD Mi.inD Mi.inDT Mi.idx Mi.sgn Mi.rng Mi.comp Mi.join Mi.popAt Mi.popE Mi.sortI Mi.sortS Mi.sortD Mi.listD Mi.setL Mi.max Mi.min Mi.draw; rfl

abbrev s_exchanged : Stmt := top 39
abbrev N_exchanged : List Str := ["lines"]
theorem sc_exchanged : FnScope ["lines"] ["lines"] (defScope s_exchanged) := ⟨rfl, rfl, rfl, by decide +kernel, rfl, by decide +kernel, by decide +kernel⟩
@[irreducible] def F_exchanged (q : (List (List Str)) × Unit) : M (List (List Str)) := M.ret ((M.bind (Mi.exch (q.1)) fun x_39 => (M.rt (x_39))) : M (Fl (List (List Str)) Unit))
theorem ok_exchanged {f : Addr} {fd : FuncData} (F : Fun K "exchanged" "exchanged" s_exchanged f fd) (T : TxtB mg) : FnOk P w K mg base CX0 1 f fd ["lines"] (spG mg K ([] : List (Addr × Str)) (fun q : (List (List Str)) × Unit => [(rTup (rTup rStr)) q.1]) F_exchanged (Fz (rTup (rTup rStr)))) := by
  refine F.ok sc_exchanged spG_len (fun cdv A outer s H vs Q E hr h => ?_)
  refine ⟨_, (pss_one (ps_ret (ZN.pe_exch (pv 0) (by rfl) T.z_tuple (by rfl) T.z_zip))), ?_⟩
  refine fn_G (δ := Unit) (ψ := fun _ _ => []) h ?_ (fun Θ B G0 q => 
      (sv_ret (ve_exch (ve_v (rTup (rTup rStr)) (q.1))) PxLe.nil))
  intro q; delta F_exchanged Mi.neQ Mi.datS Mi.inS Mi.niS Mi.sortSet Mi.insert Mi.dget Mi.comp2 Mi.exch Mi.two Mi.neD Mi.eqD Mi.inD Mi.inDT Mi.idx Mi.sgn Mi.rng Mi.comp Mi.join Mi.popAt Mi.popE Mi.sortI Mi.sortS Mi.sortD Mi.listD Mi.setL Mi.max Mi.min Mi.draw; rfl

abbrev d_Table : Type := (List Str) × (List (List Str)) × (List (List Str))
abbrev fl_Table (q : d_Table) : List (Str × VP) := [(("_outcomes" : Str), (rTup rStr) q.1), (("_rows" : Str), (rTup (rTup rStr)) q.2.1), (("_columns" : Str), (rTup (rTup rStr)) q.2.2)]
abbrev rI_Table (C : Addr) (q : d_Table) : VP := rIns C (fl_Table q)
abbrev cI_Table (C : Addr) (q : d_Table) : CP := cIns C (fl_Table q)

abbrev s_TableD_initD : Stmt := inClass (top 35) 0
abbrev N_TableD_initD : List Str := ["self", "lines", "names", "name", "outcomes", "line"]
theorem sc_TableD_initD : FnScope ["self", "lines", "names", "name", "outcomes", "line"] ["self", "lines"] (defScope s_TableD_initD) := ⟨rfl, rfl, rfl, by decide +kernel, rfl, by decide +kernel, by decide +kernel⟩
@[irreducible] def F_TableD_initD (q : (List (List Str)) × Unit) : M d_Table := ((M.bind (M.nox (F_check_shape ((q.1), ()))) fun u_40 => (M.bind (Mi.comp2 (q.1) (fun b_41 => (M.pure (b_41))) fun b_41 b_42 => (M.pure ((some (b_42))))) fun names_43 => (M.seqI (ρ := Unit) (M.forL (fun b_44 s_45 => (M.seq (M.bind (M.bind (M.nox (F_valid_name ((b_44), ()))) fun x_46 => (M.pure ((!(x_46))))) fun x_48 => (M.ite (x_48) M.never (M.nx (())))) fun s_47 => (M.nx (())))) (names_43) ()) fun s_45 => (M.bind (M.nox (F_as_set ((names_43), ()))) fun outcomes_49 => (M.bind (M.nox (F_check_count ((((outcomes_49).length : Int)), ()))) fun u_50 => (M.nox (M.bind (M.pure (outcomes_49)) fun outcomes_51 => (M.bind (M.bind (Mi.comp (q.1) fun b_52 => (M.pure ((some (b_52))))) fun x_53 => (M.pure (x_53))) fun rows_54 => (M.bind (M.nox (F_exchanged ((rows_54), ()))) fun columns_55 => M.pure (outcomes_51, rows_54, columns_55)))))))))) : M d_Table)
theorem ok_TableD_initD {f : Addr} {fd : FuncData} (F : Fun K "__init__" "Table.__init__" s_TableD_initD f fd) (T : TxtB mg) (c_check_shape : Cal P w K mg base "check_shape" CX0 1 ["lines"] (spG mg K ([] : List (Addr × Str)) (fun q : (List (List Str)) × Unit => [(rLst (rLst rStr)) q.1]) F_check_shape (Fz rNon))) (c_valid_name : Cal P w K mg base "valid_name" CX0 1 ["text"] (spG mg K ([] : List (Addr × Str)) (fun q : Str × Unit => [rStr q.1]) F_valid_name (Fz rBl))) (c_as_set : Cal P w K mg base "as_set" CX0 1 ["names"] (spG mg K ([] : List (Addr × Str)) (fun q : (List Str) × Unit => [(rSq rStr) q.1]) F_as_set (Fz (rTup rStr)))) (c_check_count : Cal P w K mg base "check_count" CX0 1 ["count"] (spG mg K ([] : List (Addr × Str)) (fun q : Int × Unit => [rInt q.1]) F_check_count (Fz rNon))) (c_exchanged : Cal P w K mg base "exchanged" CX0 1 ["lines"] (spG mg K ([] : List (Addr × Str)) (fun q : (List (List Str)) × Unit => [(rTup (rTup rStr)) q.1]) F_exchanged (Fz (rTup (rTup rStr))))) : FnOk P w K mg base CX0 2 f fd ["self", "lines"] (spI mg K ([] : List (Addr × Str)) W_Table.C (fun q : (List (List Str)) × Unit => [(rLst (rLst rStr)) q.1]) F_TableD_initD (cI_Table W_Table.C)) := by
  refine F.ok sc_TableD_initD spI_len (fun cdv A outer s H vs Q E hr h => ?_)
  refine ⟨_, (pss_cons (ps_expr (pe_call c_check_shape.G (hr.mono (by decide)) (by rfl) c_check_shape.g c_check_shape.kp c_check_shape.b .nil pass0 (pa_cons (pv 1) pa_nil)))
      (pss_cons (ps_setLc2 (i := 2) (own := [("line", 5), ("name", 3)]) (vs1 := [3]) (g := gName 5) (g1 := gName 3) (tt := tYes) (tt1 := tYes) rfl sc_TableD_initD.nd rfl rfl (sw_true rfl rfl rfl (by decide +kernel)) (pi_list (pv 1)) (blkOk_by (own := [("line", 5), ("name", 3)]) (N := N_TableD_initD) (sc := defScope s_TableD_initD) (by decide +kernel)) (by decide) (fun _ _ _ _ _ => (pg_name (i := 5) sc_TableD_initD.nd rfl (.inl rfl))) (fun _ _ _ _ _ => pts_nil) (fun _ _ _ _ _ => (pi_listF (K := K) rfl (pv 5))) (fun _ _ _ _ _ => (pg_name (i := 3) sc_TableD_initD.nd rfl (.inl rfl))) (fun _ _ _ _ _ => pts_nil) (fun _ _ _ _ _ => (pv 3)))
      (pss_cons (ps_for PassesOwn.never rfl (pi_list (pv 2)) (pg_name (i := 3) sc_TableD_initD.nd rfl (.inl rfl)) (pss_one (ps_if (pt_not (pt_val (pe_call c_valid_name.G (hr.mono (by decide)) (by rfl) c_valid_name.g c_valid_name.kp c_valid_name.b .nil pass0 (pa_cons (pv 3) pa_nil)))) (pss_one ps_never) pss_nil)))
      (pss_cons (ps_set (i := 4) sc_TableD_initD.nd rfl (.inl rfl) (pe_call c_as_set.G (hr.mono (by decide)) (by rfl) c_as_set.g c_as_set.kp c_as_set.b .nil pass0 (pa_cons (pv 2) pa_nil)))
      (pss_cons (ps_expr (pe_call c_check_count.G (hr.mono (by decide)) (by rfl) c_check_count.g c_check_count.kp c_check_count.b .nil pass0 (pa_cons (pe_callB call_len_seq (by rfl) T.z_len PySem.boot_len (pa_cons (pv 4) pa_nil)) pa_nil)))
      (pss_cons (ps_fld (pv 0) (pv 4) (by rfl))
      (pss_cons (ps_fld (pv 0) (pe_callTy call_tuple_of (by rfl) T.z_tuple (by decide +kernel) (pa_cons (pe_lc (own := [("line", 5)]) (g := gName 5) (tt := tYes) rfl sc_TableD_initD.nd (pi_list (pv 1)) (blkOk_by (own := [("line", 5)]) (N := N_TableD_initD) (sc := defScope s_TableD_initD) (by decide +kernel)) (fun _ _ _ _ _ => (pg_name (i := 5) sc_TableD_initD.nd rfl (.inl rfl))) (fun _ _ _ _ _ => pts_nil) (fun _ _ _ _ _ => (pe_callTy (show CallR _ _ (rTupOf K) from call_tuple_of) (by rfl) T.z_tuple (by decide +kernel) (pa_cons (pv 5) pa_nil)))) pa_nil)) (by rfl))
      (pss_one (ps_fld (pv 0) (pe_call c_exchanged.G (hr.mono (by decide)) (by rfl) c_exchanged.g c_exchanged.kp c_exchanged.b .nil pass0 (pa_cons (pe_fldK (K := K) rfl (pv 0) (by rfl)) pa_nil)) (by rfl)))))))))), ?_⟩
  refine fn_J (fl := fl_Table) h ?_ (fun _ => rfl) (fun Θ B G0 x dx q hBx hGx hGB => 
      (si_seq (sv_expr (ve_callF (va_cons (ve_v (rLst (rLst rStr)) (q.1)) va_nil)) PxLe.nil) fun u_40 =>
      (si_seq (sv_asg (i := 2) (ve_frL (ve_lc2 (vs := [5, 3]) (vs1 := [3]) (js := [5]) (js1 := [3]) (vi_list (ve_v (rLst (rLst rStr)) (q.1))) (hv2 rfl rfl) (vg_name (i := 5)) (by decide) (fun _ _ _ h => ow_set h) (fun b_41 => (vi_list (ve_v (rLst rStr) (b_41)))) (fun b_41 => hv1 rfl) (fun b_41 => (vg_name (i := 3))) (by decide) (fun b_41 b_42 => vt_yes) (fun b_41 b_42 => (ve_v rStr (b_42))))) PxLe.nil) fun names_43 =>
      (si_seq (sv_for (ψ := (fun s_45 : Unit => [.fr (rAt x), .fr ((rLst (rLst rStr)) (q.1)), .fr ((rLst rStr) (names_43)), .un, .un, .un])) (s0 := ()) (vi_list (ve_v (rLst rStr) (names_43))) PxLe.nil (Le.same (Le.same (Le.same (Le.un (Le.un (Le.un Le.nil)))))) (fun s_45 => (vg_name (i := 3))) (fun b_44 s_45 => (sv_conv (χ := (fun s_45 : Unit => [.fr (rAt x), .fr ((rLst (rLst rStr)) (q.1)), .fr ((rLst rStr) (names_43)), .un, .un, .un])) (fun s_47 => ()) (sv_if (vt_not (vt_b (ve_callF (va_cons (ve_v rStr (b_44)) va_nil)))) PxLe.nil sv_never (sv_conv (χ := (fun s_47 : Unit => [.fr (rAt x), .fr ((rLst (rLst rStr)) (q.1)), .fr ((rLst rStr) (names_43)), .fr (rStr (b_44)), .un, .un])) (fun _ => ()) sv_nil (fun _ => (Le.same (Le.same (Le.same (Le.same (Le.un (Le.un Le.nil))))))))) (fun s_47 => (Le.same (Le.same (Le.same (Le.un (Le.un (Le.un Le.nil)))))))))) fun s_45 =>
      (si_seq (sv_asg (i := 4) (ve_callF (va_cons (ve_sqL (ve_v (rLst rStr) (names_43))) va_nil)) PxLe.nil) fun outcomes_49 =>
      (si_seq (sv_expr (ve_callF (va_cons (ve_cb (va_cons (ve_v (rTup rStr) (outcomes_49)) va_nil) vn_lenT) va_nil)) PxLe.nil) fun u_50 =>
      (si_end hBx hGx rfl hGB (sf_seq rfl rfl rfl rfl (ve_v (rTup rStr) (outcomes_49)) W_Table.cl (W_Table.na _ (by decide)) (nm_ne rfl) (Nat.le_of_ble_eq_true rfl) fun outcomes_51 =>
      (sf_seq rfl rfl rfl rfl (ve_cb (va_cons (ve_frL (ve_lc (vs := [5]) (js := [5]) (vi_list (ve_v (rLst (rLst rStr)) (q.1))) (hv1 rfl) (vg_name (i := 5)) (fun _ h => h) (fun b_52 => vt_yes) (fun b_52 => (ve_cb (va_cons (ve_v (rLst rStr) (b_52)) va_nil) vn_tupL)))) va_nil) vn_tupL) W_Table.cl (W_Table.na _ (by decide)) (nm_ne rfl) (Nat.le_of_ble_eq_true rfl) fun rows_54 =>
      (sf_conv (fun columns_55 => (outcomes_51, rows_54, columns_55)) (sf_one rfl rfl rfl (ve_callF (va_cons (ve_fldO (i := 0) (R := (rTup (rTup rStr))) (b := rows_54) rfl W_Table.cl (W_Table.na _ (by decide)) (.tail _ (.head _))) va_nil)) W_Table.cl (W_Table.na _ (by decide)) (nm_ne rfl) (Nat.le_of_ble_eq_true rfl))))))))))))
  intro q; delta F_TableD_initD Mi.neQ Mi.datS Mi.inS Mi.niS Mi.sortSet Mi.insert Mi.dget Mi.comp2 Mi.exch Mi.two Mi.neD Mi.eqD Mi.inD Mi.inDT Mi.idx Mi.sgn Mi.rng Mi.comp Mi.join Mi.popAt Mi.popE Mi.sortI Mi.sortS Mi.sortD Mi.listD Mi.setL Mi.max Mi.min Mi.draw; rfl

abbrev s_Table_outcomes : Stmt := inClass (top 35) 3
abbrev N_Table_outcomes : List Str := ["self"]
theorem sc_Table_outcomes : FnScope ["self"] ["self"] (defScope s_Table_outcomes) := ⟨rfl, rfl, rfl, by decide +kernel, rfl, by decide +kernel, by decide +kernel⟩
@[irreducible] def F_Table_outcomes (q : d_Table × Unit) : M (List Str) := M.ret ((M.rt ((q.1).1)) : M (Fl (List Str) Unit))
theorem ok_Table_outcomes {f : Addr} {fd : FuncData} (F : Fun K "outcomes" "Table.outcomes" s_Table_outcomes f fd) (T : TxtB mg) : FnOk P w K mg base CX0 1 f fd ["self"] (spG mg K ([] : List (Addr × Str)) (fun q : d_Table × Unit => [(rI_Table W_Table.C) q.1]) F_Table_outcomes (Fz (rTup rStr))) := by
  refine F.ok sc_Table_outcomes spG_len (fun cdv A outer s H vs Q E hr h => ?_)
  refine ⟨_, (pss_one (ps_ret (pe_fldK (K := K) rfl (pv 0) (by rfl)))), ?_⟩
  refine fn_G (δ := Unit) (ψ := fun _ _ => []) h ?_ (fun Θ B G0 q => 
      (sv_ret (ve_fld (R := (rTup rStr)) (fun z : d_Table => (z).1) (ve_v (rI_Table W_Table.C) (q.1)) W_Table.cl (W_Table.na _ (by decide)) (fun _ => .head _)) PxLe.nil))
  intro q; delta F_Table_outcomes Mi.neQ Mi.datS Mi.inS Mi.niS Mi.sortSet Mi.insert Mi.dget Mi.comp2 Mi.exch Mi.two Mi.neD Mi.eqD Mi.inD Mi.inDT Mi.idx Mi.sgn Mi.rng Mi.comp Mi.join Mi.popAt Mi.popE Mi.sortI Mi.sortS Mi.sortD Mi.listD Mi.setL Mi.max Mi.min Mi.draw; rfl

abbrev s_Table_lines_of : Stmt := inClass (top 35) 10
abbrev N_Table_lines_of : List Str := ["self", "side"]
theorem sc_Table_lines_of : FnScope ["self", "side"] ["self", "side"] (defScope s_Table_lines_of) := ⟨rfl, rfl, rfl, by decide +kernel, rfl, by decide +kernel, by decide +kernel⟩
@[irreducible] def F_Table_lines_of (q : d_Table × Str × Unit) : M (List (List Str)) := M.ret ((M.bind (F_check_side ((q.2.1), ())) fun u_56 => (M.rt ((if ((decide ((q.2.1) = (("rows" : Str))))) then ((q.1).2.1) else ((q.1).2.2))))) : M (Fl (List (List Str)) Unit))
theorem ok_Table_lines_of {f : Addr} {fd : FuncData} (F : Fun K "lines_of" "Table.lines_of" s_Table_lines_of f fd) (T : TxtB mg) (c_check_side : Cal P w K mg base "check_side" (CX P w) 3 ["word"] (spG mg K ([] : List (Addr × Str)) (fun q : Str × Unit => [rStr q.1]) F_check_side (Fz rNon))) : FnOk P w K mg base (CX P w) 4 f fd ["self", "side"] (spG mg K ([] : List (Addr × Str)) (fun q : d_Table × Str × Unit => [(rI_Table W_Table.C) q.1, rStr q.2.1]) F_Table_lines_of (Fz (rTup (rTup rStr)))) := by
  refine F.okX sc_Table_lines_of spG_len (fun cdv A outer s H vs Q E hr h => ?_)
  refine ⟨_, (pss_cons (ps_expr (pe_callS c_check_side.G (hr.mono (by decide)) (by rfl) c_check_side.g c_check_side.kp c_check_side.b (fun σ => passAt (takes_of rfl rfl rfl rfl) σ) (pa_cons (pv 1) pa_nil)))
      (PSs.nox (pss_one (ps_ret (pe_ifExp (pt_cmpR op_eq (pv 1) pe_str (nomark _)) (pe_fldK (K := K) rfl (pv 0) (by rfl)) (pe_fldK (K := K) rfl (pv 0) (by rfl))))))), ?_⟩
  refine fn_G (δ := Unit) (ψ := fun _ _ => []) h ?_ (fun Θ B G0 q => 
      (sv_seq (sv_expr (ve_callR (va_cons (ve_v rStr (q.2.1)) va_nil)) PxLe.nil) fun u_56 =>
      (sv_ret (ve_ifP (vt_test (ve_op2 (ve_v rStr (q.2.1)) (ve_c rStr ("rows" : Str) fun _ => rfl) v2_eqS)) (ve_fld (R := (rTup (rTup rStr))) (fun z : d_Table => (z).2.1) (ve_v (rI_Table W_Table.C) (q.1)) W_Table.cl (W_Table.na _ (by decide)) (fun _ => .tail _ (.head _))) (ve_fld (R := (rTup (rTup rStr))) (fun z : d_Table => (z).2.2) (ve_v (rI_Table W_Table.C) (q.1)) W_Table.cl (W_Table.na _ (by decide)) (fun _ => .tail _ (.tail _ (.head _))))) PxLe.nil)))
  intro q; delta F_Table_lines_of Mi.neQ Mi.datS Mi.inS Mi.niS Mi.sortSet Mi.insert Mi.dget Mi.comp2 Mi.exch Mi.two Mi.neD Mi.eqD Mi.inD Mi.inDT Mi.idx Mi.sgn Mi.rng Mi.comp Mi.join Mi.popAt Mi.popE Mi.sortI Mi.sortS Mi.sortD Mi.listD Mi.setL Mi.max Mi.min Mi.draw; rfl

abbrev s_others : Stmt := top 28
abbrev N_others : List Str := ["outcomes", "wanted", "name"]
theorem sc_others : FnScope ["outcomes", "wanted", "name"] ["outcomes", "wanted"] (defScope s_others) := ⟨rfl, rfl, rfl, by decide +kernel, rfl, by decide +kernel, by decide +kernel⟩
@[irreducible] def F_others (q : (List Str) × (List Str) × Unit) : M (List Str) := M.ret ((M.bind (M.bind (Mi.comp (q.1) fun b_57 => (M.ite ((!decide ((b_57) ∈ (q.2.1)))) ((M.pure ((some (b_57))))) (M.pure none))) fun x_58 => (M.pure (x_58))) fun x_59 => (M.rt (x_59))) : M (Fl (List Str) Unit))
theorem ok_others {f : Addr} {fd : FuncData} (F : Fun K "others" "others" s_others f fd) (T : TxtB mg) : FnOk P w K mg base CX0 1 f fd ["outcomes", "wanted"] (spG mg K ([] : List (Addr × Str)) (fun q : (List Str) × (List Str) × Unit => [(rTup rStr) q.1, (rTup rStr) q.2.1]) F_others (Fz (rTup rStr))) := by
  refine F.ok sc_others spG_len (fun cdv A outer s H vs Q E hr h => ?_)
  refine ⟨_, (pss_one (ps_ret (pe_callTy call_tuple_of (by rfl) T.z_tuple (by decide +kernel) (pa_cons (pe_lc (own := [("name", 2)]) (g := gName 2) rfl sc_others.nd (pi_tup (pv 0)) (blkOk_by (own := [("name", 2)]) (N := N_others) (sc := defScope s_others) (by decide +kernel)) (fun _ _ _ _ _ => (pg_name (i := 2) sc_others.nd rfl (.inl rfl))) (fun _ _ _ _ _ => (pts_one (pt_cmpR (op_niF (K := K) rfl) (pv 2) (pv 1) (by rfl)))) (fun _ _ _ _ _ => (pv 2))) pa_nil)))), ?_⟩
  refine fn_G (δ := Unit) (ψ := fun _ _ => []) h ?_ (fun Θ B G0 q => 
      (sv_ret (ve_cb (va_cons (ve_frL (ve_lc (vs := [2]) (js := [2]) (vi_tup (ve_v (rTup rStr) (q.1))) (hv1 rfl) (vg_name (i := 2)) (fun _ h => h) (fun b_57 => (vt_test (ve_op2 (ve_v rStr (b_57)) (ve_v (rTup rStr) (q.2.1)) v2_niT))) (fun b_57 => (ve_v rStr (b_57))))) va_nil) vn_tupL) PxLe.nil))
  intro q; delta F_others Mi.neQ Mi.datS Mi.inS Mi.niS Mi.sortSet Mi.insert Mi.dget Mi.comp2 Mi.exch Mi.two Mi.neD Mi.eqD Mi.inD Mi.inDT Mi.idx Mi.sgn Mi.rng Mi.comp Mi.join Mi.popAt Mi.popE Mi.sortI Mi.sortS Mi.sortD Mi.listD Mi.setL Mi.max Mi.min Mi.draw; rfl

abbrev s_common : Stmt := top 29
abbrev N_common : List Str := ["one", "other", "name"]
theorem sc_common : FnScope ["one", "other", "name"] ["one", "other"] (defScope s_common) := ⟨rfl, rfl, rfl, by decide +kernel, rfl, by decide +kernel, by decide +kernel⟩
@[irreducible] def F_common (q : (List Str) × PyData × Unit) : M (List Str) := M.ret ((M.bind (M.bind (Mi.comp (q.1) fun b_60 => (M.bind (Mi.inDT (IsD.d rStr (b_60)) (q.2.1)) fun x_61 => (M.ite (x_61) ((M.pure ((some (b_60))))) (M.pure none)))) fun x_62 => (M.pure (x_62))) fun x_63 => (M.rt (x_63))) : M (Fl (List Str) Unit))
theorem ok_common {f : Addr} {fd : FuncData} (F : Fun K "common" "common" s_common f fd) (T : TxtB mg) : FnOk P w K mg base CX0 1 f fd ["one", "other"] (spG mg K ([] : List (Addr × Str)) (fun q : (List Str) × PyData × Unit => [(rTup rStr) q.1, rDat q.2.1]) F_common (Fz (rTup rStr))) := by
  refine F.ok sc_common spG_len (fun cdv A outer s H vs Q E hr h => ?_)
  refine ⟨_, (pss_one (ps_ret (pe_callTy call_tuple_of (by rfl) T.z_tuple (by decide +kernel) (pa_cons (pe_lc (own := [("name", 2)]) (g := gName 2) rfl sc_common.nd (pi_tup (pv 0)) (blkOk_by (own := [("name", 2)]) (N := N_common) (sc := defScope s_common) (by decide +kernel)) (fun _ _ _ _ _ => (pg_name (i := 2) sc_common.nd rfl (.inl rfl))) (fun _ _ _ _ _ => (pts_one (pt_cmpR (op_inDTK (K := K) rfl (hu65 hr)) (pv 2) (pv 1) (by rfl)))) (fun _ _ _ _ _ => (pv 2))) pa_nil)))), ?_⟩
  refine fn_G (δ := Unit) (ψ := fun _ _ => []) h ?_ (fun Θ B G0 q => 
      (sv_ret (ve_cb (va_cons (ve_frL (ve_lc (vs := [2]) (js := [2]) (vi_tup (ve_v (rTup rStr) (q.1))) (hv1 rfl) (vg_name (i := 2)) (fun _ h => h) (fun b_60 => (vt_test (ve_op2 (ve_v rStr (b_60)) (ve_v rDat (q.2.1)) v2_inDT))) (fun b_60 => (ve_v rStr (b_60))))) va_nil) vn_tupL) PxLe.nil))
  intro q; delta F_common Mi.neQ Mi.datS Mi.inS Mi.niS Mi.sortSet Mi.insert Mi.dget Mi.comp2 Mi.exch Mi.two Mi.neD Mi.eqD Mi.inD Mi.inDT Mi.idx Mi.sgn Mi.rng Mi.comp Mi.join Mi.popAt Mi.popE Mi.sortI Mi.sortS Mi.sortD Mi.listD Mi.setL Mi.max Mi.min Mi.draw; rfl

abbrev s_lies_in : Stmt := top 30
abbrev N_lies_in : List Str := ["names", "wanted", "name"]
theorem sc_lies_in : FnScope ["names", "wanted", "name"] ["names", "wanted"] (defScope s_lies_in) := ⟨rfl, rfl, rfl, by decide +kernel, rfl, by decide +kernel, by decide +kernel⟩
@[irreducible] def F_lies_in (q : (List Str) × PyData × Unit) : M Bool := M.ret ((M.bind (M.bind (Mi.comp (q.1) fun b_64 => (M.bind (Mi.inDT (IsD.d rStr (b_64)) (q.2.1)) fun x_65 => (M.pure ((some (x_65)))))) fun x_66 => (M.pure (((x_66).all id)))) fun x_67 => (M.rt (x_67))) : M (Fl Bool Unit))
theorem ok_lies_in {f : Addr} {fd : FuncData} (F : Fun K "lies_in" "lies_in" s_lies_in f fd) (T : TxtB mg) : FnOk P w K mg base CX0 1 f fd ["names", "wanted"] (spG mg K ([] : List (Addr × Str)) (fun q : (List Str) × PyData × Unit => [(rTup rStr) q.1, rDat q.2.1]) F_lies_in (Fz rBl)) := by
  refine F.ok sc_lies_in spG_len (fun cdv A outer s H vs Q E hr h => ?_)
  refine ⟨_, (pss_one (ps_ret (pe_callB (cr_all rfl) (by rfl) T.z_all (by decide +kernel) (pa_cons (pe_lc (own := [("name", 2)]) (g := gName 2) (tt := tYes) rfl sc_lies_in.nd (pi_tup (pv 0)) (blkOk_by (own := [("name", 2)]) (N := N_lies_in) (sc := defScope s_lies_in) (by decide +kernel)) (fun _ _ _ _ _ => (pg_name (i := 2) sc_lies_in.nd rfl (.inl rfl))) (fun _ _ _ _ _ => pts_nil) (fun _ _ _ _ _ => (pe_cmpR (op_inDTK (K := K) rfl (hu65 hr)) (pv 2) (pv 1) (by rfl)))) pa_nil)))), ?_⟩
  refine fn_G (δ := Unit) (ψ := fun _ _ => []) h ?_ (fun Θ B G0 q => 
      (sv_ret (ve_cb (va_cons (ve_frL (ve_lc (vs := [2]) (js := [2]) (vi_tup (ve_v (rTup rStr) (q.1))) (hv1 rfl) (vg_name (i := 2)) (fun _ h => h) (fun b_64 => vt_yes) (fun b_64 => (ve_op2 (ve_v rStr (b_64)) (ve_v rDat (q.2.1)) v2_inDT)))) va_nil) vn_all) PxLe.nil))
  intro q; delta F_lies_in Mi.neQ Mi.datS Mi.inS Mi.niS Mi.sortSet Mi.insert Mi.dget Mi.comp2 Mi.exch Mi.two Mi.neD Mi.eqD Mi.inD Mi.inDT Mi.idx Mi.sgn Mi.rng Mi.comp Mi.join Mi.popAt Mi.popE Mi.sortI Mi.sortS Mi.sortD Mi.listD Mi.setL Mi.max Mi.min Mi.draw; rfl

abbrev s_forcing_line : Stmt := top 31
abbrev N_forcing_line : List Str := ["table", "side", "wanted", "number", "line"]
theorem sc_forcing_line : FnScope ["table", "side", "wanted", "number", "line"] ["table", "side", "wanted"] (defScope s_forcing_line) := ⟨rfl, rfl, rfl, by decide +kernel, rfl, by decide +kernel, by decide +kernel⟩
@[irreducible] def F_forcing_line (q : d_Table × Str × PyData × Unit) : M (Option Int) := M.ret ((M.bind (F_check_side ((q.2.1), ())) fun u_68 => (M.bind (M.bind (M.nox (F_Table_outcomes ((q.1), ()))) fun x_69 => (F_check_set ((x_69), ((q.2.2.1), ())))) fun u_70 => (M.seq (M.bind (M.bind (F_Table_lines_of ((q.1), ((q.2.1), ()))) fun x_71 => (M.pure ((zipI (x_71))))) fun x_76 => (M.forL (fun b_72 s_73 => (M.seq (M.bind (M.nox (F_lies_in (((b_72).2), ((q.2.2.1), ())))) fun x_75 => (M.ite (x_75) (M.rt ((some ((b_72).1)))) (M.nx (())))) fun s_74 => (M.nx (())))) (x_76) ())) fun s_73 => (M.rt ((none : (Option Int))))))) : M (Fl (Option Int) Unit))
theorem ok_forcing_line {f : Addr} {fd : FuncData} (F : Fun K "forcing_line" "forcing_line" s_forcing_line f fd) (T : TxtB mg) (c_check_side : Cal P w K mg base "check_side" (CX P w) 3 ["word"] (spG mg K ([] : List (Addr × Str)) (fun q : Str × Unit => [rStr q.1]) F_check_side (Fz rNon))) (c_Table_outcomes : CalM P w K mg base CX0 1 ["self"] (spG mg K ([] : List (Addr × Str)) (fun q : d_Table × Unit => [(rI_Table W_Table.C) q.1]) F_Table_outcomes (Fz (rTup rStr)))) {pp_Table_outcomes : Addr} (p_Table_outcomes : PropOf K W_Table.C "outcomes" pp_Table_outcomes c_Table_outcomes.f) (c_check_set : Cal P w K mg base "check_set" (CX P w) 3 ["outcomes", "value"] (spG mg K ([] : List (Addr × Str)) (fun q : (List Str) × PyData × Unit => [(rTup rStr) q.1, rDat q.2.1]) F_check_set (Fz rNon))) (c_Table_lines_of : CalM P w K mg base (CX P w) 4 ["self", "side"] (spG mg K ([] : List (Addr × Str)) (fun q : d_Table × Str × Unit => [(rI_Table W_Table.C) q.1, rStr q.2.1]) F_Table_lines_of (Fz (rTup (rTup rStr))))) (m_Table_lines_of : Meth K W_Table.C "lines_of" c_Table_lines_of.f) (c_lies_in : Cal P w K mg base "lies_in" CX0 1 ["names", "wanted"] (spG mg K ([] : List (Addr × Str)) (fun q : (List Str) × PyData × Unit => [(rTup rStr) q.1, rDat q.2.1]) F_lies_in (Fz rBl))) : FnOk P w K mg base (CX P w) 6 f fd ["table", "side", "wanted"] (spG mg K ([] : List (Addr × Str)) (fun q : d_Table × Str × PyData × Unit => [(rI_Table W_Table.C) q.1, rStr q.2.1, rDat q.2.2.1]) F_forcing_line (Fz (rOpt rInt))) := by
  refine F.okX sc_forcing_line spG_len (fun cdv A outer s H vs Q E hr h => ?_)
  refine ⟨_, (pss_cons (ps_expr (pe_callS c_check_side.G (hr.mono (by decide)) (by rfl) c_check_side.g c_check_side.kp c_check_side.b (fun σ => passAt (takes_of rfl rfl rfl rfl) σ) (pa_cons (pv 1) pa_nil)))
      (pss_cons (ps_expr (pe_callS c_check_set.G (hr.mono (by decide)) (by rfl) c_check_set.g c_check_set.kp c_check_set.b (fun σ => passAt (takes_of rfl rfl rfl rfl) σ) (pa_cons (pe_prop (pv 0) W_Table.cl p_Table_outcomes c_Table_outcomes.G (hr.mono (by decide)) c_Table_outcomes.b .nil pass0 (by rfl)) (pa_cons (pv 2) pa_nil))))
      (pss_cons (ps_for (passes_of rfl) rfl (pi_enumU (by rfl) T.z_enumerate (pa_cons (pe_methT (pv 0) W_Table.cl m_Table_lines_of c_Table_lines_of.G (hr.mono (by decide)) c_Table_lines_of.b (fun σ => passAt (takes_of rfl rfl rfl rfl) σ) (pa_cons (pv 1) pa_nil)) pa_nil)) (pg_tup (by rfl) (pgs_cons (pg_name (i := 3) sc_forcing_line.nd rfl (.inl rfl)) (pgs_cons (pg_name (i := 4) sc_forcing_line.nd rfl (.inl rfl)) pgs_nil))) (pss_one (ps_if (pt_val (pe_call c_lies_in.G (hr.mono (by decide)) (by rfl) c_lies_in.g c_lies_in.kp c_lies_in.b .nil pass0 (pa_cons (pv 4) (pa_cons (pv 2) pa_nil)))) (pss_one (ps_ret (pv 3))) pss_nil)))
      (PSs.nox (pss_one (ps_ret pe_non)))))), ?_⟩
  refine fn_G (δ := Unit) (ψ := fun _ _ => []) h ?_ (fun Θ B G0 q => 
      (sv_seq (sv_expr (ve_callR (va_cons (ve_v rStr (q.2.1)) va_nil)) PxLe.nil) fun u_68 =>
      (sv_seq (sv_expr (ve_callR (va_cons (ve_prop (ve_v (rI_Table W_Table.C) (q.1))) (va_cons (ve_v rDat (q.2.2.1)) va_nil))) PxLe.nil) fun u_70 =>
      (sv_seq (sv_for (ψ := (fun s_73 : Unit => [.fr ((rI_Table W_Table.C) (q.1)), .fr (rStr (q.2.1)), .fr (rDat (q.2.2.1)), .un, .un])) (s0 := ()) (vi_enumT (ve_methR (ve_v (rI_Table W_Table.C) (q.1)) (va_cons (ve_v rStr (q.2.1)) va_nil) (hn := fun _ => nm_ne rfl))) PxLe.nil (Le.same (Le.same (Le.same (Le.un (Le.un Le.nil))))) (fun s_73 => (vg_pair (i := 3) (j := 4))) (fun b_72 s_73 => (sv_conv (χ := (fun s_73 : Unit => [.fr ((rI_Table W_Table.C) (q.1)), .fr (rStr (q.2.1)), .fr (rDat (q.2.2.1)), .un, .un])) (fun s_74 => ()) (sv_if (vt_b (ve_callF (va_cons (ve_v (rTup rStr) ((b_72).2)) (va_cons (ve_v rDat (q.2.2.1)) va_nil)))) PxLe.nil (sv_ret (ve_some (ve_v rInt ((b_72).1))) PxLe.nil) (sv_conv (χ := (fun s_74 : Unit => [.fr ((rI_Table W_Table.C) (q.1)), .fr (rStr (q.2.1)), .fr (rDat (q.2.2.1)), .fr (rInt ((b_72).1)), .fr ((rTup rStr) ((b_72).2))])) (fun _ => ()) sv_nil (fun _ => (Le.same (Le.same (Le.same (Le.same (Le.same Le.nil)))))))) (fun s_74 => (Le.same (Le.same (Le.same (Le.un (Le.un Le.nil))))))))) fun s_73 =>
      (sv_ret (ve_none (R := rInt) (ve_c rNon () fun _ => rfl)) PxLe.nil)))))
  intro q; delta F_forcing_line Mi.neQ Mi.datS Mi.inS Mi.niS Mi.sortSet Mi.insert Mi.dget Mi.comp2 Mi.exch Mi.two Mi.neD Mi.eqD Mi.inD Mi.inDT Mi.idx Mi.sgn Mi.rng Mi.comp Mi.join Mi.popAt Mi.popE Mi.sortI Mi.sortS Mi.sortD Mi.listD Mi.setL Mi.max Mi.min Mi.draw; rfl

abbrev s_forces : Stmt := top 32
abbrev N_forces : List Str := ["table", "side", "wanted"]
theorem sc_forces : FnScope ["table", "side", "wanted"] ["table", "side", "wanted"] (defScope s_forces) := ⟨rfl, rfl, rfl, by decide +kernel, rfl, by decide +kernel, by decide +kernel⟩
@[irreducible] def F_forces (q : d_Table × Str × PyData × Unit) : M Bool := M.ret ((M.bind (M.bind (F_forcing_line ((q.1), ((q.2.1), ((q.2.2.1), ())))) fun x_77 => (M.pure ((x_77).isSome))) fun x_78 => (M.rt (x_78))) : M (Fl Bool Unit))
theorem ok_forces {f : Addr} {fd : FuncData} (F : Fun K "forces" "forces" s_forces f fd) (T : TxtB mg) (c_forcing_line : Cal P w K mg base "forcing_line" (CX P w) 6 ["table", "side", "wanted"] (spG mg K ([] : List (Addr × Str)) (fun q : d_Table × Str × PyData × Unit => [(rI_Table W_Table.C) q.1, rStr q.2.1, rDat q.2.2.1]) F_forcing_line (Fz (rOpt rInt)))) : FnOk P w K mg base (CX P w) 7 f fd ["table", "side", "wanted"] (spG mg K ([] : List (Addr × Str)) (fun q : d_Table × Str × PyData × Unit => [(rI_Table W_Table.C) q.1, rStr q.2.1, rDat q.2.2.1]) F_forces (Fz rBl)) := by
  refine F.okX sc_forces spG_len (fun cdv A outer s H vs Q E hr h => ?_)
  refine ⟨_, (pss_one (ps_ret (pe_cmpR op_notN (pe_callS c_forcing_line.G (hr.mono (by decide)) (by rfl) c_forcing_line.g c_forcing_line.kp c_forcing_line.b (fun σ => passAt (takes_of rfl rfl rfl rfl) σ) (pa_cons (pv 0) (pa_cons (pv 1) (pa_cons (pv 2) pa_nil)))) pe_non (nomark _)))), ?_⟩
  refine fn_G (δ := Unit) (ψ := fun _ _ => []) h ?_ (fun Θ B G0 q => 
      (sv_ret (ve_notN nn_int (ve_callR (va_cons (ve_v (rI_Table W_Table.C) (q.1)) (va_cons (ve_v rStr (q.2.1)) (va_cons (ve_v rDat (q.2.2.1)) va_nil))))) PxLe.nil))
  intro q; delta F_forces Mi.neQ Mi.datS Mi.inS Mi.niS Mi.sortSet Mi.insert Mi.dget Mi.comp2 Mi.exch Mi.two Mi.neD Mi.eqD Mi.inD Mi.inDT Mi.idx Mi.sgn Mi.rng Mi.comp Mi.join Mi.popAt Mi.popE Mi.sortI Mi.sortS Mi.sortD Mi.listD Mi.setL Mi.max Mi.min Mi.draw; rfl

abbrev s_check_put : Stmt := top 41
abbrev N_check_put : List Str := ["table", "name", "other", "doubled"]
theorem sc_check_put : FnScope ["table", "name", "other", "doubled"] ["table", "name", "other"] (defScope s_check_put) := ⟨rfl, rfl, rfl, by decide +kernel, rfl, by decide +kernel, by decide +kernel⟩
@[irreducible] def F_check_put (q : d_Table × Str × d_Table × Unit) : M Unit := M.retN ((M.seq (M.bind (M.bind (M.nox (F_Table_outcomes ((q.1), ()))) fun x_79 => (M.pure ((!decide ((q.2.1) ∈ (x_79)))))) fun x_81 => (M.ite (x_81) (M.raise ⟨"UnknownName", "name", IsD.d rStr (q.2.1)⟩) (M.nx (())))) fun s_80 => (M.bind (M.bind (M.nox (F_Table_outcomes ((q.2.2.1), ()))) fun x_84 => (M.bind (M.bind (M.bind (M.nox (F_Table_outcomes ((q.1), ()))) fun x_82 => (M.nox (F_others ((x_82), (([(q.2.1)]), ()))))) fun x_83 => (M.pure ((IsD.d (rTup rStr) x_83)))) fun x_85 => (M.nox (F_common ((x_84), ((x_85), ())))))) fun doubled_86 => (M.seq (M.ite ((!(doubled_86).isEmpty)) (M.bind (Mi.idx (doubled_86) ((0 : Int))) fun x_89 => (M.raise ⟨"DuplicateName", "name", IsD.d rStr (x_89)⟩)) (M.nx (()))) fun s_88 => (M.nx ())))) : M (Fl Unit Unit)) ()
theorem ok_check_put {f : Addr} {fd : FuncData} (F : Fun K "check_put" "check_put" s_check_put f fd) (T : TxtB mg) (x_UnknownName : XCls K mg "UnknownName" "name") (c_UnknownNameD_initD : CalM P w K mg base CX0 1 ["self", "name"] (spXI x_UnknownName.C "name")) (i_UnknownName : XIni K x_UnknownName.C c_UnknownNameD_initD.f) (x_DuplicateName : XCls K mg "DuplicateName" "name") (c_DuplicateNameD_initD : CalM P w K mg base CX0 1 ["self", "name"] (spXI x_DuplicateName.C "name")) (i_DuplicateName : XIni K x_DuplicateName.C c_DuplicateNameD_initD.f) (c_Table_outcomes : CalM P w K mg base CX0 1 ["self"] (spG mg K ([] : List (Addr × Str)) (fun q : d_Table × Unit => [(rI_Table W_Table.C) q.1]) F_Table_outcomes (Fz (rTup rStr)))) {pp_Table_outcomes : Addr} (p_Table_outcomes : PropOf K W_Table.C "outcomes" pp_Table_outcomes c_Table_outcomes.f) (c_others : Cal P w K mg base "others" CX0 1 ["outcomes", "wanted"] (spG mg K ([] : List (Addr × Str)) (fun q : (List Str) × (List Str) × Unit => [(rTup rStr) q.1, (rTup rStr) q.2.1]) F_others (Fz (rTup rStr)))) (c_common : Cal P w K mg base "common" CX0 1 ["one", "other"] (spG mg K ([] : List (Addr × Str)) (fun q : (List Str) × PyData × Unit => [(rTup rStr) q.1, rDat q.2.1]) F_common (Fz (rTup rStr)))) : FnOk P w K mg base (CX P w) 3 f fd ["table", "name", "other"] (spG mg K ([] : List (Addr × Str)) (fun q : d_Table × Str × d_Table × Unit => [(rI_Table W_Table.C) q.1, rStr q.2.1, (rI_Table W_Table.C) q.2.2.1]) F_check_put (Fz rNon)) := by
  refine F.okX sc_check_put spG_len (fun cdv A outer s H vs Q E hr h => ?_)
  refine ⟨_, (pss_cons (ps_if (pt_cmpR op_notIn_seq (pv 1) (pe_prop (pv 0) W_Table.cl p_Table_outcomes c_Table_outcomes.G (hr.mono (by decide)) c_Table_outcomes.b .nil pass0 (by rfl)) (by rfl)) (pss_one (ps_raise rfl (takes_of rfl rfl rfl rfl) (pmk_oex x_UnknownName.T i_UnknownName.iC i_UnknownName.tI c_UnknownNameD_initD.G (hr.mono (by decide)) c_UnknownNameD_initD.b .nil pass0 (by rfl) x_UnknownName.g (pa_cons (pv 1) pa_nil)))) pss_nil)
      (pss_cons (ps_set (i := 3) sc_check_put.nd rfl (.inl rfl) (pe_call c_common.G (hr.mono (by decide)) (by rfl) c_common.g c_common.kp c_common.b .nil pass0 (pa_cons (pe_prop (pv 2) W_Table.cl p_Table_outcomes c_Table_outcomes.G (hr.mono (by decide)) c_Table_outcomes.b .nil pass0 (by rfl)) (pa_cons (pe_call c_others.G (hr.mono (by decide)) (by rfl) c_others.g c_others.kp c_others.b .nil pass0 (pa_cons (pe_prop (pv 0) W_Table.cl p_Table_outcomes c_Table_outcomes.G (hr.mono (by decide)) c_Table_outcomes.b .nil pass0 (by rfl)) (pa_cons (pe_tup (pa_cons (pv 1) pa_nil)) pa_nil))) pa_nil))))
      (pss_one (ps_if (pt_truth (pv 3) (by intro _; rfl)) (pss_one (ps_raise rfl (takes_of rfl rfl rfl rfl) (pmk_oex x_DuplicateName.T i_DuplicateName.iC i_DuplicateName.tI c_DuplicateNameD_initD.G (hr.mono (by decide)) c_DuplicateNameD_initD.b .nil pass0 (by rfl) x_DuplicateName.g (pa_cons (pe_ix ix_tup (pv 3) pe_int (fun _ _ => rfl)) pa_nil)))) pss_nil)))), ?_⟩
  refine fn_GN (δ := Unit) h ?_ (fun Θ B G0 q => 
      (sv_seq (sv_if (vt_test (ve_op2 (ve_v rStr (q.2.1)) (ve_prop (ve_v (rI_Table W_Table.C) (q.1))) v2_niT)) PxLe.nil (sv_raise (R := rStr) x_UnknownName (ve_v rStr (q.2.1)) PxLe.nil) (sv_conv (χ := (fun s_80 : Unit => [.fr ((rI_Table W_Table.C) (q.1)), .fr (rStr (q.2.1)), .fr ((rI_Table W_Table.C) (q.2.2.1)), .un])) (fun _ => ()) sv_nil (fun _ => (Le.same (Le.same (Le.same (Le.un Le.nil))))))) fun s_80 =>
      (sv_seq (sv_asg (i := 3) (ve_callF (va_cons (ve_prop (ve_v (rI_Table W_Table.C) (q.2.2.1))) (va_cons (ve_dat (ve_callF (va_cons (ve_prop (ve_v (rI_Table W_Table.C) (q.1))) (va_cons (ve_tupL rStr (fun a => [a.1]) (va_cons (ve_v rStr (q.2.1)) va_nil)) va_nil)))) va_nil))) PxLe.nil) fun doubled_86 =>
      (sv_conv (χ := fun _ : Unit => [.un, .un, .un, .un]) (fun _ => ()) (sv_if (vt_truT (ve_v (rTup rStr) (doubled_86))) PxLe.nil (sv_raise (R := rStr) x_DuplicateName (ve_op2 (ve_v (rTup rStr) (doubled_86)) (ve_c rInt 0 fun _ => rfl) v2_ixT) PxLe.nil) (sv_conv (χ := (fun s_88 : Unit => [.fr ((rI_Table W_Table.C) (q.1)), .fr (rStr (q.2.1)), .fr ((rI_Table W_Table.C) (q.2.2.1)), .fr ((rTup rStr) (doubled_86))])) (fun _ => ()) sv_nil (fun _ => (Le.same (Le.same (Le.same (Le.same Le.nil))))))) (fun _ => (Le.un (Le.un (Le.un (Le.un Le.nil)))))))))
  intro q; delta F_check_put Mi.neQ Mi.datS Mi.inS Mi.niS Mi.sortSet Mi.insert Mi.dget Mi.comp2 Mi.exch Mi.two Mi.neD Mi.eqD Mi.inD Mi.inDT Mi.idx Mi.sgn Mi.rng Mi.comp Mi.join Mi.popAt Mi.popE Mi.sortI Mi.sortS Mi.sortD Mi.listD Mi.setL Mi.max Mi.min Mi.draw; rfl

abbrev s_put_forces : Stmt := top 42
abbrev N_put_forces : List Str := ["table", "name", "other", "side", "wanted", "kept", "goal"]
theorem sc_put_forces : FnScope ["table", "name", "other", "side", "wanted", "kept", "goal"] ["table", "name", "other", "side", "wanted"] (defScope s_put_forces) := ⟨rfl, rfl, rfl, by decide +kernel, rfl, by decide +kernel, by decide +kernel⟩
@[irreducible] def F_put_forces (q : d_Table × Str × d_Table × Str × PyData × Unit) : M Bool := M.ret ((M.bind (F_check_put ((q.1), ((q.2.1), ((q.2.2.1), ())))) fun u_90 => (M.bind (F_check_side ((q.2.2.2.1), ())) fun u_91 => (M.bind (M.bind (M.nox (F_Table_outcomes ((q.1), ()))) fun x_92 => (M.nox (F_others ((x_92), (([(q.2.1)]), ()))))) fun kept_93 => (M.bind (M.bind (M.bind (M.nox (F_Table_outcomes ((q.2.2.1), ()))) fun x_94 => (M.when ((kept_93).length + (x_94).length ≤ sizeLine) ((kept_93) ++ (x_94)))) fun x_95 => (F_check_set ((x_95), ((q.2.2.2.2.1), ())))) fun u_96 => (M.bind (M.nox (F_common ((kept_93), ((q.2.2.2.2.1), ())))) fun goal_97 => (M.seq (M.bind (M.bind (M.bind (M.bind (M.nox (F_Table_outcomes ((q.2.2.1), ()))) fun x_98 => (M.nox (F_common ((x_98), ((q.2.2.2.2.1), ()))))) fun x_99 => (M.pure ((IsD.d (rTup rStr) x_99)))) fun x_100 => (F_forces ((q.2.2.1), ((q.2.2.2.1), ((x_100), ()))))) fun x_104 => (M.ite (x_104) (M.bind (M.bind (M.when ((goal_97).length + ([(q.2.1)]).length ≤ sizeLine) ((goal_97) ++ ([(q.2.1)]))) fun x_102 => (M.nox (F_as_set ((x_102), ())))) fun goal_103 => (M.nx ((goal_103)))) (M.nx ((goal_97))))) fun s_101 => (M.bind (F_forces ((q.1), ((q.2.2.2.1), (((IsD.d (rTup rStr) s_101)), ())))) fun x_105 => (M.rt (x_105))))))))) : M (Fl Bool Unit))
theorem ok_put_forces {f : Addr} {fd : FuncData} (F : Fun K "put_forces" "put_forces" s_put_forces f fd) (T : TxtB mg) (c_check_put : Cal P w K mg base "check_put" (CX P w) 3 ["table", "name", "other"] (spG mg K ([] : List (Addr × Str)) (fun q : d_Table × Str × d_Table × Unit => [(rI_Table W_Table.C) q.1, rStr q.2.1, (rI_Table W_Table.C) q.2.2.1]) F_check_put (Fz rNon))) (c_check_side : Cal P w K mg base "check_side" (CX P w) 3 ["word"] (spG mg K ([] : List (Addr × Str)) (fun q : Str × Unit => [rStr q.1]) F_check_side (Fz rNon))) (c_Table_outcomes : CalM P w K mg base CX0 1 ["self"] (spG mg K ([] : List (Addr × Str)) (fun q : d_Table × Unit => [(rI_Table W_Table.C) q.1]) F_Table_outcomes (Fz (rTup rStr)))) {pp_Table_outcomes : Addr} (p_Table_outcomes : PropOf K W_Table.C "outcomes" pp_Table_outcomes c_Table_outcomes.f) (c_others : Cal P w K mg base "others" CX0 1 ["outcomes", "wanted"] (spG mg K ([] : List (Addr × Str)) (fun q : (List Str) × (List Str) × Unit => [(rTup rStr) q.1, (rTup rStr) q.2.1]) F_others (Fz (rTup rStr)))) (c_check_set : Cal P w K mg base "check_set" (CX P w) 3 ["outcomes", "value"] (spG mg K ([] : List (Addr × Str)) (fun q : (List Str) × PyData × Unit => [(rTup rStr) q.1, rDat q.2.1]) F_check_set (Fz rNon))) (c_common : Cal P w K mg base "common" CX0 1 ["one", "other"] (spG mg K ([] : List (Addr × Str)) (fun q : (List Str) × PyData × Unit => [(rTup rStr) q.1, rDat q.2.1]) F_common (Fz (rTup rStr)))) (c_forces : Cal P w K mg base "forces" (CX P w) 7 ["table", "side", "wanted"] (spG mg K ([] : List (Addr × Str)) (fun q : d_Table × Str × PyData × Unit => [(rI_Table W_Table.C) q.1, rStr q.2.1, rDat q.2.2.1]) F_forces (Fz rBl))) (c_as_set : Cal P w K mg base "as_set" CX0 1 ["names"] (spG mg K ([] : List (Addr × Str)) (fun q : (List Str) × Unit => [(rSq rStr) q.1]) F_as_set (Fz (rTup rStr)))) : FnOk P w K mg base (CX P w) 8 f fd ["table", "name", "other", "side", "wanted"] (spG mg K ([] : List (Addr × Str)) (fun q : d_Table × Str × d_Table × Str × PyData × Unit => [(rI_Table W_Table.C) q.1, rStr q.2.1, (rI_Table W_Table.C) q.2.2.1, rStr q.2.2.2.1, rDat q.2.2.2.2.1]) F_put_forces (Fz rBl)) := by
  refine F.okX sc_put_forces spG_len (fun cdv A outer s H vs Q E hr h => ?_)
  refine ⟨_, (pss_cons (ps_expr (pe_callS c_check_put.G (hr.mono (by decide)) (by rfl) c_check_put.g c_check_put.kp c_check_put.b (fun σ => passAt (takes_of rfl rfl rfl rfl) σ) (pa_cons (pv 0) (pa_cons (pv 1) (pa_cons (pv 2) pa_nil)))))
      (pss_cons (ps_expr (pe_callS c_check_side.G (hr.mono (by decide)) (by rfl) c_check_side.g c_check_side.kp c_check_side.b (fun σ => passAt (takes_of rfl rfl rfl rfl) σ) (pa_cons (pv 3) pa_nil)))
      (pss_cons (ps_set (i := 5) sc_put_forces.nd rfl (.inl rfl) (pe_call c_others.G (hr.mono (by decide)) (by rfl) c_others.g c_others.kp c_others.b .nil pass0 (pa_cons (pe_prop (pv 0) W_Table.cl p_Table_outcomes c_Table_outcomes.G (hr.mono (by decide)) c_Table_outcomes.b .nil pass0 (by rfl)) (pa_cons (pe_tup (pa_cons (pv 1) pa_nil)) pa_nil))))
      (pss_cons (ps_expr (pe_callS c_check_set.G (hr.mono (by decide)) (by rfl) c_check_set.g c_check_set.kp c_check_set.b (fun σ => passAt (takes_of rfl rfl rfl rfl) σ) (pa_cons (pe_op op_catA (pv 5) (pe_prop (pv 2) W_Table.cl p_Table_outcomes c_Table_outcomes.G (hr.mono (by decide)) c_Table_outcomes.b .nil pass0 (by rfl))) (pa_cons (pv 4) pa_nil))))
      (pss_cons (ps_set (i := 6) sc_put_forces.nd rfl (.inl rfl) (pe_call c_common.G (hr.mono (by decide)) (by rfl) c_common.g c_common.kp c_common.b .nil pass0 (pa_cons (pv 5) (pa_cons (pv 4) pa_nil))))
      (pss_cons (ps_if (pt_val (pe_callS c_forces.G (hr.mono (by decide)) (by rfl) c_forces.g c_forces.kp c_forces.b (fun σ => passAt (takes_of rfl rfl rfl rfl) σ) (pa_cons (pv 2) (pa_cons (pv 3) (pa_cons (pe_call c_common.G (hr.mono (by decide)) (by rfl) c_common.g c_common.kp c_common.b .nil pass0 (pa_cons (pe_prop (pv 2) W_Table.cl p_Table_outcomes c_Table_outcomes.G (hr.mono (by decide)) c_Table_outcomes.b .nil pass0 (by rfl)) (pa_cons (pv 4) pa_nil))) pa_nil))))) (pss_one (ps_set (i := 6) sc_put_forces.nd rfl (.inl rfl) (pe_call c_as_set.G (hr.mono (by decide)) (by rfl) c_as_set.g c_as_set.kp c_as_set.b .nil pass0 (pa_cons (pe_op op_catA (pv 6) (pe_tup (pa_cons (pv 1) pa_nil))) pa_nil)))) pss_nil)
      (pss_one (ps_ret (pe_callS c_forces.G (hr.mono (by decide)) (by rfl) c_forces.g c_forces.kp c_forces.b (fun σ => passAt (takes_of rfl rfl rfl rfl) σ) (pa_cons (pv 0) (pa_cons (pv 3) (pa_cons (pv 6) pa_nil)))))))))))), ?_⟩
  refine fn_G (δ := Unit) (ψ := fun _ _ => []) h ?_ (fun Θ B G0 q => 
      (sv_seq (sv_expr (ve_callR (va_cons (ve_v (rI_Table W_Table.C) (q.1)) (va_cons (ve_v rStr (q.2.1)) (va_cons (ve_v (rI_Table W_Table.C) (q.2.2.1)) va_nil)))) PxLe.nil) fun u_90 =>
      (sv_seq (sv_expr (ve_callR (va_cons (ve_v rStr (q.2.2.2.1)) va_nil)) PxLe.nil) fun u_91 =>
      (sv_seq (sv_asg (i := 5) (ve_callF (va_cons (ve_prop (ve_v (rI_Table W_Table.C) (q.1))) (va_cons (ve_tupL rStr (fun a => [a.1]) (va_cons (ve_v rStr (q.2.1)) va_nil)) va_nil))) PxLe.nil) fun kept_93 =>
      (sv_seq (sv_expr (ve_callR (va_cons (ve_op2 (ve_v (rTup rStr) (kept_93)) (ve_prop (ve_v (rI_Table W_Table.C) (q.2.2.1))) v2_catT) (va_cons (ve_v rDat (q.2.2.2.2.1)) va_nil))) PxLe.nil) fun u_96 =>
      (sv_seq (sv_asg (i := 6) (ve_callF (va_cons (ve_v (rTup rStr) (kept_93)) (va_cons (ve_v rDat (q.2.2.2.2.1)) va_nil))) PxLe.nil) fun goal_97 =>
      (sv_seq (sv_if (vt_b (ve_callR (va_cons (ve_v (rI_Table W_Table.C) (q.2.2.1)) (va_cons (ve_v rStr (q.2.2.2.1)) (va_cons (ve_dat (ve_callF (va_cons (ve_prop (ve_v (rI_Table W_Table.C) (q.2.2.1))) (va_cons (ve_v rDat (q.2.2.2.2.1)) va_nil)))) va_nil))))) PxLe.nil (sv_conv (χ := (fun s_101 : (List Str) => [.fr ((rI_Table W_Table.C) (q.1)), .fr (rStr (q.2.1)), .fr ((rI_Table W_Table.C) (q.2.2.1)), .fr (rStr (q.2.2.2.1)), .fr (rDat (q.2.2.2.2.1)), .fr ((rTup rStr) (kept_93)), .fr ((rTup rStr) (s_101))])) (fun goal_103 => (goal_103)) (sv_asg (i := 6) (ve_callF (va_cons (ve_sqT (ve_op2 (ve_v (rTup rStr) (goal_97)) (ve_tupL rStr (fun a => [a.1]) (va_cons (ve_v rStr (q.2.1)) va_nil)) v2_catT)) va_nil)) PxLe.nil) (fun goal_103 => (Le.same (Le.same (Le.same (Le.same (Le.same (Le.same (Le.same Le.nil))))))))) (sv_conv (χ := (fun s_101 : (List Str) => [.fr ((rI_Table W_Table.C) (q.1)), .fr (rStr (q.2.1)), .fr ((rI_Table W_Table.C) (q.2.2.1)), .fr (rStr (q.2.2.2.1)), .fr (rDat (q.2.2.2.2.1)), .fr ((rTup rStr) (kept_93)), .fr ((rTup rStr) (s_101))])) (fun _ => (goal_97)) sv_nil (fun _ => (Le.same (Le.same (Le.same (Le.same (Le.same (Le.same (Le.same Le.nil)))))))))) fun s_101 =>
      (sv_ret (ve_callR (va_cons (ve_v (rI_Table W_Table.C) (q.1)) (va_cons (ve_v rStr (q.2.2.2.1)) (va_cons (ve_dat (ve_v (rTup rStr) (s_101))) va_nil)))) PxLe.nil))))))))
  intro q; delta F_put_forces Mi.neQ Mi.datS Mi.inS Mi.niS Mi.sortSet Mi.insert Mi.dget Mi.comp2 Mi.exch Mi.two Mi.neD Mi.eqD Mi.inD Mi.inDT Mi.idx Mi.sgn Mi.rng Mi.comp Mi.join Mi.popAt Mi.popE Mi.sortI Mi.sortS Mi.sortD Mi.listD Mi.setL Mi.max Mi.min Mi.draw; rfl

abbrev s_Lshuffled : Stmt := top 46
abbrev N_Lshuffled : List Str := ["_law_state", "_law_items", "_law_left", "_law_told_here", "_law_k"]
theorem sc_Lshuffled : FnScope ["_law_state", "_law_items", "_law_left", "_law_told_here", "_law_k"] ["_law_state", "_law_items"] (defScope s_Lshuffled) := ⟨rfl, rfl, rfl, by decide +kernel, rfl, by decide +kernel, by decide +kernel⟩
@[irreducible] def F_Lshuffled (q : (List Str) × Unit) : M (List Str) := M.ret ((let l_left_106 : (List Str) := q.1; (let l_told_here_107 : (List Str) := ([] : List Str); (M.seq (M.bind (Mi.rng 0 (((q.1).length : Int))) fun x_112 => (M.forL (fun b_108 s_109 => (M.bind (M.bind (M.bind (M.nox (M.nox (F_Ltake ((((s_109.2).length : Int)), ())))) fun x_111 => (Mi.popAt (s_109.2) (x_111))) fun (l_told_here_110 : Str × (List Str)) => (M.when ((s_109.1).length < sizeLine) l_told_here_110)) fun (l_told_here_110 : Str × (List Str)) => (M.nx ((((s_109.1 ++ [(l_told_here_110).1])), ((l_told_here_110).2)))))) (x_112) ((l_told_here_107), (l_left_106)))) fun s_109 => (M.rt (s_109.1))))) : M (Fl (List Str) Unit))
theorem ok_Lshuffled {f : Addr} {fd : FuncData} (F : Fun K "_law_shuffled" "_law_shuffled" s_Lshuffled f fd) (T : TxtB mg) (c_Ltake : Cal P w K mg base "_law_take" CX0 1 ["_law_state", "_law_limit"] (spT mg K ([] : List (Addr × Str)) thW (fun s (q : Int × Unit) => [rSt s, rInt q.1]) F_Ltake (Fz rInt))) : FnOk P w K mg base CX0 2 f fd ["_law_state", "_law_items"] (spT mg K ([] : List (Addr × Str)) thW (fun s (q : (List Str) × Unit) => [rSt s, (rLst rStr) q.1]) F_Lshuffled (Ow (cLst rStr))) := by
  refine F.ok sc_Lshuffled spT_len (fun cdv A outer s H vs Q E hr h => ?_)
  refine ⟨_, (pss_cons (ps_set (i := 2) sc_Lshuffled.nd rfl (.inl rfl) (pe_callTy call_list_of (by rfl) T.z_list (by decide +kernel) (pa_cons (pv 1) pa_nil)))
      (pss_cons (ps_set (i := 3) sc_Lshuffled.nd rfl (.inl rfl) (pe_lst pa_nil))
      (pss_cons (ps_for PassesOwn.never rfl (pi_range1 rfl T.z_range (pa_cons (pe_callB call_len_seq (by rfl) T.z_len PySem.boot_len (pa_cons (pv 1) pa_nil)) pa_nil)) (pg_name (i := 4) sc_Lshuffled.nd rfl (.inl rfl)) (pss_one (ps_expr (pe_bm PySem.F.plainAttrs_list PySem.F.slot_list_append PySem.F.type_list_append mt_append (pv 3) (pa_cons (pe_bm PySem.F.plainAttrs_list PySem.F.slot_list_pop PySem.F.type_list_pop mt_popAt (pv 2) (pa_cons (pe_call c_Ltake.G (hr.mono (by decide)) (by rfl) c_Ltake.g c_Ltake.kp c_Ltake.b .nil pass0 (pa_cons (pv 0) (pa_cons (pe_callB call_len_seq (by rfl) T.z_len PySem.boot_len (pa_cons (pv 2) pa_nil)) pa_nil))) pa_nil)) pa_nil)))))
      (pss_one (ps_ret (pv 3)))))), ?_⟩
  refine fn_T (δ := Unit) (ψ := fun _ _ _ => []) h ?_ (fun s B G0 q => 
      (sv_seq (sv_asg (i := 2) (ve_cb (va_cons (ve_v (rLst rStr) (q.1)) va_nil) vn_listL) PxLe.nil) fun l_left_106 =>
      (sv_seq (sv_asg (i := 3) (ve_lstL rStr (fun _ => ([] : List Str)) va_nil) PxLe.nil) fun l_told_here_107 =>
      (sv_seq (sv_for (ψ := (fun s_109 : (List Str) × (List Str) => [.fr (rSt s), .fr ((rLst rStr) (q.1)), .ow (cLst rStr (s_109.2)), .ow (cLst rStr (s_109.1)), .un])) (s0 := ((l_told_here_107), (l_left_106))) (vi_range1 (ve_cb (va_cons (ve_v (rLst rStr) (q.1)) va_nil) vn_lenL)) PxLe.nil (Le.same (Le.same (Le.same (Le.same (Le.un Le.nil))))) (fun s_109 => (vg_name (i := 4))) (fun b_108 s_109 => (sv_conv (χ := (fun s_109 : (List Str) × (List Str) => [.fr (rSt s), .fr ((rLst rStr) (q.1)), .ow (cLst rStr (s_109.2)), .ow (cLst rStr (s_109.1)), .un])) (fun l_told_here_110 => (((s_109.1 ++ [(l_told_here_110).1])), ((l_told_here_110).2))) (sv_exprX (vx_appendP (i := 3) (val := fun z : Str × (List Str) => z.1) (vx_popAt (i := 2) (ve_lend (i := 2) rfl cLst_show flat_int (ve_callFT rfl (va_st s (va_cons (ve_cb (va_cons (ve_v (rLst rStr) (s_109.2)) va_nil) vn_lenL) va_nil)))) PxLe.nil) rfl (fun _ => s_109.1) fun _ => rfl)) (fun l_told_here_110 => (Le.same (Le.same (Le.same (Le.same (Le.un Le.nil))))))))) fun s_109 =>
      (sv_retO (c := cLst rStr) (b := s_109.1) (i := 3))))))
  intro q; delta F_Lshuffled Mi.neQ Mi.datS Mi.inS Mi.niS Mi.sortSet Mi.insert Mi.dget Mi.comp2 Mi.exch Mi.two Mi.neD Mi.eqD Mi.inD Mi.inDT Mi.idx Mi.sgn Mi.rng Mi.comp Mi.join Mi.popAt Mi.popE Mi.sortI Mi.sortS Mi.sortD Mi.listD Mi.setL Mi.max Mi.min Mi.draw; rfl

abbrev s_Lwords : Stmt := top 47
abbrev N_Lwords : List Str := ["_law_state", "_law_menus"]
theorem sc_Lwords : FnScope ["_law_state", "_law_menus"] ["_law_state"] (defScope s_Lwords) := ⟨rfl, rfl, rfl, by decide +kernel, rfl, by decide +kernel, by decide +kernel⟩
@[irreducible] def F_Lwords (q : Unit) : M (List Str) := M.ret ((let l_menus_113 : (List (List Str)) := [([(("a" : Str)), (("b" : Str)), (("c" : Str)), (("d" : Str)), (("e" : Str)), (("f" : Str))]), ([(("x" : Str)), (("xy" : Str)), (("y" : Str)), (("x1" : Str)), (("x10" : Str)), (("yx" : Str))])]; (M.bind (M.when ((l_menus_113).length < sizeLine) ([(("win1" : Str)), (("win2" : Str)), (("rows" : Str)), (("coffee" : Str)), (("w" : Str)), (("z9" : Str))])) fun l_menus_114 => (M.bind (M.when (((l_menus_113 ++ [l_menus_114])).length < sizeLine) ([(("turn" : Str)), (("take" : Str)), (("put" : Str)), (("cell" : Str)), (("rows" : Str)), (("x" : Str))])) fun l_menus_115 => (M.bind (M.nox (M.bind (M.bind (M.nox (F_Ltake (((4 : Int)), ()))) fun x_116 => (Mi.idx (((l_menus_113 ++ [l_menus_114]) ++ [l_menus_115])) (x_116))) fun x_117 => (M.nox (F_Lshuffled ((x_117), ()))))) fun x_118 => (M.rt (x_118)))))) : M (Fl (List Str) Unit))
theorem ok_Lwords {f : Addr} {fd : FuncData} (F : Fun K "_law_words" "_law_words" s_Lwords f fd) (T : TxtB mg) (c_Ltake : Cal P w K mg base "_law_take" CX0 1 ["_law_state", "_law_limit"] (spT mg K ([] : List (Addr × Str)) thW (fun s (q : Int × Unit) => [rSt s, rInt q.1]) F_Ltake (Fz rInt))) (c_Lshuffled : Cal P w K mg base "_law_shuffled" CX0 2 ["_law_state", "_law_items"] (spT mg K ([] : List (Addr × Str)) thW (fun s (q : (List Str) × Unit) => [rSt s, (rLst rStr) q.1]) F_Lshuffled (Ow (cLst rStr)))) : FnOk P w K mg base CX0 3 f fd ["_law_state"] (spT mg K ([] : List (Addr × Str)) thW (fun s (q : Unit) => [rSt s]) F_Lwords (Ow (cLst rStr))) := by
  refine F.ok sc_Lwords spT_len (fun cdv A outer s H vs Q E hr h => ?_)
  refine ⟨_, (pss_cons (ps_set (i := 1) sc_Lwords.nd rfl (.inl rfl) (pe_lst (pa_cons (pe_lst (pa_cons pe_str (pa_cons pe_str (pa_cons pe_str (pa_cons pe_str (pa_cons pe_str (pa_cons pe_str pa_nil))))))) (pa_cons (pe_lst (pa_cons pe_str (pa_cons pe_str (pa_cons pe_str (pa_cons pe_str (pa_cons pe_str (pa_cons pe_str pa_nil))))))) pa_nil))))
      (pss_cons (ps_expr (pe_bm PySem.F.plainAttrs_list PySem.F.slot_list_append PySem.F.type_list_append mt_append (pv 1) (pa_cons (pe_lst (pa_cons pe_str (pa_cons pe_str (pa_cons pe_str (pa_cons pe_str (pa_cons pe_str (pa_cons pe_str pa_nil))))))) pa_nil)))
      (pss_cons (ps_expr (pe_bm PySem.F.plainAttrs_list PySem.F.slot_list_append PySem.F.type_list_append mt_append (pv 1) (pa_cons (pe_lst (pa_cons pe_str (pa_cons pe_str (pa_cons pe_str (pa_cons pe_str (pa_cons pe_str (pa_cons pe_str pa_nil))))))) pa_nil)))
      (pss_one (ps_ret (pe_call c_Lshuffled.G (hr.mono (by decide)) (by rfl) c_Lshuffled.g c_Lshuffled.kp c_Lshuffled.b .nil pass0 (pa_cons (pv 0) (pa_cons (pe_ix ix_list (pv 1) (pe_call c_Ltake.G (hr.mono (by decide)) (by rfl) c_Ltake.g c_Ltake.kp c_Ltake.b .nil pass0 (pa_cons (pv 0) (pa_cons pe_int pa_nil))) (fun _ _ => rfl)) pa_nil)))))))), ?_⟩
  refine fn_T (δ := Unit) (ψ := fun _ _ _ => []) h ?_ (fun s B G0 q => 
      (sv_seq (sv_asg (i := 1) (ve_lstL (rLst rStr) (fun a => [a.1, a.2.1]) (va_cons (ve_frL (ve_lstL rStr (fun a => [a.1, a.2.1, a.2.2.1, a.2.2.2.1, a.2.2.2.2.1, a.2.2.2.2.2.1]) (va_cons (ve_c rStr ("a" : Str) fun _ => rfl) (va_cons (ve_c rStr ("b" : Str) fun _ => rfl) (va_cons (ve_c rStr ("c" : Str) fun _ => rfl) (va_cons (ve_c rStr ("d" : Str) fun _ => rfl) (va_cons (ve_c rStr ("e" : Str) fun _ => rfl) (va_cons (ve_c rStr ("f" : Str) fun _ => rfl) va_nil)))))))) (va_cons (ve_frL (ve_lstL rStr (fun a => [a.1, a.2.1, a.2.2.1, a.2.2.2.1, a.2.2.2.2.1, a.2.2.2.2.2.1]) (va_cons (ve_c rStr ("x" : Str) fun _ => rfl) (va_cons (ve_c rStr ("xy" : Str) fun _ => rfl) (va_cons (ve_c rStr ("y" : Str) fun _ => rfl) (va_cons (ve_c rStr ("x1" : Str) fun _ => rfl) (va_cons (ve_c rStr ("x10" : Str) fun _ => rfl) (va_cons (ve_c rStr ("yx" : Str) fun _ => rfl) va_nil)))))))) va_nil))) PxLe.nil) fun l_menus_113 =>
      (sv_seq (sv_append (i := 1) (ve_frL (ve_lstL rStr (fun a => [a.1, a.2.1, a.2.2.1, a.2.2.2.1, a.2.2.2.2.1, a.2.2.2.2.2.1]) (va_cons (ve_c rStr ("win1" : Str) fun _ => rfl) (va_cons (ve_c rStr ("win2" : Str) fun _ => rfl) (va_cons (ve_c rStr ("rows" : Str) fun _ => rfl) (va_cons (ve_c rStr ("coffee" : Str) fun _ => rfl) (va_cons (ve_c rStr ("w" : Str) fun _ => rfl) (va_cons (ve_c rStr ("z9" : Str) fun _ => rfl) va_nil)))))))) PxLe.nil) fun l_menus_114 =>
      (sv_seq (sv_append (i := 1) (ve_frL (ve_lstL rStr (fun a => [a.1, a.2.1, a.2.2.1, a.2.2.2.1, a.2.2.2.2.1, a.2.2.2.2.2.1]) (va_cons (ve_c rStr ("turn" : Str) fun _ => rfl) (va_cons (ve_c rStr ("take" : Str) fun _ => rfl) (va_cons (ve_c rStr ("put" : Str) fun _ => rfl) (va_cons (ve_c rStr ("cell" : Str) fun _ => rfl) (va_cons (ve_c rStr ("rows" : Str) fun _ => rfl) (va_cons (ve_c rStr ("x" : Str) fun _ => rfl) va_nil)))))))) PxLe.nil) fun l_menus_115 =>
      (sv_ret (ve_lendO (i := 1) rfl cLst_show flat_str (ve_callFT rfl (va_st s (va_cons (ve_op2 (ve_v (rLst (rLst rStr)) (((l_menus_113 ++ [l_menus_114]) ++ [l_menus_115]))) (ve_callFT rfl (va_st s (va_cons (ve_c rInt 4 fun _ => rfl) va_nil))) v2_ixL) va_nil)))) PxLe.nil)))))
  intro q; delta F_Lwords Mi.neQ Mi.datS Mi.inS Mi.niS Mi.sortSet Mi.insert Mi.dget Mi.comp2 Mi.exch Mi.two Mi.neD Mi.eqD Mi.inD Mi.inDT Mi.idx Mi.sgn Mi.rng Mi.comp Mi.join Mi.popAt Mi.popE Mi.sortI Mi.sortS Mi.sortD Mi.listD Mi.setL Mi.max Mi.min Mi.draw; rfl

abbrev s_Lflipped : Stmt := top 48
abbrev N_Lflipped : List Str := ["_law_grid_here", "_law_k", "_law_line"]
theorem sc_Lflipped : FnScope ["_law_grid_here", "_law_k", "_law_line"] ["_law_grid_here"] (defScope s_Lflipped) := ⟨rfl, rfl, rfl, by decide +kernel, rfl, by decide +kernel, by decide +kernel⟩
@[irreducible] def F_Lflipped (q : (List (List Str)) × Unit) : M (List (List Str)) := M.ret ((M.bind (M.bind (M.bind (M.bind (Mi.idx (q.1) ((0 : Int))) fun x_119 => (M.pure (((x_119).length : Int)))) fun x_120 => (Mi.rng 0 (x_120))) fun x_125 => (Mi.comp (x_125) fun b_121 => (M.bind (Mi.comp (q.1) fun b_122 => (M.bind (Mi.idx (b_122) (b_121)) fun x_123 => (M.pure ((some (x_123)))))) fun x_124 => (M.pure ((some (x_124))))))) fun x_126 => (M.rt (x_126))) : M (Fl (List (List Str)) Unit))
theorem ok_Lflipped {f : Addr} {fd : FuncData} (F : Fun K "_law_flipped" "_law_flipped" s_Lflipped f fd) (T : TxtB mg) : FnOk P w K mg base CX0 1 f fd ["_law_grid_here"] (spGO mg K ([] : List (Addr × Str)) (fun q : (List (List Str)) × Unit => [(rLst (rLst rStr)) q.1]) F_Lflipped (fun B => cLst (rNw B (rLst rStr)))) := by
  refine F.ok sc_Lflipped spGO_len (fun cdv A outer s H vs Q E hr h => ?_)
  refine ⟨_, (pss_one (ps_ret (pe_lc (own := [("_law_k", 1)]) (g := gName 1) (tt := tYes) rfl sc_Lflipped.nd (pi_range1 rfl T.z_range (pa_cons (pe_callB call_len_seq (by rfl) T.z_len PySem.boot_len (pa_cons (pe_ix ix_list (pv 0) pe_int (fun _ _ => rfl)) pa_nil)) pa_nil)) (blkOk_by (own := [("_law_k", 1)]) (N := N_Lflipped) (sc := defScope s_Lflipped) (by decide +kernel)) (fun _ _ _ _ _ => (pg_name (i := 1) sc_Lflipped.nd rfl (.inr rfl))) (fun _ _ _ _ _ => pts_nil) (fun _ _ _ _ _ => (pe_lc (own := [("_law_line", 2)]) (g := gName 2) (tt := tYes) rfl sc_Lflipped.nd (pi_listF (K := K) rfl (pv 0)) (blkOk_by (own := [("_law_line", 2)]) (N := N_Lflipped) (by rfl)) (fun _ _ _ _ _ => (pg_name (i := 2) sc_Lflipped.nd rfl (.inl rfl))) (fun _ _ _ _ _ => pts_nil) (fun _ _ _ _ _ => (pe_ix (ix_listF (K := K) rfl) (pv 2) (pv 1) (fun _ _ => rfl)))))))), ?_⟩
  refine fn_GO (δ := Unit) (ψ := fun _ _ => []) h ?_ (fun Θ B G0 q hGB => 
      (sv_ret (ve_lc (vs := [1]) (js := [1]) (vi_range1 (ve_cb (va_cons (ve_op2 (ve_v (rLst (rLst rStr)) (q.1)) (ve_c rInt 0 fun _ => rfl) v2_ixL) va_nil) vn_lenL)) (hv1 rfl) (vg_name (i := 1)) (fun _ h => h) (fun b_121 => vt_yes) (fun b_121 => (ve_new (ve_lc (vs := [2]) (js := [2]) (vi_list (ve_v (rLst (rLst rStr)) (q.1))) (hv1 rfl) (vg_name (i := 2)) (fun _ h => h) (fun b_122 => vt_yes) (fun b_122 => (ve_op2 (ve_v (rLst rStr) (b_122)) (ve_v rInt (b_121)) v2_ixL)))))) PxLe.nil))
  intro q; delta F_Lflipped Mi.neQ Mi.datS Mi.inS Mi.niS Mi.sortSet Mi.insert Mi.dget Mi.comp2 Mi.exch Mi.two Mi.neD Mi.eqD Mi.inD Mi.inDT Mi.idx Mi.sgn Mi.rng Mi.comp Mi.join Mi.popAt Mi.popE Mi.sortI Mi.sortS Mi.sortD Mi.listD Mi.setL Mi.max Mi.min Mi.draw; rfl

abbrev s_Lstacked : Stmt := top 49
abbrev N_Lstacked : List Str := ["_law_one", "_law_beside", "_law_lines_here", "_law_line", "_law_wide", "_law_label"]
theorem sc_Lstacked : FnScope ["_law_one", "_law_beside", "_law_lines_here", "_law_line", "_law_wide", "_law_label"] ["_law_one", "_law_beside"] (defScope s_Lstacked) := ⟨rfl, rfl, rfl, by decide +kernel, rfl, by decide +kernel, by decide +kernel⟩
@[irreducible] def F_Lstacked (q : (List (List Str)) × (List (List Str)) × Unit) : M (List (List Str)) := M.ret ((let l_lines_here_127 : (List (List Str)) := ([] : List (List Str)); (M.seq (M.forL (fun b_128 s_129 => (let l_wide_130 : (List Str) := ([] : List Str); (M.seq (M.forL (fun b_131 s_132 => (M.bind (M.bind (M.bind (M.bind (Mi.idx (q.2.1) ((0 : Int))) fun x_133 => (M.pure (((x_133).length : Int)))) fun x_134 => (M.when (-(2 ^ 63) ≤ (x_134) ∧ (x_134) < 2 ^ 63 ∧ ([(b_131)]).length * (x_134).toNat ≤ sizeLine) (List.replicate (x_134).toNat ([(b_131)])).flatten)) fun x_135 => (M.when ((s_132).length + (x_135).length ≤ sizeLine) ((s_132) ++ (x_135)))) fun l_wide_136 => (M.nx ((l_wide_136))))) (b_128) (l_wide_130)) fun s_132 => (M.bind (M.when ((s_129).length < sizeLine) (s_132)) fun l_lines_here_137 => (M.nx (((s_129 ++ [l_lines_here_137])))))))) (q.1) (l_lines_here_127)) fun s_129 => (M.seq (M.forL (fun b_138 s_139 => (M.bind (M.bind (M.bind (M.bind (Mi.idx (q.1) ((0 : Int))) fun x_141 => (M.pure (((x_141).length : Int)))) fun x_142 => (M.when (-(2 ^ 63) ≤ (x_142) ∧ (x_142) < 2 ^ 63 ∧ (b_138).length * (x_142).toNat ≤ sizeLine) (List.replicate (x_142).toNat (b_138)).flatten)) fun x_143 => (M.when ((s_139).length < sizeLine) (x_143))) fun l_lines_here_140 => (M.nx (((s_139 ++ [l_lines_here_140])))))) (q.2.1) (s_129)) fun s_139 => (M.rt (s_139))))) : M (Fl (List (List Str)) Unit))
theorem ok_Lstacked {f : Addr} {fd : FuncData} (F : Fun K "_law_stacked" "_law_stacked" s_Lstacked f fd) (T : TxtB mg) : FnOk P w K mg base CX0 1 f fd ["_law_one", "_law_beside"] (spGN mg K ([] : List (Addr × Str)) (fun q : (List (List Str)) × (List (List Str)) × Unit => [(rLst (rLst rStr)) q.1, (rLst (rLst rStr)) q.2.1]) F_Lstacked (fun B => (rLst (rNw B (rLst rStr))))) := by
  refine F.ok sc_Lstacked spGN_len (fun cdv A outer s H vs Q E hr h => ?_)
  refine ⟨_, (pss_cons (ps_set (i := 2) sc_Lstacked.nd rfl (.inl rfl) (pe_lst pa_nil))
      (pss_cons (ps_for PassesOwn.never rfl (pi_list (pv 0)) (pg_name (i := 3) sc_Lstacked.nd rfl (.inl rfl)) (pss_cons (ps_set (i := 4) sc_Lstacked.nd rfl (.inl rfl) (pe_lst pa_nil))
      (pss_cons (ps_for PassesOwn.never rfl (pi_list (pv 3)) (pg_name (i := 5) sc_Lstacked.nd rfl (.inl rfl)) (pss_one (ps_set (i := 4) sc_Lstacked.nd rfl (.inl rfl) (pe_op op_cat (pv 4) (pe_op op_rep (pe_lst (pa_cons (pv 5) pa_nil)) (pe_callB call_len_seq (by rfl) T.z_len PySem.boot_len (pa_cons (pe_ix ix_list (pv 1) pe_int (fun _ _ => rfl)) pa_nil)))))))
      (pss_one (ps_expr (pe_bm PySem.F.plainAttrs_list PySem.F.slot_list_append PySem.F.type_list_append mt_append (pv 2) (pa_cons (pv 4) pa_nil)))))))
      (pss_cons (ps_for PassesOwn.never rfl (pi_list (pv 1)) (pg_name (i := 3) sc_Lstacked.nd rfl (.inl rfl)) (pss_one (ps_expr (pe_bm PySem.F.plainAttrs_list PySem.F.slot_list_append PySem.F.type_list_append mt_append (pv 2) (pa_cons (pe_op op_rep (pe_callTy call_list_of (by rfl) T.z_list (by decide +kernel) (pa_cons (pv 3) pa_nil)) (pe_callB call_len_seq (by rfl) T.z_len PySem.boot_len (pa_cons (pe_ix ix_list (pv 0) pe_int (fun _ _ => rfl)) pa_nil))) pa_nil)))))
      (pss_one (ps_ret (pv 2)))))), ?_⟩
  refine fn_GW (δ := Unit) (ψ := fun _ _ => []) h ?_ (fun Θ B G0 q hGB => 
      (sv_seq (sv_asg (i := 2) (ve_lstL (rNw B (rLst rStr)) (fun _ => ([] : List (List Str))) va_nil) PxLe.nil) fun l_lines_here_127 =>
      (sv_seq (sv_for (ψ := (fun s_129 : (List (List Str)) => [.fr ((rLst (rLst rStr)) (q.1)), .fr ((rLst (rLst rStr)) (q.2.1)), .ow (cLst (rNw B (rLst rStr)) (s_129)), .un, .un, .un])) (s0 := (l_lines_here_127)) (vi_list (ve_v (rLst (rLst rStr)) (q.1))) PxLe.nil (Le.same (Le.same (Le.same (Le.un (Le.un (Le.un Le.nil)))))) (fun s_129 => (vg_name (i := 3))) (fun b_128 s_129 => (sv_seq (sv_asg (i := 4) (ve_new (ve_lstL rStr (fun _ => ([] : List Str)) va_nil)) PxLe.nil) fun l_wide_130 =>
      (sv_seq (sv_for (ψ := (fun s_132 : (List Str) => [.fr ((rLst (rLst rStr)) (q.1)), .fr ((rLst (rLst rStr)) (q.2.1)), .ow (cLst (rNw B (rLst rStr)) (s_129)), .fr ((rLst rStr) (b_128)), .fr ((rNw B (rLst rStr)) (s_132)), .un])) (s0 := (l_wide_130)) (vi_list (ve_v (rLst rStr) (b_128))) PxLe.nil (Le.same (Le.same (Le.same (Le.same (Le.same (Le.un Le.nil)))))) (fun s_132 => (vg_name (i := 5))) (fun b_131 s_132 => (sv_conv (χ := (fun s_132 : (List Str) => [.fr ((rLst (rLst rStr)) (q.1)), .fr ((rLst (rLst rStr)) (q.2.1)), .ow (cLst (rNw B (rLst rStr)) (s_129)), .fr ((rLst rStr) (b_128)), .fr ((rNw B (rLst rStr)) (s_132)), .un])) (fun l_wide_136 => (l_wide_136)) (sv_asg (i := 4) (ve_new (ve_op2 (ve_nwOld (B := B) (ve_v (rNw B (rLst rStr)) (s_132))) (ve_frL (ve_op2 (ve_frL (ve_lstL rStr (fun a => [a.1]) (va_cons (ve_v rStr (b_131)) va_nil))) (ve_cb (va_cons (ve_op2 (ve_v (rLst (rLst rStr)) (q.2.1)) (ve_c rInt 0 fun _ => rfl) v2_ixL) va_nil) vn_lenL) v2_rep)) v2_catL)) PxLe.nil) (fun l_wide_136 => (Le.same (Le.same (Le.same (Le.same (Le.same (Le.un Le.nil)))))))))) fun s_132 =>
      (sv_conv (χ := (fun s_129 : (List (List Str)) => [.fr ((rLst (rLst rStr)) (q.1)), .fr ((rLst (rLst rStr)) (q.2.1)), .ow (cLst (rNw B (rLst rStr)) (s_129)), .un, .un, .un])) (fun l_lines_here_137 => ((s_129 ++ [l_lines_here_137]))) (sv_append (i := 2) (ve_v (rNw B (rLst rStr)) (s_132)) PxLe.nil) (fun l_lines_here_137 => (Le.same (Le.same (Le.same (Le.un (Le.un (Le.un Le.nil)))))))))))) fun s_129 =>
      (sv_seq (sv_for (ψ := (fun s_139 : (List (List Str)) => [.fr ((rLst (rLst rStr)) (q.1)), .fr ((rLst (rLst rStr)) (q.2.1)), .ow (cLst (rNw B (rLst rStr)) (s_139)), .un, .un, .un])) (s0 := (s_129)) (vi_list (ve_v (rLst (rLst rStr)) (q.2.1))) PxLe.nil (Le.same (Le.same (Le.same (Le.un (Le.un (Le.un Le.nil)))))) (fun s_139 => (vg_name (i := 3))) (fun b_138 s_139 => (sv_conv (χ := (fun s_139 : (List (List Str)) => [.fr ((rLst (rLst rStr)) (q.1)), .fr ((rLst (rLst rStr)) (q.2.1)), .ow (cLst (rNw B (rLst rStr)) (s_139)), .un, .un, .un])) (fun l_lines_here_140 => ((s_139 ++ [l_lines_here_140]))) (sv_append (i := 2) (ve_new (ve_op2 (ve_frL (ve_cb (va_cons (ve_v (rLst rStr) (b_138)) va_nil) vn_listL)) (ve_cb (va_cons (ve_op2 (ve_v (rLst (rLst rStr)) (q.1)) (ve_c rInt 0 fun _ => rfl) v2_ixL) va_nil) vn_lenL) v2_rep)) PxLe.nil) (fun l_lines_here_140 => (Le.same (Le.same (Le.same (Le.un (Le.un (Le.un Le.nil)))))))))) fun s_139 =>
      (sv_showL 2 rfl (sv_ret (ve_v (rLst (rNw B (rLst rStr))) (s_139)) PxLe.nil))))))
  intro q; delta F_Lstacked Mi.neQ Mi.datS Mi.inS Mi.niS Mi.sortSet Mi.insert Mi.dget Mi.comp2 Mi.exch Mi.two Mi.neD Mi.eqD Mi.inD Mi.inDT Mi.idx Mi.sgn Mi.rng Mi.comp Mi.join Mi.popAt Mi.popE Mi.sortI Mi.sortS Mi.sortD Mi.listD Mi.setL Mi.max Mi.min Mi.draw; rfl

abbrev s_Ltree_grid : Stmt := top 50
abbrev N_Ltree_grid : List Str := ["_law_state", "_law_words_here", "_law_parts", "_law_turn", "_law_one", "_law_beside", "_law_made", "_law_word"]
theorem sc_Ltree_grid : FnScope ["_law_state", "_law_words_here", "_law_parts", "_law_turn", "_law_one", "_law_beside", "_law_made", "_law_word"] ["_law_state", "_law_words_here"] (defScope s_Ltree_grid) := ⟨rfl, rfl, rfl, by decide +kernel, rfl, by decide +kernel, by decide +kernel⟩
@[irreducible] def F_Ltree_grid (q : (List Str) × Unit) : M (List (List Str)) := M.ret ((M.bind (M.bind (M.bind (M.bind (M.nox (F_Ltake (((5 : Int)), ()))) fun x_144 => (M.pure (((2 : Int) + x_144)))) fun x_145 => (M.pure ((cutL (q.1) none (some (x_145)))))) fun x_147 => (Mi.comp (x_147) fun b_146 => (M.pure ((some ([([(b_146)])])))))) fun l_parts_148 => (M.seq (M.bind (Mi.rng 0 ((6 : Int))) fun x_172 => (M.forL (fun b_149 s_150 => (M.seq (M.ite ((decide ((((s_150).length : Int)) = ((1 : Int))))) (M.bind (Mi.idx (s_150) ((0 : Int))) fun x_153 => (M.rt (x_153))) (M.nx (()))) fun s_152 => (M.bind (M.bind (M.nox (M.nox (F_Ltake ((((s_150).length : Int)), ())))) fun x_171 => (Mi.popAt (s_150) (x_171))) fun p_154 => (M.bind (M.bind (M.nox (M.nox (F_Ltake ((((p_154.2).length : Int)), ())))) fun x_170 => (Mi.popAt (p_154.2) (x_170))) fun p_155 => (M.bind (M.nox (F_Lstacked ((p_154.1), ((p_155.1), ())))) fun l_made_156 => (M.seq (M.bind (M.bind (M.nox (F_Ltake (((2 : Int)), ()))) fun x_157 => (M.pure ((decide ((x_157) = ((0 : Int))))))) fun x_163 => (M.ite (x_163) (M.bind (M.bind (M.bind (M.nox (F_Lflipped ((p_154.1), ()))) fun x_159 => (M.bind (M.nox (F_Lflipped ((p_155.1), ()))) fun x_160 => (M.nox (F_Lstacked ((x_159), ((x_160), ())))))) fun x_161 => (M.nox (F_Lflipped ((x_161), ())))) fun l_made_162 => (M.nx ((l_made_162)))) (M.nx ((l_made_156))))) fun s_158 => (M.seq (M.bind (M.ite ((decide (((8 : Int)) < (((s_158).length : Int))))) (M.pure true) ((M.bind (M.bind (Mi.idx (s_158) ((0 : Int))) fun x_164 => (M.pure (((x_164).length : Int)))) fun x_165 => (M.pure ((decide (((8 : Int)) < (x_165)))))))) fun x_168 => (M.ite (x_168) (let l_made_167 : (List (List Str)) := p_154.1; (M.nx ((l_made_167)))) (M.nx ((s_158))))) fun s_166 => (M.bind (M.when ((p_155.2).length < sizeLine) (s_166)) fun l_parts_169 => (M.nx (((p_155.2 ++ [l_parts_169])))))))))))) (x_172) (l_parts_148))) fun s_150 => (M.bind (Mi.idx (s_150) ((0 : Int))) fun x_173 => (M.rt (x_173))))) : M (Fl (List (List Str)) Unit))
theorem ok_Ltree_grid {f : Addr} {fd : FuncData} (F : Fun K "_law_tree_grid" "_law_tree_grid" s_Ltree_grid f fd) (T : TxtB mg) (c_Ltake : Cal P w K mg base "_law_take" CX0 1 ["_law_state", "_law_limit"] (spT mg K ([] : List (Addr × Str)) thW (fun s (q : Int × Unit) => [rSt s, rInt q.1]) F_Ltake (Fz rInt))) (c_Lstacked : Cal P w K mg base "_law_stacked" CX0 1 ["_law_one", "_law_beside"] (spGN mg K ([] : List (Addr × Str)) (fun q : (List (List Str)) × (List (List Str)) × Unit => [(rLst (rLst rStr)) q.1, (rLst (rLst rStr)) q.2.1]) F_Lstacked (fun B => (rLst (rNw B (rLst rStr)))))) (c_Lflipped : Cal P w K mg base "_law_flipped" CX0 1 ["_law_grid_here"] (spGO mg K ([] : List (Addr × Str)) (fun q : (List (List Str)) × Unit => [(rLst (rLst rStr)) q.1]) F_Lflipped (fun B => cLst (rNw B (rLst rStr))))) : FnOk P w K mg base CX0 2 f fd ["_law_state", "_law_words_here"] (spTN mg K ([] : List (Addr × Str)) thW (fun s (q : (List Str) × Unit) => [rSt s, (rLst rStr) q.1]) F_Ltree_grid (fun B => (rLst (rNw B (rLst rStr))))) := by
  refine F.ok sc_Ltree_grid spTN_len (fun cdv A outer s H vs Q E hr h => ?_)
  refine ⟨_, (pss_cons (ps_setLc (i := 2) (own := [("_law_word", 7)]) (g := gName 7) (tt := tYes) rfl sc_Ltree_grid.nd rfl rfl (sw_true rfl rfl rfl (by decide +kernel)) (pi_list (pe_slice sl_list (pv 1) po_none (po_some (pe_op op_add pe_int (pe_call c_Ltake.G (hr.mono (by decide)) (by rfl) c_Ltake.g c_Ltake.kp c_Ltake.b .nil pass0 (pa_cons (pv 0) (pa_cons pe_int pa_nil))))))) (blkOk_by (own := [("_law_word", 7)]) (N := N_Ltree_grid) (sc := defScope s_Ltree_grid) (by decide +kernel)) (fun _ _ _ _ _ => (pg_name (i := 7) sc_Ltree_grid.nd rfl (.inl rfl))) (fun _ _ _ _ _ => pts_nil) (fun _ _ _ _ _ => (pe_lst (pa_cons (pe_lst (pa_cons (pv 7) pa_nil)) pa_nil))))
      (pss_cons (ps_for PassesOwn.never rfl (pi_range1 rfl T.z_range (pa_cons pe_int pa_nil)) (pg_name (i := 3) sc_Ltree_grid.nd rfl (.inl rfl)) (pss_cons (ps_if (pt_cmpR op_eq (pe_callB call_len_seq (by rfl) T.z_len PySem.boot_len (pa_cons (pv 2) pa_nil)) pe_int (nomark _)) (pss_one (ps_ret (pe_ix ix_list (pv 2) pe_int (fun _ _ => rfl)))) pss_nil)
      (pss_cons (ps_set (i := 4) sc_Ltree_grid.nd rfl (.inl rfl) (pe_bm PySem.F.plainAttrs_list PySem.F.slot_list_pop PySem.F.type_list_pop mt_popAt (pv 2) (pa_cons (pe_call c_Ltake.G (hr.mono (by decide)) (by rfl) c_Ltake.g c_Ltake.kp c_Ltake.b .nil pass0 (pa_cons (pv 0) (pa_cons (pe_callB call_len_seq (by rfl) T.z_len PySem.boot_len (pa_cons (pv 2) pa_nil)) pa_nil))) pa_nil)))
      (pss_cons (ps_set (i := 5) sc_Ltree_grid.nd rfl (.inl rfl) (pe_bm PySem.F.plainAttrs_list PySem.F.slot_list_pop PySem.F.type_list_pop mt_popAt (pv 2) (pa_cons (pe_call c_Ltake.G (hr.mono (by decide)) (by rfl) c_Ltake.g c_Ltake.kp c_Ltake.b .nil pass0 (pa_cons (pv 0) (pa_cons (pe_callB call_len_seq (by rfl) T.z_len PySem.boot_len (pa_cons (pv 2) pa_nil)) pa_nil))) pa_nil)))
      (pss_cons (ps_set (i := 6) sc_Ltree_grid.nd rfl (.inl rfl) (pe_call c_Lstacked.G (hr.mono (by decide)) (by rfl) c_Lstacked.g c_Lstacked.kp c_Lstacked.b .nil pass0 (pa_cons (pv 4) (pa_cons (pv 5) pa_nil))))
      (pss_cons (ps_if (pt_cmpR op_eq (pe_call c_Ltake.G (hr.mono (by decide)) (by rfl) c_Ltake.g c_Ltake.kp c_Ltake.b .nil pass0 (pa_cons (pv 0) (pa_cons pe_int pa_nil))) pe_int (nomark _)) (pss_one (ps_set (i := 6) sc_Ltree_grid.nd rfl (.inl rfl) (pe_call c_Lflipped.G (hr.mono (by decide)) (by rfl) c_Lflipped.g c_Lflipped.kp c_Lflipped.b .nil pass0 (pa_cons (pe_call c_Lstacked.G (hr.mono (by decide)) (by rfl) c_Lstacked.g c_Lstacked.kp c_Lstacked.b .nil pass0 (pa_cons (pe_call c_Lflipped.G (hr.mono (by decide)) (by rfl) c_Lflipped.g c_Lflipped.kp c_Lflipped.b .nil pass0 (pa_cons (pv 4) pa_nil)) (pa_cons (pe_call c_Lflipped.G (hr.mono (by decide)) (by rfl) c_Lflipped.g c_Lflipped.kp c_Lflipped.b .nil pass0 (pa_cons (pv 5) pa_nil)) pa_nil))) pa_nil)))) pss_nil)
      (pss_cons (ps_if (PW.pt (pw_or (pt_cmpR op_gt (pe_callB call_len_seq (by rfl) T.z_len PySem.boot_len (pa_cons (pv 6) pa_nil)) pe_int (nomark _)) (pw_or1 (pt_cmpR op_gt (pe_callB call_len_seq (by rfl) T.z_len PySem.boot_len (pa_cons (pe_ix ix_list (pv 6) pe_int (fun _ _ => rfl)) pa_nil)) pe_int (nomark _))))) (pss_one (ps_set (i := 6) sc_Ltree_grid.nd rfl (.inl rfl) (pv 4))) pss_nil)
      (pss_one (ps_expr (pe_bm PySem.F.plainAttrs_list PySem.F.slot_list_append PySem.F.type_list_append mt_append (pv 2) (pa_cons (pv 6) pa_nil)))))))))))
      (pss_one (ps_ret (pe_ix ix_list (pv 2) pe_int (fun _ _ => rfl)))))), ?_⟩
  refine fn_TW (δ := Unit) (ψ := fun _ _ _ => []) h ?_ (fun s B G0 q hGB => 
      (sv_seq (sv_asg (i := 2) (ve_lc (vs := [7]) (js := [7]) (vi_list (ve_frL (ve_sl (ve_v (rLst rStr) (q.1)) vo_none (vo_some (ve_op2 (ve_c rInt 2 fun _ => rfl) (ve_callFT rfl (va_st s (va_cons (ve_c rInt 5 fun _ => rfl) va_nil))) v2_add)) v3_slL))) (hv1 rfl) (vg_name (i := 7)) (fun _ h => h) (fun b_146 => vt_yes) (fun b_146 => (ve_frL (ve_lstL (rNw B (rLst rStr)) (fun a => [a.1]) (va_cons (ve_new (ve_lstL rStr (fun a => [a.1]) (va_cons (ve_v rStr (b_146)) va_nil))) va_nil))))) PxLe.nil) fun l_parts_148 =>
      (sv_seq (sv_for (ψ := (fun s_150 : (List (List (List Str))) => [.fr (rSt s), .fr ((rLst rStr) (q.1)), .ow (cLst (rLst (rNw B (rLst rStr))) (s_150)), .un, .un, .un, .un, .un])) (s0 := (l_parts_148)) (vi_range1 (ve_c rInt 6 fun _ => rfl)) PxLe.nil (Le.same (Le.same (Le.same (Le.un (Le.un (Le.un (Le.un (Le.un Le.nil)))))))) (fun s_150 => (vg_name (i := 3))) (fun b_149 s_150 => (sv_seq (sv_if (vt_lend (i := 2) rfl cLst_show (vt_test (ve_op2 (ve_cb (va_cons (ve_v (rLst (rLst (rNw B (rLst rStr)))) (s_150)) va_nil) vn_lenL) (ve_c rInt 1 fun _ => rfl) v2_eqI))) PxLe.nil (sv_showL 2 rfl (sv_ret (ve_op2 (ve_v (rLst (rLst (rNw B (rLst rStr)))) (s_150)) (ve_c rInt 0 fun _ => rfl) v2_ixL) PxLe.nil)) (sv_conv (χ := (fun s_152 : Unit => [.fr (rSt s), .fr ((rLst rStr) (q.1)), .ow (cLst (rLst (rNw B (rLst rStr))) (s_150)), .fr (rInt (b_149)), .un, .un, .un, .un])) (fun _ => ()) sv_nil (fun _ => (Le.same (Le.same (Le.same (Le.same (Le.un (Le.un (Le.un (Le.un Le.nil))))))))))) fun s_152 =>
      (sv_seq (sv_asgX (i := 4) (vx_popAt (i := 2) (ve_lend (i := 2) rfl cLst_show flat_int (ve_callFT rfl (va_st s (va_cons (ve_cb (va_cons (ve_v (rLst (rLst (rNw B (rLst rStr)))) (s_150)) va_nil) vn_lenL) va_nil)))) PxLe.nil)) fun p_154 =>
      (sv_seq (sv_asgX (i := 5) (vx_popAt (i := 2) (ve_lend (i := 2) rfl cLst_show flat_int (ve_callFT rfl (va_st s (va_cons (ve_cb (va_cons (ve_v (rLst (rLst (rNw B (rLst rStr)))) (p_154.2)) va_nil) vn_lenL) va_nil)))) PxLe.nil)) fun p_155 =>
      (sv_seq (sv_asg (i := 6) (ve_callN (va_cons (ve_grOld (B := B) (ve_v (rLst (rNw B (rLst rStr))) (p_154.1))) (va_cons (ve_grOld (B := B) (ve_v (rLst (rNw B (rLst rStr))) (p_155.1))) va_nil)) (fun e => gr_back e)) PxLe.nil) fun l_made_156 =>
      (sv_seq (sv_if (vt_test (ve_op2 (ve_callFT rfl (va_st s (va_cons (ve_c rInt 2 fun _ => rfl) va_nil))) (ve_c rInt 0 fun _ => rfl) v2_eqI)) PxLe.nil (sv_conv (χ := (fun s_158 : (List (List Str)) => [.fr (rSt s), .fr ((rLst rStr) (q.1)), .ow (cLst (rLst (rNw B (rLst rStr))) (p_155.2)), .fr (rInt (b_149)), .fr ((rLst (rNw B (rLst rStr))) (p_154.1)), .fr ((rLst (rNw B (rLst rStr))) (p_155.1)), .fr ((rLst (rNw B (rLst rStr))) (s_158)), .un])) (fun l_made_162 => (l_made_162)) (sv_asg (i := 6) (ve_frL (ve_callO (Rn := fun B => cLst (rNw B (rLst rStr))) (va_cons (ve_grOld (B := B) (ve_callN (va_cons (ve_grOld (B := B) (ve_frL (ve_callO (Rn := fun B => cLst (rNw B (rLst rStr))) (va_cons (ve_grOld (B := B) (ve_v (rLst (rNw B (rLst rStr))) (p_154.1))) va_nil) (fun e => gr_backO e)))) (va_cons (ve_grOld (B := B) (ve_frL (ve_callO (Rn := fun B => cLst (rNw B (rLst rStr))) (va_cons (ve_grOld (B := B) (ve_v (rLst (rNw B (rLst rStr))) (p_155.1))) va_nil) (fun e => gr_backO e)))) va_nil)) (fun e => gr_back e))) va_nil) (fun e => gr_backO e))) PxLe.nil) (fun l_made_162 => (Le.same (Le.same (Le.same (Le.same (Le.same (Le.same (Le.same (Le.un Le.nil)))))))))) (sv_conv (χ := (fun s_158 : (List (List Str)) => [.fr (rSt s), .fr ((rLst rStr) (q.1)), .ow (cLst (rLst (rNw B (rLst rStr))) (p_155.2)), .fr (rInt (b_149)), .fr ((rLst (rNw B (rLst rStr))) (p_154.1)), .fr ((rLst (rNw B (rLst rStr))) (p_155.1)), .fr ((rLst (rNw B (rLst rStr))) (s_158)), .un])) (fun _ => (l_made_156)) sv_nil (fun _ => (Le.same (Le.same (Le.same (Le.same (Le.same (Le.same (Le.same (Le.un Le.nil))))))))))) fun s_158 =>
      (sv_seq (sv_if (vt_or (vt_test (ve_op2 (ve_cb (va_cons (ve_v (rLst (rNw B (rLst rStr))) (s_158)) va_nil) vn_lenL) (ve_c rInt 8 fun _ => rfl) v2_gt)) (vt_test (ve_op2 (ve_cb (va_cons (ve_nwOld (B := B) (ve_op2 (ve_v (rLst (rNw B (rLst rStr))) (s_158)) (ve_c rInt 0 fun _ => rfl) v2_ixL)) va_nil) vn_lenL) (ve_c rInt 8 fun _ => rfl) v2_gt))) PxLe.nil (sv_conv (χ := (fun s_166 : (List (List Str)) => [.fr (rSt s), .fr ((rLst rStr) (q.1)), .ow (cLst (rLst (rNw B (rLst rStr))) (p_155.2)), .fr (rInt (b_149)), .fr ((rLst (rNw B (rLst rStr))) (p_154.1)), .fr ((rLst (rNw B (rLst rStr))) (p_155.1)), .fr ((rLst (rNw B (rLst rStr))) (s_166)), .un])) (fun l_made_167 => (l_made_167)) (sv_asg (i := 6) (ve_v (rLst (rNw B (rLst rStr))) (p_154.1)) PxLe.nil) (fun l_made_167 => (Le.same (Le.same (Le.same (Le.same (Le.same (Le.same (Le.same (Le.un Le.nil)))))))))) (sv_conv (χ := (fun s_166 : (List (List Str)) => [.fr (rSt s), .fr ((rLst rStr) (q.1)), .ow (cLst (rLst (rNw B (rLst rStr))) (p_155.2)), .fr (rInt (b_149)), .fr ((rLst (rNw B (rLst rStr))) (p_154.1)), .fr ((rLst (rNw B (rLst rStr))) (p_155.1)), .fr ((rLst (rNw B (rLst rStr))) (s_166)), .un])) (fun _ => (s_158)) sv_nil (fun _ => (Le.same (Le.same (Le.same (Le.same (Le.same (Le.same (Le.same (Le.un Le.nil))))))))))) fun s_166 =>
      (sv_conv (χ := (fun s_150 : (List (List (List Str))) => [.fr (rSt s), .fr ((rLst rStr) (q.1)), .ow (cLst (rLst (rNw B (rLst rStr))) (s_150)), .un, .un, .un, .un, .un])) (fun l_parts_169 => ((p_155.2 ++ [l_parts_169]))) (sv_append (i := 2) (ve_v (rLst (rNw B (rLst rStr))) (s_166)) PxLe.nil) (fun l_parts_169 => (Le.same (Le.same (Le.same (Le.un (Le.un (Le.un (Le.un (Le.un Le.nil)))))))))))))))))) fun s_150 =>
      (sv_showL 2 rfl (sv_ret (ve_op2 (ve_v (rLst (rLst (rNw B (rLst rStr)))) (s_150)) (ve_c rInt 0 fun _ => rfl) v2_ixL) PxLe.nil)))))
  intro q; delta F_Ltree_grid Mi.neQ Mi.datS Mi.inS Mi.niS Mi.sortSet Mi.insert Mi.dget Mi.comp2 Mi.exch Mi.two Mi.neD Mi.eqD Mi.inD Mi.inDT Mi.idx Mi.sgn Mi.rng Mi.comp Mi.join Mi.popAt Mi.popE Mi.sortI Mi.sortS Mi.sortD Mi.listD Mi.setL Mi.max Mi.min Mi.draw; rfl

abbrev s_Lrenamed : Stmt := top 51
abbrev N_Lrenamed : List Str := ["_law_state", "_law_grid_here", "_law_words_here", "_law_count", "_law_names_here", "_law_word", "_law_line", "_law_label"]
theorem sc_Lrenamed : FnScope ["_law_state", "_law_grid_here", "_law_words_here", "_law_count", "_law_names_here", "_law_word", "_law_line", "_law_label"] ["_law_state", "_law_grid_here", "_law_words_here"] (defScope s_Lrenamed) := ⟨rfl, rfl, rfl, by decide +kernel, rfl, by decide +kernel, by decide +kernel⟩
@[irreducible] def F_Lrenamed (q : (List (List Str)) × (List Str) × Unit) : M (List (List Str)) := M.ret ((M.bind (M.bind (M.nox (F_Ltake (((6 : Int)), ()))) fun x_174 => (M.pure (((1 : Int) + x_174)))) fun l_count_175 => (let l_names_here_176 : (List (Str × Str)) := ([] : (List (Str × Str))); (M.seq (M.forL (fun b_177 s_178 => (M.bind (M.bind (M.bind (M.nox (F_Ltake ((l_count_175), ()))) fun x_179 => (Mi.idx (q.2.1) (x_179))) fun x_181 => (M.when ((s_178).length < sizeLine) (putD (s_178) (b_177) (x_181)))) fun l_names_here_180 => (M.nx ((l_names_here_180))))) (q.2.1) (l_names_here_176)) fun s_178 => (M.bind (Mi.comp (q.1) fun b_186 => (M.bind (Mi.comp (b_186) fun b_187 => (M.bind (Mi.dget (s_178) (b_187)) fun x_188 => (M.pure ((some (x_188)))))) fun x_189 => (M.pure ((some (x_189)))))) fun x_190 => (M.rt (x_190)))))) : M (Fl (List (List Str)) Unit))
theorem ok_Lrenamed {f : Addr} {fd : FuncData} (F : Fun K "_law_renamed" "_law_renamed" s_Lrenamed f fd) (T : TxtB mg) (c_Ltake : Cal P w K mg base "_law_take" CX0 1 ["_law_state", "_law_limit"] (spT mg K ([] : List (Addr × Str)) thW (fun s (q : Int × Unit) => [rSt s, rInt q.1]) F_Ltake (Fz rInt))) : FnOk P w K mg base CX0 2 f fd ["_law_state", "_law_grid_here", "_law_words_here"] (spTN mg K ([] : List (Addr × Str)) thW (fun s (q : (List (List Str)) × (List Str) × Unit) => [rSt s, (rLst (rLst rStr)) q.1, (rLst rStr) q.2.1]) F_Lrenamed (fun B => (rLst (rNw B (rLst rStr))))) := by
  refine F.ok sc_Lrenamed spTN_len (fun cdv A outer s H vs Q E hr h => ?_)
  refine ⟨_, (pss_cons (ps_set (i := 3) sc_Lrenamed.nd rfl (.inl rfl) (pe_op op_add pe_int (pe_call c_Ltake.G (hr.mono (by decide)) (by rfl) c_Ltake.g c_Ltake.kp c_Ltake.b .nil pass0 (pa_cons (pv 0) (pa_cons pe_int pa_nil)))))
      (pss_cons (ps_set (i := 4) sc_Lrenamed.nd rfl (.inr rfl) pe_dnewK)
      (pss_cons (ps_for PassesOwn.never rfl (pi_list (pv 2)) (pg_name (i := 5) sc_Lrenamed.nd rfl (.inl rfl)) (pss_one (ps_dput (hu_of hr) (pv 4) (pv 5) (pe_ix ix_list (pv 2) (pe_call c_Ltake.G (hr.mono (by decide)) (by rfl) c_Ltake.g c_Ltake.kp c_Ltake.b .nil pass0 (pa_cons (pv 0) (pa_cons (pv 3) pa_nil))) (fun _ _ => rfl)) rfl)))
      (pss_one (ps_ret (pe_lc (own := [("_law_line", 6)]) (g := gName 6) (tt := tYes) rfl sc_Lrenamed.nd (pi_list (pv 1)) (blkOk_by (own := [("_law_line", 6)]) (N := N_Lrenamed) (sc := defScope s_Lrenamed) (by decide +kernel)) (fun _ _ _ _ _ => (pg_name (i := 6) sc_Lrenamed.nd rfl (.inl rfl))) (fun _ _ _ _ _ => pts_nil) (fun _ _ _ _ _ => (pe_lc (own := [("_law_label", 7)]) (g := gName 7) (tt := tYes) rfl sc_Lrenamed.nd (pi_listF (K := K) rfl (pv 6)) (blkOk_by (own := [("_law_label", 7)]) (N := N_Lrenamed) (by rfl)) (fun _ _ _ _ _ => (pg_name (i := 7) sc_Lrenamed.nd rfl (.inl rfl))) (fun _ _ _ _ _ => pts_nil) (fun _ _ _ _ _ => (pe_dget (hu_of hr) (pv 4) (pv 7) (fun _ _ => rfl))))))))))), ?_⟩
  refine fn_TW (δ := Unit) (ψ := fun _ _ _ => []) h ?_ (fun s B G0 q hGB => 
      (sv_seq (sv_asg (i := 3) (ve_op2 (ve_c rInt 1 fun _ => rfl) (ve_callFT rfl (va_st s (va_cons (ve_c rInt 6 fun _ => rfl) va_nil))) v2_add) PxLe.nil) fun l_count_175 =>
      (sv_seq (sv_asg (i := 4) (ve_dnew (R := rStr)) PxLe.nil) fun l_names_here_176 =>
      (sv_seq (sv_for (ψ := (fun s_178 : (List (Str × Str)) => [.fr (rSt s), .fr ((rLst (rLst rStr)) (q.1)), .fr ((rLst rStr) (q.2.1)), .fr (rInt (l_count_175)), .ow (cDct rStr (s_178)), .un, .un, .un])) (s0 := (l_names_here_176)) (vi_list (ve_v (rLst rStr) (q.2.1))) PxLe.nil (Le.same (Le.same (Le.same (Le.same (Le.same (Le.un (Le.un (Le.un Le.nil)))))))) (fun s_178 => (vg_name (i := 5))) (fun b_177 s_178 => (sv_conv (χ := (fun s_178 : (List (Str × Str)) => [.fr (rSt s), .fr ((rLst (rLst rStr)) (q.1)), .fr ((rLst rStr) (q.2.1)), .fr (rInt (l_count_175)), .ow (cDct rStr (s_178)), .un, .un, .un])) (fun l_names_here_180 => (l_names_here_180)) (sv_dput (i := 4) (ve_op2 (ve_v (rLst rStr) (q.2.1)) (ve_callFT rfl (va_st s (va_cons (ve_v rInt (l_count_175)) va_nil))) v2_ixL) (ve_v rStr (b_177)) PxLe.nil) (fun l_names_here_180 => (Le.same (Le.same (Le.same (Le.same (Le.same (Le.un (Le.un (Le.un Le.nil)))))))))))) fun s_178 =>
      (sv_showD 4 rfl (sv_ret (ve_frL (ve_lc (vs := [6]) (js := [6]) (vi_list (ve_v (rLst (rLst rStr)) (q.1))) (hv1 rfl) (vg_name (i := 6)) (fun _ h => h) (fun b_186 => vt_yes) (fun b_186 => (ve_new (ve_lc (vs := [7]) (js := [7]) (vi_list (ve_v (rLst rStr) (b_186))) (hv1 rfl) (vg_name (i := 7)) (fun _ h => h) (fun b_187 => vt_yes) (fun b_187 => (ve_dget (ve_v (rDct rStr) (s_178)) (ve_v rStr (b_187))))))))) PxLe.nil))))))
  intro q; delta F_Lrenamed Mi.neQ Mi.datS Mi.inS Mi.niS Mi.sortSet Mi.insert Mi.dget Mi.comp2 Mi.exch Mi.two Mi.neD Mi.eqD Mi.inD Mi.inDT Mi.idx Mi.sgn Mi.rng Mi.comp Mi.join Mi.popAt Mi.popE Mi.sortI Mi.sortS Mi.sortD Mi.listD Mi.setL Mi.max Mi.min Mi.draw; rfl

abbrev s_Lsmooth_grid : Stmt := top 52
abbrev N_Lsmooth_grid : List Str := ["_law_state", "_law_words_here", "_law_grid_here", "_law_turn", "_law_plan", "_law_flip", "_law_line"]
theorem sc_Lsmooth_grid : FnScope ["_law_state", "_law_words_here", "_law_grid_here", "_law_turn", "_law_plan", "_law_flip", "_law_line"] ["_law_state", "_law_words_here"] (defScope s_Lsmooth_grid) := ⟨rfl, rfl, rfl, by decide +kernel, rfl, by decide +kernel, by decide +kernel⟩
@[irreducible] def F_Lsmooth_grid (q : (List Str) × Unit) : M (List (List Str)) := M.ret ((M.bind (M.bind (M.bind (Mi.idx (q.1) ((0 : Int))) fun x_191 => (M.pure ([(x_191)]))) fun x_192 => (M.pure ([(x_192)]))) fun l_grid_here_193 => (M.seq (M.bind (M.bind (M.nox (F_Ltake (((9 : Int)), ()))) fun x_194 => (Mi.rng 0 (x_194))) fun x_216 => (M.forL (fun b_195 s_196 => (M.bind (M.nox (F_Ltake (((4 : Int)), ()))) fun l_plan_197 => (M.bind (M.bind (M.when (((2 : Int)) ≠ 0) ((l_plan_197).fmod ((2 : Int)))) fun x_198 => (M.pure ((decide ((x_198) = ((1 : Int))))))) fun l_flip_199 => (M.seq (M.ite (l_flip_199) (M.bind (M.nox (F_Lflipped ((s_196), ()))) fun l_grid_here_201 => (M.nx ((l_grid_here_201)))) (M.nx ((s_196)))) fun s_200 => (M.bind (M.nox (M.bind (M.bind (M.bind (M.nox (F_Ltake (((6 : Int)), ()))) fun x_202 => (Mi.idx (q.1) (x_202))) fun x_203 => (M.pure ([(x_203)]))) fun x_205 => (M.bind (M.bind (Mi.idx (s_200) ((0 : Int))) fun x_204 => (M.pure (((x_204).length : Int)))) fun x_206 => (M.when (-(2 ^ 63) ≤ (x_206) ∧ (x_206) < 2 ^ 63 ∧ (x_205).length * (x_206).toNat ≤ sizeLine) (List.replicate (x_206).toNat (x_205)).flatten)))) fun l_line_207 => (M.seq (M.ite ((decide (((1 : Int)) < (l_plan_197)))) (M.bind (M.nox (M.bind (M.bind (M.nox (F_Ltake ((((s_200).length : Int)), ()))) fun x_209 => (Mi.idx (s_200) (x_209))) fun x_210 => (M.pure (x_210)))) fun l_line_211 => (M.nx ((l_line_211)))) (M.nx ((l_line_207)))) fun s_208 => (M.seq (M.ite ((decide ((((s_200).length : Int)) < ((8 : Int))))) (M.bind (M.bind (M.nox (M.nox (F_Ltake (((((s_200).length : Int) + (1 : Int))), ())))) fun x_214 => (Mi.insert (s_200) (x_214) (s_208))) fun l_grid_here_213 => (M.nx ((l_grid_here_213)))) (M.nx ((s_200)))) fun s_212 => (M.ite (l_flip_199) (M.bind (M.nox (F_Lflipped ((s_212), ()))) fun l_grid_here_215 => (M.nx ((l_grid_here_215)))) (M.nx ((s_212))))))))))) (x_216) (l_grid_here_193))) fun s_196 => (M.rt (s_196)))) : M (Fl (List (List Str)) Unit))
theorem ok_Lsmooth_grid {f : Addr} {fd : FuncData} (F : Fun K "_law_smooth_grid" "_law_smooth_grid" s_Lsmooth_grid f fd) (T : TxtB mg) (c_Ltake : Cal P w K mg base "_law_take" CX0 1 ["_law_state", "_law_limit"] (spT mg K ([] : List (Addr × Str)) thW (fun s (q : Int × Unit) => [rSt s, rInt q.1]) F_Ltake (Fz rInt))) (c_Lflipped : Cal P w K mg base "_law_flipped" CX0 1 ["_law_grid_here"] (spGO mg K ([] : List (Addr × Str)) (fun q : (List (List Str)) × Unit => [(rLst (rLst rStr)) q.1]) F_Lflipped (fun B => cLst (rNw B (rLst rStr))))) : FnOk P w K mg base CX0 2 f fd ["_law_state", "_law_words_here"] (spTN mg K ([] : List (Addr × Str)) thW (fun s (q : (List Str) × Unit) => [rSt s, (rLst rStr) q.1]) F_Lsmooth_grid (fun B => (rLst (rNw B (rLst rStr))))) := by
  refine F.ok sc_Lsmooth_grid spTN_len (fun cdv A outer s H vs Q E hr h => ?_)
  refine ⟨_, (pss_cons (ps_set (i := 2) sc_Lsmooth_grid.nd rfl (.inl rfl) (pe_lst (pa_cons (pe_lst (pa_cons (pe_ix ix_list (pv 1) pe_int (fun _ _ => rfl)) pa_nil)) pa_nil)))
      (pss_cons (ps_for PassesOwn.never rfl (pi_range1 rfl T.z_range (pa_cons (pe_call c_Ltake.G (hr.mono (by decide)) (by rfl) c_Ltake.g c_Ltake.kp c_Ltake.b .nil pass0 (pa_cons (pv 0) (pa_cons pe_int pa_nil))) pa_nil)) (pg_name (i := 3) sc_Lsmooth_grid.nd rfl (.inl rfl)) (pss_cons (ps_set (i := 4) sc_Lsmooth_grid.nd rfl (.inl rfl) (pe_call c_Ltake.G (hr.mono (by decide)) (by rfl) c_Ltake.g c_Ltake.kp c_Ltake.b .nil pass0 (pa_cons (pv 0) (pa_cons pe_int pa_nil))))
      (pss_cons (ps_set (i := 5) sc_Lsmooth_grid.nd rfl (.inl rfl) (pe_cmpR op_eq (pe_op op_modN (pv 4) pe_int) pe_int (nomark _)))
      (pss_cons (ps_if (pt_val (pv 5)) (pss_one (ps_set (i := 2) sc_Lsmooth_grid.nd rfl (.inl rfl) (pe_call c_Lflipped.G (hr.mono (by decide)) (by rfl) c_Lflipped.g c_Lflipped.kp c_Lflipped.b .nil pass0 (pa_cons (pv 2) pa_nil)))) pss_nil)
      (pss_cons (ps_set (i := 6) sc_Lsmooth_grid.nd rfl (.inl rfl) (pe_op op_rep (pe_lst (pa_cons (pe_ix ix_list (pv 1) (pe_call c_Ltake.G (hr.mono (by decide)) (by rfl) c_Ltake.g c_Ltake.kp c_Ltake.b .nil pass0 (pa_cons (pv 0) (pa_cons pe_int pa_nil))) (fun _ _ => rfl)) pa_nil)) (pe_callB call_len_seq (by rfl) T.z_len PySem.boot_len (pa_cons (pe_ix ix_list (pv 2) pe_int (fun _ _ => rfl)) pa_nil))))
      (pss_cons (ps_if (pt_cmpR op_gt (pv 4) pe_int (nomark _)) (pss_one (ps_set (i := 6) sc_Lsmooth_grid.nd rfl (.inl rfl) (pe_callTy call_list_of (by rfl) T.z_list (by decide +kernel) (pa_cons (pe_ix ix_list (pv 2) (pe_call c_Ltake.G (hr.mono (by decide)) (by rfl) c_Ltake.g c_Ltake.kp c_Ltake.b .nil pass0 (pa_cons (pv 0) (pa_cons (pe_callB call_len_seq (by rfl) T.z_len PySem.boot_len (pa_cons (pv 2) pa_nil)) pa_nil))) (fun _ _ => rfl)) pa_nil)))) pss_nil)
      (pss_cons (ps_if (pt_cmpR op_lt (pe_callB call_len_seq (by rfl) T.z_len PySem.boot_len (pa_cons (pv 2) pa_nil)) pe_int (nomark _)) (pss_one (ps_expr (pe_bm PySem.F.plainAttrs_list PySem.F.slot_list_insert PySem.F.type_list_insert mt_insert (pv 2) (pa_cons (pe_call c_Ltake.G (hr.mono (by decide)) (by rfl) c_Ltake.g c_Ltake.kp c_Ltake.b .nil pass0 (pa_cons (pv 0) (pa_cons (pe_op op_add (pe_callB call_len_seq (by rfl) T.z_len PySem.boot_len (pa_cons (pv 2) pa_nil)) pe_int) pa_nil))) (pa_cons (pv 6) pa_nil))))) pss_nil)
      (pss_one (ps_if (pt_val (pv 5)) (pss_one (ps_set (i := 2) sc_Lsmooth_grid.nd rfl (.inl rfl) (pe_call c_Lflipped.G (hr.mono (by decide)) (by rfl) c_Lflipped.g c_Lflipped.kp c_Lflipped.b .nil pass0 (pa_cons (pv 2) pa_nil)))) pss_nil)))))))))
      (pss_one (ps_ret (pv 2))))), ?_⟩
  refine fn_TW (δ := Unit) (ψ := fun _ _ _ => []) h ?_ (fun s B G0 q hGB => 
      (sv_seq (sv_asg (i := 2) (ve_lstL (rNw B (rLst rStr)) (fun a => [a.1]) (va_cons (ve_new (ve_lstL rStr (fun a => [a.1]) (va_cons (ve_op2 (ve_v (rLst rStr) (q.1)) (ve_c rInt 0 fun _ => rfl) v2_ixL) va_nil))) va_nil)) PxLe.nil) fun l_grid_here_193 =>
      (sv_seq (sv_for (ψ := (fun s_196 : (List (List Str)) => [.fr (rSt s), .fr ((rLst rStr) (q.1)), .ow (cLst (rNw B (rLst rStr)) (s_196)), .un, .un, .un, .un])) (s0 := (l_grid_here_193)) (vi_range1 (ve_callFT rfl (va_st s (va_cons (ve_c rInt 9 fun _ => rfl) va_nil)))) PxLe.nil (Le.same (Le.same (Le.same (Le.un (Le.un (Le.un (Le.un Le.nil))))))) (fun s_196 => (vg_name (i := 3))) (fun b_195 s_196 => (sv_seq (sv_asg (i := 4) (ve_callFT rfl (va_st s (va_cons (ve_c rInt 4 fun _ => rfl) va_nil))) PxLe.nil) fun l_plan_197 =>
      (sv_seq (sv_asg (i := 5) (ve_op2 (ve_op2 (ve_v rInt (l_plan_197)) (ve_c rInt 2 fun _ => rfl) v2_mod) (ve_c rInt 1 fun _ => rfl) v2_eqI) PxLe.nil) fun l_flip_199 =>
      (sv_seq (sv_if (vt_b (ve_v rBl (l_flip_199))) PxLe.nil (sv_showL 2 rfl (sv_conv (χ := (fun s_200 : (List (List Str)) => [.fr (rSt s), .fr ((rLst rStr) (q.1)), .ow (cLst (rNw B (rLst rStr)) (s_200)), .fr (rInt (b_195)), .fr (rInt (l_plan_197)), .fr (rBl (l_flip_199)), .un])) (fun l_grid_here_201 => (l_grid_here_201)) (sv_asg (i := 2) (ve_callO (Rn := fun B => cLst (rNw B (rLst rStr))) (va_cons (ve_grOld (B := B) (ve_v (rLst (rNw B (rLst rStr))) (s_196))) va_nil) (fun e => gr_backO e)) PxLe.nil) (fun l_grid_here_201 => (Le.same (Le.same (Le.same (Le.same (Le.same (Le.same (Le.un Le.nil)))))))))) (sv_conv (χ := (fun s_200 : (List (List Str)) => [.fr (rSt s), .fr ((rLst rStr) (q.1)), .ow (cLst (rNw B (rLst rStr)) (s_200)), .fr (rInt (b_195)), .fr (rInt (l_plan_197)), .fr (rBl (l_flip_199)), .un])) (fun _ => (s_196)) sv_nil (fun _ => (Le.same (Le.same (Le.same (Le.same (Le.same (Le.same (Le.un Le.nil)))))))))) fun s_200 =>
      (sv_seq (sv_asg (i := 6) (ve_new (ve_lendO (i := 2) rfl cLst_show flat_str (ve_op2 (ve_frL (ve_lstL rStr (fun a => [a.1]) (va_cons (ve_op2 (ve_v (rLst rStr) (q.1)) (ve_callFT rfl (va_st s (va_cons (ve_c rInt 6 fun _ => rfl) va_nil))) v2_ixL) va_nil))) (ve_cb (va_cons (ve_nwOld (B := B) (ve_op2 (ve_v (rLst (rNw B (rLst rStr))) (s_200)) (ve_c rInt 0 fun _ => rfl) v2_ixL)) va_nil) vn_lenL) v2_rep))) PxLe.nil) fun l_line_207 =>
      (sv_seq (sv_if (vt_test (ve_op2 (ve_v rInt (l_plan_197)) (ve_c rInt 1 fun _ => rfl) v2_gt)) PxLe.nil (sv_conv (χ := (fun s_208 : (List Str) => [.fr (rSt s), .fr ((rLst rStr) (q.1)), .ow (cLst (rNw B (rLst rStr)) (s_200)), .fr (rInt (b_195)), .fr (rInt (l_plan_197)), .fr (rBl (l_flip_199)), .fr ((rNw B (rLst rStr)) (s_208))])) (fun l_line_211 => (l_line_211)) (sv_asg (i := 6) (ve_new (ve_lendO (i := 2) rfl cLst_show flat_str (ve_cb (va_cons (ve_nwOld (B := B) (ve_op2 (ve_v (rLst (rNw B (rLst rStr))) (s_200)) (ve_callFT rfl (va_st s (va_cons (ve_cb (va_cons (ve_v (rLst (rNw B (rLst rStr))) (s_200)) va_nil) vn_lenL) va_nil))) v2_ixL)) va_nil) vn_listL))) PxLe.nil) (fun l_line_211 => (Le.same (Le.same (Le.same (Le.same (Le.same (Le.same (Le.same Le.nil))))))))) (sv_conv (χ := (fun s_208 : (List Str) => [.fr (rSt s), .fr ((rLst rStr) (q.1)), .ow (cLst (rNw B (rLst rStr)) (s_200)), .fr (rInt (b_195)), .fr (rInt (l_plan_197)), .fr (rBl (l_flip_199)), .fr ((rNw B (rLst rStr)) (s_208))])) (fun _ => (l_line_207)) sv_nil (fun _ => (Le.same (Le.same (Le.same (Le.same (Le.same (Le.same (Le.same Le.nil)))))))))) fun s_208 =>
      (sv_seq (sv_if (vt_lend (i := 2) rfl cLst_show (vt_test (ve_op2 (ve_cb (va_cons (ve_v (rLst (rNw B (rLst rStr))) (s_200)) va_nil) vn_lenL) (ve_c rInt 8 fun _ => rfl) v2_lt))) PxLe.nil (sv_conv (χ := (fun s_212 : (List (List Str)) => [.fr (rSt s), .fr ((rLst rStr) (q.1)), .ow (cLst (rNw B (rLst rStr)) (s_212)), .fr (rInt (b_195)), .fr (rInt (l_plan_197)), .fr (rBl (l_flip_199)), .fr ((rNw B (rLst rStr)) (s_208))])) (fun l_grid_here_213 => (l_grid_here_213)) (sv_exprX (vx_insert (i := 2) (ve_lend (i := 2) rfl cLst_show flat_int (ve_callFT rfl (va_st s (va_cons (ve_op2 (ve_cb (va_cons (ve_v (rLst (rNw B (rLst rStr))) (s_200)) va_nil) vn_lenL) (ve_c rInt 1 fun _ => rfl) v2_add) va_nil)))) (ve_v (rNw B (rLst rStr)) (s_208)) PxLe.nil)) (fun l_grid_here_213 => (Le.same (Le.same (Le.same (Le.same (Le.same (Le.same (Le.same Le.nil))))))))) (sv_conv (χ := (fun s_212 : (List (List Str)) => [.fr (rSt s), .fr ((rLst rStr) (q.1)), .ow (cLst (rNw B (rLst rStr)) (s_212)), .fr (rInt (b_195)), .fr (rInt (l_plan_197)), .fr (rBl (l_flip_199)), .fr ((rNw B (rLst rStr)) (s_208))])) (fun _ => (s_200)) sv_nil (fun _ => (Le.same (Le.same (Le.same (Le.same (Le.same (Le.same (Le.same Le.nil)))))))))) fun s_212 =>
      (sv_if (vt_b (ve_v rBl (l_flip_199))) PxLe.nil (sv_showL 2 rfl (sv_conv (χ := (fun s_196 : (List (List Str)) => [.fr (rSt s), .fr ((rLst rStr) (q.1)), .ow (cLst (rNw B (rLst rStr)) (s_196)), .un, .un, .un, .un])) (fun l_grid_here_215 => (l_grid_here_215)) (sv_asg (i := 2) (ve_callO (Rn := fun B => cLst (rNw B (rLst rStr))) (va_cons (ve_grOld (B := B) (ve_v (rLst (rNw B (rLst rStr))) (s_212))) va_nil) (fun e => gr_backO e)) PxLe.nil) (fun l_grid_here_215 => (Le.same (Le.same (Le.same (Le.un (Le.un (Le.un (Le.un Le.nil)))))))))) (sv_conv (χ := (fun s_196 : (List (List Str)) => [.fr (rSt s), .fr ((rLst rStr) (q.1)), .ow (cLst (rNw B (rLst rStr)) (s_196)), .un, .un, .un, .un])) (fun () => (s_212)) sv_nil (fun () => (Le.same (Le.same (Le.same (Le.un (Le.un (Le.un (Le.un Le.nil)))))))))))))))))) fun s_196 =>
      (sv_showL 2 rfl (sv_ret (ve_v (rLst (rNw B (rLst rStr))) (s_196)) PxLe.nil)))))
  intro q; delta F_Lsmooth_grid Mi.neQ Mi.datS Mi.inS Mi.niS Mi.sortSet Mi.insert Mi.dget Mi.comp2 Mi.exch Mi.two Mi.neD Mi.eqD Mi.inD Mi.inDT Mi.idx Mi.sgn Mi.rng Mi.comp Mi.join Mi.popAt Mi.popE Mi.sortI Mi.sortS Mi.sortD Mi.listD Mi.setL Mi.max Mi.min Mi.draw; rfl

abbrev s_Lany_grid : Stmt := top 53
abbrev N_Lany_grid : List Str := ["_law_state", "_law_words_here", "_law_most", "_law_height", "_law_width", "_law_count", "_law_turn", "_law_k"]
theorem sc_Lany_grid : FnScope ["_law_state", "_law_words_here", "_law_most", "_law_height", "_law_width", "_law_count", "_law_turn", "_law_k"] ["_law_state", "_law_words_here"] (defScope s_Lany_grid) := ⟨rfl, rfl, rfl, by decide +kernel, rfl, by decide +kernel, by decide +kernel⟩
@[irreducible] def F_Lany_grid (q : (List Str) × Unit) : M (List (List Str)) := M.ret ((M.bind (M.bind (M.nox (F_Ltake (((4 : Int)), ()))) fun x_217 => (Mi.idx ([((2 : Int)), ((3 : Int)), ((4 : Int)), ((8 : Int))]) (x_217))) fun l_most_218 => (M.bind (M.bind (M.nox (F_Ltake ((l_most_218), ()))) fun x_219 => (M.pure (((1 : Int) + x_219)))) fun l_height_220 => (M.bind (M.bind (M.nox (F_Ltake ((l_most_218), ()))) fun x_221 => (M.pure (((1 : Int) + x_221)))) fun l_width_222 => (M.bind (M.bind (M.nox (F_Ltake (((6 : Int)), ()))) fun x_223 => (M.pure (((1 : Int) + x_223)))) fun l_count_224 => (M.bind (M.bind (Mi.rng 0 (l_height_220)) fun x_231 => (Mi.comp (x_231) fun b_225 => (M.bind (M.bind (Mi.rng 0 (l_width_222)) fun x_229 => (Mi.comp (x_229) fun b_226 => (M.bind (M.bind (M.nox (F_Ltake ((l_count_224), ()))) fun x_227 => (Mi.idx (q.1) (x_227))) fun x_228 => (M.pure ((some (x_228))))))) fun x_230 => (M.pure ((some (x_230))))))) fun x_232 => (M.rt (x_232))))))) : M (Fl (List (List Str)) Unit))
theorem ok_Lany_grid {f : Addr} {fd : FuncData} (F : Fun K "_law_any_grid" "_law_any_grid" s_Lany_grid f fd) (T : TxtB mg) (c_Ltake : Cal P w K mg base "_law_take" CX0 1 ["_law_state", "_law_limit"] (spT mg K ([] : List (Addr × Str)) thW (fun s (q : Int × Unit) => [rSt s, rInt q.1]) F_Ltake (Fz rInt))) : FnOk P w K mg base CX0 2 f fd ["_law_state", "_law_words_here"] (spTN mg K ([] : List (Addr × Str)) thW (fun s (q : (List Str) × Unit) => [rSt s, (rLst rStr) q.1]) F_Lany_grid (fun B => (rLst (rNw B (rLst rStr))))) := by
  refine F.ok sc_Lany_grid spTN_len (fun cdv A outer s H vs Q E hr h => ?_)
  refine ⟨_, (pss_cons (ps_set (i := 2) sc_Lany_grid.nd rfl (.inl rfl) (pe_ix ix_list (pe_lst (pa_cons pe_int (pa_cons pe_int (pa_cons pe_int (pa_cons pe_int pa_nil))))) (pe_call c_Ltake.G (hr.mono (by decide)) (by rfl) c_Ltake.g c_Ltake.kp c_Ltake.b .nil pass0 (pa_cons (pv 0) (pa_cons pe_int pa_nil))) (fun _ _ => rfl)))
      (pss_cons (ps_set (i := 3) sc_Lany_grid.nd rfl (.inl rfl) (pe_op op_add pe_int (pe_call c_Ltake.G (hr.mono (by decide)) (by rfl) c_Ltake.g c_Ltake.kp c_Ltake.b .nil pass0 (pa_cons (pv 0) (pa_cons (pv 2) pa_nil)))))
      (pss_cons (ps_set (i := 4) sc_Lany_grid.nd rfl (.inr rfl) (pe_op op_add pe_int (pe_call c_Ltake.G (hr.mono (by decide)) (by rfl) c_Ltake.g c_Ltake.kp c_Ltake.b .nil pass0 (pa_cons (pv 0) (pa_cons (pv 2) pa_nil)))))
      (pss_cons (ps_set (i := 5) sc_Lany_grid.nd rfl (.inr rfl) (pe_op op_add pe_int (pe_call c_Ltake.G (hr.mono (by decide)) (by rfl) c_Ltake.g c_Ltake.kp c_Ltake.b .nil pass0 (pa_cons (pv 0) (pa_cons pe_int pa_nil)))))
      (pss_one (ps_ret (pe_lc (own := [("_law_turn", 6)]) (g := gName 6) (tt := tYes) rfl sc_Lany_grid.nd (pi_range1 rfl T.z_range (pa_cons (pv 3) pa_nil)) (blkOk_by (own := [("_law_turn", 6)]) (N := N_Lany_grid) (sc := defScope s_Lany_grid) (by decide +kernel)) (fun _ _ _ _ _ => (pg_name (i := 6) sc_Lany_grid.nd rfl (.inl rfl))) (fun _ _ _ _ _ => pts_nil) (fun _ _ _ _ _ => (pe_lc (own := [("_law_k", 7)]) (g := gName 7) (tt := tYes) rfl sc_Lany_grid.nd (pi_range1 rfl T.z_range (pa_cons (pv 4) pa_nil)) (blkOk_by (own := [("_law_k", 7)]) (N := N_Lany_grid) (by rfl)) (fun _ _ _ _ _ => (pg_name (i := 7) sc_Lany_grid.nd rfl (.inl rfl))) (fun _ _ _ _ _ => pts_nil) (fun _ _ _ _ _ => (pe_ix (ix_listF (K := K) rfl) (pv 1) (pe_call c_Ltake.G (hr.mono (by decide)) (by rfl) c_Ltake.g c_Ltake.kp c_Ltake.b .nil pass0 (pa_cons (pv 0) (pa_cons (pv 5) pa_nil))) (fun _ _ => rfl)))))))))))), ?_⟩
  refine fn_TW (δ := Unit) (ψ := fun _ _ _ => []) h ?_ (fun s B G0 q hGB => 
      (sv_seq (sv_asg (i := 2) (ve_op2 (ve_frL (ve_lstL rInt (fun a => [a.1, a.2.1, a.2.2.1, a.2.2.2.1]) (va_cons (ve_c rInt 2 fun _ => rfl) (va_cons (ve_c rInt 3 fun _ => rfl) (va_cons (ve_c rInt 4 fun _ => rfl) (va_cons (ve_c rInt 8 fun _ => rfl) va_nil)))))) (ve_callFT rfl (va_st s (va_cons (ve_c rInt 4 fun _ => rfl) va_nil))) v2_ixL) PxLe.nil) fun l_most_218 =>
      (sv_seq (sv_asg (i := 3) (ve_op2 (ve_c rInt 1 fun _ => rfl) (ve_callFT rfl (va_st s (va_cons (ve_v rInt (l_most_218)) va_nil))) v2_add) PxLe.nil) fun l_height_220 =>
      (sv_seq (sv_asg (i := 4) (ve_op2 (ve_c rInt 1 fun _ => rfl) (ve_callFT rfl (va_st s (va_cons (ve_v rInt (l_most_218)) va_nil))) v2_add) PxLe.nil) fun l_width_222 =>
      (sv_seq (sv_asg (i := 5) (ve_op2 (ve_c rInt 1 fun _ => rfl) (ve_callFT rfl (va_st s (va_cons (ve_c rInt 6 fun _ => rfl) va_nil))) v2_add) PxLe.nil) fun l_count_224 =>
      (sv_ret (ve_frL (ve_lc (vs := [6]) (js := [6]) (vi_range1 (ve_v rInt (l_height_220))) (hv1 rfl) (vg_name (i := 6)) (fun _ h => h) (fun b_225 => vt_yes) (fun b_225 => (ve_new (ve_lc (vs := [7]) (js := [7]) (vi_range1 (ve_v rInt (l_width_222))) (hv1 rfl) (vg_name (i := 7)) (fun _ h => h) (fun b_226 => vt_yes) (fun b_226 => (ve_op2 (ve_v (rLst rStr) (q.1)) (ve_callFT rfl (va_st s (va_cons (ve_v rInt (l_count_224)) va_nil))) v2_ixL))))))) PxLe.nil))))))
  intro q; delta F_Lany_grid Mi.neQ Mi.datS Mi.inS Mi.niS Mi.sortSet Mi.insert Mi.dget Mi.comp2 Mi.exch Mi.two Mi.neD Mi.eqD Mi.inD Mi.inDT Mi.idx Mi.sgn Mi.rng Mi.comp Mi.join Mi.popAt Mi.popE Mi.sortI Mi.sortS Mi.sortD Mi.listD Mi.setL Mi.max Mi.min Mi.draw; rfl

abbrev s_Lgrid : Stmt := top 54
abbrev N_Lgrid : List Str := ["_law_state", "_law_words_here", "_law_plan", "_law_grid_here", "_law_line"]
theorem sc_Lgrid : FnScope ["_law_state", "_law_words_here", "_law_plan", "_law_grid_here", "_law_line"] ["_law_state", "_law_words_here"] (defScope s_Lgrid) := ⟨rfl, rfl, rfl, by decide +kernel, rfl, by decide +kernel, by decide +kernel⟩
@[irreducible] def F_Lgrid (q : (List Str) × Unit) : M (List (List Str)) := M.ret ((M.bind (M.nox (F_Ltake (((7 : Int)), ()))) fun l_plan_233 => (M.bind (M.nox (F_Lany_grid ((q.1), ()))) fun l_grid_here_234 => (M.seq (M.ite ((decide ((l_plan_233) ∈ ([((1 : Int)), ((2 : Int))])))) (M.bind (M.nox (F_Ltree_grid ((q.1), ()))) fun l_grid_here_236 => (M.nx ((l_grid_here_236)))) (M.nx ((l_grid_here_234)))) fun s_235 => (M.seq (M.ite ((decide ((l_plan_233) = ((3 : Int))))) (M.bind (M.bind (M.nox (F_Ltree_grid ((q.1), ()))) fun x_238 => (M.nox (F_Lrenamed ((x_238), ((q.1), ()))))) fun l_grid_here_239 => (M.nx ((l_grid_here_239)))) (M.nx ((s_235)))) fun s_237 => (M.seq (M.ite ((decide ((l_plan_233) ∈ ([((4 : Int)), ((5 : Int))])))) (M.bind (M.nox (F_Lsmooth_grid ((q.1), ()))) fun l_grid_here_241 => (M.nx ((l_grid_here_241)))) (M.nx ((s_237)))) fun s_240 => (M.ite ((decide ((l_plan_233) ∈ ([((2 : Int)), ((5 : Int)), ((6 : Int))])))) (M.bind (M.nox (F_Ltake ((((s_240).length : Int)), ()))) fun x_244 => (M.mutR (s_240) (x_244) (M.bind (M.nox (F_Ltake (((6 : Int)), ()))) fun x_243 => (Mi.idx (q.1) (x_243))) fun row_242 => (M.nox (F_Ltake ((((row_242).length : Int)), ()))))) (M.rt (s_240)))))))) : M (Fl (List (List Str)) Unit))
theorem ok_Lgrid {f : Addr} {fd : FuncData} (F : Fun K "_law_grid" "_law_grid" s_Lgrid f fd) (T : TxtB mg) (c_Ltake : Cal P w K mg base "_law_take" CX0 1 ["_law_state", "_law_limit"] (spT mg K ([] : List (Addr × Str)) thW (fun s (q : Int × Unit) => [rSt s, rInt q.1]) F_Ltake (Fz rInt))) (c_Lany_grid : Cal P w K mg base "_law_any_grid" CX0 2 ["_law_state", "_law_words_here"] (spTN mg K ([] : List (Addr × Str)) thW (fun s (q : (List Str) × Unit) => [rSt s, (rLst rStr) q.1]) F_Lany_grid (fun B => (rLst (rNw B (rLst rStr)))))) (c_Ltree_grid : Cal P w K mg base "_law_tree_grid" CX0 2 ["_law_state", "_law_words_here"] (spTN mg K ([] : List (Addr × Str)) thW (fun s (q : (List Str) × Unit) => [rSt s, (rLst rStr) q.1]) F_Ltree_grid (fun B => (rLst (rNw B (rLst rStr)))))) (c_Lrenamed : Cal P w K mg base "_law_renamed" CX0 2 ["_law_state", "_law_grid_here", "_law_words_here"] (spTN mg K ([] : List (Addr × Str)) thW (fun s (q : (List (List Str)) × (List Str) × Unit) => [rSt s, (rLst (rLst rStr)) q.1, (rLst rStr) q.2.1]) F_Lrenamed (fun B => (rLst (rNw B (rLst rStr)))))) (c_Lsmooth_grid : Cal P w K mg base "_law_smooth_grid" CX0 2 ["_law_state", "_law_words_here"] (spTN mg K ([] : List (Addr × Str)) thW (fun s (q : (List Str) × Unit) => [rSt s, (rLst rStr) q.1]) F_Lsmooth_grid (fun B => (rLst (rNw B (rLst rStr)))))) : FnOk P w K mg base CX0 3 f fd ["_law_state", "_law_words_here"] (spTN mg K ([] : List (Addr × Str)) thW (fun s (q : (List Str) × Unit) => [rSt s, (rLst rStr) q.1]) F_Lgrid (fun B => (rLst (rNw B (rLst rStr))))) := by
  refine F.ok sc_Lgrid spTN_len (fun cdv A outer s H vs Q E hr h => ?_)
  refine ⟨_, (pss_cons (ps_set (i := 2) sc_Lgrid.nd rfl (.inl rfl) (pe_call c_Ltake.G (hr.mono (by decide)) (by rfl) c_Ltake.g c_Ltake.kp c_Ltake.b .nil pass0 (pa_cons (pv 0) (pa_cons pe_int pa_nil))))
      (pss_cons (ps_set (i := 3) sc_Lgrid.nd rfl (.inl rfl) (pe_call c_Lany_grid.G (hr.mono (by decide)) (by rfl) c_Lany_grid.g c_Lany_grid.kp c_Lany_grid.b .nil pass0 (pa_cons (pv 0) (pa_cons (pv 1) pa_nil))))
      (pss_cons (ps_if (pt_cmpR op_in_seq (pv 2) (pe_lst (pa_cons pe_int (pa_cons pe_int pa_nil))) (by rfl)) (pss_one (ps_set (i := 3) sc_Lgrid.nd rfl (.inl rfl) (pe_call c_Ltree_grid.G (hr.mono (by decide)) (by rfl) c_Ltree_grid.g c_Ltree_grid.kp c_Ltree_grid.b .nil pass0 (pa_cons (pv 0) (pa_cons (pv 1) pa_nil))))) pss_nil)
      (pss_cons (ps_if (pt_cmpR op_eq (pv 2) pe_int (nomark _)) (pss_one (ps_set (i := 3) sc_Lgrid.nd rfl (.inl rfl) (pe_call c_Lrenamed.G (hr.mono (by decide)) (by rfl) c_Lrenamed.g c_Lrenamed.kp c_Lrenamed.b .nil pass0 (pa_cons (pv 0) (pa_cons (pe_call c_Ltree_grid.G (hr.mono (by decide)) (by rfl) c_Ltree_grid.g c_Ltree_grid.kp c_Ltree_grid.b .nil pass0 (pa_cons (pv 0) (pa_cons (pv 1) pa_nil))) (pa_cons (pv 1) pa_nil)))))) pss_nil)
      (pss_cons (ps_if (pt_cmpR op_in_seq (pv 2) (pe_lst (pa_cons pe_int (pa_cons pe_int pa_nil))) (by rfl)) (pss_one (ps_set (i := 3) sc_Lgrid.nd rfl (.inl rfl) (pe_call c_Lsmooth_grid.G (hr.mono (by decide)) (by rfl) c_Lsmooth_grid.g c_Lsmooth_grid.kp c_Lsmooth_grid.b .nil pass0 (pa_cons (pv 0) (pa_cons (pv 1) pa_nil))))) pss_nil)
      (pss_cons (ps_if (pt_cmpR op_in_seq (pv 2) (pe_lst (pa_cons pe_int (pa_cons pe_int (pa_cons pe_int pa_nil)))) (by rfl)) (pss_cons (ps_set (i := 4) sc_Lgrid.nd rfl (.inl rfl) (pe_ix ix_list (pv 3) (pe_call c_Ltake.G (hr.mono (by decide)) (by rfl) c_Ltake.g c_Ltake.kp c_Ltake.b .nil pass0 (pa_cons (pv 0) (pa_cons (pe_callB call_len_seq (by rfl) T.z_len PySem.boot_len (pa_cons (pv 3) pa_nil)) pa_nil))) (fun _ _ => rfl)))
      (pss_one (ps_asg (pe_ix ix_list (pv 1) (pe_call c_Ltake.G (hr.mono (by decide)) (by rfl) c_Ltake.g c_Ltake.kp c_Ltake.b .nil pass0 (pa_cons (pv 0) (pa_cons pe_int pa_nil))) (fun _ _ => rfl)) (pg_sub (pv 4) (pe_call c_Ltake.G (hr.mono (by decide)) (by rfl) c_Ltake.g c_Ltake.kp c_Ltake.b .nil pass0 (pa_cons (pv 0) (pa_cons (pe_callB call_len_seq (by rfl) T.z_len PySem.boot_len (pa_cons (pv 4) pa_nil)) pa_nil))) set_list)))) pss_nil)
      (pss_one (ps_ret (pv 3))))))))), ?_⟩
  refine fn_TW (δ := Unit) (ψ := fun _ _ _ => []) h ?_ (fun s B G0 q hGB => 
      (sv_seq (sv_asg (i := 2) (ve_callFT rfl (va_st s (va_cons (ve_c rInt 7 fun _ => rfl) va_nil))) PxLe.nil) fun l_plan_233 =>
      (sv_seq (sv_asg (i := 3) (ve_callTN rfl (va_st s (va_cons (ve_v (rLst rStr) (q.1)) va_nil)) (fun e => gr_back e)) PxLe.nil) fun l_grid_here_234 =>
      (sv_seq (sv_if (vt_test (ve_op2 (ve_v rInt (l_plan_233)) (ve_frL (ve_lstL rInt (fun a => [a.1, a.2.1]) (va_cons (ve_c rInt 1 fun _ => rfl) (va_cons (ve_c rInt 2 fun _ => rfl) va_nil)))) v2_inLI)) PxLe.nil (sv_conv (χ := (fun s_235 : (List (List Str)) => [.fr (rSt s), .fr ((rLst rStr) (q.1)), .fr (rInt (l_plan_233)), .fr ((rLst (rNw B (rLst rStr))) (s_235)), .un])) (fun l_grid_here_236 => (l_grid_here_236)) (sv_asg (i := 3) (ve_callTN rfl (va_st s (va_cons (ve_v (rLst rStr) (q.1)) va_nil)) (fun e => gr_back e)) PxLe.nil) (fun l_grid_here_236 => (Le.same (Le.same (Le.same (Le.same (Le.un Le.nil))))))) (sv_conv (χ := (fun s_235 : (List (List Str)) => [.fr (rSt s), .fr ((rLst rStr) (q.1)), .fr (rInt (l_plan_233)), .fr ((rLst (rNw B (rLst rStr))) (s_235)), .un])) (fun _ => (l_grid_here_234)) sv_nil (fun _ => (Le.same (Le.same (Le.same (Le.same (Le.un Le.nil)))))))) fun s_235 =>
      (sv_seq (sv_if (vt_test (ve_op2 (ve_v rInt (l_plan_233)) (ve_c rInt 3 fun _ => rfl) v2_eqI)) PxLe.nil (sv_conv (χ := (fun s_237 : (List (List Str)) => [.fr (rSt s), .fr ((rLst rStr) (q.1)), .fr (rInt (l_plan_233)), .fr ((rLst (rNw B (rLst rStr))) (s_237)), .un])) (fun l_grid_here_239 => (l_grid_here_239)) (sv_asg (i := 3) (ve_callTN rfl (va_st s (va_cons (ve_callGR rfl (va_st s (va_cons (ve_v (rLst rStr) (q.1)) va_nil))) (va_cons (ve_v (rLst rStr) (q.1)) va_nil))) (fun e => gr_back e)) PxLe.nil) (fun l_grid_here_239 => (Le.same (Le.same (Le.same (Le.same (Le.un Le.nil))))))) (sv_conv (χ := (fun s_237 : (List (List Str)) => [.fr (rSt s), .fr ((rLst rStr) (q.1)), .fr (rInt (l_plan_233)), .fr ((rLst (rNw B (rLst rStr))) (s_237)), .un])) (fun _ => (s_235)) sv_nil (fun _ => (Le.same (Le.same (Le.same (Le.same (Le.un Le.nil)))))))) fun s_237 =>
      (sv_seq (sv_if (vt_test (ve_op2 (ve_v rInt (l_plan_233)) (ve_frL (ve_lstL rInt (fun a => [a.1, a.2.1]) (va_cons (ve_c rInt 4 fun _ => rfl) (va_cons (ve_c rInt 5 fun _ => rfl) va_nil)))) v2_inLI)) PxLe.nil (sv_conv (χ := (fun s_240 : (List (List Str)) => [.fr (rSt s), .fr ((rLst rStr) (q.1)), .fr (rInt (l_plan_233)), .fr ((rLst (rNw B (rLst rStr))) (s_240)), .un])) (fun l_grid_here_241 => (l_grid_here_241)) (sv_asg (i := 3) (ve_callTN rfl (va_st s (va_cons (ve_v (rLst rStr) (q.1)) va_nil)) (fun e => gr_back e)) PxLe.nil) (fun l_grid_here_241 => (Le.same (Le.same (Le.same (Le.same (Le.un Le.nil))))))) (sv_conv (χ := (fun s_240 : (List (List Str)) => [.fr (rSt s), .fr ((rLst rStr) (q.1)), .fr (rInt (l_plan_233)), .fr ((rLst (rNw B (rLst rStr))) (s_240)), .un])) (fun _ => (s_237)) sv_nil (fun _ => (Le.same (Le.same (Le.same (Le.same (Le.un Le.nil)))))))) fun s_240 =>
      (sv_mutret (gi := 3) (li := 4) rfl rfl PxLe.nil hGB (vt_test (ve_op2 (ve_v rInt (l_plan_233)) (ve_frL (ve_lstL rInt (fun a => [a.1, a.2.1, a.2.2.1]) (va_cons (ve_c rInt 2 fun _ => rfl) (va_cons (ve_c rInt 5 fun _ => rfl) (va_cons (ve_c rInt 6 fun _ => rfl) va_nil))))) v2_inLI)) (ve_callFT rfl (va_st s (va_cons (ve_cb (va_cons (ve_v (rLst (rNw B (rLst rStr))) (s_240)) va_nil) vn_lenL) va_nil))) (fun row_242 => (ve_op2 (ve_v (rLst rStr) (q.1)) (ve_callFT rfl (va_st s (va_cons (ve_c rInt 6 fun _ => rfl) va_nil))) v2_ixL)) (fun row_242 => (ve_callFT rfl (va_st s (va_cons (ve_cb (va_cons (ve_v (rLst rStr) (row_242)) va_nil) vn_lenL) va_nil)))) rfl)))))))
  intro q; delta F_Lgrid Mi.neQ Mi.datS Mi.inS Mi.niS Mi.sortSet Mi.insert Mi.dget Mi.comp2 Mi.exch Mi.two Mi.neD Mi.eqD Mi.inD Mi.inDT Mi.idx Mi.sgn Mi.rng Mi.comp Mi.join Mi.popAt Mi.popE Mi.sortI Mi.sortS Mi.sortD Mi.listD Mi.setL Mi.max Mi.min Mi.draw; rfl

abbrev s_Lnames : Stmt := top 55
abbrev N_Lnames : List Str := ["_law_grid_here", "_law_found", "_law_line", "_law_label"]
theorem sc_Lnames : FnScope ["_law_grid_here", "_law_found", "_law_line", "_law_label"] ["_law_grid_here"] (defScope s_Lnames) := ⟨rfl, rfl, rfl, by decide +kernel, rfl, by decide +kernel, by decide +kernel⟩
@[irreducible] def F_Lnames (q : (List (List Str)) × Unit) : M (List Str) := M.ret ((let l_found_245 : (List Str) := ([] : List Str); (M.seq (M.forL (fun b_246 s_247 => (M.seq (M.forL (fun b_248 s_249 => (M.ite ((!decide ((b_248) ∈ (s_249)))) (M.bind (M.when ((s_249).length < sizeLine) (b_248)) fun l_found_250 => (M.nx (((s_249 ++ [l_found_250]))))) (M.nx ((s_249))))) (b_246) (s_247)) fun s_249 => (M.nx ((s_249))))) (q.1) (l_found_245)) fun s_247 => (M.bind (M.bind (Mi.sortS (s_247)) fun x_252 => (M.pure (x_252))) fun x_253 => (M.rt (x_253))))) : M (Fl (List Str) Unit))
theorem ok_Lnames {f : Addr} {fd : FuncData} (F : Fun K "_law_names" "_law_names" s_Lnames f fd) (T : TxtB mg) : FnOk P w K mg base CX0 1 f fd ["_law_grid_here"] (spG mg K ([] : List (Addr × Str)) (fun q : (List (List Str)) × Unit => [(rLst (rLst rStr)) q.1]) F_Lnames (Fz (rTup rStr))) := by
  refine F.ok sc_Lnames spG_len (fun cdv A outer s H vs Q E hr h => ?_)
  refine ⟨_, (pss_cons (ps_set (i := 1) sc_Lnames.nd rfl (.inl rfl) (pe_lst pa_nil))
      (pss_cons (ps_for PassesOwn.never rfl (pi_list (pv 0)) (pg_name (i := 2) sc_Lnames.nd rfl (.inl rfl)) (pss_one (ps_for PassesOwn.never rfl (pi_list (pv 2)) (pg_name (i := 3) sc_Lnames.nd rfl (.inl rfl)) (pss_one (ps_if (pt_cmpR op_notIn_seq (pv 3) (pv 1) (by rfl)) (pss_one (ps_expr (pe_bm PySem.F.plainAttrs_list PySem.F.slot_list_append PySem.F.type_list_append mt_append (pv 1) (pa_cons (pv 3) pa_nil)))) pss_nil)))))
      (pss_one (ps_ret (pe_callTy call_tuple_of (by rfl) T.z_tuple (by decide +kernel) (pa_cons (pe_callB cr_sortedS (by rfl) T.z_sorted (by decide +kernel) (pa_cons (pv 1) pa_nil)) pa_nil)))))), ?_⟩
  refine fn_G (δ := Unit) (ψ := fun _ _ => []) h ?_ (fun Θ B G0 q => 
      (sv_seq (sv_asg (i := 1) (ve_lstL rStr (fun _ => ([] : List Str)) va_nil) PxLe.nil) fun l_found_245 =>
      (sv_seq (sv_for (ψ := (fun s_247 : (List Str) => [.fr ((rLst (rLst rStr)) (q.1)), .ow (cLst rStr (s_247)), .un, .un])) (s0 := (l_found_245)) (vi_list (ve_v (rLst (rLst rStr)) (q.1))) PxLe.nil (Le.same (Le.same (Le.un (Le.un Le.nil)))) (fun s_247 => (vg_name (i := 2))) (fun b_246 s_247 => (sv_conv (χ := (fun s_247 : (List Str) => [.fr ((rLst (rLst rStr)) (q.1)), .ow (cLst rStr (s_247)), .un, .un])) (fun s_249 => (s_249)) (sv_for (ψ := (fun s_249 : (List Str) => [.fr ((rLst (rLst rStr)) (q.1)), .ow (cLst rStr (s_249)), .fr ((rLst rStr) (b_246)), .un])) (s0 := (s_247)) (vi_list (ve_v (rLst rStr) (b_246))) PxLe.nil (Le.same (Le.same (Le.same (Le.un Le.nil)))) (fun s_249 => (vg_name (i := 3))) (fun b_248 s_249 => (sv_if (vt_lend (i := 1) rfl cLst_show (vt_test (ve_op2 (ve_v rStr (b_248)) (ve_v (rLst rStr) (s_249)) v2_niL))) PxLe.nil (sv_conv (χ := (fun s_249 : (List Str) => [.fr ((rLst (rLst rStr)) (q.1)), .ow (cLst rStr (s_249)), .fr ((rLst rStr) (b_246)), .un])) (fun l_found_250 => ((s_249 ++ [l_found_250]))) (sv_append (i := 1) (ve_v rStr (b_248)) PxLe.nil) (fun l_found_250 => (Le.same (Le.same (Le.same (Le.un Le.nil)))))) (sv_conv (χ := (fun s_249 : (List Str) => [.fr ((rLst (rLst rStr)) (q.1)), .ow (cLst rStr (s_249)), .fr ((rLst rStr) (b_246)), .un])) (fun () => (s_249)) sv_nil (fun () => (Le.same (Le.same (Le.same (Le.un Le.nil))))))))) (fun s_249 => (Le.same (Le.same (Le.un (Le.un Le.nil)))))))) fun s_247 =>
      (sv_showL 1 rfl (sv_ret (ve_cb (va_cons (ve_frL (ve_cb (va_cons (ve_v (rLst rStr) (s_247)) va_nil) vn_sortedS)) va_nil) vn_tupL) PxLe.nil)))))
  intro q; delta F_Lnames Mi.neQ Mi.datS Mi.inS Mi.niS Mi.sortSet Mi.insert Mi.dget Mi.comp2 Mi.exch Mi.two Mi.neD Mi.eqD Mi.inD Mi.inDT Mi.idx Mi.sgn Mi.rng Mi.comp Mi.join Mi.popAt Mi.popE Mi.sortI Mi.sortS Mi.sortD Mi.listD Mi.setL Mi.max Mi.min Mi.draw; rfl

abbrev s_Lforces : Stmt := top 56
abbrev N_Lforces : List Str := ["_law_lines_here", "_law_chosen", "_law_line", "_law_label"]
theorem sc_Lforces : FnScope ["_law_lines_here", "_law_chosen", "_law_line", "_law_label"] ["_law_lines_here", "_law_chosen"] (defScope s_Lforces) := ⟨rfl, rfl, rfl, by decide +kernel, rfl, by decide +kernel, by decide +kernel⟩
@[irreducible] def F_Lforces (q : (List (List Str)) × (List Str) × Unit) : M Bool := M.ret ((M.seq (M.forL (fun b_254 s_255 => (M.seq (M.bind (M.bind (Mi.comp (b_254) fun b_256 => (M.ite ((!decide ((b_256) ∈ (q.2.1)))) ((M.pure ((some (b_256))))) (M.pure none))) fun x_257 => (Mi.eqD (IsD.d (rLst rStr) (x_257)) (IsD.d (rLst rStr) (([] : List Str))))) fun x_259 => (M.ite (x_259) (M.rt (true)) (M.nx (())))) fun s_258 => (M.nx (())))) (q.1) ()) fun s_255 => (M.rt (false))) : M (Fl Bool Unit))
theorem ok_Lforces {f : Addr} {fd : FuncData} (F : Fun K "_law_forces" "_law_forces" s_Lforces f fd) (T : TxtB mg) : FnOk P w K mg base CX0 1 f fd ["_law_lines_here", "_law_chosen"] (spG mg K ([] : List (Addr × Str)) (fun q : (List (List Str)) × (List Str) × Unit => [(rLst (rLst rStr)) q.1, (rLst rStr) q.2.1]) F_Lforces (Fz rBl)) := by
  refine F.ok sc_Lforces spG_len (fun cdv A outer s H vs Q E hr h => ?_)
  refine ⟨_, (pss_cons (ps_for PassesOwn.never rfl (pi_list (pv 0)) (pg_name (i := 2) sc_Lforces.nd rfl (.inl rfl)) (pss_one (ps_if (pt_cmpR (op_eqD hr.units) (pe_lc (own := [("_law_label", 3)]) (g := gName 3) rfl sc_Lforces.nd (pi_list (pv 2)) (blkOk_by (own := [("_law_label", 3)]) (N := N_Lforces) (sc := defScope s_Lforces) (by decide +kernel)) (fun _ _ _ _ _ => (pg_name (i := 3) sc_Lforces.nd rfl (.inl rfl))) (fun _ _ _ _ _ => (pts_one (pt_cmpR (op_niF (K := K) rfl) (pv 3) (pv 1) (by rfl)))) (fun _ _ _ _ _ => (pv 3))) (pe_lst pa_nil) (nomark _)) (pss_one (ps_ret pe_bl)) pss_nil)))
      (pss_one (ps_ret pe_bl))), ?_⟩
  refine fn_G (δ := Unit) (ψ := fun _ _ => []) h ?_ (fun Θ B G0 q => 
      (sv_seq (sv_for (ψ := (fun s_255 : Unit => [.fr ((rLst (rLst rStr)) (q.1)), .fr ((rLst rStr) (q.2.1)), .un, .un])) (s0 := ()) (vi_list (ve_v (rLst (rLst rStr)) (q.1))) PxLe.nil (Le.same (Le.same (Le.un (Le.un Le.nil)))) (fun s_255 => (vg_name (i := 2))) (fun b_254 s_255 => (sv_conv (χ := (fun s_255 : Unit => [.fr ((rLst (rLst rStr)) (q.1)), .fr ((rLst rStr) (q.2.1)), .un, .un])) (fun s_258 => ()) (sv_if (vt_test (ve_op2 (ve_frL (ve_lc (vs := [3]) (js := [3]) (vi_list (ve_v (rLst rStr) (b_254))) (hv1 rfl) (vg_name (i := 3)) (fun _ h => h) (fun b_256 => (vt_test (ve_op2 (ve_v rStr (b_256)) (ve_v (rLst rStr) (q.2.1)) v2_niL))) (fun b_256 => (ve_v rStr (b_256))))) (ve_frL (ve_lstL rStr (fun _ => ([] : List Str)) va_nil)) v2_eqD)) PxLe.nil (sv_ret (ve_c rBl true fun _ => rfl) PxLe.nil) (sv_conv (χ := (fun s_258 : Unit => [.fr ((rLst (rLst rStr)) (q.1)), .fr ((rLst rStr) (q.2.1)), .fr ((rLst rStr) (b_254)), .un])) (fun _ => ()) sv_nil (fun _ => (Le.same (Le.same (Le.same (Le.un Le.nil))))))) (fun s_258 => (Le.same (Le.same (Le.un (Le.un Le.nil)))))))) fun s_255 =>
      (sv_ret (ve_c rBl false fun _ => rfl) PxLe.nil)))
  intro q; delta F_Lforces Mi.neQ Mi.datS Mi.inS Mi.niS Mi.sortSet Mi.insert Mi.dget Mi.comp2 Mi.exch Mi.two Mi.neD Mi.eqD Mi.inD Mi.inDT Mi.idx Mi.sgn Mi.rng Mi.comp Mi.join Mi.popAt Mi.popE Mi.sortI Mi.sortS Mi.sortD Mi.listD Mi.setL Mi.max Mi.min Mi.draw; rfl

abbrev s_Llines : Stmt := top 57
abbrev N_Llines : List Str := ["_law_grid_here", "_law_who"]
theorem sc_Llines : FnScope ["_law_grid_here", "_law_who"] ["_law_grid_here", "_law_who"] (defScope s_Llines) := ⟨rfl, rfl, rfl, by decide +kernel, rfl, by decide +kernel, by decide +kernel⟩
@[irreducible] def F_Llines (q : (List (List Str)) × Str × Unit) : M (List (List Str)) := M.ret ((M.seq (M.ite ((decide ((q.2.1) = (("rows" : Str))))) (M.rt (q.1)) (M.nx (()))) fun s_260 => (M.bind (M.nox (F_Lflipped ((q.1), ()))) fun x_261 => (M.rt (x_261)))) : M (Fl (List (List Str)) Unit))
theorem ok_Llines {f : Addr} {fd : FuncData} (F : Fun K "_law_lines" "_law_lines" s_Llines f fd) (T : TxtB mg) (c_Lflipped : Cal P w K mg base "_law_flipped" CX0 1 ["_law_grid_here"] (spGO mg K ([] : List (Addr × Str)) (fun q : (List (List Str)) × Unit => [(rLst (rLst rStr)) q.1]) F_Lflipped (fun B => cLst (rNw B (rLst rStr))))) : FnOk P w K mg base CX0 2 f fd ["_law_grid_here", "_law_who"] (spG mg K ([] : List (Addr × Str)) (fun q : (List (List Str)) × Str × Unit => [(rLst (rLst rStr)) q.1, rStr q.2.1]) F_Llines (Fz (rLst (rLst rStr)))) := by
  refine F.ok sc_Llines spG_len (fun cdv A outer s H vs Q E hr h => ?_)
  refine ⟨_, (pss_cons (ps_if (pt_cmpR op_eq (pv 1) pe_str (nomark _)) (pss_one (ps_ret (pv 0))) pss_nil)
      (pss_one (ps_ret (pe_call c_Lflipped.G (hr.mono (by decide)) (by rfl) c_Lflipped.g c_Lflipped.kp c_Lflipped.b .nil pass0 (pa_cons (pv 0) pa_nil))))), ?_⟩
  refine fn_G (δ := Unit) (ψ := fun _ _ => []) h ?_ (fun Θ B G0 q => 
      (sv_seq (sv_if (vt_test (ve_op2 (ve_v rStr (q.2.1)) (ve_c rStr ("rows" : Str) fun _ => rfl) v2_eqS)) PxLe.nil (sv_ret (ve_v (rLst (rLst rStr)) (q.1)) PxLe.nil) (sv_conv (χ := (fun s_260 : Unit => [.fr ((rLst (rLst rStr)) (q.1)), .fr (rStr (q.2.1))])) (fun _ => ()) sv_nil (fun _ => (Le.same (Le.same Le.nil))))) fun s_260 =>
      (sv_ret (ve_grOld (B := B) (ve_frL (ve_callO (Rn := fun B => cLst (rNw B (rLst rStr))) (va_cons (ve_v (rLst (rLst rStr)) (q.1)) va_nil) (fun e => gr_backO e)))) PxLe.nil)))
  intro q; delta F_Llines Mi.neQ Mi.datS Mi.inS Mi.niS Mi.sortSet Mi.insert Mi.dget Mi.comp2 Mi.exch Mi.two Mi.neD Mi.eqD Mi.inD Mi.inDT Mi.idx Mi.sgn Mi.rng Mi.comp Mi.join Mi.popAt Mi.popE Mi.sortI Mi.sortS Mi.sortD Mi.listD Mi.setL Mi.max Mi.min Mi.draw; rfl

abbrev s_Lis_set : Stmt := top 58
abbrev N_Lis_set : List Str := ["_law_names_here", "_law_value", "_law_label"]
theorem sc_Lis_set : FnScope ["_law_names_here", "_law_value", "_law_label"] ["_law_names_here", "_law_value"] (defScope s_Lis_set) := ⟨rfl, rfl, rfl, by decide +kernel, rfl, by decide +kernel, by decide +kernel⟩
@[irreducible] def F_Lis_set (q : (List Str) × PyData × Unit) : M Bool := M.ret ((M.seq (M.ite ((!((isD_tuple (q.2.1))))) (M.rt (false)) (M.nx (()))) fun s_262 => (M.bind (M.bind (Mi.listD (q.2.1)) fun x_266 => (M.bind (Mi.comp (q.1) fun b_263 => (M.bind (M.bind (Mi.listD (q.2.1)) fun x_264 => (Mi.inD (IsD.d rStr (b_263)) ((x_264).map (IsD.d rDat)))) fun x_265 => (M.ite (x_265) ((M.pure ((some (b_263))))) (M.pure none)))) fun x_267 => (Mi.eqD (IsD.d (rLst rDat) (x_266)) (IsD.d (rLst rStr) (x_267))))) fun x_268 => (M.rt (x_268)))) : M (Fl Bool Unit))
theorem ok_Lis_set {f : Addr} {fd : FuncData} (F : Fun K "_law_is_set" "_law_is_set" s_Lis_set f fd) (T : TxtB mg) : FnOk P w K mg base CX0 1 f fd ["_law_names_here", "_law_value"] (spG mg K ([] : List (Addr × Str)) (fun q : (List Str) × PyData × Unit => [(rLst rStr) q.1, rDat q.2.1]) F_Lis_set (Fz rBl)) := by
  refine F.ok sc_Lis_set spG_len (fun cdv A outer s H vs Q E hr h => ?_)
  refine ⟨_, (pss_cons (ps_if (pt_not (pt_val (pe_callB call_isi (by rfl) T.z_isinstance (by decide +kernel) (pa_cons (pv 1) (pa_cons (pe_bltn (v := .ty "tuple") (by rfl) T.z_tuple (by decide +kernel) rfl) pa_nil))))) (pss_one (ps_ret pe_bl)) pss_nil)
      (pss_one (ps_ret (pe_cmpR (op_eqD hr.units) (pe_callTy call_list_of (by rfl) T.z_list (by decide +kernel) (pa_cons (pv 1) pa_nil)) (pe_lc (own := [("_law_label", 2)]) (g := gName 2) rfl sc_Lis_set.nd (pi_list (pv 0)) (blkOk_by (own := [("_law_label", 2)]) (N := N_Lis_set) (sc := defScope s_Lis_set) (by decide +kernel)) (fun _ _ _ _ _ => (pg_name (i := 2) sc_Lis_set.nd rfl (.inl rfl))) (fun _ _ _ _ _ => (pts_one (pt_cmpR (op_inDK (K := K) rfl (hu65 hr)) (pv 2) (pe_callTy (show CallR _ _ (rListOf K) from call_list_of) (by rfl) T.z_list (by decide +kernel) (pa_cons (pv 1) pa_nil)) (by rfl)))) (fun _ _ _ _ _ => (pv 2))) (nomark _))))), ?_⟩
  refine fn_G (δ := Unit) (ψ := fun _ _ => []) h ?_ (fun Θ B G0 q => 
      (sv_seq (sv_if (vt_not (vt_b (ve_isiDtuple (ve_v rDat (q.2.1))))) PxLe.nil (sv_ret (ve_c rBl false fun _ => rfl) PxLe.nil) (sv_conv (χ := (fun s_262 : Unit => [.fr ((rLst rStr) (q.1)), .fr (rDat (q.2.1)), .un])) (fun _ => ()) sv_nil (fun _ => (Le.same (Le.same (Le.un Le.nil)))))) fun s_262 =>
      (sv_ret (ve_op2 (ve_frL (ve_cb (va_cons (ve_v rDat (q.2.1)) va_nil) vn_listD)) (ve_frL (ve_lc (vs := [2]) (js := [2]) (vi_list (ve_v (rLst rStr) (q.1))) (hv1 rfl) (vg_name (i := 2)) (fun _ h => h) (fun b_263 => (vt_test (ve_op2 (ve_v rStr (b_263)) (ve_frL (ve_cb (va_cons (ve_v rDat (q.2.1)) va_nil) vn_listD)) v2_inD))) (fun b_263 => (ve_v rStr (b_263))))) v2_eqD) PxLe.nil)))
  intro q; delta F_Lis_set Mi.neQ Mi.datS Mi.inS Mi.niS Mi.sortSet Mi.insert Mi.dget Mi.comp2 Mi.exch Mi.two Mi.neD Mi.eqD Mi.inD Mi.inDT Mi.idx Mi.sgn Mi.rng Mi.comp Mi.join Mi.popAt Mi.popE Mi.sortI Mi.sortS Mi.sortD Mi.listD Mi.setL Mi.max Mi.min Mi.draw; rfl

abbrev s_Ldue : Stmt := top 59
abbrev N_Ldue : List Str := ["_law_grid_here", "_law_label", "_law_inner_here", "_law_who", "_law_chosen", "_law_names_here", "_law_outcome", "_law_kept", "_law_outer"]
theorem sc_Ldue : FnScope ["_law_grid_here", "_law_label", "_law_inner_here", "_law_who", "_law_chosen", "_law_names_here", "_law_outcome", "_law_kept", "_law_outer"] ["_law_grid_here", "_law_label", "_law_inner_here", "_law_who", "_law_chosen"] (defScope s_Ldue) := ⟨rfl, rfl, rfl, by decide +kernel, rfl, by decide +kernel, by decide +kernel⟩
@[irreducible] def F_Ldue (q : (List (List Str)) × Str × (List (List Str)) × Str × PyData × Unit) : M (Str × PyData) := M.ret ((M.bind (M.nox (F_Lnames ((q.1), ()))) fun l_names_here_269 => (M.seq (M.ite ((!decide ((q.2.1) ∈ (l_names_here_269)))) (M.rt (((("unknown" : Str)), ((IsD.d rStr q.2.1))))) (M.nx (()))) fun s_270 => (M.seq (M.bind (M.nox (F_Lnames ((q.2.2.1), ()))) fun x_274 => (M.forL (fun b_271 s_272 => (M.seq (M.ite ((((decide ((b_271) ∈ (l_names_here_269)))) && ((!decide ((b_271) = (q.2.1)))))) (M.rt (((("twice" : Str)), ((IsD.d rStr b_271))))) (M.nx (()))) fun s_273 => (M.nx (())))) (x_274) ())) fun s_272 => (M.seq (M.ite ((!decide ((q.2.2.2.1) ∈ ([(("rows" : Str)), (("columns" : Str))])))) (M.rt (((("side" : Str)), ((IsD.d rStr q.2.2.2.1))))) (M.nx (()))) fun s_275 => (M.bind (Mi.comp (l_names_here_269) fun b_276 => (M.ite ((!decide ((b_276) = (q.2.1)))) ((M.pure ((some (b_276))))) (M.pure none))) fun l_kept_277 => (M.seq (M.bind (M.bind (M.bind (M.bind (M.bind (M.bind (M.nox (F_Lnames ((q.2.2.1), ()))) fun x_278 => (M.pure (x_278))) fun x_279 => (M.when ((l_kept_277).length + (x_279).length ≤ sizeLine) ((l_kept_277) ++ (x_279)))) fun x_280 => (Mi.sortS (x_280))) fun x_281 => (M.nox (F_Lis_set ((x_281), ((q.2.2.2.2.1), ()))))) fun x_282 => (M.pure ((!(x_282))))) fun x_284 => (M.ite (x_284) (M.rt (((("set" : Str)), (q.2.2.2.2.1)))) (M.nx (())))) fun s_283 => (M.bind (M.bind (Mi.datS (q.2.2.2.2.1)) fun x_286 => (Mi.comp (x_286) fun b_285 => (M.ite ((decide ((b_285) ∈ (l_kept_277)))) ((M.pure ((some (b_285))))) (M.pure none)))) fun l_outer_287 => (M.seq (M.bind (M.bind (M.nox (F_Llines ((q.2.2.1), ((q.2.2.2.1), ())))) fun x_292 => (M.bind (M.bind (Mi.datS (q.2.2.2.2.1)) fun x_291 => (Mi.comp (x_291) fun b_288 => (M.bind (M.bind (M.nox (F_Lnames ((q.2.2.1), ()))) fun x_289 => (M.pure ((decide ((b_288) ∈ (x_289)))))) fun x_290 => (M.ite (x_290) ((M.pure ((some (b_288))))) (M.pure none))))) fun x_293 => (M.nox (F_Lforces ((x_292), ((x_293), ())))))) fun x_296 => (M.ite (x_296) (M.bind (M.when ((l_outer_287).length < sizeLine) (q.2.1)) fun l_outer_295 => (M.nx (((l_outer_287 ++ [l_outer_295]))))) (M.nx ((l_outer_287))))) fun s_294 => (M.bind (M.bind (M.bind (M.bind (M.nox (F_Llines ((q.1), ((q.2.2.2.1), ())))) fun x_300 => (M.nox (F_Lforces ((x_300), ((s_294), ()))))) fun x_301 => (M.pure ((IsD.d rBl x_301)))) fun x_302 => (M.pure (((("told" : Str)), (x_302))))) fun x_303 => (M.rt (x_303))))))))))) : M (Fl (Str × PyData) Unit))
theorem ok_Ldue {f : Addr} {fd : FuncData} (F : Fun K "_law_due" "_law_due" s_Ldue f fd) (T : TxtB mg) (c_Lnames : Cal P w K mg base "_law_names" CX0 1 ["_law_grid_here"] (spG mg K ([] : List (Addr × Str)) (fun q : (List (List Str)) × Unit => [(rLst (rLst rStr)) q.1]) F_Lnames (Fz (rTup rStr)))) (c_Lis_set : Cal P w K mg base "_law_is_set" CX0 1 ["_law_names_here", "_law_value"] (spG mg K ([] : List (Addr × Str)) (fun q : (List Str) × PyData × Unit => [(rLst rStr) q.1, rDat q.2.1]) F_Lis_set (Fz rBl))) (c_Llines : Cal P w K mg base "_law_lines" CX0 2 ["_law_grid_here", "_law_who"] (spG mg K ([] : List (Addr × Str)) (fun q : (List (List Str)) × Str × Unit => [(rLst (rLst rStr)) q.1, rStr q.2.1]) F_Llines (Fz (rLst (rLst rStr))))) (c_Lforces : Cal P w K mg base "_law_forces" CX0 1 ["_law_lines_here", "_law_chosen"] (spG mg K ([] : List (Addr × Str)) (fun q : (List (List Str)) × (List Str) × Unit => [(rLst (rLst rStr)) q.1, (rLst rStr) q.2.1]) F_Lforces (Fz rBl))) : FnOk P w K mg base CX0 3 f fd ["_law_grid_here", "_law_label", "_law_inner_here", "_law_who", "_law_chosen"] (spG mg K ([] : List (Addr × Str)) (fun q : (List (List Str)) × Str × (List (List Str)) × Str × PyData × Unit => [(rLst (rLst rStr)) q.1, rStr q.2.1, (rLst (rLst rStr)) q.2.2.1, rStr q.2.2.2.1, rDat q.2.2.2.2.1]) F_Ldue (Fz (rPr rStr rDat))) := by
  refine F.ok sc_Ldue spG_len (fun cdv A outer s H vs Q E hr h => ?_)
  refine ⟨_, (pss_cons (ps_set (i := 5) sc_Ldue.nd rfl (.inl rfl) (pe_call c_Lnames.G (hr.mono (by decide)) (by rfl) c_Lnames.g c_Lnames.kp c_Lnames.b .nil pass0 (pa_cons (pv 0) pa_nil)))
      (pss_cons (ps_if (pt_cmpR op_notIn_seq (pv 1) (pv 5) (by rfl)) (pss_one (ps_ret (pe_tup (pa_cons pe_str (pa_cons (pv 1) pa_nil))))) pss_nil)
      (pss_cons (ps_for PassesOwn.never rfl (pi_tup (pe_call c_Lnames.G (hr.mono (by decide)) (by rfl) c_Lnames.g c_Lnames.kp c_Lnames.b .nil pass0 (pa_cons (pv 2) pa_nil))) (pg_name (i := 6) sc_Ldue.nd rfl (.inl rfl)) (pss_one (ps_if (PW.pt (pw_and (pt_cmpR op_in_seq (pv 6) (pv 5) (by rfl)) (pw_and1 (pt_cmpR op_ne (pv 6) (pv 1) (nomark _))))) (pss_one (ps_ret (pe_tup (pa_cons pe_str (pa_cons (pv 6) pa_nil))))) pss_nil)))
      (pss_cons (ps_if (pt_cmpR op_notIn_seq (pv 3) (pe_lst (pa_cons pe_str (pa_cons pe_str pa_nil))) (by rfl)) (pss_one (ps_ret (pe_tup (pa_cons pe_str (pa_cons (pv 3) pa_nil))))) pss_nil)
      (pss_cons (ps_set (i := 7) sc_Ldue.nd rfl (.inr rfl) (pe_lc (own := [("_law_outcome", 6)]) (g := gName 6) rfl sc_Ldue.nd (pi_tup (pv 5)) (blkOk_by (own := [("_law_outcome", 6)]) (N := N_Ldue) (sc := defScope s_Ldue) (by decide +kernel)) (fun _ _ _ _ _ => (pg_name (i := 6) sc_Ldue.nd rfl (.inl rfl))) (fun _ _ _ _ _ => (pts_one (pt_cmpR op_ne (pv 6) (pv 1) (nomark _)))) (fun _ _ _ _ _ => (pv 6))))
      (pss_cons (ps_if (pt_not (pt_val (pe_call c_Lis_set.G (hr.mono (by decide)) (by rfl) c_Lis_set.g c_Lis_set.kp c_Lis_set.b .nil pass0 (pa_cons (pe_callB cr_sortedS (by rfl) T.z_sorted (by decide +kernel) (pa_cons (pe_op op_cat (pv 7) (pe_callTy call_list_of (by rfl) T.z_list (by decide +kernel) (pa_cons (pe_call c_Lnames.G (hr.mono (by decide)) (by rfl) c_Lnames.g c_Lnames.kp c_Lnames.b .nil pass0 (pa_cons (pv 2) pa_nil)) pa_nil))) pa_nil)) (pa_cons (pv 4) pa_nil))))) (pss_one (ps_ret (pe_tup (pa_cons pe_str (pa_cons (pv 4) pa_nil))))) pss_nil)
      (pss_cons (ps_setLc (i := 8) (own := [("_law_outcome", 6)]) (g := gName 6) rfl sc_Ldue.nd rfl rfl (sw_true rfl rfl rfl (by decide +kernel)) (pi_tup (pv 4)) (blkOk_by (own := [("_law_outcome", 6)]) (N := N_Ldue) (sc := defScope s_Ldue) (by decide +kernel)) (fun _ _ _ _ _ => (pg_name (i := 6) sc_Ldue.nd rfl (.inl rfl))) (fun _ _ _ _ _ => (pts_one (pt_cmpR (op_inF (K := K) rfl) (pv 6) (pv 7) (by rfl)))) (fun _ _ _ _ _ => (pv 6)))
      (pss_cons (ps_if (pt_val (pe_call c_Lforces.G (hr.mono (by decide)) (by rfl) c_Lforces.g c_Lforces.kp c_Lforces.b .nil pass0 (pa_cons (pe_call c_Llines.G (hr.mono (by decide)) (by rfl) c_Llines.g c_Llines.kp c_Llines.b .nil pass0 (pa_cons (pv 2) (pa_cons (pv 3) pa_nil))) (pa_cons (pe_lc (own := [("_law_outcome", 6)]) (g := gName 6) rfl sc_Ldue.nd (pi_tup (pv 4)) (blkOk_by (own := [("_law_outcome", 6)]) (N := N_Ldue) (sc := defScope s_Ldue) (by decide +kernel)) (fun _ _ _ _ _ => (pg_name (i := 6) sc_Ldue.nd rfl (.inl rfl))) (fun _ _ _ _ _ => (pts_one (pt_cmpR (op_inF (K := K) rfl) (pv 6) (pe_call c_Lnames.G (hr.mono (by decide)) (by rfl) c_Lnames.g c_Lnames.kp c_Lnames.b .nil pass0 (pa_cons (pv 2) pa_nil)) (by rfl)))) (fun _ _ _ _ _ => (pv 6))) pa_nil)))) (pss_one (ps_expr (pe_bm PySem.F.plainAttrs_list PySem.F.slot_list_append PySem.F.type_list_append mt_append (pv 8) (pa_cons (pv 1) pa_nil)))) pss_nil)
      (pss_one (ps_ret (pe_tup (pa_cons pe_str (pa_cons (pe_call c_Lforces.G (hr.mono (by decide)) (by rfl) c_Lforces.g c_Lforces.kp c_Lforces.b .nil pass0 (pa_cons (pe_call c_Llines.G (hr.mono (by decide)) (by rfl) c_Llines.g c_Llines.kp c_Llines.b .nil pass0 (pa_cons (pv 0) (pa_cons (pv 3) pa_nil))) (pa_cons (pv 8) pa_nil))) pa_nil))))))))))))), ?_⟩
  refine fn_G (δ := Unit) (ψ := fun _ _ => []) h ?_ (fun Θ B G0 q => 
      (sv_seq (sv_asg (i := 5) (ve_callF (va_cons (ve_v (rLst (rLst rStr)) (q.1)) va_nil)) PxLe.nil) fun l_names_here_269 =>
      (sv_seq (sv_if (vt_test (ve_op2 (ve_v rStr (q.2.1)) (ve_v (rTup rStr) (l_names_here_269)) v2_niT)) PxLe.nil (sv_ret (ve_tup2 (va_cons (ve_c rStr ("unknown" : Str) fun _ => rfl) (va_cons (ve_dat (ve_v rStr (q.2.1))) va_nil))) PxLe.nil) (sv_conv (χ := (fun s_270 : Unit => [.fr ((rLst (rLst rStr)) (q.1)), .fr (rStr (q.2.1)), .fr ((rLst (rLst rStr)) (q.2.2.1)), .fr (rStr (q.2.2.2.1)), .fr (rDat (q.2.2.2.2.1)), .fr ((rTup rStr) (l_names_here_269)), .un, .un, .un])) (fun _ => ()) sv_nil (fun _ => (Le.same (Le.same (Le.same (Le.same (Le.same (Le.same (Le.un (Le.un (Le.un Le.nil)))))))))))) fun s_270 =>
      (sv_seq (sv_for (ψ := (fun s_272 : Unit => [.fr ((rLst (rLst rStr)) (q.1)), .fr (rStr (q.2.1)), .fr ((rLst (rLst rStr)) (q.2.2.1)), .fr (rStr (q.2.2.2.1)), .fr (rDat (q.2.2.2.2.1)), .fr ((rTup rStr) (l_names_here_269)), .un, .un, .un])) (s0 := ()) (vi_tup (ve_callF (va_cons (ve_v (rLst (rLst rStr)) (q.2.2.1)) va_nil))) PxLe.nil (Le.same (Le.same (Le.same (Le.same (Le.same (Le.same (Le.un (Le.un (Le.un Le.nil))))))))) (fun s_272 => (vg_name (i := 6))) (fun b_271 s_272 => (sv_conv (χ := (fun s_272 : Unit => [.fr ((rLst (rLst rStr)) (q.1)), .fr (rStr (q.2.1)), .fr ((rLst (rLst rStr)) (q.2.2.1)), .fr (rStr (q.2.2.2.1)), .fr (rDat (q.2.2.2.2.1)), .fr ((rTup rStr) (l_names_here_269)), .un, .un, .un])) (fun s_273 => ()) (sv_if (vt_andP (vt_test (ve_op2 (ve_v rStr (b_271)) (ve_v (rTup rStr) (l_names_here_269)) v2_inT)) (vt_test (ve_op2 (ve_v rStr (b_271)) (ve_v rStr (q.2.1)) v2_neS))) PxLe.nil (sv_ret (ve_tup2 (va_cons (ve_c rStr ("twice" : Str) fun _ => rfl) (va_cons (ve_dat (ve_v rStr (b_271))) va_nil))) PxLe.nil) (sv_conv (χ := (fun s_273 : Unit => [.fr ((rLst (rLst rStr)) (q.1)), .fr (rStr (q.2.1)), .fr ((rLst (rLst rStr)) (q.2.2.1)), .fr (rStr (q.2.2.2.1)), .fr (rDat (q.2.2.2.2.1)), .fr ((rTup rStr) (l_names_here_269)), .fr (rStr (b_271)), .un, .un])) (fun _ => ()) sv_nil (fun _ => (Le.same (Le.same (Le.same (Le.same (Le.same (Le.same (Le.same (Le.un (Le.un Le.nil)))))))))))) (fun s_273 => (Le.same (Le.same (Le.same (Le.same (Le.same (Le.same (Le.un (Le.un (Le.un Le.nil))))))))))))) fun s_272 =>
      (sv_seq (sv_if (vt_test (ve_op2 (ve_v rStr (q.2.2.2.1)) (ve_frL (ve_lstL rStr (fun a => [a.1, a.2.1]) (va_cons (ve_c rStr ("rows" : Str) fun _ => rfl) (va_cons (ve_c rStr ("columns" : Str) fun _ => rfl) va_nil)))) v2_niL)) PxLe.nil (sv_ret (ve_tup2 (va_cons (ve_c rStr ("side" : Str) fun _ => rfl) (va_cons (ve_dat (ve_v rStr (q.2.2.2.1))) va_nil))) PxLe.nil) (sv_conv (χ := (fun s_275 : Unit => [.fr ((rLst (rLst rStr)) (q.1)), .fr (rStr (q.2.1)), .fr ((rLst (rLst rStr)) (q.2.2.1)), .fr (rStr (q.2.2.2.1)), .fr (rDat (q.2.2.2.2.1)), .fr ((rTup rStr) (l_names_here_269)), .un, .un, .un])) (fun _ => ()) sv_nil (fun _ => (Le.same (Le.same (Le.same (Le.same (Le.same (Le.same (Le.un (Le.un (Le.un Le.nil)))))))))))) fun s_275 =>
      (sv_seq (sv_asg (i := 7) (ve_frL (ve_lc (vs := [6]) (js := [6]) (vi_tup (ve_v (rTup rStr) (l_names_here_269))) (hv1 rfl) (vg_name (i := 6)) (fun _ h => h) (fun b_276 => (vt_test (ve_op2 (ve_v rStr (b_276)) (ve_v rStr (q.2.1)) v2_neS))) (fun b_276 => (ve_v rStr (b_276))))) PxLe.nil) fun l_kept_277 =>
      (sv_seq (sv_if (vt_not (vt_b (ve_callF (va_cons (ve_frL (ve_cb (va_cons (ve_frL (ve_op2 (ve_v (rLst rStr) (l_kept_277)) (ve_frL (ve_cb (va_cons (ve_callF (va_cons (ve_v (rLst (rLst rStr)) (q.2.2.1)) va_nil)) va_nil) vn_listT)) v2_catL)) va_nil) vn_sortedS)) (va_cons (ve_v rDat (q.2.2.2.2.1)) va_nil))))) PxLe.nil (sv_ret (ve_tup2 (va_cons (ve_c rStr ("set" : Str) fun _ => rfl) (va_cons (ve_v rDat (q.2.2.2.2.1)) va_nil))) PxLe.nil) (sv_conv (χ := (fun s_283 : Unit => [.fr ((rLst (rLst rStr)) (q.1)), .fr (rStr (q.2.1)), .fr ((rLst (rLst rStr)) (q.2.2.1)), .fr (rStr (q.2.2.2.1)), .fr (rDat (q.2.2.2.2.1)), .fr ((rTup rStr) (l_names_here_269)), .un, .fr ((rLst rStr) (l_kept_277)), .un])) (fun _ => ()) sv_nil (fun _ => (Le.same (Le.same (Le.same (Le.same (Le.same (Le.same (Le.un (Le.same (Le.un Le.nil)))))))))))) fun s_283 =>
      (sv_seq (sv_asg (i := 8) (ve_lc (vs := [6]) (js := [6]) (vi_tup (ve_datS (ve_v rDat (q.2.2.2.2.1)))) (hv1 rfl) (vg_name (i := 6)) (fun _ h => h) (fun b_285 => (vt_test (ve_op2 (ve_v rStr (b_285)) (ve_v (rLst rStr) (l_kept_277)) v2_inL))) (fun b_285 => (ve_v rStr (b_285)))) PxLe.nil) fun l_outer_287 =>
      (sv_seq (sv_if (vt_b (ve_callF (va_cons (ve_callF (va_cons (ve_v (rLst (rLst rStr)) (q.2.2.1)) (va_cons (ve_v rStr (q.2.2.2.1)) va_nil))) (va_cons (ve_frL (ve_lc (vs := [6]) (js := [6]) (vi_tup (ve_datS (ve_v rDat (q.2.2.2.2.1)))) (hv1 rfl) (vg_name (i := 6)) (fun _ h => h) (fun b_288 => (vt_test (ve_op2 (ve_v rStr (b_288)) (ve_callF (va_cons (ve_v (rLst (rLst rStr)) (q.2.2.1)) va_nil)) v2_inT))) (fun b_288 => (ve_v rStr (b_288))))) va_nil)))) PxLe.nil (sv_conv (χ := (fun s_294 : (List Str) => [.fr ((rLst (rLst rStr)) (q.1)), .fr (rStr (q.2.1)), .fr ((rLst (rLst rStr)) (q.2.2.1)), .fr (rStr (q.2.2.2.1)), .fr (rDat (q.2.2.2.2.1)), .fr ((rTup rStr) (l_names_here_269)), .un, .fr ((rLst rStr) (l_kept_277)), .ow (cLst rStr (s_294))])) (fun l_outer_295 => ((l_outer_287 ++ [l_outer_295]))) (sv_append (i := 8) (ve_v rStr (q.2.1)) PxLe.nil) (fun l_outer_295 => (Le.same (Le.same (Le.same (Le.same (Le.same (Le.same (Le.un (Le.same (Le.same Le.nil))))))))))) (sv_conv (χ := (fun s_294 : (List Str) => [.fr ((rLst (rLst rStr)) (q.1)), .fr (rStr (q.2.1)), .fr ((rLst (rLst rStr)) (q.2.2.1)), .fr (rStr (q.2.2.2.1)), .fr (rDat (q.2.2.2.2.1)), .fr ((rTup rStr) (l_names_here_269)), .un, .fr ((rLst rStr) (l_kept_277)), .ow (cLst rStr (s_294))])) (fun _ => (l_outer_287)) sv_nil (fun _ => (Le.same (Le.same (Le.same (Le.same (Le.same (Le.same (Le.un (Le.same (Le.same Le.nil)))))))))))) fun s_294 =>
      (sv_showL 8 rfl (sv_ret (ve_tup2 (va_cons (ve_c rStr ("told" : Str) fun _ => rfl) (va_cons (ve_dat (ve_callF (va_cons (ve_callF (va_cons (ve_v (rLst (rLst rStr)) (q.1)) (va_cons (ve_v rStr (q.2.2.2.1)) va_nil))) (va_cons (ve_v (rLst rStr) (s_294)) va_nil)))) va_nil))) PxLe.nil)))))))))))
  intro q; delta F_Ldue Mi.neQ Mi.datS Mi.inS Mi.niS Mi.sortSet Mi.insert Mi.dget Mi.comp2 Mi.exch Mi.two Mi.neD Mi.eqD Mi.inD Mi.inDT Mi.idx Mi.sgn Mi.rng Mi.comp Mi.join Mi.popAt Mi.popE Mi.sortI Mi.sortS Mi.sortD Mi.listD Mi.setL Mi.max Mi.min Mi.draw; rfl

abbrev s_Ltold : Stmt := top 60
abbrev N_Ltold : List Str := ["_law_way", "_law_desks", "_law_outcome", "_law_at", "_law_thing", "e"]
theorem sc_Ltold : FnScope ["_law_way", "_law_desks", "_law_outcome", "_law_at", "_law_thing", "e"] ["_law_way", "_law_desks", "_law_outcome", "_law_at", "_law_thing"] (defScope s_Ltold) := ⟨rfl, rfl, rfl, by decide +kernel, rfl, by decide +kernel, by decide +kernel⟩
@[irreducible] def F_Ltold (q : Int × (List d_Table) × Str × Str × PyData × Unit) : M (Str × PyData) := M.ret ((M.try_ (M.seq (M.ite ((decide ((q.1) = ((0 : Int))))) (M.bind (M.bind (M.bind (M.bind (Mi.idx (q.2.1) ((0 : Int))) fun x_310 => (M.bind (Mi.idx (q.2.1) ((1 : Int))) fun x_311 => (F_put_forces ((x_310), ((q.2.2.1), ((x_311), ((q.2.2.2.1), ((q.2.2.2.2.1), ())))))))) fun x_312 => (M.pure ((IsD.d rBl x_312)))) fun x_313 => (M.pure (((("told" : Str)), (x_313))))) fun x_314 => (M.rt (x_314))) (M.nx (()))) fun s_309 => (M.bind (M.bind (M.bind (M.bind (Mi.idx (q.2.1) ((1 : Int))) fun x_315 => (M.bind (Mi.idx (q.2.1) ((0 : Int))) fun x_316 => (F_put_forces ((x_316), ((q.2.2.1), ((x_315), ((q.2.2.2.1), ((q.2.2.2.2.1), ())))))))) fun x_317 => (M.pure ((IsD.d rBl x_317)))) fun x_318 => (M.pure (((("told" : Str)), (x_318))))) fun x_319 => (M.rt (x_319)))) ([(("UnknownName" : Str), ("name" : Str), fun d_322 => (M.rt (((("unknown" : Str)), (d_322))))), (("DuplicateName" : Str), ("name" : Str), fun d_325 => (M.rt (((("twice" : Str)), (d_325))))), (("BadSide" : Str), ("word" : Str), fun d_328 => (M.rt (((("side" : Str)), (d_328))))), (("BadSet" : Str), ("value" : Str), fun d_331 => (M.rt (((("set" : Str)), (d_331)))))] : List (Str × Str × (PyData → M (Fl (Str × PyData) Empty))))) : M (Fl (Str × PyData) Unit))
theorem ok_Ltold {f : Addr} {fd : FuncData} (F : Fun K "_law_told" "_law_told" s_Ltold f fd) (T : TxtB mg) (x_UnknownName : XCls K mg "UnknownName" "name") (x_DuplicateName : XCls K mg "DuplicateName" "name") (x_BadSide : XCls K mg "BadSide" "word") (x_BadSet : XCls K mg "BadSet" "value") (c_put_forces : Cal P w K mg base "put_forces" (CX P w) 8 ["table", "name", "other", "side", "wanted"] (spG mg K ([] : List (Addr × Str)) (fun q : d_Table × Str × d_Table × Str × PyData × Unit => [(rI_Table W_Table.C) q.1, rStr q.2.1, (rI_Table W_Table.C) q.2.2.1, rStr q.2.2.2.1, rDat q.2.2.2.2.1]) F_put_forces (Fz rBl))) (hE1 : ∀ p ∈ [(("UnknownName" : Str), x_UnknownName.C), (("DuplicateName" : Str), x_DuplicateName.C), (("BadSide" : Str), x_BadSide.C), (("BadSet" : Str), x_BadSet.C)], ∀ q ∈ [(("UnknownName" : Str), x_UnknownName.C), (("DuplicateName" : Str), x_DuplicateName.C), (("BadSide" : Str), x_BadSide.C), (("BadSet" : Str), x_BadSet.C)], PySem.W.exmOne K (.ref p.2) (.ref q.2) = some (decide (p.1 = q.1))) (kc_put_forces_0_wanted_side_other_name_table : KBinds K c_put_forces.fd ["table", "name", "other", "side", "wanted"] ["wanted", "side", "other", "name", "table"] (gP 0 5 [4, 3, 2, 1, 0]) (gP 0 5 [4, 3, 2, 1, 0])) : FnOk P w K mg base CX0 9 f fd ["_law_way", "_law_desks", "_law_outcome", "_law_at", "_law_thing"] (spG mg K ([] : List (Addr × Str)) (fun q : Int × (List d_Table) × Str × Str × PyData × Unit => [rInt q.1, (rLst (rI_Table W_Table.C)) q.2.1, rStr q.2.2.1, rStr q.2.2.2.1, rDat q.2.2.2.2.1]) F_Ltold (Fz (rPr rStr rDat))) := by
  refine F.ok sc_Ltold spG_len (fun cdv A outer s H vs Q E hr h => ?_)
  refine ⟨_, (pss_one (ps_tryM rfl rfl sc_Ltold.nd takes0 (fun W pn xe tk po => (pss_cons (ps_if (pt_cmpR op_eq (pv 0) pe_int (nomark _)) (pss_one (ps_ret (pe_tup (pa_cons pe_str (pa_cons (pe_callS c_put_forces.G (hr.mono (by decide)) (by rfl) c_put_forces.g c_put_forces.kp c_put_forces.b (fun σ => passAt tk σ) (pa_cons (pe_ix (ix_listF (K := K) rfl) (pv 1) pe_int (fun _ _ => rfl)) (pa_cons (pv 2) (pa_cons (pe_ix (ix_listF (K := K) rfl) (pv 1) pe_int (fun _ _ => rfl)) (pa_cons (pv 3) (pa_cons (pv 4) pa_nil)))))) pa_nil))))) pss_nil)
      (pss_one (ps_ret (pe_tup (pa_cons pe_str (pa_cons (pe_callK0T c_put_forces.G (hr.mono (by decide)) (by rfl) c_put_forces.g c_put_forces.kp kc_put_forces_0_wanted_side_other_name_table (fun σ => passAt tk σ) (pk_cons (pv 4) (pk_cons (pv 3) (pk_cons (pe_ix (ix_listF (K := K) rfl) (pv 1) pe_int (fun _ _ => rfl)) (pk_cons (pv 2) (pk_cons (pe_ix (ix_listF (K := K) rfl) (pv 1) pe_int (fun _ _ => rfl)) pk_nil)))))) pa_nil)))))))
        (HdsAs.cons (i := 5) rfl rfl ⟨rfl, by decide, .inl x_UnknownName.g⟩ (fun a oe cls d pn hz hf => (pss_one (ps_ret (pe_tup (pa_cons pe_str (pa_cons (pe_xf x_UnknownName.xf x_UnknownName.no hz hf (pv 5)) pa_nil))))))
        (HdsAs.cons (i := 5) rfl rfl ⟨rfl, by decide, .inl x_DuplicateName.g⟩ (fun a oe cls d pn hz hf => (pss_one (ps_ret (pe_tup (pa_cons pe_str (pa_cons (pe_xf x_DuplicateName.xf x_DuplicateName.no hz hf (pv 5)) pa_nil))))))
        (HdsAs.cons (i := 5) rfl rfl ⟨rfl, by decide, .inl x_BadSide.g⟩ (fun a oe cls d pn hz hf => (pss_one (ps_ret (pe_tup (pa_cons pe_str (pa_cons (pe_xf x_BadSide.xf x_BadSide.no hz hf (pv 5)) pa_nil))))))
        (HdsAs.cons (i := 5) rfl rfl ⟨rfl, by decide, .inl x_BadSet.g⟩ (fun a oe cls d pn hz hf => (pss_one (ps_ret (pe_tup (pa_cons pe_str (pa_cons (pe_xf x_BadSet.xf x_BadSet.no hz hf (pv 5)) pa_nil))))))
        HdsAs.nil)))))), ?_⟩
  refine fn_G (δ := Unit) (ψ := fun _ _ => []) h ?_ (fun Θ B G0 q => 
      (sv_tryM (px := [.fr (rInt (q.1)), .fr ((rLst (rI_Table W_Table.C)) (q.2.1)), .fr (rStr (q.2.2.1)), .fr (rStr (q.2.2.2.1)), .fr (rDat (q.2.2.2.2.1)), .un]) (tbl := [("UnknownName", x_UnknownName.C), ("DuplicateName", x_DuplicateName.C), ("BadSide", x_BadSide.C), ("BadSet", x_BadSet.C)]) (HL.cons (ψ := fun _ _ _ _ => []) x_UnknownName rfl (.head _) rfl (fun a_320 dd_321 d_322 =>
        (sv_ret (ve_tup2 (va_cons (ve_c rStr ("unknown" : Str) fun _ => rfl) (va_cons (ve_xf (i := 5)) va_nil))) PxLe.nil))
        (HL.cons (ψ := fun _ _ _ _ => []) x_DuplicateName rfl (.tail _ (.head _)) rfl (fun a_323 dd_324 d_325 =>
        (sv_ret (ve_tup2 (va_cons (ve_c rStr ("twice" : Str) fun _ => rfl) (va_cons (ve_xf (i := 5)) va_nil))) PxLe.nil))
        (HL.cons (ψ := fun _ _ _ _ => []) x_BadSide rfl (.tail _ (.tail _ (.head _))) rfl (fun a_326 dd_327 d_328 =>
        (sv_ret (ve_tup2 (va_cons (ve_c rStr ("side" : Str) fun _ => rfl) (va_cons (ve_xf (i := 5)) va_nil))) PxLe.nil))
        (HL.cons (ψ := fun _ _ _ _ => []) x_BadSet rfl (.tail _ (.tail _ (.tail _ (.head _)))) rfl (fun a_329 dd_330 d_331 =>
        (sv_ret (ve_tup2 (va_cons (ve_c rStr ("set" : Str) fun _ => rfl) (va_cons (ve_xf (i := 5)) va_nil))) PxLe.nil))
        HL.nil)))) hE1 rfl (fun h => nomatch h) rfl (fun D => (sv_seq (sv_if (vt_test (ve_op2 (ve_v rInt (q.1)) (ve_c rInt 0 fun _ => rfl) v2_eqI)) (.inr (PxL.same (PxL.same (PxL.same (PxL.same (PxL.same (PxL.un PxL.nil))))))) (sv_ret (ve_tup2 (va_cons (ve_c rStr ("told" : Str) fun _ => rfl) (va_cons (ve_dat (ve_callR (va_cons (ve_op2 (ve_v (rLst (rI_Table W_Table.C)) (q.2.1)) (ve_c rInt 0 fun _ => rfl) v2_ixL) (va_cons (ve_v rStr (q.2.2.1)) (va_cons (ve_op2 (ve_v (rLst (rI_Table W_Table.C)) (q.2.1)) (ve_c rInt 1 fun _ => rfl) v2_ixL) (va_cons (ve_v rStr (q.2.2.2.1)) (va_cons (ve_v rDat (q.2.2.2.2.1)) va_nil))))))) va_nil))) (.inr (PxL.same (PxL.same (PxL.same (PxL.same (PxL.same (PxL.un PxL.nil)))))))) (sv_conv (χ := (fun s_309 : Unit => [.fr (rInt (q.1)), .fr ((rLst (rI_Table W_Table.C)) (q.2.1)), .fr (rStr (q.2.2.1)), .fr (rStr (q.2.2.2.1)), .fr (rDat (q.2.2.2.2.1)), .un])) (fun _ => ()) sv_nil (fun _ => (Le.same (Le.same (Le.same (Le.same (Le.same (Le.un Le.nil))))))))) fun s_309 =>
      (sv_ret (ve_tup2 (va_cons (ve_c rStr ("told" : Str) fun _ => rfl) (va_cons (ve_dat (ve_callKR (gV := gP 0 5 [4, 3, 2, 1, 0]) (fun a b => (b.2.2.2.2.1, (b.2.2.2.1, (b.2.2.1, (b.2.1, (b.1, ())))))) va_nil (va_cons (ve_v rDat (q.2.2.2.2.1)) (va_cons (ve_v rStr (q.2.2.2.1)) (va_cons (ve_op2 (ve_v (rLst (rI_Table W_Table.C)) (q.2.1)) (ve_c rInt 1 fun _ => rfl) v2_ixL) (va_cons (ve_v rStr (q.2.2.1)) (va_cons (ve_op2 (ve_v (rLst (rI_Table W_Table.C)) (q.2.1)) (ve_c rInt 0 fun _ => rfl) v2_ixL) va_nil))))) (fun a b vs zs G r1 r2 => match vs, zs, r1, r2 with | _, _, .nil, (.cons q0 (.cons q1 (.cons q2 (.cons q3 (.cons q4 .nil))))) => (.cons q4 (.cons q3 (.cons q2 (.cons q1 (.cons q0 .nil)))))))) va_nil))) (.inr (PxL.same (PxL.same (PxL.same (PxL.same (PxL.same (PxL.un PxL.nil))))))))))))
  intro q; delta F_Ltold Mi.neQ Mi.datS Mi.inS Mi.niS Mi.sortSet Mi.insert Mi.dget Mi.comp2 Mi.exch Mi.two Mi.neD Mi.eqD Mi.inD Mi.inDT Mi.idx Mi.sgn Mi.rng Mi.comp Mi.join Mi.popAt Mi.popE Mi.sortI Mi.sortS Mi.sortD Mi.listD Mi.setL Mi.max Mi.min Mi.draw; rfl

abbrev s_Ldrawn : Stmt := top 61
abbrev N_Ldrawn : List Str := ["_law_state", "_law_names_here", "_law_gone", "_law_chosen", "_law_odd", "_law_label"]
theorem sc_Ldrawn : FnScope ["_law_state", "_law_names_here", "_law_gone", "_law_chosen", "_law_odd", "_law_label"] ["_law_state", "_law_names_here", "_law_gone"] (defScope s_Ldrawn) := ⟨rfl, rfl, rfl, by decide +kernel, rfl, by decide +kernel, by decide +kernel⟩
@[irreducible] def F_Ldrawn (q : (List Str) × Str × Unit) : M PyData := M.ret ((M.bind (M.bind (Mi.comp (q.1) fun b_332 => (M.bind (M.bind (M.nox (F_Ltake (((3 : Int)), ()))) fun x_333 => (M.pure ((decide (((0 : Int)) < (x_333)))))) fun x_334 => (M.ite (x_334) ((M.pure ((some (b_332))))) (M.pure none)))) fun x_335 => (M.pure (x_335))) fun l_chosen_336 => (M.bind (M.bind (M.bind (M.when ((l_chosen_336).length + ([(("zz9" : Str))]).length ≤ sizeLine) ((l_chosen_336) ++ ([(("zz9" : Str))]))) fun x_337 => (M.pure ((IsD.d (rTup rStr) x_337)))) fun x_339 => (M.bind (M.bind (M.when ((l_chosen_336).length + ((cutL (l_chosen_336) none (some ((1 : Int))))).length ≤ sizeLine) ((l_chosen_336) ++ ((cutL (l_chosen_336) none (some ((1 : Int))))))) fun x_338 => (M.pure ((IsD.d (rTup rStr) x_338)))) fun x_340 => (M.pure ([(x_339), ((IsD.d (rTup rStr) (l_chosen_336).reverse)), ((IsD.d (rLst rStr) l_chosen_336)), (x_340), ((IsD.d rNon ())), ((IsD.d rInt (3 : Int))), ((IsD.d rStr ("a" : Str))), ((PyData.dict [])), ((IsD.d (rTup rInt) [((1 : Int))])), ((IsD.d (rTup (rTup rStr)) [(l_chosen_336)]))])))) fun l_odd_341 => (M.bind (M.bind (M.bind (M.bind (M.bind (M.bind (M.when ((l_chosen_336).length + ([(q.2.1)]).length ≤ sizeLine) ((l_chosen_336) ++ ([(q.2.1)]))) fun x_342 => (Mi.sortSet (x_342))) fun x_343 => (M.pure (x_343))) fun x_344 => (M.pure ([(x_344), ([(q.2.1)])]))) fun x_345 => (M.pure (((x_345).map (IsD.d (rTup rStr)))))) fun x_346 => (M.when ((l_odd_341).length + (x_346).length ≤ sizeLine) ((l_odd_341) ++ (x_346)))) fun l_odd_347 => (M.seq (M.bind (M.bind (M.nox (F_Ltake (((5 : Int)), ()))) fun x_348 => (M.pure ((decide ((x_348) = ((0 : Int))))))) fun x_354 => (M.ite (x_354) (M.bind (M.bind (M.nox (F_Ltake (((12 : Int)), ()))) fun x_352 => (Mi.idx (l_odd_347) (x_352))) fun x_353 => (M.rt (x_353))) (M.nx (())))) fun s_351 => (M.rt ((IsD.d (rTup rStr) l_chosen_336))))))) : M (Fl PyData Unit))
theorem ok_Ldrawn {f : Addr} {fd : FuncData} (F : Fun K "_law_drawn" "_law_drawn" s_Ldrawn f fd) (T : TxtB mg) (c_Ltake : Cal P w K mg base "_law_take" CX0 1 ["_law_state", "_law_limit"] (spT mg K ([] : List (Addr × Str)) thW (fun s (q : Int × Unit) => [rSt s, rInt q.1]) F_Ltake (Fz rInt))) : FnOk P w K mg base CX0 2 f fd ["_law_state", "_law_names_here", "_law_gone"] (spT mg K ([] : List (Addr × Str)) thW (fun s (q : (List Str) × Str × Unit) => [rSt s, (rLst rStr) q.1, rStr q.2.1]) F_Ldrawn (Fz rDat)) := by
  refine F.ok sc_Ldrawn spT_len (fun cdv A outer s H vs Q E hr h => ?_)
  refine ⟨_, (pss_cons (ps_set (i := 3) sc_Ldrawn.nd rfl (.inl rfl) (pe_callTy call_tuple_of (by rfl) T.z_tuple (by decide +kernel) (pa_cons (pe_lc (own := [("_law_label", 5)]) (g := gName 5) rfl sc_Ldrawn.nd (pi_list (pv 1)) (blkOk_by (own := [("_law_label", 5)]) (N := N_Ldrawn) (sc := defScope s_Ldrawn) (by decide +kernel)) (fun _ _ _ _ _ => (pg_name (i := 5) sc_Ldrawn.nd rfl (.inl rfl))) (fun _ _ _ _ _ => (pts_one (pt_cmpR op_gt (pe_call c_Ltake.G (hr.mono (by decide)) (by rfl) c_Ltake.g c_Ltake.kp c_Ltake.b .nil pass0 (pa_cons (pv 0) (pa_cons pe_int pa_nil))) pe_int (nomark _)))) (fun _ _ _ _ _ => (pv 5))) pa_nil)))
      (pss_cons (ps_set (i := 4) sc_Ldrawn.nd rfl (.inl rfl) (pe_lst (pa_cons (pe_op op_catA (pv 3) (pe_tup (pa_cons pe_str pa_nil))) (pa_cons (pe_revT (pv 3)) (pa_cons (pe_callTy call_list_of (by rfl) T.z_list (by decide +kernel) (pa_cons (pv 3) pa_nil)) (pa_cons (pe_op op_catA (pv 3) (pe_slice sl_tupA (pv 3) po_none (po_some pe_int))) (pa_cons pe_non (pa_cons pe_int (pa_cons pe_str (pa_cons pe_dnewK (pa_cons (pe_tup (pa_cons pe_int pa_nil)) (pa_cons (pe_tup (pa_cons (pv 3) pa_nil)) pa_nil))))))))))))
      (pss_cons (ps_set (i := 4) sc_Ldrawn.nd rfl (.inl rfl) (pe_op op_cat (pv 4) (pe_lst (pa_cons (pe_callTy call_tuple_of (by rfl) T.z_tuple (by decide +kernel) (pa_cons (pe_callB (cr_sortedX rfl) (by rfl) T.z_sorted (by decide +kernel) (pa_cons (pe_callTy (cr_setOfB rfl) (by rfl) T.z_set (by decide +kernel) (pa_cons (pe_op op_catA (pv 3) (pe_tup (pa_cons (pv 2) pa_nil))) pa_nil)) pa_nil)) pa_nil)) (pa_cons (pe_tup (pa_cons (pv 2) pa_nil)) pa_nil)))))
      (pss_cons (ps_if (pt_cmpR op_eq (pe_call c_Ltake.G (hr.mono (by decide)) (by rfl) c_Ltake.g c_Ltake.kp c_Ltake.b .nil pass0 (pa_cons (pv 0) (pa_cons pe_int pa_nil))) pe_int (nomark _)) (pss_one (ps_ret (pe_ix ix_list (pv 4) (pe_call c_Ltake.G (hr.mono (by decide)) (by rfl) c_Ltake.g c_Ltake.kp c_Ltake.b .nil pass0 (pa_cons (pv 0) (pa_cons pe_int pa_nil))) (fun _ _ => rfl)))) pss_nil)
      (pss_one (ps_ret (pv 3))))))), ?_⟩
  refine fn_T (δ := Unit) (ψ := fun _ _ _ => []) h ?_ (fun s B G0 q => 
      (sv_seq (sv_asg (i := 3) (ve_cb (va_cons (ve_frL (ve_lc (vs := [5]) (js := [5]) (vi_list (ve_v (rLst rStr) (q.1))) (hv1 rfl) (vg_name (i := 5)) (fun _ h => h) (fun b_332 => (vt_test (ve_op2 (ve_callFT rfl (va_st s (va_cons (ve_c rInt 3 fun _ => rfl) va_nil))) (ve_c rInt 0 fun _ => rfl) v2_gt))) (fun b_332 => (ve_v rStr (b_332))))) va_nil) vn_tupL) PxLe.nil) fun l_chosen_336 =>
      (sv_seq (sv_asg (i := 4) (ve_frL (ve_lstL rDat (fun a => [a.1, a.2.1, a.2.2.1, a.2.2.2.1, a.2.2.2.2.1, a.2.2.2.2.2.1, a.2.2.2.2.2.2.1, a.2.2.2.2.2.2.2.1, a.2.2.2.2.2.2.2.2.1, a.2.2.2.2.2.2.2.2.2.1]) (va_cons (ve_dat (ve_op2 (ve_v (rTup rStr) (l_chosen_336)) (ve_tupL rStr (fun a => [a.1]) (va_cons (ve_c rStr ("zz9" : Str) fun _ => rfl) va_nil)) v2_catT)) (va_cons (ve_dat (ve_revT (ve_v (rTup rStr) (l_chosen_336)))) (va_cons (ve_dat (ve_frL (ve_cb (va_cons (ve_v (rTup rStr) (l_chosen_336)) va_nil) vn_listT))) (va_cons (ve_dat (ve_op2 (ve_v (rTup rStr) (l_chosen_336)) (ve_sl (ve_v (rTup rStr) (l_chosen_336)) vo_none (vo_some (ve_c rInt 1 fun _ => rfl)) v3_slT) v2_catT)) (va_cons (ve_dat (ve_c rNon () fun _ => rfl)) (va_cons (ve_dat (ve_c rInt 3 fun _ => rfl)) (va_cons (ve_dat (ve_c rStr ("a" : Str) fun _ => rfl)) (va_cons ve_dnewD (va_cons (ve_dat (ve_tupL rInt (fun a => [a.1]) (va_cons (ve_c rInt 1 fun _ => rfl) va_nil))) (va_cons (ve_dat (ve_tupL (rTup rStr) (fun a => [a.1]) (va_cons (ve_v (rTup rStr) (l_chosen_336)) va_nil))) va_nil)))))))))))) PxLe.nil) fun l_odd_341 =>
      (sv_seq (sv_asg (i := 4) (ve_frL (ve_op2 (ve_v (rLst rDat) (l_odd_341)) (ve_datL (ve_frL (ve_lstL (rTup rStr) (fun a => [a.1, a.2.1]) (va_cons (ve_cb (va_cons (ve_frL (ve_sortSetB (ve_sqT (ve_op2 (ve_v (rTup rStr) (l_chosen_336)) (ve_tupL rStr (fun a => [a.1]) (va_cons (ve_v rStr (q.2.1)) va_nil)) v2_catT)))) va_nil) vn_tupL) (va_cons (ve_tupL rStr (fun a => [a.1]) (va_cons (ve_v rStr (q.2.1)) va_nil)) va_nil))))) v2_catL)) PxLe.nil) fun l_odd_347 =>
      (sv_seq (sv_if (vt_test (ve_op2 (ve_callFT rfl (va_st s (va_cons (ve_c rInt 5 fun _ => rfl) va_nil))) (ve_c rInt 0 fun _ => rfl) v2_eqI)) PxLe.nil (sv_ret (ve_op2 (ve_v (rLst rDat) (l_odd_347)) (ve_callFT rfl (va_st s (va_cons (ve_c rInt 12 fun _ => rfl) va_nil))) v2_ixL) PxLe.nil) (sv_conv (χ := (fun s_351 : Unit => [.fr (rSt s), .fr ((rLst rStr) (q.1)), .fr (rStr (q.2.1)), .fr ((rTup rStr) (l_chosen_336)), .fr ((rLst rDat) (l_odd_347)), .un])) (fun _ => ()) sv_nil (fun _ => (Le.same (Le.same (Le.same (Le.same (Le.same (Le.un Le.nil))))))))) fun s_351 =>
      (sv_ret (ve_dat (ve_v (rTup rStr) (l_chosen_336))) PxLe.nil))))))
  intro q; delta F_Ldrawn Mi.neQ Mi.datS Mi.inS Mi.niS Mi.sortSet Mi.insert Mi.dget Mi.comp2 Mi.exch Mi.two Mi.neD Mi.eqD Mi.inD Mi.inDT Mi.idx Mi.sgn Mi.rng Mi.comp Mi.join Mi.popAt Mi.popE Mi.sortI Mi.sortS Mi.sortD Mi.listD Mi.setL Mi.max Mi.min Mi.draw; rfl

abbrev s_Linner : Stmt := top 62
abbrev N_Linner : List Str := ["_law_state", "_law_grid_here", "_law_words_here", "_law_plan"]
theorem sc_Linner : FnScope ["_law_state", "_law_grid_here", "_law_words_here", "_law_plan"] ["_law_state", "_law_grid_here", "_law_words_here"] (defScope s_Linner) := ⟨rfl, rfl, rfl, by decide +kernel, rfl, by decide +kernel, by decide +kernel⟩
@[irreducible] def F_Linner (q : (List (List Str)) × (List Str) × Unit) : M (List (List Str)) := M.ret ((M.bind (M.nox (F_Ltake (((5 : Int)), ()))) fun l_plan_355 => (M.seq (M.ite ((decide ((l_plan_355) = ((0 : Int))))) (M.bind (M.bind (M.when (((cutL (q.2.1) (some ((3 : Int))) none)).length + ([(("p" : Str)), (("q1" : Str)), (("q" : Str))]).length ≤ sizeLine) (((cutL (q.2.1) (some ((3 : Int))) none)) ++ ([(("p" : Str)), (("q1" : Str)), (("q" : Str))]))) fun x_359 => (M.nox (F_Lgrid ((x_359), ())))) fun x_360 => (M.rt (x_360))) (M.nx (()))) fun s_358 => (M.seq (M.ite ((decide ((l_plan_355) ∈ ([((1 : Int)), ((2 : Int))])))) (M.bind (M.bind (M.bind (M.bind (Mi.idx (q.1) ((0 : Int))) fun x_368 => (Mi.idx (x_368) ((0 : Int)))) fun x_370 => (M.bind (M.bind (Mi.idx (q.1) ((-((1 : Int))))) fun x_369 => (Mi.idx (x_369) ((-((1 : Int)))))) fun x_371 => (M.pure ([(("p" : Str)), (x_370), (("q" : Str)), (x_371), (("q1" : Str)), (("r" : Str))])))) fun x_372 => (M.nox (F_Lgrid ((x_372), ())))) fun x_373 => (M.rt (x_373))) (M.nx (()))) fun s_367 => (M.bind (M.nox (F_Lgrid (([(("p" : Str)), (("q1" : Str)), (("q" : Str)), (("r" : Str)), (("s" : Str)), (("t" : Str))]), ()))) fun x_374 => (M.rt (x_374)))))) : M (Fl (List (List Str)) Unit))
theorem ok_Linner {f : Addr} {fd : FuncData} (F : Fun K "_law_inner" "_law_inner" s_Linner f fd) (T : TxtB mg) (c_Ltake : Cal P w K mg base "_law_take" CX0 1 ["_law_state", "_law_limit"] (spT mg K ([] : List (Addr × Str)) thW (fun s (q : Int × Unit) => [rSt s, rInt q.1]) F_Ltake (Fz rInt))) (c_Lgrid : Cal P w K mg base "_law_grid" CX0 3 ["_law_state", "_law_words_here"] (spTN mg K ([] : List (Addr × Str)) thW (fun s (q : (List Str) × Unit) => [rSt s, (rLst rStr) q.1]) F_Lgrid (fun B => (rLst (rNw B (rLst rStr)))))) : FnOk P w K mg base CX0 4 f fd ["_law_state", "_law_grid_here", "_law_words_here"] (spT mg K ([] : List (Addr × Str)) thW (fun s (q : (List (List Str)) × (List Str) × Unit) => [rSt s, (rLst (rLst rStr)) q.1, (rLst rStr) q.2.1]) F_Linner (Fz (rLst (rLst rStr)))) := by
  refine F.ok sc_Linner spT_len (fun cdv A outer s H vs Q E hr h => ?_)
  refine ⟨_, (pss_cons (ps_set (i := 3) sc_Linner.nd rfl (.inl rfl) (pe_call c_Ltake.G (hr.mono (by decide)) (by rfl) c_Ltake.g c_Ltake.kp c_Ltake.b .nil pass0 (pa_cons (pv 0) (pa_cons pe_int pa_nil))))
      (pss_cons (ps_if (pt_cmpR op_eq (pv 3) pe_int (nomark _)) (pss_one (ps_ret (pe_call c_Lgrid.G (hr.mono (by decide)) (by rfl) c_Lgrid.g c_Lgrid.kp c_Lgrid.b .nil pass0 (pa_cons (pv 0) (pa_cons (pe_op op_cat (pe_slice sl_list (pv 2) (po_some pe_int) po_none) (pe_lst (pa_cons pe_str (pa_cons pe_str (pa_cons pe_str pa_nil))))) pa_nil))))) pss_nil)
      (pss_cons (ps_if (pt_cmpR op_in_seq (pv 3) (pe_lst (pa_cons pe_int (pa_cons pe_int pa_nil))) (by rfl)) (pss_one (ps_ret (pe_call c_Lgrid.G (hr.mono (by decide)) (by rfl) c_Lgrid.g c_Lgrid.kp c_Lgrid.b .nil pass0 (pa_cons (pv 0) (pa_cons (pe_lst (pa_cons pe_str (pa_cons (pe_ix ix_list (pe_ix ix_list (pv 1) pe_int (fun _ _ => rfl)) pe_int (fun _ _ => rfl)) (pa_cons pe_str (pa_cons (pe_ix ix_list (pe_ix ix_list (pv 1) (pe_un un_neg pe_int) (fun _ _ => rfl)) (pe_un un_neg pe_int) (fun _ _ => rfl)) (pa_cons pe_str (pa_cons pe_str pa_nil))))))) pa_nil))))) pss_nil)
      (pss_one (ps_ret (pe_call c_Lgrid.G (hr.mono (by decide)) (by rfl) c_Lgrid.g c_Lgrid.kp c_Lgrid.b .nil pass0 (pa_cons (pv 0) (pa_cons (pe_lst (pa_cons pe_str (pa_cons pe_str (pa_cons pe_str (pa_cons pe_str (pa_cons pe_str (pa_cons pe_str pa_nil))))))) pa_nil)))))))), ?_⟩
  refine fn_T (δ := Unit) (ψ := fun _ _ _ => []) h ?_ (fun s B G0 q => 
      (sv_seq (sv_asg (i := 3) (ve_callFT rfl (va_st s (va_cons (ve_c rInt 5 fun _ => rfl) va_nil))) PxLe.nil) fun l_plan_355 =>
      (sv_seq (sv_if (vt_test (ve_op2 (ve_v rInt (l_plan_355)) (ve_c rInt 0 fun _ => rfl) v2_eqI)) PxLe.nil (sv_ret (ve_callGR rfl (va_st s (va_cons (ve_frL (ve_op2 (ve_frL (ve_sl (ve_v (rLst rStr) (q.2.1)) (vo_some (ve_c rInt 3 fun _ => rfl)) vo_none v3_slL)) (ve_frL (ve_lstL rStr (fun a => [a.1, a.2.1, a.2.2.1]) (va_cons (ve_c rStr ("p" : Str) fun _ => rfl) (va_cons (ve_c rStr ("q1" : Str) fun _ => rfl) (va_cons (ve_c rStr ("q" : Str) fun _ => rfl) va_nil))))) v2_catL)) va_nil))) PxLe.nil) (sv_conv (χ := (fun s_358 : Unit => [.fr (rSt s), .fr ((rLst (rLst rStr)) (q.1)), .fr ((rLst rStr) (q.2.1)), .fr (rInt (l_plan_355))])) (fun _ => ()) sv_nil (fun _ => (Le.same (Le.same (Le.same (Le.same Le.nil))))))) fun s_358 =>
      (sv_seq (sv_if (vt_test (ve_op2 (ve_v rInt (l_plan_355)) (ve_frL (ve_lstL rInt (fun a => [a.1, a.2.1]) (va_cons (ve_c rInt 1 fun _ => rfl) (va_cons (ve_c rInt 2 fun _ => rfl) va_nil)))) v2_inLI)) PxLe.nil (sv_ret (ve_callGR rfl (va_st s (va_cons (ve_frL (ve_lstL rStr (fun a => [a.1, a.2.1, a.2.2.1, a.2.2.2.1, a.2.2.2.2.1, a.2.2.2.2.2.1]) (va_cons (ve_c rStr ("p" : Str) fun _ => rfl) (va_cons (ve_op2 (ve_op2 (ve_v (rLst (rLst rStr)) (q.1)) (ve_c rInt 0 fun _ => rfl) v2_ixL) (ve_c rInt 0 fun _ => rfl) v2_ixL) (va_cons (ve_c rStr ("q" : Str) fun _ => rfl) (va_cons (ve_op2 (ve_op2 (ve_v (rLst (rLst rStr)) (q.1)) (ve_un (ve_c rInt 1 fun _ => rfl) v1_neg) v2_ixL) (ve_un (ve_c rInt 1 fun _ => rfl) v1_neg) v2_ixL) (va_cons (ve_c rStr ("q1" : Str) fun _ => rfl) (va_cons (ve_c rStr ("r" : Str) fun _ => rfl) va_nil)))))))) va_nil))) PxLe.nil) (sv_conv (χ := (fun s_367 : Unit => [.fr (rSt s), .fr ((rLst (rLst rStr)) (q.1)), .fr ((rLst rStr) (q.2.1)), .fr (rInt (l_plan_355))])) (fun _ => ()) sv_nil (fun _ => (Le.same (Le.same (Le.same (Le.same Le.nil))))))) fun s_367 =>
      (sv_ret (ve_callGR rfl (va_st s (va_cons (ve_frL (ve_lstL rStr (fun a => [a.1, a.2.1, a.2.2.1, a.2.2.2.1, a.2.2.2.2.1, a.2.2.2.2.2.1]) (va_cons (ve_c rStr ("p" : Str) fun _ => rfl) (va_cons (ve_c rStr ("q1" : Str) fun _ => rfl) (va_cons (ve_c rStr ("q" : Str) fun _ => rfl) (va_cons (ve_c rStr ("r" : Str) fun _ => rfl) (va_cons (ve_c rStr ("s" : Str) fun _ => rfl) (va_cons (ve_c rStr ("t" : Str) fun _ => rfl) va_nil)))))))) va_nil))) PxLe.nil)))))
  intro q; delta F_Linner Mi.neQ Mi.datS Mi.inS Mi.niS Mi.sortSet Mi.insert Mi.dget Mi.comp2 Mi.exch Mi.two Mi.neD Mi.eqD Mi.inD Mi.inDT Mi.idx Mi.sgn Mi.rng Mi.comp Mi.join Mi.popAt Mi.popE Mi.sortI Mi.sortS Mi.sortD Mi.listD Mi.setL Mi.max Mi.min Mi.draw; rfl

abbrev s_law : Stmt := top 63
abbrev N_law : List Str := ["_law_script", "_law_state", "_law_words_here", "_law_grid_here", "_law_inners", "_law_tables", "_law_turn", "_law_inner_here", "_law_desks", "_law_names_here", "_law_label", "_law_who", "_law_both", "_law_chosen", "_law_due_here", "_law_way", "_law_answer", "_law_beside"]
theorem sc_law : FnScope ["_law_script", "_law_state", "_law_words_here", "_law_grid_here", "_law_inners", "_law_tables", "_law_turn", "_law_inner_here", "_law_desks", "_law_names_here", "_law_label", "_law_who", "_law_both", "_law_chosen", "_law_due_here", "_law_way", "_law_answer", "_law_beside"] ["_law_script"] (defScope s_law) := ⟨rfl, rfl, rfl, by decide +kernel, rfl, by decide +kernel, by decide +kernel⟩
@[irreducible] def F_law : M Bool := M.ret ((M.bind (M.nox (F_Lwords ())) fun l_words_here_375 => (M.bind (M.nox (F_Lgrid ((l_words_here_375), ()))) fun l_grid_here_376 => (M.bind (M.bind (M.nox (F_Linner ((l_grid_here_376), ((l_words_here_375), ())))) fun x_377 => (M.bind (M.nox (F_Linner ((l_grid_here_376), ((l_words_here_375), ())))) fun x_378 => (M.pure ([(x_377), (x_378)])))) fun l_inners_379 => (M.bind (M.bind (M.nox (F_TableD_initD ((l_grid_here_376), ()))) fun x_382 => (M.bind (M.bind (Mi.idx (l_inners_379) ((0 : Int))) fun x_380 => (M.nox (F_TableD_initD ((x_380), ())))) fun x_383 => (M.bind (M.bind (Mi.idx (l_inners_379) ((1 : Int))) fun x_381 => (M.nox (F_TableD_initD ((x_381), ())))) fun x_384 => (M.pure ([(x_382), (x_383), (x_384)]))))) fun l_tables_385 => (M.seq (M.bind (Mi.rng 0 ((8 : Int))) fun x_421 => (M.forL (fun b_386 s_387 => (M.bind (M.bind (M.when (((2 : Int)) ≠ 0) ((b_386).fmod ((2 : Int)))) fun x_388 => (Mi.idx (l_inners_379) (x_388))) fun l_inner_here_389 => (M.bind (M.bind (Mi.idx (l_tables_385) ((0 : Int))) fun x_392 => (M.bind (M.bind (M.bind (M.when (((2 : Int)) ≠ 0) ((b_386).fmod ((2 : Int)))) fun x_390 => (M.pure (((1 : Int) + x_390)))) fun x_391 => (Mi.idx (l_tables_385) (x_391))) fun x_393 => (M.pure ([(x_392), (x_393)])))) fun l_desks_394 => (M.bind (M.bind (M.bind (M.nox (F_Lnames ((l_grid_here_376), ()))) fun x_395 => (M.pure (x_395))) fun x_396 => (M.when ((x_396).length + ([(("zz9" : Str))]).length ≤ sizeLine) ((x_396) ++ ([(("zz9" : Str))])))) fun l_names_here_397 => (M.bind (M.bind (M.bind (M.bind (M.bind (M.bind (M.nox (F_Ltake (((6 : Int)), ()))) fun x_398 => (M.pure ((decide (((0 : Int)) < (x_398)))))) fun x_399 => (M.pure ((if (x_399) then (1 : Int) else 0)))) fun x_400 => (M.pure ((((l_names_here_397).length : Int) - x_400)))) fun x_401 => (M.nox (F_Ltake ((x_401), ())))) fun x_402 => (Mi.idx (l_names_here_397) (x_402))) fun l_label_403 => (M.bind (M.bind (M.nox (F_Ltake (((8 : Int)), ()))) fun x_404 => (Mi.idx ([(("rows" : Str)), (("columns" : Str)), (("rows" : Str)), (("columns" : Str)), (("rows" : Str)), (("columns" : Str)), (("row" : Str)), (("" : Str))]) (x_404))) fun l_who_405 => (M.bind (M.bind (M.bind (M.bind (M.nox (F_Lnames ((l_grid_here_376), ()))) fun x_407 => (Mi.comp (x_407) fun b_406 => (M.ite ((!decide ((b_406) = (l_label_403)))) ((M.pure ((some (b_406))))) (M.pure none)))) fun x_409 => (M.bind (M.bind (M.nox (F_Lnames ((l_inner_here_389), ()))) fun x_408 => (M.pure (x_408))) fun x_410 => (M.when ((x_409).length + (x_410).length ≤ sizeLine) ((x_409) ++ (x_410))))) fun x_411 => (Mi.sortS (x_411))) fun l_both_412 => (M.bind (M.nox (F_Ldrawn ((l_both_412), ((l_label_403), ())))) fun l_chosen_413 => (M.bind (M.nox (F_Ldue ((l_grid_here_376), ((l_label_403), ((l_inner_here_389), ((l_who_405), ((l_chosen_413), ()))))))) fun l_due_here_414 => (M.seq (M.forL (fun b_415 s_416 => (M.bind (M.nox (F_Ltold ((b_415), ((l_desks_394), ((l_label_403), ((l_who_405), ((l_chosen_413), ()))))))) fun l_answer_417 => (M.seq (M.bind (M.bind (Mi.neQ (IsD.d (rPr rStr rDat) (l_answer_417)) (IsD.d (rPr rStr rDat) (l_due_here_414))) fun x_418 => (M.pure (((x_418) || ((((decide (((l_answer_417).1) = (("told" : Str))))) && ((!((isD_bool ((l_answer_417).2))))))))))) fun x_420 => (M.ite (x_420) (M.rt (false)) (M.nx (())))) fun s_419 => (M.nx (()))))) ([((0 : Int)), ((1 : Int)), ((0 : Int))]) ()) fun s_416 => (M.nx (())))))))))))) (x_421) ())) fun s_387 => (M.rt (true))))))) : M (Fl Bool Unit))
theorem ok_law {f : Addr} {fd : FuncData} (F : Fun K "law" "law" s_law f fd) (T : TxtB mg) (c_Lstart : Cal P w K mg base "_law_start" CX0 1 ["_law_script"] (spStart2 K)) (c_Lwords : Cal P w K mg base "_law_words" CX0 3 ["_law_state"] (spT mg K ([] : List (Addr × Str)) thW (fun s (q : Unit) => [rSt s]) F_Lwords (Ow (cLst rStr)))) (c_Lgrid : Cal P w K mg base "_law_grid" CX0 3 ["_law_state", "_law_words_here"] (spTN mg K ([] : List (Addr × Str)) thW (fun s (q : (List Str) × Unit) => [rSt s, (rLst rStr) q.1]) F_Lgrid (fun B => (rLst (rNw B (rLst rStr)))))) (c_Linner : Cal P w K mg base "_law_inner" CX0 4 ["_law_state", "_law_grid_here", "_law_words_here"] (spT mg K ([] : List (Addr × Str)) thW (fun s (q : (List (List Str)) × (List Str) × Unit) => [rSt s, (rLst (rLst rStr)) q.1, (rLst rStr) q.2.1]) F_Linner (Fz (rLst (rLst rStr))))) (c_TableD_initD : CalM P w K mg base CX0 2 ["self", "lines"] (spI mg K ([] : List (Addr × Str)) W_Table.C (fun q : (List (List Str)) × Unit => [(rLst (rLst rStr)) q.1]) F_TableD_initD (cI_Table W_Table.C))) (m_Table : Mk K W_Table.C c_TableD_initD.f) (c_Lnames : Cal P w K mg base "_law_names" CX0 1 ["_law_grid_here"] (spG mg K ([] : List (Addr × Str)) (fun q : (List (List Str)) × Unit => [(rLst (rLst rStr)) q.1]) F_Lnames (Fz (rTup rStr)))) (c_Ltake : Cal P w K mg base "_law_take" CX0 1 ["_law_state", "_law_limit"] (spT mg K ([] : List (Addr × Str)) thW (fun s (q : Int × Unit) => [rSt s, rInt q.1]) F_Ltake (Fz rInt))) (c_Ldrawn : Cal P w K mg base "_law_drawn" CX0 2 ["_law_state", "_law_names_here", "_law_gone"] (spT mg K ([] : List (Addr × Str)) thW (fun s (q : (List Str) × Str × Unit) => [rSt s, (rLst rStr) q.1, rStr q.2.1]) F_Ldrawn (Fz rDat))) (c_Ldue : Cal P w K mg base "_law_due" CX0 3 ["_law_grid_here", "_law_label", "_law_inner_here", "_law_who", "_law_chosen"] (spG mg K ([] : List (Addr × Str)) (fun q : (List (List Str)) × Str × (List (List Str)) × Str × PyData × Unit => [(rLst (rLst rStr)) q.1, rStr q.2.1, (rLst (rLst rStr)) q.2.2.1, rStr q.2.2.2.1, rDat q.2.2.2.2.1]) F_Ldue (Fz (rPr rStr rDat)))) (c_Ltold : Cal P w K mg base "_law_told" CX0 9 ["_law_way", "_law_desks", "_law_outcome", "_law_at", "_law_thing"] (spG mg K ([] : List (Addr × Str)) (fun q : Int × (List d_Table) × Str × Str × PyData × Unit => [rInt q.1, (rLst (rI_Table W_Table.C)) q.2.1, rStr q.2.2.1, rStr q.2.2.2.1, rDat q.2.2.2.2.1]) F_Ltold (Fz (rPr rStr rDat)))) (hlaw : ∀ Ψ, F_law (fun b _ => b = true) Ψ 0) : FnOk P w K mg base CX0 10 f fd ["_law_script"] (spLawT K ([] : List (Addr × Str))) := by
  refine F.ok sc_law spLawT_len (fun cdv A outer s H vs Q E hr h => ?_)
  refine ⟨_, (pss_cons (ps_set (i := 1) sc_law.nd rfl (.inl rfl) (pe_call c_Lstart.G (hr.mono (by decide)) (by rfl) c_Lstart.g c_Lstart.kp c_Lstart.b .nil pass0 (pa_cons (pv 0) pa_nil)))
      (pss_cons (ps_set (i := 2) sc_law.nd rfl (.inl rfl) (pe_call c_Lwords.G (hr.mono (by decide)) (by rfl) c_Lwords.g c_Lwords.kp c_Lwords.b .nil pass0 (pa_cons (pv 1) pa_nil)))
      (pss_cons (ps_set (i := 3) sc_law.nd rfl (.inl rfl) (pe_call c_Lgrid.G (hr.mono (by decide)) (by rfl) c_Lgrid.g c_Lgrid.kp c_Lgrid.b .nil pass0 (pa_cons (pv 1) (pa_cons (pv 2) pa_nil))))
      (pss_cons (ps_set (i := 4) sc_law.nd rfl (.inl rfl) (pe_lst (pa_cons (pe_call c_Linner.G (hr.mono (by decide)) (by rfl) c_Linner.g c_Linner.kp c_Linner.b .nil pass0 (pa_cons (pv 1) (pa_cons (pv 3) (pa_cons (pv 2) pa_nil)))) (pa_cons (pe_call c_Linner.G (hr.mono (by decide)) (by rfl) c_Linner.g c_Linner.kp c_Linner.b .nil pass0 (pa_cons (pv 1) (pa_cons (pv 3) (pa_cons (pv 2) pa_nil)))) pa_nil))))
      (pss_cons (ps_set (i := 5) sc_law.nd rfl (.inl rfl) (pe_lst (pa_cons (pe_make m_Table c_TableD_initD.G (hr.mono (by decide)) rfl W_Table.g c_TableD_initD.b .nil pass0 (pa_cons (pv 3) pa_nil)) (pa_cons (pe_make m_Table c_TableD_initD.G (hr.mono (by decide)) rfl W_Table.g c_TableD_initD.b .nil pass0 (pa_cons (pe_ix ix_list (pv 4) pe_int (fun _ _ => rfl)) pa_nil)) (pa_cons (pe_make m_Table c_TableD_initD.G (hr.mono (by decide)) rfl W_Table.g c_TableD_initD.b .nil pass0 (pa_cons (pe_ix ix_list (pv 4) pe_int (fun _ _ => rfl)) pa_nil)) pa_nil)))))
      (pss_cons (ps_for PassesOwn.never rfl (pi_range1 rfl T.z_range (pa_cons pe_int pa_nil)) (pg_name (i := 6) sc_law.nd rfl (.inl rfl)) (pss_cons (ps_set (i := 7) sc_law.nd rfl (.inl rfl) (pe_ix ix_list (pv 4) (pe_op op_modN (pv 6) pe_int) (fun _ _ => rfl)))
      (pss_cons (ps_set (i := 8) sc_law.nd rfl (.inl rfl) (pe_lst (pa_cons (pe_ix ix_list (pv 5) pe_int (fun _ _ => rfl)) (pa_cons (pe_ix ix_list (pv 5) (pe_op op_add pe_int (pe_op op_modN (pv 6) pe_int)) (fun _ _ => rfl)) pa_nil))))
      (pss_cons (ps_set (i := 9) sc_law.nd rfl (.inl rfl) (pe_op op_cat (pe_callTy call_list_of (by rfl) T.z_list (by decide +kernel) (pa_cons (pe_call c_Lnames.G (hr.mono (by decide)) (by rfl) c_Lnames.g c_Lnames.kp c_Lnames.b .nil pass0 (pa_cons (pv 3) pa_nil)) pa_nil)) (pe_lst (pa_cons pe_str pa_nil))))
      (pss_cons (ps_set (i := 10) sc_law.nd rfl (.inr rfl) (pe_ix ix_list (pv 9) (pe_call c_Ltake.G (hr.mono (by decide)) (by rfl) c_Ltake.g c_Ltake.kp c_Ltake.b .nil pass0 (pa_cons (pv 1) (pa_cons (pe_op op_sub (pe_callB call_len_seq (by rfl) T.z_len PySem.boot_len (pa_cons (pv 9) pa_nil)) (pe_callTy call_int1 (by rfl) T.z_int (by decide +kernel) (pa_cons (pe_cmpR op_gt (pe_call c_Ltake.G (hr.mono (by decide)) (by rfl) c_Ltake.g c_Ltake.kp c_Ltake.b .nil pass0 (pa_cons (pv 1) (pa_cons pe_int pa_nil))) pe_int (nomark _)) pa_nil))) pa_nil))) (fun _ _ => rfl)))
      (pss_cons (ps_set (i := 11) sc_law.nd rfl (.inl rfl) (pe_ix ix_list (pe_lst (pa_cons pe_str (pa_cons pe_str (pa_cons pe_str (pa_cons pe_str (pa_cons pe_str (pa_cons pe_str (pa_cons pe_str (pa_cons pe_str pa_nil))))))))) (pe_call c_Ltake.G (hr.mono (by decide)) (by rfl) c_Ltake.g c_Ltake.kp c_Ltake.b .nil pass0 (pa_cons (pv 1) (pa_cons pe_int pa_nil))) (fun _ _ => rfl)))
      (pss_cons (ps_set (i := 12) sc_law.nd rfl (.inl rfl) (pe_callB cr_sortedS (by rfl) T.z_sorted (by decide +kernel) (pa_cons (pe_op op_cat (pe_lc (own := [("_law_beside", 17)]) (g := gName 17) rfl sc_law.nd (pi_tup (pe_call c_Lnames.G (hr.mono (by decide)) (by rfl) c_Lnames.g c_Lnames.kp c_Lnames.b .nil pass0 (pa_cons (pv 3) pa_nil))) (blkOk_by (own := [("_law_beside", 17)]) (N := N_law) (sc := defScope s_law) (by decide +kernel)) (fun _ _ _ _ _ => (pg_name (i := 17) sc_law.nd rfl (.inl rfl))) (fun _ _ _ _ _ => (pts_one (pt_cmpR op_ne (pv 17) (pv 10) (nomark _)))) (fun _ _ _ _ _ => (pv 17))) (pe_callTy call_list_of (by rfl) T.z_list (by decide +kernel) (pa_cons (pe_call c_Lnames.G (hr.mono (by decide)) (by rfl) c_Lnames.g c_Lnames.kp c_Lnames.b .nil pass0 (pa_cons (pv 7) pa_nil)) pa_nil))) pa_nil)))
      (pss_cons (ps_set (i := 13) sc_law.nd rfl (.inl rfl) (pe_call c_Ldrawn.G (hr.mono (by decide)) (by rfl) c_Ldrawn.g c_Ldrawn.kp c_Ldrawn.b .nil pass0 (pa_cons (pv 1) (pa_cons (pv 12) (pa_cons (pv 10) pa_nil)))))
      (pss_cons (ps_set (i := 14) sc_law.nd rfl (.inl rfl) (pe_call c_Ldue.G (hr.mono (by decide)) (by rfl) c_Ldue.g c_Ldue.kp c_Ldue.b .nil pass0 (pa_cons (pv 3) (pa_cons (pv 10) (pa_cons (pv 7) (pa_cons (pv 11) (pa_cons (pv 13) pa_nil)))))))
      (pss_one (ps_for PassesOwn.never rfl (pi_list (pe_lst (pa_cons pe_int (pa_cons pe_int (pa_cons pe_int pa_nil))))) (pg_name (i := 15) sc_law.nd rfl (.inl rfl)) (pss_cons (ps_set (i := 16) sc_law.nd rfl (.inl rfl) (pe_call c_Ltold.G (hr.mono (by decide)) (by rfl) c_Ltold.g c_Ltold.kp c_Ltold.b .nil pass0 (pa_cons (pv 15) (pa_cons (pv 8) (pa_cons (pv 10) (pa_cons (pv 11) (pa_cons (pv 13) pa_nil)))))))
      (pss_one (ps_if (PW.pt (pw_or (pt_cmpR (op_neQ hr.units (hu100 hr)) (pv 16) (pv 14) (nomark _)) (pw_or1 (PW.pt (pw_and (pt_cmpR op_eq (pe_ix ix_tup (pv 16) pe_int (fun _ _ => rfl)) pe_str (nomark _)) (pw_and1 (pt_not (pt_val (pe_callB call_isi (by rfl) T.z_isinstance (by decide +kernel) (pa_cons (pe_ix ix_tup (pv 16) pe_int (fun _ _ => rfl)) (pa_cons (pe_bltn (v := .ty "bool") (by rfl) T.z_bool (by decide +kernel) rfl) pa_nil))))))))))) (pss_one (ps_ret pe_bl)) pss_nil))))))))))))))
      (pss_one (ps_ret pe_bl)))))))), ?_⟩
  refine law_T2 (δ := Unit) (ψ := fun _ => []) h (fun s B G0 =>
      (sv_seq (sv_asg (i := 2) (ve_frL (ve_callFT rfl (va_st s va_nil))) PxLe.nil) fun l_words_here_375 =>
      (sv_seq (sv_asg (i := 3) (ve_callGR rfl (va_st s (va_cons (ve_v (rLst rStr) (l_words_here_375)) va_nil))) PxLe.nil) fun l_grid_here_376 =>
      (sv_seq (sv_asg (i := 4) (ve_frL (ve_lstL (rLst (rLst rStr)) (fun a => [a.1, a.2.1]) (va_cons (ve_callFT rfl (va_st s (va_cons (ve_v (rLst (rLst rStr)) (l_grid_here_376)) (va_cons (ve_v (rLst rStr) (l_words_here_375)) va_nil)))) (va_cons (ve_callFT rfl (va_st s (va_cons (ve_v (rLst (rLst rStr)) (l_grid_here_376)) (va_cons (ve_v (rLst rStr) (l_words_here_375)) va_nil)))) va_nil)))) PxLe.nil) fun l_inners_379 =>
      (sv_seq (sv_asg (i := 5) (ve_frL (ve_lstL (rI_Table W_Table.C) (fun a => [a.1, a.2.1, a.2.2.1]) (va_cons (ve_frI (ve_make (va_cons (ve_v (rLst (rLst rStr)) (l_grid_here_376)) va_nil))) (va_cons (ve_frI (ve_make (va_cons (ve_op2 (ve_v (rLst (rLst (rLst rStr))) (l_inners_379)) (ve_c rInt 0 fun _ => rfl) v2_ixL) va_nil))) (va_cons (ve_frI (ve_make (va_cons (ve_op2 (ve_v (rLst (rLst (rLst rStr))) (l_inners_379)) (ve_c rInt 1 fun _ => rfl) v2_ixL) va_nil))) va_nil))))) PxLe.nil) fun l_tables_385 =>
      (sv_seq (sv_for (ψ := (fun s_387 : Unit => [.un, .fr (rSt s), .fr ((rLst rStr) (l_words_here_375)), .fr ((rLst (rLst rStr)) (l_grid_here_376)), .fr ((rLst (rLst (rLst rStr))) (l_inners_379)), .fr ((rLst (rI_Table W_Table.C)) (l_tables_385)), .un, .un, .un, .un, .un, .un, .un, .un, .un, .un, .un, .un])) (s0 := ()) (vi_range1 (ve_c rInt 8 fun _ => rfl)) PxLe.nil (Le.un (Le.same (Le.same (Le.same (Le.same (Le.same (Le.un (Le.un (Le.un (Le.un (Le.un (Le.un (Le.un (Le.un (Le.un (Le.un (Le.un (Le.un Le.nil)))))))))))))))))) (fun s_387 => (vg_name (i := 6))) (fun b_386 s_387 => (sv_seq (sv_asg (i := 7) (ve_op2 (ve_v (rLst (rLst (rLst rStr))) (l_inners_379)) (ve_op2 (ve_v rInt (b_386)) (ve_c rInt 2 fun _ => rfl) v2_mod) v2_ixL) PxLe.nil) fun l_inner_here_389 =>
      (sv_seq (sv_asg (i := 8) (ve_frL (ve_lstL (rI_Table W_Table.C) (fun a => [a.1, a.2.1]) (va_cons (ve_op2 (ve_v (rLst (rI_Table W_Table.C)) (l_tables_385)) (ve_c rInt 0 fun _ => rfl) v2_ixL) (va_cons (ve_op2 (ve_v (rLst (rI_Table W_Table.C)) (l_tables_385)) (ve_op2 (ve_c rInt 1 fun _ => rfl) (ve_op2 (ve_v rInt (b_386)) (ve_c rInt 2 fun _ => rfl) v2_mod) v2_add) v2_ixL) va_nil)))) PxLe.nil) fun l_desks_394 =>
      (sv_seq (sv_asg (i := 9) (ve_frL (ve_op2 (ve_frL (ve_cb (va_cons (ve_callF (va_cons (ve_v (rLst (rLst rStr)) (l_grid_here_376)) va_nil)) va_nil) vn_listT)) (ve_frL (ve_lstL rStr (fun a => [a.1]) (va_cons (ve_c rStr ("zz9" : Str) fun _ => rfl) va_nil))) v2_catL)) PxLe.nil) fun l_names_here_397 =>
      (sv_seq (sv_asg (i := 10) (ve_op2 (ve_v (rLst rStr) (l_names_here_397)) (ve_callFT rfl (va_st s (va_cons (ve_op2 (ve_cb (va_cons (ve_v (rLst rStr) (l_names_here_397)) va_nil) vn_lenL) (ve_cb (va_cons (ve_op2 (ve_callFT rfl (va_st s (va_cons (ve_c rInt 6 fun _ => rfl) va_nil))) (ve_c rInt 0 fun _ => rfl) v2_gt) va_nil) vn_intB) v2_sub) va_nil))) v2_ixL) PxLe.nil) fun l_label_403 =>
      (sv_seq (sv_asg (i := 11) (ve_op2 (ve_frL (ve_lstL rStr (fun a => [a.1, a.2.1, a.2.2.1, a.2.2.2.1, a.2.2.2.2.1, a.2.2.2.2.2.1, a.2.2.2.2.2.2.1, a.2.2.2.2.2.2.2.1]) (va_cons (ve_c rStr ("rows" : Str) fun _ => rfl) (va_cons (ve_c rStr ("columns" : Str) fun _ => rfl) (va_cons (ve_c rStr ("rows" : Str) fun _ => rfl) (va_cons (ve_c rStr ("columns" : Str) fun _ => rfl) (va_cons (ve_c rStr ("rows" : Str) fun _ => rfl) (va_cons (ve_c rStr ("columns" : Str) fun _ => rfl) (va_cons (ve_c rStr ("row" : Str) fun _ => rfl) (va_cons (ve_c rStr ("" : Str) fun _ => rfl) va_nil)))))))))) (ve_callFT rfl (va_st s (va_cons (ve_c rInt 8 fun _ => rfl) va_nil))) v2_ixL) PxLe.nil) fun l_who_405 =>
      (sv_seq (sv_asg (i := 12) (ve_frL (ve_cb (va_cons (ve_frL (ve_op2 (ve_frL (ve_lc (vs := [17]) (js := [17]) (vi_tup (ve_callF (va_cons (ve_v (rLst (rLst rStr)) (l_grid_here_376)) va_nil))) (hv1 rfl) (vg_name (i := 17)) (fun _ h => h) (fun b_406 => (vt_test (ve_op2 (ve_v rStr (b_406)) (ve_v rStr (l_label_403)) v2_neS))) (fun b_406 => (ve_v rStr (b_406))))) (ve_frL (ve_cb (va_cons (ve_callF (va_cons (ve_v (rLst (rLst rStr)) (l_inner_here_389)) va_nil)) va_nil) vn_listT)) v2_catL)) va_nil) vn_sortedS)) PxLe.nil) fun l_both_412 =>
      (sv_seq (sv_asg (i := 13) (ve_callFT rfl (va_st s (va_cons (ve_v (rLst rStr) (l_both_412)) (va_cons (ve_v rStr (l_label_403)) va_nil)))) PxLe.nil) fun l_chosen_413 =>
      (sv_seq (sv_asg (i := 14) (ve_callF (va_cons (ve_v (rLst (rLst rStr)) (l_grid_here_376)) (va_cons (ve_v rStr (l_label_403)) (va_cons (ve_v (rLst (rLst rStr)) (l_inner_here_389)) (va_cons (ve_v rStr (l_who_405)) (va_cons (ve_v rDat (l_chosen_413)) va_nil)))))) PxLe.nil) fun l_due_here_414 =>
      (sv_conv (χ := (fun s_387 : Unit => [.un, .fr (rSt s), .fr ((rLst rStr) (l_words_here_375)), .fr ((rLst (rLst rStr)) (l_grid_here_376)), .fr ((rLst (rLst (rLst rStr))) (l_inners_379)), .fr ((rLst (rI_Table W_Table.C)) (l_tables_385)), .un, .un, .un, .un, .un, .un, .un, .un, .un, .un, .un, .un])) (fun s_416 => ()) (sv_for (ψ := (fun s_416 : Unit => [.un, .fr (rSt s), .fr ((rLst rStr) (l_words_here_375)), .fr ((rLst (rLst rStr)) (l_grid_here_376)), .fr ((rLst (rLst (rLst rStr))) (l_inners_379)), .fr ((rLst (rI_Table W_Table.C)) (l_tables_385)), .fr (rInt (b_386)), .fr ((rLst (rLst rStr)) (l_inner_here_389)), .fr ((rLst (rI_Table W_Table.C)) (l_desks_394)), .fr ((rLst rStr) (l_names_here_397)), .fr (rStr (l_label_403)), .fr (rStr (l_who_405)), .fr ((rLst rStr) (l_both_412)), .fr (rDat (l_chosen_413)), .fr ((rPr rStr rDat) (l_due_here_414)), .un, .un, .un])) (s0 := ()) (vi_list (ve_frL (ve_lstL rInt (fun a => [a.1, a.2.1, a.2.2.1]) (va_cons (ve_c rInt 0 fun _ => rfl) (va_cons (ve_c rInt 1 fun _ => rfl) (va_cons (ve_c rInt 0 fun _ => rfl) va_nil)))))) PxLe.nil (Le.un (Le.same (Le.same (Le.same (Le.same (Le.same (Le.same (Le.same (Le.same (Le.same (Le.same (Le.same (Le.same (Le.same (Le.same (Le.un (Le.un (Le.un Le.nil)))))))))))))))))) (fun s_416 => (vg_name (i := 15))) (fun b_415 s_416 => (sv_seq (sv_asg (i := 16) (ve_callF (va_cons (ve_v rInt (b_415)) (va_cons (ve_v (rLst (rI_Table W_Table.C)) (l_desks_394)) (va_cons (ve_v rStr (l_label_403)) (va_cons (ve_v rStr (l_who_405)) (va_cons (ve_v rDat (l_chosen_413)) va_nil)))))) PxLe.nil) fun l_answer_417 =>
      (sv_conv (χ := (fun s_416 : Unit => [.un, .fr (rSt s), .fr ((rLst rStr) (l_words_here_375)), .fr ((rLst (rLst rStr)) (l_grid_here_376)), .fr ((rLst (rLst (rLst rStr))) (l_inners_379)), .fr ((rLst (rI_Table W_Table.C)) (l_tables_385)), .fr (rInt (b_386)), .fr ((rLst (rLst rStr)) (l_inner_here_389)), .fr ((rLst (rI_Table W_Table.C)) (l_desks_394)), .fr ((rLst rStr) (l_names_here_397)), .fr (rStr (l_label_403)), .fr (rStr (l_who_405)), .fr ((rLst rStr) (l_both_412)), .fr (rDat (l_chosen_413)), .fr ((rPr rStr rDat) (l_due_here_414)), .un, .un, .un])) (fun s_419 => ()) (sv_if (vt_orP (vt_test (ve_op2 (ve_v (rPr rStr rDat) (l_answer_417)) (ve_v (rPr rStr rDat) (l_due_here_414)) v2_neQ)) (vt_andP (vt_test (ve_op2 (ve_fst (ve_v (rPr rStr rDat) (l_answer_417))) (ve_c rStr ("told" : Str) fun _ => rfl) v2_eqS)) (vt_not (vt_b (ve_isiDbool (ve_snd (ve_v (rPr rStr rDat) (l_answer_417)))))))) PxLe.nil (sv_ret (ve_c rBl false fun _ => rfl) PxLe.nil) (sv_conv (χ := (fun s_419 : Unit => [.un, .fr (rSt s), .fr ((rLst rStr) (l_words_here_375)), .fr ((rLst (rLst rStr)) (l_grid_here_376)), .fr ((rLst (rLst (rLst rStr))) (l_inners_379)), .fr ((rLst (rI_Table W_Table.C)) (l_tables_385)), .fr (rInt (b_386)), .fr ((rLst (rLst rStr)) (l_inner_here_389)), .fr ((rLst (rI_Table W_Table.C)) (l_desks_394)), .fr ((rLst rStr) (l_names_here_397)), .fr (rStr (l_label_403)), .fr (rStr (l_who_405)), .fr ((rLst rStr) (l_both_412)), .fr (rDat (l_chosen_413)), .fr ((rPr rStr rDat) (l_due_here_414)), .fr (rInt (b_415)), .fr ((rPr rStr rDat) (l_answer_417)), .un])) (fun _ => ()) sv_nil (fun _ => (Le.un (Le.same (Le.same (Le.same (Le.same (Le.same (Le.same (Le.same (Le.same (Le.same (Le.same (Le.same (Le.same (Le.same (Le.same (Le.same (Le.same (Le.un Le.nil))))))))))))))))))))) (fun s_419 => (Le.un (Le.same (Le.same (Le.same (Le.same (Le.same (Le.same (Le.same (Le.same (Le.same (Le.same (Le.same (Le.same (Le.same (Le.same (Le.un (Le.un (Le.un Le.nil))))))))))))))))))))))) (fun s_416 => (Le.un (Le.same (Le.same (Le.same (Le.same (Le.same (Le.un (Le.un (Le.un (Le.un (Le.un (Le.un (Le.un (Le.un (Le.un (Le.un (Le.un (Le.un Le.nil)))))))))))))))))))))))))))))) fun s_387 =>
      (sv_ret (ve_c rBl true fun _ => rfl) PxLe.nil))))))) ?_
  delta F_law Mi.neQ Mi.datS Mi.inS Mi.niS Mi.sortSet Mi.insert Mi.dget Mi.comp2 Mi.exch Mi.two Mi.neD Mi.eqD Mi.inD Mi.inDT Mi.idx Mi.sgn Mi.rng Mi.comp Mi.join Mi.popAt Mi.popE Mi.sortI Mi.sortS Mi.sortD Mi.listD Mi.setL Mi.max Mi.min Mi.draw at hlaw; exact hlaw

end
end K66

namespace K66
open PySem PySem.Spec PyProof.Rows L2 VL
/-! ### names and tables -/
section
variable {Ψ : Exc → Nat → Prop} {n : Nat}
theorem F_valid_ok {z : Str} {Φ : Bool → Nat → Prop} (hg : good z = true) (k : Φ true n) : F_valid_name (z, ()) Φ Ψ n := by
  have hl := good_len hg
  have el : z.cps.toList.length = z.length := by simp [Str.length]
  obtain ⟨c, r, ec⟩ : ∃ c r, z.cps.toList = c :: r := by
    cases e : z.cps.toList with
    | nil => rw [show good z = goodL z.cps.toList from rfl, e] at hg; cases hg
    | cons c r => exact ⟨c, r, rfl⟩
  have elr : r.length + 1 = z.length := by rw [← el, ec]; rfl
  have hg2 : (decide (r.length < 6) && decide (c ∈ lets) && (c :: r).all okc) = true := by rw [show good z = goodL z.cps.toList from rfl, ec] at hg; exact hg
  rw [Bool.and_eq_true, Bool.and_eq_true] at hg2
  obtain ⟨⟨h1, h2⟩, h3⟩ := hg2
  delta F_valid_name
  refine ⟨size1000 (by show z.length ≤ 1000; omega), ?_⟩
  refine ite_ (fun _ => ?_) (fun h => absurd (of_decide_eq_false h) (by show ¬ ¬ (1 : Int) ≤ (z.length : Int); omega))
  refine ite_ (fun h => absurd h (by show ¬ (!decide ((z.length : Int) ≤ 6)) = true; simp; omega)) (fun _ => ?_)
  refine sgn_i (c := c) (size1000 (by show z.length ≤ 1000; omega)) (by rw [ec]; exact atI_nat (j := 0) rfl) ?_
  refine inS_i ?_
  refine ite_ (fun _ => ?_) (fun h => absurd (of_decide_eq_true h2) (of_decide_eq_false h))
  refine comp_map (fun _ => true) (fun x hx Φ' n' q => ?_) (by unfold VL.signs; rw [List.length_map, el]; omega) ?_
  · unfold VL.signs at hx
    obtain ⟨d, hd, rfl⟩ := List.mem_map.mp hx
    have hok : okc d = true := List.all_eq_true.mp h3 d (by rw [← ec]; exact hd)
    unfold okc at hok
    refine inS_i ?_
    refine ite_ (fun _ => q) (fun h => ?_)
    refine inS_i ?_
    have hb : decide (d ∈ digs) = true := by
      have h' : decide (d ∈ lets) = false := h
      rw [h', Bool.false_or] at hok
      exact hok
    have hb' : decide (d ∈ (Str.ofString "0123456789").cps.toList) = true := hb
    rw [hb']
    exact q
  · have : ((VL.signs z).map fun _ => true).all id = true := by
      rw [List.all_map]
      exact List.all_eq_true.mpr fun _ _ => rfl
    show Φ (((VL.signs z).map fun _ => true).all id) n
    rw [this]
    exact k
theorem F_as_set_ok {xs : List Str} {Φ : List Str → Nat → Prop} (h : xs.length ≤ 1000) (h2 : (distS xs).length < 64) (k : ∀ ys : List Str, ys.Perm (distS xs) → ys.Nodup → sortedS ys = true → Φ ys n) : F_as_set (xs, ()) Φ Ψ n := by
  delta F_as_set
  exact sortSet_i h h2 k
theorem F_check_count_ok {c : Int} {Φ : Unit → Nat → Prop} (h1 : 1 ≤ c) (h6 : c ≤ 6) (k : Φ () n) : F_check_count (c, ()) Φ Ψ n := by
  delta F_check_count
  refine ite_ (fun _ => ?_) (fun h => absurd (of_decide_eq_false h) (by omega))
  exact ite_ (fun h => absurd h (by simp; omega)) (fun _ => k)
theorem F_check_shape_ok {ws : List Str} {h w : Nat} {g : List (List Str)} {Φ : Unit → Nat → Prop} (G : Grid ws h w g) (h1 : 1 ≤ h) (h8 : h ≤ 8) (w1 : 1 ≤ w) (w8 : w ≤ 8) (k : Φ () n) : F_check_shape (g, ()) Φ Ψ n := by
  have hl := G.len
  delta F_check_shape
  refine ite_ (fun _ => ?_) (fun h => absurd (of_decide_eq_false h) (by show ¬ ¬ (1 : Int) ≤ (g.length : Int); omega))
  refine ite_ (fun h => absurd h (by show ¬ (!decide ((g.length : Int) ≤ 8)) = true; simp; omega)) (fun _ => ?_)
  obtain ⟨r, e0, hr, hrw⟩ := G.at_ (i := 0) (by omega)
  refine idx_i (x := r) (atI_nat (j := 0) e0) ?_
  refine ite_ (fun _ => ?_) (fun h => absurd (of_decide_eq_false h) (by rw [hrw]; omega))
  refine ite_ (fun h => absurd h (by rw [hrw]; simp; omega)) (fun _ => ?_)
  refine for_rule (fun _ _ n' => n' = n) rfl (fun i x s n' hx hI Φ' k1 _ => ?_) (fun s n' hI => ?_)
  · subst hI
    have hx' : x ∈ g := List.mem_of_getElem? hx
    refine ite_ (fun h => absurd h ?_) (fun _ => k1 () _ rfl)
    show ¬ (!decide ((x.length : Int) = (r.length : Int))) = true
    rw [G.row x hx', hrw]
    simp
  · subst hI; exact k
theorem F_exchanged_ok {ws : List Str} {h w : Nat} {g : List (List Str)} {Φ : List (List Str) → Nat → Prop} (G : Grid ws h w g) (h1 : 1 ≤ h) (h8 : h ≤ 8) (w1 : 1 ≤ w) (w8 : w ≤ 8) (k : Φ (colsL g w) n) : F_exchanged (g, ()) Φ Ψ n := by
  delta F_exchanged
  exact exch_i (m := w) (by rw [G.len]; omega) (by rw [G.len]; omega) (by omega) (by omega) G.row k
theorem flat_len {ws : List Str} {h w : Nat} {g : List (List Str)} (G : Grid ws h w g) (h8 : h ≤ 8) (w8 : w ≤ 8) : g.flatten.length ≤ 64 := by
  have go : ∀ l : List (List Str), (∀ r ∈ l, r.length ≤ 8) → l.flatten.length ≤ l.length * 8 := by
    intro l
    induction l with
    | nil => intro _; simp
    | cons r l ih =>
      intro hl
      have := ih fun z hz => hl z (List.mem_cons_of_mem _ hz)
      have := hl r List.mem_cons_self
      rw [List.flatten_cons, List.length_append, List.length_cons]
      omega
  have := go g fun r hr => by rw [G.row r hr]; exact w8
  have := G.len
  omega
/-- Table(..) of a right table -/
theorem F_Table_ok {ws : List Str} {h w : Nat} {g : List (List Str)} {Φ : d_Table → Nat → Prop} (G : Grid ws h w g) (h1 : 1 ≤ h) (h8 : h ≤ 8) (w1 : 1 ≤ w) (w8 : w ≤ 8) (hg : ∀ x ∈ ws, good x = true) (hc : ws.length ≤ 6)
    (k : ∀ o : List Str, o.Perm (distS g.flatten) → o.Nodup → sortedS o = true → o.length ≤ 6 → 1 ≤ o.length → Φ (o, g, colsL g w) n) : F_TableD_initD (g, ()) Φ Ψ n := by
  have hmem : ∀ x ∈ g.flatten, x ∈ ws := fun x hx => by
    obtain ⟨r, hr, hx⟩ := List.mem_flatten.mp hx
    exact G.mem r hr x hx
  have hfl := flat_len G h8 w8
  delta F_TableD_initD
  refine F_check_shape_ok G h1 h8 w1 w8 ?_
  refine comp2_pure (fun r => r) (fun _ x => some x) (by rw [G.len]; omega) (fun r hr => by rw [G.row r hr]; omega) (fun _ _ _ _ q => q) (fun _ _ _ _ _ _ q => q) ?_
  have e : (g.flatMap fun r => r.filterMap fun x => some x) = g.flatten := by
    rw [List.flatMap_def]
    congr 1
    rw [List.map_congr_left (g := id) (fun r _ => by simp)]
    simp
  show M.seqI _ _ Φ Ψ n
  rw [e]
  refine for_rule (fun _ _ n' => n' = n) rfl (fun i x s n' hx hI Φ' k1 _ => ?_) (fun s n' hI => ?_)
  · subst hI
    refine F_valid_ok (hg x (hmem x (List.mem_of_getElem? hx))) ?_
    exact ite_ (fun h => nomatch h) (fun _ => k1 () _ rfl)
  · subst hI
    have hd : (distS g.flatten).length ≤ 6 := Nat.le_trans (nodup_sub (distS_nd _) fun x hx => hmem x (distS_mem.mp hx)) hc
    refine F_as_set_ok (by omega) (by omega) fun o ho hn hs => ?_
    have hlo : o.length ≤ 6 := by rw [ho.length_eq]; exact hd
    have hlo1 : 1 ≤ o.length := by
      obtain ⟨x, hx, _⟩ := G.cell (i := 0) (j := 0) (by omega) (by omega)
      have : x ∈ g.flatten := by
        unfold VL.cell at hx
        cases e : g[0]? with
        | none => rw [e] at hx; cases hx
        | some r =>
          rw [e] at hx
          exact List.mem_flatten.mpr ⟨r, List.mem_of_getElem? e, List.mem_of_getElem? hx⟩
      exact List.length_pos_of_mem (ho.mem_iff.mpr (distS_mem.mpr this))
    refine F_check_count_ok (by show (1 : Int) ≤ (o.length : Int); omega) (by show (o.length : Int) ≤ 6; omega) ?_
    refine comp_map (fun r => r) (fun _ _ _ _ q => q) (by rw [G.len]; omega) ?_
    rw [List.map_id']
    exact F_exchanged_ok G h1 h8 w1 w8 (k o ho hn hs hlo hlo1)
end
/-! ### the drawn table -/
section
variable {Ψ : Exc → Nat → Prop} {n : Nat}
theorem F_shuf_ok {xs : List Str} {Φ : List Str → Nat → Prop} (hl : xs.length ≤ 10) (hn : n ≤ 900000) (k : ∀ ys n', ys.Perm xs → n' ≤ n + 10 → Φ ys n') : F_Lshuffled (xs, ()) Φ Ψ n := by
  delta F_Lshuffled
  refine rng0 (m := xs.length) (by omega) ?_
  refine for_rule (fun i s n' => n' = n + i ∧ s.2.length + i = xs.length ∧ s.1.length = i ∧ (s.1 ++ s.2).Perm xs) ⟨rfl, rfl, rfl, List.Perm.refl _⟩ (fun i x s n' hx hI Φ' k1 _ => ?_) (fun s n' hI => ?_)
  · obtain ⟨rfl, h1, h2, h3⟩ := hI
    obtain ⟨rfl, hi⟩ := range_at hx
    refine draw_ok (by omega) (by show (0 : Int) < (s.2.length : Int); omega) (by show (s.2.length : Int) < 2 ^ 100; omega) fun d d0 d1 => ?_
    refine popAt_ok d0 d1 (by omega) fun m hm _ => ⟨small1000 (by omega), ?_⟩
    refine k1 _ _ ⟨by omega, ?_, ?_, ?_⟩
    · show (s.2.eraseIdx m).length + (i + 1) = xs.length
      rw [List.length_eraseIdx, if_pos hm]; omega
    · show (s.1 ++ [s.2[m]]).length = i + 1
      rw [List.length_append, h2]; rfl
    · show ((s.1 ++ [s.2[m]]) ++ s.2.eraseIdx m).Perm xs
      rw [List.append_assoc]
      exact (List.Perm.append_left s.1 (erase_perm hm)).trans h3
  · obtain ⟨rfl, h1, h2, h3⟩ := hI
    have : s.2 = [] := List.eq_nil_of_length_eq_zero (by rw [List.length_map, List.length_range] at h1; omega)
    rw [this, List.append_nil] at h3
    exact k s.1 _ h3 (by rw [List.length_map, List.length_range]; omega)
theorem F_words_ok {Φ : List Str → Nat → Prop} (hn : n ≤ 800000) (k : ∀ ws n', Six ws → n' ≤ n + 20 → Φ ws n') : F_Lwords () Φ Ψ n := by
  delta F_Lwords
  refine ⟨by decide, by decide, ?_⟩
  refine draw_ok (by omega) (by decide) (by decide) fun d d0 d1 => ?_
  refine idx_ok d0 d1 fun ws hw _ => ?_
  have six : Six ws := by
    have hw : ws ∈ [[("a" : Str), "b", "c", "d", "e", "f"], ["x", "xy", "y", "x1", "x10", "yx"], ["win1", "win2", "rows", "coffee", "w", "z9"], ["turn", "take", "put", "cell", "rows", "x"]] := hw
    have : ∀ ws ∈ [[("a" : Str), "b", "c", "d", "e", "f"], ["x", "xy", "y", "x1", "x10", "yx"], ["win1", "win2", "rows", "coffee", "w", "z9"], ["turn", "take", "put", "cell", "rows", "x"]], ws.length = 6 ∧ ws.all good = true := by decide +kernel
    exact ⟨(this ws hw).1, fun x hx => List.all_eq_true.mp (this ws hw).2 x hx⟩
  exact F_shuf_ok (by rw [six.len]; decide) (by omega) fun ys n' p hn' => k ys n' (six.perm p) (by omega)
theorem F_flip_ok {ws : List Str} {h w : Nat} {g : List (List Str)} {Φ : List (List Str) → Nat → Prop} (G : Grid ws h w g) (h1 : 1 ≤ h) (h8 : h ≤ 1000) (w8 : w ≤ 1000) (k : Φ (colsL g w) n) : F_Lflipped (g, ()) Φ Ψ n := by
  delta F_Lflipped
  obtain ⟨r, e0, hr, hrw⟩ := G.at_ (i := 0) (by omega)
  refine idx_i (x := r) (atI_nat (j := 0) e0) ?_
  refine rng0 (m := r.length) (by omega) ?_
  refine comp_map (fun k : Int => g.filterMap (·[k.toNat]?)) (fun x hx Φ' n' q => ?_) (by rw [List.length_map, List.length_range]; omega) ?_
  · obtain ⟨j, hj, rfl⟩ := List.mem_map.mp hx
    rw [List.mem_range] at hj
    refine comp_pure (fun r : List Str => r[(j : Int).toNat]?) (fun x hx Φ' n' q => ?_) (by show g.length ≤ 1000; rw [G.len]; omega) q
    refine idx_ok (by omega) (by rw [G.row x hx]; omega) fun y _ hy => ?_
    rw [hy] at q
    exact q
  · rw [List.map_map, hrw]
    exact k
theorem F_stack_ok {ws : List Str} {h w h' w' : Nat} {g g' : List (List Str)} {Φ : List (List Str) → Nat → Prop} (G : Grid ws h w g) (G' : Grid ws h' w' g') (h1 : 1 ≤ h) (h8 : h ≤ 8) (w1 : 1 ≤ w) (w8 : w ≤ 8) (h1' : 1 ≤ h') (h8' : h' ≤ 8) (w1' : 1 ≤ w') (w8' : w' ≤ 8)
    (k : ∀ m, Grid ws (h + h') (w * w') m → Φ m n) : F_Lstacked (g, (g', ())) Φ Ψ n := by
  obtain ⟨r0, e0, hr0, hrw0⟩ := G.at_ (i := 0) (by omega)
  obtain ⟨r1, e1, hr1, hrw1⟩ := G'.at_ (i := 0) (by omega)
  have hw64 : w * w' ≤ 8 * 8 := Nat.mul_le_mul w8 w8'
  delta F_Lstacked
  refine for_rule (fun i s n' => n' = n ∧ Grid ws i (w * w') s) ⟨rfl, .nil⟩ (fun i x s n' hx hI Φ' k1 _ => ?_) (fun s n' hI => ?_)
  · obtain ⟨rfl, hG⟩ := hI
    have hxg : x ∈ g := List.mem_of_getElem? hx
    have hxi : i < g.length := (List.getElem?_eq_some_iff.mp hx).1
    rw [G.len] at hxi
    refine for_rule (fun j s m' => m' = n' ∧ s.length = j * w' ∧ ∀ y ∈ s, y ∈ ws) ⟨rfl, by simp, (fun _ h => nomatch h)⟩ (fun j y s n' hy hI Φ'' k2 _ => ?_) (fun s n' hI => ?_)
    · obtain ⟨rfl, hs, hm⟩ := hI
      have hyi : j < x.length := (List.getElem?_eq_some_iff.mp hy).1
      rw [G.row x hxg] at hyi
      have hjw : j * w' ≤ 8 * 8 := Nat.mul_le_mul (by omega) w8'
      obtain ⟨f1, f2⟩ := rep_flat ((r1.length : Int)).toNat [y]
      refine idx_i (x := r1) (atI_nat (j := 0) e1) ?_
      refine ⟨⟨by omega, by omega, ?_⟩, ?_⟩
      · show 1 * ((r1.length : Int)).toNat ≤ sizeLine
        rw [hrw1]; exact size1000 (by omega)
      refine ⟨?_, ?_⟩
      · rw [f1, hs, hrw1]; exact size1000 (by simp; omega)
      refine k2 _ _ ⟨rfl, ?_, fun z hz => ?_⟩
      · rw [List.length_append, f1, hs, hrw1, Nat.succ_mul]; simp
      · rcases List.mem_append.mp hz with hz | hz
        · exact hm z hz
        · rw [List.mem_singleton.mp (f2 z hz)]
          exact G.mem x hxg y (List.mem_of_getElem? hy)
    · obtain ⟨rfl, hs, hm⟩ := hI
      refine ⟨small1000 (by rw [hG.len]; omega), ?_⟩
      exact k1 _ _ ⟨rfl, hG.snoc (by rw [hs, G.row x hxg]) hm⟩
  · obtain ⟨rfl, hG⟩ := hI
    rw [G.len] at hG
    refine for_rule (fun i s m' => m' = n' ∧ Grid ws (h + i) (w * w') s) ⟨rfl, hG⟩ (fun i x s n' hx hI Φ' k1 _ => ?_) (fun s n' hI => ?_)
    · obtain ⟨rfl, hG⟩ := hI
      have hxg : x ∈ g' := List.mem_of_getElem? hx
      have hxi : i < g'.length := (List.getElem?_eq_some_iff.mp hx).1
      rw [G'.len] at hxi
      obtain ⟨f1, f2⟩ := rep_flat ((r0.length : Int)).toNat x
      refine idx_i (x := r0) (atI_nat (j := 0) e0) ?_
      refine ⟨⟨by omega, by omega, ?_⟩, ?_⟩
      · rw [G'.row x hxg, hrw0]
        refine size1000 ?_
        show w' * ((w : Int)).toNat ≤ 1000
        rw [show ((w : Int)).toNat = w from rfl, Nat.mul_comm]; omega
      refine ⟨small1000 (by rw [hG.len]; omega), ?_⟩
      refine k1 _ _ ⟨rfl, hG.snoc ?_ fun z hz => G'.mem x hxg z (f2 z hz)⟩
      rw [f1, hrw0, G'.row x hxg]; rfl
    · obtain ⟨rfl, hG⟩ := hI
      rw [G'.len] at hG
      exact k s hG
end
end K66

namespace K66
open PySem PySem.Spec PyProof.Rows L2 VL
theorem F_any_ok {ws : List Str} {Φ : List (List Str) → Nat → Prop} (W : Six ws) (hn : n ≤ 900000) (k : ∀ g n', Grid8 ws g → n' ≤ n + 100 → Φ g n') : F_Lany_grid (ws, ()) Φ Ψ n := by
  have h6 := W.len
  delta F_Lany_grid
  refine draw_ok (by omega) (by decide) (by decide) fun d d0 d1 => ?_
  refine idx_ok d0 d1 fun most hm _ => ?_
  have hm : most ∈ [(2 : Int), 3, 4, 8] := hm
  have hm2 : 2 ≤ most ∧ most ≤ 8 := by
    simp only [List.mem_cons, List.not_mem_nil, or_false] at hm
    omega
  refine draw_ok (by omega) (by show (0 : Int) < most; omega) (by show most < 2 ^ 100; omega) fun a (a0 : 0 ≤ a) (a1 : a < most) => ?_
  refine draw_ok (by omega) (by show (0 : Int) < most; omega) (by show most < 2 ^ 100; omega) fun b (b0 : 0 ≤ b) (b1 : b < most) => ?_
  refine draw_ok (by omega) (by decide) (by decide) fun c (c0 : 0 ≤ c) (c1 : c < 6) => ?_
  obtain ⟨a, rfl⟩ := Int.eq_ofNat_of_zero_le a0
  obtain ⟨b, rfl⟩ := Int.eq_ofNat_of_zero_le b0
  refine rng_ok (by omega) (by omega) (by omega) (by omega) ?_
  refine comp_rule (fun i acc n' => n' = n + 4 + i * (1 + b) ∧ Grid ws i (1 + b) acc) (by rw [rngI_len]; omega) ⟨by omega, .nil⟩ (fun i x acc n' hx hI Φ' k1 => ?_) (fun acc n' hI => ?_)
  · obtain ⟨rfl, hG⟩ := hI
    have hi := (rngI_at hx).2
    have hi8 : i * (1 + b) ≤ 8 * 8 := Nat.mul_le_mul (by omega) (by omega)
    refine rng_ok (by omega) (by omega) (by omega) (by omega) ?_
    refine comp_rule (fun j acc m' => m' = n + 4 + i * (1 + b) + j ∧ acc.length = j ∧ ∀ y ∈ acc, y ∈ ws) (by rw [rngI_len]; omega) ⟨by omega, rfl, (fun _ h => nomatch h)⟩ (fun j y acc m' hy hJ Φ'' k2 => ?_) (fun acc m' hJ => ?_)
    · obtain ⟨rfl, hl, hm⟩ := hJ
      have hj := (rngI_at hy).2
      refine draw_ok (by omega) (by show (0 : Int) < 1 + c; omega) (by show 1 + c < 2 ^ 100; omega) fun e (e0 : 0 ≤ e) (e1 : e < 1 + c) => ?_
      refine idx_ok e0 (by show e < (ws.length : Int); omega) fun z hz _ => ?_
      refine k2 _ _ ⟨by omega, by show (acc ++ [z]).length = j + 1; rw [List.length_append, hl]; rfl, fun y hy => ?_⟩
      rcases List.mem_append.mp hy with hy | hy
      · exact hm y hy
      · rw [List.mem_singleton.mp hy]; exact hz
    · obtain ⟨rfl, hl, hm⟩ := hJ
      rw [rngI_len] at hl
      refine k1 _ _ ⟨?_, hG.snoc (by omega) hm⟩
      rw [rngI_len, Nat.succ_mul]; omega
  · obtain ⟨rfl, hG⟩ := hI
    rw [rngI_len] at hG
    have e1 : (1 + (a : Int) - 0).toNat = 1 + a := by omega
    rw [rngI_len, e1]
    rw [e1] at hG
    have : (1 + a) * (1 + b) ≤ 8 * 8 := Nat.mul_le_mul (by omega) (by omega)
    exact k acc _ ⟨1 + a, 1 + b, by omega, by omega, by omega, by omega, hG⟩ (by omega)
theorem F_tree_ok {ws : List Str} {Φ : List (List Str) → Nat → Prop} (W : Six ws) (hn : n ≤ 900000) (k : ∀ g n', Grid8 ws g → n' ≤ n + 100 → Φ g n') : F_Ltree_grid (ws, ()) Φ Ψ n := by
  have h6 := W.len
  delta F_Ltree_grid
  refine draw_ok (by omega) (by decide) (by decide) fun d d0 d1 => ?_
  have d0 : 0 ≤ d := d0
  have d1 : d < 5 := d1
  obtain ⟨d, rfl⟩ := Int.eq_ofNat_of_zero_le d0
  have ec : cutL ws none (some ((2 : Int) + (d : Int))) = ws.take (2 + d) := by
    rw [show ((2 : Int) + (d : Int)) = ((2 + d : Nat) : Int) by omega]
    exact cutL_take (by omega)
  have lt : (ws.take (2 + d)).length = 2 + d := by rw [List.length_take]; omega
  refine comp_map (fun b => [[b]]) (fun _ _ _ _ q => q) (by show (cutL ws none (some ((2 : Int) + (d : Int)))).length ≤ 1000; rw [ec, lt]; omega) ?_
  show M.seq _ _ _ Ψ _
  rw [ec]
  refine rng_ok (by omega) (by omega) (by omega) (by omega) ?_
  refine for_rule (fun i parts n' => n' ≤ n + 1 + 3 * i ∧ 1 ≤ parts.length ∧ parts.length ≤ 6 ∧ ∀ g ∈ parts, Grid8 ws g) ⟨by omega, by rw [List.length_map, lt]; omega, by rw [List.length_map, lt]; omega, fun g hg => ?_⟩ (fun i x parts n' hx hI Φ' k1 k2 => ?_) (fun parts n' hI => ?_)
  · obtain ⟨b, hb, rfl⟩ := List.mem_map.mp hg
    exact ⟨1, 1, by omega, by omega, by omega, by omega, rfl, fun r hr => by rw [List.mem_singleton.mp hr]; rfl, fun r hr y hy => by
      rw [List.mem_singleton.mp hr] at hy
      rw [List.mem_singleton.mp hy]
      exact List.mem_of_mem_take hb⟩
  · obtain ⟨hn', hp1, hp6, hp⟩ := hI
    have hi : (i : Int) < 6 := by have := (rngI_at hx).2; omega
    refine ite_ (fun _ => ?_) (fun hne => ?_)
    · exact idx_ok (by decide) (by show (0 : Int) < (parts.length : Int); omega) fun g hg _ => k2 _ _ (k g n' (hp g hg) (by omega))
    · have hne : ¬ ((parts.length : Int) = 1) := of_decide_eq_false hne
      refine draw_ok (by omega) (by show (0 : Int) < (parts.length : Int); omega) (by show (parts.length : Int) < 2 ^ 100; omega) fun e e0 e1 => ?_
      refine popAt_ok e0 e1 (by omega) fun m hm _ => ?_
      have hl1 : (parts.eraseIdx m).length = parts.length - 1 := by rw [List.length_eraseIdx, if_pos hm]
      refine draw_ok (by omega) (by show (0 : Int) < ((parts.eraseIdx m).length : Int); omega) (by show ((parts.eraseIdx m).length : Int) < 2 ^ 100; omega) fun e' e0' e1' => ?_
      refine popAt_ok e0' e1' (by show (parts.eraseIdx m).length ≤ 1000000; omega) fun m' hm' _ => ?_
      have hm' : m' < (parts.eraseIdx m).length := hm'
      obtain ⟨h, w, a1, a2, a3, a4, G⟩ := hp parts[m] (List.getElem_mem _)
      have hp2 : ∀ g ∈ parts.eraseIdx m, Grid8 ws g := fun g hg => hp g ((List.eraseIdx_subset) hg)
      obtain ⟨h', w', b1, b2, b3, b4, G'⟩ := hp2 (parts.eraseIdx m)[m'] (List.getElem_mem _)
      have hl2 : ((parts.eraseIdx m).eraseIdx m').length = parts.length - 2 := by rw [List.length_eraseIdx, if_pos hm']; omega
      have q1 : 1 * 1 ≤ w * w' := Nat.mul_le_mul a3 b3
      have q2 : w * w' ≤ 8 * 8 := Nat.mul_le_mul a4 b4
      have q3 : 1 * 1 ≤ h * h' := Nat.mul_le_mul a1 b1
      have q4 : h * h' ≤ 8 * 8 := Nat.mul_le_mul a2 b2
      refine F_stack_ok G G' a1 a2 a3 a4 b1 b2 b3 b4 fun made hmade => ?_
      refine seq_post (fun mg n2 => n2 ≤ n' + 3 ∧ ∃ H W, 1 ≤ H ∧ H ≤ 64 ∧ 1 ≤ W ∧ W ≤ 64 ∧ Grid ws H W mg) (fun Φ2 p1 p2 => ?_) fun mg n2 hmg => ?_
      · refine draw_ok (by omega) (by decide) (by decide) fun f f0 f1 => ?_
        refine ite_ (fun _ => ?_) (fun _ => p1 _ _ ⟨by omega, h + h', w * w', by omega, by omega, by omega, by omega, hmade⟩)
        refine F_flip_ok G a1 (by omega) (by omega) ?_
        refine F_flip_ok G' b1 (by omega) (by omega) ?_
        refine F_stack_ok G.cols G'.cols a3 a4 a1 a2 b3 b4 b1 b2 fun m2 hm2 => ?_
        refine F_flip_ok hm2 (by omega) (by omega) (by omega) ?_
        exact p1 _ _ ⟨by omega, h * h', w + w', by omega, by omega, by omega, by omega, hm2.cols⟩
      · obtain ⟨hn2, H, W', c1, c2, c3, c4, GG⟩ := hmg
        refine seq_post (fun g n3 => n3 = n2 ∧ Grid8 ws g) (fun Φ2 p1 p2 => ?_) fun g n3 hg => ?_
        · have hgood : H ≤ 8 → W' ≤ 8 → Grid8 ws mg := fun x y => ⟨H, W', c1, x, c3, y, GG⟩
          have hone : Grid8 ws parts[m] := ⟨h, w, a1, a2, a3, a4, G⟩
          refine ite_ (fun _ => ?_) (fun h8 => ?_)
          · exact ite_ (fun _ => p1 _ _ ⟨rfl, hone⟩) (fun z => nomatch z)
          · have h8 : ¬ (8 : Int) < (mg.length : Int) := of_decide_eq_false h8
            obtain ⟨r, e0, hr, hrw⟩ := GG.at_ (i := 0) (by omega)
            refine idx_i (x := r) (atI_nat (j := 0) e0) ?_
            refine ite_ (fun _ => p1 _ _ ⟨rfl, hone⟩) (fun z => p1 _ _ ⟨rfl, hgood ?_ ?_⟩)
            · rw [GG.len] at h8; omega
            · have z : ¬ (8 : Int) < (r.length : Int) := of_decide_eq_false z
              rw [hrw] at z; omega
        · obtain ⟨rfl, hg⟩ := hg
          refine ⟨small1000 (by show ((parts.eraseIdx m).eraseIdx m').length ≤ 1000; omega), ?_⟩
          refine k1 _ _ ⟨by omega, ?_, ?_, fun z hz => ?_⟩
          · rw [List.length_append]; simp
          · show (((parts.eraseIdx m).eraseIdx m') ++ [g]).length ≤ 6
            rw [List.length_append, hl2]; simp; omega
          · rcases List.mem_append.mp hz with hz | hz
            · exact hp2 z ((List.eraseIdx_subset) hz)
            · rw [List.mem_singleton.mp hz]; exact hg
  · obtain ⟨hn', hp1, hp6, hp⟩ := hI
    rw [rngI_len] at hn'
    exact idx_ok (by decide) (by show (0 : Int) < (parts.length : Int); omega) fun g hg _ => k g n' (hp g hg) (by omega)
theorem F_ren_ok {ws : List Str} {g : List (List Str)} {Φ : List (List Str) → Nat → Prop} (W : Six ws) (G : Grid8 ws g) (hn : n ≤ 900000) (k : ∀ g n', Grid8 ws g → n' ≤ n + 10 → Φ g n') : F_Lrenamed (g, (ws, ())) Φ Ψ n := by
  have h6 := W.len
  obtain ⟨h, w, a1, a2, a3, a4, G⟩ := G
  delta F_Lrenamed
  refine draw_ok (by omega) (by decide) (by decide) fun c (c0 : 0 ≤ c) (c1 : c < 6) => ?_
  refine for_rule (fun i d n' => n' = n + 1 + i ∧ d.length ≤ i ∧ (∀ j x, j < i → ws[j]? = some x → ∃ y, getD d x = some y ∧ y ∈ ws)) ⟨rfl, Nat.le_refl _, (fun _ _ h => nomatch h)⟩ (fun i x d n' hx hI Φ' k1 _ => ?_) (fun d n' hI => ?_)
  · obtain ⟨rfl, hl, hd⟩ := hI
    have hi : i < ws.length := (List.getElem?_eq_some_iff.mp hx).1
    refine draw_ok (by omega) (by show (0 : Int) < 1 + c; omega) (by show 1 + c < 2 ^ 100; omega) fun e (e0 : 0 ≤ e) (e1 : e < 1 + c) => ?_
    refine idx_ok e0 (by show e < (ws.length : Int); omega) fun z hz _ => ?_
    refine ⟨small1000 (by omega), ?_⟩
    refine k1 _ _ ⟨by omega, Nat.le_trans putD_len (by omega), fun j y hj hy => ?_⟩
    rw [getD_put]
    by_cases q : y = x
    · rw [if_pos q]; exact ⟨z, rfl, hz⟩
    · rw [if_neg q]
      refine hd j y ?_ hy
      have : j ≠ i := fun e => by
        subst e
        rw [hx] at hy
        exact q (Option.some.inj hy).symm
      omega
  · obtain ⟨rfl, hl, hd⟩ := hI
    have hget : ∀ x ∈ ws, ∃ y, getD d x = some y ∧ y ∈ ws := fun x hx => by
      obtain ⟨j, hj, e⟩ := List.mem_iff_getElem.mp hx
      exact hd j x hj (by rw [List.getElem?_eq_getElem hj, e])
    refine comp_rule (fun i acc n' => n' = n + 1 + ws.length ∧ Grid ws i w acc) (by show g.length ≤ 1000; rw [G.len]; omega) ⟨rfl, .nil⟩ (fun i r acc n' hr hI Φ' k1 => ?_) (fun acc n' hI => ?_)
    · obtain ⟨rfl, hG⟩ := hI
      have hrg : r ∈ g := List.mem_of_getElem? hr
      refine comp_rule (fun j acc m' => m' = n + 1 + ws.length ∧ acc.length = j ∧ ∀ y ∈ acc, y ∈ ws) (by show r.length ≤ 1000; rw [G.row r hrg]; omega) ⟨rfl, rfl, (fun _ h => nomatch h)⟩ (fun j x acc m' hx hJ Φ'' k2 => ?_) (fun acc m' hJ => ?_)
      · obtain ⟨rfl, hl, hm⟩ := hJ
        obtain ⟨y, hy, hyw⟩ := hget x (G.mem r hrg x (List.mem_of_getElem? hx))
        refine dget_i hy ?_
        refine k2 _ _ ⟨rfl, by show (acc ++ [y]).length = j + 1; rw [List.length_append, hl]; rfl, fun z hz => ?_⟩
        rcases List.mem_append.mp hz with hz | hz
        · exact hm z hz
        · rw [List.mem_singleton.mp hz]; exact hyw
      · obtain ⟨rfl, hl, hm⟩ := hJ
        exact k1 _ _ ⟨rfl, hG.snoc (by rw [hl]; exact G.row r hrg) hm⟩
    · obtain ⟨rfl, hG⟩ := hI
      have hG : Grid ws g.length w acc := hG
      rw [G.len] at hG
      exact k acc _ ⟨h, w, a1, a2, a3, a4, hG⟩ (by omega)
theorem F_smooth_ok {ws : List Str} {Φ : List (List Str) → Nat → Prop} (W : Six ws) (hn : n ≤ 900000) (k : ∀ g n', Grid8 ws g → n' ≤ n + 100 → Φ g n') : F_Lsmooth_grid (ws, ()) Φ Ψ n := by
  have h6 := W.len
  delta F_Lsmooth_grid
  refine idx_ok (by decide) (by show (0 : Int) < (ws.length : Int); omega) fun x0 hx0 _ => ?_
  refine draw_ok (by omega) (by decide) (by decide) fun c (c0 : 0 ≤ c) (c1 : c < 9) => ?_
  refine rng_ok (by omega) (by omega) (by omega) (by omega) ?_
  refine for_rule (fun i g n' => n' ≤ n + 1 + 4 * i ∧ Grid8 ws g) ⟨by omega, 1, 1, by omega, by omega, by omega, by omega, rfl, fun r hr => by rw [List.mem_singleton.mp hr]; rfl, fun r hr y hy => by
      rw [List.mem_singleton.mp hr] at hy
      rw [List.mem_singleton.mp hy]
      exact hx0⟩ (fun i x g n' hx hI Φ' k1 _ => ?_) (fun g n' hI => ?_)
  · obtain ⟨hn', hG⟩ := hI
    have hi : (i : Int) < 9 := by have := (rngI_at hx).2; omega
    refine draw_ok (by omega) (by decide) (by decide) fun p (p0 : 0 ≤ p) (p1 : p < 4) => ?_
    refine ⟨by decide, pure_i ?_⟩
    refine seq_post (fun g m => m = n' + 1 ∧ Grid8 ws g) (fun Φ2 q1 q2 => ?_) fun g2 m hg2 => ?_
    · obtain ⟨h, w, a1, a2, a3, a4, G⟩ := hG
      exact ite_ (fun _ => F_flip_ok G a1 (by omega) (by omega) (q1 _ _ ⟨rfl, w, h, a3, a4, a1, a2, G.cols⟩)) (fun _ => q1 _ _ ⟨rfl, h, w, a1, a2, a3, a4, G⟩)
    obtain ⟨rfl, h, w, a1, a2, a3, a4, G⟩ := hg2
    obtain ⟨r0, e0, hr0, hrw0⟩ := G.at_ (i := 0) (by omega)
    refine draw_ok (by omega) (by decide) (by decide) fun e (f0 : 0 ≤ e) (f1 : e < 6) => ?_
    refine idx_ok f0 (by show e < (ws.length : Int); omega) fun z hz _ => ?_
    refine idx_i (x := r0) (atI_nat (j := 0) e0) ?_
    obtain ⟨r1, r2⟩ := rep_flat ((r0.length : Int)).toNat [z]
    refine ⟨⟨by omega, by omega, ?_⟩, ?_⟩
    · show 1 * ((r0.length : Int)).toNat ≤ sizeLine
      rw [hrw0]; exact size1000 (by omega)
    refine seq_post (fun line m => m ≤ n' + 3 ∧ line.length = w ∧ ∀ y ∈ line, y ∈ ws) (fun Φ2 q1 q2 => ?_) fun line m hline => ?_
    · refine ite_ (fun _ => ?_) (fun _ => q1 _ _ ⟨by omega, ?_, fun y hy => by rw [List.mem_singleton.mp (r2 y hy)]; exact hz⟩)
      · refine draw_ok (by omega) (by show (0 : Int) < (g2.length : Int); rw [G.len]; omega) (by show (g2.length : Int) < 2 ^ 100; rw [G.len]; omega) fun e s0 s1 => ?_
        refine idx_ok s0 s1 fun r hr _ => ?_
        exact q1 _ _ ⟨by omega, G.row r hr, G.mem r hr⟩
      · rw [r1, hrw0]; simp
    obtain ⟨hm, hl, hw⟩ := hline
    refine seq_post (fun g m => m ≤ n' + 4 ∧ Grid8 ws g) (fun Φ2 q1 q2 => ?_) fun g3 m3 hg3 => ?_
    · refine ite_ (fun h8 => ?_) (fun _ => q1 _ _ ⟨by omega, h, w, a1, a2, a3, a4, G⟩)
      have h8 : (g2.length : Int) < 8 := of_decide_eq_true h8
      rw [G.len] at h8
      refine draw_ok (by omega) (by show (0 : Int) < (g2.length : Int) + 1; omega) (by show (g2.length : Int) + 1 < 2 ^ 100; rw [G.len]; omega) fun e (s0 : 0 ≤ e) (s1 : e < (g2.length : Int) + 1) => ?_
      refine insert_i (by rw [G.len]; omega) s0 (by omega) ?_
      refine q1 _ _ ⟨by omega, h + 1, w, by omega, by omega, a3, a4, ⟨?_, fun r hr => ?_, fun r hr => ?_⟩⟩
      · rw [List.length_append, List.length_append, List.length_take, List.length_drop, G.len]
        have := G.len
        simp only [List.length_singleton]
        omega
      · rcases List.mem_append.mp hr with hr | hr
        · rcases List.mem_append.mp hr with hr | hr
          · exact G.row r (List.mem_of_mem_take hr)
          · rw [List.mem_singleton.mp hr]; exact hl
        · exact G.row r (List.mem_of_mem_drop hr)
      · rcases List.mem_append.mp hr with hr | hr
        · rcases List.mem_append.mp hr with hr | hr
          · exact G.mem r (List.mem_of_mem_take hr)
          · rw [List.mem_singleton.mp hr]; exact hw
        · exact G.mem r (List.mem_of_mem_drop hr)
    obtain ⟨hm3, h, w, a1, a2, a3, a4, G⟩ := hg3
    exact ite_ (fun _ => F_flip_ok G a1 (by omega) (by omega) (k1 _ _ ⟨by omega, w, h, a3, a4, a1, a2, G.cols⟩)) (fun _ => k1 _ _ ⟨by omega, h, w, a1, a2, a3, a4, G⟩)
  · obtain ⟨hn', hG⟩ := hI
    rw [rngI_len] at hn'
    exact k g n' hG (by omega)
/-- the drawn table: of 1 to 8 lines a side, of the given names -/
theorem F_grid_ok {ws : List Str} {Φ : List (List Str) → Nat → Prop} (W : Six ws) (hn : n ≤ 800000) (k : ∀ g n', Grid8 ws g → n' ≤ n + 600 → Φ g n') : F_Lgrid (ws, ()) Φ Ψ n := by
  have h6 := W.len
  delta F_Lgrid
  refine draw_ok (by omega) (by decide) (by decide) fun p _ _ => ?_
  refine F_any_ok W (by omega) fun g n1 hg hn1 => ?_
  refine seq_post (fun g m => m ≤ n + 210 ∧ Grid8 ws g) (fun Φ2 q1 q2 => ?_) fun g m hg => ?_
  · exact ite_ (fun _ => F_tree_ok W (by omega) fun g n2 hg hn2 => q1 _ _ ⟨by omega, hg⟩) (fun _ => q1 _ _ ⟨by omega, hg⟩)
  obtain ⟨hm, hg⟩ := hg
  refine seq_post (fun g m => m ≤ n + 330 ∧ Grid8 ws g) (fun Φ2 q1 q2 => ?_) fun g m hg => ?_
  · exact ite_ (fun _ => F_tree_ok W (by omega) fun g n2 hg hn2 => F_ren_ok W hg (by omega) fun g n3 hg hn3 => q1 _ _ ⟨by omega, hg⟩) (fun _ => q1 _ _ ⟨by omega, hg⟩)
  obtain ⟨hm, hg⟩ := hg
  refine seq_post (fun g m => m ≤ n + 440 ∧ Grid8 ws g) (fun Φ2 q1 q2 => ?_) fun g m hg => ?_
  · exact ite_ (fun _ => F_smooth_ok W (by omega) fun g n2 hg hn2 => q1 _ _ ⟨by omega, hg⟩) (fun _ => q1 _ _ ⟨by omega, hg⟩)
  obtain ⟨hm, hg⟩ := hg
  refine ite_ (fun _ => ?_) (fun _ => k g _ hg (by omega))
  obtain ⟨h, w, a1, a2, a3, a4, G⟩ := hg
  refine draw_ok (by omega) (by show (0 : Int) < (g.length : Int); rw [G.len]; omega) (by show (g.length : Int) < 2 ^ 100; rw [G.len]; omega) fun e s0 s1 => ?_
  obtain ⟨row, e1, hr, _⟩ := idx_ex s0 s1
  refine ⟨row, e1, ?_⟩
  refine draw_ok (by omega) (by decide) (by decide) fun f f0 f1 => ?_
  refine idx_ok f0 (by rw [h6]; exact f1) fun z hz _ => ?_
  refine draw_ok (by omega) (by show (0 : Int) < (row.length : Int); rw [G.row row hr]; omega) (by show (row.length : Int) < 2 ^ 100; rw [G.row row hr]; omega) fun t t0 t1 => ?_
  have t1 : t < (row.length : Int) := t1
  refine ⟨t.toNat, ?_, fun g' hm => k g' _ ⟨h, w, a1, a2, a3, a4, G.put hr hz hm⟩ (by omega)⟩
  unfold L2.ixN
  rw [if_pos t0, if_pos t1]
end K66

namespace K66
open PySem PySem.Spec PyProof.Rows L2 VL
/-! ### names and forced sets -/
section
variable {Ψ : Exc → Nat → Prop} {n : Nat}
theorem F_names_ok {g : List (List Str)} {o : List Str} {Φ : List Str → Nat → Prop} (h : Nm g o) (k : Φ o n) : F_Lnames (g, ()) Φ Ψ n := by
  have sub : ∀ i r, g[i]? = some r → ∀ x ∈ r, x ∈ o := fun i r hr x hx => (h.mem x).mpr (List.mem_flatten.mpr ⟨r, List.mem_of_getElem? hr, hx⟩)
  have ho := h.len
  delta F_Lnames
  refine for_rule (fun i s n' => n' = n ∧ s.Nodup ∧ (∀ x ∈ s, x ∈ o) ∧ ∀ x, x ∈ s ↔ ∃ j r, j < i ∧ g[j]? = some r ∧ x ∈ r) ⟨rfl, List.nodup_nil, (fun _ h => nomatch h), fun x => ⟨(fun h => nomatch h), fun ⟨_, _, h, _⟩ => absurd h (Nat.not_lt_zero _)⟩⟩ (fun i r s n' hr hI Φ' k1 _ => ?_) (fun s n' hI => ?_)
  · obtain ⟨rfl, nd, so, me⟩ := hI
    refine for_rule (fun i2 s m => m = n' ∧ s.Nodup ∧ (∀ x ∈ s, x ∈ o) ∧ ∀ x, x ∈ s ↔ (∃ j r, j < i ∧ g[j]? = some r ∧ x ∈ r) ∨ ∃ j, j < i2 ∧ r[j]? = some x) ⟨rfl, nd, so, fun x => (me x).trans ⟨.inl, fun z => z.elim id fun ⟨_, h, _⟩ => absurd h (Nat.not_lt_zero _)⟩⟩ (fun j y s m hy hJ Φ2 k2 _ => ?_) (fun s m hJ => ?_)
    · obtain ⟨rfl, nd, so, me⟩ := hJ
      refine ite_ (fun z => ?_) (fun z => ?_)
      · have z : ¬ y ∈ s := by simpa using z
        refine ⟨small1000 (by have := nodup_sub nd so; omega), ?_⟩
        refine k2 _ _ ⟨rfl, List.nodup_append.mpr ⟨nd, by simp, fun a ha b hb => by rw [List.mem_singleton.mp hb]; exact fun e => z (e ▸ ha)⟩, fun x hx => ?_, fun x => ?_⟩
        · rcases List.mem_append.mp hx with hx | hx
          · exact so x hx
          · rw [List.mem_singleton.mp hx]; exact sub i r hr y (List.mem_of_getElem? hy)
        · show x ∈ s ++ [y] ↔ _
          rw [List.mem_append, me, List.mem_singleton]
          constructor
          · rintro ((q | ⟨j', q1, q2⟩) | rfl)
            · exact .inl q
            · exact .inr ⟨j', by omega, q2⟩
            · exact .inr ⟨j, by omega, hy⟩
          · rintro (q | ⟨j', q1, q2⟩)
            · exact .inl (.inl q)
            · by_cases e : j' = j
              · subst e
                rw [hy] at q2
                exact .inr (Option.some.inj q2).symm
              · exact .inl (.inr ⟨j', by omega, q2⟩)
      · have z : y ∈ s := by simpa using z
        refine k2 _ _ ⟨rfl, nd, so, fun x => (me x).trans ⟨fun q => ?_, fun q => ?_⟩⟩
        · exact q.imp id fun ⟨j', q1, q2⟩ => ⟨j', by omega, q2⟩
        · rcases q with q | ⟨j', q1, q2⟩
          · exact .inl q
          · by_cases e : j' = j
            · subst e
              rw [hy] at q2
              rw [← Option.some.inj q2]
              exact (me y).mp z
            · exact .inr ⟨j', by omega, q2⟩
    · obtain ⟨rfl, nd, so, me⟩ := hJ
      refine k1 _ _ ⟨rfl, nd, so, fun x => (me x).trans ⟨fun q => ?_, fun q => ?_⟩⟩
      · rcases q with ⟨j, r', q1, q2⟩ | ⟨j, q1, q2⟩
        · exact ⟨j, r', by omega, q2⟩
        · exact ⟨i, r, by omega, hr, List.mem_of_getElem? q2⟩
      · obtain ⟨j, r', q1, q2, q3⟩ := q
        by_cases e : j = i
        · subst e
          rw [hr] at q2
          rw [← Option.some.inj q2] at q3
          obtain ⟨t, ht, e⟩ := List.mem_iff_getElem.mp q3
          exact .inr ⟨t, ht, by rw [List.getElem?_eq_getElem ht, e]⟩
        · exact .inl ⟨j, r', by omega, q2, q3⟩
  · obtain ⟨rfl, nd, so, me⟩ := hI
    have hl := nodup_sub nd so
    refine sortS_i (by show s.length < 64; omega) fun ys p hs => ?_
    have e : ys = o := Srt.uniq ⟨p.nodup_iff.mpr nd, hs⟩ h.srt fun x => by
      rw [p.mem_iff, me, h.mem, List.mem_flatten]
      constructor
      · rintro ⟨j, r, _, q2, q3⟩
        exact ⟨r, List.mem_of_getElem? q2, q3⟩
      · rintro ⟨r, q2, q3⟩
        obtain ⟨t, ht, e⟩ := List.mem_iff_getElem.mp q2
        exact ⟨t, r, ht, by rw [List.getElem?_eq_getElem ht, e], q3⟩
    show Φ ys _
    rw [e]
    exact k
/-- the law's look at the lines -/
theorem F_Lforces_ok {ls : List (List Str)} {c : List Str} {Φ : Bool → Nat → Prop} (hl : ∀ l ∈ ls, l.length ≤ 1000 ∧ okN l) (k : Φ (ls.any fun l => l.all fun x => decide (x ∈ c)) n) : F_Lforces (ls, (c, ())) Φ Ψ n := by
  delta F_Lforces
  refine for_first (fun l : List Str => if (l.all fun x => decide (x ∈ c)) = true then some true else none) (fun l hx Φ' n' q => ?_) ?_
  · refine comp_filter (fun x => !decide (x ∈ c)) (fun x _ Φ' n' q => ite_ (fun h => ?_) (fun h => ?_)) (hl l hx).1 ?_
    · have h : (!decide (x ∈ c)) = true := h
      rw [if_pos h] at q; exact q
    · have h : (!decide (x ∈ c)) = false := h
      rw [if_neg (by rw [h]; simp)] at q; exact q
    refine eq_dec (R := rLst rStr) (fun w hw => (hl l hx).2 w (List.mem_filter.mp hw).1) (fun w hw => nomatch hw) ?_
    have e : decide ((l.filter fun x => !decide (x ∈ c)) = []) = l.all fun x => decide (x ∈ c) := by
      rw [Bool.eq_iff_iff, decide_eq_true_iff, List.filter_eq_nil_iff, List.all_eq_true]
      simp
    rw [e]
    refine ite_ (fun h => ?_) (fun h => ?_)
    · rw [if_pos h] at q; exact q
    · rw [if_neg (by rw [h]; simp)] at q; exact q
  · rw [fs_if]
    rw [← any_filter] at k
    cases e : (ls.filter fun l => l.all fun x => decide (x ∈ c)).head? with
    | none => rw [e] at k; exact k
    | some l => rw [e] at k; exact k
theorem F_Llines_ok {ws : List Str} {h w : Nat} {g : List (List Str)} {who : Str} {Φ : List (List Str) → Nat → Prop} (G : Grid ws h w g) (h1 : 1 ≤ h) (h8 : h ≤ 8) (w8 : w ≤ 8) (k : Φ (if who = ("rows" : Str) then g else colsL g w) n) : F_Llines (g, (who, ())) Φ Ψ n := by
  delta F_Llines
  refine ite_ (fun z => ?_) (fun z => ?_)
  · rw [if_pos (of_decide_eq_true z)] at k; exact k
  · rw [if_neg (of_decide_eq_false z)] at k
    exact F_flip_ok G h1 (by omega) (by omega) k
theorem F_Lis_set_ok {names : List Str} {d : PyData} {Φ : Bool → Nat → Prop} (h64 : names.length < 64) (ho : okN names) (hd : OkD d) (k : Φ (isSetV names d) n) : F_Lis_set (names, d, ()) Φ Ψ n := by
  delta F_Lis_set
  have no : (∀ ds, d ≠ .tuple ds) → isD_tuple d = false ∧ isSetV names d = false := fun h => by
    cases d <;> first | exact ⟨rfl, rfl⟩ | exact absurd rfl (h _)
  refine ite_ (fun h => ?_) (fun h => ?_)
  · have h : isD_tuple d = false := by simpa using h
    rw [(no fun ds e => by subst e; cases h).2] at k
    exact k
  · obtain ⟨ds, rfl⟩ : ∃ ds, d = .tuple ds := by
      have h : isD_tuple d = true := by simpa using h
      cases d <;> first | exact ⟨_, rfl⟩ | cases h
    have hd := hd.sh
    have hl : SeqAt.shaped (.list ds) = true := by
      unfold SeqAt.shaped at hd ⊢
      simpa [PyData.canLay0, PyData.depth] using hd
    have hid : ds.map (IsD.d rDat) = ds := List.map_id ds
    refine listD_i (.inl rfl) ?_
    refine comp_filter (fun w => ds.any fun z => PyData.eqv z (.str w)) (fun x hx Φ' n' q => listD_i (.inl rfl) (inD_i ?_ ?_ (ite_ (fun h => ?_) (fun h => ?_)))) (show names.length ≤ 1000 by omega) ?_
    · exact q_sh (R := rStr) (ho x hx) (by decide)
    · rw [hid]; exact hl
    · rw [hid] at h
      have h : (ds.any fun z => PyData.eqv z (.str x)) = true := h
      rw [if_pos h] at q; exact q
    · rw [hid] at h
      rw [if_neg (by rw [show (ds.any fun z => PyData.eqv z (.str x)) = false from h]; simp)] at q; exact q
    · refine eqD_i ?_ ?_ ?_
      · show SeqAt.shaped (.list (ds.map (IsD.d rDat))) = true
        rw [hid]; exact hl
      · exact q_sh (R := rLst rStr) (a := names.filter fun w => ds.any fun z => PyData.eqv z (.str w)) (fun w hw => ho w (List.mem_filter.mp hw).1) (by decide)
      · show Φ (PyData.eqv (.list (ds.map (IsD.d rDat))) (.list _)) _
        have e : PyData.eqv (.list ds) (.list ((names.filter fun w => ds.any fun z => PyData.eqv z (.str w)).map (IsD.d rStr))) = isSetV names (.tuple ds) := by simp only [PyData.eqv, isSetV]; rfl
        rw [hid]
        exact (congrArg (fun b => Φ b n) e).mpr k
/-! #### what the program says -/
theorem F_is_set_of_ok {names srt : List Str} {d : PyData} {Φ : Bool → Nat → Prop} (hp : srt.Perm names) (hs : sortedS srt = true) (h64 : names.length < 64) (ho : okN names) (hd : OkD d) (k : Φ (isSetV srt d) n) : F_is_set_of (names, d, ()) Φ Ψ n := by
  delta F_is_set_of
  have no : (∀ ds, d ≠ .tuple ds) → isD_tuple d = false ∧ isSetV srt d = false := fun h => by
    cases d <;> first | exact ⟨rfl, rfl⟩ | exact absurd rfl (h _)
  refine ite_ (fun h => ?_) (fun h => ?_)
  · have h : isD_tuple d = false := by simpa using h
    rw [(no fun ds e => by subst e; cases h).2] at k
    exact k
  · obtain ⟨ds, rfl⟩ : ∃ ds, d = .tuple ds := by
      have h : isD_tuple d = true := by simpa using h
      cases d <;> first | exact ⟨_, rfl⟩ | cases h
    have hd := hd.sh
    have hos : okN srt := fun w hw => ho w (hp.mem_iff.mp hw)
    refine sortS_i h64 fun ns hp2 hso => ?_
    have e := sortedS_one hso hs (hp2.trans hp.symm)
    subst e
    refine comp_filter (fun w => ds.any fun z => PyData.eqv z (.str w)) (fun x hx Φ' n' q => inDT_i ?_ hd (ite_ (fun h => ?_) (fun h => ?_))) (by have := hp.length_eq; show ns.length ≤ 1000; omega) ?_
    · exact q_sh (R := rStr) (hos x hx) (by decide)
    · have h : (ds.any fun z => PyData.eqv z (.str x)) = true := h
      rw [if_pos h] at q; exact q
    · rw [if_neg (by rw [show (ds.any fun z => PyData.eqv z (.str x)) = false from h]; simp)] at q; exact q
    · refine eqD_i hd ?_ ?_
      · exact q_sh (R := rTup rStr) (a := ns.filter fun w => ds.any fun z => PyData.eqv z (.str w)) (fun w hw => hos w (List.mem_filter.mp hw).1) (by decide)
      · show Φ (PyData.eqv (.tuple ds) (.tuple _)) _
        have e : PyData.eqv (.tuple ds) (.tuple ((ns.filter fun w => ds.any fun z => PyData.eqv z (.str w)).map (IsD.d rStr))) = isSetV ns (.tuple ds) := by simp only [PyData.eqv, isSetV]; rfl
        rw [e]
        exact k
theorem F_check_set_is {names srt : List Str} {d : PyData} {Φ : Unit → Nat → Prop} (hp : srt.Perm names) (hs : sortedS srt = true) (h64 : names.length < 64) (ho : okN names) (hd : OkD d) (k1 : isSetV srt d = true → Φ () n) (k2 : isSetV srt d = false → Ψ ⟨"BadSet", "value", d⟩ n) : F_check_set (names, d, ()) Φ Ψ n := by
  delta F_check_set
  refine F_is_set_of_ok hp hs h64 ho hd ?_
  refine ite_ (fun h => ?_) (fun h => ?_)
  · exact k2 (by simpa using h)
  · exact k1 (by simpa using h)
theorem F_check_side_is {who : Str} {Φ : Unit → Nat → Prop} (k1 : who ∈ [("rows" : Str), "columns"] → Φ () n) (k2 : ¬ who ∈ [("rows" : Str), "columns"] → Ψ ⟨"BadSide", "word", .str who⟩ n) : F_check_side (who, ()) Φ Ψ n := by
  delta F_check_side
  refine ite_ (fun h => ?_) (fun h => ?_)
  · have h : (true ^^ decide (who ∈ [("rows" : Str), "columns"])) = true := h
    rw [Bool.true_xor, Bool.not_eq_true'] at h
    exact k2 (of_decide_eq_false h)
  · have h : (true ^^ decide (who ∈ [("rows" : Str), "columns"])) = false := h
    rw [Bool.true_xor, Bool.not_eq_false'] at h
    exact k1 (of_decide_eq_true h)
theorem F_others_ok {a b : List Str} {Φ : List Str → Nat → Prop} (hl : a.length ≤ 1000) (k : Φ (a.filter fun x => !decide (x ∈ b)) n) : F_others (a, b, ()) Φ Ψ n := by
  delta F_others
  refine comp_filter (fun x => !decide (x ∈ b)) (fun x _ Φ' n' q => ite_ (fun h => ?_) (fun h => ?_)) hl k
  · rw [if_pos h] at q; exact q
  · rw [if_neg (by rw [h]; simp)] at q; exact q
theorem tup_sh {c : List Str} (h : okN c) : SeqAt.shaped (.tuple (c.map .str)) = true := q_sh (R := rTup rStr) (a := c) h (by decide)
theorem F_common_ok {a c : List Str} {Φ : List Str → Nat → Prop} (hl : a.length ≤ 1000) (ha : okN a) (hc : okN c) (k : Φ (a.filter fun x => decide (x ∈ c)) n) : F_common (a, (.tuple (c.map .str), ())) Φ Ψ n := by
  delta F_common
  refine comp_filter (fun x => decide (x ∈ c)) (fun x hx Φ' n' q => inDT_i (q_sh (R := rStr) (ha x hx) (by decide)) (tup_sh hc) ?_) hl k
  rw [← any_str] at q
  refine ite_ (fun h => ?_) (fun h => ?_)
  · rw [if_pos (show ((c.map PyData.str).any fun z => PyData.eqv z (.str x)) = true from h)] at q; exact q
  · rw [if_neg (by rw [show ((c.map PyData.str).any fun z => PyData.eqv z (.str x)) = false from h]; simp)] at q; exact q
theorem F_lies_in_ok {a c : List Str} {Φ : Bool → Nat → Prop} (hl : a.length ≤ 1000) (ha : okN a) (hc : okN c) (k : Φ (a.all fun x => decide (x ∈ c)) n) : F_lies_in (a, (.tuple (c.map .str), ())) Φ Ψ n := by
  delta F_lies_in
  refine comp_map (fun x => decide (x ∈ c)) (fun x hx Φ' n' q => inDT_i (q_sh (R := rStr) (ha x hx) (by decide)) (tup_sh hc) ?_) hl ?_
  · rw [← any_str] at q; exact q
  · show Φ ((a.map fun x => decide (x ∈ c)).all id) n
    rw [List.all_map]
    exact k
theorem F_outcomes_ok {t : d_Table} {Φ : List Str → Nat → Prop} (k : Φ t.1 n) : F_Table_outcomes (t, ()) Φ Ψ n := by
  delta F_Table_outcomes
  exact k
theorem F_lines_of_ok {t : d_Table} {who : Str} {Φ : List (List Str) → Nat → Prop} (hw : who ∈ [("rows" : Str), "columns"]) (k : Φ (if who = ("rows" : Str) then t.2.1 else t.2.2) n) : F_Table_lines_of (t, (who, ())) Φ Ψ n := by
  delta F_Table_lines_of
  refine F_check_side_is (fun _ => ?_) (fun h => absurd hw h)
  by_cases e : who = ("rows" : Str)
  · rw [if_pos e] at k
    show Φ (if decide (who = ("rows" : Str)) = true then t.2.1 else t.2.2) n
    rw [if_pos (decide_eq_true e)]
    exact k
  · rw [if_neg e] at k
    show Φ (if decide (who = ("rows" : Str)) = true then t.2.1 else t.2.2) n
    rw [if_neg (by simpa using e)]
    exact k
/-- forces, of a side and a set of the outcomes -/
theorem F_forces_ok {t : d_Table} {who : Str} {c : List Str} {Φ : Bool → Nat → Prop} (hw : who ∈ [("rows" : Str), "columns"]) (hs : Srt t.1) (ho : okN t.1) (h6 : t.1.length ≤ 6) (hc : c = t.1.filter fun w => decide (w ∈ c))
    (hl : ∀ l ∈ (if who = ("rows" : Str) then t.2.1 else t.2.2), l.length ≤ 1000 ∧ okN l) (k : Φ ((if who = ("rows" : Str) then t.2.1 else t.2.2).any fun l => l.all fun x => decide (x ∈ c)) n) : F_forces (t, (who, (.tuple (c.map .str), ()))) Φ Ψ n := by
  have oc : okN c := fun w hw => by rw [hc] at hw; exact ho w (List.mem_filter.mp hw).1
  delta F_forces
  delta F_forcing_line
  refine F_check_side_is (fun _ => ?_) (fun h => absurd hw h)
  refine F_outcomes_ok ?_
  refine F_check_set_is (List.Perm.refl _) hs.so (by show t.1.length < 64; omega) ho (okD_of (R := rTup rStr) (a := c) oc) (fun _ => ?_) (fun h => ?_)
  · refine F_lines_of_ok hw ?_
    generalize (if who = ("rows" : Str) then t.2.1 else t.2.2) = ls at hl k
    refine for_first (fun b : Int × List Str => if (b.2.all fun x => decide (x ∈ c)) = true then some (some b.1) else none) (fun b hb Φ' n' q => ?_) ?_
    · have hb2 : b.2 ∈ ls := by
        unfold zipI at hb
        obtain ⟨p, hp, rfl⟩ := List.mem_map.mp hb
        exact List.mem_of_getElem? (List.mem_zipIdx_iff_getElem?.mp hp)
      refine F_lies_in_ok (hl _ hb2).1 (hl _ hb2).2 oc ?_
      refine ite_ (fun h => ?_) (fun h => ?_)
      · rw [if_pos h] at q; exact q
      · rw [if_neg (by rw [h]; simp)] at q; exact q
    · rw [fs_if]
      have e : ((zipI ls).filter fun b => b.2.all fun x => decide (x ∈ c)).head?.isSome = ls.any fun l => l.all fun x => decide (x ∈ c) := by
        rw [any_filter]
        unfold zipI
        rw [List.any_map, Bool.eq_iff_iff, List.any_eq_true, List.any_eq_true]
        constructor
        · rintro ⟨p, hp, q⟩
          exact ⟨p.1, List.mem_of_getElem? (List.mem_zipIdx_iff_getElem?.mp hp), q⟩
        · rintro ⟨l, hl, q⟩
          obtain ⟨t, ht, e⟩ := List.mem_iff_getElem.mp hl
          exact ⟨(l, t), List.mem_zipIdx_iff_getElem?.mpr (by show ls[t]? = some l; rw [List.getElem?_eq_getElem ht, e]), q⟩
      rw [← e] at k
      cases e : ((zipI ls).filter fun b => b.2.all fun x => decide (x ∈ c)).head? with
      | none => rw [e] at k; exact k
      | some l => rw [e] at k; exact k
  · rw [isSetV_of] at h
    exact absurd hc (of_decide_eq_false h)
end
end K66

namespace K66
open PySem PySem.Spec PyProof.Rows L2 VL
/-! ### what is due -/
theorem nd_t {p : Prop} [Decidable p] (h : (!decide p) = true) : ¬ p := by simpa using h
theorem nd_f {p : Prop} [Decidable p] (h : (!decide p) = false) : p := by simpa using h
/-- the outcomes but one -/
def kept (o : List Str) (a : Str) : List Str := o.filter fun x => !decide (x = a)
theorem kept_as (o : List Str) (a : Str) : (o.filter fun x => !decide (x ∈ [a])) = kept o a := by
  unfold kept
  congr 1
  funext x
  simp
/-- whether a side forces: first the inner table, then the outer one -/
def vIn (o1 c : List Str) (ls1 : List (List Str)) : Bool := ls1.any fun l => l.all fun x => decide (x ∈ c.filter fun y => decide (y ∈ o1))
def vOut (o0 : List Str) (a : Str) (o1 c : List Str) (ls0 ls1 : List (List Str)) : Bool := ls0.any fun l => l.all fun x => decide (x ∈ (c.filter fun y => decide (y ∈ kept o0 a)) ++ if vIn o1 c ls1 = true then [a] else [])
inductive Due (o0 : List Str) (a : Str) (o1 : List Str) (ls0 ls1 : List (List Str)) (who : Str) (d : PyData) : Str × PyData → Prop
  | unknown : ¬ a ∈ o0 → Due o0 a o1 ls0 ls1 who d ("unknown", .str a)
  | twice {y : Str} {r : List Str} : a ∈ o0 → (o1.filter fun x => decide (x ∈ kept o0 a)) = y :: r → Due o0 a o1 ls0 ls1 who d ("twice", .str y)
  | side : a ∈ o0 → (o1.filter fun x => decide (x ∈ kept o0 a)) = [] → ¬ who ∈ [("rows" : Str), "columns"] → Due o0 a o1 ls0 ls1 who d ("side", .str who)
  | set {both : List Str} : a ∈ o0 → (o1.filter fun x => decide (x ∈ kept o0 a)) = [] → who ∈ [("rows" : Str), "columns"] → both.Perm (kept o0 a ++ o1) → sortedS both = true → isSetV both d = false → Due o0 a o1 ls0 ls1 who d ("set", d)
  | told {both c : List Str} : a ∈ o0 → (o1.filter fun x => decide (x ∈ kept o0 a)) = [] → who ∈ [("rows" : Str), "columns"] → both.Perm (kept o0 a ++ o1) → sortedS both = true → d = .tuple (c.map .str) → (c = both.filter fun w => decide (w ∈ c)) →
      Due o0 a o1 ls0 ls1 who d ("told", .bool (vOut o0 a o1 c ls0 ls1))
section
variable {Ψ : Exc → Nat → Prop} {n : Nat}
/-- a table and its names -/
structure Tb (g : List (List Str)) (o : List Str) (w : Nat) : Prop where
  nm : Nm g o
  ok : okN o
  gr : ∃ ws h, 1 ≤ h ∧ h ≤ 8 ∧ 1 ≤ w ∧ w ≤ 8 ∧ Grid ws h w g ∧ ∀ x ∈ ws, good x = true
def linesL (g : List (List Str)) (w : Nat) (who : Str) : List (List Str) := if who = ("rows" : Str) then g else colsL g w
theorem Tb.lines {g : List (List Str)} {o : List Str} {w : Nat} (T : Tb g o w) (who : Str) : ∀ l ∈ linesL g w who, l.length ≤ 1000 ∧ okN l := by
  obtain ⟨ws, h, a1, a2, a3, a4, G, hg⟩ := T.gr
  unfold linesL
  intro l hl
  split at hl
  · exact ⟨by rw [G.row l hl]; omega, fun x hx => good_strOk (hg x (G.mem l hl x hx))⟩
  · exact ⟨by rw [G.cols.row l hl]; omega, fun x hx => good_strOk (hg x (G.cols.mem l hl x hx))⟩
theorem when_i {α : Type} {p : Prop} {x : α} {Φ : α → Nat → Prop} (h : p) (k : Φ x n) : M.when p x Φ Ψ n := ⟨h, k⟩
theorem F_due_ok {g0 g1 : List (List Str)} {o0 o1 : List Str} {w0 w1 : Nat} {a who : Str} {d : PyData} {Φ : Str × PyData → Nat → Prop} (T0 : Tb g0 o0 w0) (T1 : Tb g1 o1 w1) (hd : OkD d)
    (k : ∀ v, Due o0 a o1 (linesL g0 w0 who) (linesL g1 w1 who) who d v → Φ v n) : F_Ldue (g0, (a, (g1, (who, (d, ()))))) Φ Ψ n := by
  have l0 := T0.nm.len
  have l1 := T1.nm.len
  have lk : (kept o0 a).length ≤ 6 := Nat.le_trans (List.length_filter_le _ _) l0
  delta F_Ldue
  refine ret_i (bind_i (nox_i (F_names_ok T0.nm (seq_i ?_))))
  refine ite_ (fun h => ?_) (fun h => ?_)
  · exact k _ (.unknown (by simpa using h))
  have ha : a ∈ o0 := by simpa using h
  refine seq_i (bind_i (nox_i (F_names_ok T1.nm ?_)))
  refine for_first (fun b : Str => if decide (b ∈ kept o0 a) = true then some ((("twice" : Str), PyData.str b)) else none) (fun b hb Φ' n' q => ?_) ?_
  · have e : decide (b ∈ kept o0 a) = (decide (b ∈ o0) && !decide (b = a)) := by
      rw [Bool.eq_iff_iff, decide_eq_true_iff]
      unfold kept
      rw [List.mem_filter]
      simp
    rw [e] at q
    refine ite_ (fun h => ?_) (fun h => ?_)
    · rw [if_pos h] at q; exact q
    · rw [if_neg (by rw [h]; simp)] at q; exact q
  rw [fs_if]
  cases e : (o1.filter fun x => decide (x ∈ kept o0 a)) with
  | cons y r => exact k _ (.twice ha e)
  | nil =>
  refine ite_ (fun h => ?_) (fun h => ?_)
  · exact k _ (.side ha e (nd_t h))
  have hw : who ∈ [("rows" : Str), "columns"] := nd_f h
  refine bind_i (comp_filter (fun x => !decide (x = a)) (fun x _ Φ' n' q => ite_ (fun h => ?_) (fun h => ?_)) (by show o0.length ≤ 1000; omega) ?_)
  · rw [if_pos h] at q; exact q
  · rw [if_neg (by rw [h]; simp)] at q; exact q
  show M.seq _ _ _ _ _
  refine seq_i (bind_i (bind_i (bind_i (bind_i (bind_i (bind_i (nox_i (F_names_ok T1.nm (pure_i (when_i ?_ ?_)))))))))) 
  · show (kept o0 a).length + o1.length ≤ sizeLine
    exact size1000 (by omega)
  have hl : ((kept o0 a) ++ o1).length ≤ 12 := by rw [List.length_append]; omega
  refine sortS_i (by show ((kept o0 a) ++ o1).length < 64; omega) fun both hp hs => ?_
  have ob : okN both := fun w hw => by
    rcases List.mem_append.mp (hp.mem_iff.mp hw) with z | z
    · exact T0.ok w (List.mem_filter.mp z).1
    · exact T1.ok w z
  have hbl := hp.length_eq
  refine nox_i (F_Lis_set_ok (by have : both.length = ((kept o0 a) ++ o1).length := hbl; omega) ob hd (pure_i ?_))
  refine ite_ (fun h => ?_) (fun h => ?_)
  · exact k _ (.set ha e hw hp hs (by simpa using h))
  obtain ⟨c, rfl, hc⟩ := isSetV_yes (names := both) (d := d) (by simpa using h)
  have lc : c.length ≤ 12 := by
    rw [hc]
    exact Nat.le_trans (List.length_filter_le _ _) (by have : both.length = ((kept o0 a) ++ o1).length := hbl; omega)
  refine bind_i (bind_i (datS_i ?_))
  refine comp_filter (fun x => decide (x ∈ kept o0 a)) (fun x _ Φ' n' q => ite_ (fun h => ?_) (fun h => ?_)) (by show c.length ≤ 1000; omega) ?_
  · rw [if_pos (show decide (x ∈ kept o0 a) = true from h)] at q; exact q
  · rw [if_neg (by rw [show decide (x ∈ kept o0 a) = false from h]; simp)] at q; exact q
  have fin : ∀ s : List Str, (∀ x, x ∈ s ↔ x ∈ (c.filter fun y => decide (y ∈ kept o0 a)) ++ if vIn o1 c (linesL g1 w1 who) = true then [a] else []) →
      Φ (("told" : Str), PyData.bool ((linesL g0 w0 who).any fun l => l.all fun x => decide (x ∈ s))) n := fun s hs' => by
    rw [any_all hs']
    exact k _ (.told ha e hw hp hs rfl hc)
  obtain ⟨ws0, h0, a1, a2, a3, a4, G0, hg0⟩ := T0.gr
  obtain ⟨ws1, h1, b1, b2, b3, b4, G1, hg1⟩ := T1.gr
  refine seq_i (bind_i (bind_i (nox_i (F_Llines_ok G1 b1 b2 b4 ?_))))
  refine bind_i (bind_i (datS_i ?_))
  refine comp_filter (fun x => decide (x ∈ o1)) (fun x _ Φ' n' q => bind_i (bind_i (nox_i (F_names_ok T1.nm (pure_i (ite_ (fun h => ?_) (fun h => ?_))))))) (by show c.length ≤ 1000; omega) ?_
  · rw [if_pos h] at q; exact q
  · rw [if_neg (by rw [h]; simp)] at q; exact q
  refine nox_i (F_Lforces_ok (T1.lines who) ?_)
  have last : ∀ s : List Str, (∀ x, x ∈ s ↔ x ∈ (c.filter fun y => decide (y ∈ kept o0 a)) ++ if vIn o1 c (linesL g1 w1 who) = true then [a] else []) →
      (M.bind (M.bind (M.bind (M.bind (M.nox (F_Llines (g0, (who, ())))) fun x => M.nox (F_Lforces (x, (s, ())))) fun x => M.pure (IsD.d rBl x)) fun x => M.pure (("told" : Str), x)) fun x => M.rt x : M (Fl (Str × PyData) Unit)) (fun fl n => match fl with | .nx _ => False | .rt r => Φ r n) Ψ n := fun s hs' =>
    bind_i (bind_i (bind_i (bind_i (nox_i (F_Llines_ok G0 a1 a2 a4 (nox_i (F_Lforces_ok (T0.lines who) (pure_i (pure_i (fin s hs'))))))))))
  refine ite_ (fun h => ?_) (fun h => ?_)
  · refine bind_i (when_i (small1000 ?_) ?_)
    · exact Nat.le_trans (List.length_filter_le _ _) (by omega)
    · refine last _ fun x => ?_
      rw [if_pos (show vIn o1 c (linesL g1 w1 who) = true from h)]
  · refine last _ fun x => ?_
    rw [if_neg (by rw [show vIn o1 c (linesL g1 w1 who) = false from h]; simp), List.append_nil]
/-! ### what put_forces says -/
theorem F_put_is {g0 g1 : List (List Str)} {o0 o1 : List Str} {w0 w1 : Nat} {a who : Str} {d : PyData} {v : Str × PyData} {Φ : Bool → Nat → Prop} (T0 : Tb g0 o0 w0) (T1 : Tb g1 o1 w1) (hd : OkD d) (D : Due o0 a o1 (linesL g0 w0 who) (linesL g1 w1 who) who d v)
    (k0 : ∀ b, v = (("told" : Str), PyData.bool b) → Φ b n) (k1 : v.1 = "unknown" → Ψ ⟨"UnknownName", "name", v.2⟩ n) (k2 : v.1 = "twice" → Ψ ⟨"DuplicateName", "name", v.2⟩ n) (k3 : v.1 = "side" → Ψ ⟨"BadSide", "word", v.2⟩ n) (k4 : v.1 = "set" → Ψ ⟨"BadSet", "value", v.2⟩ n) :
    F_put_forces ((o0, g0, colsL g0 w0), (a, ((o1, g1, colsL g1 w1), (who, (d, ()))))) Φ Ψ n := by
  have l0 := T0.nm.len
  have l1 := T1.nm.len
  have lk : (kept o0 a).length ≤ 6 := Nat.le_trans (List.length_filter_le _ _) l0
  have okk : okN (kept o0 a) := fun w hw => T0.ok w (List.mem_filter.mp hw).1
  delta F_put_forces
  delta F_check_put
  refine ret_i (bind_i ?_)
  show M.retN _ () _ _ _
  refine F_outcomes_ok ?_
  refine ite_ (fun h => ?_) (fun h => ?_)
  · cases D with
    | unknown _ => exact k1 rfl
    | twice ha _ => exact absurd ha (by simpa using h)
    | side ha _ _ => exact absurd ha (by simpa using h)
    | set ha _ _ _ _ _ => exact absurd ha (by simpa using h)
    | told ha _ _ _ _ _ _ => exact absurd ha (by simpa using h)
  have ha : a ∈ o0 := by simpa using h
  refine F_outcomes_ok (F_outcomes_ok (F_others_ok (by show o0.length ≤ 1000; omega) ?_))
  rw [kept_as]
  refine F_common_ok (by show o1.length ≤ 1000; omega) T1.ok okk ?_
  cases e : (o1.filter fun x => decide (x ∈ kept o0 a)) with
  | cons y r =>
    refine ite_ (fun _ => ?_) (fun h => nomatch h)
    refine idx_i (x := y) (atI_nat (j := 0) rfl) ?_
    cases D with
    | unknown h => exact absurd ha h
    | twice _ e2 => rw [e] at e2; cases e2; exact k2 rfl
    | side _ e2 _ => rw [e] at e2; cases e2
    | set _ e2 _ _ _ _ => rw [e] at e2; cases e2
    | told _ e2 _ _ _ _ _ => rw [e] at e2; cases e2
  | nil =>
  refine ite_ (fun h => nomatch h) (fun _ => ?_)
  refine F_check_side_is ?yes ?no
  case no =>
    intro hw
    cases D with
    | unknown h => exact absurd ha h
    | twice _ e2 => rw [e] at e2; cases e2
    | side _ _ _ => exact k3 rfl
    | set _ _ h _ _ _ => exact absurd h hw
    | told _ _ h _ _ _ _ => exact absurd h hw
  intro hw
  refine F_outcomes_ok (F_others_ok (by show o0.length ≤ 1000; omega) ?_)
  rw [kept_as]
  refine F_outcomes_ok (when_i (show (kept o0 a).length + o1.length ≤ sizeLine from size1000 (by omega)) ?_)
  have okb : okN (kept o0 a ++ o1) := fun w hw => (List.mem_append.mp hw).elim (okk w) (T1.ok w)
  have hl : ((kept o0 a) ++ o1).length ≤ 12 := by rw [List.length_append]; omega
  cases D with
  | unknown h => exact absurd ha h
  | twice _ e2 => rw [e] at e2; cases e2
  | side _ _ h => exact absurd hw h
  | @set both _ _ _ hp hs hf => exact F_check_set_is hp hs (by show ((kept o0 a) ++ o1).length < 64; omega) okb hd (fun h => by rw [hf] at h; cases h) (fun _ => k4 rfl)
  | @told both c _ _ _ hp hs hdc hc =>
    subst hdc
    have okc : okN c := fun w hw => by
      rw [hc] at hw
      exact okb w (hp.mem_iff.mp (List.mem_filter.mp hw).1)
    have hset : isSetV both (.tuple (c.map .str)) = true := by rw [isSetV_of]; exact decide_eq_true hc
    refine F_check_set_is hp hs (by show ((kept o0 a) ++ o1).length < 64; omega) okb hd (fun _ => ?_) (fun h => by rw [hset] at h; cases h)
    refine F_common_ok (by show (kept o0 a).length ≤ 1000; omega) okk okc ?_
    refine F_outcomes_ok (F_common_ok (by show o1.length ≤ 1000; omega) T1.ok okc ?_)
    have s1 : Srt (o1.filter fun x => decide (x ∈ c)) := T1.nm.srt.filter _
    have sk : Srt (kept o0 a) := T0.nm.srt.filter _
    refine F_forces_ok (t := (o1, g1, colsL g1 w1)) hw T1.nm.srt T1.ok l1 (T1.nm.srt.part s1 fun x hx => (List.mem_filter.mp hx).1) (T1.lines who) ?_
    have eIn : (((if who = ("rows" : Str) then g1 else colsL g1 w1)).any fun l => l.all fun x => decide (x ∈ o1.filter fun x => decide (x ∈ c))) = vIn o1 c (linesL g1 w1 who) := by
      unfold vIn linesL
      refine any_all fun x => ?_
      rw [List.mem_filter, List.mem_filter, decide_eq_true_iff, decide_eq_true_iff]
      exact And.comm
    have last : ∀ s : List Str, Srt s → (∀ x ∈ s, x ∈ o0) → (∀ x, x ∈ s ↔ x ∈ (c.filter fun y => decide (y ∈ kept o0 a)) ++ if vIn o1 c (linesL g1 w1 who) = true then [a] else []) →
        F_forces ((o0, g0, colsL g0 w0), (who, (.tuple (s.map .str), ()))) Φ Ψ n := fun s hs1 hs2 hs3 => by
      refine F_forces_ok (t := (o0, g0, colsL g0 w0)) hw T0.nm.srt T0.ok l0 (T0.nm.srt.part hs1 hs2) (T0.lines who) ?_
      refine k0 _ ?_
      have : (((if who = ("rows" : Str) then g0 else colsL g0 w0)).any fun l => l.all fun x => decide (x ∈ s)) = vOut o0 a o1 c (linesL g0 w0 who) (linesL g1 w1 who) := by
        unfold vOut
        exact any_all hs3
      rw [this]
    have kc : ∀ x, (x ∈ (kept o0 a).filter fun y => decide (y ∈ c)) ↔ x ∈ c.filter fun y => decide (y ∈ kept o0 a) := fun x => by
      rw [List.mem_filter, List.mem_filter, decide_eq_true_iff, decide_eq_true_iff]
      exact And.comm
    refine ite_ (fun h => ?_) (fun h => ?_)
    · have h : vIn o1 c (linesL g1 w1 who) = true := eIn.symm.trans h
      refine ⟨size1000 ?_, ?_⟩
      · have := List.length_filter_le (fun y => decide (y ∈ c)) (kept o0 a)
        show ((kept o0 a).filter fun y => decide (y ∈ c)).length + 1 ≤ 1000
        omega
      have ln : (((kept o0 a).filter fun y => decide (y ∈ c)) ++ [a]).length ≤ 7 := by
        have := List.length_filter_le (fun y => decide (y ∈ c)) (kept o0 a)
        rw [List.length_append, List.length_singleton]
        omega
      have sub : ∀ x ∈ ((kept o0 a).filter fun y => decide (y ∈ c)) ++ [a], x ∈ o0 := fun x hx => by
        rcases List.mem_append.mp hx with z | z
        · exact (List.mem_filter.mp (List.mem_filter.mp z).1).1
        · rw [List.mem_singleton.mp z]; exact ha
      have hd6 : (distS (((kept o0 a).filter fun y => decide (y ∈ c)) ++ [a])).length ≤ 6 := Nat.le_trans (nodup_sub (distS_nd _) fun x hx => sub x (distS_mem.mp hx)) l0
      refine F_as_set_ok (xs := ((kept o0 a).filter fun y => decide (y ∈ c)) ++ [a]) (by omega) (by omega) fun ys p nd so => ?_
      refine last ys ⟨nd, so⟩ (fun x hx => sub x (distS_mem.mp (p.mem_iff.mp hx))) fun x => ?_
      rw [p.mem_iff, distS_mem, if_pos h, List.mem_append, List.mem_append, kc]
    · have h : vIn o1 c (linesL g1 w1 who) = false := eIn.symm.trans h
      refine last _ (sk.filter _) (fun x hx => (List.mem_filter.mp (List.mem_filter.mp hx).1).1) fun x => ?_
      rw [if_neg (by rw [h]; simp), List.append_nil]
      exact kc x
theorem F_told_ok {way : Int} {g0 g1 : List (List Str)} {o0 o1 : List Str} {w0 w1 : Nat} {a who : Str} {d : PyData} {v : Str × PyData} {Φ : Str × PyData → Nat → Prop} (T0 : Tb g0 o0 w0) (T1 : Tb g1 o1 w1) (hd : OkD d) (D : Due o0 a o1 (linesL g0 w0 who) (linesL g1 w1 who) who d v)
    (k : Φ v n) : F_Ltold (way, ([(o0, g0, colsL g0 w0), (o1, g1, colsL g1 w1)], (a, (who, (d, ()))))) Φ Ψ n := by
  delta F_Ltold
  obtain ⟨v1, v2⟩ := v
  have h1 : v1 = "unknown" → Φ (("unknown" : Str), v2) n := fun e => by subst e; exact k
  have h2 : v1 = "twice" → Φ (("twice" : Str), v2) n := fun e => by subst e; exact k
  have h3 : v1 = "side" → Φ (("side" : Str), v2) n := fun e => by subst e; exact k
  have h4 : v1 = "set" → Φ (("set" : Str), v2) n := fun e => by subst e; exact k
  have go : ∀ Φ' : Bool → Nat → Prop, (∀ b, Φ (("told" : Str), PyData.bool b) n → Φ' b n) → F_put_forces ((o0, g0, colsL g0 w0), (a, ((o1, g1, colsL g1 w1), (who, (d, ()))))) Φ' (fun x n => M.up (α := Unit) (M.hnd x ([(("UnknownName" : Str), ("name" : Str), fun d_322 => (M.rt (((("unknown" : Str)), (d_322))))), (("DuplicateName" : Str), ("name" : Str), fun d_325 => (M.rt (((("twice" : Str)), (d_325))))), (("BadSide" : Str), ("word" : Str), fun d_328 => (M.rt (((("side" : Str)), (d_328))))), (("BadSet" : Str), ("value" : Str), fun d_331 => (M.rt (((("set" : Str)), (d_331)))))] : List (Str × Str × (PyData → M (Fl (Str × PyData) Empty))))) (fun fl n => match fl with | .nx _ => False | .rt r => Φ r n) Ψ n) n := fun Φ' q => by
    refine F_put_is T0 T1 hd D (fun b e => q b (by rw [← e]; exact k)) (fun e => ?_) (fun e => ?_) (fun e => ?_) (fun e => ?_)
    · exact ⟨fun _ => ⟨rfl, h1 e⟩, fun z => absurd rfl z⟩
    · exact ⟨fun z => absurd z (show ¬ (("DuplicateName" : Str) = ("UnknownName" : Str)) by decide +kernel), fun _ => ⟨fun _ => ⟨rfl, h2 e⟩, fun z => absurd rfl z⟩⟩
    · exact ⟨fun z => absurd z (show ¬ (("BadSide" : Str) = ("UnknownName" : Str)) by decide +kernel), fun _ => ⟨fun z => absurd z (show ¬ (("BadSide" : Str) = ("DuplicateName" : Str)) by decide +kernel), fun _ => ⟨fun _ => ⟨rfl, h3 e⟩, fun z => absurd rfl z⟩⟩⟩
    · exact ⟨fun z => absurd z (show ¬ (("BadSet" : Str) = ("UnknownName" : Str)) by decide +kernel), fun _ => ⟨fun z => absurd z (show ¬ (("BadSet" : Str) = ("DuplicateName" : Str)) by decide +kernel), fun _ => ⟨fun z => absurd z (show ¬ (("BadSet" : Str) = ("BadSide" : Str)) by decide +kernel), fun _ => ⟨fun _ => ⟨rfl, h4 e⟩, fun z => absurd rfl z⟩⟩⟩⟩
  refine ite_ (fun _ => ?_) (fun _ => ?_)
  · refine idx_i (x := (o0, g0, colsL g0 w0)) (atI_nat (j := 0) rfl) ?_
    refine idx_i (x := (o1, g1, colsL g1 w1)) (atI_nat (j := 1) rfl) ?_
    exact go _ fun b q => q
  · refine idx_i (x := (o1, g1, colsL g1 w1)) (atI_nat (j := 1) rfl) ?_
    refine idx_i (x := (o0, g0, colsL g0 w0)) (atI_nat (j := 0) rfl) ?_
    exact go _ fun b q => q
end
end K66

namespace K66
open PySem PySem.Spec PyProof.Rows L2 VL
section
variable {Ψ : Exc → Nat → Prop} {n : Nat}
theorem six_of {a b c d e f : Str} (h : ∀ x ∈ [a, b, c, d, e, f], good x = true) : Six [a, b, c, d, e, f] := ⟨rfl, h⟩
theorem F_inner_ok {ws : List Str} {g : List (List Str)} {Φ : List (List Str) → Nat → Prop} (W : Six ws) (G8 : Grid8 ws g) (hn : n ≤ 700000) (k : ∀ ws' g' n', Six ws' → Grid8 ws' g' → n' ≤ n + 601 → Φ g' n') : F_Linner (g, (ws, ())) Φ Ψ n := by
  have h6 := W.len
  delta F_Linner
  refine draw_ok (by omega) (by decide) (by decide) fun p p0 p1 => ?_
  have ge : ∀ (us : List Str), Six us → F_Lgrid (us, ()) (fun g' n' => Φ g' n') (fun _ _ => False) (n + 1) := fun us S => F_grid_ok S (by omega) fun g' n' hg hn' => k us g' n' S hg (by omega)
  refine ite_ (fun _ => ?_) (fun _ => ?_)
  · have e3 : cutL ws (some (3 : Int)) none = ws.drop 3 := cutL_drop (m := 3) (by omega)
    show M.bind (M.bind (M.when ((cutL ws (some (3 : Int)) none).length + 3 ≤ sizeLine) (cutL ws (some (3 : Int)) none ++ [("p" : Str), "q1", "q"])) _) _ _ _ _
    rw [e3]
    refine ⟨size1000 (by show (ws.drop 3).length + 3 ≤ 1000; rw [List.length_drop]; omega), ?_⟩
    refine ge _ ⟨by rw [List.length_append, List.length_drop, h6]; rfl, fun x hx => ?_⟩
    rcases List.mem_append.mp hx with z | z
    · exact W.gd x (List.mem_of_mem_drop z)
    · exact List.all_eq_true.mp (show [("p" : Str), "q1", "q"].all good = true by decide +kernel) x z
  refine ite_ (fun _ => ?_) (fun _ => ?_)
  · obtain ⟨h, w, a1, a2, a3, a4, G⟩ := G8
    obtain ⟨r0, e0, hr0, hw0⟩ := G.at_ (i := 0) (by omega)
    refine idx_i (x := r0) (atI_nat (j := 0) e0) ?_
    refine idx_ok (by decide) (by show (0 : Int) < (r0.length : Int); omega) fun x hx _ => ?_
    refine idx_last (by show 0 < g.length; rw [G.len]; omega) fun r hr => ?_
    refine idx_last (by show 0 < r.length; rw [G.row r hr]; omega) fun y hy => ?_
    refine ge _ (six_of fun z hz => ?_)
    have gx := W.gd x (G.mem r0 hr0 x hx)
    have gy := W.gd y (G.mem r hr y hy)
    simp only [List.mem_cons, List.not_mem_nil, or_false] at hz
    rcases hz with rfl | rfl | rfl | rfl | rfl | rfl
    · decide +kernel
    · exact gx
    · decide +kernel
    · exact gy
    · decide +kernel
    · decide +kernel
  · exact ge _ ⟨rfl, fun x hx => List.all_eq_true.mp (show [("p" : Str), "q1", "q", "r", "s", "t"].all good = true by decide +kernel) x hx⟩
theorem F_drawn_ok {names : List Str} {gone : Str} {Φ : PyData → Nat → Prop} (hl : names.length ≤ 12) (ho : okN names) (hg : PyData.strOk gone = true) (hn : n ≤ 900000) (k : ∀ d n', OkD d → n' ≤ n + 14 → Φ d n') : F_Ldrawn (names, (gone, ())) Φ Ψ n := by
  delta F_Ldrawn
  refine comp_rule (fun i acc n' => n' = n + i ∧ acc.length ≤ i ∧ okN acc) (by show names.length ≤ 1000; omega) ⟨rfl, Nat.le_refl _, (fun _ h => nomatch h)⟩ (fun i x acc n' hx hI Φ' k1 => ?_) (fun c n' hI => ?_)
  · obtain ⟨rfl, hl2, ho2⟩ := hI
    have hi : i < names.length := (List.getElem?_eq_some_iff.mp hx).1
    refine draw_ok (by omega) (by decide) (by decide) fun e _ _ => ?_
    refine ite_ (fun _ => k1 _ _ ⟨by omega, ?_, fun w hw => ?_⟩) (fun _ => k1 _ _ ⟨by omega, ?_, fun w hw => ?_⟩)
    · show (acc ++ [x]).length ≤ i + 1
      rw [List.length_append, List.length_singleton]; omega
    · rcases List.mem_append.mp hw with z | z
      · exact ho2 w z
      · have z : w = x := List.mem_singleton.mp z
        rw [z]; exact ho x (List.mem_of_getElem? hx)
    · show (acc ++ []).length ≤ i + 1
      rw [List.append_nil]; omega
    · have hw : w ∈ acc ++ [] := hw
      rw [List.append_nil] at hw
      exact ho2 w hw
  · obtain ⟨en, hl2, oc⟩ := hI
    have en : n' = n + names.length := en
    subst en
    have hl2 : c.length ≤ names.length := hl2
    have z9 : PyData.strOk ("zz9" : Str) = true := by decide +kernel
    have app : ∀ {xs ys : List Str}, okN xs → okN ys → okN (xs ++ ys) := fun a b w hw => (List.mem_append.mp hw).elim (a w) (b w)
    have one : ∀ {x : Str}, PyData.strOk x = true → okN [x] := fun h w hw => by rw [List.mem_singleton.mp hw]; exact h
    have e1 : cutL c none (some (1 : Int)) = c.take 1 := by
      by_cases h : 1 ≤ c.length
      · exact cutL_take (m := 1) h
      · have : c = [] := List.eq_nil_of_length_eq_zero (by omega)
        subst this
        decide +kernel
    refine ⟨size1000 (by show c.length + 1 ≤ 1000; omega), ?_⟩
    refine ⟨size1000 (by show c.length + (cutL c none (some (1 : Int))).length ≤ 1000; rw [e1, List.length_take]; omega), ?_⟩
    refine ⟨size1000 (by show c.length + 1 ≤ 1000; omega), ?_⟩
    have ln : (distS (c ++ [gone])).length < 64 := by
      have := nodup_sub (distS_nd (c ++ [gone])) (fun x hx => distS_mem.mp hx)
      rw [List.length_append, List.length_singleton] at this
      omega
    refine sortSet_i (by show (c ++ [gone]).length ≤ 1000; rw [List.length_append, List.length_singleton]; omega) ln fun ys p _ _ => ?_
    have oy : okN ys := fun w hw => app oc (one hg) w (distS_mem.mp (p.mem_iff.mp hw))
    refine ⟨size1000 (by show 10 + 2 ≤ 1000; decide), ?_⟩
    have T : ∀ {xs : List Str}, okN xs → OkD (IsD.d (rTup rStr) xs) := fun h => okD_of (R := rTup rStr) h
    refine seq_i (bind_i (bind_i (draw_ok (by omega) (by decide) (by decide) fun e _ _ => ?_)))
    refine ite_ (fun _ => ?_) (fun _ => k _ _ (T oc) (by omega))
    refine draw_ok (by omega) (by decide) (by decide) fun e e0 e1' => ?_
    refine idx_ok e0 (by exact e1') fun d hd _ => ?_
    refine k d _ ?_ (by omega)
    simp only [List.mem_append, List.mem_cons, List.not_mem_nil, or_false, List.map_cons, List.map_nil] at hd
    rcases hd with (rfl | rfl | rfl | rfl | rfl | rfl | rfl | rfl | rfl | rfl) | rfl | rfl
    · exact T (app oc (one z9))
    · exact T fun w hw => oc w (List.mem_reverse.mp hw)
    · exact okD_of (R := rLst rStr) oc
    · exact T (app oc (by rw [e1]; exact fun w hw => oc w (List.mem_of_mem_take hw)))
    · exact okD_of (R := rNon) (a := ()) trivial
    · exact okD_of (R := rInt) (a := 3) trivial
    · exact okD_of (R := rStr) (a := "a") (show PyData.strOk ("a" : Str) = true by decide +kernel)
    · exact .inr rfl
    · exact okD_of (R := rTup rInt) (a := [1]) (fun _ _ => trivial)
    · exact okD_of (R := rTup (rTup rStr)) (a := [c]) (fun z hz => by rw [List.mem_singleton.mp hz]; exact oc)
    · exact T oy
    · exact T (one hg)
theorem Due.plain {o0 o1 : List Str} {a who : Str} {ls0 ls1 : List (List Str)} {d : PyData} {v : Str × PyData} (D : Due o0 a o1 ls0 ls1 who d v) (hd : OkD d) : okE v.2 = true ∧ v.2.depth ≤ 50 ∧ (v.1 = ("told" : Str) → isD_bool v.2 = true) := by
  cases D with
  | unknown _ => exact ⟨by simp [okE], by simp [PyData.depth], fun h => absurd h (show ¬ (("unknown" : Str) = ("told" : Str)) by decide +kernel)⟩
  | twice _ _ => exact ⟨by simp [okE], by simp [PyData.depth], fun h => absurd h (show ¬ (("twice" : Str) = ("told" : Str)) by decide +kernel)⟩
  | side _ _ _ => exact ⟨by simp [okE], by simp [PyData.depth], fun h => absurd h (show ¬ (("side" : Str) = ("told" : Str)) by decide +kernel)⟩
  | set _ _ _ _ _ _ => exact ⟨hd.e, hd.dep, fun h => absurd h (show ¬ (("set" : Str) = ("told" : Str)) by decide +kernel)⟩
  | told _ _ _ _ _ _ _ => exact ⟨by simp [okE], by simp [PyData.depth], fun _ => rfl⟩
theorem tb_of {ws : List Str} {h w : Nat} {g : List (List Str)} {o : List Str} (W : Six ws) (h1 : 1 ≤ h) (h8 : h ≤ 8) (w1 : 1 ≤ w) (w8 : w ≤ 8) (G : Grid ws h w g) (p : o.Perm (distS g.flatten)) (nd : o.Nodup) (so : sortedS o = true) (l : o.length ≤ 6) : Tb g o w := by
  refine ⟨nm_of p nd so l, fun x hx => ?_, ws, h, h1, h8, w1, w8, G, W.gd⟩
  obtain ⟨r, hr, hxr⟩ := List.mem_flatten.mp (distS_mem.mp (p.mem_iff.mp hx))
  exact good_strOk (W.gd x (G.mem r hr x hxr))
end
theorem law_ok (Ψ : Exc → Nat → Prop) : F_law (fun b _ => b = true) Ψ 0 := by
  delta F_law
  refine F_words_ok (by omega) fun ws n0 W hn0 => ?_
  refine F_grid_ok W (by omega) fun g n1 hg hn1 => ?_
  refine F_inner_ok W hg (by omega) fun ws1 i1 n2 W1 hi1 hn2 => ?_
  refine F_inner_ok W hg (by omega) fun ws2 i2 n3 W2 hi2 hn3 => ?_
  obtain ⟨h, w, a1, a2, a3, a4, G⟩ := hg
  obtain ⟨h', w', b1, b2, b3, b4, G1⟩ := hi1
  obtain ⟨h'', w'', c1, c2, c3, c4, G2⟩ := hi2
  refine F_Table_ok G a1 a2 a3 a4 W.gd (by rw [W.len]; decide) fun o p nd so l6 l1 => ?_
  have T := tb_of W a1 a2 a3 a4 G p nd so l6
  refine idx_i (x := i1) (atI_nat (j := 0) rfl) ?_
  refine F_Table_ok G1 b1 b2 b3 b4 W1.gd (by rw [W1.len]; decide) fun o1 p1 nd1 so1 l61 l11 => ?_
  have T1 := tb_of W1 b1 b2 b3 b4 G1 p1 nd1 so1 l61
  refine idx_i (x := i2) (atI_nat (j := 1) rfl) ?_
  refine F_Table_ok G2 c1 c2 c3 c4 W2.gd (by rw [W2.len]; decide) fun o2 p2 nd2 so2 l62 l12 => ?_
  have T2 := tb_of W2 c1 c2 c3 c4 G2 p2 nd2 so2 l62
  refine rng_ok (by omega) (by omega) (by omega) (by omega) ?_
  refine for_rule (fun i _ n' => n' ≤ 5000 + 100 * i) (by omega) (fun i x _ n' hx hI Φ' k1 _ => ?_) (fun _ n' _ => rfl)
  obtain ⟨ex, hi⟩ := rngI_at hx
  have hx2 : x.fmod 2 = 0 ∨ x.fmod 2 = 1 := by
    rw [Int.fmod_eq_emod_of_nonneg _ (by decide)]
    omega
  have pick : ∃ gi oi wi, Tb gi oi wi ∧ L2.atI [i1, i2] (x.fmod 2) = some gi ∧ L2.atI [(o, g, colsL g w), (o1, i1, colsL i1 w'), (o2, i2, colsL i2 w'')] (1 + x.fmod 2) = some (oi, gi, colsL gi wi) := by
    rcases hx2 with e | e
    · exact ⟨i1, o1, w', T1, by rw [e]; rfl, by rw [e]; rfl⟩
    · exact ⟨i2, o2, w'', T2, by rw [e]; rfl, by rw [e]; rfl⟩
  obtain ⟨gi, oi, wi, Ti, q1, q2⟩ := pick
  refine ⟨by decide, ?_⟩
  refine idx_i q1 ?_
  refine idx_i (x := (o, g, colsL g w)) (atI_nat (j := 0) rfl) ?_
  refine ⟨by decide, ?_⟩
  refine idx_i q2 ?_
  refine F_names_ok T.nm ?_
  refine ⟨size1000 (by show o.length + 1 ≤ 1000; omega), ?_⟩
  refine draw_ok (by omega) (by decide) (by decide) fun e _ _ => ?_
  have lz : (o ++ [("zz9" : Str)]).length = o.length + 1 := by rw [List.length_append, List.length_singleton]
  have lb : ∀ b : Bool, (1 : Int) ≤ ((o ++ [("zz9" : Str)]).length : Int) - (if b = true then (1 : Int) else 0) ∧ ((o ++ [("zz9" : Str)]).length : Int) - (if b = true then (1 : Int) else 0) ≤ ((o ++ [("zz9" : Str)]).length : Int) := fun b => by
    cases b <;> simp [lz] <;> omega
  refine draw_ok (by omega) (by have := (lb (decide (0 < e))).1; show (0 : Int) < ((o ++ [("zz9" : Str)]).length : Int) - (if decide (0 < e) = true then (1 : Int) else 0); omega)
    (by have := (lb (decide (0 < e))).2; show ((o ++ [("zz9" : Str)]).length : Int) - (if decide (0 < e) = true then (1 : Int) else 0) < 2 ^ 100; omega) fun t t0 t1 => ?_
  refine idx_ok t0 (Int.lt_of_lt_of_le t1 (lb (decide (0 < e))).2) fun a ha _ => ?_
  have sa : PyData.strOk a = true := by
    rcases List.mem_append.mp ha with z | z
    · exact T.ok a z
    · rw [List.mem_singleton.mp z]; decide +kernel
  refine draw_ok (by omega) (by decide) (by decide) fun u u0 u1 => ?_
  refine idx_ok u0 (by exact u1) fun who _ _ => ?_
  refine F_names_ok T.nm ?_
  refine comp_filter (fun x => !decide (x = a)) (fun x _ Φ2 n2 q => ite_ (fun h => ?_) (fun h => ?_)) (by show o.length ≤ 1000; omega) ?_
  · rw [if_pos h] at q; exact q
  · rw [if_neg (by rw [h]; simp)] at q; exact q
  refine F_names_ok Ti.nm ?_
  have lk : (kept o a).length ≤ 6 := Nat.le_trans (List.length_filter_le _ _) l6
  have li := Ti.nm.len
  refine ⟨size1000 (by show (kept o a).length + oi.length ≤ 1000; omega), ?_⟩
  have hl : ((kept o a) ++ oi).length ≤ 12 := by rw [List.length_append]; omega
  refine sortS_i (by show ((kept o a) ++ oi).length < 64; omega) fun both hp hs => ?_
  have hbl : both.length = ((kept o a) ++ oi).length := hp.length_eq
  have ob : okN both := fun y hy => by
    rcases List.mem_append.mp (hp.mem_iff.mp hy) with z | z
    · exact T.ok y (List.mem_filter.mp z).1
    · exact Ti.ok y z
  refine F_drawn_ok (names := both) (by omega) ob sa (by omega) fun d n5 hd hn5 => ?_
  refine F_due_ok T Ti hd fun v D => ?_
  have hv := D.plain hd
  refine seq_post (fun _ m => m = n5) (fun Φ2 r1 r2 => ?_) fun _ m hm => ?_
  · refine for_rule (fun _ _ m => m = n5) rfl (fun j way _ m _ hJ Φ3 k3 _ => ?_) (fun _ m hm => r1 _ _ hm)
    subst hJ
    refine F_told_ok T Ti hd D ?_
    refine neQ_same (ds := [.str v.1, v.2]) ?_ ?_ ?_
    · simp only [okEs, okE, Bool.true_and, Bool.and_true]; exact hv.1
    · simp only [PyData.depthAll, PyData.depth]; omega
    · refine ite_ (fun e => ?_) (fun _ => k3 _ _ rfl)
      exfalso
      have e : (false || (decide (v.1 = ("told" : Str)) && !(isD_bool v.2))) = true := e
      rw [Bool.false_or, Bool.and_eq_true] at e
      rw [hv.2.2 (of_decide_eq_true e.1)] at e
      exact absurd e.2 (by decide)
  · exact k1 _ _ (by omega)
end K66

set_option pp.deepTerms false
set_option pp.deepTerms.threshold 8
namespace K66
open PySem PySem.Spec PyProof.Rows L2 VL
def d_Lstart : He.DefD := ⟨("_law_start", none), "_law_start", "_law_start", defArgs s_Lstart, defBody s_Lstart, defScope s_Lstart, [], []⟩
def d_Ltake : He.DefD := ⟨("_law_take", none), "_law_take", "_law_take", defArgs s_Ltake, defBody s_Ltake, defScope s_Ltake, [], []⟩
def d_BadSetD_initD : He.DefD := ⟨("BadSet", some "__init__"), "__init__", "BadSet.__init__", defArgs s_BadSetD_initD, defBody s_BadSetD_initD, defScope s_BadSetD_initD, [], []⟩
def d_BadSideD_initD : He.DefD := ⟨("BadSide", some "__init__"), "__init__", "BadSide.__init__", defArgs s_BadSideD_initD, defBody s_BadSideD_initD, defScope s_BadSideD_initD, [], []⟩
def d_DuplicateNameD_initD : He.DefD := ⟨("DuplicateName", some "__init__"), "__init__", "DuplicateName.__init__", defArgs s_DuplicateNameD_initD, defBody s_DuplicateNameD_initD, defScope s_DuplicateNameD_initD, [], []⟩
def d_UnknownNameD_initD : He.DefD := ⟨("UnknownName", some "__init__"), "__init__", "UnknownName.__init__", defArgs s_UnknownNameD_initD, defBody s_UnknownNameD_initD, defScope s_UnknownNameD_initD, [], []⟩
def d_valid_name : He.DefD := ⟨("valid_name", none), "valid_name", "valid_name", defArgs s_valid_name, defBody s_valid_name, defScope s_valid_name, [], []⟩
def d_as_set : He.DefD := ⟨("as_set", none), "as_set", "as_set", defArgs s_as_set, defBody s_as_set, defScope s_as_set, [], []⟩
def d_is_set_of : He.DefD := ⟨("is_set_of", none), "is_set_of", "is_set_of", defArgs s_is_set_of, defBody s_is_set_of, defScope s_is_set_of, [], []⟩
def d_check_count : He.DefD := ⟨("check_count", none), "check_count", "check_count", defArgs s_check_count, defBody s_check_count, defScope s_check_count, [], []⟩
def d_check_side : He.DefD := ⟨("check_side", none), "check_side", "check_side", defArgs s_check_side, defBody s_check_side, defScope s_check_side, [], []⟩
def d_check_set : He.DefD := ⟨("check_set", none), "check_set", "check_set", defArgs s_check_set, defBody s_check_set, defScope s_check_set, [], []⟩
def d_check_shape : He.DefD := ⟨("check_shape", none), "check_shape", "check_shape", defArgs s_check_shape, defBody s_check_shape, defScope s_check_shape, [], []⟩
def d_exchanged : He.DefD := ⟨("exchanged", none), "exchanged", "exchanged", defArgs s_exchanged, defBody s_exchanged, defScope s_exchanged, [], []⟩
def d_TableD_initD : He.DefD := ⟨("Table", some "__init__"), "__init__", "Table.__init__", defArgs s_TableD_initD, defBody s_TableD_initD, defScope s_TableD_initD, [], []⟩
def d_Table_lines_of : He.DefD := ⟨("Table", some "lines_of"), "lines_of", "Table.lines_of", defArgs s_Table_lines_of, defBody s_Table_lines_of, defScope s_Table_lines_of, [], []⟩
def d_others : He.DefD := ⟨("others", none), "others", "others", defArgs s_others, defBody s_others, defScope s_others, [], []⟩
def d_common : He.DefD := ⟨("common", none), "common", "common", defArgs s_common, defBody s_common, defScope s_common, [], []⟩
def d_lies_in : He.DefD := ⟨("lies_in", none), "lies_in", "lies_in", defArgs s_lies_in, defBody s_lies_in, defScope s_lies_in, [], []⟩
def d_forcing_line : He.DefD := ⟨("forcing_line", none), "forcing_line", "forcing_line", defArgs s_forcing_line, defBody s_forcing_line, defScope s_forcing_line, [], []⟩
def d_forces : He.DefD := ⟨("forces", none), "forces", "forces", defArgs s_forces, defBody s_forces, defScope s_forces, [], []⟩
def d_check_put : He.DefD := ⟨("check_put", none), "check_put", "check_put", defArgs s_check_put, defBody s_check_put, defScope s_check_put, [], []⟩
def d_put_forces : He.DefD := ⟨("put_forces", none), "put_forces", "put_forces", defArgs s_put_forces, defBody s_put_forces, defScope s_put_forces, [], []⟩
def d_Lshuffled : He.DefD := ⟨("_law_shuffled", none), "_law_shuffled", "_law_shuffled", defArgs s_Lshuffled, defBody s_Lshuffled, defScope s_Lshuffled, [], []⟩
def d_Lwords : He.DefD := ⟨("_law_words", none), "_law_words", "_law_words", defArgs s_Lwords, defBody s_Lwords, defScope s_Lwords, [], []⟩
def d_Lflipped : He.DefD := ⟨("_law_flipped", none), "_law_flipped", "_law_flipped", defArgs s_Lflipped, defBody s_Lflipped, defScope s_Lflipped, [], []⟩
def d_Lstacked : He.DefD := ⟨("_law_stacked", none), "_law_stacked", "_law_stacked", defArgs s_Lstacked, defBody s_Lstacked, defScope s_Lstacked, [], []⟩
def d_Ltree_grid : He.DefD := ⟨("_law_tree_grid", none), "_law_tree_grid", "_law_tree_grid", defArgs s_Ltree_grid, defBody s_Ltree_grid, defScope s_Ltree_grid, [], []⟩
def d_Lrenamed : He.DefD := ⟨("_law_renamed", none), "_law_renamed", "_law_renamed", defArgs s_Lrenamed, defBody s_Lrenamed, defScope s_Lrenamed, [], []⟩
def d_Lsmooth_grid : He.DefD := ⟨("_law_smooth_grid", none), "_law_smooth_grid", "_law_smooth_grid", defArgs s_Lsmooth_grid, defBody s_Lsmooth_grid, defScope s_Lsmooth_grid, [], []⟩
def d_Lany_grid : He.DefD := ⟨("_law_any_grid", none), "_law_any_grid", "_law_any_grid", defArgs s_Lany_grid, defBody s_Lany_grid, defScope s_Lany_grid, [], []⟩
def d_Lgrid : He.DefD := ⟨("_law_grid", none), "_law_grid", "_law_grid", defArgs s_Lgrid, defBody s_Lgrid, defScope s_Lgrid, [], []⟩
def d_Lnames : He.DefD := ⟨("_law_names", none), "_law_names", "_law_names", defArgs s_Lnames, defBody s_Lnames, defScope s_Lnames, [], []⟩
def d_Lforces : He.DefD := ⟨("_law_forces", none), "_law_forces", "_law_forces", defArgs s_Lforces, defBody s_Lforces, defScope s_Lforces, [], []⟩
def d_Llines : He.DefD := ⟨("_law_lines", none), "_law_lines", "_law_lines", defArgs s_Llines, defBody s_Llines, defScope s_Llines, [], []⟩
def d_Lis_set : He.DefD := ⟨("_law_is_set", none), "_law_is_set", "_law_is_set", defArgs s_Lis_set, defBody s_Lis_set, defScope s_Lis_set, [], []⟩
def d_Ldue : He.DefD := ⟨("_law_due", none), "_law_due", "_law_due", defArgs s_Ldue, defBody s_Ldue, defScope s_Ldue, [], []⟩
def d_Ltold : He.DefD := ⟨("_law_told", none), "_law_told", "_law_told", defArgs s_Ltold, defBody s_Ltold, defScope s_Ltold, [], []⟩
def d_Ldrawn : He.DefD := ⟨("_law_drawn", none), "_law_drawn", "_law_drawn", defArgs s_Ldrawn, defBody s_Ldrawn, defScope s_Ldrawn, [], []⟩
def d_Linner : He.DefD := ⟨("_law_inner", none), "_law_inner", "_law_inner", defArgs s_Linner, defBody s_Linner, defScope s_Linner, [], []⟩
def d_law : He.DefD := ⟨("law", none), "law", "law", defArgs s_law, defBody s_law, defScope s_law, [], []⟩
def r_Table_outcomes : PrD := ⟨"Table", "outcomes", "Table.outcomes", s_Table_outcomes⟩
def fn : List He.DefD := [d_Lstart, d_Ltake, d_BadSetD_initD, d_BadSideD_initD, d_DuplicateNameD_initD, d_UnknownNameD_initD, d_valid_name, d_as_set, d_is_set_of, d_check_count, d_check_side, d_check_set, d_check_shape, d_exchanged, d_TableD_initD, d_Table_lines_of, d_others, d_common, d_lies_in, d_forcing_line, d_forces, d_check_put, d_put_forces, d_Lshuffled, d_Lwords, d_Lflipped, d_Lstacked, d_Ltree_grid, d_Lrenamed, d_Lsmooth_grid, d_Lany_grid, d_Lgrid, d_Lnames, d_Lforces, d_Llines, d_Lis_set, d_Ldue, d_Ltold, d_Ldrawn, d_Linner, d_law]
def prs : List PrD := [r_Table_outcomes]
def fa : List He.Fa := [.glo "_law_start", .glo "_law_take", .glo "valid_name", .glo "as_set", .glo "is_set_of", .glo "check_count", .glo "check_side", .glo "check_set", .glo "check_shape", .glo "exchanged", .glo "others", .glo "common", .glo "lies_in", .glo "forcing_line", .glo "forces", .glo "check_put", .glo "put_forces", .glo "_law_shuffled", .glo "_law_words", .glo "_law_flipped", .glo "_law_stacked", .glo "_law_tree_grid", .glo "_law_renamed", .glo "_law_smooth_grid", .glo "_law_any_grid", .glo "_law_grid", .glo "_law_names", .glo "_law_forces", .glo "_law_lines", .glo "_law_is_set", .glo "_law_due", .glo "_law_told", .glo "_law_drawn", .glo "_law_inner", .glo "law", .free "abs", .free "all", .free "bool", .free "enumerate", .free "int", .free "isinstance", .free "len", .free "list", .free "max", .free "range", .free "set", .free "sorted", .free "tuple", .free "zip", .str "DIGITS" "0123456789", .str "LETTERS" "abcdefghijklmnopqrstuvwxyz", .int "LONGEST_NAME" 6, .int "MOST_LINES" 8, .int "MOST_OUTCOMES" 6, .glo "Table", .cls "Table", .noat "Table" "_outcomes", .noat "Table" "_rows", .noat "Table" "_columns", .meth "BadSet" "__init__", .meth "BadSide" "__init__", .meth "DuplicateName" "__init__", .meth "UnknownName" "__init__", .mkr "Table", .meth "Table" "lines_of", .glo "BadSet", .noat "BadSet" "value", .exm "BadSet" "BadSet" true, .exm "BadSet" "BadSide" false, .exm "BadSet" "DuplicateName" false, .exm "BadSet" "UnknownName" false, .glo "BadSide", .noat "BadSide" "word", .exm "BadSide" "BadSet" false, .exm "BadSide" "BadSide" true, .exm "BadSide" "DuplicateName" false, .exm "BadSide" "UnknownName" false, .glo "DuplicateName", .noat "DuplicateName" "name", .exm "DuplicateName" "BadSet" false, .exm "DuplicateName" "BadSide" false, .exm "DuplicateName" "DuplicateName" true, .exm "DuplicateName" "UnknownName" false, .glo "UnknownName", .noat "UnknownName" "name", .exm "UnknownName" "BadSet" false, .exm "UnknownName" "BadSide" false, .exm "UnknownName" "DuplicateName" false, .exm "UnknownName" "UnknownName" true, .glo "SIDES"]
def tf : List He.Defn := []
def ex (K : PySem.W.Frag) : Bool := exsB [(("BadSet" : Str), ("value" : Str)), (("BadSide" : Str), ("word" : Str)), (("DuplicateName" : Str), ("name" : Str)), (("UnknownName" : Str), ("name" : Str))] K && He.tupB K "SIDES" [.str "rows", .str "columns"]
abbrev R : PySem.W.OpenRow := PySem.W.OpenLaw.row PySem.Challenge.rw_twochoosers_k66_put_forces
abbrev hk : PySem.W.Hook := hookP 6 fa fn prs tf ex
def ob (s : PySem.W.SharedT) : AlP := obsP 6 fa fn prs tf ex (HandSHeadRun.getT s)
theorem ob_eq (s : PySem.W.SharedT) : ob s = hk.obs s.abs := obsP_eq (HandSHeadRun.getT_eq s)
def names : List PySem.Str := (["_wall", "ChooserError", "BadName", "DuplicateName", "UnknownName", "BadCount", "BadText", "BadSet", "BadCell", "BadSide", "BadLine", "LETTERS", "DIGITS", "LONGEST_NAME", "valid_name", "as_set", "MOST_OUTCOMES", "SIDES", "is_integer", "is_index", "is_set_of", "check_count", "check_set", "check_side", "others", "common", "lies_in", "forcing_line", "forces", "MOST_LINES"] : List PySem.Str) ++ (["Table", "check_shape", "is_word", "is_cell", "exchanged", "check_put", "put_forces", "_law_start", "_law_take", "_law_shuffled", "_law_words", "_law_flipped", "_law_stacked", "_law_tree_grid", "_law_renamed", "_law_smooth_grid", "_law_any_grid", "_law_grid", "_law_names", "_law_forces", "_law_lines", "_law_is_set", "_law_due", "_law_told", "_law_drawn", "_law_inner"] : List PySem.Str)
theorem run (w : World) : HandSHeadRun.RunEq R (PySem.W.view R.prog [63]) hk ob 6000 names w := by
  intro os
  kernel_rfl
theorem facts {P : Program} {w : World} {K : PySem.W.Frag} {h0 h : Heap} {mg : Str → Option Value} {f : Addr} (X : K.In h) (G : h.Ns mainGlobals mg) (hfa : mg ("law" : Str) = some (.ref f)) (cc : SaysP fa fn prs tf ex w h0 K) :
    ∃ fd : FuncData, (∀ (s : Shared) (v : Value), BindsTo s fd ⟨[v], []⟩ [("_law_script", v)]) ∧ ∀ base : Heap, K.In base → base.Ns mainGlobals mg → (∀ p ∈ tf.map (He.cT K), LamX.TabB base mg p.1 p.2) → FnOk P w K mg base CX0 10 f fd ["_law_script"] (spLawT K ([] : List (Addr × Str))) := by
  have c := cc.x.t.d
  have MO : exsB [(("BadSet" : Str), ("value" : Str)), (("BadSide" : Str), ("word" : Str)), (("DuplicateName" : Str), ("name" : Str)), (("UnknownName" : Str), ("name" : Str))] K = true ∧ True := ⟨(He.ba cc.x.more).1, trivial⟩
  have s_SIDES := fun H => He.tupB_ok ((He.ba cc.x.more).2) H
  obtain ⟨fd0, G0⟩ := c.def_ 0 (d := d_Lstart) rfl
  have F0 : Fun K "_law_start" "_law_start" s_Lstart _ fd0 := He5.fun_of G0
  have b0 := F0.binds (ps := ["_law_script"]) fun _ _ _ _ _ _ us hl => match us, hl with | [_], _ => rfl
  obtain ⟨fd1, G1⟩ := c.def_ 1 (d := d_Ltake) rfl
  have F1 : Fun K "_law_take" "_law_take" s_Ltake _ fd1 := He5.fun_of G1
  have b1 := F1.binds (ps := ["_law_state", "_law_limit"]) fun _ _ _ _ _ _ us hl => match us, hl with | [_, _], _ => rfl
  obtain ⟨fd2, G2⟩ := c.def_ 2 (d := d_BadSetD_initD) rfl
  have F2 : Fun K "__init__" "BadSet.__init__" s_BadSetD_initD _ fd2 := He5.fun_of G2
  have b2 := F2.binds (ps := ["self", "value"]) fun _ _ _ _ _ _ us hl => match us, hl with | [_, _], _ => rfl
  obtain ⟨fd3, G3⟩ := c.def_ 3 (d := d_BadSideD_initD) rfl
  have F3 : Fun K "__init__" "BadSide.__init__" s_BadSideD_initD _ fd3 := He5.fun_of G3
  have b3 := F3.binds (ps := ["self", "word"]) fun _ _ _ _ _ _ us hl => match us, hl with | [_, _], _ => rfl
  obtain ⟨fd4, G4⟩ := c.def_ 4 (d := d_DuplicateNameD_initD) rfl
  have F4 : Fun K "__init__" "DuplicateName.__init__" s_DuplicateNameD_initD _ fd4 := He5.fun_of G4
  have b4 := F4.binds (ps := ["self", "name"]) fun _ _ _ _ _ _ us hl => match us, hl with | [_, _], _ => rfl
  obtain ⟨fd5, G5⟩ := c.def_ 5 (d := d_UnknownNameD_initD) rfl
  have F5 : Fun K "__init__" "UnknownName.__init__" s_UnknownNameD_initD _ fd5 := He5.fun_of G5
  have b5 := F5.binds (ps := ["self", "name"]) fun _ _ _ _ _ _ us hl => match us, hl with | [_, _], _ => rfl
  obtain ⟨fd6, G6⟩ := c.def_ 6 (d := d_valid_name) rfl
  have F6 : Fun K "valid_name" "valid_name" s_valid_name _ fd6 := He5.fun_of G6
  have b6 := F6.binds (ps := ["text"]) fun _ _ _ _ _ _ us hl => match us, hl with | [_], _ => rfl
  obtain ⟨fd7, G7⟩ := c.def_ 7 (d := d_as_set) rfl
  have F7 : Fun K "as_set" "as_set" s_as_set _ fd7 := He5.fun_of G7
  have b7 := F7.binds (ps := ["names"]) fun _ _ _ _ _ _ us hl => match us, hl with | [_], _ => rfl
  obtain ⟨fd8, G8⟩ := c.def_ 8 (d := d_is_set_of) rfl
  have F8 : Fun K "is_set_of" "is_set_of" s_is_set_of _ fd8 := He5.fun_of G8
  have b8 := F8.binds (ps := ["outcomes", "value"]) fun _ _ _ _ _ _ us hl => match us, hl with | [_, _], _ => rfl
  obtain ⟨fd9, G9⟩ := c.def_ 9 (d := d_check_count) rfl
  have F9 : Fun K "check_count" "check_count" s_check_count _ fd9 := He5.fun_of G9
  have b9 := F9.binds (ps := ["count"]) fun _ _ _ _ _ _ us hl => match us, hl with | [_], _ => rfl
  obtain ⟨fd10, G10⟩ := c.def_ 10 (d := d_check_side) rfl
  have F10 : Fun K "check_side" "check_side" s_check_side _ fd10 := He5.fun_of G10
  have b10 := F10.binds (ps := ["word"]) fun _ _ _ _ _ _ us hl => match us, hl with | [_], _ => rfl
  obtain ⟨fd11, G11⟩ := c.def_ 11 (d := d_check_set) rfl
  have F11 : Fun K "check_set" "check_set" s_check_set _ fd11 := He5.fun_of G11
  have b11 := F11.binds (ps := ["outcomes", "value"]) fun _ _ _ _ _ _ us hl => match us, hl with | [_, _], _ => rfl
  obtain ⟨fd12, G12⟩ := c.def_ 12 (d := d_check_shape) rfl
  have F12 : Fun K "check_shape" "check_shape" s_check_shape _ fd12 := He5.fun_of G12
  have b12 := F12.binds (ps := ["lines"]) fun _ _ _ _ _ _ us hl => match us, hl with | [_], _ => rfl
  obtain ⟨fd13, G13⟩ := c.def_ 13 (d := d_exchanged) rfl
  have F13 : Fun K "exchanged" "exchanged" s_exchanged _ fd13 := He5.fun_of G13
  have b13 := F13.binds (ps := ["lines"]) fun _ _ _ _ _ _ us hl => match us, hl with | [_], _ => rfl
  obtain ⟨fd14, G14⟩ := c.def_ 14 (d := d_TableD_initD) rfl
  have F14 : Fun K "__init__" "Table.__init__" s_TableD_initD _ fd14 := He5.fun_of G14
  have b14 := F14.binds (ps := ["self", "lines"]) fun _ _ _ _ _ _ us hl => match us, hl with | [_, _], _ => rfl
  obtain ⟨fd15, G15⟩ := c.def_ 15 (d := d_Table_lines_of) rfl
  have F15 : Fun K "lines_of" "Table.lines_of" s_Table_lines_of _ fd15 := He5.fun_of G15
  have b15 := F15.binds (ps := ["self", "side"]) fun _ _ _ _ _ _ us hl => match us, hl with | [_, _], _ => rfl
  obtain ⟨fd16, G16⟩ := c.def_ 16 (d := d_others) rfl
  have F16 : Fun K "others" "others" s_others _ fd16 := He5.fun_of G16
  have b16 := F16.binds (ps := ["outcomes", "wanted"]) fun _ _ _ _ _ _ us hl => match us, hl with | [_, _], _ => rfl
  obtain ⟨fd17, G17⟩ := c.def_ 17 (d := d_common) rfl
  have F17 : Fun K "common" "common" s_common _ fd17 := He5.fun_of G17
  have b17 := F17.binds (ps := ["one", "other"]) fun _ _ _ _ _ _ us hl => match us, hl with | [_, _], _ => rfl
  obtain ⟨fd18, G18⟩ := c.def_ 18 (d := d_lies_in) rfl
  have F18 : Fun K "lies_in" "lies_in" s_lies_in _ fd18 := He5.fun_of G18
  have b18 := F18.binds (ps := ["names", "wanted"]) fun _ _ _ _ _ _ us hl => match us, hl with | [_, _], _ => rfl
  obtain ⟨fd19, G19⟩ := c.def_ 19 (d := d_forcing_line) rfl
  have F19 : Fun K "forcing_line" "forcing_line" s_forcing_line _ fd19 := He5.fun_of G19
  have b19 := F19.binds (ps := ["table", "side", "wanted"]) fun _ _ _ _ _ _ us hl => match us, hl with | [_, _, _], _ => rfl
  obtain ⟨fd20, G20⟩ := c.def_ 20 (d := d_forces) rfl
  have F20 : Fun K "forces" "forces" s_forces _ fd20 := He5.fun_of G20
  have b20 := F20.binds (ps := ["table", "side", "wanted"]) fun _ _ _ _ _ _ us hl => match us, hl with | [_, _, _], _ => rfl
  obtain ⟨fd21, G21⟩ := c.def_ 21 (d := d_check_put) rfl
  have F21 : Fun K "check_put" "check_put" s_check_put _ fd21 := He5.fun_of G21
  have b21 := F21.binds (ps := ["table", "name", "other"]) fun _ _ _ _ _ _ us hl => match us, hl with | [_, _, _], _ => rfl
  obtain ⟨fd22, G22⟩ := c.def_ 22 (d := d_put_forces) rfl
  have F22 : Fun K "put_forces" "put_forces" s_put_forces _ fd22 := He5.fun_of G22
  have b22 := F22.binds (ps := ["table", "name", "other", "side", "wanted"]) fun _ _ _ _ _ _ us hl => match us, hl with | [_, _, _, _, _], _ => rfl
  obtain ⟨fd23, G23⟩ := c.def_ 23 (d := d_Lshuffled) rfl
  have F23 : Fun K "_law_shuffled" "_law_shuffled" s_Lshuffled _ fd23 := He5.fun_of G23
  have b23 := F23.binds (ps := ["_law_state", "_law_items"]) fun _ _ _ _ _ _ us hl => match us, hl with | [_, _], _ => rfl
  obtain ⟨fd24, G24⟩ := c.def_ 24 (d := d_Lwords) rfl
  have F24 : Fun K "_law_words" "_law_words" s_Lwords _ fd24 := He5.fun_of G24
  have b24 := F24.binds (ps := ["_law_state"]) fun _ _ _ _ _ _ us hl => match us, hl with | [_], _ => rfl
  obtain ⟨fd25, G25⟩ := c.def_ 25 (d := d_Lflipped) rfl
  have F25 : Fun K "_law_flipped" "_law_flipped" s_Lflipped _ fd25 := He5.fun_of G25
  have b25 := F25.binds (ps := ["_law_grid_here"]) fun _ _ _ _ _ _ us hl => match us, hl with | [_], _ => rfl
  obtain ⟨fd26, G26⟩ := c.def_ 26 (d := d_Lstacked) rfl
  have F26 : Fun K "_law_stacked" "_law_stacked" s_Lstacked _ fd26 := He5.fun_of G26
  have b26 := F26.binds (ps := ["_law_one", "_law_beside"]) fun _ _ _ _ _ _ us hl => match us, hl with | [_, _], _ => rfl
  obtain ⟨fd27, G27⟩ := c.def_ 27 (d := d_Ltree_grid) rfl
  have F27 : Fun K "_law_tree_grid" "_law_tree_grid" s_Ltree_grid _ fd27 := He5.fun_of G27
  have b27 := F27.binds (ps := ["_law_state", "_law_words_here"]) fun _ _ _ _ _ _ us hl => match us, hl with | [_, _], _ => rfl
  obtain ⟨fd28, G28⟩ := c.def_ 28 (d := d_Lrenamed) rfl
  have F28 : Fun K "_law_renamed" "_law_renamed" s_Lrenamed _ fd28 := He5.fun_of G28
  have b28 := F28.binds (ps := ["_law_state", "_law_grid_here", "_law_words_here"]) fun _ _ _ _ _ _ us hl => match us, hl with | [_, _, _], _ => rfl
  obtain ⟨fd29, G29⟩ := c.def_ 29 (d := d_Lsmooth_grid) rfl
  have F29 : Fun K "_law_smooth_grid" "_law_smooth_grid" s_Lsmooth_grid _ fd29 := He5.fun_of G29
  have b29 := F29.binds (ps := ["_law_state", "_law_words_here"]) fun _ _ _ _ _ _ us hl => match us, hl with | [_, _], _ => rfl
  obtain ⟨fd30, G30⟩ := c.def_ 30 (d := d_Lany_grid) rfl
  have F30 : Fun K "_law_any_grid" "_law_any_grid" s_Lany_grid _ fd30 := He5.fun_of G30
  have b30 := F30.binds (ps := ["_law_state", "_law_words_here"]) fun _ _ _ _ _ _ us hl => match us, hl with | [_, _], _ => rfl
  obtain ⟨fd31, G31⟩ := c.def_ 31 (d := d_Lgrid) rfl
  have F31 : Fun K "_law_grid" "_law_grid" s_Lgrid _ fd31 := He5.fun_of G31
  have b31 := F31.binds (ps := ["_law_state", "_law_words_here"]) fun _ _ _ _ _ _ us hl => match us, hl with | [_, _], _ => rfl
  obtain ⟨fd32, G32⟩ := c.def_ 32 (d := d_Lnames) rfl
  have F32 : Fun K "_law_names" "_law_names" s_Lnames _ fd32 := He5.fun_of G32
  have b32 := F32.binds (ps := ["_law_grid_here"]) fun _ _ _ _ _ _ us hl => match us, hl with | [_], _ => rfl
  obtain ⟨fd33, G33⟩ := c.def_ 33 (d := d_Lforces) rfl
  have F33 : Fun K "_law_forces" "_law_forces" s_Lforces _ fd33 := He5.fun_of G33
  have b33 := F33.binds (ps := ["_law_lines_here", "_law_chosen"]) fun _ _ _ _ _ _ us hl => match us, hl with | [_, _], _ => rfl
  obtain ⟨fd34, G34⟩ := c.def_ 34 (d := d_Llines) rfl
  have F34 : Fun K "_law_lines" "_law_lines" s_Llines _ fd34 := He5.fun_of G34
  have b34 := F34.binds (ps := ["_law_grid_here", "_law_who"]) fun _ _ _ _ _ _ us hl => match us, hl with | [_, _], _ => rfl
  obtain ⟨fd35, G35⟩ := c.def_ 35 (d := d_Lis_set) rfl
  have F35 : Fun K "_law_is_set" "_law_is_set" s_Lis_set _ fd35 := He5.fun_of G35
  have b35 := F35.binds (ps := ["_law_names_here", "_law_value"]) fun _ _ _ _ _ _ us hl => match us, hl with | [_, _], _ => rfl
  obtain ⟨fd36, G36⟩ := c.def_ 36 (d := d_Ldue) rfl
  have F36 : Fun K "_law_due" "_law_due" s_Ldue _ fd36 := He5.fun_of G36
  have b36 := F36.binds (ps := ["_law_grid_here", "_law_label", "_law_inner_here", "_law_who", "_law_chosen"]) fun _ _ _ _ _ _ us hl => match us, hl with | [_, _, _, _, _], _ => rfl
  obtain ⟨fd37, G37⟩ := c.def_ 37 (d := d_Ltold) rfl
  have F37 : Fun K "_law_told" "_law_told" s_Ltold _ fd37 := He5.fun_of G37
  have b37 := F37.binds (ps := ["_law_way", "_law_desks", "_law_outcome", "_law_at", "_law_thing"]) fun _ _ _ _ _ _ us hl => match us, hl with | [_, _, _, _, _], _ => rfl
  obtain ⟨fd38, G38⟩ := c.def_ 38 (d := d_Ldrawn) rfl
  have F38 : Fun K "_law_drawn" "_law_drawn" s_Ldrawn _ fd38 := He5.fun_of G38
  have b38 := F38.binds (ps := ["_law_state", "_law_names_here", "_law_gone"]) fun _ _ _ _ _ _ us hl => match us, hl with | [_, _, _], _ => rfl
  obtain ⟨fd39, G39⟩ := c.def_ 39 (d := d_Linner) rfl
  have F39 : Fun K "_law_inner" "_law_inner" s_Linner _ fd39 := He5.fun_of G39
  have b39 := F39.binds (ps := ["_law_state", "_law_grid_here", "_law_words_here"]) fun _ _ _ _ _ _ us hl => match us, hl with | [_, _, _], _ => rfl
  obtain ⟨fd40, G40⟩ := c.def_ 40 (d := d_law) rfl
  have F40 : Fun K "law" "law" s_law _ fd40 := He5.fun_of G40
  have b40 := F40.binds (ps := ["_law_script"]) fun _ _ _ _ _ _ us hl => match us, hl with | [_], _ => rfl
  obtain ⟨PR0, fp0, FP0⟩ := cc.pr 0 (d := r_Table_outcomes) rfl
  have FP0 : Fun K "outcomes" "Table.outcomes" s_Table_outcomes _ fp0 := FP0
  have bp0 := FP0.binds (ps := ["self"]) fun _ _ _ _ _ _ us hl => match us, hl with | [_], _ => rfl
  have e := hfa.symm.trans (He.glo_ok X G (c.fact 34 (f := .glo "law") rfl))
  cases e
  have T : TxtB mg := { z_abs := He.free_ok X G (c.fact 35 (f := .free "abs") rfl), z_all := He.free_ok X G (c.fact 36 (f := .free "all") rfl), z_bool := He.free_ok X G (c.fact 37 (f := .free "bool") rfl), z_enumerate := He.free_ok X G (c.fact 38 (f := .free "enumerate") rfl), z_int := He.free_ok X G (c.fact 39 (f := .free "int") rfl), z_isinstance := He.free_ok X G (c.fact 40 (f := .free "isinstance") rfl), z_len := He.free_ok X G (c.fact 41 (f := .free "len") rfl), z_list := He.free_ok X G (c.fact 42 (f := .free "list") rfl), z_max := He.free_ok X G (c.fact 43 (f := .free "max") rfl), z_range := He.free_ok X G (c.fact 44 (f := .free "range") rfl), z_set := He.free_ok X G (c.fact 45 (f := .free "set") rfl), z_sorted := He.free_ok X G (c.fact 46 (f := .free "sorted") rfl), z_tuple := He.free_ok X G (c.fact 47 (f := .free "tuple") rfl), z_zip := He.free_ok X G (c.fact 48 (f := .free "zip") rfl), c_DIGITS := He.str_ok X G (c.fact 49 (f := .str "DIGITS" "0123456789") rfl), c_LETTERS := He.str_ok X G (c.fact 50 (f := .str "LETTERS" "abcdefghijklmnopqrstuvwxyz") rfl), c_LONGEST_NAME := He.int_ok X G (c.fact 51 (f := .int "LONGEST_NAME" 6) rfl), c_MOST_LINES := He.int_ok X G (c.fact 52 (f := .int "MOST_LINES" 8) rfl), c_MOST_OUTCOMES := He.int_ok X G (c.fact 53 (f := .int "MOST_OUTCOMES" 6) rfl) }
  have na_Table : ∀ f ∈ [("_outcomes" : Str), ("_rows" : Str), ("_columns" : Str)], NoAttr K (He.ga K "Table") f := fun f hf => by
    simp only [List.mem_cons, List.not_mem_nil, or_false] at hf
    rcases hf with rfl | rfl | rfl
    · exact He.noat_ok (c.fact 56 (f := .noat "Table" "_outcomes") rfl)
    · exact He.noat_ok (c.fact 57 (f := .noat "Table" "_rows") rfl)
    · exact He.noat_ok (c.fact 58 (f := .noat "Table" "_columns") rfl)
  let W_Table : ClsI K mg "Table" ["_outcomes", "_rows", "_columns"] := { C := He.ga K "Table", g := He.glo_ok X G (c.fact 54 (f := .glo "Table") rfl), cl := He.cls_ok (c.fact 55 (f := .cls "Table") rfl), na := na_Table }
  have XO0 := exsB_ok (xs := [(("BadSet" : Str), ("value" : Str)), (("BadSide" : Str), ("word" : Str)), (("DuplicateName" : Str), ("name" : Str)), (("UnknownName" : Str), ("name" : Str))]) MO.1 (i := 0) rfl
  let x_BadSet : XCls K mg "BadSet" "value" := { C := He.ga K "BadSet", g := He.glo_ok X G (c.fact 65 (f := .glo "BadSet") rfl), T := XO0.1, no := He.noat_ok (c.fact 66 (f := .noat "BadSet" "value") rfl), xf := XO0.2.1, ex := He.exm_ok (c.fact 67 (f := .exm "BadSet" "BadSet" true) rfl) }
  have XO1 := exsB_ok (xs := [(("BadSet" : Str), ("value" : Str)), (("BadSide" : Str), ("word" : Str)), (("DuplicateName" : Str), ("name" : Str)), (("UnknownName" : Str), ("name" : Str))]) MO.1 (i := 1) rfl
  let x_BadSide : XCls K mg "BadSide" "word" := { C := He.ga K "BadSide", g := He.glo_ok X G (c.fact 71 (f := .glo "BadSide") rfl), T := XO1.1, no := He.noat_ok (c.fact 72 (f := .noat "BadSide" "word") rfl), xf := XO1.2.1, ex := He.exm_ok (c.fact 74 (f := .exm "BadSide" "BadSide" true) rfl) }
  have XO2 := exsB_ok (xs := [(("BadSet" : Str), ("value" : Str)), (("BadSide" : Str), ("word" : Str)), (("DuplicateName" : Str), ("name" : Str)), (("UnknownName" : Str), ("name" : Str))]) MO.1 (i := 2) rfl
  let x_DuplicateName : XCls K mg "DuplicateName" "name" := { C := He.ga K "DuplicateName", g := He.glo_ok X G (c.fact 77 (f := .glo "DuplicateName") rfl), T := XO2.1, no := He.noat_ok (c.fact 78 (f := .noat "DuplicateName" "name") rfl), xf := XO2.2.1, ex := He.exm_ok (c.fact 81 (f := .exm "DuplicateName" "DuplicateName" true) rfl) }
  have XO3 := exsB_ok (xs := [(("BadSet" : Str), ("value" : Str)), (("BadSide" : Str), ("word" : Str)), (("DuplicateName" : Str), ("name" : Str)), (("UnknownName" : Str), ("name" : Str))]) MO.1 (i := 3) rfl
  let x_UnknownName : XCls K mg "UnknownName" "name" := { C := He.ga K "UnknownName", g := He.glo_ok X G (c.fact 83 (f := .glo "UnknownName") rfl), T := XO3.1, no := He.noat_ok (c.fact 84 (f := .noat "UnknownName" "name") rfl), xf := XO3.2.1, ex := He.exm_ok (c.fact 88 (f := .exm "UnknownName" "UnknownName" true) rfl) }
  refine ⟨fd40, fun s v => law_binds F40 (fun _ _ _ _ _ _ _ => rfl) s v, fun base XB GB TB => ?_⟩
  let c_Lstart : Cal P w K mg base "_law_start" CX0 1 ["_law_script"] (spStart2 K) := { f := _, fd := _, g := He.glo_ok X G (c.fact 0 (f := .glo "_law_start") rfl), kp := F0.kp, b := b0, G := ok_Lstart F0 T }
  let c_Ltake : Cal P w K mg base "_law_take" CX0 1 ["_law_state", "_law_limit"] (spT mg K ([] : List (Addr × Str)) thW (fun s (q : Int × Unit) => [rSt s, rInt q.1]) F_Ltake (Fz rInt)) := { f := _, fd := _, g := He.glo_ok X G (c.fact 1 (f := .glo "_law_take") rfl), kp := F1.kp, b := b1, G := okT_Ltake F1 T }
  let c_BadSetD_initD : CalM P w K mg base CX0 1 ["self", "value"] (spXI x_BadSet.C "value") := { f := _, fd := _, b := b2, G := ok_BadSetD_initD F2 T x_BadSet }
  let c_BadSideD_initD : CalM P w K mg base CX0 1 ["self", "word"] (spXI x_BadSide.C "word") := { f := _, fd := _, b := b3, G := ok_BadSideD_initD F3 T x_BadSide }
  let c_DuplicateNameD_initD : CalM P w K mg base CX0 1 ["self", "name"] (spXI x_DuplicateName.C "name") := { f := _, fd := _, b := b4, G := ok_DuplicateNameD_initD F4 T x_DuplicateName }
  let c_UnknownNameD_initD : CalM P w K mg base CX0 1 ["self", "name"] (spXI x_UnknownName.C "name") := { f := _, fd := _, b := b5, G := ok_UnknownNameD_initD F5 T x_UnknownName }
  let c_valid_name : Cal P w K mg base "valid_name" CX0 1 ["text"] (spG mg K ([] : List (Addr × Str)) (fun q : Str × Unit => [rStr q.1]) F_valid_name (Fz rBl)) := { f := _, fd := _, g := He.glo_ok X G (c.fact 2 (f := .glo "valid_name") rfl), kp := F6.kp, b := b6, G := ok_valid_name F6 T }
  let c_as_set : Cal P w K mg base "as_set" CX0 1 ["names"] (spG mg K ([] : List (Addr × Str)) (fun q : (List Str) × Unit => [(rSq rStr) q.1]) F_as_set (Fz (rTup rStr))) := { f := _, fd := _, g := He.glo_ok X G (c.fact 3 (f := .glo "as_set") rfl), kp := F7.kp, b := b7, G := ok_as_set F7 T }
  let c_is_set_of : Cal P w K mg base "is_set_of" CX0 1 ["outcomes", "value"] (spG mg K ([] : List (Addr × Str)) (fun q : (List Str) × PyData × Unit => [(rTup rStr) q.1, rDat q.2.1]) F_is_set_of (Fz rBl)) := { f := _, fd := _, g := He.glo_ok X G (c.fact 4 (f := .glo "is_set_of") rfl), kp := F8.kp, b := b8, G := ok_is_set_of F8 T }
  let c_check_count : Cal P w K mg base "check_count" CX0 1 ["count"] (spG mg K ([] : List (Addr × Str)) (fun q : Int × Unit => [rInt q.1]) F_check_count (Fz rNon)) := { f := _, fd := _, g := He.glo_ok X G (c.fact 5 (f := .glo "check_count") rfl), kp := F9.kp, b := b9, G := ok_check_count F9 T }
  let c_check_side : Cal P w K mg base "check_side" (CX P w) 3 ["word"] (spG mg K ([] : List (Addr × Str)) (fun q : Str × Unit => [rStr q.1]) F_check_side (Fz rNon)) := { f := _, fd := _, g := He.glo_ok X G (c.fact 6 (f := .glo "check_side") rfl), kp := F10.kp, b := b10, G := ok_check_side F10 T (He.glo_ok X G (c.fact 89 (f := .glo "SIDES") rfl)) s_SIDES x_BadSide c_BadSideD_initD ⟨(He.meth_ok (c.fact 60 (f := .meth "BadSide" "__init__") rfl)).at_, XO1.2.2⟩ }
  let c_check_set : Cal P w K mg base "check_set" (CX P w) 3 ["outcomes", "value"] (spG mg K ([] : List (Addr × Str)) (fun q : (List Str) × PyData × Unit => [(rTup rStr) q.1, rDat q.2.1]) F_check_set (Fz rNon)) := { f := _, fd := _, g := He.glo_ok X G (c.fact 7 (f := .glo "check_set") rfl), kp := F11.kp, b := b11, G := ok_check_set F11 T x_BadSet c_BadSetD_initD ⟨(He.meth_ok (c.fact 59 (f := .meth "BadSet" "__init__") rfl)).at_, XO0.2.2⟩ c_is_set_of }
  let c_check_shape : Cal P w K mg base "check_shape" CX0 1 ["lines"] (spG mg K ([] : List (Addr × Str)) (fun q : (List (List Str)) × Unit => [(rLst (rLst rStr)) q.1]) F_check_shape (Fz rNon)) := { f := _, fd := _, g := He.glo_ok X G (c.fact 8 (f := .glo "check_shape") rfl), kp := F12.kp, b := b12, G := ok_check_shape F12 T }
  let c_exchanged : Cal P w K mg base "exchanged" CX0 1 ["lines"] (spG mg K ([] : List (Addr × Str)) (fun q : (List (List Str)) × Unit => [(rTup (rTup rStr)) q.1]) F_exchanged (Fz (rTup (rTup rStr)))) := { f := _, fd := _, g := He.glo_ok X G (c.fact 9 (f := .glo "exchanged") rfl), kp := F13.kp, b := b13, G := ok_exchanged F13 T }
  let c_TableD_initD : CalM P w K mg base CX0 2 ["self", "lines"] (spI mg K ([] : List (Addr × Str)) W_Table.C (fun q : (List (List Str)) × Unit => [(rLst (rLst rStr)) q.1]) F_TableD_initD (cI_Table W_Table.C)) := { f := _, fd := _, b := b14, G := ok_TableD_initD (W_Table := W_Table) F14 T c_check_shape c_valid_name c_as_set c_check_count c_exchanged }
  let c_Table_outcomes : CalM P w K mg base CX0 1 ["self"] (spG mg K ([] : List (Addr × Str)) (fun q : d_Table × Unit => [(rI_Table W_Table.C) q.1]) F_Table_outcomes (Fz (rTup rStr))) := { f := _, fd := _, b := bp0, G := ok_Table_outcomes (W_Table := W_Table) FP0 T }
  let c_Table_lines_of : CalM P w K mg base (CX P w) 4 ["self", "side"] (spG mg K ([] : List (Addr × Str)) (fun q : d_Table × Str × Unit => [(rI_Table W_Table.C) q.1, rStr q.2.1]) F_Table_lines_of (Fz (rTup (rTup rStr)))) := { f := _, fd := _, b := b15, G := ok_Table_lines_of (W_Table := W_Table) F15 T c_check_side }
  let c_others : Cal P w K mg base "others" CX0 1 ["outcomes", "wanted"] (spG mg K ([] : List (Addr × Str)) (fun q : (List Str) × (List Str) × Unit => [(rTup rStr) q.1, (rTup rStr) q.2.1]) F_others (Fz (rTup rStr))) := { f := _, fd := _, g := He.glo_ok X G (c.fact 10 (f := .glo "others") rfl), kp := F16.kp, b := b16, G := ok_others F16 T }
  let c_common : Cal P w K mg base "common" CX0 1 ["one", "other"] (spG mg K ([] : List (Addr × Str)) (fun q : (List Str) × PyData × Unit => [(rTup rStr) q.1, rDat q.2.1]) F_common (Fz (rTup rStr))) := { f := _, fd := _, g := He.glo_ok X G (c.fact 11 (f := .glo "common") rfl), kp := F17.kp, b := b17, G := ok_common F17 T }
  let c_lies_in : Cal P w K mg base "lies_in" CX0 1 ["names", "wanted"] (spG mg K ([] : List (Addr × Str)) (fun q : (List Str) × PyData × Unit => [(rTup rStr) q.1, rDat q.2.1]) F_lies_in (Fz rBl)) := { f := _, fd := _, g := He.glo_ok X G (c.fact 12 (f := .glo "lies_in") rfl), kp := F18.kp, b := b18, G := ok_lies_in F18 T }
  let c_forcing_line : Cal P w K mg base "forcing_line" (CX P w) 6 ["table", "side", "wanted"] (spG mg K ([] : List (Addr × Str)) (fun q : d_Table × Str × PyData × Unit => [(rI_Table W_Table.C) q.1, rStr q.2.1, rDat q.2.2.1]) F_forcing_line (Fz (rOpt rInt))) := { f := _, fd := _, g := He.glo_ok X G (c.fact 13 (f := .glo "forcing_line") rfl), kp := F19.kp, b := b19, G := ok_forcing_line (W_Table := W_Table) F19 T c_check_side c_Table_outcomes PR0 c_check_set c_Table_lines_of (He.meth_ok (c.fact 64 (f := .meth "Table" "lines_of") rfl)) c_lies_in }
  let c_forces : Cal P w K mg base "forces" (CX P w) 7 ["table", "side", "wanted"] (spG mg K ([] : List (Addr × Str)) (fun q : d_Table × Str × PyData × Unit => [(rI_Table W_Table.C) q.1, rStr q.2.1, rDat q.2.2.1]) F_forces (Fz rBl)) := { f := _, fd := _, g := He.glo_ok X G (c.fact 14 (f := .glo "forces") rfl), kp := F20.kp, b := b20, G := ok_forces (W_Table := W_Table) F20 T c_forcing_line }
  let c_check_put : Cal P w K mg base "check_put" (CX P w) 3 ["table", "name", "other"] (spG mg K ([] : List (Addr × Str)) (fun q : d_Table × Str × d_Table × Unit => [(rI_Table W_Table.C) q.1, rStr q.2.1, (rI_Table W_Table.C) q.2.2.1]) F_check_put (Fz rNon)) := { f := _, fd := _, g := He.glo_ok X G (c.fact 15 (f := .glo "check_put") rfl), kp := F21.kp, b := b21, G := ok_check_put (W_Table := W_Table) F21 T x_UnknownName c_UnknownNameD_initD ⟨(He.meth_ok (c.fact 62 (f := .meth "UnknownName" "__init__") rfl)).at_, XO3.2.2⟩ x_DuplicateName c_DuplicateNameD_initD ⟨(He.meth_ok (c.fact 61 (f := .meth "DuplicateName" "__init__") rfl)).at_, XO2.2.2⟩ c_Table_outcomes PR0 c_others c_common }
  let c_put_forces : Cal P w K mg base "put_forces" (CX P w) 8 ["table", "name", "other", "side", "wanted"] (spG mg K ([] : List (Addr × Str)) (fun q : d_Table × Str × d_Table × Str × PyData × Unit => [(rI_Table W_Table.C) q.1, rStr q.2.1, (rI_Table W_Table.C) q.2.2.1, rStr q.2.2.2.1, rDat q.2.2.2.2.1]) F_put_forces (Fz rBl)) := { f := _, fd := _, g := He.glo_ok X G (c.fact 16 (f := .glo "put_forces") rfl), kp := F22.kp, b := b22, G := ok_put_forces (W_Table := W_Table) F22 T c_check_put c_check_side c_Table_outcomes PR0 c_others c_check_set c_common c_forces c_as_set }
  let c_Lshuffled : Cal P w K mg base "_law_shuffled" CX0 2 ["_law_state", "_law_items"] (spT mg K ([] : List (Addr × Str)) thW (fun s (q : (List Str) × Unit) => [rSt s, (rLst rStr) q.1]) F_Lshuffled (Ow (cLst rStr))) := { f := _, fd := _, g := He.glo_ok X G (c.fact 17 (f := .glo "_law_shuffled") rfl), kp := F23.kp, b := b23, G := ok_Lshuffled F23 T c_Ltake }
  let c_Lwords : Cal P w K mg base "_law_words" CX0 3 ["_law_state"] (spT mg K ([] : List (Addr × Str)) thW (fun s (q : Unit) => [rSt s]) F_Lwords (Ow (cLst rStr))) := { f := _, fd := _, g := He.glo_ok X G (c.fact 18 (f := .glo "_law_words") rfl), kp := F24.kp, b := b24, G := ok_Lwords F24 T c_Ltake c_Lshuffled }
  let c_Lflipped : Cal P w K mg base "_law_flipped" CX0 1 ["_law_grid_here"] (spGO mg K ([] : List (Addr × Str)) (fun q : (List (List Str)) × Unit => [(rLst (rLst rStr)) q.1]) F_Lflipped (fun B => cLst (rNw B (rLst rStr)))) := { f := _, fd := _, g := He.glo_ok X G (c.fact 19 (f := .glo "_law_flipped") rfl), kp := F25.kp, b := b25, G := ok_Lflipped F25 T }
  let c_Lstacked : Cal P w K mg base "_law_stacked" CX0 1 ["_law_one", "_law_beside"] (spGN mg K ([] : List (Addr × Str)) (fun q : (List (List Str)) × (List (List Str)) × Unit => [(rLst (rLst rStr)) q.1, (rLst (rLst rStr)) q.2.1]) F_Lstacked (fun B => (rLst (rNw B (rLst rStr))))) := { f := _, fd := _, g := He.glo_ok X G (c.fact 20 (f := .glo "_law_stacked") rfl), kp := F26.kp, b := b26, G := ok_Lstacked F26 T }
  let c_Ltree_grid : Cal P w K mg base "_law_tree_grid" CX0 2 ["_law_state", "_law_words_here"] (spTN mg K ([] : List (Addr × Str)) thW (fun s (q : (List Str) × Unit) => [rSt s, (rLst rStr) q.1]) F_Ltree_grid (fun B => (rLst (rNw B (rLst rStr))))) := { f := _, fd := _, g := He.glo_ok X G (c.fact 21 (f := .glo "_law_tree_grid") rfl), kp := F27.kp, b := b27, G := ok_Ltree_grid F27 T c_Ltake c_Lstacked c_Lflipped }
  let c_Lrenamed : Cal P w K mg base "_law_renamed" CX0 2 ["_law_state", "_law_grid_here", "_law_words_here"] (spTN mg K ([] : List (Addr × Str)) thW (fun s (q : (List (List Str)) × (List Str) × Unit) => [rSt s, (rLst (rLst rStr)) q.1, (rLst rStr) q.2.1]) F_Lrenamed (fun B => (rLst (rNw B (rLst rStr))))) := { f := _, fd := _, g := He.glo_ok X G (c.fact 22 (f := .glo "_law_renamed") rfl), kp := F28.kp, b := b28, G := ok_Lrenamed F28 T c_Ltake }
  let c_Lsmooth_grid : Cal P w K mg base "_law_smooth_grid" CX0 2 ["_law_state", "_law_words_here"] (spTN mg K ([] : List (Addr × Str)) thW (fun s (q : (List Str) × Unit) => [rSt s, (rLst rStr) q.1]) F_Lsmooth_grid (fun B => (rLst (rNw B (rLst rStr))))) := { f := _, fd := _, g := He.glo_ok X G (c.fact 23 (f := .glo "_law_smooth_grid") rfl), kp := F29.kp, b := b29, G := ok_Lsmooth_grid F29 T c_Ltake c_Lflipped }
  let c_Lany_grid : Cal P w K mg base "_law_any_grid" CX0 2 ["_law_state", "_law_words_here"] (spTN mg K ([] : List (Addr × Str)) thW (fun s (q : (List Str) × Unit) => [rSt s, (rLst rStr) q.1]) F_Lany_grid (fun B => (rLst (rNw B (rLst rStr))))) := { f := _, fd := _, g := He.glo_ok X G (c.fact 24 (f := .glo "_law_any_grid") rfl), kp := F30.kp, b := b30, G := ok_Lany_grid F30 T c_Ltake }
  let c_Lgrid : Cal P w K mg base "_law_grid" CX0 3 ["_law_state", "_law_words_here"] (spTN mg K ([] : List (Addr × Str)) thW (fun s (q : (List Str) × Unit) => [rSt s, (rLst rStr) q.1]) F_Lgrid (fun B => (rLst (rNw B (rLst rStr))))) := { f := _, fd := _, g := He.glo_ok X G (c.fact 25 (f := .glo "_law_grid") rfl), kp := F31.kp, b := b31, G := ok_Lgrid F31 T c_Ltake c_Lany_grid c_Ltree_grid c_Lrenamed c_Lsmooth_grid }
  let c_Lnames : Cal P w K mg base "_law_names" CX0 1 ["_law_grid_here"] (spG mg K ([] : List (Addr × Str)) (fun q : (List (List Str)) × Unit => [(rLst (rLst rStr)) q.1]) F_Lnames (Fz (rTup rStr))) := { f := _, fd := _, g := He.glo_ok X G (c.fact 26 (f := .glo "_law_names") rfl), kp := F32.kp, b := b32, G := ok_Lnames F32 T }
  let c_Lforces : Cal P w K mg base "_law_forces" CX0 1 ["_law_lines_here", "_law_chosen"] (spG mg K ([] : List (Addr × Str)) (fun q : (List (List Str)) × (List Str) × Unit => [(rLst (rLst rStr)) q.1, (rLst rStr) q.2.1]) F_Lforces (Fz rBl)) := { f := _, fd := _, g := He.glo_ok X G (c.fact 27 (f := .glo "_law_forces") rfl), kp := F33.kp, b := b33, G := ok_Lforces F33 T }
  let c_Llines : Cal P w K mg base "_law_lines" CX0 2 ["_law_grid_here", "_law_who"] (spG mg K ([] : List (Addr × Str)) (fun q : (List (List Str)) × Str × Unit => [(rLst (rLst rStr)) q.1, rStr q.2.1]) F_Llines (Fz (rLst (rLst rStr)))) := { f := _, fd := _, g := He.glo_ok X G (c.fact 28 (f := .glo "_law_lines") rfl), kp := F34.kp, b := b34, G := ok_Llines F34 T c_Lflipped }
  let c_Lis_set : Cal P w K mg base "_law_is_set" CX0 1 ["_law_names_here", "_law_value"] (spG mg K ([] : List (Addr × Str)) (fun q : (List Str) × PyData × Unit => [(rLst rStr) q.1, rDat q.2.1]) F_Lis_set (Fz rBl)) := { f := _, fd := _, g := He.glo_ok X G (c.fact 29 (f := .glo "_law_is_set") rfl), kp := F35.kp, b := b35, G := ok_Lis_set F35 T }
  let c_Ldue : Cal P w K mg base "_law_due" CX0 3 ["_law_grid_here", "_law_label", "_law_inner_here", "_law_who", "_law_chosen"] (spG mg K ([] : List (Addr × Str)) (fun q : (List (List Str)) × Str × (List (List Str)) × Str × PyData × Unit => [(rLst (rLst rStr)) q.1, rStr q.2.1, (rLst (rLst rStr)) q.2.2.1, rStr q.2.2.2.1, rDat q.2.2.2.2.1]) F_Ldue (Fz (rPr rStr rDat))) := { f := _, fd := _, g := He.glo_ok X G (c.fact 30 (f := .glo "_law_due") rfl), kp := F36.kp, b := b36, G := ok_Ldue F36 T c_Lnames c_Lis_set c_Llines c_Lforces }
  have hE_Ltold_0 : ∀ p ∈ [(("UnknownName" : Str), x_UnknownName.C), (("DuplicateName" : Str), x_DuplicateName.C), (("BadSide" : Str), x_BadSide.C), (("BadSet" : Str), x_BadSet.C)], ∀ q ∈ [(("UnknownName" : Str), x_UnknownName.C), (("DuplicateName" : Str), x_DuplicateName.C), (("BadSide" : Str), x_BadSide.C), (("BadSet" : Str), x_BadSet.C)], PySem.W.exmOne K (.ref p.2) (.ref q.2) = some (decide (p.1 = q.1)) := by
      intro p hp r hr
      simp only [List.mem_cons, List.not_mem_nil, or_false] at hp hr
      rcases hp with rfl | rfl | rfl | rfl <;> rcases hr with rfl | rfl | rfl | rfl
      · exact He.exm_ok (c.fact 88 (f := .exm "UnknownName" "UnknownName" true) rfl)
      · exact He.exm_ok (c.fact 87 (f := .exm "UnknownName" "DuplicateName" false) rfl)
      · exact He.exm_ok (c.fact 86 (f := .exm "UnknownName" "BadSide" false) rfl)
      · exact He.exm_ok (c.fact 85 (f := .exm "UnknownName" "BadSet" false) rfl)
      · exact He.exm_ok (c.fact 82 (f := .exm "DuplicateName" "UnknownName" false) rfl)
      · exact He.exm_ok (c.fact 81 (f := .exm "DuplicateName" "DuplicateName" true) rfl)
      · exact He.exm_ok (c.fact 80 (f := .exm "DuplicateName" "BadSide" false) rfl)
      · exact He.exm_ok (c.fact 79 (f := .exm "DuplicateName" "BadSet" false) rfl)
      · exact He.exm_ok (c.fact 76 (f := .exm "BadSide" "UnknownName" false) rfl)
      · exact He.exm_ok (c.fact 75 (f := .exm "BadSide" "DuplicateName" false) rfl)
      · exact He.exm_ok (c.fact 74 (f := .exm "BadSide" "BadSide" true) rfl)
      · exact He.exm_ok (c.fact 73 (f := .exm "BadSide" "BadSet" false) rfl)
      · exact He.exm_ok (c.fact 70 (f := .exm "BadSet" "UnknownName" false) rfl)
      · exact He.exm_ok (c.fact 69 (f := .exm "BadSet" "DuplicateName" false) rfl)
      · exact He.exm_ok (c.fact 68 (f := .exm "BadSet" "BadSide" false) rfl)
      · exact He.exm_ok (c.fact 67 (f := .exm "BadSet" "BadSet" true) rfl)
  let c_Ltold : Cal P w K mg base "_law_told" CX0 9 ["_law_way", "_law_desks", "_law_outcome", "_law_at", "_law_thing"] (spG mg K ([] : List (Addr × Str)) (fun q : Int × (List d_Table) × Str × Str × PyData × Unit => [rInt q.1, (rLst (rI_Table W_Table.C)) q.2.1, rStr q.2.2.1, rStr q.2.2.2.1, rDat q.2.2.2.2.1]) F_Ltold (Fz (rPr rStr rDat))) := { f := _, fd := _, g := He.glo_ok X G (c.fact 31 (f := .glo "_law_told") rfl), kp := F37.kp, b := b37, G := ok_Ltold (W_Table := W_Table) F37 T x_UnknownName x_DuplicateName x_BadSide x_BadSet c_put_forces hE_Ltold_0 (kb_P 0 5 [4, 3, 2, 1, 0] F22 (by simp) (fun _ _ _ _ _ _ us ws h1 h2 => match us, ws, h1, h2 with | [], [_, _, _, _, _], _, _ => rfl)) }
  let c_Ldrawn : Cal P w K mg base "_law_drawn" CX0 2 ["_law_state", "_law_names_here", "_law_gone"] (spT mg K ([] : List (Addr × Str)) thW (fun s (q : (List Str) × Str × Unit) => [rSt s, (rLst rStr) q.1, rStr q.2.1]) F_Ldrawn (Fz rDat)) := { f := _, fd := _, g := He.glo_ok X G (c.fact 32 (f := .glo "_law_drawn") rfl), kp := F38.kp, b := b38, G := ok_Ldrawn F38 T c_Ltake }
  let c_Linner : Cal P w K mg base "_law_inner" CX0 4 ["_law_state", "_law_grid_here", "_law_words_here"] (spT mg K ([] : List (Addr × Str)) thW (fun s (q : (List (List Str)) × (List Str) × Unit) => [rSt s, (rLst (rLst rStr)) q.1, (rLst rStr) q.2.1]) F_Linner (Fz (rLst (rLst rStr)))) := { f := _, fd := _, g := He.glo_ok X G (c.fact 33 (f := .glo "_law_inner") rfl), kp := F39.kp, b := b39, G := ok_Linner F39 T c_Ltake c_Lgrid }
  exact ok_law (W_Table := W_Table) F40 T c_Lstart c_Lwords c_Lgrid c_Linner c_TableD_initD (He.mkr_ok (c.fact 63 (f := .mkr "Table") rfl)) c_Lnames c_Ltake c_Ldrawn c_Ldue c_Ltold law_ok
end K66
open PySem PySem.W PySem.Calls PyProof.Rows in
set_option maxRecDepth 100000 in
set_option maxHeartbeats 0 in
theorem PySem.Challenge.cw_twochoosers_k66_put_forces_holds : PySem.Challenge.rw_twochoosers_k66_put_forces.Holds := by
  w_on; o_law
  refine HandSHeadRun.head_any (r := OpenLaw.row PySem.Challenge.rw_twochoosers_k66_put_forces) (q := view (OpenLaw.row PySem.Challenge.rw_twochoosers_k66_put_forces).prog [63]) (H := K66.hk) (ob := K66.ob) (M := 6000) (loose := K66.names) (d := HandSHeadRun.topDef (OpenLaw.row PySem.Challenge.rw_twochoosers_k66_put_forces).prog 63) (kwd := []) K66.ob_eq
    (by kernel_rfl) (fun s => by kernel_rfl) K66.run (by kernel_rfl) (by kernel_rfl) (by kernel_rfl) (by rfl) (by first | assumption | decide +kernel) (by decide +kernel) ⟨rfl, rfl, rfl, rfl, rfl, by decide +kernel⟩ ?hw ?hc
  case hw => w_witness2
  case hc =>
    refine LamX.walk_ofTsE (l := PySem.Challenge.rw_twochoosers_k66_put_forces) (n := 63) (k := 10) (x := "_law_script") (CX := fun _ => L2.CX0) rfl (by decide) (by kernel_rfl) ⟨rfl, by decide, by decide⟩ ?F (fun _ _ _ _ _ z => z)
    intro w mg fa h Y G hmg0
    obtain ⟨K, KX, cc⟩ := Y
    have hmg : mg ("law" : PySem.Str) = some (.ref fa) := by
      have e : (HandSHeadRun.topDef (OpenLaw.row PySem.Challenge.rw_twochoosers_k66_put_forces).prog 63).name = ("law" : PySem.Str) := by kernel_rfl
      rw [← e]
      exact hmg0
    obtain ⟨fd, hb, hF⟩ := K66.facts (P := (PySem.Challenge.rw_twochoosers_k66_put_forces).prog) (w := w) KX G hmg cc
    have c := cc.x
    have tab : ∀ (H : L2.Hp), (∀ p ∈ K66.tf.map (He.cT K), H p.2 = some (.tbl #[])) → LamX.Tabs ([] : List (Addr × Str)) H := fun H hH p hp => by
      simp only [List.mem_cons, List.not_mem_nil, or_false] at hp
      
    refine ⟨K, KX, fd, K66.tf.map (He.cT K), VL.spLawT K ([] : List (Addr × Str)), fun p hp => ?_, fun p hp => ?_, fun p hp => ?_, hb, fun H a ns hl _ hT hS => ⟨a, ns, rfl, hS, hl, tab H hT, fun _ => rfl⟩, hF⟩
    · obtain ⟨d, hd, rfl⟩ := List.mem_map.mp hp
      exact c.empty d hd
    · obtain ⟨d, hd, rfl⟩ := List.mem_map.mp hp
      exact c.out d hd
    · obtain ⟨d, hd, rfl⟩ := List.mem_map.mp hp
      exact PySem.W.codeHd_of_K KX (c.hd d hd)
