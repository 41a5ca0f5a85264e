import PyProof.Rows.All
import Wide.All
import OpenK.AllK
import Wide.FinOn
import HandS.ForMost
import HandS.ForExc
import HandS.Walk
import HandS.IsInst
import HandS.Wide
import HandS.Style
import HandS.Evl
import HandS.TryMany
import HandS.ExcInit
import HandS.ExcField
import HandS.Property
import HandS.DictComp
import HandS.MakeKw
import KE.KEqNest
import HandS.WordsDict
import PyProof.Rows.StrMeet
import HandS.Small
import HandS.SlotsOwn
import PyProof.InstEq
import HandS.SetFor
import HandS.Strs
import HandS.SetBool
import PyProof.EqAt
import PyProof.EqKinds
import HandS.TupAny
import HandS.Deep
import HandS.Lambda
import KE.SortKeyHeap
import HandS.SortKw
import KE.SortData
import KE.KStateDown
import HandS.Head0
import HandS.Head1
import HandS.Head2
import HandS.HeadEnd
import HandS.HeadHook1
import HandS.HeadHook2
import HandS.HeadHook3
import HandS.HeadHook4
import HandS.HeadWalk
import HandS.HeadNt
import HandS.EndTab
import PySem.Challenge.RW_twochoosers_k20_sets
set_option Elab.async false
set_option linter.all false
set_option maxRecDepth 100000
set_option maxHeartbeats 4000000
namespace L2
open PySem PySem.Spec PyProof.Rows
section
variable {X : Cx}
theorem pg_list : PGet X (rIxL X.K) := by
  intro pins s σ H x y v u Q I rx ry h
  obtain ⟨p, xs, i, z, rfl, rfl, hq, he, q⟩ := h
  cases rx
  obtain ⟨t, rfl⟩ := ry
  obtain ⟨its, r, pl, hz⟩ := I.list hq
  obtain ⟨j, h1, h2, h3, h4, h5⟩ := atI_get he
  obtain ⟨w, ew, rw'⟩ := r.get h2
  have hl := r.length
  have hn := line63
  have fin : EP X pins σ Q w s := ⟨z, H, I, rw', q⟩
  by_cases h0 : 0 ≤ i
  · have hj : i.toNat = j := by
      rw [seqIndex_of h0 h5] at h1
      exact Option.some.inj h1
    exact wpAny_getItem_list pl.isList h0 (by omega) (by rw [hj]; simpa using ew) fin
  · have hj : (i + (its.toArray.size : Int)).toNat = j := by
      rw [seqIndex_neg (by omega) h4] at h1
      rw [List.size_toArray, ← hl]
      exact Option.some.inj h1
    exact wpAny_getItem_list_neg pl.isList (by omega) (by rw [List.size_toArray] <;> omega) (by omega) (by rw [hj]; simpa using ew) fin
/-- s[::-1] of a text -/
def revS (z : Str) : Str := ⟨z.cps.toList.reverse.toArray⟩
theorem rev_all {α : Type} (xs : Array α) : (List.range xs.size).filterMap (xs[·]?) = xs.toList := by
  have h := pick_run xs 0 xs.size
  have e : (List.range xs.size).map (0 + ·) = List.range xs.size := by
    rw [show ((0 + ·) : Nat → Nat) = id from funext fun k => Nat.zero_add k, List.map_id]
  rw [e, List.drop_zero, List.take_of_length_le (by rw [Array.length_toList]; exact Nat.le_refl _)] at h
  exact h
theorem rev_ix (z : Str) : (Builtin.Str.strSliceIndices none none (-1) z.length).filterMap (z.cps[·]?) = z.cps.toList.reverse := by
  show (sliceRange ((z.length : Int) - 1) (-1) (-1)).filterMap (z.cps[·]?) = _
  rw [PySem.W.krv_sliceRange, PySem.W.krv_range, List.filterMap_reverse]
  rw [show z.length = z.cps.size from rfl, rev_all]
def tRevS (te : TE) : TE := fun σ H Q => te σ H fun x H1 => ∃ z, x = .str z ∧ z.length ≤ sizeLine ∧ Q (.str (revS z)) H1
theorem pe_revS {e : Expr} {te : TE} {k : Nat} {p1 p2 p3 pos : Pos} (he : PE X e te) : PE X (.Subscript e (.Slice none none (some (.UnaryOp .USub (.Constant (.int 1) k p1) p2)) p3) pos) (tRevS te) := by
  refine ⟨fun pins s σ H Q I h => ?_⟩
  refine Subscript_ (thn (he.run pins s σ H _ I h) fun v s1 ⟨x, H1, I1, r1, q1⟩ => ?_)
  obtain ⟨z, ex, hz, q⟩ := q1
  subst ex
  obtain ⟨t, rfl⟩ := r1
  have hst : PO X (some (.UnaryOp .USub (.Constant (.int 1) k p1) p2)) (tPart (tUn (rU fun i => .int (-i)) (tC (.int 1)))) := po_some (pe_un un_neg pe_int)
  refine wpAny_Slice (thn (po_none.run pins s1 σ H1 (fun o H2 => o = none ∧ H2 = H1) I1 ⟨rfl, rfl⟩) fun vl s2 ⟨l, H2, I2, pl, el, e2⟩ => ?_)
  subst el e2
  refine thn (po_none.run pins s2 σ H2 (fun o H3 => o = none ∧ H3 = H2) I2 ⟨rfl, rfl⟩) fun vu s3 ⟨u, H3, I3, pu, eu, e3⟩ => ?_
  subst eu e3
  refine thn (hst.run pins s3 σ H3 (fun o H4 => o = some (-1) ∧ H4 = H3) I3 ⟨1, rfl, -1, rfl, rfl, rfl⟩) fun vs s4 ⟨o, H4, I4, ps, eo, e4⟩ => ?_
  subst eo e4
  have I5 : Inv X pins σ H4 { s4 with heap := s4.heap.push { cls := .type "slice", data := .fields #[vl, vu, vs] } } := I4.kept (t' := s4.toks) fun b ob q => Heap.get?_push_of_some _ q
  obtain ⟨l, rfl, el⟩ := IsPart.raw pl
  obtain ⟨u, rfl, eu⟩ := IsPart.raw pu
  obtain ⟨st, rfl, e3⟩ := IsPart.raw ps
  have e1 : l = none := by cases l with | none => rfl | some _ => cases el
  have e2 : u = none := by cases u with | none => rfl | some _ => cases eu
  subst e1 e2
  show wpAny (model X.prog X.w) X.A (subscriptTail e (.Slice none none (some (.UnaryOp .USub (.Constant (.int 1) k p1) p2)) p3) (.str z t) (.ref s4.heap.objs.size)) (EP X pins σ Q) X.xe { s4 with heap := s4.heap.push { cls := .type "slice", data := .fields #[partValue none, partValue none, partValue st] } }
  refine tail_any (ops := [.str z t, .ref s4.heap.objs.size]) (typeIs_str _ z t) F.slot_str_getitem.lookup ?_ (by with_unfolding_all rfl)
  refine wpAny_getItem_str_slice (l := none) (u := none) (st := st) ⟨_, Heap.get?_push_size _ rfl, rfl, rfl⟩ (by rw [e3]; rfl) ?_
  unfold sliceMade slicePicked
  rw [e3]
  show Made.post (if ((-1 : Int) == 1 && _) = true then Made.val (.str z t) else Made.str ⟨((Builtin.Str.strSliceIndices none none (-1) z.length).filterMap (z.cps[·]?)).toArray⟩) _ _
  rw [if_neg (by simp), rev_ix]
  refine ⟨?_, .str _, _, I5.tok _, ⟨_, rfl⟩, q⟩
  show z.cps.toList.reverse.toArray.size ≤ sizeLine
  rw [List.size_toArray, List.length_reverse, Array.length_toList]
  exact hz
end
section
variable {X : Cx} {k : Nat} {f : Addr} {fd : FuncData} {ps ks : List Str} {sp : Sp} {CX : CXT} {E : XK} {g : List Value → List Value → List Value} {gV : List V → List V → List V}
/-- f(k = v, ..) -/
theorem pe_callK0 {x : Str} {p pos : Pos} {kws : List Keyword} {tk : TA} (F : FnOk X.prog X.w X.K X.mg X.base CX k f fd ps sp) (hr : Room k X.A) (hg : Gl X x) (hm : X.mg x = some (.ref f)) (hk : PySem.W.keepIn X.K (.ref f) = true) (hb : KBinds X.K fd ps ks g gV) (hx : Passes CX X E)
    (hkw : PK X kws tk) (hall : (backToKw pos (keywordEach kws X.env)).all (·.1.isSome) = true := by rfl) (hks : (backToKw pos (keywordEach kws X.env)).filterMap (·.1) = ks := by rfl)
    (hdb : (x == ("__debug__" : Str)) = false := by decide)
    (hpl : ((backTo pos (starEach [] X.env)).any (·.1) || (backToKw pos (keywordEach kws X.env)).any (·.1.isNone)) = false := by rfl) :
    PE X (.Call (.Name x p) [] kws pos) (tCallK sp gV E tNil tk) := by
  refine ⟨fun pins s σ H Q I h => ?_⟩
  refine wpAny_Call_Name_kw (ld_glob I hg hm ?_ hdb)
  refine PySem.W.callWith_KW0 (h₀ := X.base) I.ok.mod.kin hk hall ?_ hpl
  refine thn (hkw.run pos pins s σ H _ I h) fun ws s2 ⟨zs, H2, I2, rz, q2⟩ => ⟨I2.kIn, ?_⟩
  rw [hks]
  exact run_fnk F hr hb hx I2 .nil rz q2
end
end L2

namespace L2
open PySem PySem.Spec PyProof.Rows
section
variable {X : Cx} {CX : CXT} {k : Nat} {C g : Addr} {fd : FuncData} {ps ks : List Str} {sp : Sp} {E : XK} {e i : Expr} {pos : Pos} {ta ti : TE}
/-- o[i] of a class with its own __getitem__ -/
def rOwnIx (C : Addr) (sp : Sp) (E : XK) : R2 := fun x y H Q => ∃ a dx fs, x = .ref a ∧ H a = some (.ins C dx fs) ∧ sp [.ref a, y] H Q E
theorem pe_ixOwn (c : Cls X.K C) (hs : PySem.W.findIn X.K (.ref C) "__getitem__" = some (some (.ref g))) (hf : PySem.W.fnIn X.K g = true) (hfn : PySem.W.isFn X.K (.ref g) = true)
    (F : FnOk X.prog X.w X.K X.mg X.base CX k g fd ps sp) (hr : Room (k + 1) X.A) (hb : Binds X.K fd ps []) (hx : Passes CX X E) (he : PE X e ta) (hi : PE X i ti)
    (hsl : ∀ v u, subscripted i true v u = runValue (.builtin "lifetime.subscript" ⟨[v, u], []⟩) := by intros; with_unfolding_all rfl) : PE X (.Subscript e i pos) (tOp (rOwnIx C sp E) ta ti) := by
  refine ⟨fun pins s σ H Q I h => Subscript_ (binT he hi I h fun v u s2 x y H2 I2 rx ry q => ?_)⟩
  obtain ⟨a, dx, fs, rfl, ea, q⟩ := q
  obtain rfl : v = Value.ref a := rx
  obtain ⟨mA, O, _, _, _, _⟩ := ins_get I2.hok ea
  obtain ⟨od, J, _⟩ := O.look
  obtain ⟨m, fr⟩ := I2.fr
  have hv : Vals [V.ref a, y] [Value.ref a, u] := .cons rfl (.cons ry .nil)
  have hl : ([Value.ref a, u] ++ ([] : List Value)).length = ps.length := by
    rw [List.append_nil, ← hv.length]
    exact F.len _ _ _ _ q
  refine PySem.W.sub_K fr I2.ok.mod.kin J hs hf hfn (wpAny_call (codeAny_mono (F.run X.A.in1 X.stack s2 H2 ⟨[.ref a, u], []⟩ ([.ref a, u] ++ []) [.ref a, y] Q E hr.in1 I2.env0.in1 (hb s2 [.ref a, u] I2.kIn hl) (by rw [List.append_nil]; exact hv) q) fun r s' hq => ?_)) (hsl _ _)
  cases r with
  | error er => exact hx pins σ H2 s2 er s' I2 hq
  | ok fl =>
    cases fl with
    | ret z => exact I2.after hq
    | next => exact False.elim hq
    | brk => exact False.elim hq
    | cont => exact False.elim hq
variable {gf : List Value → List Value → List Value} {gV : List V → List V → List V} {f : Addr} {m : Str} {o : Expr} {apos : Pos} {kws : List Keyword} {tk : TA}
/-- o.m(k = v, ..): the receiver stands first -/
def tMethK (C : Addr) (m : Str) (sp : Sp) (gV : List V → List V → List V) (E : XK) (ta : TE) (tk : TA) : TE := fun σ H Q => ta σ H fun x H1 => ∃ a dx fs, x = .ref a ∧ H1 a = some (.ins C dx fs) ∧ fs.lookup m = none ∧
  tk σ H1 fun zs H2 => sp (gV [.ref a] zs) H2 Q E
theorem pe_methK0 {pl : Sem Bool} (he : PE X o ta) (c : Cls X.K C) (hm : Meth X.K C m f) (F : FnOk X.prog X.w X.K X.mg X.base CX k f fd ps sp) (hr : Room k X.A) (hb : KBinds X.K fd ps ks gf gV) (hx : Passes CX X E) (hkw : PK X kws tk)
    (hall : (backToKw pos (keywordEach kws X.env)).all (·.1.isSome) = true := by rfl) (hks : (backToKw pos (keywordEach kws X.env)).filterMap (·.1) = ks := by rfl)
    (hpl : ((backTo pos (starEach [] X.env)).any (·.1) || (backToKw pos (keywordEach kws X.env)).any (·.1.isNone)) = false := by rfl)
    (ht : eval (.Call (.Attribute o m apos) [] kws pos) X.env = (do
      let ov ← eval o X.env
      standAt apos.atName
      let (f, first) ← holding [ov] (getMethod ov m pl)
      callWith pos f first (backTo pos (starEach [] X.env)) (backToKw pos (keywordEach kws X.env))) := by rfl) :
    PE X (.Call (.Attribute o m apos) [] kws pos) (tMethK C m sp gV E ta tk) := by
  refine ⟨fun pins s σ H Q I h => PySem.W.methodCall_KW (pl := pl) (thn (he.run pins s σ H _ I h) fun u s1 ⟨x, H1, I1, rx, a, dx, fs, ex, ea, l, q⟩ => ?_) ht⟩
  subst ex
  obtain rfl : u = Value.ref a := rx
  refine getmeth_ok I1 ea c hm l (PySem.W.callWith_KW0 (first := [.ref a]) (h₀ := X.base) I.ok.mod.kin hm.kp hall ?_ hpl)
  refine thn (hkw.run pos pins s1 σ H1 _ I1 q) fun ws s2 ⟨zs, H2, I2, rz, q2⟩ => ⟨I2.kIn, ?_⟩
  rw [hks]
  exact run_fnk (us := [.ref a]) (vs := [.ref a]) F hr hb hx I2 (.cons rfl .nil) rz q2
end
/-! ### several except clauses, each with a name -/
/-- what the clauses wish of an exception; slot i is the name's -/
def wManyAs (K : PySem.W.Frag) (Wout : WX) (D : Ends) : List (Value × Nat × (Addr → Value → Option Addr → TS)) → WX
  | [] => Wout
  | (c, i, ts) :: r => fun cls d σ H => ∃ b, PySem.W.exmOne K cls c = some b ∧
      (b = true → ∀ a, H a = none → ts a cls d { nx := fun σ' H' => D.nx (σ'.set i none) H', rt := D.rt, bk := fun σ' H' => D.bk (σ'.set i none) H', ct := fun σ' H' => D.ct (σ'.set i none) H' } (σ.set i (some (.ref a))) H) ∧
      (b = false → wManyAs K Wout D r cls d σ H)
inductive HdsAs (X : Cx) : List ExceptHandler → List (Value × Nat × (Addr → Value → Option Addr → TS)) → Prop
  | nil : HdsAs X [] []
  | cons {x n : Str} {c : Value} {i : Nat} {ts : Addr → Value → Option Addr → TS} {b₀ : Stmt} {suite : List Stmt} {np pos' : Pos} {hds : List ExceptHandler} {l : List (Value × Nat × (Addr → Value → Option Addr → TS))}
      (hi : X.N[i]? = some n) (hln : X.env.kindOf n = some .local) (hc : Names X x c)
      (hsu : ∀ (a : Addr) (oe : Obj) (cls : Value) (d : Option Addr) (pn : List (Addr × Obj)), Zc cls d oe → (∃ vs, oe.data = .fields vs) → PSs (X.suite a ((a, oe) :: pn)) (b₀ :: suite) (ts a cls d)) (r : HdsAs X hds l) :
      HdsAs X (.ExceptHandler (some (.Name x np)) (some n) (b₀ :: suite) pos' :: hds) ((c, i, ts) :: l)
section
variable {X : Cx} {body : List Stmt} {h₀ : ExceptHandler} {hds : List ExceptHandler} {l : List (Value × Nat × (Addr → Value → Option Addr → TS))} {pos : Pos} {tb : WX → TS} {Wout : WX}
theorem ps_try_manyAs (hs : X.stack = X.env :: X.outer) (hf : X.env.frame = some X.env.locals) (hN : X.N.Nodup) (tk : Takes X Wout)
    (hb : ∀ (W : WX) (pn : List (Addr × Obj)) (xe : Value → Shared → Prop), Takes (X.tr pn xe) W → PassesOwn (model X.prog X.w) X.A X.env xe → PSs (X.tr pn xe) body (tb W))
    (hh : HdsAs X (h₀ :: hds) l) : PS X (.Try body (h₀ :: hds) [] [] pos) (fun D σ H => tb (wManyAs X.K Wout D l) D σ H) := by
  refine ⟨fun pins s σ H D I h => wpAny_Try_except ?_⟩
  have ok := I.ok
  have hfr : X.A.frames = some (X.env :: X.outer) := by rw [ok.frames, hs]
  refine wpAny_mono ((hb (wManyAs X.K Wout D l) (X.pn ++ pins) (fun e s₁ => wpAny (model X.prog X.w) X.A (noteFrame e X.env) (fun _ s₂ => wpAny (model X.prog X.w) X.A (setFlight e none) (fun _ s₃ =>
    wpAny (model X.prog X.w) X.A (handleBy e X.env (h₀ :: hds)) (SP X pins D) X.xe s₃) X.xe s₂) X.xe s₁) (fun u s' xx => ?_) PassesOwn.looking).run [] s σ H D (I.toTry _) h) (fun f s1 hsp => ?_) (fun e s1 he => he)
  · obtain ⟨a, B, sI, pins', σ', H', cls, d, rfl, J', nb, up, sky, na, os, ag, w⟩ := xx
    have J : Inv X pins σ' H' sI := J'.ofTry ok
    have sky' : Sky B (X.env :: X.outer) a (Zc cls d) X.env.locals s'.heap := by rw [← hs]; exact sky
    refine Sky.land Zc.steady hfr hf sky' fun h3 fl3 up3 => ?_
    have J3 : Inv X pins σ' H' { s' with heap := h3 } := J.landed nb fl3.1 (up.trans up3) os ag
    obtain ⟨oe3, vs3, he3, hz3, hd3⟩ := fl3.there
    have nfr : a ∉ frs (X.env :: X.outer) := fun hm => by
      obtain ⟨_, o', e', hnf⟩ := fl3.2.2.1.mem hm
      rw [he3] at e'
      cases e'
      exact hnf _ hd3
    have nL : a ≠ X.env.locals := fun z => nfr (List.mem_filterMap.mpr ⟨X.env, List.mem_cons_self, by rw [hf, z]⟩)
    have nF : a ∉ X.fs := fun hm => by
      obtain ⟨e, he, q⟩ := List.mem_filterMap.mp hm
      exact nfr (List.mem_filterMap.mpr ⟨e, List.mem_cons_of_mem _ he, q⟩)
    have S3 := J3.suite he3 hd3 na nL nF
    have go : ∀ {hds' : List ExceptHandler} {l' : List (Value × Nat × (Addr → Value → Option Addr → TS))}, HdsAs X hds' l' → wManyAs X.K Wout D l' cls d σ' H' →
        wpAny (model X.prog X.w) X.A (handleBy (.ref a) X.env hds') (SP X pins D) X.xe { s' with heap := h3 } := by
      intro hds' l' hk
      induction hk with
      | nil =>
        intro w
        refine wpAny_handleBy_nil ?_
        obtain ⟨k1, k2, k3, oe, vs, T, oT, ts', he, hz, hd, h1, hr⟩ := id fl3
        have fin : wpAny (model X.prog X.w) X.A (setFlight (.ref a) X.env.frame) (fun _ s4 => wpAny (model X.prog X.w) X.A (throw (.ref a) : Sem Flow) (SP X pins D) X.xe s4) X.xe { s' with heap := h3 } := by
          rw [hf]
          exact HandSPX.setFlight_upZ fl3 fun h4 hh4 up4 => wpAny_throw (tk _ _ ⟨a, B, sI, pins, σ', H', cls, d, rfl, J, nb, (up.trans up3).trans up4, .inr (.inr (by rw [hs]; exact hh4)), na, os, ag, w⟩)
        unfold PySem.passOn
        refine wpAny_bind (wpAny_field he hd h1 ?_)
        rw [if_neg (show ¬ ((Value.ref T == Value.none) = true) from by simp)]
        first
          | exact wpAny_bind (wpAny_pure (wpAny_bind fin))
          | exact wpAny_bind fin
      | @cons x n c i ts b₀ suite np pos' hds2 l2 hi hln hc hsu r ih =>
        intro w
        obtain ⟨b, hb1, hyes, hno⟩ := w
        refine wpAny_handleBy_cons (codeAny_handlers_test ?_) (by intro q; cases q)
        have LT : PySem.W.Looks (model X.prog X.w) h3 (typeOf (.ref a)) cls := fun A Q E s k q => wpAny_typeOf_ref (k _ _ he3) (by rw [hz3.1]; exact q)
        have LM := PySem.W.exm_one (M := model X.prog X.w) J3.kIn LT hb1
        have test : ∀ {Q : Value → Shared → Prop} {E : Value → Shared → Prop}, Q c { s' with heap := h3 } → wpAny (model X.prog X.w) (X.A.mark (some (.ref a))) (eval (.Name x np) X.env) Q E { s' with heap := h3 } := fun {Q E} q => by
          obtain ⟨hg, hdbg, hm⟩ := hc
          rcases hm with hm | ⟨hm, hv, hnn⟩
          · exact ld_glob (X := X.suite a ((a, oe3) :: (X.pn ++ pins))) S3 hg hm q hdbg
          · exact ld_blt (X := X.suite a ((a, oe3) :: (X.pn ++ pins))) S3 hg hm hv q hnn hdbg
        refine test (LM.here ?_)
        cases b with
        | false => exact ih (hno rfl)
        | true =>
          refine codeAny_handlers_suite_as (HandSPX.lands_againZ fl3 fun h4 fl4 up4 => ?_)
          have J4 : Inv X pins σ' H' { s' with heap := h4 } := J.landed nb fl4.1 ((up.trans up3).trans up4) os ag
          obtain ⟨oe4, vs4, he4, hz4, hd4⟩ := fl4.there
          have S4 := J4.suite he4 hd4 na nL nF
          refine store_ok (X := X.suite a ((a, oe4) :: (X.pn ++ pins))) (v := .ref a) S4 hN hi (.inl hln) rfl (fun s5 S5 => ?_) (.inr hln)
          refine wpAny_mono ((hsu a oe4 cls d (X.pn ++ pins) hz4 ⟨_, hd4⟩).run [] s5 _ H' _ S5 (hyes rfl a na)) (fun f s6 hsp => ?_) (fun _ _ z => False.elim z)
          have fin : ∀ {σ6 : St} {H6 : Hp} {Q : Shared → Prop}, Inv (X.suite a ((a, oe4) :: (X.pn ++ pins))) [] σ6 H6 s6 → (∀ s7, Inv X pins (σ6.set i none) H6 s7 → Q s7) →
              wpAny (model X.prog X.w) X.A (do bindName X.env n .none; unbindBehindTheSuite X.env n pos') (fun _ s7 => Q s7) X.xe s6 := fun {σ6 H6 Q} S6 hq => gone_ok (S6.unsuite ok) hN hi hln hq
          cases f with
          | next =>
            obtain ⟨σ6, H6, S6, q6⟩ := hsp
            exact fin S6 fun s7 J7 => ⟨_, _, J7, q6⟩
          | brk =>
            obtain ⟨σ6, H6, S6, q6⟩ := hsp
            exact fin S6 fun s7 J7 => ⟨_, _, J7, q6⟩
          | cont =>
            obtain ⟨σ6, H6, S6, q6⟩ := hsp
            exact fin S6 fun s7 J7 => ⟨_, _, J7, q6⟩
          | ret u =>
            obtain ⟨v6, σ6, H6, S6, r6, q6⟩ := hsp
            exact fin S6 fun s7 J7 => ⟨_, _, _, J7, r6, q6⟩
    exact go hh w
  · cases f with
    | next =>
      obtain ⟨σ', H', J', q⟩ := hsp
      exact wpAny_execs_nil ⟨σ', H', J'.ofTry ok, q⟩
    | brk =>
      obtain ⟨σ', H', J', q⟩ := hsp
      exact ⟨σ', H', J'.ofTry ok, q⟩
    | cont =>
      obtain ⟨σ', H', J', q⟩ := hsp
      exact ⟨σ', H', J'.ofTry ok, q⟩
    | ret u =>
      obtain ⟨v, σ', H', J', r, q⟩ := hsp
      exact ⟨v, σ', H', J'.ofTry ok, r, q⟩
end
end L2

/-! ### != of two lists whose items are compared within one model -/
namespace PySem.SeqAt
open AutoSeq1 (wpAny_loadPart')
open MeetsSeq MeetsSeq2 MeetsSeq3 SeqRoads2
section
variable {prog : Program} {w : World}
theorem neIn_go (l b : Addr) (xs ys : Array Value) (n n2 : Nat) (dd dd2 : Option Addr) (sl sl2 : Array (Option Value)) (hsz : xs.size = ys.size) (e : Nat → Bool) (k : Nat) :
    ∀ i : Nat, xs.size - i = k → MeetsIn prog w (Builtin.«list.__eq__.loop» ⟨[.ref l, .ref b, rawInt i, rawInt 3], []⟩)
      (fun A R s => s.heap.get? l = some { cls := .type "list", dict := dd, data := .seq xs n, slots := sl } ∧ s.heap.get? b = some { cls := .type "list", dict := dd2, data := .seq ys n2, slots := sl2 } ∧
        (∀ j (h1 : j < xs.size) (h2 : j < ys.size), EqIn prog w A.in1 s xs[j] ys[j] (e j)) ∧ R (.ok (.ret (.bool (!((List.range xs.size).drop i).all e)))) s) := by
  induction k with
  | zero =>
    intro i hk A R s h
    obtain ⟨hp, g, d, tk, os⟩ := s
    obtain ⟨hl, hb, he, h⟩ := h
    wp_walk using wpAny_loadPart' hl, wpAny_loadPart' hb
    rw [show ((List.range xs.size).drop i) = [] by simp; omega] at h
    rw [show xs[((i : Nat) : Int).toNat]? = none by simp; omega, show ys[((i : Nat) : Int).toNat]? = none by simp; omega]
    wp_walk using wpAny_loadPart' hl, wpAny_loadPart' hb
    show R (.ok (.ret (.bool (xs.size != ys.size)))) _
    rw [hsz]
    simpa using h
  | succ k ih =>
    intro i hk A R s h
    obtain ⟨hp, g, d, tk, os⟩ := s
    obtain ⟨hl, hb, he, h⟩ := h
    wp_walk using wpAny_loadPart' hl, wpAny_loadPart' hb
    have l1 : i < xs.size := by omega
    have l2 : i < ys.size := by omega
    have g1 : xs[((i : Nat) : Int).toNat]? = some xs[i] := by simp [l1]
    have g2 : ys[((i : Nat) : Int).toNat]? = some ys[i] := by simp [l2]
    rw [show (List.range xs.size).drop i = i :: (List.range xs.size).drop (i + 1) by simp [List.drop_eq_getElem_cons, l1], List.all_cons] at h
    rw [g1, g2]
    refine wpAny_bind (he i l1 l2 _ _ ?_)
    cases hv : e i with
    | true =>
      rw [hv] at h
      wp_walk
      rw [show ((i : Int) + 1) = ((i + 1 : Nat) : Int) by push_cast; rfl]
      exact ⟨plainId_quiet plain_eq_loop _, codeAny_builtin entry_eq_loop (by
        rw [Around.under_plainId plain_eq_loop _]
        exact ih (i + 1) (by omega) A R _ ⟨hl, hb, he, by simpa using h⟩)⟩
    | false =>
      rw [hv] at h
      wp_walk using wpAny_loadPart' hl, wpAny_loadPart' hb
      rw [g1, g2]
      wp_walk
      simpa using h
theorem neIn_list (l b : Addr) (xs ys : Array Value) (n n2 : Nat) (dd dd2 : Option Addr) (sl sl2 : Array (Option Value)) (hsz : xs.size = ys.size) (e : Nat → Bool) :
    MeetsIn prog w (Builtin.«list.__ne__» ⟨[.ref l, .ref b], []⟩)
      (fun A R s => s.heap.get? l = some { cls := .type "list", dict := dd, data := .seq xs n, slots := sl } ∧ s.heap.get? b = some { cls := .type "list", dict := dd2, data := .seq ys n2, slots := sl2 } ∧
        (∀ j (h1 : j < xs.size) (h2 : j < ys.size), EqIn prog w A.in1 s xs[j] ys[j] (e j)) ∧ R (.ok (.ret (.bool (!(List.range xs.size).all e)))) s) := by
  intro A R s h
  obtain ⟨hp, g, d, tk, os⟩ := s
  obtain ⟨hl, hb, he, h⟩ := h
  have f3 := AutoSeq1.sub_list_list
  have hne : ¬ (xs.size != ys.size) = true := by simp [hsz]
  wp_walk using wpAny_loadPart' hl, wpAny_loadPart' hb
  exact ⟨plainId_quiet plain_eq_loop _, codeAny_builtin entry_eq_loop (by
    rw [Around.under_plainId plain_eq_loop _]
    exact neIn_go l b xs ys n n2 dd dd2 sl sl2 hsz e _ 0 rfl A R _ ⟨hl, hb, he, by simpa using h⟩)⟩
theorem neIn_lists {A : Around} {s : Shared} {E : Value → Shared → Prop} {l b : Addr} {xs ys : Array Value} {e : Nat → Bool} {Q : Value → Shared → Prop} (hl : s.heap.IsList l xs) (hb : s.heap.IsList b ys) (hsz : xs.size = ys.size) (hu : A.units < cLine)
    (he : ∀ j (h1 : j < xs.size) (h2 : j < ys.size), EqIn prog w A.in1 s xs[j] ys[j] (e j)) (h : Q (.bool (!(List.range xs.size).all e)) s) : wpAny (model prog w) A (richCompare .NotEq (.ref l) (.ref b)) Q E s := by
  obtain ⟨⟨cls, dd, data, sl⟩, ho, hc, n, hd⟩ := id hl
  obtain ⟨⟨cls2, dd2, data2, sl2⟩, ho2, hc2, n2, hd2⟩ := id hb
  simp only at hc hd hc2 hd2
  subst hc hd hc2 hd2
  exact wpAny_richCompare_same_room (T := "list") (op := .NotEq) ⟨_, ho, rfl⟩ ⟨_, ho2, rfl⟩ F.slot_list_ne (call_meetsIn F.slot_list_ne ⟨_, ho, rfl⟩ F.entry_list_ne (F.args_list_ne_2 _ _) (neIn_list l b xs ys n n2 dd dd2 sl sl2 hsz e)
    ⟨ho, ho2, he, show Value.bool (!(List.range xs.size).all e) ≠ Value.notImplemented ∧ Q (.bool (!(List.range xs.size).all e)) s from ⟨(fun x => nomatch x), h⟩⟩) hu
end
end PySem.SeqAt
namespace PySem.W
open PySem.SeqAt (EqAt)
theorem KeqHits.of_all {K : Type} [DecidableEq K] {A : Around} {s : Shared} {kb : List (K × Value)} {e : K → Bool} : ∀ (r : List (K × Value)), (∀ k v y, (k, v) ∈ r → valueAt kb k = some y → EqAt A s v y (e k)) →
    KeqHits A s kb r (r.all fun p => (valueAt kb p.1).isSome && e p.1)
  | [], _ => .nil
  | (k, v) :: r, h => by
    cases hv : valueAt kb k with
    | none =>
      rw [show (((k, v) :: r).all fun p => (valueAt kb p.1).isSome && e p.1) = false by simp [hv]]
      exact .miss hv
    | some y =>
      rw [show (((k, v) :: r).all fun p => (valueAt kb p.1).isSome && e p.1) = (e k && r.all fun p => (valueAt kb p.1).isSome && e p.1) by simp [hv]]
      exact .hit hv (h k v y List.mem_cons_self hv) (KeqHits.of_all r fun k' v' y' hm hv' => h k' v' y' (List.mem_cons_of_mem _ hm) hv')
end PySem.W
namespace L2
open PySem PySem.Spec PyProof.Rows
/-- x == y answers the Bool, nested at most n deep; data of plain kinds want 64 -/
inductive Eqv (K : PySem.W.Frag) (H : Hp) : Nat → V → V → Bool → Prop
  | flat {n : Nat} {x y : V} : flatV x = true → flatV y = true → Eqv K H n x y (eqV x y)
  | same {n : Nat} {a : Addr} : Eqv K H n (.ref a) (.ref a) true
  | data {n : Nat} {x y : V} {d e : PyData} : 64 ≤ n → Dp K H x d → Dp K H y e → SeqAt.shaped d = true → SeqAt.shaped e = true → Eqv K H n x y (PyData.eqv d e)
  | lists {n : Nat} {a b : Addr} {xs ys : List V} {e : Nat → Bool} : a ≠ b → SqL K H a xs → SqL K H b ys → xs.length = ys.length → (∀ j x y, xs[j]? = some x → ys[j]? = some y → Eqv K H n x y (e j)) →
      Eqv K H (n + 1) (.ref a) (.ref b) ((List.range xs.length).all e)
  | listsLen {n : Nat} {a b : Addr} {xs ys : List V} : a ≠ b → SqL K H a xs → SqL K H b ys → xs.length ≠ ys.length → Eqv K H (n + 1) (.ref a) (.ref b) false
  | tups {n : Nat} {a b : Addr} {xs ys : List V} {e : Nat → Bool} : a ≠ b → SqT K H a xs → SqT K H b ys → (∀ j x y, xs[j]? = some x → ys[j]? = some y → Eqv K H n x y (e j)) →
      Eqv K H (n + 1) (.ref a) (.ref b) ((List.range (min xs.length ys.length)).all e && xs.length == ys.length)
  | dicts {n : Nat} {a b : Addr} {ks ls : List (Key × V)} {e : Key → Bool} : a ≠ b → H a = some (.dK ks) → H b = some (.dK ls) → (∀ k v y, (k, v) ∈ ks → valV ls k = some y → Eqv K H n v y (e k)) →
      Eqv K H (n + 1) (.ref a) (.ref b) (ks.length == ls.length && ks.all fun p => (valV ls p.1).isSome && e p.1)
section
variable {X : Cx} {pins : List (Addr × Obj)} {σ : St} {H : Hp} {s : Shared}
theorem kv_mem {kvs : List (Key × V)} {vs : List (Key × Value)} (r : KV kvs vs) : ∀ {k : Key} {u : Value}, (k, u) ∈ vs → ∃ v, (k, v) ∈ kvs ∧ RelV v u := by
  unfold KV at r
  induction r with
  | nil => intro k u h; cases h
  | @cons p q ps qs h t ih =>
    intro k u hm
    rcases List.mem_cons.mp hm with e | hm
    · subst e
      obtain ⟨h1, h2⟩ := h
      exact ⟨p.2, by rw [← show p.1 = k from h1]; exact List.mem_cons_self, h2⟩
    · obtain ⟨v, h1, h2⟩ := ih hm
      exact ⟨v, List.mem_cons_of_mem _ h1, h2⟩
theorem vals_at {xs : List V} {us : List Value} (r : Vals xs us) (j : Nat) (h : j < us.toArray.size) : ∃ x, xs[j]? = some x ∧ RelV x us.toArray[j] := by
  have hj : j < us.length := by simpa using h
  have hx : j < xs.length := by rw [r.length]; exact hj
  obtain ⟨u, hu, ru⟩ := r.get (List.getElem?_eq_getElem hx)
  refine ⟨_, List.getElem?_eq_getElem hx, ?_⟩
  rw [List.getElem?_eq_getElem hj] at hu
  have e : us.toArray[j] = u := by
    rw [← Option.some.inj hu]
    simp
  rw [e]
  exact ru
theorem tup_of {h : Heap} {a : Addr} {its : Array Value} (t : IsTup h a its) : h.IsTuple a its := by
  obtain ⟨o, h1, h2, n, h3⟩ := t
  exact ⟨o, h1, h2, n, h3⟩
theorem val_is {ls : List (Key × V)} {vb : List (Key × Value)} (rb : KV ls vb) {k : Key} {y : Value} (hv : valueAt vb k = some y) : ∃ y0, valV ls k = some y0 ∧ RelV y0 y := by
  have q := rb.val k
  rw [hv] at q
  cases h3 : valV ls k with
  | none => rw [h3] at q; exact q.elim
  | some y0 => rw [h3] at q; exact ⟨y0, rfl, q⟩
theorem hits_allV {ks ls : List (Key × V)} {va vb : List (Key × Value)} (e : Key → Bool) (ra : KV ks va) (rb : KV ls vb) : (ks.all fun p => (valV ls p.1).isSome && e p.1) = va.all fun p => (valueAt vb p.1).isSome && e p.1 := by
  have hk : ks.map (·.1) = va.map (·.1) := ra.keys
  have hs : ∀ k : Key, (valV ls k).isSome = (valueAt vb k).isSome := fun k => by
    have q := rb.val k
    cases h3 : valV ls k <;> cases h4 : valueAt vb k <;> rw [h3, h4] at q <;> first | rfl | exact q.elim
  have f : ∀ l : List (Key × V), (l.all fun p => (valV ls p.1).isSome && e p.1) = (l.map (·.1)).all fun k => (valueAt vb k).isSome && e k := fun l => by
    rw [List.all_map]
    congr 1
    funext p
    rw [hs p.1]
    rfl
  rw [f, hk, List.all_map]
  rfl
theorem Eqv.tree (I : Inv X pins σ H s) {n : Nat} {x y : V} {r : Bool} (t : Eqv X.K H n x y r) : ∀ {v u : Value}, RelV x v → RelV y u → PySem.W.EqTree X.prog X.w s n v u r := by
  induction t with
  | flat h1 h2 => exact fun rv ru => .leaf fun A _ => eqAt_V rv ru h1 h2
  | same =>
    intro v u rv ru
    obtain rfl : v = _ := rv
    obtain rfl : u = _ := ru
    exact .same
  | data hn d1 d2 s1 s2 =>
    intro v u rv ru
    obtain ⟨as, r1⟩ := Dp.reads I _ _ _ d1 rv
    obtain ⟨bs, r2⟩ := Dp.reads I _ _ _ d2 ru
    exact .leaf fun A hu => SeqAt.eqAt_reads _ _ A s _ _ _ _ r1 r2 (SeqAt.canLay_of_shaped s1) (SeqAt.canLay_of_shaped s2) (SeqAt.room_of_shaped s1 (by omega))
  | @lists n a b xs ys e hne h1 h2 hl _ ih =>
    intro v u rv ru
    obtain rfl : v = _ := rv
    obtain rfl : u = _ := ru
    obtain ⟨us, r1, p1, _⟩ := I.list h1
    obtain ⟨ws, r2, p2, _⟩ := I.list h2
    have e1 : xs.length = us.toArray.size := by rw [r1.length]; simp
    have e2 : ys.length = ws.toArray.size := by rw [r2.length]; simp
    rw [e1]
    refine .lists hne p1.isList p2.isList (by rw [← e1, ← e2, hl]) fun j j1 j2 => ?_
    obtain ⟨x, hx, rx⟩ := vals_at r1 j j1
    obtain ⟨y, hy, ry⟩ := vals_at r2 j j2
    exact ih j x y hx hy rx ry
  | @listsLen n a b xs ys hne h1 h2 hl =>
    intro v u rv ru
    obtain rfl : v = _ := rv
    obtain rfl : u = _ := ru
    obtain ⟨us, r1, p1, _⟩ := I.list h1
    obtain ⟨ws, r2, p2, _⟩ := I.list h2
    refine .listsLen hne p1.isList p2.isList ?_
    have e1 := r1.length
    have e2 := r2.length
    simp only [List.size_toArray, bne_iff_ne]
    omega
  | @tups n a b xs ys e hne h1 h2 _ ih =>
    intro v u rv ru
    obtain rfl : v = _ := rv
    obtain rfl : u = _ := ru
    obtain ⟨us, r1, p1, _⟩ := I.tuple h1
    obtain ⟨ws, r2, p2, _⟩ := I.tuple h2
    have e1 : xs.length = us.toArray.size := by rw [r1.length]; simp
    have e2 : ys.length = ws.toArray.size := by rw [r2.length]; simp
    rw [e1, e2]
    refine .tuples hne (tup_of p1) (tup_of p2) fun j j1 j2 => ?_
    obtain ⟨x, hx, rx⟩ := vals_at r1 j j1
    obtain ⟨y, hy, ry⟩ := vals_at r2 j j2
    exact ih j x y hx hy rx ry
  | @dicts n a b ks ls e hne h1 h2 _ ih =>
    intro v u rv ru
    obtain rfl : v = _ := rv
    obtain rfl : u = _ := ru
    obtain ⟨_, ya, va, ra, da⟩ := (show ObjOk X.prog X.w H s.heap a (.dK ks) from I.hok a _ h1)
    obtain ⟨_, yb, vb, rb, db⟩ := (show ObjOk X.prog X.w H s.heap b (.dK ls) from I.hok b _ h2)
    have ea : ks.length = va.length := ra.length
    have eb : ls.length = vb.length := rb.length
    have eall := hits_allV e ra rb
    rw [eall, ea, eb]
    refine .dicts hne ya yb da db fun k v y hm hv => ?_
    obtain ⟨v0, hm0, rv0⟩ := kv_mem ra hm
    obtain ⟨y0, hy0, ry0⟩ := val_is rb hv
    exact ih k v0 y0 hm0 hy0 rv0 ry0
end
section
variable {X : Cx}
/-- a == b of two lists, two tuples, two dicts -/
def rEqT (K : PySem.W.Frag) : R2 := fun x y H Q =>
  (∃ a b xs ys e, x = .ref a ∧ y = .ref b ∧ SqL K H a xs ∧ SqL K H b ys ∧ xs.length = ys.length ∧ (∀ j x y, xs[j]? = some x → ys[j]? = some y → Eqv K H 70 x y (e j)) ∧ Q (.bl ((List.range xs.length).all e)) H) ∨
  (∃ a b xs ys e, x = .ref a ∧ y = .ref b ∧ SqT K H a xs ∧ SqT K H b ys ∧ (∀ j x y, xs[j]? = some x → ys[j]? = some y → Eqv K H 70 x y (e j)) ∧ Q (.bl ((List.range (min xs.length ys.length)).all e && xs.length == ys.length)) H) ∨
  (∃ (a b : Addr) (ks ls : List (Key × V)) (e : Key → Bool), x = .ref a ∧ y = .ref b ∧ H a = some (.dK ks) ∧ H b = some (.dK ls) ∧ (∀ k v y, (k, v) ∈ ks → valV ls k = some y → Eqv K H 70 v y (e k)) ∧ Q (.bl (ks.length == ls.length && ks.all fun p => (valV ls p.1).isSome && e p.1)) H)
theorem op_eqT (hu : X.A.units + 100 < cLine) : OpR X (compareOp .Eq) (rEqT X.K) := by
  intro pins s σ H x y v u Q I rx ry h
  rcases h with ⟨a, b, xs, ys, e, rfl, rfl, h1, h2, hl, he, q⟩ | ⟨a, b, xs, ys, e, rfl, rfl, h1, h2, he, q⟩ | ⟨a, b, ks, ls, e, rfl, rfl, h1, h2, he, q⟩
  · obtain rfl : v = _ := rx
    obtain rfl : u = _ := ry
    obtain ⟨us, r1, p1, _⟩ := I.list h1
    obtain ⟨ws, r2, p2, _⟩ := I.list h2
    have e1 : xs.length = us.toArray.size := by rw [r1.length]; simp
    have e2 : ys.length = ws.toArray.size := by rw [r2.length]; simp
    refine PySem.W.eq_listsT (n := 70) (e := e) p1.isList p2.isList (by rw [← e1, ← e2, hl]) (fun j j1 j2 => ?_) (by omega) ⟨.bl _, H, I, rfl, by rw [← e1]; exact q⟩
    obtain ⟨x, hx, rx⟩ := vals_at r1 j j1
    obtain ⟨y, hy, ry⟩ := vals_at r2 j j2
    exact (he j x y hx hy).tree I rx ry
  · obtain rfl : v = _ := rx
    obtain rfl : u = _ := ry
    obtain ⟨us, r1, p1, _⟩ := I.tuple h1
    obtain ⟨ws, r2, p2, _⟩ := I.tuple h2
    have e1 : xs.length = us.toArray.size := by rw [r1.length]; simp
    have e2 : ys.length = ws.toArray.size := by rw [r2.length]; simp
    refine PySem.W.eq_tuplesT (n := 70) (e := e) (tup_of p1) (tup_of p2) (fun j j1 j2 => ?_) (by omega) ⟨.bl _, H, I, rfl, by rw [← e1, ← e2]; exact q⟩
    obtain ⟨x, hx, rx⟩ := vals_at r1 j j1
    obtain ⟨y, hy, ry⟩ := vals_at r2 j j2
    exact (he j x y hx hy).tree I rx ry
  · obtain rfl : v = _ := rx
    obtain rfl : u = _ := ry
    obtain ⟨_, ya, va, ra, da⟩ := (show ObjOk X.prog X.w H s.heap a (.dK ks) from I.hok a _ h1)
    obtain ⟨_, yb, vb, rb, db⟩ := (show ObjOk X.prog X.w H s.heap b (.dK ls) from I.hok b _ h2)
    refine PySem.W.eq_dictsT (n := 70) (e := e) ya yb da db (fun k v y hm hv => ?_) (by omega) ⟨.bl _, H, I, rfl, by rw [← hits_allV e ra rb, ← show ks.length = va.length from ra.length, ← show ls.length = vb.length from rb.length]; exact q⟩
    obtain ⟨v0, hm0, rv0⟩ := kv_mem ra hm
    obtain ⟨y0, hy0, ry0⟩ := val_is rb hv
    exact (he k v0 y0 hm0 hy0).tree I rv0 ry0
/-- a != b of two lists -/
def rNeT (K : PySem.W.Frag) : R2 := fun x y H Q => ∃ (a b : Addr) (xs ys : List V) (e : Nat → Bool), x = .ref a ∧ y = .ref b ∧ SqL K H a xs ∧ SqL K H b ys ∧ xs.length = ys.length ∧ (∀ j x y, xs[j]? = some x → ys[j]? = some y → Eqv K H 70 x y (e j)) ∧
  Q (.bl (!(List.range xs.length).all e)) H
theorem op_neT (hu : X.A.units + 100 < cLine) : OpR X (compareOp .NotEq) (rNeT X.K) := by
  intro pins s σ H x y v u Q I rx ry h
  obtain ⟨a, b, xs, ys, e, rfl, rfl, h1, h2, hl, he, q⟩ := h
  obtain rfl : v = _ := rx
  obtain rfl : u = _ := ry
  obtain ⟨us, r1, p1, _⟩ := I.list h1
  obtain ⟨ws, r2, p2, _⟩ := I.list h2
  have e1 : xs.length = us.toArray.size := by rw [r1.length]; simp
  have e2 : ys.length = ws.toArray.size := by rw [r2.length]; simp
  refine SeqAt.neIn_lists (e := e) p1.isList p2.isList (by rw [← e1, ← e2, hl]) (by omega) (fun j j1 j2 => ?_) ⟨.bl _, H, I, rfl, by rw [← e1]; exact q⟩
  obtain ⟨x, hx, rx⟩ := vals_at r1 j j1
  obtain ⟨y, hy, ry⟩ := vals_at r2 j j2
  exact ((he j x y hx hy).tree I rx ry).at X.A.in1 (by show X.A.units + 1 + 70 < cLine; omega)
/-- a != b of two dicts of the same keys and equal plain values -/
def rNeDc (K : PySem.W.Frag) : R2 := fun x y H Q => ∃ (a b : Addr) (ks ls : List (Key × V)) (e : Key → Bool), x = .ref a ∧ y = .ref b ∧ H a = some (.dK ks) ∧ H b = some (.dK ls) ∧
  (∀ k v y, (k, v) ∈ ks → valV ls k = some y → (flatV v = true ∧ flatV y = true ∧ e k = eqV v y) ∨ ((∃ a, v = .ref a ∧ y = .ref a) ∧ e k = true)) ∧ Q (.bl (!(ks.length == ls.length && ks.all fun p => (valV ls p.1).isSome && e p.1))) H
theorem op_neDc (hu : X.A.units + 100 < cLine) : OpR X (compareOp .NotEq) (rNeDc X.K) := by
  intro pins s σ H x y v u Q I rx ry h
  obtain ⟨a, b, ks, ls, e, rfl, rfl, h1, h2, he, q⟩ := h
  obtain rfl : v = _ := rx
  obtain rfl : u = _ := ry
  obtain ⟨_, ya, va, ra, da⟩ := (show ObjOk X.prog X.w H s.heap a (.dK ks) from I.hok a _ h1)
  obtain ⟨_, yb, vb, rb, db⟩ := (show ObjOk X.prog X.w H s.heap b (.dK ls) from I.hok b _ h2)
  refine PySem.W.keq_ne ya yb da db (by omega) (fun _ => PySem.W.KeqHits.of_all (e := e) va fun k v y hm hv => ?_) ⟨.bl _, H, I, rfl, by rw [← hits_allV e ra rb, ← show ks.length = va.length from ra.length, ← show ls.length = vb.length from rb.length]; exact q⟩
  obtain ⟨v0, hm0, rv0⟩ := kv_mem ra hm
  obtain ⟨y0, hy0, ry0⟩ := val_is rb hv
  rcases he k v0 y0 hm0 hy0 with ⟨f1, f2, f3⟩ | ⟨⟨a, rfl, rfl⟩, f3⟩
  · rw [f3]
    exact eqAt_V rv0 ry0 f1 f2
  · obtain rfl : v = _ := rv0
    obtain rfl : y = _ := ry0
    rw [f3]
    exact SeqAt.EqAt.same _
end
end L2

namespace L2
open PySem PySem.Spec PyProof.Rows
/-! ### the drawing state: s holds [big, cells, counter]; G is what the others see -/
structure VS (s b c : Addr) (n : Int) (bs cs : List Int) (G H : Hp) : Prop where
  sub : Same G H
  gs : G s = none
  gb : G b = none
  gc : G c = none
  bs' : b ≠ s
  cs' : c ≠ s
  bc : b ≠ c
  hs : H s = some (.lst [.ref b, .ref c, .int n])
  hb : H b = some (.lst (bs.map V.int))
  hc : H c = some (.lst (cs.map V.int))
  nn : ∀ x ∈ bs, (0 : Int) ≤ x
  lb : bs.length ≤ 63
  lc : 0 < cs.length ∧ cs.length ≤ 64
  n0 : 0 ≤ n
def View (s : Addr) (N : Nat) (G H : Hp) : Prop := ∃ b c n bs cs, VS s b c n bs cs G H ∧ n ≤ (N : Int)
theorem same_of_none {H : Hp} {p : Addr} {o : HO} (h : H p = none) : Same H (upd H p o) := fun b x e => by
  rw [upd_ne (ne_of_none e h)]
  exact e
/-- what the others do not see may change -/
theorem Same.unseen {G H : Hp} {p : Addr} {o : HO} (e : Same G H) (h : G p = none) : Same G (upd H p o) := fun b x g => by
  rw [upd_ne (ne_of_none g h)]
  exact e _ _ g
theorem View.sub {s : Addr} {N : Nat} {G H : Hp} (v : View s N G H) : Same G H := let ⟨_, _, _, _, _, k, _⟩ := v; k.sub
theorem View.gs {s : Addr} {N : Nat} {G H : Hp} (v : View s N G H) : G s = none := let ⟨_, _, _, _, _, k, _⟩ := v; k.gs
theorem View.mono {s : Addr} {N M : Nat} {G H : Hp} (v : View s N G H) (h : N ≤ M) : View s M G H :=
  let ⟨b, c, n, bs, cs, k, l⟩ := v; ⟨b, c, n, bs, cs, k, by omega⟩
theorem VS.ext {s b c : Addr} {n : Int} {bs cs : List Int} {G H H' : Hp} (k : VS s b c n bs cs G H) (e : Same H H') : VS s b c n bs cs G H' :=
  { k with sub := k.sub.trans e, hs := e _ _ k.hs, hb := e _ _ k.hb, hc := e _ _ k.hc }
theorem View.ext {s : Addr} {N : Nat} {G H H' : Hp} (v : View s N G H) (e : Same H H') : View s N G H' :=
  let ⟨b, c, n, bs, cs, k, l⟩ := v; ⟨b, c, n, bs, cs, k.ext e, l⟩
/-- a new object, seen from now on -/
theorem View.see {s : Addr} {N : Nat} {G H H' : Hp} {p : Addr} {o : HO} (v : View s N G H) (e : Same H H') (n : H p = none) (h : H' p = some o) : View s N (upd G p o) H' := by
  obtain ⟨b, c, i, bs, cs, k, l⟩ := v
  have f : ∀ q u, H q = some u → p ≠ q := fun q u hq z => by rw [z, hq] at n; cases n
  refine ⟨b, c, i, bs, cs, { k.ext e with sub := fun q u hq => ?_, gs := ?_, gb := ?_, gc := ?_ }, l⟩
  · by_cases hqp : q = p
    · subst hqp
      rw [upd_same] at hq
      cases hq
      exact h
    · rw [upd_ne hqp] at hq
      exact e _ _ (k.sub _ _ hq)
  · rw [upd_ne (f _ _ k.hs).symm]; exact k.gs
  · rw [upd_ne (f _ _ k.hb).symm]; exact k.gb
  · rw [upd_ne (f _ _ k.hc).symm]; exact k.gc
theorem View.new {s : Addr} {N : Nat} {G H : Hp} {p : Addr} {o : HO} (v : View s N G H) (n : H p = none) : View s N (upd G p o) (upd H p o) := v.see (same_of_none n) n upd_same
/-- an object that is seen, stored to -/
theorem View.put {s : Addr} {N : Nat} {G H : Hp} {p : Addr} {u o : HO} (v : View s N G H) (h : G p = some u) : View s N (upd G p o) (upd H p o) := by
  obtain ⟨b, c, i, bs, cs, k, l⟩ := v
  have f : ∀ q, G q = none → q ≠ p := fun q hq z => by rw [z, h] at hq; cases hq
  refine ⟨b, c, i, bs, cs, ⟨fun q x hq => ?_, ?_, ?_, ?_, k.bs', k.cs', k.bc, ?_, ?_, ?_, k.nn, k.lb, k.lc, k.n0⟩, l⟩
  · by_cases hqp : q = p
    · subst hqp
      rw [upd_same] at hq ⊢
      exact hq
    · rw [upd_ne hqp] at hq ⊢
      exact k.sub _ _ hq
  · rw [upd_ne (f _ k.gs)]; exact k.gs
  · rw [upd_ne (f _ k.gb)]; exact k.gb
  · rw [upd_ne (f _ k.gc)]; exact k.gc
  · rw [upd_ne (f _ k.gs)]; exact k.hs
  · rw [upd_ne (f _ k.gb)]; exact k.hb
  · rw [upd_ne (f _ k.gc)]; exact k.hc
theorem VS.count {s b c : Addr} {n : Int} {bs cs : List Int} {G H : Hp} (k : VS s b c n bs cs G H) : VS s b c (n + 1) bs cs G (upd H s (.lst [.ref b, .ref c, .int (n + 1)])) where
  sub := k.sub.unseen k.gs
  gs := k.gs
  gb := k.gb
  gc := k.gc
  bs' := k.bs'
  cs' := k.cs'
  bc := k.bc
  hs := upd_same
  hb := by rw [upd_ne k.bs']; exact k.hb
  hc := by rw [upd_ne k.cs']; exact k.hc
  nn := k.nn
  lb := k.lb
  lc := k.lc
  n0 := by have := k.n0; omega
/-- another big list in the first place -/
theorem VS.big {s b c p : Addr} {n y : Int} {r cs : List Int} {G H : Hp} (k : VS s b c n (y :: r) cs G H) (hp : H p = none) :
    VS s p c n r cs G (upd (upd H p (.lst (r.map V.int))) s (.lst [.ref p, .ref c, .int n])) := by
  have ps : p ≠ s := fun z => by rw [z, k.hs] at hp; cases hp
  have pc : p ≠ c := fun z => by rw [z, k.hc] at hp; cases hp
  exact { sub := (k.sub.unseen (k.sub.free hp)).unseen k.gs, gs := k.gs, gb := k.sub.free hp, gc := k.gc, bs' := ps, cs' := k.cs', bc := pc, hs := upd_same,
          hb := by rw [upd_ne ps, upd_same], hc := by rw [upd_ne k.cs', upd_ne pc.symm]; exact k.hc, nn := fun x hx => k.nn x (List.mem_cons_of_mem _ hx),
          lb := by have := k.lb; rw [List.length_cons] at this; omega, lc := k.lc, n0 := k.n0 }
/-- the big list's head, changed -/
theorem VS.head {s b c : Addr} {n y z : Int} {r cs : List Int} {G H : Hp} (k : VS s b c n (y :: r) cs G H) (hz : 0 ≤ z) : VS s b c n (z :: r) cs G (upd H b (.lst ((z :: r).map V.int))) where
  sub := k.sub.unseen k.gb
  gs := k.gs
  gb := k.gb
  gc := k.gc
  bs' := k.bs'
  cs' := k.cs'
  bc := k.bc
  hs := by rw [upd_ne k.bs'.symm]; exact k.hs
  hb := upd_same
  hc := by rw [upd_ne k.bc.symm]; exact k.hc
  nn := fun x hx => by
    rcases List.mem_cons.mp hx with rfl | hx
    · exact hz
    · exact k.nn x (List.mem_cons_of_mem _ hx)
  lb := k.lb
  lc := k.lc
  n0 := k.n0
/-- a seen object is left out of sight -/
theorem Same.free' {G H : Hp} {p : Addr} (e : Same G H) (h : H p = none) : G p = none := e.free h
/-! ### lists of ints -/
theorem dpAll_ints {K : PySem.W.Frag} {H : Hp} : ∀ ns : List Int, DpAll K H (ns.map V.int) (ns.map PyData.int)
  | [] => .nil
  | i :: r => .cons (.int i) (dpAll_ints r)
theorem dpAll_strs {K : PySem.W.Frag} {H : Hp} : ∀ ns : List Str, DpAll K H (ns.map V.str) (ns.map PyData.str)
  | [] => .nil
  | i :: r => .cons (.str i) (dpAll_strs r)
theorem cut1 (x : V) (xs : List V) : cutV (x :: xs) (some 1) none = xs := by
  unfold cutV
  rw [show HT.sIx (x :: xs).length 0 (some 1) = min 1 (x :: xs).length from HT.sIx_nat (x :: xs).length 0 1, HT.sIx_none]
  rw [show min 1 (x :: xs).length = 1 by
    rw [List.length_cons]
    omega]
  show (List.take ((x :: xs).length - 1) xs) = xs
  rw [List.length_cons, Nat.add_sub_cancel]
  exact List.take_length
theorem shaped_ints : ∀ ns : List Int, SeqAt.shaped (.list (ns.map PyData.int)) = true
  | [] => rfl
  | _ :: r => shaped_ints r
/-! ### comprehensions whose parts touch nothing -/
def Is (te : TE) (σ : St) (H : Hp) (v : V) : Prop := ∀ Q : VK, Q v H → te σ H Q
def TIs (t : TT) (σ : St) (H : Hp) (b : Bool) : Prop := ∀ Q : Bool → Hp → Prop, Q b H → t σ H Q
theorem take_more {α : Type} : ∀ {l : List α} {i : Nat} {x : α}, l[i]? = some x → l.take (i + 1) = l.take i ++ [x]
  | [], i, x, h => by simp at h
  | a :: l, 0, x, h => by
    have e : a = x := Option.some.inj h
    subst e
    rfl
  | a :: l, i + 1, x, h => by
    have ih := take_more (l := l) (i := i) (x := x) h
    show a :: l.take (i + 1) = a :: l.take i ++ [x]
    rw [ih]
    rfl
theorem fm_len {α β : Type} (l : List α) (p : α → Bool) (f : α → β) : ((l.filter p).map f).length ≤ l.length := by
  rw [List.length_map]
  exact List.length_filter_le _ _
theorem lc_fm {J : It} {G : Hp → Prop} {xs : List V} (w : Walk J xs.length G (YAt xs)) {tt : TT} {te : TE} {vs : List Nat} {σ : St} {H1 : Hp} {D : Addr} {Qd : Hp → Prop} {j : Nat} (p : V → Bool) (f : V → V)
    (hD : H1 D = none) (hG : ∀ H', Same H1 H' → G H') (hl : xs.length ≤ 1000) (hw : ∀ x, wipe ((wipe σ vs).set j (some x)) vs = wipe σ vs)
    (ht : ∀ x ∈ xs, ∀ H', Same H1 H' → TIs tt ((wipe σ vs).set j (some x)) H' (p x)) (he : ∀ x ∈ xs, p x = true → ∀ H', Same H1 H' → Is te ((wipe σ vs).set j (some x)) H' (f x))
    (hd : Qd (upd H1 D (.lst ((xs.filter p).map f)))) :
    ∃ W : Nat → Nat → Hp → Prop, (∃ m, W 0 m (upd H1 D (.lst []))) ∧ ∀ i m H, W i m H →
      (J.stop i H ∧ Qd H) ∨ (J.go i H ∧ ∃ Nx : Hp → Prop, (∀ H', Nx H' → ∃ m', m' < m ∧ W (i + 1) m' H') ∧ ∀ x H', J.yld i H x H' → gName j x (wipe σ vs) H' fun σ2 H2 => wipe σ2 vs = wipe σ vs ∧ tt σ2 H2 fun b H3 =>
        if b = true then te σ2 H3 fun y H4 => ∃ acc, H4 D = some (.lst acc) ∧ acc.length < sizeLine ∧ Nx (upd H4 D (.lst (acc ++ [y]))) else Nx H3) := by
  have sm : ∀ l : List V, Same H1 (upd H1 D (.lst l)) := fun l => same_of_none hD
  refine lc_it w (fun i H => H = upd H1 D (.lst (((xs.take i).filter p).map f))) rfl (fun i H _ e => by rw [e]; exact hG _ (sm _)) (fun i x H H' hi e y => ?_) (fun H e => by rw [e, List.take_length]; exact hd)
  obtain ⟨rfl, hx⟩ := y
  subst e
  have hm : x ∈ xs := List.mem_of_getElem? hx
  have ht' := take_more hx
  refine ⟨hw x, ht x hm _ (sm _) _ ?_⟩
  cases hp : p x with
  | true =>
    refine if_pos rfl |>.mpr ?_
    refine he x hm hp _ (sm _) _ ⟨_, upd_same, small1000 (Nat.le_trans (fm_len _ _ _) (by rw [List.length_take]; omega)), ?_⟩
    rw [upd_upd, ht', List.filter_append, List.map_append, List.filter_cons, if_pos hp]
    rfl
  | false =>
    refine if_neg Bool.false_ne_true |>.mpr ?_
    rw [ht', List.filter_append, List.filter_cons, if_neg (by rw [hp]; exact Bool.false_ne_true)]
    show upd H1 D _ = upd H1 D (.lst ((((xs.take i).filter p) ++ []).map f))
    rw [List.append_nil]
/-- the signs of a text -/
def sgn (c : Nat) : V := .str ⟨#[c]⟩
def sgns (z : Str) : List V := z.cps.toList.map sgn
theorem walk_sgns {z : Str} : Walk (Its z) (sgns z).length (fun _ => True) (YAt (sgns z)) := by
  have hn : (sgns z).length = z.cps.size := by unfold sgns; simp
  rw [hn]
  refine walk_str.mono (fun _ h => h) (fun i H v H' hi _ ⟨e, c, hc, hv⟩ => ⟨e, ?_⟩)
  unfold sgns
  rw [List.getElem?_map, Array.getElem?_toList, hc, hv]
  rfl
theorem View.hide {s : Addr} {N : Nat} {G H : Hp} {p : Addr} {o : HO} (v : View s N (upd G p o) H) (h : G p = none) : View s N G H := by
  obtain ⟨b, c, n, bs, cs, k, l⟩ := v
  have f : ∀ q, upd G p o q = none → G q = none := fun q hq => by
    by_cases e : q = p
    · rw [e]; exact h
    · rw [upd_ne e] at hq; exact hq
  exact ⟨b, c, n, bs, cs, { k with sub := fun q u hq => k.sub q u (same_of_none h q u hq), gs := f _ k.gs, gb := f _ k.gb, gc := f _ k.gc }, l⟩
theorem View.free {s : Addr} {N : Nat} {G H : Hp} {p : Addr} (v : View s N G H) (h : H p = none) : G p = none := v.sub.free h
/-! ### "".join of signs -/
theorem glue_go (l : List Str) : ∀ acc : Array Nat, (l.foldl (fun acc p => acc ++ (Str.ofString "").cps ++ p.cps) acc).toList = acc.toList ++ l.flatMap (·.cps.toList) := by
  induction l with
  | nil => intro acc; simp
  | cons x r ih =>
    intro acc
    rw [List.foldl_cons, ih]
    have e : (Str.ofString "").cps = #[] := by decide +kernel
    rw [e]
    simp
theorem join_flat (l : List Str) : (Txt.join "" l).cps.toList = l.flatMap (·.cps.toList) := by
  show ((l.drop 1).foldl (fun acc p => acc ++ (Str.ofString "").cps ++ p.cps) (l.headD Str.empty).cps).toList = _
  rw [glue_go]
  cases l with
  | nil => rfl
  | cons x r => simp
theorem join_signs (cs : List Nat) : (Txt.join "" (cs.map fun c => (⟨#[c]⟩ : Str))).cps.toList = cs := by
  rw [join_flat]
  induction cs with
  | nil => rfl
  | cons c r ih => simp [ih]
theorem sgn_strs (cs : List Nat) : (cs.map fun c => (⟨#[c]⟩ : Str)).map V.str = cs.map sgn := by
  rw [List.map_map]
  rfl
theorem ones_len (cs : List Nat) : ((cs.map fun c => (⟨#[c]⟩ : Str)).map (·.length)).sum = cs.length := by
  induction cs with
  | nil => rfl
  | cons c r ih =>
    show 1 + ((r.map fun c => (⟨#[c]⟩ : Str)).map (·.length)).sum = r.length + 1
    rw [ih]
    omega
/-! ### numbers, names, texts -/
def spDraw : Sp := fun vs H Q _ => ∃ (s : Addr) (N : Nat) (G : Hp) (m : Int), vs = [.ref s, .int m] ∧ View s N G H ∧ N ≤ 1000000 ∧ 0 < m ∧ m < 2 ^ 100 ∧
  ∀ (d : Int) (H' : Hp), 0 ≤ d → d < m → View s (N + 1) G H' → Q (.int d) H'
def spStart (K : PySem.W.Frag) : Sp := fun vs H Q _ => ∃ (a : Addr) (ns : List Int), vs = [.ref a] ∧ SqL K H a (ns.map V.int) ∧ ns.length ≤ 63 ∧ ∀ (s : Addr) (H' : Hp), View s 0 H H' → Q (.ref s) H'
theorem fmod_in (x : Int) {m : Int} (h : 0 < m) : 0 ≤ x.fmod m ∧ x.fmod m < m := by
  rw [Int.fmod_eq_emod_of_nonneg x (by omega)]
  exact ⟨Int.emod_nonneg _ (by omega), Int.emod_lt_of_pos _ h⟩
theorem ix_mod (cs : List Int) (n : Int) (h : 0 < cs.length) : ∃ (j : Nat) (z : Int), n.fmod (cs.length : Int) = (j : Int) ∧ cs[j]? = some z := by
  obtain ⟨h0, h1⟩ := fmod_in n (m := (cs.length : Int)) (by omega)
  obtain ⟨j, hj⟩ := Int.eq_ofNat_of_zero_le h0
  refine ⟨j, cs[j]'(by omega), hj, List.getElem?_eq_getElem _⟩
theorem nz1 : (2147483647 : Int) ≠ 0 := by decide
theorem nz2 : (2147483629 : Int) ≠ 0 := by decide
theorem ixN_zero {y : Int} {r : List Int} : ixN ((y :: r).map V.int).length 0 = some 0 := by
  unfold ixN
  rw [if_pos (by decide), if_pos (by rw [List.length_map, List.length_cons]; omega)]
  rfl
theorem dec_true {c : Bool} {A B : Prop} (hc : c = true) (h : A) : if c = true then A else B := by rw [if_pos hc]; exact h
theorem dec_false {c : Bool} {A B : Prop} (hc : c = false) (h : B) : if c = true then A else B := by rw [hc, if_neg Bool.false_ne_true]; exact h
theorem pow5 {x : Int} (h0 : 0 ≤ x) (h : x < 2 ^ 60) : (0 : Int) ≤ 5 ∧ (5 : Int) ≤ 1000000 ∧ x.natAbs < 2 ^ 64 := ⟨by decide, by decide, by
  have : x.natAbs < 2 ^ 60 := by omega
  omega⟩
theorem wmul {i j : Int} (h0 : 0 ≤ i) (h : i < 2 ^ 40) (h1 : 0 ≤ j) (h2 : j < 2 ^ 40) : CMulW i j := wide_mul (a := 40) (b := 40) (by omega) (by omega) (by decide) (by decide) (by decide)

theorem cpow1018 : CPow 10 18 := ⟨by decide, by decide, by decide⟩

def lets : List Nat := ("abcdefghijklmnopqrstuvwxyz" : Str).cps.toList
def digs : List Nat := ("0123456789" : Str).cps.toList
def okc (c : Nat) : Bool := decide (c ∈ lets) || decide (c ∈ digs)
def goodL : List Nat → Bool
  | [] => false
  | c :: r => decide (r.length < 6) && decide (c ∈ lets) && (c :: r).all okc
def good (z : Str) : Bool := goodL z.cps.toList

def Asc (z : Str) : Prop := ∀ c ∈ z.cps.toList, c < 128
def spGood : Sp := fun vs H Q _ => ∃ z : Str, vs = [.str z] ∧ z.length ≤ 1000 ∧ Asc z ∧ ∀ H', Same H H' → Q (.bl (good z)) H'
theorem size1000 {n : Nat} (h : n ≤ 1000) : n ≤ sizeLine := Nat.le_of_lt (small1000 h)

theorem okc_cat (y : Nat) : okc y = decide (y ∈ (Str.ofString "abcdefghijklmnopqrstuvwxyz" ++ Str.ofString "0123456789").cps.toList) := by
  have e : (Str.ofString "abcdefghijklmnopqrstuvwxyz" ++ Str.ofString "0123456789").cps.toList = lets ++ digs := by decide +kernel
  rw [e]
  simp [okc, List.mem_append]
theorem shaped_go : ∀ ns : List Str, (∀ w ∈ ns, PyData.strOk w = true) → PyData.canLayAll0 (ns.map PyData.str) = true ∧ PyData.depthAll (ns.map PyData.str) = 0
  | [], _ => ⟨rfl, rfl⟩
  | x :: r, h => by
    obtain ⟨h1, h2⟩ := shaped_go r fun w hw => h w (List.mem_cons_of_mem _ hw)
    refine ⟨?_, ?_⟩
    · show (PyData.canLay0 (.str x) && PyData.canLayAll0 (r.map PyData.str)) = true
      rw [h1, Bool.and_true]
      exact h x List.mem_cons_self
    · show max (PyData.depth (.str x)) (PyData.depthAll (r.map PyData.str)) = 0
      rw [h2]
      rfl
theorem shaped_strs (ns : List Str) (h : ∀ w ∈ ns, PyData.strOk w = true) : SeqAt.shaped (.list (ns.map PyData.str)) = true := by
  obtain ⟨h1, h2⟩ := shaped_go ns h
  unfold SeqAt.shaped
  rw [Bool.and_eq_true]
  refine ⟨h1, decide_eq_true ?_⟩
  show PyData.depthAll (ns.map PyData.str) + 1 ≤ 64
  rw [h2]
  decide
theorem strOk_one {c : Nat} (h : c < 128) : PyData.strOk ⟨#[c]⟩ = true := by
  simp [PyData.strOk]
  omega
theorem bads : ∀ l : List Nat, (∀ c ∈ l, c < 128) → ∃ ws : List Str, (ws.map V.str = ((l.map sgn).filter (fun v => match v with | .str x => !(x.cps.toList.all okc) | _ => false))) ∧ PyData.eqv (.list (ws.map .str)) (.list []) = l.all okc ∧ ∀ w ∈ ws, PyData.strOk w = true
  | [], _ => ⟨[], rfl, rfl, fun _ h => nomatch h⟩
  | c :: r, ha => by
    obtain ⟨ws, h1, h2, h3⟩ := bads r fun x hx => ha x (List.mem_cons_of_mem _ hx)
    by_cases hc : okc c = true
    · refine ⟨ws, ?_, ?_, h3⟩
      · rw [h1, List.map_cons, List.filter_cons]
        simp [sgn, hc]
      · rw [h2, List.all_cons, hc, Bool.true_and]
    · have hc' : okc c = false := by simpa using hc
      refine ⟨⟨#[c]⟩ :: ws, ?_, ?_, fun w hw => ?_⟩
      · rw [List.map_cons, h1, List.map_cons, List.filter_cons]
        simp [sgn, hc']
      · rw [List.all_cons, hc']
        rfl
      · rcases List.mem_cons.mp hw with rfl | hw
        · exact strOk_one (ha c List.mem_cons_self)
        · exact h3 w hw

def signsS : Str := " !\"#$&'()*+,-./0123456789:;<=>?@ABCDEFGHIJKLMNOPQRSTUVWXYZ[\\]^_`" ++ "abcdefghijklmnopqrstuvwxyz{|}~\n"

theorem pick (z : Str) {e : Int} (h0 : 0 ≤ e) (h1 : e < (z.length : Int)) : ∃ c, atI z.cps.toList e = some c ∧ c ∈ z.cps.toList := by
  obtain ⟨j, rfl⟩ := Int.eq_ofNat_of_zero_le h0
  have hl : z.cps.toList.length = z.length := by simp [Str.length]
  have hj : j < z.cps.toList.length := by omega
  exact ⟨_, atI_nat (List.getElem?_eq_getElem hj), List.getElem_mem hj⟩
theorem ixN_nat {n j : Nat} (h : j < n) : ixN n (j : Int) = some j := by
  unfold ixN
  rw [if_pos (by omega), if_pos (by omega), Int.toNat_natCast]
theorem ones_ok {cs : List Nat} (h : ∀ c ∈ cs, c < 128) : ∀ w ∈ cs.map fun c => (⟨#[c]⟩ : Str), PyData.strOk w = true := fun w hw => by
  obtain ⟨c, hc, rfl⟩ := List.mem_map.mp hw
  exact strOk_one (h c hc)
theorem rev_ok {z : Str} (h : z.length ≤ 81) (ha : Asc z) : (revS z).length ≤ 81 ∧ Asc (revS z) := by
  have e : (revS z).cps.toList = z.cps.toList.reverse := by simp [revS]
  refine ⟨?_, fun c hc => ha c (by rw [e] at hc; exact List.mem_reverse.mp hc)⟩
  have e1 : (revS z).cps.toList.length = (revS z).length := by simp [Str.length]
  have e2 : z.cps.toList.length = z.length := by simp [Str.length]
  rw [e, List.length_reverse] at e1
  omega
theorem cat_ok {x y : Str} {n m : Nat} (h : x.length ≤ n) (h2 : y.length ≤ m) (ha : Asc x) (hb : Asc y) : (x ++ y).length ≤ n + m ∧ Asc (x ++ y) := by
  have e : (x ++ y).cps.toList = x.cps.toList ++ y.cps.toList := by
    show (x.cps ++ y.cps).toList = _
    simp
  refine ⟨?_, fun c hc => ?_⟩
  · show (x.cps ++ y.cps).size ≤ _
    rw [Array.size_append]
    have : x.cps.size ≤ n := h
    have : y.cps.size ≤ m := h2
    omega
  · rw [e] at hc
    rcases List.mem_append.mp hc with hc | hc
    · exact ha c hc
    · exact hb c hc
theorem menu_word {wd : Str} {d : Int} (h0 : 0 ≤ d) (h1 : d < 4) (hn : wd.length ≤ 80) (ha : Asc wd) :
    ∃ w2 : Str, atI [V.str (wd ++ Str.ofString "\n"), .str (wd ++ Str.ofString " "), .str (Str.ofString " " ++ wd), .str (Str.ofString "\n" ++ wd)] d = some (.str w2) ∧ w2.length ≤ 81 ∧ Asc w2 := by
  have l1 : (Str.ofString "\n").length ≤ 1 := by decide +kernel
  have l2 : (Str.ofString " ").length ≤ 1 := by decide +kernel
  have a1 : Asc (Str.ofString "\n") := fun c hc => of_decide_eq_true (List.all_eq_true.mp (show (Str.ofString "\n").cps.toList.all (fun c => decide (c < 128)) = true by decide +kernel) c hc)
  have a2 : Asc (Str.ofString " ") := fun c hc => of_decide_eq_true (List.all_eq_true.mp (show (Str.ofString " ").cps.toList.all (fun c => decide (c < 128)) = true by decide +kernel) c hc)
  have : d = 0 ∨ d = 1 ∨ d = 2 ∨ d = 3 := by omega
  rcases this with rfl | rfl | rfl | rfl
  · exact ⟨_, atI_nat (j := 0) rfl, cat_ok hn l1 ha a1⟩
  · exact ⟨_, atI_nat (j := 1) rfl, cat_ok hn l2 ha a2⟩
  · exact ⟨_, atI_nat (j := 2) rfl, (by have := (cat_ok l2 hn a2 ha).1; omega), (cat_ok l2 hn a2 ha).2⟩
  · exact ⟨_, atI_nat (j := 3) rfl, (by have := (cat_ok l1 hn a1 ha).1; omega), (cat_ok l1 hn a1 ha).2⟩

theorem asc_of {z : Str} (h : z.cps.toList.all (fun c => decide (c < 128)) = true) : Asc z := fun c hc => of_decide_eq_true (List.all_eq_true.mp h c hc)
theorem asc_signs : Asc signsS := asc_of (by decide +kernel)
theorem asc_plain : Asc "abcdefghijklmnopqrstuvwxyz0123456789" := asc_of (by decide +kernel)

/-- a def of one parameter, called by place or by name -/
theorem kb_one {K : PySem.W.Frag} {x qual p : Str} {st : Stmt} {f : Addr} {fd : FuncData} (F : Fun K x qual st f fd)
    (h : ∀ (kV doc pm : Value) (an : Option Addr) (cdv ct v : Value), bindArgs (PySem.W.fnOf x qual (defArgs st) (defBody st) (defScope st) .none kV doc pm an cdv ct) ⟨[v], []⟩ = pure [(p, v)] ∧
      bindArgs (PySem.W.fnOf x qual (defArgs st) (defBody st) (defScope st) .none kV doc pm an cdv ct) ⟨[], [(p, v)]⟩ = pure [(p, v)]) :
    KBinds K fd [p] [p] (fun us ws => us ++ ws) (fun vs zs => vs ++ zs) := by
  obtain ⟨oc, od, kV, doc, pm, an, cdv, ct, osl, rfl, lk, hcd⟩ := F.ex
  refine ⟨fun s us ws _ hl => ?_, fun r rz => r.append rz⟩
  have hl : (us ++ ws).length = 1 := hl
  match us, ws, hl with
  | [], [v], _ => exact .of_eq (h kV doc pm an cdv ct v).2
  | [v], [], _ => exact .of_eq (h kV doc pm an cdv ct v).1
  | _ :: _ :: _, _, hl => simp at hl
  | [_], _ :: _, hl => simp at hl
  | [], [], hl => simp at hl
  | [], _ :: _ :: _, hl => simp at hl

/-- a list of signs, one draw a turn -/
theorem lc_signs {te : TE} {vs : List Nat} {σ : St} {j n N : Nat} {Q : VK} {G H : Hp} {s : Addr} {S : List Nat} (v : View s N G H) (hn : n ≤ 1000) (hw : ∀ x, wipe ((wipe σ vs).set j (some x)) vs = wipe σ vs)
    (hte : ∀ (x : V) (i : Nat) (G' H' : Hp) (Q' : VK), i < n → View s (N + i) G' H' → (∀ (c : Nat) (H2 : Hp), c ∈ S → View s (N + i + 1) G' H2 → Q' (sgn c) H2) → te ((wipe σ vs).set j (some x)) H' Q')
    (hq : ∀ (D : Addr) (cs : List Nat) (H' : Hp), G D = none → cs.length = n → (∀ c ∈ cs, c ∈ S) → View s (N + n) (upd G D (.lst (cs.map sgn))) H' → Q (.ref D) H') (D : Addr) (hD : H D = none) :
    ∃ W : Nat → Nat → Hp → Prop, (∃ m, W 0 m (upd H D (.lst []))) ∧ ∀ i m H, W i m H →
      ((Itr 0 n).stop i H ∧ Q (.ref D) H) ∨ ((Itr 0 n).go i H ∧ ∃ Nx : Hp → Prop, (∀ H', Nx H' → ∃ m', m' < m ∧ W (i + 1) m' H') ∧ ∀ x H', (Itr 0 n).yld i H x H' → gName j x (wipe σ vs) H' fun σ2 H2 => wipe σ2 vs = wipe σ vs ∧ tYes σ2 H2 fun b H3 =>
        if b = true then te σ2 H3 fun y H4 => ∃ acc, H4 D = some (.lst acc) ∧ acc.length < sizeLine ∧ Nx (upd H4 D (.lst (acc ++ [y]))) else Nx H3) := by
  refine lc_range (lo := 0) (n := n) (fun i H' => ∃ cs : List Nat, cs.length = i ∧ (∀ c ∈ cs, c ∈ S) ∧ View s (N + i) (upd G D (.lst (cs.map sgn))) H') ⟨[], rfl, (fun _ h => nomatch h), v.new hD⟩ ?_ ?_
  · rintro i H' hi ⟨cs, hl, ha, u⟩
    refine ⟨hw _, ?_⟩
    unfold tYes
    simp only [if_true]
    refine hte _ i _ _ _ hi u fun c H2 hc u2 => ?_
    refine ⟨cs.map sgn, u2.sub _ _ upd_same, small1000 (by rw [List.length_map]; omega), cs ++ [c], by simp [hl], fun x hx => ?_, ?_⟩
    · rcases List.mem_append.mp hx with hx | hx
      · exact ha x hx
      · have : x = c := by simpa using hx
        rw [this]
        exact hc
    · have := u2.put (o := .lst (cs.map sgn ++ [sgn c])) upd_same
      rw [upd_upd] at this
      rw [List.map_append]
      exact this
  · rintro H' ⟨cs, hl, ha, u⟩
    exact hq D cs H' (v.sub.free hD) hl ha u
/-- a def as its callers see it -/
structure Cal (P : Program) (w : World) (K : PySem.W.Frag) (mg : Str → Option Value) (base : Heap) (nm : Str) (CX : CXT) (k : Nat) (ps : List Str) (sp : Sp) where
  f : Addr
  fd : FuncData
  g : mg nm = some (.ref f)
  kp : PySem.W.keepIn K (.ref f) = true
  b : Binds K fd ps []
  G : FnOk P w K mg base CX k f fd ps sp
end L2

namespace L2
open PySem PySem.Spec PyProof.Rows
/-! ### drawn names -/
def C36 : Str := "abcdefghijklmnopqrstuvwxyz0123456789"
theorem c36_ok : ∀ c ∈ C36.cps.toList, okc c = true := fun c hc => List.all_eq_true.mp (show C36.cps.toList.all okc = true by decide +kernel) c hc
theorem c36_len : C36.length = 36 := by decide +kernel
theorem c36_take : C36.cps.toList.take 26 = lets := by decide +kernel
theorem lets_ok : ∀ c ∈ lets, okc c = true := fun c hc => List.all_eq_true.mp (show lets.all okc = true by decide +kernel) c hc
theorem lets_nd : lets.Nodup := by decide +kernel
theorem lets_len : lets.length = 26 := by decide +kernel
theorem okc_lt {c : Nat} (h : okc c = true) : c < 128 := by
  have h1 : ∀ x ∈ lets ++ digs, x < 128 := fun x hx => of_decide_eq_true (List.all_eq_true.mp (show (lets ++ digs).all (fun x => decide (x < 128)) = true by decide +kernel) x hx)
  refine h1 c (List.mem_append.mpr ?_)
  unfold okc at h
  rcases Bool.or_eq_true_iff.mp h with h | h
  · exact .inl (of_decide_eq_true h)
  · exact .inr (of_decide_eq_true h)
/-- the i-th letter -/
def let_ (i : Nat) : Nat := lets.getD i 0
theorem let_mem {i : Nat} (h : i < 26) : let_ i ∈ lets := by
  unfold let_
  rw [List.getD_eq_getElem?_getD, List.getElem?_eq_getElem (by rw [lets_len]; exact h)]
  exact List.getElem_mem _
theorem let_inj {i j : Nat} (hi : i < 26) (hj : j < 26) (e : let_ i = let_ j) : i = j := by
  unfold let_ at e
  rw [List.getD_eq_getElem?_getD, List.getD_eq_getElem?_getD, List.getElem?_eq_getElem (by rw [lets_len]; exact hi), List.getElem?_eq_getElem (by rw [lets_len]; exact hj)] at e
  exact (List.getElem_inj lets_nd).mp e
theorem c36_at {i : Nat} (h : i < 26) : atI C36.cps.toList (i : Int) = some (let_ i) := by
  refine atI_nat ?_
  have e : C36.cps.toList[i]? = (C36.cps.toList.take 26)[i]? := by rw [List.getElem?_take, if_pos h]
  rw [e, c36_take]
  unfold let_
  rw [List.getD_eq_getElem?_getD, List.getElem?_eq_getElem (by rw [lets_len]; exact h)]
  rfl
theorem cat_list (x y : Str) : (x ++ y).cps.toList = x.cps.toList ++ y.cps.toList := by
  show (x.cps ++ y.cps).toList = _
  simp
theorem len_list (x : Str) : x.cps.toList.length = x.length := by simp [Str.length]
theorem str_ext {x y : Str} (h : x.cps.toList = y.cps.toList) : x = y := by
  obtain ⟨a⟩ := x
  obtain ⟨b⟩ := y
  have : a = b := Array.ext' h
  rw [this]
theorem good_of {w : Str} {c : Nat} {r : List Nat} (e : w.cps.toList = c :: r) (hc : c ∈ lets) (hr : r.length < 6) (ha : ∀ x ∈ r, okc x = true) : good w = true := by
  unfold good
  rw [e]
  show (decide (r.length < 6) && decide (c ∈ lets) && (c :: r).all okc) = true
  rw [decide_eq_true hr, decide_eq_true hc, List.all_cons, lets_ok c hc, List.all_eq_true.mpr ha]
  rfl
theorem good_asc {w : Str} (h : good w = true) : Asc w := fun c hc => by
  unfold good at h
  cases e : w.cps.toList with
  | nil => rw [e] at hc; cases hc
  | cons a r =>
    rw [e] at h hc
    have h2 : (decide (r.length < 6) && decide (a ∈ lets) && (a :: r).all okc) = true := h
    have h3 := (Bool.and_eq_true_iff.mp h2).2
    exact okc_lt (List.all_eq_true.mp h3 c hc)
theorem good_len {w : Str} (h : good w = true) : w.length ≤ 6 := by
  unfold good at h
  rw [← len_list]
  cases e : w.cps.toList with
  | nil => exact Nat.zero_le _
  | cons a r =>
    rw [e] at h
    have h2 : (decide (r.length < 6) && decide (a ∈ lets) && (a :: r).all okc) = true := h
    have h3 := of_decide_eq_true (Bool.and_eq_true_iff.mp (Bool.and_eq_true_iff.mp h2).1).1
    rw [List.length_cons]
    omega
theorem nodup_map {f : Nat → Str} {n : Nat} (h : ∀ i j, i < j → j < n → f i ≠ f j) : ((List.range n).map f).Nodup := by
  unfold List.Nodup
  rw [List.pairwise_map]
  refine List.Pairwise.imp_of_mem (fun {a b} ha hb hab => ?_) List.pairwise_lt_range
  exact h a b hab (List.mem_range.mp hb)
/-- letter and number -/
def numW (l : Nat) (n : Nat) : Str := (⟨#[l]⟩ : Str) ++ Str.ofString (toString (n : Int))
theorem num_digs : ∀ n, n < 64 → (Str.ofString (toString ((n : Nat) : Int))).cps.toList.all okc = true ∧ (Str.ofString (toString ((n : Nat) : Int))).cps.toList.length < 6 := by
  have : (List.range 64).all (fun n => (Str.ofString (toString ((n : Nat) : Int))).cps.toList.all okc && decide ((Str.ofString (toString ((n : Nat) : Int))).cps.toList.length < 6)) = true := by decide +kernel
  intro n hn
  have q := List.all_eq_true.mp this n (List.mem_range.mpr hn)
  obtain ⟨h1, h2⟩ := Bool.and_eq_true_iff.mp q
  exact ⟨h1, of_decide_eq_true h2⟩
theorem num_inj : ∀ n m, n < 64 → m < 64 → (Str.ofString (toString ((n : Nat) : Int))).cps.toList = (Str.ofString (toString ((m : Nat) : Int))).cps.toList → n = m := by
  have : (List.range 64).all (fun n => (List.range 64).all (fun m => decide (n = m) || !((Str.ofString (toString ((n : Nat) : Int))).cps.toList == (Str.ofString (toString ((m : Nat) : Int))).cps.toList))) = true := by decide +kernel
  intro n m hn hm e
  have q := List.all_eq_true.mp (List.all_eq_true.mp this n (List.mem_range.mpr hn)) m (List.mem_range.mpr hm)
  rw [e] at q
  simpa using q
theorem numW_list (l n : Nat) : (numW l n).cps.toList = l :: (Str.ofString (toString ((n : Nat) : Int))).cps.toList := by
  unfold numW
  rw [cat_list]
  rfl
theorem numW_good {l n : Nat} (hl : l ∈ lets) (hn : n < 64) : good (numW l n) = true := by
  obtain ⟨h1, h2⟩ := num_digs n hn
  exact good_of (numW_list l n) hl h2 fun x hx => List.all_eq_true.mp h1 x hx
theorem numW_inj {l n m : Nat} (hn : n < 64) (hm : m < 64) (e : numW l n = numW l m) : n = m := by
  have q : (numW l n).cps.toList = (numW l m).cps.toList := by rw [e]
  rw [numW_list, numW_list] at q
  exact num_inj n m hn hm (List.cons.inj q).2
theorem strides {d : Int} (h0 : 0 ≤ d) (h1 : d < 6) : ∃ s : Nat, (s = 1 ∨ s = 3 ∨ s = 5 ∨ s = 7 ∨ s = 9 ∨ s = 11) ∧ atI [V.int 1, V.int 3, V.int 5, V.int 7, V.int 9, V.int 11] d = some (.int (s : Int)) := by
  have : d = 0 ∨ d = 1 ∨ d = 2 ∨ d = 3 ∨ d = 4 ∨ d = 5 := by omega
  rcases this with rfl | rfl | rfl | rfl | rfl | rfl
  · exact ⟨1, .inl rfl, atI_nat (j := 0) rfl⟩
  · exact ⟨3, .inr (.inl rfl), atI_nat (j := 1) rfl⟩
  · exact ⟨5, .inr (.inr (.inl rfl)), atI_nat (j := 2) rfl⟩
  · exact ⟨7, .inr (.inr (.inr (.inl rfl))), atI_nat (j := 3) rfl⟩
  · exact ⟨9, .inr (.inr (.inr (.inr (.inl rfl)))), atI_nat (j := 4) rfl⟩
  · exact ⟨11, .inr (.inr (.inr (.inr (.inr rfl)))), atI_nat (j := 5) rfl⟩
/-- _law_names: c good names, all different -/
def spNames : Sp := fun vs H Q _ => ∃ (s : Addr) (N : Nat) (G : Hp) (c : Nat), vs = [.ref s, .int (c : Int)] ∧ View s N G H ∧ N ≤ 900000 ∧ c ≤ 7 ∧
  ∀ (ws : List Str) (p : Addr) (H' : Hp), ws.length = c → ws.Nodup → (∀ w ∈ ws, good w = true) → G p = none → View s (N + 20) (upd G p (.lst (ws.map V.str))) H' → Q (.ref p) H'
/-- the written names -/
def fixedW : List Str := ["rows", "leaf", "x", "x1", "x10", "none"]
theorem fixed_ok (c : Nat) : (fixedW.take c).Nodup ∧ ∀ w ∈ fixedW.take c, good w = true := by
  have h1 : fixedW.Nodup := by decide +kernel
  have h2 : fixedW.all good = true := by decide +kernel
  exact ⟨h1.sublist (List.take_sublist _ _), fun w hw => List.all_eq_true.mp h2 w (List.mem_of_mem_take hw)⟩
/-- one word's beginnings -/
def preW (z : Str) (k : Nat) : Str := ⟨(z.cps.toList.take (k + 1)).toArray⟩
theorem preW_list (z : Str) (k : Nat) : (preW z k).cps.toList = z.cps.toList.take (k + 1) := by simp [preW]
/-- the k-th word of the common plan -/
def comW (l : Nat) (st : List Nat) (pl o sr k : Nat) : Str :=
  let g := let_ ((o + sr * k) % 26)
  let b := if 1 < pl ∧ k % 2 = 1 then [] else st
  if pl % 2 = 0 then ⟨(l :: (b ++ [g])).toArray⟩ else ⟨(g :: b).toArray⟩
theorem mod_inj {o sr i j : Nat} (hs : sr = 1 ∨ sr = 3 ∨ sr = 5 ∨ sr = 7 ∨ sr = 9 ∨ sr = 11) (hi : i < 7) (hj : j < 7) (e : (o + sr * i) % 26 = (o + sr * j) % 26) : i = j := by
  rcases hs with rfl | rfl | rfl | rfl | rfl | rfl <;> omega
theorem comW_good {l : Nat} {st : List Nat} {pl o sr k : Nat} (hl : l ∈ lets) (h4 : st.length ≤ 4) (ho : ∀ x ∈ st, okc x = true) : good (comW l st pl o sr k) = true := by
  have hg := let_mem (Nat.mod_lt (o + sr * k) (by decide : 26 > 0))
  unfold comW
  have hb : ∀ x ∈ (if 1 < pl ∧ k % 2 = 1 then [] else st), okc x = true := fun x hx => by
    split at hx
    · cases hx
    · exact ho x hx
  have hbl : (if 1 < pl ∧ k % 2 = 1 then [] else st).length ≤ 4 := by
    split
    · exact Nat.zero_le _
    · exact h4
  dsimp only
  split
  · refine good_of (c := l) rfl hl (by rw [List.length_append, List.length_singleton]; omega) fun x hx => ?_
    rcases List.mem_append.mp hx with hx | hx
    · exact hb x hx
    · rw [show x = _ by simpa using hx]
      exact lets_ok _ hg
  · exact good_of rfl hg (by omega) hb
theorem comW_inj {l : Nat} {st : List Nat} {pl o sr i j : Nat} (hs : sr = 1 ∨ sr = 3 ∨ sr = 5 ∨ sr = 7 ∨ sr = 9 ∨ sr = 11) (hi : i < 7) (hj : j < 7) (e : comW l st pl o sr i = comW l st pl o sr j) : i = j := by
  have el : (comW l st pl o sr i).cps.toList = (comW l st pl o sr j).cps.toList := by rw [e]
  have key : let_ ((o + sr * i) % 26) = let_ ((o + sr * j) % 26) := by
    unfold comW at el
    dsimp only at el
    split at el
    · have h := congrArg List.getLast? el
      rw [← List.cons_append, ← List.cons_append, List.getLast?_concat, List.getLast?_concat] at h
      exact Option.some.inj h
    · have h := congrArg List.head? el
      simpa using h
  exact mod_inj hs hi hj (let_inj (Nat.mod_lt _ (by decide)) (Nat.mod_lt _ (by decide)) key)
end L2

namespace L2
open PySem PySem.Spec PyProof.Rows
/-- an if, its test told at once -/
theorem cond_if {tc : TT} {t u : TS} {D : Ends} {σ : St} {H : Hp} {C : Prop} [Decidable C] (hc : ∀ K : Bool → Hp → Prop, K (decide C) H → tc σ H K) (ht : C → t D σ H) (hu : ¬ C → u D σ H) : tIfS tc t u D σ H := by
  refine hc _ ?_
  by_cases h : C
  · rw [decide_eq_true h, if_pos rfl]; exact ht h
  · rw [decide_eq_false h, if_neg Bool.false_ne_true]; exact hu h
theorem kdec {K : Bool → Hp → Prop} {H : Hp} {b : Bool} {C : Prop} [Decidable C] (k : K (decide C) H) (h : b = true ↔ C) : K b H := by
  have : b = decide C := by
    by_cases c : C
    · rw [decide_eq_true c]; exact h.mpr c
    · rw [decide_eq_false c]
      cases e : b with
      | false => rfl
      | true => exact absurd (h.mp e) c
  rw [this]
  exact k
theorem dec_vint {i j : Int} : decide (V.int i = V.int j) = true ↔ i = j := by
  rw [decide_eq_true_iff]
  exact ⟨fun h => V.int.inj h, fun h => by rw [h]⟩
theorem cutV_to (xs : List V) (c : Nat) : cutV xs none (some (c : Int)) = xs.take c := by
  unfold cutV
  rw [HT.sIx_none, HT.sIx_nat, List.drop_zero, Nat.sub_zero]
  by_cases h : c ≤ xs.length
  · rw [Nat.min_eq_left h]
  · rw [Nat.min_eq_right (by omega), List.take_of_length_le (Nat.le_refl _), List.take_of_length_le (by omega)]
theorem cutS_to (z : Str) (c : Nat) : (cutS z none (some (c : Int))).cps.toList = z.cps.toList.take c := by
  unfold cutS
  rw [HT.sIx_none, HT.sIx_nat, Nat.sub_zero]
  simp only [List.drop_zero]
  by_cases h : c ≤ z.length
  · rw [Nat.min_eq_left h]
  · rw [Nat.min_eq_right (by omega), List.take_of_length_le (by rw [len_list]; exact Nat.le_refl _), List.take_of_length_le (by rw [len_list]; omega)]
theorem range_more (n : Nat) (f : Nat → Str) : ((List.range (n + 1)).map f).map V.str = ((List.range n).map f).map V.str ++ [V.str (f n)] := by
  rw [List.range_succ]
  simp
theorem lc_signsD {te : TE} {vs : List Nat} {σ : St} {j n N : Nat} {Qd : Hp → Prop} {G H : Hp} {s : Addr} {S : List Nat} {D : Addr} (v : View s N G H) (hn : n ≤ 1000) (hw : ∀ x, wipe ((wipe σ vs).set j (some x)) vs = wipe σ vs)
    (hte : ∀ (x : V) (i : Nat) (G' H' : Hp) (Q' : VK), i < n → View s (N + i) G' H' → (∀ (c : Nat) (H2 : Hp), c ∈ S → View s (N + i + 1) G' H2 → Q' (sgn c) H2) → te ((wipe σ vs).set j (some x)) H' Q')
    (hq : ∀ (cs : List Nat) (H' : Hp), G D = none → cs.length = n → (∀ c ∈ cs, c ∈ S) → View s (N + n) (upd G D (.lst (cs.map sgn))) H' → Qd H') (hD : H D = none) :
    ∃ W : Nat → Nat → Hp → Prop, (∃ m, W 0 m (upd H D (.lst []))) ∧ ∀ i m H, W i m H →
      ((Itr 0 n).stop i H ∧ Qd H) ∨ ((Itr 0 n).go i H ∧ ∃ Nx : Hp → Prop, (∀ H', Nx H' → ∃ m', m' < m ∧ W (i + 1) m' H') ∧ ∀ x H', (Itr 0 n).yld i H x H' → gName j x (wipe σ vs) H' fun σ2 H2 => wipe σ2 vs = wipe σ vs ∧ tYes σ2 H2 fun b H3 =>
        if b = true then te σ2 H3 fun y H4 => ∃ acc, H4 D = some (.lst acc) ∧ acc.length < sizeLine ∧ Nx (upd H4 D (.lst (acc ++ [y]))) else Nx H3) :=
  lc_signs (Q := fun v H' => v = .ref D → Qd H') v hn hw hte (fun D' cs H' a b c d e => by cases e; exact hq cs H' a b c d) D hD |> fun ⟨W, a, b⟩ => ⟨W, a, fun i m H h => (b i m H h).elim (fun x => .inl ⟨x.1, x.2 rfl⟩) .inr⟩
/-- a list of words over range(n), no draw -/
theorem lc_words {te : TE} {vs : List Nat} {σ : St} {j n N : Nat} {Qd : Hp → Prop} {G H : Hp} {s : Addr} {D : Addr} (f : Nat → Str) (v : View s N G H) (hn : n ≤ 1000) (hw : ∀ x, wipe ((wipe σ vs).set j (some x)) vs = wipe σ vs)
    (hte : ∀ (i : Nat) (H' : Hp) (Q' : VK), i < n → Q' (.str (f i)) H' → te ((wipe σ vs).set j (some (.int (0 + (i : Int))))) H' Q')
    (hq : ∀ (H' : Hp), G D = none → View s N (upd G D (.lst (((List.range n).map f).map V.str))) H' → Qd H') (hD : H D = none) :
    ∃ W : Nat → Nat → Hp → Prop, (∃ m, W 0 m (upd H D (.lst []))) ∧ ∀ i m H, W i m H →
      ((Itr 0 n).stop i H ∧ Qd H) ∨ ((Itr 0 n).go i H ∧ ∃ Nx : Hp → Prop, (∀ H', Nx H' → ∃ m', m' < m ∧ W (i + 1) m' H') ∧ ∀ x H', (Itr 0 n).yld i H x H' → gName j x (wipe σ vs) H' fun σ2 H2 => wipe σ2 vs = wipe σ vs ∧ tYes σ2 H2 fun b H3 =>
        if b = true then te σ2 H3 fun y H4 => ∃ acc, H4 D = some (.lst acc) ∧ acc.length < sizeLine ∧ Nx (upd H4 D (.lst (acc ++ [y]))) else Nx H3) := by
  refine lc_range (lo := 0) (n := n) (fun i H' => View s N (upd G D (.lst (((List.range i).map f).map V.str))) H') (v.new hD) ?_ ?_
  · rintro i H' hi u
    refine ⟨hw _, ?_⟩
    unfold tYes
    simp only [if_true]
    refine hte i _ _ hi ⟨_, u.sub _ _ upd_same, small1000 (by rw [List.length_map, List.length_map, List.length_range]; omega), ?_⟩
    have := u.put (o := .lst (((List.range i).map f).map V.str ++ [V.str (f i)])) upd_same
    rw [upd_upd] at this
    rw [range_more]
    exact this
  · intro H' u
    exact hq H' (v.sub.free hD) u
theorem preW_good {z : Str} {l : Nat} {cs : List Nat} {k : Nat} (e : z.cps.toList = l :: cs) (hl : l ∈ lets) (hc : cs.length ≤ 5) (ho : ∀ x ∈ cs, okc x = true) : good (preW z k) = true := by
  refine good_of (c := l) (r := cs.take k) (by rw [preW_list, e]; rfl) hl ?_ fun x hx => ho x (List.mem_of_mem_take hx)
  rw [List.length_take]; omega
theorem preW_inj {z : Str} {i j : Nat} (hi : i < z.length) (hj : j < z.length) (e : preW z i = preW z j) : i = j := by
  have h : (preW z i).cps.toList.length = (preW z j).cps.toList.length := by rw [e]
  rw [preW_list, preW_list, List.length_take, List.length_take, len_list] at h
  omega
theorem c36_mod (i : Nat) : atI C36.cps.toList (((i % 26 : Nat)) : Int) = some (let_ (i % 26)) := c36_at (Nat.mod_lt _ (by decide))
theorem one_cat (x : Nat) (y : Str) : ((⟨#[x]⟩ : Str) ++ y).cps.toList = x :: y.cps.toList := by rw [cat_list]; rfl
theorem com_even {l : Nat} {st : Str} {pl o sr k : Nat} (b : Str) (hb : b = if 1 < pl ∧ k % 2 = 1 then Str.ofString "" else st) (h : pl % 2 = 0) : ((⟨#[l]⟩ : Str) ++ b) ++ (⟨#[let_ ((o + sr * k) % 26)]⟩ : Str) = comW l st.cps.toList pl o sr k := by
  refine str_ext ?_
  rw [cat_list, one_cat]
  unfold comW
  rw [if_pos h, hb]
  split
  · rfl
  · rfl
theorem com_odd {l : Nat} {st : Str} {pl o sr k : Nat} (b : Str) (hb : b = if 1 < pl ∧ k % 2 = 1 then Str.ofString "" else st) (h : pl % 2 = 1) : ((⟨#[let_ ((o + sr * k) % 26)]⟩ : Str) ++ b) = comW l st.cps.toList pl o sr k := by
  refine str_ext ?_
  rw [one_cat]
  unfold comW
  rw [if_neg (by omega), hb]
  split
  · rfl
  · rfl
theorem fmod_nn (a b : Nat) : (a : Int).fmod (b : Int) = ((a % b : Nat) : Int) := by
  rw [Int.fmod_eq_emod_of_nonneg _ (by omega)]
  rfl
theorem and_dec {b c : Bool} {P Q : Prop} (h1 : b = true ↔ P) (h2 : c = true ↔ Q) : (b && c) = true ↔ (P ∧ Q) := by
  rw [Bool.and_eq_true, h1, h2]
theorem tyL_ok {K : PySem.W.Frag} {H : Hp} {p : Addr} {xs : List V} (h : SqL K H p xs) : tyV K "list" (.ref p) H := .inl ⟨rfl, _, h⟩
theorem upd_swap {G : Hp} {p r : Addr} {a b c : HO} (h : p ≠ r) : upd (upd (upd G p a) r b) p c = upd (upd G p c) r b := by
  funext x
  unfold upd
  by_cases h1 : x = p
  · subst h1; rw [if_pos rfl, if_neg h, if_pos rfl]
  · rw [if_neg h1, if_neg h1, if_neg h1]
theorem upd_comm2 {G : Hp} {p r : Addr} {a b : HO} (h : p ≠ r) : upd (upd G p a) r b = upd (upd G r b) p a := by
  funext x
  unfold upd
  by_cases h1 : x = p
  · subst h1; rw [if_neg h, if_pos rfl, if_pos rfl]
  · rw [if_neg h1, if_neg h1]
/-- an order: the same items, moved about -/
def spOrder (K : PySem.W.Frag) : Sp := fun vs H Q _ => ∃ (s : Addr) (N : Nat) (G : Hp) (a : Addr) (xs : List V), vs = [.ref s, .ref a] ∧ View s N G H ∧ SqL K G a xs ∧ N ≤ 900000 ∧ xs.length ≤ 60 ∧
  ∀ (ys : List V) (p : Addr) (H' : Hp), ys.Perm xs → G p = none → View s (N + 60) (upd G p (.lst ys)) H' → Q (.ref p) H'
theorem SqL.up {K : PySem.W.Frag} {G H : Hp} {a : Addr} {xs : List V} (h : SqL K G a xs) (e : Same G H) : SqL K H a xs := e.seq h
theorem atI_ex {α : Type} {xs : List α} {i : Int} (h0 : 0 ≤ i) (h1 : i < (xs.length : Int)) : ∃ (k : Nat) (y : α), i = (k : Int) ∧ k < xs.length ∧ seqIndex? i xs.length = some k ∧ xs[k]? = some y := by
  obtain ⟨k, rfl⟩ := Int.eq_ofNat_of_zero_le h0
  have hk : k < xs.length := by omega
  exact ⟨k, xs[k], rfl, hk, (ixN_seq (ixN_nat hk)).1, List.getElem?_eq_getElem hk⟩
theorem erase_perm' {α : Type} (l : List α) (i : Nat) (y : α) (h : l[i]? = some y) : (y :: l.eraseIdx i).Perm l := by
  induction l generalizing i with
  | nil => cases h
  | cons x r ih =>
    cases i with
    | zero =>
      cases Option.some.inj h
      exact .refl _
    | succ i => exact (List.Perm.swap x y _).trans ((ih i h).cons x)
end L2

namespace L2
open PySem PySem.Spec PyProof.Rows
/-- amounts by name, in an order -/
abbrev Am := List (Str × Int)
def amN (am : Am) : List V := am.map fun p => V.str p.1
def amK (am : Am) : List (Key × V) := am.map fun p => (Sum.inr p.1, V.int p.2)
def amS (am : Am) : List Str := am.map (·.1)
theorem amN_S (am : Am) : amN am = (amS am).map V.str := by unfold amN amS; rw [List.map_map]; rfl
theorem valV_am : ∀ {am : Am}, (amS am).Nodup → ∀ {w : Str} {z : Int}, (w, z) ∈ am → valV (amK am) (Sum.inr w : Key) = some (.int z)
  | [], _, _, _, h => nomatch h
  | (u, y) :: r, hn, w, z, h => by
    have hn' : u ∉ amS r ∧ (amS r).Nodup := List.nodup_cons.mp hn
    rcases List.mem_cons.mp h with e | h
    · cases e
      exact valV_pos rfl
    · refine (valV_neg (fun e => ?_)).trans (valV_am hn'.2 h)
      have e : u = w := Sum.inr.inj e
      subst e
      exact hn'.1 (List.mem_map.mpr ⟨_, h, rfl⟩)
theorem valV_am0 {am : Am} {w : Str} (h : w ∉ amS am) : valV (amK am) (Sum.inr w : Key) = none := by
  induction am with
  | nil => rfl
  | cons p r ih =>
    have h1 : ¬ w = p.1 := fun e => h (by rw [e]; exact List.mem_cons_self)
    have h2 : w ∉ amS r := fun e => h (List.mem_cons_of_mem _ e)
    exact (valV_neg (fun e => h1 (Sum.inr.inj e).symm)).trans (ih h2)
/-- what the law's text holds for the class of wishes -/
structure Wsh (K : PySem.W.Frag) (mg : Str → Option Value) where
  C : Addr
  g : mg "Wishes" = some (.ref C)
  cl : Cls K C
  n1 : NoAttr K C "_outcomes"
  n2 : NoAttr K C "_amounts"
  me : PySem.W.kitOne K (.ref C) (.ref C) = some true
  kc : PySem.W.findIn K (.ref C) "__class__" = some (some (.builtin "object.__class__"))
  kg : PySem.W.specialIn K (.builtin "object.__class__") "__get__" = some (some (.builtin "getset_descriptor.__get__"))
  kt : PySem.W.takesIn K (.builtin "object.__class__") = some true
  ko : PySem.W.mroIn K C (.type "object") = some true
theorem hu100 {A : Around} {k : Nat} (hr : Room k A) : A.units + 100 < cLine := by have := hr.un; omega
/-- no other attribute -/
def OnlyTwo (fs : List (Str × V)) : Prop := ∀ f : Str, f ≠ "_outcomes" → f ≠ "_amounts" → fs.lookup f = none
/-- wishes made, at x -/
def WAt (C : Addr) (H : Hp) (x : Addr) (am : Am) : Prop := ∃ (dx : Addr) (fs : List (Str × V)) (t d : Addr), H x = some (.ins C dx fs) ∧ fs.lookup ("_outcomes" : Str) = some (.ref t) ∧ fs.lookup ("_amounts" : Str) = some (.ref d) ∧
  H t = some (.tup (amN am)) ∧ H d = some (.dK (amK am)) ∧ OnlyTwo fs
theorem WAt.up {C : Addr} {G H : Hp} {x : Addr} {am : Am} (h : WAt C G x am) (e : Same G H) : WAt C H x am := by
  obtain ⟨dx, fs, t, d, a1, a2, a3, a4, a5, a6⟩ := h
  exact ⟨dx, fs, t, d, e _ _ a1, a2, a3, e _ _ a4, e _ _ a5, a6⟩
/-- a well made list of amounts -/
structure AmOk (am : Am) : Prop where
  nd : (amS am).Nodup
  gd : ∀ w ∈ amS am, good w = true
  n1 : am.length ≤ 8
theorem DGet.amI {H : Hp} {d : Addr} {am : Am} {w : Str} {z : Int} (hd : H d = some (.dK (amK am))) (hn : (amS am).Nodup) (h : (w, z) ∈ am) : DGet H d (.str w) (some (.int z)) :=
  .inl ⟨amK am, .inr w, .inl hd, rfl, (valV_am hn h).symm⟩
/-- a method that looks and makes one new object -/
def spNew (C : Addr) (ok : Am → List V → Prop) (o : Am → List V → HO) : Sp := fun vs H Q _ => ∃ (x : Addr) (am : Am) (r : List V), vs = .ref x :: r ∧ AmOk am ∧ WAt C H x am ∧ ok am r ∧ ∀ (p : Addr) (H' : Hp), Same H H' → H p = none → H' p = some (o am r) → Q (.ref p) H'
theorem pe_fldK {X : Cx} {K : PySem.W.Frag} {e : Expr} {f : Str} {pos : Pos} {ta : TE} (hk : X.K = K) (he : PE X e ta) (hb : attributeBase e f X.env (eval e X.env) = eval e X.env) : PE X (.Attribute e f pos) (tFld K ta f) := by
  subst hk
  exact pe_fld he hb
theorem lc_am {α : Type} {J : It} {G : Hp → Prop} {as : List α} {g : α → V} (w : Walk J (as.map g).length G (YAt (as.map g))) {tt : TT} {te : TE} {vs : List Nat} {σ : St} {H1 : Hp} {D : Addr} {Qd : Hp → Prop} {j : Nat} (p : α → Bool) (f : α → V)
    (hD : H1 D = none) (hG : ∀ H', Same H1 H' → G H') (hl : as.length ≤ 1000) (hw : ∀ x, wipe ((wipe σ vs).set j (some x)) vs = wipe σ vs)
    (ht : ∀ a ∈ as, ∀ H', Same H1 H' → TIs tt ((wipe σ vs).set j (some (g a))) H' (p a)) (he : ∀ a ∈ as, p a = true → ∀ H', Same H1 H' → Is te ((wipe σ vs).set j (some (g a))) H' (f a))
    (hd : Qd (upd H1 D (.lst ((as.filter p).map f)))) :
    ∃ W : Nat → Nat → Hp → Prop, (∃ m, W 0 m (upd H1 D (.lst []))) ∧ ∀ i m H, W i m H →
      (J.stop i H ∧ Qd H) ∨ (J.go i H ∧ ∃ Nx : Hp → Prop, (∀ H', Nx H' → ∃ m', m' < m ∧ W (i + 1) m' H') ∧ ∀ x H', J.yld i H x H' → gName j x (wipe σ vs) H' fun σ2 H2 => wipe σ2 vs = wipe σ vs ∧ tt σ2 H2 fun b H3 =>
        if b = true then te σ2 H3 fun y H4 => ∃ acc, H4 D = some (.lst acc) ∧ acc.length < sizeLine ∧ Nx (upd H4 D (.lst (acc ++ [y]))) else Nx H3) := by
  have sm : ∀ l : List V, Same H1 (upd H1 D (.lst l)) := fun l => same_of_none hD
  have ln : (as.map g).length = as.length := List.length_map _
  refine lc_it w (fun i H => H = upd H1 D (.lst (((as.take i).filter p).map f))) rfl (fun i H _ e => by rw [e]; exact hG _ (sm _)) (fun i x H H' hi e y => ?_) (fun H e => by rw [e, ln, List.take_length]; exact hd)
  obtain ⟨rfl, hx⟩ := y
  subst e
  rw [List.getElem?_map] at hx
  obtain ⟨a, ha, rfl⟩ := Option.map_eq_some_iff.mp hx
  have hm : a ∈ as := List.mem_of_getElem? ha
  have ht' := take_more ha
  refine ⟨hw _, ht a hm _ (sm _) _ ?_⟩
  cases hp : p a with
  | true =>
    refine if_pos rfl |>.mpr ?_
    refine he a hm hp _ (sm _) _ ⟨_, upd_same, small1000 (Nat.le_trans (fm_len _ _ _) (by rw [List.length_take]; omega)), ?_⟩
    rw [upd_upd, ht', List.filter_append, List.map_append, List.filter_cons, if_pos hp]
    rfl
  | false =>
    refine if_neg Bool.false_ne_true |>.mpr ?_
    rw [ht', List.filter_append, List.filter_cons, if_neg (by rw [hp]; exact Bool.false_ne_true)]
    show upd H1 D _ = upd H1 D (.lst ((((as.take i).filter p) ++ []).map f))
    rw [List.append_nil]
/-- all that is new is seen -/
theorem View.grow {s : Addr} {N : Nat} {G H H' : Hp} (v : View s N G H) (e : Same H H') : ∃ G' : Hp, View s N G' H' ∧ Same G G' ∧ (∀ b o, H b = none → H' b = some o → G' b = some o) ∧ ∀ b, H' b = none → G' b = none := by
  obtain ⟨b, c, i, bs, cs, k, l⟩ := v
  refine ⟨fun q => match H q with | none => H' q | some _ => G q, ⟨b, c, i, bs, cs, { k.ext e with sub := fun q u hq => ?_, gs := ?_, gb := ?_, gc := ?_ }, l⟩, fun q u hq => ?_, fun q u h1 h2 => ?_, fun q h => ?_⟩
  · cases h : H q with
    | none => simp only [h] at hq; exact hq
    | some _ => simp only [h] at hq; exact e _ _ (k.sub _ _ hq)
  · simp only [k.hs]; exact k.gs
  · simp only [k.hb]; exact k.gb
  · simp only [k.hc]; exact k.gc
  · simp only [k.sub _ _ hq]; exact hq
  · simp only [h1]; exact h2
  · have : H q = none := e.free h
    simp only [this]; exact h
/-- wishes made, all their parts new -/
def WNew (C : Addr) (H H' : Hp) (x : Addr) (am : Am) : Prop := ∃ (dx : Addr) (fs : List (Str × V)) (t d : Addr), (H x = none ∧ H t = none ∧ H d = none) ∧ H' x = some (.ins C dx fs) ∧ fs.lookup ("_outcomes" : Str) = some (.ref t) ∧ fs.lookup ("_amounts" : Str) = some (.ref d) ∧
  H' t = some (.tup (amN am)) ∧ H' d = some (.dK (amK am)) ∧ OnlyTwo fs
theorem WNew.at {C : Addr} {G' H H' : Hp} {x : Addr} {am : Am} (h : WNew C H H' x am) (g : ∀ b o, H b = none → H' b = some o → G' b = some o) : WAt C G' x am := by
  obtain ⟨dx, fs, t, d, ⟨n1, n2, n3⟩, a1, a2, a3, a4, a5, a6⟩ := h
  exact ⟨dx, fs, t, d, g _ _ n1 a1, a2, a3, g _ _ n2 a4, g _ _ n3 a5, a6⟩
/-- sorted by name -/
def srt (am : Am) : Prop := sortedS (amS am) = true
/-- Wishes.__init__, of amounts that are right -/
def spInit (C : Addr) : Sp := fun vs H Q _ => ∃ (x g dx : Addr) (am0 : Am), vs = [.ref x, .ref g] ∧ H x = some (.ins C dx []) ∧ H g = some (.dK (amK am0)) ∧ AmOk am0 ∧ 1 ≤ am0.length ∧ am0.length ≤ 6 ∧
  ∀ (am : Am) (H' : Hp) (dx' : Addr) (fs : List (Str × V)) (t d : Addr), am.Perm am0 → srt am → AmOk am → (∀ b o, H b = some o → b ≠ x → H' b = some o) → H t = none → H d = none → H' x = some (.ins C dx' fs) → fs.lookup ("_outcomes" : Str) = some (.ref t) → fs.lookup ("_amounts" : Str) = some (.ref d) →
    H' t = some (.tup (amN am)) → H' d = some (.dK (amK am)) → OnlyTwo fs → Q .non H'
/-- Wishes.__eq__ -/
def spEq (K : PySem.W.Frag) (C : Addr) : Sp := fun vs H Q _ => ∃ (x : Addr) (a : Am) (o : V) (r : Bool), vs = [.ref x, o] ∧ WAt C H x a ∧ AmOk a ∧
  ((∃ (y : Addr) (b : Am), o = .ref y ∧ WAt C H y b ∧ AmOk b ∧ r = decide (a.Perm b)) ∨ ((∃ t, TyX K H o t ∧ PySem.W.kitOne K t (.ref C) = some false) ∧ r = false)) ∧ Q (.bl r) H
def spOpp (C : Addr) : Sp := fun vs H Q _ => ∃ (x : Addr) (am : Am), vs = [.ref x] ∧ AmOk am ∧ 1 ≤ am.length ∧ am.length ≤ 6 ∧ WAt C H x am ∧
  ∀ (y : Addr) (am2 : Am) (H' : Hp), am2.Perm (am.map fun p => (p.1, -p.2)) → srt am2 → AmOk am2 → Same H H' → WNew C H H' y am2 → Q (.ref y) H'
def spCheck : Sp := fun vs H Q _ => ∃ c : Int, vs = [.int c] ∧ 1 ≤ c ∧ c ≤ 6 ∧ Q .non H
def spIsInt : Sp := fun vs H Q _ => ∃ c : Int, vs = [.int c] ∧ Q (.bl true) H
/-- what a permutation of the names brings -/
theorem am_perm {am0 : Am} {ys : List Str} (hn : (amS am0).Nodup) (h : ys.Perm (amS am0)) : ∃ am : Am, am.Perm am0 ∧ amS am = ys := by
  induction ys generalizing am0 with
  | nil =>
    have : amS am0 = [] := List.nil_perm.mp h
    have : am0 = [] := List.map_eq_nil_iff.mp this
    exact ⟨[], by rw [this], rfl⟩
  | cons y r ih =>
    have hy : y ∈ amS am0 := h.mem_iff.mp List.mem_cons_self
    obtain ⟨p, hp, rfl⟩ := List.mem_map.mp hy
    obtain ⟨l1, l2, rfl⟩ := List.append_of_mem hp
    have e : amS (l1 ++ p :: l2) = amS l1 ++ p.1 :: amS l2 := by unfold amS; rw [List.map_append]; rfl
    rw [e] at h hn
    have h2 : r.Perm (amS (l1 ++ l2)) := by
      have : amS (l1 ++ l2) = amS l1 ++ amS l2 := by unfold amS; rw [List.map_append]
      rw [this]
      exact (h.trans List.perm_middle).cons_inv
    have hn2 : (amS (l1 ++ l2)).Nodup := by
      have : amS (l1 ++ l2) = amS l1 ++ amS l2 := by unfold amS; rw [List.map_append]
      rw [this]
      exact ((List.perm_middle.nodup_iff).mp hn |> List.nodup_cons.mp).2
    obtain ⟨am, ha, hs⟩ := ih hn2 h2
    exact ⟨p :: am, (ha.cons p).trans List.perm_middle.symm, by show p.1 :: amS am = _; rw [hs]⟩
theorem AmOk.perm {a b : Am} (h : a.Perm b) (k : AmOk b) : AmOk a :=
  ⟨((h.map Prod.fst).nodup_iff).mpr k.nd, fun w hw => k.gd w ((h.map Prod.fst).mem_iff.mp hw), by rw [h.length_eq]; exact k.n1⟩
/-- a dict comprehension whose parts touch nothing, all keys different -/
theorem dc_am {α : Type} {J : It} {G : Hp → Prop} {as : List α} {g : α → V} (w : Walk J (as.map g).length G (YAt (as.map g))) {tk tv : TE} {vs : List Nat} {σ : St} {H1 : Hp} {D : Addr} {Qd : Hp → Prop} {j : Nat} (kf : α → Key) (vf : α → V)
    (hD : H1 D = none) (hG : ∀ H', Same H1 H' → G H') (hl : as.length ≤ 1000) (hw : ∀ x, wipe ((wipe σ vs).set j (some x)) vs = wipe σ vs) (hn : (as.map kf).Nodup)
    (hk : ∀ a ∈ as, ∀ H', Same H1 H' → Is tk ((wipe σ vs).set j (some (g a))) H' (kV (kf a))) (hv : ∀ a ∈ as, ∀ H', Same H1 H' → Is tv ((wipe σ vs).set j (some (g a))) H' (vf a))
    (hd : Qd (upd H1 D (.dK (as.map fun a => (kf a, vf a))))) :
    ∃ W : Nat → Nat → Hp → Prop, (∃ m, W 0 m (upd H1 D (.dK []))) ∧ ∀ i m H, W i m H →
      (J.stop i H ∧ Qd H) ∨ (J.go i H ∧ ∃ Nx : Hp → Prop, (∀ H', Nx H' → ∃ m', m' < m ∧ W (i + 1) m' H') ∧ ∀ x H', J.yld i H x H' → gName j x (wipe σ vs) H' fun σ2 H2 => wipe σ2 vs = wipe σ vs ∧ tYes σ2 H2 fun b H3 =>
        if b = true then tk σ2 H3 fun y H4 => tv σ2 H4 fun z H5 => ∃ kvs k, y = kV k ∧ H5 D = some (.dK kvs) ∧ kvs.length < sizeLine ∧ Nx (upd H5 D (.dK (putK kvs k z))) else Nx H3) := by
  have sm : ∀ l, Same H1 (upd H1 D (.dK l)) := fun l => same_of_none hD
  have ln : (as.map g).length = as.length := List.length_map _
  refine ⟨fun i m H => m = (as.map g).length - i ∧ i ≤ (as.map g).length ∧ H = upd H1 D (.dK ((as.take i).map fun a => (kf a, vf a))), ⟨(as.map g).length, by simp, Nat.zero_le _, rfl⟩, ?_⟩
  rintro i m H ⟨rfl, hi, rfl⟩
  by_cases hlt : i < (as.map g).length
  · refine .inr ⟨w.goes i _ hlt (hG _ (sm _)), fun H => H = upd H1 D (.dK ((as.take (i + 1)).map fun a => (kf a, vf a))), fun H' p' => ⟨(as.map g).length - (i + 1), by omega, rfl, hlt, p'⟩, fun x H' y => ?_⟩
    obtain ⟨rfl, hx⟩ := w.yields i _ x H' hlt (hG _ (sm _)) y
    rw [List.getElem?_map] at hx
    obtain ⟨a, ha, rfl⟩ := Option.map_eq_some_iff.mp hx
    have hm : a ∈ as := List.mem_of_getElem? ha
    have ht' := take_more ha
    refine ⟨hw _, ?_⟩
    unfold tYes
    refine if_pos rfl |>.mpr (hk a hm _ (sm _) _ (hv a hm _ (sm _) _ ⟨_, kf a, rfl, upd_same, small1000 (by rw [List.length_map, List.length_take]; omega), ?_⟩))
    have hnew : valV ((as.take i).map fun a => (kf a, vf a)) (kf a) = none := by
      refine Option.eq_none_iff_forall_ne_some.mpr fun v hv => ?_
      have h1 := valV_in hv
      rw [List.map_map] at h1
      have h2 : kf a ∈ (as.take i).map kf := h1
      have h3 : ((as.take (i + 1)).map kf).Nodup := hn.sublist ((List.take_sublist _ _).map kf)
      rw [ht', List.map_append] at h3
      exact (List.nodup_append.mp h3).2.2 _ h2 _ (List.mem_singleton.mpr rfl) rfl
    rw [upd_upd, putK_new _ hnew, ht', List.map_append]
    rfl
  · have e : i = (as.map g).length := by omega
    subst e
    refine .inl ⟨w.stops _ (hG _ (sm _)), ?_⟩
    rw [ln, List.take_length]
    exact hd
theorem amK_nd {am : Am} (h : (amS am).Nodup) : (am.map fun p => (Sum.inr p.1 : Key)).Nodup := by
  have : (am.map fun p => (Sum.inr p.1 : Key)) = (amS am).map Sum.inr := by unfold amS; rw [List.map_map]; rfl
  rw [this]
  exact h.map _ fun _ _ hab e => hab (Sum.inr.inj e)
theorem amK_keys (am : Am) : (amK am).map (·.1) = (amS am).map Sum.inr := by unfold amK amS; rw [List.map_map, List.map_map]; rfl
end L2

namespace L2
open PySem PySem.Spec PyProof.Rows
theorem perm_of_sub {α : Type} : ∀ {a b : List α}, a.Nodup → (∀ x ∈ a, x ∈ b) → b.length ≤ a.length → a.Perm b
  | [], b, _, _, h => by rw [List.eq_nil_of_length_eq_zero (Nat.le_zero.mp h)]
  | x :: r, b, hn, hs, hl => by
    obtain ⟨l1, l2, rfl⟩ := List.append_of_mem (hs x List.mem_cons_self)
    obtain ⟨n1, n2⟩ := List.nodup_cons.mp hn
    have hr : ∀ y ∈ r, y ∈ l1 ++ l2 := fun y hy => by
      have h := hs y (List.mem_cons_of_mem _ hy)
      rcases List.mem_append.mp h with h | h
      · exact List.mem_append_left _ h
      · rcases List.mem_cons.mp h with h | h
        · subst h; exact absurd hy n1
        · exact List.mem_append_right _ h
    have := perm_of_sub n2 hr (by simp at hl ⊢; omega)
    exact (this.cons x).trans List.perm_middle.symm
theorem nodup_am {am : Am} (h : (amS am).Nodup) : am.Nodup := by
  induction am with
  | nil => exact List.nodup_nil
  | cons p r ih =>
    obtain ⟨h1, h2⟩ := List.nodup_cons.mp h
    exact List.nodup_cons.mpr ⟨fun hp => h1 (List.mem_map.mpr ⟨p, hp, rfl⟩), ih h2⟩
theorem valV_mem {am : Am} {w : Str} {v : V} (h : valV (amK am) (Sum.inr w : Key) = some v) : ∃ z, v = .int z ∧ (w, z) ∈ am := by
  induction am with
  | nil => cases h
  | cons p r ih =>
    by_cases e : p.1 = w
    · subst e
      have h2 : valV (amK (p :: r)) (Sum.inr p.1 : Key) = some (.int p.2) := valV_pos rfl
      rw [h] at h2
      exact ⟨p.2, Option.some.inj h2, List.mem_cons_self⟩
    · have h2 : valV (amK (p :: r)) (Sum.inr w : Key) = valV (amK r) (Sum.inr w : Key) := valV_neg (fun z => e (Sum.inr.inj z))
      rw [h2] at h
      obtain ⟨z, e1, e2⟩ := ih h
      exact ⟨z, e1, List.mem_cons_of_mem _ e2⟩
/-- equal under a key -/
def amE (a b : Am) (k : Key) : Bool := decide (valV (amK a) k = valV (amK b) k)
theorem amK_len (a : Am) : (amK a).length = a.length := by unfold amK; rw [List.length_map]
theorem amK_mem {a : Am} {k : Key} {v : V} (h : (k, v) ∈ amK a) : ∃ p ∈ a, k = .inr p.1 ∧ v = .int p.2 := by
  obtain ⟨p, hp, e⟩ := List.mem_map.mp h
  cases e
  exact ⟨p, hp, rfl, rfl⟩
theorem dict_eq {a b : Am} (ha : (amS a).Nodup) (hb : (amS b).Nodup) :
    ((amK a).length == (amK b).length && (amK a).all fun p => (valV (amK b) p.1).isSome && amE a b p.1) = decide (a.Perm b) := by
  by_cases h : a.Perm b
  · rw [decide_eq_true h, Bool.and_eq_true, beq_iff_eq, amK_len, amK_len, List.all_eq_true]
    refine ⟨h.length_eq, fun p hp => ?_⟩
    obtain ⟨q, hq, e1, e2⟩ := amK_mem (k := p.1) (v := p.2) hp
    have h1 := valV_am ha hq
    have h2 := valV_am hb (h.mem_iff.mp hq)
    unfold amE
    rw [e1, h1, h2]
    simp
  · rw [decide_eq_false h]
    cases e : ((amK a).length == (amK b).length && (amK a).all fun p => (valV (amK b) p.1).isSome && amE a b p.1) with
    | false => rfl
    | true =>
      rw [Bool.and_eq_true, beq_iff_eq, amK_len, amK_len, List.all_eq_true] at e
      refine absurd (perm_of_sub (nodup_am ha) (fun p hp => ?_) (by omega)) h
      have h1 := valV_am ha hp
      have h2 := e.2 (Sum.inr p.1, V.int p.2) (List.mem_map.mpr ⟨p, hp, rfl⟩)
      rw [Bool.and_eq_true] at h2
      have h3 := of_decide_eq_true h2.2
      simp only [h1] at h3
      obtain ⟨z, e1, e2⟩ := valV_mem h3.symm
      cases e1
      exact e2
theorem amE_eqv {K : PySem.W.Frag} {H : Hp} {n : Nat} {a b : Am} (ha : (amS a).Nodup) {k : Key} {v y : V} (hm : (k, v) ∈ amK a) (hy : valV (amK b) k = some y) : Eqv K H n v y (amE a b k) := by
  obtain ⟨p, hp, rfl, rfl⟩ := amK_mem hm
  obtain ⟨z, rfl, _⟩ := valV_mem hy
  have h1 := valV_am ha hp
  have : amE a b (Sum.inr p.1) = eqV (.int p.2) (.int z) := by
    unfold amE
    rw [h1, hy]
    show decide (some (V.int p.2) = some (V.int z)) = (p.2 == z)
    by_cases e : p.2 = z
    · subst e; simp
    · simp [e]
  rw [this]
  exact .flat rfl rfl
/-- a method as its callers see it -/
structure CalM (P : Program) (w : World) (K : PySem.W.Frag) (mg : Str → Option Value) (base : Heap) (CX : CXT) (k : Nat) (ps : List Str) (sp : Sp) where
  f : Addr
  fd : FuncData
  b : Binds K fd ps []
  G : FnOk P w K mg base CX k f fd ps sp
theorem amK_neg (am : Am) : amK (am.map fun p => (p.1, -p.2)) = am.map fun p => ((Sum.inr p.1 : Key), V.int (-p.2)) := by unfold amK; rw [List.map_map]; rfl
theorem amS_neg (am : Am) : amS (am.map fun p => (p.1, -p.2)) = amS am := by unfold amS; rw [List.map_map]; rfl
theorem AmOk.neg {am : Am} (h : AmOk am) : AmOk (am.map fun p => (p.1, -p.2)) := ⟨by rw [amS_neg]; exact h.nd, by rw [amS_neg]; exact h.gd, by rw [List.length_map]; exact h.n1⟩
theorem strs_flat (ws : List Str) : (ws.map V.str).all flatV = true := by
  rw [List.all_eq_true]
  intro v hv
  obtain ⟨q, _, rfl⟩ := List.mem_map.mp hv
  rfl
theorem inV_strs (w : Str) (ws : List Str) : inV (.str w) (ws.map V.str) = decide (w ∈ ws) := by
  unfold inV
  induction ws with
  | nil => rfl
  | cons u r ih =>
    rw [List.map_cons, List.any_cons, ih]
    show ((u == w) || decide (w ∈ r)) = decide (w ∈ u :: r)
    by_cases e : u = w
    · subst e; simp
    · have e2 : ¬ w = u := fun z => e z.symm
      simp [e, e2]
theorem op_inF {X : Cx} {K : PySem.W.Frag} (hk : X.K = K) : OpR X (compareOp .In) (rIn K false) := by subst hk; exact op_in_seq
theorem op_niF {X : Cx} {K : PySem.W.Frag} (hk : X.K = K) : OpR X (compareOp .NotIn) (rIn K true) := by subst hk; exact op_notIn_seq
/-- what x[i] finds -/
structure IxF (K : PySem.W.Frag) (C g : Addr) : Prop where
  hs : PySem.W.findIn K (.ref C) "__getitem__" = some (some (.ref g))
  hf : PySem.W.fnIn K g = true
  hfn : PySem.W.isFn K (.ref g) = true
end L2

namespace L2
open PySem PySem.Spec PyProof.Rows
/-- names, as data -/
def tD (ws : List Str) : PyData := .tuple (ws.map .str)
/-- lists of tuples of names, as data -/
def lD (l : List (List Str)) : PyData := .list (l.map tD)
theorem eqvAll_strs : ∀ a b : List Str, PyData.eqvAll (a.map .str) (b.map .str) = decide (a = b)
  | [], [] => by rw [List.map_nil, PyData.eqvAll]; simp
  | [], y :: s => by rw [List.map_nil, List.map_cons, PyData.eqvAll]; simp
  | x :: r, [] => by rw [List.map_nil, List.map_cons, PyData.eqvAll]; simp
  | x :: r, y :: s => by
    rw [List.map_cons, List.map_cons, PyData.eqvAll, eqvAll_strs r s, PyData.eqv]
    by_cases h : x = y <;> by_cases h2 : r = s <;> simp [h, h2]
theorem eqv_tD (a b : List Str) : PyData.eqv (tD a) (tD b) = decide (a = b) := by
  unfold tD
  rw [PyData.eqv, eqvAll_strs]
theorem eqvAll_tD : ∀ a b : List (List Str), PyData.eqvAll (a.map tD) (b.map tD) = decide (a = b)
  | [], [] => by rw [List.map_nil, PyData.eqvAll]; simp
  | [], y :: s => by rw [List.map_nil, List.map_cons, PyData.eqvAll]; simp
  | x :: r, [] => by rw [List.map_nil, List.map_cons, PyData.eqvAll]; simp
  | x :: r, y :: s => by
    rw [List.map_cons, List.map_cons, PyData.eqvAll, eqvAll_tD r s, eqv_tD]
    by_cases h : x = y <;> by_cases h2 : r = s <;> simp [h, h2]
theorem eqv_lD (a b : List (List Str)) : PyData.eqv (lD a) (lD b) = decide (a = b) := by
  unfold lD
  rw [PyData.eqv, eqvAll_tD]
theorem lay_tD {ws : List Str} (h : ∀ w ∈ ws, PyData.strOk w = true) : (tD ws).canLay0 = true ∧ (tD ws).depth = 1 := by
  obtain ⟨h1, h2⟩ := shaped_go ws h
  refine ⟨h1, ?_⟩
  show PyData.depthAll (ws.map PyData.str) + 1 = 1
  rw [h2]
theorem shaped_tD {ws : List Str} (h : ∀ w ∈ ws, PyData.strOk w = true) : SeqAt.shaped (tD ws) = true := by
  obtain ⟨h1, h2⟩ := lay_tD h
  unfold SeqAt.shaped
  rw [h1, h2]
  rfl
theorem lay_lD : ∀ {l : List (List Str)}, (∀ ws ∈ l, ∀ w ∈ ws, PyData.strOk w = true) → PyData.canLayAll0 (l.map tD) = true ∧ PyData.depthAll (l.map tD) ≤ 1
  | [], _ => ⟨rfl, Nat.zero_le _⟩
  | x :: r, h => by
    obtain ⟨h1, h2⟩ := lay_lD fun ws hw => h ws (List.mem_cons_of_mem _ hw)
    obtain ⟨g1, g2⟩ := lay_tD (h x List.mem_cons_self)
    refine ⟨?_, ?_⟩
    · show (PyData.canLay0 (tD x) && PyData.canLayAll0 (r.map tD)) = true
      rw [h1, g1]
      rfl
    · show max (PyData.depth (tD x)) (PyData.depthAll (r.map tD)) ≤ 1
      rw [g2]
      omega
theorem shaped_lD {l : List (List Str)} (h : ∀ ws ∈ l, ∀ w ∈ ws, PyData.strOk w = true) : SeqAt.shaped (lD l) = true := by
  obtain ⟨h1, h2⟩ := lay_lD h
  unfold SeqAt.shaped
  rw [Bool.and_eq_true]
  refine ⟨h1, decide_eq_true ?_⟩
  show PyData.depthAll (l.map tD) + 1 ≤ 64
  omega
theorem good_ok {w : Str} (h : good w = true) : PyData.strOk w = true := by
  have := good_asc h
  simp [PyData.strOk]
  intro c hc
  have := this (w.cps[c]) (by simp)
  omega
theorem dp_tD {K : PySem.W.Frag} {H : Hp} {t : Addr} {ws : List Str} (h : H t = some (.tup (ws.map V.str))) : Dp K H (.ref t) (tD ws) := .tup (SqT.of h) (dpAll_strs ws)
/-- a list of tuples of names in a heap -/
inductive TupsAt (H : Hp) : List V → List (List Str) → Prop
  | nil : TupsAt H [] []
  | cons {t : Addr} {ws : List Str} {vs : List V} {l : List (List Str)} : H t = some (.tup (ws.map V.str)) → TupsAt H vs l → TupsAt H (.ref t :: vs) (ws :: l)
theorem TupsAt.up {G H : Hp} {vs : List V} {l : List (List Str)} (h : TupsAt G vs l) (e : Same G H) : TupsAt H vs l := by
  induction h with
  | nil => exact .nil
  | cons a _ ih => exact .cons (e _ _ a) ih
theorem TupsAt.dp {K : PySem.W.Frag} {H : Hp} {vs : List V} {l : List (List Str)} (h : TupsAt H vs l) : DpAll K H vs (l.map tD) := by
  induction h with
  | nil => exact .nil
  | cons a _ ih => exact .cons (dp_tD a) ih
theorem TupsAt.snoc {H : Hp} {vs : List V} {l : List (List Str)} (h : TupsAt H vs l) {t : Addr} {ws : List Str} (ht : H t = some (.tup (ws.map V.str))) : TupsAt H (vs ++ [.ref t]) (l ++ [ws]) := by
  induction h with
  | nil => exact .cons ht .nil
  | cons a _ ih => exact .cons a ih
theorem dp_lD {K : PySem.W.Frag} {H : Hp} {p : Addr} {vs : List V} {l : List (List Str)} (h : H p = some (.lst vs)) (t : TupsAt H vs l) : Dp K H (.ref p) (lD l) := .lst (SqL.of h) t.dp
/-- the ranks of amounts: the levels down, each with its names in order -/
def lvls (am : Am) : List Int := ((am.map (·.2)).mergeSort (fun a b => decide (b ≤ a))).eraseDups
/-- a list that names the levels, the highest first -/
def IsLv (am : Am) (ns : List Int) : Prop := ns.Pairwise (· > ·) ∧ ∀ z, z ∈ ns ↔ z ∈ am.map (·.2)
def rks (am : Am) (ns : List Int) : List (List Str) := ns.map fun z => amS (am.filter fun p => decide (p.2 = z))
theorem isLv_one {am : Am} {a b : List Int} (ha : IsLv am a) (hb : IsLv am b) : a = b := by
  obtain ⟨a1, a2⟩ := ha
  obtain ⟨b1, b2⟩ := hb
  have h : ∀ z, z ∈ a ↔ z ∈ b := fun z => (a2 z).trans (b2 z).symm
  clear a2 b2
  induction a generalizing b with
  | nil =>
    cases b with
    | nil => rfl
    | cons y s => exact absurd ((h y).mpr List.mem_cons_self) (by simp)
  | cons x r ih =>
    cases b with
    | nil => exact absurd ((h x).mp List.mem_cons_self) (by simp)
    | cons y s =>
      obtain ⟨p1, p2⟩ := List.pairwise_cons.mp a1
      obtain ⟨q1, q2⟩ := List.pairwise_cons.mp b1
      have exy : x = y := by
        have h1 := (h x).mp List.mem_cons_self
        have h2 := (h y).mpr List.mem_cons_self
        rcases List.mem_cons.mp h1 with e | h1
        · exact e
        · rcases List.mem_cons.mp h2 with e | h2
          · exact e.symm
          · have := q1 _ h1
            have := p1 _ h2
            omega
      subst exy
      refine congrArg _ (ih p2 q2 fun z => ⟨fun hz => ?_, fun hz => ?_⟩)
      · rcases List.mem_cons.mp ((h z).mp (List.mem_cons_of_mem _ hz)) with e | e
        · subst e; exact absurd (p1 _ hz) (by omega)
        · exact e
      · rcases List.mem_cons.mp ((h z).mpr (List.mem_cons_of_mem _ hz)) with e | e
        · subst e; exact absurd (q1 _ hz) (by omega)
        · exact e
/-- Wishes.ranks and the law's own: the levels of sorted amounts -/
def rkR (am : Am) (H : Hp) (Q : VK) : Prop := ∀ (p : Addr) (vs : List V) (H' : Hp) (ns : List Int), IsLv am ns → Same H H' → H p = none → (∀ v ∈ vs, ∃ t, v = .ref t ∧ H t = none) → H' p = some (.lst vs) → TupsAt H' vs (rks am ns) → Q (.ref p) H'
def spRanks (C : Addr) : Sp := fun vs H Q _ => ∃ (x : Addr) (am : Am), vs = [.ref x] ∧ WAt C H x am ∧ AmOk am ∧ rkR am H Q
/-- __init__ of an exception that keeps one thing -/
def spXI (C : Addr) (f : Str) : Sp := fun vs H Q _ => ∃ (a : Addr) (v : V), vs = [.ref a, v] ∧ H a = some (exo a C none) ∧ ∀ dx, H dx = none → dx ≠ a → Q .non (upd (upd H dx (exd dx [(f, v)])) a (exo a C (some dx)))
/-- what the law's text holds for such a class -/
structure XCls (K : PySem.W.Frag) (mg : Str → Option Value) (nm f : Str) where
  C : Addr
  g : mg nm = some (.ref C)
  T : OexC K C
  no : PySem.W.findIn K (.ref C) f = some none
  xf : XfC K C
  ex : PySem.W.exmOne K (.ref C) (.ref C) = some true
/-- what its __init__ is, as pmk_oex wishes -/
structure XIni (K : PySem.W.Frag) (C fI : Addr) : Prop where
  iC : PySem.W.findIn K (.ref C) "__init__" = some (some (.ref fI))
  tI : PySem.W.typeIn K (.ref fI) = some (.type "function")
theorem rks_ok {am : Am} (h : AmOk am) (ns : List Int) : ∀ ws ∈ rks am ns, ∀ w ∈ ws, PyData.strOk w = true := fun ws hws w hw => by
  obtain ⟨z, _, rfl⟩ := List.mem_map.mp hws
  obtain ⟨p, hp, rfl⟩ := List.mem_map.mp hw
  exact good_ok (h.gd _ (List.mem_map.mpr ⟨p, (List.mem_filter.mp hp).1, rfl⟩))
theorem dp_am {K : PySem.W.Frag} {H : Hp} {t : Addr} {am : Am} (h : H t = some (.tup (amN am))) : Dp K H (.ref t) (tD (amS am)) := dp_tD (by rw [← amN_S]; exact h)
/-- o.m(e, ..) that may raise, inside a try: the way out may know the slots -/
def tMethT (C : Addr) (m : Str) (sp : Sp) (E : St → XK) (ta : TE) (t : TA) : TE := fun σ H Q => ta σ H fun x H1 => ∃ a dx fs, x = .ref a ∧ H1 a = some (.ins C dx fs) ∧ fs.lookup m = none ∧ t σ H1 fun vs H2 => sp (x :: vs) H2 Q (E σ)
theorem pe_methT {X : Cx} {CX : CXT} {k : Nat} {f C : Addr} {fd : FuncData} {ps : List Str} {sp : Sp} {E : St → XK} {m : Str} {o e : Expr} {es : List Expr} {ta : TE} {t : TA} {apos pos : Pos} {pl : Sem Bool} (he : PE X o ta) (c : Cls X.K C) (hm : Meth X.K C m f)
    (F : FnOk X.prog X.w X.K X.mg X.base CX k f fd ps sp) (hr : Room k X.A) (hb : Binds X.K fd ps []) (hx : ∀ σ, PassesAt CX X σ (E σ)) (ha : PA X (e :: es) t)
    (hst : starEach (e :: es) X.env = (false, eval e X.env) :: starEach es X.env := by rfl) (hpl : (backTo pos (starEach es X.env)).any (·.1) = false := by rfl)
    (ht : eval (.Call (.Attribute o m apos) (e :: es) [] pos) X.env = (do
      let ov ← eval o X.env
      standAt apos.atName
      let (f, first) ← holding [ov] (getMethod ov m pl)
      callWith pos f first (backTo pos (starEach (e :: es) X.env)) (backToKw pos (keywordEach [] X.env))) := by rfl) :
    PE X (.Call (.Attribute o m apos) (e :: es) [] pos) (tMethT C m sp E ta t) := by
  refine ⟨fun pins s σ H Q I h => PySem.W.methodCall_KW (pl := pl) (thn (he.run pins s σ H _ I h) fun u s1 hh => ?_) ht⟩
  obtain ⟨x, H1, I1, rx, a, dx, fs, rfl, ea, l, q⟩ := hh
  obtain rfl : u = Value.ref a := rx
  refine getmeth_ok I1 ea c hm l (PySem.W.callWith_K (first := [.ref a]) (h₀ := X.base) I.ok.mod.kin hm.kp ?_ hst hpl)
  refine thn (ha.run pos pins s1 σ H1 _ I1 q) fun us s2 hh => ?_
  obtain ⟨vs, H2, I2, r, q2⟩ := hh
  exact ⟨I2.kIn, run_fnS (E := E) (us := .ref a :: us) (vs := .ref a :: vs) F hr hb (hx σ) I2 (.cons rfl r) q2⟩
end L2

namespace L2
open PySem PySem.Spec PyProof.Rows
/-! ### sorted names are told by what they are -/
def LeS (x y : Str) : Prop := ltCps y.cps.toList x.cps.toList = false
theorem leS_iff {x y : Str} : LeS x y ↔ x.cps.toList ≤ y.cps.toList := by
  unfold LeS
  rw [ltCps_eq, decide_eq_false_iff_not, List.not_lt]
theorem leS_trans {x y z : Str} (a : LeS x y) (b : LeS y z) : LeS x z := leS_iff.mpr (List.le_trans (leS_iff.mp a) (leS_iff.mp b))
theorem leS_anti {x y : Str} (a : LeS x y) (b : LeS y x) : x = y := str_ext (List.le_antisymm (leS_iff.mp a) (leS_iff.mp b))
theorem rising_pw : ∀ {l : List Str} {p : Str}, risingS p l = true → (p :: l).Pairwise LeS
  | [], p, _ => List.pairwise_singleton _ _
  | x :: r, p, h => by
    have h' : (!ltCps x.cps.toList p.cps.toList && risingS x r) = true := h
    rw [Bool.and_eq_true, Bool.not_eq_true'] at h'
    have ih := rising_pw h'.2
    refine List.pairwise_cons.mpr ⟨fun y hy => ?_, ih⟩
    rcases List.mem_cons.mp hy with rfl | hy
    · exact h'.1
    · exact leS_trans h'.1 ((List.pairwise_cons.mp ih).1 y hy)
theorem sorted_pw : ∀ {l : List Str}, sortedS l = true → l.Pairwise LeS
  | [], _ => .nil
  | x :: r, h => rising_pw h
theorem pw_one : ∀ {a b : List Str}, a.Pairwise LeS → b.Pairwise LeS → a.Perm b → a = b
  | [], b, _, _, h => (List.nil_perm.mp h).symm
  | x :: r, [], _, _, h => absurd h.length_eq (by simp)
  | x :: r, y :: s, ha, hb, h => by
    obtain ⟨a1, a2⟩ := List.pairwise_cons.mp ha
    obtain ⟨b1, b2⟩ := List.pairwise_cons.mp hb
    have e : x = y := by
      rcases List.mem_cons.mp (h.mem_iff.mp (List.mem_cons_self (a := x) (l := r))) with e | h1
      · exact e
      · rcases List.mem_cons.mp (h.mem_iff.mpr (List.mem_cons_self (a := y) (l := s))) with e | h2
        · exact e.symm
        · exact leS_anti (a1 _ h2) (b1 _ h1)
    subst e
    rw [pw_one a2 b2 h.cons_inv]
theorem sortedS_one {a b : List Str} (ha : sortedS a = true) (hb : sortedS b = true) (h : a.Perm b) : a = b := pw_one (sorted_pw ha) (sorted_pw hb) h
/-- of the same names in the same order, all different: the same amounts -/
theorem am_one : ∀ {a b : Am}, (amS a).Nodup → amS a = amS b → a.Perm b → a = b
  | [], b, _, _, h => (List.nil_perm.mp h).symm
  | p :: r, [], _, _, h => absurd h.length_eq (by simp)
  | p :: r, q :: s, hn, he, h => by
    obtain ⟨e1, e2⟩ := List.cons.inj (show p.1 :: amS r = q.1 :: amS s from he)
    obtain ⟨n1, n2⟩ := List.nodup_cons.mp (show (p.1 :: amS r).Nodup from hn)
    have e : p = q := by
      rcases List.mem_cons.mp (h.mem_iff.mpr (List.mem_cons_self (a := q) (l := s))) with e | h2
      · exact e.symm
      · exact absurd (List.mem_map.mpr ⟨q, h2, e1.symm⟩) n1
    subst e
    rw [am_one n2 e2 h.cons_inv]
theorem srt_one {a b c : Am} (hc : (amS c).Nodup) (ha : srt a) (hb : srt b) (pa : a.Perm c) (pb : b.Perm c) : a = b := by
  have e : amS a = amS b := sortedS_one ha hb ((pa.trans pb.symm).map _)
  exact am_one ((pa.map Prod.fst).nodup_iff.mpr hc) e (pa.trans pb.symm)
/-- the law's own ranks of a dict of amounts -/
def spLR : Sp := fun vs H Q _ => ∃ (g : Addr) (a : Am), vs = [.ref g] ∧ H g = some (.dK (amK a)) ∧ AmOk a ∧ ∀ sa : Am, sa.Perm a → srt sa → rkR sa H Q
/-- _law_due -/
def spDue : Sp := fun vs H Q _ => ∃ (g n : Addr) (a b : Am), vs = [.ref g, .ref n] ∧ H g = some (.dK (amK a)) ∧ H n = some (.dK (amK b)) ∧ AmOk a ∧ AmOk b ∧
  ∀ sa sb : Am, sa.Perm a → srt sa → sb.Perm b → srt sb →
  (amS sa = amS sb → ∀ (p : Addr) (H' : Hp) (na nb : List Int), IsLv sa na → IsLv sb nb → Same H H' → H p = none → H' p = some (.lst [.str "agrees", .bl (decide (rks sa na = rks sb nb))]) → Q (.ref p) H') ∧
  (amS sa ≠ amS sb → ∀ (p t : Addr) (H' : Hp), Same H H' → H p = none → H t = none → H' t = some (.tup (amN sb)) → H' p = some (.lst [.str "unlike", .ref t]) → Q (.ref p) H')
theorem shaped_am {ys : List Str} {a : Am} (h : AmOk a) (p : ys.Perm (amS a)) : SeqAt.shaped (.list (ys.map PyData.str)) = true := shaped_strs ys fun w hw => good_ok (h.gd w (p.mem_iff.mp hw))
theorem eqv_strs (a b : List Str) : PyData.eqv (.list (a.map .str)) (.list (b.map .str)) = decide (a = b) := by rw [PyData.eqv, eqvAll_strs]
end L2

namespace L2
open PySem PySem.Spec PyProof.Rows
theorem walk_amK {d : Addr} {o : Obj} {am : Am} : Walk (Itk d o (amK am)) (am.map fun p => V.str p.1).length (fun H => H d = some (.frz o (.dK (amK am)))) (YAt (am.map fun p => V.str p.1)) := by
  have w := walk_keys (d := d) (o := o) (kvs := amK am)
  rw [amK_len, ← List.length_map (as := am) (f := fun p : Str × Int => V.str p.1)] at w
  refine w.mono (fun _ h => h) fun i H x H' _ _ y => ?_
  obtain ⟨e, k, v, hk, rfl⟩ := y
  refine ⟨e, ?_⟩
  unfold amK at hk
  rw [List.getElem?_map] at hk ⊢
  obtain ⟨p, hp, e2⟩ := Option.map_eq_some_iff.mp hk
  cases e2
  rw [hp]
  rfl
/-- a list comprehension that makes a pair a turn -/
theorem lc_pairs {α : Type} {J : It} {G : Hp → Prop} {as : List α} {g : α → V} (w : Walk J (as.map g).length G (YAt (as.map g))) {te : TE} {vs : List Nat} {σ : St} {H1 : Hp} {D : Addr} {Qd : Hp → Prop} {j : Nat} (kv : α → Key × V)
    (hD : H1 D = none) (hG : ∀ H', Same H1 H' → G H') (hl : as.length ≤ 1000) (hw : ∀ x, wipe ((wipe σ vs).set j (some x)) vs = wipe σ vs)
    (he : ∀ a ∈ as, ∀ (H' : Hp) (Q : VK), Same H1 H' → (∀ t, H' t = none → Q (.ref t) (upd H' t (.tup [kV (kv a).1, (kv a).2]))) → te ((wipe σ vs).set j (some (g a))) H' Q)
    (hd : ∀ (ps : List Addr) (H' : Hp), Same H1 H' → H' D = some (.lst (ps.map V.ref)) → Paired (fun p q => H' p = some (.tup [kV q.1, q.2])) ps (as.map kv) → Qd H') :
    ∃ W : Nat → Nat → Hp → Prop, (∃ m, W 0 m (upd H1 D (.lst []))) ∧ ∀ i m H, W i m H →
      (J.stop i H ∧ Qd H) ∨ (J.go i H ∧ ∃ Nx : Hp → Prop, (∀ H', Nx H' → ∃ m', m' < m ∧ W (i + 1) m' H') ∧ ∀ x H', J.yld i H x H' → gName j x (wipe σ vs) H' fun σ2 H2 => wipe σ2 vs = wipe σ vs ∧ tYes σ2 H2 fun b H3 =>
        if b = true then te σ2 H3 fun y H4 => ∃ acc, H4 D = some (.lst acc) ∧ acc.length < sizeLine ∧ Nx (upd H4 D (.lst (acc ++ [y]))) else Nx H3) := by
  have ln : (as.map g).length = as.length := List.length_map _
  refine lc_it w (fun i H => ∃ ps : List Addr, Same H1 H ∧ H D = some (.lst (ps.map V.ref)) ∧ ps.length = i ∧ Paired (fun p q => H p = some (.tup [kV q.1, q.2])) ps ((as.take i).map kv)) ⟨[], same_of_none hD, upd_same, rfl, .nil⟩ (fun i H _ ⟨ps, s, _⟩ => hG _ s) (fun i x H H' hi h y => ?_) (fun H h => ?_)
  · obtain ⟨ps, s, hDl, hpl, hP⟩ := h
    obtain ⟨rfl, hx⟩ := y
    rw [List.getElem?_map] at hx
    obtain ⟨a, ha, rfl⟩ := Option.map_eq_some_iff.mp hx
    have hm : a ∈ as := List.mem_of_getElem? ha
    have ht' := take_more ha
    refine ⟨hw _, ?_⟩
    unfold tYes
    refine if_pos rfl |>.mpr (he a hm _ _ s fun t ht => ?_)
    have hDt : D ≠ t := ne_of_none hDl ht
    have s2 := same_of_none (o := .tup [kV (kv a).1, (kv a).2]) ht
    refine ⟨_, s2 _ _ hDl, small1000 (by rw [List.length_map]; omega), ps ++ [t], ?_, by rw [upd_same, List.map_append]; rfl, by rw [List.length_append, hpl]; rfl, ?_⟩
    · exact (s.trans s2).unseen hD
    · rw [ht', List.map_append]
      refine Paired.snoc ?_ (by rw [upd_ne hDt.symm]; exact upd_same)
      refine hP.mono fun p q h => ?_
      have hpD : p ≠ D := fun z => by rw [z, hDl] at h; cases h
      rw [upd_ne hpD]
      exact s2 _ _ h
  · obtain ⟨ps, s, hDl, _, hP⟩ := h
    rw [ln, List.take_length] at hP
    exact hd ps H s hDl hP
theorem mergeK_am : ∀ {kvs acc : List (Key × V)}, (kvs.map (·.1)).Nodup → (∀ p ∈ kvs, valV acc p.1 = none) → mergeK acc kvs = acc ++ kvs
  | [], acc, _, _ => (List.append_nil _).symm
  | p :: r, acc, hn, ha => by
    obtain ⟨n1, n2⟩ := List.nodup_cons.mp hn
    have h1 := ha p List.mem_cons_self
    show mergeK (putK acc p.1 p.2) r = acc ++ p :: r
    rw [putK_new _ h1, mergeK_am n2 fun q hq => ?_]
    · rw [List.append_assoc]; rfl
    · rw [valV_snoc _ _ _ _ h1, if_neg fun e => n1 (by show p.1 ∈ _; rw [← e]; exact List.mem_map.mpr ⟨q, hq, rfl⟩)]
      exact ha q (List.mem_cons_of_mem _ hq)
/-! ### amounts put and dropped -/
def aput (b : Am) (w : Str) (z : Int) : Am := if w ∈ amS b then b.map (fun p => if p.1 = w then (p.1, z) else p) else b ++ [(w, z)]
theorem amK_any (b : Am) (w : Str) : ((amK b).any fun kv => decide (kv.1 = (Sum.inr w : Key))) = decide (w ∈ amS b) := by
  induction b with
  | nil => rfl
  | cons p r ih =>
    show (decide ((Sum.inr p.1 : Key) = Sum.inr w) || (amK r).any fun kv => decide (kv.1 = (Sum.inr w : Key))) = decide (w ∈ p.1 :: amS r)
    rw [ih]
    by_cases e : p.1 = w
    · subst e; simp
    · have e2 : ¬ w = p.1 := fun z => e z.symm
      have e3 : ¬ (Sum.inr p.1 : Key) = Sum.inr w := fun z => e (Sum.inr.inj z)
      simp [e2, e3]
theorem amK_put (b : Am) (w : Str) (z : Int) : amK (aput b w z) = putK (amK b) (Sum.inr w) (.int z) := by
  unfold aput putK
  rw [amK_any]
  by_cases h : w ∈ amS b
  · rw [if_pos h, if_pos (decide_eq_true h)]
    unfold amK
    rw [List.map_map, List.map_map]
    refine List.map_congr_left fun p _ => ?_
    show ((Sum.inr (if p.1 = w then (p.1, z) else p).1 : Key), V.int (if p.1 = w then (p.1, z) else p).2) = if (Sum.inr p.1 : Key) = Sum.inr w then ((Sum.inr p.1 : Key), V.int z) else (Sum.inr p.1, V.int p.2)
    by_cases e : p.1 = w
    · rw [if_pos e, if_pos (by rw [e])]
    · rw [if_neg e, if_neg fun q => e (Sum.inr.inj q)]
  · rw [if_neg h, if_neg (by rw [decide_eq_false h]; exact Bool.false_ne_true)]
    unfold amK
    rw [List.map_append]
    rfl
theorem amS_put (b : Am) (w : Str) (z : Int) : amS (aput b w z) = if w ∈ amS b then amS b else amS b ++ [w] := by
  unfold aput
  by_cases h : w ∈ amS b
  · rw [if_pos h, if_pos h]
    unfold amS
    rw [List.map_map]
    refine List.map_congr_left fun p _ => ?_
    show (if p.1 = w then (p.1, z) else p).1 = p.1
    split <;> rfl
  · rw [if_neg h, if_neg h]
    unfold amS
    rw [List.map_append]
    rfl
theorem amS_len (b : Am) : (amS b).length = b.length := by unfold amS; rw [List.length_map]
theorem put_len (b : Am) (w : Str) (z : Int) : (aput b w z).length = if w ∈ amS b then b.length else b.length + 1 := by
  rw [← amS_len, amS_put]
  split
  · exact amS_len b
  · rw [List.length_append, amS_len]; rfl
theorem AmOk.put {b : Am} (h : AmOk b) (w : Str) (z : Int) (g : good w = true) (l : b.length ≤ 7) : AmOk (aput b w z) := by
  refine ⟨?_, fun u hu => ?_, ?_⟩
  · rw [amS_put]
    split
    · exact h.nd
    · rename_i n
      refine List.nodup_append.mpr ⟨h.nd, List.nodup_cons.mpr ⟨by simp, List.nodup_nil⟩, fun x hx y hy e => ?_⟩
      rw [List.mem_singleton.mp hy] at e
      exact n (e ▸ hx)
  · rw [amS_put] at hu
    split at hu
    · exact h.gd u hu
    · rcases List.mem_append.mp hu with hu | hu
      · exact h.gd u hu
      · rw [List.mem_singleton.mp hu]; exact g
  · rw [put_len]; split <;> omega
def adrop (b : Am) (w : Str) : Am := b.filter fun p => decide (p.1 ≠ w)
theorem amK_drop (b : Am) (w : Str) : amK (adrop b w) = dropK (amK b) (Sum.inr w) := by
  unfold adrop dropK amK
  rw [List.filter_map]
  refine congrArg _ (List.filter_congr fun p _ => ?_)
  show decide (p.1 ≠ w) = decide ((Sum.inr p.1 : Key) ≠ Sum.inr w)
  rw [decide_eq_decide]
  exact ⟨fun h e => h (Sum.inr.inj e), fun h e => h (by rw [e])⟩
theorem AmOk.drop {b : Am} (h : AmOk b) (w : Str) : AmOk (adrop b w) := by
  have s : (amS (adrop b w)).Sublist (amS b) := (List.filter_sublist).map _
  exact ⟨h.nd.sublist s, fun u hu => h.gd u (s.subset hu), Nat.le_trans (List.length_filter_le _ _) h.n1⟩
theorem drop_not (b : Am) (w : Str) : w ∉ amS (adrop b w) := fun h => by
  obtain ⟨p, hp, e⟩ := List.mem_map.mp h
  exact of_decide_eq_true (List.mem_filter.mp hp).2 e
theorem drop_len {b : Am} (h : (amS b).Nodup) {w : Str} (hw : w ∈ amS b) : (adrop b w).length + 1 = b.length := by
  induction b with
  | nil => cases hw
  | cons p r ih =>
    obtain ⟨n1, n2⟩ := List.nodup_cons.mp (show (p.1 :: amS r).Nodup from h)
    by_cases e : p.1 = w
    · subst e
      have : adrop (p :: r) p.1 = r := by
        unfold adrop
        rw [List.filter_cons, if_neg (by simp)]
        refine List.filter_eq_self.mpr fun q hq => decide_eq_true fun e => n1 (List.mem_map.mpr ⟨q, hq, e⟩)
      rw [this]
      rfl
    · have hw' : w ∈ amS r := by
        rcases List.mem_cons.mp (show w ∈ p.1 :: amS r from hw) with h | h
        · exact absurd h.symm e
        · exact h
      have : adrop (p :: r) w = p :: adrop r w := by
        unfold adrop
        rw [List.filter_cons, if_pos (decide_eq_true e)]
      rw [this]
      show (adrop r w).length + 1 + 1 = r.length + 1
      rw [ih n2 hw']
/-- another amount for each -/
theorem amK_map (b : Am) (f : Int → Int) : amK (b.map fun p => (p.1, f p.2)) = b.map fun p => ((Sum.inr p.1 : Key), V.int (f p.2)) := by unfold amK; rw [List.map_map]; rfl
theorem amS_map (b : Am) (f : Int → Int) : amS (b.map fun p => (p.1, f p.2)) = amS b := by unfold amS; rw [List.map_map]; rfl
theorem AmOk.map {b : Am} (h : AmOk b) (f : Int → Int) : AmOk (b.map fun p => (p.1, f p.2)) := ⟨by rw [amS_map]; exact h.nd, by rw [amS_map]; exact h.gd, by rw [List.length_map]; exact h.n1⟩
theorem DPut.am {H : Hp} {d : Addr} {b : Am} {w : Str} {z : Int} (h : H d = some (.dK (amK b))) (l : b.length ≤ 1000) : DPut H d (.str w) (.int z) (upd H d (.dK (amK (aput b w z)))) :=
  .inl ⟨amK b, .inr w, h, rfl, by rw [amK_len]; exact small1000 l, by rw [amK_put]⟩
theorem am_val {b : Am} {w : Str} (h : w ∈ amS b) : ∃ z, (w, z) ∈ b := by
  obtain ⟨p, hp, e⟩ := List.mem_map.mp h
  exact ⟨p.2, by rw [← e]; exact hp⟩
/-- _law_near: amounts near the given ones -/
def spNear : Sp := fun vs H Q _ => ∃ (s : Addr) (N : Nat) (G : Hp) (g : Addr) (a : Am), vs = [.ref s, .ref g] ∧ View s N G H ∧ N ≤ 800000 ∧ G g = some (.dK (amK a)) ∧ AmOk a ∧ 1 ≤ a.length ∧ a.length ≤ 6 ∧ (∀ p ∈ a, p.2.natAbs < 2 ^ 100) ∧
  ∀ (p : Addr) (b : Am) (H' : Hp), AmOk b → 1 ≤ b.length → b.length ≤ 6 → G p = none → View s (N + 70) (upd G p (.dK (amK b))) H' → Q (.ref p) H'
theorem am_permV {a : Am} {zs : List V} (hn : (amS a).Nodup) (h : zs.Perm (amN a)) : ∃ am : Am, am.Perm a ∧ zs = amN am := by
  let un : V → Str := fun v => match v with | .str w => w | _ => Str.ofString ""
  have e1 : (amN a).map un = amS a := by unfold amN amS; rw [List.map_map]; rfl
  have h2 : (zs.map un).Perm (amS a) := by rw [← e1]; exact h.map un
  obtain ⟨am, ha, hs⟩ := am_perm hn h2
  refine ⟨am, ha, ?_⟩
  rw [amN_S, hs, List.map_map]
  refine (List.map_id zs).symm.trans (List.map_congr_left fun v hv => ?_)
  obtain ⟨p, _, rfl⟩ := List.mem_map.mp (h.mem_iff.mp hv)
  rfl
theorem pickW {ws : List Str} {d : Int} (h0 : 0 ≤ d) (h1 : d < (ws.length : Int)) : ∃ w ∈ ws, atI (ws.map V.str) d = some (.str w) := by
  obtain ⟨k, rfl⟩ := Int.eq_ofNat_of_zero_le h0
  have hk : k < ws.length := by omega
  exact ⟨ws[k], List.getElem_mem hk, atI_nat (by rw [List.getElem?_map, List.getElem?_eq_getElem hk]; rfl)⟩
theorem aput_new {b : Am} {w : Str} {z : Int} (h : w ∉ amS b) : aput b w z = b ++ [(w, z)] := if_neg h
theorem good_zz9 : good "zz9" = true := by decide +kernel
end L2

namespace L2
open PySem PySem.Spec PyProof.Rows
/-- x == y by the own __eq__ at g: two instances of the class at C -/
def rOwnEq (C : Addr) (sp : Sp) (E : XK) : R2 := fun x y H Q => ∃ a dx fs b dy gs, x = .ref a ∧ y = .ref b ∧ H a = some (.ins C dx fs) ∧ H b = some (.ins C dy gs) ∧ sp [.ref a, .ref b] H Q E
theorem op_eqOwn {X : Cx} {CX : CXT} {k : Nat} {C g : Addr} {fd : FuncData} {ps : List Str} {sp : Sp} {E : XK} (hs : PySem.W.findIn X.K (.ref C) "__eq__" = some (some (.ref g))) (hf : PySem.W.isFn X.K (.ref g) = true) (nf : PySem.W.notFirst X.K C (.ref C) = true)
    (F : FnOk X.prog X.w X.K X.mg X.base CX k g fd ps sp) (hr : Room k X.A) (hb : Binds X.K fd ps []) (hx : Passes CX X E) : OpR X (compareOp .Eq) (rOwnEq C sp E) := by
  intro pins s σ H x y v u Q I rx ry h
  obtain ⟨a, dx, fs, b, dy, gs, rfl, rfl, ea, eb, q⟩ := h
  obtain rfl : v = Value.ref a := rx
  obtain rfl : u = Value.ref b := ry
  obtain ⟨_, O, _, _, _, _⟩ := ins_get I.hok ea
  obtain ⟨_, O', _, _, _, _⟩ := ins_get I.hok eb
  obtain ⟨_, J, _⟩ := O.look
  obtain ⟨_, J', _⟩ := O'.look
  obtain ⟨_, fr⟩ := I.fr
  show wpAny _ _ (richCompare .Eq (.ref a) (.ref b)) _ _ _
  refine PySem.W.cmp_K (op := .Eq) (tb := .ref C) (by have := hr.un; omega) fr I.ok.mod.kin J J'.type nf hs hf ?_
  refine wpAny_mono (run_fn (us := [.ref a, .ref b]) (vs := [.ref a, .ref b]) (ds := []) (dvs := []) F hr hb .nil hx I (.cons rfl (.cons rfl .nil)) (by rw [List.append_nil]; exact q)) (fun w s' z => ?_) fun _ _ e => e
  obtain ⟨z', H', I', rz, qz⟩ := z
  exact SlX.cmpback rz ⟨z', H', I', rz, qz⟩
/-! ### x != y by object.__ne__, which asks the own __eq__ -/
section
open PySem.W
variable {prog : Program} {w : World} {A : Around} {E : Value → Shared → Prop} {s : Shared} {K : Frag} {x C L g : Addr} {h₀ : Heap} {m : Str → Option Value} {ox : Obj} {od : Option Obj} {b tb : Value}
/-- the special method that is a built-in's -/
theorem asked_B {M : Model} {id : String} {name : Str} {args : List Value} {Q : Option Value → Shared → Prop} (X : K.In s.heap) (I : InstAt s.heap x ox C od) (hs : findIn K (.ref C) name = some (some (.builtin id))) {B : String} (S : Slot B name id)
    (h : wpAny M A (call (.builtin id) (.ref x :: args)) (fun v => Q (some v)) E s) : wpAny M A (callSpecialIfBound? (.ref x) name args) Q E s := by
  have fin : wpAny M A (call (.builtin id) ([.ref x] ++ args) >>= fun v => pure (some v)) Q E s := wpAny_bind (wpAny_mono h (fun v s' q => wpAny_pure q) fun _ _ e => e)
  simp only [callSpecialIfBound?, bindSpecialIfBound?]
  refine wpAny_holding (wpAny_bind (wpAny_bind (wpAny_bind (I.type.here ((looks_findIn X hs).here ?_)))))
  simp only [S.bind]
  refine wpAny_bind (wpAny_askSetting (wpAny_ite ?_))
  split
  · exact wpAny_bind (wpAny_pure (wpAny_pure fin))
  · exact wpAny_tryCatch (wpAny_bind (wpAny_pure (wpAny_pure fin)))
/-- object.__ne__ is called at all -/
theorem may_ne {M : Model} {Q : Unit → Shared → Prop} (X : K.In s.heap) (I : InstAt s.heap x ox C od) (ko : subIn K (.ref C) (.type "object") = some true) (q : Q () s) : wpAny M A (checkBuiltinCall "object.__ne__" ⟨[.ref x, b], []⟩) Q E s := by
  simp only [checkBuiltinCall, PySem.F.cmpKind_ne, PySem.F.cmpSplit_ne]
  refine wpAny_bind ?_
  unfold isInstance
  refine wpAny_bind (I.type.here ((looks_subIn X ko).here ?_))
  simp only [Bool.not_true, Bool.false_eq_true, if_false]
  cases hsig : Manifest.signature? "object.__ne__" with
  | none => exact wpAny_pure q
  | some sig =>
    have ha := PySem.F.cmpArgs_ne (.ref x) b
    simp only [argsOk, hsig] at ha
    have h2 : Bind.checkArgs "object.__ne__" sig ⟨[.ref x, b], []⟩ = pure () := ha
    show wpAny M A (Bind.checkArgs "object.__ne__" sig ⟨[.ref x, b], []⟩) Q E s
    rw [h2]
    exact wpAny_pure q
/-- object.__ne__(x, b), its question put to the own __eq__ at g, which answers with a truth value -/
theorem ne_asks {Q : Value → Shared → Prop} (hu : A.units + 1 < cLine) (X : K.In s.heap) (I : InstAt s.heap x ox C od) (he : findIn K (.ref C) "__eq__" = some (some (.ref g))) (hf : isFn K (.ref g) = true) (ko : subIn K (.ref C) (.type "object") = some true)
    (h : wpAny (model prog w) A.in1 (call (.ref g) [.ref x, b]) (fun v s' => ∃ c, v = .bool c ∧ Q (.bool (!c)) s') E s) : wpAny (model prog w) A (call (.builtin "object.__ne__") [.ref x, b]) Q E s := by
  refine wpAny_call (codeAny_call_builtin PySem.F.cmp_object.ne.plain PySem.F.cmpEntry_ne (may_ne X I ko ?_))
  unfold Builtin.«object.__ne__»
  refine wpAny_bind (wpAny_pure ?_)
  dsimp only
  refine wpAny_bind (wpAny_cRoomFor (by show A.units + 1 < cLine; exact hu) ?_)
  refine wpAny_bind (ifBound_K X I he hf (wpAny_mono h (fun v s' hv => ?_) fun _ _ e => e))
  obtain ⟨c, rfl, q⟩ := hv
  refine wpAny_bind (wpAny_pure ?_)
  exact wpAny_pure q
end
/-- x != y of two instances of the class at C, by object.__ne__ over the own __eq__ at g -/
def rOwnNe (C : Addr) (sp : Sp) (E : XK) : R2 := fun x y H Q => ∃ a dx fs b dy gs, x = .ref a ∧ y = .ref b ∧ H a = some (.ins C dx fs) ∧ H b = some (.ins C dy gs) ∧ sp [.ref a, .ref b] H (fun v H' => ∃ c, v = .bl c ∧ Q (.bl (!c)) H') E
theorem op_neOwn {X : Cx} {CX : CXT} {k : Nat} {C g : Addr} {fd : FuncData} {ps : List Str} {sp : Sp} {E : XK} (hs : PySem.W.findIn X.K (.ref C) "__eq__" = some (some (.ref g))) (hf : PySem.W.isFn X.K (.ref g) = true) (nf : PySem.W.notFirst X.K C (.ref C) = true)
    (hne : PySem.W.findIn X.K (.ref C) "__ne__" = some (some (.builtin "object.__ne__"))) (ko : PySem.W.subIn X.K (.ref C) (.type "object") = some true)
    (F : FnOk X.prog X.w X.K X.mg X.base CX k g fd ps sp) (hr : Room (k + 1) X.A) (hb : Binds X.K fd ps []) (hx : Passes CX X E) : OpR X (compareOp .NotEq) (rOwnNe C sp E) := by
  intro pins s σ H x y v u Q I rx ry h
  obtain ⟨a, dx, fs, b, dy, gs, rfl, rfl, ea, eb, q⟩ := h
  obtain rfl : v = Value.ref a := rx
  obtain rfl : u = Value.ref b := ry
  obtain ⟨_, O, _, _, _, _⟩ := ins_get I.hok ea
  obtain ⟨_, O', _, _, _, _⟩ := ins_get I.hok eb
  obtain ⟨_, J, _⟩ := O.look
  obtain ⟨_, J', _⟩ := O'.look
  have hun := hr.un
  have hv : Vals [V.ref a, V.ref b] [Value.ref a, Value.ref b] := .cons rfl (.cons rfl .nil)
  have hl : ([Value.ref a, Value.ref b] ++ ([] : List Value)).length = ps.length := by
    rw [List.append_nil, ← hv.length]
    exact F.len _ _ _ _ q
  have told : wpAny (model X.prog X.w) X.A (tryCompare (.ref a) "__ne__" (.ref b)) (fun r s' => ∃ c, r = some (.bool c) ∧ EP X pins σ Q (.bool c) s') X.xe s := by
    simp only [tryCompare]
    refine wpAny_bind (asked_B I.kIn J hne PySem.F.cmp_object.ne (wpAny_mono (ne_asks (Q := fun v s' => ∃ c, v = .bool c ∧ EP X pins σ Q (.bool c) s') (by omega) I.kIn J hs hf ko (wpAny_call (codeAny_mono (F.run X.A.in1 X.stack s H ⟨[.ref a, .ref b], []⟩ ([.ref a, .ref b] ++ []) [.ref a, .ref b] _ E hr.in1 I.env0.in1 (hb s [.ref a, .ref b] I.kIn hl) (by rw [List.append_nil]; exact hv) q) fun r s' hq => ?_))) (fun v s' hv' => ?_) fun _ _ e => e))
    · cases r with
      | error er => exact hx pins σ H s er s' I hq
      | ok fl =>
        cases fl with
        | ret z =>
          obtain ⟨z', H', I', rz, c, rfl, qz⟩ := I.after hq
          cases (show z = Value.bool c from rz)
          exact ⟨c, rfl, !c, rfl, .bl (!c), H', I', rfl, qz⟩
        | next => exact False.elim hq
        | brk => exact False.elim hq
        | cont => exact False.elim hq
    · obtain ⟨c, rfl, hp⟩ := hv'
      exact wpAny_pure ⟨c, rfl, hp⟩
  show wpAny _ _ (richCompare .NotEq (.ref a) (.ref b)) _ _ _
  unfold richCompare
  simp only [oneThing_ref]
  refine wpAny_holding (wpAny_bind (wpAny_cRoomFor (by omega) ?_))
  refine wpAny_bind (J.type.here (wpAny_bind (J'.type.here ?_)))
  have fin : ∀ {k : Option Value → Sem Value}, (∀ c s', EP X pins σ Q (.bool c) s' → wpAny (model X.prog X.w) X.A (k (some (.bool c))) (EP X pins σ Q) X.xe s') → wpAny (model X.prog X.w) X.A (tryCompare (.ref a) "__ne__" (.ref b) >>= k) (EP X pins σ Q) X.xe s := fun hk =>
    wpAny_bind (wpAny_mono told (fun r s' hr' => by obtain ⟨c, rfl, hp⟩ := hr'; exact hk c s' hp) fun _ _ e => e)
  split
  · rename_i q'
    exact absurd q' (by simp)
  · refine wpAny_bind (wpAny_pure ?_)
    simp only [Bool.false_eq_true, if_false]
    exact fin fun c s' hp => wpAny_pure hp
/-- what x == y and x != y find -/
structure EqF (K : PySem.W.Frag) (C g : Addr) : Prop where
  hs : PySem.W.findIn K (.ref C) "__eq__" = some (some (.ref g))
  hf : PySem.W.isFn K (.ref g) = true
  nf : PySem.W.notFirst K C (.ref C) = true
  ne : PySem.W.findIn K (.ref C) "__ne__" = some (some (.builtin "object.__ne__"))
  ko : PySem.W.subIn K (.ref C) (.type "object") = some true
end L2

namespace L2
open PySem PySem.Spec PyProof.Rows
/-! ### set(xs), xs a list of whole numbers (SetFor has it of a tuple) -/
section
variable {P : Program} {w : World} {A : Around} {E : Value → Shared → Prop} {s : Shared}
/-- a fresh set's object -/
abbrev emptySet (w : World) : Obj := { cls := .type "set", dict := none, data := .set #[] 0 (.fresh 0 0 (!w.params.followText "set-order")) }
set_option maxHeartbeats 6400000 in
/-- what __init__ makes of a fresh set -/
theorem fill_listI {a l : Addr} {items : Array Value} (ns : List Int) {R : Result → Shared → Prop} (hh : A.handled = none) (ha : s.heap.get? a = some (emptySet w)) (hl : s.heap.IsList l items) (hal : a ≠ l) (hit : IntsAre items.toList ns) (hb : ns.length + 1 < scanBound)
    (h : ∀ (h' : Heap) (tk c : Nat), SetR w h' a (fun j => decide (j ∈ ns)) c → c ≤ ns.length → (∀ b o, b ≠ a → s.heap.get? b = some o → h'.get? b = some o) → R (.ok (.ret .none)) { s with heap := h', toks := tk }) :
    codeAny (model P w) A (.call (.builtin "set.__init__") ⟨[.ref a, .ref l], []⟩) R s := by
  have n0 : items.size = ns.length := by simpa using IntsAre.length hit
  refine codeAny_call_builtin F.called_set.init.plain F.entry_set_init (check_set_init_1 ⟨_, ha, rfl⟩ ?_)
  obtain ⟨⟨oc, od, odt, osl⟩, hol, hcl, nl, hdl⟩ := id hl
  simp only at hcl hdl
  subst hcl hdl
  have k1 := F.sub_list_set
  have k2 := F.sub_list_frozenset
  have k3 : (Value.type "list" == Value.type "dict") = false := by decide
  unfold Builtin.«set.__init__» noKeywords Builtin.Frozenset.updateFrom
  generalize hI : pyIter = I
  wp_walk
  subst hI
  refine wpAny_pyIter_list hl ?_
  refine wpAny_bind (wpAny_runValue ?_)
  have la : a < s.heap.objs.size := Heap.lt_size ha
  have ll : l < s.heap.objs.size := Heap.lt_size hol
  have h2 : A.in1.in1.handled = none := by simp [hh]
  have nI : l ≠ s.heap.objs.size := Nat.ne_of_lt ll
  have na : a ∉ [s.heap.objs.size, l] := by
    simp only [List.mem_cons, List.not_mem_nil, or_false, not_or]
    exact ⟨Nat.ne_of_lt la, hal⟩
  have each : ∀ (i : Nat) (v : Value), items[i]? = some v → ∃ k t, ns[i]? = some k ∧ v = .int k t := fun i v hv => by
    have hi : i < ns.length := by rw [← n0]; exact (Array.getElem?_eq_some_iff.mp hv).1
    obtain ⟨t, e⟩ := PyProof.Rows.IntsAre.int_at hit i v (by rw [Array.getElem?_toList]; exact hv)
    exact ⟨ns[i], t, List.getElem?_eq_getElem hi, by rw [e, List.getD_eq_getElem?_getD, List.getElem?_eq_getElem hi]; rfl⟩
  refine set_update_ints ((Walks.list h2 _ l nI items).toS) a na ns n0 hb each (items.size - 0) 0 _ (by omega) (Nat.zero_le _) ⟨⟨_, Heap.get?_push_size _ rfl, rfl, rfl⟩, hl.push _⟩ ⟨0, Nat.le_refl 0, setR_new_at (Heap.get?_push_of_some _ ha)⟩ ?_
  intro s' c hm hc hS
  obtain ⟨h', g', d', tk', os'⟩ := s'
  obtain rfl : g' = s.gens := hm.gens
  obtain rfl : d' = s.drawn := hm.drawn
  obtain rfl : os' = s.os := hm.os
  rw [n0] at hc
  refine wpAny_pure (wpAny_pure (h h' tk' c hS hc fun b o hba e => ?_))
  have hb0 : b < s.heap.objs.size := Heap.lt_size e
  exact hm.heap b o (by simp only [List.mem_cons, List.not_mem_nil, or_false, not_or]; exact ⟨hba, Nat.ne_of_lt hb0⟩) (Heap.get?_push_of_some _ e)
set_option maxHeartbeats 6400000 in
theorem call_set_listI {l : Addr} {items : Array Value} (ns : List Int) {Q : Value → Shared → Prop} (hh : A.handled = none) (hl : s.heap.IsList l items) (hit : IntsAre items.toList ns) (hb : ns.length + 1 < scanBound)
    (h : ∀ (h' : Heap) (tk c : Nat), SetR w h' s.heap.objs.size (fun j => decide (j ∈ ns)) c → c ≤ ns.length → (∀ b o, s.heap.get? b = some o → h'.get? b = some o) → Q (.ref s.heap.objs.size) { s with heap := h', toks := tk }) :
    wpAny (model P w) A (call (.type "set") [.ref l]) Q E s := by
  have n0 : items.size = ns.length := by simpa using IntsAre.length hit
  have lt0 : l < s.heap.objs.size := by
    obtain ⟨_, e, _⟩ := hl
    exact Heap.lt_size e
  have c1 := F.called_set.made
  have c2 := F.called_set.sub
  have c3 := F.called_set.notType
  have c4 := F.called_set.canCreate
  have c5 := F.typeCall_set_1 (.ref l)
  have c6 := F.called_set.init.lookup
  have c7 := F.called_set.init.bind (.ref s.heap.objs.size)
  obtain ⟨c, tl, c8⟩ := F.called_set.mro
  refine wpAny_call (codeAny_of_tree ?_)
  show wpAny _ _ (callAny (.type "set") _) _ _ _
  refine wpAny_pure ⟨Code.quiet_builtin _ (by decide +kernel), codeAny_builtin F.entry_type_call ?_⟩
  rw [Around.under_plain (weight_type_call_type "set" [.ref l] []) rfl]
  repeat (any_goals (first | assumption | wp_step))
  -- the new set
  refine codeAny_mono (code_set_led1 (.ref l) (E := E) (Q₁ := fun v s1 => v = .ref s.heap.objs.size ∧ s1 = { s with heap := s.heap.push (emptySet w) }) ⟨rfl, rfl⟩) fun r s1 hr => ?_
  rcases r with e | f
  · exact hr
  rcases f with _ | v | _ | _
  case next => exact hr.elim
  case brk => exact hr.elim
  case cont => exact hr.elim
  obtain ⟨rfl, rfl⟩ := hr
  have sz1 : (s.heap.push (emptySet w)).objs.size = s.heap.objs.size + 1 := Heap.size_push ..
  have got : (s.heap.push (emptySet w)).get? s.heap.objs.size = some (emptySet w) := Heap.get?_push_size _ rfl
  have ty : Shared.TypeIs { s with heap := s.heap.push (emptySet w) } (.ref s.heap.objs.size) "set" := ⟨_, got, rfl⟩
  repeat (any_goals (first | assumption | wp_step))
  have hl1 : (s.heap.push (emptySet w)).IsList l items := hl.push _
  refine fill_listI (w := w) ns (by simp [hh]) got hl1 (Nat.ne_of_gt lt0) hit hb fun h' tk c hS hc hk => ?_
  refine wpAny_pure ?_
  repeat (any_goals (first | assumption | wp_step))
  exact h h' tk c hS hc fun b o e => hk b o (Nat.ne_of_lt (Heap.lt_size e)) (Heap.get?_push_of_some _ e)
end
section
variable {X : Cx}
/-- set(xs), xs a list of whole numbers: the set's members are told, their number is some c -/
def rSetOfI (K : PySem.W.Frag) (w : World) : List V → Hp → VK → Prop := fun xs H Q => ∃ (l : Addr) (ns : List Int), xs = [.ref l] ∧ SqL K H l (ns.map V.int) ∧ ns.length ≤ 1000 ∧
  ∀ (p : Addr) (c : Nat), c ≤ ns.length → H p = none → Q (.ref p) (upd H p (SetO w p (fun j => decide (j ∈ ns)) c))
theorem cr_setOfI (hc : X.calm = true) : CallR X (.type "set") (rSetOfI X.K X.w) := by
  intro pins s σ H xs us Q I r h
  obtain ⟨l, ns, rfl, hs, h10, q⟩ := h
  rw [Vals.ref1 r]
  obtain ⟨its, rv, pl, hz⟩ := I.list hs
  refine call_set_listI ns (I.ok.hd hc) pl.isList (by simpa using ints_of_vals rv) (by unfold scanBound; omega) fun h' tk c hS hc hk => ?_
  have hn : H s.heap.objs.size = none := I.hok.fresh (Nat.le_refl _)
  exact ⟨.ref _, _, I.laid (t' := tk) hk (Nat.le_refl _) (setO_new hS), rfl, q _ c hc hn⟩
end
end L2

namespace L2
open PySem PySem.Spec PyProof.Rows
open PpSet
/-! ### {e for x in xs}, e a whole number (SetBool has it of truth values) -/
/-- D is the new set; each turn's e joins it -/
def tScI (w : World) (wi : TI) (g : TG) (te : TE) (vs : List Nat) : TE := fun σ H Q => wi σ H fun J H1 => ∀ D, H1 D = none → ∃ W : Nat → Nat → Hp → Prop, (∃ m, W 0 m (upd H1 D (SetO w D (fun _ => false) 0))) ∧ ∀ i m H, W i m H →
  (J.stop i H ∧ Q (.ref D) H) ∨ (J.go i H ∧ ∃ Nx : Hp → Prop, (∀ H', Nx H' → ∃ m', m' < m ∧ W (i + 1) m' H') ∧ ∀ x H', J.yld i H x H' → g x (wipe σ vs) H' fun σ2 H2 => wipe σ2 vs = wipe σ vs ∧
    te σ2 H2 fun y H4 => ∃ (c : Int) (S : Int → Bool) (n : Nat), y = .int c ∧ H4 D = some (SetO w D S n) ∧ n + 1 < scanBound ∧ Nx (upd H4 D (SetO w D (fun j => S j || decide (j = c)) (if S c = true then n else n + 1))))
section
variable {X : Cx}
theorem joinI {pins : List (Addr × Obj)} {σ : L2.St} {H : Hp} {s : Shared} {E : Value → Shared → Prop} {D : Addr} {S : Int → Bool} {n : Nat} {y : Int} {tk : Tok} {Q : Value → Shared → Prop} (I : Inv X pins σ H s) (hD : H D = some (SetO X.w D S n)) (room : n + 1 < scanBound)
    (h : ∀ s', Inv X pins σ (upd H D (SetO X.w D (fun j => S j || decide (j = y)) (if S y = true then n else n + 1))) s' → Q .none s') : wpAny (model X.prog X.w) X.A (call (.builtin "set.add") [.ref D, .int y tk]) Q E s := by
  refine setR_add (setO_get I hD) room fun h' sb new => h _ ?_
  obtain ⟨o, _, _, _, ho, _⟩ := id new
  exact I.write (e := D) (t' := s.toks + 1) (by rw [hD]; trivial) (.inl rfl) (fun b u hb hu => (sb.2 b hb).trans hu) ⟨o, ho⟩ (setO_new new)
theorem pe_scI {elt tg iter : Expr} {scope : Scope} {own : List (PySem.Str × Nat)} {pos : Pos} {wi : TI} {g : TG} {te : TE} (hc : X.calm = true) (hN : X.N.Nodup) (hi : PI X tg iter wi) (ok : BlkOk X.N X.env.scope scope own)
    (hg : ∀ (s : Shared) (H : Hp) (C : Addr) (cl : List (PySem.Str × Addr)) (fp : List Addr), PG (X.blk s H scope (compEnvC scope cl C X.env) fp) tg g)
    (he : ∀ (s : Shared) (H : Hp) (C : Addr) (cl : List (PySem.Str × Addr)) (fp : List Addr), PE (X.blk s H scope (compEnvC scope cl C X.env) fp) elt te) (hs : ∀ x, foldedSetIterable iter X.env x = pure x := by intro _; rfl) :
    PE X (.SetComp elt [⟨tg, iter, [], 0⟩] scope pos) (tScI X.w wi g te (own.map (·.2))) := by
  refine ⟨fun pins s σ H Q I h => ?_⟩
  rw [eval_SetComp]
  have free : ∀ y ∈ scope.names, y.2 = .free → ∃ c, X.env.cells.lookup y.1 = some c := fun y hy e => (ok.free y hy e).elim (fun k => I.ok.has _ (.inl k)) (fun k => I.ok.has _ (.inr k))
  refine wpAny_comprehension_free rfl hs (closure_ok free) ok.kind (fun y hy e => by rw [ok.uniq y hy, e]) (thn (hi.run pins s σ H _ I h) fun xv s1 hx => thn hx fun itv s2 hw => ?_)
  obtain ⟨it, fp, tn, J, H2, rfl, I2, T, st2, f2, q⟩ := hw
  refine newSet_ok (newEnv_comp ?_)
  generalize eD : s2.heap.objs.size = D
  obtain ⟨W, ⟨m0, w0⟩, turn⟩ := q D (I2.hok.fresh (Nat.le_of_eq eD))
  -- the set that has just been made, then the block's own names
  obtain ⟨s3, e3⟩ : ∃ s3 : Shared, s3 = { s2 with heap := s2.heap.push (emptySet X.w) } := ⟨_, rfl⟩
  obtain ⟨H3, eH⟩ : ∃ H3 : Hp, H3 = upd H2 D (SetO X.w D (fun _ => false) 0) := ⟨_, rfl⟩
  rw [← eH] at w0
  have I3 : Inv X pins σ H3 s3 := by
    rw [e3, eH]
    refine I2.laid (t' := s2.toks) (fun b o e => Heap.get?_push_of_some _ e) (Nat.le_of_eq eD) ?_
    rw [← eD]
    exact setO_new (setR_fresh X.w)
  have kept : ∀ b o, s2.heap.get? b = some o → s3.heap.get? b = some o := fun b o e => by rw [e3]; exact Heap.get?_push_of_some _ e
  have below : ∀ b ∈ fp, b < D ∧ b < s3.heap.objs.size := fun b hb => by
    obtain ⟨o, e, _⟩ := T.obj _ _ st2 b hb
    exact ⟨by rw [← eD]; exact Heap.lt_size e, Heap.lt_size (kept b o e)⟩
  have f3 : ∀ b ∈ fp, FpOk X pins H3 b ∧ b < s3.heap.objs.size := fun b hb => ⟨⟨by rw [eH, upd_ne (Nat.ne_of_lt (below b hb).1)]; exact (f2 b hb).1, (f2 b hb).2⟩, (below b hb).2⟩
  have unseen : ∀ b ∈ fp, H3 b = none := fun b hb => (f3 b hb).1.1
  have I4 := block_start I3 ok hN f3
  have pg := hg s3 H3 s3.heap.objs.size (cellsFrom (s3.heap.objs.size + 1) scope.names (cloFrom X.env.cells scope.names [])) fp
  have pe := he s3 H3 s3.heap.objs.size (cellsFrom (s3.heap.objs.size + 1) scope.names (cloFrom X.env.cells scope.names [])) fp
  have goal : codeAny (model X.prog X.w) X.A (.compStart (.SetComp elt [⟨tg, iter, [], 0⟩] scope pos) 0 (.ref it) (.ref D) (compEnvC scope (cellsFrom (s3.heap.objs.size + 1) scope.names (cloFrom X.env.cells scope.names [])) s3.heap.objs.size X.env))
      (compPost (model X.prog X.w) X.A X.xe none (EP X pins σ Q) (.ref D) s3.heap.objs.size) { s3 with heap := pushCells (s3.heap.push { cls := .type "dict", data := .dict #[] }) scope.names } := ?_
  · rw [e3, ← eD] at goal
    rw [← eD]
    exact goal
  have st3 : tn 0 s3.heap := T.keep _ _ _ st2 fun b _ o e => kept b o e
  generalize eE : compEnvC scope (cellsFrom (s3.heap.objs.size + 1) scope.names (cloFrom X.env.cells scope.names [])) s3.heap.objs.size X.env = ce at I4 pg pe ⊢
  have loc : ce.locals = s3.heap.objs.size := by rw [← eE]; rfl
  obtain ⟨s4, e4⟩ : ∃ s4 : Shared, s4 = { s3 with heap := pushCells (s3.heap.push { cls := .type "dict", data := .dict #[] }) scope.names } := ⟨_, rfl⟩
  rw [← e4] at I4 ⊢
  have st4 : tn 0 s4.heap := T.keep _ _ _ st3 fun b _ o e => by rw [e4]; exact pushCells_keeps _ _ _ _ (Heap.get?_push_of_some _ e)
  -- the walker's own objects stay out of sight within the block
  have out : ∀ {σ' : L2.St} {H' : Hp} {s' : Shared}, Inv (X.blk s3 H3 scope ce fp) [] σ' H' s' → (∀ b ∈ fp, H' b = none) → ∀ b ∈ fp, FpOk (X.blk s3 H3 scope ce fp) [] H' b := fun {σ' H' s'} J' hn b hb =>
    ⟨hn b hb, (J'.ok.exf b hb).1, J'.ok.exfs b hb, .inl hb, fun x c e => (J'.ok.exf b hb).2 x c e, fun p hp => absurd (show p ∈ ([] : List (Addr × Obj)) ++ [] from hp) (by simp)⟩
  have loop : codeAny (model X.prog X.w) X.A (.compLoop (.SetComp elt [⟨tg, iter, [], 0⟩] scope pos) 0 (.ref it) (.ref D) ce) (compPost (model X.prog X.w) X.A X.xe none (EP X pins σ Q) (.ref D) s3.heap.objs.size) s4 := by
    refine compLoopS_any (fun n s' => ∃ i H', Inv (X.blk s3 H3 scope ce fp) [] (wipe σ (own.map (·.2))) H' s' ∧ tn i s'.heap ∧ (∀ b ∈ fp, H' b = none) ∧ W i n H') ?_ m0 ⟨0, H3, I4, st4, unseen, w0⟩
    rintro n s5 ⟨i, H5, I5, st5, n5, w5⟩
    rcases turn i n H5 w5 with ⟨stop, done⟩ | ⟨go, Nx, less, step⟩
    · refine thnF (T.done (X.blk s3 H3 scope ce fp) rfl rfl rfl hc i [] s5 _ H5 (fun _ _ => False) I5 (out I5 n5) st5 stop) fun r s6 hr => ?_
      obtain ⟨rfl, I6⟩ := hr
      have I7 : Inv X pins σ H5 s6 := I3.call' (ch := fp) I6.os I6.base I6.hok I6.bare fun b hb => ⟨(f3 b hb).1.2.2.2.1, (f3 b hb).1.2.1, (f3 b hb).1.2.2.2.2.1, (f3 b hb).1.2.2.2.2.2⟩
      have nL : H5 s3.heap.objs.size = none := by
        have z : H5 ce.locals = none := I6.free
        rwa [loc] at z
      obtain ⟨m, hm, _⟩ := I6.loc
      have hm : s6.heap.Ns ce.locals m := hm
      rw [loc] at hm
      refine ⟨m, hm, fun h'' sb => ?_⟩
      obtain ⟨f0, f1, _, g3, g4, g5⟩ := I3.fpOk (Nat.le_refl _) nL
      exact ⟨.ref D, H5, I7.turned (t' := s6.toks) (fun b o hb e => (sb.2 b hb).trans e) f0 f1 g3 g4 g5, rfl, done⟩
    · refine thnF (T.item (X.blk s3 H3 scope ce fp) rfl rfl rfl hc i [] s5 _ H5 (fun _ _ => False) I5 (out I5 n5) st5 go) fun r s6 hr => ?_
      obtain ⟨u, rfl, h6⟩ := hr
      refine thnF h6 fun _ s7 hy => ?_
      obtain ⟨x, H7, I7, r7, y7, st7, n7⟩ := hy
      refine thnF (pg.run _ s7 _ H7 x u _ (I7.pinned (out I7 n7) (T.obj _ _ st7)) r7 (step x H7 y7)) fun _ s8 hp => ?_
      obtain ⟨σ8, H8, I8, w8, q8⟩ := hp
      -- no test: on to the item
      refine wpAny_pure ?_
      simp only [if_true]
      refine thnF (pe.run _ s8 σ8 H8 _ I8 q8) fun z s9 hz => ?_
      obtain ⟨y, H9, I9, r9, c, S, k, rfl, hD9, room, nx⟩ := hz
      obtain ⟨tk, rfl⟩ := r9
      refine joinI (X := X.blk s3 H3 scope ce fp) I9 hD9 room fun s10 I10 => ?_
      obtain ⟨m', hm', w'⟩ := less _ nx
      have pin : ∀ b ∈ fp, ∀ o, s7.heap.get? b = some o → s10.heap.get? b = some o ∧ _ = none := fun b hb o e =>
        let z := I10.pin (b, o) (List.mem_append_right _ (List.mem_append_right _ (mem_pinsAt hb e)))
        ⟨z.1, z.2.1⟩
      refine ⟨m', hm', i + 1, _, (I10.unpinned (pins := [])).weak (by rw [← w8, wipe_length]) (fun j v e => ?_), T.keep _ _ _ st7 fun b hb o e => (pin b hb o e).1, fun b hb => ?_, w'⟩
      · rw [← w8] at e
        exact (wipe_some e).1
      · obtain ⟨o, e, _⟩ := T.obj _ _ st7 b hb
        exact (pin b hb o e).2
  exact codeAny_compStart_set loop (T.self X.A 0 _ _ _ st4 loop)
end
end L2

namespace L2
open PySem PySem.Spec PyProof.Rows
/-- a list comprehension that makes one new object a turn, whatever else it lays -/
theorem lc_made {α : Type} {J : It} {G : Hp → Prop} {as : List α} {g : α → V} (w : Walk J (as.map g).length G (YAt (as.map g))) {te : TE} {vs : List Nat} {σ : St} {H1 : Hp} {D : Addr} {Qd : Hp → Prop} {j : Nat} (o : α → HO)
    (hD : H1 D = none) (hG : ∀ H', Same H1 H' → G H') (hl : as.length ≤ 1000) (hw : ∀ x, wipe ((wipe σ vs).set j (some x)) vs = wipe σ vs)
    (he : ∀ a ∈ as, ∀ (H' : Hp) (Q : VK), Same H1 H' → (∀ t H'', Same H' H'' → H' t = none → H'' t = some (o a) → Q (.ref t) H'') → te ((wipe σ vs).set j (some (g a))) H' Q)
    (hd : ∀ (ps : List Addr) (H' : Hp), Same H1 H' → H' D = some (.lst (ps.map V.ref)) → Paired (fun p a => H' p = some (o a) ∧ H1 p = none) ps as → Qd H') (ho : ∀ a xs, o a ≠ .lst xs) :
    ∃ W : Nat → Nat → Hp → Prop, (∃ m, W 0 m (upd H1 D (.lst []))) ∧ ∀ i m H, W i m H →
      (J.stop i H ∧ Qd H) ∨ (J.go i H ∧ ∃ Nx : Hp → Prop, (∀ H', Nx H' → ∃ m', m' < m ∧ W (i + 1) m' H') ∧ ∀ x H', J.yld i H x H' → gName j x (wipe σ vs) H' fun σ2 H2 => wipe σ2 vs = wipe σ vs ∧ tYes σ2 H2 fun b H3 =>
        if b = true then te σ2 H3 fun y H4 => ∃ acc, H4 D = some (.lst acc) ∧ acc.length < sizeLine ∧ Nx (upd H4 D (.lst (acc ++ [y]))) else Nx H3) := by
  have ln : (as.map g).length = as.length := List.length_map _
  refine lc_it w (fun i H => ∃ ps : List Addr, Same H1 H ∧ H D = some (.lst (ps.map V.ref)) ∧ ps.length = i ∧ Paired (fun p a => H p = some (o a) ∧ H1 p = none) ps (as.take i)) ⟨[], same_of_none hD, upd_same, rfl, .nil⟩ (fun i H _ ⟨ps, s, _⟩ => hG _ s) (fun i x H H' hi h y => ?_) (fun H h => ?_)
  · obtain ⟨ps, s, hDl, hpl, hP⟩ := h
    obtain ⟨rfl, hx⟩ := y
    rw [List.getElem?_map] at hx
    obtain ⟨a, ha, rfl⟩ := Option.map_eq_some_iff.mp hx
    have hm : a ∈ as := List.mem_of_getElem? ha
    refine ⟨hw _, ?_⟩
    unfold tYes
    refine if_pos rfl |>.mpr (he a hm _ _ s fun t H2 s2 ht h2 => ?_)
    have hD2 := s2 _ _ hDl
    have htD : t ≠ D := fun z => by rw [z, hDl] at ht; cases ht
    refine ⟨_, hD2, small1000 (by rw [List.length_map]; omega), ps ++ [t], (s.trans s2).unseen hD, by rw [upd_same, List.map_append]; rfl, by rw [List.length_append, hpl]; rfl, ?_⟩
    rw [take_more ha]
    refine Paired.snoc (hP.mono fun p b h => ?_) ⟨by rw [upd_ne htD]; exact h2, s.free ht⟩
    have hpD : p ≠ D := fun z => by
      have h1 := h.1
      rw [z, hDl] at h1
      exact ho _ _ (Option.some.inj h1).symm
    exact ⟨by rw [upd_ne hpD]; exact s2 _ _ h.1, h.2⟩
  · obtain ⟨ps, s, hDl, _, hP⟩ := h
    rw [ln, List.take_length] at hP
    exact hd ps H s hDl hP
/-- a set comprehension of whole numbers whose parts touch nothing -/
theorem sc_am {wd : World} {α : Type} {J : It} {G : Hp → Prop} {as : List α} {g : α → V} (w : Walk J (as.map g).length G (YAt (as.map g))) {te : TE} {vs : List Nat} {σ : St} {H1 : Hp} {D : Addr} {Qd : Hp → Prop} {j : Nat} (f : α → Int)
    (hD : H1 D = none) (hG : ∀ H', Same H1 H' → G H') (hl : as.length ≤ 1000) (hw : ∀ x, wipe ((wipe σ vs).set j (some x)) vs = wipe σ vs)
    (he : ∀ a ∈ as, ∀ H', Same H1 H' → Is te ((wipe σ vs).set j (some (g a))) H' (.int (f a)))
    (hd : ∀ c, c ≤ as.length → Qd (upd H1 D (SetO wd D (fun k => decide (k ∈ as.map f)) c))) :
    ∃ W : Nat → Nat → Hp → Prop, (∃ m, W 0 m (upd H1 D (SetO wd D (fun _ => false) 0))) ∧ ∀ i m H, W i m H →
      (J.stop i H ∧ Qd H) ∨ (J.go i H ∧ ∃ Nx : Hp → Prop, (∀ H', Nx H' → ∃ m', m' < m ∧ W (i + 1) m' H') ∧ ∀ x H', J.yld i H x H' → gName j x (wipe σ vs) H' fun σ2 H2 => wipe σ2 vs = wipe σ vs ∧
        te σ2 H2 fun y H4 => ∃ (c : Int) (S : Int → Bool) (n : Nat), y = .int c ∧ H4 D = some (SetO wd D S n) ∧ n + 1 < scanBound ∧ Nx (upd H4 D (SetO wd D (fun j => S j || decide (j = c)) (if S c = true then n else n + 1)))) := by
  have sm : ∀ o, Same H1 (upd H1 D o) := fun o => same_of_none hD
  have ln : (as.map g).length = as.length := List.length_map _
  refine ⟨fun i m H => m = (as.map g).length - i ∧ i ≤ (as.map g).length ∧ ∃ c, c ≤ i ∧ H = upd H1 D (SetO wd D (fun k => decide (k ∈ (as.take i).map f)) c), ⟨(as.map g).length, by simp, Nat.zero_le _, 0, Nat.le_refl 0, by simp⟩, ?_⟩
  rintro i m H ⟨rfl, hi, c, hc, rfl⟩
  by_cases hlt : i < (as.map g).length
  · refine .inr ⟨w.goes i _ hlt (hG _ (sm _)), fun H => ∃ c, c ≤ i + 1 ∧ H = upd H1 D (SetO wd D (fun k => decide (k ∈ (as.take (i + 1)).map f)) c), fun H' p' => ⟨(as.map g).length - (i + 1), by omega, rfl, hlt, p'⟩, fun x H' y => ?_⟩
    obtain ⟨rfl, hx⟩ := w.yields i _ x H' hlt (hG _ (sm _)) y
    rw [List.getElem?_map] at hx
    obtain ⟨a, ha, rfl⟩ := Option.map_eq_some_iff.mp hx
    refine ⟨hw _, he a (List.mem_of_getElem? ha) _ (sm _) _ ⟨f a, _, c, rfl, upd_same, by unfold scanBound; omega, (if decide (f a ∈ (as.take i).map f) = true then c else c + 1), ?_, ?_⟩⟩
    · split <;> omega
    · rw [upd_upd]
      have : (fun j => decide (j ∈ (as.take i).map f) || decide (j = f a)) = fun k => decide (k ∈ (as.take (i + 1)).map f) := by
        funext k
        rw [take_more ha, List.map_append]
        simp [List.mem_append]
      rw [this]
  · have e : i = (as.map g).length := by omega
    subst e
    refine .inl ⟨w.stops _ (hG _ (sm _)), ?_⟩
    rw [ln, List.take_length]
    exact hd c (by omega)
theorem lv_of {am : Am} {ns : List Int} (h : ns.Pairwise (· < ·)) (hm : ∀ k : Int, k ∈ ns ↔ decide (k ∈ am.map (·.2)) = true) : IsLv am ns.reverse :=
  ⟨List.pairwise_reverse.mpr h, fun z => by rw [List.mem_reverse, hm z, decide_eq_true_iff]⟩
theorem tups_of {H1 H' : Hp} {f : Int → List Str} {ps : List Addr} {ns : List Int} (h : Paired (fun p z => H' p = some (.tup ((f z).map V.str)) ∧ H1 p = none) ps ns) : TupsAt H' (ps.map V.ref) (ns.map f) := by
  induction h with
  | nil => exact .nil
  | cons a _ ih => exact .cons a.1 ih
theorem new_of {H1 H' : Hp} {β : Type} {o : β → HO} {ps : List Addr} {ns : List β} (h : Paired (fun p z => H' p = some (o z) ∧ H1 p = none) ps ns) : ∀ v ∈ ps.map V.ref, ∃ t, v = .ref t ∧ H1 t = none := by
  induction h with
  | nil => exact fun _ h => nomatch h
  | @cons p z _ _ a _ ih =>
    intro v hv
    rcases List.mem_cons.mp hv with rfl | hv
    · exact ⟨p, rfl, a.2⟩
    · exact ih v hv
theorem ex_srt (a : Am) : ∃ sa : Am, sa.Perm a ∧ srt sa := by
  refine ⟨a.mergeSort (fun p q => !ltCps q.1.cps.toList p.1.cps.toList), List.mergeSort_perm _ _, sortedS_of_pairwise _ ?_⟩
  have h := List.pairwise_mergeSort (le := fun p q : Str × Int => !ltCps q.1.cps.toList p.1.cps.toList) (fun x y z h1 h2 => by
    rw [Bool.not_eq_true'] at h1 h2 ⊢
    exact leS_trans (x := x.1) (y := y.1) (z := z.1) h1 h2) (fun x y => by
    rw [ltCps_eq, ltCps_eq]
    by_cases h : y.1.cps.toList < x.1.cps.toList
    · have : ¬ x.1.cps.toList < y.1.cps.toList := List.lt_asymm h
      simp [this]
    · simp [h]) a
  unfold amS
  rw [List.pairwise_map]
  exact h.imp fun {x y} hxy => by rwa [Bool.not_eq_true'] at hxy
theorem TupsAt.put {H : Hp} {vs : List V} {l : List (List Str)} (h : TupsAt H vs l) {r : Addr} {xs ys : List V} (hr : H r = some (.lst xs)) : TupsAt (upd H r (.lst ys)) vs l := by
  induction h with
  | nil => exact .nil
  | @cons t ws _ _ a _ ih => exact .cons (by rw [upd_ne (fun z => by rw [z, hr] at a; cases a)]; exact a) ih
end L2

namespace L2
open PySem PySem.Spec PyProof.Rows
/-- a def that may raise, asked only where it doesn't -/
theorem passF {X : Cx} : Passes (L2.CX X.prog X.w) X E0 := by
  intro pins σ H s e s' I c
  obtain ⟨_, _, _, _, _, _, _, _, _, _, _, _, z⟩ := c
  exact False.elim z
end L2

namespace OwnIn
open PySem PySem.SeqAt PySem.W
open AutoSeq1 (wpAny_loadPart')
open MeetsSeq MeetsSeq2 MeetsSeq3 SeqRoads2
section
variable {prog : Program} {w : World} {A : Around} {R : Result → Shared → Prop}
/-- a built-in's body has ended, or goes on -/
abbrev FinOf (prog : Program) (w : World) (A : Around) (R : Result → Shared → Prop) : Fin → Shared → Prop := fun fin s' => match fin with
  | .done f => R (.ok f) s'
  | .again c' => c'.quiet = true ∧ codeAny (model prog w) A c' R s'
theorem call_here {T : String} {name : Str} {id : String} {B : Builtin} {u : Value} {us : List Value} {E : Value → Shared → Prop} {Q : Value → Shared → Prop} {s : Shared} (sl : Slot T name id) (hT : s.TypeIs u T) (en : entryFor table id = some B) (ar : argsOk id ⟨u :: us, []⟩)
    (h : wpAny (model prog w) A.in1 (B ⟨u :: us, []⟩) (FinOf prog w A (wants Q E)) (fun e s' => wants Q E (.error e) s') s) : wpAny (model prog w) A (call (.builtin id) (u :: us)) Q E s := by
  refine wpAny_call (codeAny_call_builtin sl.plain en (sl.check _ _ _ _ _ _ _ _ hT ar ?_))
  refine wpAny_mono h (fun fin s' q => ?_) fun _ _ e => e
  cases fin <;> exact q
/-- at each turn the list is read anew: N items, none of them equal to x -/
def ListC (prog : Program) (w : World) (A : Around) (E : Value → Shared → Prop) (l : Addr) (x : Value) (N : Nat) (I : Nat → Shared → Prop) : Prop :=
  ∀ i s, I i s → ∃ (items : Array Value) (n : Nat) (dd : Option Addr) (sl : Array (Option Value)), s.heap.get? l = some { cls := .type "list", dict := dd, data := .seq items n, slots := sl } ∧ items.size = N ∧
    ∀ (h1 : i < items.size), wpAny (model prog w) A.in1 (eqBool items[i] x) (fun r s' => r = false ∧ I (i + 1) s') E s
theorem contains_loopG (l : Addr) (x : Value) (N : Nat) (I : Nat → Shared → Prop) (hl : ListC prog w A (fun e s' => R (.error e) s') l x N I)
    (fin : ∀ s, I N s → R (.ok (.ret (.bool false))) s) (k : Nat) :
    ∀ i : Nat, N - i = k → i ≤ N → ∀ s, I i s →
      wpAny (model prog w) A.in1 (Builtin.«list.__contains__.loop» ⟨[.ref l, x, rawInt i], []⟩) (FinOf prog w A R) (fun e s' => R (.error e) s') s := by
  induction k with
  | zero =>
    intro i hk hi s h
    obtain ⟨items, n, dd, sl, hl1, hs1, _⟩ := hl _ _ h
    have hi' : i = N := by omega
    have hR : R (.ok (.ret (.bool false))) s := fin s (hi' ▸ h)
    obtain ⟨hp, g, d, tk, os⟩ := s
    wp_walk using wpAny_loadPart' hl1
    have hi1 : items[((i : Nat) : Int).toNat]? = none := by simp; omega
    rw [hi1]
    wp_walk
    exact hR
  | succ k ih =>
    intro i hk hi s h
    obtain ⟨items, n, dd, sl, hl1, hs1, turn⟩ := hl _ _ h
    have hlt : i < items.size := by omega
    have ht := turn hlt
    obtain ⟨hp, g, d, tk, os⟩ := s
    wp_walk using wpAny_loadPart' hl1
    have hi1 : items[((i : Nat) : Int).toNat]? = some items[i] := by simp [hlt]
    have hc : ((i : Int) + 1) = ((i + 1 : Nat) : Int) := by omega
    rw [hi1]
    refine wpAny_bind (wpAny_mono ht (fun r s2 h2 => ?_) fun _ _ x => x)
    obtain ⟨hr, h2⟩ := h2
    subst hr
    have hrec := ih (i + 1) (by omega) (by omega) s2 h2
    obtain ⟨hp2, g2, d2, tk2, os2⟩ := s2
    wp_walk
    rw [hc]
    exact ⟨plainId_quiet plain_contains_loop _, codeAny_builtin entry_contains_loop (by
      rw [Around.under_plainId plain_contains_loop _]
      exact hrec)⟩
theorem list_containsG (l : Addr) (x : Value) (N : Nat) (I : Nat → Shared → Prop) (hl : ListC prog w A (fun e s' => R (.error e) s') l x N I)
    (fin : ∀ s, I N s → R (.ok (.ret (.bool false))) s) {s : Shared} (h : I 0 s) :
    wpAny (model prog w) A.in1 (Builtin.«list.__contains__» ⟨[.ref l, x], []⟩) (FinOf prog w A R) (fun e s' => R (.error e) s') s := by
  obtain ⟨items, n, dd, sl, hl1, hs1, _⟩ := hl _ _ h
  have hrec := contains_loopG (A := A) (R := R) l x N I hl fin _ 0 rfl (Nat.zero_le _) s h
  obtain ⟨hp, g, d, tk, os⟩ := s
  wp_walk using wpAny_loadPart' hl1
  exact ⟨plainId_quiet plain_contains_loop _, codeAny_builtin entry_contains_loop (by
    rw [Around.under_plainId plain_contains_loop _]
    exact hrec)⟩
end
section
variable {prog : Program} {w : World} {A : Around} {E : Value → Shared → Prop} {s : Shared}
theorem in_listG {l : Addr} {x : Value} {N : Nat} {Q : Value → Shared → Prop} (I : Nat → Shared → Prop) (hl : ListC prog w A E l x N I)
    (fin : ∀ s, I N s → Q (.bool false) s) (h : I 0 s) : wpAny (model prog w) A (compareOp .In x (.ref l)) Q E s := by
  obtain ⟨items, n, dd, sl, hl1, hs1, _⟩ := hl _ _ h
  show wpAny _ A (do return .bool (← contains (.ref l) x)) Q E s
  refine wpAny_bind (wpAny_contains_slot ⟨_, hl1, rfl⟩ F.slot_list_contains (wpAny_mono (call_here (Q := fun v s' => v = .bool false ∧ Q (.bool false) s') F.slot_list_contains ⟨_, hl1, rfl⟩ F.entry_list_contains (F.args_list_contains_2 _ _) ?_) (fun v s' hv => ?_) fun _ _ e => e))
  · exact list_containsG (R := wants (fun v s' => v = .bool false ∧ Q (.bool false) s') E) l x N I hl (fun s' q => ⟨rfl, fin s' q⟩) h
  · obtain ⟨rfl, hq⟩ := hv
    exact wpAny_truthy_bool (wpAny_pure hq)
end
section
variable {prog : Program} {w : World} {A : Around} {E : Value → Shared → Prop} {s : Shared} {K : Frag} {b C g : Addr} {ob : Obj} {od : Option Obj}
/-- u == b, b an instance with its own __eq__ at g, which is asked behind a refusal -/
theorem rc_own {u : Value} {Q : Value → Shared → Prop} {T id : String} (hu : A.units < cLine) (X : K.In s.heap) (J : InstAt s.heap b ob C od) (hT : s.TypeIs u T) (slot : Slot T "__eq__" id)
    (hc : wpAny (model prog w) A (call (.builtin id) [u, .ref b]) (fun v s' => v = .notImplemented ∧ s' = s) E s) (h1 : oneThing? .Eq u (.ref b) = none) (hsub : subIn K (.ref C) (.type T) = some false)
    (hs : findIn K (.ref C) "__eq__" = some (some (.ref g))) (hf : isFn K (.ref g) = true)
    (h : wpAny (model prog w) A (call (.ref g) [.ref b, u]) (fun v s' => ∃ c, v = .bool c ∧ Q (.bool c) s') E s) : wpAny (model prog w) A (richCompare .Eq u (.ref b)) Q E s := by
  have two : wpAny (model prog w) A (tryCompare (.ref b) "__eq__" u) (fun r s' => ∃ c, r = some (.bool c) ∧ Q (.bool c) s') E s := by
    unfold tryCompare
    refine wpAny_bind (ifBound_K X J hs hf (wpAny_mono h (fun v s' hv => ?_) fun _ _ e => e))
    obtain ⟨c, rfl, q⟩ := hv
    exact wpAny_pure ⟨c, rfl, q⟩
  have one : wpAny (model prog w) A (tryCompare u "__eq__" (.ref b)) (fun r s' => r = none ∧ s' = s) E s :=
    wpAny_tryCompare_declines hT slot (wpAny_mono hc (fun v s' z => ⟨z.1, rfl, z.2⟩) fun _ _ e => e)
  simp only [richCompare, cmpInfo_Eq, h1]
  refine wpAny_holding (wpAny_bind (wpAny_cRoomFor hu ?_))
  refine wpAny_bind (wpAny_typeOf hT (wpAny_bind (J.type.here ?_)))
  split
  · refine wpAny_bind ((looks_subIn X hsub).here ?_)
    simp only [Bool.false_eq_true, if_false, Bool.not_false, if_true]
    refine wpAny_bind (m := tryCompare u _ (.ref b)) (wpAny_mono one (fun r s1 z => ?_) fun _ _ e => e)
    obtain ⟨z1, z2⟩ := z
    subst z1
    subst z2
    refine wpAny_bind (m := tryCompare (.ref b) _ u) (wpAny_mono two (fun r s2 z => ?_) fun _ _ e => e)
    obtain ⟨c, z1, q⟩ := z
    subst z1
    exact wpAny_pure q
  · rename_i q
    exact absurd (by simp) q
theorem eqBool_own {u : Value} {Q : Bool → Shared → Prop} (hne : (u == Value.ref b) = false) (h : wpAny (model prog w) A (richCompare .Eq u (.ref b)) (fun v s' => ∃ c, v = .bool c ∧ Q c s') E s) : wpAny (model prog w) A (eqBool u (.ref b)) Q E s := by
  have fin : wpAny (model prog w) A (richCompare .Eq u (.ref b) >>= fun v => truthOfDropped v) Q E s := wpAny_bind (wpAny_mono h (fun v s' hv => by
    obtain ⟨c, rfl, q⟩ := hv
    exact wpAny_truthy_bool q) fun _ _ e => e)
  unfold eqBool
  refine wpAny_holding ?_
  refine wpAny_ite_split (fun hab => by rw [hne] at hab; cases hab) (fun _ => ?_)
  cases u <;> exact fin
/-! ### built-in kinds refuse -/
theorem dec_none : wpAny (model prog w) A (call (.builtin "NoneType.__eq__") [.none, .ref b]) (fun v s' => v = .notImplemented ∧ s' = s) E s :=
  call_gives F.slot_NoneType_eq rfl F.entry_NoneType_eq (F.args_NoneType_eq_2 _ _) (NoneType___eq___none_ref_0 b) ⟨rfl, rfl⟩
theorem dec_int {i : Int} {t : Tok} (X : K.In s.heap) (hb : s.heap.get? b = some ob) (hd : ∀ i t, ob.data ≠ .prim (.int i t)) : wpAny (model prog w) A (call (.builtin "int.__eq__") [.int i t, .ref b]) (fun v s' => v = .notImplemented ∧ s' = s) E s := by
  refine call_here F.slot_int_eq rfl F.entry_int_eq (F.args_int_eq_2 _ _) ?_
  obtain ⟨hp, g, d, tk, os⟩ := s
  wp_walk using wpAny_loadPart' hb
  split
  · rename_i q
    exact absurd q (hd _ _)
  · wp_walk
    first | rfl | exact ⟨rfl, rfl⟩ | exact ⟨_, rfl, rfl, rfl⟩
theorem dec_str {i : Str} {t : Tok} (X : K.In s.heap) (hb : s.heap.get? b = some ob) (hd : ∀ i t, ob.data ≠ .prim (.str i t)) : wpAny (model prog w) A (call (.builtin "str.__eq__") [.str i t, .ref b]) (fun v s' => v = .notImplemented ∧ s' = s) E s := by
  refine call_here F.slot_str_eq rfl F.entry_str_eq (F.args_str_eq_2 _ _) ?_
  obtain ⟨hp, g, d, tk, os⟩ := s
  wp_walk using wpAny_loadPart' hb
  split
  · rename_i q
    exact absurd q (hd _ _)
  · wp_walk
    first | rfl | exact ⟨rfl, rfl⟩ | exact ⟨_, rfl, rfl, rfl⟩
theorem dec_list {l : Addr} (X : K.In s.heap) (J : InstAt s.heap b ob C od) (hl : s.TypeIs (.ref l) "list") (hsub : subIn K (.ref C) (.type "list") = some false) : wpAny (model prog w) A (call (.builtin "list.__eq__") [.ref l, .ref b]) (fun v s' => v = .notImplemented ∧ s' = s) E s := by
  refine call_here F.slot_list_eq hl F.entry_list_eq (F.args_list_eq_2 _ _) ?_
  have K2 := looks_subIn (M := model prog w) X hsub
  obtain ⟨hp, g, d, tk, os⟩ := s
  have hb := J.at_
  wp_walk using wpAny_loadPart' hb
  rw [J.cls]
  refine K2.here ?_
  wp_walk
  first | rfl | exact ⟨rfl, rfl⟩ | exact ⟨_, rfl, rfl, rfl⟩
theorem dec_tuple {l : Addr} (X : K.In s.heap) (J : InstAt s.heap b ob C od) (hl : s.TypeIs (.ref l) "tuple") (hsub : subIn K (.ref C) (.type "tuple") = some false) : wpAny (model prog w) A (call (.builtin "tuple.__eq__") [.ref l, .ref b]) (fun v s' => v = .notImplemented ∧ s' = s) E s := by
  refine call_here F.slot_tuple_eq hl F.entry_tuple_eq (F.args_tuple_eq_2 _ _) ?_
  have K2 := looks_subIn (M := model prog w) X hsub
  obtain ⟨hp, g, d, tk, os⟩ := s
  have hb := J.at_
  wp_walk using wpAny_loadPart' hb
  rw [J.cls]
  refine K2.here ?_
  wp_walk
  first | rfl | exact ⟨rfl, rfl⟩ | exact ⟨_, rfl, rfl, rfl⟩
theorem dec_dict {l : Addr} (X : K.In s.heap) (J : InstAt s.heap b ob C od) (hl : s.TypeIs (.ref l) "dict") (hsub : subIn K (.ref C) (.type "dict") = some false) : wpAny (model prog w) A (call (.builtin "dict.__eq__") [.ref l, .ref b]) (fun v s' => v = .notImplemented ∧ s' = s) E s := by
  refine call_here F.slot_dict_eq hl F.entry_dict_eq (F.args_dict_eq_2 _ _) ?_
  have K2 := looks_subIn (M := model prog w) X hsub
  obtain ⟨hp, g, d, tk, os⟩ := s
  have hb := J.at_
  wp_walk using wpAny_loadPart' hb
  rw [J.cls]
  refine K2.here ?_
  wp_walk
  first | rfl | exact ⟨rfl, rfl⟩ | exact ⟨_, rfl, rfl, rfl⟩
end
end OwnIn
namespace L2
open PySem PySem.Spec PyProof.Rows
/-- a value that knows no own __eq__ -/
inductive Dull (H : Hp) : V → Prop
  | non : Dull H .non
  | int (i : Int) : Dull H (.int i)
  | str (z : Str) : Dull H (.str z)
  | lst {p : Addr} {xs : List V} (h : H p = some (.lst xs)) : Dull H (.ref p)
  | tup {p : Addr} {xs : List V} (h : H p = some (.tup xs)) : Dull H (.ref p)
  | dic {p : Addr} {es : List (Key × V)} (h : H p = some (.dK es)) : Dull H (.ref p)
/-- a class under none of these kinds -/
structure EqN (K : PySem.W.Frag) (C : Addr) : Prop where
  none : PySem.W.subIn K (.ref C) (.type "NoneType") = some false
  int : PySem.W.subIn K (.ref C) (.type "int") = some false
  str : PySem.W.subIn K (.ref C) (.type "str") = some false
  list : PySem.W.subIn K (.ref C) (.type "list") = some false
  tuple : PySem.W.subIn K (.ref C) (.type "tuple") = some false
  dict : PySem.W.subIn K (.ref C) (.type "dict") = some false
/-- x in [..], x with its own __eq__, which tells nothing there equal -/
def rInOwn (C : Addr) (sp : Sp) (E : XK) : R2 := fun x y H Q => ∃ a dx fs p xs, x = .ref a ∧ H a = some (.ins C dx fs) ∧ y = .ref p ∧ H p = some (.lst xs) ∧ (∀ v ∈ xs, Dull H v ∧ ∀ Q' : VK, Q' (.bl false) H → sp [.ref a, v] H Q' E) ∧ Q (.bl false) H
theorem op_inOwn {X : Cx} {CX : CXT} {k : Nat} {C g : Addr} {fd : FuncData} {ps : List Str} {sp : Sp} {E : XK} (hs : PySem.W.findIn X.K (.ref C) "__eq__" = some (some (.ref g))) (hf : PySem.W.isFn X.K (.ref g) = true) (hn : EqN X.K C)
    (FO : FnOk X.prog X.w X.K X.mg X.base CX k g fd ps sp) (hr : Room (k + 1) X.A) (hb : Binds X.K fd ps []) (hx : Passes CX X E) : OpR X (compareOp .In) (rInOwn C sp E) := by
  intro pins s σ H x y v u Q I rx ry h
  obtain ⟨a, dx, fs, p, xs, rfl, ea, rfl, ep, hv, q⟩ := h
  obtain rfl : v = Value.ref a := rx
  obtain rfl : u = Value.ref p := ry
  refine OwnIn.in_listG (N := xs.length) (fun _ s' => Inv X pins σ H s') (fun i s' I' => ?_) (fun s' I' => ⟨.bl false, H, I', rfl, q⟩) I
  obtain ⟨_, its, n, vr, hlen, hl⟩ := I'.lstM ep
  refine ⟨its.toArray, n, none, #[], hl, by simp [hlen], fun h1 => ?_⟩
  have h2 : i < xs.length := by simpa [hlen] using h1
  obtain ⟨du, hsp⟩ := hv xs[i] (List.getElem_mem h2)
  have rel : RelV xs[i] its.toArray[i] := by
    obtain ⟨u', e', r'⟩ := vr.get (List.getElem?_eq_getElem h2)
    have e2 : its.toArray[i] = u' := by
      have e3 : its.toArray[i]? = some u' := by simpa using e'
      rw [Array.getElem?_eq_getElem h1] at e3
      exact Option.some.inj e3
    rw [e2]
    exact r'
  generalize its.toArray[i] = u at rel ⊢
  generalize xs[i] = z at rel du hsp
  obtain ⟨_, O, _, _, _, _⟩ := ins_get I'.hok ea
  obtain ⟨_, J, _⟩ := O.look
  have hun := hr.in1.un
  have hlen' : ([Value.ref a, u] ++ ([] : List Value)).length = ps.length := by
    rw [List.append_nil, ← (show Vals [V.ref a, z] [Value.ref a, u] from .cons rfl (.cons rel .nil)).length]
    exact FO.len _ _ _ _ (hsp (fun _ _ => True) trivial)
  have ask : wpAny (model X.prog X.w) X.A.in1 (call (.ref g) [.ref a, u]) (fun v s'' => ∃ c, v = .bool c ∧ (c = false ∧ Inv X pins σ H s'')) X.xe s' := by
    refine wpAny_call (codeAny_mono (FO.run X.A.in1 X.stack s' H ⟨[.ref a, u], []⟩ ([.ref a, u] ++ []) [.ref a, z] (fun v H' => v = .bl false ∧ H' = H) E hr.in1 I'.env0.in1 (hb s' [.ref a, u] I'.kIn hlen') (by rw [List.append_nil]; exact .cons rfl (.cons rel .nil)) (hsp _ ⟨rfl, rfl⟩)) fun r s'' hq => ?_)
    cases r with
    | error er => exact hx pins σ H s' er s'' I' hq
    | ok fl =>
      cases fl with
      | ret zz =>
        obtain ⟨z', H', I'', rz, rfl, rfl⟩ := I'.after hq
        cases (show zz = Value.bool false from rz)
        exact ⟨false, rfl, rfl, I''⟩
      | next => exact False.elim hq
      | brk => exact False.elim hq
      | cont => exact False.elim hq
  cases du with
  | non =>
    obtain rfl : u = Value.none := rel
    exact OwnIn.eqBool_own rfl (OwnIn.rc_own (Q := fun v s'' => ∃ c, v = Value.bool c ∧ c = false ∧ Inv X pins σ H s'') (by omega) I'.kIn J rfl F.slot_NoneType_eq OwnIn.dec_none rfl hn.none hs hf (wpAny_mono ask (fun v s'' hv => by obtain ⟨c, rfl, e⟩ := hv; exact ⟨c, rfl, c, rfl, e⟩) fun _ _ e => e))
  | int j =>
    obtain ⟨t, rfl⟩ := rel
    exact OwnIn.eqBool_own rfl (OwnIn.rc_own (Q := fun v s'' => ∃ c, v = Value.bool c ∧ c = false ∧ Inv X pins σ H s'') (by omega) I'.kIn J rfl F.slot_int_eq (OwnIn.dec_int I'.kIn J.at_ (fun _ _ => nofun)) rfl hn.int hs hf (wpAny_mono ask (fun v s'' hv => by obtain ⟨c, rfl, e⟩ := hv; exact ⟨c, rfl, c, rfl, e⟩) fun _ _ e => e))
  | str j =>
    obtain ⟨t, rfl⟩ := rel
    exact OwnIn.eqBool_own rfl (OwnIn.rc_own (Q := fun v s'' => ∃ c, v = Value.bool c ∧ c = false ∧ Inv X pins σ H s'') (by omega) I'.kIn J rfl F.slot_str_eq (OwnIn.dec_str I'.kIn J.at_ (fun _ _ => nofun)) rfl hn.str hs hf (wpAny_mono ask (fun v s'' hv => by obtain ⟨c, rfl, e⟩ := hv; exact ⟨c, rfl, c, rfl, e⟩) fun _ _ e => e))
  | lst h =>
    rename_i l xs'
    obtain rfl : u = Value.ref l := rel
    obtain ⟨_, its2, n2, _, _, hl2⟩ := I'.lstM h
    have ne : l ≠ a := fun e => by subst e; rw [h] at ea; cases ea
    exact OwnIn.eqBool_own (by simpa using ne) (OwnIn.rc_own (Q := fun v s'' => ∃ c, v = Value.bool c ∧ c = false ∧ Inv X pins σ H s'') (by omega) I'.kIn J ⟨_, hl2, rfl⟩ F.slot_list_eq (OwnIn.dec_list I'.kIn J ⟨_, hl2, rfl⟩ hn.list) (oneThing_ref _ _ _) hn.list hs hf (wpAny_mono ask (fun v s'' hv => by obtain ⟨c, rfl, e⟩ := hv; exact ⟨c, rfl, c, rfl, e⟩) fun _ _ e => e))
  | tup h =>
    rename_i l xs'
    obtain rfl : u = Value.ref l := rel
    obtain ⟨its2, _, hT, _⟩ := I'.tuple (SqT.of h)
    obtain ⟨⟨cls2, dd2, data2, sl2⟩, ho2, hc2, n2, hd2⟩ := id hT
    simp only at hc2 hd2
    subst hc2
    have ne : l ≠ a := fun e => by subst e; rw [h] at ea; cases ea
    exact OwnIn.eqBool_own (by simpa using ne) (OwnIn.rc_own (Q := fun v s'' => ∃ c, v = Value.bool c ∧ c = false ∧ Inv X pins σ H s'') (by omega) I'.kIn J ⟨_, ho2, rfl⟩ F.slot_tuple_eq (OwnIn.dec_tuple I'.kIn J ⟨_, ho2, rfl⟩ hn.tuple) (oneThing_ref _ _ _) hn.tuple hs hf (wpAny_mono ask (fun v s'' hv => by obtain ⟨c, rfl, e⟩ := hv; exact ⟨c, rfl, c, rfl, e⟩) fun _ _ e => e))
  | dic h =>
    rename_i l xs'
    obtain rfl : u = Value.ref l := rel
    obtain ⟨_, _, vs, _, o, es, ep, h1, h2, _⟩ := (show ObjOk X.prog X.w H s'.heap l (.dK xs') from I'.hok l _ h)
    have hT : s'.TypeIs (.ref l) "dict" := ⟨o, h1, h2.1⟩
    have ne : l ≠ a := fun e => by subst e; rw [h] at ea; cases ea
    exact OwnIn.eqBool_own (by simpa using ne) (OwnIn.rc_own (Q := fun v s'' => ∃ c, v = Value.bool c ∧ c = false ∧ Inv X pins σ H s'') (by omega) I'.kIn J hT F.slot_dict_eq (OwnIn.dec_dict I'.kIn J hT hn.dict) (oneThing_ref _ _ _) hn.dict hs hf (wpAny_mono ask (fun v s'' hv => by obtain ⟨c, rfl, e⟩ := hv; exact ⟨c, rfl, c, rfl, e⟩) fun _ _ e => e))
end L2

namespace L2
open PySem PySem.Spec PyProof.Rows
/-! ### what agrees tells -/
inductive TD
  | ag (c : Bool)
  | un (ws : List Str)
def TD.d : TD → PyData
  | .ag c => .list [.str "agrees", .bool c]
  | .un ws => .list [.str "unlike", tD ws]
def TDAt (H : Hp) (p : Addr) : TD → Prop
  | .ag c => H p = some (.lst [.str "agrees", .bl c])
  | .un ws => ∃ t, H p = some (.lst [.str "unlike", .ref t]) ∧ H t = some (.tup (ws.map V.str))
def TD.Of (a b : Am) (t : TD) : Prop := (amS a = amS b ∧ ∃ na nb, IsLv a na ∧ IsLv b nb ∧ t = .ag (decide (rks a na = rks b nb))) ∨ (amS a ≠ amS b ∧ t = .un (amS b))
theorem TD.Of.one {a b : Am} {t u : TD} (h : t.Of a b) (k : u.Of a b) : t = u := by
  rcases h with ⟨h, na, nb, l1, l2, rfl⟩ | ⟨h, rfl⟩
  · rcases k with ⟨_, ma, mb, m1, m2, rfl⟩ | ⟨k, _⟩
    · rw [isLv_one l1 m1, isLv_one l2 m2]
    · exact absurd h k
  · rcases k with ⟨k, _⟩ | ⟨_, rfl⟩
    · exact absurd k h
    · rfl
theorem TDAt.up {H H' : Hp} {p : Addr} {t : TD} (h : TDAt H p t) (e : Same H H') : TDAt H' p t := by
  cases t with
  | ag c => exact e _ _ h
  | un ws =>
    obtain ⟨t, h1, h2⟩ := h
    exact ⟨t, e _ _ h1, e _ _ h2⟩
theorem TDAt.dp {K : PySem.W.Frag} {H : Hp} {p : Addr} {t : TD} (h : TDAt H p t) : Dp K H (.ref p) t.d := by
  cases t with
  | ag c => exact .lst (SqL.of h) (.cons (.str _) (.cons (.bl _) .nil))
  | un ws =>
    obtain ⟨t, h1, h2⟩ := h
    exact .lst (SqL.of h1) (.cons (.str _) (.cons (dp_tD h2) .nil))
theorem TD.eqv_self (t : TD) : PyData.eqv t.d t.d = true := by
  cases t with
  | ag c => cases c <;> decide
  | un ws =>
    show PyData.eqv (.list [.str "unlike", tD ws]) (.list [.str "unlike", tD ws]) = true
    rw [PyData.eqv, PyData.eqvAll, PyData.eqvAll, PyData.eqvAll, eqv_tD, PyData.eqv]
    simp
theorem TD.eqv_two (t u : TD) : PyData.eqv (.list [t.d, u.d]) (.list [t.d, u.d]) = true := by
  rw [PyData.eqv, PyData.eqvAll, PyData.eqvAll, PyData.eqvAll, TD.eqv_self, TD.eqv_self]
  rfl
def TD.ok : TD → Prop
  | .ag _ => True
  | .un ws => ∀ w ∈ ws, good w = true
theorem TD.Of.ok {a b : Am} {t : TD} (h : t.Of a b) (k : AmOk b) : t.ok := by
  rcases h with ⟨_, _, _, _, _, rfl⟩ | ⟨_, rfl⟩
  · trivial
  · exact k.gd
theorem TD.lay {t : TD} (h : t.ok) : t.d.canLay0 = true ∧ t.d.depth ≤ 2 := by
  cases t with
  | ag c =>
    refine ⟨?_, ?_⟩
    · show PyData.canLayAll0 [.str "agrees", .bool c] = true
      cases c <;> decide +kernel
    · show PyData.depthAll [.str "agrees", .bool c] + 1 ≤ 2
      cases c <;> decide +kernel
  | un ws =>
    obtain ⟨h1, h2⟩ := lay_tD fun w hw => good_ok (h w hw)
    refine ⟨?_, ?_⟩
    · show (PyData.canLay0 (.str "unlike") && (PyData.canLay0 (tD ws) && PyData.canLayAll0 [])) = true
      rw [h1]
      decide +kernel
    · show max (PyData.depth (.str "unlike")) (max (PyData.depth (tD ws)) (PyData.depthAll [])) + 1 ≤ 2
      rw [h2]
      decide +kernel
theorem TD.shaped {t : TD} (h : t.ok) : SeqAt.shaped t.d = true := by
  obtain ⟨h1, h2⟩ := TD.lay h
  unfold SeqAt.shaped
  rw [Bool.and_eq_true]
  exact ⟨h1, decide_eq_true (by omega)⟩
theorem TD.shaped2 {t u : TD} (h : t.ok) (k : u.ok) : SeqAt.shaped (.list [t.d, u.d]) = true := by
  obtain ⟨h1, h2⟩ := TD.lay h
  obtain ⟨k1, k2⟩ := TD.lay k
  unfold SeqAt.shaped
  rw [Bool.and_eq_true]
  refine ⟨?_, decide_eq_true ?_⟩
  · show (PyData.canLay0 t.d && (PyData.canLay0 u.d && PyData.canLayAll0 [])) = true
    rw [h1, k1]
    rfl
  · show max (PyData.depth t.d) (max (PyData.depth u.d) (PyData.depthAll [])) + 1 ≤ 64
    have : PyData.depthAll [] = 0 := rfl
    omega
theorem dp_two {K : PySem.W.Frag} {H : Hp} {p p1 p2 : Addr} {t u : TD} (h : H p = some (.lst [.ref p1, .ref p2])) (h1 : TDAt H p1 t) (h2 : TDAt H p2 u) : Dp K H (.ref p) (.list [t.d, u.d]) := .lst (SqL.of h) (.cons h1.dp (.cons h2.dp .nil))
theorem due_of {H : Hp} {Q : VK} {E : XK} {g n : Addr} {a b sa sb : Am} (hg : H g = some (.dK (amK a))) (hn : H n = some (.dK (amK b))) (oka : AmOk a) (okb : AmOk b) (pa : sa.Perm a) (ra : srt sa) (pb : sb.Perm b) (rb : srt sb)
    (q : ∀ (t : TD) (p : Addr) (H' : Hp), t.Of sa sb → Same H H' → H p = none → TDAt H' p t → Q (.ref p) H') : spDue [.ref g, .ref n] H Q E := by
  refine ⟨g, n, a, b, rfl, hg, hn, oka, okb, fun ta tb pta rta ptb rtb => ?_⟩
  obtain rfl := srt_one oka.nd ra rta pa pta
  obtain rfl := srt_one okb.nd rb rtb pb ptb
  refine ⟨fun e p H' na nb l1 l2 s hp hp' => q _ p H' (.inl ⟨e, na, nb, l1, l2, rfl⟩) s hp hp', fun e p t H' s hp ht ht' hp' => q _ p H' (.inr ⟨e, rfl⟩) s hp ⟨t, hp', by rw [← amN_S]; exact ht'⟩⟩
theorem ix_listF {X : Cx} {K : PySem.W.Frag} (hk : X.K = K) : IxR X (rIxL K) := by subst hk; exact ix_list
/-- what isinstance says of plain values and the class at C -/
structure KitN (K : PySem.W.Frag) (C : Addr) : Prop where
  none : PySem.W.kitOne K (.type "NoneType") (.ref C) = some false
  int : PySem.W.kitOne K (.type "int") (.ref C) = some false
  str : PySem.W.kitOne K (.type "str") (.ref C) = some false
  list : PySem.W.kitOne K (.type "list") (.ref C) = some false
  tuple : PySem.W.kitOne K (.type "tuple") (.ref C) = some false
  dict : PySem.W.kitOne K (.type "dict") (.ref C) = some false
theorem Dull.kit {K : PySem.W.Frag} {H : Hp} {C : Addr} {v : V} (h : Dull H v) (k : KitN K C) : ∃ t, TyX K H v t ∧ PySem.W.kitOne K t (.ref C) = some false := by
  cases h with
  | non => exact ⟨_, .base .non, k.none⟩
  | int i => exact ⟨_, .base (.int i), k.int⟩
  | str z => exact ⟨_, .base (.str z), k.str⟩
  | lst h => exact ⟨_, .base (.lst h), k.list⟩
  | tup h => exact ⟨_, .base (.tup h), k.tuple⟩
  | dic h => exact ⟨_, .base (.dK h), k.dict⟩
/-- o.m(q = b): one place, one name -/
def g2 : List Value → List Value → List Value
  | [a], [b] => [a, b]
  | _, _ => []
def gV2 : List V → List V → List V
  | [a], [b] => [a, b]
  | _, _ => []
theorem kb_two {K : PySem.W.Frag} {x qual p q : Str} {st : Stmt} {f : Addr} {fd : FuncData} (F : Fun K x qual st f fd)
    (h : ∀ (kV doc pm : Value) (an : Option Addr) (cdv ct a b : Value), bindArgs (PySem.W.fnOf x qual (defArgs st) (defBody st) (defScope st) .none kV doc pm an cdv ct) ⟨[a], [(q, b)]⟩ = pure [(p, a), (q, b)]) :
    KBinds K fd [p, q] [q] g2 gV2 := by
  obtain ⟨oc, od, kV, doc, pm, an, cdv, ct, osl, rfl, lk, hcd⟩ := F.ex
  refine ⟨fun s us ws _ hl => ?_, fun r rz => ?_⟩
  · match us, ws, hl with
    | [a], [b], _ => exact .of_eq (h kV doc pm an cdv ct a b)
    | [], _, hl => exact absurd hl (by simp [g2])
    | _ :: _ :: _, _, hl => exact absurd hl (by simp [g2])
    | [_], [], hl => exact absurd hl (by simp [g2])
    | [_], _ :: _ :: _, hl => exact absurd hl (by simp [g2])
  · cases r with
    | nil => exact .nil
    | cons r1 r => cases r with
      | cons _ _ => exact .nil
      | nil => cases rz with
        | nil => exact .nil
        | cons z1 rz => cases rz with
          | cons _ _ => exact .nil
          | nil => exact .cons r1 (.cons z1 .nil)
/-- what a class of the program's own is to plain values -/
theorem cls_pair {K : PySem.W.Frag} {C : Addr} (i : PySem.W.isClsIn K C = true) (t : PySem.W.typeIn K (.ref C) = some (.type "type")) : ((PySem.W.clsIn K C).isSome && PySem.W.typeIn K (.ref C) == some (.type "type")) = true := by
  have h2 : (PySem.W.clsIn K C).isSome = true := i
  rw [h2, t]
  rfl
theorem kit_no {K : PySem.W.Frag} {C : Addr} {T : String} (i : PySem.W.isClsIn K C = true) (t : PySem.W.typeIn K (.ref C) = some (.type "type")) (h : PySem.W.subIn K (.type T) (.ref C) = some false) : PySem.W.kitOne K (.type T) (.ref C) = some false := by
  have e := cls_pair i t
  unfold PySem.W.kitOne
  rw [if_neg (by simp)]
  unfold PySem.W.kitCls
  dsimp only
  rw [if_pos e]
  exact h
theorem kit_self {K : PySem.W.Frag} {C : Addr} : PySem.W.kitOne K (.ref C) (.ref C) = some true := by
  unfold PySem.W.kitOne
  rw [if_pos (by simp)]
theorem first_self {K : PySem.W.Frag} {C : Addr} : PySem.W.notFirst K C (.ref C) = true := by
  unfold PySem.W.notFirst
  simp
theorem exm_me {K : PySem.W.Frag} {S : Addr} (b : PySem.W.subIn K (.ref S) (.type "BaseException") = some true) (i : PySem.W.isClsIn K S = true) (t : PySem.W.typeIn K (.ref S) = some (.type "type")) (m : PySem.W.subIn K (.ref S) (.ref S) = some true) : PySem.W.exmOne K (.ref S) (.ref S) = some true := by
  have e := cls_pair i t
  unfold PySem.W.exmOne
  rw [if_pos (by rw [b]; rfl)]
  unfold PySem.W.kitCls
  dsimp only
  rw [if_pos e]
  exact m
theorem no_sub {K : PySem.W.Frag} {C : Addr} {T : String} {l : List Value} (h : fastBuiltinMro T = some l) (hl : l.contains (.ref C) = false) : PySem.W.subIn K (.type T) (.ref C) = some false := by
  show (fastBuiltinMro T).map (·.contains (.ref C)) = some false
  rw [h]
  show some (l.contains (.ref C)) = some false
  rw [hl]
theorem no_NoneType {K : PySem.W.Frag} {C : Addr} : PySem.W.subIn K (.type "NoneType") (.ref C) = some false := no_sub (l := [.type "NoneType", .type "object"]) (by decide +kernel) (by first | rfl | simp)
theorem no_int {K : PySem.W.Frag} {C : Addr} : PySem.W.subIn K (.type "int") (.ref C) = some false := no_sub (l := [.type "int", .type "object"]) (by decide +kernel) (by first | rfl | simp)
theorem no_str {K : PySem.W.Frag} {C : Addr} : PySem.W.subIn K (.type "str") (.ref C) = some false := no_sub (l := [.type "str", .type "object"]) (by decide +kernel) (by first | rfl | simp)
theorem no_list {K : PySem.W.Frag} {C : Addr} : PySem.W.subIn K (.type "list") (.ref C) = some false := no_sub (l := [.type "list", .type "object"]) (by decide +kernel) (by first | rfl | simp)
theorem no_tuple {K : PySem.W.Frag} {C : Addr} : PySem.W.subIn K (.type "tuple") (.ref C) = some false := no_sub (l := [.type "tuple", .type "object"]) (by decide +kernel) (by first | rfl | simp)
theorem no_dict {K : PySem.W.Frag} {C : Addr} : PySem.W.subIn K (.type "dict") (.ref C) = some false := no_sub (l := [.type "dict", .type "object"]) (by decide +kernel) (by first | rfl | simp)
/-! ### a list of drawn amounts -/
theorem lc_given {K : PySem.W.Frag} {te : TE} {vs : List Nat} {σ : St} {j N : Nat} {G H : Hp} {s p : Addr} {ws : List Str} {Qd : Hp → Prop} {D : Addr} (v : View s N G H) (hp : G p = some (.lst (ws.map V.str))) (hl : ws.length ≤ 100) (hw : ∀ x, wipe ((wipe σ vs).set j (some x)) vs = wipe σ vs)
    (hte : ∀ (x : Str) (M : Nat) (G' H' : Hp) (Q' : VK), x ∈ ws → M ≤ N + 200 → View s M G' H' → (∀ (z : Int) (t : Addr) (H2 : Hp), z.natAbs < 2 ^ 100 → G' t = none → View s (M + 2) (upd G' t (.tup [.str x, .int z])) H2 → Q' (.ref t) H2) → te ((wipe σ vs).set j (some (.str x))) H' Q')
    (hD : H D = none)
    (hq : ∀ (G' H' : Hp) (am : Am) (ps : List Addr), amS am = ws → (∀ q ∈ am, q.2.natAbs < 2 ^ 100) → Same G G' → View s (N + 200) G' H' → G' D = some (.lst (ps.map V.ref)) → Paired (fun p (q : Key × V) => G' p = some (.tup [kV q.1, q.2])) ps (amK am) → Qd H') :
    ∃ W : Nat → Nat → Hp → Prop, (∃ m, W 0 m (upd H D (.lst []))) ∧ ∀ i m H, W i m H →
      ((Itl K p).stop i H ∧ Qd H) ∨ ((Itl K p).go i H ∧ ∃ Nx : Hp → Prop, (∀ H', Nx H' → ∃ m', m' < m ∧ W (i + 1) m' H') ∧ ∀ x H', (Itl K p).yld i H x H' → gName j x (wipe σ vs) H' fun σ2 H2 => wipe σ2 vs = wipe σ vs ∧ tYes σ2 H2 fun b H3 =>
        if b = true then te σ2 H3 fun y H4 => ∃ acc, H4 D = some (.lst acc) ∧ acc.length < sizeLine ∧ Nx (upd H4 D (.lst (acc ++ [y]))) else Nx H3) := by
  have ln : (ws.map V.str).length = ws.length := List.length_map _
  have hGD := v.free hD
  refine lc_it (walk_list (xs := ws.map V.str)) (fun i H => ∃ (G' : Hp) (am : Am) (ps : List Addr), amS am = ws.take i ∧ (∀ q ∈ am, q.2.natAbs < 2 ^ 100) ∧ Same G G' ∧ View s (N + 2 * i) G' H ∧ G' D = some (.lst (ps.map V.ref)) ∧ Paired (fun p (q : Key × V) => G' p = some (.tup [kV q.1, q.2])) ps (amK am)) ⟨_, [], [], rfl, (fun _ h => nomatch h), same_of_none hGD, v.new hD, upd_same, .nil⟩ (fun i H _ ⟨G', am, ps, _, _, sm, v, _⟩ => SqL.of (v.sub _ _ (sm _ _ hp))) (fun i x H H' hi h y => ?_) (fun H h => ?_)
  · obtain ⟨G', am, ps, e1, e2, sm, v, hDl, hP⟩ := h
    obtain ⟨rfl, hx⟩ := y
    rw [List.getElem?_map] at hx
    obtain ⟨a, ha, rfl⟩ := Option.map_eq_some_iff.mp hx
    have hm : a ∈ ws := List.mem_of_getElem? ha
    rw [ln] at hi
    have hlen : ps.length = i := by
      rw [hP.length, amK_len, ← amS_len, e1, List.length_take]
      omega
    refine ⟨hw _, ?_⟩
    unfold tYes
    refine if_pos rfl |>.mpr (hte a _ _ _ _ hm (by omega) v fun z t H2 hz ht v2 => ?_)
    have hDt : D ≠ t := ne_of_none hDl ht
    have hGD2 : upd G' t (.tup [.str a, .int z]) D = some (.lst (ps.map V.ref)) := by rw [upd_ne hDt]; exact hDl
    refine ⟨_, v2.sub _ _ hGD2, small1000 (by rw [List.length_map]; omega), _, am ++ [(a, z)], ps ++ [t], ?_, fun q hq => ?_, (sm.trans (same_of_none (o := .tup [.str a, .int z]) ht)).unseen (o := .lst ((ps ++ [t]).map V.ref)) hGD, ?_, by rw [upd_same], ?_⟩
    · rw [take_more ha, ← e1]; unfold amS; rw [List.map_append]; rfl
    · rcases List.mem_append.mp hq with hq | hq
      · exact e2 q hq
      · rw [List.mem_singleton.mp hq]; exact hz
    · have := v2.put (o := .lst ((ps ++ [t]).map V.ref)) hGD2
      rw [List.map_append] at this ⊢
      exact this
    · have e3 : amK (am ++ [(a, z)]) = amK am ++ [((Sum.inr a : Key), V.int z)] := by unfold amK; rw [List.map_append]; rfl
      rw [e3]
      refine Paired.snoc ?_ (by rw [upd_ne hDt.symm, upd_same]; rfl)
      refine hP.mono fun p q h => ?_
      have hpD : p ≠ D := fun z => by rw [z, hDl] at h; cases h
      rw [upd_ne hpD, upd_ne (ne_of_none h ht)]
      exact h
  · obtain ⟨G', am, ps, e1, e2, sm, v, hDl, hP⟩ := h
    rw [ln, List.take_length] at e1
    exact hq G' H am ps e1 e2 sm (v.mono (by rw [ln]; omega)) hDl hP
end L2

namespace VL
open PySem PySem.Spec PyProof.Rows L2
/-! ### typed values: what is true of a value in a frozen heap -/
structure VP where
  P : V → Hp → Prop
  up : ∀ {v : V} {G G' : Hp}, Same G G' → P v G → P v G'
/-- what is true of an object that one slot alone holds -/
structure CP where
  P : HO → Hp → Prop
  up : ∀ {o : HO} {G G' : Hp}, Same G G' → P o G → P o G'
/-- a slot, a result: nothing known; frozen; borrowed; owned -/
inductive SL where
  | un | fr (p : VP) | bo (p : VP) | ow (c : CP)
/-- an exception of an own class: its name, its field, what it holds -/
structure Exc where
  nm : Str
  f : Str
  d : PyData
/-- a computation: what it may give, what it may raise, how many draws were made -/
abbrev M (α : Type) := (α → Nat → Prop) → (Exc → Nat → Prop) → Nat → Prop
namespace M
def pure {α : Type} (a : α) : M α := fun Q _ n => Q a n
def bind {α β : Type} (m : M α) (f : α → M β) : M β := fun Q E n => m (fun a k => f a Q E k) E n
def raise {α : Type} (x : Exc) : M α := fun _ E n => E x n
def req (c : Prop) : M Unit := fun Q _ n => c ∧ Q () n
def ite {α : Type} (b : Bool) (m k : M α) : M α := fun Q E n => if b = true then m Q E n else k Q E n
/-- only asked for a condition -/
def when {α : Type} (c : Prop) (a : α) : M α := fun Q _ n => c ∧ Q a n
end M
/-- no table, nothing that is told by its own words alone -/
structure NT (o : HO) : Prop where
  t : ∀ ps, o ≠ .tbl ps
  x : ∀ φ, o ≠ .ext φ
/-- what callers know of the heap at all times -/
structure Th (TB : List (Addr × Str)) where
  T : Nat → Hp → Hp → Prop
  sub : ∀ {n W H}, T n W H → Same W H
  ext : ∀ {n W H W' H'}, T n W H → Same H H' → Same W W' → (∀ q o, W' q = some o → W q = some o ∨ (H q = none ∧ H' q = some o ∧ NT o)) → T n W' H'
  put : ∀ {n W H p u o}, T n W H → W p = some u → NT u → NT o → T n (upd W p o) (upd H p o)
  tabs : ∀ {n W H}, T n W H → LamX.Tabs TB H
  tset : ∀ {n W H H'}, T n W H → LamX.ExtN H H' → LamX.Tabs TB H' → T n W H'
structure Cfg where
  TB : List (Addr × Str)
  Θ : Th TB
  mg : Str → Option Value
  K : PySem.W.Frag
  B : Hp
  G0 : Hp
  Ew : L2.St → XK
  px : List SL
structure Stt (C : Cfg) (n : Nat) (G W H : Hp) : Prop where
  t : C.Θ.T n W H
  gw : Same G W
  bw : Same C.B W
  g0 : Same C.G0 G
  gb : ∀ q o, G q = some o → C.G0 q = some o ∨ C.B q = none
structure Stp (G W G' W' : Hp) : Prop where
  g : Same G G'
  w : Same W W'
  gw : Same G' W'
  ng : ∀ q o, G' q = some o → G q = some o ∨ W q = none
theorem Stp.refl {G W : Hp} (h : Same G W) : Stp G W G W := ⟨Same.refl _, Same.refl _, h, fun _ _ e => .inl e⟩
theorem Stp.trans {G W G1 W1 G2 W2 : Hp} (a : Stp G W G1 W1) (b : Stp G1 W1 G2 W2) : Stp G W G2 W2 :=
  ⟨a.g.trans b.g, a.w.trans b.w, b.gw, fun q o e => by
    rcases b.ng q o e with h | h
    · exact a.ng q o h
    · exact .inr (a.w.free h)⟩
theorem Stt.stp {C : Cfg} {n n' : Nat} {G W H G' W' H' : Hp} (s : Stt C n G W H) (p : Stp G W G' W') (t : C.Θ.T n' W' H') : Stt C n' G' W' H' :=
  ⟨t, p.gw, s.bw.trans p.w, s.g0.trans p.g, fun q o e => by
    rcases p.ng q o e with h | h
    · exact s.gb q o h
    · exact .inr (s.bw.free h)⟩
theorem Stt.wh {C : Cfg} {n : Nat} {G W H : Hp} (s : Stt C n G W H) : Same W H := C.Θ.sub s.t
theorem Stt.gh {C : Cfg} {n : Nat} {G W H : Hp} (s : Stt C n G W H) : Same G H := s.gw.trans s.wh
theorem Stt.wfree {C : Cfg} {n : Nat} {G W H : Hp} {p : Addr} (s : Stt C n G W H) (h : H p = none) : W p = none := s.wh.free h
theorem Stt.gfree {C : Cfg} {n : Nat} {G W H : Hp} {p : Addr} (s : Stt C n G W H) (h : H p = none) : G p = none := s.gh.free h
theorem same_upd {H : Hp} {p : Addr} {o : HO} (h : H p = none) : Same H (upd H p o) := same_of_none h
theorem same_two {G W : Hp} {p : Addr} {o : HO} (e : Same G W) : Same (upd G p o) (upd W p o) := fun q x h => by
  by_cases z : q = p
  · subst z; rw [upd_same] at h ⊢; exact h
  · rw [upd_ne z] at h ⊢; exact e _ _ h
theorem same_put {G W : Hp} {p : Addr} {o : HO} (e : Same G W) (h : W p = some o) : Same (upd G p o) W := fun q x hq => by
  by_cases z : q = p
  · subst z; rw [upd_same] at hq; rw [h]; exact hq
  · rw [upd_ne z] at hq; exact e _ _ hq
/-- a new object, frozen at once -/
theorem Stp.newF {C : Cfg} {n : Nat} {G W H : Hp} {p : Addr} {o : HO} (s : Stt C n G W H) (h : H p = none) : Stp G W (upd G p o) (upd W p o) :=
  ⟨same_upd (s.gfree h), same_upd (s.wfree h), same_two s.gw, fun q x e => by
    by_cases z : q = p
    · subst z; exact .inr (s.wfree h)
    · rw [upd_ne z] at e; exact .inl e⟩
/-- a new object, owned -/
theorem Stp.newO {C : Cfg} {n : Nat} {G W H : Hp} {p : Addr} {o : HO} (s : Stt C n G W H) (h : H p = none) : Stp G W G (upd W p o) :=
  ⟨Same.refl _, same_upd (s.wfree h), s.gw.trans (same_upd (s.wfree h)), fun _ _ e => .inl e⟩
theorem Stt.newT {C : Cfg} {n : Nat} {G W H : Hp} {p : Addr} {o : HO} (s : Stt C n G W H) (h : H p = none) (nt : NT o := by exact ⟨(fun _ h => nomatch h), (fun _ h => nomatch h)⟩) : C.Θ.T n (upd W p o) (upd H p o) :=
  C.Θ.ext s.t (same_upd h) (same_upd (s.wfree h)) fun q x e => by
    by_cases z : q = p
    · subst z; rw [upd_same] at e ⊢; exact .inr ⟨h, e, by cases e; exact nt⟩
    · rw [upd_ne z] at e; exact .inl e
/-- the heap grew unseen -/
theorem Stt.more {C : Cfg} {n : Nat} {G W H H' : Hp} (s : Stt C n G W H) (h : Same H H') : Stt C n G W H' :=
  { s with t := C.Θ.ext s.t h (Same.refl _) fun _ _ e => .inl e }
def Res (B : Hp) (s : SL) (v : V) (G W : Hp) : Prop := match s with
  | .un => True
  | .fr p => p.P v G
  | .bo p => p.P v B
  | .ow c => ∃ a o, v = .ref a ∧ W a = some o ∧ G a = none ∧ B a = none ∧ c.P o G
def Fre (s : SL) (v : V) (W : Hp) : Prop := match s with
  | .ow _ => ∀ p, v = .ref p → W p = none
  | _ => True
theorem Res.stp {B : Hp} {s : SL} {v : V} {G W G' W' : Hp} (r : Res B s v G W) (p : Stp G W G' W') : Res B s v G' W' := by
  cases s with
  | un => trivial
  | fr q => exact q.up p.g r
  | bo q => exact r
  | ow c =>
    obtain ⟨a, o, e, h1, h2, h3, h4⟩ := r
    refine ⟨a, o, e, p.w _ _ h1, ?_, h3, c.up p.g h4⟩
    cases z : G' a with
    | none => rfl
    | some u =>
      rcases p.ng _ _ z with h | h
      · rw [h2] at h; cases h
      · rw [h1] at h; cases h
theorem Fre.stp {s : SL} {v : V} {G W G' W' : Hp} (r : Fre s v W') (p : Stp G W G' W') : Fre s v W := by
  cases s with
  | ow c => exact fun q e => p.w.free (r q e)
  | _ => trivial
structure Ee (B : Hp) (ps : List SL) (σ : L2.St) (G W : Hp) : Prop where
  len : σ.length = ps.length
  at_ : ∀ {i : Nat} {s : SL}, ps[i]? = some s → s ≠ .un → ∃ v, σ[i]? = some (some v) ∧ Res B s v G W
  sep : ∀ {i j : Nat} {c d : CP} {a : Addr}, i ≠ j → ps[i]? = some (.ow c) → ps[j]? = some (.ow d) → σ[i]? = some (some (.ref a)) → σ[j]? = some (some (.ref a)) → False
theorem Ee.stp {B : Hp} {ps : List SL} {σ : L2.St} {G W G' W' : Hp} (e : Ee B ps σ G W) (p : Stp G W G' W') : Ee B ps σ G' W' :=
  ⟨e.len, fun h n => let ⟨v, h1, h2⟩ := e.at_ h n; ⟨v, h1, h2.stp p⟩, e.sep⟩
/-- what is known when an exception is in the air -/
inductive PxLe : List SL → List SL → Prop
  | nil {l} : PxLe [] l
  | un {p l s} : PxLe p l → PxLe (.un :: p) (s :: l)
  | same {p l s} : PxLe p l → PxLe (s :: p) (s :: l)
def Ex_ (B : Hp) (px : List SL) (σ : L2.St) (G W : Hp) : Prop := ∀ {i : Nat} {s : SL}, px[i]? = some s → s ≠ .un → ∃ v, σ[i]? = some (some v) ∧ Res B s v G W
theorem PxLe.get {px ps : List SL} (h : PxLe px ps) : ∀ {i : Nat} {s : SL}, px[i]? = some s → s ≠ .un → ps[i]? = some s := by
  induction h with
  | nil => intro i s e; simp at e
  | un _ ih =>
    intro i s e n
    cases i with
    | zero => simp at e; exact absurd e.symm n
    | succ i => simp at e ⊢; exact ih e n
  | same _ ih =>
    intro i s e n
    cases i with
    | zero => simpa using e
    | succ i => simp at e ⊢; exact ih e n
theorem Ee.x {B : Hp} {px ps : List SL} {σ : L2.St} {G W : Hp} (e : Ee B ps σ G W) (h : PxLe px ps) : Ex_ B px σ G W := fun a b => e.at_ (h.get a b) b
/-! ### kinds of values -/
def rInt (i : Int) : VP := ⟨fun v _ => v = .int i, fun _ h => h⟩
def rBl (b : Bool) : VP := ⟨fun v _ => v = .bl b, fun _ h => h⟩
def rStr (z : Str) : VP := ⟨fun v _ => v = .str z, fun _ h => h⟩
def rNon (_ : Unit) : VP := ⟨fun v _ => v = .non, fun _ h => h⟩
def reps {α : Type} (R : α → VP) : List α → List V → Hp → Prop
  | [], [], _ => True
  | x :: xs, v :: vs, G => (R x).P v G ∧ reps R xs vs G
  | _, _, _ => False
section
variable {α : Type} {R : α → VP} {G G' : Hp}
theorem reps.up : ∀ {xs : List α} {vs : List V}, Same G G' → reps R xs vs G → reps R xs vs G'
  | [], [], _, _ => trivial
  | x :: xs, v :: vs, e, h => ⟨(R x).up e h.1, reps.up e h.2⟩
theorem reps.len : ∀ {xs : List α} {vs : List V}, reps R xs vs G → vs.length = xs.length
  | [], [], _ => rfl
  | _ :: xs, _ :: vs, h => by rw [List.length_cons, List.length_cons, reps.len h.2]
theorem reps.get : ∀ {xs : List α} {vs : List V} {i : Nat} {x : α}, reps R xs vs G → xs[i]? = some x → ∃ v, vs[i]? = some v ∧ (R x).P v G
  | [], [], _, _, _, e => by simp at e
  | y :: xs, v :: vs, 0, x, h, e => by
    have e : y = x := Option.some.inj e
    subst e
    exact ⟨v, rfl, h.1⟩
  | y :: xs, v :: vs, i + 1, x, h, e => by
    obtain ⟨u, h1, h2⟩ := reps.get (i := i) (x := x) h.2 e
    exact ⟨u, h1, h2⟩
theorem reps.get' : ∀ {xs : List α} {vs : List V} {i : Nat} {v : V}, reps R xs vs G → vs[i]? = some v → ∃ x, xs[i]? = some x ∧ (R x).P v G
  | [], [], _, _, _, e => by simp at e
  | y :: xs, v :: vs, 0, u, h, e => by
    have e : v = u := Option.some.inj e
    subst e
    exact ⟨y, rfl, h.1⟩
  | y :: xs, v :: vs, i + 1, u, h, e => by
    obtain ⟨x, h1, h2⟩ := reps.get' (i := i) (v := u) h.2 e
    exact ⟨x, h1, h2⟩
theorem reps.app : ∀ {xs ys : List α} {vs us : List V}, reps R xs vs G → reps R ys us G → reps R (xs ++ ys) (vs ++ us) G
  | [], _, [], _, _, k => k
  | _ :: _, _, _ :: _, _, h, k => ⟨h.1, reps.app h.2 k⟩
theorem reps.take : ∀ {xs : List α} {vs : List V} (n : Nat), reps R xs vs G → reps R (xs.take n) (vs.take n) G
  | _, _, 0, _ => by simp only [List.take_zero]; trivial
  | [], [], _ + 1, _ => trivial
  | _ :: _, _ :: _, n + 1, h => ⟨h.1, reps.take n h.2⟩
theorem reps.drop : ∀ {xs : List α} {vs : List V} (n : Nat), reps R xs vs G → reps R (xs.drop n) (vs.drop n) G
  | _, _, 0, h => h
  | [], [], _ + 1, _ => trivial
  | _ :: _, _ :: _, n + 1, h => reps.drop n h.2
theorem reps.rev : ∀ {xs : List α} {vs : List V}, reps R xs vs G → reps R xs.reverse vs.reverse G
  | [], [], _ => trivial
  | x :: xs, v :: vs, h => by
    rw [List.reverse_cons, List.reverse_cons]
    exact reps.app (reps.rev h.2) ⟨h.1, trivial⟩
theorem reps.nil {vs : List V} (h : reps R [] vs G) : vs = [] := by
  cases vs with
  | nil => rfl
  | cons _ _ => exact h.elim
theorem reps.set : ∀ {xs : List α} {vs : List V} (i : Nat) {x : α} {v : V}, reps R xs vs G → (R x).P v G → reps R (xs.set i x) (vs.set i v) G
  | [], [], _, _, _, _, _ => trivial
  | _ :: _, _ :: _, 0, _, _, h, k => ⟨k, h.2⟩
  | _ :: _, _ :: _, i + 1, _, _, h, k => ⟨h.1, reps.set i h.2 k⟩
end
def rLst {α : Type} (R : α → VP) (xs : List α) : VP := ⟨fun v G => ∃ p vs, v = .ref p ∧ G p = some (.lst vs) ∧ reps R xs vs G, fun e ⟨p, vs, h, h1, h2⟩ => ⟨p, vs, h, e _ _ h1, h2.up e⟩⟩
theorem same_sqT (K : PySem.W.Frag) {G G' : Hp} {a : Addr} {xs : List V} (e : Same G G') (h : SqT K G a xs) : SqT K G' a xs := by
  rcases h with (h | ⟨o, h⟩) | h
  · exact .inl (.inl (e _ _ h))
  · exact .inl (.inr ⟨o, e _ _ h⟩)
  · exact .inr h
section
variable {α β : Type}
def rTup (R : α → VP) (xs : List α) : VP := ⟨fun v G => ∃ p vs, v = .ref p ∧ G p = some (.tup vs) ∧ reps R xs vs G, fun e ⟨p, vs, h, h1, h2⟩ => ⟨p, vs, h, e _ _ h1, h2.up e⟩⟩
/-- a tuple of the module -/
def rTupK (K : PySem.W.Frag) (R : α → VP) (xs : List α) : VP := ⟨fun v G => ∃ p vs, v = .ref p ∧ SqT K G p vs ∧ reps R xs vs G, fun e ⟨p, vs, h, h1, h2⟩ => ⟨p, vs, h, same_sqT K e h1, h2.up e⟩⟩
/-- a tuple of two -/
def rPr (R : α → VP) (S : β → VP) (q : α × β) : VP := ⟨fun v G => ∃ p x y, v = .ref p ∧ G p = some (.tup [x, y]) ∧ (R q.1).P x G ∧ (S q.2).P y G,
  fun e ⟨p, x, y, h, h1, h2, h3⟩ => ⟨p, x, y, h, e _ _ h1, (R _).up e h2, (S _).up e h3⟩⟩
def rOpt (R : α → VP) (q : Option α) : VP := ⟨fun v G => match q with | none => v = .non | some a => (R a).P v G, fun {v G G'} e h => by
  cases q with
  | none => exact h
  | some a => exact (R a).up e h⟩
/-! data of any depth, dicts of texts too -/
mutual
inductive Dq (G : Hp) : V → PyData → Prop
  | non : Dq G .non .none
  | bl (b : Bool) : Dq G (.bl b) (.bool b)
  | int (i : Int) : Dq G (.int i) (.int i)
  | str (x : Str) : Dq G (.str x) (.str x)
  | lst {a : Addr} {xs : List V} {ds : List PyData} : G a = some (.lst xs) → DqAll G xs ds → Dq G (.ref a) (.list ds)
  | tup {a : Addr} {xs : List V} {ds : List PyData} : G a = some (.tup xs) → DqAll G xs ds → Dq G (.ref a) (.tuple ds)
  | dict {a : Addr} {ks : List (Key × V)} {ds : List (Str × PyData)} : G a = some (.dK ks) → DqKv G ks ds → Dq G (.ref a) (.dict (ds.map fun p => (.str p.1, p.2)))
inductive DqAll (G : Hp) : List V → List PyData → Prop
  | nil : DqAll G [] []
  | cons {v : V} {vs : List V} {d : PyData} {ds : List PyData} : Dq G v d → DqAll G vs ds → DqAll G (v :: vs) (d :: ds)
inductive DqKv (G : Hp) : List (Key × V) → List (Str × PyData) → Prop
  | nil : DqKv G [] []
  | cons {k : Str} {v : V} {vs : List (Key × V)} {d : PyData} {ds : List (Str × PyData)} : Dq G v d → DqKv G vs ds → DqKv G ((.inr k, v) :: vs) ((k, d) :: ds)
end
theorem dq_up {G G' : Hp} (e : Same G G') {v : V} {d : PyData} (h : Dq G v d) : Dq G' v d :=
  Dq.rec (motive_1 := fun v d _ => Dq G' v d) (motive_2 := fun vs ds _ => DqAll G' vs ds) (motive_3 := fun vs ds _ => DqKv G' vs ds) .non .bl .int .str (fun h _ ih => .lst (e _ _ h) ih) (fun h _ ih => .tup (e _ _ h) ih) (fun h _ ih => .dict (e _ _ h) ih) .nil (fun _ _ a b => .cons a b) .nil (fun _ _ a b => .cons a b) h
theorem dq_dp {K : PySem.W.Frag} {G : Hp} {v : V} {d : PyData} (h : Dq G v d) : d.canLay0 = true → Dp K G v d :=
  Dq.rec (motive_1 := fun v d _ => d.canLay0 = true → Dp K G v d) (motive_2 := fun vs ds _ => PyData.canLayAll0 ds = true → DpAll K G vs ds) (motive_3 := fun _ _ _ => True)
    (fun _ => .non) (fun b _ => .bl b) (fun i _ => .int i) (fun x _ => .str x) (fun h _ ih c => .lst (SqL.of h) (ih c)) (fun h _ ih c => .tup (SqT.of h) (ih c)) (fun _ _ _ c => nomatch c) (fun _ => .nil)
    (fun _ _ a b c => .cons (a (Bool.and_eq_true_iff.mp c).1) (b (Bool.and_eq_true_iff.mp c).2)) trivial (fun _ _ _ _ => trivial) h
theorem dp_up {K : PySem.W.Frag} {G G' : Hp} (e : Same G G') {v : V} {d : PyData} (h : Dp K G v d) : Dp K G' v d :=
  Dp.rec (motive_1 := fun v d _ => Dp K G' v d) (motive_2 := fun vs ds _ => DpAll K G' vs ds) .non .bl .int .str (fun h _ ih => .lst (e.seq h) ih) (fun h _ ih => .tup (same_sqT K e h) ih) .nil (fun _ _ a b => .cons a b) h
def rDat (d : PyData) : VP := ⟨fun v G => Dq G v d, fun e h => dq_up e h⟩
def cLst (R : α → VP) (xs : List α) : CP := ⟨fun o G => ∃ vs, o = .lst vs ∧ reps R xs vs G, fun e ⟨vs, h, h2⟩ => ⟨vs, h, h2.up e⟩⟩
end
def XRep (mg : Str → Option Value) (x : Exc) (cls : Value) (d : Option Addr) (G H : Hp) : Prop :=
  ∃ C dd v, mg x.nm = some (.ref C) ∧ cls = .ref C ∧ d = some dd ∧ H dd = some (.xd [(x.f, v)]) ∧ G dd = none ∧ Dq G v x.d
def Kt (C : Cfg) {α : Type} (R : α → SL) (G W : Hp) (Q : VK) (Φ : α → Nat → Prop) : Prop :=
  ∀ a n v G' W' H', Φ a n → Stp G W G' W' → C.Θ.T n W' H' → Res C.B (R a) v G' W' → Fre (R a) v W → Q v H'
def Xt (C : Cfg) (σ : L2.St) (G W : Hp) (Ψ : Exc → Nat → Prop) : Prop :=
  ∀ x n cls d G' W' H', Ψ x n → XRep C.mg x cls d G' H' → Stp G W G' W' → C.Θ.T n W' H' → C.Ew σ cls d H'
theorem Kt.stp {C : Cfg} {α : Type} {R : α → SL} {G W G' W' : Hp} {Q : VK} {Φ : α → Nat → Prop} (k : Kt C R G W Q Φ) (p : Stp G W G' W') : Kt C R G' W' Q Φ :=
  fun a n v G2 W2 H2 h s t r f => k a n v G2 W2 H2 h (p.trans s) t r (f.stp p)
theorem Xt.stp {C : Cfg} {σ : L2.St} {G W G' W' : Hp} {Ψ : Exc → Nat → Prop} (k : Xt C σ G W Ψ) (p : Stp G W G' W') : Xt C σ G' W' Ψ :=
  fun x n cls d G2 W2 H2 h r s t => k x n cls d G2 W2 H2 h r (p.trans s) t
/-- an expression -/
def VE (C : Cfg) {α : Type} (te : TE) (ps : List SL) (m : M α) (R : α → SL) : Prop :=
  ∀ σ G W H n (Q : VK) Φ Ψ, Ee C.B ps σ G W → Stt C n G W H → m Φ Ψ n → Kt C R G W Q Φ → Xt C σ G W Ψ → te σ H Q
/-- a test -/
def VT (C : Cfg) (tt : TT) (ps : List SL) (m : M Bool) : Prop :=
  ∀ σ G W H n (Q : Bool → Hp → Prop) (Φ : Bool → Nat → Prop) Ψ, Ee C.B ps σ G W → Stt C n G W H → m Φ Ψ n →
    (∀ b n G' W' H', Φ b n → Stp G W G' W' → C.Θ.T n W' H' → Q b H') → Xt C σ G W Ψ → tt σ H Q
inductive RepL : List VP → List V → Hp → Prop
  | nil {G} : RepL [] [] G
  | cons {p ps v vs G} : p.P v G → RepL ps vs G → RepL (p :: ps) (v :: vs) G
theorem RepL.up {ps : List VP} {vs : List V} {G G' : Hp} (e : Same G G') (h : RepL ps vs G) : RepL ps vs G' := by
  revert e
  induction h with
  | nil => exact fun _ => .nil
  | cons a _ ih => exact fun e => .cons (VP.up _ e a) (ih e)
/-- arguments -/
def VA (C : Cfg) {α : Type} (ta : TA) (ps : List SL) (m : M α) (Rs : α → List VP) : Prop :=
  ∀ σ G W H n (Q : List V → Hp → Prop) Φ Ψ, Ee C.B ps σ G W → Stt C n G W H → m Φ Ψ n →
    (∀ a n vs G' W' H', Φ a n → Stp G W G' W' → C.Θ.T n W' H' → RepL (Rs a) vs G' → Q vs H') → Xt C σ G W Ψ → ta σ H Q
/-- an operator on values; of one; of several -/
def V2 (C : Cfg) {α β γ : Type} (r : R2) (Ra : α → VP) (Rb : β → VP) (m : α → β → M γ) (R : γ → SL) : Prop :=
  ∀ a b v u σ G W H n (Q : VK) Φ Ψ, (Ra a).P v G → (Rb b).P u G → Stt C n G W H → m a b Φ Ψ n → Kt C R G W Q Φ → Xt C σ G W Ψ → r v u H Q
def V1 (C : Cfg) {α γ : Type} (r : V → Hp → VK → Prop) (Ra : α → VP) (m : α → M γ) (R : γ → SL) : Prop :=
  ∀ a v σ G W H n (Q : VK) Φ Ψ, (Ra a).P v G → Stt C n G W H → m a Φ Ψ n → Kt C R G W Q Φ → Xt C σ G W Ψ → r v H Q
def Vn (C : Cfg) {α γ : Type} (r : List V → Hp → VK → Prop) (Rs : α → List VP) (m : α → M γ) (R : γ → SL) : Prop :=
  ∀ a vs σ G W H n (Q : VK) Φ Ψ, RepL (Rs a) vs G → Stt C n G W H → m a Φ Ψ n → Kt C R G W Q Φ → Xt C σ G W Ψ → r vs H Q
@[reducible] def Fz {α : Type} (R : α → VP) : α → SL := fun a => .fr (R a)
@[reducible] def Ow {α : Type} (c : α → CP) : α → SL := fun a => .ow (c a)
section
variable {C : Cfg} {α β γ : Type} {ps : List SL} {te ta tb : TE} {ma : M α} {mb : M β}
theorem ve_op2 {r : R2} {Ra : α → VP} {Rb : β → VP} {mr : α → β → M γ} {R : γ → SL} (ha : VE C ta ps ma (Fz Ra)) (hb : VE C tb ps mb (Fz Rb)) (hr : V2 C r Ra Rb mr R) :
    VE C (tOp r ta tb) ps (M.bind ma fun a => M.bind mb fun b => mr a b) R := by
  intro σ G W H n Q Φ Ψ e st hm k x
  refine ha σ G W H n _ (fun a n' => M.bind mb (fun b => mr a b) Φ Ψ n') Ψ e st hm ?_ x
  intro a n1 v G1 W1 H1 h1 s1 t1 r1 _
  have st1 := st.stp s1 t1
  refine hb σ G1 W1 H1 n1 _ (fun b n' => mr a b Φ Ψ n') Ψ (e.stp s1) st1 h1 ?_ (x.stp s1)
  intro b n2 u G2 W2 H2 h2 s2 t2 r2 _
  exact hr a b v u σ G2 W2 H2 n2 Q Φ Ψ ((Ra a).up s2.g r1) r2 (st1.stp s2 t2) h2 (k.stp (s1.trans s2)) (x.stp (s1.trans s2))
theorem ve_un {r : V → Hp → VK → Prop} {Ra : α → VP} {mr : α → M γ} {R : γ → SL} (ha : VE C ta ps ma (Fz Ra)) (hr : V1 C r Ra mr R) :
    VE C (tUn r ta) ps (M.bind ma fun a => mr a) R := by
  intro σ G W H n Q Φ Ψ e st hm k x
  refine ha σ G W H n _ (fun a n' => mr a Φ Ψ n') Ψ e st hm ?_ x
  intro a n1 v G1 W1 H1 h1 s1 t1 r1 _
  exact hr a v σ G1 W1 H1 n1 Q Φ Ψ r1 (st.stp s1 t1) h1 (k.stp s1) (x.stp s1)
theorem va_nil : VA C tNil ps (M.pure ()) (fun _ => []) := by
  intro σ G W H n Q Φ Ψ e st hm k x
  exact k () n [] G W H hm (Stp.refl st.gw) st.t .nil
theorem va_cons {Ra : α → VP} {Rs : β → List VP} {tr : TA} (ha : VE C ta ps ma (Fz Ra)) (hr : VA C tr ps mb Rs) :
    VA C (tCons ta tr) ps (M.bind ma fun a => M.bind mb fun b => M.pure (a, b)) (fun q => Ra q.1 :: Rs q.2) := by
  intro σ G W H n Q Φ Ψ e st hm k x
  refine ha σ G W H n _ (fun a n' => M.bind mb (fun b => M.pure (a, b)) Φ Ψ n') Ψ e st hm ?_ x
  intro a n1 v G1 W1 H1 h1 s1 t1 r1 _
  have st1 := st.stp s1 t1
  refine hr σ G1 W1 H1 n1 _ (fun b n' => Φ (a, b) n') Ψ (e.stp s1) st1 h1 ?_ (x.stp s1)
  intro b n2 vs G2 W2 H2 h2 s2 t2 r2
  exact k (a, b) n2 (v :: vs) G2 W2 H2 h2 (s1.trans s2) t2 (.cons ((Ra a).up s2.g r1) r2)
/-- a call of a built-in by its values -/
theorem ve_cb {r : List V → Hp → VK → Prop} {t : TA} {Rs : α → List VP} {mr : α → M γ} {R : γ → SL} (ha : VA C t ps ma Rs) (hr : Vn C r Rs mr R) :
    VE C (tCB r t) ps (M.bind ma fun a => mr a) R := by
  intro σ G W H n Q Φ Ψ e st hm k x
  refine ha σ G W H n _ (fun a n' => mr a Φ Ψ n') Ψ e st hm ?_ x
  intro a n1 vs G1 W1 H1 h1 s1 t1 r1
  exact hr a vs σ G1 W1 H1 n1 Q Φ Ψ r1 (st.stp s1 t1) h1 (k.stp s1) (x.stp s1)
/-! ### ends of a value-level step -/
theorem Kt.here {R : α → SL} {G W H : Hp} {Q : VK} {Φ : α → Nat → Prop} {n : Nat} {a : α} {v : V} (k : Kt C R G W Q Φ) (st : Stt C n G W H) (h : Φ a n) (r : Res C.B (R a) v G W) (f : Fre (R a) v W) : Q v H :=
  k a n v G W H h (Stp.refl st.gw) st.t r f
theorem Kt.hereF {R : α → VP} {G W H : Hp} {Q : VK} {Φ : α → Nat → Prop} {n : Nat} {a : α} {v : V} (k : Kt C (Fz R) G W Q Φ) (st : Stt C n G W H) (h : Φ a n) (r : (R a).P v G) : Q v H :=
  k a n v G W H h (Stp.refl st.gw) st.t r trivial
theorem Kt.newF {R : α → VP} {G W H : Hp} {Q : VK} {Φ : α → Nat → Prop} {n : Nat} {a : α} {p : Addr} {o : HO} (k : Kt C (Fz R) G W Q Φ) (st : Stt C n G W H) (h : Φ a n) (hp : H p = none) (r : (R a).P (.ref p) (upd G p o)) (nt : NT o := by exact ⟨(fun _ h => nomatch h), (fun _ h => nomatch h)⟩) : Q (.ref p) (upd H p o) :=
  k a n _ (upd G p o) (upd W p o) _ h (Stp.newF st hp) (st.newT hp nt) r trivial
theorem Kt.newO {c : α → CP} {G W H : Hp} {Q : VK} {Φ : α → Nat → Prop} {n : Nat} {a : α} {p : Addr} {o : HO} (k : Kt C (Ow c) G W Q Φ) (st : Stt C n G W H) (h : Φ a n) (hp : H p = none) (r : (c a).P o G) (nt : NT o := by exact ⟨(fun _ h => nomatch h), (fun _ h => nomatch h)⟩) : Q (.ref p) (upd H p o) :=
  k a n _ G (upd W p o) _ h (Stp.newO st hp) (st.newT hp nt) ⟨p, o, rfl, upd_same, st.gfree hp, st.bw.free (st.wfree hp), r⟩ fun q e => by cases e; exact st.wfree hp
/-! ### names and constants -/
theorem ve_var {i : Nat} {p : VP} (h : ps[i]? = some (.fr p) := by rfl) : VE C (tVar i) ps (M.pure ()) (Fz fun _ : Unit => p) := by
  intro σ G W H n Q Φ Ψ e st hm k x
  obtain ⟨v, h1, h2⟩ := e.at_ h (by simp)
  exact ⟨v, h1, k.hereF st hm h2⟩
/-- a name whose datum is known -/
theorem ve_v (R : α → VP) (a : α) {i : Nat} (h : ps[i]? = some (.fr (R a)) := by rfl) : VE C (tVar i) ps (M.pure a) (Fz R) := by
  intro σ G W H n Q Φ Ψ e st hm k x
  obtain ⟨v, h1, h2⟩ := e.at_ h (by simp)
  exact ⟨v, h1, k.hereF st hm h2⟩
theorem ve_c (R : α → VP) (a : α) {v : V} (h : ∀ G, (R a).P v G) : VE C (tC v) ps (M.pure a) (Fz R) := by
  intro σ G W H n Q Φ Ψ e st hm k x
  exact k.hereF st hm (h G)
end
/-- an owned list is shown -/
theorem ve_fr {C : Cfg} {α : Type} {te : TE} {ps : List SL} {γ : Type} {m : M γ} {c : γ → CP} {R : γ → VP} (h : VE C te ps m (Ow c)) (hc : ∀ a p o G, (c a).P o G → G p = none → (R a).P (.ref p) (upd G p o)) : VE C te ps m (Fz R) := by
  intro σ G W H n Q Φ Ψ e st hm k x
  refine h σ G W H n Q Φ Ψ e st hm ?_ x
  intro a n' v G' W' H' hΦ s t r f
  obtain ⟨p, o, rfl, h1, h2, h3, h4⟩ := r
  have hw := f p rfl
  refine k a n' _ (upd G' p o) W' H' hΦ ⟨s.g.trans (same_upd h2), s.w, same_put s.gw h1, fun q x hq => ?_⟩ t (hc a p o G' h4 h2) trivial
  by_cases z : q = p
  · subst z; exact .inr hw
  · rw [upd_ne z] at hq; exact s.ng q x hq
theorem ve_frL {C : Cfg} {α : Type} {te : TE} {ps : List SL} {R : α → VP} {m : M (List α)} (h : VE C te ps m (Ow (cLst R))) : VE C te ps m (Fz (rLst R)) :=
  ve_fr (α := α) h fun a p o G hc hp => by
    obtain ⟨vs, rfl, hv⟩ := hc
    exact ⟨p, vs, rfl, upd_same, hv.up (same_upd hp)⟩
end VL

namespace VL
open PySem PySem.Spec PyProof.Rows L2
section
variable {C : Cfg} {α β γ : Type} {ps : List SL}
/-! ### whole numbers, truth values, texts -/
theorem v2_i0 {g : Int → Int → V} (f : Int → Int → γ) (R : γ → VP) (h : ∀ i j G, (R (f i j)).P (g i j) G) : V2 C (rI0 g) rInt rInt (fun i j => M.pure (f i j)) (Fz R) := by
  intro i j v u σ G W H n Q Φ Ψ hv hu st hm k x
  exact ⟨i, j, hv, hu, k.hereF st hm (h i j G)⟩
theorem v2_add : V2 C (rI0 fun i j => .int (i + j)) rInt rInt (fun i j => M.pure (i + j)) (Fz rInt) := v2_i0 _ rInt fun _ _ _ => rfl
theorem v2_sub : V2 C (rI0 fun i j => .int (i - j)) rInt rInt (fun i j => M.pure (i - j)) (Fz rInt) := v2_i0 _ rInt fun _ _ _ => rfl
theorem v2_lt : V2 C (rI0 fun i j => .bl (decide (i < j))) rInt rInt (fun i j => M.pure (decide (i < j))) (Fz rBl) := v2_i0 _ rBl fun _ _ _ => rfl
theorem v2_le : V2 C (rI0 fun i j => .bl (decide (i ≤ j))) rInt rInt (fun i j => M.pure (decide (i ≤ j))) (Fz rBl) := v2_i0 _ rBl fun _ _ _ => rfl
theorem v2_gt : V2 C (rI0 fun i j => .bl (decide (j < i))) rInt rInt (fun i j => M.pure (decide (j < i))) (Fz rBl) := v2_i0 _ rBl fun _ _ _ => rfl
theorem v2_ge : V2 C (rI0 fun i j => .bl (decide (j ≤ i))) rInt rInt (fun i j => M.pure (decide (j ≤ i))) (Fz rBl) := v2_i0 _ rBl fun _ _ _ => rfl
theorem v2_ic {c : Int → Int → Prop} {g : Int → Int → V} (f : Int → Int → γ) (R : γ → VP) (h : ∀ i j G, (R (f i j)).P (g i j) G) : V2 C (rI c g) rInt rInt (fun i j => M.when (c i j) (f i j)) (Fz R) := by
  intro i j v u σ G W H n Q Φ Ψ hv hu st hm k x
  exact ⟨i, j, hv, hu, hm.1, k.hereF st hm.2 (h i j G)⟩
theorem v2_mul : V2 C (rI CMulW fun i j => .int (i * j)) rInt rInt (fun i j => M.when (CMulW i j) (i * j)) (Fz rInt) := v2_ic _ rInt fun _ _ _ => rfl
theorem v2_fdiv : V2 C (rI CDivW fun i j => .int (i / j)) rInt rInt (fun i j => M.when (CDivW i j) (i / j)) (Fz rInt) := v2_ic _ rInt fun _ _ _ => rfl
theorem v2_mod : V2 C (rI (fun _ j => j ≠ 0) fun i j => .int (i.fmod j)) rInt rInt (fun i j => M.when (j ≠ 0) (i.fmod j)) (Fz rInt) := v2_ic (c := fun _ j => j ≠ 0) _ rInt fun _ _ _ => rfl
theorem v2_pow : V2 C (rI CPow fun i j => .int (i ^ j.toNat)) rInt rInt (fun i j => M.when (CPow i j) (i ^ j.toNat)) (Fz rInt) := v2_ic _ rInt fun _ _ _ => rfl
theorem v1_neg : V1 C (rU fun i => .int (-i)) rInt (fun i => M.pure (-i)) (Fz rInt) := by
  intro i v σ G W H n Q Φ Ψ hv st hm k x
  exact ⟨i, hv, k.hereF st hm rfl⟩
theorem dec_congr {p q : Prop} [Decidable p] [Decidable q] (h : p ↔ q) : decide p = decide q := by
  by_cases hp : p
  · rw [decide_eq_true hp, decide_eq_true (h.mp hp)]
  · rw [decide_eq_false hp, decide_eq_false fun hq => hp (h.mpr hq)]
theorem v2_eqI : V2 C rEq rInt rInt (fun i j => M.pure (decide (i = j))) (Fz rBl) := by
  intro i j v u σ G W H n Q Φ Ψ hv hu st hm k x
  have hv : v = .int i := hv
  have hu : u = .int j := hu
  subst hv hu
  exact ⟨rfl, k.hereF (a := decide (i = j)) st hm (congrArg V.bl (dec_congr (by simp)))⟩
theorem v2_neI : V2 C rNe rInt rInt (fun i j => M.pure (!decide (i = j))) (Fz rBl) := by
  intro i j v u σ G W H n Q Φ Ψ hv hu st hm k x
  have hv : v = .int i := hv
  have hu : u = .int j := hu
  subst hv hu
  exact ⟨rfl, k.hereF (a := !decide (i = j)) st hm (congrArg (fun b => V.bl (!b)) (dec_congr (by simp)))⟩
theorem v2_eqS : V2 C rEq rStr rStr (fun i j => M.pure (decide (i = j))) (Fz rBl) := by
  intro i j v u σ G W H n Q Φ Ψ hv hu st hm k x
  have hv : v = .str i := hv
  have hu : u = .str j := hu
  subst hv hu
  exact ⟨rfl, k.hereF (a := decide (i = j)) st hm (congrArg V.bl (dec_congr (by simp)))⟩
theorem v2_neS : V2 C rNe rStr rStr (fun i j => M.pure (!decide (i = j))) (Fz rBl) := by
  intro i j v u σ G W H n Q Φ Ψ hv hu st hm k x
  have hv : v = .str i := hv
  have hu : u = .str j := hu
  subst hv hu
  exact ⟨rfl, k.hereF (a := !decide (i = j)) st hm (congrArg (fun b => V.bl (!b)) (dec_congr (by simp)))⟩
theorem v2_eqB : V2 C rEq rBl rBl (fun i j => M.pure (decide (i = j))) (Fz rBl) := by
  intro i j v u σ G W H n Q Φ Ψ hv hu st hm k x
  have hv : v = .bl i := hv
  have hu : u = .bl j := hu
  subst hv hu
  exact ⟨rfl, k.hereF (a := decide (i = j)) st hm (congrArg V.bl (dec_congr (by simp)))⟩
theorem v2_neB : V2 C rNe rBl rBl (fun i j => M.pure (!decide (i = j))) (Fz rBl) := by
  intro i j v u σ G W H n Q Φ Ψ hv hu st hm k x
  have hv : v = .bl i := hv
  have hu : u = .bl j := hu
  subst hv hu
  exact ⟨rfl, k.hereF (a := !decide (i = j)) st hm (congrArg (fun b => V.bl (!b)) (dec_congr (by simp)))⟩
theorem v2_catS : V2 C (fun x y H Q => ∃ i j, x = .str i ∧ y = .str j ∧ i.length + j.length ≤ sizeLine ∧ Q (.str (i ++ j)) H) rStr rStr (fun i j => M.when (i.length + j.length ≤ sizeLine) (i ++ j)) (Fz rStr) := by
  intro i j v u σ G W H n Q Φ Ψ hv hu st hm k x
  exact ⟨i, j, hv, hu, hm.1, k.hereF st hm.2 rfl⟩
theorem v2_isN {R : α → VP} : V2 C (fun x y H Q => y = .non ∧ Q (.bl (decide (x = .non))) H) (rOpt R) rNon (fun q _ => fun Φ _ n => (∀ a, q = some a → ∀ v G, (R a).P v G → v ≠ .non) ∧ Φ q.isNone n) (Fz rBl) := by
  intro q _ v u σ G W H n Q Φ Ψ hv hu st hm k x
  refine ⟨hu, k.hereF (a := q.isNone) st hm.2 ?_⟩
  cases q with
  | none =>
    have hv : v = .non := hv
    subst hv
    rfl
  | some a => exact congrArg V.bl (decide_eq_false (hm.1 a rfl v G hv))
theorem v2_notN {R : α → VP} : V2 C (fun x y H Q => y = .non ∧ Q (.bl (!decide (x = .non))) H) (rOpt R) rNon (fun q _ => fun Φ _ n => (∀ a, q = some a → ∀ v G, (R a).P v G → v ≠ .non) ∧ Φ q.isSome n) (Fz rBl) := by
  intro q _ v u σ G W H n Q Φ Ψ hv hu st hm k x
  refine ⟨hu, k.hereF (a := q.isSome) st hm.2 ?_⟩
  cases q with
  | none =>
    have hv : v = .non := hv
    subst hv
    rfl
  | some a => exact congrArg (fun b => V.bl (!b)) (decide_eq_false (hm.1 a rfl v G hv))
theorem v2_isBl : V2 C rIsB rBl rBl (fun a b => M.pure (decide (a = b))) (Fz rBl) := by
  intro i j v u σ G W H n Q Φ Ψ hv hu st hm k x
  exact ⟨i, j, hv, hu, k.hereF st hm rfl⟩
theorem v2_notBl : V2 C rNotB rBl rBl (fun a b => M.pure (!decide (a = b))) (Fz rBl) := by
  intro i j v u σ G W H n Q Φ Ψ hv hu st hm k x
  exact ⟨i, j, hv, hu, k.hereF st hm rfl⟩
def M.inS (a z : Str) : M Bool := fun Φ _ n => ∃ c, a = ⟨#[c]⟩ ∧ Φ (decide (c ∈ z.cps.toList)) n
def M.niS (a z : Str) : M Bool := fun Φ _ n => ∃ c, a = ⟨#[c]⟩ ∧ Φ (!decide (c ∈ z.cps.toList)) n
theorem v2_inSign : V2 C (fun x y H Q => ∃ (c : Nat) (z : Str), x = .str ⟨#[c]⟩ ∧ y = .str z ∧ Q (.bl (decide (c ∈ z.cps.toList))) H) rStr rStr M.inS (Fz rBl) := by
  rintro i j v u σ G W H n Q Φ Ψ hv hu st ⟨c, rfl, hm⟩ k x
  exact ⟨c, j, hv, hu, k.hereF st hm rfl⟩
theorem v2_niSign : V2 C (fun x y H Q => ∃ (c : Nat) (z : Str), x = .str ⟨#[c]⟩ ∧ y = .str z ∧ Q (.bl (!decide (c ∈ z.cps.toList))) H) rStr rStr M.niS (Fz rBl) := by
  rintro i j v u σ G W H n Q Φ Ψ hv hu st ⟨c, rfl, hm⟩ k x
  exact ⟨c, j, hv, hu, k.hereF st hm rfl⟩
/-! ### lists, tuples -/
def M.idx {α : Type} (xs : List α) (i : Int) : M α := fun Q _ n => ∃ x, atI xs i = some x ∧ Q x n
theorem reps.atI {R : α → VP} {xs : List α} {vs : List V} {G : Hp} {i : Int} {x : α} (h : reps R xs vs G) (e : L2.atI xs i = some x) : ∃ v, L2.atI vs i = some v ∧ (R x).P v G := by
  unfold L2.atI at e ⊢
  rw [h.len]
  cases hi : ixN xs.length i with
  | none => rw [hi] at e; cases e
  | some j =>
    rw [hi] at e
    exact h.get e
theorem v2_ixL {R : α → VP} : V2 C (rIxL C.K) (rLst R) rInt M.idx (Fz R) := by
  rintro xs i v u σ G W H n Q Φ Ψ ⟨p, vs, rfl, h1, h2⟩ hu st ⟨y, hy, hm⟩ k x
  obtain ⟨z, hz, hr⟩ := h2.atI hy
  exact ⟨p, vs, i, z, rfl, hu, SqL.of (st.gh _ _ h1), hz, k.hereF st hm hr⟩
theorem v2_ixT {R : α → VP} : V2 C (rIxT C.K) (rTup R) rInt M.idx (Fz R) := by
  rintro xs i v u σ G W H n Q Φ Ψ ⟨p, vs, rfl, h1, h2⟩ hu st ⟨y, hy, hm⟩ k x
  obtain ⟨z, hz, hr⟩ := h2.atI hy
  exact ⟨p, vs, i, z, rfl, hu, SqT.of (st.gh _ _ h1), hz, k.hereF st hm hr⟩
def M.sgn (z : Str) (i : Int) : M Str := fun Φ _ n => z.length ≤ sizeLine ∧ ∃ c, L2.atI z.cps.toList i = some c ∧ Φ ⟨#[c]⟩ n
theorem v2_ixS : V2 C rIxS rStr rInt M.sgn (Fz rStr) := by
  rintro z i v u σ G W H n Q Φ Ψ hv hu st ⟨hl, c, hc, hm⟩ k x
  exact ⟨z, i, c, hv, hu, hl, hc, k.hereF st hm rfl⟩
/-- the first, the second of a pair -/
theorem v2_fst {R : α → VP} {S : β → VP} : V2 C (rIxT C.K) (rPr R S) rInt (fun q i => fun Φ _ n => i = 0 ∧ Φ q.1 n) (Fz R) := by
  rintro q i v u σ G W H n Q Φ Ψ ⟨p, a, b, rfl, h1, h2, h3⟩ hu st ⟨rfl, hm⟩ k x
  exact ⟨p, _, 0, a, rfl, hu, SqT.of (st.gh _ _ h1), rfl, k.hereF st hm h2⟩
theorem v2_snd {R : α → VP} {S : β → VP} : V2 C (rIxT C.K) (rPr R S) rInt (fun q i => fun Φ _ n => i = 1 ∧ Φ q.2 n) (Fz S) := by
  rintro q i v u σ G W H n Q Φ Ψ ⟨p, a, b, rfl, h1, h2, h3⟩ hu st ⟨rfl, hm⟩ k x
  exact ⟨p, _, 1, b, rfl, hu, SqT.of (st.gh _ _ h1), rfl, k.hereF st hm h3⟩
theorem v2_catL {R : α → VP} : V2 C rCat (rLst R) (rLst R) (fun xs ys => M.when (xs.length + ys.length ≤ sizeLine) (xs ++ ys)) (Ow (cLst R)) := by
  rintro xs ys v u σ G W H n Q Φ Ψ ⟨p, vs, rfl, h1, h2⟩ ⟨q, us, rfl, h3, h4⟩ st ⟨hl, hm⟩ k x
  refine ⟨p, q, vs, us, rfl, rfl, st.gh _ _ h1, st.gh _ _ h3, by rw [h2.len, h4.len]; exact hl, fun r hr => k.newO (a := xs ++ ys) st hm hr ⟨_, rfl, h2.app h4⟩⟩
theorem v2_catT {R : α → VP} : V2 C (rCatA C.K) (rTup R) (rTup R) (fun xs ys => M.when (xs.length + ys.length ≤ sizeLine) (xs ++ ys)) (Fz (rTup R)) := by
  rintro xs ys v u σ G W H n Q Φ Ψ ⟨p, vs, rfl, h1, h2⟩ ⟨q, us, rfl, h3, h4⟩ st ⟨hl, hm⟩ k x
  refine ⟨p, q, vs, us, rfl, rfl, SqT.of (st.gh _ _ h1), SqT.of (st.gh _ _ h3), by rw [h2.len, h4.len]; exact hl, fun e => ?_, fun _ e => ?_, fun _ _ r hr => ?_⟩
  · have : xs = [] := List.eq_nil_of_length_eq_zero (by rw [← h2.len, e]; rfl)
    subst this
    exact k.hereF st hm ⟨q, us, rfl, h3, h4⟩
  · have : ys = [] := List.eq_nil_of_length_eq_zero (by rw [← h4.len, e]; rfl)
    subst this
    rw [List.append_nil] at hm
    exact k.hereF st hm ⟨p, vs, rfl, h1, h2⟩
  · exact k.newF (a := xs ++ ys) st hm hr ⟨r, _, rfl, upd_same, (h2.app h4).up (same_upd (st.gfree hr))⟩
theorem reps.rep {R : α → VP} {xs : List α} {vs : List V} {G : Hp} (h : reps R xs vs G) : ∀ k : Nat, reps R (List.replicate k xs).flatten (List.replicate k vs).flatten G
  | 0 => trivial
  | k + 1 => by
    rw [List.replicate_succ, List.replicate_succ, List.flatten_cons, List.flatten_cons]
    exact h.app (reps.rep h k)
theorem v2_rep {R : α → VP} : V2 C rRep (rLst R) rInt (fun xs k => M.when (-(2 ^ 63) ≤ k ∧ k < 2 ^ 63 ∧ xs.length * k.toNat ≤ sizeLine) (List.replicate k.toNat xs).flatten) (Ow (cLst R)) := by
  rintro xs i v u σ G W H n Q Φ Ψ ⟨p, vs, rfl, h1, h2⟩ hu st ⟨⟨a, b, c⟩, hm⟩ k x
  exact ⟨p, i, vs, rfl, hu, st.gh _ _ h1, a, b, by rw [h2.len]; exact c, fun r hr => k.newO (a := (List.replicate i.toNat xs).flatten) st hm hr ⟨_, rfl, h2.rep _⟩⟩
theorem RepL.len {ps : List VP} {vs : List V} {G : Hp} (h : RepL ps vs G) : vs.length = ps.length := by
  induction h with
  | nil => rfl
  | cons _ _ ih => rw [List.length_cons, List.length_cons, ih]
/-! ### displays -/
theorem ve_tup {t : TA} {m : M α} {Rs : α → List VP} (R : α → VP) (ht : VA C t ps m Rs) (hl : ∀ a, (Rs a).length ≤ 1000) (hR : ∀ a p vs G, G p = some (.tup vs) → RepL (Rs a) vs G → (R a).P (.ref p) G) : VE C (tTup t) ps m (Fz R) := by
  intro σ G W H n Q Φ Ψ e st hm k x
  refine ht σ G W H n _ Φ Ψ e st hm (fun a n' vs G' W' H' hΦ s t' r => ⟨?_, fun p hp => ?_⟩) x
  · rw [r.len]; exact size1000 (hl a)
  · have st' := st.stp s t'
    exact (k.stp s).newF (a := a) st' hΦ hp (hR a p vs _ upd_same (r.up (same_upd (st'.gfree hp))))
theorem ve_lst {t : TA} {m : M α} {Rs : α → List VP} (c : α → CP) (ht : VA C t ps m Rs) (hl : ∀ a, (Rs a).length ≤ 1000) (hR : ∀ a vs G, RepL (Rs a) vs G → (c a).P (.lst vs) G) : VE C (tLst t) ps m (Ow c) := by
  intro σ G W H n Q Φ Ψ e st hm k x
  refine ht σ G W H n _ Φ Ψ e st hm (fun a n' vs G' W' H' hΦ s t' r => ⟨?_, fun p hp => ?_⟩) x
  · rw [r.len]; exact size1000 (hl a)
  · exact (k.stp s).newO (a := a) (st.stp s t') hΦ hp (hR a vs G' r)
/-- another shape of the datum -/
theorem ve_map {te : TE} {m : M α} {R : α → SL} {S : β → SL} (f : α → β) (h : VE C te ps m R) (hR : ∀ a, R a = S (f a)) : VE C te ps (M.bind m fun a => M.pure (f a)) S := by
  intro σ G W H n Q Φ Ψ e st hm k x
  exact h σ G W H n Q (fun a n' => Φ (f a) n') Ψ e st hm (fun a n' v G' W' H' hΦ s t r fr => k (f a) n' v G' W' H' hΦ s t (by rw [← hR]; exact r) (by rw [← hR]; exact fr)) x
/-- the same datum, known by less -/
theorem ve_weak {te : TE} {m : M α} {R S : α → VP} (h : VE C te ps m (Fz R)) (hR : ∀ a v G, (R a).P v G → (S a).P v G) : VE C te ps m (Fz S) := by
  intro σ G W H n Q Φ Ψ e st hm k x
  exact h σ G W H n Q Φ Ψ e st hm (fun a n' v G' W' H' hΦ s t r fr => k a n' v G' W' H' hΦ s t (hR a v G' r) trivial) x
theorem ve_weakM {te : TE} {m : M α} {R : α → VP} {S : β → VP} (f : α → β) (h : VE C te ps m (Fz R)) (hR : ∀ a v G, (R a).P v G → (S (f a)).P v G) : VE C te ps (M.bind m fun a => M.pure (f a)) (Fz S) := by
  intro σ G W H n Q Φ Ψ e st hm k x
  exact h σ G W H n Q (fun a n' => Φ (f a) n') Ψ e st hm (fun a n' v G' W' H' hΦ s t r fr => k (f a) n' v G' W' H' hΦ s t (hR a v G' r) trivial) x
/-! ### slices -/
def cutL {α : Type} (xs : List α) (lo hi : Option Int) : List α := (xs.drop (HT.sIx xs.length 0 lo)).take (HT.sIx xs.length xs.length hi - HT.sIx xs.length 0 lo)
theorem reps.cut {R : α → VP} {xs : List α} {vs : List V} {G : Hp} (h : reps R xs vs G) (lo hi : Option Int) : reps R (cutL xs lo hi) (cutV vs lo hi) G := by
  unfold cutL cutV
  rw [h.len]
  exact (h.drop _).take _
def VO (C : Cfg) (to : TO) (ps : List SL) (m : M (Option Int)) : Prop :=
  ∀ σ G W H n (Q : Option Int → Hp → Prop) (Φ : Option Int → Nat → Prop) Ψ, Ee C.B ps σ G W → Stt C n G W H → m Φ Ψ n →
    (∀ b n G' W' H', Φ b n → Stp G W G' W' → C.Θ.T n W' H' → Q b H') → Xt C σ G W Ψ → to σ H Q
theorem vo_none : VO C tNoPart ps (M.pure none) := by
  intro σ G W H n Q Φ Ψ e st hm k x
  exact k none n G W H hm (Stp.refl st.gw) st.t
theorem vo_some {te : TE} {m : M Int} (h : VE C te ps m (Fz rInt)) : VO C (tPart te) ps (M.bind m fun i => M.pure (some i)) := by
  intro σ G W H n Q Φ Ψ e st hm k x
  exact h σ G W H n _ (fun a n' => Φ (some a) n') Ψ e st hm (fun a n' v G' W' H' hΦ s t r _ => ⟨a, r, k (some a) n' G' W' H' hΦ s t⟩) x
def V3 (C : Cfg) {α γ : Type} (r : V → Option Int → Option Int → Hp → VK → Prop) (Ra : α → VP) (m : α → Option Int → Option Int → M γ) (R : γ → SL) : Prop :=
  ∀ a v lo hi σ G W H n (Q : VK) Φ Ψ, (Ra a).P v G → Stt C n G W H → m a lo hi Φ Ψ n → Kt C R G W Q Φ → Xt C σ G W Ψ → r v lo hi H Q
theorem ve_sl {r : V → Option Int → Option Int → Hp → VK → Prop} {te : TE} {tl th : TO} {Ra : α → VP} {ma : M α} {ml mh : M (Option Int)} {mr : α → Option Int → Option Int → M γ} {R : γ → SL} (ha : VE C te ps ma (Fz Ra)) (hl : VO C tl ps ml) (hh : VO C th ps mh) (hr : V3 C r Ra mr R) :
    VE C (tSl r te tl th) ps (M.bind ma fun a => M.bind ml fun lo => M.bind mh fun hi => mr a lo hi) R := by
  intro σ G W H n Q Φ Ψ e st hm k x
  refine ha σ G W H n _ (fun a n' => M.bind ml (fun lo => M.bind mh fun hi => mr a lo hi) Φ Ψ n') Ψ e st hm ?_ x
  intro a n1 v G1 W1 H1 h1 s1 t1 r1 _
  have st1 := st.stp s1 t1
  refine hl σ G1 W1 H1 n1 _ (fun lo n' => M.bind mh (fun hi => mr a lo hi) Φ Ψ n') Ψ (e.stp s1) st1 h1 ?_ (x.stp s1)
  intro lo n2 G2 W2 H2 h2 s2 t2
  have st2 := st1.stp s2 t2
  have s12 := s1.trans s2
  refine hh σ G2 W2 H2 n2 _ (fun hi n' => mr a lo hi Φ Ψ n') Ψ (e.stp s12) st2 h2 ?_ (x.stp s12)
  intro hi n3 G3 W3 H3 h3 s3 t3
  have s13 := s12.trans s3
  exact hr a v lo hi σ G3 W3 H3 n3 Q Φ Ψ ((Ra a).up (s2.trans s3).g r1) (st2.stp s3 t3) h3 (k.stp s13) (x.stp s13)
theorem v3_slL {R : α → VP} : V3 C (rSlL C.K) (rLst R) (fun xs lo hi => M.pure (cutL xs lo hi)) (Ow (cLst R)) := by
  rintro xs v lo hi σ G W H n Q Φ Ψ ⟨p, vs, rfl, h1, h2⟩ st hm k x
  exact ⟨p, vs, rfl, SqL.of (st.gh _ _ h1), fun r hr => k.newO (a := cutL xs lo hi) st hm hr ⟨_, rfl, h2.cut lo hi⟩⟩
theorem cutL_all {xs : List α} {lo hi : Option Int} (h : HT.sIx xs.length 0 lo = 0 ∧ HT.sIx xs.length xs.length hi = xs.length) : cutL xs lo hi = xs := by
  unfold cutL
  rw [h.1, h.2, List.drop_zero, Nat.sub_zero, List.take_length]
theorem v3_slT {R : α → VP} : V3 C (rSlA C.K) (rTup R) (fun xs lo hi => M.pure (cutL xs lo hi)) (Fz (rTup R)) := by
  rintro xs v lo hi σ G W H n Q Φ Ψ ⟨p, vs, rfl, h1, h2⟩ st hm k x
  refine ⟨p, vs, rfl, SqT.of (st.gh _ _ h1), fun e => ?_, fun _ r hr => k.newF (a := cutL xs lo hi) st hm hr ⟨r, _, rfl, upd_same, (h2.cut lo hi).up (same_upd (st.gfree hr))⟩⟩
  rw [h2.len] at e
  exact k.hereF (a := cutL xs lo hi) st hm (by rw [cutL_all e]; exact ⟨p, vs, rfl, h1, h2⟩)
theorem v3_slS : V3 C rSlS rStr (fun z lo hi => M.when (z.length ≤ sizeLine) (cutS z lo hi)) (Fz rStr) := by
  rintro z v lo hi σ G W H n Q Φ Ψ hv st hm k x
  exact ⟨z, hv, hm.1, k.hereF st hm.2 rfl⟩
theorem ve_revL {R : α → VP} {te : TE} {m : M (List α)} (h : VE C te ps m (Fz (rLst R))) : VE C (tRevL C.K te) ps (M.bind m fun xs => M.pure xs.reverse) (Ow (cLst R)) := by
  intro σ G W H n Q Φ Ψ e st hm k x
  refine h σ G W H n _ (fun a n' => Φ a.reverse n') Ψ e st hm ?_ x
  rintro xs n1 v G1 W1 H1 h1 s1 t1 ⟨p, vs, rfl, h2, h3⟩ _
  have st1 := st.stp s1 t1
  exact ⟨p, vs, rfl, SqL.of (st1.gh _ _ h2), fun r hr => (k.stp s1).newO (a := xs.reverse) st1 h1 hr ⟨_, rfl, h3.rev⟩⟩
/-! ### built-ins -/
theorem vn_lenL {R : α → VP} : Vn C (fun xs H Q => ∃ p ys, xs = [.ref p] ∧ (SqL C.K H p ys ∨ SqT C.K H p ys) ∧ Q (.int ys.length) H) (fun q : List α × Unit => [rLst R q.1]) (fun q => M.pure (q.1.length : Int)) (Fz rInt) := by
  rintro q vs σ G W H n Q Φ Ψ (_ | ⟨⟨p, us, rfl, h1, h2⟩, _ | _⟩) st hm k x
  exact ⟨p, us, rfl, .inl (SqL.of (st.gh _ _ h1)), k.hereF (a := (q.1.length : Int)) st hm (by rw [h2.len]; rfl)⟩
theorem vn_lenT {R : α → VP} : Vn C (fun xs H Q => ∃ p ys, xs = [.ref p] ∧ (SqL C.K H p ys ∨ SqT C.K H p ys) ∧ Q (.int ys.length) H) (fun q : List α × Unit => [rTup R q.1]) (fun q => M.pure (q.1.length : Int)) (Fz rInt) := by
  rintro q vs σ G W H n Q Φ Ψ (_ | ⟨⟨p, us, rfl, h1, h2⟩, _ | _⟩) st hm k x
  exact ⟨p, us, rfl, .inr (SqT.of (st.gh _ _ h1)), k.hereF (a := (q.1.length : Int)) st hm (by rw [h2.len]; rfl)⟩
theorem vn_lenS : Vn C (fun xs H Q => ∃ z, xs = [.str z] ∧ z.length ≤ sizeLine ∧ Q (.int z.length) H) (fun q : Str × Unit => [rStr q.1]) (fun q => M.when (q.1.length ≤ sizeLine) (q.1.length : Int)) (Fz rInt) := by
  rintro q vs σ G W H n Q Φ Ψ (_ | ⟨hv, _ | _⟩) st hm k x
  cases hv
  exact ⟨q.1, rfl, hm.1, k.hereF (a := (q.1.length : Int)) st hm.2 rfl⟩
theorem vn_abs : Vn C (fun xs H Q => ∃ i, xs = [.int i] ∧ Q (.int (if i < 0 then -i else i)) H) (fun q : Int × Unit => [rInt q.1]) (fun q => M.pure (if q.1 < 0 then -q.1 else q.1)) (Fz rInt) := by
  rintro q vs σ G W H n Q Φ Ψ (_ | ⟨hv, _ | _⟩) st hm k x
  cases hv
  exact ⟨q.1, rfl, k.hereF (a := if q.1 < 0 then -q.1 else q.1) st hm rfl⟩
theorem vn_intI : Vn C (fun xs H Q => (∃ i, xs = [.int i] ∧ Q (.int i) H) ∨ ∃ k, xs = [.bl k] ∧ Q (.int (if k then 1 else 0)) H) (fun q : Int × Unit => [rInt q.1]) (fun q => M.pure q.1) (Fz rInt) := by
  rintro q vs σ G W H n Q Φ Ψ (_ | ⟨hv, _ | _⟩) st hm k x
  cases hv
  exact .inl ⟨q.1, rfl, k.hereF (a := q.1) st hm rfl⟩
theorem vn_intB : Vn C (fun xs H Q => (∃ i, xs = [.int i] ∧ Q (.int i) H) ∨ ∃ k, xs = [.bl k] ∧ Q (.int (if k then 1 else 0)) H) (fun q : Bool × Unit => [rBl q.1]) (fun q => M.pure (if q.1 then (1 : Int) else 0)) (Fz rInt) := by
  rintro q vs σ G W H n Q Φ Ψ (_ | ⟨hv, _ | _⟩) st hm k x
  cases hv
  exact .inr ⟨q.1, rfl, k.hereF (a := if q.1 then (1 : Int) else 0) st hm rfl⟩
def M.strI (i : Int) : M Str := M.when (i.natAbs.log2 < 1920) (Str.ofString (toString i))
theorem vn_strI : Vn C (fun xs H Q => ∃ i, xs = [.int i] ∧ i.natAbs.log2 < 1920 ∧ Q (.str (toString i)) H) (fun q : Int × Unit => [rInt q.1]) (fun q => M.strI q.1) (Fz rStr) := by
  rintro q vs σ G W H n Q Φ Ψ (_ | ⟨hv, _ | _⟩) st hm k x
  cases hv
  exact ⟨q.1, rfl, hm.1, k.hereF (a := Str.ofString (toString q.1)) st hm.2 rfl⟩
theorem vn_listL {R : α → VP} : Vn C (fun xs H Q => ∃ p ys, xs = [.ref p] ∧ (SqL C.K H p ys ∨ SqT C.K H p ys) ∧ ∀ l, H l = none → Q (.ref l) (upd H l (.lst ys))) (fun q : List α × Unit => [rLst R q.1]) (fun q => M.pure q.1) (Ow (cLst R)) := by
  rintro q vs σ G W H n Q Φ Ψ (_ | ⟨⟨p, us, rfl, h1, h2⟩, _ | _⟩) st hm k x
  exact ⟨p, us, rfl, .inl (SqL.of (st.gh _ _ h1)), fun r hr => k.newO (a := q.1) st hm hr ⟨_, rfl, h2⟩⟩
theorem vn_listT {R : α → VP} : Vn C (fun xs H Q => ∃ p ys, xs = [.ref p] ∧ (SqL C.K H p ys ∨ SqT C.K H p ys) ∧ ∀ l, H l = none → Q (.ref l) (upd H l (.lst ys))) (fun q : List α × Unit => [rTup R q.1]) (fun q => M.pure q.1) (Ow (cLst R)) := by
  rintro q vs σ G W H n Q Φ Ψ (_ | ⟨⟨p, us, rfl, h1, h2⟩, _ | _⟩) st hm k x
  exact ⟨p, us, rfl, .inr (SqT.of (st.gh _ _ h1)), fun r hr => k.newO (a := q.1) st hm hr ⟨_, rfl, h2⟩⟩
theorem vn_tupL {R : α → VP} : Vn C (fun xs H Q => ∃ p ys, xs = [.ref p] ∧ ((SqL C.K H p ys ∧ ∀ l, H l = none → Q (.ref l) (upd H l (.tup ys))) ∨ (SqT C.K H p ys ∧ Q (.ref p) H))) (fun q : List α × Unit => [rLst R q.1]) (fun q => M.pure q.1) (Fz (rTup R)) := by
  rintro q vs σ G W H n Q Φ Ψ (_ | ⟨⟨p, us, rfl, h1, h2⟩, _ | _⟩) st hm k x
  exact ⟨p, us, rfl, .inl ⟨SqL.of (st.gh _ _ h1), fun r hr => k.newF (a := q.1) st hm hr ⟨r, _, rfl, upd_same, h2.up (same_upd (st.gfree hr))⟩⟩⟩
theorem vn_tupT {R : α → VP} : Vn C (fun xs H Q => ∃ p ys, xs = [.ref p] ∧ ((SqL C.K H p ys ∧ ∀ l, H l = none → Q (.ref l) (upd H l (.tup ys))) ∨ (SqT C.K H p ys ∧ Q (.ref p) H))) (fun q : List α × Unit => [rTup R q.1]) (fun q => M.pure q.1) (Fz (rTup R)) := by
  rintro q vs σ G W H n Q Φ Ψ (_ | ⟨⟨p, us, rfl, h1, h2⟩, _ | _⟩) st hm k x
  exact ⟨p, us, rfl, .inr ⟨SqT.of (st.gh _ _ h1), k.hereF (a := q.1) st hm ⟨p, us, rfl, h1, h2⟩⟩⟩
theorem reps.map {G : Hp} {g : α → V} {R : α → VP} (hR : ∀ a v G, (R a).P v G ↔ v = g a) : ∀ {xs : List α} {vs : List V}, reps R xs vs G → vs = xs.map g
  | [], [], _ => rfl
  | x :: xs, v :: vs, h => by rw [List.map_cons, ← (hR x v G).mp h.1, ← reps.map hR h.2]
theorem reps.of_map {G : Hp} {g : α → V} {R : α → VP} (hR : ∀ a v G, (R a).P v G ↔ v = g a) : ∀ (xs : List α), reps R xs (xs.map g) G
  | [] => trivial
  | x :: xs => ⟨(hR x _ G).mpr rfl, reps.of_map hR xs⟩
theorem reps.ints {G : Hp} {xs : List Int} {vs : List V} (h : reps rInt xs vs G) : vs = xs.map V.int := h.map fun _ _ _ => Iff.rfl
theorem reps.strs {G : Hp} {xs : List Str} {vs : List V} (h : reps rStr xs vs G) : vs = xs.map V.str := h.map fun _ _ _ => Iff.rfl
theorem reps.bls {G : Hp} {xs : List Bool} {vs : List V} (h : reps rBl xs vs G) : vs = xs.map V.bl := h.map fun _ _ _ => Iff.rfl
theorem reps.of_ints {G : Hp} (xs : List Int) : reps rInt xs (xs.map V.int) G := reps.of_map (fun _ _ _ => Iff.rfl) xs
theorem reps.of_strs {G : Hp} (xs : List Str) : reps rStr xs (xs.map V.str) G := reps.of_map (fun _ _ _ => Iff.rfl) xs
theorem reps.of_bls {G : Hp} (xs : List Bool) : reps rBl xs (xs.map V.bl) G := reps.of_map (fun _ _ _ => Iff.rfl) xs
theorem vn_all : Vn C (rAll C.K) (fun q : List Bool × Unit => [rLst rBl q.1]) (fun q => M.pure (q.1.all id)) (Fz rBl) := by
  rintro q vs σ G W H n Q Φ Ψ (_ | ⟨⟨p, us, rfl, h1, h2⟩, _ | _⟩) st hm k x
  rw [h2.bls] at h1
  exact ⟨p, q.1, rfl, SqL.of (st.gh _ _ h1), k.hereF (a := q.1.all id) st hm rfl⟩
theorem vn_any : Vn C (rAny C.K) (fun q : List Bool × Unit => [rLst rBl q.1]) (fun q => M.pure (q.1.any id)) (Fz rBl) := by
  rintro q vs σ G W H n Q Φ Ψ (_ | ⟨⟨p, us, rfl, h1, h2⟩, _ | _⟩) st hm k x
  rw [h2.bls] at h1
  exact ⟨p, q.1, rfl, SqL.of (st.gh _ _ h1), k.hereF (a := q.1.any id) st hm rfl⟩
def M.max (xs : List Int) : M Int := fun Φ _ n => 0 < xs.length ∧ ∀ m, m ∈ xs → (∀ y, y ∈ xs → y ≤ m) → Φ m n
def M.min (xs : List Int) : M Int := fun Φ _ n => 0 < xs.length ∧ ∀ m, m ∈ xs → (∀ y, y ∈ xs → m ≤ y) → Φ m n
theorem vn_max : Vn C (rMax C.K) (fun q : List Int × Unit => [rLst rInt q.1]) (fun q => M.max q.1) (Fz rInt) := by
  rintro q vs σ G W H n Q Φ Ψ (_ | ⟨⟨p, us, rfl, h1, h2⟩, _ | _⟩) st hm k x
  rw [h2.ints] at h1
  exact ⟨p, q.1, rfl, SqL.of (st.gh _ _ h1), hm.1, fun m h3 h4 => k.hereF (a := m) st (hm.2 m h3 h4) rfl⟩
theorem vn_min : Vn C (rMin C.K) (fun q : List Int × Unit => [rLst rInt q.1]) (fun q => M.min q.1) (Fz rInt) := by
  rintro q vs σ G W H n Q Φ Ψ (_ | ⟨⟨p, us, rfl, h1, h2⟩, _ | _⟩) st hm k x
  rw [h2.ints] at h1
  exact ⟨p, q.1, rfl, SqL.of (st.gh _ _ h1), hm.1, fun m h3 h4 => k.hereF (a := m) st (hm.2 m h3 h4) rfl⟩
def M.sortI (xs : List Int) : M (List Int) := fun Φ _ n => xs.length < 64 ∧ ∀ ns : List Int, ns.Perm xs → ns.Pairwise (· ≤ ·) → Φ ns n
def M.sortS (xs : List Str) : M (List Str) := fun Φ _ n => xs.length < 64 ∧ ∀ ns : List Str, ns.Perm xs → sortedS ns = true → Φ ns n
theorem vn_sortedI : Vn C (rSorted C.K) (fun q : List Int × Unit => [rLst rInt q.1]) (fun q => M.sortI q.1) (Ow (cLst rInt)) := by
  rintro q vs σ G W H n Q Φ Ψ (_ | ⟨⟨p, us, rfl, h1, h2⟩, _ | _⟩) st hm k x
  rw [h2.ints] at h1
  exact ⟨p, q.1, rfl, SqL.of (st.gh _ _ h1), hm.1, fun ns r hp hs hr => k.newO (a := ns) st (hm.2 ns hp hs) hr ⟨_, rfl, reps.of_ints ns⟩⟩
theorem vn_sortedS : Vn C (rSortedS C.K) (fun q : List Str × Unit => [rLst rStr q.1]) (fun q => M.sortS q.1) (Ow (cLst rStr)) := by
  rintro q vs σ G W H n Q Φ Ψ (_ | ⟨⟨p, us, rfl, h1, h2⟩, _ | _⟩) st hm k x
  rw [h2.strs] at h1
  exact ⟨p, q.1, rfl, SqL.of (st.gh _ _ h1), hm.1, fun ns r hp hs hr => k.newO (a := ns) st (hm.2 ns hp hs) hr ⟨_, rfl, reps.of_strs ns⟩⟩
/-! ### deep data: == -/
/-- a kind of values that are data -/
class IsD {α : Type} (R : α → VP) where
  d : α → PyData
  dq : ∀ a v G, (R a).P v G → Dq G v (d a)
instance : IsD rInt := ⟨.int, fun a v G h => by have h : v = .int a := h; subst h; exact .int a⟩
instance : IsD rBl := ⟨.bool, fun a v G h => by have h : v = .bl a := h; subst h; exact .bl a⟩
instance : IsD rStr := ⟨.str, fun a v G h => by have h : v = .str a := h; subst h; exact .str a⟩
instance : IsD rNon := ⟨fun _ => .none, fun a v G h => by have h : v = .non := h; subst h; exact .non⟩
instance : IsD rDat := ⟨id, fun _ _ _ h => h⟩
theorem reps.dq {R : α → VP} [I : IsD R] {G : Hp} : ∀ {xs : List α} {vs : List V}, reps R xs vs G → DqAll G vs (xs.map (IsD.d R))
  | [], [], _ => .nil
  | _ :: _, _ :: _, h => .cons (I.dq _ _ _ h.1) (reps.dq h.2)
instance {R : α → VP} [IsD R] : IsD (rLst R) := ⟨fun xs => .list (xs.map (IsD.d R)), fun xs v G ⟨p, vs, e, h1, h2⟩ => by subst e; exact .lst h1 h2.dq⟩
instance {R : α → VP} [IsD R] : IsD (rTup R) := ⟨fun xs => .tuple (xs.map (IsD.d R)), fun xs v G ⟨p, vs, e, h1, h2⟩ => by subst e; exact .tup h1 h2.dq⟩
instance {R : α → VP} {S : β → VP} [I : IsD R] [J : IsD S] : IsD (rPr R S) := ⟨fun q => .tuple [IsD.d R q.1, IsD.d S q.2], fun q v G ⟨p, a, b, e, h1, h2, h3⟩ => by
  subst e; exact .tup h1 (.cons (I.dq _ _ _ h2) (.cons (J.dq _ _ _ h3) .nil))⟩
instance {R : α → VP} [I : IsD R] : IsD (rOpt R) := ⟨fun q => match q with | none => .none | some a => IsD.d R a, fun q v G h => by
  cases q with
  | none => have h : v = .non := h; subst h; exact .non
  | some a => exact I.dq a v G h⟩
def M.eqD (d e : PyData) : M Bool := fun Q _ n => (SeqAt.shaped d = true ∧ SeqAt.shaped e = true) ∧ Q (PyData.eqv d e) n
def M.neD (d e : PyData) : M Bool := fun Q _ n => (SeqAt.shaped d = true ∧ SeqAt.shaped e = true) ∧ Q (!PyData.eqv d e) n
theorem dq_sh {K : PySem.W.Frag} {G : Hp} {v : V} {d : PyData} (h : Dq G v d) (s : SeqAt.shaped d = true) : Dp K G v d := dq_dp h (SeqAt.canLay_of_shaped s)
theorem v2_eqD {R : α → VP} {S : β → VP} [I : IsD R] [J : IsD S] : V2 C (rEqD C.K) R S (fun a b => M.eqD (IsD.d R a) (IsD.d S b)) (Fz rBl) := by
  rintro a b v u σ G W H n Q Φ Ψ hv hu st ⟨⟨h1, h2⟩, hm⟩ k x
  exact ⟨_, _, dp_up st.gh (dq_sh (I.dq a v G hv) h1), dp_up st.gh (dq_sh (J.dq b u G hu) h2), h1, h2, k.hereF (a := PyData.eqv (IsD.d R a) (IsD.d S b)) st hm rfl⟩
theorem v2_neD {R : α → VP} {S : β → VP} [I : IsD R] [J : IsD S] : V2 C (rNeD C.K) R S (fun a b => M.neD (IsD.d R a) (IsD.d S b)) (Fz rBl) := by
  rintro a b v u σ G W H n Q Φ Ψ hv hu st ⟨⟨h1, h2⟩, hm⟩ k x
  exact ⟨_, _, dp_up st.gh (dq_sh (I.dq a v G hv) h1), dp_up st.gh (dq_sh (J.dq b u G hu) h2), h1, h2, k.hereF (a := !PyData.eqv (IsD.d R a) (IsD.d S b)) st hm rfl⟩
def M.inD (d : PyData) (ds : List PyData) : M Bool := fun Q _ n => (SeqAt.shaped d = true ∧ SeqAt.shaped (.list ds) = true) ∧ Q (ds.any fun z => PyData.eqv z d) n
theorem v2_inD {R : α → VP} {S : β → VP} [I : IsD R] [J : IsD S] : V2 C (rInD C.K) R (rLst S) (fun a b => M.inD (IsD.d R a) (b.map (IsD.d S))) (Fz rBl) := by
  rintro a b v u σ G W H n Q Φ Ψ hv ⟨p, vs, rfl, g1, g2⟩ st ⟨⟨h1, h2⟩, hm⟩ k x
  exact ⟨_, b.map (IsD.d S), dp_up st.gh (dq_sh (I.dq a v G hv) h1), dp_up st.gh (dq_sh (.lst g1 g2.dq) h2), h1, h2, k.hereF st hm rfl⟩
/-! ### in, of flat things -/
theorem v2_inL : V2 C (rIn C.K false) rStr (rLst rStr) (fun a b => M.pure (decide (a ∈ b))) (Fz rBl) := by
  rintro a b v u σ G W H n Q Φ Ψ hv ⟨p, vs, rfl, h1, h2⟩ st hm k x
  cases hv
  rw [h2.strs] at h1
  exact ⟨p, _, rfl, .inl (SqL.of (st.gh _ _ h1)), rfl, strs_flat _, k.hereF (a := decide (a ∈ b)) st hm (congrArg V.bl (inV_strs a b))⟩
theorem v2_niL : V2 C (rIn C.K true) rStr (rLst rStr) (fun a b => M.pure (!decide (a ∈ b))) (Fz rBl) := by
  rintro a b v u σ G W H n Q Φ Ψ hv ⟨p, vs, rfl, h1, h2⟩ st hm k x
  cases hv
  rw [h2.strs] at h1
  exact ⟨p, _, rfl, .inl (SqL.of (st.gh _ _ h1)), rfl, strs_flat _, k.hereF (a := !decide (a ∈ b)) st hm (congrArg (fun c => V.bl (!c)) (inV_strs a b))⟩
theorem v2_inT : V2 C (rIn C.K false) rStr (rTup rStr) (fun a b => M.pure (decide (a ∈ b))) (Fz rBl) := by
  rintro a b v u σ G W H n Q Φ Ψ hv ⟨p, vs, rfl, h1, h2⟩ st hm k x
  cases hv
  rw [h2.strs] at h1
  exact ⟨p, _, rfl, .inr (SqT.of (st.gh _ _ h1)), rfl, strs_flat _, k.hereF (a := decide (a ∈ b)) st hm (congrArg V.bl (inV_strs a b))⟩
theorem v2_niT : V2 C (rIn C.K true) rStr (rTup rStr) (fun a b => M.pure (!decide (a ∈ b))) (Fz rBl) := by
  rintro a b v u σ G W H n Q Φ Ψ hv ⟨p, vs, rfl, h1, h2⟩ st hm k x
  cases hv
  rw [h2.strs] at h1
  exact ⟨p, _, rfl, .inr (SqT.of (st.gh _ _ h1)), rfl, strs_flat _, k.hereF (a := !decide (a ∈ b)) st hm (congrArg (fun c => V.bl (!c)) (inV_strs a b))⟩
theorem ints_flat (b : List Int) : (b.map V.int).all flatV = true := by
  rw [List.all_map]
  exact List.all_eq_true.mpr fun _ _ => rfl
theorem inV_ints (a : Int) (b : List Int) : inV (.int a) (b.map V.int) = decide (a ∈ b) := by
  unfold inV
  rw [List.any_map]
  induction b with
  | nil => simp
  | cons z r ih =>
    rw [List.any_cons, ih]
    by_cases h : z = a
    · subst h; simp [eqV]
    · have e1 : eqV (V.int z) (V.int a) = false := by simp [eqV, h]
      have e2 : decide (a ∈ z :: r) = decide (a ∈ r) := dec_congr (by rw [List.mem_cons]; exact ⟨fun q => q.resolve_left fun q => h q.symm, Or.inr⟩)
      show (eqV (V.int z) (V.int a) || decide (a ∈ r)) = _
      rw [e1, e2, Bool.false_or]
theorem v2_inLI : V2 C (rIn C.K false) rInt (rLst rInt) (fun a b => M.pure (decide (a ∈ b))) (Fz rBl) := by
  rintro a b v u σ G W H n Q Φ Ψ hv ⟨p, vs, rfl, h1, h2⟩ st hm k x
  cases hv
  rw [h2.ints] at h1
  exact ⟨p, _, rfl, .inl (SqL.of (st.gh _ _ h1)), rfl, ints_flat _, k.hereF (a := decide (a ∈ b)) st hm (congrArg V.bl (inV_ints a b))⟩
end
end VL

namespace VL
open PySem PySem.Spec PyProof.Rows L2
/-! ### slots, stored to -/
theorem getElem_set {α : Type} {l : List α} {i k : Nat} {x y : α} (h : (l.set i x)[k]? = some y) : (k = i ∧ y = x ∧ i < l.length) ∨ (k ≠ i ∧ l[k]? = some y) := by
  by_cases e : i = k
  · subst e
    by_cases hl : i < l.length
    · rw [List.getElem?_set_self hl] at h
      exact .inl ⟨rfl, (Option.some.inj h).symm, hl⟩
    · rw [List.getElem?_eq_none (by rw [List.length_set]; omega)] at h
      cases h
  · rw [List.getElem?_set_ne e] at h
    exact .inr ⟨fun z => e z.symm, h⟩
section
variable {B : Hp} {ps : List SL} {σ : L2.St} {G W : Hp} {i : Nat} {s : SL} {v : V}
theorem Ee.set (e : Ee B ps σ G W) (r : Res B s v G W) (f : ∀ c, s = .ow c → ∀ k d a, k ≠ i → ps[k]? = some (.ow d) → σ[k]? = some (some (.ref a)) → v ≠ .ref a) : Ee B (ps.set i s) (σ.set i (some v)) G W := by
  refine ⟨by rw [List.length_set, List.length_set]; exact e.len, fun {k t} h n => ?_, fun {k l c d a} hkl h1 h2 h3 h4 => ?_⟩
  · rcases getElem_set h with ⟨rfl, rfl, hl⟩ | ⟨hne, h⟩
    · exact ⟨v, by rw [List.getElem?_set_self (by rw [e.len]; exact hl)], r⟩
    · obtain ⟨u, hu, hr⟩ := e.at_ h n
      exact ⟨u, by rw [List.getElem?_set_ne (fun z => hne z.symm)]; exact hu, hr⟩
  · rcases getElem_set h1 with ⟨rfl, e1, hl⟩ | ⟨hn1, h1⟩
    · rcases getElem_set h2 with ⟨rfl, _, _⟩ | ⟨hn2, h2⟩
      · exact hkl rfl
      · rw [List.getElem?_set_self (by rw [e.len]; exact hl)] at h3
        rw [List.getElem?_set_ne (fun z => hn2 z.symm)] at h4
        exact f c e1.symm l d a hn2 h2 h4 (by injection h3 with h3; injection h3)
    · rw [List.getElem?_set_ne (fun z => hn1 z.symm)] at h3
      rcases getElem_set h2 with ⟨rfl, e2, hl⟩ | ⟨hn2, h2⟩
      · rw [List.getElem?_set_self (by rw [e.len]; exact hl)] at h4
        exact f d e2.symm k c a hkl ((getElem_set h1).resolve_left fun q => hkl q.1).2 h3 (by injection h4 with h4; injection h4)
      · rw [List.getElem?_set_ne (fun z => hn2 z.symm)] at h4
        exact e.sep hkl h1 h2 h3 h4
theorem Ee.setF {p : VP} (e : Ee B ps σ G W) (r : p.P v G) : Ee B (ps.set i (.fr p)) (σ.set i (some v)) G W := e.set (s := .fr p) r fun _ h => nomatch h
theorem Ee.putOwn {c c' : CP} {p : Addr} {o : HO} (e : Ee B ps σ G W) (hi : ps[i]? = some (.ow c)) (hσ : σ[i]? = some (some (.ref p))) (hc : c'.P o G) : Ee B (ps.set i (.ow c')) σ G (upd W p o) := by
  obtain ⟨u, hu, a, q, e1, hw, hg, hb, _⟩ := e.at_ hi (by simp)
  rw [hσ] at hu
  cases hu
  cases e1
  refine ⟨by rw [List.length_set]; exact e.len, fun {k t} h n => ?_, fun {k l d d' a} hkl h1 h2 h3 h4 => ?_⟩
  · rcases getElem_set h with ⟨rfl, rfl, hl⟩ | ⟨hne, h⟩
    · exact ⟨_, hσ, p, o, rfl, upd_same, hg, hb, hc⟩
    · obtain ⟨v, hv, hr⟩ := e.at_ h n
      refine ⟨v, hv, ?_⟩
      cases t with
      | un => trivial
      | fr _ => exact hr
      | bo _ => exact hr
      | ow d =>
        obtain ⟨a, q, e1, hw', hg', hb', hc'⟩ := hr
        refine ⟨a, q, e1, ?_, hg', hb', hc'⟩
        rw [upd_ne]
        · exact hw'
        · rintro rfl
          subst e1
          exact e.sep hne h hi hv hσ
  · have f : ∀ {m : Nat} {d : CP}, (ps.set i (.ow c'))[m]? = some (.ow d) → ∃ d', ps[m]? = some (.ow d') := fun {m d} h => by
      rcases getElem_set h with ⟨rfl, _, _⟩ | ⟨_, h⟩
      · exact ⟨_, hi⟩
      · exact ⟨_, h⟩
    obtain ⟨_, h1⟩ := f h1
    obtain ⟨_, h2⟩ := f h2
    exact e.sep hkl h1 h2 h3 h4
/-- less is known -/
inductive Le : List SL → List SL → Prop
  | nil : Le [] []
  | un {p l s} : Le p l → Le (.un :: p) (s :: l)
  | same {p l s} : Le p l → Le (s :: p) (s :: l)
theorem Le.get {p l : List SL} (h : Le p l) : p.length = l.length ∧ ∀ {k : Nat} {s : SL}, p[k]? = some s → s ≠ .un → l[k]? = some s := by
  induction h with
  | nil => exact ⟨rfl, fun e _ => by simp at e⟩
  | @un p l t _ ih =>
    refine ⟨by rw [List.length_cons, List.length_cons, ih.1], fun {k s} e n => ?_⟩
    cases k with
    | zero => simp at e; exact absurd e.symm n
    | succ k => simp at e ⊢; exact ih.2 e n
  | @same p l t _ ih =>
    refine ⟨by rw [List.length_cons, List.length_cons, ih.1], fun {k s} e n => ?_⟩
    cases k with
    | zero => simpa using e
    | succ k => simp at e ⊢; exact ih.2 e n
theorem Le.refl : ∀ l : List SL, Le l l
  | [] => .nil
  | _ :: l => .same (Le.refl l)
theorem Ee.le {ps' : List SL} (e : Ee B ps σ G W) (h : Le ps' ps) : Ee B ps' σ G W :=
  ⟨by rw [h.get.1]; exact e.len, fun a b => e.at_ (h.get.2 a b) b, fun n a b => e.sep n (h.get.2 a (by simp)) (h.get.2 b (by simp))⟩
theorem Ee.wipe (e : Ee B ps σ G W) : ∀ {vs : List Nat}, (∀ k ∈ vs, ps[k]? = some .un) → Ee B ps (wipe σ vs) G W
  | [], _ => e
  | k :: vs, h => by
    have ih := e.wipe (vs := vs) fun m hm => h m (List.mem_cons_of_mem _ hm)
    have hk := h k List.mem_cons_self
    refine ⟨by unfold L2.wipe; rw [List.length_set]; exact ih.len, fun {m t} a n => ?_, fun {m l c d x} hml a b h3 h4 => ?_⟩
    · obtain ⟨u, hu, hr⟩ := ih.at_ a n
      refine ⟨u, ?_, hr⟩
      unfold L2.wipe
      rw [List.getElem?_set_ne]
      · exact hu
      · rintro rfl; rw [hk] at a; exact n (Option.some.inj a).symm
    · have g : ∀ {m : Nat} {x : Addr}, ((L2.wipe σ vs).set k none)[m]? = some (some (.ref x)) → (L2.wipe σ vs)[m]? = some (some (.ref x)) := fun {m x} q => by
        rcases getElem_set q with ⟨_, q, _⟩ | ⟨_, q⟩
        · cases q
        · exact q
      exact ih.sep hml a b (g h3) (g h4)
end
theorem Stt.put {C : Cfg} {n : Nat} {G W H : Hp} {p : Addr} {u o : HO} (s : Stt C n G W H) (h : W p = some u) (hg : G p = none) (hb : C.B p = none) (nu : NT u := by exact ⟨(fun _ h => nomatch h), (fun _ h => nomatch h)⟩) (no : NT o := by exact ⟨(fun _ h => nomatch h), (fun _ h => nomatch h)⟩) : Stt C n G (upd W p o) (upd H p o) where
  t := C.Θ.put s.t h nu no
  gw := s.gw.unseen hg
  bw := s.bw.unseen hb
  g0 := s.g0
  gb := s.gb
theorem Stp.put {G W G' W' : Hp} {p : Addr} {o : HO} (s : Stp G W G' W') (h : W p = none) (hg : G' p = none) : Stp G W G' (upd W' p o) :=
  ⟨s.g, s.w.unseen h, s.gw.unseen hg, s.ng⟩
/-! ### tests -/
section
variable {C : Cfg} {α β γ : Type} {ps : List SL} {te ta tb : TE} {tt tu : TT} {m mb : M Bool}
theorem vt_test (h : VE C te ps m (Fz rBl)) : VT C (tTest te) ps m := by
  intro σ G W H n Q Φ Ψ e st hm k x
  exact h σ G W H n _ Φ Ψ e st hm (fun b n' v G' W' H' hΦ s t r _ => ⟨b, r, k b n' G' W' H' hΦ s t⟩) x
theorem vt_b (h : VE C te ps m (Fz rBl)) : VT C (tB te) ps m := by
  intro σ G W H n Q Φ Ψ e st hm k x
  exact h σ G W H n _ Φ Ψ e st hm (fun b n' v G' W' H' hΦ s t r _ => ⟨b, r, k b n' G' W' H' hΦ s t⟩) x
theorem vt_and (h : VT C tt ps m) (h2 : VT C tu ps mb) : VT C (tAnd tt tu) ps (M.bind m fun b => M.ite b mb (M.pure false)) := by
  intro σ G W H n Q Φ Ψ e st hm k x
  refine h σ G W H n _ (fun b n' => M.ite b mb (M.pure false) Φ Ψ n') Ψ e st hm (fun b n' G' W' H' hΦ s t => ?_) x
  cases b with
  | true => exact iteT (h2 σ G' W' H' n' Q Φ Ψ (e.stp s) (st.stp s t) hΦ (fun b n2 G2 W2 H2 q s2 t2 => k b n2 G2 W2 H2 q (s.trans s2) t2) (x.stp s))
  | false => exact iteF (k false n' G' W' H' hΦ s t)
theorem vt_or (h : VT C tt ps m) (h2 : VT C tu ps mb) : VT C (tOr tt tu) ps (M.bind m fun b => M.ite b (M.pure true) mb) := by
  intro σ G W H n Q Φ Ψ e st hm k x
  refine h σ G W H n _ (fun b n' => M.ite b (M.pure true) mb Φ Ψ n') Ψ e st hm (fun b n' G' W' H' hΦ s t => ?_) x
  cases b with
  | true => exact iteT (k true n' G' W' H' hΦ s t)
  | false => exact iteF (h2 σ G' W' H' n' Q Φ Ψ (e.stp s) (st.stp s t) hΦ (fun b n2 G2 W2 H2 q s2 t2 => k b n2 G2 W2 H2 q (s.trans s2) t2) (x.stp s))
theorem vt_not (h : VT C tt ps m) : VT C (tNot tt) ps (M.bind m fun b => M.pure (!b)) := by
  intro σ G W H n Q Φ Ψ e st hm k x
  exact h σ G W H n _ (fun b n' => Φ (!b) n') Ψ e st hm (fun b n' G' W' H' hΦ s t => k (!b) n' G' W' H' hΦ s t) x
theorem vt_tru {R : α → VP} {ma : M α} (f : α → M Bool) (h : VE C te ps ma (Fz R)) (hf : ∀ a v G n (Φ : Bool → Nat → Prop) Ψ, (R a).P v G → f a Φ Ψ n → ∃ b, TruV C.K v G b ∧ Φ b n) (hu : ∀ v G H b, Same G H → TruV C.K v G b → TruV C.K v H b) :
    VT C (fun σ H Q => te σ H fun x H' => ∃ k, TruV C.K x H' k ∧ Q k H') ps (M.bind ma f) := by
  intro σ G W H n Q Φ Ψ e st hm k x
  refine h σ G W H n _ (fun a n' => f a Φ Ψ n') Ψ e st hm (fun a n' v G' W' H' hΦ s t r _ => ?_) x
  obtain ⟨b, h1, h2⟩ := hf a v G' n' Φ Ψ r hΦ
  exact ⟨b, hu v G' H' b (st.stp s t).gh h1, k b n' G' W' H' h2 s t⟩
theorem truV_up {K : PySem.W.Frag} {v : V} {G H : Hp} {b : Bool} (e : Same G H) (h : TruV K v G b) : TruV K v H b := by
  cases v with
  | ref p =>
    rcases h with ⟨xs, h1, h2⟩ | ⟨xs, h1, h2⟩ | ⟨kvs, h1, h2⟩
    · exact .inl ⟨xs, e.seq h1, h2⟩
    · exact .inr (.inl ⟨xs, same_sqT K e h1, h2⟩)
    · exact .inr (.inr ⟨kvs, e _ _ h1, h2⟩)
  | _ => exact h
theorem isEmpty_reps {R : α → VP} {xs : List α} {vs : List V} {G : Hp} (h : reps R xs vs G) : vs.isEmpty = xs.isEmpty := by
  have := h.len
  cases xs <;> cases vs <;> simp_all
theorem vt_truL {R : α → VP} {ma : M (List α)} (h : VE C te ps ma (Fz (rLst R))) : VT C (fun σ H Q => te σ H fun x H' => ∃ k, TruV C.K x H' k ∧ Q k H') ps (M.bind ma fun xs => M.pure (!xs.isEmpty)) :=
  vt_tru _ h (fun xs v G n Φ Ψ ⟨p, vs, e, h1, h2⟩ hΦ => ⟨_, by subst e; exact .inl ⟨vs, SqL.of h1, (congrArg (!·) (isEmpty_reps h2)).symm⟩, hΦ⟩) fun _ _ _ _ => truV_up
theorem vt_truT {R : α → VP} {ma : M (List α)} (h : VE C te ps ma (Fz (rTup R))) : VT C (fun σ H Q => te σ H fun x H' => ∃ k, TruV C.K x H' k ∧ Q k H') ps (M.bind ma fun xs => M.pure (!xs.isEmpty)) :=
  vt_tru _ h (fun xs v G n Φ Ψ ⟨p, vs, e, h1, h2⟩ hΦ => ⟨_, by subst e; exact .inr (.inl ⟨vs, SqT.of h1, (congrArg (!·) (isEmpty_reps h2)).symm⟩), hΦ⟩) fun _ _ _ _ => truV_up
/-! ### and, or, not, if .. else as values; chains -/
theorem ve_and (h : VE C ta ps m (Fz rBl)) (h2 : VE C tb ps mb (Fz rBl)) : VE C (tAndV ta tb) ps (M.bind m fun b => M.ite b mb (M.pure false)) (Fz rBl) := by
  intro σ G W H n Q Φ Ψ e st hm k x
  refine h σ G W H n _ (fun b n' => M.ite b mb (M.pure false) Φ Ψ n') Ψ e st hm (fun b n' v G' W' H' hΦ s t r _ => ⟨b, r, ?_⟩) x
  have st' := st.stp s t
  cases b with
  | true => exact iteT (h2 σ G' W' H' n' Q Φ Ψ (e.stp s) st' hΦ (k.stp s) (x.stp s))
  | false => exact iteF ((k.stp s).hereF (a := false) st' hΦ rfl)
theorem ve_or (h : VE C ta ps m (Fz rBl)) (h2 : VE C tb ps mb (Fz rBl)) : VE C (tOrV ta tb) ps (M.bind m fun b => M.ite b (M.pure true) mb) (Fz rBl) := by
  intro σ G W H n Q Φ Ψ e st hm k x
  refine h σ G W H n _ (fun b n' => M.ite b (M.pure true) mb Φ Ψ n') Ψ e st hm (fun b n' v G' W' H' hΦ s t r _ => ⟨b, r, ?_⟩) x
  have st' := st.stp s t
  cases b with
  | true => exact iteT ((k.stp s).hereF (a := true) st' hΦ rfl)
  | false => exact iteF (h2 σ G' W' H' n' Q Φ Ψ (e.stp s) st' hΦ (k.stp s) (x.stp s))
theorem ve_not (h : VE C ta ps m (Fz rBl)) : VE C (tNotV ta) ps (M.bind m fun b => M.pure (!b)) (Fz rBl) := by
  intro σ G W H n Q Φ Ψ e st hm k x
  exact h σ G W H n _ (fun b n' => Φ (!b) n') Ψ e st hm (fun b n' v G' W' H' hΦ s t r _ => ⟨b, r, (k.stp s).hereF (a := !b) (st.stp s t) hΦ rfl⟩) x
theorem ve_if {ma mc : M α} {R : α → SL} (h : VT C tt ps m) (ha : VE C ta ps ma R) (hb : VE C tb ps mc R) : VE C (tIf tt ta tb) ps (M.bind m fun b => M.ite b ma mc) R := by
  intro σ G W H n Q Φ Ψ e st hm k x
  refine h σ G W H n _ (fun b n' => M.ite b ma mc Φ Ψ n') Ψ e st hm (fun b n' G' W' H' hΦ s t => ?_) x
  cases b with
  | true => exact iteT (ha σ G' W' H' n' Q Φ Ψ (e.stp s) (st.stp s t) hΦ (k.stp s) (x.stp s))
  | false => exact iteF (hb σ G' W' H' n' Q Φ Ψ (e.stp s) (st.stp s t) hΦ (k.stp s) (x.stp s))
/-- a < b < c -/
theorem ve_chain {r r' : R2} {tc : TE} {Ra : α → VP} {Rb : β → VP} {Rc : γ → VP} {ma : M α} {mb : M β} {mc : M γ} {f : α → β → M Bool} {g : β → γ → M Bool} (ha : VE C ta ps ma (Fz Ra)) (hb : VE C tb ps mb (Fz Rb)) (hc : VE C tc ps mc (Fz Rc))
    (h1 : V2 C r Ra Rb f (Fz rBl)) (h2 : V2 C r' Rb Rc g (Fz rBl)) : VE C (tChain r r' ta tb tc) ps (M.bind ma fun a => M.bind mb fun b => M.bind (f a b) fun k => M.ite k (M.bind mc fun c => g b c) (M.pure false)) (Fz rBl) := by
  intro σ G W H n Q Φ Ψ e st hm k x
  refine ha σ G W H n _ (fun a n' => M.bind mb (fun b => M.bind (f a b) fun k => M.ite k (M.bind mc fun c => g b c) (M.pure false)) Φ Ψ n') Ψ e st hm ?_ x
  intro a n1 v G1 W1 H1 hm1 s1 t1 r1 _
  have st1 := st.stp s1 t1
  refine hb σ G1 W1 H1 n1 _ (fun b n' => M.bind (f a b) (fun k => M.ite k (M.bind mc fun c => g b c) (M.pure false)) Φ Ψ n') Ψ (e.stp s1) st1 hm1 ?_ (x.stp s1)
  intro b n2 u G2 W2 H2 hm2 s2 t2 r2 _
  have st2 := st1.stp s2 t2
  have s12 := s1.trans s2
  refine h1 a b v u σ G2 W2 H2 n2 _ (fun k n' => M.ite k (M.bind mc fun c => g b c) (M.pure false) Φ Ψ n') Ψ ((Ra a).up s2.g r1) r2 st2 hm2 ?_ (x.stp s12)
  intro c n3 z G3 W3 H3 hm3 s3 t3 r3 _
  have st3 := st2.stp s3 t3
  have s13 := s12.trans s3
  refine ⟨c, r3, ?_⟩
  cases c with
  | false => exact iteF ((k.stp s13).hereF (a := false) st3 hm3 rfl)
  | true =>
    refine iteT (hc σ G3 W3 H3 n3 _ (fun c n' => g b c Φ Ψ n') Ψ (e.stp s13) st3 hm3 ?_ (x.stp s13))
    intro d n4 w G4 W4 H4 hm4 s4 t4 r4 _
    have s14 := s13.trans s4
    exact h2 b d u w σ G4 W4 H4 n4 Q Φ Ψ ((Rb b).up (s3.trans s4).g r2) r4 (st3.stp s4 t4) hm4 (k.stp s14) (x.stp s14)
/-! ### what is walked -/
structure WalkV (C : Cfg) (J : It) (xs : List β) (R : β → VP) (G0 : Hp) : Prop where
  goes : ∀ i n G W H, i < xs.length → Stt C n G W H → Same G0 G → J.go i H
  stops : ∀ n G W H, Stt C n G W H → Same G0 G → J.stop xs.length H
  yields : ∀ i n G W H v H', i < xs.length → Stt C n G W H → Same G0 G → J.yld i H v H' → ∃ x G' W', xs[i]? = some x ∧ Stp G W G' W' ∧ C.Θ.T n W' H' ∧ (R x).P v G'
def VI (C : Cfg) (wi : TI) (ps : List SL) (m : M (List β)) (R : β → VP) : Prop :=
  ∀ σ G W H n (Q : It → Hp → Prop) Φ Ψ, Ee C.B ps σ G W → Stt C n G W H → m Φ Ψ n →
    (∀ xs n' J G' W' H', Φ xs n' → Stp G W G' W' → C.Θ.T n' W' H' → WalkV C J xs R G' → Q J H') → Xt C σ G W Ψ → wi σ H Q
theorem vi_list {R : β → VP} {mx : M (List β)} (h : VE C te ps mx (Fz (rLst R))) : VI C (iList C.K te) ps mx R := by
  intro σ G W H n Q Φ Ψ e st hm k x
  refine h σ G W H n _ Φ Ψ e st hm ?_ x
  rintro xs n' v G' W' H' hΦ s t ⟨p, vs, rfl, h1, h2⟩ _
  have st' := st.stp s t
  refine ⟨p, rfl, ⟨vs, SqL.of (st'.gh _ _ h1)⟩, k xs n' _ G' W' H' hΦ s t ⟨fun i n G W H hi q e => ?_, fun n G W H q e => ?_, fun i n G W H v H' hi q e y => ?_⟩⟩
  · have := q.gh _ _ (e _ _ h1)
    rw [← h2.len] at hi
    exact ⟨vs, vs[i], SqL.of this, List.getElem?_eq_getElem hi⟩
  · exact ⟨vs, SqL.of (q.gh _ _ (e _ _ h1)), by rw [h2.len]; exact Nat.le_refl _⟩
  · obtain ⟨rfl, y⟩ := y
    obtain ⟨x, hx, hr⟩ := h2.get' (y vs (SqL.of (q.gh _ _ (e _ _ h1))))
    exact ⟨x, G, W, hx, Stp.refl q.gw, q.t, (R x).up e hr⟩
theorem vi_tup {R : β → VP} {mx : M (List β)} (h : VE C te ps mx (Fz (rTup R))) : VI C (iTup C.K te) ps mx R := by
  intro σ G W H n Q Φ Ψ e st hm k x
  refine h σ G W H n _ Φ Ψ e st hm ?_ x
  rintro xs n' v G' W' H' hΦ s t ⟨p, vs, rfl, h1, h2⟩ _
  have st' := st.stp s t
  have g : ∀ {n G W H}, Stt C n G W H → Same G' G → SqT C.K H p vs := fun q e => SqT.of ((e.trans q.gh) _ _ h1)
  refine ⟨p, rfl, ⟨vs, SqT.of (st'.gh _ _ h1)⟩, k xs n' _ G' W' H' hΦ s t ⟨fun i n G W H hi q e => ?_, fun n G W H q e => ?_, fun i n G W H v H' hi q e y => ?_⟩⟩
  · rw [← h2.len] at hi
    exact ⟨vs, vs[i], g q e, List.getElem?_eq_getElem hi⟩
  · exact ⟨vs, g q e, by rw [h2.len]; exact Nat.le_refl _⟩
  · obtain ⟨rfl, y⟩ := y
    obtain ⟨x, hx, hr⟩ := h2.get' (y vs (g q e))
    exact ⟨x, G, W, hx, Stp.refl q.gw, q.t, (R x).up e hr⟩
def M.rng (lo hi : Int) : M (List Int) := fun Q _ n => (-(2 ^ 62) ≤ lo ∧ lo < 2 ^ 62 ∧ -(2 ^ 62) ≤ hi ∧ hi < 2 ^ 62) ∧ Q ((List.range (hi - lo).toNat).map fun k : Nat => lo + (k : Int)) n
theorem walk_rng (lo : Int) (k : Nat) (G0 : Hp) : WalkV C (Itr lo k) ((List.range k).map fun j : Nat => lo + (j : Int)) rInt G0 := by
  have hl : ((List.range k).map fun j : Nat => lo + (j : Int)).length = k := by rw [List.length_map, List.length_range]
  refine ⟨fun i n G W H hi q e => by rw [hl] at hi; exact hi, fun n G W H q e => by rw [hl]; exact Nat.le_refl _, fun i n G W H v H' hi q e y => ?_⟩
  obtain ⟨rfl, rfl⟩ := y
  rw [hl] at hi
  exact ⟨lo + (i : Int), G, W, by rw [List.getElem?_map, List.getElem?_range hi]; rfl, Stp.refl q.gw, q.t, rfl⟩
theorem vi_range1 {mx : M Int} (h : VE C te ps mx (Fz rInt)) : VI C (iRng1 (tCons te tNil)) ps (M.bind mx fun j => M.rng 0 j) rInt := by
  intro σ G W H n Q Φ Ψ e st hm k x
  refine h σ G W H n _ (fun j n' => M.rng 0 j Φ Ψ n') Ψ e st hm ?_ x
  rintro j n' v G' W' H' hΦ s t r _
  obtain ⟨⟨_, _, h1, h2⟩, hΦ⟩ := hΦ
  rw [show j - 0 = j by omega] at hΦ
  exact ⟨j, by rw [show v = .int j from r], h1, h2, k _ n' _ G' W' H' hΦ s t (walk_rng 0 j.toNat G')⟩
theorem vi_range2 {mx my : M Int} (h : VE C ta ps mx (Fz rInt)) (h2 : VE C tb ps my (Fz rInt)) : VI C (iRng2 (tCons ta (tCons tb tNil))) ps (M.bind mx fun i => M.bind my fun j => M.rng i j) rInt := by
  intro σ G W H n Q Φ Ψ e st hm k x
  refine h σ G W H n _ (fun i n' => M.bind my (fun j => M.rng i j) Φ Ψ n') Ψ e st hm ?_ x
  rintro i n1 v G1 W1 H1 hm1 s1 t1 r1 _
  have st1 := st.stp s1 t1
  refine h2 σ G1 W1 H1 n1 _ (fun j n' => M.rng i j Φ Ψ n') Ψ (e.stp s1) st1 hm1 ?_ (x.stp s1)
  rintro j n2 u G2 W2 H2 ⟨⟨a1, a2, a3, a4⟩, hΦ⟩ s2 t2 r2 _
  exact ⟨i, j, by rw [show v = .int i from r1, show u = .int j from r2], ⟨a1, a2, a3, a4⟩, k _ n2 _ G2 W2 H2 hΦ (s1.trans s2) t2 (walk_rng i (j - i).toNat G2)⟩
def signs (z : Str) : List Str := z.cps.toList.map fun c => (⟨#[c]⟩ : Str)
theorem vi_str {mx : M Str} (h : VE C te ps mx (Fz rStr)) : VI C (iStr te) ps (M.bind mx fun z => M.pure (signs z)) rStr := by
  intro σ G W H n Q Φ Ψ e st hm k x
  refine h σ G W H n _ (fun z n' => Φ (signs z) n') Ψ e st hm ?_ x
  rintro z n' v G' W' H' hΦ s t r _
  have hl : (signs z).length = z.cps.size := by unfold signs; simp
  refine ⟨z, r, k _ n' _ G' W' H' hΦ s t ⟨fun i n G W H hi q e => by rw [hl] at hi; exact hi, fun n G W H q e => by rw [hl]; exact Nat.le_refl _, fun i n G W H v H' hi q e y => ?_⟩⟩
  obtain ⟨rfl, c, hc, rfl⟩ := y
  exact ⟨⟨#[c]⟩, G, W, by unfold signs; rw [List.getElem?_map, Array.getElem?_toList, hc]; rfl, Stp.refl q.gw, q.t, rfl⟩
def zipI {α : Type} (xs : List α) : List (Int × α) := (xs.zipIdx).map fun p => ((p.2 : Int), p.1)
theorem zipI_get {xs : List α} {i : Nat} {x : α} (h : xs[i]? = some x) : (zipI xs)[i]? = some ((i : Int), x) := by
  unfold zipI
  rw [List.getElem?_map, List.getElem?_zipIdx, h]
  simp
theorem zipI_len (xs : List α) : (zipI xs).length = xs.length := by unfold zipI; simp
theorem vi_enum {R : β → VP} {mx : M (List β)} (h : VE C te ps mx (Fz (rLst R))) : VI C (iEnum C.K (tCons te tNil)) ps (M.bind mx fun xs => M.pure (zipI xs)) (rPr rInt R) := by
  intro σ G W H n Q Φ Ψ e st hm k x
  refine h σ G W H n _ (fun xs n' => Φ (zipI xs) n') Ψ e st hm ?_ x
  rintro xs n' v G' W' H' hΦ s t ⟨p, vs, rfl, h1, h2⟩ _
  have st' := st.stp s t
  have g : ∀ {n G W H}, Stt C n G W H → Same G' G → SqL C.K H p vs := fun q e => SqL.of (q.gh _ _ (e _ _ h1))
  refine ⟨p, vs, rfl, SqL.of (st'.gh _ _ h1), k (zipI xs) n' _ G' W' H' hΦ s t ⟨fun i n G W H hi q e => ?_, fun n G W H q e => ?_, fun i n G W H v H' hi q e y => ?_⟩⟩
  · rw [zipI_len, ← h2.len] at hi
    exact ⟨vs, vs[i], g q e, List.getElem?_eq_getElem hi⟩
  · exact ⟨vs, g q e, by rw [h2.len, zipI_len]; exact Nat.le_refl _⟩
  · obtain ⟨T, z, rfl, hT, rfl, y⟩ := y
    obtain ⟨x, hx, hr⟩ := h2.get' (y vs (g q e))
    exact ⟨((i : Int), x), _, _, zipI_get hx, Stp.newF q hT, q.newT hT, T, _, _, rfl, upd_same, rfl, (R x).up (e.trans (same_upd (q.gfree hT))) hr⟩
theorem vi_zip {R : β → VP} {S : γ → VP} {mx : M (List β)} {my : M (List γ)} (h : VE C ta ps mx (Fz (rLst R))) (h2 : VE C tb ps my (Fz (rLst S))) : VI C (iZip C.K (tCons ta (tCons tb tNil))) ps (M.bind mx fun xs => M.bind my fun ys => M.pure (xs.zip ys)) (rPr R S) := by
  intro σ G W H n Q Φ Ψ e st hm k x
  refine h σ G W H n _ (fun xs n' => M.bind my (fun ys => M.pure (xs.zip ys)) Φ Ψ n') Ψ e st hm ?_ x
  rintro xs n1 v G1 W1 H1 hm1 s1 t1 ⟨p, vs, rfl, h1, h3⟩ _
  have st1 := st.stp s1 t1
  refine h2 σ G1 W1 H1 n1 _ (fun ys n' => Φ (xs.zip ys) n') Ψ (e.stp s1) st1 hm1 ?_ (x.stp s1)
  rintro ys n2 u G' W' H' hΦ s2 t2 ⟨q, us, rfl, h4, h5⟩ _
  have st' := st1.stp s2 t2
  have h1 := s2.g _ _ h1
  have h3 := h3.up s2.g
  have g1 : ∀ {n G W H}, Stt C n G W H → Same G' G → SqL C.K H p vs := fun q e => SqL.of (q.gh _ _ (e _ _ h1))
  have g2 : ∀ {n G W H}, Stt C n G W H → Same G' G → SqL C.K H q us := fun q e => SqL.of (q.gh _ _ (e _ _ h4))
  have l1 := h3.len
  have l2 := h5.len
  refine ⟨p, q, vs, us, rfl, SqL.of (st'.gh _ _ h1), SqL.of (st'.gh _ _ h4), k _ n2 _ G' W' H' hΦ (s1.trans s2) t2 ⟨fun i n G W H hi q e => ?_, fun n G W H q e => ?_, fun i n G W H v H' hi q e y => ?_⟩⟩
  · rw [List.length_zip] at hi
    exact ⟨vs, us, vs[i]'(by omega), us[i]'(by omega), g1 q e, g2 q e, List.getElem?_eq_getElem _, List.getElem?_eq_getElem _⟩
  · exact ⟨vs, us, g1 q e, g2 q e, by rw [List.length_zip]; omega⟩
  · obtain ⟨T, a, b, rfl, hT, rfl, y1, y2⟩ := y
    obtain ⟨x, hx, hr⟩ := h3.get' (y1 vs (g1 q e))
    obtain ⟨z, hz, hs⟩ := h5.get' (y2 us (g2 q e))
    have e' := e.trans (same_upd (o := .tup [a, b]) (q.gfree hT))
    exact ⟨(x, z), _, _, by rw [List.getElem?_zip_eq_some]; exact ⟨hx, hz⟩, Stp.newF q hT, q.newT hT, T, _, _, rfl, upd_same, (R x).up e' hr, (S z).up e' hs⟩
/-! ### targets -/
/-- what a target stores: the slots known then; which slots may differ -/
def VG (C : Cfg) (g : TG) (R : β → VP) (ps : List SL) (ψ : β → List SL) (js : List Nat) : Prop :=
  ∀ b v σ G W H n (Q : L2.St → Hp → Prop), Ee C.B ps σ G W → Stt C n G W H → (R b).P v G → (∀ σ', Ee C.B (ψ b) σ' G W → (∀ vs, (∀ j ∈ js, j ∈ vs) → wipe σ' vs = wipe σ vs) → Q σ' H) → g v σ H Q
theorem wipe_set {σ : L2.St} {j : Nat} {x : Option V} : ∀ {vs : List Nat}, j ∈ vs → wipe (σ.set j x) vs = wipe σ vs
  | [], h => absurd h (by simp)
  | k :: vs, h => by
    unfold wipe
    by_cases e : j ∈ vs
    · rw [wipe_set e]
    · have hk : j = k := (List.mem_cons.mp h).resolve_right e
      subst hk
      have go : ∀ (vs : List Nat) (σ : L2.St), (wipe (σ.set j x) vs).set j none = (wipe σ vs).set j none := by
        intro vs
        induction vs with
        | nil => intro σ; unfold wipe; rw [List.set_set]
        | cons m vs ih =>
          intro σ
          unfold wipe
          by_cases hm : m = j
          · subst hm; rw [ih]
          · rw [List.set_comm _ _ hm, ih, List.set_comm _ _ (fun z => hm z.symm)]
      exact go vs σ
theorem vg_name {R : β → VP} {i : Nat} : VG C (gName i) R ps (fun b => ps.set i (.fr (R b))) [i] := by
  intro b v σ G W H n Q e st r q
  exact q _ (e.setF r) fun vs h => wipe_set (h i (by simp))
theorem vg_pair {R : β → VP} {S : γ → VP} {i j : Nat} : VG C (gTup C.K 2 (gCons (gName i) (gCons (gName j) gNil))) (rPr R S) ps (fun q => (ps.set i (.fr (R q.1))).set j (.fr (S q.2))) [i, j] := by
  rintro q v σ G W H n Q e st ⟨p, a, b, rfl, h1, h2, h3⟩ k
  refine ⟨p, _, rfl, SqT.of (st.gh _ _ h1), rfl, a, [b], rfl, b, [], rfl, rfl, k _ ((e.setF h2).setF h3) fun vs h => ?_⟩
  rw [wipe_set (h j (by simp)), wipe_set (h i (by simp))]
/-! ### comprehensions -/
def M.nox {α : Type} (m : M α) : M α := fun Q _ n => m Q (fun _ _ => False) n
def M.compA {β γ : Type} (f : β → M (Option γ)) : List γ → List β → M (List γ)
  | acc, [] => M.pure acc
  | acc, x :: r => M.bind (f x) fun o => M.compA f (acc ++ o.toList) r
def M.comp {β γ : Type} (xs : List β) (f : β → M (Option γ)) : M (List γ) := fun Q _ n => xs.length ≤ 1000 ∧ M.compA f [] xs Q (fun _ _ => False) n
theorem vt_yes : VT C tYes ps (M.pure true) := by
  intro σ G W H n Q Φ Ψ e st hm k x
  exact k true n G W H hm (Stp.refl st.gw) st.t
theorem xt_no {σ : L2.St} {G W : Hp} : Xt C σ G W fun _ _ => False := fun _ _ _ _ _ _ _ h => h.elim
theorem ve_lc {wi : TI} {g : TG} {vs js : List Nat} {mi : M (List β)} {Rb : β → VP} {ψ : β → List SL} {mt : β → M Bool} {me : β → M γ} {R : γ → VP} (hi : VI C wi ps mi Rb) (hv : ∀ k ∈ vs, ps[k]? = some .un) (hg : VG C g Rb ps ψ js) (hj : ∀ j ∈ js, j ∈ vs)
    (ht : ∀ b, VT C tt (ψ b) (mt b)) (he : ∀ b, VE C te (ψ b) (me b) (Fz R)) :
    VE C (tLc wi g tt te vs) ps (M.bind mi fun xs => M.comp xs fun b => M.bind (mt b) fun c => M.ite c (M.bind (me b) fun y => M.pure (some y)) (M.pure none)) (Ow (cLst R)) := by
  intro σ G W H n Q Φ Ψ e st hm k x
  refine hi σ G W H n _ (fun xs n' => M.comp xs (fun b => M.bind (mt b) fun c => M.ite c (M.bind (me b) fun y => M.pure (some y)) (M.pure none)) Φ Ψ n') Ψ e st hm ?_ x
  rintro xs n1 J G1 W1 H1 ⟨hlen, hc⟩ s1 t1 wk D hD
  have st1 := st.stp s1 t1
  have hW1 := st1.wfree hD
  let f : β → M (Option γ) := fun b => M.bind (mt b) fun c => M.ite c (M.bind (me b) fun y => M.pure (some y)) (M.pure none)
  let I : Nat → Hp → Prop := fun i H => i ≤ xs.length ∧ ∃ G' W' n acc us, Stp G1 W1 G' W' ∧ Stt C n G' W' H ∧ W' D = some (.lst us) ∧ G' D = none ∧ reps R acc us G' ∧ acc.length ≤ i ∧ M.compA f acc (xs.drop i) Φ (fun _ _ => False) n
  refine ⟨fun i m H => m = xs.length - i ∧ I i H, ⟨xs.length, by simp, Nat.zero_le _, G1, upd W1 D (.lst []), n1, [], [], Stp.newO st1 hD, st1.stp (Stp.newO st1 hD) (st1.newT hD), upd_same, st1.gfree hD, trivial, Nat.zero_le _, hc⟩, ?_⟩
  rintro i m H2 ⟨rfl, hi2, G2, W2, n2, acc, us, s2, st2, hD2, hG2, hr, hal, hm2⟩
  by_cases hlt : i < xs.length
  · refine .inr ⟨wk.goes i n2 G2 W2 H2 hlt st2 s2.g, I (i + 1), fun H' p => ⟨xs.length - (i + 1), by omega, rfl, p⟩, fun v H' y => ?_⟩
    obtain ⟨b, G3, W3, hb, s3, t3, r3⟩ := wk.yields i n2 G2 W2 H2 v H' hlt st2 s2.g y
    have st3 := st2.stp s3 t3
    have hdrop : xs.drop i = b :: xs.drop (i + 1) := by
      obtain ⟨h1, h2⟩ := List.getElem?_eq_some_iff.mp hb
      rw [← h2]; exact List.drop_eq_getElem_cons h1
    rw [hdrop] at hm2
    have e3 : Ee C.B ps (wipe σ vs) G3 W3 := ((e.stp (s1.trans (s2.trans s3)))).wipe hv
    refine hg b v (wipe σ vs) G3 W3 H' n2 _ e3 st3 r3 fun σ' e4 hw => ?_
    have hww : wipe σ' vs = wipe σ vs := by
      rw [hw vs hj]
      have idem : ∀ (vs : List Nat) (σ : L2.St), wipe (wipe σ vs) vs = wipe σ vs := by
        intro vs
        have sub : ∀ (us : List Nat), (∀ u ∈ us, u ∈ vs) → ∀ σ : L2.St, wipe (wipe σ us) vs = wipe σ vs := by
          intro us
          induction us with
          | nil => intro _ σ; rfl
          | cons u us ih =>
            intro h σ
            show wipe ((wipe σ us).set u none) vs = _
            rw [wipe_set (h u List.mem_cons_self)]
            exact ih (fun z hz => h z (List.mem_cons_of_mem _ hz)) σ
        exact sub vs fun _ h => h
      exact idem vs σ
    refine ⟨hww, ?_⟩
    refine ht b σ' G3 W3 H' n2 _ (fun c n' => M.ite c (M.bind (me b) fun y => M.pure (some y)) (M.pure none) (fun o n' => M.compA f (acc ++ o.toList) (xs.drop (i + 1)) Φ (fun _ _ => False) n') (fun _ _ => False) n') (fun _ _ => False) e4 st3 hm2 (fun c n3 G4 W4 H4 hm3 s4 t4 => ?_) xt_no
    have st4 := st3.stp s4 t4
    have s14 := s2.trans (s3.trans s4)
    have hD4 := s4.w _ _ (s3.w _ _ hD2)
    have hG4 : G4 D = none := by
      cases z : G4 D with
      | none => rfl
      | some u =>
        rcases (s3.trans s4).ng _ _ z with h | h
        · rw [hG2] at h; cases h
        · rw [hD2] at h; cases h
    cases c with
    | false =>
      refine iteF ⟨by omega, G4, W4, n3, acc, us, s14, st4, hD4, hG4, hr.up (s3.trans s4).g, by omega, ?_⟩
      have hm3 : M.compA f (acc ++ (none : Option γ).toList) (xs.drop (i + 1)) Φ (fun _ _ => False) n3 := hm3
      rw [show (none : Option γ).toList = [] from rfl, List.append_nil] at hm3
      exact hm3
    | true =>
      refine iteT (he b σ' G4 W4 H4 n3 _ (fun y n' => M.compA f (acc ++ (some y).toList) (xs.drop (i + 1)) Φ (fun _ _ => False) n') (fun _ _ => False) (e4.stp s4) st4 hm3 (fun y n5 u G5 W5 H5 hm5 s5 t5 r5 _ => ?_) xt_no)
      have st5 := st4.stp s5 t5
      have hD5 := s5.w _ _ hD4
      have hG5 : G5 D = none := by
        cases z : G5 D with
        | none => rfl
        | some u =>
          rcases s5.ng _ _ z with h | h
          · rw [hG4] at h; cases h
          · rw [hD4] at h; cases h
      have hr5 := hr.up (s3.trans (s4.trans s5)).g
      refine ⟨us, st5.wh _ _ hD5, small1000 (by rw [hr.len]; omega), by omega, G5, upd W5 D (.lst (us ++ [u])), n5, acc ++ [y], us ++ [u], (s14.trans s5).put hW1 hG5, st5.put hD5 hG5 ?_, upd_same, hG5, hr5.app ⟨r5, trivial⟩, by rw [List.length_append]; exact Nat.add_le_add_right hal 1, hm5⟩
      exact st1.bw.free hW1
  · have hi3 : i = xs.length := by omega
    subst hi3
    rw [List.drop_length] at hm2
    exact .inl ⟨wk.stops n2 G2 W2 H2 st2 s2.g, k acc n2 _ G2 W2 H2 hm2 (s1.trans s2) st2.t ⟨D, _, rfl, hD2, hG2, st1.bw.free hW1, us, rfl, hr⟩ fun q eq => by cases eq; exact s1.w.free hW1⟩
end
end VL

namespace VL
open PySem PySem.Spec PyProof.Rows L2
inductive Fl (ρ α : Type) where
  | nx (a : α) | rt (r : ρ)
/-- a statement, a block -/
def SV (C : Cfg) {ρ α : Type} (Rr : ρ → SL) (ts : TS) (ps : List SL) (m : M (Fl ρ α)) (ψ : α → List SL) : Prop :=
  ∀ (D : Ends) (σ : L2.St) G W H n Φ Ψ, Ee C.B ps σ G W → Stt C n G W H → m Φ Ψ n →
    (∀ a n σ G' W H, Φ (.nx a) n → Same G G' → Ee C.B (ψ a) σ G' W → Stt C n G' W H → D.nx σ H) →
    (∀ r n v G W H, Φ (.rt r) n → Stt C n G W H → Res C.B (Rr r) v G W → D.rt v H) →
    (∀ x n cls d σ G W H, Ψ x n → XRep C.mg x cls d G H → Ex_ C.B C.px σ G W → Stt C n G W H → C.Ew σ cls d H) →
    ts D σ H
/-- an expression that may change what the slots own -/
def VX (C : Cfg) {α : Type} (te : TE) (ps : List SL) (m : M α) (R : α → SL) (ψ : α → List SL) : Prop :=
  ∀ σ G W H n (Q : VK) Φ Ψ, Ee C.B ps σ G W → Stt C n G W H → m Φ Ψ n →
    (∀ a n v G' W H, Φ a n → Same G G' → Ee C.B (ψ a) σ G' W → Stt C n G' W H → Res C.B (R a) v G' W → (∀ c, R a = .ow c → ∀ (k : Nat) d p, (ψ a)[k]? = some (.ow d) → σ[k]? = some (some (.ref p)) → v ≠ .ref p) → Q v H) →
    (∀ x n cls d G W H, Ψ x n → XRep C.mg x cls d G H → Ex_ C.B C.px σ G W → Stt C n G W H → C.Ew σ cls d H) → te σ H Q
def M.seq {ρ α β : Type} (m : M (Fl ρ α)) (f : α → M (Fl ρ β)) : M (Fl ρ β) := fun Q E n => m (fun fl n => match fl with | .nx a => f a Q E n | .rt r => Q (.rt r) n) E n
def M.nx {ρ α : Type} (a : α) : M (Fl ρ α) := fun Q _ n => Q (.nx a) n
def M.rt {ρ α : Type} (r : ρ) : M (Fl ρ α) := fun Q _ n => Q (.rt r) n
/-- the def's answer -/
def M.ret {ρ α : Type} (m : M (Fl ρ α)) : M ρ := fun Q E n => m (fun fl n => match fl with | .nx _ => False | .rt r => Q r n) E n
def M.retN {ρ α : Type} (m : M (Fl ρ α)) (r0 : ρ) : M ρ := fun Q E n => m (fun fl n => match fl with | .nx _ => Q r0 n | .rt r => Q r n) E n
section
variable {C : Cfg} {ρ α β γ : Type} {Rr : ρ → SL} {ps : List SL} {te ta tb : TE} {tt : TT} {t u : TS}
theorem vx_of {m : M α} {R : α → SL} (h : VE C te ps m R) (hp : PxLe C.px ps) : VX C te ps m R (fun _ => ps) := by
  intro σ G W H n Q Φ Ψ e st hm k x
  refine h σ G W H n Q Φ Ψ e st hm (fun a n' v G' W' H' hΦ s t r f => k a n' v G' W' H' hΦ s.g (e.stp s) (st.stp s t) r fun c hc j d p h1 h2 z => ?_) fun y n' cls d G' W' H' hΨ r s t => x y n' cls d G' W' H' hΨ r ((e.stp s).x hp) (st.stp s t)
  obtain ⟨w, hw, a, o, e1, hW, _⟩ := e.at_ h1 (by simp)
  rw [h2] at hw
  cases hw
  cases e1
  rw [hc] at f
  rw [f p z] at hW
  cases hW
theorem sv_nil : SV C Rr tNext ps (M.nx ()) (fun _ => ps) := by
  intro D σ G W H n Φ Ψ e st hm k r x
  exact k () n σ G W H hm (Same.refl _) e st
theorem sv_seq {m : M (Fl ρ α)} {ψ : α → List SL} {f : α → M (Fl ρ β)} {χ : β → List SL} (h : SV C Rr t ps m ψ) (h2 : ∀ a, SV C Rr u (ψ a) (f a) χ) : SV C Rr (tSeq t u) ps (M.seq m f) χ := by
  intro D σ G W H n Φ Ψ e st hm k r x
  exact h { D with nx := u D } σ G W H n _ Ψ e st hm (fun a n' σ' G' W' H' hΦ s e' st' => h2 a D σ' G' W' H' n' Φ Ψ e' st' hΦ (fun a n σ G' W H hΦ s' => k a n σ G' W H hΦ (s.trans s')) r x) r x
theorem sv_ret {m : M ρ} (h : VE C te ps m Rr) (hp : PxLe C.px ps) {ψ : α → List SL} : SV C Rr (tRet te) ps (M.bind m fun a => M.rt a) ψ := by
  intro D σ G W H n Φ Ψ e st hm k r x
  exact h σ G W H n D.rt (fun a n' => Φ (.rt a) n') Ψ e st hm (fun a n' v G' W' H' hΦ s t q f => r a n' v G' W' H' hΦ (st.stp s t) q) fun y n' cls d G' W' H' hΨ q s t => x y n' cls d σ G' W' H' hΨ q ((e.stp s).x hp) (st.stp s t)
/-- an owned slot is given back -/
theorem sv_retO {c : ρ → CP} {b : ρ} {i : Nat} (hi : ps[i]? = some (.ow (c b)) := by rfl) {ψ : α → List SL} : SV C (Ow c) (tRet (tVar i)) ps (M.rt b) ψ := by
  intro D σ G W H n Φ Ψ e st hm k r x
  obtain ⟨v, hv, hr⟩ := e.at_ hi (by simp)
  exact ⟨v, hv, r b n v G W H hm st hr⟩
theorem sv_asgX {m : M α} {R : α → SL} {ψ : α → List SL} {i : Nat} (h : VX C te ps m R ψ) : SV C Rr (tAsg te (gName i)) ps (M.bind m fun a => M.nx a) (fun a => (ψ a).set i (R a)) := by
  intro D σ G W H n Φ Ψ e st hm k r x
  refine h σ G W H n _ (fun a n' => Φ (.nx a) n') Ψ e st hm (fun a n' v G' W' H' hΦ s e' st' q f => ?_) fun y n' cls d G' W' H' hΨ q e' s => x y n' cls d σ G' W' H' hΨ q e' s
  exact k a n' _ G' W' H' hΦ s (e'.set q fun c hc j d b _ h1 h2 => f c hc j d b h1 h2) st'
theorem sv_asg {m : M α} {R : α → SL} {i : Nat} (h : VE C te ps m R) (hp : PxLe C.px ps) : SV C Rr (tAsg te (gName i)) ps (M.bind m fun a => M.nx a) (fun a => ps.set i (R a)) :=
  sv_asgX (vx_of h hp)
theorem sv_asgG {m : M α} {R : α → VP} {ψ : α → List SL} {js : List Nat} {g : TG} (h : VE C te ps m (Fz R)) (hp : PxLe C.px ps) (hg : VG C g R ps ψ js) : SV C Rr (tAsg te g) ps (M.bind m fun a => M.nx a) ψ := by
  intro D σ G W H n Φ Ψ e st hm k r x
  exact h σ G W H n _ (fun a n' => Φ (.nx a) n') Ψ e st hm (fun a n' v G' W' H' hΦ s t q f => hg a v σ G' W' H' n' _ (e.stp s) (st.stp s t) q fun σ' e' _ => k a n' σ' G' W' H' hΦ s.g e' (st.stp s t)) fun y n' cls d G' W' H' hΨ q s t => x y n' cls d σ G' W' H' hΨ q ((e.stp s).x hp) (st.stp s t)
theorem sv_exprX {m : M α} {R : α → SL} {ψ : α → List SL} (h : VX C te ps m R ψ) : SV C Rr (tDrop te) ps (M.bind m fun a => M.nx a) ψ := by
  intro D σ G W H n Φ Ψ e st hm k r x
  exact h σ G W H n _ (fun a n' => Φ (.nx a) n') Ψ e st hm (fun a n' v G' W' H' hΦ s e' st' q f => k a n' σ G' W' H' hΦ s e' st') fun y n' cls d G' W' H' hΨ q e' s => x y n' cls d σ G' W' H' hΨ q e' s
theorem sv_expr {m : M α} {R : α → SL} (h : VE C te ps m R) (hp : PxLe C.px ps) : SV C Rr (tDrop te) ps (M.bind m fun a => M.nx a) (fun _ => ps) := sv_exprX (vx_of h hp)
theorem sv_if {m : M Bool} {m1 m2 : M (Fl ρ α)} {ψ : α → List SL} (h : VT C tt ps m) (hp : PxLe C.px ps) (h1 : SV C Rr t ps m1 ψ) (h2 : SV C Rr u ps m2 ψ) : SV C Rr (tIfS tt t u) ps (M.bind m fun b => M.ite b m1 m2) ψ := by
  intro D σ G W H n Φ Ψ e st hm k r x
  refine h σ G W H n _ (fun b n' => M.ite b m1 m2 Φ Ψ n') Ψ e st hm (fun b n' G' W' H' hΦ s t => ?_) fun y n' cls d G' W' H' hΨ q s t => x y n' cls d σ G' W' H' hΨ q ((e.stp s).x hp) (st.stp s t)
  have k' := fun a n σ G'' W H hΦ (s' : Same G' G'') => k a n σ G'' W H hΦ (s.g.trans s')
  cases b with
  | true => exact iteT (h1 D σ G' W' H' n' Φ Ψ (e.stp s) (st.stp s t) hΦ k' r x)
  | false => exact iteF (h2 D σ G' W' H' n' Φ Ψ (e.stp s) (st.stp s t) hΦ k' r x)
/-- another datum for what is known behind it -/
theorem sv_conv {m : M (Fl ρ α)} {ψ : α → List SL} {χ : β → List SL} (f : α → β) (h : SV C Rr t ps m ψ) (hf : ∀ a, Le (χ (f a)) (ψ a)) : SV C Rr t ps (M.seq m fun a => M.nx (f a)) χ := by
  intro D σ G W H n Φ Ψ e st hm k r x
  exact h D σ G W H n _ Ψ e st hm (fun a n' σ' G' W' H' hΦ s e' st' => k (f a) n' σ' G' W' H' hΦ s (e'.le (hf a)) st') r x
/-- it starts from less -/
theorem sv_le {m : M (Fl ρ α)} {ps' : List SL} {ψ : α → List SL} (h : SV C Rr t ps' m ψ) (hf : Le ps' ps) : SV C Rr t ps m ψ := by
  intro D σ G W H n Φ Ψ e st hm k r x
  exact h D σ G W H n Φ Ψ (e.le hf) st hm k r x
/-! ### loops -/
def M.forL {ρ β σ : Type} (f : β → σ → M (Fl ρ σ)) : List β → σ → M (Fl ρ σ)
  | [], s => M.nx s
  | x :: r, s => M.seq (f x s) fun s => M.forL f r s
theorem sv_for {wi : TI} {g : TG} {mi : M (List β)} {Rb : β → VP} {S : Type} {ψ : S → List SL} {χ : S → β → List SL} {js : List Nat} {f : β → S → M (Fl ρ S)} {s0 : S} (hi : VI C wi ps mi Rb) (hp : PxLe C.px ps) (h0 : Le (ψ s0) ps)
    (hg : ∀ s, VG C g Rb (ψ s) (χ s) js) (hb : ∀ b s, SV C Rr t (χ s b) (f b s) ψ) : SV C Rr (tFor wi g t) ps (M.bind mi fun xs => M.forL f xs s0) ψ := by
  intro D σ G W H n Φ Ψ e st hm k r x
  refine hi σ G W H n _ (fun xs n' => M.forL f xs s0 Φ Ψ n') Ψ e st hm ?_ fun y n' cls d G' W' H' hΨ q s t => x y n' cls d σ G' W' H' hΨ q ((e.stp s).x hp) (st.stp s t)
  rintro xs n1 J G1 W1 H1 hm1 s1 t1 wk
  have st1 := st.stp s1 t1
  let I : Nat → L2.St → Hp → Prop := fun i σ H => i ≤ xs.length ∧ ∃ s G W n, Ee C.B (ψ s) σ G W ∧ Stt C n G W H ∧ Same G1 G ∧ M.forL f (xs.drop i) s Φ Ψ n
  refine ⟨fun i m σ H => m = xs.length - i ∧ I i σ H, ⟨xs.length, by simp, Nat.zero_le _, s0, G1, W1, n1, (e.stp s1).le h0, st1, Same.refl _, hm1⟩, ?_⟩
  rintro i m σ2 H2 ⟨rfl, hi2, s, G2, W2, n2, e2, st2, q2, hm2⟩
  by_cases hlt : i < xs.length
  · refine .inr ⟨wk.goes i n2 G2 W2 H2 hlt st2 q2, I (i + 1), fun σ' H' p => ⟨xs.length - (i + 1), by omega, rfl, p⟩, fun v H' y => ?_⟩
    obtain ⟨b, G3, W3, hb', s3, t3, r3⟩ := wk.yields i n2 G2 W2 H2 v H' hlt st2 q2 y
    have st3 := st2.stp s3 t3
    have hdrop : xs.drop i = b :: xs.drop (i + 1) := by
      obtain ⟨h1, h2⟩ := List.getElem?_eq_some_iff.mp hb'
      rw [← h2]; exact List.drop_eq_getElem_cons h1
    rw [hdrop] at hm2
    refine hg s b v σ2 G3 W3 H' n2 _ (e2.stp s3) st3 r3 fun σ' e4 _ => ?_
    exact hb b s { D with nx := I (i + 1), ct := I (i + 1), bk := D.nx } σ' G3 W3 H' n2 _ Ψ e4 st3 hm2 (fun s' n5 σ5 G5 W5 H5 hΦ q5 e5 st5 => ⟨by omega, s', G5, W5, n5, e5, st5, q2.trans (s3.g.trans q5), hΦ⟩) r x
  · have hi3 : i = xs.length := by omega
    subst hi3
    rw [List.drop_length] at hm2
    exact .inl ⟨wk.stops n2 G2 W2 H2 st2 q2, k s n2 σ2 G2 W2 H2 hm2 (s1.g.trans q2) e2 st2⟩
def M.loop {ρ σ : Type} (c : σ → M Bool) (f : σ → M (Fl ρ σ)) : Nat → σ → M (Fl ρ σ)
  | 0, _ => fun _ _ _ => False
  | k + 1, s => M.bind (c s) fun b => M.ite b (M.seq (f s) fun s => M.loop c f k s) (M.nx s)
theorem sv_while {S : Type} {ψ : S → List SL} {c : S → M Bool} {f : S → M (Fl ρ S)} {s0 : S} (h0 : Le (ψ s0) ps) (hp : ∀ s, PxLe C.px (ψ s)) (hc : ∀ s, VT C tt (ψ s) (c s)) (hb : ∀ s, SV C Rr t (ψ s) (f s) ψ) :
    SV C Rr (tWhile tt t) ps (fun Q E n => ∃ k, M.loop c f k s0 Q E n) ψ := by
  rintro D σ G W H n Φ Ψ e st ⟨m0, hm⟩ k r x
  let I : Nat → L2.St → Hp → Prop := fun m σ H => ∃ s G' W n, Ee C.B (ψ s) σ G' W ∧ Stt C n G' W H ∧ Same G G' ∧ M.loop c f m s Φ Ψ n
  refine ⟨I, ⟨m0, s0, G, W, n, e.le h0, st, Same.refl _, hm⟩, ?_⟩
  rintro m σ2 H2 ⟨s, G2, W2, n2, e2, st2, q2, hm2⟩
  cases m with
  | zero => exact hm2.elim
  | succ m =>
    refine hc s σ2 G2 W2 H2 n2 _ (fun b n' => M.ite b (M.seq (f s) fun s => M.loop c f m s) (M.nx s) Φ Ψ n') Ψ e2 st2 hm2 (fun b n3 G3 W3 H3 hm3 s3 t3 => ?_) fun y n' cls d G' W' H' hΨ q s' t => x y n' cls d σ2 G' W' H' hΨ q ((e2.stp s').x (hp s)) (st2.stp s' t)
    have st3 := st2.stp s3 t3
    cases b with
    | true =>
      refine iteT ⟨I m, fun σ' H' p => ⟨m, Nat.lt_succ_self m, p⟩, ?_⟩
      exact hb s { D with nx := I m, ct := I m, bk := D.nx } σ2 G3 W3 H3 n3 _ Ψ (e2.stp s3) st3 hm3 (fun s' n5 σ5 G5 W5 H5 hΦ q5 e5 st5 => ⟨s', G5, W5, n5, e5, st5, q2.trans (s3.g.trans q5), hΦ⟩) r x
    | false => exact iteF (k s n3 σ2 G3 W3 H3 hm3 (q2.trans s3.g) (e2.stp s3) st3)
/-! ### what a slot owns: shown, lent, changed -/
theorem Ee.show {B : Hp} {σ : L2.St} {G W : Hp} {i : Nat} {c : CP} {p : Addr} {o : HO} {q : VP} (e : Ee B ps σ G W) (hi : ps[i]? = some (.ow c)) (hσ : σ[i]? = some (some (.ref p))) (ho : W p = some o) (hg : G p = none) (hq : q.P (.ref p) (upd G p o)) : Ee B (ps.set i (.fr q)) σ (upd G p o) W := by
  refine ⟨by rw [List.length_set]; exact e.len, fun {k t} h n => ?_, fun {k l d d' a} hkl h1 h2 h3 h4 => ?_⟩
  · rcases getElem_set h with ⟨rfl, rfl, hl⟩ | ⟨hne, h⟩
    · exact ⟨_, hσ, hq⟩
    · obtain ⟨v, hv, hr⟩ := e.at_ h n
      refine ⟨v, hv, ?_⟩
      cases t with
      | un => trivial
      | fr r => exact r.up (same_upd hg) hr
      | bo _ => exact hr
      | ow d =>
        obtain ⟨a, q, e1, hw', hg', hb', hc'⟩ := hr
        refine ⟨a, q, e1, hw', ?_, hb', d.up (same_upd hg) hc'⟩
        rw [upd_ne]
        · exact hg'
        · rintro rfl
          subst e1
          exact e.sep hne h hi hv hσ
  · have f : ∀ {m : Nat} {d : CP}, (ps.set i (.fr q))[m]? = some (.ow d) → ps[m]? = some (.ow d) := fun {m d} h => by
      rcases getElem_set h with ⟨_, h, _⟩ | ⟨_, h⟩
      · cases h
      · exact h
    exact e.sep hkl (f h1) (f h2) h3 h4
theorem Stt.show {n : Nat} {G W H : Hp} {p : Addr} {o : HO} (s : Stt C n G W H) (h : W p = some o) (hg : G p = none) (hb : C.B p = none) : Stt C n (upd G p o) W H where
  t := s.t
  gw := same_put s.gw h
  bw := s.bw
  g0 := s.g0.trans (same_upd hg)
  gb := fun q x hq => by
    by_cases z : q = p
    · subst z; exact .inr hb
    · rw [upd_ne z] at hq; exact s.gb q x hq
/-- from here on the slot's object is shown -/
theorem sv_show {m : M (Fl ρ α)} {ψ : α → List SL} {i : Nat} {c : CP} {q : VP} (hi : ps[i]? = some (.ow c)) (hc : ∀ p o G, c.P o G → G p = none → q.P (.ref p) (upd G p o)) (h : SV C Rr t (ps.set i (.fr q)) m ψ) : SV C Rr t ps m ψ := by
  intro D σ G W H n Φ Ψ e st hm k r x
  obtain ⟨v, hσ, p, o, rfl, hw, hg, hb, hP⟩ := e.at_ hi (by simp)
  exact h D σ (upd G p o) W H n Φ Ψ (e.show hi hσ hw hg (hc p o G hP hg)) (st.show hw hg hb) hm (fun a n σ G' W H hΦ s => k a n σ G' W H hΦ ((same_upd hg).trans s)) r x
theorem cLst_show {R : α → VP} {xs : List α} (p : Addr) (o : HO) (G : Hp) (h : (cLst R xs).P o G) (hp : G p = none) : (rLst R xs).P (.ref p) (upd G p o) := by
  obtain ⟨vs, rfl, hv⟩ := h
  exact ⟨p, vs, rfl, upd_same, hv.up (same_upd hp)⟩
theorem sv_showL {m : M (Fl ρ α)} {ψ : α → List SL} (i : Nat) {R : β → VP} {xs : List β} (hi : ps[i]? = some (.ow (cLst R xs))) (h : SV C Rr t (ps.set i (.fr (rLst R xs))) m ψ) : SV C Rr t ps m ψ :=
  sv_show hi cLst_show h
/-- a value that leans on no object -/
def Flat {α : Type} (R : α → VP) : Prop := ∀ a v G G', (R a).P v G → (R a).P v G'
theorem flat_int : Flat rInt := fun _ _ _ _ h => h
theorem flat_bl : Flat rBl := fun _ _ _ _ h => h
theorem flat_str : Flat rStr := fun _ _ _ _ h => h
/-- a slot's object is lent to an expression that gives a flat value -/
theorem ve_lend {m : M α} {R : α → VP} {i : Nat} {c : CP} {q : VP} (hi : ps[i]? = some (.ow c)) (hc : ∀ p o G, c.P o G → G p = none → q.P (.ref p) (upd G p o)) (hR : Flat R) (h : VE C te (ps.set i (.fr q)) m (Fz R)) : VE C te ps (M.nox m) (Fz R) := by
  intro σ G W H n Q Φ Ψ e st hm k x
  obtain ⟨v, hσ, p, o, rfl, hw, hg, hb, hP⟩ := e.at_ hi (by simp)
  have back : ∀ {G' W' : Hp}, Stp (upd G p o) W G' W' → Stp G W G W' := fun s => ⟨Same.refl _, s.w, st.gw.trans s.w, fun q x hq => .inl hq⟩
  exact h σ (upd G p o) W H n Q Φ (fun _ _ => False) (e.show hi hσ hw hg (hc p o G hP hg)) (st.show hw hg hb) hm (fun a n' v G' W' H' hΦ s t r _ => k a n' v G W' H' hΦ (back s) t (hR a v G' G r) trivial) xt_no
end
end VL

namespace VL
open PySem PySem.Spec PyProof.Rows L2
section
variable {C : Cfg} {ρ α β γ : Type} {Rr : ρ → SL} {ps : List SL} {te ta tb : TE} {tt : TT} {t u : TS}
/-! ### what a slot owns, changed -/
/-- the slot's own list, read -/
theorem own_get {σ : L2.St} {G W H : Hp} {n : Nat} {i : Nat} {R : α → VP} {xs : List α} (e : Ee C.B ps σ G W) (st : Stt C n G W H) (hi : ps[i]? = some (.ow (cLst R xs))) :
    ∃ p vs, σ[i]? = some (some (.ref p)) ∧ W p = some (.lst vs) ∧ H p = some (.lst vs) ∧ G p = none ∧ C.B p = none ∧ reps R xs vs G := by
  obtain ⟨v, hσ, p, o, rfl, hw, hg, hb, vs, rfl, hr⟩ := e.at_ hi (by simp)
  exact ⟨p, vs, hσ, hw, st.wh _ _ hw, hg, hb, hr⟩
theorem M.req_iff {c : Prop} {Q : Unit → Nat → Prop} {E : Exc → Nat → Prop} {n : Nat} : M.req c Q E n ↔ c ∧ Q () n := Iff.rfl
theorem vx_append {R : α → VP} {xs : List α} {m : M α} {ψ : α → List SL} {i : Nat} (he : VX C te ps m (Fz R) ψ) (hi : ps[i]? = some (.ow (cLst R xs))) (f : α → List α) (hi2 : ∀ a, (ψ a)[i]? = some (.ow (cLst R (f a)))) :
    VX C (tBM C.K "list" rAppend (tVar i) (tCons te tNil)) ps (M.bind m fun a => M.when ((f a).length < sizeLine) a) (fun _ => .fr (rNon ())) (fun a => (ψ a).set i (.ow (cLst R (f a ++ [a])))) := by
  intro σ G W H n Q Φ Ψ e st hm k x
  obtain ⟨p, vs, hσ, hw, hh, hg, hb, hr⟩ := own_get e st hi
  refine ⟨.ref p, hσ, .inl ⟨rfl, vs, SqL.of hh⟩, ?_⟩
  refine he σ G W H n _ (fun a n' => M.when ((f a).length < sizeLine) a Φ Ψ n') Ψ e st hm (fun a n' v G' W' H' hΦ s e' st' r _ => ?_) x
  obtain ⟨q, us, hσ', hw', hh', hg', hb', hr'⟩ := own_get e' st' (hi2 a)
  rw [hσ] at hσ'
  cases hσ'
  refine ⟨p, us, v, rfl, rfl, hh', by rw [hr'.len]; exact hΦ.1, ?_⟩
  exact k a n' .non G' (upd W' p (.lst (us ++ [v]))) _ hΦ.2 s (e'.putOwn (hi2 a) hσ ⟨_, rfl, hr'.app ⟨r, trivial⟩⟩) (st'.put hw' hg' hb') rfl fun c h => nomatch h
theorem sv_append {R : α → VP} {xs : List α} {m : M α} {i : Nat} (he : VE C te ps m (Fz R)) (hp : PxLe C.px ps) (hi : ps[i]? = some (.ow (cLst R xs)) := by rfl) :
    SV C Rr (tDrop (tBM C.K "list" rAppend (tVar i) (tCons te tNil))) ps (M.bind (M.bind m fun a => M.when (xs.length < sizeLine) a) fun a => M.nx a) (fun a => ps.set i (.ow (cLst R (xs ++ [a])))) :=
  sv_exprX (vx_append (vx_of he hp) hi (fun _ => xs) fun _ => hi)
def M.popAt {α : Type} (xs : List α) (j : Int) : M (α × List α) := fun Φ _ n => ∃ (k : Nat) (a : α), (-(2 ^ 63) ≤ j ∧ j < 2 ^ 63) ∧ seqIndex? j xs.length = some k ∧ xs[k]? = some a ∧ Φ (a, xs.eraseIdx k) n
def M.popE {α : Type} (xs : List α) : M (α × List α) := fun Φ _ n => ∃ a, xs[xs.length - 1]? = some a ∧ Φ (a, xs.dropLast) n
theorem vx_popAt {R : α → VP} {xs : List α} {m : M Int} {i : Nat} (he : VE C te ps m (Fz rInt)) (hp : PxLe C.px ps) (hi : ps[i]? = some (.ow (cLst R xs)) := by rfl) :
    VX C (tBM C.K "list" rPopAt (tVar i) (tCons te tNil)) ps (M.bind m fun j => M.popAt xs j) (fun q => .fr (R q.1)) (fun q => ps.set i (.ow (cLst R q.2))) := by
  intro σ G W H n Q Φ Ψ e st hm k x
  obtain ⟨p, vs, hσ, hw, hh, hg, hb, hr⟩ := own_get e st hi
  refine ⟨.ref p, hσ, .inl ⟨rfl, vs, SqL.of hh⟩, ?_⟩
  refine (vx_of he hp) σ G W H n _ (fun j n => M.popAt xs j Φ Ψ n) Ψ e st hm (fun j n' v G' W' H' hΦ s e' st' r _ => ?_) x
  obtain ⟨m, a, ⟨h1, h2⟩, h3, h4, hΦ⟩ := hΦ
  obtain ⟨q, us, hσ', hw', hh', hg', hb', hr'⟩ := own_get e' st' hi
  rw [hσ] at hσ'
  cases hσ'
  obtain ⟨y, hy, hry⟩ := hr'.get h4
  refine ⟨p, us, j, m, y, rfl, by rw [show v = .int j from r], hh', h1, h2, by rw [hr'.len]; exact h3, hy, ?_⟩
  have era : ∀ {xs : List α} {vs : List V} {G : Hp} (m : Nat), reps R xs vs G → reps R (xs.eraseIdx m) (vs.eraseIdx m) G := by
    intro xs
    induction xs with
    | nil =>
      intro vs G m h
      cases vs with
      | nil => exact trivial
      | cons _ _ => exact h.elim
    | cons x xs ih =>
      intro vs G m h
      cases vs with
      | nil => exact h.elim
      | cons v vs =>
        cases m with
        | zero => exact h.2
        | succ m => exact ⟨h.1, ih m h.2⟩
  exact k (a, xs.eraseIdx m) n' y G' (upd W' p (.lst (us.eraseIdx m))) _ hΦ s (e'.putOwn hi hσ ⟨_, rfl, era m hr'⟩) (st'.put hw' hg' hb') hry fun c h => nomatch h
theorem vx_pop {R : α → VP} {xs : List α} {i : Nat} (hp : PxLe C.px ps) (hi : ps[i]? = some (.ow (cLst R xs)) := by rfl) :
    VX C (tBM0 C.K "list" rPop (tVar i)) ps (M.popE xs) (fun q => .fr (R q.1)) (fun q => ps.set i (.ow (cLst R q.2))) := by
  rintro σ G W H n Q Φ Ψ e st ⟨a, ha, hm⟩ k x
  obtain ⟨p, vs, hσ, hw, hh, hg, hb, hr⟩ := own_get e st hi
  obtain ⟨y, hy, hry⟩ := hr.get ha
  refine ⟨.ref p, hσ, .inl ⟨rfl, vs, SqL.of hh⟩, p, vs, y, rfl, rfl, hh, by rw [hr.len]; exact hy, ?_⟩
  have hdl : reps R xs.dropLast vs.dropLast G := by
    rw [List.dropLast_eq_take, List.dropLast_eq_take, hr.len]
    exact hr.take _
  exact k (a, xs.dropLast) n y G (upd W p (.lst vs.dropLast)) _ hm (Same.refl _) (e.putOwn hi hσ ⟨_, rfl, hdl⟩) (st.put hw hg hb) hry fun c h => nomatch h
theorem vx_clear {R : α → VP} {xs : List α} {i : Nat} (hp : PxLe C.px ps) (hi : ps[i]? = some (.ow (cLst R xs)) := by rfl) :
    VX C (tBM0 C.K "list" rClear (tVar i)) ps (M.pure ()) (fun _ => .fr (rNon ())) (fun _ => ps.set i (.ow (cLst R []))) := by
  rintro σ G W H n Q Φ Ψ e st hm k x
  obtain ⟨p, vs, hσ, hw, hh, hg, hb, hr⟩ := own_get e st hi
  exact ⟨.ref p, hσ, .inl ⟨rfl, vs, SqL.of hh⟩, p, vs, rfl, rfl, hh, k () n .non G (upd W p (.lst [])) _ hm (Same.refl _) (e.putOwn hi hσ ⟨_, rfl, trivial⟩) (st.put hw hg hb) rfl fun c h => nomatch h⟩
/-- xs[j] = e, xs owned -/
def M.setL {α : Type} (xs : List α) (j : Int) (a : α) : M (List α) := fun Φ _ n => ∃ k, ixN xs.length j = some k ∧ Φ (xs.set k a) n
theorem sv_setL {R : α → VP} {xs : List α} {m : M α} {mj : M Int} {i : Nat} (he : VE C te ps m (Fz R)) (hj : VE C ta ps mj (Fz rInt)) (hp : PxLe C.px ps) (hi : ps[i]? = some (.ow (cLst R xs)) := by rfl) :
    SV C Rr (tAsg te (gSub (tVar i) ta rSetL)) ps (M.bind (M.bind m fun a => M.bind mj fun j => M.setL xs j a) fun ys => M.nx ys) (fun ys => ps.set i (.ow (cLst R ys))) := by
  intro D σ G W H n Φ Ψ e st hm k r x
  refine he σ G W H n _ (fun a n' => M.bind mj (fun j => fun (Φ : Fl ρ (List α) → Nat → Prop) _ n => ∃ k, ixN xs.length j = some k ∧ Φ (.nx (xs.set k a)) n) Φ Ψ n') Ψ e st hm (fun a n1 v G1 W1 H1 hm1 s1 t1 r1 _ => ?_) fun y n' cls d G' W' H' hΨ q s t => x y n' cls d σ G' W' H' hΨ q ((e.stp s).x hp) (st.stp s t)
  have st1 := st.stp s1 t1
  have e1 := e.stp s1
  obtain ⟨p, vs, hσ, hw, hh, hg, hb, hr⟩ := own_get e1 st1 hi
  refine ⟨.ref p, hσ, ?_⟩
  refine hj σ G1 W1 H1 n1 _ (fun j n => ∃ k, ixN xs.length j = some k ∧ Φ (.nx (xs.set k a)) n) Ψ e1 st1 hm1 (fun j n2 u G2 W2 H2 hm2 s2 t2 r2 _ => ?_) fun y n' cls d G' W' H' hΨ q s t => x y n' cls d σ G' W' H' hΨ q ((e1.stp s).x hp) (st1.stp s t)
  obtain ⟨kk, hk, hm2⟩ := hm2
  have st2 := st1.stp s2 t2
  have e2 := e1.stp s2
  obtain ⟨q, us, hσ', hw', hh', hg', hb', hr'⟩ := own_get e2 st2 hi
  rw [hσ] at hσ'
  cases hσ'
  refine ⟨p, us, j, kk, rfl, r2, hh', by rw [hr'.len]; exact hk, ?_⟩
  exact k (xs.set kk a) n2 σ G2 (upd W2 p (.lst (us.set kk v))) _ hm2 (s1.g.trans s2.g) (e2.putOwn hi hσ ⟨_, rfl, hr'.set kk ((R a).up s2.g r1)⟩) (st2.put hw' hg' hb')
/-- x += e: whole numbers -/
theorem sv_augI {te : TE} {a0 : Int} {f : Int → Int → Int} {m : M Int} {i : Nat} (he : VE C te ps m (Fz rInt)) (hp : PxLe C.px ps) (hi : ps[i]? = some (.fr (rInt a0)) := by rfl) :
    SV C Rr (tAug i te (ipI f)) ps (M.bind m fun a => M.nx (f a0 a)) (fun a => ps.set i (.fr (rInt a))) := by
  intro D σ G W H n Φ Ψ e st hm k r x
  obtain ⟨v, hσ, hv⟩ := e.at_ hi (by simp)
  have hv : v = .int a0 := hv
  subst hv
  refine ⟨_, hσ, he σ G W H n _ (fun a n' => Φ (.nx (f a0 a)) n') Ψ e st hm (fun a n' v G' W' H' hΦ s t q _ => ⟨a0, a, rfl, q, ?_⟩) fun y n' cls d G' W' H' hΨ q s t => x y n' cls d σ G' W' H' hΨ q ((e.stp s).x hp) (st.stp s t)⟩
  exact k _ n' _ G' W' H' hΦ s.g ((e.stp s).setF rfl) (st.stp s t)
end
/-! ### defs -/
section
variable (mg : Str → Option Value) (K : PySem.W.Frag) (TB : List (Addr × Str))
/-- a def's promise by its answer: over any view of the heap -/
def spG {α β : Type} (Rs : α → List VP) (F : α → M β) (Rr : β → SL) : Sp := fun vs H Q E =>
  ∃ (Θ : Th TB) (a : α) (G W : Hp) (n : Nat) (Φ : β → Nat → Prop) (Ψ : Exc → Nat → Prop), RepL (Rs a) vs G ∧ Same G W ∧ Θ.T n W H ∧ F a Φ Ψ n ∧
    Kt ⟨TB, Θ, mg, K, W, G, fun _ => E, []⟩ Rr G W Q Φ ∧ Xt ⟨TB, Θ, mg, K, W, G, fun _ => E, []⟩ [] G W Ψ
/-- .. over one view -/
def spT {α β : Type} (Θ : Addr → Th TB) (Rs : Addr → α → List VP) (F : α → M β) (Rr : β → SL) : Sp := fun vs H Q E =>
  ∃ (s : Addr) (a : α) (G W : Hp) (n : Nat) (Φ : β → Nat → Prop) (Ψ : Exc → Nat → Prop), RepL (Rs s a) vs G ∧ Same G W ∧ (Θ s).T n W H ∧ F a Φ Ψ n ∧
    Kt ⟨TB, Θ s, mg, K, W, G, fun _ => E, []⟩ Rr G W Q Φ ∧ Xt ⟨TB, Θ s, mg, K, W, G, fun _ => E, []⟩ [] G W Ψ
end
theorem spG_len {mg : Str → Option Value} {K : PySem.W.Frag} {TB : List (Addr × Str)} {α β : Type} {Rs : α → List VP} {F : α → M β} {Rr : β → SL} {ps : List Str} (h : ∀ a, (Rs a).length = ps.length := by intro _; rfl) : ∀ vs H Q E, spG mg K TB Rs F Rr vs H Q E → vs.length = ps.length := by
  rintro vs H Q E ⟨_, a, _, _, _, _, _, r, _⟩
  rw [r.len, h]
theorem spT_len {mg : Str → Option Value} {K : PySem.W.Frag} {TB : List (Addr × Str)} {Θ : Addr → Th TB} {α β : Type} {Rs : Addr → α → List VP} {F : α → M β} {Rr : β → SL} {ps : List Str} (h : ∀ s a, (Rs s a).length = ps.length := by intros; rfl) : ∀ vs H Q E, spT mg K TB Θ Rs F Rr vs H Q E → vs.length = ps.length := by
  rintro vs H Q E ⟨_, a, _, _, _, _, _, r, _⟩
  rw [r.len, h]
/-- the slots at a def's start -/
def slots (N : List Str) (rs : List VP) : List SL := rs.map SL.fr ++ List.replicate (N.length - rs.length) .un
theorem repL_get {G : Hp} {rs : List VP} {vs : List V} (r : RepL rs vs G) : ∀ {i : Nat} {p : VP}, rs[i]? = some p → ∃ v, vs[i]? = some v ∧ p.P v G := by
  induction r with
  | nil => intro i p e; simp at e
  | cons a _ ih =>
    intro i p e
    cases i with
    | zero => simp at e; subst e; exact ⟨_, rfl, a⟩
    | succ i => simp at e ⊢; exact ih e
theorem ee_start {B G W : Hp} {N : List Str} {rs : List VP} {vs : List V} (r : RepL rs vs G) : Ee B (slots N rs) (start N vs) G W := by
  refine ⟨?_, fun {i s} h n => ?_, fun {i j c d a} _ h _ _ _ => ?_⟩
  · unfold L2.start slots
    rw [List.length_append, List.length_append, List.length_map, List.length_map, List.length_replicate, List.length_replicate, r.len]
  · unfold slots at h
    by_cases hi : i < rs.length
    · rw [List.getElem?_append_left (by rw [List.length_map]; exact hi), List.getElem?_map] at h
      rw [List.getElem?_eq_getElem hi] at h
      cases h
      obtain ⟨v, hv, hp⟩ := repL_get r (List.getElem?_eq_getElem hi)
      refine ⟨v, ?_, hp⟩
      unfold L2.start
      have hl : i < vs.length := by rw [r.len]; exact hi
      rw [List.getElem?_append_left (by rw [List.length_map]; exact hl), List.getElem?_map, hv]
      rfl
    · rw [List.getElem?_append_right (by rw [List.length_map]; omega), List.getElem?_replicate] at h
      split at h
      · exact absurd (Option.some.inj h).symm n
      · cases h
  · unfold slots at h
    rcases List.mem_append.mp (List.mem_of_getElem? h) with h | h
    · obtain ⟨_, _, h⟩ := List.mem_map.mp h
      cases h
    · have := (List.mem_replicate.mp h).2
      cases this
theorem stt_start {C : Cfg} {n : Nat} {G W H : Hp} (hB : C.B = W) (hG : C.G0 = G) (gw : Same G W) (t : C.Θ.T n W H) : Stt C n G W H :=
  ⟨t, gw, by rw [hB]; exact Same.refl _, by rw [hG]; exact Same.refl _, fun q o h => by rw [hG]; exact .inl h⟩
theorem stt_end {C : Cfg} {n : Nat} {G W G' W' H' : Hp} (hB : C.B = W) (hG : C.G0 = G) (st : Stt C n G' W' H') : Stp G W G' W' :=
  ⟨by rw [← hG]; exact st.g0, by rw [← hB]; exact st.bw, st.gw, fun q o h => by rw [← hG, ← hB]; exact st.gb q o h⟩
theorem res_fre {B : Hp} {s : SL} {v : V} {G W : Hp} (r : Res B s v G W) : Fre s v B := by
  cases s with
  | ow c =>
    obtain ⟨a, o, e, _, _, hb, _⟩ := r
    intro p ep
    rw [e] at ep
    cases ep
    exact hb
  | _ => trivial
/-- a def's body gives what is promised: every way returns -/
theorem fn_G {mg : Str → Option Value} {K : PySem.W.Frag} {TB : List (Addr × Str)} {α β δ : Type} {Rs : α → List VP} {F : α → M β} {Rr : β → SL} {vs : List V} {H : Hp} {Q : VK} {E : XK} {N : List Str} {t : TS} {m : α → M (Fl β δ)} {ψ : α → δ → List SL} (h : spG mg K TB Rs F Rr vs H Q E)
    (hF : ∀ a, F a = M.ret (m a)) (hb : ∀ (Θ : Th TB) (B G0 : Hp) (a : α), SV ⟨TB, Θ, mg, K, B, G0, fun _ => E, []⟩ Rr t (slots N (Rs a)) (m a) (ψ a)) : t { nx := fun _ H' => Q .non H', rt := Q } (start N vs) H := by
  obtain ⟨Θ, a, G, W, n, Φ, Ψ, r, gw, t1, hm, k, x⟩ := h
  rw [hF] at hm
  refine hb Θ W G a _ (start N vs) G W H n _ Ψ (ee_start r) (stt_start rfl rfl gw t1) hm (fun _ _ _ _ _ _ z => z.elim) (fun b n' v G' W' H' hΦ st q => k b n' v G' W' H' hΦ (stt_end rfl rfl st) st.t q (res_fre q)) fun y n' cls d σ G' W' H' hΨ q _ st => x y n' cls d G' W' H' hΨ q (stt_end rfl rfl st) st.t
/-- .. some ways come to the end: None -/
theorem fn_GN {mg : Str → Option Value} {K : PySem.W.Frag} {TB : List (Addr × Str)} {α δ : Type} {Rs : α → List VP} {F : α → M Unit} {vs : List V} {H : Hp} {Q : VK} {E : XK} {N : List Str} {t : TS} {m : α → M (Fl Unit δ)} {ψ : α → δ → List SL} (h : spG mg K TB Rs F (Fz rNon) vs H Q E)
    (hF : ∀ a, F a = M.retN (m a) ()) (hb : ∀ (Θ : Th TB) (B G0 : Hp) (a : α), SV ⟨TB, Θ, mg, K, B, G0, fun _ => E, []⟩ (Fz rNon) t (slots N (Rs a)) (m a) (ψ a)) : t { nx := fun _ H' => Q .non H', rt := Q } (start N vs) H := by
  obtain ⟨Θ, a, G, W, n, Φ, Ψ, r, gw, t1, hm, k, x⟩ := h
  rw [hF] at hm
  refine hb Θ W G a _ (start N vs) G W H n _ Ψ (ee_start r) (stt_start rfl rfl gw t1) hm (fun _ n' σ' G' W' H' hΦ _ _ st => k () n' .non G' W' H' hΦ (stt_end rfl rfl st) st.t rfl trivial) (fun b n' v G' W' H' hΦ st q => k b n' v G' W' H' hΦ (stt_end rfl rfl st) st.t q (res_fre q)) fun y n' cls d σ G' W' H' hΨ q _ st => x y n' cls d G' W' H' hΨ q (stt_end rfl rfl st) st.t
theorem fn_T {mg : Str → Option Value} {K : PySem.W.Frag} {TB : List (Addr × Str)} {Θ : Addr → Th TB} {α β δ : Type} {Rs : Addr → α → List VP} {F : α → M β} {Rr : β → SL} {vs : List V} {H : Hp} {Q : VK} {E : XK} {N : List Str} {t : TS} {m : α → M (Fl β δ)} {ψ : Addr → α → δ → List SL} (h : spT mg K TB Θ Rs F Rr vs H Q E)
    (hF : ∀ a, F a = M.ret (m a)) (hb : ∀ (s : Addr) (B G0 : Hp) (a : α), SV ⟨TB, Θ s, mg, K, B, G0, fun _ => E, []⟩ Rr t (slots N (Rs s a)) (m a) (ψ s a)) : t { nx := fun _ H' => Q .non H', rt := Q } (start N vs) H := by
  obtain ⟨s, a, G, W, n, Φ, Ψ, r, gw, t1, hm, k, x⟩ := h
  rw [hF] at hm
  refine hb s W G a _ (start N vs) G W H n _ Ψ (ee_start r) (stt_start rfl rfl gw t1) hm (fun _ _ _ _ _ _ z => z.elim) (fun b n' v G' W' H' hΦ st q => k b n' v G' W' H' hΦ (stt_end rfl rfl st) st.t q (res_fre q)) fun y n' cls d σ G' W' H' hΨ q _ st => x y n' cls d G' W' H' hΨ q (stt_end rfl rfl st) st.t
section
variable {C : Cfg} {α β γ : Type} {ps : List SL} {ta : TA}
theorem res_call {s : SL} {v : V} {W G' W' : Hp} (hb : Same C.B W) (r : Res W s v G' W') (f : ∀ p, s ≠ .bo p) : Res C.B s v G' W' := by
  cases s with
  | un => trivial
  | fr _ => exact r
  | bo p => exact absurd rfl (f p)
  | ow c =>
    obtain ⟨a, o, e, h1, h2, h3, h4⟩ := r
    exact ⟨a, o, e, h1, h2, hb.free h3, h4⟩
/-- f(..): nothing is raised -/
theorem ve_call {Rs : α → List VP} {F : α → M β} {Rr : β → SL} {m : M α} {E : XK} (ha : VA C ta ps m Rs) (hr : ∀ b p, Rr b ≠ .bo p := by intro _ _ h; cases h) : VE C (tCall (spG C.mg C.K C.TB Rs F Rr) [] E ta) ps (M.bind m fun a => M.nox (F a)) Rr := by
  intro σ G W H n Q Φ Ψ e st hm k x
  refine ha σ G W H n _ (fun a n' => M.nox (F a) Φ Ψ n') Ψ e st hm (fun a n1 vs G1 W1 H1 hm1 s1 t1 r1 => ?_) x
  have st1 := st.stp s1 t1
  rw [List.append_nil]
  refine ⟨C.Θ, a, G1, W1, n1, Φ, fun _ _ => False, r1, st1.gw, st1.t, hm1, fun b n2 v G2 W2 H2 hΦ s2 t2 r2 f2 => ?_, fun _ _ _ _ _ _ _ h => h.elim⟩
  exact (k.stp s1) b n2 v G2 W2 H2 hΦ s2 t2 (res_call st1.bw r2 (hr b)) f2
theorem ve_callT {Θ : Addr → Th C.TB} {s : Addr} {Rs : Addr → α → List VP} {F : α → M β} {Rr : β → SL} {m : M α} {E : XK} (hΘ : C.Θ = Θ s) (ha : VA C ta ps m (Rs s)) (hr : ∀ b p, Rr b ≠ .bo p := by intro _ _ h; cases h) : VE C (tCall (spT C.mg C.K C.TB Θ Rs F Rr) [] E ta) ps (M.bind m fun a => M.nox (F a)) Rr := by
  intro σ G W H n Q Φ Ψ e st hm k x
  refine ha σ G W H n _ (fun a n' => M.nox (F a) Φ Ψ n') Ψ e st hm (fun a n1 vs G1 W1 H1 hm1 s1 t1 r1 => ?_) x
  have st1 := st.stp s1 t1
  rw [List.append_nil]
  refine ⟨s, a, G1, W1, n1, Φ, fun _ _ => False, r1, st1.gw, by rw [← hΘ]; exact st1.t, hm1, fun b n2 v G2 W2 H2 hΦ s2 t2 r2 f2 => ?_, fun _ _ _ _ _ _ _ h => h.elim⟩
  exact (k.stp s1) b n2 v G2 W2 H2 hΦ s2 (by rw [hΘ]; exact t2) (res_call st1.bw r2 (hr b)) f2
end
/-! ### the drawing state as a view -/
def thV {TB : List (Addr × Str)} (s : Addr) : Th TB where
  T n W H := View s n W H ∧ (∀ q o, W q = some o → NT o) ∧ LamX.Tabs TB H
  sub h := h.1.sub
  ext {n W H W' H'} h e e2 hn := by
    obtain ⟨⟨b, c, i, bs, cs, k, l⟩, hnt, ht⟩ := h
    have f : ∀ q u, H q = some u → W q = none → W' q = none := fun q u hq hw => by
      cases z : W' q with
      | none => rfl
      | some o =>
        rcases hn q o z with h | ⟨h, _⟩
        · rw [hw] at h; cases h
        · rw [hq] at h; cases h
    have sb : Same W' H' := fun q o hq => by
      rcases hn q o hq with h | ⟨_, h, _⟩
      · exact e _ _ (k.sub _ _ h)
      · exact h
    refine ⟨⟨b, c, i, bs, cs, { k.ext e with sub := sb, gs := f _ _ k.hs k.gs, gb := f _ _ k.hb k.gb, gc := f _ _ k.hc k.gc }, l⟩, fun q o hq => ?_, ht.ext e⟩
    rcases hn q o hq with h | ⟨_, _, h⟩
    · exact hnt _ _ h
    · exact h
  put {n W H p u o} h e nu no := by
    refine ⟨h.1.put e, fun q x hq => ?_, fun t htm => ?_⟩
    · by_cases z : q = p
      · subst z; rw [upd_same] at hq; cases hq; exact no
      · rw [upd_ne z] at hq; exact h.2.1 _ _ hq
    · have hp := h.1.sub _ _ e
      obtain ⟨ps, h1, h2, h3⟩ := h.2.2 t htm
      refine ⟨ps, ?_, h2, fun pos cv hc => ?_⟩
      · rw [upd_ne (fun z => by rw [z, hp] at h1; exact nu.t _ (Option.some.inj h1))]; exact h1
      · obtain ⟨c, e1, e2⟩ := h3 pos cv hc
        refine ⟨c, e1, ?_⟩
        rw [upd_ne (fun z => by rw [z, hp] at e2; exact nu.x _ (Option.some.inj e2))]; exact e2
  tabs h := h.2.2
  tset {n W H H'} h e t := by
    obtain ⟨⟨b, c, i, bs, cs, k, l⟩, hnt, ht⟩ := h
    have f : ∀ q u, H q = some u → (∀ ps, u ≠ .tbl ps) → H' q = some u := fun q u h n => e q u h n
    exact ⟨⟨b, c, i, bs, cs, { k with sub := fun q o hq => e _ _ (k.sub _ _ hq) (hnt _ _ hq).t, hs := f _ _ k.hs (by intro _ h; cases h), hb := f _ _ k.hb (by intro _ h; cases h), hc := f _ _ k.hc (by intro _ h; cases h) }, l⟩, hnt, t⟩
def rSt (s : Addr) : VP := ⟨fun v _ => v = .ref s, fun _ h => h⟩
def M.draw (m : Int) : M Int := fun Q _ n => (n ≤ 1000000 ∧ 0 < m ∧ m < 2 ^ 100) ∧ ∀ d, 0 ≤ d → d < m → Q d (n + 1)
open Classical in
/-- the view with all tables in it -/
theorem big_view {TB : List (Addr × Str)} {s : Addr} {n : Nat} {W H : Hp} (t : (thV (TB := TB) s).T n W H) : ∃ G', View s n G' H ∧ ∀ n' H', View s n' G' H' → (thV (TB := TB) s).T n' W H' := by
  obtain ⟨⟨b, c, i, bs, cs, k, l⟩, hnt, ht⟩ := t
  let G' : Hp := fun q => match W q with
    | some o => some o
    | none => if (∃ ps, H q = some (.tbl ps)) ∨ (∃ r, H q = some (LamX.CodeO q r)) then H q else none
  have gw : ∀ q o, W q = some o → G' q = some o := fun q o h => by simp only [G', h]
  have gh : ∀ q o, G' q = some o → H q = some o := fun q o h => by
    simp only [G'] at h
    cases z : W q with
    | some u => rw [z] at h; cases h; exact k.sub _ _ z
    | none => rw [z] at h; simp only at h; split at h
              · exact h
              · cases h
  have gt : ∀ q, ((∃ ps, H q = some (.tbl ps)) ∨ (∃ r, H q = some (LamX.CodeO q r))) → G' q = H q := fun q h => by
    simp only [G']
    cases z : W q with
    | some u => simp only; exact (k.sub _ _ z).symm
    | none => simp only; rw [if_pos h]
  have gn : ∀ q vs, W q = none → H q = some (.lst vs) → G' q = none := fun q vs h1 h2 => by
    simp only [G', h1]
    rw [if_neg]
    rintro (⟨ps, e⟩ | ⟨r, e⟩)
    · rw [h2] at e; cases e
    · rw [h2] at e; cases e
  refine ⟨G', ⟨b, c, i, bs, cs, { k with sub := gh, gs := gn _ _ k.gs k.hs, gb := gn _ _ k.gb k.hb, gc := gn _ _ k.gc k.hc }, l⟩, fun n' H' v => ?_⟩
  obtain ⟨b', c', i', bs', cs', k', l'⟩ := v
  have wn : ∀ q, G' q = none → W q = none := fun q h => by
    cases z : W q with
    | none => rfl
    | some u => rw [gw _ _ z] at h; cases h
  refine ⟨⟨b', c', i', bs', cs', { k' with sub := fun q o h => k'.sub _ _ (gw _ _ h), gs := wn _ k'.gs, gb := wn _ k'.gb, gc := wn _ k'.gc }, l'⟩, hnt, fun p hp => ?_⟩
  obtain ⟨ps, h1, h2, h3⟩ := ht p hp
  refine ⟨ps, k'.sub _ _ ((gt _ (.inl ⟨_, h1⟩)).trans h1), h2, fun pos cv hc => ?_⟩
  obtain ⟨c, e1, e2⟩ := h3 pos cv hc
  exact ⟨c, e1, k'.sub _ _ ((gt _ (.inr ⟨_, e2⟩)).trans e2)⟩
/-- the drawing def as its callers see it -/
theorem sp_draw {mg : Str → Option Value} {K : PySem.W.Frag} {TB : List (Addr × Str)} {vs : List V} {H : Hp} {Q : VK} {E : XK} (h : spT mg K TB thV (fun s (m : Int × Unit) => [rSt s, rInt m.1]) (fun m => M.draw m.1) (Fz rInt) vs H Q E) : spDraw vs H Q E := by
  obtain ⟨s, m, G, W, n, Φ, Ψ, r, gw, t, ⟨⟨h1, h2, h3⟩, hm⟩, k, x⟩ := h
  cases r with
  | cons a r =>
    cases r with
    | cons b r =>
      cases r
      have a : _ = V.ref s := a
      have b : _ = V.int m.1 := b
      subst a b
      obtain ⟨G', v', back⟩ := big_view t
      exact ⟨s, n, G', m.1, rfl, v', h1, h2, h3, fun d H' d0 d1 v => k d (n + 1) (.int d) G W H' (hm d d0 d1) (Stp.refl gw) (back _ _ v) rfl trivial⟩
end VL

namespace VL
open PySem PySem.Spec PyProof.Rows L2
section
variable {C : Cfg} {ρ α β γ δ : Type} {Rr : ρ → SL} {ps : List SL} {te ta tb : TE} {tt : TT} {t u : TS}
/-! ### displays by their data -/
theorem repL_map {R : β → VP} {G : Hp} : ∀ {xs : List β} {vs : List V}, RepL (xs.map R) vs G → reps R xs vs G
  | [], _, .nil => trivial
  | _ :: _, _, .cons a r => ⟨a, repL_map r⟩
theorem ve_lstL (R : β → VP) (f : α → List β) {ta : TA} {m : M α} {Rs : α → List VP} (ha : VA C ta ps m Rs) (hR : ∀ a, Rs a = (f a).map R := by intro _; rfl) (hl : ∀ a, (f a).length ≤ 1000 := by intro _; exact Nat.le_of_ble_eq_true rfl) :
    VE C (tLst ta) ps (M.bind m fun a => M.pure (f a)) (Ow (cLst R)) :=
  ve_map f (ve_lst (fun a => cLst R (f a)) ha (fun a => by rw [hR, List.length_map]; exact hl a) fun a vs G h => ⟨vs, rfl, repL_map (by rw [← hR]; exact h)⟩) fun _ => rfl
theorem ve_tupL (R : β → VP) (f : α → List β) {ta : TA} {m : M α} {Rs : α → List VP} (ha : VA C ta ps m Rs) (hR : ∀ a, Rs a = (f a).map R := by intro _; rfl) (hl : ∀ a, (f a).length ≤ 1000 := by intro _; exact Nat.le_of_ble_eq_true rfl) :
    VE C (tTup ta) ps (M.bind m fun a => M.pure (f a)) (Fz (rTup R)) :=
  ve_map f (ve_tup (fun a => rTup R (f a)) ha (fun a => by rw [hR, List.length_map]; exact hl a) fun a p vs G hp h => ⟨p, vs, rfl, hp, repL_map (by rw [← hR]; exact h)⟩) fun _ => rfl
theorem ve_tup2 {Ra : α → VP} {Rb : β → VP} {ta : TA} {m : M (α × β × Unit)} (ha : VA C ta ps m (fun q => Ra q.1 :: Rb q.2.1 :: [])) : VE C (tTup ta) ps (M.bind m fun q => M.pure (q.1, q.2.1)) (Fz (rPr Ra Rb)) :=
  ve_map (fun q : α × β × Unit => (q.1, q.2.1)) (ve_tup (fun q : α × β × Unit => rPr Ra Rb (q.1, q.2.1)) ha (fun a => Nat.le_of_ble_eq_true rfl) fun a p vs G hp h => by
    cases h with
    | cons h1 h =>
      cases h with
      | cons h2 h =>
        cases h
        exact ⟨p, _, _, rfl, hp, h1, h2⟩) fun _ => rfl
theorem ve_dat {R : α → VP} [I : IsD R] {m : M α} (h : VE C te ps m (Fz R)) : VE C te ps (M.bind m fun a => M.pure (IsD.d R a)) (Fz rDat) := ve_weakM (IsD.d R) h fun a v G h => I.dq a v G h
theorem ve_none {R : α → VP} {m : M Unit} (h : VE C te ps m (Fz rNon)) : VE C te ps (M.bind m fun _ => M.pure none) (Fz (rOpt R)) := ve_weakM (fun _ => none) h fun _ _ _ h => h
theorem ve_some {R : α → VP} {m : M α} (h : VE C te ps m (Fz R)) : VE C te ps (M.bind m fun a => M.pure (some a)) (Fz (rOpt R)) := ve_weakM some h fun _ _ _ h => h
theorem ve_prT {R : α → VP} {m : M (α × α)} (h : VE C te ps m (Fz (rPr R R))) : VE C te ps (M.bind m fun a => M.pure [a.1, a.2]) (Fz (rTup R)) := ve_weakM (S := rTup R) (fun a => [a.1, a.2]) h fun a v G ⟨p, x, y, e, h1, h2, h3⟩ => ⟨p, _, e, h1, h2, h3, trivial⟩
/-! ### None or a value -/
def NoNone {α : Type} (R : α → VP) : Prop := ∀ a v G, (R a).P v G → v ≠ .non
theorem nn_int : NoNone rInt := fun a v G h e => by rw [show v = .int a from h] at e; cases e
theorem nn_bool : NoNone rBl := fun a v G h e => by rw [show v = .bl a from h] at e; cases e
theorem nn_str : NoNone rStr := fun a v G h e => by rw [show v = .str a from h] at e; cases e
theorem nn_list {R : α → VP} : NoNone (rLst R) := fun a v G ⟨p, _, h, _⟩ e => by rw [h] at e; cases e
theorem nn_tuple {R : α → VP} : NoNone (rTup R) := fun a v G ⟨p, _, h, _⟩ e => by rw [h] at e; cases e
theorem nn_tup2 {R : α → VP} {S : β → VP} : NoNone (rPr R S) := fun a v G ⟨p, _, _, h, _⟩ e => by rw [h] at e; cases e
theorem v2_isN' {R : α → VP} (hn : NoNone R) : V2 C (fun x y H Q => y = .non ∧ Q (.bl (decide (x = .non))) H) (rOpt R) rNon (fun q _ => M.pure q.isNone) (Fz rBl) := by
  intro q _ v u σ G W H n Q Φ Ψ hv hu st hm k x
  exact v2_isN q () v u σ G W H n Q Φ Ψ hv hu st ⟨fun a _ v G h => hn a v G h, hm⟩ k x
theorem v2_notN' {R : α → VP} (hn : NoNone R) : V2 C (fun x y H Q => y = .non ∧ Q (.bl (!decide (x = .non))) H) (rOpt R) rNon (fun q _ => M.pure q.isSome) (Fz rBl) := by
  intro q _ v u σ G W H n Q Φ Ψ hv hu st hm k x
  exact v2_notN q () v u σ G W H n Q Φ Ψ hv hu st ⟨fun a _ v G h => hn a v G h, hm⟩ k x
theorem ve_isN {R : α → VP} {m : M (Option α)} (hn : NoNone R) (h : VE C ta ps m (Fz (rOpt R))) : VE C (tOp (fun x y H Q => y = .non ∧ Q (.bl (decide (x = .non))) H) ta (tC .non)) ps (M.bind m fun q => M.pure q.isNone) (Fz rBl) := ve_op2 h (ve_c rNon () fun _ => rfl) (v2_isN' hn)
theorem ve_notN {R : α → VP} {m : M (Option α)} (hn : NoNone R) (h : VE C ta ps m (Fz (rOpt R))) : VE C (tOp (fun x y H Q => y = .non ∧ Q (.bl (!decide (x = .non))) H) ta (tC .non)) ps (M.bind m fun q => M.pure q.isSome) (Fz rBl) := ve_op2 h (ve_c rNon () fun _ => rfl) (v2_notN' hn)
theorem ve_fst {R : α → VP} {S : β → VP} {m : M (α × β)} (h : VE C ta ps m (Fz (rPr R S))) : VE C (tOp (rIxT C.K) ta (tC (.int 0))) ps (M.bind m fun q => M.pure q.1) (Fz R) := by
  intro σ G W H n Q Φ Ψ e st hm k x
  refine h σ G W H n _ (fun q n' => Φ q.1 n') Ψ e st hm ?_ x
  rintro q n1 v G1 W1 H1 h1 s1 t1 ⟨p, a, b, rfl, h2, h3, h4⟩ _
  have st1 := st.stp s1 t1
  exact ⟨p, _, 0, a, rfl, rfl, SqT.of (st1.gh _ _ h2), rfl, (k.stp s1).hereF st1 h1 h3⟩
theorem ve_snd {R : α → VP} {S : β → VP} {m : M (α × β)} (h : VE C ta ps m (Fz (rPr R S))) : VE C (tOp (rIxT C.K) ta (tC (.int 1))) ps (M.bind m fun q => M.pure q.2) (Fz S) := by
  intro σ G W H n Q Φ Ψ e st hm k x
  refine h σ G W H n _ (fun q n' => Φ q.2 n') Ψ e st hm ?_ x
  rintro q n1 v G1 W1 H1 h1 s1 t1 ⟨p, a, b, rfl, h2, h3, h4⟩ _
  have st1 := st.stp s1 t1
  exact ⟨p, _, 1, b, rfl, rfl, SqT.of (st1.gh _ _ h2), rfl, (k.stp s1).hereF st1 h1 h4⟩
/-! ### lent slots -/
theorem ve_lendO {m : M (List α)} {R : α → VP} {i : Nat} {c : CP} {q : VP} (hi : ps[i]? = some (.ow c)) (hc : ∀ p o G, c.P o G → G p = none → q.P (.ref p) (upd G p o)) (hR : Flat R) (h : VE C te (ps.set i (.fr q)) m (Ow (cLst R))) : VE C te ps (M.nox m) (Ow (cLst R)) := by
  intro σ G W H n Q Φ Ψ e st hm k x
  obtain ⟨v, hσ, p, o, rfl, hw, hg, hb, hP⟩ := e.at_ hi (by simp)
  have back : ∀ {G' W' : Hp}, Stp (upd G p o) W G' W' → Stp G W G W' := fun s => ⟨Same.refl _, s.w, st.gw.trans s.w, fun q x hq => .inl hq⟩
  refine h σ (upd G p o) W H n Q Φ (fun _ _ => False) (e.show hi hσ hw hg (hc p o G hP hg)) (st.show hw hg hb) hm (fun a n' v G' W' H' hΦ s t r f => ?_) xt_no
  obtain ⟨a', o', e1, h1, h2, h3, us, rfl, h4⟩ := r
  have fl : ∀ {xs : List α} {vs : List V}, reps R xs vs G' → reps R xs vs G := by
    intro xs
    induction xs with
    | nil => intro vs h; cases vs with
      | nil => trivial
      | cons _ _ => exact h.elim
    | cons x xs ih => intro vs h; cases vs with
      | nil => exact h.elim
      | cons v vs => exact ⟨hR x v G' G h.1, ih h.2⟩
  refine k a n' v G W' H' hΦ (back s) t ⟨a', _, e1, h1, ?_, h3, us, rfl, fl h4⟩ f
  exact (s.g.free h2 |> (same_upd hg).free)
theorem vt_lend {m : M Bool} {i : Nat} {c : CP} {q : VP} (hi : ps[i]? = some (.ow c)) (hc : ∀ p o G, c.P o G → G p = none → q.P (.ref p) (upd G p o)) (h : VT C tt (ps.set i (.fr q)) m) : VT C tt ps (M.nox m) := by
  intro σ G W H n Q Φ Ψ e st hm k x
  obtain ⟨v, hσ, p, o, rfl, hw, hg, hb, hP⟩ := e.at_ hi (by simp)
  exact h σ (upd G p o) W H n Q Φ (fun _ _ => False) (e.show hi hσ hw hg (hc p o G hP hg)) (st.show hw hg hb) hm (fun a n' G' W' H' hΦ s t => k a n' G W' H' hΦ ⟨Same.refl _, s.w, st.gw.trans s.w, fun q x hq => .inl hq⟩ t) xt_no
/-! ### comprehensions: which slots are wiped -/
theorem hv1 {i : Nat} (h : ps[i]? = some .un) : ∀ k ∈ [i], ps[k]? = some .un := fun k hk => by rw [List.mem_singleton.mp hk]; exact h
theorem hv2 {i j : Nat} (h : ps[i]? = some .un) (h2 : ps[j]? = some .un) : ∀ k ∈ [i, j], ps[k]? = some .un := fun k hk => by
  rcases List.mem_cons.mp hk with rfl | hk
  · exact h
  · exact hv1 h2 k hk
theorem hv3 {i j l : Nat} (h : ps[i]? = some .un) (h2 : ps[j]? = some .un) (h3 : ps[l]? = some .un) : ∀ k ∈ [i, j, l], ps[k]? = some .un := fun k hk => by
  rcases List.mem_cons.mp hk with rfl | hk
  · exact h
  · exact hv2 h2 h3 k hk
/-! ### calls, whose arguments' kinds are told by reduction -/
theorem va_eq {t : TA} {m : M α} {Rs Rs' : α → List VP} (h : VA C t ps m Rs') (hR : ∀ a, Rs' a = Rs a) : VA C t ps m Rs := by
  have : Rs' = Rs := funext hR
  subst this; exact h
theorem ve_callF {Rs Rs' : α → List VP} {F : α → M β} {Rr : β → SL} {m : M α} {E : XK} {t : TA} (ha : VA C t ps m Rs') (hR : ∀ a, Rs' a = Rs a := by intro _; rfl) (hr : ∀ b p, Rr b ≠ .bo p := by intro _ _ h; cases h) : VE C (tCall (spG C.mg C.K C.TB Rs F Rr) [] E t) ps (M.bind m fun a => M.nox (F a)) Rr := ve_call (va_eq ha hR) hr
theorem ve_callFT {Θ : Addr → Th C.TB} {s : Addr} {Rs : Addr → α → List VP} {Rs' : α → List VP} {F : α → M β} {Rr : β → SL} {m : M α} {E : XK} {t : TA} (hΘ : C.Θ = Θ s) (ha : VA C t ps m Rs') (hR : ∀ a, Rs' a = Rs s a := by intro _; rfl) (hr : ∀ b p, Rr b ≠ .bo p := by intro _ _ h; cases h) : VE C (tCall (spT C.mg C.K C.TB Θ Rs F Rr) [] E t) ps (M.bind m fun a => M.nox (F a)) Rr := ve_callT hΘ (va_eq ha hR) hr
/-- the state as an argument: it is no datum -/
theorem va_st (s : Addr) {i : Nat} {Rs : β → List VP} {tr : TA} {mb : M β} (hr : VA C tr ps mb Rs) (hi : ps[i]? = some (.fr (rSt s)) := by rfl) : VA C (tCons (tVar i) tr) ps mb (fun q => rSt s :: Rs q) := by
  intro σ G W H n Q Φ Ψ e st hm k x
  obtain ⟨v, hσ, hv⟩ := e.at_ hi (by simp)
  refine ⟨v, hσ, hr σ G W H n _ Φ Ψ e st hm (fun b n2 vs G2 W2 H2 h2 s2 t2 r2 => k b n2 (v :: vs) G2 W2 H2 h2 s2 t2 (.cons hv r2)) x⟩
/-! ### keywords -/
theorem ve_callK {Rs : α → List VP} {F : α → M β} {Rr : β → SL} {m1 : M γ} {m2 : M δ} {E : XK} {t tk : TA} {R1 : γ → List VP} {R2 : δ → List VP} {gV : List V → List V → List V} (f : γ → δ → α) (ha : VA C t ps m1 R1) (hk : VA C tk ps m2 R2)
    (hg : ∀ a b vs zs G, RepL (R1 a) vs G → RepL (R2 b) zs G → RepL (Rs (f a b)) (gV vs zs) G) (hr : ∀ b p, Rr b ≠ .bo p := by intro _ _ h; cases h) :
    VE C (tCallK (spG C.mg C.K C.TB Rs F Rr) gV E t tk) ps (M.bind m1 fun a => M.bind m2 fun b => M.nox (F (f a b))) Rr := by
  intro σ G W H n Q Φ Ψ e st hm k x
  refine ha σ G W H n _ (fun a n' => M.bind m2 (fun b => M.nox (F (f a b))) Φ Ψ n') Ψ e st hm (fun a n1 vs G1 W1 H1 hm1 s1 t1 r1 => ?_) x
  have st1 := st.stp s1 t1
  refine hk σ G1 W1 H1 n1 _ (fun b n' => M.nox (F (f a b)) Φ Ψ n') Ψ (e.stp s1) st1 hm1 (fun b n2 zs G2 W2 H2 hm2 s2 t2 r2 => ?_) (x.stp s1)
  have st2 := st1.stp s2 t2
  have s12 := s1.trans s2
  refine ⟨C.Θ, f a b, G2, W2, n2, Φ, fun _ _ => False, hg a b vs zs G2 (r1.up s2.g) r2, st2.gw, st2.t, hm2, fun b n3 v G3 W3 H3 hΦ s3 t3 r3 f3 => ?_, fun _ _ _ _ _ _ _ h => h.elim⟩
  exact (k.stp s12) b n3 v G3 W3 H3 hΦ s3 t3 (res_call st2.bw r3 (hr b)) f3
/-! ### join -/
def M.join (a : Str) (ys : List Str) : M Str := M.when ((ys.map (·.length)).sum + ys.length * a.length ≤ 16777216) (Txt.join a ys)
theorem ve_join {to te : TE} {m : M Str} {m2 : M (List Str)} (ho : VE C to ps m (Fz rStr)) (he : VE C te ps m2 (Fz (rLst rStr))) :
    VE C (tM1 (fun x xs H Q => ∃ a p, ∃ ys : List Str, x = .str a ∧ xs = [.ref p] ∧ (SqL C.K H p (ys.map V.str) ∨ SqT C.K H p (ys.map V.str)) ∧ (ys.map (·.length)).sum + ys.length * a.length ≤ 16777216 ∧ Q (.str (Txt.join a ys)) H) to te) ps
      (M.bind m fun a => M.bind m2 fun ys => M.join a ys) (Fz rStr) := by
  intro σ G W H n Q Φ Ψ e st hm k x
  refine ho σ G W H n _ (fun a n' => M.bind m2 (fun ys => M.join a ys) Φ Ψ n') Ψ e st hm (fun a n1 v G1 W1 H1 hm1 s1 t1 r1 _ => ?_) x
  have r1 : v = .str a := r1
  have st1 := st.stp s1 t1
  refine ⟨⟨a, r1⟩, ?_⟩
  refine he σ G1 W1 H1 n1 _ (fun ys n' => M.join a ys Φ Ψ n') Ψ (e.stp s1) st1 hm1 ?_ (x.stp s1)
  rintro ys n2 u G2 W2 H2 hm2 s2 t2 ⟨p, vs, rfl, h1, h2⟩ _
  have st2 := st1.stp s2 t2
  rw [h2.strs] at h1
  exact ⟨a, p, ys, r1, rfl, .inl (SqL.of (st2.gh _ _ h1)), hm2.1, (k.stp (s1.trans s2)).hereF (a := Txt.join a ys) st2 hm2.2 rfl⟩
/-! ### isinstance -/
theorem ve_isi {R : α → VP} {m : M α} (nm : String) (f : α → Bool) (h : VE C te ps m (Fz R)) (hf : ∀ a v G K, (R a).P v G → ∃ t, TyX K G v t ∧ PySem.W.kitOne K t (.type nm) = some (f a)) : VE C (tCB (rIsi C.K) (tCons te (tCons (tC (.ty nm)) tNil))) ps (M.bind m fun a => M.pure (f a)) (Fz rBl) := by
  intro σ G W H n Q Φ Ψ e st hm k x
  refine h σ G W H n _ (fun a n' => Φ (f a) n') Ψ e st hm (fun a n1 v G1 W1 H1 hm1 s1 t1 r1 _ => ?_) x
  have st1 := st.stp s1 t1
  obtain ⟨t, h1, h2⟩ := hf a v H1 C.K ((R a).up st1.gh r1)
  exact ⟨v, .ty nm, t, .type nm, f a, rfl, .ty nm, h1, h2, (k.stp s1).hereF (a := f a) st1 hm1 rfl⟩
def isD_tuple : PyData → Bool | .tuple _ => true | _ => false
def isD_list : PyData → Bool | .list _ => true | _ => false
def isD_dict : PyData → Bool | .dict _ => true | _ => false
def isD_str : PyData → Bool | .str _ => true | _ => false
def isD_bool : PyData → Bool | .bool _ => true | _ => false
def isD_int : PyData → Bool | .int _ => true | .bool _ => true | _ => false
theorem dq_ty {K : PySem.W.Frag} {G : Hp} {v : V} {d : PyData} (h : Dq G v d) : TyX K G v (match d with | .none => .type "NoneType" | .bool _ => .type "bool" | .int _ => .type "int" | .str _ => .type "str" | .list _ => .type "list" | .tuple _ => .type "tuple" | .dict _ => .type "dict") := by
  cases h with
  | non => exact .base .non
  | bl b => exact .base (.bl b)
  | int i => exact .base (.int i)
  | str x => exact .base (.str x)
  | lst h _ => exact .base (.lst h)
  | tup h _ => exact .base (.tup h)
  | dict h _ => exact .base (.dK h)
theorem ve_isiDtuple {m : M PyData} (h : VE C te ps m (Fz rDat)) : VE C (tCB (rIsi C.K) (tCons te (tCons (tC (.ty "tuple")) tNil))) ps (M.bind m fun a => M.pure (isD_tuple a)) (Fz rBl) := ve_isi "tuple" _ h fun a v G K h => ⟨_, dq_ty h, by cases a <;> rfl⟩
theorem ve_isiDlist {m : M PyData} (h : VE C te ps m (Fz rDat)) : VE C (tCB (rIsi C.K) (tCons te (tCons (tC (.ty "list")) tNil))) ps (M.bind m fun a => M.pure (isD_list a)) (Fz rBl) := ve_isi "list" _ h fun a v G K h => ⟨_, dq_ty h, by cases a <;> rfl⟩
theorem ve_isiDdict {m : M PyData} (h : VE C te ps m (Fz rDat)) : VE C (tCB (rIsi C.K) (tCons te (tCons (tC (.ty "dict")) tNil))) ps (M.bind m fun a => M.pure (isD_dict a)) (Fz rBl) := ve_isi "dict" _ h fun a v G K h => ⟨_, dq_ty h, by cases a <;> rfl⟩
theorem ve_isiDstr {m : M PyData} (h : VE C te ps m (Fz rDat)) : VE C (tCB (rIsi C.K) (tCons te (tCons (tC (.ty "str")) tNil))) ps (M.bind m fun a => M.pure (isD_str a)) (Fz rBl) := ve_isi "str" _ h fun a v G K h => ⟨_, dq_ty h, by cases a <;> rfl⟩
theorem ve_isiDbool {m : M PyData} (h : VE C te ps m (Fz rDat)) : VE C (tCB (rIsi C.K) (tCons te (tCons (tC (.ty "bool")) tNil))) ps (M.bind m fun a => M.pure (isD_bool a)) (Fz rBl) := ve_isi "bool" _ h fun a v G K h => ⟨_, dq_ty h, by cases a <;> rfl⟩
theorem ve_isiDint {m : M PyData} (h : VE C te ps m (Fz rDat)) : VE C (tCB (rIsi C.K) (tCons te (tCons (tC (.ty "int")) tNil))) ps (M.bind m fun a => M.pure (isD_int a)) (Fz rBl) := ve_isi "int" _ h fun a v G K h => ⟨_, dq_ty h, by cases a <;> rfl⟩
theorem ve_isi_list_list {R : α → VP} {m : M (List α)} (h : VE C te ps m (Fz (rLst R))) : VE C (tCB (rIsi C.K) (tCons te (tCons (tC (.ty "list")) tNil))) ps (M.bind m fun _ => M.pure true) (Fz rBl) := ve_isi "list" (fun _ => true) h fun a v G K ⟨p, vs, e, h1, _⟩ => ⟨.type "list", by subst e; exact .base (.lst h1), rfl⟩
theorem ve_isi_list_tuple {R : α → VP} {m : M (List α)} (h : VE C te ps m (Fz (rLst R))) : VE C (tCB (rIsi C.K) (tCons te (tCons (tC (.ty "tuple")) tNil))) ps (M.bind m fun _ => M.pure false) (Fz rBl) := ve_isi "tuple" (fun _ => false) h fun a v G K ⟨p, vs, e, h1, _⟩ => ⟨.type "list", by subst e; exact .base (.lst h1), rfl⟩
theorem ve_isi_tuple_tuple {R : α → VP} {m : M (List α)} (h : VE C te ps m (Fz (rTup R))) : VE C (tCB (rIsi C.K) (tCons te (tCons (tC (.ty "tuple")) tNil))) ps (M.bind m fun _ => M.pure true) (Fz rBl) := ve_isi "tuple" (fun _ => true) h fun a v G K ⟨p, vs, e, h1, _⟩ => ⟨.type "tuple", by subst e; exact .base (.tup h1), rfl⟩
theorem ve_isi_bool_bool {m : M Bool} (h : VE C te ps m (Fz rBl)) : VE C (tCB (rIsi C.K) (tCons te (tCons (tC (.ty "bool")) tNil))) ps (M.bind m fun _ => M.pure true) (Fz rBl) := ve_isi "bool" (fun _ => true) h fun a v G K e => ⟨.type "bool", by rw [show v = .bl a from e]; exact .base (.bl a), rfl⟩
theorem ve_isi_int_int {m : M Int} (h : VE C te ps m (Fz rInt)) : VE C (tCB (rIsi C.K) (tCons te (tCons (tC (.ty "int")) tNil))) ps (M.bind m fun _ => M.pure true) (Fz rBl) := ve_isi "int" (fun _ => true) h fun a v G K e => ⟨.type "int", by rw [show v = .int a from e]; exact .base (.int a), rfl⟩
theorem ve_isi_int_bool {m : M Int} (h : VE C te ps m (Fz rInt)) : VE C (tCB (rIsi C.K) (tCons te (tCons (tC (.ty "bool")) tNil))) ps (M.bind m fun _ => M.pure false) (Fz rBl) := ve_isi "bool" (fun _ => false) h fun a v G K e => ⟨.type "int", by rw [show v = .int a from e]; exact .base (.int a), rfl⟩
theorem vn_sortedST : Vn C (fun vs H Q => ∃ (a : Addr) (xs : List Str), vs = [V.ref a] ∧ SqT C.K H a (xs.map V.str) ∧ xs.length < 64 ∧ ∀ (ys : List Str) (p : Addr), ys.Perm xs → sortedS ys = true → H p = none → Q (.ref p) (upd H p (.lst (ys.map V.str)))) (fun q : List Str × Unit => [rTup rStr q.1]) (fun q => M.sortS q.1) (Ow (cLst rStr)) := by
  rintro q vs σ G W H n Q Φ Ψ (_ | ⟨⟨p, us, rfl, h1, h2⟩, _ | _⟩) st hm k x
  rw [h2.strs] at h1
  exact ⟨p, q.1, rfl, SqT.of (st.gh _ _ h1), hm.1, fun ns r hp hs hr => k.newO (a := ns) st (hm.2 ns hp hs) hr ⟨_, rfl, reps.of_strs ns⟩⟩
end
end VL

/-! sorted(xs, key=lambda a: (len(a), a)) over tuples of texts -/
namespace VL
open PySem PySem.Spec PyProof.Rows L2 LamX
def lamPar (a : Str) (ap : Pos) : Arguments := { posonlyargs := [], args := [{ arg := a, annotation := none, pos := ap }], vararg := none, kwonlyargs := [], kw_defaults := [], kwarg := none, defaults := [] }
def lamScope (a : Str) : Scope := { kind := .function, names := [(a, .local), ("len", .globalImplicit)], isGenerator := false, isCoroutine := false, more := [] }
def lamBody (a : Str) (j : Nat) (p1 p2 p3 p4 p5 : Pos) : Expr := .Tuple [.Call (.Name "len" p1) [.Name a p2] [] p3, .Name a p4] j p5
theorem lam_key {prog : Program} {w : World} {A : Around} {s : Shared} {mg mb : Str → Option Value} {f c' b : Addr} {qual a : Str} {pm ctv v : Value} {j : Nat} {ap p1 p2 p3 p4 p5 : Pos} {its : Array Value} {d : PyData} {E : Value → Shared → Prop}
    (ho : s.heap.get? f = some (PySem.W.kla_obj "<lambda>" qual (lamPar a ap) (lamBody a j p1 p2 p3 p4 p5) (lamScope a) [] pm c' ctv)) (hcd : s.heap.CodeRec (.ref c') qual)
    (hroom : A.depth < recursionLimit) (lim : s.heap.NoLimit) (hg : s.heap.Ns mainGlobals mg) (hmg : mg "len" = none) (hb : s.heap.Ns builtinsNs mb) (hmb : mb "len" = some (.builtin "len"))
    (hbind : bindArgs (PySem.W.kla_fn "<lambda>" qual (lamPar a ap) (lamBody a j p1 p2 p3 p4 p5) (lamScope a) [] pm (.ref c') ctv) ⟨[.ref b], []⟩ = pure [(a, .ref b)])
    (hv : IsTup s.heap b its) (hsz : its.size ≤ sizeLine) (hr : Reads s.heap (.ref b) d []) (hna : a ≠ "len") (had : (a == ("__debug__" : Str)) = false) :
    wpAny (model prog w) A (call (.ref f) [.ref b]) (PySem.W.KeyPure (.tuple [.int its.size, d]) s) E s := by
  have rc : codeAny (model prog w) A (.call (.ref f) ⟨[.ref b], []⟩) (fun r s' => ∃ u, r = .ok (.ret u) ∧ PySem.W.KeyPure (.tuple [.int its.size, d]) s u s') s := by
    refine PySem.W.kla_callFunE hroom ho rfl rfl rfl rfl hcd ?_
    rw [hbind]
    have hloc : (lamScope a).names.lookup a = some .local := by simp [lamScope, List.lookup]
    refine wpAny_pure (wpAny_newFunctionEnv (by intro x hx; simp [lamScope] at hx; rcases hx with rfl | rfl <;> simp) (by intro x hx; simp at hx; subst hx; exact hloc) (fun h₁ hns hsb => ⟨lim.fresh _ hsb, ?_⟩) rfl)
    have kp : ∀ b o, s.heap.get? b = some o → h₁.get? b = some o := fun b o e => hsb.extBut b o (Nat.ne_of_lt (Heap.lt_size e)) (Heap.get?_push_of_some _ e)
    refine PySem.W.kla_codeExpr ?_
    have var : ∀ {Q : Value → Shared → Prop} {E : Value → Shared → Prop} {p : Pos}, ∀ s' : Shared, s'.heap.Ns s.heap.objs.size (fun x => [(a, Value.ref b)].reverse.lookup x) → Q (.ref b) s' →
        wpAny (model prog w) (A.deeper (PySem.W.envX qual (lamScope a) s.heap.objs.size f (.ref c') [])) (eval (.Name a p) (PySem.W.envX qual (lamScope a) s.heap.objs.size f (.ref c') [])) Q E s' := fun s' hn hq =>
      wpAny_Name (wpAny_loadName_local rfl hloc hn (by simp [List.lookup]) hq) had
    refine wpAny_Tuple_spliced (Calls.spliced_cons ?_)
    refine wpAny_Call_Name_kw (Calls.Name_function_global rfl (by show (lamScope a).names.lookup _ = _; simp [lamScope, List.lookup, beq_eq_false_iff_ne.mpr hna.symm]) (Calls.loadGlobal_builtin (hg.keeps kp) hmg (hb.keeps kp) hmb ?_) (by decide))
    refine callWith_builtin1 (var _ hns ?_)
    have hn := line63
    refine len_tuple (hv.keeps kp) (by omega) ?_
    refine Calls.spliced_cons (var _ hns (Calls.spliced_nil ?_))
    refine ⟨by simp [sizeLine_eq], _, rfl, ⟨_, _, rfl, fun b o e => Heap.get?_push_of_some _ (kp b o e), ?_⟩⟩
    exact .tuple (Heap.get?_push_size _ rfl) rfl rfl (.cons (.int _ _) (.cons (Reads.keeps (fun b o e => Heap.get?_push_of_some _ (kp b o e)) hr) .nil))
  refine wpAny_call (codeAny_mono rc fun r s2 hq => ?_)
  obtain ⟨u, rfl, h⟩ := hq
  exact h
end VL

namespace VL
open PySem PySem.Spec PyProof.Rows L2 LamX
/-- the key of the names' order -/
def keyLK (z : List Str) : PyData := .tuple [.int z.length, .tuple (z.map .str)]
def leLK : List Str → List Str → Bool := PySem.W.dataLe false keyLK
def kSortLam (K : PySem.W.Frag) (T : List (Addr × Str)) (Q : VK) (v : V) (H1 : Hp) : Prop := Tabs T H1 ∧ ∀ H2, ExtN H1 H2 → Tabs T H2 →
  ∃ (p : Addr) (vs : List V) (zs : List (List Str)), v = .ref p ∧ SqL K H2 p vs ∧ DpAll K H2 vs (zs.map fun z => .tuple (z.map .str)) ∧ ∀ a, H2 a = none → Q (.ref a) (upd H2 a (.lst (((zs.zip vs).mergeSort fun x y => leLK x.1 y.1).map (·.2))))
def tSortLam (K : PySem.W.Frag) (T : List (Addr × Str)) (te : TE) : TE := fun σ H Q => te σ H fun v H1 => kSortLam K T Q v H1
theorem alike_strs : ∀ xs ys : List Str, PySem.W.alikeAll (xs.map .str) (ys.map .str) = true
  | [], [] => by simp [PySem.W.alikeAll]
  | [], _ :: _ => by simp [PySem.W.alikeAll]
  | _ :: _, [] => by simp [PySem.W.alikeAll]
  | x :: xs, y :: ys => by simp [PySem.W.alikeAll, PySem.W.alike, alike_strs xs ys]
theorem depth_strs : ∀ xs : List Str, PyData.depthAll (xs.map .str) = 0
  | [] => by simp [PyData.depthAll]
  | x :: xs => by simp [PyData.depthAll, PyData.depth, depth_strs xs]
theorem reads_strs {h : Heap} : ∀ {us : List Value} {xs : List Str} {as : List Addr}, ReadsAll h us (xs.map .str) as → as = []
  | _, [], _, r => by cases r; rfl
  | _, x :: xs, _, r => by
    cases r with
    | cons a b => cases a; rw [reads_strs b]; rfl
/-- an item, as the sort sees it -/
def ItLK (h : Heap) (u : Value) (x : List Str × V) : Prop := RelV x.2 u ∧ ∃ b its, u = .ref b ∧ IsTup h b its ∧ its.size = x.1.length ∧ its.size ≤ sizeLine ∧ Reads h u (.tuple (x.1.map .str)) []
section
variable {X : Cx} {pins : List (Addr × Obj)} {σ : L2.St} {H : Hp} {s : Shared}
theorem items_LK (I : Inv X pins σ H s) : ∀ {vs : List V} {us : List Value} {zs : List (List Str)}, Vals vs us → DpAll X.K H vs (zs.map fun z => .tuple (z.map .str)) → PySem.W.EachIs (ItLK s.heap) us (zs.zip vs)
  | [], _, [], r, _ => by cases r; exact .nil
  | [], _, _ :: _, _, d => nomatch d
  | _ :: _, _, [], _, d => nomatch d
  | v :: vs, _, z :: zs, r, d => by
    cases r with
    | cons r1 r2 =>
      cases d with
      | cons d1 d2 =>
        refine .cons ⟨r1, ?_⟩ (items_LK I r2 d2)
        cases d1 with
        | tup h1 h2 =>
          rename_i a xs
          cases r1
          obtain ⟨its, r', pl, hz⟩ := I.tuple h1
          obtain ⟨as, ra⟩ := Dp.readsAll I _ _ _ h2 r'
          obtain rfl := reads_strs ra
          have hl : its.length = z.length := by
            have e1 := r'.length
            have e2 : xs.length = z.length := by
              have : ∀ {vs : List V} {z : List Str}, DpAll X.K H vs (z.map .str) → vs.length = z.length := fun {vs} {z} => by
                induction vs generalizing z with
                | nil => intro q; cases z with
                  | nil => rfl
                  | cons _ _ => nomatch q
                | cons _ _ ih => intro q; cases z with
                  | nil => nomatch q
                  | cons _ _ => cases q with
                    | cons _ q => simp [ih q]
              exact this h2
            omega
          obtain ⟨o, e1, e2, n, e3⟩ := pl
          refine ⟨a, its.toArray, rfl, ⟨o, e1, e2, n, e3⟩, by simpa using hl, by have := r'.length; simp; omega, .tuple e1 e2 e3 (by simpa using ra)⟩
theorem items_vals {h : Heap} : ∀ {us : List Value} {xs : List (List Str × V)}, PySem.W.EachIs (ItLK h) us xs → Vals (xs.map (·.2)) us
  | _, _, .nil => .nil
  | _, _, .cons a b => .cons a.1 (items_vals b)
end
section
variable {X : Cx} {pins : List (Addr × Obj)} {σ : L2.St} {H : Hp} {s : Shared}
theorem pe_sortLam {e : Expr} {te : TE} {T : List (Addr × Str)} {c P : Addr} {k j : Nat} {a : Str} {p p1 p2 p3 p4 p5 ap lpos kpos pos : Pos} (he : PE X e te) (hg : Gl X "sorted") (hm : X.mg "sorted" = none) (hml : X.mg "len" = none) (TB : TabB X.base X.mg c P) (hcode : X.env.code = .ref c) (hr : Room k X.A)
    (hmT : (P, X.env.qual ++ "<lambda>") ∈ T) (hu : ∀ p ∈ T, p.1 = P → p.2 = X.env.qual ++ "<lambda>")
    (hbind : ∀ (q : Str) (pm cv ctv v : Value), bindArgs (PySem.W.kla_fn "<lambda>" q (lamPar a ap) (lamBody a j p1 p2 p3 p4 p5) (lamScope a) [] pm cv ctv) ⟨[v], []⟩ = pure [(a, v)] := by intros; rfl) (hna : a ≠ "len" := by decide) (had : (a == ("__debug__" : Str)) = false := by decide) (hs : starEach [e] X.env = (false, eval e X.env) :: starEach [] X.env := by rfl) (hpl : (backTo pos (starEach [e] X.env)).any (·.1) = false := by rfl) :
    PE X (.Call (.Name "sorted" p) [e] [{ arg := some "key", value := .Lambda (lamPar a ap) (lamBody a j p1 p2 p3 p4 p5) (lamScope a) lpos, pos := kpos }] pos) (tSortLam X.K T te) := by
  refine ⟨fun pins s σ H Q I h => ?_⟩
  refine wpAny_Call_Name_kw (ld_blt I hg hm (by rfl) ?_)
  have h' : tCons te tNil σ H (fun vs H1 => match vs with | [v] => kSortLam X.K T Q v H1 | _ => False) := h
  refine PyProof.Rows.callWith_kw (thn ((pa_cons he pa_nil hs).run pos pins s σ H _ I h') fun us s1 ⟨vs1, H1, I1, r1, q1⟩ => ?_) (by rw [hs]; rfl) hpl rfl rfl
  have hv : ∃ v, vs1 = [v] := by
    cases vs1 with
    | nil => exact q1.elim
    | cons v r =>
      cases r with
      | nil => exact ⟨v, rfl⟩
      | cons _ _ => exact q1.elim
  obtain ⟨v, rfl⟩ := hv
  obtain ⟨u, rfl, ru⟩ := vals1 r1
  have q1 : kSortLam X.K T Q v H1 := q1
  obtain ⟨hT1, q1⟩ := q1
  show wpAny _ _ (evalAll [(do let v ← eval (.Lambda (lamPar a ap) (lamBody a j p1 p2 p3 p4 p5) (lamScope a) lpos) X.env; standAt pos; pure v)]) _ _ s1
  have hfree : ∀ y ∈ (lamScope a).names, y.2 = .free → ∃ c, X.env.cells.lookup y.1 = some c := fun y hy e => by
    simp [lamScope] at hy
    rcases hy with rfl | rfl <;> cases e
  refine wpAny_evalAll_cons (wpAny_bind (lam_make2 I1 TB hcode hmT hu hT1 rfl hfree fun f c' pm ctv H2 s2 I2 eN hT2 hf hfn hfr hco => wpAny_bind (wpAny_standAt (wpAny_pure (wpAny_evalAll_nil ?_)))))
  obtain ⟨pl, vs, zs, rfl, hq, hd, hQ⟩ := q1 H2 eN hT2
  cases ru
  have hcl : cloFrom X.env.cells (lamScope a).names [] = [] := by simp [lamScope, cloFrom]
  rw [hcl] at hf
  obtain ⟨its, rv, hl, hz⟩ := I2.list hq
  have ei := items_LK I2 rv hd
  obtain ⟨⟨oc, ws, t, hoc, hdc, hvc⟩, _, _⟩ := I2.hok c' _ hco
  obtain ⟨mb, hb1, hb2⟩ := I2.mod.blt
  have hun := hr.units
  have hdp := hr.depth
  refine PySem.W.sorted_key_data (b := false) (R := ItLK s2.heap) (fun x : List Str × V => keyLK x.1) hl.isList ei (PySem.W.AllAlike.of fun x y => by simp [keyLK, PySem.W.alike, PySem.W.alikeAll, alike_strs]) (PySem.W.Sortable.tuples fun _ => ⟨_, _, rfl⟩)
    (by rw [List.length_zip]; omega) (fun x _ => by
      have hd : (keyLK x.1).depth = 2 := by simp [keyLK, PyData.depth, PyData.depthAll, depth_strs]
      omega) (ksk_s1 _ _) (fun _ => ksk_l1 _ _) (fun _ => ksk_t1 _ _) (fun u x hR _ h tk kp => ?_) fun out cc h' tk kp _ hD hlen eo => ?_
  · obtain ⟨_, b, its, rfl, ht, hsz, hsz2, hrd⟩ := hR
    have := lam_key (v := .none) (prog := X.prog) (w := X.w) (A := X.A.in1.in1) (s := { s2 with heap := h, toks := tk }) (mg := X.mg) (mb := mb) (E := fun _ _ => False) (kp _ _ hf) ⟨c', oc, ws, t, rfl, kp _ _ hoc, hdc, hvc⟩ (show X.A.depth < _ from hdp) (I2.nolimit.keeps kp) ((I2.mod.glob.keeps I2.bk).keeps kp) hml ((hb1.keeps I2.bk).keeps kp) (hb2 _ (by decide)) (hbind _ _ _ _ _) (ht.keeps kp) hsz2 (Reads.keeps kp hrd) hna had
    rw [hsz] at this
    exact this
  · have rv2 := items_vals eo
    have hf2 : H2 (s2.heap.objs.size + 1) = none := I2.hok.fresh (Nat.le_succ _)
    refine ⟨.ref _, upd H2 (s2.heap.objs.size + 1) (.lst (((zs.zip vs).mergeSort fun x y => leLK x.1 y.1).map (·.2))), I2.laid (t' := tk) kp (Nat.le_succ _) ⟨?_, out, cc, rv2, hD⟩, rfl, hQ _ hf2⟩
    rw [List.length_map, List.length_mergeSort, List.length_zip]
    omega
end
/-! ### typed -/
def sortLK (xs : List (List Str)) : List (List Str) := xs.mergeSort leLK
theorem reps_zip {α : Type} {R : α → VP} {G : Hp} : ∀ {xs : List α} {vs : List V}, reps R xs vs G → ∀ p ∈ xs.zip vs, (R p.1).P p.2 G
  | [], [], _, p, h => by simp at h
  | x :: xs, v :: vs, h, p, hp => by
    rw [List.zip_cons_cons, List.mem_cons] at hp
    rcases hp with rfl | hp
    · exact h.1
    · exact reps_zip h.2 p hp
theorem reps_of_zip {α : Type} {R : α → VP} {G : Hp} : ∀ {l : List (α × V)}, (∀ p ∈ l, (R p.1).P p.2 G) → reps R (l.map (·.1)) (l.map (·.2)) G
  | [], _ => trivial
  | p :: l, h => ⟨h p (List.mem_cons_self ..), reps_of_zip fun q hq => h q (List.mem_cons_of_mem _ hq)⟩
theorem fst_zip {α β : Type} : ∀ {xs : List α} {ys : List β}, ys.length = xs.length → (xs.zip ys).map (·.1) = xs
  | [], _, _ => by simp
  | x :: xs, [], h => by simp at h
  | x :: xs, y :: ys, h => by simp; exact fst_zip (by simpa using h)
theorem reps_sort {α : Type} {R : α → VP} {G : Hp} {xs : List α} {vs : List V} (le : α → α → Bool) (h : reps R xs vs G) : reps R (xs.mergeSort le) (((xs.zip vs).mergeSort fun x y => le x.1 y.1).map (·.2)) G := by
  have e : xs.mergeSort le = ((xs.zip vs).mergeSort fun x y => le x.1 y.1).map (·.1) := by
    rw [List.map_mergeSort (r := fun x y : α × V => le x.1 y.1) (s := le) (fun _ _ _ _ => rfl), fst_zip h.len]
  rw [e]
  exact reps_of_zip fun p hp => reps_zip h p ((List.mergeSort_perm _ _).mem_iff.mp hp)
theorem dpAll_rTup {K : PySem.W.Frag} {G : Hp} : ∀ {xs : List (List Str)} {vs : List V}, reps (rTup rStr) xs vs G → DpAll K G vs (xs.map fun z => .tuple (z.map .str))
  | [], [], _ => .nil
  | x :: xs, v :: vs, h => by
    obtain ⟨p, us, rfl, h1, h2⟩ := h.1
    refine .cons (.tup (SqT.of h1) ?_) (dpAll_rTup h.2)
    have : ∀ {xs : List Str} {vs : List V}, reps rStr xs vs G → DpAll K G vs (xs.map .str) := fun {xs vs} => by
      induction xs generalizing vs with
      | nil => intro h; rw [reps.nil h]; exact .nil
      | cons x xs ih => intro h; cases vs with
        | nil => exact h.elim
        | cons v vs => obtain ⟨rfl, h⟩ := h; exact .cons (.str x) (ih h)
    exact this h2
theorem dpAll_up {K : PySem.W.Frag} {G G' : Hp} (e : Same G G') : ∀ {vs : List V} {ds : List PyData}, DpAll K G vs ds → DpAll K G' vs ds
  | [], _, .nil => .nil
  | _ :: _, _, .cons a b => .cons (dp_up e a) (dpAll_up e b)
section
variable {C : Cfg} {ps : List SL} {te : TE} {m : M (List (List Str))}
theorem ve_sortLam (he : VE C te ps m (Fz (rLst (rTup rStr)))) : VE C (tSortLam C.K C.TB te) ps (M.bind m fun xs => M.pure (sortLK xs)) (Ow (cLst (rTup rStr))) := by
  intro σ G W H n Q Φ Ψ e st hm k x
  refine he σ G W H n _ (fun xs n' => M.pure (sortLK xs) Φ Ψ n') Ψ e st hm (fun xs n1 v G1 W1 H1 hm1 s1 t1 r1 _ => ?_) x
  obtain ⟨p, vs, rfl, h1, h2⟩ := r1
  refine ⟨C.Θ.tabs t1, fun H2 eN hT2 => ?_⟩
  have t2 := C.Θ.tset t1 eN hT2
  have st1 : Stt C n1 G1 W1 H2 := st.stp s1 t2
  refine ⟨p, vs, xs, rfl, SqL.of (st1.gh _ _ h1), dpAll_up st1.gh (dpAll_rTup h2), fun a ha => ?_⟩
  exact (k.stp s1).newO (a := sortLK xs) st1 hm1 ha ⟨_, rfl, reps_sort leLK h2⟩
end
end VL

namespace VL
open PySem PySem.Spec PyProof.Rows L2 PySem.Calls
/-! ### machine: sorted of a tuple of texts -/
section
variable {prog : Program} {w : World} {A : Around} {E : Value → Shared → Prop} {s : Shared}
theorem collect_tup {l : Addr} {vs : List Value} {Q : List Value → Shared → Prop} (hl : IsTup s.heap l vs.toArray)
    (h : Q vs { s with heap := (s.heap.push (seqObj "list" #[] 0)).update s.heap.objs.size (Obj.mapSeq (· ++ vs.toArray)) }) (hsz : vs.length ≤ sizeLine) :
    wpAny (model prog w) A (collect (.ref l)) Q E s := by
  obtain ⟨o, ho, hc, n, hd⟩ := id hl
  unfold collect
  refine wpAny_bind (wpAny_runValue (codeAny_builtin entry_proto_collect' ?_))
  show wpAny _ _ (do again (.builtin "list.__iadd__" ⟨[← newList [], .ref l], []⟩)) _ _ s
  refine wpAny_bind (wpAny_newList (wpAny_pure ⟨Code.quiet_builtin _ (by decide +kernel), codeAny_builtin entry_list_iadd' ?_⟩))
  show wpAny _ _ (Builtin.List.listExtendWith (.ref s.heap.objs.size) (.ref l) (.ref s.heap.objs.size)) _ _ { s with heap := s.heap.push (seqObj "list" #[] 0) }
  unfold Builtin.List.listExtendWith
  have ho' : (s.heap.push (seqObj "list" #[] 0)).get? l = some o := Heap.get?_push_of_some _ ho
  refine wpAny_bind (wpAny_typeOf (T := "tuple") ⟨o, ho', hc⟩ ?_)
  rw [if_pos (by rw [show (Value.type "tuple" == Value.type "tuple") = true from rfl]; simp)]
  refine wpAny_bind (listItems_at ho' hd ?_)
  refine wpAny_bind (listItems_at (xs := #[]) (n := 0) (Heap.get?_push_size _ rfl) rfl ?_)
  rw [if_neg (by simp)]
  refine wpAny_bind (listUpdate_at (xs := #[]) (n := 0) (Heap.get?_push_size _ rfl) rfl ?_ (Nat.zero_le _) (by show (#[] ++ vs.toArray).size ≤ sizeLine + 1; simp only [Array.size_append, List.size_toArray, List.length_nil]; omega))
  refine wpAny_pure ?_
  show wpAny (model prog w) A (do
      let o ← load s.heap.objs.size
      match o.data with
      | .seq xs _ => pure xs.toList
      | _ => unsupported "internal:collect") Q E { s with heap := (s.heap.push (seqObj "list" #[] 0)).update s.heap.objs.size (Obj.mapSeq (· ++ vs.toArray)) }
  refine wpAny_bind (wpAny_load (get?_update_seq (Heap.get?_push_size _ rfl) _) ?_)
  show wpAny _ _ (pure ((#[] : Array Value) ++ vs.toArray).toList) Q E _
  rw [show ((#[] : Array Value) ++ vs.toArray).toList = vs by simp]
  exact wpAny_pure h
theorem sorted_strsT {l : Addr} {vs : List Value} {ss : List Str} {Q : Value → Shared → Prop} (hl : IsTup s.heap l vs.toArray) (hS : StrsAre vs ss) (h64 : vs.length < 64)
    (h : ∀ (out : Array Value) (ss' : List Str), StrsAre out.toList ss' → ss'.Perm ss → sortedS ss' = true → Q (.ref (s.heap.objs.size + 1)) { s with heap := sortedAll s.heap vs out }) :
    wpAny (model prog w) A (call (.builtin "sorted") [.ref l]) Q E s := by
  refine Calls.call_function_entry kind_sorted plain_sorted entry_sorted (args_sorted1 _) ?_
  unfold Builtin.«sorted»
  refine wpAny_bind (m := checkCount "sorted" 1 1 _) (wpAny_pure ?_)
  refine wpAny_bind (collect_tup hl ?_ (by rw [sizeLine_eq]; omega))
  refine wpAny_bind (wpAny_newList ?_ (by rw [sizeLine_eq]; omega))
  have hsz : ((s.heap.push (seqObj "list" #[] 0)).update s.heap.objs.size (Obj.mapSeq (· ++ vs.toArray))).objs.size = s.heap.objs.size + 1 := by
    rw [Heap.size_update, size_push']
  have hoL : (((s.heap.push (seqObj "list" #[] 0)).update s.heap.objs.size (Obj.mapSeq (· ++ vs.toArray))).push (seqObj "list" vs.toArray 0)).get? (s.heap.objs.size + 1) = some (seqObj "list" vs.toArray 0) := by
    rw [← hsz]; exact Heap.get?_push_size _ rfl
  show wpAny _ _ _ _ _ { s with heap := ((s.heap.push (seqObj "list" #[] 0)).update s.heap.objs.size (Obj.mapSeq (· ++ vs.toArray))).push (seqObj "list" vs.toArray 0) }
  rw [hsz]
  refine wpAny_bind (wpAny_holding (wpAny_call_entry slot_list_sort ⟨_, hoL, rfl⟩ entry_list_sort (list_sort_treeK strKind_oneLt hoL hS.keysOf (fun v₁ v₂ rest e => keyKind_strs (by rw [← e]; exact hS)) h64 fun st' a1 a2 => ⟨_, rfl, ?_⟩) (args_list_sort _)))
  obtain ⟨ss', h1, h2, h3⟩ := sorted_out_str hS a1 a2
  exact wpAny_pure ⟨_, rfl, h _ ss' h1 h2 h3⟩
/-! ### machine: t[::-1] of a tuple -/
theorem sliceApplied_rev {sl : Addr} {vl vu vk : Value} {n : Nat} {Q : Int × Int × Nat → Shared → Prop} (hs : s.heap.IsSliceOf sl vl vu vk) (pl : IsPart vl none) (pu : IsPart vu none) (pk : IsPart vk (some (-1)))
    (h : Q ((n : Int) - 1, -1, n) s) : wpAny (model prog w) A (Builtin.Slice.sliceApplied (.ref sl) (pure (n : Int))) Q E s := by
  obtain ⟨os, hos, hcs, hds⟩ := id hs
  unfold Builtin.Slice.sliceApplied Builtin.Slice.sliceFields
  refine wpAny_bind (wpAny_bind (wpAny_field hos hds (x := vl) rfl (wpAny_bind (wpAny_field hos hds (x := vu) rfl (wpAny_bind (wpAny_field hos hds (x := vk) rfl (wpAny_pure ?_)))))))
  refine wpAny_bind (HT.slicePart_ pk ?_)
  show wpAny _ _ (if ((-1 : Int) == 0) = true then _ else _) _ _ s
  rw [if_neg (by decide)]
  refine wpAny_bind (HT.slicePart_ pl (wpAny_bind (HT.slicePart_ pu (wpAny_bind (wpAny_pure ?_)))))
  have e : Builtin.Slice.sliceAdjust none none (-1) (n : Int) = ((n : Int) - 1, -1) := by
    unfold Builtin.Slice.sliceAdjust
    simp
  have e2 : Builtin.Slice.slicePlaces ((n : Int) - 1) (-1) (-1) = n := by
    unfold Builtin.Slice.slicePlaces
    simp
    try omega
  show wpAny _ _ (match Builtin.Slice.sliceAdjust none none (-1) (n : Int) with | (lo, hi) => pure (lo, (-1 : Int), Builtin.Slice.slicePlaces lo hi (-1))) _ _ s
  rw [e]
  show wpAny _ _ (pure (((n : Int) - 1), (-1 : Int), Builtin.Slice.slicePlaces ((n : Int) - 1) (-1) (-1))) _ _ s
  rw [e2]
  exact wpAny_pure h
theorem pick_rev (xs : Array Value) : ((List.range xs.size).filterMap fun (m : Nat) => xs[((xs.size : Int) - 1 + (m : Int) * (-1)).toNat]?).toArray = xs.toList.reverse.toArray := by
  have e : (fun (m : Nat) => xs[((xs.size : Int) - 1 + (m : Int) * (-1)).toNat]?) = fun m => xs[((fun k => xs.size - 1 - k) m)]? := by
    funext m
    have : ((xs.size : Int) - 1 + (m : Int) * (-1)).toNat = xs.size - 1 - m := by omega
    rw [this]
  have h := PySem.W.krv_range xs.size
  have h2 : (List.range xs.size).filterMap (fun m => xs[((fun k => xs.size - 1 - k) m)]?) = ((List.range xs.size).map fun k => xs.size - 1 - k).filterMap (xs[·]?) := by
    rw [List.filterMap_map]; rfl
  rw [e, h2, h, List.filterMap_reverse, PySem.W.krv_all]
theorem getItem_tuple_rev {t sl : Addr} {items : Array Value} {vl vu vk : Value} {Q : Value → Shared → Prop} (ht : IsTup s.heap t items) (hs : s.heap.IsSliceOf sl vl vu vk) (pl : IsPart vl none) (pu : IsPart vu none) (pk : IsPart vk (some (-1)))
    (h : Q (.ref s.heap.objs.size) { s with heap := s.heap.push { cls := .type "tuple", data := .seq items.toList.reverse.toArray } })
    (hsz : items.size ≤ sizeLine) : wpAny (model prog w) A (getItem (.ref t) (.ref sl)) Q E s := by
  have htake : sizeOk (.seq items.toList.reverse.toArray) := by
    show items.toList.reverse.toArray.size ≤ sizeLine
    rw [List.size_toArray, List.length_reverse, Array.length_toList]
    omega
  obtain ⟨os, hos, hcs, hds⟩ := id hs
  have hTs : s.TypeIs (.ref sl) "slice" := ⟨os, hos, hcs⟩
  unfold getItem
  try with_reducible refine wpAny_holding ?_
  first | refine wpAny_bind (wpAny_pure ?_) | skip
  refine wpAny_bind (wpAny_sequenceKey ht.typeIs (by decide) ?_)
  refine wpAny_bind (wpAny_callSpecial?_slot (name := Str.ofString "__getitem__") ht.typeIs PyProof.Rows.slot_tuple_getitem
    (wpAny_call_entry PyProof.Rows.slot_tuple_getitem ht.typeIs entry_tuple_getitem ?_ (args_tuple_getitem _ _)))
  show wpAny _ _ (Builtin.Tuple.tupleItemsOf (.ref t) >>= _) _ _ s
  refine wpAny_bind (PyProof.Rows.tupleItemsOf_ ht ?_)
  refine wpAny_bind (wpAny_typeOf hTs ?_)
  rw [if_pos (by decide)]
  refine wpAny_bind (sliceApplied_rev hs pl pu pk ?_)
  have hno : ¬ ((((items.size : Int) - 1) == 0 && (-1 : Int) == 1 && items.size == items.size) = true) := by
    intro q
    rw [Bool.and_eq_true, Bool.and_eq_true] at q
    exact absurd (eq_of_beq q.1.2) (by decide)
  show wpAny _ _ (if (((items.size : Int) - 1) == 0 && (-1 : Int) == 1 && items.size == items.size) = true then _ else _) _ _ s
  rw [if_neg hno, pick_rev]
  first
    | exact wpAny_bind (m := Builtin.Tuple.tupleExact _) (wpAny_newObj_type (wpAny_pure ⟨_, rfl, wpAny_pure h⟩) htake)
    | exact wpAny_bind (m := Builtin.Tuple.tupleExact _) (wpAny_newObj_type (wpAny_bind (wpAny_pure (wpAny_pure ⟨_, rfl, wpAny_pure h⟩))) htake)
    | exact wpAny_bind (wpAny_bind (m := Builtin.Tuple.tupleExact _) (wpAny_newObj_type (wpAny_pure (wpAny_pure ⟨_, rfl, wpAny_pure h⟩)) htake))
    | exact wpAny_bind (wpAny_bind (m := Builtin.Tuple.tupleExact _) (wpAny_newObj_type (wpAny_pure ⟨_, rfl, wpAny_pure h⟩) htake))
end
section
variable {X : Cx}
theorem cr_sortedST : CallR X (.builtin "sorted") (fun vs H Q => ∃ (a : Addr) (xs : List Str), vs = [V.ref a] ∧ SqT X.K H a (xs.map V.str) ∧ xs.length < 64 ∧ ∀ (ys : List Str) (p : Addr), ys.Perm xs → sortedS ys = true → H p = none → Q (.ref p) (upd H p (.lst (ys.map V.str)))) := by
  intro pins s σ H vs us Q I r h
  obtain ⟨a, xs, rfl, hs, h64, q⟩ := h
  obtain ⟨its, rv, hl, _⟩ := I.tuple hs
  rw [Vals.ref1 r]
  have hlen0 := rv.length
  rw [List.length_map] at hlen0
  refine sorted_strsT hl rv.strs (by rw [← hlen0]; exact h64) fun out ys h1 h2 h3 => ?_
  obtain ⟨ep, he'⟩ := PyProof.Rows.sortedAll_at s.heap its out
  have hlen : (ys.map V.str).length ≤ sizeLine := by rw [List.length_map, h2.length_eq]; exact small64 h64
  exact ⟨.ref _, upd H (s.heap.objs.size + 1) (.lst (ys.map V.str)), I.laid (t' := s.toks) (fun _ _ => PyProof.Rows.sortedAll_old) (Nat.le_succ _) ⟨hlen, out.toList, ep, vals_of_strs h1, he'⟩, rfl, q ys _ h2 h3 (I.hok.fresh (Nat.le_succ _))⟩
def tRevT (K : PySem.W.Frag) (te : TE) : TE := fun σ H Q => te σ H fun x H1 => ∃ a xs, x = .ref a ∧ SqT K H1 a xs ∧ ∀ p, H1 p = none → Q (.ref p) (upd H1 p (.tup xs.reverse))
theorem pe_revT {e : Expr} {te : TE} {k : Nat} {p1 p2 p3 pos : Pos} (he : PE X e te) : PE X (.Subscript e (.Slice none none (some (.UnaryOp .USub (.Constant (.int 1) k p1) p2)) p3) pos) (tRevT X.K te) := by
  refine ⟨fun pins s σ H Q I h => ?_⟩
  refine Subscript_ (thn (he.run pins s σ H _ I h) fun v s1 ⟨x, H1, I1, r1, q1⟩ => ?_)
  obtain ⟨a, xs, ex, hx, q⟩ := q1
  subst ex
  cases r1
  have hst : PO X (some (.UnaryOp .USub (.Constant (.int 1) k p1) p2)) (tPart (tUn (rU fun i => .int (-i)) (tC (.int 1)))) := po_some (pe_un un_neg pe_int)
  refine wpAny_Slice (thn (po_none.run pins s1 σ H1 (fun o H2 => o = none ∧ H2 = H1) I1 ⟨rfl, rfl⟩) fun vl s2 ⟨l, H2, I2, pl, el, e2⟩ => ?_)
  subst el e2
  refine thn (po_none.run pins s2 σ H2 (fun o H3 => o = none ∧ H3 = H2) I2 ⟨rfl, rfl⟩) fun vu s3 ⟨u, H3, I3, pu, eu, e3⟩ => ?_
  subst eu e3
  refine thn (hst.run pins s3 σ H3 (fun o H4 => o = some (-1) ∧ H4 = H3) I3 ⟨1, rfl, -1, rfl, rfl, rfl⟩) fun vs s4 ⟨o, H4, I4, ps, eo, e4⟩ => ?_
  subst eo e4
  have I5 : Inv X pins σ H4 { s4 with heap := s4.heap.push { cls := .type "slice", data := .fields #[vl, vu, vs] } } := I4.kept (t' := s4.toks) fun b ob q => Heap.get?_push_of_some _ q
  obtain ⟨its, r, ht, hz⟩ := I5.tuple hx
  have hlen := r.length
  show wpAny (model X.prog X.w) X.A (subscriptTail e (.Slice none none (some (.UnaryOp .USub (.Constant (.int 1) k p1) p2)) p3) (.ref a) (.ref s4.heap.objs.size)) (EP X pins σ Q) X.xe { s4 with heap := s4.heap.push { cls := .type "slice", data := .fields #[vl, vu, vs] } }
  refine tail_any (ops := [.ref a, .ref s4.heap.objs.size]) ht.typeIs (PyProof.Rows.slot_tuple_getitem.lookup) ?_ (by with_unfolding_all rfl)
  refine getItem_tuple_rev ht (Heap.IsSliceOf.new _ vl vu vs) pl pu ps ?_ (by rw [List.size_toArray]; omega)
  refine ⟨.ref _, _, I5.laid (t' := s4.toks) (o := .tup xs.reverse) (fun b ob q => Heap.get?_push_of_some _ q) (Nat.le_refl _) ?_, rfl, q _ (I5.hok.fresh (Nat.le_refl _))⟩
  have e : its.toArray.toList.reverse = its.reverse := by simp
  rw [e]
  exact ⟨by rw [List.length_reverse]; exact hz, its.reverse, r.reverse, IsTup.new _ _⟩
/-! ### machine: x in a tuple of data -/
def rInDT (K : PySem.W.Frag) : R2 := fun x y H Q => ∃ d ds, Dp K H x d ∧ Dp K H y (.tuple ds) ∧ SeqAt.shaped d = true ∧ SeqAt.shaped (.tuple ds) = true ∧ Q (.bl (ds.any fun z => PyData.eqv z d)) H
theorem room_in_shapedT {A : Around} {d : PyData} {ds : List PyData} (sd : SeqAt.shaped d = true) (hu : A.units + 65 < cLine) : A.units + 1 + min (PyData.depthAll ds) d.depth < cLine := room_in_shaped sd hu
theorem op_inDT (hu : X.A.units + 65 < cLine) : OpR X (compareOp .In) (rInDT X.K) := by
  intro pins s σ H x y v u Q I rx ry h
  obtain ⟨d, ds, hd, he, sd, se, q⟩ := h
  obtain ⟨as, r1⟩ := Dp.reads I d x v hd rx
  obtain ⟨bs, r2⟩ := Dp.reads I (.tuple ds) y u he ry
  exact SeqAt.in_tuple_reads r2 r1 (SeqAt.canLay_of_shaped se) (SeqAt.canLay_of_shaped sd) (room_in_shaped sd hu) ⟨.bl _, H, I, rfl, q⟩
/-! ### machine: sorted of data -/
def rSortD {β : Type} (K : PySem.W.Frag) (enc : β → PyData) : List V → Hp → VK → Prop := fun us H Q =>
  ∃ (p : Addr) (vs : List V) (zs : List β), us = [.ref p] ∧ SqL K H p vs ∧ DpAll K H vs (zs.map enc) ∧ (∀ x y, PySem.W.alike (enc x) (enc y) = true) ∧ (∀ x, ∃ y r, enc x = .tuple (y :: r)) ∧ (∀ x, (enc x).depth ≤ 60) ∧
    ∀ a, H a = none → Q (.ref a) (upd H a (.lst (((zs.zip vs).mergeSort fun x y => PySem.W.dataLe false enc x.1 y.1).map (·.2))))
theorem items_D {β : Type} {enc : β → PyData} {pins : List (Addr × Obj)} {σ : L2.St} {H : Hp} {s : Shared} (I : Inv X pins σ H s) : ∀ {vs : List V} {us : List Value} {zs : List β}, Vals vs us → DpAll X.K H vs (zs.map enc) → PySem.W.EachIs (fun u (x : β × V) => RelV x.2 u) us (zs.zip vs) ∧ PySem.W.EachIs (fun u (x : β × V) => ∃ as, Reads s.heap u (enc x.1) as) us (zs.zip vs) ∧ zs.length = vs.length
  | [], _, [], r, _ => by cases r; exact ⟨.nil, .nil, rfl⟩
  | [], _, _ :: _, _, d => nomatch d
  | _ :: _, _, [], _, d => nomatch d
  | v :: vs, _, z :: zs, r, d => by
    cases r with
    | cons r1 r2 =>
      cases d with
      | cons d1 d2 =>
        obtain ⟨a, b, c⟩ := items_D I r2 d2
        obtain ⟨as, ra⟩ := Dp.reads I _ _ _ d1 r1
        exact ⟨.cons r1 a, .cons ⟨as, ra⟩ b, by simp [c]⟩
theorem vals_D {β : Type} : ∀ {us : List Value} {xs : List (β × V)}, PySem.W.EachIs (fun u (x : β × V) => RelV x.2 u) us xs → Vals (xs.map (·.2)) us
  | _, _, .nil => .nil
  | _, _, .cons a b => .cons a (vals_D b)
theorem cr_sortD {β : Type} {enc : β → PyData} (hr : X.A.units + 100 < cLine) : CallR X (.builtin "sorted") (rSortD X.K enc) := by
  intro pins s σ H vs us Q I r h
  obtain ⟨p, ws, zs, rfl, hs, hd, hal, ht, hdp, q⟩ := h
  obtain ⟨its, rv, hl, hz⟩ := I.list hs
  rw [Vals.ref1 r]
  obtain ⟨e, er, hlen⟩ := items_D I rv hd
  have hlz := rv.length
  refine PySem.W.sorted_data (enc := fun x : β × V => enc x.1) hl.isList e er (PySem.W.AllAlike.of fun x y => hal _ _) (PySem.W.Sortable.tuples fun x => ht _) (by rw [List.length_zip]; omega) (fun x _ => by have := hdp x.1; omega) fun out ho eo => ?_
  obtain ⟨ep, he'⟩ := PyProof.Rows.sortedAll_at s.heap its out.toArray
  refine ⟨.ref _, upd H (s.heap.objs.size + 1) (.lst (((zs.zip ws).mergeSort fun x y => PySem.W.dataLe false enc x.1 y.1).map (·.2))), I.laid (t' := s.toks) (fun _ _ => PyProof.Rows.sortedAll_old) (Nat.le_succ _) ⟨?_, out, ep, vals_D eo, by simpa using he'⟩, rfl, q _ (I.hok.fresh (Nat.le_succ _))⟩
  rw [List.length_map, List.length_mergeSort, List.length_zip]
  omega
end
end VL

namespace VL
open PySem PySem.Spec PyProof.Rows L2 LamX
section
variable {C : Cfg} {ρ α β γ δ : Type} {Rr : ρ → SL} {ps : List SL} {te ta tb : TE} {tt : TT} {t u : TS}
theorem ve_revT {R : α → VP} {m : M (List α)} (h : VE C te ps m (Fz (rTup R))) : VE C (tRevT C.K te) ps (M.bind m fun xs => M.pure xs.reverse) (Fz (rTup R)) := by
  intro σ G W H n Q Φ Ψ e st hm k x
  refine h σ G W H n _ (fun a n' => Φ a.reverse n') Ψ e st hm ?_ x
  rintro xs n1 v G1 W1 H1 h1 s1 t1 ⟨p, vs, rfl, h2, h3⟩ _
  have st1 := st.stp s1 t1
  exact ⟨p, vs, rfl, SqT.of (st1.gh _ _ h2), fun r hr => (k.stp s1).newF (a := xs.reverse) st1 h1 hr ⟨r, _, rfl, upd_same, h3.rev.up (same_upd (st1.gfree hr))⟩⟩
/-- x in a tuple of data -/
def M.inDT (d e : PyData) : M Bool := fun Q _ n => ∃ ds, e = .tuple ds ∧ (SeqAt.shaped d = true ∧ SeqAt.shaped e = true) ∧ Q (ds.any fun z => PyData.eqv z d) n
theorem v2_inDT {R : α → VP} [I : IsD R] : V2 C (rInDT C.K) R rDat (fun a e => M.inDT (IsD.d R a) e) (Fz rBl) := by
  rintro a e v u σ G W H n Q Φ Ψ hv hu st ⟨ds, rfl, ⟨h1, h2⟩, hm⟩ k x
  exact ⟨_, ds, dp_up st.gh (dq_sh (I.dq a v G hv) h1), dp_up st.gh (dq_sh hu h2), h1, h2, k.hereF (a := ds.any fun z => PyData.eqv z (IsD.d R a)) st hm rfl⟩
/-- sorted of data -/
def M.sortD {α : Type} (d : α → PyData) (xs : List α) : M (List α) := fun Φ _ n => ((∀ x y, PySem.W.alike (d x) (d y) = true) ∧ (∀ x, ∃ y r, d x = .tuple (y :: r)) ∧ (∀ x, (d x).depth ≤ 60) ∧ PyData.canLayAll0 (xs.map d) = true) ∧ Φ (xs.mergeSort (PySem.W.dataLe false d)) n
theorem dqAll_dp {K : PySem.W.Frag} {G : Hp} : ∀ {vs : List V} {ds : List PyData}, DqAll G vs ds → PyData.canLayAll0 ds = true → DpAll K G vs ds
  | [], [], _, _ => .nil
  | [], _ :: _, h, _ => nomatch h
  | _ :: _, [], h, _ => nomatch h
  | v :: vs, d :: ds, h, c => by
    cases h with
    | cons a b => exact .cons (dq_dp a (Bool.and_eq_true_iff.mp c).1) (dqAll_dp b (Bool.and_eq_true_iff.mp c).2)
theorem vn_sortD {R : α → VP} [I : IsD R] : Vn C (rSortD C.K (IsD.d R)) (fun q : List α × Unit => [rLst R q.1]) (fun q => M.sortD (IsD.d R) q.1) (Ow (cLst R)) := by
  rintro q vs σ G W H n Q Φ Ψ (_ | ⟨⟨p, us, rfl, h1, h2⟩, _ | _⟩) st ⟨⟨c1, c2, c3, c4⟩, hm⟩ k x
  exact ⟨p, us, q.1, rfl, SqL.of (st.gh _ _ h1), dpAll_up st.gh (dqAll_dp h2.dq c4), c1, c2, c3, fun a ha => k.newO (a := q.1.mergeSort (PySem.W.dataLe false (IsD.d R))) st hm ha ⟨_, rfl, reps_sort (PySem.W.dataLe false (IsD.d R)) h2⟩⟩
/-- lists, tuples as lists, tuples of data -/
theorem reps_dat {R : α → VP} [I : IsD R] {G : Hp} : ∀ {xs : List α} {vs : List V}, reps R xs vs G → reps rDat (xs.map (IsD.d R)) vs G
  | [], [], _ => trivial
  | _ :: _, _ :: _, h => ⟨I.dq _ _ _ h.1, reps_dat h.2⟩
theorem ve_datL {R : α → VP} [I : IsD R] {m : M (List α)} (h : VE C te ps m (Fz (rLst R))) : VE C te ps (M.bind m fun a => M.pure (a.map (IsD.d R))) (Fz (rLst rDat)) := ve_weakM (S := rLst rDat) (fun a => a.map (IsD.d R)) h fun a v G ⟨p, vs, e, h1, h2⟩ => ⟨p, vs, e, h1, reps_dat h2⟩
theorem ve_datT {R : α → VP} [I : IsD R] {m : M (List α)} (h : VE C te ps m (Fz (rTup R))) : VE C te ps (M.bind m fun a => M.pure (a.map (IsD.d R))) (Fz (rTup rDat)) := ve_weakM (S := rTup rDat) (fun a => a.map (IsD.d R)) h fun a v G ⟨p, vs, e, h1, h2⟩ => ⟨p, vs, e, h1, reps_dat h2⟩
theorem dqAll_reps {G : Hp} : ∀ {vs : List V} {ds : List PyData}, DqAll G vs ds → reps rDat ds vs G
  | [], [], _ => trivial
  | [], _ :: _, h => nomatch h
  | _ :: _, [], h => nomatch h
  | _ :: _, _ :: _, h => by
    cases h with
    | cons a b => exact ⟨a, dqAll_reps b⟩
/-- list(x) of a datum -/
def M.listD (d : PyData) : M (List PyData) := fun Φ _ n => ∃ ds, (d = .tuple ds ∨ d = .list ds) ∧ Φ ds n
theorem vn_listD : Vn C (fun xs H Q => ∃ p ys, xs = [.ref p] ∧ (SqL C.K H p ys ∨ SqT C.K H p ys) ∧ ∀ l, H l = none → Q (.ref l) (upd H l (.lst ys))) (fun q : PyData × Unit => [rDat q.1]) (fun q => M.listD q.1) (Ow (cLst rDat)) := by
  rintro ⟨d, z⟩ vs σ G W H n Q Φ Ψ (_ | ⟨hd, _ | _⟩) st ⟨ds, hds, hm⟩ k x
  have hd : Dq G _ d := hd
  rcases hds with hds | hds
  · have hds : d = .tuple ds := hds
    subst hds
    cases hd with
    | tup h1 h2 => exact ⟨_, _, rfl, .inr (SqT.of (st.gh _ _ h1)), fun r hr => k.newO (a := ds) st hm hr ⟨_, rfl, dqAll_reps h2⟩⟩
  · have hds : d = .list ds := hds
    subst hds
    cases hd with
    | lst h1 h2 => exact ⟨_, _, rfl, .inl (SqL.of (st.gh _ _ h1)), fun r hr => k.newO (a := ds) st hm hr ⟨_, rfl, dqAll_reps h2⟩⟩
/-- join of a tuple -/
theorem ve_joinT {to te : TE} {m : M Str} {m2 : M (List Str)} (ho : VE C to ps m (Fz rStr)) (he : VE C te ps m2 (Fz (rTup rStr))) :
    VE C (tM1 (fun x xs H Q => ∃ a p, ∃ ys : List Str, x = .str a ∧ xs = [.ref p] ∧ (SqL C.K H p (ys.map V.str) ∨ SqT C.K H p (ys.map V.str)) ∧ (ys.map (·.length)).sum + ys.length * a.length ≤ 16777216 ∧ Q (.str (Txt.join a ys)) H) to te) ps
      (M.bind m fun a => M.bind m2 fun ys => M.join a ys) (Fz rStr) := by
  intro σ G W H n Q Φ Ψ e st hm k x
  refine ho σ G W H n _ (fun a n' => M.bind m2 (fun ys => M.join a ys) Φ Ψ n') Ψ e st hm (fun a n1 v G1 W1 H1 hm1 s1 t1 r1 _ => ?_) x
  have r1 : v = .str a := r1
  have st1 := st.stp s1 t1
  refine ⟨⟨a, r1⟩, ?_⟩
  refine he σ G1 W1 H1 n1 _ (fun ys n' => M.join a ys Φ Ψ n') Ψ (e.stp s1) st1 hm1 ?_ (x.stp s1)
  rintro ys n2 u G2 W2 H2 hm2 s2 t2 ⟨p, vs, rfl, h1, h2⟩ _
  have st2 := st1.stp s2 t2
  rw [h2.strs] at h1
  exact ⟨a, p, ys, r1, rfl, .inr (SqT.of (st2.gh _ _ h1)), hm2.1, (k.stp (s1.trans s2)).hereF (a := Txt.join a ys) st2 hm2.2 rfl⟩
/-- {k: v} -/
theorem ve_disp1 {tk tv : TE} {mk : M Str} {mv : M PyData} (hk : VE C tk ps mk (Fz rStr)) (hv : VE C tv ps mv (Fz rDat)) :
    VE C (tDisp [(tk, tv)]) ps (M.bind mk fun a => M.bind mv fun d => M.pure (PyData.dict [(.str a, d)])) (Fz rDat) := by
  intro σ G W H n Q Φ Ψ e st hm k x p hp
  have s0 : Stp G W G (upd W p (.dK [])) := Stp.newO st hp
  have t0 : C.Θ.T n (upd W p (.dK [])) (upd H p (.dK [])) := st.newT hp
  have st0 := st.stp s0 t0
  refine hk σ _ _ _ n _ (fun a n' => M.bind mv (fun d => M.pure (PyData.dict [(.str a, d)])) Φ Ψ n') Ψ (e.stp s0) st0 hm (fun a n1 v G1 W1 H1 hm1 s1 t1 r1 _ => ?_) (x.stp s0)
  have st1 := st0.stp s1 t1
  have s01 := s0.trans s1
  refine hv σ _ _ _ n1 _ (fun d n' => Φ (PyData.dict [(.str a, d)]) n') Ψ (e.stp s01) st1 hm1 (fun d n2 u G2 W2 H2 hm2 s2 t2 r2 _ => ?_) (x.stp s01)
  have st2 := st1.stp s2 t2
  have s12 := s1.trans s2
  have hW2 : W2 p = some (.dK []) := s12.w _ _ upd_same
  have hWp : W p = none := st.wfree hp
  have hG2 : G2 p = none := by
    cases z : G2 p with
    | none => rfl
    | some o =>
      rcases s12.ng _ _ z with h | h
      · rw [st.gfree hp] at h; cases h
      · rw [upd_same] at h; cases h
  have hB : C.B p = none := st.bw.free hWp
  have st3 : Stt C n2 G2 (upd W2 p (.dK [(.inr a, u)])) (upd H2 p (.dK [(.inr a, u)])) := st2.put hW2 hG2 hB
  have st4 := st3.show (p := p) (o := .dK [(.inr a, u)]) upd_same hG2 hB
  have r1 : v = .str a := r1
  subst r1
  refine ⟨st2.wh _ _ hW2, [(.inr a, u)], rfl, by simp, ?_⟩
  refine k (PyData.dict [(.str a, d)]) n2 (.ref p) (upd G2 p (.dK [(.inr a, u)])) (upd W2 p (.dK [(.inr a, u)])) _ hm2 ⟨?_, ?_, ?_, ?_⟩ st4.t ?_ trivial
  · exact (s0.g.trans s12.g).trans (same_upd hG2)
  · exact (s0.trans s12).w.unseen hWp
  · exact same_two st2.gw
  · intro q o hq
    by_cases z : q = p
    · subst z; exact .inr hWp
    · rw [upd_ne z] at hq
      exact (s0.trans s12).ng q o hq
  · exact Dq.dict (ds := [(a, d)]) upd_same (.cons (dq_up (same_upd hG2) r2) .nil)
end
/-! ### calls by keywords: the places, told by numbers -/
def gP {α : Type} (a b : Nat) (perm : List Nat) (us ws : List α) : List α := match us.length == a && ws.length == b with
  | true => perm.filterMap fun i => (us ++ ws)[i]?
  | false => []
theorem vals_get {vs : List V} {us : List Value} (r : Vals vs us) (i : Nat) : (vs[i]? = none ∧ us[i]? = none) ∨ ∃ v u, vs[i]? = some v ∧ us[i]? = some u ∧ RelV v u := by
  induction r generalizing i with
  | nil => simp
  | cons a _ ih =>
    cases i with
    | zero => exact .inr ⟨_, _, rfl, rfl, a⟩
    | succ i => simpa using ih i
theorem vals_app {vs zs : List V} {us ws : List Value} (r : Vals vs us) (q : Vals zs ws) : Vals (vs ++ zs) (us ++ ws) := by
  induction r with
  | nil => exact q
  | cons a _ ih => exact .cons a ih
theorem gP_rel {a b : Nat} {perm : List Nat} {vs zs : List V} {us ws : List Value} (r : Vals vs us) (q : Vals zs ws) : Vals (gP a b perm vs zs) (gP a b perm us ws) := by
  unfold gP
  rw [r.length, q.length]
  split
  · induction perm with
    | nil => exact .nil
    | cons i p ih =>
      rw [List.filterMap_cons, List.filterMap_cons]
      rcases vals_get (vals_app r q) i with ⟨h1, h2⟩ | ⟨v, u, h1, h2, h3⟩
      · rw [h1, h2]; exact ih
      · rw [h1, h2]; exact .cons h3 ih
  · exact .nil
theorem kb_P {K : PySem.W.Frag} {x qual : Str} {st : Stmt} {f : Addr} {fd : FuncData} {ps ks : List Str} (a b : Nat) (perm : List Nat) (F : Fun K x qual st f fd) (hp : ps ≠ [])
    (h : ∀ (kV doc pm : Value) (an : Option Addr) (cdv ct : Value) (us ws : List Value), us.length = a → ws.length = b → bindArgs (PySem.W.fnOf x qual (defArgs st) (defBody st) (defScope st) .none kV doc pm an cdv ct) ⟨us, ks.zip ws⟩ = pure (ps.zip (gP a b perm us ws))) :
    KBinds K fd ps ks (gP a b perm) (gP a b perm) := by
  obtain ⟨oc, od, kV, doc, pm, an, cdv, ct, osl, rfl, lk, hcd⟩ := F.ex
  refine ⟨fun s us ws _ hl => ?_, fun r rz => gP_rel r rz⟩
  by_cases e : (us.length == a && ws.length == b) = true
  · have e2 := Bool.and_eq_true_iff.mp e
    exact .of_eq (h kV doc pm an cdv ct us ws (eq_of_beq e2.1) (eq_of_beq e2.2))
  · have e3 : (us.length == a && ws.length == b) = false := by simpa using e
    unfold gP at hl
    rw [e3] at hl
    exact absurd (List.eq_nil_of_length_eq_zero hl.symm) hp
/-! ### a def whose code object's address is known -/
structure FunC (K : PySem.W.Frag) (x qual : Str) (st : Stmt) (f : Addr) (fd : FuncData) (c : Addr) : Prop where
  ex : ∃ (oc : Value) (od : Option Addr) (kV doc pm : Value) (an : Option Addr) (ct : Value) (osl : Array (Option Value)),
    fd = PySem.W.fnOf x qual (defArgs st) (defBody st) (defScope st) .none kV doc pm an (.ref c) ct ∧ K.lookup f = some ⟨oc, od, .func fd, osl⟩ ∧ PySem.W.codeIn K (.ref c) qual = true
  kp : PySem.W.keepIn K (.ref f) = true
theorem FunC.ok {P : Program} {w : World} {K : PySem.W.Frag} {mg : Str → Option Value} {base : Heap} {x qual : Str} {st : Stmt} {f c : Addr} {fd : FuncData} {N ps : List Str} {k : Nat} {sp : Sp} (F : FunC K x qual st f fd c) (S : FnScope N ps (defScope st)) (len : ∀ vs H Q E, sp vs H Q E → vs.length = ps.length)
    (hbody : ∀ (A : Around) (outer : List Env) (s : Shared) (H : Hp) (vs : List V) (Q : VK) (E : XK), Room k (A.deeper (envOfC qual (defScope st) s.heap.objs.size f (.ref c))) → sp vs H Q E →
      ∃ t, PSs (cxOf CX0 P w K mg base N qual (defScope st) f (.ref c) A outer s H E).nox (defBody st) t ∧ t { nx := fun _ H' => Q .non H', rt := Q } (start N vs) H) : FnOk P w K mg base CX0 (k + 1) f fd ps sp := by
  obtain ⟨oc, od, kV, doc, pm, an, ct, osl, rfl, lk, hcd⟩ := F.ex
  refine fn_of lk hcd S len fun A outer s H vs Q E hr hsp => ?_
  obtain ⟨t, h, q⟩ := hbody A outer s H vs Q E hr hsp
  exact ⟨t, h.nox, q⟩
theorem FunC.toFun {K : PySem.W.Frag} {x qual : Str} {st : Stmt} {f c : Addr} {fd : FuncData} (F : FunC K x qual st f fd c) : Fun K x qual st f fd := by
  obtain ⟨oc, od, kV, doc, pm, an, ct, osl, e, lk, hcd⟩ := F.ex
  exact ⟨⟨oc, od, kV, doc, pm, an, .ref c, ct, osl, e, lk, hcd⟩, F.kp⟩
end VL

namespace VL
open PySem PySem.Spec PyProof.Rows L2 LamX
theorem ix_tupF {X : Cx} {K : PySem.W.Frag} (hk : X.K = K) : IxR X (rIxT K) := by subst hk; exact ix_tup
theorem op_inDK {X : Cx} {K : PySem.W.Frag} (hk : X.K = K) (hu : X.A.units + 65 < cLine) : OpR X (compareOp .In) (rInD K) := by subst hk; exact op_inD hu
theorem op_inDTK {X : Cx} {K : PySem.W.Frag} (hk : X.K = K) (hu : X.A.units + 65 < cLine) : OpR X (compareOp .In) (rInDT K) := by subst hk; exact op_inDT hu
theorem hu65 {A : Around} {k : Nat} (hr : Room k A) : A.units + 65 < cLine := by have := hr.un; omega
abbrev rLenSq (K : PySem.W.Frag) : List V → Hp → VK → Prop := fun xs H Q => ∃ p ys, xs = [.ref p] ∧ (SqL K H p ys ∨ SqT K H p ys) ∧ Q (.int ys.length) H
abbrev rListOf (K : PySem.W.Frag) : List V → Hp → VK → Prop := fun xs H Q => ∃ p ys, xs = [.ref p] ∧ (SqL K H p ys ∨ SqT K H p ys) ∧ ∀ l, H l = none → Q (.ref l) (upd H l (.lst ys))
abbrev rTupOf (K : PySem.W.Frag) : List V → Hp → VK → Prop := fun xs H Q => ∃ p ys, xs = [.ref p] ∧ ((SqL K H p ys ∧ ∀ l, H l = none → Q (.ref l) (upd H l (.tup ys))) ∨ (SqT K H p ys ∧ Q (.ref p) H))
theorem lam_u {P : Addr} {q : Str} : ∀ p ∈ [(P, q)], p.1 = P → p.2 = q := fun p hp _ => by rw [List.mem_singleton.mp hp]
/-! ### tests of pure parts -/
section
variable {C : Cfg} {α β : Type} {ps : List SL} {te ta tb : TE} {tt tu : TT} {m : M Bool} {y : Bool}
theorem ve_andP (h : VE C ta ps m (Fz rBl)) (h2 : VE C tb ps (M.pure y) (Fz rBl)) : VE C (tAndV ta tb) ps (M.bind m fun b => M.pure (b && y)) (Fz rBl) := by
  intro σ G W H n Q Φ Ψ e st hm k x
  refine ve_and h h2 σ G W H n Q Φ Ψ e st ?_ k x
  have : (M.bind m fun b => M.ite b (M.pure y) (M.pure false)) = (M.bind m fun b => M.pure (b && y)) := by
    congr 1; funext b; cases b <;> rfl
  rw [this]; exact hm
theorem ve_orP (h : VE C ta ps m (Fz rBl)) (h2 : VE C tb ps (M.pure y) (Fz rBl)) : VE C (tOrV ta tb) ps (M.bind m fun b => M.pure (b || y)) (Fz rBl) := by
  intro σ G W H n Q Φ Ψ e st hm k x
  refine ve_or h h2 σ G W H n Q Φ Ψ e st ?_ k x
  have : (M.bind m fun b => M.ite b (M.pure true) (M.pure y)) = (M.bind m fun b => M.pure (b || y)) := by
    congr 1; funext b; cases b <;> rfl
  rw [this]; exact hm
theorem vt_andP (h : VT C tt ps m) (h2 : VT C tu ps (M.pure y)) : VT C (tAnd tt tu) ps (M.bind m fun b => M.pure (b && y)) := by
  intro σ G W H n Q Φ Ψ e st hm k x
  refine vt_and h h2 σ G W H n Q Φ Ψ e st ?_ k x
  have : (M.bind m fun b => M.ite b (M.pure y) (M.pure false)) = (M.bind m fun b => M.pure (b && y)) := by
    congr 1; funext b; cases b <;> rfl
  rw [this]; exact hm
theorem vt_orP (h : VT C tt ps m) (h2 : VT C tu ps (M.pure y)) : VT C (tOr tt tu) ps (M.bind m fun b => M.pure (b || y)) := by
  intro σ G W H n Q Φ Ψ e st hm k x
  refine vt_or h h2 σ G W H n Q Φ Ψ e st ?_ k x
  have : (M.bind m fun b => M.ite b (M.pure true) (M.pure y)) = (M.bind m fun b => M.pure (b || y)) := by
    congr 1; funext b; cases b <;> rfl
  rw [this]; exact hm
theorem ve_ifP {R : α → SL} {a b : α} (h : VT C tt ps m) (ha : VE C ta ps (M.pure a) R) (hb : VE C tb ps (M.pure b) R) : VE C (tIf tt ta tb) ps (M.bind m fun c => M.pure (if c then a else b)) R := by
  intro σ G W H n Q Φ Ψ e st hm k x
  refine ve_if h ha hb σ G W H n Q Φ Ψ e st ?_ k x
  have : (M.bind m fun c => M.ite c (M.pure a) (M.pure b)) = (M.bind m fun c => M.pure (if c then a else b)) := by
    congr 1; funext c; cases c <;> rfl
  rw [this]; exact hm
theorem ite_ {b : Bool} {m k : M α} {Φ : α → Nat → Prop} {Ψ : Exc → Nat → Prop} {n : Nat} (h1 : b = true → m Φ Ψ n) (h2 : b = false → k Φ Ψ n) : M.ite b m k Φ Ψ n := by
  cases b with
  | true => exact iteT (h1 rfl)
  | false => exact iteF (h2 rfl)
end
/-! ### the law: from the script to the view -/
def spLawT (K : PySem.W.Frag) (TB : List (Addr × Str)) : Sp := fun vs H Q _ => ∃ (a : Addr) (ns : List Int), vs = [.ref a] ∧ SqL K H a (ns.map V.int) ∧ ns.length ≤ 63 ∧ LamX.Tabs TB H ∧ ∀ H', Q (.bl true) H'
theorem spLawT_len {K : PySem.W.Frag} {TB : List (Addr × Str)} {p : Str} : ∀ vs H Q E, spLawT K TB vs H Q E → vs.length = [p].length := by
  rintro vs H Q E ⟨_, _, rfl, _⟩
  rfl
theorem th_start {TB : List (Addr × Str)} {s : Addr} {H H' : Hp} (v : View s 0 H H') (t : LamX.Tabs TB H) : (thV (TB := TB) s).T 0 (fun _ => none) H' := by
  have sub := v.sub
  obtain ⟨b, c, n, bs, cs, k, l⟩ := v
  exact ⟨⟨b, c, n, bs, cs, { k with sub := fun _ _ h => (nomatch h), gs := rfl, gb := rfl, gc := rfl }, l⟩, fun _ _ h => (nomatch h), t.ext sub⟩
theorem law_T {mg : Str → Option Value} {K : PySem.W.Frag} {TB : List (Addr × Str)} {δ : Type} {vs : List V} {H : Hp} {Q : VK} {E : XK} {N : List Str} {t : TS} {m : M (Fl Bool δ)} {ψ : δ → List SL} (h : spLawT K TB vs H Q E)
    (hb : ∀ (s : Addr) (B G0 : Hp), SV ⟨TB, thV s, mg, K, B, G0, fun _ => E, []⟩ (Fz rBl) t ((SL.un :: .fr (rSt s) :: List.replicate (N.length - 2) .un)) m ψ)
    (hm : ∀ Ψ, M.ret m (fun b _ => b = true) Ψ 0) (hN : 2 ≤ N.length := by decide) :
    tSeq (tAsg (tCall (spStart K) [] E0 (tCons (tVar 0) tNil)) (gName 1)) t { nx := fun _ H' => Q .non H', rt := Q } (start N vs) H := by
  obtain ⟨a, ns, rfl, hS, hl, ht, hQ⟩ := h
  refine ⟨.ref a, rfl, a, ns, rfl, hS, hl, fun s H' v => ?_⟩
  have T := th_start v ht
  have e : (start N [V.ref a]).set 1 (some (.ref s)) = some (.ref a) :: some (.ref s) :: List.replicate (N.length - 2) none := by
    unfold L2.start
    match N, hN with
    | _ :: _ :: N, _ => simp [List.replicate_succ]
  show t { nx := fun _ H' => Q .non H', rt := Q } ((start N [V.ref a]).set 1 (some (.ref s))) H'
  rw [e]
  have un : ∀ {i : Nat} {x : SL}, (List.replicate (N.length - 2) SL.un)[i]? = some x → x = .un := fun {i x} h => by
    rw [List.getElem?_replicate] at h
    split at h
    · exact (Option.some.inj h).symm
    · cases h
  have no : ∀ {i : Nat} {d : CP}, (SL.un :: .fr (rSt s) :: List.replicate (N.length - 2) .un)[i]? = some (.ow d) → False := fun {i d} h => by
    match i with
    | 0 => simp at h
    | 1 => simp at h
    | i + 2 => exact absurd (un (show (List.replicate (N.length - 2) SL.un)[i]? = some (.ow d) by simpa using h)) (by simp)
  refine hb s (fun _ => none) (fun _ => none) _ _ (fun _ => none) (fun _ => none) H' 0 _ (fun _ _ => False) ⟨by simp, fun {i x} h n => ?_, fun {i j c d a} _ h _ _ _ => (no h).elim⟩ ⟨T, Same.refl _, Same.refl _, Same.refl _, fun _ _ h => (nomatch h)⟩ (hm _) ?_ ?_ ?_
  · match i with
    | 0 => simp at h; exact absurd h.symm n
    | 1 => simp at h; subst h; exact ⟨.ref s, rfl, rfl⟩
    | i + 2 => exact absurd (un (show (List.replicate (N.length - 2) SL.un)[i]? = some x by simpa using h)) n
  · intro _ _ _ _ _ _ z; exact z.elim
  · intro r n v G W H z _ hv
    have z : r = true := z
    subst z
    have hv : v = .bl true := hv
    subst hv
    exact hQ H
  · intro _ _ _ _ _ _ _ _ z; exact z.elim
end VL

namespace VL
open PySem PySem.Spec PyProof.Rows L2
/-! ### what a meaning comes to: the parts, shut -/
@[irreducible] def Mi.neD (d e : PyData) : M Bool := M.neD d e
@[irreducible] def Mi.eqD (d e : PyData) : M Bool := M.eqD d e
@[irreducible] def Mi.inD (d : PyData) (ds : List PyData) : M Bool := M.inD d ds
@[irreducible] def Mi.inDT (d e : PyData) : M Bool := M.inDT d e
@[irreducible] def Mi.idx {α : Type} (xs : List α) (i : Int) : M α := M.idx xs i
@[irreducible] def Mi.sgn (z : Str) (i : Int) : M Str := M.sgn z i
@[irreducible] def Mi.rng (lo hi : Int) : M (List Int) := M.rng lo hi
@[irreducible] def Mi.comp {β γ : Type} (xs : List β) (f : β → M (Option γ)) : M (List γ) := M.comp xs f
@[irreducible] def Mi.join (a : Str) (ys : List Str) : M Str := M.join a ys
@[irreducible] def Mi.popAt {α : Type} (xs : List α) (j : Int) : M (α × List α) := M.popAt xs j
@[irreducible] def Mi.popE {α : Type} (xs : List α) : M (α × List α) := M.popE xs
@[irreducible] def Mi.sortI (xs : List Int) : M (List Int) := M.sortI xs
@[irreducible] def Mi.sortS (xs : List Str) : M (List Str) := M.sortS xs
@[irreducible] def Mi.sortD {α : Type} (d : α → PyData) (xs : List α) : M (List α) := M.sortD d xs
@[irreducible] def Mi.listD (d : PyData) : M (List PyData) := M.listD d
@[irreducible] def Mi.setL {α : Type} (xs : List α) (j : Int) (a : α) : M (List α) := M.setL xs j a
@[irreducible] def Mi.max (xs : List Int) : M Int := M.max xs
@[irreducible] def Mi.min (xs : List Int) : M Int := M.min xs
@[irreducible] def Mi.draw (m : Int) : M Int := M.draw m
section
variable {α β γ σ ρ : Type} {Ψ : Exc → Nat → Prop} {n : Nat}
theorem draw_ok {m : Int} {Φ : Int → Nat → Prop} (hn : n ≤ 1000000) (h0 : 0 < m) (h1 : m < 2 ^ 100) (k : ∀ d, 0 ≤ d → d < m → Φ d (n + 1)) : Mi.draw m Φ Ψ n := by delta Mi.draw; exact ⟨⟨hn, h0, h1⟩, k⟩
theorem drop_at {xs ys : List β} {i : Nat} {y : β} (e : xs.drop i = y :: ys) : xs[i]? = some y ∧ xs.drop (i + 1) = ys ∧ i < xs.length := by
  refine ⟨?_, ?_, ?_⟩
  · have : (xs.drop i)[0]? = some y := by rw [e]; rfl
    rwa [List.getElem?_drop, Nat.add_zero] at this
  · have := congrArg List.tail e
    simpa using this
  · have := congrArg List.length e
    simp at this
    omega
theorem drop_nil {xs : List β} {i : Nat} (e : xs.drop i = []) (hi : i ≤ xs.length) : i = xs.length := by
  have := congrArg List.length e
  simp at this
  omega
/-- a comprehension by an invariant -/
theorem comp_rule {f : β → M (Option γ)} {xs : List β} {Φ : List γ → Nat → Prop} (I : Nat → List γ → Nat → Prop) (hl : xs.length ≤ 1000) (h0 : I 0 [] n)
    (hs : ∀ i x acc n', xs[i]? = some x → I i acc n' → ∀ Φ' : Option γ → Nat → Prop, (∀ o n2, I (i + 1) (acc ++ o.toList) n2 → Φ' o n2) → f x Φ' (fun _ _ => False) n')
    (hk : ∀ acc n', I xs.length acc n' → Φ acc n') : Mi.comp xs f Φ Ψ n := by
  delta Mi.comp
  refine ⟨hl, ?_⟩
  have go : ∀ (ys : List β) (i : Nat) (acc : List γ) (n : Nat), xs.drop i = ys → i ≤ xs.length → I i acc n → M.compA f acc ys Φ (fun _ _ => False) n := by
    intro ys
    induction ys with
    | nil =>
      intro i acc n e hi h
      have := drop_nil e hi
      subst this
      exact hk acc n h
    | cons y ys ih =>
      intro i acc n e hi h
      obtain ⟨h1, h2, h3⟩ := drop_at e
      exact hs i y acc n h1 h _ fun o n2 h4 => ih (i + 1) _ n2 h2 h3 h4
  exact go xs 0 [] n rfl (Nat.zero_le _) h0
/-- .. that draws nothing -/
theorem comp_pure {f : β → M (Option γ)} {xs : List β} {Φ : List γ → Nat → Prop} (g : β → Option γ) (hf : ∀ x ∈ xs, ∀ (Φ' : Option γ → Nat → Prop) n', Φ' (g x) n' → f x Φ' (fun _ _ => False) n') (hl : xs.length ≤ 1000) (hk : Φ (xs.filterMap g) n) : Mi.comp xs f Φ Ψ n := by
  refine comp_rule (fun i acc n' => acc = (xs.take i).filterMap g ∧ n' = n) hl ⟨rfl, rfl⟩ (fun i x acc n' hx hI Φ' k => ?_) fun acc n' h => ?_
  · obtain ⟨rfl, rfl⟩ := hI
    refine hf x (List.mem_of_getElem? hx) Φ' _ (k _ _ ⟨?_, rfl⟩)
    rw [List.take_succ, hx, List.filterMap_append]
    simp [List.filterMap]
    cases g x <;> rfl
  · obtain ⟨rfl, rfl⟩ := h
    rw [List.take_length]
    exact hk
theorem comp_map {f : β → M (Option γ)} {xs : List β} {Φ : List γ → Nat → Prop} (g : β → γ) (hf : ∀ x ∈ xs, ∀ (Φ' : Option γ → Nat → Prop) n', Φ' (some (g x)) n' → f x Φ' (fun _ _ => False) n') (hl : xs.length ≤ 1000) (hk : Φ (xs.map g) n) : Mi.comp xs f Φ Ψ n :=
  comp_pure (fun x => some (g x)) hf hl (by rw [List.filterMap_eq_map']; exact hk)
theorem filterMap_if (p : β → Bool) : ∀ xs : List β, xs.filterMap (fun x => if p x then some x else none) = xs.filter p
  | [] => rfl
  | x :: xs => by
    rw [List.filterMap_cons, List.filter_cons]
    cases h : p x with
    | true => simp [filterMap_if p xs]
    | false => simp [filterMap_if p xs]
theorem comp_filter {f : β → M (Option β)} {xs : List β} {Φ : List β → Nat → Prop} (p : β → Bool) (hf : ∀ x ∈ xs, ∀ (Φ' : Option β → Nat → Prop) n', Φ' (if p x then some x else none) n' → f x Φ' (fun _ _ => False) n') (hl : xs.length ≤ 1000) (hk : Φ (xs.filter p) n) : Mi.comp xs f Φ Ψ n :=
  comp_pure (fun x => if p x then some x else none) hf hl (by rw [filterMap_if]; exact hk)
/-- a for loop by an invariant; r: a way out by return -/
theorem for_rule {f : β → σ → M (Fl ρ σ)} {xs : List β} {s : σ} {Φ : Fl ρ σ → Nat → Prop} (I : Nat → σ → Nat → Prop) (h0 : I 0 s n)
    (hs : ∀ i x s n', xs[i]? = some x → I i s n' → ∀ Φ' : Fl ρ σ → Nat → Prop, (∀ s2 n2, I (i + 1) s2 n2 → Φ' (.nx s2) n2) → (∀ r n2, Φ (.rt r) n2 → Φ' (.rt r) n2) → f x s Φ' Ψ n')
    (hk : ∀ s n', I xs.length s n' → Φ (.nx s) n') : M.forL f xs s Φ Ψ n := by
  have go : ∀ (ys : List β) (i : Nat) (s : σ) (n : Nat), xs.drop i = ys → i ≤ xs.length → I i s n → M.forL f ys s Φ Ψ n := by
    intro ys
    induction ys with
    | nil =>
      intro i s n e hi h
      have := drop_nil e hi
      subst this
      exact hk s n h
    | cons y ys ih =>
      intro i s n e hi h
      obtain ⟨h1, h2, h3⟩ := drop_at e
      refine hs i y s n h1 h _ (fun s2 n2 h4 => ih (i + 1) s2 n2 h2 h3 h4) fun r n2 h4 => h4
  exact go xs 0 s n rfl (Nat.zero_le _) h0
/-- a for loop that draws nothing and comes to its end -/
theorem for_fold {f : β → σ → M (Fl ρ σ)} {xs : List β} {s : σ} {Φ : Fl ρ σ → Nat → Prop} (g : σ → β → σ) (hf : ∀ i x, xs[i]? = some x → ∀ (Φ' : Fl ρ σ → Nat → Prop) n', Φ' (.nx (g ((xs.take i).foldl g s) x)) n' → f x ((xs.take i).foldl g s) Φ' Ψ n')
    (hk : Φ (.nx (xs.foldl g s)) n) : M.forL f xs s Φ Ψ n := by
  refine for_rule (fun i s' n' => s' = (xs.take i).foldl g s ∧ n' = n) ⟨rfl, rfl⟩ (fun i x s' n' hx hI Φ' k _ => ?_) fun s' n' h => ?_
  · obtain ⟨rfl, rfl⟩ := hI
    refine hf i x hx Φ' _ (k _ _ ⟨?_, rfl⟩)
    rw [List.take_succ, hx, List.foldl_append]
    rfl
  · obtain ⟨rfl, rfl⟩ := h
    rw [List.take_length]
    exact hk
theorem atI_lt {xs : List α} {i : Int} (h0 : 0 ≤ i) (h1 : i < xs.length) : ∃ (k : Nat) (h : k < xs.length), i = (k : Int) ∧ L2.atI xs i = some xs[k] := by
  obtain ⟨k, rfl⟩ := Int.eq_ofNat_of_zero_le h0
  have hk : k < xs.length := by omega
  exact ⟨k, hk, rfl, atI_nat (List.getElem?_eq_getElem hk)⟩
theorem idx_ex {xs : List α} {i : Int} (h0 : 0 ≤ i) (h1 : i < xs.length) : ∃ x, L2.atI xs i = some x ∧ x ∈ xs ∧ xs[i.toNat]? = some x := by
  obtain ⟨j, hj, rfl, e⟩ := atI_lt h0 h1
  exact ⟨_, e, List.getElem_mem _, by simp [hj]⟩
theorem idx_ok {xs : List α} {i : Int} {Φ : α → Nat → Prop} (h0 : 0 ≤ i) (h1 : i < xs.length) (k : ∀ x, x ∈ xs → xs[i.toNat]? = some x → Φ x n) : Mi.idx xs i Φ Ψ n := by
  delta Mi.idx
  obtain ⟨j, hj, rfl, e⟩ := atI_lt h0 h1
  exact ⟨_, e, k _ (List.getElem_mem _) (by simp [hj])⟩
theorem sgn_ok {z : Str} {i : Int} {Φ : Str → Nat → Prop} (hz : z.length ≤ 1000) (h0 : 0 ≤ i) (h1 : i < z.length) (k : ∀ c, c ∈ z.cps.toList → z.cps.toList[i.toNat]? = some c → Φ ⟨#[c]⟩ n) : Mi.sgn z i Φ Ψ n := by
  delta Mi.sgn
  obtain ⟨j, hj, rfl, e⟩ := atI_lt (xs := z.cps.toList) h0 (by rw [L2.len_list]; exact h1)
  exact ⟨size1000 hz, _, e, k _ (List.getElem_mem _) (by simp [hj])⟩
theorem rng_nat (m : Nat) : ((List.range (((m : Nat) : Int) - 0).toNat).map fun k : Nat => (0 : Int) + (k : Int)) = (List.range m).map fun i : Nat => (i : Int) := by
  rw [show (((m : Int)) - 0).toNat = m by omega]
  apply List.map_congr_left
  intro a _
  omega
theorem rng0 {m : Nat} {Φ : List Int → Nat → Prop} (h : m < 1000000) (k : Φ ((List.range m).map fun i : Nat => (i : Int)) n) : Mi.rng 0 ((m : Nat) : Int) Φ Ψ n := by
  delta Mi.rng
  refine ⟨⟨by omega, by omega, by omega, by omega⟩, ?_⟩
  rw [rng_nat]
  exact k
theorem rng_i {lo hi : Int} {Φ : List Int → Nat → Prop} (h : -(2 ^ 62) ≤ lo ∧ lo < 2 ^ 62 ∧ -(2 ^ 62) ≤ hi ∧ hi < 2 ^ 62) (k : Φ ((List.range (hi - lo).toNat).map fun k : Nat => lo + (k : Int)) n) : Mi.rng lo hi Φ Ψ n := by delta Mi.rng; exact ⟨h, k⟩
theorem idx_i {xs : List α} {i : Int} {x : α} {Φ : α → Nat → Prop} (h : L2.atI xs i = some x) (k : Φ x n) : Mi.idx xs i Φ Ψ n := by delta Mi.idx; exact ⟨x, h, k⟩
theorem sgn_i {z : Str} {i : Int} {c : Nat} {Φ : Str → Nat → Prop} (hz : z.length ≤ sizeLine) (h : L2.atI z.cps.toList i = some c) (k : Φ ⟨#[c]⟩ n) : Mi.sgn z i Φ Ψ n := by delta Mi.sgn; exact ⟨hz, c, h, k⟩
theorem join_i {a : Str} {ys : List Str} {Φ : Str → Nat → Prop} (h : (ys.map (·.length)).sum + ys.length * a.length ≤ 16777216) (k : Φ (Txt.join a ys) n) : Mi.join a ys Φ Ψ n := by delta Mi.join; exact ⟨h, k⟩
theorem sortS_i {xs : List Str} {Φ : List Str → Nat → Prop} (h : xs.length < 64) (k : ∀ ns : List Str, ns.Perm xs → sortedS ns = true → Φ ns n) : Mi.sortS xs Φ Ψ n := by delta Mi.sortS; exact ⟨h, k⟩
theorem sortI_i {xs : List Int} {Φ : List Int → Nat → Prop} (h : xs.length < 64) (k : ∀ ns : List Int, ns.Perm xs → ns.Pairwise (· ≤ ·) → Φ ns n) : Mi.sortI xs Φ Ψ n := by delta Mi.sortI; exact ⟨h, k⟩
theorem popE_i {xs : List α} {a : α} {Φ : α × List α → Nat → Prop} (h : xs[xs.length - 1]? = some a) (k : Φ (a, xs.dropLast) n) : Mi.popE xs Φ Ψ n := by delta Mi.popE; exact ⟨a, h, k⟩
theorem popAt_i {xs : List α} {j : Int} {m : Nat} {a : α} {Φ : α × List α → Nat → Prop} (h0 : -(2 ^ 63) ≤ j ∧ j < 2 ^ 63) (h : seqIndex? j xs.length = some m) (h2 : xs[m]? = some a) (k : Φ (a, xs.eraseIdx m) n) : Mi.popAt xs j Φ Ψ n := by delta Mi.popAt; exact ⟨m, a, h0, h, h2, k⟩
theorem listD_i {d : PyData} {ds : List PyData} {Φ : List PyData → Nat → Prop} (h : d = .tuple ds ∨ d = .list ds) (k : Φ ds n) : Mi.listD d Φ Ψ n := by delta Mi.listD; exact ⟨ds, h, k⟩
theorem inDT_i {d : PyData} {ds : List PyData} {Φ : Bool → Nat → Prop} (h1 : SeqAt.shaped d = true) (h2 : SeqAt.shaped (.tuple ds) = true) (k : Φ (ds.any fun z => PyData.eqv z d) n) : Mi.inDT d (.tuple ds) Φ Ψ n := by delta Mi.inDT; exact ⟨ds, rfl, ⟨h1, h2⟩, k⟩
theorem inD_i {d : PyData} {ds : List PyData} {Φ : Bool → Nat → Prop} (h1 : SeqAt.shaped d = true) (h2 : SeqAt.shaped (.list ds) = true) (k : Φ (ds.any fun z => PyData.eqv z d) n) : Mi.inD d ds Φ Ψ n := by delta Mi.inD; exact ⟨⟨h1, h2⟩, k⟩
theorem eqD_i {d e : PyData} {Φ : Bool → Nat → Prop} (h1 : SeqAt.shaped d = true) (h2 : SeqAt.shaped e = true) (k : Φ (PyData.eqv d e) n) : Mi.eqD d e Φ Ψ n := by delta Mi.eqD; exact ⟨⟨h1, h2⟩, k⟩
theorem neD_i {d e : PyData} {Φ : Bool → Nat → Prop} (h1 : SeqAt.shaped d = true) (h2 : SeqAt.shaped e = true) (k : Φ (!PyData.eqv d e) n) : Mi.neD d e Φ Ψ n := by delta Mi.neD; exact ⟨⟨h1, h2⟩, k⟩
theorem sortD_i {d : α → PyData} {xs : List α} {Φ : List α → Nat → Prop} (h : (∀ x y, PySem.W.alike (d x) (d y) = true) ∧ (∀ x, ∃ y r, d x = .tuple (y :: r)) ∧ (∀ x, (d x).depth ≤ 60) ∧ PyData.canLayAll0 (xs.map d) = true) (k : Φ (xs.mergeSort (PySem.W.dataLe false d)) n) : Mi.sortD d xs Φ Ψ n := by delta Mi.sortD; exact ⟨h, k⟩
theorem setL_i {xs : List α} {j : Int} {a : α} {m : Nat} {Φ : List α → Nat → Prop} (h : ixN xs.length j = some m) (k : Φ (xs.set m a) n) : Mi.setL xs j a Φ Ψ n := by delta Mi.setL; exact ⟨m, h, k⟩
theorem max_i {xs : List Int} {Φ : Int → Nat → Prop} (h : 0 < xs.length) (k : ∀ m, m ∈ xs → (∀ y, y ∈ xs → y ≤ m) → Φ m n) : Mi.max xs Φ Ψ n := by delta Mi.max; exact ⟨h, k⟩
theorem min_i {xs : List Int} {Φ : Int → Nat → Prop} (h : 0 < xs.length) (k : ∀ m, m ∈ xs → (∀ y, y ∈ xs → m ≤ y) → Φ m n) : Mi.min xs Φ Ψ n := by delta Mi.min; exact ⟨h, k⟩
theorem range_at {m i : Nat} {x : Int} (h : ((List.range m).map fun i : Nat => (i : Int))[i]? = some x) : x = (i : Int) ∧ i < m := by
  rw [List.getElem?_map] at h
  cases e : (List.range m)[i]? with
  | none => rw [e] at h; cases h
  | some k =>
    rw [e] at h
    obtain ⟨h1, h2⟩ := List.getElem?_eq_some_iff.mp e
    rw [List.length_range] at h1
    rw [List.getElem_range] at h2
    subst h2
    exact ⟨(Option.some.inj h).symm, h1⟩
end
/-! ### equality of data -/
class IsQ {α : Type} (R : α → VP) [IsD R] where
  ok : α → Prop
  k : Nat
  lay : ∀ a : α, ok a → (IsD.d R a).canLay0 = true
  dep : ∀ a : α, (IsD.d R a).depth ≤ k
  eqv : ∀ a b : α, PyData.eqv (IsD.d R a) (IsD.d R b) = true ↔ a = b
instance : IsQ rInt := ⟨fun _ => True, 0, fun _ _ => by simp [IsD.d, PyData.canLay0], fun _ => by simp [IsD.d, PyData.depth], fun a b => by simp [IsD.d, PyData.eqv]⟩
instance : IsQ rBl := ⟨fun _ => True, 0, fun _ _ => by simp [IsD.d, PyData.canLay0], fun _ => by simp [IsD.d, PyData.depth], fun a b => by simp [IsD.d, PyData.eqv]⟩
instance : IsQ rStr := ⟨fun z => PyData.strOk z = true, 0, fun _ h => by simp [IsD.d, PyData.canLay0, h], fun _ => by simp [IsD.d, PyData.depth], fun a b => by simp [IsD.d, PyData.eqv]⟩
instance : IsQ rNon := ⟨fun _ => True, 0, fun _ _ => by simp [IsD.d, PyData.canLay0], fun _ => by simp [IsD.d, PyData.depth], fun a b => by simp [IsD.d, PyData.eqv]⟩
section
variable {α β : Type} {R : α → VP} {S : β → VP} [IsD R] [IsQ R] [IsD S] [IsQ S]
theorem q_layAll : ∀ xs : List α, (∀ x ∈ xs, IsQ.ok R x) → PyData.canLayAll0 (xs.map (IsD.d R)) = true
  | [], _ => by simp [PyData.canLayAll0]
  | x :: xs, h => by simp [PyData.canLayAll0, IsQ.lay (R := R) x (h x (List.mem_cons_self ..)), q_layAll xs fun y hy => h y (List.mem_cons_of_mem _ hy)]
theorem q_depAll : ∀ xs : List α, PyData.depthAll (xs.map (IsD.d R)) ≤ IsQ.k R
  | [] => by simp [PyData.depthAll]
  | x :: xs => by
    have h1 := IsQ.dep (R := R) x
    have h2 := q_depAll xs
    simp only [List.map_cons, PyData.depthAll]
    omega
theorem q_eqvAll : ∀ xs ys : List α, PyData.eqvAll (xs.map (IsD.d R)) (ys.map (IsD.d R)) = true ↔ xs = ys
  | [], [] => by simp [PyData.eqvAll]
  | [], _ :: _ => by simp [PyData.eqvAll]
  | _ :: _, [] => by simp [PyData.eqvAll]
  | x :: xs, y :: ys => by
    have h1 := IsQ.eqv (R := R) x y
    have h2 := q_eqvAll xs ys
    simp only [List.map_cons, PyData.eqvAll, Bool.and_eq_true, List.cons.injEq]
    rw [h1, h2]
instance : IsQ (rLst R) := ⟨fun xs => ∀ x ∈ xs, IsQ.ok R x, IsQ.k R + 1, fun xs h => by simp only [IsD.d, PyData.canLay0]; exact q_layAll xs h, fun xs => by
  have := q_depAll (R := R) xs
  simp only [IsD.d, PyData.depth]
  omega, fun xs ys => by simp only [IsD.d, PyData.eqv]; exact q_eqvAll xs ys⟩
instance : IsQ (rTup R) := ⟨fun xs => ∀ x ∈ xs, IsQ.ok R x, IsQ.k R + 1, fun xs h => by simp only [IsD.d, PyData.canLay0]; exact q_layAll xs h, fun xs => by
  have := q_depAll (R := R) xs
  simp only [IsD.d, PyData.depth]
  omega, fun xs ys => by simp only [IsD.d, PyData.eqv]; exact q_eqvAll xs ys⟩
instance : IsQ (rPr R S) := ⟨fun q => IsQ.ok R q.1 ∧ IsQ.ok S q.2, max (IsQ.k R) (IsQ.k S) + 1, fun q h => by simp [IsD.d, PyData.canLay0, PyData.canLayAll0, IsQ.lay (R := R) q.1 h.1, IsQ.lay (R := S) q.2 h.2], fun q => by
  have h1 := IsQ.dep (R := R) q.1
  have h2 := IsQ.dep (R := S) q.2
  simp only [IsD.d, PyData.depth, PyData.depthAll]
  omega, fun q r => by
  have h1 := IsQ.eqv (R := R) q.1 r.1
  have h2 := IsQ.eqv (R := S) q.2 r.2
  simp only [IsD.d, PyData.eqv, PyData.eqvAll, Bool.and_eq_true, Bool.and_true, h1, h2]
  obtain ⟨a, b⟩ := q
  obtain ⟨c, d⟩ := r
  simp⟩
theorem q_sh {a : α} (h : IsQ.ok R a) (hk : IsQ.k R ≤ 64) : SeqAt.shaped (IsD.d R a) = true := by
  unfold SeqAt.shaped
  rw [Bool.and_eq_true]
  exact ⟨IsQ.lay a h, decide_eq_true (Nat.le_trans (IsQ.dep a) hk)⟩
variable {Φ : Bool → Nat → Prop} {Ψ : Exc → Nat → Prop} {n : Nat} {a b : α}
theorem eq_yes (h : a = b) (ha : IsQ.ok R a) (k : Φ true n) (hk : IsQ.k R ≤ 64 := by decide) : Mi.eqD (IsD.d R a) (IsD.d R b) Φ Ψ n := by
  delta Mi.eqD
  subst h
  exact ⟨⟨q_sh ha hk, q_sh ha hk⟩, by rw [(IsQ.eqv a a).mpr rfl]; exact k⟩
theorem ne_no (h : a = b) (ha : IsQ.ok R a) (k : Φ false n) (hk : IsQ.k R ≤ 64 := by decide) : Mi.neD (IsD.d R a) (IsD.d R b) Φ Ψ n := by
  delta Mi.neD
  subst h
  exact ⟨⟨q_sh ha hk, q_sh ha hk⟩, by rw [(IsQ.eqv a a).mpr rfl]; exact k⟩
theorem eq_dec [DecidableEq α] (ha : IsQ.ok R a) (hb : IsQ.ok R b) (k : Φ (decide (a = b)) n) (hk : IsQ.k R ≤ 64 := by decide) : Mi.eqD (IsD.d R a) (IsD.d R b) Φ Ψ n := by
  delta Mi.eqD
  exact ⟨⟨q_sh ha hk, q_sh hb hk⟩, by
  have : PyData.eqv (IsD.d R a) (IsD.d R b) = decide (a = b) := by rw [Bool.eq_iff_iff, IsQ.eqv, decide_eq_true_iff]
  rw [this]; exact k⟩
theorem ne_dec [DecidableEq α] (ha : IsQ.ok R a) (hb : IsQ.ok R b) (k : Φ (!decide (a = b)) n) (hk : IsQ.k R ≤ 64 := by decide) : Mi.neD (IsD.d R a) (IsD.d R b) Φ Ψ n := by
  delta Mi.neD
  exact ⟨⟨q_sh ha hk, q_sh hb hk⟩, by
  have : PyData.eqv (IsD.d R a) (IsD.d R b) = decide (a = b) := by rw [Bool.eq_iff_iff, IsQ.eqv, decide_eq_true_iff]
  rw [this]; exact k⟩
end
end VL

namespace VL
open PySem PySem.Spec PyProof.Rows L2 LamX
/-- a def as the head tells it, with its code object -/
theorem funC_of {K : PySem.W.Frag} {x qual : Str} {st : Stmt} {p : Str × Option Str} {fd : FuncData} (F : FunD K x qual (defArgs st) (defBody st) (defScope st) [] [] (He.fAd K p) fd) : FunC K x qual st (He.fAd K p) fd (He.cT K p).1 := by
  obtain ⟨oc, od, dV, kV, doc, pm, an, cdv, ct, osl, e, l, c, hd, _⟩ := F.ex
  rcases hd with ⟨_, e2⟩ | ⟨e2, _⟩
  · subst e2
    obtain ⟨cc, rfl⟩ := He.codeIn_ref c
    have e3 : He.codeOf K p = cc := He.codeOf_eq l (by rw [e])
    exact ⟨⟨oc, od, kV, doc, pm, an, ct, osl, by rw [e]; show _ = PySem.W.fnOf x qual _ _ _ _ _ _ _ _ (Value.ref (He.codeOf K p)) _; rw [e3], l, by show PySem.W.codeIn K (.ref (He.codeOf K p)) qual = true; rw [e3]; exact c⟩, F.kp⟩
  · exact absurd rfl e2
end VL
namespace VL
open PySem PySem.Spec PyProof.Rows L2
theorem law_binds {K : PySem.W.Frag} {x qual p : Str} {st : Stmt} {f : Addr} {fd : FuncData} (F : Fun K x qual st f fd) (h : ∀ (kV doc pm : Value) (an : Option Addr) (cdv ct v : Value), bindArgs (PySem.W.fnOf x qual (defArgs st) (defBody st) (defScope st) .none kV doc pm an cdv ct) ⟨[v], []⟩ = pure [(p, v)]) (s : Shared) (v : Value) : BindsTo s fd ⟨[v], []⟩ [(p, v)] := by
  obtain ⟨oc, od, kV, doc, pm, an, cdv, ct, osl, rfl, lk, hcd⟩ := F.ex
  exact .of_eq (h kV doc pm an cdv ct v)
end VL

set_option pp.deepTerms false
set_option pp.deepTerms.threshold 8
namespace K20
open PySem PySem.Spec PyProof.Rows L2 VL
def top (i : Nat) : Stmt := PySem.Challenge.pw_twochoosers_k20_sets.main.body.getD i (.Pass ⟨0, 0, 0, 0⟩)
structure TxtB (mg : Str → Option Value) : Prop where
  z_abs : mg "abs" = none
  z_bool : mg "bool" = none
  z_int : mg "int" = none
  z_isinstance : mg "isinstance" = none
  z_len : mg "len" = none
  z_list : mg "list" = none
  z_range : mg "range" = none
  z_sorted : mg "sorted" = none
  z_str : mg "str" = none
  z_tuple : mg "tuple" = none
section
variable {P : Program} {w : World} {K : PySem.W.Frag} {mg : Str → Option Value} {base : Heap} {Pt : Addr}
abbrev s_Lstart : Stmt := top 9
abbrev N_Lstart : List Str := ["_law_script", "_law_cell"]
theorem sc_Lstart : FnScope ["_law_script", "_law_cell"] ["_law_script"] (defScope s_Lstart) := ⟨rfl, rfl, rfl, by decide +kernel, rfl, by decide +kernel, by decide +kernel⟩
theorem ok_Lstart {f : Addr} {fd : FuncData} (F : Fun K "_law_start" "_law_start" s_Lstart f fd) (T : TxtB mg) : FnOk P w K mg base CX0 1 f fd ["_law_script"] (spStart K) := by
  refine F.ok sc_Lstart (fun vs H Q E h => ?_) (fun cdv A outer s H vs Q E hr h => ?_)
  · obtain ⟨a, ns, rfl, _⟩ := h
    rfl
  · obtain ⟨a, ns, rfl, hS, hlen, q⟩ := h
    refine ⟨_, (pss_one (ps_ret (pe_lst (pa_cons (pe_lc (own := [("_law_cell", 1)]) (g := gName 1) rfl sc_Lstart.nd (pi_list (pv 0)) (blkOk_by (own := [("_law_cell", 1)]) (N := N_Lstart) (sc := defScope s_Lstart) (by decide +kernel)) (fun _ _ _ _ _ => (pg_name (i := 1) sc_Lstart.nd rfl (.inl rfl))) (fun _ _ _ _ _ => (pts_one (pt_cmpR op_ge (pe_callB call_abs (by rfl) T.z_abs (by decide +kernel) (pa_cons (pv 1) pa_nil)) (pe_op op_pow pe_int pe_int) (nomark _)))) (fun _ _ _ _ _ => (pe_callB call_abs (by rfl) T.z_abs (by decide +kernel) (pa_cons (pv 1) pa_nil)))) (pa_cons (pe_op op_cat (pe_callTy call_list_of (by rfl) T.z_list (by decide +kernel) (pa_cons (pv 0) pa_nil)) (pe_lst (pa_cons pe_int pa_nil))) (pa_cons pe_int pa_nil)))))), ?_⟩
    refine ⟨_, rfl, a, rfl, ⟨_, hS⟩, fun D hD => lc_list (K := K) (a := a) (xs := ns.map V.int) (fun i H' => ∃ bs : List Int, H' = upd H D (.lst (bs.map V.int)) ∧ (∀ x ∈ bs, (0 : Int) ≤ x) ∧ bs.length ≤ i)
      ⟨[], rfl, (fun _ h => nomatch h), Nat.le_refl _⟩ (fun i H' _ ⟨bs, e, _⟩ => by rw [e]; exact (same_of_none hD).seq hS) ?_ ?_⟩
    · rintro i x H' hx ⟨bs, rfl, h0, hb⟩
      have hi : i < ns.length := by
        have := (List.getElem?_eq_some_iff.mp hx).1
        rwa [List.length_map] at this
      obtain ⟨z, rfl⟩ : ∃ z, x = V.int z := by
        rw [List.getElem?_map] at hx
        cases e : ns[i]? with
        | none => rw [e] at hx; cases hx
        | some u => rw [e] at hx; exact ⟨u, (Option.some.inj hx).symm⟩
      refine ⟨rfl, .int z, rfl, z, rfl, _, _, rfl, rfl, cpow1018, _, _, rfl, rfl, _, rfl, ite2 (fun _ => ?_) (fun _ => ⟨bs, rfl, h0, by omega⟩)⟩
      refine ⟨.int z, rfl, z, rfl, _, upd_same, ?_, ?_⟩
      · rw [List.length_map]; exact small1000 (by omega)
      · refine ⟨bs ++ [if z < 0 then -z else z], by rw [upd_upd, List.map_append]; rfl, fun x hx => ?_, by simp; omega⟩
        rcases List.mem_append.mp hx with hx | hx
        · exact h0 x hx
        · have e : x = if z < 0 then -z else z := by simpa using hx
          rw [e]
          split <;> omega
    · rintro H' ⟨bs, rfl, h0, hb⟩
      have s1 : Same H (upd H D (.lst (bs.map V.int))) := same_of_none hD
      refine ⟨.ref a, rfl, a, _, rfl, .inl (s1.seq hS), fun l hl => ?_⟩
      have s2 := same_of_none (o := HO.lst (ns.map V.int)) hl
      refine ⟨by show 1 ≤ sizeLine; decide, fun p hp => ?_⟩
      have s3 := same_of_none (o := HO.lst [V.int 5]) hp
      refine ⟨l, p, _, _, rfl, rfl, s3 _ _ upd_same, upd_same, ?_, fun c hc => ?_⟩
      · rw [List.length_map]
        show ns.length + 1 ≤ sizeLine
        exact Nat.le_of_lt (small1000 (by omega))
      have s4 := same_of_none (o := HO.lst (ns.map V.int ++ [V.int 5])) hc
      refine ⟨by show 3 ≤ sizeLine; decide, fun s hs => q s _ ?_⟩
      have s5 := same_of_none (o := HO.lst [.ref D, .ref c, V.int 0]) hs
      have sa : Same (upd H D (.lst (bs.map V.int))) _ := s2.trans (s3.trans s4)
      have hc0 : H c = none := s1.free ((s2.trans s3).free hc)
      have hs0 : H s = none := s1.free (sa.free hs)
      refine ⟨D, c, 0, bs, ns ++ [5], ⟨s1.trans (sa.trans s5), hs0, hD, hc0, ?_, ?_, ?_, upd_same, s5 _ _ (sa _ _ upd_same), s5 _ _ ?_, h0, by rw [List.length_map] at hb; omega, by simp; omega, Int.le_refl _⟩, Int.le_refl _⟩
      · exact ne_of_none (sa _ _ upd_same) hs
      · exact ne_of_none upd_same hs
      · exact ne_of_none ((s2.trans s3) _ _ upd_same) hc
      · rw [upd_same, List.map_append]
        rfl


abbrev s_Ldraw : Stmt := top 10
abbrev N_Ldraw : List Str := ["_law_state", "_law_size", "_law_digit", "_law_cell", "_law_one"]
theorem sc_Ldraw : FnScope ["_law_state", "_law_size", "_law_digit", "_law_cell", "_law_one"] ["_law_state", "_law_size"] (defScope s_Ldraw) := ⟨rfl, rfl, rfl, by decide +kernel, rfl, by decide +kernel, by decide +kernel⟩
set_option maxHeartbeats 20000000 in
theorem ok_Ldraw {f : Addr} {fd : FuncData} (F : Fun K "_law_draw" "_law_draw" s_Ldraw f fd) (T : TxtB mg) : FnOk P w K mg base CX0 1 f fd ["_law_state", "_law_size"] spDraw := by
  refine F.ok sc_Ldraw (fun vs H Q E h => ?_) (fun cdv A outer s H vs Q E hr h => ?_)
  · obtain ⟨s, N, G, m, rfl, _⟩ := h
    rfl
  · obtain ⟨s, N, G, m, rfl, ⟨b, c, n, bs, cs, k, hnN⟩, hN, hm, hm2, q⟩ := h
    refine ⟨_, (pss_cons (ps_augS (pv 0) pe_int pg_list pe_int ip_add set_list)
      (pss_cons (ps_while PassesOwn.never (PW.pt (pw_and (pt_cmpR (op_neD hr.units) (pe_ix ix_list (pv 0) pe_int (fun _ _ => rfl)) (pe_lst pa_nil) (nomark _)) (pw_and1 (pt_cmpR op_eq (pe_ix ix_list (pe_ix ix_list (pv 0) pe_int (fun _ _ => rfl)) pe_int (fun _ _ => rfl)) pe_int (nomark _))))) (pss_one (ps_asg (pe_slice sl_list (pe_ix ix_list (pv 0) pe_int (fun _ _ => rfl)) (po_some pe_int) po_none) (pg_sub (pv 0) pe_int set_list))))
      (pss_cons (ps_if (pt_cmpR (op_neD hr.units) (pe_ix ix_list (pv 0) pe_int (fun _ _ => rfl)) (pe_lst pa_nil) (nomark _)) (pss_cons (ps_set (i := 2) sc_Ldraw.nd rfl (.inl rfl) (pe_op op_modN (pe_callTy call_int1 (by rfl) T.z_int (by decide +kernel) (pa_cons (pe_ix ix_list (pe_ix ix_list (pv 0) pe_int (fun _ _ => rfl)) pe_int (fun _ _ => rfl)) pa_nil)) (pv 1)))
      (pss_cons (ps_asg (pe_op op_fdivW (pe_ix ix_list (pe_ix ix_list (pv 0) pe_int (fun _ _ => rfl)) pe_int (fun _ _ => rfl)) (pv 1)) (pg_sub (pe_ix ix_list (pv 0) pe_int (fun _ _ => rfl)) pe_int set_list))
      (pss_one (ps_ret (pv 2))))) pss_nil)
      (pss_cons (ps_set (i := 3) sc_Ldraw.nd rfl (.inl rfl) (pe_op op_modN (pe_callTy call_int1 (by rfl) T.z_int (by decide +kernel) (pa_cons (pe_ix ix_list (pe_ix ix_list (pv 0) pe_int (fun _ _ => rfl)) (pe_op op_modN (pe_callTy call_int1 (by rfl) T.z_int (by decide +kernel) (pa_cons (pe_ix ix_list (pv 0) pe_int (fun _ _ => rfl)) pa_nil)) (pe_callB call_len_seq (by rfl) T.z_len PySem.boot_len (pa_cons (pe_ix ix_list (pv 0) pe_int (fun _ _ => rfl)) pa_nil))) (fun _ _ => rfl)) pa_nil)) pe_int))
      (pss_cons (ps_set (i := 4) sc_Ldraw.nd rfl (.inl rfl) (pe_op op_modN (pe_callTy call_int1 (by rfl) T.z_int (by decide +kernel) (pa_cons (pe_op op_pow (pe_op op_add (pe_op op_add (pe_op op_mulW (pv 3) pe_int) (pe_op op_mulW (pe_ix ix_list (pv 0) pe_int (fun _ _ => rfl)) pe_int)) pe_int) pe_int) pa_nil)) pe_int))
      (pss_one (ps_ret (pe_op op_modN (pe_op op_modN (pe_callTy call_int1 (by rfl) T.z_int (by decide +kernel) (pa_cons (pe_op op_pow (pe_op op_add (pe_op op_add (pe_op op_mulW (pv 4) pe_int) (pe_op op_mulW (pe_ix ix_list (pv 0) pe_int (fun _ _ => rfl)) pe_int)) pe_int) pe_int) pa_nil)) pe_int) (pv 1))))))))), ?_⟩
    -- state[2] += 1
    refine ⟨.ref s, rfl, s, _, 2, _, rfl, rfl, SqL.of k.hs, atI_nat (j := 2) rfl, n, 1, rfl, rfl, s, _, 2, 2, rfl, rfl, k.hs, rfl, ?_⟩
    have k1 := k.count
    -- while state[0] != [] and state[0][0] == 0
    refine ⟨fun m' σ H' => ∃ b bs, bs.length = m' ∧ σ = [some (.ref s), some (.int m), none, none, none] ∧ VS s b c (n + 1) bs cs G H', ⟨bs.length, b, bs, rfl, rfl, k1⟩, ?_⟩
    rintro m' σ H' ⟨b, bs, rfl, rfl, k⟩
    refine ⟨.ref s, rfl, s, _, 0, _, rfl, rfl, SqL.of k.hs, atI_nat (j := 0) rfl, Nat.zero_le _, fun p hp => ?_⟩
    have kp := k.ext (same_of_none (o := .lst []) hp)
    refine ⟨.list (bs.map .int), .list [], .lst (SqL.of kp.hb) (dpAll_ints bs), .lst (SqL.of upd_same) .nil, shaped_ints bs, rfl, _, rfl, ?_⟩
    cases bs with
    | nil =>
      refine iteF (iteF ?_)
      refine ⟨.ref s, rfl, s, _, 0, _, rfl, rfl, SqL.of kp.hs, atI_nat (j := 0) rfl, Nat.zero_le _, fun p2 hp2 => ?_⟩
      have kq := kp.ext (same_of_none (o := .lst []) hp2)
      refine ⟨.list [], .list [], .lst (SqL.of kq.hb) .nil, .lst (SqL.of upd_same) .nil, rfl, rfl, _, rfl, iteF ?_⟩
      obtain ⟨j, z, hj, hz⟩ := ix_mod cs (n + 1) k.lc.1
      have hl : ((cs.map V.int).length : Int) ≠ 0 := by rw [List.length_map]; have := k.lc.1; omega
      refine ⟨.ref s, rfl, s, _, 1, _, rfl, rfl, SqL.of kq.hs, atI_nat (j := 1) rfl, .ref s, rfl, s, _, 2, _, rfl, rfl, SqL.of kq.hs, atI_nat (j := 2) rfl, .inl ⟨_, rfl, .ref s, rfl, s, _, 1, _, rfl, rfl, SqL.of kq.hs, atI_nat (j := 1) rfl, c, _, rfl, .inl (SqL.of kq.hc), n + 1, _, rfl, rfl, hl, c, _, _, .int z, rfl, rfl, SqL.of kq.hc, ?_, .inl ⟨_, rfl, z, 2147483647, rfl, rfl, nz1, ?_⟩⟩⟩
      · rw [List.length_map, hj]
        exact atI_nat (by rw [List.getElem?_map, hz]; rfl)
      obtain ⟨c0, c1⟩ := fmod_in z (m := 2147483647) (by decide)
      have hn0 := k.n0
      have hn1 : n + 1 ≤ 1000002 := by omega
      refine ⟨_, rfl, _, _, rfl, rfl, wmul c0 (by omega) (by decide) (by decide), .ref s, rfl, s, _, 2, _, rfl, rfl, SqL.of kq.hs, atI_nat (j := 2) rfl, _, _, rfl, rfl, wmul (by omega) (by omega) (by decide) (by decide), _, _, rfl, rfl, _, _, rfl, rfl, _, _, rfl, rfl, pow5 (by omega) (by omega), .inl ⟨_, rfl, _, _, rfl, rfl, nz1, ?_⟩⟩
      obtain ⟨d0, d1⟩ := fmod_in ((z.fmod 2147483647 * 48271 + (n + 1) * 69621 + 7) ^ (5 : Int).toNat) (m := 2147483647) (by decide)
      refine ⟨_, rfl, _, _, rfl, rfl, wmul d0 (by omega) (by decide) (by decide), .ref s, rfl, s, _, 2, _, rfl, rfl, SqL.of kq.hs, atI_nat (j := 2) rfl, _, _, rfl, rfl, wmul (by omega) (by omega) (by decide) (by decide), _, _, rfl, rfl, _, _, rfl, rfl, _, _, rfl, rfl, pow5 (by omega) (by omega), .inl ⟨_, rfl, _, _, rfl, rfl, nz2, _, rfl, _, _, rfl, rfl, by omega, ?_⟩⟩
      exact q _ _ (fmod_in _ hm).1 (fmod_in _ hm).2 ⟨b, c, n + 1, [], cs, kq, by omega⟩
    | cons y r =>
      refine iteT ?_
      refine ⟨.ref s, rfl, s, _, 0, _, rfl, rfl, SqL.of kp.hs, atI_nat (j := 0) rfl, b, _, 0, .int y, rfl, rfl, SqL.of kp.hb, atI_nat (j := 0) rfl, rfl, _, rfl, ?_⟩
      refine ite2 (fun e0 => ?_) (fun e0 => ?_)
      · have hy : y = 0 := V.int.inj (of_decide_eq_true e0)
        refine ⟨fun σ' H' => ∃ b, σ' = [some (.ref s), some (.int m), none, none, none] ∧ VS s b c (n + 1) r cs G H', fun σ' H' ⟨b, e, k⟩ => ⟨r.length, by simp, b, r, rfl, e, k⟩, ?_⟩
        refine ⟨.ref s, rfl, s, _, 0, _, rfl, rfl, SqL.of kp.hs, atI_nat (j := 0) rfl, 1, rfl, b, _, rfl, SqL.of kp.hb, fun p2 hp2 => ?_⟩
        have kq := kp.ext (same_of_none (o := .lst (cutV ((y :: r).map V.int) (some 1) none)) hp2)
        refine ⟨.ref s, rfl, s, _, 0, 0, rfl, rfl, kq.hs, rfl, p2, rfl, ?_⟩
        rw [show cutV ((y :: r).map V.int) (some 1) none = r.map V.int from cut1 _ _] at kq ⊢
        exact kp.big hp2
      · have hy : ¬ y = 0 := fun e => e0 (decide_eq_true (by rw [e]))
        have hy0 : 0 ≤ y := k.nn y List.mem_cons_self
        refine ⟨.ref s, rfl, s, _, 0, _, rfl, rfl, SqL.of kp.hs, atI_nat (j := 0) rfl, Nat.zero_le _, fun p2 hp2 => ?_⟩
        have kq := kp.ext (same_of_none (o := .lst []) hp2)
        refine ⟨.list ((y :: r).map .int), .list [], .lst (SqL.of kq.hb) (dpAll_ints _), .lst (SqL.of upd_same) .nil, shaped_ints _, rfl, _, rfl, iteT ?_⟩
        refine ⟨.ref s, rfl, s, _, 0, _, rfl, rfl, SqL.of kq.hs, atI_nat (j := 0) rfl, b, _, 0, .int y, rfl, rfl, SqL.of kq.hb, atI_nat (j := 0) rfl, .inl ⟨_, rfl, _, rfl, y, m, rfl, rfl, by omega, ?_⟩⟩
        refine ⟨.ref s, rfl, s, _, 0, _, rfl, rfl, SqL.of kq.hs, atI_nat (j := 0) rfl, b, _, 0, .int y, rfl, rfl, SqL.of kq.hb, atI_nat (j := 0) rfl, _, rfl, y, m, rfl, rfl, wide_div (b := 100) hm (by omega) (by decide) (by decide), .ref s, rfl, s, _, 0, _, rfl, rfl, SqL.of kq.hs, atI_nat (j := 0) rfl, b, _, 0, 0, rfl, rfl, kq.hb, ixN_zero, ?_⟩
        refine ⟨_, rfl, ?_⟩
        exact q _ _ (fmod_in _ hm).1 (fmod_in _ hm).2 ⟨b, c, n + 1, _, cs, kq.head (Int.ediv_nonneg hy0 (by omega)), by omega⟩


def F_Ldraw (q : Int × Unit) : M Int := Mi.draw q.1
theorem okT_Ldraw {f : Addr} {fd : FuncData} (F : Fun K "_law_draw" "_law_draw" s_Ldraw f fd) (T : TxtB mg) : FnOk P w K mg base CX0 1 f fd ["_law_state", "_law_size"] (spT mg K ([(Pt, ("in_order" : Str) ++ ".<locals>." ++ "<lambda>")] : List (Addr × Str)) thV (fun s (m : Int × Unit) => [rSt s, rInt m.1]) F_Ldraw (Fz rInt)) := by
  delta F_Ldraw Mi.draw
  exact (ok_Ldraw F T).imp fun _ _ _ _ h => sp_draw h

abbrev s_in_order : Stmt := top 1
abbrev N_in_order : List Str := ["sets"]
theorem sc_in_order : FnScope ["sets"] ["sets"] (defScope s_in_order) := ⟨rfl, rfl, rfl, by decide +kernel, rfl, by decide +kernel, by decide +kernel⟩
@[irreducible] def F_in_order (q : (List (List Str)) × Unit) : M (List (List Str)) := M.ret ((M.rt ((sortLK (q.1)))) : M (Fl (List (List Str)) Unit))
theorem ok_in_order {f c : Addr} {fd : FuncData} (F : FunC K "in_order" "in_order" s_in_order f fd c) (TBh : LamX.TabB base mg c Pt) (T : TxtB mg) : FnOk P w K mg base CX0 1 f fd ["sets"] (spG mg K ([(Pt, ("in_order" : Str) ++ ".<locals>." ++ "<lambda>")] : List (Addr × Str)) (fun q : (List (List Str)) × Unit => [(rLst (rTup rStr)) q.1]) F_in_order (Ow (cLst (rTup rStr)))) := by
  refine F.ok sc_in_order spG_len (fun A outer s H vs Q E hr h => ?_)
  refine ⟨_, (pss_one (ps_ret (pe_sortLam (a := "names") (pv 0) (T := ([(Pt, ("in_order" : Str) ++ ".<locals>." ++ "<lambda>")] : List (Addr × Str))) (by rfl) T.z_sorted T.z_len TBh rfl hr (.head _) lam_u))), ?_⟩
  refine fn_G (δ := Unit) (ψ := fun _ _ => []) h ?_ (fun Θ B G0 q => 
      (sv_ret (ve_sortLam (ve_v (rLst (rTup rStr)) (q.1))) PxLe.nil))
  intro q; delta F_in_order Mi.neD Mi.eqD Mi.inD Mi.inDT Mi.idx Mi.sgn Mi.rng Mi.comp Mi.join Mi.popAt Mi.popE Mi.sortI Mi.sortS Mi.sortD Mi.listD Mi.setL Mi.max Mi.min Mi.draw; rfl

abbrev s_is_set_of : Stmt := top 3
abbrev N_is_set_of : List Str := ["outcomes", "value", "name"]
theorem sc_is_set_of : FnScope ["outcomes", "value", "name"] ["outcomes", "value"] (defScope s_is_set_of) := ⟨rfl, rfl, rfl, by decide +kernel, rfl, by decide +kernel, by decide +kernel⟩
@[irreducible] def F_is_set_of (q : (List Str) × PyData × Unit) : M Bool := M.ret ((M.seq (M.ite ((!((isD_tuple (q.2.1))))) (M.rt (false)) (M.nx (()))) fun s_1 => (M.bind (M.bind (M.bind (M.bind (Mi.sortS (q.1)) fun x_4 => (Mi.comp (x_4) fun b_2 => (M.bind (Mi.inDT (IsD.d rStr (b_2)) (q.2.1)) fun x_3 => (M.ite (x_3) (M.pure ((some (b_2)))) (M.pure none))))) fun x_5 => M.pure (x_5)) fun x_6 => (Mi.eqD (IsD.d rDat (q.2.1)) (IsD.d (rTup rStr) (x_6)))) fun x_7 => (M.rt (x_7)))) : M (Fl Bool Unit))
theorem ok_is_set_of {f : Addr} {fd : FuncData} (F : Fun K "is_set_of" "is_set_of" s_is_set_of f fd) (T : TxtB mg) : FnOk P w K mg base CX0 1 f fd ["outcomes", "value"] (spG mg K ([(Pt, ("in_order" : Str) ++ ".<locals>." ++ "<lambda>")] : List (Addr × Str)) (fun q : (List Str) × PyData × Unit => [(rTup rStr) q.1, rDat q.2.1]) F_is_set_of (Fz rBl)) := by
  refine F.ok sc_is_set_of spG_len (fun cdv A outer s H vs Q E hr h => ?_)
  refine ⟨_, (pss_cons (ps_if (pt_not (pt_val (pe_callB call_isi (by rfl) T.z_isinstance (by decide +kernel) (pa_cons (pv 1) (pa_cons (pe_bltn (v := .ty "tuple") (by rfl) T.z_tuple (by decide +kernel) rfl) pa_nil))))) (pss_one (ps_ret pe_bl)) pss_nil)
      (pss_one (ps_ret (pe_cmpR (op_eqD hr.units) (pv 1) (pe_callTy call_tuple_of (by rfl) T.z_tuple (by decide +kernel) (pa_cons (pe_lc (own := [("name", 2)]) (g := gName 2) rfl sc_is_set_of.nd (pi_list (pe_callB cr_sortedST (by rfl) T.z_sorted (by decide +kernel) (pa_cons (pv 0) pa_nil))) (blkOk_by (own := [("name", 2)]) (N := N_is_set_of) (sc := defScope s_is_set_of) (by decide +kernel)) (fun _ _ _ _ _ => (pg_name (i := 2) sc_is_set_of.nd rfl (.inl rfl))) (fun _ _ _ _ _ => (pts_one (pt_cmpR (op_inDTK (K := K) rfl (hu65 hr)) (pv 2) (pv 1) (by rfl)))) (fun _ _ _ _ _ => (pv 2))) pa_nil)) (nomark _))))), ?_⟩
  refine fn_G (δ := Unit) (ψ := fun _ _ => []) h ?_ (fun Θ B G0 q => 
      (sv_seq (sv_if (vt_not (vt_b (ve_isiDtuple (ve_v rDat (q.2.1))))) PxLe.nil (sv_ret (ve_c rBl false fun _ => rfl) PxLe.nil) (sv_conv (χ := (fun s_1 : Unit => [.fr ((rTup rStr) (q.1)), .fr (rDat (q.2.1)), .un])) (fun _ => ()) sv_nil (fun _ => (Le.same (Le.same (Le.un Le.nil)))))) fun s_1 =>
      (sv_ret (ve_op2 (ve_v rDat (q.2.1)) (ve_cb (va_cons (ve_frL (ve_lc (vs := [2]) (js := [2]) (vi_list (ve_frL (ve_cb (va_cons (ve_v (rTup rStr) (q.1)) va_nil) vn_sortedST))) (hv1 rfl) (vg_name (i := 2)) (fun _ h => h) (fun b_2 => (vt_test (ve_op2 (ve_v rStr (b_2)) (ve_v rDat (q.2.1)) v2_inDT))) (fun b_2 => (ve_v rStr (b_2))))) va_nil) vn_tupL) v2_eqD) PxLe.nil)))
  intro q; delta F_is_set_of Mi.neD Mi.eqD Mi.inD Mi.inDT Mi.idx Mi.sgn Mi.rng Mi.comp Mi.join Mi.popAt Mi.popE Mi.sortI Mi.sortS Mi.sortD Mi.listD Mi.setL Mi.max Mi.min Mi.draw; rfl

abbrev s_all_sets : Stmt := top 5
abbrev N_all_sets : List Str := ["outcomes", "sets", "name", "names"]
theorem sc_all_sets : FnScope ["outcomes", "sets", "name", "names"] ["outcomes"] (defScope s_all_sets) := ⟨rfl, rfl, rfl, by decide +kernel, rfl, by decide +kernel, by decide +kernel⟩
@[irreducible] def F_all_sets (q : (List Str) × Unit) : M (List (List Str)) := M.ret ((let sets_8 : (List (List Str)) := [(([] : List Str))]; (M.seq (M.forL (fun b_9 s_10 => (M.bind (M.bind (Mi.comp (s_10) fun b_11 => (M.bind (M.when ((b_11).length + ([(b_9)]).length ≤ sizeLine) ((b_11) ++ ([(b_9)]))) fun x_12 => M.pure ((some (x_12))))) fun x_13 => (M.when ((s_10).length + (x_13).length ≤ sizeLine) ((s_10) ++ (x_13)))) fun sets_14 => (M.nx ((sets_14))))) (q.1) (sets_8)) fun s_10 => (M.bind (M.nox (F_in_order ((s_10), ()))) fun x_15 => (M.rt (x_15))))) : M (Fl (List (List Str)) Unit))
theorem ok_all_sets {f : Addr} {fd : FuncData} (F : Fun K "all_sets" "all_sets" s_all_sets f fd) (T : TxtB mg) (c_in_order : Cal P w K mg base "in_order" CX0 1 ["sets"] (spG mg K ([(Pt, ("in_order" : Str) ++ ".<locals>." ++ "<lambda>")] : List (Addr × Str)) (fun q : (List (List Str)) × Unit => [(rLst (rTup rStr)) q.1]) F_in_order (Ow (cLst (rTup rStr))))) : FnOk P w K mg base CX0 2 f fd ["outcomes"] (spG mg K ([(Pt, ("in_order" : Str) ++ ".<locals>." ++ "<lambda>")] : List (Addr × Str)) (fun q : (List Str) × Unit => [(rTup rStr) q.1]) F_all_sets (Ow (cLst (rTup rStr)))) := by
  refine F.ok sc_all_sets spG_len (fun cdv A outer s H vs Q E hr h => ?_)
  refine ⟨_, (pss_cons (ps_set (i := 1) sc_all_sets.nd rfl (.inl rfl) (pe_lst (pa_cons (pe_tup pa_nil) pa_nil)))
      (pss_cons (ps_for PassesOwn.never rfl (pi_tup (pv 0)) (pg_name (i := 2) sc_all_sets.nd rfl (.inr rfl)) (pss_one (ps_set (i := 1) sc_all_sets.nd rfl (.inl rfl) (pe_op op_cat (pv 1) (pe_lc (own := [("names", 3)]) (g := gName 3) (tt := tYes) rfl sc_all_sets.nd (pi_list (pv 1)) (blkOk_by (own := [("names", 3)]) (N := N_all_sets) (sc := defScope s_all_sets) (by decide +kernel)) (fun _ _ _ _ _ => (pg_name (i := 3) sc_all_sets.nd rfl (.inl rfl))) (fun _ _ _ _ _ => pts_nil) (fun _ _ _ _ _ => (pe_op (show OpR _ _ (rCatA K) from op_catA) (pv 3) (pe_tup (pa_cons (pv 2) pa_nil)))))))))
      (pss_one (ps_ret (pe_call c_in_order.G (hr.mono (by decide)) (by rfl) c_in_order.g c_in_order.kp c_in_order.b .nil pass0 (pa_cons (pv 1) pa_nil)))))), ?_⟩
  refine fn_G (δ := Unit) (ψ := fun _ _ => []) h ?_ (fun Θ B G0 q => 
      (sv_seq (sv_asg (i := 1) (ve_frL (ve_lstL (rTup rStr) (fun a => [a.1]) (va_cons (ve_tupL rStr (fun _ => ([] : List Str)) va_nil) va_nil))) PxLe.nil) fun sets_8 =>
      (sv_seq (sv_for (ψ := (fun s_10 : (List (List Str)) => [.fr ((rTup rStr) (q.1)), .fr ((rLst (rTup rStr)) (s_10)), .un, .un])) (s0 := (sets_8)) (vi_tup (ve_v (rTup rStr) (q.1))) PxLe.nil (Le.same (Le.same (Le.un (Le.un Le.nil)))) (fun s_10 => (vg_name (i := 2))) (fun b_9 s_10 => (sv_conv (χ := (fun s_10 : (List (List Str)) => [.fr ((rTup rStr) (q.1)), .fr ((rLst (rTup rStr)) (s_10)), .un, .un])) (fun sets_14 => (sets_14)) (sv_asg (i := 1) (ve_frL (ve_op2 (ve_v (rLst (rTup rStr)) (s_10)) (ve_frL (ve_lc (vs := [3]) (js := [3]) (vi_list (ve_v (rLst (rTup rStr)) (s_10))) (hv1 rfl) (vg_name (i := 3)) (fun _ h => h) (fun b_11 => vt_yes) (fun b_11 => (ve_op2 (ve_v (rTup rStr) (b_11)) (ve_tupL rStr (fun a => [a.1]) (va_cons (ve_v rStr (b_9)) va_nil)) v2_catT)))) v2_catL)) PxLe.nil) (fun sets_14 => (Le.same (Le.same (Le.un (Le.un Le.nil)))))))) fun s_10 =>
      (sv_ret (ve_callF (va_cons (ve_v (rLst (rTup rStr)) (s_10)) va_nil)) PxLe.nil))))
  intro q; delta F_all_sets Mi.neD Mi.eqD Mi.inD Mi.inDT Mi.idx Mi.sgn Mi.rng Mi.comp Mi.join Mi.popAt Mi.popE Mi.sortI Mi.sortS Mi.sortD Mi.listD Mi.setL Mi.max Mi.min Mi.draw; rfl

abbrev s_is_set : Stmt := top 6
abbrev N_is_set : List Str := ["outcomes", "value"]
theorem sc_is_set : FnScope ["outcomes", "value"] ["outcomes", "value"] (defScope s_is_set) := ⟨rfl, rfl, rfl, by decide +kernel, rfl, by decide +kernel, by decide +kernel⟩
@[irreducible] def F_is_set (q : (List Str) × PyData × Unit) : M Bool := M.ret ((M.bind (M.nox (F_is_set_of ((q.1), ((q.2.1), ())))) fun x_16 => (M.rt (x_16))) : M (Fl Bool Unit))
theorem ok_is_set {f : Addr} {fd : FuncData} (F : Fun K "is_set" "is_set" s_is_set f fd) (T : TxtB mg) (c_is_set_of : Cal P w K mg base "is_set_of" CX0 1 ["outcomes", "value"] (spG mg K ([(Pt, ("in_order" : Str) ++ ".<locals>." ++ "<lambda>")] : List (Addr × Str)) (fun q : (List Str) × PyData × Unit => [(rTup rStr) q.1, rDat q.2.1]) F_is_set_of (Fz rBl))) : FnOk P w K mg base CX0 2 f fd ["outcomes", "value"] (spG mg K ([(Pt, ("in_order" : Str) ++ ".<locals>." ++ "<lambda>")] : List (Addr × Str)) (fun q : (List Str) × PyData × Unit => [(rTup rStr) q.1, rDat q.2.1]) F_is_set (Fz rBl)) := by
  refine F.ok sc_is_set spG_len (fun cdv A outer s H vs Q E hr h => ?_)
  refine ⟨_, (pss_one (ps_ret (pe_call c_is_set_of.G (hr.mono (by decide)) (by rfl) c_is_set_of.g c_is_set_of.kp c_is_set_of.b .nil pass0 (pa_cons (pv 0) (pa_cons (pv 1) pa_nil))))), ?_⟩
  refine fn_G (δ := Unit) (ψ := fun _ _ => []) h ?_ (fun Θ B G0 q => 
      (sv_ret (ve_callF (va_cons (ve_v (rTup rStr) (q.1)) (va_cons (ve_v rDat (q.2.1)) va_nil))) PxLe.nil))
  intro q; delta F_is_set Mi.neD Mi.eqD Mi.inD Mi.inDT Mi.idx Mi.sgn Mi.rng Mi.comp Mi.join Mi.popAt Mi.popE Mi.sortI Mi.sortS Mi.sortD Mi.listD Mi.setL Mi.max Mi.min Mi.draw; rfl

abbrev s_others : Stmt := top 7
abbrev N_others : List Str := ["outcomes", "wanted", "name"]
theorem sc_others : FnScope ["outcomes", "wanted", "name"] ["outcomes", "wanted"] (defScope s_others) := ⟨rfl, rfl, rfl, by decide +kernel, rfl, by decide +kernel, by decide +kernel⟩
@[irreducible] def F_others (q : (List Str) × (List Str) × Unit) : M (List Str) := M.ret ((M.bind (M.bind (Mi.comp (q.1) fun b_17 => (M.ite ((!decide ((b_17) ∈ (q.2.1)))) (M.pure ((some (b_17)))) (M.pure none))) fun x_18 => M.pure (x_18)) fun x_19 => (M.rt (x_19))) : M (Fl (List Str) Unit))
theorem ok_others {f : Addr} {fd : FuncData} (F : Fun K "others" "others" s_others f fd) (T : TxtB mg) : FnOk P w K mg base CX0 1 f fd ["outcomes", "wanted"] (spG mg K ([(Pt, ("in_order" : Str) ++ ".<locals>." ++ "<lambda>")] : List (Addr × Str)) (fun q : (List Str) × (List Str) × Unit => [(rTup rStr) q.1, (rTup rStr) q.2.1]) F_others (Fz (rTup rStr))) := by
  refine F.ok sc_others spG_len (fun cdv A outer s H vs Q E hr h => ?_)
  refine ⟨_, (pss_one (ps_ret (pe_callTy call_tuple_of (by rfl) T.z_tuple (by decide +kernel) (pa_cons (pe_lc (own := [("name", 2)]) (g := gName 2) rfl sc_others.nd (pi_tup (pv 0)) (blkOk_by (own := [("name", 2)]) (N := N_others) (sc := defScope s_others) (by decide +kernel)) (fun _ _ _ _ _ => (pg_name (i := 2) sc_others.nd rfl (.inl rfl))) (fun _ _ _ _ _ => (pts_one (pt_cmpR (op_niF (K := K) rfl) (pv 2) (pv 1) (by rfl)))) (fun _ _ _ _ _ => (pv 2))) pa_nil)))), ?_⟩
  refine fn_G (δ := Unit) (ψ := fun _ _ => []) h ?_ (fun Θ B G0 q => 
      (sv_ret (ve_cb (va_cons (ve_frL (ve_lc (vs := [2]) (js := [2]) (vi_tup (ve_v (rTup rStr) (q.1))) (hv1 rfl) (vg_name (i := 2)) (fun _ h => h) (fun b_17 => (vt_test (ve_op2 (ve_v rStr (b_17)) (ve_v (rTup rStr) (q.2.1)) v2_niT))) (fun b_17 => (ve_v rStr (b_17))))) va_nil) vn_tupL) PxLe.nil))
  intro q; delta F_others Mi.neD Mi.eqD Mi.inD Mi.inDT Mi.idx Mi.sgn Mi.rng Mi.comp Mi.join Mi.popAt Mi.popE Mi.sortI Mi.sortS Mi.sortD Mi.listD Mi.setL Mi.max Mi.min Mi.draw; rfl

abbrev s_Lnames : Stmt := top 11
abbrev N_Lnames : List Str := ["_law_state", "_law_count", "_law_signs", "_law_stem", "_law_letter", "_law_offset", "_law_stride", "_law_plan", "_law_step", "_law_whole", "_law_words", "_law_k", "_law_sign", "_law_back"]
theorem sc_Lnames : FnScope ["_law_state", "_law_count", "_law_signs", "_law_stem", "_law_letter", "_law_offset", "_law_stride", "_law_plan", "_law_step", "_law_whole", "_law_words", "_law_k", "_law_sign", "_law_back"] ["_law_state", "_law_count"] (defScope s_Lnames) := ⟨rfl, rfl, rfl, by decide +kernel, rfl, by decide +kernel, by decide +kernel⟩
@[irreducible] def F_Lnames (q : Int × Unit) : M (List Str) := M.ret ((let l_signs_20 : Str := ("abcdefghijklmnopqrstuvwxyz0123456789" : Str); (M.bind (M.bind (M.bind (M.bind (M.nox (F_Ldraw (((5 : Int)), ()))) fun x_21 => (Mi.rng 0 (x_21))) fun x_25 => (Mi.comp (x_25) fun b_22 => (M.bind (M.bind (M.nox (F_Ldraw (((36 : Int)), ()))) fun x_23 => (Mi.sgn (l_signs_20) (x_23))) fun x_24 => M.pure ((some (x_24)))))) fun x_26 => (Mi.join (("" : Str)) (x_26))) fun l_stem_27 => (M.bind (M.bind (M.nox (F_Ldraw (((26 : Int)), ()))) fun x_28 => (Mi.sgn (l_signs_20) (x_28))) fun l_letter_29 => (M.bind (M.nox (F_Ldraw (((26 : Int)), ()))) fun l_offset_30 => (M.bind (M.bind (M.nox (F_Ldraw (((6 : Int)), ()))) fun x_31 => (Mi.idx ([((1 : Int)), ((3 : Int)), ((5 : Int)), ((7 : Int)), ((9 : Int)), ((11 : Int))]) (x_31))) fun l_stride_32 => (M.bind (M.nox (F_Ldraw (((7 : Int)), ()))) fun l_plan_33 => (M.seq (M.ite ((((decide ((l_plan_33) = ((6 : Int))))) && ((decide ((q.1) < ((7 : Int))))))) (M.rt ((cutL ([(("rows" : Str)), (("leaf" : Str)), (("x" : Str)), (("x1" : Str)), (("x10" : Str)), (("none" : Str))]) none (some (q.1))))) (M.nx (()))) fun s_34 => (M.seq (M.ite ((((decide ((l_plan_33) = ((4 : Int))))) || ((((decide ((l_plan_33) = ((5 : Int))))) && ((decide (((6 : Int)) < (q.1)))))))) (M.bind (M.bind (M.nox (F_Ldraw (((9 : Int)), ()))) fun x_44 => M.pure (((1 : Int) + x_44))) fun l_step_45 => (M.bind (M.bind (Mi.rng 0 (q.1)) fun x_50 => (Mi.comp (x_50) fun b_46 => (M.bind (M.bind (M.bind (M.when (CMulW (l_step_45) ((b_46 + (1 : Int)))) ((l_step_45) * ((b_46 + (1 : Int))))) fun x_47 => (M.strI (x_47))) fun x_48 => (M.when ((l_letter_29).length + (x_48).length ≤ sizeLine) ((l_letter_29) ++ (x_48)))) fun x_49 => M.pure ((some (x_49)))))) fun x_51 => (M.rt (x_51)))) (M.nx (()))) fun s_43 => (M.seq (M.ite ((decide ((l_plan_33) = ((5 : Int))))) (M.bind (M.bind (M.bind (M.bind (Mi.rng 0 ((5 : Int))) fun x_67 => (Mi.comp (x_67) fun b_64 => (M.bind (M.bind (M.nox (F_Ldraw (((36 : Int)), ()))) fun x_65 => (Mi.sgn (l_signs_20) (x_65))) fun x_66 => M.pure ((some (x_66)))))) fun x_68 => (Mi.join (("" : Str)) (x_68))) fun x_69 => (M.when ((l_letter_29).length + (x_69).length ≤ sizeLine) ((l_letter_29) ++ (x_69)))) fun l_whole_70 => (M.bind (M.bind (Mi.rng 0 (q.1)) fun x_73 => (Mi.comp (x_73) fun b_71 => (M.bind (M.when ((l_whole_70).length ≤ sizeLine) (cutS (l_whole_70) none (some ((b_71 + (1 : Int)))))) fun x_72 => M.pure ((some (x_72)))))) fun x_74 => (M.rt (x_74)))) (M.nx (()))) fun s_63 => (let l_words_75 : (List Str) := ([] : List Str); (M.seq (M.bind (Mi.rng 0 (q.1)) fun x_94 => (M.forL (fun b_76 s_77 => (M.bind (M.bind (M.bind (M.bind (M.bind (M.when (CMulW (l_stride_32) (b_76)) ((l_stride_32) * (b_76))) fun x_78 => M.pure ((l_offset_30 + x_78))) fun x_79 => M.pure (x_79)) fun x_80 => (M.when (((26 : Int)) ≠ 0) ((x_80).fmod ((26 : Int))))) fun x_81 => (Mi.sgn (l_signs_20) (x_81))) fun l_sign_82 => (M.bind (M.bind (M.bind (M.ite ((decide (((1 : Int)) < (l_plan_33)))) (M.bind (M.when (((2 : Int)) ≠ 0) ((b_76).fmod ((2 : Int)))) fun x_83 => M.pure ((decide ((x_83) = ((1 : Int)))))) (M.pure false)) fun x_84 => M.pure ((if (x_84) then (1 : Int) else 0))) fun x_85 => (Mi.idx ([(l_stem_27), (("" : Str))]) (x_85))) fun l_back_86 => (M.bind (M.bind (M.bind (M.bind (M.bind (M.when ((l_letter_29).length + (l_back_86).length ≤ sizeLine) ((l_letter_29) ++ (l_back_86))) fun x_88 => (M.when ((x_88).length + (l_sign_82).length ≤ sizeLine) ((x_88) ++ (l_sign_82)))) fun x_89 => (M.bind (M.when ((l_sign_82).length + (l_back_86).length ≤ sizeLine) ((l_sign_82) ++ (l_back_86))) fun x_90 => M.pure ([(x_89), (x_90)]))) fun x_91 => (M.bind (M.when (((2 : Int)) ≠ 0) ((l_plan_33).fmod ((2 : Int)))) fun x_92 => (Mi.idx (x_91) (x_92)))) fun x_93 => (M.when ((s_77).length < sizeLine) (x_93))) fun l_words_87 => (M.nx (((s_77 ++ [l_words_87])))))))) (x_94) (l_words_75))) fun s_77 => (M.rt (s_77))))))))))))) : M (Fl (List Str) Unit))
theorem ok_Lnames {f : Addr} {fd : FuncData} (F : Fun K "_law_names" "_law_names" s_Lnames f fd) (T : TxtB mg) (c_Ldraw : Cal P w K mg base "_law_draw" CX0 1 ["_law_state", "_law_size"] (spT mg K ([(Pt, ("in_order" : Str) ++ ".<locals>." ++ "<lambda>")] : List (Addr × Str)) thV (fun s (q : Int × Unit) => [rSt s, rInt q.1]) F_Ldraw (Fz rInt))) : FnOk P w K mg base CX0 2 f fd ["_law_state", "_law_count"] (spT mg K ([(Pt, ("in_order" : Str) ++ ".<locals>." ++ "<lambda>")] : List (Addr × Str)) thV (fun s (q : Int × Unit) => [rSt s, rInt q.1]) F_Lnames (Ow (cLst rStr))) := by
  refine F.ok sc_Lnames spT_len (fun cdv A outer s H vs Q E hr h => ?_)
  refine ⟨_, (pss_cons (ps_set (i := 2) sc_Lnames.nd rfl (.inr rfl) pe_str)
      (pss_cons (ps_set (i := 3) sc_Lnames.nd rfl (.inl rfl) (pe_join pe_str (pe_lc (own := [("_law_k", 11)]) (g := gName 11) (tt := tYes) rfl sc_Lnames.nd (pi_range1 rfl T.z_range (pa_cons (pe_call c_Ldraw.G (hr.mono (by decide)) (by rfl) c_Ldraw.g c_Ldraw.kp c_Ldraw.b .nil pass0 (pa_cons (pv 0) (pa_cons pe_int pa_nil))) pa_nil)) (blkOk_by (own := [("_law_k", 11)]) (N := N_Lnames) (sc := defScope s_Lnames) (by decide +kernel)) (fun _ _ _ _ _ => (pg_name (i := 11) sc_Lnames.nd rfl (.inl rfl))) (fun _ _ _ _ _ => pts_nil) (fun _ _ _ _ _ => (pe_ix ix_str (pv 2) (pe_call c_Ldraw.G (hr.mono (by decide)) (by rfl) c_Ldraw.g c_Ldraw.kp c_Ldraw.b .nil pass0 (pa_cons (pv 0) (pa_cons pe_int pa_nil))) (fun _ _ => rfl))))))
      (pss_cons (ps_set (i := 4) sc_Lnames.nd rfl (.inr rfl) (pe_ix ix_str (pv 2) (pe_call c_Ldraw.G (hr.mono (by decide)) (by rfl) c_Ldraw.g c_Ldraw.kp c_Ldraw.b .nil pass0 (pa_cons (pv 0) (pa_cons pe_int pa_nil))) (fun _ _ => rfl)))
      (pss_cons (ps_set (i := 5) sc_Lnames.nd rfl (.inl rfl) (pe_call c_Ldraw.G (hr.mono (by decide)) (by rfl) c_Ldraw.g c_Ldraw.kp c_Ldraw.b .nil pass0 (pa_cons (pv 0) (pa_cons pe_int pa_nil))))
      (pss_cons (ps_set (i := 6) sc_Lnames.nd rfl (.inl rfl) (pe_ix ix_list (pe_lst (pa_cons pe_int (pa_cons pe_int (pa_cons pe_int (pa_cons pe_int (pa_cons pe_int (pa_cons pe_int pa_nil))))))) (pe_call c_Ldraw.G (hr.mono (by decide)) (by rfl) c_Ldraw.g c_Ldraw.kp c_Ldraw.b .nil pass0 (pa_cons (pv 0) (pa_cons pe_int pa_nil))) (fun _ _ => rfl)))
      (pss_cons (ps_set (i := 7) sc_Lnames.nd rfl (.inl rfl) (pe_call c_Ldraw.G (hr.mono (by decide)) (by rfl) c_Ldraw.g c_Ldraw.kp c_Ldraw.b .nil pass0 (pa_cons (pv 0) (pa_cons pe_int pa_nil))))
      (pss_cons (ps_if (PW.pt (pw_and (pt_cmpR op_eq (pv 7) pe_int (nomark _)) (pw_and1 (pt_cmpR op_lt (pv 1) pe_int (nomark _))))) (pss_one (ps_ret (pe_slice sl_list (pe_lst (pa_cons pe_str (pa_cons pe_str (pa_cons pe_str (pa_cons pe_str (pa_cons pe_str (pa_cons pe_str pa_nil))))))) po_none (po_some (pv 1))))) pss_nil)
      (pss_cons (ps_if (PW.pt (pw_or (pt_cmpR op_eq (pv 7) pe_int (nomark _)) (pw_or1 (PW.pt (pw_and (pt_cmpR op_eq (pv 7) pe_int (nomark _)) (pw_and1 (pt_cmpR op_gt (pv 1) pe_int (nomark _)))))))) (pss_cons (ps_set (i := 8) sc_Lnames.nd rfl (.inr rfl) (pe_op op_add pe_int (pe_call c_Ldraw.G (hr.mono (by decide)) (by rfl) c_Ldraw.g c_Ldraw.kp c_Ldraw.b .nil pass0 (pa_cons (pv 0) (pa_cons pe_int pa_nil)))))
      (pss_one (ps_ret (pe_lc (own := [("_law_k", 11)]) (g := gName 11) (tt := tYes) rfl sc_Lnames.nd (pi_range1 rfl T.z_range (pa_cons (pv 1) pa_nil)) (blkOk_by (own := [("_law_k", 11)]) (N := N_Lnames) (sc := defScope s_Lnames) (by decide +kernel)) (fun _ _ _ _ _ => (pg_name (i := 11) sc_Lnames.nd rfl (.inl rfl))) (fun _ _ _ _ _ => pts_nil) (fun _ _ _ _ _ => (pe_op op_add_str (pv 4) (pe_callTy call_str_int (by rfl) T.z_str (by decide +kernel) (pa_cons (pe_op op_mulW (pv 8) (pe_op op_add (pv 11) pe_int)) pa_nil)))))))) pss_nil)
      (pss_cons (ps_if (pt_cmpR op_eq (pv 7) pe_int (nomark _)) (pss_cons (ps_set (i := 9) sc_Lnames.nd rfl (.inr rfl) (pe_op op_add_str (pv 4) (pe_join pe_str (pe_lc (own := [("_law_k", 11)]) (g := gName 11) (tt := tYes) rfl sc_Lnames.nd (pi_range1 rfl T.z_range (pa_cons pe_int pa_nil)) (blkOk_by (own := [("_law_k", 11)]) (N := N_Lnames) (sc := defScope s_Lnames) (by decide +kernel)) (fun _ _ _ _ _ => (pg_name (i := 11) sc_Lnames.nd rfl (.inl rfl))) (fun _ _ _ _ _ => pts_nil) (fun _ _ _ _ _ => (pe_ix ix_str (pv 2) (pe_call c_Ldraw.G (hr.mono (by decide)) (by rfl) c_Ldraw.g c_Ldraw.kp c_Ldraw.b .nil pass0 (pa_cons (pv 0) (pa_cons pe_int pa_nil))) (fun _ _ => rfl)))))))
      (pss_one (ps_ret (pe_lc (own := [("_law_k", 11)]) (g := gName 11) (tt := tYes) rfl sc_Lnames.nd (pi_range1 rfl T.z_range (pa_cons (pv 1) pa_nil)) (blkOk_by (own := [("_law_k", 11)]) (N := N_Lnames) (sc := defScope s_Lnames) (by decide +kernel)) (fun _ _ _ _ _ => (pg_name (i := 11) sc_Lnames.nd rfl (.inl rfl))) (fun _ _ _ _ _ => pts_nil) (fun _ _ _ _ _ => (pe_slice sl_str (pv 9) po_none (po_some (pe_op op_add (pv 11) pe_int)))))))) pss_nil)
      (pss_cons (ps_set (i := 10) sc_Lnames.nd rfl (.inl rfl) (pe_lst pa_nil))
      (pss_cons (ps_for PassesOwn.never rfl (pi_range1 rfl T.z_range (pa_cons (pv 1) pa_nil)) (pg_name (i := 11) sc_Lnames.nd rfl (.inl rfl)) (pss_cons (ps_set (i := 12) sc_Lnames.nd rfl (.inl rfl) (pe_ix ix_str (pv 2) (pe_op op_modN (pe_callTy call_int1 (by rfl) T.z_int (by decide +kernel) (pa_cons (pe_op op_add (pv 5) (pe_op op_mulW (pv 6) (pv 11))) pa_nil)) pe_int) (fun _ _ => rfl)))
      (pss_cons (ps_set (i := 13) sc_Lnames.nd rfl (.inl rfl) (pe_ix ix_list (pe_lst (pa_cons (pv 3) (pa_cons pe_str pa_nil))) (pe_callTy call_int1 (by rfl) T.z_int (by decide +kernel) (pa_cons (pe_and (pe_cmpR op_gt (pv 7) pe_int (nomark _)) (pe_one (pe_cmpR op_eq (pe_op op_modN (pv 11) pe_int) pe_int (nomark _)))) pa_nil)) (fun _ _ => rfl)))
      (pss_one (ps_expr (pe_bm PySem.F.plainAttrs_list PySem.F.slot_list_append PySem.F.type_list_append mt_append (pv 10) (pa_cons (pe_ix ix_list (pe_lst (pa_cons (pe_op op_add_str (pe_op op_add_str (pv 4) (pv 13)) (pv 12)) (pa_cons (pe_op op_add_str (pv 12) (pv 13)) pa_nil))) (pe_op op_modN (pe_callTy call_int1 (by rfl) T.z_int (by decide +kernel) (pa_cons (pv 7) pa_nil)) pe_int) (fun _ _ => rfl)) pa_nil)))))))
      (pss_one (ps_ret (pv 10)))))))))))))), ?_⟩
  refine fn_T (δ := Unit) (ψ := fun _ _ _ => []) h ?_ (fun s B G0 q => 
      (sv_seq (sv_asg (i := 2) (ve_c rStr ("abcdefghijklmnopqrstuvwxyz0123456789" : Str) fun _ => rfl) PxLe.nil) fun l_signs_20 =>
      (sv_seq (sv_asg (i := 3) (ve_join (ve_c rStr ("" : Str) fun _ => rfl) (ve_frL (ve_lc (vs := [11]) (js := [11]) (vi_range1 (ve_callFT rfl (va_st s (va_cons (ve_c rInt 5 fun _ => rfl) va_nil)))) (hv1 rfl) (vg_name (i := 11)) (fun _ h => h) (fun b_22 => vt_yes) (fun b_22 => (ve_op2 (ve_v rStr (l_signs_20)) (ve_callFT rfl (va_st s (va_cons (ve_c rInt 36 fun _ => rfl) va_nil))) v2_ixS))))) PxLe.nil) fun l_stem_27 =>
      (sv_seq (sv_asg (i := 4) (ve_op2 (ve_v rStr (l_signs_20)) (ve_callFT rfl (va_st s (va_cons (ve_c rInt 26 fun _ => rfl) va_nil))) v2_ixS) PxLe.nil) fun l_letter_29 =>
      (sv_seq (sv_asg (i := 5) (ve_callFT rfl (va_st s (va_cons (ve_c rInt 26 fun _ => rfl) va_nil))) PxLe.nil) fun l_offset_30 =>
      (sv_seq (sv_asg (i := 6) (ve_op2 (ve_frL (ve_lstL rInt (fun a => [a.1, a.2.1, a.2.2.1, a.2.2.2.1, a.2.2.2.2.1, a.2.2.2.2.2.1]) (va_cons (ve_c rInt 1 fun _ => rfl) (va_cons (ve_c rInt 3 fun _ => rfl) (va_cons (ve_c rInt 5 fun _ => rfl) (va_cons (ve_c rInt 7 fun _ => rfl) (va_cons (ve_c rInt 9 fun _ => rfl) (va_cons (ve_c rInt 11 fun _ => rfl) va_nil)))))))) (ve_callFT rfl (va_st s (va_cons (ve_c rInt 6 fun _ => rfl) va_nil))) v2_ixL) PxLe.nil) fun l_stride_32 =>
      (sv_seq (sv_asg (i := 7) (ve_callFT rfl (va_st s (va_cons (ve_c rInt 7 fun _ => rfl) va_nil))) PxLe.nil) fun l_plan_33 =>
      (sv_seq (sv_if (vt_andP (vt_test (ve_op2 (ve_v rInt (l_plan_33)) (ve_c rInt 6 fun _ => rfl) v2_eqI)) (vt_test (ve_op2 (ve_v rInt (q.1)) (ve_c rInt 7 fun _ => rfl) v2_lt))) PxLe.nil (sv_ret (ve_sl (ve_frL (ve_lstL rStr (fun a => [a.1, a.2.1, a.2.2.1, a.2.2.2.1, a.2.2.2.2.1, a.2.2.2.2.2.1]) (va_cons (ve_c rStr ("rows" : Str) fun _ => rfl) (va_cons (ve_c rStr ("leaf" : Str) fun _ => rfl) (va_cons (ve_c rStr ("x" : Str) fun _ => rfl) (va_cons (ve_c rStr ("x1" : Str) fun _ => rfl) (va_cons (ve_c rStr ("x10" : Str) fun _ => rfl) (va_cons (ve_c rStr ("none" : Str) fun _ => rfl) va_nil)))))))) vo_none (vo_some (ve_v rInt (q.1))) v3_slL) PxLe.nil) (sv_conv (χ := (fun s_34 : Unit => [.fr (rSt s), .fr (rInt (q.1)), .fr (rStr (l_signs_20)), .fr (rStr (l_stem_27)), .fr (rStr (l_letter_29)), .fr (rInt (l_offset_30)), .fr (rInt (l_stride_32)), .fr (rInt (l_plan_33)), .un, .un, .un, .un, .un, .un])) (fun _ => ()) sv_nil (fun _ => (Le.same (Le.same (Le.same (Le.same (Le.same (Le.same (Le.same (Le.same (Le.un (Le.un (Le.un (Le.un (Le.un (Le.un Le.nil))))))))))))))))) fun s_34 =>
      (sv_seq (sv_if (vt_orP (vt_test (ve_op2 (ve_v rInt (l_plan_33)) (ve_c rInt 4 fun _ => rfl) v2_eqI)) (vt_andP (vt_test (ve_op2 (ve_v rInt (l_plan_33)) (ve_c rInt 5 fun _ => rfl) v2_eqI)) (vt_test (ve_op2 (ve_v rInt (q.1)) (ve_c rInt 6 fun _ => rfl) v2_gt)))) PxLe.nil (sv_seq (sv_asg (i := 8) (ve_op2 (ve_c rInt 1 fun _ => rfl) (ve_callFT rfl (va_st s (va_cons (ve_c rInt 9 fun _ => rfl) va_nil))) v2_add) PxLe.nil) fun l_step_45 =>
      (sv_ret (ve_lc (vs := [11]) (js := [11]) (vi_range1 (ve_v rInt (q.1))) (hv1 rfl) (vg_name (i := 11)) (fun _ h => h) (fun b_46 => vt_yes) (fun b_46 => (ve_op2 (ve_v rStr (l_letter_29)) (ve_cb (va_cons (ve_op2 (ve_v rInt (l_step_45)) (ve_op2 (ve_v rInt (b_46)) (ve_c rInt 1 fun _ => rfl) v2_add) v2_mul) va_nil) vn_strI) v2_catS))) PxLe.nil)) (sv_conv (χ := (fun s_43 : Unit => [.fr (rSt s), .fr (rInt (q.1)), .fr (rStr (l_signs_20)), .fr (rStr (l_stem_27)), .fr (rStr (l_letter_29)), .fr (rInt (l_offset_30)), .fr (rInt (l_stride_32)), .fr (rInt (l_plan_33)), .un, .un, .un, .un, .un, .un])) (fun _ => ()) sv_nil (fun _ => (Le.same (Le.same (Le.same (Le.same (Le.same (Le.same (Le.same (Le.same (Le.un (Le.un (Le.un (Le.un (Le.un (Le.un Le.nil))))))))))))))))) fun s_43 =>
      (sv_seq (sv_if (vt_test (ve_op2 (ve_v rInt (l_plan_33)) (ve_c rInt 5 fun _ => rfl) v2_eqI)) PxLe.nil (sv_seq (sv_asg (i := 9) (ve_op2 (ve_v rStr (l_letter_29)) (ve_join (ve_c rStr ("" : Str) fun _ => rfl) (ve_frL (ve_lc (vs := [11]) (js := [11]) (vi_range1 (ve_c rInt 5 fun _ => rfl)) (hv1 rfl) (vg_name (i := 11)) (fun _ h => h) (fun b_64 => vt_yes) (fun b_64 => (ve_op2 (ve_v rStr (l_signs_20)) (ve_callFT rfl (va_st s (va_cons (ve_c rInt 36 fun _ => rfl) va_nil))) v2_ixS))))) v2_catS) PxLe.nil) fun l_whole_70 =>
      (sv_ret (ve_lc (vs := [11]) (js := [11]) (vi_range1 (ve_v rInt (q.1))) (hv1 rfl) (vg_name (i := 11)) (fun _ h => h) (fun b_71 => vt_yes) (fun b_71 => (ve_sl (ve_v rStr (l_whole_70)) vo_none (vo_some (ve_op2 (ve_v rInt (b_71)) (ve_c rInt 1 fun _ => rfl) v2_add)) v3_slS))) PxLe.nil)) (sv_conv (χ := (fun s_63 : Unit => [.fr (rSt s), .fr (rInt (q.1)), .fr (rStr (l_signs_20)), .fr (rStr (l_stem_27)), .fr (rStr (l_letter_29)), .fr (rInt (l_offset_30)), .fr (rInt (l_stride_32)), .fr (rInt (l_plan_33)), .un, .un, .un, .un, .un, .un])) (fun _ => ()) sv_nil (fun _ => (Le.same (Le.same (Le.same (Le.same (Le.same (Le.same (Le.same (Le.same (Le.un (Le.un (Le.un (Le.un (Le.un (Le.un Le.nil))))))))))))))))) fun s_63 =>
      (sv_seq (sv_asg (i := 10) (ve_lstL rStr (fun _ => ([] : List Str)) va_nil) PxLe.nil) fun l_words_75 =>
      (sv_seq (sv_for (ψ := (fun s_77 : (List Str) => [.fr (rSt s), .fr (rInt (q.1)), .fr (rStr (l_signs_20)), .fr (rStr (l_stem_27)), .fr (rStr (l_letter_29)), .fr (rInt (l_offset_30)), .fr (rInt (l_stride_32)), .fr (rInt (l_plan_33)), .un, .un, .ow (cLst rStr (s_77)), .un, .un, .un])) (s0 := (l_words_75)) (vi_range1 (ve_v rInt (q.1))) PxLe.nil (Le.same (Le.same (Le.same (Le.same (Le.same (Le.same (Le.same (Le.same (Le.un (Le.un (Le.same (Le.un (Le.un (Le.un Le.nil)))))))))))))) (fun s_77 => (vg_name (i := 11))) (fun b_76 s_77 => (sv_seq (sv_asg (i := 12) (ve_op2 (ve_v rStr (l_signs_20)) (ve_op2 (ve_cb (va_cons (ve_op2 (ve_v rInt (l_offset_30)) (ve_op2 (ve_v rInt (l_stride_32)) (ve_v rInt (b_76)) v2_mul) v2_add) va_nil) vn_intI) (ve_c rInt 26 fun _ => rfl) v2_mod) v2_ixS) PxLe.nil) fun l_sign_82 =>
      (sv_seq (sv_asg (i := 13) (ve_op2 (ve_frL (ve_lstL rStr (fun a => [a.1, a.2.1]) (va_cons (ve_v rStr (l_stem_27)) (va_cons (ve_c rStr ("" : Str) fun _ => rfl) va_nil)))) (ve_cb (va_cons (ve_and (ve_op2 (ve_v rInt (l_plan_33)) (ve_c rInt 1 fun _ => rfl) v2_gt) (ve_op2 (ve_op2 (ve_v rInt (b_76)) (ve_c rInt 2 fun _ => rfl) v2_mod) (ve_c rInt 1 fun _ => rfl) v2_eqI)) va_nil) vn_intB) v2_ixL) PxLe.nil) fun l_back_86 =>
      (sv_conv (χ := (fun s_77 : (List Str) => [.fr (rSt s), .fr (rInt (q.1)), .fr (rStr (l_signs_20)), .fr (rStr (l_stem_27)), .fr (rStr (l_letter_29)), .fr (rInt (l_offset_30)), .fr (rInt (l_stride_32)), .fr (rInt (l_plan_33)), .un, .un, .ow (cLst rStr (s_77)), .un, .un, .un])) (fun l_words_87 => ((s_77 ++ [l_words_87]))) (sv_append (i := 10) (ve_op2 (ve_frL (ve_lstL rStr (fun a => [a.1, a.2.1]) (va_cons (ve_op2 (ve_op2 (ve_v rStr (l_letter_29)) (ve_v rStr (l_back_86)) v2_catS) (ve_v rStr (l_sign_82)) v2_catS) (va_cons (ve_op2 (ve_v rStr (l_sign_82)) (ve_v rStr (l_back_86)) v2_catS) va_nil)))) (ve_op2 (ve_cb (va_cons (ve_v rInt (l_plan_33)) va_nil) vn_intI) (ve_c rInt 2 fun _ => rfl) v2_mod) v2_ixL) PxLe.nil) (fun l_words_87 => (Le.same (Le.same (Le.same (Le.same (Le.same (Le.same (Le.same (Le.same (Le.un (Le.un (Le.same (Le.un (Le.un (Le.un Le.nil)))))))))))))))))))) fun s_77 =>
      (sv_retO (c := cLst rStr) (b := s_77) (i := 10))))))))))))))
  intro q; delta F_Lnames Mi.neD Mi.eqD Mi.inD Mi.inDT Mi.idx Mi.sgn Mi.rng Mi.comp Mi.join Mi.popAt Mi.popE Mi.sortI Mi.sortS Mi.sortD Mi.listD Mi.setL Mi.max Mi.min Mi.draw; rfl

abbrev s_Lsets : Stmt := top 12
abbrev N_Lsets : List Str := ["_law_names_here", "_law_found", "_law_label", "_law_chosen", "_law_pair"]
theorem sc_Lsets : FnScope ["_law_names_here", "_law_found", "_law_label", "_law_chosen", "_law_pair"] ["_law_names_here"] (defScope s_Lsets) := ⟨rfl, rfl, rfl, by decide +kernel, rfl, by decide +kernel, by decide +kernel⟩
@[irreducible] def F_Lsets (q : (List Str) × Unit) : M (List (List Str)) := M.ret ((let l_found_95 : (List (List Str)) := [(([] : List Str))]; (M.seq (M.forL (fun b_96 s_97 => (M.bind (M.bind (Mi.comp (s_97) fun b_98 => (M.bind (M.when ((b_98).length + ([(b_96)]).length ≤ sizeLine) ((b_98) ++ ([(b_96)]))) fun x_99 => M.pure ((some (x_99))))) fun x_100 => (M.when ((s_97).length + (x_100).length ≤ sizeLine) ((s_97) ++ (x_100)))) fun l_found_101 => (M.nx ((l_found_101))))) (q.1) (l_found_95)) fun s_97 => (M.bind (M.bind (M.bind (Mi.comp (s_97) fun b_102 => M.pure ((some (((((b_102).length : Int)), (b_102)))))) fun x_103 => (Mi.sortD (IsD.d (rPr rInt (rTup rStr))) (x_103))) fun x_105 => (Mi.comp (x_105) fun b_104 => M.pure ((some ((b_104).2))))) fun x_106 => (M.rt (x_106))))) : M (Fl (List (List Str)) Unit))
theorem ok_Lsets {f : Addr} {fd : FuncData} (F : Fun K "_law_sets" "_law_sets" s_Lsets f fd) (T : TxtB mg) : FnOk P w K mg base CX0 1 f fd ["_law_names_here"] (spG mg K ([(Pt, ("in_order" : Str) ++ ".<locals>." ++ "<lambda>")] : List (Addr × Str)) (fun q : (List Str) × Unit => [(rTup rStr) q.1]) F_Lsets (Ow (cLst (rTup rStr)))) := by
  refine F.ok sc_Lsets spG_len (fun cdv A outer s H vs Q E hr h => ?_)
  refine ⟨_, (pss_cons (ps_set (i := 1) sc_Lsets.nd rfl (.inl rfl) (pe_lst (pa_cons (pe_tup pa_nil) pa_nil)))
      (pss_cons (ps_for PassesOwn.never rfl (pi_tup (pv 0)) (pg_name (i := 2) sc_Lsets.nd rfl (.inr rfl)) (pss_one (ps_set (i := 1) sc_Lsets.nd rfl (.inl rfl) (pe_op op_cat (pv 1) (pe_lc (own := [("_law_chosen", 3)]) (g := gName 3) (tt := tYes) rfl sc_Lsets.nd (pi_list (pv 1)) (blkOk_by (own := [("_law_chosen", 3)]) (N := N_Lsets) (sc := defScope s_Lsets) (by decide +kernel)) (fun _ _ _ _ _ => (pg_name (i := 3) sc_Lsets.nd rfl (.inl rfl))) (fun _ _ _ _ _ => pts_nil) (fun _ _ _ _ _ => (pe_op (show OpR _ _ (rCatA K) from op_catA) (pv 3) (pe_tup (pa_cons (pv 2) pa_nil)))))))))
      (pss_one (ps_ret (pe_lc (own := [("_law_pair", 4)]) (g := gName 4) (tt := tYes) rfl sc_Lsets.nd (pi_list (pe_callB (cr_sortD (enc := IsD.d (rPr rInt (rTup rStr))) (hu100 hr)) (by rfl) T.z_sorted (by decide +kernel) (pa_cons (pe_lc (own := [("_law_chosen", 3)]) (g := gName 3) (tt := tYes) rfl sc_Lsets.nd (pi_list (pv 1)) (blkOk_by (own := [("_law_chosen", 3)]) (N := N_Lsets) (sc := defScope s_Lsets) (by decide +kernel)) (fun _ _ _ _ _ => (pg_name (i := 3) sc_Lsets.nd rfl (.inl rfl))) (fun _ _ _ _ _ => pts_nil) (fun _ _ _ _ _ => (pe_tup (pa_cons (pe_callB (show CallR _ _ (rLenSq K) from call_len_seq) (by rfl) T.z_len PySem.boot_len (pa_cons (pv 3) pa_nil)) (pa_cons (pv 3) pa_nil))))) pa_nil))) (blkOk_by (own := [("_law_pair", 4)]) (N := N_Lsets) (sc := defScope s_Lsets) (by decide +kernel)) (fun _ _ _ _ _ => (pg_name (i := 4) sc_Lsets.nd rfl (.inl rfl))) (fun _ _ _ _ _ => pts_nil) (fun _ _ _ _ _ => (pe_ix (ix_tupF (K := K) rfl) (pv 4) pe_int (fun _ _ => rfl)))))))), ?_⟩
  refine fn_G (δ := Unit) (ψ := fun _ _ => []) h ?_ (fun Θ B G0 q => 
      (sv_seq (sv_asg (i := 1) (ve_frL (ve_lstL (rTup rStr) (fun a => [a.1]) (va_cons (ve_tupL rStr (fun _ => ([] : List Str)) va_nil) va_nil))) PxLe.nil) fun l_found_95 =>
      (sv_seq (sv_for (ψ := (fun s_97 : (List (List Str)) => [.fr ((rTup rStr) (q.1)), .fr ((rLst (rTup rStr)) (s_97)), .un, .un, .un])) (s0 := (l_found_95)) (vi_tup (ve_v (rTup rStr) (q.1))) PxLe.nil (Le.same (Le.same (Le.un (Le.un (Le.un Le.nil))))) (fun s_97 => (vg_name (i := 2))) (fun b_96 s_97 => (sv_conv (χ := (fun s_97 : (List (List Str)) => [.fr ((rTup rStr) (q.1)), .fr ((rLst (rTup rStr)) (s_97)), .un, .un, .un])) (fun l_found_101 => (l_found_101)) (sv_asg (i := 1) (ve_frL (ve_op2 (ve_v (rLst (rTup rStr)) (s_97)) (ve_frL (ve_lc (vs := [3]) (js := [3]) (vi_list (ve_v (rLst (rTup rStr)) (s_97))) (hv1 rfl) (vg_name (i := 3)) (fun _ h => h) (fun b_98 => vt_yes) (fun b_98 => (ve_op2 (ve_v (rTup rStr) (b_98)) (ve_tupL rStr (fun a => [a.1]) (va_cons (ve_v rStr (b_96)) va_nil)) v2_catT)))) v2_catL)) PxLe.nil) (fun l_found_101 => (Le.same (Le.same (Le.un (Le.un (Le.un Le.nil))))))))) fun s_97 =>
      (sv_ret (ve_lc (vs := [4]) (js := [4]) (vi_list (ve_frL (ve_cb (va_cons (ve_frL (ve_lc (vs := [3]) (js := [3]) (vi_list (ve_v (rLst (rTup rStr)) (s_97))) (hv1 rfl) (vg_name (i := 3)) (fun _ h => h) (fun b_102 => vt_yes) (fun b_102 => (ve_tup2 (va_cons (ve_cb (va_cons (ve_v (rTup rStr) (b_102)) va_nil) vn_lenT) (va_cons (ve_v (rTup rStr) (b_102)) va_nil)))))) va_nil) vn_sortD))) (hv1 rfl) (vg_name (i := 4)) (fun _ h => h) (fun b_104 => vt_yes) (fun b_104 => (ve_snd (ve_v (rPr rInt (rTup rStr)) (b_104))))) PxLe.nil))))
  intro q; delta F_Lsets Mi.neD Mi.eqD Mi.inD Mi.inDT Mi.idx Mi.sgn Mi.rng Mi.comp Mi.join Mi.popAt Mi.popE Mi.sortI Mi.sortS Mi.sortD Mi.listD Mi.setL Mi.max Mi.min Mi.draw; rfl

abbrev s_Lany : Stmt := top 13
abbrev N_Lany : List Str := ["_law_state", "_law_names_here", "_law_menu", "_law_row", "_law_part", "_law_things", "_law_k", "_law_label"]
theorem sc_Lany : FnScope ["_law_state", "_law_names_here", "_law_menu", "_law_row", "_law_part", "_law_things", "_law_k", "_law_label"] ["_law_state", "_law_names_here"] (defScope s_Lany) := ⟨rfl, rfl, rfl, by decide +kernel, rfl, by decide +kernel, by decide +kernel⟩
@[irreducible] def F_Lany (q : (List Str) × Unit) : M PyData := M.ret ((M.bind (M.when ((((q.1).map (IsD.d rStr))).length + ([((IsD.d rStr ("zz9" : Str))), ((IsD.d rStr ("" : Str))), ((IsD.d rInt (1 : Int))), ((IsD.d rNon ())), ((IsD.d (rTup rDat) ([] : List PyData))), ((IsD.d rStr ("A" : Str)))]).length ≤ sizeLine) ((((q.1).map (IsD.d rStr))) ++ ([((IsD.d rStr ("zz9" : Str))), ((IsD.d rStr ("" : Str))), ((IsD.d rInt (1 : Int))), ((IsD.d rNon ())), ((IsD.d (rTup rDat) ([] : List PyData))), ((IsD.d rStr ("A" : Str)))]))) fun l_menu_107 => (M.bind (M.bind (M.bind (M.nox (F_Ldraw (((4 : Int)), ()))) fun x_108 => (Mi.rng 0 (x_108))) fun x_112 => (Mi.comp (x_112) fun b_109 => (M.bind (M.bind (M.nox (F_Ldraw ((((l_menu_107).length : Int)), ()))) fun x_110 => (Mi.idx (l_menu_107) (x_110))) fun x_111 => M.pure ((some (x_111)))))) fun l_row_113 => (M.bind (M.bind (Mi.comp (q.1) fun b_114 => (M.bind (M.bind (M.nox (F_Ldraw (((2 : Int)), ()))) fun x_115 => M.pure ((decide ((x_115) = ((1 : Int)))))) fun x_116 => (M.ite (x_116) (M.pure ((some (b_114)))) (M.pure none)))) fun x_117 => M.pure (x_117)) fun l_part_118 => (M.bind (M.bind (M.bind (M.when ((l_part_118).length + ((cutL (l_part_118) none (some ((1 : Int))))).length ≤ sizeLine) ((l_part_118) ++ ((cutL (l_part_118) none (some ((1 : Int))))))) fun x_119 => M.pure ((IsD.d (rTup rStr) x_119))) fun x_124 => (M.bind (M.bind (M.bind (M.bind (M.bind (M.nox (F_Ldraw ((((l_menu_107).length : Int)), ()))) fun x_120 => (Mi.idx (l_menu_107) (x_120))) fun x_121 => M.pure ([(x_121)])) fun x_122 => (M.when ((((l_part_118).map (IsD.d rStr))).length + (x_122).length ≤ sizeLine) ((((l_part_118).map (IsD.d rStr))) ++ (x_122)))) fun x_123 => M.pure ((IsD.d (rTup rDat) x_123))) fun x_125 => M.pure ([((IsD.d (rTup rStr) l_part_118)), ((IsD.d (rTup rDat) l_row_113)), ((IsD.d (rLst rStr) l_part_118)), ((IsD.d (rTup rStr) (l_part_118).reverse)), (x_124), (x_125)]))) fun l_things_126 => (M.bind (M.bind (M.bind (M.bind (Mi.join (("" : Str)) (l_part_118)) fun x_127 => M.pure ((IsD.d rStr x_127))) fun x_130 => (M.bind (M.bind (Mi.join ((" " : Str)) (q.1)) fun x_128 => M.pure ((IsD.d rStr x_128))) fun x_131 => (M.bind (M.bind (Mi.idx (q.1) ((0 : Int))) fun x_129 => M.pure ((PyData.dict [(.str (x_129), (IsD.d rInt (1 : Int)))]))) fun x_132 => M.pure ([((IsD.d (rLst rDat) l_row_113)), (x_130), (x_131), ((IsD.d rNon ())), ((IsD.d rBl true)), ((IsD.d rInt (0 : Int))), (x_132), ((IsD.d (rTup (rTup rStr)) [(l_part_118)])), ((IsD.d rInt (-((1 : Int))))), ((IsD.d (rTup (rLst rStr)) [(l_part_118)]))])))) fun x_133 => (M.when ((l_things_126).length + (x_133).length ≤ sizeLine) ((l_things_126) ++ (x_133)))) fun l_things_134 => (M.bind (M.bind (M.nox (F_Ldraw ((((l_things_134).length : Int)), ()))) fun x_135 => (Mi.idx (l_things_134) (x_135))) fun x_136 => (M.rt (x_136)))))))) : M (Fl PyData Unit))
theorem ok_Lany {f : Addr} {fd : FuncData} (F : Fun K "_law_any" "_law_any" s_Lany f fd) (T : TxtB mg) (c_Ldraw : Cal P w K mg base "_law_draw" CX0 1 ["_law_state", "_law_size"] (spT mg K ([(Pt, ("in_order" : Str) ++ ".<locals>." ++ "<lambda>")] : List (Addr × Str)) thV (fun s (q : Int × Unit) => [rSt s, rInt q.1]) F_Ldraw (Fz rInt))) : FnOk P w K mg base CX0 2 f fd ["_law_state", "_law_names_here"] (spT mg K ([(Pt, ("in_order" : Str) ++ ".<locals>." ++ "<lambda>")] : List (Addr × Str)) thV (fun s (q : (List Str) × Unit) => [rSt s, (rTup rStr) q.1]) F_Lany (Fz rDat)) := by
  refine F.ok sc_Lany spT_len (fun cdv A outer s H vs Q E hr h => ?_)
  refine ⟨_, (pss_cons (ps_set (i := 2) sc_Lany.nd rfl (.inr rfl) (pe_op op_cat (pe_callTy call_list_of (by rfl) T.z_list (by decide +kernel) (pa_cons (pv 1) pa_nil)) (pe_lst (pa_cons pe_str (pa_cons pe_str (pa_cons pe_int (pa_cons pe_non (pa_cons (pe_tup pa_nil) (pa_cons pe_str pa_nil)))))))))
      (pss_cons (ps_setLc (i := 3) (own := [("_law_k", 6)]) (g := gName 6) (tt := tYes) rfl sc_Lany.nd rfl rfl (sw_true rfl rfl rfl (by decide +kernel)) (pi_range1 rfl T.z_range (pa_cons (pe_call c_Ldraw.G (hr.mono (by decide)) (by rfl) c_Ldraw.g c_Ldraw.kp c_Ldraw.b .nil pass0 (pa_cons (pv 0) (pa_cons pe_int pa_nil))) pa_nil)) (blkOk_by (own := [("_law_k", 6)]) (N := N_Lany) (sc := defScope s_Lany) (by decide +kernel)) (fun _ _ _ _ _ => (pg_name (i := 6) sc_Lany.nd rfl (.inl rfl))) (fun _ _ _ _ _ => pts_nil) (fun _ _ _ _ _ => (pe_ix (ix_listF (K := K) rfl) (pv 2) (pe_call c_Ldraw.G (hr.mono (by decide)) (by rfl) c_Ldraw.g c_Ldraw.kp c_Ldraw.b .nil pass0 (pa_cons (pv 0) (pa_cons (pe_callB (show CallR _ _ (rLenSq K) from call_len_seq) (by rfl) T.z_len PySem.boot_len (pa_cons (pv 2) pa_nil)) pa_nil))) (fun _ _ => rfl))))
      (pss_cons (ps_set (i := 4) sc_Lany.nd rfl (.inl rfl) (pe_callTy call_tuple_of (by rfl) T.z_tuple (by decide +kernel) (pa_cons (pe_lc (own := [("_law_label", 7)]) (g := gName 7) rfl sc_Lany.nd (pi_tup (pv 1)) (blkOk_by (own := [("_law_label", 7)]) (N := N_Lany) (sc := defScope s_Lany) (by decide +kernel)) (fun _ _ _ _ _ => (pg_name (i := 7) sc_Lany.nd rfl (.inl rfl))) (fun _ _ _ _ _ => (pts_one (pt_cmpR op_eq (pe_call c_Ldraw.G (hr.mono (by decide)) (by rfl) c_Ldraw.g c_Ldraw.kp c_Ldraw.b .nil pass0 (pa_cons (pv 0) (pa_cons pe_int pa_nil))) pe_int (nomark _)))) (fun _ _ _ _ _ => (pv 7))) pa_nil)))
      (pss_cons (ps_set (i := 5) sc_Lany.nd rfl (.inl rfl) (pe_lst (pa_cons (pv 4) (pa_cons (pe_callTy call_tuple_of (by rfl) T.z_tuple (by decide +kernel) (pa_cons (pv 3) pa_nil)) (pa_cons (pe_callTy call_list_of (by rfl) T.z_list (by decide +kernel) (pa_cons (pv 4) pa_nil)) (pa_cons (pe_revT (pv 4)) (pa_cons (pe_op op_catA (pv 4) (pe_slice sl_tupA (pv 4) po_none (po_some pe_int))) (pa_cons (pe_op op_catA (pv 4) (pe_tup (pa_cons (pe_ix ix_list (pv 2) (pe_call c_Ldraw.G (hr.mono (by decide)) (by rfl) c_Ldraw.g c_Ldraw.kp c_Ldraw.b .nil pass0 (pa_cons (pv 0) (pa_cons (pe_callB call_len_seq (by rfl) T.z_len PySem.boot_len (pa_cons (pv 2) pa_nil)) pa_nil))) (fun _ _ => rfl)) pa_nil))) pa_nil))))))))
      (pss_cons (ps_set (i := 5) sc_Lany.nd rfl (.inl rfl) (pe_op op_cat (pv 5) (pe_lst (pa_cons (pv 3) (pa_cons (pe_join pe_str (pv 4)) (pa_cons (pe_join pe_str (pv 1)) (pa_cons pe_non (pa_cons pe_bl (pa_cons pe_int (pa_cons (pe_disp (pps_cons (pe_ix ix_tup (pv 1) pe_int (fun _ _ => rfl)) pe_int pps_nil) (by rfl) (by rfl) (fun z => by cases z) (by decide)) (pa_cons (pe_tup (pa_cons (pv 4) pa_nil)) (pa_cons (pe_un un_neg pe_int) (pa_cons (pe_tup (pa_cons (pe_callTy call_list_of (by rfl) T.z_list (by decide +kernel) (pa_cons (pv 4) pa_nil)) pa_nil)) pa_nil)))))))))))))
      (pss_one (ps_ret (pe_ix ix_list (pv 5) (pe_call c_Ldraw.G (hr.mono (by decide)) (by rfl) c_Ldraw.g c_Ldraw.kp c_Ldraw.b .nil pass0 (pa_cons (pv 0) (pa_cons (pe_callB call_len_seq (by rfl) T.z_len PySem.boot_len (pa_cons (pv 5) pa_nil)) pa_nil))) (fun _ _ => rfl))))))))), ?_⟩
  refine fn_T (δ := Unit) (ψ := fun _ _ _ => []) h ?_ (fun s B G0 q => 
      (sv_seq (sv_asg (i := 2) (ve_frL (ve_op2 (ve_datL (ve_frL (ve_cb (va_cons (ve_v (rTup rStr) (q.1)) va_nil) vn_listT))) (ve_frL (ve_lstL rDat (fun a => [a.1, a.2.1, a.2.2.1, a.2.2.2.1, a.2.2.2.2.1, a.2.2.2.2.2.1]) (va_cons (ve_dat (ve_c rStr ("zz9" : Str) fun _ => rfl)) (va_cons (ve_dat (ve_c rStr ("" : Str) fun _ => rfl)) (va_cons (ve_dat (ve_c rInt 1 fun _ => rfl)) (va_cons (ve_dat (ve_c rNon () fun _ => rfl)) (va_cons (ve_dat (ve_tupL rDat (fun _ => ([] : List PyData)) va_nil)) (va_cons (ve_dat (ve_c rStr ("A" : Str) fun _ => rfl)) va_nil)))))))) v2_catL)) PxLe.nil) fun l_menu_107 =>
      (sv_seq (sv_asg (i := 3) (ve_frL (ve_lc (vs := [6]) (js := [6]) (vi_range1 (ve_callFT rfl (va_st s (va_cons (ve_c rInt 4 fun _ => rfl) va_nil)))) (hv1 rfl) (vg_name (i := 6)) (fun _ h => h) (fun b_109 => vt_yes) (fun b_109 => (ve_op2 (ve_v (rLst rDat) (l_menu_107)) (ve_callFT rfl (va_st s (va_cons (ve_cb (va_cons (ve_v (rLst rDat) (l_menu_107)) va_nil) vn_lenL) va_nil))) v2_ixL)))) PxLe.nil) fun l_row_113 =>
      (sv_seq (sv_asg (i := 4) (ve_cb (va_cons (ve_frL (ve_lc (vs := [7]) (js := [7]) (vi_tup (ve_v (rTup rStr) (q.1))) (hv1 rfl) (vg_name (i := 7)) (fun _ h => h) (fun b_114 => (vt_test (ve_op2 (ve_callFT rfl (va_st s (va_cons (ve_c rInt 2 fun _ => rfl) va_nil))) (ve_c rInt 1 fun _ => rfl) v2_eqI))) (fun b_114 => (ve_v rStr (b_114))))) va_nil) vn_tupL) PxLe.nil) fun l_part_118 =>
      (sv_seq (sv_asg (i := 5) (ve_frL (ve_lstL rDat (fun a => [a.1, a.2.1, a.2.2.1, a.2.2.2.1, a.2.2.2.2.1, a.2.2.2.2.2.1]) (va_cons (ve_dat (ve_v (rTup rStr) (l_part_118))) (va_cons (ve_dat (ve_cb (va_cons (ve_v (rLst rDat) (l_row_113)) va_nil) vn_tupL)) (va_cons (ve_dat (ve_frL (ve_cb (va_cons (ve_v (rTup rStr) (l_part_118)) va_nil) vn_listT))) (va_cons (ve_dat (ve_revT (ve_v (rTup rStr) (l_part_118)))) (va_cons (ve_dat (ve_op2 (ve_v (rTup rStr) (l_part_118)) (ve_sl (ve_v (rTup rStr) (l_part_118)) vo_none (vo_some (ve_c rInt 1 fun _ => rfl)) v3_slT) v2_catT)) (va_cons (ve_dat (ve_op2 (ve_datT (ve_v (rTup rStr) (l_part_118))) (ve_tupL rDat (fun a => [a.1]) (va_cons (ve_op2 (ve_v (rLst rDat) (l_menu_107)) (ve_callFT rfl (va_st s (va_cons (ve_cb (va_cons (ve_v (rLst rDat) (l_menu_107)) va_nil) vn_lenL) va_nil))) v2_ixL) va_nil)) v2_catT)) va_nil)))))))) PxLe.nil) fun l_things_126 =>
      (sv_seq (sv_asg (i := 5) (ve_frL (ve_op2 (ve_v (rLst rDat) (l_things_126)) (ve_frL (ve_lstL rDat (fun a => [a.1, a.2.1, a.2.2.1, a.2.2.2.1, a.2.2.2.2.1, a.2.2.2.2.2.1, a.2.2.2.2.2.2.1, a.2.2.2.2.2.2.2.1, a.2.2.2.2.2.2.2.2.1, a.2.2.2.2.2.2.2.2.2.1]) (va_cons (ve_dat (ve_v (rLst rDat) (l_row_113))) (va_cons (ve_dat (ve_joinT (ve_c rStr ("" : Str) fun _ => rfl) (ve_v (rTup rStr) (l_part_118)))) (va_cons (ve_dat (ve_joinT (ve_c rStr (" " : Str) fun _ => rfl) (ve_v (rTup rStr) (q.1)))) (va_cons (ve_dat (ve_c rNon () fun _ => rfl)) (va_cons (ve_dat (ve_c rBl true fun _ => rfl)) (va_cons (ve_dat (ve_c rInt 0 fun _ => rfl)) (va_cons (ve_disp1 (ve_op2 (ve_v (rTup rStr) (q.1)) (ve_c rInt 0 fun _ => rfl) v2_ixT) (ve_dat (ve_c rInt 1 fun _ => rfl))) (va_cons (ve_dat (ve_tupL (rTup rStr) (fun a => [a.1]) (va_cons (ve_v (rTup rStr) (l_part_118)) va_nil))) (va_cons (ve_dat (ve_un (ve_c rInt 1 fun _ => rfl) v1_neg)) (va_cons (ve_dat (ve_tupL (rLst rStr) (fun a => [a.1]) (va_cons (ve_frL (ve_cb (va_cons (ve_v (rTup rStr) (l_part_118)) va_nil) vn_listT)) va_nil))) va_nil)))))))))))) v2_catL)) PxLe.nil) fun l_things_134 =>
      (sv_ret (ve_op2 (ve_v (rLst rDat) (l_things_134)) (ve_callFT rfl (va_st s (va_cons (ve_cb (va_cons (ve_v (rLst rDat) (l_things_134)) va_nil) vn_lenL) va_nil))) v2_ixL) PxLe.nil)))))))
  intro q; delta F_Lany Mi.neD Mi.eqD Mi.inD Mi.inDT Mi.idx Mi.sgn Mi.rng Mi.comp Mi.join Mi.popAt Mi.popE Mi.sortI Mi.sortS Mi.sortD Mi.listD Mi.setL Mi.max Mi.min Mi.draw; rfl

abbrev s_Lis_set : Stmt := top 14
abbrev N_Lis_set : List Str := ["_law_names_here", "_law_thing", "_law_label"]
theorem sc_Lis_set : FnScope ["_law_names_here", "_law_thing", "_law_label"] ["_law_names_here", "_law_thing"] (defScope s_Lis_set) := ⟨rfl, rfl, rfl, by decide +kernel, rfl, by decide +kernel, by decide +kernel⟩
@[irreducible] def F_Lis_set (q : (List Str) × PyData × Unit) : M Bool := M.ret ((M.seq (M.ite ((!((isD_tuple (q.2.1))))) (M.rt (false)) (M.nx (()))) fun s_137 => (M.bind (M.bind (Mi.listD (q.2.1)) fun x_141 => (M.bind (Mi.comp (q.1) fun b_138 => (M.bind (M.bind (Mi.listD (q.2.1)) fun x_139 => (Mi.inD (IsD.d rStr (b_138)) ((x_139).map (IsD.d rDat)))) fun x_140 => (M.ite (x_140) (M.pure ((some (b_138)))) (M.pure none)))) fun x_142 => (Mi.eqD (IsD.d (rLst rDat) (x_141)) (IsD.d (rLst rStr) (x_142))))) fun x_143 => (M.rt (x_143)))) : M (Fl Bool Unit))
theorem ok_Lis_set {f : Addr} {fd : FuncData} (F : Fun K "_law_is_set" "_law_is_set" s_Lis_set f fd) (T : TxtB mg) : FnOk P w K mg base CX0 1 f fd ["_law_names_here", "_law_thing"] (spG mg K ([(Pt, ("in_order" : Str) ++ ".<locals>." ++ "<lambda>")] : List (Addr × Str)) (fun q : (List Str) × PyData × Unit => [(rTup rStr) q.1, rDat q.2.1]) F_Lis_set (Fz rBl)) := by
  refine F.ok sc_Lis_set spG_len (fun cdv A outer s H vs Q E hr h => ?_)
  refine ⟨_, (pss_cons (ps_if (pt_not (pt_val (pe_callB call_isi (by rfl) T.z_isinstance (by decide +kernel) (pa_cons (pv 1) (pa_cons (pe_bltn (v := .ty "tuple") (by rfl) T.z_tuple (by decide +kernel) rfl) pa_nil))))) (pss_one (ps_ret pe_bl)) pss_nil)
      (pss_one (ps_ret (pe_cmpR (op_eqD hr.units) (pe_callTy call_list_of (by rfl) T.z_list (by decide +kernel) (pa_cons (pv 1) pa_nil)) (pe_lc (own := [("_law_label", 2)]) (g := gName 2) rfl sc_Lis_set.nd (pi_tup (pv 0)) (blkOk_by (own := [("_law_label", 2)]) (N := N_Lis_set) (sc := defScope s_Lis_set) (by decide +kernel)) (fun _ _ _ _ _ => (pg_name (i := 2) sc_Lis_set.nd rfl (.inl rfl))) (fun _ _ _ _ _ => (pts_one (pt_cmpR (op_inDK (K := K) rfl (hu65 hr)) (pv 2) (pe_callTy (show CallR _ _ (rListOf K) from call_list_of) (by rfl) T.z_list (by decide +kernel) (pa_cons (pv 1) pa_nil)) (by rfl)))) (fun _ _ _ _ _ => (pv 2))) (nomark _))))), ?_⟩
  refine fn_G (δ := Unit) (ψ := fun _ _ => []) h ?_ (fun Θ B G0 q => 
      (sv_seq (sv_if (vt_not (vt_b (ve_isiDtuple (ve_v rDat (q.2.1))))) PxLe.nil (sv_ret (ve_c rBl false fun _ => rfl) PxLe.nil) (sv_conv (χ := (fun s_137 : Unit => [.fr ((rTup rStr) (q.1)), .fr (rDat (q.2.1)), .un])) (fun _ => ()) sv_nil (fun _ => (Le.same (Le.same (Le.un Le.nil)))))) fun s_137 =>
      (sv_ret (ve_op2 (ve_frL (ve_cb (va_cons (ve_v rDat (q.2.1)) va_nil) vn_listD)) (ve_frL (ve_lc (vs := [2]) (js := [2]) (vi_tup (ve_v (rTup rStr) (q.1))) (hv1 rfl) (vg_name (i := 2)) (fun _ h => h) (fun b_138 => (vt_test (ve_op2 (ve_v rStr (b_138)) (ve_frL (ve_cb (va_cons (ve_v rDat (q.2.1)) va_nil) vn_listD)) v2_inD))) (fun b_138 => (ve_v rStr (b_138))))) v2_eqD) PxLe.nil)))
  intro q; delta F_Lis_set Mi.neD Mi.eqD Mi.inD Mi.inDT Mi.idx Mi.sgn Mi.rng Mi.comp Mi.join Mi.popAt Mi.popE Mi.sortI Mi.sortS Mi.sortD Mi.listD Mi.setL Mi.max Mi.min Mi.draw; rfl

abbrev s_law : Stmt := top 15
abbrev N_law : List Str := ["_law_script", "_law_state", "_law_pool", "_law_due", "_law_told", "_law_chosen", "_law_left", "_law_turn", "_law_thing", "_law_actual", "_law_few", "_law_label"]
theorem sc_law : FnScope ["_law_script", "_law_state", "_law_pool", "_law_due", "_law_told", "_law_chosen", "_law_left", "_law_turn", "_law_thing", "_law_actual", "_law_few", "_law_label"] ["_law_script"] (defScope s_law) := ⟨rfl, rfl, rfl, by decide +kernel, rfl, by decide +kernel, by decide +kernel⟩
@[irreducible] def F_law : M Bool := M.ret ((M.bind (M.bind (M.bind (M.bind (M.bind (M.nox (F_Ldraw (((6 : Int)), ()))) fun x_144 => M.pure (((1 : Int) + x_144))) fun x_145 => (M.nox (F_Lnames ((x_145), ())))) fun x_146 => (Mi.sortS (x_146))) fun x_147 => M.pure (x_147)) fun l_pool_148 => (M.bind (M.nox (F_Lsets ((l_pool_148), ()))) fun l_due_149 => (M.bind (M.nox (F_all_sets ((l_pool_148), ()))) fun l_told_150 => (M.seq (M.bind (M.nox (Mi.neD (IsD.d (rLst (rTup rStr)) (l_told_150)) (IsD.d (rLst (rTup rStr)) (l_due_149)))) fun x_152 => (M.ite (x_152) (M.rt (false)) (M.nx (())))) fun s_151 => (M.bind (Mi.popE (l_told_150)) fun l_told_153 => (M.bind (M.when (((l_told_153).2).length < sizeLine) ([(("zz9" : Str))])) fun l_told_154 => (M.seq (M.bind (M.bind (M.nox (F_all_sets ((l_pool_148), ()))) fun x_155 => (Mi.neD (IsD.d (rLst (rTup rStr)) (x_155)) (IsD.d (rLst (rTup rStr)) (l_due_149)))) fun x_157 => (M.ite (x_157) (M.rt (false)) (M.nx (())))) fun s_156 => (M.seq (M.forL (fun b_158 s_159 => (M.bind (M.bind (Mi.comp (l_pool_148) fun b_160 => (M.ite ((!decide ((b_160) ∈ (b_158)))) (M.pure ((some (b_160)))) (M.pure none))) fun x_161 => M.pure (x_161)) fun l_left_162 => (M.seq (M.bind (M.bind (M.bind (M.nox (F_is_set ((l_pool_148), (((IsD.d (rTup rStr) b_158)), ())))) fun x_164 => M.pure ((!decide ((x_164) = (true))))) fun x_165 => (M.ite (x_165) (M.pure true) ((M.bind (M.nox (F_others ((l_pool_148), ((b_158), ())))) fun x_163 => (Mi.neD (IsD.d (rTup rStr) (x_163)) (IsD.d (rTup rStr) (l_left_162))))))) fun x_167 => (M.ite (x_167) (M.rt (false)) (M.nx (())))) fun s_166 => (M.seq (M.bind (M.bind (M.nox (F_others ((l_pool_148), ((l_left_162), ())))) fun x_168 => (Mi.neD (IsD.d (rTup rStr) (x_168)) (IsD.d (rTup rStr) (b_158)))) fun x_170 => (M.ite (x_170) (M.rt (false)) (M.nx (())))) fun s_169 => (M.nx (())))))) (l_due_149) ()) fun s_159 => (M.seq (M.bind (Mi.rng 0 ((12 : Int))) fun x_178 => (M.forL (fun b_171 s_172 => (M.bind (M.nox (F_Lany ((l_pool_148), ()))) fun l_thing_173 => (M.bind (M.nox (F_is_set ((l_pool_148), ((l_thing_173), ())))) fun l_actual_174 => (M.seq (M.bind (M.bind (M.nox (F_Lis_set ((l_pool_148), ((l_thing_173), ())))) fun x_175 => M.pure ((!decide ((l_actual_174) = (x_175))))) fun x_177 => (M.ite (x_177) (M.rt (false)) (M.nx (())))) fun s_176 => (M.nx (())))))) (x_178) ())) fun s_172 => (M.seq (M.bind (M.bind (M.bind (M.nox (F_all_sets ((([] : List Str)), ()))) fun x_183 => (Mi.neD (IsD.d (rLst (rTup rStr)) (x_183)) (IsD.d (rLst (rTup rStr)) ([(([] : List Str))])))) fun x_184 => (M.ite (x_184) (M.pure true) ((M.bind (M.bind (M.nox (F_is_set ((([] : List Str)), (((IsD.d (rTup rDat) ([] : List PyData))), ())))) fun x_181 => M.pure ((!decide ((x_181) = (true))))) fun x_182 => (M.ite (x_182) (M.pure true) ((M.bind (M.bind (M.nox (F_others ((([] : List Str)), ((([] : List Str)), ())))) fun x_179 => (Mi.neD (IsD.d (rTup rStr) (x_179)) (IsD.d (rTup rStr) (([] : List Str))))) fun x_180 => (M.ite (x_180) (M.pure true) ((M.nox (F_is_set ((([] : List Str)), (((IsD.d (rTup rStr) l_pool_148)), ()))))))))))))) fun x_186 => (M.ite (x_186) (M.rt (false)) (M.nx (())))) fun s_185 => (M.bind (M.bind (M.bind (M.nox (F_Ldraw ((((l_pool_148).length : Int)), ()))) fun x_187 => M.pure (((1 : Int) + x_187))) fun x_188 => M.pure ((cutL (l_pool_148) none (some (x_188))))) fun l_few_189 => (M.bind (M.bind (M.bind (M.nox (F_all_sets ((l_few_189), ()))) fun x_192 => (M.bind (M.nox (F_Lsets ((l_few_189), ()))) fun x_193 => (Mi.eqD (IsD.d (rLst (rTup rStr)) (x_192)) (IsD.d (rLst (rTup rStr)) (x_193))))) fun x_194 => (M.ite (x_194) (M.bind (M.nox (F_is_set ((l_few_189), (((IsD.d (rTup rStr) l_pool_148)), ())))) fun x_190 => (M.bind (Mi.eqD (IsD.d (rTup rStr) (l_few_189)) (IsD.d (rTup rStr) (l_pool_148))) fun x_191 => M.pure ((decide ((x_190) = (x_191)))))) (M.pure false))) fun x_195 => (M.rt (x_195)))))))))))))) : M (Fl Bool Unit))
theorem ok_law {f : Addr} {fd : FuncData} (F : Fun K "law" "law" s_law f fd) (T : TxtB mg) (c_Lstart : Cal P w K mg base "_law_start" CX0 1 ["_law_script"] (spStart K)) (c_Ldraw : Cal P w K mg base "_law_draw" CX0 1 ["_law_state", "_law_size"] (spT mg K ([(Pt, ("in_order" : Str) ++ ".<locals>." ++ "<lambda>")] : List (Addr × Str)) thV (fun s (q : Int × Unit) => [rSt s, rInt q.1]) F_Ldraw (Fz rInt))) (c_Lnames : Cal P w K mg base "_law_names" CX0 2 ["_law_state", "_law_count"] (spT mg K ([(Pt, ("in_order" : Str) ++ ".<locals>." ++ "<lambda>")] : List (Addr × Str)) thV (fun s (q : Int × Unit) => [rSt s, rInt q.1]) F_Lnames (Ow (cLst rStr)))) (c_Lsets : Cal P w K mg base "_law_sets" CX0 1 ["_law_names_here"] (spG mg K ([(Pt, ("in_order" : Str) ++ ".<locals>." ++ "<lambda>")] : List (Addr × Str)) (fun q : (List Str) × Unit => [(rTup rStr) q.1]) F_Lsets (Ow (cLst (rTup rStr))))) (c_all_sets : Cal P w K mg base "all_sets" CX0 2 ["outcomes"] (spG mg K ([(Pt, ("in_order" : Str) ++ ".<locals>." ++ "<lambda>")] : List (Addr × Str)) (fun q : (List Str) × Unit => [(rTup rStr) q.1]) F_all_sets (Ow (cLst (rTup rStr))))) (c_others : Cal P w K mg base "others" CX0 1 ["outcomes", "wanted"] (spG mg K ([(Pt, ("in_order" : Str) ++ ".<locals>." ++ "<lambda>")] : List (Addr × Str)) (fun q : (List Str) × (List Str) × Unit => [(rTup rStr) q.1, (rTup rStr) q.2.1]) F_others (Fz (rTup rStr)))) (c_is_set : Cal P w K mg base "is_set" CX0 2 ["outcomes", "value"] (spG mg K ([(Pt, ("in_order" : Str) ++ ".<locals>." ++ "<lambda>")] : List (Addr × Str)) (fun q : (List Str) × PyData × Unit => [(rTup rStr) q.1, rDat q.2.1]) F_is_set (Fz rBl))) (c_Lany : Cal P w K mg base "_law_any" CX0 2 ["_law_state", "_law_names_here"] (spT mg K ([(Pt, ("in_order" : Str) ++ ".<locals>." ++ "<lambda>")] : List (Addr × Str)) thV (fun s (q : (List Str) × Unit) => [rSt s, (rTup rStr) q.1]) F_Lany (Fz rDat))) (c_Lis_set : Cal P w K mg base "_law_is_set" CX0 1 ["_law_names_here", "_law_thing"] (spG mg K ([(Pt, ("in_order" : Str) ++ ".<locals>." ++ "<lambda>")] : List (Addr × Str)) (fun q : (List Str) × PyData × Unit => [(rTup rStr) q.1, rDat q.2.1]) F_Lis_set (Fz rBl))) (kc_all_sets_0_outcomes : KBinds K c_all_sets.fd ["outcomes"] ["outcomes"] (gP 0 1 [0]) (gP 0 1 [0])) (kc_is_set_0_value_outcomes : KBinds K c_is_set.fd ["outcomes", "value"] ["value", "outcomes"] (gP 0 2 [1, 0]) (gP 0 2 [1, 0])) (kc_others_0_wanted_outcomes : KBinds K c_others.fd ["outcomes", "wanted"] ["wanted", "outcomes"] (gP 0 2 [1, 0]) (gP 0 2 [1, 0])) (hlaw : ∀ Ψ, F_law (fun b _ => b = true) Ψ 0) : FnOk P w K mg base CX0 3 f fd ["_law_script"] (spLawT K ([(Pt, ("in_order" : Str) ++ ".<locals>." ++ "<lambda>")] : List (Addr × Str))) := by
  refine F.ok sc_law spLawT_len (fun cdv A outer s H vs Q E hr h => ?_)
  refine ⟨_, (pss_cons (ps_set (i := 1) sc_law.nd rfl (.inl rfl) (pe_call c_Lstart.G (hr.mono (by decide)) (by rfl) c_Lstart.g c_Lstart.kp c_Lstart.b .nil pass0 (pa_cons (pv 0) pa_nil)))
      (pss_cons (ps_set (i := 2) sc_law.nd rfl (.inl rfl) (pe_callTy call_tuple_of (by rfl) T.z_tuple (by decide +kernel) (pa_cons (pe_callB cr_sortedS (by rfl) T.z_sorted (by decide +kernel) (pa_cons (pe_call c_Lnames.G (hr.mono (by decide)) (by rfl) c_Lnames.g c_Lnames.kp c_Lnames.b .nil pass0 (pa_cons (pv 1) (pa_cons (pe_op op_add pe_int (pe_call c_Ldraw.G (hr.mono (by decide)) (by rfl) c_Ldraw.g c_Ldraw.kp c_Ldraw.b .nil pass0 (pa_cons (pv 1) (pa_cons pe_int pa_nil)))) pa_nil))) pa_nil)) pa_nil)))
      (pss_cons (ps_set (i := 3) sc_law.nd rfl (.inl rfl) (pe_call c_Lsets.G (hr.mono (by decide)) (by rfl) c_Lsets.g c_Lsets.kp c_Lsets.b .nil pass0 (pa_cons (pv 2) pa_nil)))
      (pss_cons (ps_set (i := 4) sc_law.nd rfl (.inl rfl) (pe_call c_all_sets.G (hr.mono (by decide)) (by rfl) c_all_sets.g c_all_sets.kp c_all_sets.b .nil pass0 (pa_cons (pv 2) pa_nil)))
      (pss_cons (ps_if (PW.pt (pw_or (pt_not (pt_val (pe_callB call_isi (by rfl) T.z_isinstance (by decide +kernel) (pa_cons (pv 4) (pa_cons (pe_bltn (v := .ty "list") (by rfl) T.z_list (by decide +kernel) rfl) pa_nil))))) (pw_or1 (pt_cmpR (op_neD hr.units) (pv 4) (pv 3) (nomark _))))) (pss_one (ps_ret pe_bl)) pss_nil)
      (pss_cons (ps_expr (pe_bm0 PySem.F.plainAttrs_list PySem.F.slot_list_pop PySem.F.type_list_pop mt_pop (pv 4) ))
      (pss_cons (ps_expr (pe_bm PySem.F.plainAttrs_list PySem.F.slot_list_append PySem.F.type_list_append mt_append (pv 4) (pa_cons (pe_tup (pa_cons pe_str pa_nil)) pa_nil)))
      (pss_cons (ps_if (pt_cmpR (op_neD hr.units) (pe_callK0 c_all_sets.G (hr.mono (by decide)) (by rfl) c_all_sets.g c_all_sets.kp kc_all_sets_0_outcomes pass0 (pk_cons (pv 2) pk_nil)) (pv 3) (nomark _)) (pss_one (ps_ret pe_bl)) pss_nil)
      (pss_cons (ps_for PassesOwn.never rfl (pi_list (pv 3)) (pg_name (i := 5) sc_law.nd rfl (.inr rfl)) (pss_cons (ps_set (i := 6) sc_law.nd rfl (.inl rfl) (pe_callTy call_tuple_of (by rfl) T.z_tuple (by decide +kernel) (pa_cons (pe_lc (own := [("_law_label", 11)]) (g := gName 11) rfl sc_law.nd (pi_tup (pv 2)) (blkOk_by (own := [("_law_label", 11)]) (N := N_law) (sc := defScope s_law) (by decide +kernel)) (fun _ _ _ _ _ => (pg_name (i := 11) sc_law.nd rfl (.inl rfl))) (fun _ _ _ _ _ => (pts_one (pt_cmpR (op_niF (K := K) rfl) (pv 11) (pv 5) (by rfl)))) (fun _ _ _ _ _ => (pv 11))) pa_nil)))
      (pss_cons (ps_if (PW.pt (pw_or (pt_cmpR op_notBl (pe_call c_is_set.G (hr.mono (by decide)) (by rfl) c_is_set.g c_is_set.kp c_is_set.b .nil pass0 (pa_cons (pv 2) (pa_cons (pv 5) pa_nil))) pe_bl (nomark _)) (pw_or1 (pt_cmpR (op_neD hr.units) (pe_call c_others.G (hr.mono (by decide)) (by rfl) c_others.g c_others.kp c_others.b .nil pass0 (pa_cons (pv 2) (pa_cons (pv 5) pa_nil))) (pv 6) (nomark _))))) (pss_one (ps_ret pe_bl)) pss_nil)
      (pss_one (ps_if (pt_cmpR (op_neD hr.units) (pe_callK0 c_others.G (hr.mono (by decide)) (by rfl) c_others.g c_others.kp kc_others_0_wanted_outcomes pass0 (pk_cons (pv 6) (pk_cons (pv 2) pk_nil))) (pv 5) (nomark _)) (pss_one (ps_ret pe_bl)) pss_nil)))))
      (pss_cons (ps_for PassesOwn.never rfl (pi_range1 rfl T.z_range (pa_cons pe_int pa_nil)) (pg_name (i := 7) sc_law.nd rfl (.inl rfl)) (pss_cons (ps_set (i := 8) sc_law.nd rfl (.inl rfl) (pe_call c_Lany.G (hr.mono (by decide)) (by rfl) c_Lany.g c_Lany.kp c_Lany.b .nil pass0 (pa_cons (pv 1) (pa_cons (pv 2) pa_nil))))
      (pss_cons (ps_set (i := 9) sc_law.nd rfl (.inl rfl) (pe_call c_is_set.G (hr.mono (by decide)) (by rfl) c_is_set.g c_is_set.kp c_is_set.b .nil pass0 (pa_cons (pv 2) (pa_cons (pv 8) pa_nil))))
      (pss_one (ps_if (PW.pt (pw_or (pt_not (pt_val (pe_callB call_isi (by rfl) T.z_isinstance (by decide +kernel) (pa_cons (pv 9) (pa_cons (pe_bltn (v := .ty "bool") (by rfl) T.z_bool (by decide +kernel) rfl) pa_nil))))) (pw_or1 (pt_cmpR op_ne (pv 9) (pe_call c_Lis_set.G (hr.mono (by decide)) (by rfl) c_Lis_set.g c_Lis_set.kp c_Lis_set.b .nil pass0 (pa_cons (pv 2) (pa_cons (pv 8) pa_nil))) (nomark _))))) (pss_one (ps_ret pe_bl)) pss_nil)))))
      (pss_cons (ps_if (PW.pt (pw_or (pt_cmpR (op_neD hr.units) (pe_call c_all_sets.G (hr.mono (by decide)) (by rfl) c_all_sets.g c_all_sets.kp c_all_sets.b .nil pass0 (pa_cons (pe_tup pa_nil) pa_nil)) (pe_lst (pa_cons (pe_tup pa_nil) pa_nil)) (nomark _)) (pw_or (pt_cmpR op_notBl (pe_call c_is_set.G (hr.mono (by decide)) (by rfl) c_is_set.g c_is_set.kp c_is_set.b .nil pass0 (pa_cons (pe_tup pa_nil) (pa_cons (pe_tup pa_nil) pa_nil))) pe_bl (nomark _)) (pw_or (pt_cmpR (op_neD hr.units) (pe_call c_others.G (hr.mono (by decide)) (by rfl) c_others.g c_others.kp c_others.b .nil pass0 (pa_cons (pe_tup pa_nil) (pa_cons (pe_tup pa_nil) pa_nil))) (pe_tup pa_nil) (nomark _)) (pw_or1 (pt_val (pe_call c_is_set.G (hr.mono (by decide)) (by rfl) c_is_set.g c_is_set.kp c_is_set.b .nil pass0 (pa_cons (pe_tup pa_nil) (pa_cons (pv 2) pa_nil))))))))) (pss_one (ps_ret pe_bl)) pss_nil)
      (pss_cons (ps_set (i := 10) sc_law.nd rfl (.inl rfl) (pe_slice sl_tupA (pv 2) po_none (po_some (pe_op op_add pe_int (pe_call c_Ldraw.G (hr.mono (by decide)) (by rfl) c_Ldraw.g c_Ldraw.kp c_Ldraw.b .nil pass0 (pa_cons (pv 1) (pa_cons (pe_callB call_len_seq (by rfl) T.z_len PySem.boot_len (pa_cons (pv 2) pa_nil)) pa_nil)))))))
      (pss_one (ps_ret (pe_and (pe_cmpR (op_eqD hr.units) (pe_call c_all_sets.G (hr.mono (by decide)) (by rfl) c_all_sets.g c_all_sets.kp c_all_sets.b .nil pass0 (pa_cons (pv 10) pa_nil)) (pe_call c_Lsets.G (hr.mono (by decide)) (by rfl) c_Lsets.g c_Lsets.kp c_Lsets.b .nil pass0 (pa_cons (pv 10) pa_nil)) (nomark _)) (pe_one (pe_cmpR op_eq (pe_callK0 c_is_set.G (hr.mono (by decide)) (by rfl) c_is_set.g c_is_set.kp kc_is_set_0_value_outcomes pass0 (pk_cons (pv 2) (pk_cons (pv 10) pk_nil))) (pe_cmpR (op_eqD hr.units) (pv 10) (pv 2) (nomark _)) (nomark _)))))))))))))))))), ?_⟩
  refine law_T (δ := Unit) (ψ := fun _ => []) h (fun s B G0 =>
      (sv_seq (sv_asg (i := 2) (ve_cb (va_cons (ve_frL (ve_cb (va_cons (ve_frL (ve_callFT rfl (va_st s (va_cons (ve_op2 (ve_c rInt 1 fun _ => rfl) (ve_callFT rfl (va_st s (va_cons (ve_c rInt 6 fun _ => rfl) va_nil))) v2_add) va_nil)))) va_nil) vn_sortedS)) va_nil) vn_tupL) PxLe.nil) fun l_pool_148 =>
      (sv_seq (sv_asg (i := 3) (ve_frL (ve_callF (va_cons (ve_v (rTup rStr) (l_pool_148)) va_nil))) PxLe.nil) fun l_due_149 =>
      (sv_seq (sv_asg (i := 4) (ve_callF (va_cons (ve_v (rTup rStr) (l_pool_148)) va_nil)) PxLe.nil) fun l_told_150 =>
      (sv_seq (sv_if (vt_lend (i := 4) rfl cLst_show (vt_or (vt_not (vt_b (ve_isi_list_list (ve_v (rLst (rTup rStr)) (l_told_150))))) (vt_test (ve_op2 (ve_v (rLst (rTup rStr)) (l_told_150)) (ve_v (rLst (rTup rStr)) (l_due_149)) v2_neD)))) PxLe.nil (sv_ret (ve_c rBl false fun _ => rfl) PxLe.nil) (sv_conv (χ := (fun s_151 : Unit => [.un, .fr (rSt s), .fr ((rTup rStr) (l_pool_148)), .fr ((rLst (rTup rStr)) (l_due_149)), .ow (cLst (rTup rStr) (l_told_150)), .un, .un, .un, .un, .un, .un, .un])) (fun _ => ()) sv_nil (fun _ => (Le.un (Le.same (Le.same (Le.same (Le.same (Le.un (Le.un (Le.un (Le.un (Le.un (Le.un (Le.un Le.nil))))))))))))))) fun s_151 =>
      (sv_seq (sv_exprX (vx_pop (i := 4) PxLe.nil)) fun l_told_153 =>
      (sv_seq (sv_append (i := 4) (ve_tupL rStr (fun a => [a.1]) (va_cons (ve_c rStr ("zz9" : Str) fun _ => rfl) va_nil)) PxLe.nil) fun l_told_154 =>
      (sv_seq (sv_if (vt_test (ve_op2 (ve_frL (ve_callK (gV := gP 0 1 [0]) (fun a b => (b.1, ())) va_nil (va_cons (ve_v (rTup rStr) (l_pool_148)) va_nil) (fun a b vs zs G r1 r2 => match vs, zs, r1, r2 with | _, _, .nil, (.cons q0 .nil) => (.cons q0 .nil)))) (ve_v (rLst (rTup rStr)) (l_due_149)) v2_neD)) PxLe.nil (sv_ret (ve_c rBl false fun _ => rfl) PxLe.nil) (sv_conv (χ := (fun s_156 : Unit => [.un, .fr (rSt s), .fr ((rTup rStr) (l_pool_148)), .fr ((rLst (rTup rStr)) (l_due_149)), .ow (cLst (rTup rStr) (((l_told_153).2 ++ [l_told_154]))), .un, .un, .un, .un, .un, .un, .un])) (fun _ => ()) sv_nil (fun _ => (Le.un (Le.same (Le.same (Le.same (Le.same (Le.un (Le.un (Le.un (Le.un (Le.un (Le.un (Le.un Le.nil))))))))))))))) fun s_156 =>
      (sv_seq (sv_for (ψ := (fun s_159 : Unit => [.un, .fr (rSt s), .fr ((rTup rStr) (l_pool_148)), .fr ((rLst (rTup rStr)) (l_due_149)), .ow (cLst (rTup rStr) (((l_told_153).2 ++ [l_told_154]))), .un, .un, .un, .un, .un, .un, .un])) (s0 := ()) (vi_list (ve_v (rLst (rTup rStr)) (l_due_149))) PxLe.nil (Le.un (Le.same (Le.same (Le.same (Le.same (Le.un (Le.un (Le.un (Le.un (Le.un (Le.un (Le.un Le.nil)))))))))))) (fun s_159 => (vg_name (i := 5))) (fun b_158 s_159 => (sv_seq (sv_asg (i := 6) (ve_cb (va_cons (ve_frL (ve_lc (vs := [11]) (js := [11]) (vi_tup (ve_v (rTup rStr) (l_pool_148))) (hv1 rfl) (vg_name (i := 11)) (fun _ h => h) (fun b_160 => (vt_test (ve_op2 (ve_v rStr (b_160)) (ve_v (rTup rStr) (b_158)) v2_niT))) (fun b_160 => (ve_v rStr (b_160))))) va_nil) vn_tupL) PxLe.nil) fun l_left_162 =>
      (sv_seq (sv_if (vt_or (vt_test (ve_op2 (ve_callF (va_cons (ve_v (rTup rStr) (l_pool_148)) (va_cons (ve_dat (ve_v (rTup rStr) (b_158))) va_nil))) (ve_c rBl true fun _ => rfl) v2_notBl)) (vt_test (ve_op2 (ve_callF (va_cons (ve_v (rTup rStr) (l_pool_148)) (va_cons (ve_v (rTup rStr) (b_158)) va_nil))) (ve_v (rTup rStr) (l_left_162)) v2_neD))) PxLe.nil (sv_ret (ve_c rBl false fun _ => rfl) PxLe.nil) (sv_conv (χ := (fun s_166 : Unit => [.un, .fr (rSt s), .fr ((rTup rStr) (l_pool_148)), .fr ((rLst (rTup rStr)) (l_due_149)), .ow (cLst (rTup rStr) (((l_told_153).2 ++ [l_told_154]))), .fr ((rTup rStr) (b_158)), .fr ((rTup rStr) (l_left_162)), .un, .un, .un, .un, .un])) (fun _ => ()) sv_nil (fun _ => (Le.un (Le.same (Le.same (Le.same (Le.same (Le.same (Le.same (Le.un (Le.un (Le.un (Le.un (Le.un Le.nil))))))))))))))) fun s_166 =>
      (sv_conv (χ := (fun s_159 : Unit => [.un, .fr (rSt s), .fr ((rTup rStr) (l_pool_148)), .fr ((rLst (rTup rStr)) (l_due_149)), .ow (cLst (rTup rStr) (((l_told_153).2 ++ [l_told_154]))), .un, .un, .un, .un, .un, .un, .un])) (fun s_169 => ()) (sv_if (vt_test (ve_op2 (ve_callK (gV := gP 0 2 [1, 0]) (fun a b => (b.2.1, (b.1, ()))) va_nil (va_cons (ve_v (rTup rStr) (l_left_162)) (va_cons (ve_v (rTup rStr) (l_pool_148)) va_nil)) (fun a b vs zs G r1 r2 => match vs, zs, r1, r2 with | _, _, .nil, (.cons q0 (.cons q1 .nil)) => (.cons q1 (.cons q0 .nil)))) (ve_v (rTup rStr) (b_158)) v2_neD)) PxLe.nil (sv_ret (ve_c rBl false fun _ => rfl) PxLe.nil) (sv_conv (χ := (fun s_169 : Unit => [.un, .fr (rSt s), .fr ((rTup rStr) (l_pool_148)), .fr ((rLst (rTup rStr)) (l_due_149)), .ow (cLst (rTup rStr) (((l_told_153).2 ++ [l_told_154]))), .fr ((rTup rStr) (b_158)), .fr ((rTup rStr) (l_left_162)), .un, .un, .un, .un, .un])) (fun _ => ()) sv_nil (fun _ => (Le.un (Le.same (Le.same (Le.same (Le.same (Le.same (Le.same (Le.un (Le.un (Le.un (Le.un (Le.un Le.nil))))))))))))))) (fun s_169 => (Le.un (Le.same (Le.same (Le.same (Le.same (Le.un (Le.un (Le.un (Le.un (Le.un (Le.un (Le.un Le.nil)))))))))))))))))) fun s_159 =>
      (sv_seq (sv_for (ψ := (fun s_172 : Unit => [.un, .fr (rSt s), .fr ((rTup rStr) (l_pool_148)), .fr ((rLst (rTup rStr)) (l_due_149)), .ow (cLst (rTup rStr) (((l_told_153).2 ++ [l_told_154]))), .un, .un, .un, .un, .un, .un, .un])) (s0 := ()) (vi_range1 (ve_c rInt 12 fun _ => rfl)) PxLe.nil (Le.un (Le.same (Le.same (Le.same (Le.same (Le.un (Le.un (Le.un (Le.un (Le.un (Le.un (Le.un Le.nil)))))))))))) (fun s_172 => (vg_name (i := 7))) (fun b_171 s_172 => (sv_seq (sv_asg (i := 8) (ve_callFT rfl (va_st s (va_cons (ve_v (rTup rStr) (l_pool_148)) va_nil))) PxLe.nil) fun l_thing_173 =>
      (sv_seq (sv_asg (i := 9) (ve_callF (va_cons (ve_v (rTup rStr) (l_pool_148)) (va_cons (ve_v rDat (l_thing_173)) va_nil))) PxLe.nil) fun l_actual_174 =>
      (sv_conv (χ := (fun s_172 : Unit => [.un, .fr (rSt s), .fr ((rTup rStr) (l_pool_148)), .fr ((rLst (rTup rStr)) (l_due_149)), .ow (cLst (rTup rStr) (((l_told_153).2 ++ [l_told_154]))), .un, .un, .un, .un, .un, .un, .un])) (fun s_176 => ()) (sv_if (vt_or (vt_not (vt_b (ve_isi_bool_bool (ve_v rBl (l_actual_174))))) (vt_test (ve_op2 (ve_v rBl (l_actual_174)) (ve_callF (va_cons (ve_v (rTup rStr) (l_pool_148)) (va_cons (ve_v rDat (l_thing_173)) va_nil))) v2_neB))) PxLe.nil (sv_ret (ve_c rBl false fun _ => rfl) PxLe.nil) (sv_conv (χ := (fun s_176 : Unit => [.un, .fr (rSt s), .fr ((rTup rStr) (l_pool_148)), .fr ((rLst (rTup rStr)) (l_due_149)), .ow (cLst (rTup rStr) (((l_told_153).2 ++ [l_told_154]))), .un, .un, .fr (rInt (b_171)), .fr (rDat (l_thing_173)), .fr (rBl (l_actual_174)), .un, .un])) (fun _ => ()) sv_nil (fun _ => (Le.un (Le.same (Le.same (Le.same (Le.same (Le.un (Le.un (Le.same (Le.same (Le.same (Le.un (Le.un Le.nil))))))))))))))) (fun s_176 => (Le.un (Le.same (Le.same (Le.same (Le.same (Le.un (Le.un (Le.un (Le.un (Le.un (Le.un (Le.un Le.nil)))))))))))))))))) fun s_172 =>
      (sv_seq (sv_if (vt_or (vt_test (ve_op2 (ve_frL (ve_callF (va_cons (ve_tupL rStr (fun _ => ([] : List Str)) va_nil) va_nil))) (ve_frL (ve_lstL (rTup rStr) (fun a => [a.1]) (va_cons (ve_tupL rStr (fun _ => ([] : List Str)) va_nil) va_nil))) v2_neD)) (vt_or (vt_test (ve_op2 (ve_callF (va_cons (ve_tupL rStr (fun _ => ([] : List Str)) va_nil) (va_cons (ve_dat (ve_tupL rDat (fun _ => ([] : List PyData)) va_nil)) va_nil))) (ve_c rBl true fun _ => rfl) v2_notBl)) (vt_or (vt_test (ve_op2 (ve_callF (va_cons (ve_tupL rStr (fun _ => ([] : List Str)) va_nil) (va_cons (ve_tupL rStr (fun _ => ([] : List Str)) va_nil) va_nil))) (ve_tupL rStr (fun _ => ([] : List Str)) va_nil) v2_neD)) (vt_b (ve_callF (va_cons (ve_tupL rStr (fun _ => ([] : List Str)) va_nil) (va_cons (ve_dat (ve_v (rTup rStr) (l_pool_148))) va_nil))))))) PxLe.nil (sv_ret (ve_c rBl false fun _ => rfl) PxLe.nil) (sv_conv (χ := (fun s_185 : Unit => [.un, .fr (rSt s), .fr ((rTup rStr) (l_pool_148)), .fr ((rLst (rTup rStr)) (l_due_149)), .ow (cLst (rTup rStr) (((l_told_153).2 ++ [l_told_154]))), .un, .un, .un, .un, .un, .un, .un])) (fun _ => ()) sv_nil (fun _ => (Le.un (Le.same (Le.same (Le.same (Le.same (Le.un (Le.un (Le.un (Le.un (Le.un (Le.un (Le.un Le.nil))))))))))))))) fun s_185 =>
      (sv_seq (sv_asg (i := 10) (ve_sl (ve_v (rTup rStr) (l_pool_148)) vo_none (vo_some (ve_op2 (ve_c rInt 1 fun _ => rfl) (ve_callFT rfl (va_st s (va_cons (ve_cb (va_cons (ve_v (rTup rStr) (l_pool_148)) va_nil) vn_lenT) va_nil))) v2_add)) v3_slT) PxLe.nil) fun l_few_189 =>
      (sv_ret (ve_and (ve_op2 (ve_frL (ve_callF (va_cons (ve_v (rTup rStr) (l_few_189)) va_nil))) (ve_frL (ve_callF (va_cons (ve_v (rTup rStr) (l_few_189)) va_nil))) v2_eqD) (ve_op2 (ve_callK (gV := gP 0 2 [1, 0]) (fun a b => (b.2.1, (b.1, ()))) va_nil (va_cons (ve_dat (ve_v (rTup rStr) (l_pool_148))) (va_cons (ve_v (rTup rStr) (l_few_189)) va_nil)) (fun a b vs zs G r1 r2 => match vs, zs, r1, r2 with | _, _, .nil, (.cons q0 (.cons q1 .nil)) => (.cons q1 (.cons q0 .nil)))) (ve_op2 (ve_v (rTup rStr) (l_few_189)) (ve_v (rTup rStr) (l_pool_148)) v2_eqD) v2_eqB)) PxLe.nil))))))))))))) ?_
  delta F_law Mi.neD Mi.eqD Mi.inD Mi.inDT Mi.idx Mi.sgn Mi.rng Mi.comp Mi.join Mi.popAt Mi.popE Mi.sortI Mi.sortS Mi.sortD Mi.listD Mi.setL Mi.max Mi.min Mi.draw at hlaw; exact hlaw

end
end K20

namespace K20
open PySem PySem.Spec PyProof.Rows L2 VL
theorem cut_to (xs : List Str) (c : Nat) : cutL xs none (some (c : Int)) = xs.take c := by
  unfold cutL
  rw [HT.sIx_none, HT.sIx_nat, List.drop_zero, Nat.sub_zero]
  by_cases h : c ≤ xs.length
  · rw [Nat.min_eq_left h]
  · rw [Nat.min_eq_right (by omega), List.take_of_length_le (Nat.le_refl _), List.take_of_length_le (by omega)]
theorem names_ok (c : Nat) (hc : c ≤ 7) {Φ : List Str → Nat → Prop} {Ψ : Exc → Nat → Prop} {n : Nat} (hn : n ≤ 900000) (k : ∀ ws n', ws.length = c → ws.Nodup → (∀ w ∈ ws, good w = true) → n' ≤ n + 20 → Φ ws n') : F_Lnames ((c : Int), ()) Φ Ψ n := by
  delta F_Lnames
  refine draw_ok (by omega) (by decide) (by decide) fun d (d0 : 0 ≤ d) (d1 : d < 5) => ?_
  obtain ⟨d, rfl⟩ := Int.eq_ofNat_of_zero_le d0
  refine rng0 (by omega) ?_
  refine comp_rule (fun i acc n' => n' = n + 1 + i ∧ ∃ cs : List Nat, cs.length = i ∧ acc = cs.map (fun c => (⟨#[c]⟩ : Str)) ∧ ∀ x ∈ cs, x ∈ C36.cps.toList) (by simp; omega) ⟨rfl, [], rfl, rfl, (fun _ h => nomatch h)⟩ (fun i x acc n' hx hI Φ' k' => ?_) (fun acc n' hI => ?_)
  · obtain ⟨rfl, cs, hl, rfl, hcs⟩ := hI
    have hi := (range_at hx).2
    refine draw_ok (by omega) (by decide) (by decide) fun e (e0 : 0 ≤ e) (e1 : e < 36) => ?_
    refine sgn_ok (z := C36) (i := e) (by rw [c36_len]; decide) e0 (by rw [c36_len]; omega) fun ch hm _ => ?_
    refine k' (some ⟨#[ch]⟩) _ ⟨by omega, cs ++ [ch], by simp [hl], by simp, fun x hx => ?_⟩
    rcases List.mem_append.mp hx with hx | hx
    · exact hcs x hx
    · rw [show x = ch by simpa using hx]; exact hm
  obtain ⟨rfl, cs, hcl, rfl, hcm⟩ := hI
  rw [List.length_map, List.length_range] at hcl
  refine join_i (by rw [ones_len, List.length_map, show (Str.ofString "").length = 0 by decide +kernel]; omega) ?_
  have hjl := join_signs cs
  have hj : ∃ st : Str, st = Txt.join (Str.ofString "") (cs.map (fun c => (⟨#[c]⟩ : Str))) ∧ st.cps.toList.length ≤ 4 ∧ ∀ x ∈ st.cps.toList, okc x = true := ⟨_, rfl, by rw [hjl]; omega, fun x hx => c36_ok x (hcm x (by rw [hjl] at hx; exact hx))⟩
  obtain ⟨st, hst, hs4, hso⟩ := hj
  have hsl : st.length ≤ 4 := by rw [← L2.len_list]; exact hs4
  rw [← hst]
  clear hst hjl hcm
  refine draw_ok (by simp; omega) (by decide) (by decide) fun l26 (l0 : 0 ≤ l26) (l1 : l26 < 26) => ?_
  obtain ⟨l, rfl⟩ := Int.eq_ofNat_of_zero_le l0
  have hl26 : l < 26 := by omega
  refine sgn_i (by decide +kernel) (c36_at hl26) ?_
  have hlm := let_mem hl26
  refine draw_ok (by simp; omega) (by decide) (by decide) fun o26 (o0 : 0 ≤ o26) (o1 : o26 < 26) => ?_
  obtain ⟨o, rfl⟩ := Int.eq_ofNat_of_zero_le o0
  refine draw_ok (by simp; omega) (by decide) (by decide) fun d6 (s0 : 0 ≤ d6) (s1 : d6 < 6) => ?_
  obtain ⟨sr, hsr, hat⟩ : ∃ s : Nat, (s = 1 ∨ s = 3 ∨ s = 5 ∨ s = 7 ∨ s = 9 ∨ s = 11) ∧ L2.atI [(1 : Int), 3, 5, 7, 9, 11] d6 = some (s : Int) := by
    have : d6 = 0 ∨ d6 = 1 ∨ d6 = 2 ∨ d6 = 3 ∨ d6 = 4 ∨ d6 = 5 := by omega
    rcases this with rfl | rfl | rfl | rfl | rfl | rfl
    · exact ⟨1, by simp, atI_nat (j := 0) rfl⟩
    · exact ⟨3, by simp, atI_nat (j := 1) rfl⟩
    · exact ⟨5, by simp, atI_nat (j := 2) rfl⟩
    · exact ⟨7, by simp, atI_nat (j := 3) rfl⟩
    · exact ⟨9, by simp, atI_nat (j := 4) rfl⟩
    · exact ⟨11, by simp, atI_nat (j := 5) rfl⟩
  refine idx_i hat ?_
  refine draw_ok (by simp; omega) (by decide) (by decide) fun pl (p0 : 0 ≤ pl) (p1 : pl < 7) => ?_
  obtain ⟨pn, rfl⟩ := Int.eq_ofNat_of_zero_le p0
  obtain ⟨N, hN, hNn⟩ : ∃ N, N = n + 1 + (List.map (fun i : Nat => (i : Int)) (List.range d)).length + 1 + 1 + 1 + 1 ∧ N ≤ n + 9 := ⟨_, rfl, by simp; omega⟩
  rw [← hN]
  -- plan 6
  refine ite_ (fun h => ?_) (fun h6 => ?_)
  · simp at h
    show Φ _ N
    rw [cut_to]
    exact k _ _ (by rw [List.length_take]; show min c 6 = c; omega) (fixed_ok c).1 (fixed_ok c).2 (by omega)
  -- plan 4
  refine ite_ (fun h => ?_) (fun h4 => ?_)
  · refine draw_ok (by omega) (by decide) (by decide) fun d9 (z0 : 0 ≤ d9) (z1 : d9 < 9) => ?_
    obtain ⟨d, rfl⟩ := Int.eq_ofNat_of_zero_le z0
    refine rng0 (m := c) (by omega) ?_
    refine comp_map (fun i : Int => numW (let_ l) ((1 + d) * (i.toNat + 1))) (fun x hx Φ' n' q => ?_) (by simp; omega) ?_
    · obtain ⟨i, hi, rfl⟩ := List.mem_map.mp hx
      have hi := List.mem_range.mp hi
      have hb : (1 + d) * (i + 1) < 64 := Nat.lt_of_le_of_lt (Nat.mul_le_mul (show 1 + d ≤ 9 by omega) (show i + 1 ≤ 7 by omega)) (by decide)
      have e : ((1 : Int) + (d : Int)) * ((i : Int) + 1) = (((1 + d) * (i + 1) : Nat) : Int) := by push_cast; rfl
      refine ⟨wmul (by omega) (by omega) (by omega) (by omega), ?_⟩
      rw [e]
      refine ⟨?_, size1000 ?_, q⟩
      · rw [Int.natAbs_natCast]
        exact Nat.lt_of_le_of_lt (Nat.log2_le_self _) (by omega)
      · have h2 := (num_digs _ hb).2
        rw [L2.len_list] at h2
        show 1 + _ ≤ 1000
        exact Nat.le_trans (Nat.add_le_add_left (Nat.le_of_lt h2) 1) (by decide)
    · show Φ _ _
      rw [List.map_map, show ((fun i : Int => numW (let_ l) ((1 + d) * (i.toNat + 1))) ∘ fun i : Nat => (i : Int)) = fun i : Nat => numW (let_ l) ((1 + d) * (i + 1)) from rfl]
      have hb : ∀ k, k < c → (1 + d) * (k + 1) < 64 := fun k hk => Nat.lt_of_le_of_lt (Nat.mul_le_mul (show 1 + d ≤ 9 by omega) (show k + 1 ≤ 7 by omega)) (by decide)
      refine k _ _ (by rw [List.length_map, List.length_range]) (nodup_map fun i j hij hj e => ?_) (fun w hw => ?_) (by omega)
      · have := numW_inj (hb i (by omega)) (hb j hj) e
        have := Nat.eq_of_mul_eq_mul_left (by omega : 0 < 1 + d) this
        omega
      · obtain ⟨k, hk, rfl⟩ := List.mem_map.mp hw
        exact numW_good hlm (hb k (List.mem_range.mp hk))
  -- plan 5
  refine ite_ (fun h => ?_) (fun h5 => ?_)
  · simp at h h4
    have hc6 : c ≤ 6 := by omega
    refine rng0 (m := 5) (by omega) ?_
    refine comp_rule (fun i acc n' => n' = N + i ∧ ∃ cs : List Nat, cs.length = i ∧ acc = cs.map (fun c => (⟨#[c]⟩ : Str)) ∧ ∀ x ∈ cs, x ∈ C36.cps.toList) (by simp) ⟨rfl, [], rfl, rfl, (fun _ h => nomatch h)⟩ (fun i x acc n' hx hI Φ' k' => ?_) (fun acc n' hI => ?_)
    · obtain ⟨rfl, cs, hl, rfl, hcs⟩ := hI
      have hi := (range_at hx).2
      refine draw_ok (by omega) (by decide) (by decide) fun e (e0 : 0 ≤ e) (e1 : e < 36) => ?_
      refine sgn_ok (z := C36) (i := e) (by rw [c36_len]; decide) e0 (by rw [c36_len]; omega) fun ch hm _ => ?_
      refine k' (some ⟨#[ch]⟩) _ ⟨by omega, cs ++ [ch], by simp [hl], by simp, fun x hx => ?_⟩
      rcases List.mem_append.mp hx with hx | hx
      · exact hcs x hx
      · rw [show x = ch by simpa using hx]; exact hm
    obtain ⟨rfl, cs, hcl, rfl, hcm⟩ := hI
    have hcl : cs.length = 5 := hcl
    refine join_i (by rw [ones_len, List.length_map, show (Str.ofString "").length = 0 by decide +kernel]; omega) ?_
    have hjl := join_signs cs
    have hwl : ((⟨#[let_ l]⟩ : Str) ++ Txt.join (Str.ofString "") (cs.map (fun c => (⟨#[c]⟩ : Str)))).cps.toList = let_ l :: cs := by
      rw [one_cat]
      exact congrArg _ hjl
    have hjn : (Txt.join (Str.ofString "") (cs.map (fun c => (⟨#[c]⟩ : Str)))).length = 5 := by
      rw [← L2.len_list]
      exact (congrArg List.length hjl).trans hcl
    refine ⟨size1000 (by rw [hjn]; show 1 + 5 ≤ 1000; decide), ?_⟩
    obtain ⟨wh, hwh⟩ : ∃ wh : Str, wh = (⟨#[let_ l]⟩ : Str) ++ Txt.join (Str.ofString "") (cs.map (fun c => (⟨#[c]⟩ : Str))) := ⟨_, rfl⟩
    rw [← hwh] at hwl ⊢
    have hwn : wh.length = 6 := by rw [← L2.len_list, hwl, List.length_cons, hcl]
    refine rng0 (m := c) (by omega) ?_
    refine comp_map (fun i : Int => preW wh i.toNat) (fun x hx Φ' n' q => ?_) (by simp; omega) ?_
    · obtain ⟨i, hi, rfl⟩ := List.mem_map.mp hx
      refine ⟨size1000 (by rw [hwn]; decide), ?_⟩
      rw [show ((i : Nat) : Int) + 1 = ((i + 1 : Nat) : Int) by omega, show cutS wh none (some ((i + 1 : Nat) : Int)) = preW wh i from str_ext (by rw [cutS_to, preW_list])]
      exact q
    · show Φ _ _
      rw [List.map_map, show ((fun i : Int => preW wh i.toNat) ∘ fun i : Nat => (i : Int)) = fun i : Nat => preW wh i from rfl]
      refine k _ _ (by rw [List.length_map, List.length_range]) (nodup_map fun i j hij hj e => ?_) (fun w hw => ?_) (by show N + 5 ≤ _; omega)
      · have := preW_inj (by rw [hwn]; omega) (by rw [hwn]; omega) e
        omega
      · obtain ⟨k, hk, rfl⟩ := List.mem_map.mp hw
        exact preW_good hwl hlm (by omega) fun x hx => c36_ok x (hcm x hx)
  -- the common plan
  refine rng0 (m := c) (by omega) ?_
  refine for_rule (fun i s n' => s = (List.range i).map (comW (let_ l) st.cps.toList pn o sr) ∧ n' = N) ⟨rfl, rfl⟩ (fun i x s n' hx hI Φ' k1 k2 => ?_) (fun s n' hI => ?_)
  · obtain ⟨rfl, rfl⟩ := hI
    obtain ⟨rfl, hi⟩ := range_at hx
    have hmul : sr * i ≤ 11 * 7 := Nat.mul_le_mul (by omega) (by omega)
    refine ⟨wmul (by omega) (by omega) (by omega) (by omega), (by decide : (26 : Int) ≠ 0), ?_⟩
    rw [show ((o : Int) + (sr : Int) * ((i : Int))).fmod 26 = (((o + sr * i) % 26 : Nat) : Int) from by
        rw [show (o : Int) + (sr : Int) * (i : Int) = ((o + sr * i : Nat) : Int) by push_cast; rfl]
        exact fmod_nn _ 26]
    refine sgn_i (by decide +kernel) (c36_mod _) ?_
    -- the middle
    obtain ⟨b, hb⟩ : ∃ b : Str, b = (if 1 < pn ∧ i % 2 = 1 then Str.ofString "" else st) := ⟨_, rfl⟩
    have hbl : b.length ≤ 4 := by
      rw [hb]
      split
      · decide +kernel
      · exact hsl
    have rest : ∀ Q : Str → Nat → Prop, Q b n' → (M.bind (M.bind (M.ite (decide ((1 : Int) < (pn : Int))) (M.bind (M.when ((2 : Int) ≠ 0) ((i : Int).fmod 2)) fun x => M.pure (decide (x = 1))) (M.pure false)) fun x => M.pure (if x then (1 : Int) else 0)) fun x => Mi.idx [st, Str.ofString ""] x) Q Ψ n' := by
      intro Q hQ
      refine ite_ (fun h => ⟨by decide, ?_⟩) (fun h => ?_)
      · have h := of_decide_eq_true h
        have e := fmod_nn i 2
        by_cases hi2 : i % 2 = 1
        · have e : (i : Int).fmod 2 = 1 := e.trans (by rw [hi2]; rfl)
          rw [e]
          rw [if_pos ⟨by omega, hi2⟩] at hb
          exact idx_i (atI_nat (j := 1) rfl) (by rw [← hb]; exact hQ)
        · have e : (i : Int).fmod 2 = 0 := e.trans (by rw [show i % 2 = 0 by omega]; rfl)
          rw [e]
          rw [if_neg (fun h => hi2 h.2)] at hb
          exact idx_i (atI_nat (j := 0) rfl) (by rw [← hb]; exact hQ)
      · have h := of_decide_eq_false h
        rw [if_neg (fun z => h (by omega))] at hb
        exact idx_i (atI_nat (j := 0) rfl) (by rw [← hb]; exact hQ)
    refine rest _ ?_
    refine ⟨size1000 (by show 1 + b.length ≤ 1000; omega), size1000 ?_, size1000 (by show 1 + b.length ≤ 1000; omega), (by decide : (2 : Int) ≠ 0), ?_⟩
    · rw [← L2.len_list, one_cat, List.length_cons, L2.len_list]
      show b.length + 1 + 1 ≤ 1000
      omega
    rw [show (pn : Int).fmod 2 = ((pn % 2 : Nat) : Int) from fmod_nn pn 2]
    refine idx_i (x := comW (let_ l) st.cps.toList pn o sr i) ?_ ⟨small1000 (by rw [List.length_map, List.length_range]; omega), ?_⟩
    · rcases Nat.mod_two_eq_zero_or_one pn with h | h
      · rw [h, com_even b hb h]
        exact atI_nat (j := 0) rfl
      · rw [h, com_odd b hb h]
        exact atI_nat (j := 1) rfl
    · refine k1 _ _ ⟨?_, rfl⟩
      rw [List.range_succ, List.map_append]
      rfl
  · obtain ⟨rfl, rfl⟩ := hI
    rw [List.length_map, List.length_range]
    refine k _ _ (by rw [List.length_map, List.length_range]) (nodup_map fun i j hij hj e => ?_) (fun w hw => ?_) (by omega)
    · have := comW_inj hsr (by omega) (by omega) e
      omega
    · obtain ⟨k, hk, rfl⟩ := List.mem_map.mp hw
      exact comW_good hlm hs4 hso
end K20

namespace K20
open PySem PySem.Spec PyProof.Rows L2 VL
/-! ### plain functions -/
def sets0 (names : List Str) : List (List Str) := names.foldl (fun s b => s ++ s.map (· ++ [b])) [[]]
theorem foldl_sets (names : List Str) : ∀ s : List (List Str), (names.foldl (fun s b => s ++ s.map (· ++ [b])) s).length = s.length * 2 ^ names.length := by
  induction names with
  | nil => intro s; simp
  | cons b names ih =>
    intro s
    rw [List.foldl_cons, ih, List.length_append, List.length_map, List.length_cons, Nat.pow_succ]
    rw [← Nat.mul_two, Nat.mul_assoc, Nat.mul_comm 2]
theorem sets0_len (names : List Str) : (sets0 names).length = 2 ^ names.length := by
  unfold sets0
  rw [foldl_sets]
  simp
theorem sets_sub : ∀ (names pre : List Str) (s : List (List Str)), (∀ c ∈ s, c.Sublist pre) → ∀ c ∈ names.foldl (fun s b => s ++ s.map (· ++ [b])) s, c.Sublist (pre ++ names)
  | [], pre, s, h, c, hc => by simpa using h c hc
  | b :: names, pre, s, h, c, hc => by
    have := sets_sub names (pre ++ [b]) (s ++ s.map (· ++ [b])) (fun d hd => by
      rcases List.mem_append.mp hd with hd | hd
      · exact (h d hd).trans (List.sublist_append_left _ _)
      · obtain ⟨e, he, rfl⟩ := List.mem_map.mp hd
        exact (h e he).append (List.Sublist.refl _)) c hc
    simpa using this
theorem sets0_sub {names : List Str} {c : List Str} (h : c ∈ sets0 names) : c.Sublist names := by
  have := sets_sub names [] [[]] (fun c hc => by rw [show c = [] by simpa using hc]; exact List.Sublist.refl _) c h
  simpa using this
theorem sub_filter {xs c : List Str} (h : c.Sublist xs) : xs.Nodup → xs.filter (fun x => decide (x ∈ c)) = c := by
  induction h with
  | slnil => intro _; rfl
  | @cons c xs a h ih =>
    intro nd
    have nd := List.nodup_cons.mp nd
    rw [List.filter_cons, if_neg (by simpa using fun z => nd.1 (h.subset z))]
    exact ih nd.2
  | @cons_cons c xs a h ih =>
    intro nd
    have nd := List.nodup_cons.mp nd
    rw [List.filter_cons, if_pos (by simp)]
    congr 1
    rw [← ih nd.2]
    apply List.filter_congr
    intro x hx
    have : x ≠ a := fun e => nd.1 (e ▸ hx)
    simp only [ih nd.2]
    simp [this]
def okS (names : List Str) : Prop := ∀ w ∈ names, PyData.strOk w = true
theorem okS.sub {xs ys : List Str} (h : okS xs) (s : ys.Sublist xs) : okS ys := fun w hw => h w (s.subset hw)
theorem sortLK_mem {xs : List (List Str)} {c : List Str} : c ∈ sortLK xs ↔ c ∈ xs := (List.mergeSort_perm _ _).mem_iff
theorem ok_sets {names : List Str} (h : okS names) : IsQ.ok (rLst (rTup rStr)) (sortLK (sets0 names)) := fun c hc w hw => h w ((sets0_sub (sortLK_mem.mp hc)).subset hw)
section
variable {Ψ : Exc → Nat → Prop} {n : Nat}
/-- a step through a call -/
theorem nb_ {α β : Type} {m : M α} {f : α → M β} {Φ : β → Nat → Prop} (h : m (fun a k => f a Φ Ψ k) (fun _ _ => False) n) : M.bind (M.nox m) f Φ Ψ n := h
theorem others_ok {a b : List Str} {Φ : List Str → Nat → Prop} (hl : a.length ≤ 1000) (k : Φ (a.filter fun x => !decide (x ∈ b)) n) : F_others (a, b, ()) Φ Ψ n := by
  delta F_others
  refine comp_filter (fun x => !decide (x ∈ b)) (fun x _ Φ' n' q => ite_ (fun h => ?_) (fun h => ?_)) hl k
  · rw [if_pos h] at q; exact q
  · rw [if_neg (by rw [h]; simp)] at q; exact q
theorem sets_loop {ρ : Type} {Φ : Fl ρ (List (List Str)) → Nat → Prop} (names : List Str) (hl : names.length ≤ 6) (k : Φ (.nx (sets0 names)) n) :
    M.forL (fun b s => M.bind (M.bind (Mi.comp s fun c => M.bind (M.when (c.length + [b].length ≤ sizeLine) (c ++ [b])) fun x => M.pure (some x)) fun x => M.when (s.length + x.length ≤ sizeLine) (s ++ x)) fun z => M.nx z) names [([] : List Str)] Φ Ψ n := by
  refine for_fold (fun s b => s ++ s.map (· ++ [b])) (fun i x hx Φ' n' q => ?_) k
  have hi := (List.getElem?_eq_some_iff.mp hx).1
  have e : ((names.take i).foldl (fun s b => s ++ s.map (· ++ [b])) [([] : List Str)]).length ≤ 64 := by
    rw [foldl_sets, List.length_take, Nat.min_eq_left (by omega)]
    calc [([] : List Str)].length * 2 ^ i ≤ 1 * 2 ^ 6 := Nat.mul_le_mul (by simp) (Nat.pow_le_pow_right (by decide) (by omega))
      _ ≤ 64 := by decide
  refine comp_map (· ++ [x]) (fun c hc Φ2 n2 q2 => ⟨size1000 ?_, q2⟩) (by omega) ⟨size1000 ?_, q⟩
  · have := (sets_sub (names.take i) [] [[]] (fun c hc => by rw [show c = [] by simpa using hc]; exact List.Sublist.refl _) c hc).length_le
    simp at this ⊢
    omega
  · rw [List.length_map]; omega
theorem all_sets_ok {names : List Str} {Φ : List (List Str) → Nat → Prop} (hl : names.length ≤ 6) (k : Φ (sortLK (sets0 names)) n) : F_all_sets (names, ()) Φ Ψ n := by
  delta F_all_sets
  refine sets_loop names hl ?_
  show F_in_order (sets0 names, ()) _ _ _
  delta F_in_order
  exact k
theorem pair_sort (xs : List (List Str)) : ((xs.map fun c => ((c.length : Int), c)).mergeSort (PySem.W.dataLe false (IsD.d (rPr rInt (rTup rStr))))).map (·.2) = sortLK xs := by
  unfold sortLK
  have := List.map_mergeSort (r := leLK) (s := PySem.W.dataLe false (IsD.d (rPr rInt (rTup rStr)))) (f := fun c : List Str => ((c.length : Int), c)) (l := xs) (fun a _ b _ => rfl)
  rw [← this, List.map_map]
  exact List.map_id _
theorem Lsets_ok {names : List Str} {Φ : List (List Str) → Nat → Prop} (hl : names.length ≤ 6) (ho : okS names) (k : Φ (sortLK (sets0 names)) n) : F_Lsets (names, ()) Φ Ψ n := by
  delta F_Lsets
  have h64 : (sets0 names).length ≤ 64 := by
    rw [sets0_len]
    exact Nat.pow_le_pow_right (by decide) hl
  refine sets_loop names hl ?_
  refine comp_map (fun c : List Str => ((c.length : Int), c)) (fun x _ Φ' n' q => q) (by omega) (sortD_i ⟨fun x y => ?_, fun x => ⟨_, _, rfl⟩, fun x => ?_, ?_⟩ ?_)
  · simp [IsD.d, PySem.W.alike, PySem.W.alikeAll]
    exact alike_strs x.2 y.2
  · exact Nat.le_trans (IsQ.dep (R := rPr rInt (rTup rStr)) x) (by decide)
  · refine q_layAll (R := rPr rInt (rTup rStr)) _ fun x hx => ?_
    obtain ⟨c, hc, rfl⟩ := List.mem_map.mp hx
    exact ⟨trivial, fun w hw => ho w ((sets0_sub hc).subset hw)⟩
  · refine comp_map (fun p : Int × List Str => p.2) (fun x _ Φ' n' q => q) (by rw [List.length_mergeSort, List.length_map]; omega) ?_
    show Φ _ _
    rw [pair_sort]
    exact k
/-- what is_set says -/
def isSetV (names : List Str) : PyData → Bool
  | .tuple ds => PyData.eqvAll ds ((names.filter fun w => ds.any fun z => PyData.eqv z (.str w)).map .str)
  | _ => false
theorem lay_strs {ws : List Str} (h : okS ws) : PyData.canLayAll0 (ws.map .str) = true ∧ PyData.depthAll (ws.map .str) = 0 :=
  ⟨q_layAll (R := rStr) ws h, depth_strs ws⟩
theorem is_set_of_ok {names : List Str} {d : PyData} {Φ : Bool → Nat → Prop} (hs : sortedS names = true) (h64 : names.length < 64) (ho : okS names) (hd : ∀ ds, d = .tuple ds → SeqAt.shaped d = true) (k : Φ (isSetV names d) n) : F_is_set_of (names, d, ()) Φ Ψ n := by
  delta F_is_set_of
  have no : (∀ ds, d ≠ .tuple ds) → isD_tuple d = false ∧ isSetV names d = false := fun h => by
    cases d <;> first | exact ⟨rfl, rfl⟩ | exact absurd rfl (h _)
  refine ite_ (fun h => ?_) (fun h => ?_)
  · have h : isD_tuple d = false := by simpa using h
    rw [(no fun ds e => by subst e; cases h).2] at k
    exact k
  · obtain ⟨ds, rfl⟩ : ∃ ds, d = .tuple ds := by
      have h : isD_tuple d = true := by simpa using h
      cases d <;> first | exact ⟨_, rfl⟩ | cases h
    have hd := hd ds rfl
    refine sortS_i h64 fun ns hp hso => ?_
    have e := sortedS_one hso hs hp
    subst e
    refine comp_filter (fun w => ds.any fun z => PyData.eqv z (.str w)) (fun x hx Φ' n' q => inDT_i ?_ hd (ite_ (fun h => ?_) (fun h => ?_))) (by omega) ?_
    · exact q_sh (R := rStr) (ho x hx) (by decide)
    · have h : (ds.any fun z => PyData.eqv z (.str x)) = true := h
      rw [if_pos h] at q; exact q
    · rw [if_neg (by rw [show (ds.any fun z => PyData.eqv z (.str x)) = false from h]; simp)] at q; exact q
    · refine eqD_i hd ?_ ?_
      · exact q_sh (R := rTup rStr) (a := ns.filter fun w => ds.any fun z => PyData.eqv z (.str w)) (fun w hw => ho w (List.mem_filter.mp hw).1) (by decide)
      · show Φ (PyData.eqv (.tuple ds) (.tuple _)) _
        have e : PyData.eqv (.tuple ds) (.tuple ((ns.filter fun w => ds.any fun z => PyData.eqv z (.str w)).map (IsD.d rStr))) = isSetV ns (.tuple ds) := by simp only [PyData.eqv, isSetV]; rfl
        rw [e]
        exact k
theorem is_set_ok {names : List Str} {d : PyData} {Φ : Bool → Nat → Prop} (hs : sortedS names = true) (h64 : names.length < 64) (ho : okS names) (hd : ∀ ds, d = .tuple ds → SeqAt.shaped d = true) (k : Φ (isSetV names d) n) : F_is_set (names, d, ()) Φ Ψ n := by
  delta F_is_set
  exact nb_ (is_set_of_ok hs h64 ho hd k)
theorem Lis_set_ok {names : List Str} {d : PyData} {Φ : Bool → Nat → Prop} (h64 : names.length < 64) (ho : okS names) (hd : ∀ ds, d = .tuple ds → SeqAt.shaped d = true) (k : Φ (isSetV names d) n) : F_Lis_set (names, d, ()) Φ Ψ n := by
  delta F_Lis_set
  have no : (∀ ds, d ≠ .tuple ds) → isD_tuple d = false ∧ isSetV names d = false := fun h => by
    cases d <;> first | exact ⟨rfl, rfl⟩ | exact absurd rfl (h _)
  refine ite_ (fun h => ?_) (fun h => ?_)
  · have h : isD_tuple d = false := by simpa using h
    rw [(no fun ds e => by subst e; cases h).2] at k
    exact k
  · obtain ⟨ds, rfl⟩ : ∃ ds, d = .tuple ds := by
      have h : isD_tuple d = true := by simpa using h
      cases d <;> first | exact ⟨_, rfl⟩ | cases h
    have hd := hd ds rfl
    have hl : SeqAt.shaped (.list ds) = true := by
      unfold SeqAt.shaped at hd ⊢
      simpa [PyData.canLay0, PyData.depth] using hd
    have hid : ds.map (IsD.d rDat) = ds := List.map_id ds
    refine listD_i (.inl rfl) ?_
    refine comp_filter (fun w => ds.any fun z => PyData.eqv z (.str w)) (fun x hx Φ' n' q => listD_i (.inl rfl) (inD_i ?_ ?_ (ite_ (fun h => ?_) (fun h => ?_)))) (show names.length ≤ 1000 by omega) ?_
    · exact q_sh (R := rStr) (ho x hx) (by decide)
    · rw [hid]; exact hl
    · rw [hid] at h
      have h : (ds.any fun z => PyData.eqv z (.str x)) = true := h
      rw [if_pos h] at q; exact q
    · rw [hid] at h
      rw [if_neg (by rw [show (ds.any fun z => PyData.eqv z (.str x)) = false from h]; simp)] at q; exact q
    · refine eqD_i ?_ ?_ ?_
      · show SeqAt.shaped (.list (ds.map (IsD.d rDat))) = true
        rw [hid]; exact hl
      · exact q_sh (R := rLst rStr) (a := names.filter fun w => ds.any fun z => PyData.eqv z (.str w)) (fun w hw => ho w (List.mem_filter.mp hw).1) (by decide)
      · show Φ (PyData.eqv (.list (ds.map (IsD.d rDat))) (.list _)) _
        have e : PyData.eqv (.list ds) (.list ((names.filter fun w => ds.any fun z => PyData.eqv z (.str w)).map (IsD.d rStr))) = isSetV names (.tuple ds) := by simp only [PyData.eqv, isSetV]; rfl
        rw [hid]
        exact (congrArg (fun b => Φ b n) e).mpr k
theorem any_str (c : List Str) (w : Str) : ((c.map PyData.str).any fun z => PyData.eqv z (.str w)) = decide (w ∈ c) := by
  induction c with
  | nil => rfl
  | cons x c ih =>
    rw [List.map_cons, List.any_cons, ih, Bool.eq_iff_iff, Bool.or_eq_true, decide_eq_true_iff, decide_eq_true_iff, List.mem_cons]
    have : PyData.eqv (.str x) (.str w) = true ↔ x = w := IsQ.eqv (R := rStr) x w
    rw [this]
    exact ⟨fun h => h.imp Eq.symm id, fun h => h.imp Eq.symm id⟩
theorem isSetV_of (names c : List Str) : isSetV names (IsD.d (rTup rStr) c) = decide (c = names.filter fun w => decide (w ∈ c)) := by
  have e : (fun w => (c.map PyData.str).any fun z => PyData.eqv z (.str w)) = fun w => decide (w ∈ c) := funext (any_str c)
  show PyData.eqvAll (c.map PyData.str) ((names.filter fun w => (c.map PyData.str).any fun z => PyData.eqv z (.str w)).map .str) = _
  rw [e, Bool.eq_iff_iff, decide_eq_true_iff]
  exact q_eqvAll (R := rStr) c _
end
end K20

namespace K20
open PySem PySem.Spec PyProof.Rows L2 VL
def okD (k : Nat) (d : PyData) : Prop := d.canLay0 = true ∧ d.depth ≤ k
theorem okD.sh {k : Nat} {d : PyData} (h : okD k d) (hk : k ≤ 64) : SeqAt.shaped d = true := by
  unfold SeqAt.shaped
  rw [Bool.and_eq_true]
  exact ⟨h.1, decide_eq_true (Nat.le_trans h.2 hk)⟩
theorem okD_q {α : Type} {R : α → VP} [IsD R] [IsQ R] {a : α} (h : IsQ.ok R a) {k : Nat} (hk : IsQ.k R ≤ k) : okD k (IsD.d R a) := ⟨IsQ.lay a h, Nat.le_trans (IsQ.dep a) hk⟩
theorem okD_all {k : Nat} : ∀ {ds : List PyData}, (∀ d ∈ ds, okD k d) → PyData.canLayAll0 ds = true ∧ PyData.depthAll ds ≤ k
  | [], _ => ⟨by simp [PyData.canLayAll0], by simp [PyData.depthAll]⟩
  | d :: ds, h => by
    have h1 := h d (List.mem_cons_self ..)
    have h2 := okD_all fun e he => h e (List.mem_cons_of_mem _ he)
    refine ⟨?_, ?_⟩
    · simp [PyData.canLayAll0, h1.1, h2.1]
    · have := h1.2
      have := h2.2
      simp only [PyData.depthAll]
      omega
theorem okD_tup {k : Nat} {ds : List PyData} (h : ∀ d ∈ ds, okD k d) : okD (k + 1) (.tuple ds) := by
  obtain ⟨h1, h2⟩ := okD_all h
  exact ⟨by simp only [PyData.canLay0]; exact h1, by simp only [PyData.depth]; omega⟩
theorem okD_lst {k : Nat} {ds : List PyData} (h : ∀ d ∈ ds, okD k d) : okD (k + 1) (.list ds) := by
  obtain ⟨h1, h2⟩ := okD_all h
  exact ⟨by simp only [PyData.canLay0]; exact h1, by simp only [PyData.depth]; omega⟩
theorem len_join (a : Str) (ys : List Str) (h : (ys.map (·.length)).sum + ys.length * a.length ≤ 16777216) : True := trivial
theorem sum_le : ∀ (ys : List Str) (k : Nat), (∀ y ∈ ys, y.length ≤ k) → (ys.map (·.length)).sum ≤ ys.length * k
  | [], _, _ => by simp
  | y :: ys, k, h => by
    have h1 := h y (List.mem_cons_self ..)
    have h2 := sum_le ys k fun z hz => h z (List.mem_cons_of_mem _ hz)
    rw [List.map_cons, List.sum_cons, List.length_cons, Nat.add_mul]
    omega
section
variable {Ψ : Exc → Nat → Prop} {n : Nat}
theorem join_le {a : Str} {ys : List Str} (hy : ∀ y ∈ ys, y.length ≤ 1000) (hl : ys.length ≤ 1000) (ha : a.length ≤ 1000) : (ys.map (·.length)).sum + ys.length * a.length ≤ 16777216 := by
  have h1 := sum_le ys 1000 hy
  have h2 : ys.length * 1000 ≤ 1000 * 1000 := Nat.mul_le_mul hl (Nat.le_refl _)
  have h3 : ys.length * a.length ≤ 1000 * 1000 := Nat.mul_le_mul hl ha
  omega
theorem any_ok {pool : List Str} {Φ : PyData → Nat → Prop} (h1 : 0 < pool.length) (h6 : pool.length ≤ 6) (hg : ∀ w ∈ pool, good w = true) (hn : n ≤ 900000) (k : ∀ d n', (∀ ds, d = .tuple ds → SeqAt.shaped d = true) → n' ≤ n + 20 → Φ d n') : F_Lany (pool, ()) Φ Ψ n := by
  have ho : okS pool := fun w hw => good_ok (hg w hw)
  delta F_Lany
  refine ⟨size1000 (by simp; omega), ?_⟩
  obtain ⟨menu, hm⟩ : ∃ menu, menu = pool.map (IsD.d rStr) ++ [((IsD.d rStr ("zz9" : Str))), ((IsD.d rStr ("" : Str))), ((IsD.d rInt (1 : Int))), ((IsD.d rNon ())), ((IsD.d (rTup rDat) ([] : List PyData))), ((IsD.d rStr ("A" : Str)))] := ⟨_, rfl⟩
  have hml : menu.length = pool.length + 6 := by rw [hm]; simp
  have hmo : ∀ d ∈ menu, okD 1 d := fun d hd => by
    rw [hm] at hd
    rcases List.mem_append.mp hd with hd | hd
    · obtain ⟨w, hw, rfl⟩ := List.mem_map.mp hd
      exact okD_q (R := rStr) (ho w hw) (by decide)
    · simp only [List.mem_cons, List.not_mem_nil, or_false] at hd
      rcases hd with rfl | rfl | rfl | rfl | rfl | rfl
      · exact okD_q (R := rStr) (a := "zz9") (show PyData.strOk _ = true by decide +kernel) (by decide)
      · exact okD_q (R := rStr) (a := "") (show PyData.strOk _ = true by decide +kernel) (by decide)
      · exact okD_q (R := rInt) trivial (by decide)
      · exact okD_q (R := rNon) trivial (by decide)
      · exact okD_tup (k := 0) fun _ h => nomatch h
      · exact okD_q (R := rStr) (a := "A") (show PyData.strOk _ = true by decide +kernel) (by decide)
  rw [← hm]
  clear hm
  refine draw_ok (by omega) (by decide) (by decide) fun d (d0 : 0 ≤ d) (d1 : d < 4) => ?_
  obtain ⟨d, rfl⟩ := Int.eq_ofNat_of_zero_le d0
  refine rng0 (by omega) ?_
  refine comp_rule (fun i acc n' => n' = n + 1 + i ∧ acc.length = i ∧ ∀ d ∈ acc, okD 1 d) (by simp; omega) ⟨rfl, rfl, (fun _ h => nomatch h)⟩ (fun i x acc n' hx hI Φ' k' => ?_) (fun row n' hI => ?_)
  · obtain ⟨rfl, hl, hc⟩ := hI
    have hi := (range_at hx).2
    refine draw_ok (m := (menu.length : Int)) (by omega) (by omega) (by omega) fun e e0 e1 => ?_
    obtain ⟨y, hat, hy, _⟩ := idx_ex e0 e1
    refine idx_i hat ?_
    refine k' (some y) _ ⟨by omega, by simp [hl], fun x hx => ?_⟩
    rcases List.mem_append.mp hx with hx | hx
    · exact hc x hx
    · rw [show x = y by simpa using hx]; exact hmo y hy
  obtain ⟨rfl, hrl, hro⟩ := hI
  rw [List.length_map, List.length_range] at hrl ⊢
  -- the part
  refine comp_rule (fun i acc n' => n' = n + 1 + d + i ∧ acc.Sublist (pool.take i)) (by show pool.length ≤ 1000; omega) ⟨rfl, List.Sublist.refl _⟩ (fun i x acc n' hx hI Φ' k' => ?_) (fun part n' hI => ?_)
  · obtain ⟨rfl, hs⟩ := hI
    have hi : i < pool.length := (List.getElem?_eq_some_iff.mp hx).1
    have ht : pool.take (i + 1) = pool.take i ++ [x] := by rw [List.take_succ, show pool[i]? = some x from hx]; rfl
    refine draw_ok (by omega) (by decide) (by decide) fun e e0 e1 => ite_ (fun h => ?_) (fun h => ?_)
    · exact k' (some x) _ ⟨by omega, by rw [ht]; exact hs.append (List.Sublist.refl _)⟩
    · exact k' none _ ⟨by omega, by rw [ht]; simpa using hs.trans (List.sublist_append_left _ _)⟩
  obtain ⟨rfl, hps⟩ := hI
  have hps : part.Sublist pool := by simpa using hps
  have hpl := hps.length_le
  have hpo : okS part := ho.sub hps
  refine ⟨size1000 (by have : (cutL part none (some (1 : Int))).length ≤ part.length := by (unfold cutL; rw [List.length_take, List.length_drop]; omega)
                       omega), ?_⟩
  obtain ⟨N, hN, hNn⟩ : ∃ N, N = n + 1 + d + pool.length ∧ N ≤ n + 10 := ⟨_, rfl, by omega⟩
  rw [← hN]
  refine draw_ok (m := (menu.length : Int)) (by omega) (by omega) (by omega) fun e e0 e1 => ?_
  obtain ⟨y, hat, hy, _⟩ := idx_ex e0 e1
  refine idx_i hat ?_
  refine ⟨size1000 (by simp; omega), ?_⟩
  refine join_i (join_le (a := "") (ys := part) (fun y hy => Nat.le_trans (good_len (hg y (hps.subset hy))) (by decide)) (by omega) (by decide +kernel)) ?_
  refine join_i (join_le (a := " ") (ys := pool) (fun y hy => Nat.le_trans (good_len (hg y hy)) (by decide)) (by omega) (by decide +kernel)) ?_
  obtain ⟨w0, hat0, hw0, _⟩ := idx_ex (xs := pool) (i := 0) (by decide) (by omega)
  refine idx_i hat0 ?_
  refine ⟨size1000 (by simp), ?_⟩
  refine draw_ok (by omega) (by simp) (by simp) fun f f0 f1 => ?_
  obtain ⟨z, hatz, hz, _⟩ := idx_ex f0 f1
  refine idx_i hatz ?_
  refine k z _ (fun ds e => ?_) (by omega)
  have okP : ∀ (x : List PyData), (∀ d ∈ x, okD 1 d) → okD 2 (.tuple x) := fun x h => okD_tup h
  have oks : ∀ d ∈ part.map (IsD.d rStr), okD 1 d := fun d hd => by
    obtain ⟨w, hw, rfl⟩ := List.mem_map.mp hd
    exact okD_q (R := rStr) (hpo w hw) (by decide)
  subst e
  simp only [List.mem_append, List.mem_cons, List.not_mem_nil, or_false] at hz
  have tS : ∀ c : List Str, okS c → okD 2 (IsD.d (rTup rStr) c) := fun c hc => okD_q (R := rTup rStr) hc (by decide)
  rcases hz with (h | h | h | h | h | h) | (h | h | h | h | h | h | h | h | h | h) <;> first | (cases h; done) | skip
  · rw [h]; exact (tS _ hpo).sh (by decide)
  · rw [h]
    refine okD.sh (k := 2) (okD_tup (ds := row.map (IsD.d rDat)) fun d hd => ?_) (by decide)
    obtain ⟨w, hw, rfl⟩ := List.mem_map.mp hd
    exact hro w hw
  · rw [h]; exact (tS _ fun w hw => hpo w (by simpa using hw)).sh (by decide)
  · rw [h]
    refine (tS _ fun w hw => ?_).sh (by decide)
    rcases List.mem_append.mp hw with hw | hw
    · exact hpo w hw
    · exact hpo w (List.mem_of_mem_drop (List.mem_of_mem_take hw))
  · rw [h]
    refine okD.sh (k := 2) (okD_tup (ds := (part.map (IsD.d rStr) ++ [y]).map (IsD.d rDat)) fun d hd => ?_) (by decide)
    obtain ⟨w, hw, rfl⟩ := List.mem_map.mp hd
    rcases List.mem_append.mp hw with hw | hw
    · exact oks w hw
    · rw [show w = y by simpa using hw]; exact hmo y hy
  · rw [h]
    exact okD.sh (k := 3) (okD_q (R := rTup (rTup rStr)) (a := [part]) (fun c hc => by rw [show c = part by simpa using hc]; exact hpo) (by decide)) (by decide)
  · rw [h]
    exact okD.sh (k := 3) (okD_q (R := rTup (rLst rStr)) (a := [part]) (fun c hc => by rw [show c = part by simpa using hc]; exact hpo) (by decide)) (by decide)
end
end K20

namespace K20
open PySem PySem.Spec PyProof.Rows L2 VL
theorem rising_take : ∀ (p : Str) (xs : List Str) (k : Nat), risingS p xs = true → risingS p (xs.take k) = true
  | _, _, 0, _ => by simp [risingS]
  | _, [], _ + 1, _ => by simp [risingS]
  | p, x :: xs, k + 1, h => by
    simp only [risingS, List.take_succ_cons, Bool.and_eq_true] at h ⊢
    exact ⟨h.1, rising_take x xs k h.2⟩
theorem take_sorted {xs : List Str} (k : Nat) (h : sortedS xs = true) : sortedS (xs.take k) = true := by
  cases xs with
  | nil => simpa using h
  | cons x xs =>
    cases k with
    | zero => rfl
    | succ k => exact rising_take x xs k h
theorem law_ok : ∀ Ψ : Exc → Nat → Prop, F_law (fun b _ => b = true) Ψ 0 := by
  intro Ψ
  delta F_law
  refine draw_ok (by decide) (by decide) (by decide) fun d (d0 : 0 ≤ d) (d1 : d < 6) => ?_
  obtain ⟨d, rfl⟩ := Int.eq_ofNat_of_zero_le d0
  have ed : (1 : Int) + (d : Int) = ((1 + d : Nat) : Int) := by omega
  show F_Lnames (((1 : Int) + (d : Int)), ()) _ _ _
  rw [ed]
  refine names_ok (1 + d) (by omega) (by decide) fun ws n1 hwl hnd hg hn1 => ?_
  refine sortS_i (by omega) fun pool hp hso => ?_
  have hpl : pool.length = 1 + d := hp.length_eq.trans hwl
  have hpd : pool.Nodup := hp.nodup_iff.mpr hnd
  have hpg : ∀ w ∈ pool, good w = true := fun w hw => hg w (hp.mem_iff.mp hw)
  have ho : okS pool := fun w hw => good_ok (hpg w hw)
  have h6 : pool.length ≤ 6 := by omega
  clear hp hnd hg hwl
  refine nb_ (Lsets_ok h6 ho ?_)
  refine nb_ (all_sets_ok h6 ?_)
  have hdue := ok_sets ho
  refine ne_no rfl hdue ?_
  obtain ⟨due, hd⟩ : ∃ due, due = sortLK (sets0 pool) := ⟨_, rfl⟩
  have hdm : ∀ c ∈ due, c.Sublist pool := fun c hc => sets0_sub (sortLK_mem.mp (by rw [← hd]; exact hc))
  have hdl : due.length = 2 ^ pool.length := by
    rw [hd]
    show (List.mergeSort _ _).length = _
    rw [List.length_mergeSort, sets0_len]
  have hp1 : 1 ≤ 2 ^ pool.length := Nat.one_le_two_pow
  have hp2 : 2 ^ pool.length ≤ 2 ^ 6 := Nat.pow_le_pow_right (by decide) h6
  rw [← hd]
  refine popE_i (List.getElem?_eq_getElem (by omega)) ?_
  refine ⟨small1000 (by simp; omega), ?_⟩
  refine nb_ (all_sets_ok h6 ?_)
  rw [← hd]
  refine ne_no rfl (by rw [hd]; exact hdue) ?_
  refine for_rule (fun i s n' => n' = n1) rfl (fun i c s n' hx hI Φ' k1 k2 => ?_) (fun s n' hI => ?_)
  · have hc := hdm c (List.mem_of_getElem? hx)
    have hco : okS c := ho.sub hc
    have hfc : pool.filter (fun w => decide (w ∈ c)) = c := sub_filter hc hpd
    obtain ⟨left, hl⟩ : ∃ left, left = pool.filter fun x => !decide (x ∈ c) := ⟨_, rfl⟩
    have hlo : okS left := fun w hw => ho w (by rw [hl] at hw; exact (List.mem_filter.mp hw).1)
    have hll : pool.filter (fun x => !decide (x ∈ left)) = c := by
      rw [← hfc, hl]
      apply List.filter_congr
      intro x hx
      simp [hx]
    refine comp_filter (fun x => !decide (x ∈ c)) (fun x _ Φ2 n2 q => ite_ (fun h => ?_) (fun h => ?_)) (by omega) ?_
    · rw [if_pos h] at q; exact q
    · rw [if_neg (by rw [h]; simp)] at q; exact q
    rw [← hl]
    refine nb_ (is_set_ok hso (by omega) ho (fun ds e => q_sh (R := rTup rStr) hco (by decide)) ?_)
    rw [isSetV_of, hfc, decide_eq_true rfl]
    refine nb_ (others_ok (by omega) ?_)
    rw [← hl]
    refine ne_no rfl hlo ?_
    refine nb_ (others_ok (by omega) ?_)
    rw [hll]
    refine ne_no rfl hco ?_
    exact k1 () n' hI
  have hI : n' = n1 := hI
  subst hI
  refine rng0 (m := 12) (by omega) ?_
  refine for_rule (fun i s n2 => n2 ≤ n' + i * 20) (by omega) (fun i x s n2 hx hI Φ' k1 k2 => ?_) (fun s n2 hI => ?_)
  · have hi := (range_at hx).2
    refine nb_ (any_ok (by omega) h6 hpg (by omega) fun z n3 hz hn3 => ?_)
    refine nb_ (is_set_ok hso (by omega) ho hz ?_)
    refine nb_ (Lis_set_ok (by omega) ho hz ?_)
    refine ite_ (fun h => ?_) (fun h => ?_)
    · simp at h
    · exact k1 () n3 (by rw [Nat.add_mul]; omega)
  have hI : n2 ≤ n' + 12 * 20 := by simpa using hI
  refine nb_ (all_sets_ok (by simp) ?_)
  rw [show sortLK (sets0 []) = [[]] by decide +kernel]
  refine ne_no rfl (fun c hc w hw => by rw [show c = [] by simpa using hc] at hw; cases hw) ?_
  refine nb_ (is_set_ok (by decide +kernel) (by simp) (fun _ h => nomatch h) (fun ds e => by decide +kernel) ?_)
  rw [show isSetV [] (IsD.d (rTup rDat) ([] : List PyData)) = true by decide +kernel]
  refine nb_ (others_ok (by simp) ?_)
  refine ne_no rfl (fun _ h => nomatch h) ?_
  refine nb_ (is_set_ok (by decide +kernel) (by simp) (fun _ h => nomatch h) (fun ds e => q_sh (R := rTup rStr) ho (by decide)) ?_)
  rw [isSetV_of, show decide (pool = List.filter (fun w => decide (w ∈ pool)) []) = false from decide_eq_false (fun e => by rw [e] at hpl; simp at hpl; omega)]
  refine draw_ok (by omega) (by simp; omega) (by omega) fun e (e0 : 0 ≤ e) (e1 : e < (pool.length : Int)) => ?_
  obtain ⟨e, rfl⟩ := Int.eq_ofNat_of_zero_le e0
  obtain ⟨few, hf⟩ : ∃ few, few = cutL pool none (some ((1 : Int) + (e : Int))) := ⟨_, rfl⟩
  show (M.bind _ _) _ _ _
  have hfs : few.Sublist pool := by
    rw [hf, show (1 : Int) + (e : Int) = ((1 + e : Nat) : Int) by omega, cut_to]
    exact List.take_sublist _ _
  have hfl := hfs.length_le
  have hfo : okS few := ho.sub hfs
  rw [← hf]
  refine nb_ (all_sets_ok (by omega) ?_)
  refine nb_ (Lsets_ok (by omega) hfo ?_)
  refine eq_yes rfl (ok_sets hfo) ?_
  have hfso : sortedS few = true := by
    rw [hf, show (1 : Int) + (e : Int) = ((1 + e : Nat) : Int) by omega, cut_to]
    exact take_sorted _ hso
  refine nb_ (is_set_ok hfso (by omega) hfo (fun ds e => q_sh (R := rTup rStr) ho (by decide)) ?_)
  rw [isSetV_of]
  refine eq_dec hfo ho ?_
  show decide _ = true
  rw [show few.filter (fun w => decide (w ∈ pool)) = few from List.filter_eq_self.mpr fun w hw => by simpa using hfs.subset hw]
  simp [eq_comm]
end K20

set_option pp.deepTerms false
set_option pp.deepTerms.threshold 8
namespace K20
open PySem PySem.Spec PyProof.Rows L2 VL
def d_Lstart : He.DefD := ⟨("_law_start", none), "_law_start", "_law_start", defArgs s_Lstart, defBody s_Lstart, defScope s_Lstart, [], []⟩
def d_Ldraw : He.DefD := ⟨("_law_draw", none), "_law_draw", "_law_draw", defArgs s_Ldraw, defBody s_Ldraw, defScope s_Ldraw, [], []⟩
def d_in_order : He.DefD := ⟨("in_order", none), "in_order", "in_order", defArgs s_in_order, defBody s_in_order, defScope s_in_order, [], []⟩
def d_is_set_of : He.DefD := ⟨("is_set_of", none), "is_set_of", "is_set_of", defArgs s_is_set_of, defBody s_is_set_of, defScope s_is_set_of, [], []⟩
def d_all_sets : He.DefD := ⟨("all_sets", none), "all_sets", "all_sets", defArgs s_all_sets, defBody s_all_sets, defScope s_all_sets, [], []⟩
def d_is_set : He.DefD := ⟨("is_set", none), "is_set", "is_set", defArgs s_is_set, defBody s_is_set, defScope s_is_set, [], []⟩
def d_others : He.DefD := ⟨("others", none), "others", "others", defArgs s_others, defBody s_others, defScope s_others, [], []⟩
def d_Lnames : He.DefD := ⟨("_law_names", none), "_law_names", "_law_names", defArgs s_Lnames, defBody s_Lnames, defScope s_Lnames, [], []⟩
def d_Lsets : He.DefD := ⟨("_law_sets", none), "_law_sets", "_law_sets", defArgs s_Lsets, defBody s_Lsets, defScope s_Lsets, [], []⟩
def d_Lany : He.DefD := ⟨("_law_any", none), "_law_any", "_law_any", defArgs s_Lany, defBody s_Lany, defScope s_Lany, [], []⟩
def d_Lis_set : He.DefD := ⟨("_law_is_set", none), "_law_is_set", "_law_is_set", defArgs s_Lis_set, defBody s_Lis_set, defScope s_Lis_set, [], []⟩
def d_law : He.DefD := ⟨("law", none), "law", "law", defArgs s_law, defBody s_law, defScope s_law, [], []⟩
def fn : List He.DefD := [d_Lstart, d_Ldraw, d_in_order, d_is_set_of, d_all_sets, d_is_set, d_others, d_Lnames, d_Lsets, d_Lany, d_Lis_set, d_law]
def fa : List He.Fa := [.glo "_law_start", .glo "_law_draw", .glo "in_order", .glo "is_set_of", .glo "all_sets", .glo "is_set", .glo "others", .glo "_law_names", .glo "_law_sets", .glo "_law_any", .glo "_law_is_set", .glo "law", .free "abs", .free "bool", .free "int", .free "isinstance", .free "len", .free "list", .free "range", .free "sorted", .free "str", .free "tuple"]
def tf : List He.Defn := [("in_order", none)]
abbrev R : PySem.W.OpenRow := PySem.W.OpenLaw.row PySem.Challenge.rw_twochoosers_k20_sets
abbrev hk : PySem.W.Hook := He.hookX 4 fa fn [] tf (fun _ => true)
def ob (s : PySem.W.SharedT) : He.AlX := He.obsX 4 fa fn [] tf (fun _ => true) (HandSHeadRun.getT s)
theorem ob_eq (s : PySem.W.SharedT) : ob s = hk.obs s.abs := He.obsX_eq (HandSHeadRun.getT_eq s)
def names : List PySem.Str := (["in_order", "is_set_of", "all_sets", "is_set", "others", "_law_start", "_law_draw", "_law_names", "_law_sets", "_law_any", "_law_is_set"] : List PySem.Str)
theorem run (w : World) : HandSHeadRun.RunEq R (PySem.W.view R.prog [15]) hk ob 4000 names w := by
  intro os
  kernel_rfl
theorem facts {P : Program} {w : World} {K : PySem.W.Frag} {h : Heap} {mg : Str → Option Value} {f : Addr} (X : K.In h) (G : h.Ns mainGlobals mg) (hfa : mg ("law" : Str) = some (.ref f)) (c : He.SaysD fa fn K) :
    ∃ fd : FuncData, (∀ (s : Shared) (v : Value), BindsTo s fd ⟨[v], []⟩ [("_law_script", v)]) ∧ ∀ base : Heap, K.In base → base.Ns mainGlobals mg → (∀ p ∈ tf.map (He.cT K), LamX.TabB base mg p.1 p.2) → FnOk P w K mg base CX0 3 f fd ["_law_script"] (spLawT K ([((He.cT K ("in_order", none)).2, ("in_order" : Str) ++ ".<locals>." ++ "<lambda>")] : List (Addr × Str))) := by
  obtain ⟨fd0, G0⟩ := c.def_ 0 (d := d_Lstart) rfl
  have F0 : Fun K "_law_start" "_law_start" s_Lstart _ fd0 := He5.fun_of G0
  have b0 := F0.binds (ps := ["_law_script"]) fun _ _ _ _ _ _ us hl => match us, hl with | [_], _ => rfl
  obtain ⟨fd1, G1⟩ := c.def_ 1 (d := d_Ldraw) rfl
  have F1 : Fun K "_law_draw" "_law_draw" s_Ldraw _ fd1 := He5.fun_of G1
  have b1 := F1.binds (ps := ["_law_state", "_law_size"]) fun _ _ _ _ _ _ us hl => match us, hl with | [_, _], _ => rfl
  obtain ⟨fd2, G2⟩ := c.def_ 2 (d := d_in_order) rfl
  have FC2 : FunC K "in_order" "in_order" s_in_order _ fd2 (He.cT K ("in_order", none)).1 := funC_of (p := ("in_order", none)) G2
  have F2 := FC2.toFun
  have b2 := F2.binds (ps := ["sets"]) fun _ _ _ _ _ _ us hl => match us, hl with | [_], _ => rfl
  obtain ⟨fd3, G3⟩ := c.def_ 3 (d := d_is_set_of) rfl
  have F3 : Fun K "is_set_of" "is_set_of" s_is_set_of _ fd3 := He5.fun_of G3
  have b3 := F3.binds (ps := ["outcomes", "value"]) fun _ _ _ _ _ _ us hl => match us, hl with | [_, _], _ => rfl
  obtain ⟨fd4, G4⟩ := c.def_ 4 (d := d_all_sets) rfl
  have F4 : Fun K "all_sets" "all_sets" s_all_sets _ fd4 := He5.fun_of G4
  have b4 := F4.binds (ps := ["outcomes"]) fun _ _ _ _ _ _ us hl => match us, hl with | [_], _ => rfl
  obtain ⟨fd5, G5⟩ := c.def_ 5 (d := d_is_set) rfl
  have F5 : Fun K "is_set" "is_set" s_is_set _ fd5 := He5.fun_of G5
  have b5 := F5.binds (ps := ["outcomes", "value"]) fun _ _ _ _ _ _ us hl => match us, hl with | [_, _], _ => rfl
  obtain ⟨fd6, G6⟩ := c.def_ 6 (d := d_others) rfl
  have F6 : Fun K "others" "others" s_others _ fd6 := He5.fun_of G6
  have b6 := F6.binds (ps := ["outcomes", "wanted"]) fun _ _ _ _ _ _ us hl => match us, hl with | [_, _], _ => rfl
  obtain ⟨fd7, G7⟩ := c.def_ 7 (d := d_Lnames) rfl
  have F7 : Fun K "_law_names" "_law_names" s_Lnames _ fd7 := He5.fun_of G7
  have b7 := F7.binds (ps := ["_law_state", "_law_count"]) fun _ _ _ _ _ _ us hl => match us, hl with | [_, _], _ => rfl
  obtain ⟨fd8, G8⟩ := c.def_ 8 (d := d_Lsets) rfl
  have F8 : Fun K "_law_sets" "_law_sets" s_Lsets _ fd8 := He5.fun_of G8
  have b8 := F8.binds (ps := ["_law_names_here"]) fun _ _ _ _ _ _ us hl => match us, hl with | [_], _ => rfl
  obtain ⟨fd9, G9⟩ := c.def_ 9 (d := d_Lany) rfl
  have F9 : Fun K "_law_any" "_law_any" s_Lany _ fd9 := He5.fun_of G9
  have b9 := F9.binds (ps := ["_law_state", "_law_names_here"]) fun _ _ _ _ _ _ us hl => match us, hl with | [_, _], _ => rfl
  obtain ⟨fd10, G10⟩ := c.def_ 10 (d := d_Lis_set) rfl
  have F10 : Fun K "_law_is_set" "_law_is_set" s_Lis_set _ fd10 := He5.fun_of G10
  have b10 := F10.binds (ps := ["_law_names_here", "_law_thing"]) fun _ _ _ _ _ _ us hl => match us, hl with | [_, _], _ => rfl
  obtain ⟨fd11, G11⟩ := c.def_ 11 (d := d_law) rfl
  have F11 : Fun K "law" "law" s_law _ fd11 := He5.fun_of G11
  have b11 := F11.binds (ps := ["_law_script"]) fun _ _ _ _ _ _ us hl => match us, hl with | [_], _ => rfl
  have e := hfa.symm.trans (He.glo_ok X G (c.fact 11 (f := .glo "law") rfl))
  cases e
  have T : TxtB mg := { z_abs := He.free_ok X G (c.fact 12 (f := .free "abs") rfl), z_bool := He.free_ok X G (c.fact 13 (f := .free "bool") rfl), z_int := He.free_ok X G (c.fact 14 (f := .free "int") rfl), z_isinstance := He.free_ok X G (c.fact 15 (f := .free "isinstance") rfl), z_len := He.free_ok X G (c.fact 16 (f := .free "len") rfl), z_list := He.free_ok X G (c.fact 17 (f := .free "list") rfl), z_range := He.free_ok X G (c.fact 18 (f := .free "range") rfl), z_sorted := He.free_ok X G (c.fact 19 (f := .free "sorted") rfl), z_str := He.free_ok X G (c.fact 20 (f := .free "str") rfl), z_tuple := He.free_ok X G (c.fact 21 (f := .free "tuple") rfl) }
  refine ⟨fd11, fun s v => law_binds F11 (fun _ _ _ _ _ _ _ => rfl) s v, fun base XB GB TB => ?_⟩
  have TB0 : LamX.TabB base mg (He.cT K ("in_order", none)).1 (He.cT K ("in_order", none)).2 := TB _ (List.mem_map.mpr ⟨("in_order", none), by decide +kernel, rfl⟩)
  let c_Lstart : Cal P w K mg base "_law_start" CX0 1 ["_law_script"] (spStart K) := { f := _, fd := _, g := He.glo_ok X G (c.fact 0 (f := .glo "_law_start") rfl), kp := F0.kp, b := b0, G := ok_Lstart F0 T }
  let c_Ldraw : Cal P w K mg base "_law_draw" CX0 1 ["_law_state", "_law_size"] (spT mg K ([((He.cT K ("in_order", none)).2, ("in_order" : Str) ++ ".<locals>." ++ "<lambda>")] : List (Addr × Str)) thV (fun s (q : Int × Unit) => [rSt s, rInt q.1]) F_Ldraw (Fz rInt)) := { f := _, fd := _, g := He.glo_ok X G (c.fact 1 (f := .glo "_law_draw") rfl), kp := F1.kp, b := b1, G := okT_Ldraw F1 T }
  let c_in_order : Cal P w K mg base "in_order" CX0 1 ["sets"] (spG mg K ([((He.cT K ("in_order", none)).2, ("in_order" : Str) ++ ".<locals>." ++ "<lambda>")] : List (Addr × Str)) (fun q : (List (List Str)) × Unit => [(rLst (rTup rStr)) q.1]) F_in_order (Ow (cLst (rTup rStr)))) := { f := _, fd := _, g := He.glo_ok X G (c.fact 2 (f := .glo "in_order") rfl), kp := F2.kp, b := b2, G := ok_in_order FC2 TB0 T }
  let c_is_set_of : Cal P w K mg base "is_set_of" CX0 1 ["outcomes", "value"] (spG mg K ([((He.cT K ("in_order", none)).2, ("in_order" : Str) ++ ".<locals>." ++ "<lambda>")] : List (Addr × Str)) (fun q : (List Str) × PyData × Unit => [(rTup rStr) q.1, rDat q.2.1]) F_is_set_of (Fz rBl)) := { f := _, fd := _, g := He.glo_ok X G (c.fact 3 (f := .glo "is_set_of") rfl), kp := F3.kp, b := b3, G := ok_is_set_of F3 T }
  let c_all_sets : Cal P w K mg base "all_sets" CX0 2 ["outcomes"] (spG mg K ([((He.cT K ("in_order", none)).2, ("in_order" : Str) ++ ".<locals>." ++ "<lambda>")] : List (Addr × Str)) (fun q : (List Str) × Unit => [(rTup rStr) q.1]) F_all_sets (Ow (cLst (rTup rStr)))) := { f := _, fd := _, g := He.glo_ok X G (c.fact 4 (f := .glo "all_sets") rfl), kp := F4.kp, b := b4, G := ok_all_sets F4 T c_in_order }
  let c_is_set : Cal P w K mg base "is_set" CX0 2 ["outcomes", "value"] (spG mg K ([((He.cT K ("in_order", none)).2, ("in_order" : Str) ++ ".<locals>." ++ "<lambda>")] : List (Addr × Str)) (fun q : (List Str) × PyData × Unit => [(rTup rStr) q.1, rDat q.2.1]) F_is_set (Fz rBl)) := { f := _, fd := _, g := He.glo_ok X G (c.fact 5 (f := .glo "is_set") rfl), kp := F5.kp, b := b5, G := ok_is_set F5 T c_is_set_of }
  let c_others : Cal P w K mg base "others" CX0 1 ["outcomes", "wanted"] (spG mg K ([((He.cT K ("in_order", none)).2, ("in_order" : Str) ++ ".<locals>." ++ "<lambda>")] : List (Addr × Str)) (fun q : (List Str) × (List Str) × Unit => [(rTup rStr) q.1, (rTup rStr) q.2.1]) F_others (Fz (rTup rStr))) := { f := _, fd := _, g := He.glo_ok X G (c.fact 6 (f := .glo "others") rfl), kp := F6.kp, b := b6, G := ok_others F6 T }
  let c_Lnames : Cal P w K mg base "_law_names" CX0 2 ["_law_state", "_law_count"] (spT mg K ([((He.cT K ("in_order", none)).2, ("in_order" : Str) ++ ".<locals>." ++ "<lambda>")] : List (Addr × Str)) thV (fun s (q : Int × Unit) => [rSt s, rInt q.1]) F_Lnames (Ow (cLst rStr))) := { f := _, fd := _, g := He.glo_ok X G (c.fact 7 (f := .glo "_law_names") rfl), kp := F7.kp, b := b7, G := ok_Lnames F7 T c_Ldraw }
  let c_Lsets : Cal P w K mg base "_law_sets" CX0 1 ["_law_names_here"] (spG mg K ([((He.cT K ("in_order", none)).2, ("in_order" : Str) ++ ".<locals>." ++ "<lambda>")] : List (Addr × Str)) (fun q : (List Str) × Unit => [(rTup rStr) q.1]) F_Lsets (Ow (cLst (rTup rStr)))) := { f := _, fd := _, g := He.glo_ok X G (c.fact 8 (f := .glo "_law_sets") rfl), kp := F8.kp, b := b8, G := ok_Lsets F8 T }
  let c_Lany : Cal P w K mg base "_law_any" CX0 2 ["_law_state", "_law_names_here"] (spT mg K ([((He.cT K ("in_order", none)).2, ("in_order" : Str) ++ ".<locals>." ++ "<lambda>")] : List (Addr × Str)) thV (fun s (q : (List Str) × Unit) => [rSt s, (rTup rStr) q.1]) F_Lany (Fz rDat)) := { f := _, fd := _, g := He.glo_ok X G (c.fact 9 (f := .glo "_law_any") rfl), kp := F9.kp, b := b9, G := ok_Lany F9 T c_Ldraw }
  let c_Lis_set : Cal P w K mg base "_law_is_set" CX0 1 ["_law_names_here", "_law_thing"] (spG mg K ([((He.cT K ("in_order", none)).2, ("in_order" : Str) ++ ".<locals>." ++ "<lambda>")] : List (Addr × Str)) (fun q : (List Str) × PyData × Unit => [(rTup rStr) q.1, rDat q.2.1]) F_Lis_set (Fz rBl)) := { f := _, fd := _, g := He.glo_ok X G (c.fact 10 (f := .glo "_law_is_set") rfl), kp := F10.kp, b := b10, G := ok_Lis_set F10 T }
  exact ok_law F11 T c_Lstart c_Ldraw c_Lnames c_Lsets c_all_sets c_others c_is_set c_Lany c_Lis_set (kb_P 0 1 [0] F4 (by simp) (fun _ _ _ _ _ _ us ws h1 h2 => match us, ws, h1, h2 with | [], [_], _, _ => rfl)) (kb_P 0 2 [1, 0] F5 (by simp) (fun _ _ _ _ _ _ us ws h1 h2 => match us, ws, h1, h2 with | [], [_, _], _, _ => rfl)) (kb_P 0 2 [1, 0] F6 (by simp) (fun _ _ _ _ _ _ us ws h1 h2 => match us, ws, h1, h2 with | [], [_, _], _, _ => rfl)) law_ok
end K20
open PySem PySem.W PySem.Calls PyProof.Rows in
set_option maxRecDepth 100000 in
set_option maxHeartbeats 0 in
theorem PySem.Challenge.cw_twochoosers_k20_sets_holds : PySem.Challenge.rw_twochoosers_k20_sets.Holds := by
  w_on; o_law
  refine HandSHeadRun.head_any (r := OpenLaw.row PySem.Challenge.rw_twochoosers_k20_sets) (q := view (OpenLaw.row PySem.Challenge.rw_twochoosers_k20_sets).prog [15]) (H := K20.hk) (ob := K20.ob) (M := 4000) (loose := K20.names) (d := HandSHeadRun.topDef (OpenLaw.row PySem.Challenge.rw_twochoosers_k20_sets).prog 15) (kwd := []) K20.ob_eq
    (by kernel_rfl) (fun s => by kernel_rfl) K20.run (by kernel_rfl) (by kernel_rfl) (by kernel_rfl) (by rfl) (by first | assumption | decide +kernel) (by decide +kernel) ⟨rfl, rfl, rfl, rfl, rfl, by decide +kernel⟩ ?hw ?hc
  case hw => w_witness2
  case hc =>
    refine LamX.walk_ofTsE (l := PySem.Challenge.rw_twochoosers_k20_sets) (n := 63) (k := 3) (x := "_law_script") (CX := fun _ => L2.CX0) rfl (by decide) (by kernel_rfl) ⟨rfl, by decide, by decide⟩ ?F (fun _ _ _ _ _ z => z)
    intro w mg fa h Y G hmg0
    obtain ⟨K, KX, c⟩ := Y
    have hmg : mg ("law" : PySem.Str) = some (.ref fa) := by
      have e : (HandSHeadRun.topDef (OpenLaw.row PySem.Challenge.rw_twochoosers_k20_sets).prog 15).name = ("law" : PySem.Str) := by kernel_rfl
      rw [← e]
      exact hmg0
    obtain ⟨fd, hb, hF⟩ := K20.facts (P := (PySem.Challenge.rw_twochoosers_k20_sets).prog) (w := w) KX G hmg c.t.d
    have tab : ∀ (H : L2.Hp), (∀ p ∈ K20.tf.map (He.cT K), H p.2 = some (.tbl #[])) → LamX.Tabs ([((He.cT K ("in_order", none)).2, ("in_order" : Str) ++ ".<locals>." ++ "<lambda>")] : List (Addr × Str)) H := fun H hH p hp => by
      simp only [List.mem_cons, List.not_mem_nil, or_false] at hp
      rcases hp with rfl
      exact LamX.TabS.nil (hH _ (List.mem_map.mpr ⟨("in_order", none), by decide +kernel, rfl⟩))
    refine ⟨K, KX, fd, K20.tf.map (He.cT K), VL.spLawT K ([((He.cT K ("in_order", none)).2, ("in_order" : Str) ++ ".<locals>." ++ "<lambda>")] : List (Addr × Str)), fun p hp => ?_, fun p hp => ?_, fun p hp => ?_, hb, fun H a ns hl _ hT hS => ⟨a, ns, rfl, hS, hl, tab H hT, fun _ => rfl⟩, hF⟩
    · obtain ⟨d, hd, rfl⟩ := List.mem_map.mp hp
      exact c.empty d hd
    · obtain ⟨d, hd, rfl⟩ := List.mem_map.mp hp
      exact c.out d hd
    · obtain ⟨d, hd, rfl⟩ := List.mem_map.mp hp
      exact PySem.W.codeHd_of_K KX (c.hd d hd)
#print axioms PySem.Challenge.cw_twochoosers_k20_sets_holds
