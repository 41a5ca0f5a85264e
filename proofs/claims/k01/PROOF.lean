import PyProof.Rows.All
import Wide.All
import OpenK.AllK
import Wide.FinOn
import HandS.ForMost
import HandS.ForExc
import HandS.Walk
import HandS.IsInst
import HandS.Wide
import HandS.Style
import HandS.Evl
import PySem.Challenge.RW_twochoosers_k01_valid_names
set_option Elab.async false
set_option linter.all false
set_option maxRecDepth 100000
set_option maxHeartbeats 4000000
namespace L2
open PySem PySem.Spec PyProof.Rows
section
variable {X : Cx}
theorem pg_list : PGet X (rIxL X.K) := by
  intro pins s σ H x y v u Q I rx ry h
  obtain ⟨p, xs, i, z, rfl, rfl, hq, he, q⟩ := h
  cases rx
  obtain ⟨t, rfl⟩ := ry
  obtain ⟨its, r, pl, hz⟩ := I.list hq
  obtain ⟨j, h1, h2, h3, h4, h5⟩ := atI_get he
  obtain ⟨w, ew, rw'⟩ := r.get h2
  have hl := r.length
  have hn := line63
  have fin : EP X pins σ Q w s := ⟨z, H, I, rw', q⟩
  by_cases h0 : 0 ≤ i
  · have hj : i.toNat = j := by
      rw [seqIndex_of h0 h5] at h1
      exact Option.some.inj h1
    exact wpAny_getItem_list pl.isList h0 (by omega) (by rw [hj]; simpa using ew) fin
  · have hj : (i + (its.toArray.size : Int)).toNat = j := by
      rw [seqIndex_neg (by omega) h4] at h1
      rw [List.size_toArray, ← hl]
      exact Option.some.inj h1
    exact wpAny_getItem_list_neg pl.isList (by omega) (by rw [List.size_toArray] <;> omega) (by omega) (by rw [hj]; simpa using ew) fin
/-- s[::-1] of a text -/
def revS (z : Str) : Str := ⟨z.cps.toList.reverse.toArray⟩
theorem rev_all {α : Type} (xs : Array α) : (List.range xs.size).filterMap (xs[·]?) = xs.toList := by
  have h := pick_run xs 0 xs.size
  have e : (List.range xs.size).map (0 + ·) = List.range xs.size := by
    rw [show ((0 + ·) : Nat → Nat) = id from funext fun k => Nat.zero_add k, List.map_id]
  rw [e, List.drop_zero, List.take_of_length_le (by rw [Array.length_toList]; exact Nat.le_refl _)] at h
  exact h
theorem rev_ix (z : Str) : (Builtin.Str.strSliceIndices none none (-1) z.length).filterMap (z.cps[·]?) = z.cps.toList.reverse := by
  show (sliceRange ((z.length : Int) - 1) (-1) (-1)).filterMap (z.cps[·]?) = _
  rw [PySem.W.krv_sliceRange, PySem.W.krv_range, List.filterMap_reverse]
  rw [show z.length = z.cps.size from rfl, rev_all]
def tRevS (te : TE) : TE := fun σ H Q => te σ H fun x H1 => ∃ z, x = .str z ∧ z.length ≤ sizeLine ∧ Q (.str (revS z)) H1
theorem pe_revS {e : Expr} {te : TE} {k : Nat} {p1 p2 p3 pos : Pos} (he : PE X e te) : PE X (.Subscript e (.Slice none none (some (.UnaryOp .USub (.Constant (.int 1) k p1) p2)) p3) pos) (tRevS te) := by
  refine ⟨fun pins s σ H Q I h => ?_⟩
  refine Subscript_ (thn (he.run pins s σ H _ I h) fun v s1 ⟨x, H1, I1, r1, q1⟩ => ?_)
  obtain ⟨z, ex, hz, q⟩ := q1
  subst ex
  obtain ⟨t, rfl⟩ := r1
  have hst : PO X (some (.UnaryOp .USub (.Constant (.int 1) k p1) p2)) (tPart (tUn (rU fun i => .int (-i)) (tC (.int 1)))) := po_some (pe_un un_neg pe_int)
  refine wpAny_Slice (thn (po_none.run pins s1 σ H1 (fun o H2 => o = none ∧ H2 = H1) I1 ⟨rfl, rfl⟩) fun vl s2 ⟨l, H2, I2, pl, el, e2⟩ => ?_)
  subst el e2
  refine thn (po_none.run pins s2 σ H2 (fun o H3 => o = none ∧ H3 = H2) I2 ⟨rfl, rfl⟩) fun vu s3 ⟨u, H3, I3, pu, eu, e3⟩ => ?_
  subst eu e3
  refine thn (hst.run pins s3 σ H3 (fun o H4 => o = some (-1) ∧ H4 = H3) I3 ⟨1, rfl, -1, rfl, rfl, rfl⟩) fun vs s4 ⟨o, H4, I4, ps, eo, e4⟩ => ?_
  subst eo e4
  have I5 : Inv X pins σ H4 { s4 with heap := s4.heap.push { cls := .type "slice", data := .fields #[vl, vu, vs] } } := I4.kept (t' := s4.toks) fun b ob q => Heap.get?_push_of_some _ q
  obtain ⟨l, rfl, el⟩ := IsPart.raw pl
  obtain ⟨u, rfl, eu⟩ := IsPart.raw pu
  obtain ⟨st, rfl, e3⟩ := IsPart.raw ps
  have e1 : l = none := by cases l with | none => rfl | some _ => cases el
  have e2 : u = none := by cases u with | none => rfl | some _ => cases eu
  subst e1 e2
  show wpAny (model X.prog X.w) X.A (subscriptTail e (.Slice none none (some (.UnaryOp .USub (.Constant (.int 1) k p1) p2)) p3) (.str z t) (.ref s4.heap.objs.size)) (EP X pins σ Q) X.xe { s4 with heap := s4.heap.push { cls := .type "slice", data := .fields #[partValue none, partValue none, partValue st] } }
  refine tail_any (ops := [.str z t, .ref s4.heap.objs.size]) (typeIs_str _ z t) F.slot_str_getitem.lookup ?_ (by with_unfolding_all rfl)
  refine wpAny_getItem_str_slice (l := none) (u := none) (st := st) ⟨_, Heap.get?_push_size _ rfl, rfl, rfl⟩ (by rw [e3]; rfl) ?_
  unfold sliceMade slicePicked
  rw [e3]
  show Made.post (if ((-1 : Int) == 1 && _) = true then Made.val (.str z t) else Made.str ⟨((Builtin.Str.strSliceIndices none none (-1) z.length).filterMap (z.cps[·]?)).toArray⟩) _ _
  rw [if_neg (by simp), rev_ix]
  refine ⟨?_, .str _, _, I5.tok _, ⟨_, rfl⟩, q⟩
  show z.cps.toList.reverse.toArray.size ≤ sizeLine
  rw [List.size_toArray, List.length_reverse, Array.length_toList]
  exact hz
end
section
variable {X : Cx} {k : Nat} {f : Addr} {fd : FuncData} {ps ks : List Str} {sp : Sp} {CX : CXT} {E : XK} {g : List Value → List Value → List Value} {gV : List V → List V → List V}
/-- f(k = v, ..) -/
theorem pe_callK0 {x : Str} {p pos : Pos} {kws : List Keyword} {tk : TA} (F : FnOk X.prog X.w X.K X.mg X.base CX k f fd ps sp) (hr : Room k X.A) (hg : Gl X x) (hm : X.mg x = some (.ref f)) (hk : PySem.W.keepIn X.K (.ref f) = true) (hb : KBinds X.K fd ps ks g gV) (hx : Passes CX X E)
    (hkw : PK X kws tk) (hall : (backToKw pos (keywordEach kws X.env)).all (·.1.isSome) = true := by rfl) (hks : (backToKw pos (keywordEach kws X.env)).filterMap (·.1) = ks := by rfl)
    (hdb : (x == ("__debug__" : Str)) = false := by decide)
    (hpl : ((backTo pos (starEach [] X.env)).any (·.1) || (backToKw pos (keywordEach kws X.env)).any (·.1.isNone)) = false := by rfl) :
    PE X (.Call (.Name x p) [] kws pos) (tCallK sp gV E tNil tk) := by
  refine ⟨fun pins s σ H Q I h => ?_⟩
  refine wpAny_Call_Name_kw (ld_glob I hg hm ?_ hdb)
  refine PySem.W.callWith_KW0 (h₀ := X.base) I.ok.mod.kin hk hall ?_ hpl
  refine thn (hkw.run pos pins s σ H _ I h) fun ws s2 ⟨zs, H2, I2, rz, q2⟩ => ⟨I2.kIn, ?_⟩
  rw [hks]
  exact run_fnk F hr hb hx I2 .nil rz q2
end
end L2

namespace L2
open PySem PySem.Spec PyProof.Rows
/-! ### the drawing state: s holds [big, cells, counter]; G is what the others see -/
structure VS (s b c : Addr) (n : Int) (bs cs : List Int) (G H : Hp) : Prop where
  sub : Same G H
  gs : G s = none
  gb : G b = none
  gc : G c = none
  bs' : b ≠ s
  cs' : c ≠ s
  bc : b ≠ c
  hs : H s = some (.lst [.ref b, .ref c, .int n])
  hb : H b = some (.lst (bs.map V.int))
  hc : H c = some (.lst (cs.map V.int))
  nn : ∀ x ∈ bs, (0 : Int) ≤ x
  lb : bs.length ≤ 63
  lc : 0 < cs.length ∧ cs.length ≤ 64
  n0 : 0 ≤ n
def View (s : Addr) (N : Nat) (G H : Hp) : Prop := ∃ b c n bs cs, VS s b c n bs cs G H ∧ n ≤ (N : Int)
theorem same_of_none {H : Hp} {p : Addr} {o : HO} (h : H p = none) : Same H (upd H p o) := fun b x e => by
  rw [upd_ne (ne_of_none e h)]
  exact e
/-- what the others do not see may change -/
theorem Same.unseen {G H : Hp} {p : Addr} {o : HO} (e : Same G H) (h : G p = none) : Same G (upd H p o) := fun b x g => by
  rw [upd_ne (ne_of_none g h)]
  exact e _ _ g
theorem View.sub {s : Addr} {N : Nat} {G H : Hp} (v : View s N G H) : Same G H := let ⟨_, _, _, _, _, k, _⟩ := v; k.sub
theorem View.gs {s : Addr} {N : Nat} {G H : Hp} (v : View s N G H) : G s = none := let ⟨_, _, _, _, _, k, _⟩ := v; k.gs
theorem View.mono {s : Addr} {N M : Nat} {G H : Hp} (v : View s N G H) (h : N ≤ M) : View s M G H :=
  let ⟨b, c, n, bs, cs, k, l⟩ := v; ⟨b, c, n, bs, cs, k, by omega⟩
theorem VS.ext {s b c : Addr} {n : Int} {bs cs : List Int} {G H H' : Hp} (k : VS s b c n bs cs G H) (e : Same H H') : VS s b c n bs cs G H' :=
  { k with sub := k.sub.trans e, hs := e _ _ k.hs, hb := e _ _ k.hb, hc := e _ _ k.hc }
theorem View.ext {s : Addr} {N : Nat} {G H H' : Hp} (v : View s N G H) (e : Same H H') : View s N G H' :=
  let ⟨b, c, n, bs, cs, k, l⟩ := v; ⟨b, c, n, bs, cs, k.ext e, l⟩
/-- a new object, seen from now on -/
theorem View.see {s : Addr} {N : Nat} {G H H' : Hp} {p : Addr} {o : HO} (v : View s N G H) (e : Same H H') (n : H p = none) (h : H' p = some o) : View s N (upd G p o) H' := by
  obtain ⟨b, c, i, bs, cs, k, l⟩ := v
  have f : ∀ q u, H q = some u → p ≠ q := fun q u hq z => by rw [z, hq] at n; cases n
  refine ⟨b, c, i, bs, cs, { k.ext e with sub := fun q u hq => ?_, gs := ?_, gb := ?_, gc := ?_ }, l⟩
  · by_cases hqp : q = p
    · subst hqp
      rw [upd_same] at hq
      cases hq
      exact h
    · rw [upd_ne hqp] at hq
      exact e _ _ (k.sub _ _ hq)
  · rw [upd_ne (f _ _ k.hs).symm]; exact k.gs
  · rw [upd_ne (f _ _ k.hb).symm]; exact k.gb
  · rw [upd_ne (f _ _ k.hc).symm]; exact k.gc
theorem View.new {s : Addr} {N : Nat} {G H : Hp} {p : Addr} {o : HO} (v : View s N G H) (n : H p = none) : View s N (upd G p o) (upd H p o) := v.see (same_of_none n) n upd_same
/-- an object that is seen, stored to -/
theorem View.put {s : Addr} {N : Nat} {G H : Hp} {p : Addr} {u o : HO} (v : View s N G H) (h : G p = some u) : View s N (upd G p o) (upd H p o) := by
  obtain ⟨b, c, i, bs, cs, k, l⟩ := v
  have f : ∀ q, G q = none → q ≠ p := fun q hq z => by rw [z, h] at hq; cases hq
  refine ⟨b, c, i, bs, cs, ⟨fun q x hq => ?_, ?_, ?_, ?_, k.bs', k.cs', k.bc, ?_, ?_, ?_, k.nn, k.lb, k.lc, k.n0⟩, l⟩
  · by_cases hqp : q = p
    · subst hqp
      rw [upd_same] at hq ⊢
      exact hq
    · rw [upd_ne hqp] at hq ⊢
      exact k.sub _ _ hq
  · rw [upd_ne (f _ k.gs)]; exact k.gs
  · rw [upd_ne (f _ k.gb)]; exact k.gb
  · rw [upd_ne (f _ k.gc)]; exact k.gc
  · rw [upd_ne (f _ k.gs)]; exact k.hs
  · rw [upd_ne (f _ k.gb)]; exact k.hb
  · rw [upd_ne (f _ k.gc)]; exact k.hc
theorem VS.count {s b c : Addr} {n : Int} {bs cs : List Int} {G H : Hp} (k : VS s b c n bs cs G H) : VS s b c (n + 1) bs cs G (upd H s (.lst [.ref b, .ref c, .int (n + 1)])) where
  sub := k.sub.unseen k.gs
  gs := k.gs
  gb := k.gb
  gc := k.gc
  bs' := k.bs'
  cs' := k.cs'
  bc := k.bc
  hs := upd_same
  hb := by rw [upd_ne k.bs']; exact k.hb
  hc := by rw [upd_ne k.cs']; exact k.hc
  nn := k.nn
  lb := k.lb
  lc := k.lc
  n0 := by have := k.n0; omega
/-- another big list in the first place -/
theorem VS.big {s b c p : Addr} {n y : Int} {r cs : List Int} {G H : Hp} (k : VS s b c n (y :: r) cs G H) (hp : H p = none) :
    VS s p c n r cs G (upd (upd H p (.lst (r.map V.int))) s (.lst [.ref p, .ref c, .int n])) := by
  have ps : p ≠ s := fun z => by rw [z, k.hs] at hp; cases hp
  have pc : p ≠ c := fun z => by rw [z, k.hc] at hp; cases hp
  exact { sub := (k.sub.unseen (k.sub.free hp)).unseen k.gs, gs := k.gs, gb := k.sub.free hp, gc := k.gc, bs' := ps, cs' := k.cs', bc := pc, hs := upd_same,
          hb := by rw [upd_ne ps, upd_same], hc := by rw [upd_ne k.cs', upd_ne pc.symm]; exact k.hc, nn := fun x hx => k.nn x (List.mem_cons_of_mem _ hx),
          lb := by have := k.lb; rw [List.length_cons] at this; omega, lc := k.lc, n0 := k.n0 }
/-- the big list's head, changed -/
theorem VS.head {s b c : Addr} {n y z : Int} {r cs : List Int} {G H : Hp} (k : VS s b c n (y :: r) cs G H) (hz : 0 ≤ z) : VS s b c n (z :: r) cs G (upd H b (.lst ((z :: r).map V.int))) where
  sub := k.sub.unseen k.gb
  gs := k.gs
  gb := k.gb
  gc := k.gc
  bs' := k.bs'
  cs' := k.cs'
  bc := k.bc
  hs := by rw [upd_ne k.bs'.symm]; exact k.hs
  hb := upd_same
  hc := by rw [upd_ne k.bc.symm]; exact k.hc
  nn := fun x hx => by
    rcases List.mem_cons.mp hx with rfl | hx
    · exact hz
    · exact k.nn x (List.mem_cons_of_mem _ hx)
  lb := k.lb
  lc := k.lc
  n0 := k.n0
/-- a seen object is left out of sight -/
theorem Same.free' {G H : Hp} {p : Addr} (e : Same G H) (h : H p = none) : G p = none := e.free h
/-! ### lists of ints -/
theorem dpAll_ints {K : PySem.W.Frag} {H : Hp} : ∀ ns : List Int, DpAll K H (ns.map V.int) (ns.map PyData.int)
  | [] => .nil
  | i :: r => .cons (.int i) (dpAll_ints r)
theorem dpAll_strs {K : PySem.W.Frag} {H : Hp} : ∀ ns : List Str, DpAll K H (ns.map V.str) (ns.map PyData.str)
  | [] => .nil
  | i :: r => .cons (.str i) (dpAll_strs r)
theorem cut1 (x : V) (xs : List V) : cutV (x :: xs) (some 1) none = xs := by
  unfold cutV
  rw [show HT.sIx (x :: xs).length 0 (some 1) = min 1 (x :: xs).length from HT.sIx_nat (x :: xs).length 0 1, HT.sIx_none]
  rw [show min 1 (x :: xs).length = 1 by
    rw [List.length_cons]
    omega]
  show (List.take ((x :: xs).length - 1) xs) = xs
  rw [List.length_cons, Nat.add_sub_cancel]
  exact List.take_length
theorem shaped_ints : ∀ ns : List Int, SeqAt.shaped (.list (ns.map PyData.int)) = true
  | [] => rfl
  | _ :: r => shaped_ints r
/-! ### comprehensions whose parts touch nothing -/
def Is (te : TE) (σ : St) (H : Hp) (v : V) : Prop := ∀ Q : VK, Q v H → te σ H Q
def TIs (t : TT) (σ : St) (H : Hp) (b : Bool) : Prop := ∀ Q : Bool → Hp → Prop, Q b H → t σ H Q
theorem take_more {α : Type} : ∀ {l : List α} {i : Nat} {x : α}, l[i]? = some x → l.take (i + 1) = l.take i ++ [x]
  | [], i, x, h => by simp at h
  | a :: l, 0, x, h => by
    have e : a = x := Option.some.inj h
    subst e
    rfl
  | a :: l, i + 1, x, h => by
    have ih := take_more (l := l) (i := i) (x := x) h
    show a :: l.take (i + 1) = a :: l.take i ++ [x]
    rw [ih]
    rfl
theorem fm_len {α β : Type} (l : List α) (p : α → Bool) (f : α → β) : ((l.filter p).map f).length ≤ l.length := by
  rw [List.length_map]
  exact List.length_filter_le _ _
theorem lc_fm {J : It} {G : Hp → Prop} {xs : List V} (w : Walk J xs.length G (YAt xs)) {tt : TT} {te : TE} {vs : List Nat} {σ : St} {H1 : Hp} {D : Addr} {Qd : Hp → Prop} {j : Nat} (p : V → Bool) (f : V → V)
    (hD : H1 D = none) (hG : ∀ H', Same H1 H' → G H') (hl : xs.length ≤ 1000) (hw : ∀ x, wipe ((wipe σ vs).set j (some x)) vs = wipe σ vs)
    (ht : ∀ x ∈ xs, ∀ H', Same H1 H' → TIs tt ((wipe σ vs).set j (some x)) H' (p x)) (he : ∀ x ∈ xs, p x = true → ∀ H', Same H1 H' → Is te ((wipe σ vs).set j (some x)) H' (f x))
    (hd : Qd (upd H1 D (.lst ((xs.filter p).map f)))) :
    ∃ W : Nat → Nat → Hp → Prop, (∃ m, W 0 m (upd H1 D (.lst []))) ∧ ∀ i m H, W i m H →
      (J.stop i H ∧ Qd H) ∨ (J.go i H ∧ ∃ Nx : Hp → Prop, (∀ H', Nx H' → ∃ m', m' < m ∧ W (i + 1) m' H') ∧ ∀ x H', J.yld i H x H' → gName j x (wipe σ vs) H' fun σ2 H2 => wipe σ2 vs = wipe σ vs ∧ tt σ2 H2 fun b H3 =>
        if b = true then te σ2 H3 fun y H4 => ∃ acc, H4 D = some (.lst acc) ∧ acc.length < sizeLine ∧ Nx (upd H4 D (.lst (acc ++ [y]))) else Nx H3) := by
  have sm : ∀ l : List V, Same H1 (upd H1 D (.lst l)) := fun l => same_of_none hD
  refine lc_it w (fun i H => H = upd H1 D (.lst (((xs.take i).filter p).map f))) rfl (fun i H _ e => by rw [e]; exact hG _ (sm _)) (fun i x H H' hi e y => ?_) (fun H e => by rw [e, List.take_length]; exact hd)
  obtain ⟨rfl, hx⟩ := y
  subst e
  have hm : x ∈ xs := List.mem_of_getElem? hx
  have ht' := take_more hx
  refine ⟨hw x, ht x hm _ (sm _) _ ?_⟩
  cases hp : p x with
  | true =>
    refine if_pos rfl |>.mpr ?_
    refine he x hm hp _ (sm _) _ ⟨_, upd_same, small1000 (Nat.le_trans (fm_len _ _ _) (by rw [List.length_take]; omega)), ?_⟩
    rw [upd_upd, ht', List.filter_append, List.map_append, List.filter_cons, if_pos hp]
    rfl
  | false =>
    refine if_neg Bool.false_ne_true |>.mpr ?_
    rw [ht', List.filter_append, List.filter_cons, if_neg (by rw [hp]; exact Bool.false_ne_true)]
    show upd H1 D _ = upd H1 D (.lst ((((xs.take i).filter p) ++ []).map f))
    rw [List.append_nil]
/-- the signs of a text -/
def sgn (c : Nat) : V := .str ⟨#[c]⟩
def sgns (z : Str) : List V := z.cps.toList.map sgn
theorem walk_sgns {z : Str} : Walk (Its z) (sgns z).length (fun _ => True) (YAt (sgns z)) := by
  have hn : (sgns z).length = z.cps.size := by unfold sgns; simp
  rw [hn]
  refine walk_str.mono (fun _ h => h) (fun i H v H' hi _ ⟨e, c, hc, hv⟩ => ⟨e, ?_⟩)
  unfold sgns
  rw [List.getElem?_map, Array.getElem?_toList, hc, hv]
  rfl
theorem View.hide {s : Addr} {N : Nat} {G H : Hp} {p : Addr} {o : HO} (v : View s N (upd G p o) H) (h : G p = none) : View s N G H := by
  obtain ⟨b, c, n, bs, cs, k, l⟩ := v
  have f : ∀ q, upd G p o q = none → G q = none := fun q hq => by
    by_cases e : q = p
    · rw [e]; exact h
    · rw [upd_ne e] at hq; exact hq
  exact ⟨b, c, n, bs, cs, { k with sub := fun q u hq => k.sub q u (same_of_none h q u hq), gs := f _ k.gs, gb := f _ k.gb, gc := f _ k.gc }, l⟩
theorem View.free {s : Addr} {N : Nat} {G H : Hp} {p : Addr} (v : View s N G H) (h : H p = none) : G p = none := v.sub.free h
/-! ### "".join of signs -/
theorem glue_go (l : List Str) : ∀ acc : Array Nat, (l.foldl (fun acc p => acc ++ (Str.ofString "").cps ++ p.cps) acc).toList = acc.toList ++ l.flatMap (·.cps.toList) := by
  induction l with
  | nil => intro acc; simp
  | cons x r ih =>
    intro acc
    rw [List.foldl_cons, ih]
    have e : (Str.ofString "").cps = #[] := by decide +kernel
    rw [e]
    simp
theorem join_flat (l : List Str) : (Txt.join "" l).cps.toList = l.flatMap (·.cps.toList) := by
  show ((l.drop 1).foldl (fun acc p => acc ++ (Str.ofString "").cps ++ p.cps) (l.headD Str.empty).cps).toList = _
  rw [glue_go]
  cases l with
  | nil => rfl
  | cons x r => simp
theorem join_signs (cs : List Nat) : (Txt.join "" (cs.map fun c => (⟨#[c]⟩ : Str))).cps.toList = cs := by
  rw [join_flat]
  induction cs with
  | nil => rfl
  | cons c r ih => simp [ih]
theorem sgn_strs (cs : List Nat) : (cs.map fun c => (⟨#[c]⟩ : Str)).map V.str = cs.map sgn := by
  rw [List.map_map]
  rfl
theorem ones_len (cs : List Nat) : ((cs.map fun c => (⟨#[c]⟩ : Str)).map (·.length)).sum = cs.length := by
  induction cs with
  | nil => rfl
  | cons c r ih =>
    show 1 + ((r.map fun c => (⟨#[c]⟩ : Str)).map (·.length)).sum = r.length + 1
    rw [ih]
    omega
end L2

namespace K01
open PySem PySem.Spec PyProof.Rows L2
def top (i : Nat) : Stmt := PySem.Challenge.pw_twochoosers_k01_valid_names.main.body.getD i (.Pass ⟨0, 0, 0, 0⟩)
structure Txt (mg : Str → Option Value) : Prop where
  z_len : mg "len" = none
  z_int : mg "int" = none
  z_abs : mg "abs" = none
  z_list : mg "list" = none
  z_range : mg "range" = none
  z_all : mg "all" = none
  z_isinstance : mg "isinstance" = none
  z_bool : mg "bool" = none
section
variable {P : Program} {w : World} {K : PySem.W.Frag} {mg : Str → Option Value} {base : Heap}
abbrev s_Ldraw : Stmt := top 7
theorem sc_Ldraw : FnScope ["_law_state", "_law_size", "_law_digit", "_law_cell", "_law_one"] ["_law_state", "_law_size"] (defScope s_Ldraw) := ⟨rfl, rfl, rfl, by decide +kernel, rfl, by decide +kernel, by decide +kernel⟩
def spDraw : Sp := fun vs H Q _ => ∃ (s : Addr) (N : Nat) (G : Hp) (m : Int), vs = [.ref s, .int m] ∧ View s N G H ∧ N ≤ 1000000 ∧ 0 < m ∧ m < 2 ^ 100 ∧
  ∀ (d : Int) (H' : Hp), 0 ≤ d → d < m → View s (N + 1) G H' → Q (.int d) H'
theorem fmod_in (x : Int) {m : Int} (h : 0 < m) : 0 ≤ x.fmod m ∧ x.fmod m < m := by
  rw [Int.fmod_eq_emod_of_nonneg x (by omega)]
  exact ⟨Int.emod_nonneg _ (by omega), Int.emod_lt_of_pos _ h⟩
theorem ix_mod (cs : List Int) (n : Int) (h : 0 < cs.length) : ∃ (j : Nat) (z : Int), n.fmod (cs.length : Int) = (j : Int) ∧ cs[j]? = some z := by
  obtain ⟨h0, h1⟩ := fmod_in n (m := (cs.length : Int)) (by omega)
  obtain ⟨j, hj⟩ := Int.eq_ofNat_of_zero_le h0
  refine ⟨j, cs[j]'(by omega), hj, List.getElem?_eq_getElem _⟩
theorem nz1 : (2147483647 : Int) ≠ 0 := by decide
theorem nz2 : (2147483629 : Int) ≠ 0 := by decide
theorem ixN_zero {y : Int} {r : List Int} : ixN ((y :: r).map V.int).length 0 = some 0 := by
  unfold ixN
  rw [if_pos (by decide), if_pos (by rw [List.length_map, List.length_cons]; omega)]
  rfl
theorem dec_true {c : Bool} {A B : Prop} (hc : c = true) (h : A) : if c = true then A else B := by rw [if_pos hc]; exact h
theorem dec_false {c : Bool} {A B : Prop} (hc : c = false) (h : B) : if c = true then A else B := by rw [hc, if_neg Bool.false_ne_true]; exact h
theorem pow5 {x : Int} (h0 : 0 ≤ x) (h : x < 2 ^ 60) : (0 : Int) ≤ 5 ∧ (5 : Int) ≤ 1000000 ∧ x.natAbs < 2 ^ 64 := ⟨by decide, by decide, by
  have : x.natAbs < 2 ^ 60 := by omega
  omega⟩
theorem wmul {i j : Int} (h0 : 0 ≤ i) (h : i < 2 ^ 40) (h1 : 0 ≤ j) (h2 : j < 2 ^ 40) : CMulW i j := wide_mul (a := 40) (b := 40) (by omega) (by omega) (by decide) (by decide) (by decide)
set_option maxHeartbeats 20000000 in
theorem ok_draw {f : Addr} {fd : FuncData} (F : Fun K "_law_draw" "_law_draw" s_Ldraw f fd) (T : Txt mg) : FnOk P w K mg base CX0 1 f fd ["_law_state", "_law_size"] spDraw := by
  refine F.ok sc_Ldraw (fun vs H Q E h => ?_) (fun cdv A outer s H vs Q E hr h => ?_)
  · obtain ⟨s, N, G, m, rfl, _⟩ := h
    rfl
  · obtain ⟨s, N, G, m, rfl, ⟨b, c, n, bs, cs, k, hnN⟩, hN, hm, hm2, q⟩ := h
    refine ⟨_, (pss_cons (ps_augS (pv 0) pe_int pg_list pe_int ip_add set_list)
      (pss_cons (ps_while PassesOwn.never (PW.pt (pw_and (pt_cmpR (op_neD hr.units) (pe_ix ix_list (pv 0) pe_int (fun _ _ => rfl)) (pe_lst pa_nil) (nomark _)) (pw_and1 (pt_cmpR op_eq (pe_ix ix_list (pe_ix ix_list (pv 0) pe_int (fun _ _ => rfl)) pe_int (fun _ _ => rfl)) pe_int (nomark _))))) (pss_one (ps_asg (pe_slice sl_list (pe_ix ix_list (pv 0) pe_int (fun _ _ => rfl)) (po_some pe_int) po_none) (pg_sub (pv 0) pe_int set_list))))
      (pss_cons (ps_if (pt_cmpR (op_neD hr.units) (pe_ix ix_list (pv 0) pe_int (fun _ _ => rfl)) (pe_lst pa_nil) (nomark _)) (pss_cons (ps_set (i := 2) sc_Ldraw.nd rfl (.inl rfl) (pe_op op_modN (pe_callTy call_int1 (by rfl) T.z_int (by decide +kernel) (pa_cons (pe_ix ix_list (pe_ix ix_list (pv 0) pe_int (fun _ _ => rfl)) pe_int (fun _ _ => rfl)) pa_nil)) (pv 1)))
      (pss_cons (ps_asg (pe_op op_fdivW (pe_ix ix_list (pe_ix ix_list (pv 0) pe_int (fun _ _ => rfl)) pe_int (fun _ _ => rfl)) (pv 1)) (pg_sub (pe_ix ix_list (pv 0) pe_int (fun _ _ => rfl)) pe_int set_list))
      (pss_one (ps_ret (pv 2))))) pss_nil)
      (pss_cons (ps_set (i := 3) sc_Ldraw.nd rfl (.inl rfl) (pe_op op_modN (pe_callTy call_int1 (by rfl) T.z_int (by decide +kernel) (pa_cons (pe_ix ix_list (pe_ix ix_list (pv 0) pe_int (fun _ _ => rfl)) (pe_op op_modN (pe_callTy call_int1 (by rfl) T.z_int (by decide +kernel) (pa_cons (pe_ix ix_list (pv 0) pe_int (fun _ _ => rfl)) pa_nil)) (pe_callB call_len_seq (by rfl) T.z_len PySem.boot_len (pa_cons (pe_ix ix_list (pv 0) pe_int (fun _ _ => rfl)) pa_nil))) (fun _ _ => rfl)) pa_nil)) pe_int))
      (pss_cons (ps_set (i := 4) sc_Ldraw.nd rfl (.inl rfl) (pe_op op_modN (pe_callTy call_int1 (by rfl) T.z_int (by decide +kernel) (pa_cons (pe_op op_pow (pe_op op_add (pe_op op_add (pe_op op_mulW (pv 3) pe_int) (pe_op op_mulW (pe_ix ix_list (pv 0) pe_int (fun _ _ => rfl)) pe_int)) pe_int) pe_int) pa_nil)) pe_int))
      (pss_one (ps_ret (pe_op op_modN (pe_op op_modN (pe_callTy call_int1 (by rfl) T.z_int (by decide +kernel) (pa_cons (pe_op op_pow (pe_op op_add (pe_op op_add (pe_op op_mulW (pv 4) pe_int) (pe_op op_mulW (pe_ix ix_list (pv 0) pe_int (fun _ _ => rfl)) pe_int)) pe_int) pe_int) pa_nil)) pe_int) (pv 1))))))))), ?_⟩
    -- state[2] += 1
    refine ⟨.ref s, rfl, s, _, 2, _, rfl, rfl, SqL.of k.hs, atI_nat (j := 2) rfl, n, 1, rfl, rfl, s, _, 2, 2, rfl, rfl, k.hs, rfl, ?_⟩
    have k1 := k.count
    -- while state[0] != [] and state[0][0] == 0
    refine ⟨fun m' σ H' => ∃ b bs, bs.length = m' ∧ σ = [some (.ref s), some (.int m), none, none, none] ∧ VS s b c (n + 1) bs cs G H', ⟨bs.length, b, bs, rfl, rfl, k1⟩, ?_⟩
    rintro m' σ H' ⟨b, bs, rfl, rfl, k⟩
    refine ⟨.ref s, rfl, s, _, 0, _, rfl, rfl, SqL.of k.hs, atI_nat (j := 0) rfl, Nat.zero_le _, fun p hp => ?_⟩
    have kp := k.ext (same_of_none (o := .lst []) hp)
    refine ⟨.list (bs.map .int), .list [], .lst (SqL.of kp.hb) (dpAll_ints bs), .lst (SqL.of upd_same) .nil, shaped_ints bs, rfl, _, rfl, ?_⟩
    cases bs with
    | nil =>
      refine iteF (iteF ?_)
      refine ⟨.ref s, rfl, s, _, 0, _, rfl, rfl, SqL.of kp.hs, atI_nat (j := 0) rfl, Nat.zero_le _, fun p2 hp2 => ?_⟩
      have kq := kp.ext (same_of_none (o := .lst []) hp2)
      refine ⟨.list [], .list [], .lst (SqL.of kq.hb) .nil, .lst (SqL.of upd_same) .nil, rfl, rfl, _, rfl, iteF ?_⟩
      obtain ⟨j, z, hj, hz⟩ := ix_mod cs (n + 1) k.lc.1
      have hl : ((cs.map V.int).length : Int) ≠ 0 := by rw [List.length_map]; have := k.lc.1; omega
      refine ⟨.ref s, rfl, s, _, 1, _, rfl, rfl, SqL.of kq.hs, atI_nat (j := 1) rfl, .ref s, rfl, s, _, 2, _, rfl, rfl, SqL.of kq.hs, atI_nat (j := 2) rfl, .inl ⟨_, rfl, .ref s, rfl, s, _, 1, _, rfl, rfl, SqL.of kq.hs, atI_nat (j := 1) rfl, c, _, rfl, .inl (SqL.of kq.hc), n + 1, _, rfl, rfl, hl, c, _, _, .int z, rfl, rfl, SqL.of kq.hc, ?_, .inl ⟨_, rfl, z, 2147483647, rfl, rfl, nz1, ?_⟩⟩⟩
      · rw [List.length_map, hj]
        exact atI_nat (by rw [List.getElem?_map, hz]; rfl)
      obtain ⟨c0, c1⟩ := fmod_in z (m := 2147483647) (by decide)
      have hn0 := k.n0
      have hn1 : n + 1 ≤ 1000002 := by omega
      refine ⟨_, rfl, _, _, rfl, rfl, wmul c0 (by omega) (by decide) (by decide), .ref s, rfl, s, _, 2, _, rfl, rfl, SqL.of kq.hs, atI_nat (j := 2) rfl, _, _, rfl, rfl, wmul (by omega) (by omega) (by decide) (by decide), _, _, rfl, rfl, _, _, rfl, rfl, _, _, rfl, rfl, pow5 (by omega) (by omega), .inl ⟨_, rfl, _, _, rfl, rfl, nz1, ?_⟩⟩
      obtain ⟨d0, d1⟩ := fmod_in ((z.fmod 2147483647 * 48271 + (n + 1) * 69621 + 7) ^ (5 : Int).toNat) (m := 2147483647) (by decide)
      refine ⟨_, rfl, _, _, rfl, rfl, wmul d0 (by omega) (by decide) (by decide), .ref s, rfl, s, _, 2, _, rfl, rfl, SqL.of kq.hs, atI_nat (j := 2) rfl, _, _, rfl, rfl, wmul (by omega) (by omega) (by decide) (by decide), _, _, rfl, rfl, _, _, rfl, rfl, _, _, rfl, rfl, pow5 (by omega) (by omega), .inl ⟨_, rfl, _, _, rfl, rfl, nz2, _, rfl, _, _, rfl, rfl, by omega, ?_⟩⟩
      exact q _ _ (fmod_in _ hm).1 (fmod_in _ hm).2 ⟨b, c, n + 1, [], cs, kq, by omega⟩
    | cons y r =>
      refine iteT ?_
      refine ⟨.ref s, rfl, s, _, 0, _, rfl, rfl, SqL.of kp.hs, atI_nat (j := 0) rfl, b, _, 0, .int y, rfl, rfl, SqL.of kp.hb, atI_nat (j := 0) rfl, rfl, _, rfl, ?_⟩
      refine ite2 (fun e0 => ?_) (fun e0 => ?_)
      · have hy : y = 0 := V.int.inj (of_decide_eq_true e0)
        refine ⟨fun σ' H' => ∃ b, σ' = [some (.ref s), some (.int m), none, none, none] ∧ VS s b c (n + 1) r cs G H', fun σ' H' ⟨b, e, k⟩ => ⟨r.length, by simp, b, r, rfl, e, k⟩, ?_⟩
        refine ⟨.ref s, rfl, s, _, 0, _, rfl, rfl, SqL.of kp.hs, atI_nat (j := 0) rfl, 1, rfl, b, _, rfl, SqL.of kp.hb, fun p2 hp2 => ?_⟩
        have kq := kp.ext (same_of_none (o := .lst (cutV ((y :: r).map V.int) (some 1) none)) hp2)
        refine ⟨.ref s, rfl, s, _, 0, 0, rfl, rfl, kq.hs, rfl, p2, rfl, ?_⟩
        rw [show cutV ((y :: r).map V.int) (some 1) none = r.map V.int from cut1 _ _] at kq ⊢
        exact kp.big hp2
      · have hy : ¬ y = 0 := fun e => e0 (decide_eq_true (by rw [e]))
        have hy0 : 0 ≤ y := k.nn y List.mem_cons_self
        refine ⟨.ref s, rfl, s, _, 0, _, rfl, rfl, SqL.of kp.hs, atI_nat (j := 0) rfl, Nat.zero_le _, fun p2 hp2 => ?_⟩
        have kq := kp.ext (same_of_none (o := .lst []) hp2)
        refine ⟨.list ((y :: r).map .int), .list [], .lst (SqL.of kq.hb) (dpAll_ints _), .lst (SqL.of upd_same) .nil, shaped_ints _, rfl, _, rfl, iteT ?_⟩
        refine ⟨.ref s, rfl, s, _, 0, _, rfl, rfl, SqL.of kq.hs, atI_nat (j := 0) rfl, b, _, 0, .int y, rfl, rfl, SqL.of kq.hb, atI_nat (j := 0) rfl, .inl ⟨_, rfl, _, rfl, y, m, rfl, rfl, by omega, ?_⟩⟩
        refine ⟨.ref s, rfl, s, _, 0, _, rfl, rfl, SqL.of kq.hs, atI_nat (j := 0) rfl, b, _, 0, .int y, rfl, rfl, SqL.of kq.hb, atI_nat (j := 0) rfl, _, rfl, y, m, rfl, rfl, wide_div (b := 100) hm (by omega) (by decide) (by decide), .ref s, rfl, s, _, 0, _, rfl, rfl, SqL.of kq.hs, atI_nat (j := 0) rfl, b, _, 0, 0, rfl, rfl, kq.hb, ixN_zero, ?_⟩
        refine ⟨_, rfl, ?_⟩
        exact q _ _ (fmod_in _ hm).1 (fmod_in _ hm).2 ⟨b, c, n + 1, _, cs, kq.head (Int.ediv_nonneg hy0 (by omega)), by omega⟩

abbrev s_Lstart : Stmt := top 6
abbrev N_Lstart : List Str := ["_law_script", "_law_cell"]
theorem sc_Lstart : FnScope ["_law_script", "_law_cell"] ["_law_script"] (defScope s_Lstart) := ⟨rfl, rfl, rfl, by decide +kernel, rfl, by decide +kernel, by decide +kernel⟩
def spStart (K : PySem.W.Frag) : Sp := fun vs H Q _ => ∃ (a : Addr) (ns : List Int), vs = [.ref a] ∧ SqL K H a (ns.map V.int) ∧ ns.length ≤ 63 ∧ ∀ (s : Addr) (H' : Hp), View s 0 H H' → Q (.ref s) H'
theorem cpow1018 : CPow 10 18 := ⟨by decide, by decide, by decide⟩
theorem ok_start {f : Addr} {fd : FuncData} (F : Fun K "_law_start" "_law_start" s_Lstart f fd) (T : Txt mg) : FnOk P w K mg base CX0 1 f fd ["_law_script"] (spStart K) := by
  refine F.ok sc_Lstart (fun vs H Q E h => ?_) (fun cdv A outer s H vs Q E hr h => ?_)
  · obtain ⟨a, ns, rfl, _⟩ := h
    rfl
  · obtain ⟨a, ns, rfl, hS, hlen, q⟩ := h
    refine ⟨_, (pss_one (ps_ret (pe_lst (pa_cons (pe_lc (own := [("_law_cell", 1)]) (g := gName 1) rfl sc_Lstart.nd (pi_list (pv 0)) (blkOk_by (own := [("_law_cell", 1)]) (N := N_Lstart) (sc := defScope s_Lstart) (by decide +kernel)) (fun _ _ _ _ _ => (pg_name (i := 1) sc_Lstart.nd rfl (.inl rfl))) (fun _ _ _ _ _ => (pts_one (pt_cmpR op_ge (pe_callB call_abs (by rfl) T.z_abs (by decide +kernel) (pa_cons (pv 1) pa_nil)) (pe_op op_pow pe_int pe_int) (nomark _)))) (fun _ _ _ _ _ => (pe_callB call_abs (by rfl) T.z_abs (by decide +kernel) (pa_cons (pv 1) pa_nil)))) (pa_cons (pe_op op_cat (pe_callTy call_list_of (by rfl) T.z_list (by decide +kernel) (pa_cons (pv 0) pa_nil)) (pe_lst (pa_cons pe_int pa_nil))) (pa_cons pe_int pa_nil)))))), ?_⟩
    refine ⟨_, rfl, a, rfl, ⟨_, hS⟩, fun D hD => lc_list (K := K) (a := a) (xs := ns.map V.int) (fun i H' => ∃ bs : List Int, H' = upd H D (.lst (bs.map V.int)) ∧ (∀ x ∈ bs, (0 : Int) ≤ x) ∧ bs.length ≤ i)
      ⟨[], rfl, (fun _ h => nomatch h), Nat.le_refl _⟩ (fun i H' _ ⟨bs, e, _⟩ => by rw [e]; exact (same_of_none hD).seq hS) ?_ ?_⟩
    · rintro i x H' hx ⟨bs, rfl, h0, hb⟩
      have hi : i < ns.length := by
        have := (List.getElem?_eq_some_iff.mp hx).1
        rwa [List.length_map] at this
      obtain ⟨z, rfl⟩ : ∃ z, x = V.int z := by
        rw [List.getElem?_map] at hx
        cases e : ns[i]? with
        | none => rw [e] at hx; cases hx
        | some u => rw [e] at hx; exact ⟨u, (Option.some.inj hx).symm⟩
      refine ⟨rfl, .int z, rfl, z, rfl, _, _, rfl, rfl, cpow1018, _, _, rfl, rfl, _, rfl, ite2 (fun _ => ?_) (fun _ => ⟨bs, rfl, h0, by omega⟩)⟩
      refine ⟨.int z, rfl, z, rfl, _, upd_same, ?_, ?_⟩
      · rw [List.length_map]; exact small1000 (by omega)
      · refine ⟨bs ++ [if z < 0 then -z else z], by rw [upd_upd, List.map_append]; rfl, fun x hx => ?_, by simp; omega⟩
        rcases List.mem_append.mp hx with hx | hx
        · exact h0 x hx
        · have e : x = if z < 0 then -z else z := by simpa using hx
          rw [e]
          split <;> omega
    · rintro H' ⟨bs, rfl, h0, hb⟩
      have s1 : Same H (upd H D (.lst (bs.map V.int))) := same_of_none hD
      refine ⟨.ref a, rfl, a, _, rfl, .inl (s1.seq hS), fun l hl => ?_⟩
      have s2 := same_of_none (o := HO.lst (ns.map V.int)) hl
      refine ⟨by show 1 ≤ sizeLine; decide, fun p hp => ?_⟩
      have s3 := same_of_none (o := HO.lst [V.int 5]) hp
      refine ⟨l, p, _, _, rfl, rfl, s3 _ _ upd_same, upd_same, ?_, fun c hc => ?_⟩
      · rw [List.length_map]
        show ns.length + 1 ≤ sizeLine
        exact Nat.le_of_lt (small1000 (by omega))
      have s4 := same_of_none (o := HO.lst (ns.map V.int ++ [V.int 5])) hc
      refine ⟨by show 3 ≤ sizeLine; decide, fun s hs => q s _ ?_⟩
      have s5 := same_of_none (o := HO.lst [.ref D, .ref c, V.int 0]) hs
      have sa : Same (upd H D (.lst (bs.map V.int))) _ := s2.trans (s3.trans s4)
      have hc0 : H c = none := s1.free ((s2.trans s3).free hc)
      have hs0 : H s = none := s1.free (sa.free hs)
      refine ⟨D, c, 0, bs, ns ++ [5], ⟨s1.trans (sa.trans s5), hs0, hD, hc0, ?_, ?_, ?_, upd_same, s5 _ _ (sa _ _ upd_same), s5 _ _ ?_, h0, by rw [List.length_map] at hb; omega, by simp; omega, Int.le_refl _⟩, Int.le_refl _⟩
      · exact ne_of_none (sa _ _ upd_same) hs
      · exact ne_of_none upd_same hs
      · exact ne_of_none ((s2.trans s3) _ _ upd_same) hc
      · rw [upd_same, List.map_append]
        rfl

/-! ### names -/
def lets : List Nat := ("abcdefghijklmnopqrstuvwxyz" : Str).cps.toList
def digs : List Nat := ("0123456789" : Str).cps.toList
def okc (c : Nat) : Bool := decide (c ∈ lets) || decide (c ∈ digs)
def goodL : List Nat → Bool
  | [] => false
  | c :: r => decide (r.length < 6) && decide (c ∈ lets) && (c :: r).all okc
def good (z : Str) : Bool := goodL z.cps.toList
structure TxtN (mg : Str → Option Value) : Prop extends Txt mg where
  c_LETTERS : ∃ t, mg "LETTERS" = some (.str "abcdefghijklmnopqrstuvwxyz" t)
  c_DIGITS : ∃ t, mg "DIGITS" = some (.str "0123456789" t)
  c_LONGEST_NAME : ∃ t, mg "LONGEST_NAME" = some (.int 6 t)
abbrev s_valid_name : Stmt := top 4
abbrev N_valid_name : List Str := ["text", "sign"]
theorem sc_valid_name : FnScope ["text", "sign"] ["text"] (defScope s_valid_name) := ⟨rfl, rfl, rfl, by decide +kernel, rfl, by decide +kernel, by decide +kernel⟩
def Asc (z : Str) : Prop := ∀ c ∈ z.cps.toList, c < 128
def spGood : Sp := fun vs H Q _ => ∃ z : Str, vs = [.str z] ∧ z.length ≤ 1000 ∧ Asc z ∧ ∀ H', Same H H' → Q (.bl (good z)) H'
theorem size1000 {n : Nat} (h : n ≤ 1000) : n ≤ sizeLine := Nat.le_of_lt (small1000 h)
theorem ok_valid {f : Addr} {fd : FuncData} (F : Fun K "valid_name" "valid_name" s_valid_name f fd) (T : TxtN mg) : FnOk P w K mg base CX0 1 f fd ["text"] spGood := by
  refine F.ok sc_valid_name (fun vs H Q E h => ?_) (fun cdv A outer s H vs Q E hr h => ?_)
  · obtain ⟨z, rfl, _⟩ := h
    rfl
  · obtain ⟨z, rfl, hz, ha, q⟩ := h
    refine ⟨_, (pss_cons (ps_if (pt_not (pt_chain op_le op_le pe_int (pe_callB call_len_str (by rfl) T.z_len PySem.boot_len (pa_cons (pv 0) pa_nil)) (pe_glob (v := .int 6) (by rfl) T.c_LONGEST_NAME.choose_spec ⟨_, rfl⟩))) (pss_one (ps_ret pe_bl)) pss_nil)
      (pss_one (ps_ret (pe_and (pe_cmpR op_in_sign (pe_ix ix_str (pv 0) pe_int (fun _ _ => rfl)) (pe_glob (v := .str "abcdefghijklmnopqrstuvwxyz") (by rfl) T.c_LETTERS.choose_spec ⟨_, rfl⟩) (by rfl)) (pe_one (pe_callB (cr_all rfl) (by rfl) T.z_all (by decide +kernel) (pa_cons (pe_lc (own := [("sign", 1)]) (g := gName 1) (tt := tYes) rfl sc_valid_name.nd (pi_str (pv 0)) (blkOk_by (own := [("sign", 1)]) (N := N_valid_name) (sc := defScope s_valid_name) (by decide +kernel)) (fun _ _ _ _ _ => (pg_name (i := 1) sc_valid_name.nd rfl (.inl rfl))) (fun _ _ _ _ _ => pts_nil) (fun _ _ _ _ _ => (pe_or (pe_cmpR op_in_sign (pv 1) (pe_glob (v := .str "abcdefghijklmnopqrstuvwxyz") (by rfl) T.c_LETTERS.choose_spec ⟨_, rfl⟩) (by rfl)) (pe_one (pe_cmpR op_in_sign (pv 1) (pe_glob (v := .str "0123456789") (by rfl) T.c_DIGITS.choose_spec ⟨_, rfl⟩) (by rfl)))))) pa_nil))))))), ?_⟩
    have el : z.cps.toList.length = z.length := by simp [Str.length]
    have hg : good z = goodL z.cps.toList := rfl
    refine ⟨_, rfl, _, rfl, size1000 hz, _, _, rfl, rfl, _, rfl, ?_⟩
    refine ite2 (fun h1 => ?_) (fun h1 => ?_)
    · have h1' : (1 : Int) ≤ (z.length : Int) := of_decide_eq_true h1
      obtain ⟨c, r, ec⟩ : ∃ c r, z.cps.toList = c :: r := by
        cases e : z.cps.toList with
        | nil => rw [e] at el; simp at el; omega
        | cons c r => exact ⟨c, r, rfl⟩
      have elr : r.length + 1 = z.length := by rw [← el, ec]; rfl
      refine ⟨_, _, rfl, rfl, _, rfl, ?_⟩
      refine ite2 (fun h2 => ?_) (fun h2 => ?_)
      · -- too long
        have h2' : ¬ (z.length : Int) ≤ 6 := fun h => by
          have e : decide ((z.length : Int) ≤ 6) = true := decide_eq_true h
          rw [e] at h2
          cases h2
        have : good z = false := by
          rw [hg, ec]
          show (decide (r.length < 6) && _ && _) = false
          rw [decide_eq_false (by omega)]
          rfl
        have := q H (Same.refl H)
        rw [‹good z = false›] at this
        exact this
      · have h2' : (z.length : Int) ≤ 6 := by
          by_cases h : (z.length : Int) ≤ 6
          · exact h
          · exact absurd (by rw [decide_eq_false h]; rfl) h2
        refine ⟨_, rfl, z, 0, c, rfl, rfl, size1000 hz, by rw [ec]; exact atI_nat (j := 0) rfl, c, _, rfl, rfl, _, rfl, ?_⟩
        refine ite2 (fun h3 => ?_) (fun h3 => ?_)
        · have h3' : c ∈ lets := of_decide_eq_true h3
          refine ⟨_, rfl, z, rfl, fun D hD => lc_fm walk_sgns (fun _ => true) (fun v => match v with | .str x => .bl (x.cps.toList.all okc) | _ => .non) hD (fun _ _ => trivial) (by unfold sgns; rw [List.length_map, el]; exact hz) (fun _ => rfl) (fun _ _ _ _ _ h => h) ?_ ?_⟩
          · intro x hx _ H' _ Q q
            obtain ⟨y, _, rfl⟩ := List.mem_map.mp hx
            refine ⟨_, rfl, y, _, rfl, rfl, _, rfl, ?_⟩
            have e1 : (⟨#[y]⟩ : Str).cps.toList.all okc = (decide (y ∈ lets) || decide (y ∈ digs)) := by simp [okc]
            refine ite2 (fun a => ?_) (fun a => ?_)
            · have := q
              simp only [sgn] at this
              rw [e1, show decide (y ∈ lets) = true from a] at this
              exact this
            · refine ⟨_, rfl, y, _, rfl, rfl, ?_⟩
              have := q
              simp only [sgn] at this
              rw [e1, show decide (y ∈ lets) = false from by cases b : decide (y ∈ lets) with | false => rfl | true => exact absurd b a] at this
              exact this
          · refine ⟨D, (c :: r).map okc, rfl, SqL.of ?_, ?_⟩
            · rw [upd_same]
              unfold sgns
              rw [ec]
              simp [sgn, List.filter_eq_self.mpr, Function.comp_def]
            · have e : good z = ((c :: r).map okc).all id := by
                rw [hg, ec]
                show (decide (r.length < 6) && decide (c ∈ lets) && _) = _
                rw [decide_eq_true (by omega : r.length < 6), decide_eq_true h3']
                simp [List.all_map, Function.comp_def]
              rw [← e]
              exact q _ (same_of_none hD)
        · have h3' : ¬ c ∈ lets := fun h => h3 (decide_eq_true h)
          have e : good z = false := by
            rw [hg, ec]
            show (_ && decide (c ∈ lets) && _) = false
            rw [decide_eq_false h3']
            simp
          have := q H (Same.refl H)
          rw [e] at this
          exact this
    · have h1' : ¬ (1 : Int) ≤ (z.length : Int) := fun h => h1 (decide_eq_true h)
      refine ⟨false, rfl, iteT ?_⟩
      have e0 : z.cps.toList = [] := List.eq_nil_of_length_eq_zero (by omega)
      have : good z = false := by rw [hg, e0]; rfl
      have := q H (Same.refl H)
      rw [‹good z = false›] at this
      exact this
end
end K01

namespace K01
open PySem PySem.Spec PyProof.Rows L2
section
variable {P : Program} {w : World} {K : PySem.W.Frag} {mg : Str → Option Value} {base : Heap}
abbrev s_Lsigns : Stmt := top 8
abbrev N_Lsigns : List Str := ["_law_signs_here"]
theorem sc_Lsigns : FnScope ["_law_signs_here"] [] (defScope s_Lsigns) := ⟨rfl, rfl, rfl, by decide +kernel, rfl, by decide +kernel, by decide +kernel⟩
def signsS : Str := " !\"#$&'()*+,-./0123456789:;<=>?@ABCDEFGHIJKLMNOPQRSTUVWXYZ[\\]^_`" ++ "abcdefghijklmnopqrstuvwxyz{|}~\n"
def spSigns : Sp := fun vs H Q _ => vs = [] ∧ Q (.str signsS) H
theorem ok_signs {f : Addr} {fd : FuncData} (F : Fun K "_law_signs" "_law_signs" s_Lsigns f fd) : FnOk P w K mg base CX0 1 f fd [] spSigns := by
  refine F.ok sc_Lsigns (fun vs H Q E h => ?_) (fun cdv A outer s H vs Q E hr h => ?_)
  · obtain ⟨rfl, _⟩ := h
    rfl
  · obtain ⟨rfl, q⟩ := h
    refine ⟨_, (pss_cons (ps_set (i := 0) sc_Lsigns.nd rfl (.inl rfl) pe_str)
      (pss_one (ps_ret (pe_op op_add_str (pv 0) pe_str)))), ?_⟩
    exact ⟨_, rfl, _, _, rfl, rfl, by decide +kernel, q⟩
theorem okc_cat (y : Nat) : okc y = decide (y ∈ (Str.ofString "abcdefghijklmnopqrstuvwxyz" ++ Str.ofString "0123456789").cps.toList) := by
  have e : (Str.ofString "abcdefghijklmnopqrstuvwxyz" ++ Str.ofString "0123456789").cps.toList = lets ++ digs := by decide +kernel
  rw [e]
  simp [okc, List.mem_append]
theorem shaped_go : ∀ ns : List Str, (∀ w ∈ ns, PyData.strOk w = true) → PyData.canLayAll0 (ns.map PyData.str) = true ∧ PyData.depthAll (ns.map PyData.str) = 0
  | [], _ => ⟨rfl, rfl⟩
  | x :: r, h => by
    obtain ⟨h1, h2⟩ := shaped_go r fun w hw => h w (List.mem_cons_of_mem _ hw)
    refine ⟨?_, ?_⟩
    · show (PyData.canLay0 (.str x) && PyData.canLayAll0 (r.map PyData.str)) = true
      rw [h1, Bool.and_true]
      exact h x List.mem_cons_self
    · show max (PyData.depth (.str x)) (PyData.depthAll (r.map PyData.str)) = 0
      rw [h2]
      rfl
theorem shaped_strs (ns : List Str) (h : ∀ w ∈ ns, PyData.strOk w = true) : SeqAt.shaped (.list (ns.map PyData.str)) = true := by
  obtain ⟨h1, h2⟩ := shaped_go ns h
  unfold SeqAt.shaped
  rw [Bool.and_eq_true]
  refine ⟨h1, decide_eq_true ?_⟩
  show PyData.depthAll (ns.map PyData.str) + 1 ≤ 64
  rw [h2]
  decide
theorem strOk_one {c : Nat} (h : c < 128) : PyData.strOk ⟨#[c]⟩ = true := by
  simp [PyData.strOk]
  omega
theorem bads : ∀ l : List Nat, (∀ c ∈ l, c < 128) → ∃ ws : List Str, (ws.map V.str = ((l.map sgn).filter (fun v => match v with | .str x => !(x.cps.toList.all okc) | _ => false))) ∧ PyData.eqv (.list (ws.map .str)) (.list []) = l.all okc ∧ ∀ w ∈ ws, PyData.strOk w = true
  | [], _ => ⟨[], rfl, rfl, fun _ h => nomatch h⟩
  | c :: r, ha => by
    obtain ⟨ws, h1, h2, h3⟩ := bads r fun x hx => ha x (List.mem_cons_of_mem _ hx)
    by_cases hc : okc c = true
    · refine ⟨ws, ?_, ?_, h3⟩
      · rw [h1, List.map_cons, List.filter_cons]
        simp [sgn, hc]
      · rw [h2, List.all_cons, hc, Bool.true_and]
    · have hc' : okc c = false := by simpa using hc
      refine ⟨⟨#[c]⟩ :: ws, ?_, ?_, fun w hw => ?_⟩
      · rw [List.map_cons, h1, List.map_cons, List.filter_cons]
        simp [sgn, hc']
      · rw [List.all_cons, hc']
        rfl
      · rcases List.mem_cons.mp hw with rfl | hw
        · exact strOk_one (ha c List.mem_cons_self)
        · exact h3 w hw
abbrev s_Lgood : Stmt := top 9
abbrev N_Lgood : List Str := ["_law_word", "_law_letters", "_law_sign"]
theorem sc_Lgood : FnScope ["_law_word", "_law_letters", "_law_sign"] ["_law_word"] (defScope s_Lgood) := ⟨rfl, rfl, rfl, by decide +kernel, rfl, by decide +kernel, by decide +kernel⟩
theorem ok_good {f : Addr} {fd : FuncData} (F : Fun K "_law_good" "_law_good" s_Lgood f fd) (T : TxtN mg) : FnOk P w K mg base CX0 1 f fd ["_law_word"] spGood := by
  refine F.ok sc_Lgood (fun vs H Q E h => ?_) (fun cdv A outer s H vs Q E hr h => ?_)
  · obtain ⟨z, rfl, _⟩ := h
    rfl
  · obtain ⟨z, rfl, hz, ha, q⟩ := h
    refine ⟨_, (pss_cons (ps_set (i := 1) sc_Lgood.nd rfl (.inr rfl) pe_str)
      (pss_cons (ps_if (PW.pt (pw_or (pt_cmpR op_lt (pe_callB call_len_str (by rfl) T.z_len PySem.boot_len (pa_cons (pv 0) pa_nil)) pe_int (nomark _)) (pw_or (pt_cmpR op_gt (pe_callB call_len_str (by rfl) T.z_len PySem.boot_len (pa_cons (pv 0) pa_nil)) pe_int (nomark _)) (pw_or1 (pt_cmpR op_notIn_sign (pe_ix ix_str (pv 0) pe_int (fun _ _ => rfl)) (pv 1) (by rfl)))))) (pss_one (ps_ret pe_bl)) pss_nil)
      (pss_one (ps_ret (pe_cmpR (op_eqD hr.units) (pe_lc (own := [("_law_sign", 2)]) (g := gName 2) rfl sc_Lgood.nd (pi_str (pv 0)) (blkOk_by (own := [("_law_sign", 2)]) (N := N_Lgood) (sc := defScope s_Lgood) (by decide +kernel)) (fun _ _ _ _ _ => (pg_name (i := 2) sc_Lgood.nd rfl (.inl rfl))) (fun _ _ _ _ _ => (pts_one (pt_cmpR op_notIn_sign (pv 2) (pe_op op_add_str (pv 1) pe_str) (by rfl)))) (fun _ _ _ _ _ => (pv 2))) (pe_lst pa_nil) (nomark _)))))), ?_⟩
    have el : z.cps.toList.length = z.length := by simp [Str.length]
    have hg : good z = goodL z.cps.toList := rfl
    have bad : good z = false → Q (.bl false) H := fun e => by
      have := q H (Same.refl H)
      rw [e] at this
      exact this
    refine ⟨_, rfl, z, rfl, size1000 hz, _, _, rfl, rfl, _, rfl, ?_⟩
    refine ite2 (fun h1 => ?_) (fun h1 => ?_)
    · have h1' : (z.length : Int) < 1 := of_decide_eq_true h1
      have e0 : z.cps.toList = [] := List.eq_nil_of_length_eq_zero (by omega)
      exact iteT (bad (by rw [hg, e0]; rfl))
    · have h1' : ¬ (z.length : Int) < 1 := fun h => h1 (decide_eq_true h)
      obtain ⟨c, r, ec⟩ : ∃ c r, z.cps.toList = c :: r := by
        cases e : z.cps.toList with
        | nil => rw [e] at el; simp at el; omega
        | cons c r => exact ⟨c, r, rfl⟩
      have elr : r.length + 1 = z.length := by rw [← el, ec]; rfl
      refine ⟨_, rfl, z, rfl, size1000 hz, _, _, rfl, rfl, _, rfl, ?_⟩
      refine ite2 (fun h2 => ?_) (fun h2 => ?_)
      · have h2' : (6 : Int) < (z.length : Int) := of_decide_eq_true h2
        refine iteT (bad ?_)
        rw [hg, ec]
        show (decide (r.length < 6) && _ && _) = false
        rw [decide_eq_false (by omega)]
        rfl
      · have h2' : ¬ (6 : Int) < (z.length : Int) := fun h => h2 (decide_eq_true h)
        refine ⟨_, rfl, z, 0, c, rfl, rfl, size1000 hz, by rw [ec]; exact atI_nat (j := 0) rfl, _, rfl, c, _, rfl, rfl, _, rfl, ?_⟩
        refine ite2 (fun h3 => ?_) (fun h3 => ?_)
        · refine bad ?_
          have h3' : ¬ c ∈ lets := fun h => by
            have e : decide (c ∈ lets) = true := decide_eq_true h
            rw [show decide (c ∈ (Str.ofString "abcdefghijklmnopqrstuvwxyz").cps.toList) = true from e] at h3
            cases h3
          rw [hg, ec]
          show (_ && decide (c ∈ lets) && _) = false
          rw [decide_eq_false h3']
          simp
        · have h3' : c ∈ lets := by
            by_cases h : c ∈ lets
            · exact h
            · exact absurd (by rw [show decide (c ∈ (Str.ofString "abcdefghijklmnopqrstuvwxyz").cps.toList) = false from decide_eq_false h]; rfl) h3
          refine ⟨_, rfl, z, rfl, fun D hD => lc_fm walk_sgns (fun v => match v with | .str x => !(x.cps.toList.all okc) | _ => false) (fun v => v) hD (fun _ _ => trivial) (by unfold sgns; rw [List.length_map, el]; exact hz) (fun _ => rfl) ?_ (fun x _ _ _ _ Q q => ⟨x, rfl, q⟩) ?_⟩
          · intro x hx H' _ Q q
            obtain ⟨y, _, rfl⟩ := List.mem_map.mp hx
            refine ⟨_, rfl, _, rfl, _, _, rfl, rfl, by decide +kernel, y, _, rfl, rfl, _, rfl, ?_⟩
            have e1 : (⟨#[y]⟩ : Str).cps.toList.all okc = decide (y ∈ (Str.ofString "abcdefghijklmnopqrstuvwxyz" ++ Str.ofString "0123456789").cps.toList) := by
              show (okc y && true) = _
              rw [Bool.and_true]
              exact okc_cat y
            have := q
            simp only [sgn] at this
            rw [e1] at this
            exact this
          · have ef : good z = ((c :: r).all okc) := by
              rw [hg, ec]
              show (decide (r.length < 6) && decide (c ∈ lets) && _) = _
              rw [decide_eq_true (by omega : r.length < 6), decide_eq_true h3']
              rfl
            obtain ⟨ws, hw, he, hok⟩ := bads (c :: r) (by rw [← ec]; exact ha)
            refine ⟨Nat.zero_le _, fun p hp => ⟨.list (ws.map .str), .list [], .lst (SqL.of ?_) (dpAll_strs _), .lst (SqL.of upd_same) .nil, shaped_strs _ hok, rfl, ?_⟩⟩
            · rw [upd_ne (ne_of_none upd_same hp), upd_same]
              unfold sgns
              rw [ec, ← hw, List.map_id']
            · have := q _ ((same_of_none hD).trans (same_of_none (o := .lst []) hp))
              rw [ef, ← he] at this
              exact this
end
end K01

namespace K01
open PySem PySem.Spec PyProof.Rows L2
section
variable {P : Program} {w : World} {K : PySem.W.Frag} {mg : Str → Option Value} {base : Heap}
abbrev s_law : Stmt := top 10
abbrev N_law : List Str := ["_law_script", "_law_state", "_law_plan", "_law_signs_here", "_law_chars", "_law_word", "_law_actual", "_law_k"]
theorem sc_law : FnScope ["_law_script", "_law_state", "_law_plan", "_law_signs_here", "_law_chars", "_law_word", "_law_actual", "_law_k"] ["_law_script"] (defScope s_law) := ⟨rfl, rfl, rfl, by decide +kernel, rfl, by decide +kernel, by decide +kernel⟩
structure TxtF (mg : Str → Option Value) (fS fD fI fG fV : Addr) : Prop extends TxtN mg where
  g_Lstart : mg "_law_start" = some (.ref fS)
  g_Ldraw : mg "_law_draw" = some (.ref fD)
  g_Lsigns : mg "_law_signs" = some (.ref fI)
  g_Lgood : mg "_law_good" = some (.ref fG)
  g_valid_name : mg "valid_name" = some (.ref fV)
def spLaw (K : PySem.W.Frag) : Sp := fun vs H Q _ => ∃ (a : Addr) (ns : List Int), vs = [.ref a] ∧ SqL K H a (ns.map V.int) ∧ ns.length ≤ 63 ∧ ∀ H', Q (.bl true) H'
theorem menu_len {d : Int} (h0 : 0 ≤ d) (h1 : d < 4) : ∃ m : Int, 0 < m ∧ m ≤ 80 ∧ atI [V.int 9, V.int 9, V.int 9, V.int 80] d = some (.int m) := by
  have : d = 0 ∨ d = 1 ∨ d = 2 ∨ d = 3 := by omega
  rcases this with rfl | rfl | rfl | rfl
  · exact ⟨9, by decide, by decide, atI_nat (j := 0) rfl⟩
  · exact ⟨9, by decide, by decide, atI_nat (j := 1) rfl⟩
  · exact ⟨9, by decide, by decide, atI_nat (j := 2) rfl⟩
  · exact ⟨80, by decide, by decide, atI_nat (j := 3) rfl⟩
theorem pick (z : Str) {e : Int} (h0 : 0 ≤ e) (h1 : e < (z.length : Int)) : ∃ c, atI z.cps.toList e = some c ∧ c ∈ z.cps.toList := by
  obtain ⟨j, rfl⟩ := Int.eq_ofNat_of_zero_le h0
  have hl : z.cps.toList.length = z.length := by simp [Str.length]
  have hj : j < z.cps.toList.length := by omega
  exact ⟨_, atI_nat (List.getElem?_eq_getElem hj), List.getElem_mem hj⟩
theorem ixN_nat {n j : Nat} (h : j < n) : ixN n (j : Int) = some j := by
  unfold ixN
  rw [if_pos (by omega), if_pos (by omega), Int.toNat_natCast]
theorem ones_ok {cs : List Nat} (h : ∀ c ∈ cs, c < 128) : ∀ w ∈ cs.map fun c => (⟨#[c]⟩ : Str), PyData.strOk w = true := fun w hw => by
  obtain ⟨c, hc, rfl⟩ := List.mem_map.mp hw
  exact strOk_one (h c hc)
theorem rev_ok {z : Str} (h : z.length ≤ 81) (ha : Asc z) : (revS z).length ≤ 81 ∧ Asc (revS z) := by
  have e : (revS z).cps.toList = z.cps.toList.reverse := by simp [revS]
  refine ⟨?_, fun c hc => ha c (by rw [e] at hc; exact List.mem_reverse.mp hc)⟩
  have e1 : (revS z).cps.toList.length = (revS z).length := by simp [Str.length]
  have e2 : z.cps.toList.length = z.length := by simp [Str.length]
  rw [e, List.length_reverse] at e1
  omega
theorem cat_ok {x y : Str} {n m : Nat} (h : x.length ≤ n) (h2 : y.length ≤ m) (ha : Asc x) (hb : Asc y) : (x ++ y).length ≤ n + m ∧ Asc (x ++ y) := by
  have e : (x ++ y).cps.toList = x.cps.toList ++ y.cps.toList := by
    show (x.cps ++ y.cps).toList = _
    simp
  refine ⟨?_, fun c hc => ?_⟩
  · show (x.cps ++ y.cps).size ≤ _
    rw [Array.size_append]
    have : x.cps.size ≤ n := h
    have : y.cps.size ≤ m := h2
    omega
  · rw [e] at hc
    rcases List.mem_append.mp hc with hc | hc
    · exact ha c hc
    · exact hb c hc
theorem menu_word {wd : Str} {d : Int} (h0 : 0 ≤ d) (h1 : d < 4) (hn : wd.length ≤ 80) (ha : Asc wd) :
    ∃ w2 : Str, atI [V.str (wd ++ Str.ofString "\n"), .str (wd ++ Str.ofString " "), .str (Str.ofString " " ++ wd), .str (Str.ofString "\n" ++ wd)] d = some (.str w2) ∧ w2.length ≤ 81 ∧ Asc w2 := by
  have l1 : (Str.ofString "\n").length ≤ 1 := by decide +kernel
  have l2 : (Str.ofString " ").length ≤ 1 := by decide +kernel
  have a1 : Asc (Str.ofString "\n") := fun c hc => of_decide_eq_true (List.all_eq_true.mp (show (Str.ofString "\n").cps.toList.all (fun c => decide (c < 128)) = true by decide +kernel) c hc)
  have a2 : Asc (Str.ofString " ") := fun c hc => of_decide_eq_true (List.all_eq_true.mp (show (Str.ofString " ").cps.toList.all (fun c => decide (c < 128)) = true by decide +kernel) c hc)
  have : d = 0 ∨ d = 1 ∨ d = 2 ∨ d = 3 := by omega
  rcases this with rfl | rfl | rfl | rfl
  · exact ⟨_, atI_nat (j := 0) rfl, cat_ok hn l1 ha a1⟩
  · exact ⟨_, atI_nat (j := 1) rfl, cat_ok hn l2 ha a2⟩
  · exact ⟨_, atI_nat (j := 2) rfl, (by have := (cat_ok l2 hn a2 ha).1; omega), (cat_ok l2 hn a2 ha).2⟩
  · exact ⟨_, atI_nat (j := 3) rfl, (by have := (cat_ok l1 hn a1 ha).1; omega), (cat_ok l1 hn a1 ha).2⟩
theorem asc_of {z : Str} (h : z.cps.toList.all (fun c => decide (c < 128)) = true) : Asc z := fun c hc => of_decide_eq_true (List.all_eq_true.mp h c hc)
theorem asc_signs : Asc signsS := asc_of (by decide +kernel)
theorem asc_plain : Asc "abcdefghijklmnopqrstuvwxyz0123456789" := asc_of (by decide +kernel)
theorem ok_law {f fS fD fI fG fV : Addr} {fd fdS fdD fdI fdG fdV : FuncData} (F : Fun K "law" "law" s_law f fd) (T : TxtF mg fS fD fI fG fV)
    (F_Lstart : Fun K "_law_start" "_law_start" s_Lstart fS fdS) (b_Lstart : Binds K fdS ["_law_script"] [])
    (F_Ldraw : Fun K "_law_draw" "_law_draw" s_Ldraw fD fdD) (b_Ldraw : Binds K fdD ["_law_state", "_law_size"] [])
    (F_Lsigns : Fun K "_law_signs" "_law_signs" s_Lsigns fI fdI) (b_Lsigns : Binds K fdI [] [])
    (F_Lgood : Fun K "_law_good" "_law_good" s_Lgood fG fdG) (b_Lgood : Binds K fdG ["_law_word"] [])
    (F_valid_name : Fun K "valid_name" "valid_name" s_valid_name fV fdV) (b_valid_name : Binds K fdV ["text"] [])
    (kb_valid_name : KBinds K fdV ["text"] ["text"] (fun us ws => us ++ ws) (fun vs zs => vs ++ zs)) : FnOk P w K mg base CX0 2 f fd ["_law_script"] (spLaw K) := by
  have G_Lstart : FnOk P w K mg base CX0 1 fS fdS ["_law_script"] (spStart K) := ok_start F_Lstart T.toTxt
  have G_Ldraw : FnOk P w K mg base CX0 1 fD fdD ["_law_state", "_law_size"] spDraw := ok_draw F_Ldraw T.toTxt
  have G_Lsigns : FnOk P w K mg base CX0 1 fI fdI [] spSigns := ok_signs F_Lsigns
  have G_Lgood : FnOk P w K mg base CX0 1 fG fdG ["_law_word"] spGood := ok_good F_Lgood T.toTxtN
  have G_valid_name : FnOk P w K mg base CX0 1 fV fdV ["text"] spGood := ok_valid F_valid_name T.toTxtN
  refine F.ok sc_law (fun vs H Q E h => ?_) (fun cdv A outer s H vs Q E hr h => ?_)
  · obtain ⟨a, ns, rfl, _⟩ := h
    rfl
  · obtain ⟨a, ns, rfl, hS, hlen, q⟩ := h
    refine ⟨_, (pss_cons (ps_set (i := 1) sc_law.nd rfl (.inr rfl) (pe_call G_Lstart (hr.mono (by decide)) (by rfl) T.g_Lstart F_Lstart.kp b_Lstart .nil pass0 (pa_cons (pv 0) pa_nil)))
      (pss_cons (ps_set (i := 2) sc_law.nd rfl (.inl rfl) (pe_call G_Ldraw (hr.mono (by decide)) (by rfl) T.g_Ldraw F_Ldraw.kp b_Ldraw .nil pass0 (pa_cons (pv 1) (pa_cons pe_int pa_nil))))
      (pss_cons (ps_set (i := 3) sc_law.nd rfl (.inr rfl) pe_str)
      (Evl.pss_cut (ps_if (pt_cmpR op_eq (pv 2) pe_int (nomark _)) (pss_one (ps_set (i := 3) sc_law.nd rfl (.inr rfl) (pe_call0 G_Lsigns (hr.mono (by decide)) (by rfl) T.g_Lsigns F_Lsigns.kp b_Lsigns .nil pass0))) pss_nil)
      (pss_cons (ps_setLc (i := 4) (own := [("_law_k", 7)]) (g := gName 7) (tt := tYes) rfl sc_law.nd rfl rfl (sw_true rfl rfl rfl (by decide +kernel)) (pi_range1 rfl T.z_range (pa_cons (pe_call G_Ldraw (hr.mono (by decide)) (by rfl) T.g_Ldraw F_Ldraw.kp b_Ldraw .nil pass0 (pa_cons (pv 1) (pa_cons (pe_ix ix_list (pe_lst (pa_cons pe_int (pa_cons pe_int (pa_cons pe_int (pa_cons pe_int pa_nil))))) (pe_call G_Ldraw (hr.mono (by decide)) (by rfl) T.g_Ldraw F_Ldraw.kp b_Ldraw .nil pass0 (pa_cons (pv 1) (pa_cons pe_int pa_nil))) (fun _ _ => rfl)) pa_nil))) pa_nil)) (blkOk_by (own := [("_law_k", 7)]) (N := N_law) (sc := defScope s_law) (by decide +kernel)) (fun _ _ _ _ _ => (pg_name (i := 7) sc_law.nd rfl (.inl rfl))) (fun _ _ _ _ _ => pts_nil) (fun _ _ _ _ _ => (pe_ix ix_str (pv 3) (pe_call G_Ldraw (hr.mono (by decide)) (by rfl) T.g_Ldraw F_Ldraw.kp b_Ldraw .nil pass0 (pa_cons (pv 1) (pa_cons (pe_callB call_len_str (by rfl) T.z_len PySem.boot_len (pa_cons (pv 3) pa_nil)) pa_nil))) (fun _ _ => rfl))))
      (Evl.pss_cut (ps_if (PW.pt (pw_and (pt_cmpR op_eq (pv 2) pe_int (nomark _)) (pw_and1 (pt_cmpR (op_neD hr.units) (pv 4) (pe_lst pa_nil) (nomark _))))) (pss_one (ps_asg (pe_ix ix_str (pe_call0 G_Lsigns (hr.mono (by decide)) (by rfl) T.g_Lsigns F_Lsigns.kp b_Lsigns .nil pass0) (pe_call G_Ldraw (hr.mono (by decide)) (by rfl) T.g_Ldraw F_Ldraw.kp b_Ldraw .nil pass0 (pa_cons (pv 1) (pa_cons (pe_callB call_len_str (by rfl) T.z_len PySem.boot_len (pa_cons (pe_call0 G_Lsigns (hr.mono (by decide)) (by rfl) T.g_Lsigns F_Lsigns.kp b_Lsigns .nil pass0) pa_nil)) pa_nil))) (fun _ _ => rfl)) (pg_sub (pv 4) (pe_call G_Ldraw (hr.mono (by decide)) (by rfl) T.g_Ldraw F_Ldraw.kp b_Ldraw .nil pass0 (pa_cons (pv 1) (pa_cons (pe_callB call_len_seq (by rfl) T.z_len PySem.boot_len (pa_cons (pv 4) pa_nil)) pa_nil))) set_list))) pss_nil)
      (pss_cons (ps_set (i := 5) sc_law.nd rfl (.inl rfl) (pe_join pe_str (pv 4)))
      (Evl.pss_cut (ps_if (pt_cmpR op_eq (pe_call G_Ldraw (hr.mono (by decide)) (by rfl) T.g_Ldraw F_Ldraw.kp b_Ldraw .nil pass0 (pa_cons (pv 1) (pa_cons pe_int pa_nil))) pe_int (nomark _)) (pss_one (ps_set (i := 5) sc_law.nd rfl (.inl rfl) (pe_ix ix_list (pe_lst (pa_cons (pe_op op_add_str (pv 5) pe_str) (pa_cons (pe_op op_add_str (pv 5) pe_str) (pa_cons (pe_op op_add_str pe_str (pv 5)) (pa_cons (pe_op op_add_str pe_str (pv 5)) pa_nil))))) (pe_call G_Ldraw (hr.mono (by decide)) (by rfl) T.g_Ldraw F_Ldraw.kp b_Ldraw .nil pass0 (pa_cons (pv 1) (pa_cons pe_int pa_nil))) (fun _ _ => rfl)))) pss_nil)
      (pss_cons (ps_set (i := 6) sc_law.nd rfl (.inl rfl) (pe_call G_valid_name (hr.mono (by decide)) (by rfl) T.g_valid_name F_valid_name.kp b_valid_name .nil pass0 (pa_cons (pv 5) pa_nil)))
      (pss_cons (ps_if (PW.pt (pw_or (pt_not (pt_val (pe_callB call_isi (by rfl) T.z_isinstance (by decide +kernel) (pa_cons (pv 6) (pa_cons (pe_bltn (v := .ty "bool") (by rfl) T.z_bool (by decide +kernel) rfl) pa_nil))))) (pw_or1 (pt_cmpR op_ne (pv 6) (pe_call G_Lgood (hr.mono (by decide)) (by rfl) T.g_Lgood F_Lgood.kp b_Lgood .nil pass0 (pa_cons (pv 5) pa_nil)) (nomark _))))) (pss_one (ps_ret pe_bl)) pss_nil)
      (pss_one (ps_ret (pe_cmpR op_eq (pe_callK0 G_valid_name (hr.mono (by decide)) (by rfl) T.g_valid_name F_valid_name.kp kb_valid_name pass0 (pk_cons (pe_revS (pv 5)) pk_nil)) (pe_call G_Lgood (hr.mono (by decide)) (by rfl) T.g_Lgood F_Lgood.kp b_Lgood .nil pass0 (pa_cons (pe_revS (pv 5)) pa_nil)) (nomark _)))))))))))))), ?_⟩
    refine ⟨_, rfl, a, ns, rfl, hS, hlen, fun s H1 v1 => ?_⟩
    refine ⟨_, rfl, s, 0, H, 3, rfl, v1, by omega, by decide, by decide, fun d H2 p0 p1 v2 => ?_⟩
    refine ⟨fun σ' H' => ∃ sg : Str, σ' = [some (.ref a), some (.ref s), some (.int d), some (.str sg), none, none, none, none] ∧ H' = H2 ∧ 0 < sg.length ∧ sg.length ≤ 200 ∧ Asc sg, ⟨_, rfl, rfl, _, rfl, ite2 (fun _ => ?_) (fun _ => ?_)⟩, ?_⟩
    · exact ⟨rfl, _, rfl, rfl, by decide +kernel, by decide +kernel, asc_signs⟩
    · exact ⟨_, rfl, rfl, by decide +kernel, by decide +kernel, asc_plain⟩
    rintro σ' H' ⟨sg, rfl, rfl, hg0, hg1, hga⟩
    have hgl : sg.cps.toList.length = sg.length := by simp [Str.length]
    -- chars
    refine ⟨_, rfl, by show 4 ≤ sizeLine; decide, fun p hp => ?_⟩
    have w2 := v2.new (o := .lst [V.int 9, .int 9, .int 9, .int 80]) hp
    refine ⟨_, rfl, s, 2, _, 4, rfl, w2.mono (by omega), by omega, by decide, by decide, fun d4 H3 q0 q1 v3 => ?_⟩
    obtain ⟨m, hm0, hm1, hm2⟩ := menu_len q0 q1
    refine ⟨p, _, d4, .int m, rfl, rfl, SqL.of (v3.sub _ _ upd_same), hm2, ?_⟩
    refine ⟨s, 3, _, m, rfl, v3.hide (v2.free hp), by omega, by omega, by omega, fun j H4 j0 j1 v4 => ?_⟩
    refine ⟨j, rfl, by omega, by omega, fun D hD => lc_range (lo := 0) (n := j.toNat) (fun i H' => ∃ cs : List Nat, cs.length = i ∧ (∀ c ∈ cs, c < 128) ∧ View s (4 + i) (upd H D (.lst (cs.map sgn))) H') ⟨[], rfl, (fun _ h => nomatch h), v4.new hD⟩ ?_ ?_⟩
    · rintro i H' hi ⟨cs, hcl, hca, v⟩
      refine ⟨rfl, ?_⟩
      refine ⟨_, rfl, _, rfl, _, rfl, sg, rfl, size1000 (by omega), s, _, _, _, rfl, v, by omega, by omega, by omega, fun e H5 e0 e1 v5 => ?_⟩
      obtain ⟨c, hc, hcm⟩ := pick sg e0 e1
      refine ⟨sg, e, c, rfl, rfl, size1000 (by omega), hc, cs.map sgn, v5.sub _ _ upd_same, small1000 (by rw [List.length_map]; omega), cs ++ [c], by simp [hcl], fun x hx => ?_, ?_⟩
      · rcases List.mem_append.mp hx with hx | hx
        · exact hca x hx
        · have : x = c := by simpa using hx
          rw [this]
          exact hga c hcm
      · have := v5.put (o := .lst (cs.map sgn ++ [sgn c])) upd_same
        rw [upd_upd] at this
        rw [List.map_append]
        exact this.mono (by omega)
    rintro H5 ⟨cs, hcl, hca, v5⟩
    have hD0 : H D = none := v4.free hD
    -- if plan == 2 and chars != []
    refine ⟨fun σ' H' => ∃ cs : List Nat, σ' = [some (.ref a), some (.ref s), some (.int d), some (.str sg), some (.ref D), none, none, none] ∧ cs.length ≤ 80 ∧ (∀ c ∈ cs, c < 128) ∧ View s 90 (upd H D (.lst (cs.map sgn))) H', ⟨_, rfl, rfl, _, rfl, ite2 (fun _ => ?_) (fun _ => iteF ⟨cs, rfl, by omega, hca, v5.mono (by omega)⟩)⟩, ?_⟩
    · refine ⟨_, rfl, Nat.zero_le _, fun p hp => ?_⟩
      have v6 := v5.ext (same_of_none (o := .lst []) hp)
      refine ⟨.list ((cs.map fun c => (⟨#[c]⟩ : Str)).map .str), .list [], .lst (SqL.of (v6.sub _ _ upd_same)) (by rw [← sgn_strs]; exact dpAll_strs _), .lst (SqL.of upd_same) .nil, shaped_strs _ (ones_ok hca), rfl, _, rfl, ?_⟩
      cases cs with
      | nil => exact iteF ⟨[], rfl, by simp, hca, v6.mono (by omega)⟩
      | cons c0 r0 =>
        refine iteT ?_
        refine ⟨rfl, _, rfl, rfl, signsS, rfl, by decide +kernel, ?_⟩
        refine ⟨s, _, _, (signsS.length : Int), rfl, v6, by omega, by decide +kernel, by decide +kernel, fun e H7 e0 e1 v7 => ?_⟩
        obtain ⟨c, hc, hcm⟩ := pick signsS e0 e1
        refine ⟨signsS, e, c, rfl, rfl, by decide +kernel, hc, ?_⟩
        refine ⟨_, rfl, _, rfl, _, rfl, D, _, rfl, .inl (SqL.of (v7.sub _ _ upd_same)), s, _, _, _, rfl, v7, by omega, by rw [List.length_map, List.length_cons]; omega, by rw [List.length_map]; omega, fun e H8 f0 f1 v8 => ?_⟩
        obtain ⟨n8, rfl⟩ := Int.eq_ofNat_of_zero_le f0
        refine ⟨D, _, _, n8, rfl, rfl, v8.sub _ _ upd_same, ixN_nat (by omega), (c0 :: r0).set n8 c, rfl, by rw [List.length_set]; omega, fun x hx => ?_, ?_⟩
        · rcases List.mem_or_eq_of_mem_set hx with hx | rfl
          · exact hca x hx
          · exact asc_signs _ hcm
        · have := v8.put (o := .lst (((c0 :: r0).map sgn).set n8 (sgn c))) upd_same
          rw [upd_upd] at this
          rw [List.map_set]
          exact this.mono (by omega)
    rintro σ' H' ⟨cs, rfl, hcl, hca, v⟩
    -- word = "".join(chars)
    refine ⟨⟨_, rfl⟩, _, rfl, Str.ofString "", D, cs.map (fun c => (⟨#[c]⟩ : Str)), rfl, rfl, .inl (SqL.of (by rw [sgn_strs]; exact v.sub _ _ upd_same)), ?_, ?_⟩
    · rw [ones_len, List.length_map, show (Str.ofString "").length = 0 by decide +kernel]
      omega
    have hwl := join_signs cs
    generalize hw : Txt.join (Str.ofString "") (cs.map (fun c => (⟨#[c]⟩ : Str))) = wd at hwl
    have hwa : Asc wd := fun x hx => hca x (by rw [← hwl]; exact hx)
    have hwn : wd.length ≤ 80 := by
      have : wd.cps.toList.length = wd.length := by simp [Str.length]
      rw [hwl] at this
      omega
    -- a blank or a line feed more
    refine ⟨fun σ' H' => ∃ wd : Str, σ' = [some (.ref a), some (.ref s), some (.int d), some (.str sg), some (.ref D), some (.str wd), none, none] ∧ wd.length ≤ 81 ∧ Asc wd, ⟨_, rfl, s, _, _, 6, rfl, v, by omega, by decide, by decide, fun e H7 e0 e1 v7 => ⟨rfl, _, rfl, ite2 (fun _ => ?_) (fun _ => ⟨wd, rfl, by omega, hwa⟩)⟩⟩, ?_⟩
    · refine ⟨_, rfl, _, _, rfl, rfl, size1000 (by show wd.length + 1 ≤ 1000; omega), _, rfl, _, _, rfl, rfl, size1000 (by show wd.length + 1 ≤ 1000; omega), _, rfl, _, _, rfl, rfl, size1000 (by show 1 + wd.length ≤ 1000; omega), _, rfl, _, _, rfl, rfl, size1000 (by show 1 + wd.length ≤ 1000; omega), by show 4 ≤ sizeLine; decide, fun p hp => ?_⟩
      have v8 := v7.new (o := .lst [V.str (wd ++ Str.ofString "\n"), .str (wd ++ Str.ofString " "), .str (Str.ofString " " ++ wd), .str (Str.ofString "\n" ++ wd)]) hp
      refine ⟨_, rfl, s, _, _, 4, rfl, v8, by omega, by decide, by decide, fun g H9 g0 g1 v9 => ?_⟩
      obtain ⟨w2, h1, h2, h3⟩ := menu_word (wd := wd) g0 g1 hwn hwa
      exact ⟨p, _, g, .str w2, rfl, rfl, SqL.of (v9.sub _ _ upd_same), h1, w2, rfl, h2, h3⟩
    rintro σ' H8 ⟨wd, rfl, hwn, hwa⟩
    refine ⟨_, rfl, wd, rfl, by omega, hwa, fun H9 _ => ?_⟩
    refine ⟨_, rfl, .bl (good wd), .ty "bool", .type "bool", .type "bool", true, rfl, .ty _, .base (.bl _), kit_ty (by decide +kernel), _, rfl, ?_⟩
    refine iteF ⟨_, rfl, _, rfl, wd, rfl, by omega, hwa, fun H10 _ => ⟨rfl, _, rfl, ?_⟩⟩
    refine iteNS rfl ?_
    have hr := rev_ok hwn hwa
    refine ⟨_, rfl, wd, rfl, size1000 (by omega), revS wd, rfl, by omega, hr.2, fun H11 _ => ⟨_, rfl, wd, rfl, size1000 (by omega), revS wd, rfl, by omega, hr.2, fun H12 _ => ⟨rfl, ?_⟩⟩⟩
    rw [decide_eq_true rfl]
    exact q _
end
end K01

namespace K01
open PySem PySem.Spec PyProof.Rows L2
/-- a def of one parameter, called by place or by name -/
theorem kb_one {K : PySem.W.Frag} {x qual p : Str} {st : Stmt} {f : Addr} {fd : FuncData} (F : Fun K x qual st f fd)
    (h : ∀ (kV doc pm : Value) (an : Option Addr) (cdv ct v : Value), bindArgs (PySem.W.fnOf x qual (defArgs st) (defBody st) (defScope st) .none kV doc pm an cdv ct) ⟨[v], []⟩ = pure [(p, v)] ∧
      bindArgs (PySem.W.fnOf x qual (defArgs st) (defBody st) (defScope st) .none kV doc pm an cdv ct) ⟨[], [(p, v)]⟩ = pure [(p, v)]) :
    KBinds K fd [p] [p] (fun us ws => us ++ ws) (fun vs zs => vs ++ zs) := by
  obtain ⟨oc, od, kV, doc, pm, an, cdv, ct, osl, rfl, lk, hcd⟩ := F.ex
  refine ⟨fun s us ws _ hl => ?_, fun r rz => r.append rz⟩
  have hl : (us ++ ws).length = 1 := hl
  match us, ws, hl with
  | [], [v], _ => exact .of_eq (h kV doc pm an cdv ct v).2
  | [v], [], _ => exact .of_eq (h kV doc pm an cdv ct v).1
  | _ :: _ :: _, _, hl => simp at hl
  | [_], _ :: _, hl => simp at hl
  | [], [], hl => simp at hl
  | [], _ :: _ :: _, hl => simp at hl
theorem all_mk {l : PySem.W.OpenLaw} {w : World} {K : PySem.W.Frag} {h : Heap} {mg : Str → Option Value} {fa f1 f2 f3 f4 f5 f6 : Addr} (X : K.In h) (G : h.Ns mainGlobals mg) (hfa : mg "law" = some (.ref fa))
    {od1 an1 od2 an2 od3 an3 od4 an4 od5 an5 od6 an6 : Option Addr} {sl1 sl2 sl3 sl4 sl5 sl6 : Array (Option Value)} {oc1 kV1 dc1 pm1 cd1 ct1 oc2 kV2 dc2 pm2 cd2 ct2 oc3 kV3 dc3 pm3 cd3 ct3 oc4 kV4 dc4 pm4 cd4 ct4 oc5 kV5 dc5 pm5 cd5 ct5 oc6 kV6 dc6 pm6 cd6 ct6 : Value} {t1 t2 t3 : Tok}
    (a1 : PySem.W.nsIn K mainGlobals "_law_start" = some (some (.ref f1))) (l1 : K.lookup f1 = some ⟨oc1, od1, .func (PySem.W.fnOf "_law_start" "_law_start" (defArgs s_Lstart) (defBody s_Lstart) (defScope s_Lstart) .none kV1 dc1 pm1 an1 cd1 ct1), sl1⟩) (c1 : PySem.W.codeIn K cd1 "_law_start" = true) (k1 : PySem.W.keepIn K (.ref f1) = true)
    (a2 : PySem.W.nsIn K mainGlobals "_law_draw" = some (some (.ref f2))) (l2 : K.lookup f2 = some ⟨oc2, od2, .func (PySem.W.fnOf "_law_draw" "_law_draw" (defArgs s_Ldraw) (defBody s_Ldraw) (defScope s_Ldraw) .none kV2 dc2 pm2 an2 cd2 ct2), sl2⟩) (c2 : PySem.W.codeIn K cd2 "_law_draw" = true) (k2 : PySem.W.keepIn K (.ref f2) = true)
    (a3 : PySem.W.nsIn K mainGlobals "_law_signs" = some (some (.ref f3))) (l3 : K.lookup f3 = some ⟨oc3, od3, .func (PySem.W.fnOf "_law_signs" "_law_signs" (defArgs s_Lsigns) (defBody s_Lsigns) (defScope s_Lsigns) .none kV3 dc3 pm3 an3 cd3 ct3), sl3⟩) (c3 : PySem.W.codeIn K cd3 "_law_signs" = true) (k3 : PySem.W.keepIn K (.ref f3) = true)
    (a4 : PySem.W.nsIn K mainGlobals "_law_good" = some (some (.ref f4))) (l4 : K.lookup f4 = some ⟨oc4, od4, .func (PySem.W.fnOf "_law_good" "_law_good" (defArgs s_Lgood) (defBody s_Lgood) (defScope s_Lgood) .none kV4 dc4 pm4 an4 cd4 ct4), sl4⟩) (c4 : PySem.W.codeIn K cd4 "_law_good" = true) (k4 : PySem.W.keepIn K (.ref f4) = true)
    (a5 : PySem.W.nsIn K mainGlobals "valid_name" = some (some (.ref f5))) (l5 : K.lookup f5 = some ⟨oc5, od5, .func (PySem.W.fnOf "valid_name" "valid_name" (defArgs s_valid_name) (defBody s_valid_name) (defScope s_valid_name) .none kV5 dc5 pm5 an5 cd5 ct5), sl5⟩) (c5 : PySem.W.codeIn K cd5 "valid_name" = true) (k5 : PySem.W.keepIn K (.ref f5) = true)
    (a6 : PySem.W.nsIn K mainGlobals "law" = some (some (.ref f6))) (l6 : K.lookup f6 = some ⟨oc6, od6, .func (PySem.W.fnOf "law" "law" (defArgs s_law) (defBody s_law) (defScope s_law) .none kV6 dc6 pm6 an6 cd6 ct6), sl6⟩) (c6 : PySem.W.codeIn K cd6 "law" = true) (k6 : PySem.W.keepIn K (.ref f6) = true)
    (v_LETTERS : PySem.W.nsIn K mainGlobals "LETTERS" = some (some (.str "abcdefghijklmnopqrstuvwxyz" t1)))
    (v_DIGITS : PySem.W.nsIn K mainGlobals "DIGITS" = some (some (.str "0123456789" t2)))
    (v_LONGEST_NAME : PySem.W.nsIn K mainGlobals "LONGEST_NAME" = some (some (.int 6 t3)))
    (z_len : PySem.W.nsIn K mainGlobals "len" = some none) (z_int : PySem.W.nsIn K mainGlobals "int" = some none) (z_abs : PySem.W.nsIn K mainGlobals "abs" = some none) (z_list : PySem.W.nsIn K mainGlobals "list" = some none) (z_range : PySem.W.nsIn K mainGlobals "range" = some none) (z_all : PySem.W.nsIn K mainGlobals "all" = some none) (z_isinstance : PySem.W.nsIn K mainGlobals "isinstance" = some none) (z_bool : PySem.W.nsIn K mainGlobals "bool" = some none) :
    ∃ fd : FuncData, (∀ (s : Shared) (v : Value), BindsTo s fd ⟨[v], []⟩ [("_law_script", v)]) ∧ ∀ base : Heap, K.In base → base.Ns mainGlobals mg → FnOk l.prog w K mg base CX0 2 fa fd ["_law_script"] (spLaw K) := by
  have e := hfa.symm.trans (PySem.W.mg_of X G a6)
  cases e
  have F1 := fun_mk (st := s_Lstart) l1 c1 k1
  have F2 := fun_mk (st := s_Ldraw) l2 c2 k2
  have F3 := fun_mk (st := s_Lsigns) l3 c3 k3
  have F4 := fun_mk (st := s_Lgood) l4 c4 k4
  have F5 := fun_mk (st := s_valid_name) l5 c5 k5
  have F6 := fun_mk (st := s_law) l6 c6 k6
  have b1 := F1.binds (ps := ["_law_script"]) fun _ _ _ _ _ _ us hl => match us, hl with | [_], _ => rfl
  have b2 := F2.binds (ps := ["_law_state", "_law_size"]) fun _ _ _ _ _ _ us hl => match us, hl with | [_, _], _ => rfl
  have b3 := F3.binds (ps := []) fun _ _ _ _ _ _ us hl => match us, hl with | [], _ => rfl
  have b4 := F4.binds (ps := ["_law_word"]) fun _ _ _ _ _ _ us hl => match us, hl with | [_], _ => rfl
  have b5 := F5.binds (ps := ["text"]) fun _ _ _ _ _ _ us hl => match us, hl with | [_], _ => rfl
  have T : TxtF mg f1 f2 f3 f4 f5 :=
    { z_len := PySem.W.mg_none_of X G z_len, z_int := PySem.W.mg_none_of X G z_int, z_abs := PySem.W.mg_none_of X G z_abs, z_list := PySem.W.mg_none_of X G z_list, z_range := PySem.W.mg_none_of X G z_range, z_all := PySem.W.mg_none_of X G z_all, z_isinstance := PySem.W.mg_none_of X G z_isinstance, z_bool := PySem.W.mg_none_of X G z_bool
      c_LETTERS := ⟨_, PySem.W.mg_of X G v_LETTERS⟩, c_DIGITS := ⟨_, PySem.W.mg_of X G v_DIGITS⟩, c_LONGEST_NAME := ⟨_, PySem.W.mg_of X G v_LONGEST_NAME⟩
      g_Lstart := PySem.W.mg_of X G a1, g_Ldraw := PySem.W.mg_of X G a2, g_Lsigns := PySem.W.mg_of X G a3, g_Lgood := PySem.W.mg_of X G a4, g_valid_name := PySem.W.mg_of X G a5 }
  have kb : KBinds K _ ["text"] ["text"] (fun us ws => us ++ ws) (fun vs zs => vs ++ zs) := kb_one F5 fun _ _ _ _ _ _ _ => ⟨rfl, rfl⟩
  exact ⟨PySem.W.fnOf "law" "law" (defArgs s_law) (defBody s_law) (defScope s_law) .none kV6 dc6 pm6 an6 cd6 ct6, fun s v => .of_eq rfl, fun base _ _ => ok_law F6 T F1 b1 F2 b2 F3 b3 F4 b4 F5 b5 kb⟩
end K01
open PySem PySem.W PyProof.Rows in
set_option maxRecDepth 100000 in
set_option maxHeartbeats 0 in
theorem PySem.Challenge.cw_twochoosers_k01_valid_names_holds : PySem.Challenge.rw_twochoosers_k01_valid_names.Holds := by
  w_on; o_law; k_head; (case hw => w_witness2)
  k_fill
  refine L2.walk_of (l := PySem.Challenge.rw_twochoosers_k01_valid_names) (n := 63) (k := 2) (x := "_law_script") (CX := fun _ => L2.CX0) (sp := fun w => K01.spLaw _) rfl (by decide) rfl ⟨rfl, by decide, by decide⟩ (fun w h Y => PySem.W.kIn_of Y) ?F (fun _ _ a ns hl _ hS => ⟨a, ns, rfl, hS, hl, fun _ => rfl⟩) (fun _ _ _ _ _ h => h)
  case F =>
    intro w mg fa h KX G hmg
    refine' K01.all_mk KX G hmg ?a1 ?l1 ?c1 ?k1 ?a2 ?l2 ?c2 ?k2 ?a3 ?l3 ?c3 ?k3 ?a4 ?l4 ?c4 ?k4 ?a5 ?l5 ?c5 ?k5 ?a6 ?l6 ?c6 ?k6 ?v_LETTERS ?v_DIGITS ?v_LONGEST_NAME ?z_len ?z_int ?z_abs ?z_list ?z_range ?z_all ?z_isinstance ?z_bool
    (case a1 => k_is)
    (case l1 => k_is)
    (case c1 => k_is)
    (case k1 => k_is)
    (case a2 => k_is)
    (case l2 => k_is)
    (case c2 => k_is)
    (case k2 => k_is)
    (case a3 => k_is)
    (case l3 => k_is)
    (case c3 => k_is)
    (case k3 => k_is)
    (case a4 => k_is)
    (case l4 => k_is)
    (case c4 => k_is)
    (case k4 => k_is)
    (case a5 => k_is)
    (case l5 => k_is)
    (case c5 => k_is)
    (case k5 => k_is)
    (case a6 => k_is)
    (case l6 => k_is)
    (case c6 => k_is)
    (case k6 => k_is)
    (case v_LETTERS => k_is)
    (case v_DIGITS => k_is)
    (case v_LONGEST_NAME => k_is)
    (case z_len => k_is)
    (case z_int => k_is)
    (case z_abs => k_is)
    (case z_list => k_is)
    (case z_range => k_is)
    (case z_all => k_is)
    (case z_isinstance => k_is)
    (case z_bool => k_is)
#print axioms PySem.Challenge.cw_twochoosers_k01_valid_names_holds
