import PyProof.Rows.All
import Wide.All
import OpenK.AllK
import Wide.FinOn
import KE.KStateDown
import Lean
import HandS.ForMost
import HandS.Exc
import HandS.Wide
import HandS.Defaults
import HandS.Evl
import HandS.IsInst
import HandS.Head0
import HandS.Head1
import HandS.Head2
import HandS.HeadEnd
import HandS.HeadHook1
import HandS.HeadHook2
import HandS.HeadHook3
import HandS.HeadHook4
import HandS.EndBits
import HandS.EndTab
import HandS.HeadWalk
import KE.KOpsOwn
import KE.KCallOwn
import HandS.ExcInit
import HandS.SlotsOwn
import HandS.Style
import HandS.Deep
import PyProof.ReprRoads
import HandS.ExcField
import HandS.ExcIs
import HandS.ExcOwn
import HandS.WordsExc
import KE.KExcIs
import KE.LtSeq
import HandS.Text
import HandS.Strs
import HandS.TryMany
import HandS.Codes
import HandS.FStr
import KE.KRevSl
import KE.IntTextLaws
import PySem.Challenge.RW_windowrows_k37_whole_order_of_frames
set_option Elab.async false
set_option linter.all false
set_option maxRecDepth 100000
set_option maxHeartbeats 4000000
namespace My
open PySem PySem.Spec PyProof.Rows L2
/-! ### a def that is called by its global name -/
structure Callee (P : Program) (w : World) (K : PySem.W.Frag) (mg : Str → Option Value) (base : Heap) (CX : CXT) (k : Nat) (d : He.DefD) (ps : List Str) (sp : Sp) : Prop where
  ex : ∃ (f : Addr) (fd : FuncData), FnOk P w K mg base CX k f fd ps sp ∧ mg d.name = some (.ref f) ∧ PySem.W.keepIn K (.ref f) = true ∧ Binds K fd ps [] ∧ FunD K d.name d.qual d.params d.body d.scope [] [] f fd
section
variable {X : Cx} {k : Nat} {d : He.DefD} {x : Str} {ps ks : List Str} {sp : Sp} {e : Expr} {es : List Expr} {t tk : TA} {p pos : Pos} {kws : List Keyword}
theorem pe_fn (C : Callee X.prog X.w X.K X.mg X.base CX0 k d ps sp) (hr : Room k X.A) (hg : Gl X x) (ha : PA X (e :: es) t) (hx : d.name = x := by rfl) (hdb : (x == ("__debug__" : Str)) = false := by decide)
    (he : starEach (e :: es) X.env = (false, eval e X.env) :: starEach es X.env := by rfl) (hpl : (backTo pos (starEach es X.env)).any (·.1) = false := by rfl) : PE X (.Call (.Name x p) (e :: es) [] pos) (tCall sp [] E0 t) := by
  obtain ⟨f, fd, F, hm, hk, hb, _⟩ := C.ex
  rw [hx] at hm
  exact pe_call F hr hg hm hk hb .nil pass0 ha hdb he hpl
theorem pe_fn0 (C : Callee X.prog X.w X.K X.mg X.base CX0 k d ps sp) (hr : Room k X.A) (hg : Gl X x) (hx : d.name = x := by rfl) (hdb : (x == ("__debug__" : Str)) = false := by decide) : PE X (.Call (.Name x p) [] [] pos) (tCall sp [] E0 tNil) := by
  obtain ⟨f, fd, F, hm, hk, hb, _⟩ := C.ex
  rw [hx] at hm
  exact pe_call0 F hr hg hm hk hb .nil pass0 hdb
/-- f(k = v, ..), nothing by place: gV puts the values in the parameters' order -/
def KCallK0 (m : Nat) (sp : Sp) (gV : List V → List V) (E : XK) (Q : VK) : List V → Hp → Prop := fun zs H2 => zs.length = m ∧ sp (gV zs) H2 Q E
def tCallK0 (m : Nat) (sp : Sp) (gV : List V → List V) (E : XK) (tk : TA) : TE := fun σ H Q => tk σ H (KCallK0 m sp gV E Q)
theorem pe_fnK0 (C : Callee X.prog X.w X.K X.mg X.base CX0 k d ps sp) (g : {α : Type} → List α → List α) (hr : Room k X.A) (hg : Gl X x) (hkw : PK X kws tk)
    (hb : ∀ (kV doc pm : Value) (an : Option Addr) (cdv ct : Value) (ws : List Value), ws.length = ks.length → bindArgs (PySem.W.fnOf d.name d.qual d.params d.body d.scope .none kV doc pm an cdv ct) ⟨[], ks.zip ws⟩ = pure (ps.zip (g ws)))
    (hv : ∀ {zs : List V} {ws : List Value}, Vals zs ws → Vals (g zs) (g ws)) (hx : d.name = x := by rfl)
    (hall : (backToKw pos (keywordEach kws X.env)).all (·.1.isSome) = true := by rfl) (hks : (backToKw pos (keywordEach kws X.env)).filterMap (·.1) = ks := by rfl) (hdb : (x == ("__debug__" : Str)) = false := by decide)
    (hpl : ((backTo pos (starEach [] X.env)).any (·.1) || (backToKw pos (keywordEach kws X.env)).any (·.1.isNone)) = false := by rfl) :
    PE X (.Call (.Name x p) [] kws pos) (tCallK0 ks.length sp g E0 tk) := by
  obtain ⟨f, fd, F, hm, hk, _, FD⟩ := C.ex
  rw [hx] at hm
  have kb : KBn X.K fd ps 0 ks (fun _ ws => g ws) (fun _ zs => g zs) := by
    obtain ⟨oc, od, dV, kV, doc, pm, an, cdv, ct, osl, rfl, lk, hcd, hD, hK⟩ := FD.ex
    rcases hD with ⟨_, rfl⟩ | ⟨e, _⟩
    · refine ⟨fun s us ws _ l1 l2 => ?_, fun _ r => hv r⟩
      have e := hb kV doc pm an cdv ct ws l2
      cases us with
      | nil => exact .of_eq e
      | cons _ _ => cases l1
    · exact absurd rfl e
  refine ⟨fun pins s σ H Q I h => ?_⟩
  refine wpAny_Call_Name_kw (ld_glob I hg hm ?_ hdb)
  refine PySem.W.callWith_KW0 (h₀ := X.base) I.ok.mod.kin hk hall (thn (hkw.run pos pins s σ H _ I h) fun ws s2 ⟨zs, H2, I2, rz, l2, q2⟩ => ⟨I2.kIn, ?_⟩) hpl
  rw [hks]
  exact run_fnN (us := []) (vs := []) F hr kb pass0 I2 .nil rz rfl l2 q2
end
/-! ### what the head says, by places -/
structure Env (fa : List He.Fa) (fn : List He.DefD) (K : PySem.W.Frag) (mg : Str → Option Value) : Prop where
  at_ : ∃ h : Heap, K.In h ∧ h.Ns mainGlobals mg
  c : He.SaysD fa fn K
section
variable {fa : List He.Fa} {fn : List He.DefD} {K : PySem.W.Frag} {mg : Str → Option Value}
theorem Env.glo (V : Env fa fn K mg) (i : Nat) {x : Str} (h : fa[i]? = some (.glo x) := by rfl) : mg x = some (.ref (He.ga K x)) := by
  obtain ⟨hp, X, G⟩ := V.at_
  exact He.glo_ok X G (V.c.fact i h)
theorem Env.fre (V : Env fa fn K mg) (i : Nat) {x : Str} (h : fa[i]? = some (.free x) := by rfl) : mg x = none := by
  obtain ⟨hp, X, G⟩ := V.at_
  exact He.free_ok X G (V.c.fact i h)
end
/-! ### isinstance of flat values by a built-in class -/
def tyN : V → Option String
  | .non => some "NoneType"
  | .bl _ => some "bool"
  | .int _ => some "int"
  | .str _ => some "str"
  | _ => none
def isiB (x : V) (n : String) : Option Bool := (tyN x).bind fun m => kitB m n
def rIsB : List V → Hp → VK → Prop := fun xs H Q => ∃ (x : V) (n : String) (b : Bool), xs = [x, .ty n] ∧ isiB x n = some b ∧ Q (.bl b) H
theorem tyN_of {K : PySem.W.Frag} {H : Hp} {x : V} {m : String} (h : tyN x = some m) : TyX K H x (.type m) := by
  cases x with
  | non => cases h; exact .base .non
  | bl b => cases h; exact .base (.bl b)
  | int i => cases h; exact .base (.int i)
  | str z => cases h; exact .base (.str z)
  | _ => cases h
theorem call_isB {X : Cx} : CallR X (.builtin "isinstance") rIsB := by
  intro pins s σ H xs us Q I r h
  obtain ⟨x, n, b, rfl, e, q⟩ := h
  cases q1 : tyN x with
  | none => unfold isiB at e; rw [q1] at e; cases e
  | some m =>
    have e2 : kitB m n = some b := by unfold isiB at e; rw [q1] at e; exact e
    exact call_isi pins s σ H _ us Q I r ⟨x, .ty n, .type m, .type n, b, rfl, .ty n, tyN_of q1, kit_ty e2, q⟩
/-! ### values for simp -/
section
variable {i j : Int} {b c : Bool} {x y : Str}
theorem scal_ii : scal (.int i) (.int j) = true := rfl
theorem scal_bb : scal (.bl b) (.bl c) = true := rfl
theorem scal_ss : scal (.str x) (.str y) = true := rfl
theorem scal_is : scal (.int i) (.str y) = true := rfl
theorem scal_si : scal (.str x) (.int j) = true := rfl
theorem scal_ni : scal .non (.int j) = true := rfl
theorem scal_in : scal (.int i) .non = true := rfl
theorem scal_nn : scal .non .non = true := rfl
theorem scal_ns : scal .non (.str y) = true := rfl
theorem scal_sn : scal (.str x) .non = true := rfl
theorem scal_nb : scal .non (.bl c) = true := rfl
theorem scal_bn : scal (.bl b) .non = true := rfl
theorem isi_bb : isiB (.bl b) "bool" = some true := by
  show kitB "bool" "bool" = some true
  decide +kernel
theorem isi_ib : isiB (.int i) "bool" = some false := by
  show kitB "int" "bool" = some false
  decide +kernel
theorem isi_ii : isiB (.int i) "int" = some true := by
  show kitB "int" "int" = some true
  decide +kernel
theorem isi_bi : isiB (.bl b) "int" = some true := by
  show kitB "bool" "int" = some true
  decide +kernel
theorem ex_some {α : Type} {p : α → Prop} {a : α} : (∃ b, some a = some b ∧ p b) = p a := by simp
theorem ite_and_m {a b X Y : Prop} [Decidable a] [Decidable b] : (if a then (if b then X else Y) else Y) = if a ∧ b then X else Y := by
  by_cases ha : a <;> by_cases hb : b <;> simp [ha, hb]
theorem ite_or_m {a b X Y : Prop} [Decidable a] [Decidable b] : (if a then X else if b then X else Y) = if a ∨ b then X else Y := by
  by_cases ha : a <;> by_cases hb : b <;> simp [ha, hb]
end
theorem q_bl {Q : VK} {H : Hp} {b c : Bool} (q : Q (.bl b) H) (e : b = c) : Q (.bl c) H := e ▸ q
theorem q_v {Q : VK} {H : Hp} {b c : V} (q : Q b H) (e : b = c) : Q c H := e ▸ q
/-! ### steps: what stands closed in the reading -/
section
variable {K : PySem.W.Frag} {H : Hp} {a p : Addr} {xs : List V} {i k : Int} {j : Nat} {v : V} {Q : VK}
theorem call_lenR {X : Cx} : CallR X (.builtin "len") (Evl.rLenS X.K) := call_len_seq
theorem ix_l (h : SqL K H a xs) (e : atI xs i = some v) (q : Q v H) : rIxL K (.ref a) (.int i) H Q := ⟨a, xs, i, v, rfl, rfl, h, e, q⟩
theorem ix_t (h : SqT K H a xs) (e : atI xs i = some v) (q : Q v H) : rIxT K (.ref a) (.int i) H Q := ⟨a, xs, i, v, rfl, rfl, h, e, q⟩
theorem set_l {Q : Hp → Prop} (h : H a = some (.lst xs)) (e : ixN xs.length k = some j) (q : Q (upd H a (.lst (xs.set j v)))) : rSetL (.ref a) (.int k) v H Q := ⟨a, xs, k, j, rfl, rfl, h, e, q⟩
theorem len_l (h : SqL K H a xs) (q : Q (.int xs.length) H) : Evl.rLenS K [.ref a] H Q := ⟨a, xs, rfl, .inl h, q⟩
theorem len_t (h : SqT K H a xs) (q : Q (.int xs.length) H) : Evl.rLenS K [.ref a] H Q := ⟨a, xs, rfl, .inr h, q⟩
theorem app_l (h : H a = some (.lst xs)) (e : xs.length < sizeLine) (q : Q .non (upd H a (.lst (xs ++ [v])))) : rAppend (.ref a) [v] H Q := ⟨a, xs, v, rfl, rfl, h, e, q⟩
theorem ty_l (h : H a = some (.lst xs)) : tyV K "list" (.ref a) H := .inl ⟨rfl, _, SqL.of h⟩
theorem at_ints {ns : List Int} (h0 : 0 ≤ i) (h1 : i < ns.length) : atI (ns.map V.int) i = some (.int (ns.getD i.toNat 0)) := by
  obtain ⟨n, rfl⟩ : ∃ n : Nat, i = (n : Int) := ⟨i.toNat, by omega⟩
  have hn : n < ns.length := by omega
  have e : (ns.map V.int)[n]? = some (.int (ns.getD n 0)) := by
    rw [List.getElem?_map, List.getD_eq_getElem?_getD, List.getElem?_eq_getElem hn]; rfl
  rw [Int.toNat_natCast]
  exact atI_nat e
theorem ix_ints {ns : List Int} (h0 : 0 ≤ i) (h1 : i < ns.length) : ixN (ns.map V.int).length i = some i.toNat := by
  rw [List.length_map]
  unfold ixN
  rw [if_pos h0, if_pos (by omega)]
theorem set_ints {ns : List Int} {n : Nat} {y : Int} : (ns.map V.int).set n (.int y) = (ns.set n y).map V.int := by
  rw [List.map_set]
end
/-! ### frames: what is tracked off the places of S stays -/
def Fr (S : List Addr) (H H' : Hp) : Prop := (∀ b o, b ∉ S → H b = some o → H' b = some o) ∧ ∀ b, H' b = none → H b = none
theorem Fr.refl (S : List Addr) (H : Hp) : Fr S H H := ⟨fun _ _ _ h => h, fun _ h => h⟩
theorem Fr.trans {S : List Addr} {H H1 H2 : Hp} (a : Fr S H H1) (b : Fr S H1 H2) : Fr S H H2 := ⟨fun c o n h => b.1 c o n (a.1 c o n h), fun c h => a.2 c (b.2 c h)⟩
theorem Fr.mono {S T : List Addr} {H H1 : Hp} (a : Fr S H H1) (h : ∀ b, b ∈ S → b ∈ T) : Fr T H H1 := ⟨fun c o n e => a.1 c o (fun z => n (h c z)) e, a.2⟩
theorem Fr.new {S : List Addr} {H : Hp} {p : Addr} {o : HO} (h : H p = none) : Fr S H (upd H p o) := by
  refine ⟨fun b u _ e => ?_, fun b e => ?_⟩
  · rw [upd_ne (ne_of_none e h)]; exact e
  · by_cases hb : b = p
    · rw [hb, upd_same] at e; cases e
    · rw [upd_ne hb] at e; exact e
theorem Fr.set {S : List Addr} {H : Hp} {p : Addr} {o : HO} (h : p ∈ S) : Fr S H (upd H p o) → Fr S H (upd H p o) := id
theorem Fr.put {S : List Addr} {H H1 : Hp} {p : Addr} {o : HO} (a : Fr S H H1) (h : p ∈ S) : Fr S H (upd H1 p o) := by
  refine ⟨fun b u n e => ?_, fun b e => ?_⟩
  · have hb : b ≠ p := fun z => n (z ▸ h)
    rw [upd_ne hb]; exact a.1 b u n e
  · by_cases hb : b = p
    · rw [hb, upd_same] at e; cases e
    · rw [upd_ne hb] at e; exact a.2 b e
theorem Fr.put_new {S : List Addr} {H H1 : Hp} {p : Addr} {o : HO} (a : Fr S H H1) (h : H1 p = none) : Fr S H (upd H1 p o) := a.trans (Fr.new h)
theorem Fr.l {S : List Addr} {K : PySem.W.Frag} {H H' : Hp} {a : Addr} {xs : List V} (f : Fr S H H') (n : a ∉ S) (h : SqL K H a xs) : SqL K H' a xs := by
  rcases h with (h | ⟨o, h⟩) | h
  · exact .inl (.inl (f.1 _ _ n h))
  · exact .inl (.inr ⟨o, f.1 _ _ n h⟩)
  · exact .inr h
theorem Fr.t {S : List Addr} {K : PySem.W.Frag} {H H' : Hp} {a : Addr} {xs : List V} (f : Fr S H H') (n : a ∉ S) (h : SqT K H a xs) : SqT K H' a xs := by
  rcases h with (h | ⟨o, h⟩) | h
  · exact .inl (.inl (f.1 _ _ n h))
  · exact .inl (.inr ⟨o, f.1 _ _ n h⟩)
  · exact .inr h
/-! ### the draws: at a the list of the cells' list at ac, the rests' list at ar and the turn -/
structure Dr (H : Hp) (a ac ar : Addr) : Prop where
  ex : ∃ (cs rs : List Int) (t : Int), H a = some (.lst [.ref ac, .ref ar, .int t]) ∧ H ac = some (.lst (cs.map V.int)) ∧ H ar = some (.lst (rs.map V.int)) ∧ cs.length = rs.length ∧ 0 < cs.length ∧ cs.length ≤ 1000 ∧ 0 ≤ t
  n1 : a ≠ ac
  n2 : a ≠ ar
  n3 : ac ≠ ar
theorem Dr.fr {H H' : Hp} {a ac ar : Addr} {S : List Addr} (d : Dr H a ac ar) (f : Fr S H H') (h1 : a ∉ S) (h2 : ac ∉ S) (h3 : ar ∉ S) : Dr H' a ac ar := by
  obtain ⟨⟨cs, rs, t, e1, e2, e3, q⟩, n1, n2, n3⟩ := d
  exact ⟨⟨cs, rs, t, f.1 _ _ h1 e1, f.1 _ _ h2 e2, f.1 _ _ h3 e3, q⟩, n1, n2, n3⟩
/-- a draw below many -/
def spDraw : Sp := fun vs H Q _ => ∃ (a ac ar : Addr) (m : Int), vs = [.ref a, .int m] ∧ 0 < m ∧ m < 2 ^ 100 ∧ Dr H a ac ar ∧ ∀ (v : Int) (H' : Hp), 0 ≤ v → v < m → Dr H' a ac ar → Fr [a, ar] H H' → Q (.int v) H'
/-- the draws of a script -/
def spBegin (K : PySem.W.Frag) : Sp := fun vs H Q _ => ∃ (a : Addr) (ns : List Int), vs = [.ref a] ∧ SqL K H a (ns.map V.int) ∧ ns.length ≤ 63 ∧ ∀ (p ac ar : Addr) (H' : Hp), H p = none → H ac = none → H ar = none → Dr H' p ac ar → Fr [] H H' → Q (.ref p) H'
end My
/-! What stands behind each piece, by name: the readings then open step by step, from the left. -/
namespace My
open PySem PySem.Spec PyProof.Rows L2
section
variable {K : PySem.W.Frag} {σ : L2.St} {H : Hp} {Q : VK} {D : Ends} {i : Nat} {v x y : V} {ta tb tc te : TE} {t u : TS} {c c' : TT} {ts tr tk : TA} {g : TG} {QB : Bool → Hp → Prop} {QA : List V → Hp → Prop} {QN : L2.St → Hp → Prop} {QH : Hp → Prop}
def KAsg (g : TG) (D : Ends) (σ : L2.St) : VK := fun x H1 => g x σ H1 D.nx
def KDrop (D : Ends) (σ : L2.St) : VK := fun _ H1 => D.nx σ H1
def KIf (t u : TS) (D : Ends) (σ : L2.St) : Bool → Hp → Prop := fun b H1 => if b = true then t D σ H1 else u D σ H1
def KB (Q : Bool → Hp → Prop) : VK := fun x H1 => ∃ k, x = .bl k ∧ Q k H1
def KAnd (u : TT) (σ : L2.St) (Q : Bool → Hp → Prop) : Bool → Hp → Prop := fun b H1 => if b = true then u σ H1 Q else Q false H1
def KOr (u : TT) (σ : L2.St) (Q : Bool → Hp → Prop) : Bool → Hp → Prop := fun b H1 => if b = true then Q true H1 else u σ H1 Q
def KNot (Q : Bool → Hp → Prop) : Bool → Hp → Prop := fun b H1 => Q (!b) H1
def KOp1 (r : R2) (tb : TE) (σ : L2.St) (Q : VK) : VK := fun x H1 => tb σ H1 fun y H2 => r x y H2 Q
def KOp2 (r : R2) (x : V) (Q : VK) : VK := fun y H2 => r x y H2 Q
def KUn (r : V → Hp → VK → Prop) (Q : VK) : VK := fun x H1 => r x H1 Q
def KArg1 (tr : TA) (σ : L2.St) (Q : List V → Hp → Prop) : VK := fun x H1 => tr σ H1 fun xs H2 => Q (x :: xs) H2
def KArg2 (x : V) (Q : List V → Hp → Prop) : List V → Hp → Prop := fun xs H2 => Q (x :: xs) H2
def KCall (sp : Sp) (dvs : List V) (E : XK) (Q : VK) : List V → Hp → Prop := fun vs H1 => sp (vs ++ dvs) H1 Q E
def KCB (r : List V → Hp → VK → Prop) (Q : VK) : List V → Hp → Prop := fun vs H1 => r vs H1 Q
def KTup (Q : VK) : List V → Hp → Prop := fun xs H1 => xs.length ≤ sizeLine ∧ ∀ p, H1 p = none → Q (.ref p) (upd H1 p (.tup xs))
def KLst (Q : VK) : List V → Hp → Prop := fun xs H1 => xs.length ≤ sizeLine ∧ ∀ p, H1 p = none → Q (.ref p) (upd H1 p (.lst xs))
def KIfE (ta tb : TE) (σ : L2.St) (Q : VK) : Bool → Hp → Prop := fun b H1 => if b = true then ta σ H1 Q else tb σ H1 Q
def KAndV (tb : TE) (σ : L2.St) (Q : VK) : VK := fun x H1 => ∃ c, x = .bl c ∧ if c = true then tb σ H1 Q else Q (.bl false) H1
def KOrV (tb : TE) (σ : L2.St) (Q : VK) : VK := fun x H1 => ∃ c, x = .bl c ∧ if c = true then Q (.bl true) H1 else tb σ H1 Q
def KNotV (Q : VK) : VK := fun x H1 => ∃ c, x = .bl c ∧ Q (.bl (!c)) H1
def KFld (K : PySem.W.Frag) (f : Str) (Q : VK) : VK := fun x H1 => ∃ a C dx fs v, x = .ref a ∧ H1 a = some (.ins C dx fs) ∧ Cls K C ∧ NoAttr K C f ∧ fs.lookup f = some v ∧ Q v H1
def KSub1 (ti : TE) (t : TSet) (v : V) (σ : L2.St) (Q : L2.St → Hp → Prop) : VK := fun o H1 => ti σ H1 fun i H2 => t o i v H2 fun H3 => Q σ H3
def KSub2 (t : TSet) (o v : V) (σ : L2.St) (Q : L2.St → Hp → Prop) : VK := fun i H2 => t o i v H2 fun H3 => Q σ H3
def KAt (σ : L2.St) (Q : L2.St → Hp → Prop) : Hp → Prop := fun H3 => Q σ H3
def KAug (i : Nat) (te : TE) (ti : TIp) (D : Ends) (σ : L2.St) : VK := fun x H => te σ H fun y H1 => ti x y H1 fun z H2 => D.nx (σ.set i (some z)) H2
def KAug2 (i : Nat) (x : V) (ti : TIp) (D : Ends) (σ : L2.St) : VK := fun y H1 => ti x y H1 fun z H2 => D.nx (σ.set i (some z)) H2
def KSet (i : Nat) (D : Ends) (σ : L2.St) : VK := fun z H2 => D.nx (σ.set i (some z)) H2
def KBM (K : PySem.W.Frag) (T : String) (r : V → List V → Hp → VK → Prop) (t : TA) (σ : L2.St) (Q : VK) : VK := fun x H1 => tyV K T x H1 ∧ t σ H1 fun xs H2 => r x xs H2 Q
def KBM2 (r : V → List V → Hp → VK → Prop) (x : V) (Q : VK) : List V → Hp → Prop := fun xs H2 => r x xs H2 Q
def KSl1 (r : V → Option Int → Option Int → Hp → VK → Prop) (tl th : TO) (σ : L2.St) (Q : VK) : VK := fun x H1 => tl σ H1 fun l H2 => th σ H2 fun u H3 => r x l u H3 Q
def KSl2 (r : V → Option Int → Option Int → Hp → VK → Prop) (x : V) (th : TO) (σ : L2.St) (Q : VK) : Option Int → Hp → Prop := fun l H2 => th σ H2 fun u H3 => r x l u H3 Q
def KSl3 (r : V → Option Int → Option Int → Hp → VK → Prop) (x : V) (l : Option Int) (Q : VK) : Option Int → Hp → Prop := fun u H3 => r x l u H3 Q
def KPart (Q : Option Int → Hp → Prop) : VK := fun x H1 => ∃ i, x = .int i ∧ Q (some i) H1
def KMake (C : Addr) (sp : Sp) (dvs : List V) (E : XK) (Q : VK) : List V → Hp → Prop := fun vs H1 => ∀ x dx, H1 x = none → H1 dx = none → dx ≠ x → sp (.ref x :: (vs ++ dvs)) (upd (upd H1 dx (.own x)) x (.ins C dx [])) (fun v H2 => v = .non ∧ Q (.ref x) H2) E
def KMeth (C : Addr) (m : Str) (sp : Sp) (dvs : List V) (E : XK) (t : TA) (σ : L2.St) (Q : VK) : VK := fun x H1 => ∃ a dx fs, x = .ref a ∧ H1 a = some (.ins C dx fs) ∧ fs.lookup m = none ∧ t σ H1 fun vs H2 => sp (x :: (vs ++ dvs)) H2 Q E
def KSf1 (K : PySem.W.Frag) (ta : TE) (f : Str) (D : Ends) (σ : L2.St) : VK := fun y H1 => ta σ H1 fun x H2 => ∃ a C dx fs, x = .ref a ∧ H2 a = some (.ins C dx fs) ∧ Cls K C ∧ NoAttr K C f ∧ fs.length < 1000 ∧ D.nx σ (upd H2 a (.ins C dx (putF f y fs)))
def KSf2 (K : PySem.W.Frag) (y : V) (f : Str) (D : Ends) (σ : L2.St) : VK := fun x H2 => ∃ a C dx fs, x = .ref a ∧ H2 a = some (.ins C dx fs) ∧ Cls K C ∧ NoAttr K C f ∧ fs.length < 1000 ∧ D.nx σ (upd H2 a (.ins C dx (putF f y fs)))
def KTg (u : TGs) (r : List V) (Q : L2.St → Hp → Prop) : L2.St → Hp → Prop := fun σ' H' => u r σ' H' Q
/-! statements -/
theorem mw_seq : tSeq t u D σ H = t ⟨u D, D.rt, D.bk, D.ct⟩ σ H := rfl
theorem mw_next : tNext D σ H = D.nx σ H := rfl
theorem mw_brk : tBreak D σ H = D.bk σ H := rfl
theorem mw_cont : tCont D σ H = D.ct σ H := rfl
theorem mw_ret : tRet te D σ H = te σ H D.rt := rfl
theorem mw_retN : tRetN D σ H = D.rt .non H := rfl
theorem mw_asg : tAsg te g D σ H = te σ H (KAsg g D σ) := rfl
theorem mw_asgN : KAsg (gName i) D σ x H = D.nx (σ.set i (some x)) H := rfl
theorem mw_asgS {ti : TE} {r : TSet} : KAsg (gSub ta ti r) D σ v H = ta σ H (KSub1 ti r v σ D.nx) := rfl
theorem mw_sub1 {r : TSet} {o : V} : KSub1 tb r v σ QN o H = tb σ H (KSub2 r o v σ QN) := rfl
theorem mw_sub2 {r : TSet} {o k : V} : KSub2 r o v σ QN k H = r o k v H (KAt σ QN) := rfl
theorem mw_at : KAt σ QN H = QN σ H := rfl
theorem mw_drop : tDrop te D σ H = te σ H (KDrop D σ) := rfl
theorem mw_dropK : KDrop D σ x H = D.nx σ H := rfl
theorem mw_aug {ti : TIp} : tAug i te ti D σ H = tVar i σ H (KAug i te ti D σ) := rfl
theorem mw_augK {ti : TIp} : KAug i te ti D σ x H = te σ H (KAug2 i x ti D σ) := rfl
theorem mw_aug2 {f : Int → Int → Int} {a b : Int} : KAug2 i (.int a) (ipI f) D σ (.int b) H = D.nx (σ.set i (some (.int (f a b)))) H := by
  refine propext ⟨fun h => ?_, fun h => ⟨a, b, rfl, rfl, h⟩⟩
  obtain ⟨_, _, e1, e2, h⟩ := h
  cases e1; cases e2; exact h
theorem mw_if : tIfS c t u D σ H = c σ H (KIf t u D σ) := rfl
theorem mw_ifK {b : Bool} : KIf t u D σ b H = if b = true then t D σ H else u D σ H := rfl
/-! tests -/
theorem mw_test : tTest te σ H QB = te σ H (KB QB) := rfl
theorem mw_B : tB te σ H QB = te σ H (KB QB) := rfl
theorem mw_KB {b : Bool} : KB QB (.bl b) H = QB b H := by
  refine propext ⟨fun h => ?_, fun h => ⟨b, rfl, h⟩⟩
  obtain ⟨_, e, h⟩ := h
  cases e; exact h
theorem mw_and : tAnd c c' σ H QB = c σ H (KAnd c' σ QB) := rfl
theorem mw_andK {b : Bool} : KAnd c σ QB b H = if b = true then c σ H QB else QB false H := rfl
theorem mw_or : tOr c c' σ H QB = c σ H (KOr c' σ QB) := rfl
theorem mw_orK {b : Bool} : KOr c σ QB b H = if b = true then QB true H else c σ H QB := rfl
theorem mw_not : tNot c σ H QB = c σ H (KNot QB) := rfl
theorem mw_notK {b : Bool} : KNot QB b H = QB (!b) H := rfl
theorem mw_yes : tYes σ H QB = QB true H := rfl
theorem mw_cxK {CX : CXT} {P : Program} {w : World} {mg : Str → Option Value} {base : Heap} {N : List Str} {q : Str} {sc : Scope} {f : Addr} {cd : Value} {A : Around} {o : List PySem.Env} {s : Shared} {E : XK} : (cxOf CX P w K mg base N q sc f cd A o s H E).K = K := rfl
/-! expressions -/
theorem mw_c : tC v σ H Q = Q v H := rfl
theorem mw_var0 : tVar 0 (some v :: σ) H Q = Q v H := by
  refine propext ⟨fun h => ?_, fun h => ⟨v, rfl, h⟩⟩
  obtain ⟨_, e, h⟩ := h
  cases e; exact h
theorem mw_varS {n : Nat} {o : Option V} : tVar (n + 1) (o :: σ) H Q = tVar n σ H Q := rfl
theorem mw_op {r : R2} : tOp r ta tb σ H Q = ta σ H (KOp1 r tb σ Q) := rfl
theorem mw_op1 {r : R2} : KOp1 r tb σ Q x H = tb σ H (KOp2 r x Q) := rfl
theorem mw_op2 {r : R2} : KOp2 r x Q y H = r x y H Q := rfl
theorem mw_un {r : V → Hp → VK → Prop} : tUn r ta σ H Q = ta σ H (KUn r Q) := rfl
theorem mw_unK {r : V → Hp → VK → Prop} : KUn r Q x H = r x H Q := rfl
theorem mw_rI0 {f : Int → Int → V} {a b : Int} : rI0 f (.int a) (.int b) H Q = Q (f a b) H := by
  refine propext ⟨fun h => ?_, fun h => ⟨a, b, rfl, rfl, h⟩⟩
  obtain ⟨_, _, e1, e2, h⟩ := h
  cases e1; cases e2; exact h
theorem mw_rI {C : Int → Int → Prop} {f : Int → Int → V} {a b : Int} : rI C f (.int a) (.int b) H Q = (C a b ∧ Q (f a b) H) := by
  refine propext ⟨fun h => ?_, fun h => ⟨a, b, rfl, rfl, h⟩⟩
  obtain ⟨_, _, e1, e2, h⟩ := h
  cases e1; cases e2; exact h
theorem mw_rU {f : Int → V} {a : Int} : rU f (.int a) H Q = Q (f a) H := by
  refine propext ⟨fun h => ?_, fun h => ⟨a, rfl, h⟩⟩
  obtain ⟨_, e1, h⟩ := h
  cases e1; exact h
theorem mw_eq (h : scal x y = true) : rEq x y H Q = Q (.bl (decide (x = y))) H := propext ⟨fun z => z.2, fun z => ⟨h, z⟩⟩
theorem mw_ne (h : scal x y = true) : rNe x y H Q = Q (.bl (!decide (x = y))) H := propext ⟨fun z => z.2, fun z => ⟨h, z⟩⟩
theorem mw_eqII {a b : Int} : rEq (.int a) (.int b) H Q = Q (.bl (decide (a = b))) H := by
  rw [mw_eq rfl]; simp
theorem mw_neII {a b : Int} : rNe (.int a) (.int b) H Q = Q (.bl (!decide (a = b))) H := by
  rw [mw_ne rfl]; simp
theorem mw_eqBB {a b : Bool} : rEq (.bl a) (.bl b) H Q = Q (.bl (decide (a = b))) H := by
  rw [mw_eq rfl]; simp
theorem mw_neBB {a b : Bool} : rNe (.bl a) (.bl b) H Q = Q (.bl (!decide (a = b))) H := by
  rw [mw_ne rfl]; simp
theorem mw_eqSS {a b : Str} : rEq (.str a) (.str b) H Q = Q (.bl (decide (a = b))) H := by
  rw [mw_eq rfl]; simp
theorem mw_neSS {a b : Str} : rNe (.str a) (.str b) H Q = Q (.bl (!decide (a = b))) H := by
  rw [mw_ne rfl]; simp
theorem mw_cons : tCons ta tr σ H QA = ta σ H (KArg1 tr σ QA) := rfl
theorem mw_arg1 : KArg1 tr σ QA x H = tr σ H (KArg2 x QA) := rfl
theorem mw_arg2 {xs : List V} : KArg2 x QA xs H = QA (x :: xs) H := rfl
theorem mw_nil : tNil σ H QA = QA [] H := rfl
theorem mw_call {sp : Sp} {dvs : List V} {E : XK} : tCall sp dvs E ts σ H Q = ts σ H (KCall sp dvs E Q) := rfl
theorem mw_callK {sp : Sp} {E : XK} {vs : List V} : KCall sp [] E Q vs H = sp vs H Q E := by
  unfold KCall
  rw [List.append_nil]
theorem mw_callK0 {n : Nat} {sp : Sp} {gV : List V → List V} {E : XK} : tCallK0 n sp gV E ts σ H Q = ts σ H (KCallK0 n sp gV E Q) := rfl
theorem mw_callK0K {n : Nat} {sp : Sp} {gV : List V → List V} {E : XK} {zs : List V} : KCallK0 n sp gV E Q zs H = (zs.length = n ∧ sp (gV zs) H Q E) := rfl
theorem mw_CB {r : List V → Hp → VK → Prop} : tCB r ts σ H Q = ts σ H (KCB r Q) := rfl
theorem mw_CBK {r : List V → Hp → VK → Prop} {vs : List V} : KCB r Q vs H = r vs H Q := rfl
theorem mw_tup : tTup ts σ H Q = ts σ H (KTup Q) := rfl
theorem mw_lst : tLst ts σ H Q = ts σ H (KLst Q) := rfl
theorem mw_ife : tIf c ta tb σ H Q = c σ H (KIfE ta tb σ Q) := rfl
theorem mw_ifeK {b : Bool} : KIfE ta tb σ Q b H = if b = true then ta σ H Q else tb σ H Q := rfl
theorem mw_andV : tAndV ta tb σ H Q = ta σ H (KAndV tb σ Q) := rfl
theorem mw_andVK {b : Bool} : KAndV tb σ Q (.bl b) H = if b = true then tb σ H Q else Q (.bl false) H := by
  refine propext ⟨fun h => ?_, fun h => ⟨b, rfl, h⟩⟩
  obtain ⟨_, e, h⟩ := h
  cases e; exact h
theorem mw_orV : tOrV ta tb σ H Q = ta σ H (KOrV tb σ Q) := rfl
theorem mw_orVK {b : Bool} : KOrV tb σ Q (.bl b) H = if b = true then Q (.bl true) H else tb σ H Q := by
  refine propext ⟨fun h => ?_, fun h => ⟨b, rfl, h⟩⟩
  obtain ⟨_, e, h⟩ := h
  cases e; exact h
theorem mw_notV : tNotV ta σ H Q = ta σ H (KNotV Q) := rfl
theorem mw_notVK {b : Bool} : KNotV Q (.bl b) H = Q (.bl (!b)) H := by
  refine propext ⟨fun h => ?_, fun h => ⟨b, rfl, h⟩⟩
  obtain ⟨_, e, h⟩ := h
  cases e; exact h
theorem mw_fld {f : Str} : tFld K ta f σ H Q = ta σ H (KFld K f Q) := rfl
theorem mw_BM {T : String} {r : V → List V → Hp → VK → Prop} : tBM K T r ta ts σ H Q = ta σ H (KBM K T r ts σ Q) := rfl
theorem mw_BMK {T : String} {r : V → List V → Hp → VK → Prop} : KBM K T r ts σ Q x H = (tyV K T x H ∧ ts σ H (KBM2 r x Q)) := rfl
theorem mw_BM2 {r : V → List V → Hp → VK → Prop} {vs : List V} : KBM2 r x Q vs H = r x vs H Q := rfl
theorem mw_sl {r : V → Option Int → Option Int → Hp → VK → Prop} {tl th : TO} : tSl r te tl th σ H Q = te σ H (KSl1 r tl th σ Q) := rfl
theorem mw_sl1 {r : V → Option Int → Option Int → Hp → VK → Prop} {tl th : TO} : KSl1 r tl th σ Q x H = tl σ H (KSl2 r x th σ Q) := rfl
theorem mw_sl2 {r : V → Option Int → Option Int → Hp → VK → Prop} {th : TO} {l : Option Int} : KSl2 r x th σ Q l H = th σ H (KSl3 r x l Q) := rfl
theorem mw_sl3 {r : V → Option Int → Option Int → Hp → VK → Prop} {l n : Option Int} : KSl3 r x l Q n H = r x l n H Q := rfl
theorem mw_part {QO : Option Int → Hp → Prop} : tPart te σ H QO = te σ H (KPart QO) := rfl
theorem mw_partK {QO : Option Int → Hp → Prop} {a : Int} : KPart QO (.int a) H = QO (some a) H := by
  refine propext ⟨fun h => ?_, fun h => ⟨a, rfl, h⟩⟩
  obtain ⟨_, e, h⟩ := h
  cases e; exact h
theorem mw_noPart {QO : Option Int → Hp → Prop} : tNoPart σ H QO = QO none H := rfl
theorem mw_make {C : Addr} {sp : Sp} {dvs : List V} {E : XK} : tMake C sp dvs E ts σ H Q = ts σ H (KMake C sp dvs E Q) := rfl
theorem mw_meth {C : Addr} {m : Str} {sp : Sp} {dvs : List V} {E : XK} : tMeth C m sp dvs E ta ts σ H Q = ta σ H (KMeth C m sp dvs E ts σ Q) := rfl
theorem mw_sfld {f : Str} : sFld K ta te f D σ H = te σ H (KSf1 K ta f D σ) := rfl
theorem mw_sf1 {f : Str} : KSf1 K ta f D σ y H = ta σ H (KSf2 K y f D σ) := rfl
/-! calls of built-ins on flat values -/
def rInt : List V → Hp → VK → Prop := fun xs H Q => (∃ i, xs = [.int i] ∧ Q (.int i) H) ∨ ∃ k, xs = [.bl k] ∧ Q (.int (if k then 1 else 0)) H
theorem call_intR {X : Cx} : CallR X (.type "int") rInt := call_int1
theorem mw_intI {a : Int} : rInt [.int a] H Q = Q (.int a) H := by
  refine propext ⟨fun h => ?_, fun h => .inl ⟨a, rfl, h⟩⟩
  rcases h with ⟨_, e, h⟩ | ⟨_, e, h⟩
  · cases e; exact h
  · cases e
theorem mw_intB {b : Bool} : rInt [.bl b] H Q = Q (.int (if b then 1 else 0)) H := by
  refine propext ⟨fun h => ?_, fun h => .inr ⟨b, rfl, h⟩⟩
  rcases h with ⟨_, e, h⟩ | ⟨_, e, h⟩
  · cases e
  · cases e; exact h
def rAbs : List V → Hp → VK → Prop := fun xs H Q => ∃ i, xs = [.int i] ∧ Q (.int (i.natAbs : Int)) H
theorem call_absR {X : Cx} : CallR X (.builtin "abs") rAbs := by
  intro pins s σ H xs us Q I r h
  obtain ⟨i, rfl, q⟩ := h
  refine call_abs pins s σ H _ us Q I r ⟨i, rfl, ?_⟩
  have e : (if i < 0 then -i else i) = (i.natAbs : Int) := by split <;> omega
  rw [e]; exact q
theorem mw_abs {a : Int} : rAbs [.int a] H Q = Q (.int (a.natAbs : Int)) H := by
  refine propext ⟨fun h => ?_, fun h => ⟨a, rfl, h⟩⟩
  obtain ⟨_, e, h⟩ := h
  cases e; exact h
def rMax : List V → Hp → VK → Prop := fun xs H Q => ∃ i j, xs = [.int i, .int j] ∧ Q (.int (max i j)) H
theorem call_maxR {X : Cx} (hc : X.calm = true) : CallR X (.builtin "max") rMax := by
  intro pins s σ H xs us Q I r h
  obtain ⟨i, j, rfl, q⟩ := h
  refine call_max2 hc pins s σ H _ us Q I r ⟨i, j, rfl, ?_⟩
  have e : (if j > i then j else i) = max i j := by split <;> omega
  rw [e]; exact q
theorem mw_max {a b : Int} : rMax [.int a, .int b] H Q = Q (.int (max a b)) H := by
  refine propext ⟨fun h => ?_, fun h => ⟨a, b, rfl, h⟩⟩
  obtain ⟨_, _, e, h⟩ := h
  cases e; exact h
def rMin : List V → Hp → VK → Prop := fun xs H Q => ∃ i j, xs = [.int i, .int j] ∧ Q (.int (min i j)) H
theorem call_minR {X : Cx} (hc : X.calm = true) : CallR X (.builtin "min") rMin := by
  intro pins s σ H xs us Q I r h
  obtain ⟨i, j, rfl, q⟩ := h
  refine call_min2 hc pins s σ H _ us Q I r ⟨i, j, rfl, ?_⟩
  have e : (if j < i then j else i) = min i j := by split <;> omega
  rw [e]; exact q
theorem mw_min {a b : Int} : rMin [.int a, .int b] H Q = Q (.int (min a b)) H := by
  refine propext ⟨fun h => ?_, fun h => ⟨a, b, rfl, h⟩⟩
  obtain ⟨_, _, e, h⟩ := h
  cases e; exact h
theorem mw_isB {n : String} {b : Bool} (h : isiB x n = some b) : rIsB [x, .ty n] H Q = Q (.bl b) H := by
  refine propext ⟨fun z => ?_, fun z => ⟨x, n, b, rfl, h, z⟩⟩
  obtain ⟨x', n', b', e, e2, z⟩ := z
  cases e
  rw [h] at e2
  cases e2; exact z
theorem mw_isBB {b : Bool} : rIsB [.bl b, .ty "bool"] H Q = Q (.bl true) H := mw_isB isi_bb
theorem mw_isIB {a : Int} : rIsB [.int a, .ty "bool"] H Q = Q (.bl false) H := mw_isB isi_ib
theorem mw_isII {a : Int} : rIsB [.int a, .ty "int"] H Q = Q (.bl true) H := mw_isB isi_ii
theorem mw_isBI {b : Bool} : rIsB [.bl b, .ty "int"] H Q = Q (.bl true) H := mw_isB isi_bi
/-! is None -/
def rIsNo : R2 := fun x y H Q => y = .non ∧ Q (.bl (decide (x = .non))) H
def rNotNo : R2 := fun x y H Q => y = .non ∧ Q (.bl (!decide (x = .non))) H
theorem op_isNo {X : Cx} : OpR X (compareOp .Is) rIsNo := op_isN
theorem op_notNo {X : Cx} : OpR X (compareOp .IsNot) rNotNo := op_notN
theorem mw_isNo : rIsNo x .non H Q = Q (.bl (decide (x = .non))) H := propext ⟨fun z => z.2, fun z => ⟨rfl, z⟩⟩
theorem mw_notNo : rNotNo x .non H Q = Q (.bl (!decide (x = .non))) H := propext ⟨fun z => z.2, fun z => ⟨rfl, z⟩⟩
/-! what is made -/
theorem new_l {xs : List V} (h : xs.length ≤ sizeLine) (q : ∀ p, H p = none → Q (.ref p) (upd H p (.lst xs))) : KLst Q xs H := ⟨h, q⟩
theorem new_t {xs : List V} (h : xs.length ≤ sizeLine) (q : ∀ p, H p = none → Q (.ref p) (upd H p (.tup xs))) : KTup Q xs H := ⟨h, q⟩
theorem fld_l {f : Str} {a C dx : Addr} {fs : List (Str × V)} (h : H a = some (.ins C dx fs)) (hc : Cls K C) (hn : NoAttr K C f) (e : fs.lookup f = some v) (q : Q v H) : KFld K f Q (.ref a) H := ⟨a, C, dx, fs, v, rfl, h, hc, hn, e, q⟩
theorem sf_l {f : Str} {a C dx : Addr} {fs : List (Str × V)} (h : H a = some (.ins C dx fs)) (hc : Cls K C) (hn : NoAttr K C f) (e : fs.length < 1000) (q : D.nx σ (upd H a (.ins C dx (putF f y fs)))) : KSf2 K y f D σ (.ref a) H := ⟨a, C, dx, fs, rfl, h, hc, hn, e, q⟩
theorem mk_l {C : Addr} {sp : Sp} {E : XK} {vs : List V} (q : ∀ x dx, H x = none → H dx = none → dx ≠ x → sp (.ref x :: vs) (upd (upd H dx (.own x)) x (.ins C dx [])) (fun v H2 => v = .non ∧ Q (.ref x) H2) E) : KMake C sp [] E Q vs H := by
  intro x dx h1 h2 h3
  rw [List.append_nil]
  exact q x dx h1 h2 h3
theorem meth_l {C : Addr} {m : Str} {sp : Sp} {E : XK} {a dx : Addr} {fs : List (Str × V)} (h : H a = some (.ins C dx fs)) (e : fs.lookup m = none) (q : ts σ H (KCall (fun vs => sp (.ref a :: vs)) [] E Q)) : KMeth C m sp [] E ts σ Q (.ref a) H := by
  refine ⟨a, dx, fs, rfl, h, e, ?_⟩
  exact q
theorem mw_tupG {n : Nat} {gs : TGs} : KAsg (gTup K n gs) D σ v H = gTup K n gs v σ H D.nx := rfl
theorem tg_l {a : Addr} {xs : List V} {n : Nat} {gs : TGs} {Q : L2.St → Hp → Prop} (h : SqT K H a xs) (e : xs.length = n) (q : gs xs σ H Q) : gTup K n gs (.ref a) σ H Q := ⟨a, xs, rfl, h, e, q⟩
theorem mw_gcons {gs : TGs} {xs : List V} : gCons g gs (v :: xs) σ H QN = g v σ H (KTg gs xs QN) := by
  refine propext ⟨fun h => ?_, fun h => ⟨v, xs, rfl, h⟩⟩
  obtain ⟨_, _, e, h⟩ := h
  cases e; exact h
theorem mw_gnil : gNil [] σ H QN = QN σ H := propext ⟨fun z => z.2, fun z => ⟨rfl, z⟩⟩
theorem mw_ktg {gs : TGs} {xs : List V} : KTg gs xs QN σ H = gs xs σ H QN := rfl
theorem mw_gname : gName i v σ H QN = QN (σ.set i (some v)) H := rfl
end
end My
/-! Loops and comprehensions, what they walk over known. -/
namespace My
open PySem PySem.Spec PyProof.Rows L2
theorem Fr.put_free {S : List Addr} {H H1 : Hp} {p : Addr} {o : HO} (a : Fr S H H1) (h : H p = none) : Fr S H (upd H1 p o) := by
  refine ⟨fun b u n e => ?_, fun b e => ?_⟩
  · rw [upd_ne (ne_of_none e h)]; exact a.1 b u n e
  · by_cases hb : b = p
    · rw [hb]; exact h
    · rw [upd_ne hb] at e; exact a.2 b e
theorem Fr.dom {S : List Addr} {H H1 : Hp} (a : Fr S H H1) {p : Addr} {o : HO} (h : H p = some o) : ∃ u, H1 p = some u := by
  cases e : H1 p with
  | none => rw [a.2 p e] at h; cases h
  | some u => exact ⟨u, rfl⟩
section
variable {K : PySem.W.Frag} {σ : L2.St} {H : Hp} {Q : VK} {D : Ends} {g : TG} {tb : TS} {te tl : TE} {tt : TT} {ta : TA} {vs : List Nat} {j : Nat}
def KForL (K : PySem.W.Frag) (g : TG) (tb : TS) (D : Ends) (σ : L2.St) : VK := fun x H => ∃ a, x = .ref a ∧ (∃ xs, SqL K H a xs) ∧ ∃ W : Nat → Nat → L2.St → Hp → Prop, (∃ m, W 0 m σ H) ∧ ∀ i m σ H, W i m σ H →
  ((Itl K a).stop i H ∧ D.nx σ H) ∨ ((Itl K a).go i H ∧ ∃ N : L2.St → Hp → Prop, (∀ σ' H', N σ' H' → ∃ m', m' < m ∧ W (i + 1) m' σ' H') ∧ ∀ x H', (Itl K a).yld i H x H' → g x σ H' fun σ2 H2 => tb { D with nx := N, ct := N, bk := D.nx } σ2 H2)
theorem mw_forL : tFor (iList K tl) g tb D σ H = tl σ H (KForL K g tb D σ) := rfl
def KForT (K : PySem.W.Frag) (g : TG) (tb : TS) (D : Ends) (σ : L2.St) : VK := fun x H => ∃ a, x = .ref a ∧ (∃ xs, SqT K H a xs) ∧ ∃ W : Nat → Nat → L2.St → Hp → Prop, (∃ m, W 0 m σ H) ∧ ∀ i m σ H, W i m σ H →
  ((Itt K a).stop i H ∧ D.nx σ H) ∨ ((Itt K a).go i H ∧ ∃ N : L2.St → Hp → Prop, (∀ σ' H', N σ' H' → ∃ m', m' < m ∧ W (i + 1) m' σ' H') ∧ ∀ x H', (Itt K a).yld i H x H' → g x σ H' fun σ2 H2 => tb { D with nx := N, ct := N, bk := D.nx } σ2 H2)
theorem mw_forT : tFor (iTup K tl) g tb D σ H = tl σ H (KForT K g tb D σ) := rfl
def KForR (g : TG) (tb : TS) (D : Ends) (σ : L2.St) (lo : Int) (n : Nat) (H : Hp) : Prop := ∃ W : Nat → Nat → L2.St → Hp → Prop, (∃ m, W 0 m σ H) ∧ ∀ i m σ H, W i m σ H →
  ((Itr lo n).stop i H ∧ D.nx σ H) ∨ ((Itr lo n).go i H ∧ ∃ N : L2.St → Hp → Prop, (∀ σ' H', N σ' H' → ∃ m', m' < m ∧ W (i + 1) m' σ' H') ∧ ∀ x H', (Itr lo n).yld i H x H' → g x σ H' fun σ2 H2 => tb { D with nx := N, ct := N, bk := D.nx } σ2 H2)
def KForR1 (g : TG) (tb : TS) (D : Ends) (σ : L2.St) : List V → Hp → Prop := fun vs H => ∃ j : Int, vs = [.int j] ∧ -(2 ^ 62) ≤ j ∧ j < 2 ^ 62 ∧ KForR g tb D σ 0 j.toNat H
theorem mw_forR1 : tFor (iRng1 ta) g tb D σ H = ta σ H (KForR1 g tb D σ) := rfl
def KForR2 (g : TG) (tb : TS) (D : Ends) (σ : L2.St) : List V → Hp → Prop := fun vs H => ∃ i j : Int, vs = [.int i, .int j] ∧ (-(2 ^ 62) ≤ i ∧ i < 2 ^ 62 ∧ -(2 ^ 62) ≤ j ∧ j < 2 ^ 62) ∧ KForR g tb D σ i (j - i).toNat H
theorem mw_forR2 : tFor (iRng2 ta) g tb D σ H = ta σ H (KForR2 g tb D σ) := rfl
/-- for .. in a list: Pv what holds ahead of turn i -/
theorem for_l {a : Addr} {xs : List V} (Pv : Nat → L2.St → Hp → Prop) (h0 : Pv 0 σ H) (hl : ∀ i σ H, i ≤ xs.length → Pv i σ H → SqL K H a xs)
    (hs : ∀ i x σ H, xs[i]? = some x → Pv i σ H → g x σ H fun σ2 H2 => tb ⟨Pv (i + 1), D.rt, D.nx, Pv (i + 1)⟩ σ2 H2) (hd : ∀ σ H, Pv xs.length σ H → D.nx σ H) : KForL K g tb D σ (.ref a) H :=
  ⟨a, rfl, ⟨xs, hl 0 σ H (Nat.zero_le _) h0⟩, for_list (xs := xs) Pv h0 hl hs hd⟩
theorem for_t {a : Addr} {xs : List V} (Pv : Nat → L2.St → Hp → Prop) (h0 : Pv 0 σ H) (hl : ∀ i σ H, i ≤ xs.length → Pv i σ H → SqT K H a xs)
    (hs : ∀ i x σ H, xs[i]? = some x → Pv i σ H → g x σ H fun σ2 H2 => tb ⟨Pv (i + 1), D.rt, D.nx, Pv (i + 1)⟩ σ2 H2) (hd : ∀ σ H, Pv xs.length σ H → D.nx σ H) : KForT K g tb D σ (.ref a) H :=
  ⟨a, rfl, ⟨xs, hl 0 σ H (Nat.zero_le _) h0⟩, for_tup (xs := xs) Pv h0 hl hs hd⟩
theorem for_r {lo : Int} {n : Nat} (Pv : Nat → L2.St → Hp → Prop) (h0 : Pv 0 σ H)
    (hs : ∀ i σ H, i < n → Pv i σ H → g (.int (lo + i)) σ H fun σ2 H2 => tb ⟨Pv (i + 1), D.rt, D.nx, Pv (i + 1)⟩ σ2 H2) (hd : ∀ σ H, Pv n σ H → D.nx σ H) : KForR g tb D σ lo n H :=
  for_range Pv h0 hs hd
theorem for_r1 {m : Int} (hm : m < 2 ^ 62) (Pv : Nat → L2.St → Hp → Prop) (h1 : -(2 ^ 62) ≤ m) (h0 : Pv 0 σ H)
    (hs : ∀ (i : Nat) σ H, (i : Int) < m → Pv i σ H → g (.int i) σ H fun σ2 H2 => tb ⟨Pv (i + 1), D.rt, D.nx, Pv (i + 1)⟩ σ2 H2) (hd : ∀ σ H, Pv m.toNat σ H → D.nx σ H) : KForR1 g tb D σ [.int m] H :=
  ⟨m, rfl, h1, hm, for_range Pv h0 (fun i σ H hi p => by rw [Int.zero_add]; exact hs i σ H (by omega) p) hd⟩
theorem for_r2 {lo m : Int} (hb : -(2 ^ 62) ≤ lo ∧ lo < 2 ^ 62 ∧ -(2 ^ 62) ≤ m ∧ m < 2 ^ 62) (Pv : Nat → L2.St → Hp → Prop) (h0 : Pv 0 σ H)
    (hs : ∀ (i : Nat) σ H, lo + i < m → Pv i σ H → g (.int (lo + i)) σ H fun σ2 H2 => tb ⟨Pv (i + 1), D.rt, D.nx, Pv (i + 1)⟩ σ2 H2) (hd : ∀ σ H, Pv (m - lo).toNat σ H → D.nx σ H) : KForR2 g tb D σ [.int lo, .int m] H :=
  ⟨lo, m, rfl, hb, for_range Pv h0 (fun i σ H hi p => hs i σ H (by omega) p) hd⟩
/-! comprehensions -/
def KLcJ (J : It) (g : TG) (tt : TT) (te : TE) (vs : List Nat) (σ : L2.St) (Q : VK) (H1 : Hp) : Prop := ∀ D, H1 D = none → ∃ W : Nat → Nat → Hp → Prop, (∃ m, W 0 m (upd H1 D (.lst []))) ∧ ∀ i m H, W i m H →
  (J.stop i H ∧ Q (.ref D) H) ∨ (J.go i H ∧ ∃ Nx : Hp → Prop, (∀ H', Nx H' → ∃ m', m' < m ∧ W (i + 1) m' H') ∧ ∀ x H', J.yld i H x H' → g x (wipe σ vs) H' fun σ2 H2 => wipe σ2 vs = wipe σ vs ∧ tt σ2 H2 fun b H3 =>
    if b = true then te σ2 H3 fun y H4 => ∃ acc, H4 D = some (.lst acc) ∧ acc.length < sizeLine ∧ Nx (upd H4 D (.lst (acc ++ [y]))) else Nx H3)
def KLcL (K : PySem.W.Frag) (g : TG) (tt : TT) (te : TE) (vs : List Nat) (σ : L2.St) (Q : VK) : VK := fun x H1 => ∃ a, x = .ref a ∧ (∃ xs, SqL K H1 a xs) ∧ KLcJ (Itl K a) g tt te vs σ Q H1
theorem mw_lcL : tLc (iList K tl) g tt te vs σ H Q = tl σ H (KLcL K g tt te vs σ Q) := rfl
def KLcT (K : PySem.W.Frag) (g : TG) (tt : TT) (te : TE) (vs : List Nat) (σ : L2.St) (Q : VK) : VK := fun x H1 => ∃ a, x = .ref a ∧ (∃ xs, SqT K H1 a xs) ∧ KLcJ (Itt K a) g tt te vs σ Q H1
theorem mw_lcT : tLc (iTup K tl) g tt te vs σ H Q = tl σ H (KLcT K g tt te vs σ Q) := rfl
def KLcR1 (g : TG) (tt : TT) (te : TE) (vs : List Nat) (σ : L2.St) (Q : VK) : List V → Hp → Prop := fun ws H1 => ∃ j : Int, ws = [.int j] ∧ -(2 ^ 62) ≤ j ∧ j < 2 ^ 62 ∧ KLcJ (Itr 0 j.toNat) g tt te vs σ Q H1
theorem mw_lcR1 : tLc (iRng1 ta) g tt te vs σ H Q = ta σ H (KLcR1 g tt te vs σ Q) := rfl
/-- what stands behind an item of a comprehension: the list grows by it -/
def KPush (Dl : Addr) (Nx : Hp → Prop) : VK := fun y H4 => ∃ acc, H4 Dl = some (.lst acc) ∧ acc.length < sizeLine ∧ Nx (upd H4 Dl (.lst (acc ++ [y])))
/-- item by item, each tested and kept or not: R says what is kept of which item -/
structure Lc (S : List Addr) (I : Hp → Prop) (R : V → Option V → Hp → Prop) (g : TG) (tt : TT) (te : TE) (vs : List Nat) (σ : L2.St) (H : Hp) (xs : List V) : Prop where
  i0 : I H
  iF : ∀ H' p o, H p = none → I H' → I (upd H' p o)
  rF : ∀ x y H' H'', Fr S H' H'' → R x y H' → R x y H''
  rL : ∀ x y H' Dl ys zs, H' Dl = some (.lst ys) → R x y H' → R x y (upd H' Dl (.lst zs))
  run : ∀ (x : V) (H' : Hp), x ∈ xs → Fr S H H' → I H' → ∀ Qn : Option V → Hp → Prop, (∀ y H'', R x y H'' → Fr S H' H'' → I H'' → Qn y H'') →
    g x (wipe σ vs) H' fun σ2 H2 => wipe σ2 vs = wipe σ vs ∧ tt σ2 H2 fun b H3 => if b = true then te σ2 H3 fun y H4 => Qn (some y) H4 else Qn none H3
/-- what is kept -/
inductive Kept (R : V → Option V → Hp → Prop) (H : Hp) : List V → List V → Prop where
  | nil : Kept R H [] []
  | yes {x y : V} {xs ys : List V} : R x (some y) H → Kept R H xs ys → Kept R H (x :: xs) (y :: ys)
  | no {x : V} {xs ys : List V} : R x none H → Kept R H xs ys → Kept R H (x :: xs) ys
theorem Kept.mono {R : V → Option V → Hp → Prop} {H H' : Hp} (f : ∀ x y, R x y H → R x y H') : ∀ {xs ys : List V}, Kept R H xs ys → Kept R H' xs ys
  | _, _, .nil => .nil
  | _, _, .yes r k => .yes (f _ _ r) (Kept.mono f k)
  | _, _, .no r k => .no (f _ _ r) (Kept.mono f k)
theorem Kept.snoc {R : V → Option V → Hp → Prop} {H : Hp} {x y : V} (r : R x (some y) H) : ∀ {xs ys : List V}, Kept R H xs ys → Kept R H (xs ++ [x]) (ys ++ [y])
  | _, _, .nil => .yes r .nil
  | _, _, .yes r' k => .yes r' (Kept.snoc r k)
  | _, _, .no r' k => .no r' (Kept.snoc r k)
theorem Kept.snoc0 {R : V → Option V → Hp → Prop} {H : Hp} {x : V} (r : R x none H) : ∀ {xs ys : List V}, Kept R H xs ys → Kept R H (xs ++ [x]) ys
  | _, _, .nil => .no r .nil
  | _, _, .yes r' k => .yes r' (Kept.snoc0 r k)
  | _, _, .no r' k => .no r' (Kept.snoc0 r k)
theorem Kept.len {R : V → Option V → Hp → Prop} {H : Hp} : ∀ {xs ys : List V}, Kept R H xs ys → ys.length ≤ xs.length
  | _, _, .nil => Nat.le_refl _
  | _, _, .yes _ k => by have := Kept.len k; simp only [List.length_cons]; omega
  | _, _, .no _ k => by have := Kept.len k; simp only [List.length_cons]; omega
/-- all are kept: ys is f of xs -/
theorem Kept.map {R : V → Option V → Hp → Prop} {H : Hp} {α : Type} {e f : α → V} (h : ∀ a o, R (e a) o H → o = some (f a)) : ∀ {l : List α} {ys : List V}, Kept R H (l.map e) ys → ys = l.map f
  | [], _, k => by cases k; rfl
  | a :: l, _, k => by
    rw [List.map_cons] at k
    cases k with
    | yes r k2 => rw [List.map_cons, Kept.map h k2, Option.some.inj (h a _ r)]
    | no r k2 => cases h a _ r
/-- filtered -/
theorem Kept.filterMap {R : V → Option V → Hp → Prop} {H : Hp} {α : Type} {e : α → V} {f : α → Option V} (h : ∀ a o, R (e a) o H → o = f a) : ∀ {l : List α} {ys : List V}, Kept R H (l.map e) ys → ys = l.filterMap f
  | [], _, k => by cases k; rfl
  | a :: l, _, k => by
    rw [List.map_cons] at k
    cases k with
    | yes r k2 => rw [List.filterMap_cons, ← h a _ r, Kept.filterMap h k2]
    | no r k2 => rw [List.filterMap_cons, ← h a _ r]; exact Kept.filterMap h k2
def LcP (S : List Addr) (I : Hp → Prop) (R : V → Option V → Hp → Prop) (H : Hp) (xs : List V) (Dl : Addr) (i : Nat) (H' : Hp) : Prop := H Dl = none ∧ Fr S H H' ∧ I H' ∧ ∃ ys, H' Dl = some (.lst ys) ∧ Kept R H' (xs.take i) ys
/-- the turn -/
theorem lc_turn {S : List Addr} {I : Hp → Prop} {R : V → Option V → Hp → Prop} {xs : List V} (L : Lc S I R g tt te vs σ H xs) (hlen : xs.length ≤ 100000) (hS : ∀ b ∈ S, ∃ o, H b = some o) {Dl : Addr} {i : Nat} {x : V} {H' : Hp} (hx : xs[i]? = some x) (p : LcP S I R H xs Dl i H') :
    g x (wipe σ vs) H' fun σ2 H2 => wipe σ2 vs = wipe σ vs ∧ tt σ2 H2 fun b H3 => if b = true then te σ2 H3 fun y H4 => ∃ acc, H4 Dl = some (.lst acc) ∧ acc.length < sizeLine ∧ LcP S I R H xs Dl (i + 1) (upd H4 Dl (.lst (acc ++ [y]))) else LcP S I R H xs Dl (i + 1) H3 := by
  obtain ⟨p1, p2, p3, ys, p4, p5⟩ := p
  have dS : Dl ∉ S := fun z => by
    obtain ⟨o, e⟩ := hS _ z
    rw [e] at p1; cases p1
  have hi : i < xs.length := (List.getElem?_eq_some_iff.mp hx).1
  have et : xs.take (i + 1) = xs.take i ++ [x] := by
    rw [List.take_add_one, hx]; rfl
  have hys : ys.length ≤ 100000 := by
    have := p5.len
    rw [List.length_take] at this
    omega
  have hxm : x ∈ xs := List.mem_of_getElem? hx
  have key := L.run x H' hxm p2 p3 (fun o H4 => match o with
    | some y => ∃ acc, H4 Dl = some (.lst acc) ∧ acc.length < sizeLine ∧ LcP S I R H xs Dl (i + 1) (upd H4 Dl (.lst (acc ++ [y])))
    | none => LcP S I R H xs Dl (i + 1) H4) (fun o H'' r f j => ?_)
  · exact key
  · have e4 : H'' Dl = some (.lst ys) := f.1 _ _ dS p4
    cases o with
    | some y =>
      refine ⟨ys, e4, Nat.lt_of_le_of_lt hys (by decide), p1, (p2.trans f).put_free p1, L.iF _ _ _ p1 j, ys ++ [y], upd_same, ?_⟩
      rw [et]
      have hm : ∀ x o, R x o H'' → R x o (upd H'' Dl (.lst (ys ++ [y]))) := fun x o r => L.rL x o H'' Dl ys _ e4 r
      exact (Kept.snoc r (p5.mono fun x o => L.rF x o _ _ f)).mono hm
    | none =>
      refine ⟨p1, p2.trans f, j, ys, e4, ?_⟩
      rw [et]
      exact Kept.snoc0 r (p5.mono fun x o => L.rF x o _ _ f)
/-- over a list that stands still -/
theorem lc_l {S : List Addr} (I : Hp → Prop) (R : V → Option V → Hp → Prop) {a : Addr} {xs : List V} (h : SqL K H a xs) (ha : a ∉ S) (hlen : xs.length ≤ 100000) (hS : ∀ b ∈ S, ∃ o, H b = some o) (L : Lc S I R g tt te vs σ H xs)
    (q : ∀ Dl ys H', H Dl = none → H' Dl = some (.lst ys) → Kept R H' xs ys → Fr S H H' → I H' → Q (.ref Dl) H') : KLcL K g tt te vs σ Q (.ref a) H := by
  refine ⟨a, rfl, ⟨xs, h⟩, fun Dl hD => lc_list (xs := xs) (LcP S I R H xs Dl) ⟨hD, (Fr.refl _ _).put_free hD, L.iF _ _ _ hD L.i0, [], upd_same, .nil⟩ (fun i H' _ p => p.2.1.l ha h) (fun i x H' hx p => lc_turn L hlen hS hx p) fun H' p => ?_⟩
  obtain ⟨p1, p2, p3, ys, p4, p5⟩ := p
  rw [List.take_length] at p5
  exact q Dl ys H' p1 p4 p5 p2 p3
theorem lc_t {S : List Addr} (I : Hp → Prop) (R : V → Option V → Hp → Prop) {a : Addr} {xs : List V} (h : SqT K H a xs) (ha : a ∉ S) (hlen : xs.length ≤ 100000) (hS : ∀ b ∈ S, ∃ o, H b = some o) (L : Lc S I R g tt te vs σ H xs)
    (q : ∀ Dl ys H', H Dl = none → H' Dl = some (.lst ys) → Kept R H' xs ys → Fr S H H' → I H' → Q (.ref Dl) H') : KLcT K g tt te vs σ Q (.ref a) H := by
  refine ⟨a, rfl, ⟨xs, h⟩, fun Dl hD => lc_tup (xs := xs) (LcP S I R H xs Dl) ⟨hD, (Fr.refl _ _).put_free hD, L.iF _ _ _ hD L.i0, [], upd_same, .nil⟩ (fun i H' _ p => p.2.1.t ha h) (fun i x H' hx p => lc_turn L hlen hS hx p) fun H' p => ?_⟩
  obtain ⟨p1, p2, p3, ys, p4, p5⟩ := p
  rw [List.take_length] at p5
  exact q Dl ys H' p1 p4 p5 p2 p3
def rngV (lo : Int) (n : Nat) : List V := (List.range n).map fun (i : Nat) => V.int (lo + (i : Int))
theorem rngV_get {lo : Int} {n i : Nat} (h : i < n) : (rngV lo n)[i]? = some (.int (lo + i)) := by
  unfold rngV
  rw [List.getElem?_map, List.getElem?_range h]; rfl
theorem rngV_len {lo : Int} {n : Nat} : (rngV lo n).length = n := by
  unfold rngV
  rw [List.length_map, List.length_range]
theorem lc_r {S : List Addr} (I : Hp → Prop) (R : V → Option V → Hp → Prop) {lo : Int} {n : Nat} (hlen : n ≤ 100000) (hS : ∀ b ∈ S, ∃ o, H b = some o) (L : Lc S I R g tt te vs σ H (rngV lo n))
    (q : ∀ Dl ys H', H Dl = none → H' Dl = some (.lst ys) → Kept R H' (rngV lo n) ys → Fr S H H' → I H' → Q (.ref Dl) H') : KLcJ (Itr lo n) g tt te vs σ Q H := by
  refine fun Dl hD => lc_range (lo := lo) (n := n) (LcP S I R H (rngV lo n) Dl) ⟨hD, (Fr.refl _ _).put_free hD, L.iF _ _ _ hD L.i0, [], upd_same, .nil⟩ (fun i H' hi p => lc_turn L (by rw [rngV_len]; exact hlen) hS (rngV_get hi) p) fun H' p => ?_
  obtain ⟨p1, p2, p3, ys, p4, p5⟩ := p
  have e : (rngV lo n).take n = rngV lo n := by
    conv => lhs; rw [← rngV_len (lo := lo) (n := n)]
    rw [rngV_len, List.take_of_length_le (by rw [rngV_len]; exact Nat.le_refl _)]
  rw [e] at p5
  exact q Dl ys H' p1 p4 p5 p2 p3
theorem lc_r1 {S : List Addr} (I : Hp → Prop) (R : V → Option V → Hp → Prop) {m : Int} (hm : 0 ≤ m ∧ m ≤ 100000) (hS : ∀ b ∈ S, ∃ o, H b = some o) (L : Lc S I R g tt te vs σ H (rngV 0 m.toNat))
    (q : ∀ Dl ys H', H Dl = none → H' Dl = some (.lst ys) → Kept R H' (rngV 0 m.toNat) ys → Fr S H H' → I H' → Q (.ref Dl) H') : KLcR1 g tt te vs σ Q [.int m] H :=
  ⟨m, rfl, by omega, by omega, lc_r I R (by omega) hS L q⟩
/-! an element that makes nothing: its value is f of the item -/
theorem lc_pure {f : V → V} {xs : List V} (hw : ∀ x ∈ xs, wipe ((wipe σ vs).set j (some x)) vs = wipe σ vs) (hr : ∀ x ∈ xs, ∀ (H' : Hp) (Q' : VK), Q' (f x) H' → te ((wipe σ vs).set j (some x)) H' Q') :
    Lc [] (fun _ => True) (fun x y _ => y = some (f x)) (gName j) tYes te vs σ H xs where
  i0 := True.intro
  iF := fun _ _ _ _ _ => True.intro
  rF := fun _ _ _ _ _ r => r
  rL := fun _ _ _ _ _ _ _ r => r
  run := fun x H' hx _ _ Qn k => by
    refine ⟨hw x hx, ?_⟩
    show te ((wipe σ vs).set j (some x)) H' fun y H4 => Qn (some y) H4
    exact hr x hx H' _ (k _ _ rfl (Fr.refl _ _) True.intro)
theorem kept_pure {f : V → V} {H' : Hp} : ∀ {xs ys : List V}, Kept (fun x y _ => y = some (f x)) H' xs ys → ys = xs.map f
  | _, _, .nil => rfl
  | _, _, .yes r k => by rw [List.map_cons, ← kept_pure k, Option.some.inj r]
  | _, _, .no r _ => by cases r
theorem sl_l {a : Addr} {xs : List V} {lo hi : Option Int} (h : SqL K H a xs) (q : ∀ p, H p = none → Q (.ref p) (upd H p (.lst (cutV xs lo hi)))) : rSlL K (.ref a) lo hi H Q := ⟨a, xs, rfl, h, q⟩
theorem cut_first {xs : List V} {n : Nat} (h : xs.length ≤ n) : cutV xs none (some (n : Int)) = xs := by
  unfold cutV
  have e1 : HT.sIx xs.length 0 none = 0 := rfl
  have e2 : HT.sIx xs.length xs.length (some (n : Int)) = xs.length := by
    rw [HT.sIx_nat, Nat.min_eq_right h]
  rw [e1, e2, List.drop_zero, Nat.sub_zero, List.take_length]
theorem lc_ints {a : Addr} {ns : List Int} (f : Int → Int) (h : SqL K H a (ns.map V.int)) (hlen : ns.length ≤ 100000) (hw : ∀ n : Int, wipe ((wipe σ vs).set j (some (.int n))) vs = wipe σ vs)
    (hr : ∀ n ∈ ns, ∀ (H' : Hp) (Q' : VK), Q' (.int (f n)) H' → te ((wipe σ vs).set j (some (.int n))) H' Q') (q : ∀ Dl H', H Dl = none → H' Dl = some (.lst ((ns.map f).map V.int)) → Fr [] H H' → Q (.ref Dl) H') : KLcL K (gName j) tYes te vs σ Q (.ref a) H := by
  have key : ∀ x ∈ ns.map V.int, ∃ n ∈ ns, x = V.int n := fun x hx => by
    obtain ⟨n, hn, e⟩ := List.mem_map.mp hx
    exact ⟨n, hn, e.symm⟩
  refine lc_l (S := []) (fun _ => True) (fun x y _ => y = some (match x with | .int n => .int (f n) | v => v)) h (by simp) (by rw [List.length_map]; exact hlen) (by simp) (lc_pure (fun x hx => ?_) fun x hx H' Q' k => ?_) fun Dl ys H' hD e k fr _ => ?_
  · obtain ⟨n, _, rfl⟩ := key x hx; exact hw n
  · obtain ⟨n, hn, rfl⟩ := key x hx; exact hr n hn H' Q' k
  · have ey := kept_pure (f := fun x => match x with | .int n => .int (f n) | v => v) k
    rw [List.map_map] at ey
    refine q Dl H' hD ?_ fr
    rw [e, ey, List.map_map] <;> rfl
end
end My
/-! Own classes: made, asked by operators. -/
namespace My
open PySem PySem.Spec PyProof.Rows L2
/-! ### further facts of the head, each a Bool of the written part -/
abbrev Xf := PySem.W.Frag → Bool
structure EnvX (fa : List He.Fa) (fn : List He.DefD) (xs : List Xf) (K : PySem.W.Frag) (mg : Str → Option Value) : Prop where
  e : Env fa fn K mg
  x : (xs.all fun f => f K) = true
theorem EnvX.xf {fa : List He.Fa} {fn : List He.DefD} {xs : List Xf} {K : PySem.W.Frag} {mg : Str → Option Value} (V : EnvX fa fn xs K mg) (i : Nat) {f : Xf} (h : xs[i]? = some f := by rfl) : f K = true :=
  List.all_eq_true.mp V.x f (List.mem_of_getElem? h)
section
variable {fa : List He.Fa} {fn : List He.DefD} {xs : List Xf} {K : PySem.W.Frag} {mg : Str → Option Value}
theorem EnvX.glo (V : EnvX fa fn xs K mg) (i : Nat) {x : Str} (h : fa[i]? = some (.glo x) := by rfl) : mg x = some (.ref (He.ga K x)) := V.e.glo i h
theorem EnvX.fre (V : EnvX fa fn xs K mg) (i : Nat) {x : Str} (h : fa[i]? = some (.free x) := by rfl) : mg x = none := V.e.fre i h
end
section
variable {K : PySem.W.Frag}
/-- instances of the class are asked by isinstance -/
def xIsi (C : Str) : Xf := fun K => He.eqO (PySem.W.findIn K (.ref (He.ga K C)) "__class__") (some (some (.builtin "object.__class__"))) && (He.eqO (PySem.W.specialIn K (.builtin "object.__class__") "__get__") (some (some (.builtin "getset_descriptor.__get__"))) &&
  (decide (PySem.W.takesIn K (.builtin "object.__class__") = some true) && decide (PySem.W.mroIn K (He.ga K C) (.type "object") = some true)))
theorem isi_of {C : Str} (h : xIsi C K = true) : SlX.SIsi K (He.ga K C) := by
  obtain ⟨a, h⟩ := He.ba h
  obtain ⟨b, h⟩ := He.ba h
  obtain ⟨c, d⟩ := He.ba h
  exact ⟨He.eqO_ok a, He.eqO_ok b, of_decide_eq_true c, of_decide_eq_true d⟩
theorem ty_ins {H : Hp} {a dx : Addr} {C : Str} {fs : List (Str × V)} (e : H a = some (.ins (He.ga K C) dx fs)) (cl : Cls K (He.ga K C)) (s : SlX.SIsi K (He.ga K C)) : TyX K H (.ref a) (.ref (He.ga K C)) := .base (.ins e cl s.ca s.cn s.ct s.cm)
/-- the class's instances stand ahead of values of that type in a comparison -/
def xNf (C : Str) (T : String) : Xf := fun K => PySem.W.notFirst K (He.ga K C) (.type T)
def xNfC (C D : Str) : Xf := fun K => PySem.W.notFirst K (He.ga K C) (.ref (He.ga K D))
def xKit (T : String) (C : Str) (b : Bool) : Xf := fun K => decide (PySem.W.kitOne K (.type T) (.ref (He.ga K C)) = some b)
def xKitC (D C : Str) (b : Bool) : Xf := fun K => decide (PySem.W.kitOne K (.ref (He.ga K D)) (.ref (He.ga K C)) = some b)
def xNe (C : Str) : Xf := fun K => He.eqO (PySem.W.findIn K (.ref (He.ga K C)) "__ne__") (some (some (.builtin "object.__ne__")))
def xSelf (C : Str) : Xf := fun K => PySem.W.selfFirst K (He.ga K C)
/-- an own error with its own __init__ -/
def xOex (C : Str) : Xf := fun K => (match K.lookup (He.ga K C) with
  | some ⟨.type "type", _, .cls cd, sl⟩ => (match cd.mro, sl.toList with
    | .ref C' :: bm, [_, _, _, _, some (.builtin n), _] => decide (C' = He.ga K C) && (decide (n = "ValueError.__new__") && (!cd.hasDel && (cd.hasDict && PySem.HandSPX.refsVE bm)))
    | _, _ => false)
  | _ => false) && (He.eqO (PySem.W.findIn K (.ref (He.ga K C)) "__setattr__") (some (some (.builtin "object.__setattr__"))) && (decide (PySem.W.subIn K (.ref (He.ga K C)) (.type "BaseException") = some true) &&
    (decide (PySem.W.typeIn K (.ref (He.ga K C)) = some (.type "type")) && PySem.W.keepIn K (.ref (He.ga K C)))))
theorem oex_of {C : Str} (h : xOex C K = true) : OexC K (He.ga K C) := by
  obtain ⟨h1, h⟩ := He.ba h
  obtain ⟨h2, h⟩ := He.ba h
  obtain ⟨h3, h⟩ := He.ba h
  obtain ⟨h4, h5⟩ := He.ba h
  refine ⟨?_, He.eqO_ok h2, of_decide_eq_true h3, of_decide_eq_true h4, h5⟩
  split at h1
  · rename_i dd cd sl ho
    split at h1
    · rename_i C' bm k0 k1 k2 k3 n k5 hm hs
      obtain ⟨g1, h1⟩ := He.ba h1
      obtain ⟨g2, h1⟩ := He.ba h1
      obtain ⟨g3, h1⟩ := He.ba h1
      obtain ⟨g4, g5⟩ := He.ba h1
      have g3' : cd.hasDel = false := by simpa using g3
      have e1 := of_decide_eq_true g1
      have e2 := of_decide_eq_true g2
      subst e1 e2
      obtain ⟨nm, bs, mro, ns, qn, hd, sn, sub, ab, col, del⟩ := cd
      dsimp only at hm g3' g4
      subst hm g3' g4
      obtain ⟨l⟩ := sl
      simp only at hs
      subst hs
      exact ⟨_, _, _, _, _, _, _, _, _, _, _, _, _, _, _, ho, g5⟩
    · cases h1
  · cases h1
end
/-! ### a method of a class -/
structure MethOf (P : Program) (w : World) (K : PySem.W.Frag) (mg : Str → Option Value) (base : Heap) (CX : CXT) (k : Nat) (C m : Str) (ps : List Str) (sp : Sp) : Prop where
  ex : ∃ (f : Addr) (fd : FuncData), FnOk P w K mg base CX k f fd ps sp ∧ Meth K (He.ga K C) m f ∧ Binds K fd ps []
  cl : Cls K (He.ga K C)
/-- a class whose instances are made by its own __init__ -/
structure MakeOf (P : Program) (w : World) (K : PySem.W.Frag) (mg : Str → Option Value) (base : Heap) (CX : CXT) (k : Nat) (d : He.DefD) (C : Str) (ps : List Str) (sp : Sp) : Prop where
  ex : ∃ (f : Addr) (fd : FuncData), FnOk P w K mg base CX k f fd ps sp ∧ Mk K (He.ga K C) f ∧ Binds K fd ps [] ∧ FunD K d.name d.qual d.params d.body d.scope [] [] f fd
  gl : mg C = some (.ref (He.ga K C))
section
variable {X : Cx} {CX : CXT} {k : Nat} {f : Addr} {fd : FuncData} {ps ks : List Str} {sp : Sp} {E : XK} {pins : List (Addr × Obj)} {σ : L2.St} {H : Hp} {s : Shared} {Q : VK} {us : List Value} {vs : List V} {A : Around} {C m x : Str} {d : He.DefD}
/-- the callee runs, around it A -/
theorem run_in (F : FnOk X.prog X.w X.K X.mg X.base CX k f fd ps sp) (hr : Room k A) (e0 : Env0 X.prog X.w X.K X.mg X.base A X.stack s H) (hb : Binds X.K fd ps []) (hx : Passes CX X E) (I : Inv X pins σ H s) (r : Vals vs us) (h : sp vs H Q E) :
    wpAny (model X.prog X.w) A (call (.ref f) us) (EP X pins σ Q) X.xe s := by
  have hl : (us ++ []).length = ps.length := by rw [List.append_nil, ← r.length]; exact F.len _ _ _ _ h
  have hbind := hb s us I.kIn hl
  rw [List.append_nil] at hbind
  refine wpAny_call (codeAny_mono (F.run A X.stack s H ⟨us, []⟩ us vs Q E hr e0 hbind r h) fun z s' hq => ?_)
  cases z with
  | error e => exact hx pins σ H s e s' I hq
  | ok fl =>
    cases fl with
    | ret u => exact I.after hq
    | next => exact False.elim hq
    | brk => exact False.elim hq
    | cont => exact False.elim hq
variable {o e : Expr} {es : List Expr} {ta : TE} {t tk : TA} {p pos apos : Pos} {kws : List Keyword}
theorem pe_me {pl : Sem Bool} (M : MethOf X.prog X.w X.K X.mg X.base CX0 k C m ps sp) (he : PE X o ta) (hr : Room k X.A) (ha : PA X (e :: es) t) (hst : starEach (e :: es) X.env = (false, eval e X.env) :: starEach es X.env := by rfl) (hpl : (backTo pos (starEach es X.env)).any (·.1) = false := by rfl)
    (ht : eval (.Call (.Attribute o m apos) (e :: es) [] pos) X.env = (do
      let ov ← eval o X.env
      standAt apos.atName
      let (f, first) ← holding [ov] (getMethod ov m pl)
      callWith pos f first (backTo pos (starEach (e :: es) X.env)) (backToKw pos (keywordEach [] X.env))) := by rfl) : PE X (.Call (.Attribute o m apos) (e :: es) [] pos) (tMeth (He.ga X.K C) m sp [] E0 ta t) := by
  obtain ⟨f, fd, F, hm, hb⟩ := M.ex
  exact pe_meth he M.cl hm F hr hb .nil pass0 ha hst hpl ht
theorem pe_me0 {pl : Sem Bool} (M : MethOf X.prog X.w X.K X.mg X.base CX0 k C m ps sp) (he : PE X o ta) (hr : Room k X.A)
    (ht : eval (.Call (.Attribute o m apos) [] [] pos) X.env = (do
      let ov ← eval o X.env
      standAt apos.atName
      let (f, first) ← holding [ov] (getMethod ov m pl)
      callWith pos f first (backTo pos (starEach [] X.env)) (backToKw pos (keywordEach [] X.env))) := by rfl) : PE X (.Call (.Attribute o m apos) [] [] pos) (tMeth (He.ga X.K C) m sp [] E0 ta tNil) := by
  obtain ⟨f, fd, F, hm, hb⟩ := M.ex
  exact pe_meth0 he M.cl hm F hr hb .nil pass0 ht
theorem pe_mk (M : MakeOf X.prog X.w X.K X.mg X.base CX0 k d C ps sp) (hr : Room (k + 1) X.A) (hg : Gl X C) (ha : PA X (e :: es) t) (hdb : (C == ("__debug__" : Str)) = false := by decide)
    (he : starEach (e :: es) X.env = (false, eval e X.env) :: starEach es X.env := by rfl) (hpl : (backTo pos (starEach es X.env)).any (·.1) = false := by rfl) : PE X (.Call (.Name C p) (e :: es) [] pos) (tMake (He.ga X.K C) sp [] E0 t) := by
  obtain ⟨f, fd, F, hm, hb, _⟩ := M.ex
  exact pe_make hm F hr hg M.gl hb .nil pass0 ha hdb he hpl
/-! operators -/
def rInC (C : Addr) (sp : Sp) : R2 := fun x y H Q => ∃ a dx fs, y = .ref a ∧ H a = some (.ins C dx fs) ∧ sp [y, x] H (fun z H' => ∃ b, z = .bl b ∧ Q (.bl b) H') E0
def rAddC (C : Addr) (sp : Sp) : R2 := fun x y H Q => ∃ a dx fs b dy gs, x = .ref a ∧ y = .ref b ∧ H a = some (.ins C dx fs) ∧ H b = some (.ins C dy gs) ∧ sp [x, y] H Q E0
def rNegC (C : Addr) (sp : Sp) : V → Hp → VK → Prop := fun x H Q => ∃ a dx fs, x = .ref a ∧ H a = some (.ins C dx fs) ∧ sp [x] H Q E0
/-- x op y, x an instance of C whose def for it is a method that keeps sp; y of any kind -/
def rOwnC (K : PySem.W.Frag) (C : Addr) (sp : Sp) (E : XK) : R2 := fun x y H Q => ∃ a dx fs t, x = .ref a ∧ H a = some (.ins C dx fs) ∧ TyX K H y t ∧ PySem.W.notFirst K C t = true ∧ sp [x, y] H Q E
theorem op_eqC (M : MethOf X.prog X.w X.K X.mg X.base CX0 k C "__eq__" ps sp) (hr : Room k X.A) : OpR X (compareOp .Eq) (rOwnC X.K (He.ga X.K C) sp E0) := by
  obtain ⟨f, fd, F, hm, hb⟩ := M.ex
  intro pins s σ H x y v u Q I rx ry h
  obtain ⟨a, dx, fs, t, rfl, ha, ty, hn, q⟩ := h
  cases (show v = Value.ref a from rx)
  obtain ⟨mA, J, _⟩ := ins_get I.hok ha
  obtain ⟨od, J, _⟩ := J.look
  obtain ⟨mF, hF⟩ := I.fr
  obtain ⟨Pt, Z, hp, _⟩ := kit_of I ry ty
  show wpAny _ _ (richCompare .Eq _ _) _ _ _
  refine PySem.W.cmp_K (op := .Eq) (tb := t) hr.units0 hF I.ok.mod.kin J (Z.ty _ _ I.kIn hp) hn hm.at_ hm.fn ?_
  refine wpAny_mono (run_in (us := [.ref a, u]) (vs := [.ref a, y]) F hr I.env0 hb pass0 I (.cons rfl (.cons ry .nil)) q) (fun w s' z => ?_) fun _ _ x => x
  obtain ⟨z', H', I', rz, qz⟩ := z
  exact SlX.cmpback rz ⟨z', H', I', rz, qz⟩
/-- the same where y stands ahead: y has no answer to it -/
theorem op_inC (M : MethOf X.prog X.w X.K X.mg X.base CX0 k C "__contains__" ps sp) (hr : Room k X.A) : OpR X (compareOp .In) (rInC (He.ga X.K C) sp) := by
  obtain ⟨f, fd, F, hm, hb⟩ := M.ex
  intro pins s σ H x y v u Q I rx ry h
  obtain ⟨a, dx, fs, rfl, ha, q⟩ := h
  cases (show u = Value.ref a from ry)
  obtain ⟨mA, J, _⟩ := ins_get I.hok ha
  obtain ⟨od, J, _⟩ := J.look
  obtain ⟨mF, hF⟩ := I.fr
  refine PySem.W.in_K hF I.ok.mod.kin J hm.at_ hm.fn ?_
  refine wpAny_mono (run_in (us := [.ref a, v]) (vs := [.ref a, x]) F hr I.env0 hb pass0 I (.cons rfl (.cons rx .nil)) q) (fun w s' z => ?_) fun _ _ x => x
  obtain ⟨z', H', I', rz, b, rfl, qz⟩ := z
  cases (show w = Value.bool b from rz)
  exact wpAny_truthy_bool ⟨.bl b, H', I', rfl, qz⟩
theorem op_addC (M : MethOf X.prog X.w X.K X.mg X.base CX0 k C "__add__" ps sp) (hc : PySem.W.selfFirst X.K (He.ga X.K C) = true) (hr : Room k X.A) : OpR X (binaryOp .Add) (rAddC (He.ga X.K C) sp) := by
  obtain ⟨f, fd, F, hm, hb⟩ := M.ex
  intro pins s σ H x y v u Q I rx ry h
  obtain ⟨a, dx, fs, b, dy, gs, rfl, rfl, ha, hb', q⟩ := h
  cases (show v = Value.ref a from rx)
  cases (show u = Value.ref b from ry)
  obtain ⟨mA, J, _⟩ := ins_get I.hok ha
  obtain ⟨od, J, _⟩ := J.look
  obtain ⟨mB, J', _⟩ := ins_get I.hok hb'
  obtain ⟨od', J', _⟩ := J'.look
  obtain ⟨mF, hF⟩ := I.fr
  refine PySem.W.binop_K (op := .Add) hF I.ok.mod.kin J J'.type hc hm.at_ hm.fn ?_
  refine wpAny_mono (run_in (us := [.ref a, .ref b]) (vs := [.ref a, .ref b]) F hr I.env0 hb pass0 I (.cons rfl (.cons rfl .nil)) q) (fun w s' z => ?_) fun _ _ x => x
  obtain ⟨z', H', I', rz, qz⟩ := z
  exact SlX.cmpback rz ⟨z', H', I', rz, qz⟩
theorem un_negC (M : MethOf X.prog X.w X.K X.mg X.base CX0 k C "__neg__" ps sp) (hr : Room k X.A) : UnR X (unaryOp .USub) (rNegC (He.ga X.K C) sp) := by
  obtain ⟨f, fd, F, hm, hb⟩ := M.ex
  intro pins s σ H x v Q I rx h
  obtain ⟨a, dx, fs, rfl, ha, q⟩ := h
  cases (show v = Value.ref a from rx)
  obtain ⟨mA, J, _⟩ := ins_get I.hok ha
  obtain ⟨od, J, _⟩ := J.look
  obtain ⟨mF, hF⟩ := I.fr
  exact PySem.W.ksp_neg hF I.ok.mod.kin J hm.at_ hm.fn (run_in (us := [.ref a]) (vs := [.ref a]) F hr I.env0 hb pass0 I (.cons rfl .nil) q)
/-! their readings, the operands known -/
theorem own_eq {K : PySem.W.Frag} {C : Addr} {sp : Sp} {E : XK} {H : Hp} {Q : VK} {a dx : Addr} {fs : List (Str × V)} {y : V} {t : Value} (h : H a = some (.ins C dx fs)) (ty : TyX K H y t) (hn : PySem.W.notFirst K C t = true) (q : sp [.ref a, y] H Q E) : rOwnC K C sp E (.ref a) y H Q := ⟨a, dx, fs, t, rfl, h, ty, hn, q⟩
theorem own_in {C : Addr} {sp : Sp} {H : Hp} {Q : VK} {a dx : Addr} {fs : List (Str × V)} {x : V} (h : H a = some (.ins C dx fs)) (q : sp [.ref a, x] H (fun z H' => ∃ b, z = .bl b ∧ Q (.bl b) H') E0) : rInC C sp x (.ref a) H Q := ⟨a, dx, fs, rfl, h, q⟩
theorem own_add {C : Addr} {sp : Sp} {H : Hp} {Q : VK} {a dx b dy : Addr} {fs gs : List (Str × V)} (h : H a = some (.ins C dx fs)) (h' : H b = some (.ins C dy gs)) (q : sp [.ref a, .ref b] H Q E0) : rAddC C sp (.ref a) (.ref b) H Q := ⟨a, dx, fs, b, dy, gs, rfl, rfl, h, h', q⟩
theorem own_neg {C : Addr} {sp : Sp} {H : Hp} {Q : VK} {a dx : Addr} {fs : List (Str × V)} (h : H a = some (.ins C dx fs)) (q : sp [.ref a] H Q E0) : rNegC C sp (.ref a) H Q := ⟨a, dx, fs, rfl, h, q⟩
end
end My
/-! != of an own instance whose class has an own ==; str of one. -/
namespace My
open PySem PySem.Spec PyProof.Rows L2 PySem.W
section
variable {prog : Program} {w : World} {A : Around} {E : Value → Shared → Prop} {s : Shared} {K : PySem.W.Frag} {x C L f : Addr} {h₀ : Heap} {m : Str → Option Value} {ox : Obj} {od : Option Obj} {b tb : Value}
theorem ne_body {Q : Fin → Shared → Prop} (hu : A.units < cLine) (X : K.In s.heap) (I : InstAt s.heap x ox C od) (hs : findIn K (.ref C) "__eq__" = some (some (.ref f))) (hf : isFn K (.ref f) = true)
    (h : wpAny (model prog w) A (call (.ref f) [.ref x, b]) (fun v s' => ∃ k, v = .bool k ∧ Q (.done (.ret (.bool (!k)))) s') E s) : wpAny (model prog w) A (Builtin.«object.__ne__» ⟨[.ref x, b], []⟩) Q E s := by
  unfold Builtin.«object.__ne__»
  repeat (first | with_reducible refine wpAny_cRoomFor hu ?_ | with_reducible refine ifBound_K X I hs hf (wpAny_mono h (fun v s' z => ?_) fun _ _ e => e) | wp_step)
  obtain ⟨k, rfl, q⟩ := z
  refine wpAny_bind (wpAny_truthy_bool ?_)
  exact wpAny_pure q
theorem looks_obj {h : Heap} {M : Model} (X : K.In h) (I : InstAt h x ox C od) (hm : mroIn K C (.type "object") = some true) : Looks M h (isInstance (.ref x) (.type "object")) true := I.type.andThen (looks_mroIn X hm)
theorem ne_call {Q : Value → Shared → Prop} (hu : A.in1.units < cLine) (X : K.In s.heap) (I : InstAt s.heap x ox C od) (hm : mroIn K C (.type "object") = some true) (hs : findIn K (.ref C) "__eq__" = some (some (.ref f))) (hf : isFn K (.ref f) = true)
    (h : wpAny (model prog w) A.in1 (call (.ref f) [.ref x, b]) (fun v s' => ∃ k, v = .bool k ∧ Q (.bool (!k)) s') E s) : wpAny (model prog w) A (call (.builtin "object.__ne__") [.ref x, b]) Q E s := by
  refine wpAny_call (codeAny_call_builtin PySem.F.cmp_object.ne.plain PySem.F.cmpEntry_ne (check_slot PySem.F.cmpKind_ne PySem.F.cmpSplit_ne (looks_obj X I hm) (PySem.F.cmpArgs_ne _ _) ?_))
  exact ne_body hu X I hs hf (wpAny_mono h (fun v s' z => z) fun _ _ e => e)
/-- the class's != is object's -/
theorem ne_bound {args : List Value} {Q : Option Value → Shared → Prop} (X : K.In s.heap) (I : InstAt s.heap x ox C od) (hs : findIn K (.ref C) "__ne__" = some (some (.builtin "object.__ne__")))
    (h : wpAny (model prog w) A (call (.builtin "object.__ne__") (.ref x :: args)) (fun v => Q (some v)) E s) : wpAny (model prog w) A (callSpecialIfBound? (.ref x) "__ne__" args) Q E s := by
  simp only [callSpecialIfBound?, bindSpecialIfBound?]
  refine wpAny_holding (wpAny_bind (wpAny_bind (wpAny_bind (I.type.here ((looks_findIn X hs).here ?_)))))
  refine wpAny_bind (wpAny_askSetting (wpAny_ite ?_))
  have fin : wpAny (model prog w) A (call (.builtin "object.__ne__") ([.ref x] ++ args) >>= fun v => pure (some v)) Q E s := wpAny_bind (wpAny_mono h (fun v s' h' => wpAny_pure h') fun _ _ h' => h')
  simp only [PySem.F.cmp_object.ne.bind]
  split
  · exact wpAny_bind (wpAny_pure (wpAny_pure fin))
  · exact wpAny_tryCatch (wpAny_bind (wpAny_pure (wpAny_pure fin)))
theorem ne_K {Q : Value → Shared → Prop} (hu : A.units < cLine) (hu1 : A.in1.units < cLine) (X : K.In s.heap) (I : InstAt s.heap x ox C od) (hb : Looks (model prog w) s.heap (typeOf b) tb) (hn : notFirst K C tb = true) (hm : mroIn K C (.type "object") = some true)
    (hne : findIn K (.ref C) "__ne__" = some (some (.builtin "object.__ne__"))) (hs : findIn K (.ref C) "__eq__" = some (some (.ref f))) (hf : isFn K (.ref f) = true)
    (h : wpAny (model prog w) A.in1 (call (.ref f) [.ref x, b]) (fun v s' => ∃ k, v = .bool k ∧ Q (.bool (!k)) s') E s) : wpAny (model prog w) A (richCompare .NotEq (.ref x) b) Q E s := by
  have one : wpAny (model prog w) A (tryCompare (.ref x) (cmpInfo .NotEq).2.1 b) (fun r s' => ∃ v, r = some v ∧ Q v s') E s := by
    unfold tryCompare
    refine wpAny_bind (ne_bound X I hne (ne_call hu1 X I hm hs hf (wpAny_mono h (fun v s' hv => ?_) fun _ _ e => e)))
    obtain ⟨k, rfl, q⟩ := hv
    exact ⟨k, rfl, wpAny_pure ⟨_, rfl, q⟩⟩
  unfold richCompare
  simp only [oneThing_ref]
  refine wpAny_holding (wpAny_bind (wpAny_cRoomFor hu ?_))
  refine wpAny_bind (I.type.here (wpAny_bind (hb.here ?_)))
  split
  · rename_i q
    have e : subIn K tb (.ref C) = some false := by
      rcases Bool.or_eq_true_iff.mp hn with e | e
      · rw [beq_iff_eq.mp e] at q
        exact absurd q (by simp)
      · exact beq_iff_eq.mp e
    refine wpAny_bind ((looks_subIn X e).here ?_)
    simp only [Bool.false_eq_true, if_false]
    refine wpAny_bind (wpAny_mono one (fun r s' ⟨v, er, hq⟩ => ?_) fun _ _ e => e)
    subst er
    exact wpAny_pure hq
  · refine wpAny_bind (wpAny_pure ?_)
    simp only [Bool.false_eq_true, if_false]
    refine wpAny_bind (wpAny_mono one (fun r s' ⟨v, er, hq⟩ => ?_) fun _ _ e => e)
    subst er
    exact wpAny_pure hq
end
section
variable {X : Cx} {k : Nat} {ps : List Str} {sp : Sp} {C : Str}
def rNeC (K : PySem.W.Frag) (C : Addr) (sp : Sp) : R2 := fun x y H Q => ∃ a dx fs t, x = .ref a ∧ H a = some (.ins C dx fs) ∧ TyX K H y t ∧ notFirst K C t = true ∧ sp [x, y] H (fun z H' => ∃ b, z = .bl b ∧ Q (.bl (!b)) H') E0
theorem own_ne {K : PySem.W.Frag} {C : Addr} {sp : Sp} {H : Hp} {Q : VK} {a dx : Addr} {fs : List (Str × V)} {y : V} {t : Value} (h : H a = some (.ins C dx fs)) (ty : TyX K H y t) (hn : notFirst K C t = true) (q : sp [.ref a, y] H (fun z H' => ∃ b, z = .bl b ∧ Q (.bl (!b)) H') E0) : rNeC K C sp (.ref a) y H Q := ⟨a, dx, fs, t, rfl, h, ty, hn, q⟩
def rStrC (C : Addr) (sp : Sp) : List V → Hp → VK → Prop := fun xs H Q => ∃ a dx fs, xs = [.ref a] ∧ H a = some (.ins C dx fs) ∧ sp [.ref a] H (fun z H' => ∃ y, z = .str y ∧ Q (.str y) H') E0
theorem own_str {C : Addr} {sp : Sp} {H : Hp} {Q : VK} {a dx : Addr} {fs : List (Str × V)} (h : H a = some (.ins C dx fs)) (q : sp [.ref a] H (fun z H' => ∃ y, z = .str y ∧ Q (.str y) H') E0) : rStrC C sp [.ref a] H Q := ⟨a, dx, fs, rfl, h, q⟩
/-- x != y -/
theorem op_neC (M : MethOf X.prog X.w X.K X.mg X.base CX0 k C "__eq__" ps sp) (hm : mroIn X.K (He.ga X.K C) (.type "object") = some true) (hne : findIn X.K (.ref (He.ga X.K C)) "__ne__" = some (some (.builtin "object.__ne__"))) (hr : Room (k + 1) X.A) :
    OpR X (compareOp .NotEq) (rNeC X.K (He.ga X.K C) sp) := by
  obtain ⟨f, fd, F, hme, hb⟩ := M.ex
  intro pins s σ H x y v u Q I rx ry h
  obtain ⟨a, dx, fs, t, rfl, ha, ty, hn, q⟩ := h
  cases (show v = Value.ref a from rx)
  obtain ⟨mA, J, _⟩ := ins_get I.hok ha
  obtain ⟨od, J, _⟩ := J.look
  obtain ⟨Pt, Z, hp, _⟩ := kit_of I ry ty
  show wpAny _ _ (richCompare .NotEq _ _) _ _ _
  refine ne_K (tb := t) hr.units0 hr.in1.units0 I.kIn J (Z.ty _ _ I.kIn hp) hn hm hne hme.at_ hme.fn ?_
  refine wpAny_mono (run_in (us := [.ref a, u]) (vs := [.ref a, y]) F hr.in1 I.env0.in1 hb pass0 I (.cons rfl (.cons ry .nil)) q) (fun w s' z => ?_) fun _ _ x => x
  obtain ⟨z', H', I', rz, b, ez, qz⟩ := z
  subst ez
  cases (show w = Value.bool b from rz)
  exact ⟨b, rfl, .bl (!b), H', I', rfl, qz⟩
/-- str(x) -/
theorem call_strC (M : MethOf X.prog X.w X.K X.mg X.base CX0 k C "__str__" ps sp) (hr : Room (k + 2) X.A) : CallR X (.type "str") (rStrC (He.ga X.K C) sp) := by
  obtain ⟨f, fd, F, hme, hb⟩ := M.ex
  intro pins s σ H xs us Q I r h
  obtain ⟨a, dx, fs, rfl, ha, q⟩ := h
  obtain ⟨u, rfl, ru⟩ := r.one
  cases (show u = Value.ref a from ru)
  obtain ⟨mA, J, _⟩ := ins_get I.hok ha
  obtain ⟨od, J, _⟩ := J.look
  have r1 : Room (k + 1) X.A.in1 := Room.in1 hr
  refine kso_call r1.in1.units0 I.kIn J hme.at_ hme.fn ?_
  refine wpAny_mono (run_in (us := [.ref a]) (vs := [.ref a]) F r1.in1 I.env0.in1.in1 hb pass0 I (.cons rfl .nil) q) (fun w s' z => ?_) fun _ _ x => x
  obtain ⟨z', H', I', rz, y, ez, qz⟩ := z
  subst ez
  obtain ⟨t, e⟩ := (show ∃ t, w = Value.str y t from rz)
  cases e
  exact ⟨.str y, H', I', ⟨t, rfl⟩, qz⟩
end
end My
/-! Assignments of several names; lists of integers that grow or are drawn. -/
namespace My
open PySem PySem.Spec PyProof.Rows L2
section
variable {K : PySem.W.Frag} {σ : L2.St} {H : Hp} {Q : VK} {D : Ends} {i j l : Nat} {u v z : V} {ta : TA}
def KPar2 (i j : Nat) (D : Ends) (σ : L2.St) : List V → Hp → Prop := fun vs H1 => ∃ v w, vs = [v, w] ∧ D.nx ((σ.set i (some v)).set j (some w)) H1
def KPar3 (i j l : Nat) (D : Ends) (σ : L2.St) : List V → Hp → Prop := fun vs H1 => ∃ u v w, vs = [u, v, w] ∧ D.nx (((σ.set i (some u)).set j (some v)).set l (some w)) H1
theorem mw_par2 : tPar i j ta D σ H = ta σ H (KPar2 i j D σ) := rfl
theorem mw_par3 : tPar3 i j l ta D σ H = ta σ H (KPar3 i j l D σ) := rfl
theorem mw_par2K : KPar2 i j D σ [u, v] H = D.nx ((σ.set i (some u)).set j (some v)) H := by
  refine propext ⟨fun h => ?_, fun h => ⟨u, v, rfl, h⟩⟩
  obtain ⟨_, _, e, h⟩ := h
  cases e; exact h
theorem mw_par3K : KPar3 i j l D σ [u, v, z] H = D.nx (((σ.set i (some u)).set j (some v)).set l (some z)) H := by
  refine propext ⟨fun h => ?_, fun h => ⟨u, v, z, rfl, h⟩⟩
  obtain ⟨_, _, _, e, h⟩ := h
  cases e; exact h
end
/-! the last item -/
theorem getD_snoc {ns : List Int} {y : Int} {i : Nat} : (ns ++ [y]).getD i 0 = if i < ns.length then ns.getD i 0 else if i = ns.length then y else 0 := by
  rw [List.getD_eq_getElem?_getD, List.getD_eq_getElem?_getD]
  split
  · rename_i h
    rw [List.getElem?_append_left h]
  · rename_i h
    split
    · rename_i e
      subst e
      rw [List.getElem?_append_right (Nat.le_refl _)]
      simp
    · rw [List.getElem?_eq_none (by simp; omega)]
      rfl
theorem getD_snoc_lt {ns : List Int} {y : Int} {i : Nat} (h : i < ns.length) : (ns ++ [y]).getD i 0 = ns.getD i 0 := by
  rw [getD_snoc, if_pos h]
theorem getD_snoc_last {ns : List Int} {y : Int} : (ns ++ [y]).getD ns.length 0 = y := by
  rw [getD_snoc, if_neg (Nat.lt_irrefl _), if_pos rfl]
theorem map_snoc {ns : List Int} {y : Int} : ns.map V.int ++ [.int y] = (ns ++ [y]).map V.int := by simp
theorem at_last {ns : List Int} (h : 0 < ns.length) : atI (ns.map V.int) (-1) = some (.int (ns.getD (ns.length - 1) 0)) := by
  have hne : ns ≠ [] := by intro e; rw [e] at h; cases h
  obtain ⟨ms, y, rfl⟩ : ∃ ms y, ns = ms ++ [y] := ⟨ns.dropLast, ns.getLast hne, (List.dropLast_concat_getLast hne).symm⟩
  rw [← map_snoc, atI_last]
  have e : (ms ++ [y]).length - 1 = ms.length := by simp
  rw [e, getD_snoc_last]
theorem at_intsN {ns : List Int} {i : Int} {n : Nat} (e : i = (n : Int)) (h : n < ns.length) : atI (ns.map V.int) i = some (.int (ns.getD n 0)) := by
  subst e
  have := at_ints (ns := ns) (i := (n : Int)) (by omega) (by omega)
  rwa [Int.toNat_natCast] at this
/-- all kept, integers each with p -/
theorem kept_ints {R : V → Option V → Hp → Prop} {p : Int → Prop} {H' : Hp} (h : ∀ x o, R x o H' → ∃ v, o = some (.int v) ∧ p v) : ∀ {xs ys : List V}, Kept R H' xs ys → ∃ ns : List Int, ys = ns.map V.int ∧ ns.length = xs.length ∧ ∀ n ∈ ns, p n
  | _, _, .nil => ⟨[], rfl, rfl, by simp⟩
  | _, _, .yes r k => by
    obtain ⟨ns, e1, e2, e3⟩ := kept_ints h k
    obtain ⟨v, e, pv⟩ := h _ _ r
    cases e
    refine ⟨v :: ns, by rw [e1]; rfl, by simp [e2], fun n hn => ?_⟩
    rcases List.mem_cons.mp hn with rfl | hn
    · exact pv
    · exact e3 n hn
  | _, _, .no r k => by
    obtain ⟨v, e, _⟩ := h _ _ r
    cases e
/-- new places are not those of the draws -/
theorem Dr.free {H : Hp} {a ac ar p : Addr} (d : Dr H a ac ar) (h : H p = none) : p ∉ [a, ar] := by
  obtain ⟨⟨_, _, _, e1, e2, e3, _⟩, _⟩ := d
  simp [(ne_of_none e1 h).symm, (ne_of_none e3 h).symm]
theorem Dr.new {H : Hp} {a ac ar p : Addr} {o : HO} (d : Dr H a ac ar) (h : H p = none) : Dr (upd H p o) a ac ar := d.fr (Fr.new (S := []) h) (by simp) (by simp) (by simp)
theorem Dr.f0 {H H' : Hp} {a ac ar : Addr} (d : Dr H a ac ar) (f : Fr [] H H') : Dr H' a ac ar := d.fr f (by simp) (by simp) (by simp)
theorem Dr.put {H : Hp} {a ac ar p : Addr} {o : HO} (d : Dr H a ac ar) (h1 : p ≠ a) (h2 : p ≠ ac) (h3 : p ≠ ar) : Dr (upd H p o) a ac ar := by
  obtain ⟨⟨cs, rs, t, e1, e2, e3, q⟩, n1, n2, n3⟩ := d
  exact ⟨⟨cs, rs, t, (upd_ne h1.symm).trans e1, (upd_ne h2.symm).trans e2, (upd_ne h3.symm).trans e3, q⟩, n1, n2, n3⟩
theorem Dr.put_free {H H' : Hp} {a ac ar p : Addr} {o : HO} (d0 : Dr H a ac ar) (h : H p = none) (d : Dr H' a ac ar) : Dr (upd H' p o) a ac ar := by
  obtain ⟨⟨_, _, _, e1, e2, e3, _⟩, _⟩ := d0
  exact d.put (ne_of_none e1 h).symm (ne_of_none e2 h).symm (ne_of_none e3 h).symm
theorem Dr.dom {H : Hp} {a ac ar : Addr} (d : Dr H a ac ar) : ∀ b ∈ [a, ar], ∃ o, H b = some o := by
  obtain ⟨⟨_, _, _, e1, e2, e3, _⟩, _⟩ := d
  intro b hb
  rcases List.mem_cons.mp hb with rfl | hb
  · exact ⟨_, e1⟩
  · rw [List.mem_singleton.mp hb]; exact ⟨_, e3⟩
end My
/-! Optional integers, truths, plain data compared, fields in comprehensions. -/
namespace My
open PySem PySem.Spec PyProof.Rows L2
def oV : Option Int → V
  | none => .non
  | some i => .int i
def oD : Option Int → PyData
  | none => .none
  | some i => .int i
section
variable {K : PySem.W.Frag} {σ : L2.St} {H : Hp} {Q : VK} {D : Ends} {a b : Option Int} {i : Int} {x y : V}
theorem oV_none : oV none = .non := rfl
theorem oV_some : oV (some i) = .int i := rfl
theorem oV_inj (h : oV a = oV b) : a = b := by
  cases a <;> cases b <;> simp [oV] at h ⊢
  exact h
theorem oV_non : oV a = .non ↔ a = none := by cases a <;> simp [oV]
theorem scal_oo : scal (oV a) (oV b) = true := by cases a <;> cases b <;> rfl
theorem mw_eqOO : rEq (oV a) (oV b) H Q = Q (.bl (decide (a = b))) H := by
  rw [mw_eq scal_oo]
  congr 2
  by_cases e : a = b
  · simp [e]
  · have : ¬ oV a = oV b := fun z => e (oV_inj z)
    simp [e, this]
theorem mw_isT {b c : Bool} : L2.rIsB (.bl b) (.bl c) H Q = Q (.bl (decide (b = c))) H := by
  refine propext ⟨fun h => ?_, fun h => ⟨b, c, rfl, rfl, h⟩⟩
  obtain ⟨_, _, e1, e2, h⟩ := h
  cases e1; cases e2; exact h
theorem mw_notT {b c : Bool} : L2.rNotB (.bl b) (.bl c) H Q = Q (.bl (!decide (b = c))) H := by
  refine propext ⟨fun h => ?_, fun h => ⟨b, c, rfl, rfl, h⟩⟩
  obtain ⟨_, _, e1, e2, h⟩ := h
  cases e1; cases e2; exact h
theorem eqD_l {d e : PyData} (hx : Dp K H x d) (hy : Dp K H y e) (s1 : SeqAt.shaped d = true) (s2 : SeqAt.shaped e = true) (q : Q (.bl (PyData.eqv d e)) H) : rEqD K x y H Q := ⟨d, e, hx, hy, s1, s2, q⟩
theorem neD_l {d e : PyData} (hx : Dp K H x d) (hy : Dp K H y e) (s1 : SeqAt.shaped d = true) (s2 : SeqAt.shaped e = true) (q : Q (.bl (!PyData.eqv d e)) H) : rNeD K x y H Q := ⟨d, e, hx, hy, s1, s2, q⟩
theorem dp_o : Dp K H (oV a) (oD a) := by
  cases a
  · exact .non
  · exact .int _
theorem sh_o : (oD a).canLay0 = true := by cases a <;> rfl
theorem eqv_o : PyData.eqv (oD a) (oD a) = true := by
  cases a
  · rfl
  · show (_ == _) = true
    simp
theorem in_l {p : Addr} {xs : List V} (h : SqL K H p xs ∨ SqT K H p xs) (f : flatV x = true) (g : xs.all flatV = true) (q : Q (.bl (inV x xs)) H) : rIn K false x (.ref p) H Q := ⟨p, xs, rfl, h, f, g, q⟩
theorem ty_lst {p : Addr} {xs : List V} (h : H p = some (.lst xs)) : TyX K H (.ref p) (.type "list") := .base (.lst h)
theorem ty_tup {p : Addr} {xs : List V} (h : H p = some (.tup xs)) : TyX K H (.ref p) (.type "tuple") := .base (.tup h)
theorem ty_str {z : Str} : TyX K H (.str z) (.type "str") := .base (.str z)
theorem ty_int : TyX K H (.int i) (.type "int") := .base (.int i)
theorem ty_non : TyX K H .non (.type "NoneType") := .base .non
theorem depth_o : (oD a).depth = 0 := by cases a <;> rfl
/-- pairs of optional integers, one behind another -/
inductive Prs (H : Hp) : List V → List (Option Int × Option Int) → Prop where
  | nil : Prs H [] []
  | cons {p : Addr} {l h : Option Int} {vs : List V} {ps : List (Option Int × Option Int)} : H p = some (.tup [oV l, oV h]) → Prs H vs ps → Prs H (.ref p :: vs) ((l, h) :: ps)
theorem Prs.snoc {p : Addr} {l h : Option Int} (e : H p = some (.tup [oV l, oV h])) : ∀ {vs : List V} {ps : List (Option Int × Option Int)}, Prs H vs ps → Prs H (vs ++ [.ref p]) (ps ++ [(l, h)])
  | _, _, .nil => .cons e .nil
  | _, _, .cons e' k => .cons e' (Prs.snoc e k)
theorem Prs.mono {H' : Hp} (f : ∀ p xs, H p = some (.tup xs) → H' p = some (.tup xs)) : ∀ {vs : List V} {ps : List (Option Int × Option Int)}, Prs H vs ps → Prs H' vs ps
  | _, _, .nil => .nil
  | _, _, .cons e k => .cons (f _ _ e) (Prs.mono f k)
theorem Prs.fr {H' : Hp} (f : Fr [] H H') {vs : List V} {ps : List (Option Int × Option Int)} (k : Prs H vs ps) : Prs H' vs ps := k.mono fun p xs e => f.1 _ _ (by simp) e
theorem Prs.put {f : Addr} {ys zs : List V} (e : H f = some (.lst ys)) {vs : List V} {ps : List (Option Int × Option Int)} (k : Prs H vs ps) : Prs (upd H f (.lst zs)) vs ps := k.mono fun p xs e' => by
  rw [upd_ne (fun z => by rw [z, e] at e'; cases e')]; exact e'
def prD (p : Option Int × Option Int) : PyData := .tuple [oD p.1, oD p.2]
theorem Prs.dp : ∀ {vs : List V} {ps : List (Option Int × Option Int)}, Prs H vs ps → DpAll K H vs (ps.map prD)
  | _, _, .nil => .nil
  | _, _, .cons e k => .cons (.tup (SqT.of e) (.cons dp_o (.cons dp_o .nil))) (Prs.dp k)
end
section
variable {X : Cx} {K : PySem.W.Frag} {e : Expr} {ta : TE} {f : Str} {pos : Pos}
theorem pe_fldK (hK : X.K = K) (he : PE X e ta) (hb : attributeBase e f X.env (eval e X.env) = eval e X.env) : PE X (.Attribute e f pos) (tFld K ta f) := hK ▸ pe_fld he hb
end
end My
/-! Defs that show plain data by repr: their promise holds where nothing is being shown (Around.guards is empty). -/
namespace My
open PySem PySem.Spec PyProof.Rows L2
structure FnG (P : Program) (w : World) (K : PySem.W.Frag) (mg : Str → Option Value) (base : Heap) (CX : CXT) (k : Nat) (f : Addr) (fd : FuncData) (ps : List Str) (sp : Sp) : Prop where
  len : ∀ vs H Q E, sp vs H Q E → vs.length = ps.length
  run : ∀ (A : Around) (outer : List PySem.Env) (s : Shared) (H : Hp) (args : Args) (us : List Value) (vs : List V) (Q : VK) (E : XK), A.guards = some [] → Room k A → Env0 P w K mg base A outer s H → BindsTo s fd args (ps.zip us) → Vals vs us → sp vs H Q E →
    codeAny (model P w) A (.call (.ref f) args) (CR CX outer P w H s Q E) s
section
variable {P : Program} {w : World} {K : PySem.W.Frag} {mg : Str → Option Value} {base : Heap} {k : Nat} {f : Addr} {fd : FuncData} {ps N : List Str} {sp : Sp} {CX : CXT} {x qual : Str} {params : Arguments} {body : List Stmt} {scope : Scope} {dvs : List V} {kws : List (Str × V)}
theorem okG (F : FunD K x qual params body scope dvs kws f fd) (S : FnScope N ps scope) (len : ∀ vs H Q E, sp vs H Q E → vs.length = ps.length)
    (hbody : ∀ (cdv : Value) (A : Around) (outer : List PySem.Env) (s : Shared) (H : Hp) (vs : List V) (Q : VK) (E : XK), A.guards = some [] → Room k (A.deeper (envOfC qual scope s.heap.objs.size f cdv)) → sp vs H Q E →
      ∃ t, PSs (cxOf CX P w K mg base N qual scope f cdv A outer s H E) body t ∧ t { nx := fun _ H' => Q .non H', rt := Q } (start N vs) H) : FnG P w K mg base CX (k + 1) f fd ps sp := by
  obtain ⟨oc, od, dV, kV, doc, pm, an, cdv, ct, osl, rfl, lk, hcd, _, _⟩ := F.ex
  refine ⟨len, fun A outer s H args us vs Q E hg hr e0 hb r hsp => ?_⟩
  have hl := len _ _ _ _ hsp
  have KX : K.In s.heap := e0.mod.kin.keeps fun b o e => (e0.bs b o e).1
  have lim : s.heap.NoLimit := e0.mod.nolimit.keeps fun b o e => (e0.bs b o e).1
  have hkind : ∀ y ∈ ps.zip us, scope.names.lookup y.1 = some .local ∨ (scope.names.lookup y.1 = some .cell ∧ ((cellsFrom (s.heap.objs.size + 1) scope.names []).lookup y.1).isSome = true) := fun ⟨n, v⟩ hy => by
    rcases S.par n (List.of_mem_zip hy).1 with q | q
    · exact .inl q
    · exact .inr ⟨q, PySem.W.cellsFrom_some _ _ _ (.inl q)⟩
  refine codeAny_call_function hr.depth (KX _ _ lk) rfl S.co S.gen rfl (PySem.W.codeRec_of KX hcd) (hb _ _ _ _ ?_)
  refine wpAny_newFunctionEnv_cells S.kind hkind fun env he s1 x => ?_
  subst he
  refine ⟨lim.keeps x.toInCall.keep, codeAny_func ?_⟩
  obtain ⟨t, ht, hq⟩ := hbody cdv A outer s H vs Q E hg (hr.deeper _) hsp
  have I : Inv (cxOf CX P w K mg base N qual scope f cdv A outer s H E) [] (start N vs) H s1 := inv_start S hr.hd e0 hl r x
  refine wpAny_mono (ht.run [] s1 (start N vs) H _ I hq) (fun fl s' hs => ?_) fun e s' hs => hs
  cases fl with
  | ret u => obtain ⟨v, σ', H', J, rv, q⟩ := hs; exact ⟨v, H', J.os, J.bare, J.base, J.hok, rv, q⟩
  | next => obtain ⟨σ', H', J, q⟩ := hs; exact ⟨V.non, H', J.os, J.bare, J.base, J.hok, rfl, q⟩
  | brk => obtain ⟨_, _, _, q⟩ := hs; exact q.elim
  | cont => obtain ⟨_, _, _, q⟩ := hs; exact q.elim
end
structure CalleeG (P : Program) (w : World) (K : PySem.W.Frag) (mg : Str → Option Value) (base : Heap) (CX : CXT) (k : Nat) (d : He.DefD) (ps : List Str) (sp : Sp) : Prop where
  ex : ∃ (f : Addr) (fd : FuncData), FnG P w K mg base CX k f fd ps sp ∧ mg d.name = some (.ref f) ∧ PySem.W.keepIn K (.ref f) = true ∧ Binds K fd ps []
section
variable {X : Cx} {k : Nat} {d : He.DefD} {x : Str} {ps : List Str} {sp : Sp} {e : Expr} {es : List Expr} {t : TA} {p pos : Pos}
theorem pe_fnG (C : CalleeG X.prog X.w X.K X.mg X.base CX0 k d ps sp) (hgd : X.A.guards = some []) (hr : Room k X.A) (hg : Gl X x) (ha : PA X (e :: es) t) (hx : d.name = x := by rfl) (hdb : (x == ("__debug__" : Str)) = false := by decide)
    (he : starEach (e :: es) X.env = (false, eval e X.env) :: starEach es X.env := by rfl) (hpl : (backTo pos (starEach es X.env)).any (·.1) = false := by rfl) : PE X (.Call (.Name x p) (e :: es) [] pos) (tCall sp [] E0 t) := by
  obtain ⟨f, fd, F, hm, hk, hb⟩ := C.ex
  rw [hx] at hm
  refine ⟨fun pins s σ H Q I h => ?_⟩
  refine wpAny_Call_Name_kw (ld_glob I hg hm ?_ hdb)
  refine PySem.W.callWith_K (h₀ := X.base) I.ok.mod.kin hk (thn (ha.run pos pins s σ H _ I h) fun us s1 ⟨vs, H1, I1, r, q⟩ => ⟨I1.kIn, ?_⟩) he hpl
  replace q : sp vs H1 Q E0 := by
    have z : sp (vs ++ []) H1 Q E0 := q
    rw [List.append_nil] at z
    exact z
  have hl : us.length = ps.length := by rw [← r.length]; exact F.len _ _ _ _ q
  have b := hb s1 us I1.kIn (by rw [List.append_nil]; exact hl)
  rw [List.append_nil] at b
  refine wpAny_call (codeAny_mono (F.run X.A X.stack s1 H1 ⟨us, []⟩ us vs Q E0 hgd hr I1.env0 b r q) fun r s' hq => ?_)
  cases r with
  | error e => exact hq.elim
  | ok fl =>
    cases fl with
    | ret u => exact I1.after hq
    | next => exact False.elim hq
    | brk => exact False.elim hq
    | cont => exact False.elim hq
/-- repr of plain data -/
def rRepr (K : PySem.W.Frag) : List V → Hp → VK → Prop := fun xs H Q => ∃ (a : Addr) (d : PyData), xs = [.ref a] ∧ Dp K H (.ref a) d ∧ d.showable = true ∧ d.hasDict = false ∧ d.depth ≤ 60 ∧ d.shown.length ≤ sizeLine ∧ Q (.str d.shown) H
theorem call_reprG (hgd : X.A.guards = some []) (hu : X.A.units + 64 < cLine) : CallR X (.builtin "repr") (rRepr X.K) := by
  intro pins s σ H xs us Q I r h
  obtain ⟨a, d, rfl, hd, hs, hn, hdp, hsz, q⟩ := h
  obtain ⟨u, rfl, ru⟩ := r.one
  cases (show u = Value.ref a from ru)
  obtain ⟨as, rd⟩ := Dp.reads I d (.ref a) (.ref a) hd rfl
  refine repr_of_reads' rd hs (fun z => by rw [hn] at z; cases z) hgd (by omega) (fun _ _ e => e) (fun h' u tk hk => ?_) hsz
  exact ⟨.str d.shown, H, I.kept (t' := tk) hk, ⟨_, rfl⟩, q⟩
theorem repr_l {K : PySem.W.Frag} {H : Hp} {Q : VK} {a : Addr} {d : PyData} (h : Dp K H (.ref a) d) (h1 : d.showable = true) (h2 : d.hasDict = false) (h3 : d.depth ≤ 60) (h4 : d.shown.length ≤ sizeLine) (q : Q (.str d.shown) H) : rRepr K [.ref a] H Q := ⟨a, d, rfl, h, h1, h2, h3, h4, q⟩
end
/-! the end: the law's own def at the place where nothing is shown yet -/
section
variable {P : Program} {w : World} {K : PySem.W.Frag} {mg mb : Str → Option Value} {k : Nat} {fa a : Addr} {fd : FuncData} {x : Str} {sp : Sp} {s₁ : Shared} {vs : List Value} {ns : List Int}
/-- the heap that is tracked at the start: the script, unless the written part holds it -/
theorem startH (KX : K.In s₁.heap) (ha : s₁.heap.get? a = some { cls := .type "list", data := .seq vs.toArray }) (hi : IntsAre vs ns) (hl : ns.length ≤ sizeLine) :
    ∃ H : Hp, Only H ∧ SqL K H a (ns.map V.int) ∧ HOk P w H s₁.heap ∧ ∀ b, H b ≠ none → b = a ∧ K.lookup a = none := by
  have rv := vals_ints hi
  have lenV := hi.length
  cases hk : K.lookup a with
  | some o =>
    have e := KX a o hk
    rw [ha] at e
    cases e
    refine ⟨fun _ => none, fun _ => .inl rfl, .inr ⟨_, vs.toArray, _, hk, rfl, rfl, rfl, by rw [List.size_toArray, lenV]; exact hl, by simpa using rv⟩, fun b u z => ?_, fun b z => absurd rfl z⟩
    cases (show (none : Option HO) = some u from z)
  | none =>
    let fz : HO := .frz { cls := .type "list", data := .seq vs.toArray } (.lst (ns.map V.int))
    have at_ : ∀ {b : Addr} {u : HO}, (upd (fun _ => none) a fz : Hp) b = some u → b = a ∧ u = fz := fun {b u} z => by
      by_cases hb : b = a
      · rw [hb, upd_same] at z
        exact ⟨hb, (Option.some.inj z).symm⟩
      · rw [upd_ne hb] at z
        cases z
    refine ⟨upd (fun _ => none) a fz, fun b => ?_, .inl (.inr ⟨_, upd_same⟩), fun b u z => ?_, fun b z => ?_⟩
    · by_cases hb : b = a
      · exact .inr ⟨_, _, by rw [hb]; exact upd_same⟩
      · exact .inl (upd_ne hb)
    · obtain ⟨rfl, rfl⟩ := at_ z
      exact ⟨ha, by rw [List.length_map]; exact hl, vs, _, rv, ha⟩
    · cases q : (upd (fun _ => none) a fz : Hp) b with
      | none => exact absurd q z
      | some u => exact ⟨(at_ q).1, rfl⟩
theorem law_callG (KX : K.In s₁.heap) (hns : s₁.heap.Ns mainGlobals mg) (hb : s₁.heap.Ns builtinsNs mb) (hbb : ∀ x : Str, x ≠ "__name__" → mb x = bootBuiltins x) (hlim : s₁.heap.NoLimit) (hg : s₁.gens = #[])
    (ha : s₁.heap.get? a = some { cls := .type "list", data := .seq vs.toArray }) (hi : IntsAre vs ns) (hl : ns.length ≤ sizeLine) (hr : Room k callerA)
    (F : ∀ base : Heap, FnG P w K mg base CX0 k fa fd [x] sp) (hbind : ∀ (s : Shared) (u : Value), BindsTo s fd ⟨[u], []⟩ [(x, u)])
    (hsp : ∀ H : Hp, SqL K H a (ns.map V.int) → sp [.ref a] H (fun v _ => v = .bl true) E0) :
    codeAny (model P w) callerA (.call (.ref fa) ⟨[.ref a], []⟩) (fun r s' => r = .ok (.ret (.bool true)) ∧ OldK s₁.heap s'.heap ∧ s'.os = s₁.os ∧ AllBare s'.gens) s₁ := by
  obtain ⟨H, hO, hS, hok, hA⟩ := startH (P := P) (w := w) KX ha hi hl
  have stay : ∀ {b : Addr} {o : Obj}, s₁.heap.get? b = some o → (b = a → K.lookup a = none → False) → (hidT s₁.heap H).get? b = some o := fun {b o} e n => hidT_get e (by
    cases q : H b with
    | none => rfl
    | some u =>
      obtain ⟨e1, e2⟩ := hA b (by rw [q]; simp)
      exact (n e1 e2).elim)
  have nsK : ∀ {b : Addr} {m : Str → Option Value}, s₁.heap.Ns b m → (hidT s₁.heap H).Ns b m := fun {b m} ⟨o, es, ep, e, d, r⟩ => ⟨o, es, ep, stay e (fun z _ => by
    rw [z, ha] at e
    cases e
    cases d), d, r⟩
  have hM : Mod K mg (hidT s₁.heap H) := ⟨fun b o e => stay (KX b o e) (fun z n => by rw [z, n] at e; cases e), nsK hns, ⟨mb, nsK hb, hbb⟩, let ⟨mc, h1, h2⟩ := hlim; ⟨mc, nsK h1, h2⟩⟩
  have e0 : Env0 P w K mg (hidT s₁.heap H) callerA [] s₁ H := ⟨rfl, hM, fun b o e => of_hidT e, Nat.le_of_eq (hidT_size _ _), trivial, fun b hb => absurd (show b ∈ ([] : List Addr) from hb) (by simp), hok, .of_eq hg⟩
  refine codeAny_mono ((F (hidT s₁.heap H)).run callerA [] s₁ H ⟨[.ref a], []⟩ [.ref a] [.ref a] _ _ rfl hr e0 (hbind s₁ (.ref a)) (.cons rfl .nil) (hsp H hS)) fun r s' h => ?_
  cases r with
  | error e => exact False.elim h
  | ok fl =>
    cases fl with
    | next => exact False.elim h
    | brk => exact False.elim h
    | cont => exact False.elim h
    | ret u =>
      obtain ⟨v, H', os, bare, un, hok', r', q⟩ := h
      cases (show v = .bl true from q)
      cases (show u = Value.bool true from r')
      refine ⟨rfl, OldK.of_keep fun b o e => ?_, os, bare⟩
      rcases hO b with z | ⟨ob, xs, z⟩
      · exact un.keep b o e z (fun y => absurd (show b ∈ ([] : List Addr) from y) (by simp)) (by simp)
      · have e1 := (hok b _ z).1
        rw [e] at e1
        rw [e1]
        exact (hok' b _ (un.frzs b ob _ z)).1
end
def LawAtG (l : PySem.W.OpenLaw) (w : World) (K : PySem.W.Frag) (k n : Nat) (x : Str) (mg : Str → Option Value) (fa : Addr) : Prop :=
  ∃ (fd : FuncData) (sp : Sp), (∀ (s : Shared) (u : Value), BindsTo s fd ⟨[u], []⟩ [(x, u)]) ∧ (∀ (H : Hp) (a : Addr) (ns : List Int), ns.length ≤ n → SqL K H a (ns.map V.int) → sp [.ref a] H (fun v _ => v = .bl true) E0) ∧ ∀ base : Heap, FnG l.prog w K mg base CX0 k fa fd [x] sp
theorem walk_ofG {l : PySem.W.OpenLaw} {n k : Nat} {q : Program} {loose : List Str} {XP : (Str → Option Value) → Heap → Prop} {YP : World → Heap → Prop} {d : DefRec} {x : Str} (hn : l.most = some n) (hn2 : n ≤ sizeLine) (hdf : d.params.defaults = []) (hr : Room k callerA)
    (F : ∀ (w : World) (mg : Str → Option Value) (fa : Addr) (h : Heap), YP w h → h.Ns mainGlobals mg → mg d.name = some (.ref fa) → ∃ K : PySem.W.Frag, K.In h ∧ LawAtG l w K k n x mg fa) : PySem.W.WalkO q loose XP YP l.row.toRowW d [] (fun f vs => PySem.call f vs) := by
  refine Att.attach_callB hn hdf fun w s₀ s₁ mg mb fa o pm cd doc a vs ns G Y ho hd hcd hmg hobj hints hlen hbits hg => ?_
  obtain ⟨K, KX, fd, sp, hb, hsp, hF⟩ := F w mg fa _ Y G.T.g hmg
  exact law_callG KX G.T.g G.T.b G.T.builtins G.T.nolimit hg hobj hints (Nat.le_trans hlen hn2) hr hF hb fun H hS => hsp H a ns hlen hS
end My
/-! Own errors with an __init__: made, raised, caught, read. -/
namespace My
open PySem PySem.Spec PyProof.Rows L2
def errF (ns : List Str) (xs : List V) : List (Str × V) := (ns.zip xs).reverse
/-- an error's __init__: the fields, one behind another -/
def spErr (K : PySem.W.Frag) (C : Str) (ns : List Str) : Sp := fun vs H Q _ => ∃ a xs, vs = .ref a :: xs ∧ xs.length = ns.length ∧ H a = some (exo a (He.ga K C) none) ∧ ∀ dx, H dx = none → dx ≠ a → Q .non (upd (upd H dx (exd dx (errF ns xs))) a (exo a (He.ga K C) (some dx)))
structure ErrInit (P : Program) (w : World) (K : PySem.W.Frag) (mg : Str → Option Value) (base : Heap) (CX : CXT) (k : Nat) (d : He.DefD) (C : Str) (ps : List Str) (sp : Sp) : Prop where
  ex : ∃ (f : Addr) (fd : FuncData), FnOk P w K mg base CX k f fd ps sp ∧ PySem.W.findIn K (.ref (He.ga K C)) "__init__" = some (some (.ref f)) ∧ PySem.W.typeIn K (.ref f) = some (.type "function") ∧ Binds K fd ps []
  gl : mg C = some (.ref (He.ga K C))
  ox : OexC K (He.ga K C)
def xIni (C : Str) : Xf := fun K => He.eqO (PySem.W.findIn K (.ref (He.ga K C)) "__init__") (some (some (.ref (He.ma K (He.ga K C) "__init__"))))
def xIniT (C : Str) : Xf := fun K => decide (PySem.W.typeIn K (.ref (He.ma K (He.ga K C) "__init__")) = some (.type "function"))
def xNoA (C f : Str) : Xf := fun K => He.eqO (PySem.W.findIn K (.ref (He.ga K C)) f) (some none)
def xXf (C : Str) : Xf := fun K => xfB K (He.ga K C)
def xExm (C D : Str) (b : Bool) : Xf := fun K => decide (PySem.W.exmOne K (.ref (He.ga K C)) (.ref (He.ga K D)) = some b)
theorem upd_swap {H : Hp} {a dx : Addr} {o1 o2 o3 : HO} (h : dx ≠ a) : upd (upd (upd H dx o1) a o2) dx o3 = upd (upd H dx o3) a o2 := by
  funext b
  by_cases h1 : b = dx
  · subst h1
    rw [upd_same, upd_ne h, upd_same]
  · rw [upd_ne h1]
    by_cases h2 : b = a
    · subst h2
      rw [upd_same, upd_same]
    · rw [upd_ne h2, upd_ne h2, upd_ne h1, upd_ne h1]
section
variable {K : PySem.W.Frag} {σ : L2.St} {H : Hp} {Q : VK} {QX : XK} {D : Ends} {W : WX} {ta : TA} {te to : TE} {f C : Str} {A : Addr} {ns : List Str} {vs : List V} {x y v : V} {a dx : Addr} {fs : List (Str × V)} {sp : Sp}
/-! self.f = e in an __init__ of an error -/
def KOst2 (K : PySem.W.Frag) (f : Str) (y : V) (D : Ends) (σ : L2.St) : VK := fun x H2 => ∃ a C : Addr, x = .ref a ∧ OexC K C ∧ PySem.W.findIn K (.ref C) f = some none ∧
  ((H2 a = some (exo a C none) ∧ ∀ dx, H2 dx = none → dx ≠ a → D.nx σ (upd (upd H2 dx (exd dx [(f, y)])) a (exo a C (some dx)))) ∨
    ∃ (dx : Addr) (fs : List (Str × V)), H2 a = some (exo a C (some dx)) ∧ H2 dx = some (exd dx fs) ∧ fs.length ≤ 900 ∧ D.nx σ (upd H2 dx (exd dx ((f, y) :: fs))))
def KOst1 (K : PySem.W.Frag) (f : Str) (to : TE) (D : Ends) (σ : L2.St) : VK := fun y H1 => to σ H1 (KOst2 K f y D σ)
theorem mw_ost : tOst K f to te D σ H = te σ H (KOst1 K f to D σ) := rfl
theorem mw_ost1 : KOst1 K f to D σ y H = to σ H (KOst2 K f y D σ) := rfl
theorem ost_n (T : OexC K A) (hn : PySem.W.findIn K (.ref A) f = some none) (e : H a = some (exo a A none)) (q : ∀ dx, H dx = none → dx ≠ a → D.nx σ (upd (upd H dx (exd dx [(f, y)])) a (exo a A (some dx)))) : KOst2 K f y D σ (.ref a) H := ⟨a, A, rfl, T, hn, .inl ⟨e, q⟩⟩
theorem ost_o (T : OexC K A) (hn : PySem.W.findIn K (.ref A) f = some none) (hd : dx ≠ a) (l : fs.length ≤ 900) (q : D.nx σ (upd (upd H dx (exd dx ((f, y) :: fs))) a (exo a A (some dx)))) : KOst2 K f y D σ (.ref a) (upd (upd H dx (exd dx fs)) a (exo a A (some dx))) :=
  ⟨a, A, rfl, T, hn, .inr ⟨dx, fs, upd_same, (upd_ne hd).trans upd_same, l, by rw [upd_swap hd]; exact q⟩⟩
/-! raise C(e, ..) -/
def KMkO (A : Addr) (sp : Sp) (QX : XK) : List V → Hp → Prop := fun vs H1 => vs.length ≤ 1000 ∧ ∀ a, H1 a = none → sp (.ref a :: (vs ++ [])) (upd H1 a (exo a A none))
  (fun v H2 => v = .non ∧ ∃ (d : Addr) (fs : List (Str × V)), H2 a = some (exo a A (some d)) ∧ H2 d = some (exd d fs) ∧ H1 d = none ∧ QX (.ref A) (some d) (upd (del H2 a) d (.xd fs))) (fun _ _ _ => False)
def tRaise (t : L2.St → Hp → XK → Prop) (W : WX) : TS := fun _ σ H => t σ H fun cls d H' => W cls d σ H'
theorem mw_raise : tRaise (tMkO A sp [] ta) W D σ H = ta σ H (KMkO A sp (fun cls d H' => W cls d σ H')) := rfl
theorem rs_l (hl : vs.length = ns.length) (hs : ns.length ≤ 1000) (q : ∀ d, H d = none → QX (.ref (He.ga K C)) (some d) (upd H d (.xd (errF ns vs)))) : KMkO (He.ga K C) (spErr K C ns) QX vs H := by
  refine ⟨by omega, fun a ha => ⟨a, vs, by rw [List.append_nil], hl, upd_same, fun dx hdx hne => ⟨rfl, dx, errF ns vs, upd_same, (upd_ne hne).trans upd_same, ?_, ?_⟩⟩⟩
  · rwa [upd_ne hne] at hdx
  · have e : upd (del (upd (upd (upd H a (exo a (He.ga K C) none)) dx (exd dx (errF ns vs))) a (exo a (He.ga K C) (some dx))) a) dx (.xd (errF ns vs)) = upd H dx (.xd (errF ns vs)) := by
      funext b
      by_cases h1 : b = dx
      · subst h1
        rw [upd_same, upd_same]
      · rw [upd_ne h1, upd_ne h1]
        by_cases h2 : b = a
        · subst h2
          rw [del_same, ha]
        · rw [del_ne h2, upd_ne h2, upd_ne h1, upd_ne h2]
    rw [e]
    exact q dx (by rwa [upd_ne hne] at hdx)
/-! an object made where an error may leave -/
def tMakeS (A : Addr) (sp : Sp) (E : L2.St → XK) (t : TA) : TE := fun σ H Q => tMake A sp [] (E σ) t σ H Q
theorem mw_makeS {E : L2.St → XK} : tMakeS A sp E ta σ H Q = ta σ H (KMake A sp [] (E σ) Q) := rfl
def KMakeK (A : Addr) (sp : Sp) (g : List V → List V) (n : Nat) (E : XK) (Q : VK) : List V → Hp → Prop := fun zs H1 => zs.length = n ∧ ∀ x dx, H1 x = none → H1 dx = none → dx ≠ x → sp (.ref x :: g zs) (upd (upd H1 dx (.own x)) x (.ins A dx [])) (fun v H2 => v = .non ∧ Q (.ref x) H2) E
def tMakeSK (A : Addr) (sp : Sp) (g : List V → List V) (n : Nat) (E : L2.St → XK) (t : TA) : TE := fun σ H Q => t σ H (KMakeK A sp g n (E σ) Q)
theorem mw_makeSK {E : L2.St → XK} {g : List V → List V} {n : Nat} : tMakeSK A sp g n E ta σ H Q = ta σ H (KMakeK A sp g n (E σ) Q) := rfl
theorem mkK_l {E : XK} {g : List V → List V} {n : Nat} (hn : vs.length = n) (q : ∀ x dx, H x = none → H dx = none → dx ≠ x → sp (.ref x :: g vs) (upd (upd H dx (.own x)) x (.ins A dx [])) (fun v H2 => v = .non ∧ Q (.ref x) H2) E) : KMakeK A sp g n E Q vs H := ⟨hn, q⟩
/-! try: .. except C as n: .. -/
def tTryA (K : PySem.W.Frag) (c : Value) (i : Nat) (tb : WX → TS) (ts : Addr → Value → Option Addr → TS) : TS := fun D σ H => tb (wAs K c i ts (fun _ _ _ _ => False) D) D σ H
theorem mw_tryA {c : Value} {i : Nat} {tb : WX → TS} {ts : Addr → Value → Option Addr → TS} : tTryA K c i tb ts D σ H = tb (wAs K c i ts (fun _ _ _ _ => False) D) D σ H := rfl
theorem was_yes {c cls : Value} {i : Nat} {d : Option Addr} {ts : Addr → Value → Option Addr → TS} {Wo : WX} (h : PySem.W.exmOne K cls c = some true) (q : ∀ a, H a = none → ts a cls d ⟨fun σ' H' => D.nx (σ'.set i none) H', D.rt, fun σ' H' => D.bk (σ'.set i none) H', fun σ' H' => D.ct (σ'.set i none) H'⟩ (σ.set i (some (.ref a))) H) : wAs K c i ts Wo D cls d σ H :=
  ⟨true, h, fun _ a ha => q a ha, fun z => nomatch z⟩
/-! n.f in the suite -/
def KXf (a : Addr) (cls : Value) (d : Option Addr) (A : Addr) (f : Str) (Q : VK) : VK := fun x H1 => x = .ref a ∧ cls = .ref A ∧ ∃ (dd : Addr) (fs : List (Str × V)) (v : V), d = some dd ∧ H1 dd = some (.xd fs) ∧ fs.lookup f = some v ∧ Q v H1
theorem mw_xf {cls : Value} {d : Option Addr} : tXf a cls d A f te σ H Q = te σ H (KXf a cls d A f Q) := rfl
theorem xf_l {dd : Addr} (h : H dd = some (.xd fs)) (l : fs.lookup f = some v) (q : Q v H) : KXf a (.ref A) (some dd) A f Q (.ref a) H := ⟨rfl, rfl, dd, fs, v, rfl, h, l, q⟩
end
theorem ip_ext {X : Cx} : PIp X .Add rExt2 := fun pins s σ H x y v u Q I r1 r2 h => iop_ext pins s σ H x y v u Q I r1 r2 h
section
variable {K : PySem.W.Frag} {σ : L2.St} {H : Hp} {Q : VK} {D : Ends} {x y z : V} {i : Nat}
theorem mw_aug2X : KAug2 i x rExt2 D σ y H = rExt2 x y H (KSet i D σ) := rfl
theorem mw_setK : KSet i D σ z H = D.nx (σ.set i (some z)) H := rfl
theorem ext_l {l b : Addr} {xs ys : List V} (h1 : H l = some (.lst xs)) (h2 : H b = some (.lst ys)) (n : xs.length + ys.length ≤ sizeLine) (q : Q (.ref l) (upd H l (.lst (xs ++ ys)))) : rExt2 (.ref l) (.ref b) H Q := ⟨l, b, xs, ys, rfl, rfl, h1, h2, n, q⟩
end
section
variable {X : Cx} {k : Nat} {d : He.DefD} {C : Str} {ps ks ns : List Str} {sp : Sp} {e : Expr} {es : List Expr} {t tk : TA} {p pos : Pos} {W : WX} {E : L2.St → XK} {kws : List Keyword}
theorem pmk_err (M : ErrInit X.prog X.w X.K X.mg X.base CX0 k d C ps sp) (hr : Room (k + 1) X.A) (hg : Gl X C) (ha : PA X (e :: es) t) (hdb : (C == ("__debug__" : Str)) = false := by decide)
    (he : starEach (e :: es) X.env = (false, eval e X.env) :: starEach es X.env := by rfl) (hpl : (backTo pos (starEach es X.env)).any (·.1) = false := by rfl) : PMk X (.Call (.Name C p) (e :: es) [] pos) (tMkO (He.ga X.K C) sp [] t) := by
  obtain ⟨f, fd, F, hi, ht, hb⟩ := M.ex
  exact pmk_oex M.ox hi ht F hr hb .nil pass0 hg M.gl ha hdb he hpl
theorem ps_rs {e : Expr} {t : L2.St → Hp → XK → Prop} (hc : X.calm = true) (tk : Takes X W) (he : PMk X e t) : PS X (.Raise (some e) none pos) (tRaise t W) := ps_raise hc tk he
/-- an object is made; what may leave it is asked at these slots -/
theorem run_mkS {CX : CXT} {A f : Addr} {fd : FuncData} {pins : List (Addr × Obj)} {σ : L2.St} {H : Hp} {s : Shared} {Q : VK} {E : XK} {us ws : List Value} {kw : List (Str × Value)} {vs : List V} (M : Mk X.K A f) (F : FnOk X.prog X.w X.K X.mg X.base CX k f fd ps sp) (hr : Room (k + 1) X.A)
    (hb : ∀ (s : Shared) (x : Addr), X.K.In s.heap → BindsTo s fd ⟨.ref x :: us, kw⟩ (ps.zip (.ref x :: ws))) (hx : PassesAt CX X σ E) (I : Inv X pins σ H s) (r : Vals vs ws)
    (h : ∀ x dx, H x = none → H dx = none → dx ≠ x → sp (.ref x :: vs) (upd (upd H dx (.own x)) x (.ins A dx [])) (fun v H2 => v = .non ∧ Q (.ref x) H2) E) : wpAny (model X.prog X.w) X.A (call (.ref A) us kw) (EP X pins σ Q) X.xe s := by
  have hq := h (s.heap.objs.size + 1) s.heap.objs.size (I.hok.fresh (Nat.le_succ _)) (I.hok.fresh (Nat.le_refl _)) (Nat.ne_of_lt (Nat.lt_succ_self _))
  have I2 := Inv.made (C := A) I
  have r2 : Vals (V.ref (s.heap.objs.size + 1) :: vs) (Value.ref (s.heap.objs.size + 1) :: ws) := .cons rfl r
  refine wpAny_call (make_map (f := f) I.kIn M.makes M.init (beq_iff_eq.mp M.fn) (codeAny_mono (F.run _ X.stack _ _ ⟨_, kw⟩ (Value.ref (s.heap.objs.size + 1) :: ws) _ _ E (hr.make A us kw) (I2.env0.make A us kw) (hb _ _ I2.kIn) r2 hq) fun r s' hq' => ?_))
  cases r with
  | error e => exact hx pins _ _ e s' I2 hq'
  | ok fl =>
    cases fl with
    | ret u =>
      obtain ⟨v, H', I3, rv, ev, q3⟩ := I2.after hq'
      subst ev
      exact ⟨rv, ⟨V.ref (s.heap.objs.size + 1), H', I3, rfl, q3⟩⟩
    | next => exact False.elim hq'
    | brk => exact False.elim hq'
    | cont => exact False.elim hq'
theorem pe_mkS {CX : CXT} {K : PySem.W.Frag} (hK : X.K = K) (M : MakeOf X.prog X.w X.K X.mg X.base CX k d C ps sp) (hr : Room (k + 1) X.A) (hx : ∀ σ, PassesAt CX X σ (E σ)) (hg : Gl X C) (ha : PA X (e :: es) t) (hdb : (C == ("__debug__" : Str)) = false := by decide)
    (he : starEach (e :: es) X.env = (false, eval e X.env) :: starEach es X.env := by rfl) (hpl : (backTo pos (starEach es X.env)).any (·.1) = false := by rfl) : PE X (.Call (.Name C p) (e :: es) [] pos) (tMakeS (He.ga K C) sp E t) := by
  subst hK
  obtain ⟨f, fd, F, hm, hb, _⟩ := M.ex
  refine ⟨fun pins s σ H Q I h => ?_⟩
  refine wpAny_Call_Name_kw (ld_glob I hg M.gl ?_ hdb)
  refine PySem.W.callWith_K (h₀ := X.base) I.ok.mod.kin hm.kp (thn (ha.run pos pins s σ H _ I h) fun us s1 ⟨vs, H1, I1, r, q⟩ => ⟨I1.kIn, ?_⟩) he hpl
  have q' : ∀ x dx, H1 x = none → H1 dx = none → dx ≠ x → sp (.ref x :: vs) (upd (upd H1 dx (.own x)) x (.ins (He.ga X.K C) dx [])) (fun v H2 => v = .non ∧ Q (.ref x) H2) (E σ) := fun x dx h1 h2 h3 => by
    have z := q x dx h1 h2 h3
    rwa [List.append_nil] at z
  have hl : us.length + 1 = ps.length := by
    have z := F.len _ _ _ _ (q' (s1.heap.objs.size + 1) s1.heap.objs.size (I1.hok.fresh (Nat.le_succ _)) (I1.hok.fresh (Nat.le_refl _)) (Nat.ne_of_lt (Nat.lt_succ_self _)))
    rw [← r.length, ← z]; rfl
  exact run_mkS hm F hr (fun s x hk => by
    have b := hb s (.ref x :: us) hk (by rw [List.append_nil]; exact hl)
    rwa [List.append_nil] at b) (hx σ) I1 r q'
/-- C(k = v, ..): g puts the values in the parameters' order -/
theorem pe_mkSK {CX : CXT} {K : PySem.W.Frag} (hK : X.K = K) (M : MakeOf X.prog X.w X.K X.mg X.base CX k d C ps sp) (g : {α : Type} → List α → List α) (hr : Room (k + 1) X.A) (hx : ∀ σ, PassesAt CX X σ (E σ)) (hg : Gl X C) (hkw : PK X kws tk)
    (hb : ∀ (kV doc pm : Value) (an : Option Addr) (cdv ct : Value) (x : Value) (ws : List Value), ws.length = ks.length → bindArgs (PySem.W.fnOf d.name d.qual d.params d.body d.scope .none kV doc pm an cdv ct) ⟨[x], ks.zip ws⟩ = pure (ps.zip (x :: g ws)))
    (hv : ∀ {zs : List V} {ws : List Value}, Vals zs ws → Vals (g zs) (g ws))
    (hall : (backToKw pos (keywordEach kws X.env)).all (·.1.isSome) = true := by rfl) (hks : (backToKw pos (keywordEach kws X.env)).filterMap (·.1) = ks := by rfl) (hdb : (C == ("__debug__" : Str)) = false := by decide)
    (hpl : ((backTo pos (starEach [] X.env)).any (·.1) || (backToKw pos (keywordEach kws X.env)).any (·.1.isNone)) = false := by rfl) : PE X (.Call (.Name C p) [] kws pos) (tMakeSK (He.ga K C) sp g ks.length E tk) := by
  subst hK
  obtain ⟨f, fd, F, hm, _, FD⟩ := M.ex
  refine ⟨fun pins s σ H Q I h => ?_⟩
  refine wpAny_Call_Name_kw (ld_glob I hg M.gl ?_ hdb)
  refine PySem.W.callWith_KW0 (h₀ := X.base) I.ok.mod.kin hm.kp hall (thn (hkw.run pos pins s σ H _ I h) fun ws s2 ⟨zs, H2, I2, rz, l2, q2⟩ => ⟨I2.kIn, ?_⟩) hpl
  rw [hks]
  refine run_mkS hm F hr (fun s x hk => ?_) (hx σ) I2 (hv rz) q2
  obtain ⟨oc, od, dV, kV, doc, pm, an, cdv, ct, osl, rfl, lk, hcd, hD, hK⟩ := FD.ex
  rcases hD with ⟨_, rfl⟩ | ⟨e, _⟩
  · exact .of_eq (hb kV doc pm an cdv ct (.ref x) ws (by rw [← rz.length]; exact l2))
  · exact absurd rfl e
theorem ps_tryA {x n : Str} {c : Value} {i : Nat} {body suite : List Stmt} {b₀ : Stmt} {np pos' : Pos} {tb : WX → TS} {ts : Addr → Value → Option Addr → TS} (hs : X.stack = X.env :: X.outer) (hf : X.env.frame = some X.env.locals) (hN : X.N.Nodup) (hi : X.N[i]? = some n) (hln : X.env.kindOf n = some .local) (hc : Names X x c) (tk : Takes X fun _ _ _ _ => False)
    (hb : ∀ (W : WX) (pn : List (Addr × Obj)) (xe : Value → Shared → Prop), Takes (X.tr pn xe) W → PassesOwn (model X.prog X.w) X.A X.env xe → PSs (X.tr pn xe) body (tb W))
    (hsu : ∀ (a : Addr) (oe : Obj) (cls : Value) (d : Option Addr) (pn : List (Addr × Obj)), Zc cls d oe → (∃ vs, oe.data = .fields vs) → PSs (X.suite a ((a, oe) :: pn)) (b₀ :: suite) (ts a cls d)) :
    PS X (.Try body [.ExceptHandler (some (.Name x np)) (some n) (b₀ :: suite) pos'] [] [] pos) (tTryA X.K c i tb ts) := ps_try_as hs hf hN hi hln hc tk hb hsu
/-- isinstance(e, T), e the caught error (of the class at D, its dict at dd), T an own class -/
def rIsED (K : PySem.W.Frag) (D a : Addr) (cls : Value) (d : Option Addr) : List V → Hp → VK → Prop := fun xs H Q => ∃ (T dd : Addr) (fs : List (Str × V)) (b : Bool), xs = [.ref a, .ref T] ∧ cls = .ref D ∧ d = some dd ∧ H dd = some (.xd fs) ∧ PySem.W.kitOne K (.ref D) (.ref T) = some b ∧ Q (.bl b) H
theorem call_isED {a D : Addr} {oe : Obj} {cls : Value} {d : Option Addr} {pn : List (Addr × Obj)} (C : ExcC X.K D) (hz : Zc cls d oe) (hf : ∃ vs, oe.data = .fields vs) : CallR (X.suite a ((a, oe) :: pn)) (.builtin "isinstance") (rIsED X.K D a cls d) := by
  intro pins s σ H xs us Q I r h
  obtain ⟨T, dd, fs, b, rfl, ec, ed, hd, e, q⟩ := h
  subst ec
  subst ed
  obtain ⟨u1, u2, rfl, r1, r2⟩ := vals2 r
  cases (show u1 = Value.ref a from r1)
  cases (show u2 = Value.ref T from r2)
  obtain ⟨hget, _⟩ := I.pin (a, oe) (List.mem_append.mpr (.inl List.mem_cons_self))
  obtain ⟨vs, hv⟩ := hf
  have hx : ObjOk X.prog X.w H s.heap dd (.xd fs) := I.hok dd _ hd
  obtain ⟨mA, hns, _⟩ := hx
  obtain ⟨od, ho, _⟩ := lookIn_ns hns
  have J : PySem.W.InstAt s.heap a oe D (some od) := ⟨hget, hz.1, by unfold PySem.W.notCls; rw [hv] <;> rfl, by rw [hz.2]; exact ho⟩
  have hcl : (PySem.W.clsIn X.K D).isSome = true := by
    obtain ⟨cd, hc, _⟩ := PySem.W.any_some C.hd
    rw [hc] <;> rfl
  exact PySem.W.kia_one (PySem.W.kitx_exc hcl C.hg C.hk C.hs C.ha C.hn C.ht C.hm) I.kIn J e (fun z => nomatch z) fun tk => ⟨.bl b, H, I.tok tk, rfl, q⟩
theorem isED_l {K : PySem.W.Frag} {D a T dd : Addr} {fs : List (Str × V)} {b : Bool} {H : Hp} {Q : VK} (h : H dd = some (.xd fs)) (e : PySem.W.kitOne K (.ref D) (.ref T) = some b) (q : Q (.bl b) H) : rIsED K D a (.ref D) (some dd) [.ref a, .ref T] H Q := ⟨T, dd, fs, b, rfl, rfl, rfl, h, e, q⟩
def xExcC (C : Str) : Xf := fun K => He.eqO (PySem.W.findIn K (.ref (He.ga K C)) "__getattribute__") (some (some (.builtin "BaseException.__getattribute__"))) && (He.eqO (PySem.W.findIn K (.ref (He.ga K C)) "__getattr__") (some none) && (decide (PySem.W.subIn K (.ref (He.ga K C)) (.type "BaseException") = some true) &&
  (PySem.W.hasDictIn K (He.ga K C) && (He.eqO (PySem.W.findIn K (.ref (He.ga K C)) "__class__") (some (some (.builtin "object.__class__"))) && (He.eqO (PySem.W.specialIn K (.builtin "object.__class__") "__get__") (some (some (.builtin "getset_descriptor.__get__"))) &&
  (decide (PySem.W.takesIn K (.builtin "object.__class__") = some true) && decide (PySem.W.mroIn K (He.ga K C) (.type "object") = some true)))))))
theorem excC_of {K : PySem.W.Frag} {C : Str} (h : xExcC C K = true) : ExcC K (He.ga K C) := by
  obtain ⟨h1, h⟩ := He.ba h
  obtain ⟨h2, h⟩ := He.ba h
  obtain ⟨h3, h⟩ := He.ba h
  obtain ⟨h4, h⟩ := He.ba h
  obtain ⟨h5, h⟩ := He.ba h
  obtain ⟨h6, h⟩ := He.ba h
  obtain ⟨h7, h8⟩ := He.ba h
  exact ⟨He.eqO_ok h1, He.eqO_ok h2, of_decide_eq_true h3, h4, He.eqO_ok h5, He.eqO_ok h6, of_decide_eq_true h7, of_decide_eq_true h8⟩
/-- x + y of own instances, where an error may leave -/
def rAddE (A : Addr) (sp : Sp) (E : XK) : R2 := fun x y H Q => ∃ a dx fs b dy gs, x = .ref a ∧ y = .ref b ∧ H a = some (.ins A dx fs) ∧ H b = some (.ins A dy gs) ∧ sp [x, y] H Q E
def tAddS (A : Addr) (sp : Sp) (E : L2.St → XK) (ta tb : TE) : TE := fun σ H Q => tOp (rAddE A sp (E σ)) ta tb σ H Q
theorem mw_addS {A : Addr} {sp : Sp} {E : L2.St → XK} {ta tb : TE} {σ : L2.St} {H : Hp} {Q : VK} : tAddS A sp E ta tb σ H Q = ta σ H (KOp1 (rAddE A sp (E σ)) tb σ Q) := rfl
theorem addE_l {A : Addr} {sp : Sp} {E : XK} {H : Hp} {Q : VK} {a dx b dy : Addr} {fs gs : List (Str × V)} (h : H a = some (.ins A dx fs)) (h' : H b = some (.ins A dy gs)) (q : sp [.ref a, .ref b] H Q E) : rAddE A sp E (.ref a) (.ref b) H Q := ⟨a, dx, fs, b, dy, gs, rfl, rfl, h, h', q⟩
theorem pe_addS {CX : CXT} {K : PySem.W.Frag} {a b : Expr} {ta tb : TE} (hK : X.K = K) (M : MethOf X.prog X.w X.K X.mg X.base CX k C "__add__" ps sp) (hc : PySem.W.selfFirst X.K (He.ga X.K C) = true) (hr : Room k X.A) (hx : ∀ σ, PassesAt CX X σ (E σ)) (ha : PE X a ta) (hb : PE X b tb) :
    PE X (.BinOp a .Add b pos) (tAddS (He.ga K C) sp E ta tb) := by
  subst hK
  obtain ⟨f, fd, F, hm, hbd⟩ := M.ex
  refine ⟨fun pins s σ H Q I h => ?_⟩
  refine wpAny_BinOp (binT ha hb I h fun v u s2 x y H2 I2 rx ry q => ?_)
  obtain ⟨a, dx, fs, b, dy, gs, rfl, rfl, ea, eb, q⟩ := q
  cases (show v = Value.ref a from rx)
  cases (show u = Value.ref b from ry)
  obtain ⟨mA, J, _⟩ := ins_get I2.hok ea
  obtain ⟨od, J, _⟩ := J.look
  obtain ⟨mB, J', _⟩ := ins_get I2.hok eb
  obtain ⟨od', J', _⟩ := J'.look
  obtain ⟨mF, hF⟩ := I2.fr
  refine PySem.W.binop_K (op := .Add) hF I2.ok.mod.kin J J'.type hc hm.at_ hm.fn ?_
  refine wpAny_mono (run_fnS (us := [.ref a, .ref b]) (vs := [.ref a, .ref b]) F hr hbd (hx σ) I2 (.cons rfl (.cons rfl .nil)) q) (fun w s' z => ?_) fun _ _ x => x
  obtain ⟨z', H', I', rz, qz⟩ := z
  exact SlX.cmpback rz ⟨z', H', I', rz, qz⟩
end
/-! texts of plain data are texts -/
theorem ok_of (s : String) : PyData.strOk (Str.ofString s) = true := by
  rw [Str.ofString_eq_toList]
  unfold PyData.strOk
  simp only [List.all_toArray, List.all_map, List.all_eq_true, Function.comp]
  intro c _
  refine decide_eq_true ?_
  have h := c.valid
  have e : c.toNat = c.val.toNat := rfl
  rw [e]
  rcases h with h | ⟨_, h⟩
  · exact Nat.lt_trans h (by decide)
  · exact h
theorem ok_app {a b : Str} (h1 : PyData.strOk a = true) (h2 : PyData.strOk b = true) : PyData.strOk (a ++ b) = true := by
  unfold PyData.strOk at *
  show (a.cps ++ b.cps).all _ = true
  rw [Array.all_append, h1, h2]; rfl
theorem ok_join {sep : Str} (hs : PyData.strOk sep = true) : ∀ (ts : List Str), (∀ t ∈ ts, PyData.strOk t = true) → PyData.strOk (Str.join sep ts) = true
  | [], _ => by first | rfl | exact ok_of "" | (unfold Str.join PyData.strOk; simp)
  | [x], h => h x (by simp)
  | x :: y :: r, h => by
    show PyData.strOk (x ++ sep ++ Str.join sep (y :: r)) = true
    exact ok_app (ok_app (h x (by simp)) hs) (ok_join hs (y :: r) fun t ht => h t (by simp at ht ⊢; exact .inr ht))
theorem ok_tuple (ts : List Str) (h : ∀ t ∈ ts, PyData.strOk t = true) : PyData.strOk (tupleText ts) = true := by
  unfold tupleText
  exact ok_app (ok_app (ok_of "(") (ok_join (ok_of ", ") ts h)) (ok_of _)
section
variable {K : PySem.W.Frag} {σ : L2.St} {H : Hp} {Q : VK} {te : TE} {vs : List Nat} {j : Nat}
theorem lc_intsT {a : Addr} {ns : List Int} (f : Int → Int) (h : SqT K H a (ns.map V.int)) (hlen : ns.length ≤ 100000) (hw : ∀ n : Int, wipe ((wipe σ vs).set j (some (.int n))) vs = wipe σ vs)
    (hr : ∀ n ∈ ns, ∀ (H' : Hp) (Q' : VK), Q' (.int (f n)) H' → te ((wipe σ vs).set j (some (.int n))) H' Q') (q : ∀ Dl H', H Dl = none → H' Dl = some (.lst ((ns.map f).map V.int)) → Fr [] H H' → Q (.ref Dl) H') : KLcT K (gName j) tYes te vs σ Q (.ref a) H := by
  have key : ∀ x ∈ ns.map V.int, ∃ n ∈ ns, x = V.int n := fun x hx => by
    obtain ⟨n, hn, e⟩ := List.mem_map.mp hx
    exact ⟨n, hn, e.symm⟩
  refine lc_t (S := []) (fun _ => True) (fun x y _ => y = some (match x with | .int n => .int (f n) | v => v)) h (by simp) (by rw [List.length_map]; exact hlen) (by simp) (lc_pure (fun x hx => ?_) fun x hx H' Q' k => ?_) fun Dl ys H' hD e k fr _ => ?_
  · obtain ⟨n, _, rfl⟩ := key x hx; exact hw n
  · obtain ⟨n, hn, rfl⟩ := key x hx; exact hr n hn H' Q' k
  · have ey := kept_pure (f := fun x => match x with | .int n => .int (f n) | v => v) k
    rw [List.map_map] at ey
    refine q Dl H' hD ?_ fr
    rw [e, ey, List.map_map] <;> rfl
end
/-- xs != [] (a list made here; its items may be own objects) -/
def rNeE : R2 := fun x y H Q => ∃ a b xs, x = .ref a ∧ y = .ref b ∧ H a = some (.lst xs) ∧ H b = some (.lst []) ∧ Q (.bl (!xs.isEmpty)) H
theorem op_neE {X : Cx} (hu : X.A.units + 64 < cLine) : OpR X (compareOp .NotEq) rNeE := by
  intro pins s σ H x y v u Q I rx ry h
  obtain ⟨a, b, xs, rfl, rfl, ha, hb, q⟩ := h
  cases xs with
  | nil => exact op_neD hu pins s σ H _ _ v u Q I rx ry ⟨.list [], .list [], .lst (SqL.of ha) .nil, .lst (SqL.of hb) .nil, rfl, rfl, q⟩
  | cons z zs =>
    cases (show v = Value.ref a from rx)
    cases (show u = Value.ref b from ry)
    obtain ⟨_, vs, n1, r1, o1⟩ := (show ObjOk X.prog X.w H s.heap a (.lst (z :: zs)) from I.hok a _ ha)
    obtain ⟨_, ws, n2, r2, o2⟩ := (show ObjOk X.prog X.w H s.heap b (.lst []) from I.hok b _ hb)
    have l1 := Paired.length r1
    have l2 := Paired.length r2
    refine SeqAt.RcNeAt.lists_lengths (items := vs.toArray) (items2 := ws.toArray) ⟨_, o1, rfl, _, rfl⟩ ⟨_, o2, rfl, _, rfl⟩ ?_ (by omega) X.prog X.w _ _ ⟨.bl true, H, I, rfl, q⟩
    simp only [List.size_toArray, bne_iff_ne, ne_eq, ← l1, ← l2]
    simp
theorem neE_l {H : Hp} {Q : VK} {a b : Addr} {xs : List V} (h : H a = some (.lst xs)) (h2 : H b = some (.lst [])) (q : Q (.bl (!xs.isEmpty)) H) : rNeE (.ref a) (.ref b) H Q := ⟨a, b, xs, rfl, rfl, h, h2, q⟩
end My
/-! x < y of integers, of tuples and of lists of such, at any depth. -/
namespace My
open PySem PySem.Spec PyProof.Rows L2
mutual
def ltv : PyData → PyData → Bool
  | .int a, .int b => decide (a < b)
  | .tuple xs, .tuple ys => ltvs xs ys
  | .list xs, .list ys => ltvs xs ys
  | _, _ => false
def ltvs : List PyData → List PyData → Bool
  | [], ys => !ys.isEmpty
  | _ :: _, [] => false
  | x :: xs, y :: ys => if PyData.eqv x y then ltvs xs ys else ltv x y
end
mutual
/-- the two can be held against one another -/
def ltOk : PyData → PyData → Bool
  | .int _, .int _ => true
  | .tuple xs, .tuple ys => ltOks xs ys
  | .list xs, .list ys => ltOks xs ys
  | _, _ => false
def ltOks : List PyData → List PyData → Bool
  | x :: xs, y :: ys => (PyData.eqv x y || ltOk x y) && ltOks xs ys
  | _, _ => true
end
theorem first_map {e r : Nat → Bool} {fin : Bool} {f : Nat → Nat} : ∀ l : List Nat, SeqAt.firstLt e r fin (l.map f) = SeqAt.firstLt (fun j => e (f j)) (fun j => r (f j)) fin l
  | [] => rfl
  | j :: l => by
    simp only [List.map_cons, SeqAt.firstLt]
    rw [first_map l]
theorem first_ltvs : ∀ xs ys : List PyData, SeqAt.firstLt (SeqAt.pairEq xs ys) (fun j => ltv (xs.getD j .none) (ys.getD j .none)) (decide (xs.length < ys.length)) (List.range (min xs.length ys.length)) = ltvs xs ys
  | [], [] => by simp [SeqAt.firstLt, ltvs]
  | [], _ :: _ => by simp [SeqAt.firstLt, ltvs]
  | _ :: _, [] => by simp [SeqAt.firstLt, ltvs]
  | x :: xs, y :: ys => by
    have el : Nat.min (xs.length + 1) (ys.length + 1) = Nat.min xs.length ys.length + 1 := by
      show min _ _ = min _ _ + 1
      omega
    show SeqAt.firstLt _ _ _ (List.range (Nat.min (xs.length + 1) (ys.length + 1))) = _
    rw [el, List.range_succ_eq_map, SeqAt.firstLt, first_map]
    have e2 : decide ((x :: xs).length < (y :: ys).length) = decide (xs.length < ys.length) := by simp
    rw [e2, ltvs, ← first_ltvs xs ys]
    rfl
theorem okAt : ∀ {xs ys : List PyData}, ltOks xs ys = true → ∀ j, j < xs.length → j < ys.length → SeqAt.pairEq xs ys j = false → ltOk (xs.getD j .none) (ys.getD j .none) = true
  | [], _, _, _, h, _, _ => absurd h (Nat.not_lt_zero _)
  | _ :: _, [], _, _, _, h, _ => absurd h (Nat.not_lt_zero _)
  | x :: xs, y :: ys, ok, 0, _, _, n => by
    rw [ltOks, Bool.and_eq_true, Bool.or_eq_true] at ok
    rcases ok.1 with z | z
    · have n' : PyData.eqv x y = false := n
      rw [z] at n'; cases n'
    · exact z
  | x :: xs, y :: ys, ok, j + 1, h1, h2, n => by
    rw [ltOks, Bool.and_eq_true] at ok
    exact okAt ok.2 j (Nat.lt_of_succ_lt_succ h1) (Nat.lt_of_succ_lt_succ h2) n
mutual
theorem rcLt_reads : ∀ (d e : PyData) (A : Around) (s : Shared) (v u : Value) (as bs : List Addr), Reads s.heap v d as → Reads s.heap u e bs → d.canLay0 = true → e.canLay0 = true → ltOk d e = true →
    A.units + min d.depth e.depth < cLine → SeqAt.RcLt A s v u (ltv d e)
  | .none, e, _, _, _, _, _, _, _, _, _, _, ok, _ => by simp [ltOk] at ok
  | .bool _, e, _, _, _, _, _, _, _, _, _, _, ok, _ => by simp [ltOk] at ok
  | .str _, e, _, _, _, _, _, _, _, _, _, _, ok, _ => by simp [ltOk] at ok
  | .dict _, e, _, _, _, _, _, _, _, _, _, _, ok, _ => by simp [ltOk] at ok
  | .int a, e, A, s, _, _, _, _, r1, r2, _, _, ok, _ => by
    cases e with
    | int b =>
      cases r1; cases r2
      exact fun prog w E Q q => HT.rcLt_int A s _ _ _ _ prog w E Q q
    | _ => simp [ltOk] at ok
  | .tuple xs, e, A, s, _, _, _, _, r1, r2, c1, c2, ok, hu => by
   cases e with
   | tuple ys =>
    cases r1 with
    | @tuple l o vs n _ as₁ a1 a2 a3 a4 =>
      cases r2 with
      | @tuple l' o' ws n' _ bs₁ b1 b2 b3 b4 =>
        have z1 : vs.size = xs.length := by simpa using SeqAt.ReadsAll.length _ _ _ a4
        have z2 : ws.size = ys.length := by simpa using SeqAt.ReadsAll.length _ _ _ b4
        show SeqAt.RcLt A s _ _ (ltvs xs ys)
        rw [← first_ltvs xs ys, ← z1, ← z2]
        refine SeqAt.RcLt.tuples ⟨_, a1, a2, _, a3⟩ ⟨_, b1, b2, _, b3⟩ (SeqAt.room_here hu) (fun j j1 j2 => ?_) fun j j1 j2 ne => ?_
        · have := SeqAt.eqAt_readsAll xs ys A.in1 s vs.toList ws.toList _ _ a4 b4 c1 c2 (SeqAt.room_in hu) j (by simpa using j1) (by simpa using j2)
          simpa using this
        · have := rcLt_readsAll xs ys A.in1 s vs.toList ws.toList _ _ a4 b4 c1 c2 (SeqAt.room_in hu) j (by simpa using j1) (by simpa using j2) (okAt ok j (by omega) (by omega) ne)
          simpa using this
   | _ => simp [ltOk] at ok
  | .list xs, e, A, s, _, _, _, _, r1, r2, c1, c2, ok, hu => by
   cases e with
   | list ys =>
    cases r1 with
    | @list l o vs n _ as₁ a1 a2 a3 a4 =>
      cases r2 with
      | @list l' o' ws n' _ bs₁ b1 b2 b3 b4 =>
        have z1 : vs.size = xs.length := by simpa using SeqAt.ReadsAll.length _ _ _ a4
        have z2 : ws.size = ys.length := by simpa using SeqAt.ReadsAll.length _ _ _ b4
        show SeqAt.RcLt A s _ _ (ltvs xs ys)
        rw [← first_ltvs xs ys, ← z1, ← z2]
        refine SeqAt.RcLt.lists ⟨_, a1, a2, _, a3⟩ ⟨_, b1, b2, _, b3⟩ (SeqAt.room_here hu) (fun j j1 j2 => ?_) fun j j1 j2 ne => ?_
        · have := SeqAt.eqAt_readsAll xs ys A.in1 s vs.toList ws.toList _ _ a4 b4 c1 c2 (SeqAt.room_in hu) j (by simpa using j1) (by simpa using j2)
          simpa using this
        · have := rcLt_readsAll xs ys A.in1 s vs.toList ws.toList _ _ a4 b4 c1 c2 (SeqAt.room_in hu) j (by simpa using j1) (by simpa using j2) (okAt ok j (by omega) (by omega) ne)
          simpa using this
   | _ => simp [ltOk] at ok
theorem rcLt_readsAll : ∀ (xs ys : List PyData) (A : Around) (s : Shared) (vs ws : List Value) (as bs : List Addr), ReadsAll s.heap vs xs as → ReadsAll s.heap ws ys bs → PyData.canLayAll0 xs = true → PyData.canLayAll0 ys = true →
    A.units + min (PyData.depthAll xs) (PyData.depthAll ys) < cLine → ∀ j (h1 : j < vs.length) (h2 : j < ws.length), ltOk (xs.getD j .none) (ys.getD j .none) = true → SeqAt.RcLt A s vs[j] ws[j] (ltv (xs.getD j .none) (ys.getD j .none))
  | [], _, _, _, _, _, _, _, r1, _, _, _, _, j, h1, _, _ => by cases r1; exact absurd h1 (Nat.not_lt_zero _)
  | _ :: _, [], _, _, _, _, _, _, _, r2, _, _, _, j, _, h2, _ => by cases r2; exact absurd h2 (Nat.not_lt_zero _)
  | x :: xs, y :: ys, A, s, _, _, _, _, r1, r2, c1, c2, hu, j, h1, h2, ok => by
    have c1' : x.canLay0 = true ∧ PyData.canLayAll0 xs = true := by simpa [PyData.canLayAll0] using c1
    have c2' : y.canLay0 = true ∧ PyData.canLayAll0 ys = true := by simpa [PyData.canLayAll0] using c2
    cases r1 with
    | cons p ps =>
      cases r2 with
      | cons p' ps' =>
        cases j with
        | zero => exact rcLt_reads x y A s _ _ _ _ p p' c1'.1 c2'.1 ok (SeqAt.room_head hu)
        | succ j => exact rcLt_readsAll xs ys A s _ _ _ _ ps ps' c1'.2 c2'.2 (SeqAt.room_tail hu) j (Nat.lt_of_succ_lt_succ h1) (Nat.lt_of_succ_lt_succ h2) ok
end
def rLtD (K : PySem.W.Frag) : R2 := fun x y H Q => ∃ d e, Dp K H x d ∧ Dp K H y e ∧ SeqAt.shaped d = true ∧ SeqAt.shaped e = true ∧ ltOk d e = true ∧ Q (.bl (ltv d e)) H
theorem op_ltD {X : Cx} (hu : X.A.units + 64 < cLine) : OpR X (compareOp .Lt) (rLtD X.K) := by
  intro pins s σ H x y v u Q I rx ry h
  obtain ⟨d, e, hd, he, sd, se, ok, q⟩ := h
  obtain ⟨as, r1⟩ := Dp.reads I d x v hd rx
  obtain ⟨bs, r2⟩ := Dp.reads I e y u he ry
  have dp : d.depth ≤ 64 := by
    have z : (d.canLay0 && decide (d.depth ≤ 64)) = true := sd
    rw [Bool.and_eq_true] at z
    exact of_decide_eq_true z.2
  exact rcLt_reads d e _ _ _ _ _ _ r1 r2 (SeqAt.canLay_of_shaped sd) (SeqAt.canLay_of_shaped se) ok (by omega) X.prog X.w _ _ ⟨.bl _, H, I, rfl, q⟩
theorem ltD_l {K : PySem.W.Frag} {H : Hp} {Q : VK} {x y : V} {d e : PyData} (hx : Dp K H x d) (hy : Dp K H y e) (s1 : SeqAt.shaped d = true) (s2 : SeqAt.shaped e = true) (ok : ltOk d e = true) (q : Q (.bl (ltv d e)) H) : rLtD K x y H Q := ⟨d, e, hx, hy, s1, s2, ok, q⟩
end My
/-! Objects made with values by place and by name; texts. -/
namespace My
open PySem PySem.Spec PyProof.Rows L2
/-- a class whose instances are made by an __init__ that has parameters by name only (and defaults for these) -/
structure MakeOfK (P : Program) (w : World) (K : PySem.W.Frag) (mg : Str → Option Value) (base : Heap) (CX : CXT) (k : Nat) (d : He.DefD) (C : Str) (ps : List Str) (sp : Sp) : Prop where
  ex : ∃ (f : Addr) (fd : FuncData), FnOk P w K mg base CX k f fd ps sp ∧ Mk K (He.ga K C) f ∧ FunD K d.name d.qual d.params d.body d.scope [] (d.kws K) f fd
  gl : mg C = some (.ref (He.ga K C))
section
variable {K : PySem.W.Frag} {σ : L2.St} {H : Hp} {Q : VK} {ta tk : TA} {A : Addr} {sp : Sp} {E : L2.St → XK} {n m : Nat} {vs zs : List V} {g : List V → List V → List V}
/-- C(e, .., k = v, ..) -/
def KMkM2 (A : Addr) (sp : Sp) (g : List V → List V → List V) (n m : Nat) (E : XK) (Q : VK) (vs : List V) : List V → Hp → Prop := fun zs H => vs.length = n ∧ zs.length = m ∧ ∀ x dx, H x = none → H dx = none → dx ≠ x → sp (.ref x :: g vs zs) (upd (upd H dx (.own x)) x (.ins A dx [])) (fun v H2 => v = .non ∧ Q (.ref x) H2) E
def KMkM1 (A : Addr) (sp : Sp) (g : List V → List V → List V) (n m : Nat) (E : L2.St → XK) (tk : TA) (σ : L2.St) (Q : VK) : List V → Hp → Prop := fun vs H1 => tk σ H1 (KMkM2 A sp g n m (E σ) Q vs)
def tMakeM (A : Addr) (sp : Sp) (g : List V → List V → List V) (n m : Nat) (E : L2.St → XK) (t tk : TA) : TE := fun σ H Q => t σ H (KMkM1 A sp g n m E tk σ Q)
theorem mw_makeM : tMakeM A sp g n m E ta tk σ H Q = ta σ H (KMkM1 A sp g n m E tk σ Q) := rfl
theorem mw_makeM1 : KMkM1 A sp g n m E tk σ Q vs H = tk σ H (KMkM2 A sp g n m (E σ) Q vs) := rfl
theorem mkM_l {E : XK} (h1 : vs.length = n) (h2 : zs.length = m) (q : ∀ x dx, H x = none → H dx = none → dx ≠ x → sp (.ref x :: g vs zs) (upd (upd H dx (.own x)) x (.ins A dx [])) (fun v H2 => v = .non ∧ Q (.ref x) H2) E) : KMkM2 A sp g n m E Q vs zs H := ⟨h1, h2, q⟩
end
section
variable {X : Cx} {k n : Nat} {d : He.DefD} {C : Str} {ps ks : List Str} {sp : Sp} {e : Expr} {es : List Expr} {t tk : TA} {p pos : Pos} {E : L2.St → XK} {kws : List Keyword}
theorem pe_mkM {CX : CXT} {K : PySem.W.Frag} (hK : X.K = K) (M : MakeOfK X.prog X.w X.K X.mg X.base CX k d C ps sp) (g : {α : Type} → List α → List α → List α) (hr : Room (k + 1) X.A) (hx : ∀ σ, PassesAt CX X σ (E σ)) (hg : Gl X C) (ha : PA X (e :: es) t) (hkw : PK X kws tk)
    (hb : ∀ (kV doc pm : Value) (an : Option Addr) (cdv ct : Value) (x : Value) (us ws : List Value), us.length = n → ws.length = ks.length → bindArgs (PySem.W.fnOf d.name d.qual d.params d.body d.scope .none kV doc pm an cdv ct) ⟨x :: us, ks.zip ws⟩ = pure (ps.zip (x :: g us ws)))
    (hv : ∀ {vs zs : List V} {us ws : List Value}, Vals vs us → Vals zs ws → Vals (g vs zs) (g us ws))
    (hall : (backToKw pos (keywordEach kws X.env)).all (·.1.isSome) = true := by rfl) (hks : (backToKw pos (keywordEach kws X.env)).filterMap (·.1) = ks := by rfl) (hdb : (C == ("__debug__" : Str)) = false := by decide) (he : starEach (e :: es) X.env = (false, eval e X.env) :: starEach es X.env := by rfl)
    (hpl : ((backTo pos (starEach (e :: es) X.env)).any (·.1) || (backToKw pos (keywordEach kws X.env)).any (·.1.isNone)) = false := by rfl) : PE X (.Call (.Name C p) (e :: es) kws pos) (tMakeM (He.ga K C) sp g n ks.length E t tk) := by
  subst hK
  obtain ⟨f, fd, F, hm, FD⟩ := M.ex
  refine ⟨fun pins s σ H Q I h => ?_⟩
  refine wpAny_Call_Name_kw (ld_glob I hg M.gl ?_ hdb)
  refine PySem.W.callWith_KW (h₀ := X.base) I.ok.mod.kin hm.kp hall (thn (ha.run pos pins s σ H _ I h) fun us s1 ⟨vs, H1, I1, r, q⟩ => ?_) hpl he
  refine thn (hkw.run pos pins s1 σ H1 _ I1 q) fun ws s2 ⟨zs, H2, I2, rz, l1, l2, q2⟩ => ⟨I2.kIn, ?_⟩
  rw [hks]
  refine run_mkS hm F hr (fun s x hk => ?_) (hx σ) I2 (hv r rz) q2
  obtain ⟨oc, od, dV, kV, doc, pm, an, cdv, ct, osl, rfl, lk, hcd, hD, hK⟩ := FD.ex
  rcases hD with ⟨_, rfl⟩ | ⟨z, _⟩
  · exact .of_eq (hb kV doc pm an cdv ct (.ref x) us ws (by rw [← r.length]; exact l1) (by rw [← rz.length]; exact l2))
  · exact absurd rfl z
theorem pass_no {X : Cx} {σ : L2.St} {E : XK} : PassesAt CX0 X σ E := fun _ _ _ _ _ _ z => z.elim
end
/-! tables of the module -/
def xTup (x : Str) (vs : List He.Dv) : Xf := fun K => He.tupB K x vs
def xTupP (x : Str) : Xf := fun K => match K.lookup (He.ga K x) with
  | some o => decide (o.cls = .type "tuple") && o.dict.isNone
  | none => false
section
variable {K : PySem.W.Frag} {H : Hp} {Q : VK} {x : Str} {vs : List He.Dv}
theorem tab_ok (h : xTup x vs K = true) (H : Hp) : SqT K H (He.ga K x) (vs.map (He.Dv.v K)) := He.tupB_ok h H
theorem tyT_ok (h : xTupP x K = true) (H : Hp) : tyV K "tuple" (.ref (He.ga K x)) H := by
  unfold xTupP at h
  cases e : K.lookup (He.ga K x) with
  | none => rw [e] at h; cases h
  | some o =>
    rw [e] at h
    have h' : (decide (o.cls = .type "tuple") && o.dict.isNone) = true := h
    obtain ⟨h1, h2⟩ := He.ba h'
    exact .inr (.inl ⟨rfl, o, e, of_decide_eq_true h1, by simpa using h2⟩)
theorem tyL {a : Addr} {xs : List V} (h : H a = some (.lst xs)) : tyV K "list" (.ref a) H := .inl ⟨rfl, xs, SqL.of h⟩
/-- t.index(w), l.index(w) of words -/
def rIdxT (K : PySem.W.Frag) : V → List V → Hp → VK → Prop := fun x xs H Q => ∃ p, ∃ ys : List Str, ∃ z j, x = .ref p ∧ xs = [.str z] ∧ SqT K H p (ys.map V.str) ∧ ys[j]? = some z ∧ (∀ m, m < j → ys[m]? ≠ some z) ∧ Q (.int (j : Nat)) H
theorem mt_idxT {X : Cx} : MtR X "tuple.index" (rIdxT X.K) := mt_tup_index
theorem at_idx {ws : List Str} {z : Str} (h : z ∈ ws) : ws[ws.idxOf z]? = some z ∧ ∀ m, m < ws.idxOf z → ws[m]? ≠ some z := by
  have hlt : ws.idxOf z < ws.length := List.idxOf_lt_length_of_mem h
  refine ⟨by rw [List.getElem?_eq_getElem hlt, List.getElem_idxOf hlt], ?_⟩
  clear hlt
  intro m hm e
  induction ws generalizing m with
  | nil => cases h
  | cons y ys ih =>
    rw [List.idxOf_cons] at hm
    cases e2 : (y == z) with
    | true => rw [e2] at hm; exact absurd hm (Nat.not_lt_zero _)
    | false =>
      rw [e2] at hm
      cases m with
      | zero =>
        have : y = z := Option.some.inj e
        rw [this] at e2
        simp at e2
      | succ m =>
        have hne : z ≠ y := fun q => by rw [q] at e2; simp at e2
        have h' : z ∈ ys := by
          rcases List.mem_cons.mp h with q | q
          · exact absurd q hne
          · exact q
        exact ih h' m (Nat.lt_of_succ_lt_succ hm) e
theorem idxT_l {a : Addr} {ws : List Str} {z : Str} (h : SqT K H a (ws.map V.str)) (m : z ∈ ws) (q : Q (.int (ws.idxOf z : Nat)) H) : rIdxT K (.ref a) [.str z] H Q :=
  ⟨a, ws, z, ws.idxOf z, rfl, rfl, h, (at_idx m).1, (at_idx m).2, q⟩
theorem idxL_l {a : Addr} {ws : List Str} {z : Str} (h : SqL K H a (ws.map V.str)) (m : z ∈ ws) (q : Q (.int (ws.idxOf z : Nat)) H) : rIndex K (.ref a) [.str z] H Q := by
  refine ⟨a, ws.map V.str, .str z, ws.idxOf z, .str z, rfl, rfl, h, rfl, ?_, ?_, ?_, fun j z' hj e => ?_, q⟩
  · simp [flatV]
  · rw [List.getElem?_map, (at_idx m).1] <;> rfl
  · show (z == z) = true
    simp
  · rw [List.getElem?_map] at e
    cases e3 : ws[j]? with
    | none => rw [e3] at e; cases e
    | some y =>
      rw [e3] at e
      cases e
      have : y ≠ z := fun q => (at_idx m).2 j hj (by rw [e3, q])
      show (y == z) = false
      simp [this]
theorem inV_str {z : Str} {ws : List Str} : inV (.str z) (ws.map V.str) = decide (z ∈ ws) := by
  unfold inV
  induction ws with
  | nil => rfl
  | cons y ys ih =>
    rw [List.map_cons, List.any_cons, ih]
    have e : eqV (.str y) (.str z) = decide (z = y) := by
      show (y == z) = _
      by_cases h : z = y
      · rw [decide_eq_true h, h]; simp
      · rw [decide_eq_false h]
        have : y ≠ z := fun q => h q.symm
        simp [this]
    rw [e, ← Bool.decide_or]
    simp
theorem flat_strs {ws : List Str} : (ws.map V.str).all flatV = true := by simp [flatV]
theorem notIn_l {p : Addr} {y : V} {xs : List V} (h : SqL K H p xs ∨ SqT K H p xs) (f : flatV y = true) (g : xs.all flatV = true) (q : Q (.bl (!inV y xs)) H) : rIn K true y (.ref p) H Q := ⟨p, xs, rfl, h, f, g, q⟩
theorem cat_l {l b : Addr} {xs zs : List V} (h : H l = some (.lst xs)) (h2 : H b = some (.lst zs)) (n : xs.length + zs.length ≤ sizeLine) (q : ∀ p, H p = none → Q (.ref p) (upd H p (.lst (xs ++ zs)))) : rCat (.ref l) (.ref b) H Q := ⟨l, b, xs, zs, rfl, rfl, h, h2, n, q⟩
/-- list(xs), tuple(xs) -/
def rListOf (K : PySem.W.Frag) : List V → Hp → VK → Prop := fun xs H Q => ∃ p ys, xs = [.ref p] ∧ (SqL K H p ys ∨ SqT K H p ys) ∧ ∀ l, H l = none → Q (.ref l) (upd H l (.lst ys))
theorem call_listOf {X : Cx} : CallR X (.type "list") (rListOf X.K) := call_list_of
theorem listOf_l {p : Addr} {ys : List V} (h : SqL K H p ys ∨ SqT K H p ys) (q : ∀ l, H l = none → Q (.ref l) (upd H l (.lst ys))) : rListOf K [.ref p] H Q := ⟨p, ys, rfl, h, q⟩
theorem dp_ints : ∀ ns : List Int, DpAll K H (ns.map V.int) (ns.map PyData.int)
  | [] => .nil
  | n :: ns => .cons (.int n) (dp_ints ns)
theorem eqv_oo {a b : Option Int} : PyData.eqv (oD a) (oD b) = decide (a = b) := by
  cases a <;> cases b
  · rfl
  · rfl
  · rfl
  · rename_i i j
    show (i == j) = _
    by_cases h : i = j
    · simp [h]
    · simp [h]
theorem eqv_ss {u w : Str} : PyData.eqv (.str u) (.str w) = decide (u = w) := by
  show (u == w) = _
  by_cases h : u = w
  · simp [h]
  · simp [h]
/-- all kept, place by place -/
theorem kept_at {R : V → Option V → Hp → Prop} {H' : Hp} (h : ∀ x o, R x o H' → ∃ y, o = some y) : ∀ {xs ys : List V}, Kept R H' xs ys → ys.length = xs.length ∧ ∀ (j : Nat) (x : V), xs[j]? = some x → ∃ y, ys[j]? = some y ∧ R x (some y) H'
  | _, _, .nil => ⟨rfl, fun (j : Nat) (x : V) (e : ([] : List V)[j]? = some x) => by simp at e⟩
  | _, _, .yes r k => by
    obtain ⟨e1, e2⟩ := kept_at h k
    refine ⟨by simp [e1], fun j x e => ?_⟩
    cases j with
    | zero => cases e; exact ⟨_, rfl, r⟩
    | succ j => exact e2 j x e
  | _, _, .no r k => by
    obtain ⟨y, e⟩ := h _ _ r
    cases e
end
end My
/-! try: .. with several named clauses; isinstance of a caught error whose class is known late. -/
namespace My
open PySem PySem.Spec PyProof.Rows L2
/-- the clauses, one behind another; i: the slot of their name; an error that none takes is not wished -/
def wClauses (K : PySem.W.Frag) (i : Nat) (D : Ends) : List (Value × (Addr → Value → Option Addr → TS)) → WX
  | [] => fun _ _ _ _ => False
  | (c, ts) :: r => wAs K c i ts (wClauses K i D r) D
theorem wcl_no {K : PySem.W.Frag} {c cls : Value} {i : Nat} {d : Option Addr} {ts : Addr → Value → Option Addr → TS} {Wo : WX} {D : Ends} {σ : L2.St} {H : Hp} (h : PySem.W.exmOne K cls c = some false) (q : Wo cls d σ H) : wAs K c i ts Wo D cls d σ H :=
  ⟨false, h, (fun z => nomatch z), fun _ => q⟩
/-- the clauses' own readings -/
inductive Clauses (X : Cx) (n : Str) : List ExceptHandler → List (Value × (Addr → Value → Option Addr → TS)) → Prop
  | end_ : Clauses X n [] []
  | next {x : Str} {c : Value} {ts : Addr → Value → Option Addr → TS} {b₀ : Stmt} {su : List Stmt} {np p' : Pos} {hs : List ExceptHandler} {l : List (Value × (Addr → Value → Option Addr → TS))} (nm : Names X x c)
      (rd : ∀ (a : Addr) (o : Obj) (cls : Value) (d : Option Addr) (pn : List (Addr × Obj)), Zc cls d o → (∃ vs, o.data = .fields vs) → PSs (X.suite a ((a, o) :: pn)) (b₀ :: su) (ts a cls d)) (r : Clauses X n hs l) :
      Clauses X n (.ExceptHandler (some (.Name x np)) (some n) (b₀ :: su) p' :: hs) ((c, ts) :: l)
def tTryC (K : PySem.W.Frag) (i : Nat) (l : List (Value × (Addr → Value → Option Addr → TS))) (tb : WX → TS) : TS := fun D σ H => tb (wClauses K i D l) D σ H
theorem mw_tryC {K : PySem.W.Frag} {i : Nat} {l : List (Value × (Addr → Value → Option Addr → TS))} {tb : WX → TS} {D : Ends} {σ : L2.St} {H : Hp} : tTryC K i l tb D σ H = tb (wClauses K i D l) D σ H := rfl
theorem ps_tryC {X : Cx} {n : Str} {i : Nat} {body : List Stmt} {h₀ : ExceptHandler} {hs : List ExceptHandler} {l : List (Value × (Addr → Value → Option Addr → TS))} {pos : Pos} {tb : WX → TS} (est : X.stack = X.env :: X.outer) (efr : X.env.frame = some X.env.locals) (nd : X.N.Nodup) (at_ : X.N[i]? = some n) (kd : X.env.kindOf n = some .local)
    (rb : ∀ (W : WX) (pn : List (Addr × Obj)) (xe : Value → Shared → Prop), Takes (X.tr pn xe) W → PassesOwn (model X.prog X.w) X.A X.env xe → PSs (X.tr pn xe) body (tb W)) (cl : Clauses X n (h₀ :: hs) l) :
    PS X (.Try body (h₀ :: hs) [] [] pos) (tTryC X.K i l tb) := by
  refine ⟨fun pins s σ H D I h => wpAny_Try_except ?_⟩
  have frs' : X.A.frames = some (X.env :: X.outer) := I.ok.frames.trans (congrArg some est)
  let after : Value → Shared → Prop := fun e z1 => wpAny (model X.prog X.w) X.A (noteFrame e X.env) (fun _ z2 => wpAny (model X.prog X.w) X.A (setFlight e none) (fun _ z3 => wpAny (model X.prog X.w) X.A (handleBy e X.env (h₀ :: hs)) (SP X pins D) X.xe z3) X.xe z2) X.xe z1
  have catch_ : Takes (X.tr (X.pn ++ pins) after) (wClauses X.K i D l) := by
    intro u z ⟨a, B, sI, pins', σ', H', cls, d, eu, Jt, nb, up, sk, na, os, ag, w⟩
    subst eu
    have Jo : Inv X pins σ' H' sI := Jt.ofTry I.ok
    have sk1 : Sky B (X.env :: X.outer) a (Zc cls d) X.env.locals z.heap := by rw [← est]; exact sk
    show wpAny (model X.prog X.w) X.A (noteFrame (.ref a) X.env) _ _ _
    refine Sky.land Zc.steady frs' efr sk1 fun g3 fl up3 => ?_
    have Jl : Inv X pins σ' H' { z with heap := g3 } := Jo.landed nb fl.1 (up.trans up3) os ag
    obtain ⟨o3, fs3, ho3, zc3, dt3⟩ := fl.there
    -- the error's place is no frame of anyone
    have off : a ∉ frs (X.env :: X.outer) := fun hm => by
      obtain ⟨_, o', ho', no⟩ := (fl.2.2.1).mem hm
      rw [ho3] at ho'
      cases ho'
      exact no _ dt3
    have offL : a ≠ X.env.locals := fun q => off (List.mem_filterMap.mpr ⟨X.env, List.mem_cons_self, efr.trans (congrArg some q.symm)⟩)
    have offF : a ∉ X.fs := fun hm => by
      obtain ⟨e, he, q⟩ := List.mem_filterMap.mp hm
      exact off (List.mem_filterMap.mpr ⟨e, .tail _ he, q⟩)
    have Sx := Jl.suite ho3 dt3 na offL offF
    have isA : PySem.W.Looks (model X.prog X.w) g3 (typeOf (.ref a)) cls := fun A Q E z' k q => wpAny_typeOf_ref (k _ _ ho3) (by rw [zc3.1]; exact q)
    suffices run : ∀ {hs' l'}, Clauses X n hs' l' → wClauses X.K i D l' cls d σ' H' → wpAny (model X.prog X.w) X.A (handleBy (.ref a) X.env hs') (SP X pins D) X.xe { z with heap := g3 } from run cl w
    intro hs' l' k
    induction k with
    | end_ => exact fun w => w.elim
    | @next x c ts b₀ su np p' hs2 l2 nm rd _ ih =>
      rintro ⟨b, is, yes, no⟩
      have name_ : ∀ {Q E : Value → Shared → Prop}, Q c { z with heap := g3 } → wpAny (model X.prog X.w) (X.A.mark (some (.ref a))) (eval (.Name x np) X.env) Q E { z with heap := g3 } := fun {Q E} q => by
        rcases nm with ⟨n1, n2, n3 | ⟨n3, n4, n5⟩⟩
        · exact ld_glob (X := X.suite a ((a, o3) :: (X.pn ++ pins))) Sx n1 n3 q n2
        · exact ld_blt (X := X.suite a ((a, o3) :: (X.pn ++ pins))) Sx n1 n3 n4 q n5 n2
      refine wpAny_handleBy_cons (codeAny_handlers_test (name_ ((PySem.W.exm_one (M := model X.prog X.w) Jl.kIn isA is).here ?_))) (fun q => nomatch q)
      cases b with
      | false => exact ih (no rfl)
      | true =>
        refine codeAny_handlers_suite_as (HandSPX.lands_againZ fl fun g4 fl4 up4 => ?_)
        have J4 : Inv X pins σ' H' { z with heap := g4 } := Jo.landed nb fl4.1 ((up.trans up3).trans up4) os ag
        obtain ⟨o4, fs4, ho4, zc4, dt4⟩ := fl4.there
        refine store_ok (X := X.suite a ((a, o4) :: (X.pn ++ pins))) (v := .ref a) (J4.suite ho4 dt4 na offL offF) nd at_ (.inl kd) rfl (fun z5 S5 => ?_) (.inr kd)
        refine wpAny_mono ((rd a o4 cls d (X.pn ++ pins) zc4 ⟨_, dt4⟩).run [] z5 _ H' _ S5 (yes rfl a na)) (fun f z6 done => ?_) (fun _ _ q => q.elim)
        have leave : ∀ {σ6 : L2.St} {H6 : Hp} {Q : Shared → Prop}, Inv (X.suite a ((a, o4) :: (X.pn ++ pins))) [] σ6 H6 z6 → (∀ z7, Inv X pins (σ6.set i none) H6 z7 → Q z7) → wpAny (model X.prog X.w) X.A (do bindName X.env n .none; unbindBehindTheSuite X.env n p') (fun _ z7 => Q z7) X.xe z6 :=
          fun {σ6 H6 Q} S6 q => gone_ok (S6.unsuite I.ok) nd at_ kd q
        cases f with
        | ret u => exact let ⟨v6, _, _, S6, r6, q6⟩ := done; leave S6 fun _ J7 => ⟨v6, _, _, J7, r6, q6⟩
        | next => exact let ⟨_, _, S6, q6⟩ := done; leave S6 fun _ J7 => ⟨_, _, J7, q6⟩
        | brk => exact let ⟨_, _, S6, q6⟩ := done; leave S6 fun _ J7 => ⟨_, _, J7, q6⟩
        | cont => exact let ⟨_, _, S6, q6⟩ := done; leave S6 fun _ J7 => ⟨_, _, J7, q6⟩
  refine wpAny_mono ((rb _ (X.pn ++ pins) after catch_ PassesOwn.looking).run [] s σ H D (I.toTry _) h) (fun f z1 done => ?_) (fun _ _ q => q)
  cases f with
  | next => exact let ⟨_, _, J, q⟩ := done; wpAny_execs_nil ⟨_, _, J.ofTry I.ok, q⟩
  | brk => exact let ⟨_, _, J, q⟩ := done; ⟨_, _, J.ofTry I.ok, q⟩
  | cont => exact let ⟨_, _, J, q⟩ := done; ⟨_, _, J.ofTry I.ok, q⟩
  | ret u => exact let ⟨_, _, _, J, r, q⟩ := done; ⟨_, _, _, J.ofTry I.ok, r, q⟩
/-- isinstance(e, T), e the caught error; its class is known where the reading is proved -/
def rIsLate (K : PySem.W.Frag) (a : Addr) (cls : Value) (d : Option Addr) : List V → Hp → VK → Prop := fun xs H Q => ∃ (C T dd : Addr) (fs : List (Str × V)) (b : Bool), xs = [.ref a, .ref T] ∧ ExcC K C ∧ cls = .ref C ∧ d = some dd ∧ H dd = some (.xd fs) ∧ PySem.W.kitOne K (.ref C) (.ref T) = some b ∧ Q (.bl b) H
def rIsLateB (K : PySem.W.Frag) (a : Addr) (cls : Value) (d : Option Addr) : List V → Hp → VK → Prop := fun xs H Q => ∃ (C dd : Addr) (n : String) (fs : List (Str × V)) (b : Bool), xs = [.ref a, .ty n] ∧ ExcC K C ∧ cls = .ref C ∧ d = some dd ∧ H dd = some (.xd fs) ∧ PySem.W.kitOne K (.ref C) (.type n) = some b ∧ Q (.bl b) H
section
variable {X : Cx} {a : Addr} {oe : Obj} {cls : Value} {d : Option Addr} {pn : List (Addr × Obj)}
theorem late_in {C dd : Addr} {T : Value} {fs : List (Str × V)} {b : Bool} {pins : List (Addr × Obj)} {σ : L2.St} {H : Hp} {s : Shared} {Q : VK} (E : ExcC X.K C) (hz : Zc (.ref C) (some dd) oe) (hf : ∃ vs, oe.data = .fields vs) (I : Inv (X.suite a ((a, oe) :: pn)) pins σ H s) (hd : H dd = some (.xd fs))
    (e : PySem.W.kitOne X.K (.ref C) T = some b) (q : Q (.bl b) H) : wpAny (model X.prog X.w) (X.suite a ((a, oe) :: pn)).A (call (.builtin "isinstance") [.ref a, T] []) (EP (X.suite a ((a, oe) :: pn)) pins σ Q) (X.suite a ((a, oe) :: pn)).xe s := by
  obtain ⟨vs, hv⟩ := hf
  obtain ⟨hget, _⟩ := I.pin (a, oe) (List.mem_append.mpr (.inl List.mem_cons_self))
  obtain ⟨mA, hns, _⟩ := (show ObjOk X.prog X.w H s.heap dd (.xd fs) from I.hok dd _ hd)
  obtain ⟨od, ho, _⟩ := lookIn_ns hns
  have J : PySem.W.InstAt s.heap a oe C (some od) := ⟨hget, hz.1, by unfold PySem.W.notCls; rw [hv] <;> rfl, by rw [hz.2]; exact ho⟩
  obtain ⟨cd, hc, _⟩ := PySem.W.any_some E.hd
  exact PySem.W.kia_one (PySem.W.kitx_exc (by rw [hc] <;> rfl) E.hg E.hk E.hs E.ha E.hn E.ht E.hm) I.kIn J e (fun z => nomatch z) fun tk => ⟨.bl b, H, I.tok tk, rfl, q⟩
theorem call_isLate (hz : Zc cls d oe) (hf : ∃ vs, oe.data = .fields vs) : CallR (X.suite a ((a, oe) :: pn)) (.builtin "isinstance") (rIsLate X.K a cls d) := by
  intro pins s σ H xs us Q I r ⟨C, T, dd, fs, b, e1, E, e2, e3, hd, e, q⟩
  subst e1 e2 e3
  obtain ⟨u1, u2, rfl, r1, r2⟩ := vals2 r
  cases (show u1 = Value.ref a from r1)
  cases (show u2 = Value.ref T from r2)
  exact late_in E hz hf I hd e q
theorem call_isLateB (hz : Zc cls d oe) (hf : ∃ vs, oe.data = .fields vs) : CallR (X.suite a ((a, oe) :: pn)) (.builtin "isinstance") (rIsLateB X.K a cls d) := by
  intro pins s σ H xs us Q I r ⟨C, dd, n, fs, b, e1, E, e2, e3, hd, e, q⟩
  subst e1 e2 e3
  obtain ⟨u1, u2, rfl, r1, r2⟩ := vals2 r
  cases (show u1 = Value.ref a from r1)
  cases (show u2 = Value.type n from r2)
  exact late_in E hz hf I hd e q
end
section
variable {K : PySem.W.Frag} {H : Hp} {Q : VK} {a C T dd : Addr} {fs : List (Str × V)} {b : Bool}
theorem late_l (E : ExcC K C) (h : H dd = some (.xd fs)) (e : PySem.W.kitOne K (.ref C) (.ref T) = some b) (q : Q (.bl b) H) : rIsLate K a (.ref C) (some dd) [.ref a, .ref T] H Q := ⟨C, T, dd, fs, b, rfl, E, rfl, rfl, h, e, q⟩
theorem lateB_l {n : String} (E : ExcC K C) (h : H dd = some (.xd fs)) (e : PySem.W.kitOne K (.ref C) (.type n) = some b) (q : Q (.bl b) H) : rIsLateB K a (.ref C) (some dd) [.ref a, .ty n] H Q := ⟨C, dd, n, fs, b, rfl, E, rfl, rfl, h, e, q⟩
end
def xKitB (C : Str) (n : String) (b : Bool) : Xf := fun K => decide (PySem.W.kitOne K (.ref (He.ga K C)) (.type n) = some b)
/-! texts: joined, cut -/
def rJoin (K : PySem.W.Frag) : V → List V → Hp → VK → Prop := fun x xs H Q => ∃ a p, ∃ ys : List Str, x = .str a ∧ xs = [.ref p] ∧ (SqL K H p (ys.map V.str) ∨ SqT K H p (ys.map V.str)) ∧ (ys.map (·.length)).sum + ys.length * a.length ≤ 16777216 ∧ Q (.str (Txt.join a ys)) H
theorem mt_joinK {X : Cx} : MtR X "str.join" (rJoin X.K) := mt_join
theorem join_l {K : PySem.W.Frag} {H : Hp} {Q : VK} {s : Str} {p : Addr} {ys : List Str} (h : SqL K H p (ys.map V.str) ∨ SqT K H p (ys.map V.str)) (n : (ys.map (·.length)).sum + ys.length * s.length ≤ 16777216) (q : Q (.str (Txt.join s ys)) H) : rJoin K (.str s) [.ref p] H Q := ⟨s, p, ys, rfl, rfl, h, n, q⟩
/-- a text of signs, of at most n of them -/
structure Ot (n : Nat) (z : Str) : Prop where
  ok : PyData.strOk z = true
  ln : z.length ≤ n
theorem Ot.mono {n m : Nat} {z : Str} (h : Ot n z) (l : n ≤ m) : Ot m z := ⟨h.ok, Nat.le_trans h.ln l⟩
theorem ok_cps {l : List Nat} (h : ∀ c ∈ l, c < 0x110000) : PyData.strOk ⟨l.toArray⟩ = true := by
  show l.toArray.all _ = true
  rw [List.all_toArray, List.all_eq_true]
  exact fun c hc => decide_eq_true (h c hc)
theorem cps_ok {z : Str} (h : PyData.strOk z = true) : ∀ c ∈ z.cps.toList, c < 0x110000 := by
  intro c hc
  have h' : z.cps.all (· < 0x110000) = true := h
  rw [Array.all_eq_true'] at h'
  exact of_decide_eq_true (h' c (by simpa using hc))
theorem Ot.cut {n : Nat} {z : Str} (h : Ot n z) (lo hi : Option Int) : Ot n (cutS z lo hi) :=
  ⟨ok_cps fun c hc => cps_ok h.ok c (List.mem_of_mem_drop (List.mem_of_mem_take hc)), Nat.le_trans (cutS_length z lo hi) h.ln⟩
theorem Ot.app {n m : Nat} {z y : Str} (h : Ot n z) (h2 : Ot m y) : Ot (n + m) (z ++ y) :=
  ⟨ok_app h.ok h2.ok, by rw [Str.length_append]; exact Nat.add_le_add h.ln h2.ln⟩
theorem Ot.join {n : Nat} : ∀ {ys : List Str}, (∀ y ∈ ys, Ot n y) → Ot (ys.length * n) (Txt.join "" ys)
  | ys, h => by
    rw [show Txt.join "" ys = Str.join "" ys from StrLaws.glued_eq_join "" ys]
    refine ⟨ok_join (ok_of "") ys fun y hy => (h y hy).ok, ?_⟩
    refine Nat.le_trans (StrLaws.join_length_le _ ys) ?_
    have e : ("" : Str).length = 0 := rfl
    rw [e, Nat.mul_zero, Nat.add_zero]
    clear e
    induction ys with
    | nil => exact Nat.zero_le _
    | cons y r ih =>
      have a := (h y (by simp)).ln
      have b := ih fun x hx => h x (by simp [hx])
      rw [List.map_cons, List.sum_cons, List.length_cons, Nat.succ_mul]
      omega
theorem sum_len {n : Nat} : ∀ {ys : List Str}, (∀ y ∈ ys, Ot n y) → (ys.map (·.length)).sum ≤ ys.length * n
  | [], _ => Nat.zero_le _
  | y :: r, h => by
    have a := (h y (by simp)).ln
    have b := sum_len (ys := r) fun x hx => h x (by simp [hx])
    rw [List.map_cons, List.sum_cons, List.length_cons, Nat.succ_mul]
    omega
theorem Ot.sign {z : Str} {i : Int} {c : Nat} (h : PyData.strOk z = true) (e : atI z.cps.toList i = some c) : Ot 1 ⟨#[c]⟩ := by
  refine ⟨?_, Nat.le_refl _⟩
  have hc : c ∈ z.cps.toList := by
    unfold atI at e
    cases q : ixN z.cps.toList.length i with
    | none => rw [q] at e; cases e
    | some j => rw [q] at e; exact List.mem_of_getElem? e
  exact ok_cps (l := [c]) fun d hd => by rw [List.mem_singleton.mp hd]; exact cps_ok h c hc
theorem at_sign {z : Str} {i : Int} (h0 : 0 ≤ i) (h1 : i < (z.length : Int)) : ∃ c, atI z.cps.toList i = some c := by
  obtain ⟨n, rfl⟩ := Int.eq_ofNat_of_zero_le h0
  have hn : n < z.cps.toList.length := by
    show n < z.cps.toList.length
    have : z.cps.toList.length = z.length := by show z.cps.toList.length = z.cps.size; simp
    omega
  exact ⟨_, atI_nat (List.getElem?_eq_getElem hn)⟩
section
variable {K : PySem.W.Frag} {H : Hp} {Q : VK} {z y : Str} {i : Int} {c : Nat} {lo hi : Option Int}
theorem ixS_l (n : z.length ≤ sizeLine) (e : atI z.cps.toList i = some c) (q : Q (.str ⟨#[c]⟩) H) : rIxS (.str z) (.int i) H Q := ⟨z, i, c, rfl, rfl, n, e, q⟩
theorem slS_l (n : z.length ≤ sizeLine) (q : Q (.str (cutS z lo hi)) H) : rSlS (.str z) lo hi H Q := ⟨z, rfl, n, q⟩
def rAddT : R2 := fun x y H Q => ∃ i j, x = .str i ∧ y = .str j ∧ i.length + j.length ≤ sizeLine ∧ Q (.str (i ++ j)) H
theorem op_addT {X : Cx} : OpR X (binaryOp .Add) rAddT := op_add_str
theorem addT_l (n : z.length + y.length ≤ sizeLine) (q : Q (.str (z ++ y)) H) : rAddT (.str z) (.str y) H Q := ⟨z, y, rfl, rfl, n, q⟩
/-- len of a text -/
def rLenX : List V → Hp → VK → Prop := fun xs H Q => ∃ z : Str, xs = [.str z] ∧ z.length ≤ sizeLine ∧ Q (.int z.length) H
theorem call_lenX {X : Cx} : CallR X (.builtin "len") rLenX := call_len_str
theorem lenX_l (n : z.length ≤ sizeLine) (q : Q (.int z.length) H) : rLenX [.str z] H Q := ⟨z, rfl, n, q⟩
end
theorem kept_strs {R : V → Option V → Hp → Prop} {p : Str → Prop} {H' : Hp} (h : ∀ x o, R x o H' → ∃ v, o = some (.str v) ∧ p v) : ∀ {xs ys : List V}, Kept R H' xs ys → ∃ ws : List Str, ys = ws.map V.str ∧ ws.length = xs.length ∧ ∀ n ∈ ws, p n
  | _, _, .nil => ⟨[], rfl, rfl, by simp⟩
  | _, _, .yes r k => by
    obtain ⟨ws, e1, e2, e3⟩ := kept_strs h k
    obtain ⟨v, e, pv⟩ := h _ _ r
    cases e
    exact ⟨v :: ws, by rw [e1]; rfl, by simp [e2], fun n hn => (List.mem_cons.mp hn).elim (fun z => z ▸ pv) (e3 n)⟩
  | _, _, .no r k => by
    obtain ⟨v, e, _⟩ := h _ _ r
    cases e
theorem cutV_mem {xs : List V} {lo hi : Option Int} {x : V} (h : x ∈ cutV xs lo hi) : x ∈ xs := List.mem_of_mem_drop (List.mem_of_mem_take h)
end My
/-! f-texts, str of whole numbers, a pair turned round, sorted. -/
namespace My
open PySem PySem.Spec PyProof.Rows L2
section
variable {K : PySem.W.Frag} {σ : L2.St} {H : Hp} {Q : VK} {t te : TE} {ts : List TE} {y acc : Str} {x : V} {i : Int}
/-- f'..' : the parts -/
def tFs (ts : List TE) : TE := fun σ H Q => tJs ts Str.empty σ H fun out H1 => Q (.str out) H1
def KFs (ts : List TE) (acc : Str) (σ : L2.St) (Q : VK) : VK := fun x H1 => ∃ y : Str, x = .str y ∧ (acc ++ y).length ≤ sizeLine ∧ tJs ts (acc ++ y) σ H1 fun out H2 => Q (.str out) H2
theorem mw_fs : tFs (t :: ts) σ H Q = t σ H (KFs ts Str.empty σ Q) := rfl
theorem fs_next {t2 : TE} {r : List TE} (n : (acc ++ y).length ≤ sizeLine) (q : t2 σ H (KFs r (acc ++ y) σ Q)) : KFs (t2 :: r) acc σ Q (.str y) H := ⟨y, rfl, n, q⟩
theorem fs_last (n : (acc ++ y).length ≤ sizeLine) (q : Q (.str (acc ++ y)) H) : KFs [] acc σ Q (.str y) H := ⟨y, rfl, n, q⟩
def KFm (Q : VK) : VK := fun x H1 => (∃ y : Str, x = .str y ∧ y.length ≤ sizeLine ∧ Q (.str y) H1) ∨ ∃ i : Int, x = .int i ∧ i.natAbs.log2 < 1920 ∧ Q (.str (toString i)) H1
theorem mw_fmt : tFmt te σ H Q = te σ H (KFm Q) := rfl
theorem fm_str (n : y.length ≤ sizeLine) (q : Q (.str y) H) : KFm Q (.str y) H := .inl ⟨y, rfl, n, q⟩
theorem fm_int (n : i.natAbs.log2 < 1920) (q : Q (.str (toString i)) H) : KFm Q (.int i) H := .inr ⟨i, rfl, n, q⟩
theorem pe_fs {X : Cx} {v1 v2 : Expr} {rest : List Expr} {ts : List TE} {pos : Pos} (h : PJ X (v1 :: v2 :: rest) ts) : PE X (.JoinedStr (v1 :: v2 :: rest) pos) (tFs ts) := pe_joined h
/-- str(i) -/
def rStrI : List V → Hp → VK → Prop := fun xs H Q => ∃ i : Int, xs = [.int i] ∧ i.natAbs.log2 < 1920 ∧ Q (.str (toString i)) H
theorem call_strI {X : Cx} : CallR X (.type "str") rStrI := call_str_int
theorem strI_l (n : i.natAbs.log2 < 1920) (q : Q (.str (toString i)) H) : rStrI [.int i] H Q := ⟨i, rfl, n, q⟩
/-- tuple(l) of a list -/
def rTupOf (K : PySem.W.Frag) : List V → Hp → VK → Prop := fun xs H Q => ∃ p ys, xs = [.ref p] ∧ ((SqL K H p ys ∧ ∀ l, H l = none → Q (.ref l) (upd H l (.tup ys))) ∨ (SqT K H p ys ∧ Q (.ref p) H))
theorem call_tupOf {X : Cx} : CallR X (.type "tuple") (rTupOf X.K) := call_tuple_of
theorem tupOf_l {p : Addr} {ys : List V} (h : SqL K H p ys) (q : ∀ l, H l = none → Q (.ref l) (upd H l (.tup ys))) : rTupOf K [.ref p] H Q := ⟨p, ys, rfl, .inl ⟨h, q⟩⟩
theorem tupOf_t {p : Addr} {ys : List V} (h : SqT K H p ys) (q : Q (.ref p) H) : rTupOf K [.ref p] H Q := ⟨p, ys, rfl, .inr ⟨h, q⟩⟩
/-- sorted(l), few whole numbers -/
theorem sorted_l {a : Addr} {ns : List Int} (h : SqL K H a (ns.map V.int)) (n : ns.length < 64) (q : ∀ (ns' : List Int) (p : Addr), ns'.Perm ns → ns'.Pairwise (· ≤ ·) → H p = none → Q (.ref p) (upd H p (.lst (ns'.map V.int)))) : rSorted K [.ref a] H Q := ⟨a, ns, rfl, h, n, q⟩
end
/-! t[::-1], t a pair -/
section
open HT PyProof.Rows
variable {prog : Program} {w : World} {A : Around} {E : Value → Shared → Prop} {s : Shared}
theorem pair_rev {t sl : Addr} {u v : Value} {tk : Tok} {Q : Value → Shared → Prop} (ht : IsTup s.heap t #[u, v]) (hs : s.heap.IsSliceOf sl .none .none (.int (-1) tk))
    (h : Q (.ref s.heap.objs.size) { s with heap := s.heap.push { cls := .type "tuple", data := .seq #[v, u] } }) : wpAny (model prog w) A (getItem (.ref t) (.ref sl)) Q E s := by
  obtain ⟨os, hos, hcs, hds⟩ := id hs
  unfold getItem
  try with_reducible refine wpAny_holding ?_
  first | refine wpAny_bind (wpAny_pure ?_) | skip
  refine wpAny_bind (wpAny_sequenceKey ht.typeIs (by decide) (wpAny_bind (wpAny_callSpecial?_slot (name := Str.ofString "__getitem__") ht.typeIs PyProof.Rows.slot_tuple_getitem (wpAny_call_entry PyProof.Rows.slot_tuple_getitem ht.typeIs entry_tuple_getitem ?_ (args_tuple_getitem _ _)))))
  show wpAny _ _ (Builtin.Tuple.tupleItemsOf (.ref t) >>= _) _ _ s
  refine wpAny_bind (tupleItemsOf_ ht (wpAny_bind (wpAny_typeOf (⟨os, hos, hcs⟩ : s.TypeIs (.ref sl) "slice") ?_)))
  rw [if_pos (by decide)]
  refine wpAny_bind ?_
  unfold Builtin.Slice.sliceApplied Builtin.Slice.sliceFields
  refine wpAny_bind (wpAny_bind (wpAny_field hos hds (x := .none) rfl (wpAny_bind (wpAny_field hos hds (x := .none) rfl (wpAny_bind (wpAny_field hos hds (x := .int (-1) tk) rfl (wpAny_pure (wpAny_bind (slicePart_int ?_)))))))))
  show wpAny _ _ (if ((-1 : Int) == 0) = true then _ else _) _ _ s
  rw [if_neg (by decide)]
  refine wpAny_bind (slicePart_none (wpAny_bind (slicePart_none (wpAny_bind (wpAny_pure ?_)))))
  have e1 : Builtin.Slice.sliceAdjust none none (-1) 2 = (1, -1) := by first | rfl | decide | simp [Builtin.Slice.sliceAdjust]
  have e2 : Builtin.Slice.slicePlaces 1 (-1) (-1) = 2 := by first | rfl | decide | simp [Builtin.Slice.slicePlaces]
  show wpAny _ _ (match Builtin.Slice.sliceAdjust none none (-1) 2 with
    | (lo, hi) => pure (lo, (-1 : Int), Builtin.Slice.slicePlaces lo hi (-1))) _ _ s
  rw [e1]
  show wpAny _ _ (pure ((1 : Int), (-1 : Int), Builtin.Slice.slicePlaces 1 (-1) (-1))) _ _ s
  rw [e2]
  refine wpAny_pure ?_
  have e : (List.filterMap (fun (k : Nat) => #[u, v][((1 : Int) + (k : Int) * (-1)).toNat]?) (List.range 2)).toArray = #[v, u] := rfl
  show wpAny _ _ (if ((1 : Int) == 0 && (-1 : Int) == 1 && (2 : Nat) == 2) = true then _ else _) _ _ s
  rw [if_neg (by decide), e]
  have fit : sizeOk (.seq #[v, u]) := by show 2 ≤ sizeLine; decide
  first
    | exact wpAny_bind (m := Builtin.Tuple.tupleExact _) (wpAny_newObj_type (wpAny_pure ⟨_, rfl, wpAny_pure h⟩) fit)
    | exact wpAny_bind (m := Builtin.Tuple.tupleExact _) (wpAny_newObj_type (wpAny_bind (wpAny_pure (wpAny_pure ⟨_, rfl, wpAny_pure h⟩))) fit)
    | exact wpAny_bind (wpAny_bind (m := Builtin.Tuple.tupleExact _) (wpAny_newObj_type (wpAny_pure (wpAny_pure ⟨_, rfl, wpAny_pure h⟩)) fit))
    | exact wpAny_bind (wpAny_bind (m := Builtin.Tuple.tupleExact _) (wpAny_newObj_type (wpAny_pure ⟨_, rfl, wpAny_pure h⟩) fit))
end
section
variable {K : PySem.W.Frag} {σ : L2.St} {H : Hp} {Q : VK} {te : TE}
def KRevP (K : PySem.W.Frag) (Q : VK) : VK := fun x H1 => ∃ a u v, x = .ref a ∧ SqT K H1 a [u, v] ∧ ∀ p, H1 p = none → Q (.ref p) (upd H1 p (.tup [v, u]))
def tRevP (K : PySem.W.Frag) (te : TE) : TE := fun σ H Q => te σ H (KRevP K Q)
theorem mw_revP : tRevP K te σ H Q = te σ H (KRevP K Q) := rfl
theorem revP_l {a : Addr} {u v : V} (h : SqT K H a [u, v]) (q : ∀ p, H p = none → Q (.ref p) (upd H p (.tup [v, u]))) : KRevP K Q (.ref a) H := ⟨a, u, v, rfl, h, q⟩
theorem pe_revP {X : Cx} {e : Expr} {k : Nat} {p1 p2 p3 pos : Pos} (he : PE X e te) : PE X (.Subscript e (.Slice none none (some (.UnaryOp .USub (.Constant (.int 1) k p1) p2)) p3) pos) (tRevP X.K te) := by
  refine ⟨fun pins s σ H Q I h => Subscript_ (thn (he.run pins s σ H _ I h) fun v s1 ⟨x, H1, I1, r1, a, y, z, ex, hx, q⟩ => ?_)⟩
  subst ex
  cases r1
  have step : PO X (some (.UnaryOp .USub (.Constant (.int 1) k p1) p2)) (tPart (tUn (rU fun i => .int (-i)) (tC (.int 1)))) := po_some (pe_un un_neg pe_int)
  refine wpAny_Slice (thn (po_none.run pins s1 σ H1 (fun o G => o = none ∧ G = H1) I1 ⟨rfl, rfl⟩) fun vl s2 ⟨_, _, I2, pl, el, eh⟩ => ?_)
  cases el
  cases eh
  refine thn (po_none.run pins s2 σ H1 (fun o G => o = none ∧ G = H1) I2 ⟨rfl, rfl⟩) fun vu s3 ⟨_, _, I3, pu, eu, eh⟩ => ?_
  cases eu
  cases eh
  refine thn (step.run pins s3 σ H1 (fun o G => o = some (-1) ∧ G = H1) I3 ⟨1, rfl, -1, rfl, rfl, rfl⟩) fun vs s4 ⟨_, _, I4, pz, ez, eh⟩ => ?_
  cases ez
  cases eh
  cases pl
  cases pu
  cases pz with
  | int _ tk =>
    have I5 : Inv X pins σ H1 { s4 with heap := s4.heap.push { cls := .type "slice", data := .fields #[.none, .none, .int (-1) tk] } } := I4.kept (t' := s4.toks) fun b ob g => Heap.get?_push_of_some _ g
    obtain ⟨its, r, ht, hz⟩ := I5.tuple hx
    obtain ⟨u1, u2, rfl, r1, r2⟩ := vals2 r
    show wpAny (model X.prog X.w) X.A (subscriptTail e (.Slice none none (some (.UnaryOp .USub (.Constant (.int 1) k p1) p2)) p3) (.ref a) (.ref s4.heap.objs.size)) (EP X pins σ Q) X.xe { s4 with heap := s4.heap.push { cls := .type "slice", data := .fields #[.none, .none, .int (-1) tk] } }
    refine tail_any (ops := [.ref a, .ref s4.heap.objs.size]) ht.typeIs (PyProof.Rows.slot_tuple_getitem.lookup) (pair_rev ht (Heap.IsSliceOf.new _ .none .none (.int (-1) tk)) ?_) (by with_unfolding_all rfl)
    refine ⟨.ref _, _, I5.laid (t' := s4.toks) (o := .tup [z, y]) (fun b ob g => Heap.get?_push_of_some _ g) (Nat.le_refl _) ?_, rfl, q _ (I5.hok.fresh (Nat.le_refl _))⟩
    exact ⟨by show 2 ≤ sizeLine; decide, [u2, u1], .cons r2 (.cons r1 .nil), IsTup.new _ _⟩
end
/-- repr of a truth -/
def tB (b : Bool) : Str := if b then "True" else "False"
def rReprB : List V → Hp → VK → Prop := fun xs H Q => ∃ b : Bool, xs = [.bl b] ∧ Q (.str (tB b)) H
theorem call_reprB {X : Cx} : CallR X (.builtin "repr") rReprB := by
  intro pins s σ H xs us Q I r ⟨b, ex, q⟩
  subst ex
  obtain ⟨u, rfl, ru⟩ := r.one
  cases (show u = Value.bool b from ru)
  have r2 : RelV (.str (tB b)) (.str (if b then "True" else "False") s.toks) := ⟨s.toks, by cases b <;> rfl⟩
  exact PySem.P.repr_of_bool ⟨.str (tB b), H, I.tok _, r2, q⟩
theorem reprB_l {H : Hp} {Q : VK} {b : Bool} (q : Q (.str (tB b)) H) : rReprB [.bl b] H Q := ⟨b, rfl, q⟩
end My
/-! while; signs and parts of texts; numbers read from texts. -/
namespace My
open PySem PySem.Spec PyProof.Rows L2 PySem.NumText TL
section
variable {K : PySem.W.Frag} {σ : L2.St} {H : Hp} {Q : VK} {D : Ends} {te : TE} {z y : Str} {b : Bool}
def KWhY (Pv : Nat → L2.St → Hp → Prop) (tb : TS) (D : Ends) (m : Nat) (σ : L2.St) (H : Hp) : Prop := ∃ N : L2.St → Hp → Prop, (∀ σ' H', N σ' H' → ∃ m', m' < m ∧ Pv m' σ' H') ∧ tb { D with nx := N, ct := N, bk := D.nx } σ H
def KWh (Pv : Nat → L2.St → Hp → Prop) (tb : TS) (D : Ends) (m : Nat) (σ : L2.St) : Bool → Hp → Prop := fun b H1 => if b = true then KWhY Pv tb D m σ H1 else D.nx σ H1
theorem mw_whK {Pv : Nat → L2.St → Hp → Prop} {tb : TS} {m : Nat} : KWh Pv tb D m σ b H = if b = true then KWhY Pv tb D m σ H else D.nx σ H := rfl
theorem whY_l {Pv : Nat → L2.St → Hp → Prop} {tb : TS} {m : Nat} (q : tb { D with nx := fun σ' H' => ∃ m', m' < m ∧ Pv m' σ' H', ct := fun σ' H' => ∃ m', m' < m ∧ Pv m' σ' H', bk := D.nx } σ H) : KWhY Pv tb D m σ H := ⟨_, fun _ _ z => z, q⟩
theorem while_l {c : TT} {tb : TS} (Pv : Nat → L2.St → Hp → Prop) (m0 : Nat) (h0 : Pv m0 σ H) (hs : ∀ m σ H, Pv m σ H → c σ H (KWh Pv tb D m σ)) : tWhile c tb D σ H := ⟨Pv, ⟨m0, h0⟩, hs⟩
/-- a text as a test -/
def KTs (Q : Bool → Hp → Prop) : VK := fun x H1 => ∃ z : Str, x = .str z ∧ z.length ≤ sizeLine ∧ Q ((z.length : Int) != 0) H1
def tTs (te : TE) : TT := fun σ H Q => te σ H (KTs Q)
theorem mw_ts {Q : Bool → Hp → Prop} : tTs te σ H Q = te σ H (KTs Q) := rfl
theorem ts_l {Q : Bool → Hp → Prop} (n : z.length ≤ sizeLine) (q : Q ((z.length : Int) != 0) H) : KTs Q (.str z) H := ⟨z, rfl, n, q⟩
theorem pt_str {X : Cx} {a : Expr} (ha : PE X a te) (he : ∀ whole, isTrue a X.env whole = (do let v ← whole; standAt a.pos; holding [v] (truthy v)) := by intro _; rfl) : PT X a (tTs te) := by
  refine ⟨fun pins s σ H Q I h => isTrue_plain (thn (ha.run pins s σ H _ I h) fun v s1 ⟨x, H1, I1, r1, z, ex, n, q⟩ => ?_) (he _)⟩
  subst ex
  exact tru_ok pins s1 σ H1 _ v Q I1 r1 ⟨_, ⟨n, rfl⟩, q⟩
/-- a sign in a text -/
def rInSg : R2 := fun x y H Q => ∃ (c : Nat) (z : Str), x = .str ⟨#[c]⟩ ∧ y = .str z ∧ Q (.bl (decide (c ∈ z.cps.toList))) H
theorem op_inSg {X : Cx} : OpR X (compareOp .In) rInSg := op_in_sign
theorem inSg_l {c : Nat} (q : Q (.bl (decide (c ∈ z.cps.toList))) H) : rInSg (.str ⟨#[c]⟩) (.str z) H Q := ⟨c, z, rfl, rfl, q⟩
/-- int of a text -/
def rIntT : List V → Hp → VK → Prop := fun xs H Q => ∃ a n, xs = [.str a] ∧ PySem.intText? a = some n ∧ a.length ≤ 640 ∧ Q (.int n) H
theorem call_intT {X : Cx} : CallR X (.type "int") rIntT := call_int_str
theorem intT_l {n : Int} (h : PySem.intText? z = some n) (l : z.length ≤ 640) (q : Q (.int n) H) : rIntT [.str z] H Q := ⟨z, n, rfl, h, l, q⟩
end
/-! parts of texts by their signs -/
abbrev cl (z : Str) : List Nat := z.cps.toList
theorem cl_len (z : Str) : (cl z).length = z.length := by show z.cps.toList.length = z.cps.size; simp
theorem str_ext {z y : Str} (h : cl z = cl y) : z = y := by
  obtain ⟨a⟩ := z
  obtain ⟨b⟩ := y
  have : a = b := Array.toList_inj.mp h
  rw [this]
theorem cl_app (z y : Str) : cl (z ++ y) = cl z ++ cl y := by
  show (z.cps ++ y.cps).toList = _
  simp
def sub (l : List Nat) (i j : Nat) : List Nat := (l.drop i).take (j - i)
theorem cl_cut {z : Str} {i j : Int} (hi : 0 ≤ i) (hj : 0 ≤ j) : cl (cutS z (some i) (some j)) = sub (cl z) i.toNat j.toNat := by
  obtain ⟨a, rfl⟩ := Int.eq_ofNat_of_zero_le hi
  obtain ⟨b, rfl⟩ := Int.eq_ofNat_of_zero_le hj
  show (((cl z).drop (HT.sIx z.length 0 (some (a : Int)))).take (HT.sIx z.length z.length (some (b : Int)) - HT.sIx z.length 0 (some (a : Int)))).toArray.toList = _
  rw [HT.sIx_nat, HT.sIx_nat, ← cl_len z, Int.toNat_natCast, Int.toNat_natCast]
  unfold sub
  simp only [List.toList_toArray]
  generalize cl z = l
  rcases Nat.lt_or_ge a l.length with h | h
  · rw [Nat.min_eq_left (Nat.le_of_lt h)]
    rcases Nat.lt_or_ge b l.length with h2 | h2
    · rw [Nat.min_eq_left (Nat.le_of_lt h2)]
    · rw [Nat.min_eq_right h2, List.take_of_length_le (by rw [List.length_drop]; omega), List.take_of_length_le (by rw [List.length_drop]; omega)]
  · rw [Nat.min_eq_right h, List.drop_of_length_le (Nat.le_refl _), List.drop_of_length_le h]
    simp
theorem one_eq {z : Str} {i : Int} {c : Nat} {s : Str} (hs : cl s = [c]) (hi : 0 ≤ i) : (cutS z (some i) (some (i + 1)) = s) ↔ ((cl z).drop i.toNat).head? = some c := by
  have e : cl (cutS z (some i) (some (i + 1))) = ((cl z).drop i.toNat).take 1 := by
    rw [cl_cut hi (by omega)]
    unfold sub
    rw [show (i + 1).toNat - i.toNat = 1 by omega]
  constructor
  · intro h
    rw [h, hs] at e
    cases q : (cl z).drop i.toNat with
    | nil => rw [q] at e; cases e
    | cons a r =>
      rw [q] at e
      have : c = a := by simpa using e
      rw [this]; rfl
  · intro h
    refine str_ext ?_
    rw [e, hs]
    cases q : (cl z).drop i.toNat with
    | nil => rw [q] at h; cases h
    | cons a r =>
      rw [q] at h
      have : a = c := by simpa using h
      rw [this]; rfl
theorem two_eq {z : Str} {i : Int} {c d : Nat} {s : Str} (hs : cl s = [c, d]) (hi : 0 ≤ i) : (cutS z (some i) (some (i + 2)) = s) ↔ ((cl z).drop i.toNat).take 2 = [c, d] := by
  have e : cl (cutS z (some i) (some (i + 2))) = ((cl z).drop i.toNat).take 2 := by
    rw [cl_cut hi (by omega)]
    unfold sub
    rw [show (i + 2).toNat - i.toNat = 2 by omega]
  rw [← e, ← hs]
  exact ⟨fun h => by rw [h], str_ext⟩
/-! numbers -/
def dig (c : Nat) : Bool := decide (48 ≤ c) && decide (c ≤ 57)
/-- how many digits stand ahead, at most k -/
def dR : List Nat → Nat → Nat
  | c :: t, k + 1 => if dig c = true then dR t k + 1 else 0
  | _, _ => 0
theorem dR_cons {c k : Nat} {t : List Nat} : dR (c :: t) (k + 1) = if dig c = true then dR t k + 1 else 0 := rfl
/-- how long the longest number ahead is -/
def nS (l : List Nat) : Nat := if l.head? = some 45 then 1 else 0
def nE (l : List Nat) : Nat := if (l.drop (nS l)).head? = some 48 then (if nS l = 0 then 1 else 0) else if 0 < dR (l.drop (nS l)) 13 then nS l + dR (l.drop (nS l)) 13 else 0
theorem dR_le : ∀ (l : List Nat) (k : Nat), dR l k ≤ k ∧ dR l k ≤ l.length
  | [], k => by cases k <;> simp [dR]
  | c :: t, 0 => by simp [dR]
  | c :: t, k + 1 => by
    unfold dR
    split
    · have := dR_le t k
      simp only [List.length_cons]
      omega
    · simp
theorem dR_digs : ∀ (l : List Nat) (k : Nat), NumText.AllDigits (l.take (dR l k))
  | [], k => by cases k <;> simp [dR, NumText.AllDigits]
  | c :: t, 0 => by simp [dR, NumText.AllDigits]
  | c :: t, k + 1 => by
    unfold dR
    split
    · rename_i h
      intro x hx
      rw [List.take_succ_cons] at hx
      rcases List.mem_cons.mp hx with rfl | hx
      · unfold dig at h
        rw [Bool.and_eq_true] at h
        exact ⟨of_decide_eq_true h.1, of_decide_eq_true h.2⟩
      · exact dR_digs t k x hx
    · intro x hx
      rw [List.take_zero] at hx
      cases hx
theorem dR_all {ds rest : List Nat} (h : NumText.AllDigits ds) (hr : ∀ c, rest.head? = some c → dig c = false) : ∀ k, ds.length ≤ k → dR (ds ++ rest) k = ds.length := by
  induction ds with
  | nil =>
    intro k _
    cases rest with
    | nil => cases k <;> rfl
    | cons c r =>
      cases k with
      | zero => rfl
      | succ k =>
        have := hr c rfl
        show (if dig c = true then _ else 0) = 0
        rw [if_neg (by rw [this]; decide)]
  | cons c t ih =>
    intro k hk
    cases k with
    | zero => simp at hk
    | succ k =>
      have hc := h c (by simp)
      have d : dig c = true := by unfold dig; simp [hc.1, hc.2]
      show (if dig c = true then dR (t ++ rest) k + 1 else 0) = _
      rw [if_pos d, ih (fun x hx => h x (by simp [hx])) k (by simpa using hk)]
      rfl
/-- what a number's signs mean -/
def rdE : List Nat → Option Int
  | [] => none
  | 45 :: ds => some (-((NumText.digitsVal ds : Nat) : Int))
  | ds => some ((NumText.digitsVal ds : Nat) : Int)
/-- the number ahead, read -/
theorem nE_reads (l : List Nat) {z : Str} (hz : cl z = l.take (nE l)) : (z.length = 0 ∧ rdE (l.take (nE l)) = none) ∨ (0 < z.length ∧ z.length ≤ 14 ∧ ∃ n, rdE (l.take (nE l)) = some n ∧ intText? z = some n) := by
  have hl : z.length = (l.take (nE l)).length := by rw [← hz, cl_len]
  have num : ∀ ds : List Nat, cl z = ds → NumText.AllDigits ds → ds ≠ [] → ds.length ≤ 14 → rdE ds = some ((NumText.digitsVal ds : Nat) : Int) ∧ intText? z = some ((NumText.digitsVal ds : Nat) : Int) := fun ds e a n l14 => by
    subst e
    refine ⟨?_, intText_digits a n (by rw [← cl_len]; omega)⟩
    cases q : cl z with
    | nil => exact absurd q n
    | cons c t =>
      have hc := a c (by rw [q]; simp)
      unfold rdE
      split
      · rename_i h; cases h
      · rename_i h; cases h; omega
      · rfl
  unfold nE at hz hl ⊢
  split at hz
  · rename_i h48
    rw [if_pos h48] at hl ⊢
    split at hz
    · rename_i h0
      rw [if_pos h0] at hl ⊢
      cases l with
      | nil => rw [h0] at h48; cases h48
      | cons c t =>
        rw [h0] at h48
        have e : c = 48 := by simpa using h48
        subst e
        obtain ⟨r1, r2⟩ := num [48] hz (fun x hx => by rw [List.mem_singleton.mp hx]; decide) (by simp) (by decide)
        rw [hl]
        exact .inr ⟨by simp, by simp, _, r1, r2⟩
    · rename_i h0
      rw [if_neg h0] at hl ⊢
      exact .inl ⟨by simpa using hl, by rw [List.take_zero]; rfl⟩
  · rename_i h48
    rw [if_neg h48] at hl ⊢
    split at hz
    · rename_i hp
      rw [if_pos hp] at hl ⊢
      have b := dR_le (l.drop (nS l)) 13
      have a := dR_digs (l.drop (nS l)) 13
      generalize hk : dR (l.drop (nS l)) 13 = k at *
      have hp' : 0 < k := hp
      unfold nS at hz hl a b ⊢
      by_cases h45 : l.head? = some 45
      · simp only [if_pos h45] at hz hl a b ⊢
        cases l with
        | nil => cases h45
        | cons c t =>
          have e : c = 45 := by simpa using h45
          subst e
          rw [Nat.add_comm 1 k, List.take_succ_cons] at hz hl ⊢
          have ht : (t.take k).length = k := by rw [List.length_take]; exact Nat.min_eq_left b.2
          have ne : t.take k ≠ [] := fun z => by rw [z] at ht; simp at ht; omega
          refine .inr ⟨by rw [hl]; simp, by rw [hl, List.length_cons, ht]; omega, _, rfl, ?_⟩
          exact intText_neg hz a ne (by rw [hl, List.length_cons, ht]; omega)
      · simp only [if_neg h45] at hz hl a b ⊢
        rw [Nat.zero_add] at hz hl ⊢
        rw [List.drop_zero] at a b
        have ht : (l.take k).length = k := by rw [List.length_take]; exact Nat.min_eq_left b.2
        have ne : l.take k ≠ [] := fun z => by rw [z] at ht; simp at ht; omega
        obtain ⟨r1, r2⟩ := num _ hz a ne (by omega)
        exact .inr ⟨by omega, by omega, _, r1, r2⟩
    · rename_i hp
      rw [if_neg hp] at hl ⊢
      exact .inl ⟨by simpa using hl, by rw [List.take_zero]; rfl⟩
/-- a stretch ahead: its ends, and how long it is -/
def stE (l : List Nat) : Option (Option Int × Option Int × Nat) := if (l.drop (nE l)).take 2 = [46, 46] then some (rdE (l.take (nE l)), rdE ((l.drop (nE l + 2)).take (nE (l.drop (nE l + 2)))), nE l + 2 + nE (l.drop (nE l + 2))) else none
/-! the signs of whole numbers -/
theorem cl_int (i : Int) : cl (Str.ofString (toString i)) = if i < 0 then 45 :: numL i.natAbs else numL i.natAbs := by
  cases i with
  | ofNat n =>
    rw [if_neg (by simp only [Int.ofNat_eq_natCast]; omega)]
    exact tl_num n
  | negSucc n =>
    rw [if_pos (by omega)]
    have e : toString (Int.negSucc n) = "-" ++ toString ((n + 1 : Nat) : Int) := rfl
    have h := tl_num (n + 1)
    have h' : (Str.ofString (toString ((n + 1 : Nat) : Int))).cps.toList = numL (n + 1) := h
    show (Str.ofString (toString (Int.negSucc n))).cps.toList = _
    rw [signs_ofString] at h' ⊢
    rw [e, String.toList_append, List.map_append, h']
    rfl
theorem numL_head : ∀ n : Nat, 0 < n → (numL n).head? ≠ some 48 := by
  intro n
  induction n using Nat.strongRecOn with
  | _ n ih =>
    intro hn
    by_cases h : n < 10
    · rw [numL_lt h]
      intro e
      have : 48 + n = 48 := by simpa using e
      omega
    · rw [numL_step (by omega)]
      have h2 := ih (n / 10) (by omega) (by omega)
      have ne := numL_ne (n / 10)
      cases q : numL (n / 10) with
      | nil => exact absurd q ne
      | cons c r => rw [q] at h2; simpa using h2
theorem cl_emp : cl (Str.ofString "") = [] := rfl
def wtL : Option Int → List Nat
  | none => []
  | some i => if i < 0 then 45 :: numL i.natAbs else numL i.natAbs
theorem wtL_some {i : Int} : wtL (some i) = if i < 0 then 45 :: numL i.natAbs else numL i.natAbs := rfl
theorem rdE_digs {ds : List Nat} (a : AllDigits ds) (n : ds ≠ []) : rdE ds = some ((digitsVal ds : Nat) : Int) := by
  cases ds with
  | nil => exact absurd rfl n
  | cons c t =>
    have hc := a c (by simp)
    unfold rdE
    split
    · rename_i h; cases h
    · rename_i h; cases h; omega
    · rfl
theorem rd_wt (v : Option Int) : rdE (wtL v) = v := by
  cases v with
  | none => rfl
  | some i =>
    rw [wtL_some]
    split
    · show some (-((digitsVal (numL i.natAbs) : Nat) : Int)) = some i
      rw [numL_val]
      congr 1
      omega
    · rw [rdE_digs (numL_digits _) (numL_ne _), numL_val]
      congr 1
      omega
/-- the number is just what stands there -/
theorem nE_wt {v : Option Int} {r : List Nat} (hb : ∀ i, v = some i → -10000000000000 < i ∧ i < 10000000000000) (hr : ∀ c, r.head? = some c → dig c = false ∧ (v = none → c ≠ 45)) : nE (wtL v ++ r) = (wtL v).length := by
  have hd : ∀ c, r.head? = some c → dig c = false := fun c e => (hr c e).1
  cases v with
  | none =>
    show nE r = 0
    have s0 : nS r = 0 := by
      unfold nS
      rw [if_neg (fun e => (hr 45 e).2 rfl rfl)]
    unfold nE
    rw [s0, List.drop_zero, if_neg (fun e => by have := hd 48 e; revert this; decide)]
    have e := dR_all (ds := []) (rest := r) (fun c hc => by cases hc) hd 13 (by simp)
    rw [List.nil_append] at e
    rw [e]
    rfl
  | some i =>
    have b := hb i rfl
    have l13 : (numL i.natAbs).length ≤ 13 := numL_len (by decide) (Nat.lt_of_lt_of_le (show i.natAbs < 10000000000000 by omega) (by decide))
    have run := dR_all (ds := numL i.natAbs) (rest := r) (numL_digits _) hd 13 l13
    have hpos : 0 < (numL i.natAbs).length := List.length_pos_iff.mpr (numL_ne _)
    rw [wtL_some]
    by_cases hi : i < 0
    · rw [if_pos hi]
      have s1 : nS (45 :: numL i.natAbs ++ r) = 1 := rfl
      unfold nE
      rw [s1]
      show (if (numL i.natAbs ++ r).head? = some 48 then _ else if 0 < dR (numL i.natAbs ++ r) 13 then 1 + dR (numL i.natAbs ++ r) 13 else 0) = _
      have hh := numL_head i.natAbs (by omega)
      have ne := numL_ne i.natAbs
      rw [if_neg (fun e => hh (by cases q : numL i.natAbs with | nil => exact absurd q ne | cons c t => rw [q] at e; exact e)), run, if_pos hpos, List.length_cons]
      omega
    · rw [if_neg hi]
      have s0 : nS (numL i.natAbs ++ r) = 0 := by
        unfold nS
        refine if_neg fun e => ?_
        cases q : numL i.natAbs with
        | nil => exact absurd q (numL_ne _)
        | cons c t =>
          rw [q] at e
          have ec : c = 45 := by simpa using e
          have := numL_digits i.natAbs c (by rw [q]; simp)
          omega
      unfold nE
      rw [s0, List.drop_zero]
      by_cases h0 : i = 0
      · subst h0
        rfl
      · have hh := numL_head i.natAbs (by omega)
        have ne := numL_ne i.natAbs
        rw [if_neg (fun e => hh (by cases q : numL i.natAbs with | nil => exact absurd q ne | cons c t => rw [q] at e; exact e)), run, if_pos hpos, Nat.zero_add]
theorem stE_wt {a b : Option Int} {r : List Nat} (ha : ∀ i, a = some i → -10000000000000 < i ∧ i < 10000000000000) (hb : ∀ i, b = some i → -10000000000000 < i ∧ i < 10000000000000) (hr : ∀ c, r.head? = some c → dig c = false ∧ (b = none → c ≠ 45)) :
    stE (wtL a ++ ([46, 46] ++ (wtL b ++ r))) = some (a, b, (wtL a).length + 2 + (wtL b).length) := by
  have e1 : nE (wtL a ++ ([46, 46] ++ (wtL b ++ r))) = (wtL a).length := nE_wt ha fun c e => by
    have : c = 46 := by simpa using e.symm
    subst this
    exact ⟨by decide, fun _ => by decide⟩
  have e2 : nE (wtL b ++ r) = (wtL b).length := nE_wt hb hr
  have d1 : (wtL a ++ ([46, 46] ++ (wtL b ++ r))).drop ((wtL a).length + 2) = wtL b ++ r := by
    rw [← List.drop_drop, List.drop_left]
    rfl
  unfold stE
  rw [e1, List.drop_left, if_pos (show List.take 2 ([46, 46] ++ (wtL b ++ r)) = [46, 46] from rfl), List.take_left, d1, e2, List.take_left, rd_wt, rd_wt]
section
variable {X : Cx} {CX : CXT} {k : Nat} {d : He.DefD} {x : Str} {ps : List Str} {sp : Sp} {e : Expr} {es : List Expr} {t : TA} {p pos : Pos} {E : L2.St → XK}
/-- f(e, ..) where an error may leave -/
def KCallS (sp : Sp) (E : XK) (Q : VK) : List V → Hp → Prop := fun vs H1 => sp vs H1 Q E
def tCallE (sp : Sp) (E : L2.St → XK) (t : TA) : TE := fun σ H Q => t σ H (KCallS sp (E σ) Q)
theorem mw_callE {σ : L2.St} {H : Hp} {Q : VK} : tCallE sp E t σ H Q = t σ H (KCallS sp (E σ) Q) := rfl
theorem mw_callEK {E : XK} {H : Hp} {Q : VK} {vs : List V} : KCallS sp E Q vs H = sp vs H Q E := rfl
theorem pe_fnS {K : PySem.W.Frag} (hK : X.K = K) (C : Callee X.prog X.w X.K X.mg X.base CX k d ps sp) (hr : Room k X.A) (hx : ∀ σ, PassesAt CX X σ (E σ)) (hg : Gl X x) (ha : PA X (e :: es) t) (hn : d.name = x := by rfl) (hdb : (x == ("__debug__" : Str)) = false := by decide)
    (he : starEach (e :: es) X.env = (false, eval e X.env) :: starEach es X.env := by rfl) (hpl : (backTo pos (starEach es X.env)).any (·.1) = false := by rfl) : PE X (.Call (.Name x p) (e :: es) [] pos) (tCallE sp E t) := by
  obtain ⟨f, fd, F, hm, hk, hb, _⟩ := C.ex
  rw [hn] at hm
  exact pe_callS F hr hg hm hk hb hx ha hdb he hpl
end
theorem ok_from : ∀ (ts : List Str) (k : Nat) (acc : Str), PyData.strOk acc = true → (∀ t ∈ ts, PyData.strOk t = true) → PyData.strOk (textFrom k acc ts) = true
  | [], _, _, ha, _ => ha
  | t :: ts, k, acc, ha, h => by
    show PyData.strOk (textFrom (k + 1) (acc ++ (if k > 0 then ", " else "" : String) ++ t) ts) = true
    exact ok_from ts (k + 1) _ (ok_app (ok_app ha (ok_of _)) (h t (by simp))) fun x hx => h x (by simp [hx])
theorem ok_list (ts : List Str) (h : ∀ t ∈ ts, PyData.strOk t = true) : PyData.strOk (listText ts) = true := ok_app (ok_from ts 0 _ (ok_of "[") h) (ok_of _)
end My
namespace K37
open PySem PySem.Spec PyProof.Rows L2 My

/-! the text by places -/
def top (i : Nat) : Stmt := PySem.Challenge.pw_windowrows_k37_whole_order_of_frames.main.body.getD i (.Pass ⟨0, 0, 0, 0⟩)
abbrev s__wall : Stmt := top 0
abbrev s_TurnedStretch___init__ : Stmt := inClass (top 3) 0
abbrev s_BadFrame___init__ : Stmt := inClass (top 4) 0
abbrev s_turned : Stmt := top 6
abbrev s_Frame___init__ : Stmt := inClass (top 10) 0
abbrev s_Frame_region : Stmt := inClass (top 10) 1
abbrev s_Frame_before : Stmt := inClass (top 10) 2
abbrev s_Frame___eq__ : Stmt := inClass (top 10) 3
abbrev s__rank : Stmt := top 11
abbrev s__law_begin : Stmt := top 13
abbrev s__law_draw : Stmt := top 14
abbrev s__law_end_near : Stmt := top 15
abbrev s__law_drawn : Stmt := top 16
abbrev s__law_rank : Stmt := top 17
abbrev s_law : Stmt := top 18
theorem sc__wall : FnScope ["k"] ["k"] (defScope s__wall) := ⟨rfl, rfl, rfl, by decide +kernel, rfl, by decide +kernel, by decide +kernel⟩
theorem sc_TurnedStretch___init__ : FnScope ["self", "low", "high"] ["self", "low", "high"] (defScope s_TurnedStretch___init__) := ⟨rfl, rfl, rfl, by decide +kernel, rfl, by decide +kernel, by decide +kernel⟩
theorem sc_BadFrame___init__ : FnScope ["self", "word"] ["self", "word"] (defScope s_BadFrame___init__) := ⟨rfl, rfl, rfl, by decide +kernel, rfl, by decide +kernel, by decide +kernel⟩
theorem sc_turned : FnScope ["low", "high"] ["low", "high"] (defScope s_turned) := ⟨rfl, rfl, rfl, by decide +kernel, rfl, by decide +kernel, by decide +kernel⟩
theorem sc_Frame___init__ : FnScope ["self", "unit", "start", "end", "without"] ["self", "unit", "start", "end", "without"] (defScope s_Frame___init__) := ⟨rfl, rfl, rfl, by decide +kernel, rfl, by decide +kernel, by decide +kernel⟩
theorem sc_Frame_region : FnScope ["self"] ["self"] (defScope s_Frame_region) := ⟨rfl, rfl, rfl, by decide +kernel, rfl, by decide +kernel, by decide +kernel⟩
theorem sc_Frame_before : FnScope ["self", "other"] ["self", "other"] (defScope s_Frame_before) := ⟨rfl, rfl, rfl, by decide +kernel, rfl, by decide +kernel, by decide +kernel⟩
theorem sc_Frame___eq__ : FnScope ["self", "other"] ["self", "other"] (defScope s_Frame___eq__) := ⟨rfl, rfl, rfl, by decide +kernel, rfl, by decide +kernel, by decide +kernel⟩
theorem sc__rank : FnScope ["frame", "start", "end"] ["frame"] (defScope s__rank) := ⟨rfl, rfl, rfl, by decide +kernel, rfl, by decide +kernel, by decide +kernel⟩
theorem sc__law_begin : FnScope ["_law_script", "_law_cells", "_law_cell"] ["_law_script"] (defScope s__law_begin) := ⟨rfl, rfl, rfl, by decide +kernel, rfl, by decide +kernel, by decide +kernel⟩
theorem sc__law_draw : FnScope ["_law_draws", "_law_many", "_law_turn", "_law_at", "_law_cell", "_law_got", "_law_first", "_law_salt", "_law_second", "_law_mixed", "_law_third"] ["_law_draws", "_law_many"] (defScope s__law_draw) := ⟨rfl, rfl, rfl, by decide +kernel, rfl, by decide +kernel, by decide +kernel⟩
theorem sc__law_end_near : FnScope ["_law_draws", "_law_way"] ["_law_draws"] (defScope s__law_end_near) := ⟨rfl, rfl, rfl, by decide +kernel, rfl, by decide +kernel, by decide +kernel⟩
theorem sc__law_drawn : FnScope ["_law_draws", "_law_begin_here", "_law_close", "_law_unit"] ["_law_draws"] (defScope s__law_drawn) := ⟨rfl, rfl, rfl, by decide +kernel, rfl, by decide +kernel, by decide +kernel⟩
theorem sc__law_rank : FnScope ["_law_four", "_law_words", "_law_rank_here"] ["_law_four"] (defScope s__law_rank) := ⟨rfl, rfl, rfl, by decide +kernel, rfl, by decide +kernel, by decide +kernel⟩
theorem sc_law : FnScope ["_law_script", "_law_draws", "_law_fours", "_law_k", "_law_frames", "_law_j", "_law_earlier", "_law_equal", "_law_four"] ["_law_script"] (defScope s_law) := ⟨rfl, rfl, rfl, by decide +kernel, rfl, by decide +kernel, by decide +kernel⟩
def d__wall : He.DefD := ⟨("_wall", none), "_wall", "_wall", defArgs s__wall, defBody s__wall, defScope s__wall, [], []⟩
def d_TurnedStretch___init__ : He.DefD := ⟨("TurnedStretch", some "__init__"), "__init__", "TurnedStretch.__init__", defArgs s_TurnedStretch___init__, defBody s_TurnedStretch___init__, defScope s_TurnedStretch___init__, [], []⟩
def d_BadFrame___init__ : He.DefD := ⟨("BadFrame", some "__init__"), "__init__", "BadFrame.__init__", defArgs s_BadFrame___init__, defBody s_BadFrame___init__, defScope s_BadFrame___init__, [], []⟩
def d_turned : He.DefD := ⟨("turned", none), "turned", "turned", defArgs s_turned, defBody s_turned, defScope s_turned, [], []⟩
def d_Frame___init__ : He.DefD := ⟨("Frame", some "__init__"), "__init__", "Frame.__init__", defArgs s_Frame___init__, defBody s_Frame___init__, defScope s_Frame___init__, [], [("without", .str "nothing")]⟩
def d_Frame_region : He.DefD := ⟨("Frame", some "region"), "region", "Frame.region", defArgs s_Frame_region, defBody s_Frame_region, defScope s_Frame_region, [], []⟩
def d_Frame_before : He.DefD := ⟨("Frame", some "before"), "before", "Frame.before", defArgs s_Frame_before, defBody s_Frame_before, defScope s_Frame_before, [], []⟩
def d_Frame___eq__ : He.DefD := ⟨("Frame", some "__eq__"), "__eq__", "Frame.__eq__", defArgs s_Frame___eq__, defBody s_Frame___eq__, defScope s_Frame___eq__, [], []⟩
def d__rank : He.DefD := ⟨("_rank", none), "_rank", "_rank", defArgs s__rank, defBody s__rank, defScope s__rank, [], []⟩
def d__law_begin : He.DefD := ⟨("_law_begin", none), "_law_begin", "_law_begin", defArgs s__law_begin, defBody s__law_begin, defScope s__law_begin, [], []⟩
def d__law_draw : He.DefD := ⟨("_law_draw", none), "_law_draw", "_law_draw", defArgs s__law_draw, defBody s__law_draw, defScope s__law_draw, [], []⟩
def d__law_end_near : He.DefD := ⟨("_law_end_near", none), "_law_end_near", "_law_end_near", defArgs s__law_end_near, defBody s__law_end_near, defScope s__law_end_near, [], []⟩
def d__law_drawn : He.DefD := ⟨("_law_drawn", none), "_law_drawn", "_law_drawn", defArgs s__law_drawn, defBody s__law_drawn, defScope s__law_drawn, [], []⟩
def d__law_rank : He.DefD := ⟨("_law_rank", none), "_law_rank", "_law_rank", defArgs s__law_rank, defBody s__law_rank, defScope s__law_rank, [], []⟩
def d_law : He.DefD := ⟨("law", none), "law", "law", defArgs s_law, defBody s_law, defScope s_law, [], []⟩
def fn : List He.DefD := [d__wall, d_TurnedStretch___init__, d_BadFrame___init__, d_turned, d_Frame___init__, d_Frame_region, d_Frame_before, d_Frame___eq__, d__rank, d__law_begin, d__law_draw, d__law_end_near, d__law_drawn, d__law_rank, d_law]
def fa : List He.Fa := ([.glo "_wall", .glo "turned", .glo "_rank", .glo "_law_begin", .glo "_law_draw", .glo "_law_end_near", .glo "_law_drawn", .glo "_law_rank", .glo "law", .free "ValueError", .free "range", .free "int", .free "len", .free "isinstance", .free "abs", .free "list", .free "bool", .glo "Frame", .cls "Frame", .noat "Frame" "unit", .noat "Frame" "start", .noat "Frame" "end", .noat "Frame" "without", .mkr "Frame", .meth "Frame" "region", .meth "Frame" "before", .meth "Frame" "__eq__", .glo "WindowError", .glo "TurnedStretch", .glo "BadFrame", .glo "UNITS", .glo "EXCLUSIONS"] : List He.Fa)
def xs : List Xf := ([xIsi "Frame", xSelf "Frame", xNe "Frame", xNf "Frame" "NoneType", xKit "NoneType" "Frame" false, xNf "Frame" "int", xKit "int" "Frame" false, xNf "Frame" "str", xKit "str" "Frame" false, xNf "Frame" "bool", xKit "bool" "Frame" false, xNf "Frame" "list", xKit "list" "Frame" false, xNf "Frame" "tuple", xKit "tuple" "Frame" false, xNfC "Frame" "Frame", xKitC "Frame" "Frame" true, xTup "UNITS" [.str "rows", .str "groups", .str "keys"], xTupP "UNITS", xTup "EXCLUSIONS" [.str "nothing", .str "current", .str "group", .str "ties"], xTupP "EXCLUSIONS"] : List Xf)
abbrev E (K : PySem.W.Frag) (mg : Str → Option Value) : Prop := My.EnvX fa fn xs K mg
section
variable {K : PySem.W.Frag} {mg : Str → Option Value}
theorem free_ValueError (ev : E K mg) : mg "ValueError" = none := ev.fre 9
theorem free_range (ev : E K mg) : mg "range" = none := ev.fre 10
theorem free_int (ev : E K mg) : mg "int" = none := ev.fre 11
theorem free_len (ev : E K mg) : mg "len" = none := ev.fre 12
theorem free_isinstance (ev : E K mg) : mg "isinstance" = none := ev.fre 13
theorem free_abs (ev : E K mg) : mg "abs" = none := ev.fre 14
theorem free_list (ev : E K mg) : mg "list" = none := ev.fre 15
theorem free_bool (ev : E K mg) : mg "bool" = none := ev.fre 16
theorem glo_Frame (ev : E K mg) : mg "Frame" = some (.ref (He.ga K "Frame")) := ev.glo 17
theorem cls_Frame (ev : E K mg) : Cls K (He.ga K "Frame") := He.cls_ok (ev.e.c.fact 18 rfl)
theorem isi_Frame (ev : E K mg) : SlX.SIsi K (He.ga K "Frame") := isi_of (ev.xf 0)
theorem self_Frame (ev : E K mg) : PySem.W.selfFirst K (He.ga K "Frame") = true := ev.xf 1
theorem mro_Frame (ev : E K mg) : PySem.W.mroIn K (He.ga K "Frame") (.type "object") = some true := (isi_Frame ev).cm
theorem ne_Frame (ev : E K mg) : PySem.W.findIn K (.ref (He.ga K "Frame")) "__ne__" = some (some (.builtin "object.__ne__")) := He.eqO_ok (ev.xf 2)
theorem ty_Frame (ev : E K mg) {H : Hp} {a dx : Addr} {fs : List (Str × V)} (e : H a = some (.ins (He.ga K "Frame") dx fs)) : TyX K H (.ref a) (.ref (He.ga K "Frame")) := ty_ins e (cls_Frame ev) (isi_Frame ev)
theorem nf_Frame_NoneType (ev : E K mg) : PySem.W.notFirst K (He.ga K "Frame") (.type "NoneType") = true := ev.xf 3
theorem kit_NoneType_Frame (ev : E K mg) : PySem.W.kitOne K (.type "NoneType") (.ref (He.ga K "Frame")) = some false := of_decide_eq_true (ev.xf 4)
theorem nf_Frame_int (ev : E K mg) : PySem.W.notFirst K (He.ga K "Frame") (.type "int") = true := ev.xf 5
theorem kit_int_Frame (ev : E K mg) : PySem.W.kitOne K (.type "int") (.ref (He.ga K "Frame")) = some false := of_decide_eq_true (ev.xf 6)
theorem nf_Frame_str (ev : E K mg) : PySem.W.notFirst K (He.ga K "Frame") (.type "str") = true := ev.xf 7
theorem kit_str_Frame (ev : E K mg) : PySem.W.kitOne K (.type "str") (.ref (He.ga K "Frame")) = some false := of_decide_eq_true (ev.xf 8)
theorem nf_Frame_bool (ev : E K mg) : PySem.W.notFirst K (He.ga K "Frame") (.type "bool") = true := ev.xf 9
theorem kit_bool_Frame (ev : E K mg) : PySem.W.kitOne K (.type "bool") (.ref (He.ga K "Frame")) = some false := of_decide_eq_true (ev.xf 10)
theorem nf_Frame_list (ev : E K mg) : PySem.W.notFirst K (He.ga K "Frame") (.type "list") = true := ev.xf 11
theorem kit_list_Frame (ev : E K mg) : PySem.W.kitOne K (.type "list") (.ref (He.ga K "Frame")) = some false := of_decide_eq_true (ev.xf 12)
theorem nf_Frame_tuple (ev : E K mg) : PySem.W.notFirst K (He.ga K "Frame") (.type "tuple") = true := ev.xf 13
theorem kit_tuple_Frame (ev : E K mg) : PySem.W.kitOne K (.type "tuple") (.ref (He.ga K "Frame")) = some false := of_decide_eq_true (ev.xf 14)
theorem nf_Frame_Frame (ev : E K mg) : PySem.W.notFirst K (He.ga K "Frame") (.ref (He.ga K "Frame")) = true := ev.xf 15
theorem kit_Frame_Frame (ev : E K mg) : PySem.W.kitOne K (.ref (He.ga K "Frame")) (.ref (He.ga K "Frame")) = some true := of_decide_eq_true (ev.xf 16)
theorem no_Frame_unit (ev : E K mg) : NoAttr K (He.ga K "Frame") "unit" := He.noat_ok (ev.e.c.fact 19 rfl)
theorem fld_Frame_unit (ev : E K mg) {H : Hp} {Q : VK} {v : V} {a dx : Addr} {fs : List (Str × V)} (h : H a = some (.ins (He.ga K "Frame") dx fs)) (e : fs.lookup ("unit" : Str) = some v) (q : Q v H) : KFld K "unit" Q (.ref a) H := fld_l h (cls_Frame ev) (no_Frame_unit ev) e q
theorem put_Frame_unit (ev : E K mg) {H : Hp} {D : Ends} {σ : L2.St} {y : V} {a dx : Addr} {fs : List (Str × V)} (h : H a = some (.ins (He.ga K "Frame") dx fs)) (e : fs.length < 1000) (q : D.nx σ (upd H a (.ins (He.ga K "Frame") dx (putF "unit" y fs)))) : KSf2 K y "unit" D σ (.ref a) H := sf_l h (cls_Frame ev) (no_Frame_unit ev) e q
theorem no_Frame_start (ev : E K mg) : NoAttr K (He.ga K "Frame") "start" := He.noat_ok (ev.e.c.fact 20 rfl)
theorem fld_Frame_start (ev : E K mg) {H : Hp} {Q : VK} {v : V} {a dx : Addr} {fs : List (Str × V)} (h : H a = some (.ins (He.ga K "Frame") dx fs)) (e : fs.lookup ("start" : Str) = some v) (q : Q v H) : KFld K "start" Q (.ref a) H := fld_l h (cls_Frame ev) (no_Frame_start ev) e q
theorem put_Frame_start (ev : E K mg) {H : Hp} {D : Ends} {σ : L2.St} {y : V} {a dx : Addr} {fs : List (Str × V)} (h : H a = some (.ins (He.ga K "Frame") dx fs)) (e : fs.length < 1000) (q : D.nx σ (upd H a (.ins (He.ga K "Frame") dx (putF "start" y fs)))) : KSf2 K y "start" D σ (.ref a) H := sf_l h (cls_Frame ev) (no_Frame_start ev) e q
theorem no_Frame_end (ev : E K mg) : NoAttr K (He.ga K "Frame") "end" := He.noat_ok (ev.e.c.fact 21 rfl)
theorem fld_Frame_end (ev : E K mg) {H : Hp} {Q : VK} {v : V} {a dx : Addr} {fs : List (Str × V)} (h : H a = some (.ins (He.ga K "Frame") dx fs)) (e : fs.lookup ("end" : Str) = some v) (q : Q v H) : KFld K "end" Q (.ref a) H := fld_l h (cls_Frame ev) (no_Frame_end ev) e q
theorem put_Frame_end (ev : E K mg) {H : Hp} {D : Ends} {σ : L2.St} {y : V} {a dx : Addr} {fs : List (Str × V)} (h : H a = some (.ins (He.ga K "Frame") dx fs)) (e : fs.length < 1000) (q : D.nx σ (upd H a (.ins (He.ga K "Frame") dx (putF "end" y fs)))) : KSf2 K y "end" D σ (.ref a) H := sf_l h (cls_Frame ev) (no_Frame_end ev) e q
theorem no_Frame_without (ev : E K mg) : NoAttr K (He.ga K "Frame") "without" := He.noat_ok (ev.e.c.fact 22 rfl)
theorem fld_Frame_without (ev : E K mg) {H : Hp} {Q : VK} {v : V} {a dx : Addr} {fs : List (Str × V)} (h : H a = some (.ins (He.ga K "Frame") dx fs)) (e : fs.lookup ("without" : Str) = some v) (q : Q v H) : KFld K "without" Q (.ref a) H := fld_l h (cls_Frame ev) (no_Frame_without ev) e q
theorem put_Frame_without (ev : E K mg) {H : Hp} {D : Ends} {σ : L2.St} {y : V} {a dx : Addr} {fs : List (Str × V)} (h : H a = some (.ins (He.ga K "Frame") dx fs)) (e : fs.length < 1000) (q : D.nx σ (upd H a (.ins (He.ga K "Frame") dx (putF "without" y fs)))) : KSf2 K y "without" D σ (.ref a) H := sf_l h (cls_Frame ev) (no_Frame_without ev) e q
theorem ini_Frame_unit (ev : E K mg) {H : Hp} {D : Ends} {σ : L2.St} {y : V} {a dx : Addr} (h : H a = some (.ins (He.ga K "Frame") dx [])) (q : D.nx σ (upd H a (.ins (He.ga K "Frame") dx [(("unit" : Str), y)]))) : KSf2 K y "unit" D σ (.ref a) H := put_Frame_unit ev h (by show 0 < 1000; decide) (by rw [show putF "unit" y ([] : List (Str × V)) = [(("unit" : Str), y)] from by kernel_rfl]; exact q)
theorem ini_Frame_start (ev : E K mg) {H : Hp} {D : Ends} {σ : L2.St} {y : V} {x0 : V} {a dx : Addr} (h : H a = some (.ins (He.ga K "Frame") dx [(("unit" : Str), x0)])) (q : D.nx σ (upd H a (.ins (He.ga K "Frame") dx [(("unit" : Str), x0), (("start" : Str), y)]))) : KSf2 K y "start" D σ (.ref a) H := put_Frame_start ev h (by show 1 < 1000; decide) (by rw [show putF "start" y ([(("unit" : Str), x0)] : List (Str × V)) = [(("unit" : Str), x0), (("start" : Str), y)] from by kernel_rfl]; exact q)
theorem ini_Frame_end (ev : E K mg) {H : Hp} {D : Ends} {σ : L2.St} {y : V} {x0 x1 : V} {a dx : Addr} (h : H a = some (.ins (He.ga K "Frame") dx [(("unit" : Str), x0), (("start" : Str), x1)])) (q : D.nx σ (upd H a (.ins (He.ga K "Frame") dx [(("unit" : Str), x0), (("start" : Str), x1), (("end" : Str), y)]))) : KSf2 K y "end" D σ (.ref a) H := put_Frame_end ev h (by show 2 < 1000; decide) (by rw [show putF "end" y ([(("unit" : Str), x0), (("start" : Str), x1)] : List (Str × V)) = [(("unit" : Str), x0), (("start" : Str), x1), (("end" : Str), y)] from by kernel_rfl]; exact q)
theorem ini_Frame_without (ev : E K mg) {H : Hp} {D : Ends} {σ : L2.St} {y : V} {x0 x1 x2 : V} {a dx : Addr} (h : H a = some (.ins (He.ga K "Frame") dx [(("unit" : Str), x0), (("start" : Str), x1), (("end" : Str), x2)])) (q : D.nx σ (upd H a (.ins (He.ga K "Frame") dx [(("unit" : Str), x0), (("start" : Str), x1), (("end" : Str), x2), (("without" : Str), y)]))) : KSf2 K y "without" D σ (.ref a) H := put_Frame_without ev h (by show 3 < 1000; decide) (by rw [show putF "without" y ([(("unit" : Str), x0), (("start" : Str), x1), (("end" : Str), x2)] : List (Str × V)) = [(("unit" : Str), x0), (("start" : Str), x1), (("end" : Str), x2), (("without" : Str), y)] from by kernel_rfl]; exact q)
theorem mkr_Frame (ev : E K mg) : Mk K (He.ga K "Frame") (He.ma K (He.ga K "Frame") "__init__") := He.mkr_ok (ev.e.c.fact 23 rfl)
theorem meth_Frame_region (ev : E K mg) : Meth K (He.ga K "Frame") "region" (He.ma K (He.ga K "Frame") "region") := He.meth_ok (ev.e.c.fact 24 rfl)
theorem meth_Frame_before (ev : E K mg) : Meth K (He.ga K "Frame") "before" (He.ma K (He.ga K "Frame") "before") := He.meth_ok (ev.e.c.fact 25 rfl)
theorem meth_Frame___eq__ (ev : E K mg) : Meth K (He.ga K "Frame") "__eq__" (He.ma K (He.ga K "Frame") "__eq__") := He.meth_ok (ev.e.c.fact 26 rfl)
theorem gloE_WindowError (ev : E K mg) : mg "WindowError" = some (.ref (He.ga K "WindowError")) := ev.glo 27
theorem gloE_TurnedStretch (ev : E K mg) : mg "TurnedStretch" = some (.ref (He.ga K "TurnedStretch")) := ev.glo 28
theorem gloE_BadFrame (ev : E K mg) : mg "BadFrame" = some (.ref (He.ga K "BadFrame")) := ev.glo 29
theorem con_UNITS (ev : E K mg) : mg "UNITS" = some (.ref (He.ga K "UNITS")) := ev.glo 30
theorem tab_UNITS (ev : E K mg) (H : Hp) : SqT K H (He.ga K "UNITS") ((["rows", "groups", "keys"] : List Str).map V.str) := tab_ok (ev.xf 17) H
theorem tyc_UNITS (ev : E K mg) (H : Hp) : tyV K "tuple" (.ref (He.ga K "UNITS")) H := tyT_ok (ev.xf 18) H
theorem con_EXCLUSIONS (ev : E K mg) : mg "EXCLUSIONS" = some (.ref (He.ga K "EXCLUSIONS")) := ev.glo 31
theorem tab_EXCLUSIONS (ev : E K mg) (H : Hp) : SqT K H (He.ga K "EXCLUSIONS") ((["nothing", "current", "group", "ties"] : List Str).map V.str) := tab_ok (ev.xf 19) H
theorem tyc_EXCLUSIONS (ev : E K mg) (H : Hp) : tyV K "tuple" (.ref (He.ga K "EXCLUSIONS")) H := tyT_ok (ev.xf 20) H
end

def turnB (a b : Option Int) : Bool := match a, b with | some x, some y => decide (y < x) | _, _ => false
def sp_turned : Sp := fun vs H Q _ => ∃ a b, vs = [oV a, oV b] ∧ Q (.bl (turnB a b)) H
abbrev uns : List Str := ["rows", "groups", "keys"]
abbrev exs : List Str := ["nothing", "current", "group", "ties"]
def frF (u : Str) (a b : Option Int) (w : Str) : List (Str × V) := [("unit", .str u), ("start", oV a), ("end", oV b), ("without", .str w)]
def IsFr (K : PySem.W.Frag) (H : Hp) (p : Addr) (u : Str) (a b : Option Int) (w : Str) : Prop := ∃ dx, H p = some (.ins (He.ga K "Frame") dx (frF u a b w))
theorem IsFr.fr {K : PySem.W.Frag} {S : List Addr} {H H' : Hp} {p : Addr} {u w : Str} {a b : Option Int} (h : IsFr K H p u a b w) (f : My.Fr S H H') (n : p ∉ S) : IsFr K H' p u a b w := by
  obtain ⟨dx, e⟩ := h
  exact ⟨dx, f.1 _ _ n e⟩
def sp_frI (K : PySem.W.Frag) : Sp := fun vs H Q _ => ∃ x dx u a b w, vs = [.ref x, .str u, oV a, oV b, .str w] ∧ H x = some (.ins (He.ga K "Frame") dx []) ∧ u ∈ uns ∧ w ∈ exs ∧ turnB a b = false ∧ Q .non (upd H x (.ins (He.ga K "Frame") dx (frF u a b w)))
def sp_eqF (K : PySem.W.Frag) : Sp := fun vs H Q _ => ∃ p u a b w y, vs = [.ref p, y] ∧ IsFr K H p u a b w ∧ ((∃ r u' a' b' w', y = .ref r ∧ IsFr K H r u' a' b' w' ∧ Q (.bl (decide (u = u') && (decide (a = a') && (decide (b = b') && decide (w = w'))))) H) ∨ ∃ t, TyX K H y t ∧ PySem.W.kitOne K t (.ref (He.ga K "Frame")) = some false ∧ Q (.bl false) H)
def loT : Option Int → Int
  | none => 0
  | some _ => 1
def hiT : Option Int → Int
  | none => 1
  | some _ => 0
def gD : Option Int → Int
  | none => 0
  | some x => x
def rkD (u : Str) (a b : Option Int) (w : Str) : PyData := .tuple [.int (exs.idxOf w : Nat), .int (uns.idxOf u : Nat), .tuple [.int (loT a), .int (gD a)], .tuple [.int (hiT b), .int (gD b)]]
def IsRk (H : Hp) (t : Addr) (u : Str) (a b : Option Int) (w : Str) : Prop := ∃ s e, H t = some (.tup [.int (exs.idxOf w : Nat), .int (uns.idxOf u : Nat), .ref s, .ref e]) ∧ H s = some (.tup [.int (loT a), .int (gD a)]) ∧ H e = some (.tup [.int (hiT b), .int (gD b)])
def sp_rank (K : PySem.W.Frag) : Sp := fun vs H Q _ => ∃ p u a b w, vs = [.ref p] ∧ IsFr K H p u a b w ∧ u ∈ uns ∧ w ∈ exs ∧ ∀ t H', IsRk H' t u a b w → My.Fr [] H H' → Q (.ref t) H'
def sp_before (K : PySem.W.Frag) : Sp := fun vs H Q _ => ∃ p u a b w r u' a' b' w', vs = [.ref p, .ref r] ∧ IsFr K H p u a b w ∧ IsFr K H r u' a' b' w' ∧ u ∈ uns ∧ w ∈ exs ∧ u' ∈ uns ∧ w' ∈ exs ∧ ∀ H', My.Fr [] H H' → Q (.bl (ltv (rkD u a b w) (rkD u' a' b' w'))) H'
theorem IsRk.dp {K : PySem.W.Frag} {H : Hp} {t : Addr} {u w : Str} {a b : Option Int} (h : IsRk H t u a b w) : Dp K H (.ref t) (rkD u a b w) := by
  obtain ⟨s, e, h1, h2, h3⟩ := h
  exact .tup (SqT.of h1) (.cons (.int _) (.cons (.int _) (.cons (.tup (SqT.of h2) (.cons (.int _) (.cons (.int _) .nil))) (.cons (.tup (SqT.of h3) (.cons (.int _) (.cons (.int _) .nil))) .nil))))
theorem rk_ok {u w u' w' : Str} {a b a' b' : Option Int} : ltOk (rkD u a b w) (rkD u' a' b' w') = true := by simp [rkD, ltOk, ltOks]
theorem IsRk.fr {H H' : Hp} {t : Addr} {u w : Str} {a b : Option Int} (h : IsRk H t u a b w) (f : My.Fr [] H H') : IsRk H' t u a b w := by
  obtain ⟨s, e, h1, h2, h3⟩ := h
  exact ⟨s, e, f.1 _ _ (by simp) h1, f.1 _ _ (by simp) h2, f.1 _ _ (by simp) h3⟩
def spEndN : Sp := fun vs H Q _ => ∃ (a ac ar : Addr), vs = [.ref a] ∧ Dr H a ac ar ∧ ∀ (v : Option Int) (H' : Hp), Dr H' a ac ar → My.Fr [a, ar] H H' → Q (oV v) H'
def IsFour (H : Hp) (p : Addr) (u : Str) (a b : Option Int) (w : Str) : Prop := H p = some (.lst [.str u, oV a, oV b, .str w]) ∧ u ∈ uns ∧ w ∈ exs ∧ turnB a b = false
theorem IsFour.fr {S : List Addr} {H H' : Hp} {p : Addr} {u w : Str} {a b : Option Int} (h : IsFour H p u a b w) (f : My.Fr S H H') (n : p ∉ S) : IsFour H' p u a b w := ⟨f.1 _ _ n h.1, h.2⟩
theorem at_strs {ws : List Str} {i : Int} (h0 : 0 ≤ i) (h1 : i < (ws.length : Int)) : ∃ z ∈ ws, atI (ws.map V.str) i = some (.str z) := by
  obtain ⟨n, rfl⟩ := Int.eq_ofNat_of_zero_le h0
  have hn : n < ws.length := by omega
  refine ⟨ws[n], List.getElem_mem hn, ?_⟩
  refine atI_nat ?_
  rw [List.getElem?_map, List.getElem?_eq_getElem hn] <;> rfl
def ISw (a : Addr) (H2 : Hp) (σ : L2.St) (H3 : Hp) : Prop := ∃ (x y : Option Int) (v : Option V), σ = [some (.ref a), some (oV x), some (oV y), v] ∧ turnB x y = false ∧ H3 = H2
def spDrawn : Sp := fun vs H Q _ => ∃ (a ac ar : Addr), vs = [.ref a] ∧ Dr H a ac ar ∧ ∀ (f : Addr) (u : Str) (x y : Option Int) (w : Str) (H' : Hp), H f = none → IsFour H' f u x y w → Dr H' a ac ar → My.Fr [a, ar] H H' → Q (.ref f) H'
def lkD (u : Str) (a b : Option Int) (w : Str) : List Int := [(exs.idxOf w : Nat), (uns.idxOf u : Nat), loT a, gD a, hiT b, gD b]
def sp_lrank : Sp := fun vs H Q _ => ∃ f u a b w, vs = [.ref f] ∧ IsFour H f u a b w ∧ ∀ l H', H' l = some (.lst ((lkD u a b w).map V.int)) → My.Fr [] H H' → Q (.ref l) H'
def sp_law (K : PySem.W.Frag) : Sp := fun vs H Q _ => ∃ (a : Addr) (ns : List Int), vs = [.ref a] ∧ SqL K H a (ns.map V.int) ∧ ns.length ≤ 63 ∧ ∀ H', Q (.bl true) H'
theorem IsFour.dp {K : PySem.W.Frag} {H : Hp} {p : Addr} {u w : Str} {a b : Option Int} (h : IsFour H p u a b w) : Dp K H (.ref p) (.list [.str u, oD a, oD b, .str w]) := .lst (SqL.of h.1) (.cons (.str _) (.cons dp_o (.cons dp_o (.cons (.str _) .nil))))
theorem st_u {u : Str} (h : u ∈ uns) : PyData.strOk u = true := by
  simp only [List.mem_cons, List.not_mem_nil, or_false] at h
  rcases h with rfl | rfl | rfl <;> exact ok_of _
theorem st_w {u : Str} (h : u ∈ exs) : PyData.strOk u = true := by
  simp only [List.mem_cons, List.not_mem_nil, or_false] at h
  rcases h with rfl | rfl | rfl | rfl <;> exact ok_of _
theorem four_sh {u w : Str} {a b : Option Int} (hu : u ∈ uns) (hw : w ∈ exs) : SeqAt.shaped (.list [.str u, oD a, oD b, .str w]) = true := by
  simp only [SeqAt.shaped, PyData.canLay0, PyData.canLayAll0, PyData.depth, PyData.depthAll, depth_o, sh_o, st_u hu, st_w hw]
  rfl
theorem eqv_four {u w u' w' : Str} {a b a' b' : Option Int} : PyData.eqv (.list [.str u, oD a, oD b, .str w]) (.list [.str u', oD a', oD b', .str w']) = (decide (u = u') && (decide (a = a') && (decide (b = b') && decide (w = w')))) := by
  have e : PyData.eqv (.list [.str u, oD a, oD b, .str w]) (.list [.str u', oD a', oD b', .str w']) = (PyData.eqv (.str u) (.str u') && (PyData.eqv (oD a) (oD a') && (PyData.eqv (oD b) (oD b') && (PyData.eqv (.str w) (.str w') && true)))) := rfl
  rw [e, eqv_ss, eqv_oo, eqv_oo, eqv_ss, Bool.and_true]
theorem lk_ok {u w u' w' : Str} {a b a' b' : Option Int} : ltOk (.list ((lkD u a b w).map PyData.int)) (.list ((lkD u' a' b' w').map PyData.int)) = true := by simp [lkD, ltOk, ltOks]
theorem lt_lk {u w u' w' : Str} {a b a' b' : Option Int} : ltv (.list ((lkD u a b w).map PyData.int)) (.list ((lkD u' a' b' w').map PyData.int)) = ltv (rkD u a b w) (rkD u' a' b' w') := by
  unfold lkD rkD
  generalize ((exs.idxOf w : Nat) : Int) = i1
  generalize ((uns.idxOf u : Nat) : Int) = i2
  generalize ((exs.idxOf w' : Nat) : Int) = j1
  generalize ((uns.idxOf u' : Nat) : Int) = j2
  generalize loT a = i3
  generalize gD a = i4
  generalize hiT b = i5
  generalize gD b = i6
  generalize loT a' = j3
  generalize gD a' = j4
  generalize hiT b' = j5
  generalize gD b' = j6
  simp only [List.map_cons, List.map_nil, ltv, ltvs, PyData.eqv, PyData.eqvAll, Bool.and_true, List.isEmpty_nil, Bool.not_true]
  by_cases h3 : i3 = j3 <;> by_cases h4 : i4 = j4 <;> by_cases h5 : i5 = j5 <;> by_cases h6 : i6 = j6 <;> simp [h3, h4, h5, h6]
def OkF (S : List Addr) (H : Hp) (y : V) : Prop := ∃ f u x z w, y = .ref f ∧ IsFour H f u x z w ∧ f ∉ S
def RF (K : PySem.W.Frag) (H0 : Hp) (x : V) (o : Option V) (H : Hp) : Prop := ∃ f u a b w r, x = .ref f ∧ IsFour H0 f u a b w ∧ o = some (.ref r) ∧ IsFr K H r u a b w
def IB (a p kp fr : Addr) (H0 : Hp) (_ : Nat) (σ : L2.St) (H : Hp) : Prop := ∃ (v1 v2 v3 v4 v5 : Option V), σ = [some (.ref a), some (.ref p), some (.ref kp), v1, some (.ref fr), v2, v3, v4, v5] ∧ My.Fr [] H0 H
def IC (a p kp fr : Addr) (H0 : Hp) (j : Nat) (_ : Nat) (σ : L2.St) (H : Hp) : Prop := ∃ (v1 v3 v4 v5 : Option V), σ = [some (.ref a), some (.ref p), some (.ref kp), v1, some (.ref fr), some (.int j), v3, v4, v5] ∧ My.Fr [] H0 H
def IA (a p ac ar kp : Addr) (i : Nat) (σ : L2.St) (H : Hp) : Prop := ∃ (rs : List V) (vk : Option V), σ = [some (.ref a), some (.ref p), some (.ref kp), vk, none, none, none, none, none] ∧ Dr H p ac ar ∧ H kp = some (.lst rs) ∧ rs.length = i ∧ ∀ y ∈ rs, OkF [p, ar, kp] H y
local macro_rules | `(tactic| walk_at "wp") => `(tactic| try simp only [mw_seq, mw_next, mw_brk, mw_cont, mw_ret, mw_retN, mw_asg, mw_asgN, mw_asgS, mw_sub1, mw_sub2, mw_at, mw_drop, mw_dropK, mw_aug, mw_augK, mw_aug2, mw_if, mw_ifK, mw_test, mw_B, mw_KB, mw_and, mw_andK, mw_or, mw_orK, mw_not, mw_notK, mw_yes, mw_cxK, mw_c, mw_var0, mw_varS, mw_op, mw_op1, mw_op2, mw_un, mw_unK, mw_rI0, mw_rI, mw_rU, mw_eqII, mw_neII, mw_eqBB, mw_neBB, mw_eqSS, mw_neSS, mw_cons, mw_arg1, mw_arg2, mw_nil, mw_call, mw_callK, mw_callK0, mw_callK0K, mw_CB, mw_CBK, mw_tup, mw_lst, mw_ife, mw_ifeK, mw_andV, mw_andVK, mw_orV, mw_orVK, mw_notV, mw_notVK, mw_fld, mw_BM, mw_BMK, mw_BM2, mw_sl, mw_sl1, mw_sl2, mw_sl3, mw_part, mw_partK, mw_noPart, mw_make, mw_meth, mw_sfld, mw_sf1, mw_intI, mw_intB, mw_abs, mw_max, mw_min, mw_isBB, mw_isIB, mw_isII, mw_isBI, mw_isNo, mw_notNo, mw_aug2X, mw_setK, mw_addS, mw_ost, mw_ost1, mw_raise, mw_makeS, mw_makeSK, mw_tryA, mw_xf, mw_eqOO, mw_isT, mw_notT, oV_none, oV_some, mw_par2, mw_par3, mw_par2K, mw_par3K, mw_tupG, mw_gcons, mw_gnil, mw_ktg, mw_gname, mw_forL, mw_forT, mw_forR1, mw_forR2, mw_lcL, mw_lcT, mw_lcR1, ite_and_m, ite_or_m, L2.start, L2.wipe, List.map_cons, List.map_nil, List.length_cons, List.length_nil, List.replicate, List.cons_append, List.nil_append, List.append_nil, List.set_cons_zero, List.set_cons_succ, L2.V.int.injEq, L2.V.bl.injEq, L2.V.str.injEq, L2.V.ref.injEq, L2.V.ty.injEq, List.cons.injEq, reduceCtorEq, exists_eq_left, exists_eq_left', exists_and_left, exists_and_right, exists_eq, and_assoc, and_true, true_and, and_self, decide_eq_true_eq, decide_true, decide_false, Bool.not_eq_true, Bool.not_true, Bool.not_false, if_true, if_false, ite_true, ite_false, Bool.false_eq_true, Bool.not_eq_eq_eq_not, decide_eq_false_iff_not, Nat.reduceSub, Nat.reduceAdd, false_or, or_false, exists_const, false_and, and_false, exists_false, mw_makeM, mw_makeM1])
local macro_rules | `(tactic| walk_at "num") => `(tactic| first | decide | exact ⟨by decide, by decide, by decide⟩ | exact .inl ⟨by omega, by omega⟩ | exact .inr ⟨by omega, by omega⟩ | exact .inl ⟨by decide, by decide⟩ | exact .inr ⟨by decide, by decide⟩ | omega)
local macro_rules | `(tactic| walk_at "hp") => `(tactic| first | assumption | exact upd_same | (refine (upd_ne ?_).trans ?_; (walk_at "ne"); (walk_at "hp")))
local macro_rules | `(tactic| walk_at "ne") => `(tactic| first | assumption | exact Ne.symm (by assumption) | exact ne_of_none (by walk_at "hp") (by assumption) | exact Ne.symm (ne_of_none (by walk_at "hp") (by assumption)))
local macro_rules | `(tactic| walk_at "fin") => `(tactic| first | assumption | (refine q_bl (by assumption) ?_; first | rfl | exact decide_eq_true (by omega) | exact decide_eq_false (by omega) | exact (decide_eq_true (by omega)).symm | exact (decide_eq_false (by omega)).symm | exact decide_eq_decide.mpr (by omega) | (simp; omega)))
section
variable {P : Program} {w : World} {K : PySem.W.Frag} {mg : Str → Option Value} {base : Heap}
-- no promise yet: _wall
-- no promise yet: TurnedStretch.__init__
-- no promise yet: BadFrame.__init__
theorem ok_turned (ev : E K mg) : My.Callee P w K mg base CX0 1 d_turned ["low", "high"] sp_turned := by
  obtain ⟨fd, F⟩ := ev.e.c.def_ 3 (d := d_turned) rfl
  refine ⟨_, fd, ?_, ev.glo 1, F.kp, F.bindsN fun _ _ _ _ _ _ us hl => match us, hl with | [_, _], _ => rfl, F⟩
  refine F.ok sc_turned (fun vs H Q Ex h => ?_) (fun cdv A outer s H vs Q Ex hr h => ⟨_, PSs.nox
    (pss_one (ps_ret (pe_and (pe_cmpR op_notNo (pv 0) pe_non (nomark _)) (pe_and (pe_cmpR op_notNo (pv 1) pe_non (nomark _)) (pe_one (pe_cmpR op_gt (pv 0) (pv 1) (nomark _))))))), ?_⟩)
  · first | (obtain ⟨rfl, _⟩ := h; rfl) | (obtain ⟨_, rfl, _⟩ := h; rfl) | (obtain ⟨_, _, rfl, _⟩ := h; rfl) | (obtain ⟨_, _, _, rfl, _⟩ := h; rfl) | (obtain ⟨_, _, _, _, rfl, _⟩ := h; rfl) | (obtain ⟨_, _, _, _, _, rfl, _⟩ := h; rfl) | (obtain ⟨_, _, _, _, _, _, rfl, _⟩ := h; rfl) | (obtain ⟨_, _, _, _, _, _, _, rfl, _⟩ := h; rfl) | (obtain ⟨_, _, _, _, _, _, _, _, rfl, _⟩ := h; rfl) | (obtain ⟨_, _, _, _, _, _, _, _, _, rfl, _⟩ := h; rfl) | (obtain ⟨_, _, _, _, _, _, _, _, _, _, rfl, _⟩ := h; rfl) | (obtain ⟨_, _, _, _, _, _, _, _, _, _, _, rfl, _⟩ := h; rfl) | (obtain ⟨_, _, _, _, _, _, _, _, _, _, _, _, rfl, _⟩ := h; rfl) | (obtain ⟨_, _, _, _, _, _, _, _, _, _, _, _, _, rfl, _⟩ := h; rfl) | (obtain ⟨_, _, _, _, _, _, _, _, _, _, _, _, _, _, rfl, _⟩ := h; rfl) | (obtain ⟨_, _, _, _, _, _, _, _, _, _, _, _, _, _, _, rfl, _⟩ := h; rfl)
  · obtain ⟨a, b, rfl, q⟩ := h
    cases a <;> cases b <;> (unfold turnB at q; walk_at "wp"; exact q)
theorem ok_Frame___eq__ (ev : E K mg) : My.MethOf P w K mg base CX0 1 "Frame" "__eq__" ["self", "other"] (sp_eqF K) := by
  obtain ⟨fd, F⟩ := ev.e.c.def_ 7 (d := d_Frame___eq__) rfl
  refine ⟨⟨_, fd, ?_, meth_Frame___eq__ ev, F.bindsN fun _ _ _ _ _ _ us hl => match us, hl with | [_, _], _ => rfl⟩, cls_Frame ev⟩
  refine F.ok sc_Frame___eq__ (fun vs H Q Ex h => ?_) (fun cdv A outer s H vs Q Ex hr h => ⟨_, PSs.nox
    (pss_one (ps_ret (pe_and (pe_callB call_isi rfl (free_isinstance ev) (by decide +kernel) (pa_cons (pv 1) (pa_cons (pe_glob (v := .ref (He.ga K "Frame")) rfl (glo_Frame ev) rfl) pa_nil))) (pe_and (pe_cmpR op_eq (pe_fld (pv 0) rfl) (pe_fld (pv 1) rfl) (nomark _)) (pe_and (pe_cmpR op_eq (pe_fld (pv 0) rfl) (pe_fld (pv 1) rfl) (nomark _)) (pe_and (pe_cmpR op_eq (pe_fld (pv 0) rfl) (pe_fld (pv 1) rfl) (nomark _)) (pe_one (pe_cmpR op_eq (pe_fld (pv 0) rfl) (pe_fld (pv 1) rfl) (nomark _))))))))), ?_⟩)
  · first | (obtain ⟨rfl, _⟩ := h; rfl) | (obtain ⟨_, rfl, _⟩ := h; rfl) | (obtain ⟨_, _, rfl, _⟩ := h; rfl) | (obtain ⟨_, _, _, rfl, _⟩ := h; rfl) | (obtain ⟨_, _, _, _, rfl, _⟩ := h; rfl) | (obtain ⟨_, _, _, _, _, rfl, _⟩ := h; rfl) | (obtain ⟨_, _, _, _, _, _, rfl, _⟩ := h; rfl) | (obtain ⟨_, _, _, _, _, _, _, rfl, _⟩ := h; rfl) | (obtain ⟨_, _, _, _, _, _, _, _, rfl, _⟩ := h; rfl) | (obtain ⟨_, _, _, _, _, _, _, _, _, rfl, _⟩ := h; rfl) | (obtain ⟨_, _, _, _, _, _, _, _, _, _, rfl, _⟩ := h; rfl) | (obtain ⟨_, _, _, _, _, _, _, _, _, _, _, rfl, _⟩ := h; rfl) | (obtain ⟨_, _, _, _, _, _, _, _, _, _, _, _, rfl, _⟩ := h; rfl) | (obtain ⟨_, _, _, _, _, _, _, _, _, _, _, _, _, rfl, _⟩ := h; rfl) | (obtain ⟨_, _, _, _, _, _, _, _, _, _, _, _, _, _, rfl, _⟩ := h; rfl) | (obtain ⟨_, _, _, _, _, _, _, _, _, _, _, _, _, _, _, rfl, _⟩ := h; rfl)
  · obtain ⟨p, u, a, b, w, y, rfl, ⟨dx, hp⟩, q⟩ := h
    walk_at "wp"
    rcases q with ⟨r, u', a', b', w', rfl, ⟨dy, hr'⟩, q⟩ | ⟨t, ty, hk, q⟩
    · refine ⟨_, _, _, _, true, rfl, .own _, ty_Frame ev hr', kit_Frame_Frame ev, ?_⟩
      walk_at "wp"
      refine fld_Frame_unit ev hp rfl ?_
      walk_at "wp"
      refine fld_Frame_unit ev hr' rfl ?_
      walk_at "wp"
      split
      · rename_i e1
        rw [decide_eq_true e1] at q
        refine fld_Frame_start ev hp rfl ?_
        walk_at "wp"
        refine fld_Frame_start ev hr' rfl ?_
        walk_at "wp"
        split
        · rename_i e2
          rw [decide_eq_true e2] at q
          refine fld_Frame_end ev hp rfl ?_
          walk_at "wp"
          refine fld_Frame_end ev hr' rfl ?_
          walk_at "wp"
          split
          · rename_i e3
            rw [decide_eq_true e3] at q
            refine fld_Frame_without ev hp rfl ?_
            walk_at "wp"
            refine fld_Frame_without ev hr' rfl ?_
            walk_at "wp"
            simpa using q
          · rename_i e3
            rw [decide_eq_false e3] at q
            simpa using q
        · rename_i e2
          rw [decide_eq_false e2] at q
          simpa using q
      · rename_i e1
        rw [decide_eq_false e1] at q
        simpa using q
    · refine ⟨_, _, _, _, false, rfl, .own _, ty, hk, ?_⟩
      walk_at "wp"
      exact q
theorem ok__rank (ev : E K mg) : My.Callee P w K mg base CX0 1 d__rank ["frame"] (sp_rank K) := by
  obtain ⟨fd, F⟩ := ev.e.c.def_ 8 (d := d__rank) rfl
  refine ⟨_, fd, ?_, ev.glo 2, F.kp, F.bindsN fun _ _ _ _ _ _ us hl => match us, hl with | [_], _ => rfl, F⟩
  refine F.ok sc__rank (fun vs H Q Ex h => ?_) (fun cdv A outer s H vs Q Ex hr h => ⟨_, PSs.nox
    (pss_cons (ps_set (i := 1) sc__rank.nd rfl (Or.inl rfl) (pe_ifExp (pt_cmpR op_isNo (pe_fld (pv 0) rfl) pe_non (nomark _)) (pe_tup (pa_cons pe_int (pa_cons pe_int pa_nil))) (pe_tup (pa_cons pe_int (pa_cons (pe_fld (pv 0) rfl) pa_nil)))))
  (pss_cons (ps_set (i := 2) sc__rank.nd rfl (Or.inl rfl) (pe_ifExp (pt_cmpR op_isNo (pe_fld (pv 0) rfl) pe_non (nomark _)) (pe_tup (pa_cons pe_int (pa_cons pe_int pa_nil))) (pe_tup (pa_cons pe_int (pa_cons (pe_fld (pv 0) rfl) pa_nil)))))
  (pss_one (ps_ret (pe_tup (pa_cons (pe_bm PySem.F.plainAttrs_tuple PySem.F.slot_tuple_index PySem.F.type_tuple_index (r := rIdxT K) mt_idxT (pe_glob (v := .ref (He.ga K "EXCLUSIONS")) rfl (con_EXCLUSIONS (K := K) ev) rfl) (pa_cons (pe_fld (pv 0) rfl) pa_nil)) (pa_cons (pe_bm PySem.F.plainAttrs_tuple PySem.F.slot_tuple_index PySem.F.type_tuple_index (r := rIdxT K) mt_idxT (pe_glob (v := .ref (He.ga K "UNITS")) rfl (con_UNITS (K := K) ev) rfl) (pa_cons (pe_fld (pv 0) rfl) pa_nil)) (pa_cons (pv 1) (pa_cons (pv 2) pa_nil))))))))), ?_⟩)
  · first | (obtain ⟨rfl, _⟩ := h; rfl) | (obtain ⟨_, rfl, _⟩ := h; rfl) | (obtain ⟨_, _, rfl, _⟩ := h; rfl) | (obtain ⟨_, _, _, rfl, _⟩ := h; rfl) | (obtain ⟨_, _, _, _, rfl, _⟩ := h; rfl) | (obtain ⟨_, _, _, _, _, rfl, _⟩ := h; rfl) | (obtain ⟨_, _, _, _, _, _, rfl, _⟩ := h; rfl) | (obtain ⟨_, _, _, _, _, _, _, rfl, _⟩ := h; rfl) | (obtain ⟨_, _, _, _, _, _, _, _, rfl, _⟩ := h; rfl) | (obtain ⟨_, _, _, _, _, _, _, _, _, rfl, _⟩ := h; rfl) | (obtain ⟨_, _, _, _, _, _, _, _, _, _, rfl, _⟩ := h; rfl) | (obtain ⟨_, _, _, _, _, _, _, _, _, _, _, rfl, _⟩ := h; rfl) | (obtain ⟨_, _, _, _, _, _, _, _, _, _, _, _, rfl, _⟩ := h; rfl) | (obtain ⟨_, _, _, _, _, _, _, _, _, _, _, _, _, rfl, _⟩ := h; rfl) | (obtain ⟨_, _, _, _, _, _, _, _, _, _, _, _, _, _, rfl, _⟩ := h; rfl) | (obtain ⟨_, _, _, _, _, _, _, _, _, _, _, _, _, _, _, rfl, _⟩ := h; rfl)
  · obtain ⟨p, u, a, b, w, rfl, ⟨dx, hp⟩, hu, hw, q⟩ := h
    have fin : ∀ (H2 : Hp) (s e : Addr), My.Fr [] H H2 → H2 s = some (.tup [.int (loT a), .int (gD a)]) → H2 e = some (.tup [.int (hiT b), .int (gD b)]) → KTup Q [.int (exs.idxOf w : Nat), .int (uns.idxOf u : Nat), .ref s, .ref e] H2 := fun H2 s e F2 es ee => by
      refine new_t (by show 4 ≤ sizeLine; decide) fun t ht => ?_
      have F3 := Fr.new (S := []) (o := .tup [V.int (exs.idxOf w : Nat), V.int (uns.idxOf u : Nat), V.ref s, V.ref e]) ht
      exact q t _ ⟨s, e, upd_same, F3.1 _ _ (by simp) es, F3.1 _ _ (by simp) ee⟩ (F2.trans F3)
    walk_at "wp"
    refine fld_Frame_start ev hp rfl ?_
    cases a with
    | none =>
      walk_at "wp"
      refine new_t (by show 2 ≤ sizeLine; decide) fun s hs => ?_
      walk_at "wp"
      have F1 := Fr.new (S := []) (o := .tup [V.int 0, V.int 0]) hs
      have es : upd H s (.tup [V.int 0, V.int 0]) s = some (.tup [V.int 0, V.int 0]) := upd_same
      refine fld_Frame_end ev (F1.1 _ _ (by simp) hp) rfl ?_
      cases b with
      | none =>
        walk_at "wp"
        refine new_t (by show 2 ≤ sizeLine; decide) fun e he => ?_
        walk_at "wp"
        have F2 := F1.trans (Fr.new (S := []) (o := .tup [V.int 1, V.int 0]) he)
        have hp2 := F2.1 _ _ (by simp) hp
        have es2 := (Fr.new (S := []) (o := .tup [V.int 1, V.int 0]) he).1 _ _ (by simp) es
        refine ⟨tyc_EXCLUSIONS ev _, fld_Frame_without ev hp2 rfl ?_⟩
        walk_at "wp"
        refine idxT_l (ws := exs) (tab_EXCLUSIONS ev _) hw ?_
        walk_at "wp"
        refine ⟨tyc_UNITS ev _, fld_Frame_unit ev hp2 rfl ?_⟩
        walk_at "wp"
        refine idxT_l (ws := uns) (tab_UNITS ev _) hu ?_
        walk_at "wp"
        exact fin _ s e F2 es2 upd_same
      | some y =>
        walk_at "wp"
        refine fld_Frame_end ev (F1.1 _ _ (by simp) hp) rfl ?_
        walk_at "wp"
        refine new_t (by show 2 ≤ sizeLine; decide) fun e he => ?_
        walk_at "wp"
        have F2 := F1.trans (Fr.new (S := []) (o := .tup [V.int 0, V.int y]) he)
        have hp2 := F2.1 _ _ (by simp) hp
        have es2 := (Fr.new (S := []) (o := .tup [V.int 0, V.int y]) he).1 _ _ (by simp) es
        refine ⟨tyc_EXCLUSIONS ev _, fld_Frame_without ev hp2 rfl ?_⟩
        walk_at "wp"
        refine idxT_l (ws := exs) (tab_EXCLUSIONS ev _) hw ?_
        walk_at "wp"
        refine ⟨tyc_UNITS ev _, fld_Frame_unit ev hp2 rfl ?_⟩
        walk_at "wp"
        refine idxT_l (ws := uns) (tab_UNITS ev _) hu ?_
        walk_at "wp"
        exact fin _ s e F2 es2 upd_same
    | some x =>
      walk_at "wp"
      refine fld_Frame_start ev hp rfl ?_
      walk_at "wp"
      refine new_t (by show 2 ≤ sizeLine; decide) fun s hs => ?_
      walk_at "wp"
      have F1 := Fr.new (S := []) (o := .tup [V.int 1, V.int x]) hs
      have es : upd H s (.tup [V.int 1, V.int x]) s = some (.tup [V.int 1, V.int x]) := upd_same
      refine fld_Frame_end ev (F1.1 _ _ (by simp) hp) rfl ?_
      cases b with
      | none =>
        walk_at "wp"
        refine new_t (by show 2 ≤ sizeLine; decide) fun e he => ?_
        walk_at "wp"
        have F2 := F1.trans (Fr.new (S := []) (o := .tup [V.int 1, V.int 0]) he)
        have hp2 := F2.1 _ _ (by simp) hp
        have es2 := (Fr.new (S := []) (o := .tup [V.int 1, V.int 0]) he).1 _ _ (by simp) es
        refine ⟨tyc_EXCLUSIONS ev _, fld_Frame_without ev hp2 rfl ?_⟩
        walk_at "wp"
        refine idxT_l (ws := exs) (tab_EXCLUSIONS ev _) hw ?_
        walk_at "wp"
        refine ⟨tyc_UNITS ev _, fld_Frame_unit ev hp2 rfl ?_⟩
        walk_at "wp"
        refine idxT_l (ws := uns) (tab_UNITS ev _) hu ?_
        walk_at "wp"
        exact fin _ s e F2 es2 upd_same
      | some y =>
        walk_at "wp"
        refine fld_Frame_end ev (F1.1 _ _ (by simp) hp) rfl ?_
        walk_at "wp"
        refine new_t (by show 2 ≤ sizeLine; decide) fun e he => ?_
        walk_at "wp"
        have F2 := F1.trans (Fr.new (S := []) (o := .tup [V.int 0, V.int y]) he)
        have hp2 := F2.1 _ _ (by simp) hp
        have es2 := (Fr.new (S := []) (o := .tup [V.int 0, V.int y]) he).1 _ _ (by simp) es
        refine ⟨tyc_EXCLUSIONS ev _, fld_Frame_without ev hp2 rfl ?_⟩
        walk_at "wp"
        refine idxT_l (ws := exs) (tab_EXCLUSIONS ev _) hw ?_
        walk_at "wp"
        refine ⟨tyc_UNITS ev _, fld_Frame_unit ev hp2 rfl ?_⟩
        walk_at "wp"
        refine idxT_l (ws := uns) (tab_UNITS ev _) hu ?_
        walk_at "wp"
        exact fin _ s e F2 es2 upd_same
theorem ok__law_begin (ev : E K mg) : My.Callee P w K mg base CX0 1 d__law_begin ["_law_script"] (spBegin K) := by
  obtain ⟨fd, F⟩ := ev.e.c.def_ 9 (d := d__law_begin) rfl
  refine ⟨_, fd, ?_, ev.glo 3, F.kp, F.bindsN fun _ _ _ _ _ _ us hl => match us, hl with | [_], _ => rfl, F⟩
  refine F.ok sc__law_begin (fun vs H Q Ex h => ?_) (fun cdv A outer s H vs Q Ex hr h => ⟨_, PSs.nox
    (pss_cons (ps_setLc (i := 1) (own := [("_law_cell", 2)]) (g := (gName 2)) (tt := tYes) rfl sc__law_begin.nd rfl rfl (sw_true rfl rfl rfl (by decide +kernel)) (pi_list (pe_slice sl_list (pv 0) po_none (po_some pe_int))) (blkOk_by (own := [("_law_cell", 2)]) (N := ["_law_script", "_law_cells", "_law_cell"]) (sc := defScope s__law_begin) (by decide +kernel)) (fun _ _ _ _ _ => (pg_name (i := 2) sc__law_begin.nd rfl (Or.inl rfl))) (fun _ _ _ _ _ => pts_nil) (fun _ _ _ _ _ => (pe_callTy call_intR rfl (free_int ev) (by decide +kernel) (pa_cons (pv 2) pa_nil))))
  (pss_cons (ps_if (pt_cmpR op_eq (pe_callB call_lenR rfl (free_len ev) (by decide +kernel) (pa_cons (pv 1) pa_nil)) pe_int (nomark _)) (pss_one (ps_set (i := 1) sc__law_begin.nd rfl (Or.inl rfl) (pe_lst (pa_cons pe_int pa_nil))))
  pss_nil)
  (pss_one (ps_ret (pe_lst (pa_cons (pv 1) (pa_cons (pe_lc (own := [("_law_cell", 2)]) (g := (gName 2)) (tt := tYes) rfl sc__law_begin.nd (pi_list (pv 1)) (blkOk_by (own := [("_law_cell", 2)]) (N := ["_law_script", "_law_cells", "_law_cell"]) (sc := defScope s__law_begin) (by decide +kernel)) (fun _ _ _ _ _ => (pg_name (i := 2) sc__law_begin.nd rfl (Or.inl rfl))) (fun _ _ _ _ _ => pts_nil) (fun _ _ _ _ _ => (pe_op op_mul (pe_callB call_absR rfl (free_abs ev) (by decide +kernel) (pa_cons (pv 2) pa_nil)) (pe_callTy call_intR rfl (free_int ev) (by decide +kernel) (pa_cons (pe_cmpR op_ge (pe_callB call_absR rfl (free_abs ev) (by decide +kernel) (pa_cons (pv 2) pa_nil)) (pe_op op_pow pe_int pe_int) (nomark _)) pa_nil))))) (pa_cons pe_int pa_nil)))))))), ?_⟩)
  · first | (obtain ⟨rfl, _⟩ := h; rfl) | (obtain ⟨_, rfl, _⟩ := h; rfl) | (obtain ⟨_, _, rfl, _⟩ := h; rfl) | (obtain ⟨_, _, _, rfl, _⟩ := h; rfl) | (obtain ⟨_, _, _, _, rfl, _⟩ := h; rfl) | (obtain ⟨_, _, _, _, _, rfl, _⟩ := h; rfl) | (obtain ⟨_, _, _, _, _, _, rfl, _⟩ := h; rfl) | (obtain ⟨_, _, _, _, _, _, _, rfl, _⟩ := h; rfl) | (obtain ⟨_, _, _, _, _, _, _, _, rfl, _⟩ := h; rfl) | (obtain ⟨_, _, _, _, _, _, _, _, _, rfl, _⟩ := h; rfl) | (obtain ⟨_, _, _, _, _, _, _, _, _, _, rfl, _⟩ := h; rfl) | (obtain ⟨_, _, _, _, _, _, _, _, _, _, _, rfl, _⟩ := h; rfl) | (obtain ⟨_, _, _, _, _, _, _, _, _, _, _, _, rfl, _⟩ := h; rfl) | (obtain ⟨_, _, _, _, _, _, _, _, _, _, _, _, _, rfl, _⟩ := h; rfl) | (obtain ⟨_, _, _, _, _, _, _, _, _, _, _, _, _, _, rfl, _⟩ := h; rfl) | (obtain ⟨_, _, _, _, _, _, _, _, _, _, _, _, _, _, _, rfl, _⟩ := h; rfl)
  · obtain ⟨a, ns, rfl, hS, hlen, q⟩ := h
    walk_at "wp"
    refine sl_l hS fun p hp => ?_
    have ecut : cutV (ns.map V.int) none (some 63) = ns.map V.int := cut_first (n := 63) (by rw [List.length_map]; exact hlen)
    rw [ecut]
    walk_at "wp"
    refine lc_ints (fun n => n) (SqL.of upd_same) (by omega) (fun n => rfl) (fun n hn H' Q' k => ?_) fun C H1 hC eC f1 => ?_
    · walk_at "wp"
      exact k
    rw [List.map_id'] at eC
    have f1' : My.Fr [] H H1 := (Fr.new hp).trans f1
    have hC' : H C = none := (Fr.new (S := []) hp).2 _ hC
    walk_at "wp"
    refine len_l (SqL.of eC) ?_
    walk_at "wp"
    split
    · refine new_l (by show 1 ≤ sizeLine; decide) fun Dl hD => ?_
      have f2 : My.Fr [] H (upd H1 Dl (.lst [V.int 0])) := f1'.trans (Fr.new hD)
      have eD : (upd H1 Dl (.lst [V.int 0])) Dl = some (.lst (([0] : List Int).map V.int)) := upd_same
      have hD' : H Dl = none := f1'.2 _ hD
      walk_at "wp"
      refine lc_ints (fun n => (n.natAbs : Int) * (if (10 : Int) ^ 18 ≤ (n.natAbs : Int) then 1 else 0)) (SqL.of eD) (by decide) (fun n => rfl) (fun n hn H' Q' k => ?_) fun Ad H3 hA eA f3 => ?_
      · walk_at "wp"
        refine ⟨⟨by decide, by decide, by decide⟩, .inr ?_, ?_⟩
        · (repeat' split) <;> exact ⟨by decide, by decide⟩
        · have e : (if (decide ((10 : Int) ^ Int.toNat 18 ≤ (n.natAbs : Int))) = true then (1 : Int) else 0) = (if (10 : Int) ^ 18 ≤ (n.natAbs : Int) then 1 else 0) := by
            rw [show Int.toNat 18 = 18 from rfl]; simp only [decide_eq_true_eq]
          first | exact k | (rw [e]; exact k) | (simp only [decide_eq_true_eq] at *; exact k)
      have f13 : My.Fr [] H H3 := f2.trans f3
      have hA' : H Ad = none := f2.2 _ hA
      have nAD : Ad ≠ Dl := fun z => by rw [z, eD] at hA; cases hA
      walk_at "wp"
      refine new_l (by show 3 ≤ sizeLine; decide) fun z hz => ?_
      walk_at "wp"
      have nzA : z ≠ Ad := fun y => by rw [y, eA] at hz; cases hz
      have eD3 : H3 Dl = some _ := f3.1 _ _ (by simp) eD
      have nzD : z ≠ Dl := fun y => by rw [y, eD3] at hz; cases hz
      refine q z Dl Ad _ (f13.2 _ hz) hD' hA' ⟨⟨_, _, 0, upd_same, (upd_ne nzD.symm).trans eD3, (upd_ne nzA.symm).trans eA, by rw [List.length_map], by first | exact hpos | (show 0 < 1; decide), by first | exact hle | (show 1 ≤ 1000; decide), by decide⟩, nzD, nzA, Ne.symm nAD⟩ (f13.put_new hz)
    · rename_i hne
      rw [List.length_map] at hne
      have hpos : 0 < ns.length := by omega
      have hle : ns.length ≤ 1000 := by omega
      have f2 := f1'
      have eD := eC
      have hD' := hC'
      refine lc_ints (fun n => (n.natAbs : Int) * (if (10 : Int) ^ 18 ≤ (n.natAbs : Int) then 1 else 0)) (SqL.of eD) (by omega) (fun n => rfl) (fun n hn H' Q' k => ?_) fun Ad H3 hA eA f3 => ?_
      · walk_at "wp"
        refine ⟨⟨by decide, by decide, by decide⟩, .inr ?_, ?_⟩
        · (repeat' split) <;> exact ⟨by decide, by decide⟩
        · have e : (if (decide ((10 : Int) ^ Int.toNat 18 ≤ (n.natAbs : Int))) = true then (1 : Int) else 0) = (if (10 : Int) ^ 18 ≤ (n.natAbs : Int) then 1 else 0) := by
            rw [show Int.toNat 18 = 18 from rfl]; simp only [decide_eq_true_eq]
          first | exact k | (rw [e]; exact k) | (simp only [decide_eq_true_eq] at *; exact k)
      have f13 : My.Fr [] H H3 := f2.trans f3
      have hA' : H Ad = none := f2.2 _ hA
      have nAD : Ad ≠ C := fun z => by rw [z, eD] at hA; cases hA
      walk_at "wp"
      refine new_l (by show 3 ≤ sizeLine; decide) fun z hz => ?_
      walk_at "wp"
      have nzA : z ≠ Ad := fun y => by rw [y, eA] at hz; cases hz
      have eD3 : H3 C = some _ := f3.1 _ _ (by simp) eD
      have nzD : z ≠ C := fun y => by rw [y, eD3] at hz; cases hz
      refine q z C Ad _ (f13.2 _ hz) hD' hA' ⟨⟨_, _, 0, upd_same, (upd_ne nzD.symm).trans eD3, (upd_ne nzA.symm).trans eA, by rw [List.length_map], by first | exact hpos | (show 0 < 1; decide), by first | exact hle | (show 1 ≤ 1000; decide), by decide⟩, nzD, nzA, Ne.symm nAD⟩ (f13.put_new hz)
theorem ok__law_draw (ev : E K mg) : My.Callee P w K mg base CX0 1 d__law_draw ["_law_draws", "_law_many"] spDraw := by
  obtain ⟨fd, F⟩ := ev.e.c.def_ 10 (d := d__law_draw) rfl
  refine ⟨_, fd, ?_, ev.glo 4, F.kp, F.bindsN fun _ _ _ _ _ _ us hl => match us, hl with | [_, _], _ => rfl, F⟩
  refine F.ok sc__law_draw (fun vs H Q Ex h => ?_) (fun cdv A outer s H vs Q Ex hr h => ⟨_, PSs.nox
    (pss_cons (ps_set (i := 2) sc__law_draw.nd rfl (Or.inl rfl) (pe_ix ix_list (pv 0) pe_int (fun _ _ => rfl)))
  (pss_cons (ps_asg (pe_op op_add (pv 2) pe_int) (pg_sub (pv 0) pe_int set_list))
  (pss_cons (ps_set (i := 3) sc__law_draw.nd rfl (Or.inl rfl) (pe_op op_mod (pe_callTy call_intR rfl (free_int ev) (by decide +kernel) (pa_cons (pv 2) pa_nil)) (pe_callB call_lenR rfl (free_len ev) (by decide +kernel) (pa_cons (pe_ix ix_list (pv 0) pe_int (fun _ _ => rfl)) pa_nil))))
  (pss_cons (ps_set (i := 4) sc__law_draw.nd rfl (Or.inl rfl) (pe_ix ix_list (pe_ix ix_list (pv 0) pe_int (fun _ _ => rfl)) (pv 3) (fun _ _ => rfl)))
  (pss_cons (ps_if (pt_cmpR op_gt (pe_ix ix_list (pe_ix ix_list (pv 0) pe_int (fun _ _ => rfl)) (pv 3) (fun _ _ => rfl)) pe_int (nomark _)) (pss_cons (ps_set (i := 5) sc__law_draw.nd rfl (Or.inl rfl) (pe_op op_mod (pe_callTy call_intR rfl (free_int ev) (by decide +kernel) (pa_cons (pe_ix ix_list (pe_ix ix_list (pv 0) pe_int (fun _ _ => rfl)) (pv 3) (fun _ _ => rfl)) pa_nil)) (pv 1)))
  (pss_cons (ps_asg (pe_op op_fdivW (pe_ix ix_list (pe_ix ix_list (pv 0) pe_int (fun _ _ => rfl)) (pv 3) (fun _ _ => rfl)) (pv 1)) (pg_sub (pe_ix ix_list (pv 0) pe_int (fun _ _ => rfl)) (pv 3) set_list))
  (pss_one (ps_ret (pv 5)))))
  pss_nil)
  (pss_cons (ps_set (i := 6) sc__law_draw.nd rfl (Or.inl rfl) (pe_op op_mod (pe_callTy call_intR rfl (free_int ev) (by decide +kernel) (pa_cons (pe_op op_mul (pe_op op_add (pe_op op_mod (pe_callTy call_intR rfl (free_int ev) (by decide +kernel) (pa_cons (pv 4) pa_nil)) pe_int) pe_int) (pe_op op_add (pv 2) pe_int)) pa_nil)) pe_int))
  (pss_cons (ps_set (i := 7) sc__law_draw.nd rfl (Or.inl rfl) (pe_op op_add (pe_op op_mod (pe_callTy call_intR rfl (free_int ev) (by decide +kernel) (pa_cons (pv 4) pa_nil)) pe_int) (pe_op op_mul pe_int (pv 2))))
  (pss_cons (ps_set (i := 8) sc__law_draw.nd rfl (Or.inl rfl) (pe_op op_mod (pe_callTy call_intR rfl (free_int ev) (by decide +kernel) (pa_cons (pe_op op_add (pe_op op_add (pe_op op_mul (pv 6) (pv 6)) (pe_op op_mul pe_int (pv 6))) (pv 7)) pa_nil)) pe_int))
  (pss_cons (ps_set (i := 9) sc__law_draw.nd rfl (Or.inl rfl) (pe_op op_add (pe_op op_mul (pe_op op_mod (pe_callTy call_intR rfl (free_int ev) (by decide +kernel) (pa_cons (pv 8) pa_nil)) pe_int) pe_int) (pe_op op_mul (pe_op op_fdivW (pv 8) pe_int) pe_int)))
  (pss_cons (ps_set (i := 10) sc__law_draw.nd rfl (Or.inl rfl) (pe_op op_mod (pe_callTy call_intR rfl (free_int ev) (by decide +kernel) (pa_cons (pe_op op_add (pv 9) (pv 6)) pa_nil)) pe_int))
  (pss_cons (ps_if (pt_cmpR op_le (pv 1) pe_int (nomark _)) (pss_one (ps_ret (pe_op op_mod (pe_callTy call_intR rfl (free_int ev) (by decide +kernel) (pa_cons (pv 10) pa_nil)) (pv 1))))
  pss_nil)
  (pss_one (ps_ret (pe_op op_mod (pe_callTy call_intR rfl (free_int ev) (by decide +kernel) (pa_cons (pe_op op_add (pe_op op_mul (pv 10) pe_int) (pv 8)) pa_nil)) (pv 1))))))))))))))), ?_⟩)
  · first | (obtain ⟨rfl, _⟩ := h; rfl) | (obtain ⟨_, rfl, _⟩ := h; rfl) | (obtain ⟨_, _, rfl, _⟩ := h; rfl) | (obtain ⟨_, _, _, rfl, _⟩ := h; rfl) | (obtain ⟨_, _, _, _, rfl, _⟩ := h; rfl) | (obtain ⟨_, _, _, _, _, rfl, _⟩ := h; rfl) | (obtain ⟨_, _, _, _, _, _, rfl, _⟩ := h; rfl) | (obtain ⟨_, _, _, _, _, _, _, rfl, _⟩ := h; rfl) | (obtain ⟨_, _, _, _, _, _, _, _, rfl, _⟩ := h; rfl) | (obtain ⟨_, _, _, _, _, _, _, _, _, rfl, _⟩ := h; rfl) | (obtain ⟨_, _, _, _, _, _, _, _, _, _, rfl, _⟩ := h; rfl) | (obtain ⟨_, _, _, _, _, _, _, _, _, _, _, rfl, _⟩ := h; rfl) | (obtain ⟨_, _, _, _, _, _, _, _, _, _, _, _, rfl, _⟩ := h; rfl) | (obtain ⟨_, _, _, _, _, _, _, _, _, _, _, _, _, rfl, _⟩ := h; rfl) | (obtain ⟨_, _, _, _, _, _, _, _, _, _, _, _, _, _, rfl, _⟩ := h; rfl) | (obtain ⟨_, _, _, _, _, _, _, _, _, _, _, _, _, _, _, rfl, _⟩ := h; rfl)
  · obtain ⟨a, ac, ar, m, rfl, hm, hmb, ⟨⟨cs, rs, t, ea, ec, er, hl, hc, hc2, ht⟩, n1, n2, n3⟩, q⟩ := h
    walk_at "wp"
    refine ix_l (SqL.of ea) rfl ?_
    walk_at "wp"
    refine set_l ea rfl ?_
    walk_at "wp"
    have eh : [V.ref ac, V.ref ar, V.int t].set (Int.toNat 2) (V.int (t + 1)) = [V.ref ac, V.ref ar, V.int (t + 1)] := rfl
    rw [eh]
    generalize hH : upd H a (.lst [.ref ac, .ref ar, .int (t + 1)]) = H1
    have ea1 : H1 a = some (.lst [.ref ac, .ref ar, .int (t + 1)]) := by rw [← hH]; exact upd_same
    have ec1 : H1 ac = some (.lst (cs.map V.int)) := by rw [← hH, upd_ne n1.symm]; exact ec
    have er1 : H1 ar = some (.lst (rs.map V.int)) := by rw [← hH, upd_ne n2.symm]; exact er
    have F1 : My.Fr [a, ar] H H1 := by rw [← hH]; exact (Fr.refl _ _).put (by simp)
    have D1 : Dr H1 a ac ar := ⟨⟨cs, rs, t + 1, ea1, ec1, er1, hl, hc, hc2, by omega⟩, n1, n2, n3⟩
    refine ix_l (SqL.of ea1) (v := .ref ac) rfl ?_
    walk_at "wp"
    refine len_l (SqL.of ec1) ?_
    walk_at "wp"
    refine ⟨by rw [List.length_map]; omega, ?_⟩
    rw [List.length_map]
    generalize hi : t % (cs.length : Int) = i
    have hi0 : 0 ≤ i := by rw [← hi]; exact Int.emod_nonneg _ (by omega)
    have hi1 : i < cs.length := by rw [← hi]; exact Int.emod_lt_of_pos _ (by omega)
    refine ix_l (SqL.of ea1) (v := .ref ac) rfl ?_
    walk_at "wp"
    refine ix_l (SqL.of ec1) (at_ints hi0 hi1) ?_
    walk_at "wp"
    generalize cs.getD i.toNat 0 = c
    refine ix_l (SqL.of ea1) (v := .ref ar) rfl ?_
    walk_at "wp"
    refine ix_l (SqL.of er1) (at_ints hi0 (by omega)) ?_
    walk_at "wp"
    split
    · refine ix_l (SqL.of ea1) (v := .ref ar) rfl ?_
      walk_at "wp"
      refine ix_l (SqL.of er1) (at_ints hi0 (by omega)) ?_
      walk_at "wp"
      refine ⟨hm, ix_l (SqL.of ea1) (v := .ref ar) rfl ?_⟩
      walk_at "wp"
      refine ix_l (SqL.of er1) (at_ints hi0 (by omega)) ?_
      walk_at "wp"
      refine ⟨wide_div (b := 100) hm (by omega) (by decide) (by decide), ix_l (SqL.of ea1) (v := .ref ar) rfl ?_⟩
      walk_at "wp"
      refine set_l er1 (ix_ints hi0 (by omega)) ?_
      walk_at "wp"
      rw [set_ints]
      refine q _ _ (Int.emod_nonneg _ (by omega)) (Int.emod_lt_of_pos _ hm) ⟨⟨cs, _, t + 1, by rw [upd_ne n2]; exact ea1, by rw [upd_ne n3]; exact ec1, upd_same, by rw [List.length_set]; exact hl, hc, hc2, by omega⟩, n1, n2, n3⟩ (F1.put (by simp))
    · refine ⟨by decide, .inl ⟨by omega, by omega⟩, by decide, ?_⟩
      generalize hx : (c % 2147483629 + 1000003) * (t + 48271) % 2147483647 = x
      have x0 : 0 ≤ x ∧ x < 2147483647 := by omega
      refine ⟨by decide, .inl ⟨by decide, by decide⟩, .inl ⟨by omega, by omega⟩, .inl ⟨by decide, by decide⟩, by decide, ?_⟩
      generalize hy : (x * x + 69697 * x + _) % 2147483587 = y
      have y0 : 0 ≤ y ∧ y < 2147483587 := by omega
      refine ⟨by decide, .inr ⟨by decide, by decide⟩, ⟨by decide, Nat.lt_of_le_of_lt (by decide : _ ≤ 20) (by decide)⟩, .inr ⟨by decide, by decide⟩, by decide, ?_⟩
      generalize hz : (y % 65537 * 40503 + y / 65537 * 30011 + x) % 2147483549 = z
      have z0 : 0 ≤ z ∧ z < 2147483549 := by omega
      split
      · refine ⟨hm, q _ _ (Int.emod_nonneg _ (by omega)) (Int.emod_lt_of_pos _ hm) D1 F1⟩
      · refine ⟨.inr ⟨by decide, by decide⟩, hm, q _ _ (Int.emod_nonneg _ (by omega)) (Int.emod_lt_of_pos _ hm) D1 F1⟩
theorem ok__law_rank (ev : E K mg) : My.Callee P w K mg base CX0 1 d__law_rank ["_law_four"] sp_lrank := by
  obtain ⟨fd, F⟩ := ev.e.c.def_ 13 (d := d__law_rank) rfl
  refine ⟨_, fd, ?_, ev.glo 7, F.kp, F.bindsN fun _ _ _ _ _ _ us hl => match us, hl with | [_], _ => rfl, F⟩
  refine F.ok sc__law_rank (fun vs H Q Ex h => ?_) (fun cdv A outer s H vs Q Ex hr h => ⟨_, PSs.nox
    (pss_cons (ps_set (i := 1) sc__law_rank.nd rfl (Or.inl rfl) (pe_lst (pa_cons pe_str (pa_cons pe_str (pa_cons pe_str (pa_cons pe_str pa_nil))))))
  (pss_cons (ps_set (i := 2) sc__law_rank.nd rfl (Or.inl rfl) (pe_lst (pa_cons (pe_bm PySem.F.plainAttrs_list PySem.F.slot_list_index PySem.F.type_list_index (r := rIndex K) mt_index (pv 1) (pa_cons (pe_ix ix_list (pv 0) pe_int (fun _ _ => rfl)) pa_nil)) (pa_cons (pe_bm PySem.F.plainAttrs_list PySem.F.slot_list_index PySem.F.type_list_index (r := rIndex K) mt_index (pe_lst (pa_cons pe_str (pa_cons pe_str (pa_cons pe_str pa_nil)))) (pa_cons (pe_ix ix_list (pv 0) pe_int (fun _ _ => rfl)) pa_nil)) pa_nil))))
  (pss_cons (ps_if (pt_cmpR op_isNo (pe_ix ix_list (pv 0) pe_int (fun _ _ => rfl)) pe_non (nomark _)) (pss_one (ps_aug (i := 2) sc__law_rank.nd rfl (Or.inl rfl) (pe_lst (pa_cons pe_int (pa_cons pe_int pa_nil))) ip_ext))
  (pss_one (ps_aug (i := 2) sc__law_rank.nd rfl (Or.inl rfl) (pe_lst (pa_cons pe_int (pa_cons (pe_ix ix_list (pv 0) pe_int (fun _ _ => rfl)) pa_nil))) ip_ext)))
  (pss_cons (ps_if (pt_cmpR op_isNo (pe_ix ix_list (pv 0) pe_int (fun _ _ => rfl)) pe_non (nomark _)) (pss_one (ps_ret (pe_op op_cat (pv 2) (pe_lst (pa_cons pe_int (pa_cons pe_int pa_nil))))))
  pss_nil)
  (pss_one (ps_ret (pe_op op_cat (pv 2) (pe_lst (pa_cons pe_int (pa_cons (pe_ix ix_list (pv 0) pe_int (fun _ _ => rfl)) pa_nil)))))))))), ?_⟩)
  · first | (obtain ⟨rfl, _⟩ := h; rfl) | (obtain ⟨_, rfl, _⟩ := h; rfl) | (obtain ⟨_, _, rfl, _⟩ := h; rfl) | (obtain ⟨_, _, _, rfl, _⟩ := h; rfl) | (obtain ⟨_, _, _, _, rfl, _⟩ := h; rfl) | (obtain ⟨_, _, _, _, _, rfl, _⟩ := h; rfl) | (obtain ⟨_, _, _, _, _, _, rfl, _⟩ := h; rfl) | (obtain ⟨_, _, _, _, _, _, _, rfl, _⟩ := h; rfl) | (obtain ⟨_, _, _, _, _, _, _, _, rfl, _⟩ := h; rfl) | (obtain ⟨_, _, _, _, _, _, _, _, _, rfl, _⟩ := h; rfl) | (obtain ⟨_, _, _, _, _, _, _, _, _, _, rfl, _⟩ := h; rfl) | (obtain ⟨_, _, _, _, _, _, _, _, _, _, _, rfl, _⟩ := h; rfl) | (obtain ⟨_, _, _, _, _, _, _, _, _, _, _, _, rfl, _⟩ := h; rfl) | (obtain ⟨_, _, _, _, _, _, _, _, _, _, _, _, _, rfl, _⟩ := h; rfl) | (obtain ⟨_, _, _, _, _, _, _, _, _, _, _, _, _, _, rfl, _⟩ := h; rfl) | (obtain ⟨_, _, _, _, _, _, _, _, _, _, _, _, _, _, _, rfl, _⟩ := h; rfl)
  · obtain ⟨f, u, a, b, w, rfl, ⟨ef, hu, hw, hz⟩, q⟩ := h
    walk_at "wp"
    refine new_l (by show 4 ≤ sizeLine; decide) fun z1 h1 => ?_
    walk_at "wp"
    have F1 := Fr.new (S := []) (o := .lst (exs.map V.str)) h1
    have ef1 := F1.1 _ _ (by simp) ef
    refine ⟨tyL upd_same, ix_l (SqL.of ef1) (v := .str w) rfl ?_⟩
    walk_at "wp"
    refine idxL_l (ws := exs) (SqL.of upd_same) hw ?_
    walk_at "wp"
    refine new_l (by show 3 ≤ sizeLine; decide) fun z2 h2 => ?_
    walk_at "wp"
    have F2 := F1.trans (Fr.new (S := []) (o := .lst (uns.map V.str)) h2)
    have ef2 := F2.1 _ _ (by simp) ef
    refine ⟨tyL upd_same, ix_l (SqL.of ef2) (v := .str u) rfl ?_⟩
    walk_at "wp"
    refine idxL_l (ws := uns) (SqL.of upd_same) hu ?_
    walk_at "wp"
    refine new_l (by show 2 ≤ sizeLine; decide) fun z3 h3 => ?_
    walk_at "wp"
    have F3 := F2.trans (Fr.new (S := []) (o := .lst [V.int (exs.idxOf w : Nat), V.int (uns.idxOf u : Nat)]) h3)
    refine ix_l (SqL.of (F3.1 _ _ (by simp) ef)) (v := oV a) rfl ?_
    cases a with
    | none =>
      walk_at "wp"
      refine new_l (by show 2 ≤ sizeLine; decide) fun z4 h4 => ?_
      walk_at "wp"
      have Fn := Fr.new (S := []) (o := .lst [V.int 0, V.int 0]) h4
      refine ext_l (Fn.1 _ _ (by simp) upd_same) upd_same (by show 4 ≤ sizeLine; decide) ?_
      walk_at "wp"
      have F5 := (F3.trans Fn).put_free (p := z3) (o := .lst ([V.int (exs.idxOf w : Nat), V.int (uns.idxOf u : Nat)] ++ [V.int 0, V.int 0])) (F2.2 _ h3)
      refine ix_l (SqL.of (F5.1 _ _ (by simp) ef)) (v := oV b) rfl ?_
      cases b with
      | none =>
        walk_at "wp"
        refine new_l (by show 2 ≤ sizeLine; decide) fun z5 h5 => ?_
        walk_at "wp"
        have F6 := F5.trans (Fr.new (S := []) (o := .lst [V.int 1, V.int 0]) h5)
        refine cat_l ((Fr.new (S := []) (o := .lst [V.int 1, V.int 0]) h5).1 _ _ (by simp) upd_same) upd_same (by show 6 ≤ sizeLine; decide) fun r hr2 => ?_
        exact q r _ upd_same (F6.trans (Fr.new hr2))
      | some y =>
        walk_at "wp"
        refine ix_l (SqL.of (F5.1 _ _ (by simp) ef)) (v := V.int y) rfl ?_
        walk_at "wp"
        refine new_l (by show 2 ≤ sizeLine; decide) fun z5 h5 => ?_
        walk_at "wp"
        have F6 := F5.trans (Fr.new (S := []) (o := .lst [V.int 0, V.int y]) h5)
        refine cat_l ((Fr.new (S := []) (o := .lst [V.int 0, V.int y]) h5).1 _ _ (by simp) upd_same) upd_same (by show 6 ≤ sizeLine; decide) fun r hr2 => ?_
        exact q r _ upd_same (F6.trans (Fr.new hr2))
    | some x =>
      walk_at "wp"
      refine ix_l (SqL.of (F3.1 _ _ (by simp) ef)) (v := V.int x) rfl ?_
      walk_at "wp"
      refine new_l (by show 2 ≤ sizeLine; decide) fun z4 h4 => ?_
      walk_at "wp"
      have Fn := Fr.new (S := []) (o := .lst [V.int 1, V.int x]) h4
      refine ext_l (Fn.1 _ _ (by simp) upd_same) upd_same (by show 4 ≤ sizeLine; decide) ?_
      walk_at "wp"
      have F5 := (F3.trans Fn).put_free (p := z3) (o := .lst ([V.int (exs.idxOf w : Nat), V.int (uns.idxOf u : Nat)] ++ [V.int 1, V.int x])) (F2.2 _ h3)
      refine ix_l (SqL.of (F5.1 _ _ (by simp) ef)) (v := oV b) rfl ?_
      cases b with
      | none =>
        walk_at "wp"
        refine new_l (by show 2 ≤ sizeLine; decide) fun z5 h5 => ?_
        walk_at "wp"
        have F6 := F5.trans (Fr.new (S := []) (o := .lst [V.int 1, V.int 0]) h5)
        refine cat_l ((Fr.new (S := []) (o := .lst [V.int 1, V.int 0]) h5).1 _ _ (by simp) upd_same) upd_same (by show 6 ≤ sizeLine; decide) fun r hr2 => ?_
        exact q r _ upd_same (F6.trans (Fr.new hr2))
      | some y =>
        walk_at "wp"
        refine ix_l (SqL.of (F5.1 _ _ (by simp) ef)) (v := V.int y) rfl ?_
        walk_at "wp"
        refine new_l (by show 2 ≤ sizeLine; decide) fun z5 h5 => ?_
        walk_at "wp"
        have F6 := F5.trans (Fr.new (S := []) (o := .lst [V.int 0, V.int y]) h5)
        refine cat_l ((Fr.new (S := []) (o := .lst [V.int 0, V.int y]) h5).1 _ _ (by simp) upd_same) upd_same (by show 6 ≤ sizeLine; decide) fun r hr2 => ?_
        exact q r _ upd_same (F6.trans (Fr.new hr2))
-- no promise yet: Frame.region
theorem ok_Frame_before (ev : E K mg) : My.MethOf P w K mg base CX0 2 "Frame" "before" ["self", "other"] (sp_before K) := by
  obtain ⟨fd, F⟩ := ev.e.c.def_ 6 (d := d_Frame_before) rfl
  refine ⟨⟨_, fd, ?_, meth_Frame_before ev, F.bindsN fun _ _ _ _ _ _ us hl => match us, hl with | [_, _], _ => rfl⟩, cls_Frame ev⟩
  refine F.ok sc_Frame_before (fun vs H Q Ex h => ?_) (fun cdv A outer s H vs Q Ex hr h => ⟨_, PSs.nox
    (pss_one (ps_ret (pe_cmpR (op_ltD hr.units) (pe_fn (ok__rank ev) (hr.mono (by decide)) rfl (pa_cons (pv 0) pa_nil)) (pe_fn (ok__rank ev) (hr.mono (by decide)) rfl (pa_cons (pv 1) pa_nil)) (nomark _)))), ?_⟩)
  · first | (obtain ⟨rfl, _⟩ := h; rfl) | (obtain ⟨_, rfl, _⟩ := h; rfl) | (obtain ⟨_, _, rfl, _⟩ := h; rfl) | (obtain ⟨_, _, _, rfl, _⟩ := h; rfl) | (obtain ⟨_, _, _, _, rfl, _⟩ := h; rfl) | (obtain ⟨_, _, _, _, _, rfl, _⟩ := h; rfl) | (obtain ⟨_, _, _, _, _, _, rfl, _⟩ := h; rfl) | (obtain ⟨_, _, _, _, _, _, _, rfl, _⟩ := h; rfl) | (obtain ⟨_, _, _, _, _, _, _, _, rfl, _⟩ := h; rfl) | (obtain ⟨_, _, _, _, _, _, _, _, _, rfl, _⟩ := h; rfl) | (obtain ⟨_, _, _, _, _, _, _, _, _, _, rfl, _⟩ := h; rfl) | (obtain ⟨_, _, _, _, _, _, _, _, _, _, _, rfl, _⟩ := h; rfl) | (obtain ⟨_, _, _, _, _, _, _, _, _, _, _, _, rfl, _⟩ := h; rfl) | (obtain ⟨_, _, _, _, _, _, _, _, _, _, _, _, _, rfl, _⟩ := h; rfl) | (obtain ⟨_, _, _, _, _, _, _, _, _, _, _, _, _, _, rfl, _⟩ := h; rfl) | (obtain ⟨_, _, _, _, _, _, _, _, _, _, _, _, _, _, _, rfl, _⟩ := h; rfl)
  · obtain ⟨p, u, a, b, w, r, u', a', b', w', rfl, h1, h2, hu, hw, hu', hw', q⟩ := h
    walk_at "wp"
    refine ⟨p, u, a, b, w, rfl, h1, hu, hw, fun t H1 r1 F1 => ?_⟩
    walk_at "wp"
    refine ⟨r, u', a', b', w', rfl, h2.fr F1 (by simp), hu', hw', fun t' H2 r2 F2 => ?_⟩
    walk_at "wp"
    refine ltD_l (r1.fr F2).dp r2.dp rfl rfl rk_ok ?_
    exact q _ (F1.trans F2)
theorem ok__law_end_near (ev : E K mg) : My.Callee P w K mg base CX0 2 d__law_end_near ["_law_draws"] spEndN := by
  obtain ⟨fd, F⟩ := ev.e.c.def_ 11 (d := d__law_end_near) rfl
  refine ⟨_, fd, ?_, ev.glo 5, F.kp, F.bindsN fun _ _ _ _ _ _ us hl => match us, hl with | [_], _ => rfl, F⟩
  refine F.ok sc__law_end_near (fun vs H Q Ex h => ?_) (fun cdv A outer s H vs Q Ex hr h => ⟨_, PSs.nox
    (pss_cons (ps_set (i := 1) sc__law_end_near.nd rfl (Or.inl rfl) (pe_fn (ok__law_draw ev) (hr.mono (by decide)) rfl (pa_cons (pv 0) (pa_cons pe_int pa_nil))))
  (pss_cons (ps_if (pt_cmpR op_eq (pv 1) pe_int (nomark _)) (pss_one (ps_ret pe_non))
  pss_nil)
  (pss_cons (ps_if (pt_cmpR op_lt (pv 1) pe_int (nomark _)) (pss_one (ps_ret (pe_op op_sub (pe_fn (ok__law_draw ev) (hr.mono (by decide)) rfl (pa_cons (pv 0) (pa_cons pe_int pa_nil))) pe_int)))
  pss_nil)
  (pss_one (ps_ret (pe_ix ix_list (pe_lst (pa_cons (pe_op op_sub pe_int pe_int) (pa_cons (pe_op op_sub pe_int pe_int) (pa_cons (pe_op op_sub pe_int pe_int) (pa_cons pe_int (pa_cons pe_int (pa_cons pe_int pa_nil))))))) (pe_fn (ok__law_draw ev) (hr.mono (by decide)) rfl (pa_cons (pv 0) (pa_cons pe_int pa_nil))) (fun _ _ => rfl))))))), ?_⟩)
  · first | (obtain ⟨rfl, _⟩ := h; rfl) | (obtain ⟨_, rfl, _⟩ := h; rfl) | (obtain ⟨_, _, rfl, _⟩ := h; rfl) | (obtain ⟨_, _, _, rfl, _⟩ := h; rfl) | (obtain ⟨_, _, _, _, rfl, _⟩ := h; rfl) | (obtain ⟨_, _, _, _, _, rfl, _⟩ := h; rfl) | (obtain ⟨_, _, _, _, _, _, rfl, _⟩ := h; rfl) | (obtain ⟨_, _, _, _, _, _, _, rfl, _⟩ := h; rfl) | (obtain ⟨_, _, _, _, _, _, _, _, rfl, _⟩ := h; rfl) | (obtain ⟨_, _, _, _, _, _, _, _, _, rfl, _⟩ := h; rfl) | (obtain ⟨_, _, _, _, _, _, _, _, _, _, rfl, _⟩ := h; rfl) | (obtain ⟨_, _, _, _, _, _, _, _, _, _, _, rfl, _⟩ := h; rfl) | (obtain ⟨_, _, _, _, _, _, _, _, _, _, _, _, rfl, _⟩ := h; rfl) | (obtain ⟨_, _, _, _, _, _, _, _, _, _, _, _, _, rfl, _⟩ := h; rfl) | (obtain ⟨_, _, _, _, _, _, _, _, _, _, _, _, _, _, rfl, _⟩ := h; rfl) | (obtain ⟨_, _, _, _, _, _, _, _, _, _, _, _, _, _, _, rfl, _⟩ := h; rfl)
  · obtain ⟨a, ac, ar, rfl, D, q⟩ := h
    walk_at "wp"
    refine ⟨a, ac, ar, _, rfl, by decide, by decide, D, fun w H1 w0 w1 D1 F1 => ?_⟩
    walk_at "wp"
    split
    · exact q none _ D1 F1
    · split
      · refine ⟨a, ac, ar, _, rfl, by decide, by decide, D1, fun x H2 x0 x1 D2 F2 => ?_⟩
        walk_at "wp"
        exact q (some (x - 1)) _ D2 (F1.trans F2)
      · refine new_l (by show 6 ≤ sizeLine; decide) fun z hz => ?_
        walk_at "wp"
        have Dz := D1.new (o := .lst (([0 - 12, 0 - 3, 0 - 2, 2, 3, 12] : List Int).map V.int)) hz
        refine ⟨a, ac, ar, _, rfl, by decide, by decide, Dz, fun x H2 x0 x1 D2 F2 => ?_⟩
        walk_at "wp"
        refine ix_l (SqL.of (F2.1 z _ (D1.free hz) upd_same)) (at_ints (ns := [0 - 12, 0 - 3, 0 - 2, 2, 3, 12]) x0 (by simpa using x1)) ?_
        exact q (some _) _ D2 (F1.trans ((Fr.new hz).trans F2))
theorem ok_Frame___init__ (ev : E K mg) : My.MakeOfK P w K mg base CX0 3 d_Frame___init__ "Frame" ["self", "unit", "start", "end", "without"] (sp_frI K) := by
  obtain ⟨fd, F⟩ := ev.e.c.def_ 4 (d := d_Frame___init__) rfl
  refine ⟨⟨_, fd, ?_, mkr_Frame ev, F⟩, glo_Frame ev⟩
  refine F.ok sc_Frame___init__ (fun vs H Q Ex h => ?_) (fun cdv A outer s H vs Q Ex hr h => ⟨_, PSs.nox
    (pss_cons (ps_if (pt_cmpR op_notIn_seq (pv 1) (pe_glob (v := .ref (He.ga K "UNITS")) rfl (con_UNITS (K := K) ev) rfl) (by rfl)) (pss_one ps_never)
  pss_nil)
  (pss_cons (ps_if (pt_cmpR op_notIn_seq (pv 4) (pe_glob (v := .ref (He.ga K "EXCLUSIONS")) rfl (con_EXCLUSIONS (K := K) ev) rfl) (by rfl)) (pss_one ps_never)
  pss_nil)
  (pss_cons (ps_if (pt_val (pe_fn (ok_turned ev) (hr.mono (by decide)) rfl (pa_cons (pv 2) (pa_cons (pv 3) pa_nil)))) (pss_one ps_never)
  pss_nil)
  (pss_cons (ps_fld (pv 0) (pv 1) rfl)
  (pss_cons (ps_fld (pv 0) (pv 2) rfl)
  (pss_cons (ps_fld (pv 0) (pv 3) rfl)
  (pss_one (ps_fld (pv 0) (pv 4) rfl)))))))), ?_⟩)
  · first | (obtain ⟨rfl, _⟩ := h; rfl) | (obtain ⟨_, rfl, _⟩ := h; rfl) | (obtain ⟨_, _, rfl, _⟩ := h; rfl) | (obtain ⟨_, _, _, rfl, _⟩ := h; rfl) | (obtain ⟨_, _, _, _, rfl, _⟩ := h; rfl) | (obtain ⟨_, _, _, _, _, rfl, _⟩ := h; rfl) | (obtain ⟨_, _, _, _, _, _, rfl, _⟩ := h; rfl) | (obtain ⟨_, _, _, _, _, _, _, rfl, _⟩ := h; rfl) | (obtain ⟨_, _, _, _, _, _, _, _, rfl, _⟩ := h; rfl) | (obtain ⟨_, _, _, _, _, _, _, _, _, rfl, _⟩ := h; rfl) | (obtain ⟨_, _, _, _, _, _, _, _, _, _, rfl, _⟩ := h; rfl) | (obtain ⟨_, _, _, _, _, _, _, _, _, _, _, rfl, _⟩ := h; rfl) | (obtain ⟨_, _, _, _, _, _, _, _, _, _, _, _, rfl, _⟩ := h; rfl) | (obtain ⟨_, _, _, _, _, _, _, _, _, _, _, _, _, rfl, _⟩ := h; rfl) | (obtain ⟨_, _, _, _, _, _, _, _, _, _, _, _, _, _, rfl, _⟩ := h; rfl) | (obtain ⟨_, _, _, _, _, _, _, _, _, _, _, _, _, _, _, rfl, _⟩ := h; rfl)
  · obtain ⟨x, dx, u, a, b, w, rfl, hx, hu, hw, hz, q⟩ := h
    walk_at "wp"
    refine notIn_l (.inr (tab_UNITS ev _)) rfl flat_strs ?_
    rw [inV_str, decide_eq_true hu]
    walk_at "wp"
    refine notIn_l (.inr (tab_EXCLUSIONS ev _)) rfl flat_strs ?_
    rw [inV_str, decide_eq_true hw]
    walk_at "wp"
    refine ⟨_, _, rfl, ?_⟩
    walk_at "wp"
    rw [if_neg (by rw [hz]; decide)]
    refine ini_Frame_unit ev hx ?_
    walk_at "wp"
    refine ini_Frame_start ev upd_same ?_
    walk_at "wp"
    refine ini_Frame_end ev upd_same ?_
    walk_at "wp"
    refine ini_Frame_without ev upd_same ?_
    walk_at "wp"
    rw [upd_upd, upd_upd, upd_upd]
    exact q
theorem ok__law_drawn (ev : E K mg) : My.Callee P w K mg base CX0 3 d__law_drawn ["_law_draws"] spDrawn := by
  obtain ⟨fd, F⟩ := ev.e.c.def_ 12 (d := d__law_drawn) rfl
  refine ⟨_, fd, ?_, ev.glo 6, F.kp, F.bindsN fun _ _ _ _ _ _ us hl => match us, hl with | [_], _ => rfl, F⟩
  refine F.ok sc__law_drawn (fun vs H Q Ex h => ?_) (fun cdv A outer s H vs Q Ex hr h => ⟨_, PSs.nox
    (pss_cons (ps_set (i := 1) sc__law_drawn.nd rfl (Or.inl rfl) (pe_fn (ok__law_end_near ev) (hr.mono (by decide)) rfl (pa_cons (pv 0) pa_nil)))
  (pss_cons (ps_set (i := 2) sc__law_drawn.nd rfl (Or.inl rfl) (pe_fn (ok__law_end_near ev) (hr.mono (by decide)) rfl (pa_cons (pv 0) pa_nil)))
  (Evl.pss_cut (ps_if (PW.pt (pw_and (pt_cmpR op_notNo (pv 1) pe_non (nomark _)) (pw_and (pt_cmpR op_notNo (pv 2) pe_non (nomark _)) (pw_and1 (pt_cmpR op_gt (pv 1) (pv 2) (nomark _)))))) (pss_one (ps_par (i := 1) (j := 2) (by rfl) sc__law_drawn.nd rfl rfl (by decide) rfl rfl (pa_cons (pv 2) (pa_cons (pv 1) pa_nil)) (by rfl)))
  pss_nil)
  (pss_cons (ps_set (i := 3) sc__law_drawn.nd rfl (Or.inl rfl) (pe_ix ix_list (pe_lst (pa_cons pe_str (pa_cons pe_str (pa_cons pe_str pa_nil)))) (pe_fn (ok__law_draw ev) (hr.mono (by decide)) rfl (pa_cons (pv 0) (pa_cons pe_int pa_nil))) (fun _ _ => rfl)))
  (pss_one (ps_ret (pe_lst (pa_cons (pv 3) (pa_cons (pv 1) (pa_cons (pv 2) (pa_cons (pe_ix ix_list (pe_lst (pa_cons pe_str (pa_cons pe_str (pa_cons pe_str (pa_cons pe_str pa_nil))))) (pe_fn (ok__law_draw ev) (hr.mono (by decide)) rfl (pa_cons (pv 0) (pa_cons pe_int pa_nil))) (fun _ _ => rfl)) pa_nil))))))))))), ?_⟩)
  · first | (obtain ⟨rfl, _⟩ := h; rfl) | (obtain ⟨_, rfl, _⟩ := h; rfl) | (obtain ⟨_, _, rfl, _⟩ := h; rfl) | (obtain ⟨_, _, _, rfl, _⟩ := h; rfl) | (obtain ⟨_, _, _, _, rfl, _⟩ := h; rfl) | (obtain ⟨_, _, _, _, _, rfl, _⟩ := h; rfl) | (obtain ⟨_, _, _, _, _, _, rfl, _⟩ := h; rfl) | (obtain ⟨_, _, _, _, _, _, _, rfl, _⟩ := h; rfl) | (obtain ⟨_, _, _, _, _, _, _, _, rfl, _⟩ := h; rfl) | (obtain ⟨_, _, _, _, _, _, _, _, _, rfl, _⟩ := h; rfl) | (obtain ⟨_, _, _, _, _, _, _, _, _, _, rfl, _⟩ := h; rfl) | (obtain ⟨_, _, _, _, _, _, _, _, _, _, _, rfl, _⟩ := h; rfl) | (obtain ⟨_, _, _, _, _, _, _, _, _, _, _, _, rfl, _⟩ := h; rfl) | (obtain ⟨_, _, _, _, _, _, _, _, _, _, _, _, _, rfl, _⟩ := h; rfl) | (obtain ⟨_, _, _, _, _, _, _, _, _, _, _, _, _, _, rfl, _⟩ := h; rfl) | (obtain ⟨_, _, _, _, _, _, _, _, _, _, _, _, _, _, _, rfl, _⟩ := h; rfl)
  · obtain ⟨a, ac, ar, rfl, D, q⟩ := h
    walk_at "wp"
    refine ⟨a, ac, ar, rfl, D, fun x H1 D1 F1 => ?_⟩
    walk_at "wp"
    refine ⟨a, ac, ar, rfl, D1, fun y H2 D2 F2 => ?_⟩
    refine ⟨ISw a H2, ?_, ?_⟩
    · walk_at "wp"
      have e1 : ∀ {x y : Option Int}, (∀ i j, x = some i → y = some j → ¬ j < i) → turnB x y = false := fun {x y} h => by
        cases x with
        | none => rfl
        | some i =>
          cases y with
          | none => rfl
          | some j => exact decide_eq_false (h i j rfl rfl)
      cases x with
      | none =>
        walk_at "wp"
        exact ⟨none, y, _, rfl, rfl, rfl⟩
      | some i =>
        cases y with
        | none =>
          walk_at "wp"
          exact ⟨some i, none, _, rfl, rfl, rfl⟩
        | some j =>
          walk_at "wp"
          split
          · rename_i h
            exact ⟨some j, some i, _, rfl, decide_eq_false (by omega), rfl⟩
          · rename_i h
            exact ⟨some i, some j, _, rfl, decide_eq_false (by simpa using h), rfl⟩
    rintro σ H3 ⟨x', y', v, rfl, hz, rfl⟩
    walk_at "wp"
    refine new_l (by show 3 ≤ sizeLine; decide) fun z hz1 => ?_
    walk_at "wp"
    have Dz := D2.new (o := .lst (uns.map V.str)) hz1
    refine ⟨a, ac, ar, _, rfl, by decide, by decide, Dz, fun i H4 i0 i1 D4 F4 => ?_⟩
    walk_at "wp"
    obtain ⟨u, hu, eu⟩ := at_strs (ws := uns) i0 (by simpa using i1)
    refine ix_l (SqL.of (F4.1 z _ (D2.free hz1) upd_same)) eu ?_
    walk_at "wp"
    refine new_l (by show 4 ≤ sizeLine; decide) fun z2 hz2 => ?_
    walk_at "wp"
    have Dz2 := D4.new (o := .lst (exs.map V.str)) hz2
    refine ⟨a, ac, ar, _, rfl, by decide, by decide, Dz2, fun j H5 j0 j1 D5 F5 => ?_⟩
    walk_at "wp"
    obtain ⟨w, hw, ew⟩ := at_strs (ws := exs) j0 (by simpa using j1)
    refine ix_l (SqL.of (F5.1 z2 _ (D4.free hz2) upd_same)) ew ?_
    walk_at "wp"
    refine new_l (by show 4 ≤ sizeLine; decide) fun f hf => ?_
    have G := F1.trans (F2.trans ((Fr.new hz1).trans (F4.trans ((Fr.new hz2).trans F5))))
    exact q f u x' y' w _ (G.2 _ hf) ⟨upd_same, hu, hw, hz⟩ (D5.new hf) (G.trans (Fr.new hf))
theorem ok_law (ev : E K mg) : ∃ fd : FuncData, (∀ (s : Shared) (v : Value), BindsTo s fd ⟨[v], []⟩ [("_law_script", v)]) ∧ ∀ base : Heap, FnOk P w K mg base CX0 5 (He.ga K "law") fd ["_law_script"] (sp_law K) := by
  obtain ⟨fd, F⟩ := ev.e.c.def_ 14 (d := d_law) rfl
  have b := FunD.bindsA (ps := ["_law_script"]) F fun _ _ _ _ _ _ us hl => match us, hl with | [_], _ => rfl
  refine ⟨fd, fun s v => b s [v] rfl, fun base => ?_⟩
  refine F.ok sc_law (fun vs H Q Ex h => ?_) (fun cdv A outer s H vs Q Ex hr h => ⟨_, PSs.nox
    (pss_cons (ps_set (i := 1) sc_law.nd rfl (Or.inl rfl) (pe_fn (ok__law_begin ev) (hr.mono (by decide)) rfl (pa_cons (pv 0) pa_nil)))
  (pss_cons (ps_set (i := 2) sc_law.nd rfl (Or.inl rfl) (pe_lst pa_nil))
  (pss_cons (ps_for PassesOwn.never rfl (pi_range1 rfl (free_range ev) (pa_cons (pe_op op_add pe_int (pe_fn (ok__law_draw ev) (hr.mono (by decide)) rfl (pa_cons (pv 1) (pa_cons pe_int pa_nil)))) pa_nil)) (pg_name (i := 3) sc_law.nd rfl (Or.inl rfl))
  (pss_one (ps_if (PW.pt (pw_and (pt_cmpR op_gt (pe_callB call_lenR rfl (free_len ev) (by decide +kernel) (pa_cons (pv 2) pa_nil)) pe_int (nomark _)) (pw_and1 (pt_cmpR op_eq (pe_fn (ok__law_draw ev) (hr.mono (by decide)) rfl (pa_cons (pv 1) (pa_cons pe_int pa_nil))) pe_int (nomark _))))) (pss_one (ps_expr (pe_bm PySem.F.plainAttrs_list PySem.F.slot_list_append PySem.F.type_list_append mt_append (pv 2) (pa_cons (pe_callTy (r := rListOf K) call_listOf rfl (free_list ev) (by decide +kernel) (pa_cons (pe_ix ix_list (pv 2) (pe_fn (ok__law_draw ev) (hr.mono (by decide)) rfl (pa_cons (pv 1) (pa_cons (pe_callB call_lenR rfl (free_len ev) (by decide +kernel) (pa_cons (pv 2) pa_nil)) pa_nil))) (fun _ _ => rfl)) pa_nil)) pa_nil))))
  (pss_one (ps_expr (pe_bm PySem.F.plainAttrs_list PySem.F.slot_list_append PySem.F.type_list_append mt_append (pv 2) (pa_cons (pe_fn (ok__law_drawn ev) (hr.mono (by decide)) rfl (pa_cons (pv 1) pa_nil)) pa_nil)))))))
  (pss_cons (ps_setLc (i := 4) (own := [("_law_four", 8)]) (g := (gName 8)) (tt := tYes) rfl sc_law.nd rfl rfl (sw_true rfl rfl rfl (by decide +kernel)) (pi_list (pv 2)) (blkOk_by (own := [("_law_four", 8)]) (N := ["_law_script", "_law_draws", "_law_fours", "_law_k", "_law_frames", "_law_j", "_law_earlier", "_law_equal", "_law_four"]) (sc := defScope s_law) (by decide +kernel)) (fun _ _ _ _ _ => (pg_name (i := 8) sc_law.nd rfl (Or.inl rfl))) (fun _ _ _ _ _ => pts_nil) (fun _ _ _ _ _ => (pe_mkM (K := K) (E := fun _ => E0) (n := 3) (ks := ["without"]) rfl (ok_Frame___init__ (K := K) ev) (fun us ws => us ++ ws) (hr.mono (by decide)) (fun σ => pass_no) rfl (pa_cons (pe_ix (r := rIxL K) ix_list (pv 8) pe_int (fun _ _ => rfl)) (pa_cons (pe_ix (r := rIxL K) ix_list (pv 8) pe_int (fun _ _ => rfl)) (pa_cons (pe_ix (r := rIxL K) ix_list (pv 8) pe_int (fun _ _ => rfl)) pa_nil))) (pk_cons (pe_ix (r := rIxL K) ix_list (pv 8) pe_int (fun _ _ => rfl)) pk_nil) (fun _ _ _ _ _ _ _ us ws h1 h2 => match us, ws, h1, h2 with | [_, _, _], [_], _, _ => rfl) (fun r1 r2 => r1.append r2))))
  (pss_cons (ps_for PassesOwn.never rfl (pi_range1 rfl (free_range ev) (pa_cons (pe_callB call_lenR rfl (free_len ev) (by decide +kernel) (pa_cons (pv 2) pa_nil)) pa_nil)) (pg_name (i := 5) sc_law.nd rfl (Or.inl rfl))
  (pss_cons (ps_for PassesOwn.never rfl (pi_range1 rfl (free_range ev) (pa_cons (pe_callB call_lenR rfl (free_len ev) (by decide +kernel) (pa_cons (pv 2) pa_nil)) pa_nil)) (pg_name (i := 3) sc_law.nd rfl (Or.inl rfl))
  (pss_cons (ps_set (i := 6) sc_law.nd rfl (Or.inl rfl) (pe_me (ok_Frame_before ev) (pe_ix ix_list (pv 4) (pv 5) (fun _ _ => rfl)) (hr.mono (by decide)) (pa_cons (pe_ix ix_list (pv 4) (pv 3) (fun _ _ => rfl)) pa_nil)))
  (pss_cons (ps_set (i := 7) sc_law.nd rfl (Or.inl rfl) (pe_cmpR (op_eqC (ok_Frame___eq__ ev) (hr.mono (by decide))) (pe_ix ix_list (pv 4) (pv 5) (fun _ _ => rfl)) (pe_ix ix_list (pv 4) (pv 3) (fun _ _ => rfl)) (nomark _)))
  (pss_cons (ps_if (PW.pt (pw_or (pt_not (pt_val (pe_callB call_isB rfl (free_isinstance ev) (by decide +kernel) (pa_cons (pv 6) (pa_cons (pe_bltn (v := .ty "bool") (u := .type "bool") rfl (free_bool ev) (by decide +kernel) rfl) pa_nil))))) (pw_or1 (pt_not (pt_val (pe_callB call_isB rfl (free_isinstance ev) (by decide +kernel) (pa_cons (pv 7) (pa_cons (pe_bltn (v := .ty "bool") (u := .type "bool") rfl (free_bool ev) (by decide +kernel) rfl) pa_nil)))))))) (pss_one (ps_ret pe_bl))
  pss_nil)
  (pss_one (ps_if (PW.pt (pw_or (pt_cmpR op_ne (pv 6) (pe_cmpR (op_ltD hr.units) (pe_fn (ok__law_rank ev) (hr.mono (by decide)) rfl (pa_cons (pe_ix ix_list (pv 2) (pv 5) (fun _ _ => rfl)) pa_nil)) (pe_fn (ok__law_rank ev) (hr.mono (by decide)) rfl (pa_cons (pe_ix ix_list (pv 2) (pv 3) (fun _ _ => rfl)) pa_nil)) (nomark _)) (nomark _)) (pw_or1 (pt_cmpR op_ne (pv 7) (pe_cmpR (op_eqD hr.units) (pe_ix ix_list (pv 2) (pv 5) (fun _ _ => rfl)) (pe_ix ix_list (pv 2) (pv 3) (fun _ _ => rfl)) (nomark _)) (nomark _))))) (pss_one (ps_ret pe_bl))
  pss_nil))))))
  (pss_one (ps_if (PW.pt (pw_or (pt_cmpR (op_eqC (ok_Frame___eq__ ev) (hr.mono (by decide))) (pe_ix ix_list (pv 4) (pv 5) (fun _ _ => rfl)) (pe_ix ix_list (pv 2) (pv 5) (fun _ _ => rfl)) (nomark _)) (pw_or (pt_cmpR (op_eqC (ok_Frame___eq__ ev) (hr.mono (by decide))) (pe_ix ix_list (pv 4) (pv 5) (fun _ _ => rfl)) (pe_ix ix_list (pe_ix ix_list (pv 2) (pv 5) (fun _ _ => rfl)) pe_int (fun _ _ => rfl)) (nomark _)) (pw_or1 (pt_cmpR (op_eqC (ok_Frame___eq__ ev) (hr.mono (by decide))) (pe_ix ix_list (pv 4) (pv 5) (fun _ _ => rfl)) pe_int (nomark _)))))) (pss_one (ps_ret pe_bl))
  pss_nil))))
  (pss_one (ps_ret pe_bl))))))), ?_⟩)
  · first | (obtain ⟨rfl, _⟩ := h; rfl) | (obtain ⟨_, rfl, _⟩ := h; rfl) | (obtain ⟨_, _, rfl, _⟩ := h; rfl) | (obtain ⟨_, _, _, rfl, _⟩ := h; rfl) | (obtain ⟨_, _, _, _, rfl, _⟩ := h; rfl) | (obtain ⟨_, _, _, _, _, rfl, _⟩ := h; rfl) | (obtain ⟨_, _, _, _, _, _, rfl, _⟩ := h; rfl) | (obtain ⟨_, _, _, _, _, _, _, rfl, _⟩ := h; rfl) | (obtain ⟨_, _, _, _, _, _, _, _, rfl, _⟩ := h; rfl) | (obtain ⟨_, _, _, _, _, _, _, _, _, rfl, _⟩ := h; rfl) | (obtain ⟨_, _, _, _, _, _, _, _, _, _, rfl, _⟩ := h; rfl) | (obtain ⟨_, _, _, _, _, _, _, _, _, _, _, rfl, _⟩ := h; rfl) | (obtain ⟨_, _, _, _, _, _, _, _, _, _, _, _, rfl, _⟩ := h; rfl) | (obtain ⟨_, _, _, _, _, _, _, _, _, _, _, _, _, rfl, _⟩ := h; rfl) | (obtain ⟨_, _, _, _, _, _, _, _, _, _, _, _, _, _, rfl, _⟩ := h; rfl) | (obtain ⟨_, _, _, _, _, _, _, _, _, _, _, _, _, _, _, rfl, _⟩ := h; rfl)
  · obtain ⟨a, ns, rfl, hS, hl, q⟩ := h
    walk_at "wp"
    refine ⟨a, ns, rfl, hS, hl, fun p ac ar H1 hp hac har D1 F1 => ?_⟩
    walk_at "wp"
    refine new_l (by show 0 ≤ sizeLine; decide) fun kp hkp => ?_
    walk_at "wp"
    have nkp : kp ∉ [p, ar] := D1.free hkp
    have nkc : kp ≠ ac := by
      obtain ⟨⟨_, _, _, e1, e2, e3, _⟩, _⟩ := D1
      exact (ne_of_none e2 hkp).symm
    have nk1 : kp ≠ p := fun z => nkp (by simp [z])
    have nk2 : kp ≠ ar := fun z => nkp (by simp [z])
    refine ⟨p, ac, ar, _, rfl, by decide, by decide, D1.new hkp, fun m H2 m0 m1 D2 F2 => ?_⟩
    walk_at "wp"
    have ek2 : H2 kp = some (.lst []) := F2.1 _ _ nkp upd_same
    have big : (2 : Int) ^ 62 = 4611686018427387904 := by decide
    refine for_r1 (by omega) (IA a p ac ar kp) (by omega) ⟨[], _, rfl, D2, ek2, rfl, fun y hy => by cases hy⟩ ?_ ?_
    · rintro i σ H3 hi ⟨rs, vk, rfl, D3, ek3, hlr, ok3⟩
      have add : ∀ (f : Addr) (u : Str) (x z : Option Int) (w : Str) (H4 : Hp) (vk' : Option V), H4 kp = some (.lst rs) → Dr H4 p ac ar → My.Fr [p, ar] H3 H4 → IsFour H4 f u x z w → f ∉ [p, ar, kp] → IA a p ac ar kp (i + 1) [some (.ref a), some (.ref p), some (.ref kp), vk', none, none, none, none, none] (upd H4 kp (.lst (rs ++ [.ref f]))) := fun f u x z w H4 vk' e4 D4 F4 O4 n4 => by
        refine ⟨rs ++ [.ref f], vk', rfl, D4.put nk1 nkc nk2, upd_same, by simp [hlr], fun y hy => ?_⟩
        rcases List.mem_append.mp hy with hy | hy
        · obtain ⟨f', u', x', z', w', rfl, O', n'⟩ := ok3 y hy
          have h1 : f' ≠ kp := fun q => n' (by simp [q])
          exact ⟨f', u', x', z', w', rfl, ⟨(upd_ne h1).trans (F4.1 _ _ (fun q => n' (by simp at q ⊢; rcases q with q | q <;> simp [q])) O'.1), O'.2⟩, n'⟩
        · rw [List.mem_singleton.mp hy]
          have h1 : f ≠ kp := fun q => n4 (by simp [q])
          exact ⟨f, u, x, z, w, rfl, ⟨(upd_ne h1).trans O4.1, O4.2⟩, n4⟩
      have nw : ∀ (f : Addr), H3 f = none → f ∉ [p, ar, kp] := fun f hf => by
        obtain ⟨⟨_, _, _, e1, e2, e3, _⟩, _⟩ := D3
        simp [(ne_of_none e1 hf).symm, (ne_of_none e3 hf).symm, (ne_of_none ek3 hf).symm]
      have sz : rs.length < sizeLine := Nat.lt_of_le_of_lt (show _ ≤ 100 by omega) (by decide)
      have fin : ∀ (H4 : Hp), Dr H4 p ac ar → My.Fr [p, ar] H3 H4 → ∀ BK, spDrawn [.ref p] H4 (KArg1 tNil [some (.ref a), some (.ref p), some (.ref kp), some (.int i), none, none, none, none, none] (KBM2 rAppend (.ref kp) (KDrop { nx := IA a p ac ar kp (i + 1), rt := Q, bk := BK, ct := IA a p ac ar kp (i + 1) } [some (.ref a), some (.ref p), some (.ref kp), some (.int i), none, none, none, none, none]))) E0 := fun H4 D4 F4 BK => by
        refine ⟨p, ac, ar, rfl, D4, fun f u x z w H5 hf O5 D5 F5 => ?_⟩
        have ek5 := F5.1 _ _ nkp (F4.1 _ _ nkp ek3)
        walk_at "wp"
        refine app_l ek5 sz ?_
        walk_at "wp"
        exact add f u x z w H5 _ ek5 D5 (F4.trans F5) O5 (nw f (F4.2 _ hf))
      walk_at "wp"
      refine len_l (SqL.of ek3) ?_
      walk_at "wp"
      split
      · rename_i hpos
        refine ⟨p, ac, ar, _, rfl, by decide, by decide, D3, fun c H4 c0 c1 D4 F4 => ?_⟩
        walk_at "wp"
        have ek4 := F4.1 _ _ nkp ek3
        split
        · refine ⟨tyL ek4, ?_⟩
          refine len_l (SqL.of ek4) ?_
          walk_at "wp"
          refine ⟨p, ac, ar, _, rfl, by omega, by omega, D4, fun j H5 j0 j1 D5 F5 => ?_⟩
          walk_at "wp"
          have ek5 := F5.1 _ _ nkp ek4
          obtain ⟨n, rfl⟩ := Int.eq_ofNat_of_zero_le j0
          have hn : n < rs.length := by omega
          obtain ⟨f, u, x, z, w, hy, O, nf⟩ := ok3 rs[n] (List.getElem_mem hn)
          refine ix_l (SqL.of ek5) (atI_nat (v := .ref f) (by rw [List.getElem?_eq_getElem hn, hy])) ?_
          walk_at "wp"
          have F45 := F4.trans F5
          have O5 := O.fr F45 (fun q => nf (by simp at q ⊢; rcases q with q | q <;> simp [q]))
          refine listOf_l (.inl (SqL.of O5.1)) fun l hl => ?_
          walk_at "wp"
          have ek6 := (Fr.new (S := []) (o := .lst [V.str u, oV x, oV z, V.str w]) hl).1 _ _ (by simp) ek5
          refine app_l ek6 sz ?_
          walk_at "wp"
          exact add l u x z w _ _ ek6 (D5.new hl) (F45.trans (Fr.new hl)) ⟨upd_same, O5.2⟩ (nw l (F45.2 _ hl))
        · exact ⟨tyL ek4, fin H4 D4 F4 _⟩
      · exact ⟨tyL ek3, fin H3 D3 (Fr.refl _ _) _⟩
    · rintro σ H3 ⟨rs, vk, rfl, D3, ek3, hlr, ok3⟩
      have hl9 : rs.length ≤ 100 := by omega
      walk_at "wp"
      refine lc_l (S := []) (fun _ => True) (RF K H3) (SqL.of ek3) (by simp) (by omega) (by simp) ⟨True.intro, fun _ _ _ _ _ => True.intro, fun x y H' H'' f r => ?_, fun x y H' Dl ys zs e r => ?_, fun x H' hx Fx _ Qn kq => ?_⟩ fun fr ys H4 hfr efr kk F4 _ => ?_
      · obtain ⟨f1, u, a1, b1, w1, r1, e1, e2, e3, e4⟩ := r
        exact ⟨f1, u, a1, b1, w1, r1, e1, e2, e3, e4.fr f (by simp)⟩
      · obtain ⟨f1, u, a1, b1, w1, r1, e1, e2, e3, dx, e4⟩ := r
        exact ⟨f1, u, a1, b1, w1, r1, e1, e2, e3, dx, (upd_ne (fun q => by rw [q, e] at e4; cases e4)).trans e4⟩
      · obtain ⟨f1, u, a1, b1, w1, rfl, O1, n1⟩ := ok3 x hx
        have Ox := O1.fr Fx (by simp)
        walk_at "wp"
        refine ix_l (SqL.of Ox.1) (v := .str u) rfl ?_
        walk_at "wp"
        refine ix_l (SqL.of Ox.1) (v := oV a1) rfl ?_
        walk_at "wp"
        refine ix_l (SqL.of Ox.1) (v := oV b1) rfl ?_
        walk_at "wp"
        refine ix_l (SqL.of Ox.1) (v := .str w1) rfl ?_
        walk_at "wp"
        refine mkM_l rfl rfl fun y ey h1 h2 h3 => ⟨y, ey, u, a1, b1, w1, rfl, upd_same, O1.2.1, O1.2.2.1, O1.2.2.2, rfl, ?_⟩
        rw [upd_upd]
        exact kq (some (.ref y)) _ ⟨f1, u, a1, b1, w1, y, rfl, O1, rfl, ey, upd_same⟩ (((Fr.refl _ _).put_free h2).put_free h1) True.intro
      obtain ⟨hly, hat⟩ := kept_at (fun x o r => by obtain ⟨_, _, _, _, _, r1, _, _, e, _⟩ := r; exact ⟨_, e⟩) kk
      have ek4 := F4.1 _ _ (by simp) ek3
      have got : ∀ n : Nat, n < rs.length → ∃ f r u x z w, rs[n]? = some (.ref f) ∧ ys[n]? = some (.ref r) ∧ IsFour H4 f u x z w ∧ IsFr K H4 r u x z w := fun n hn => by
        obtain ⟨y, ey, f1, u, a1, b1, w1, r1, e1, e2, e3, e4⟩ := hat n rs[n] (List.getElem?_eq_getElem hn)
        cases e3
        exact ⟨f1, r1, u, a1, b1, w1, by rw [List.getElem?_eq_getElem hn, e1], ey, e2.fr F4 (by simp), e4⟩
      walk_at "wp"
      refine len_l (SqL.of ek4) ?_
      walk_at "wp"
      refine for_r1 (by omega) (IB a p kp fr H4) (by omega) ⟨_, _, _, _, _, rfl, Fr.refl _ _⟩ ?_ ?_
      · rintro j σ H5 hj ⟨v1, v2, v3, v4, v5, rfl, F5⟩
        obtain ⟨f, r, u, x, z, w, ef, er, O, S⟩ := got j (by omega)
        walk_at "wp"
        refine len_l (SqL.of (F5.1 _ _ (by simp) ek4)) ?_
        walk_at "wp"
        refine for_r1 (by omega) (IC a p kp fr H4 j) (by omega) ⟨_, _, _, _, rfl, F5⟩ ?_ ?_
        · rintro k σ H6 hk ⟨v1, v3, v4, v5, rfl, F6⟩
          obtain ⟨f', r', u', x', z', w', ef', er', O', S'⟩ := got k (by omega)
          have S6 := S.fr F6 (by simp)
          have S6' := S'.fr F6 (by simp)
          walk_at "wp"
          refine ix_l (SqL.of (F6.1 _ _ (by simp) efr)) (atI_nat er) ?_
          walk_at "wp"
          refine meth_l S6.choose_spec rfl ?_
          walk_at "wp"
          refine ix_l (SqL.of (F6.1 _ _ (by simp) efr)) (atI_nat er') ?_
          walk_at "wp"
          refine ⟨r, u, x, z, w, r', u', x', z', w', rfl, S6, S6', O.2.1, O.2.2.1, O'.2.1, O'.2.2.1, fun H7 F7 => ?_⟩
          have F67 := F6.trans F7
          have S7 := S.fr F67 (by simp)
          have S7' := S'.fr F67 (by simp)
          walk_at "wp"
          refine ix_l (SqL.of (F67.1 _ _ (by simp) efr)) (atI_nat er) ?_
          walk_at "wp"
          refine ix_l (SqL.of (F67.1 _ _ (by simp) efr)) (atI_nat er') ?_
          walk_at "wp"
          refine own_eq S7.choose_spec (ty_Frame ev S7'.choose_spec) (nf_Frame_Frame ev) ⟨r, u, x, z, w, _, rfl, S7, .inl ⟨r', u', x', z', w', rfl, S7', ?_⟩⟩
          walk_at "wp"
          refine ix_l (SqL.of (F67.1 _ _ (by simp) ek4)) (atI_nat ef) ?_
          walk_at "wp"
          refine ⟨f, u, x, z, w, rfl, O.fr F67 (by simp), fun l1 H8 e1 F8 => ?_⟩
          walk_at "wp"
          have F68 := F67.trans F8
          refine ix_l (SqL.of (F68.1 _ _ (by simp) ek4)) (atI_nat ef') ?_
          walk_at "wp"
          refine ⟨f', u', x', z', w', rfl, O'.fr F68 (by simp), fun l2 H9 e2 F9 => ?_⟩
          walk_at "wp"
          have F69 := F68.trans F9
          refine ltD_l (.lst (SqL.of (F9.1 _ _ (by simp) e1)) (dp_ints _)) (.lst (SqL.of e2) (dp_ints _)) rfl rfl lk_ok ?_
          rw [lt_lk]
          walk_at "wp"
          refine ix_l (SqL.of (F69.1 _ _ (by simp) ek4)) (atI_nat ef) ?_
          walk_at "wp"
          refine ix_l (SqL.of (F69.1 _ _ (by simp) ek4)) (atI_nat ef') ?_
          walk_at "wp"
          refine eqD_l (O.fr F69 (by simp)).dp (O'.fr F69 (by simp)).dp (four_sh O.2.1 O.2.2.1) (four_sh O'.2.1 O'.2.2.1) ?_
          rw [eqv_four]
          walk_at "wp"
          exact ⟨_, _, _, _, rfl, F69⟩
        · rintro σ H6 ⟨v1, v3, v4, v5, rfl, F6⟩
          have S6 := S.fr F6 (by simp)
          have O6 := O.fr F6 (by simp)
          walk_at "wp"
          refine ix_l (SqL.of (F6.1 _ _ (by simp) efr)) (atI_nat er) ?_
          walk_at "wp"
          refine ix_l (SqL.of (F6.1 _ _ (by simp) ek4)) (atI_nat ef) ?_
          walk_at "wp"
          refine own_eq S6.choose_spec (ty_lst O6.1) (nf_Frame_list ev) ⟨r, u, x, z, w, _, rfl, S6, .inr ⟨_, ty_lst O6.1, kit_list_Frame ev, ?_⟩⟩
          walk_at "wp"
          refine ix_l (SqL.of (F6.1 _ _ (by simp) efr)) (atI_nat er) ?_
          walk_at "wp"
          refine ix_l (SqL.of (F6.1 _ _ (by simp) ek4)) (atI_nat ef) ?_
          walk_at "wp"
          refine ix_l (SqL.of O6.1) (v := .str u) rfl ?_
          walk_at "wp"
          refine own_eq S6.choose_spec ty_str (nf_Frame_str ev) ⟨r, u, x, z, w, _, rfl, S6, .inr ⟨_, ty_str, kit_str_Frame ev, ?_⟩⟩
          walk_at "wp"
          refine ix_l (SqL.of (F6.1 _ _ (by simp) efr)) (atI_nat er) ?_
          walk_at "wp"
          refine own_eq S6.choose_spec ty_int (nf_Frame_int ev) ⟨r, u, x, z, w, _, rfl, S6, .inr ⟨_, ty_int, kit_int_Frame ev, ?_⟩⟩
          walk_at "wp"
          exact ⟨_, _, _, _, _, rfl, F6⟩
      · rintro σ H5 ⟨v1, v2, v3, v4, v5, rfl, F5⟩
        walk_at "wp"
        exact q _
end
/-! the head -/
def loose : List PySem.Str := (["_wall", "WindowError", "TurnedStretch", "BadFrame", "turned", "UNITS", "EXCLUSIONS", "Frame", "_rank", "_law_begin", "_law_draw", "_law_end_near", "_law_drawn", "_law_rank"] : List PySem.Str)
abbrev R : PySem.W.OpenRow := PySem.W.OpenLaw.row PySem.Challenge.rw_windowrows_k37_whole_order_of_frames
def ex (K : PySem.W.Frag) : Bool := xs.all fun f => f K
abbrev hk : PySem.W.Hook := He.hookX 5 fa fn [] [] ex
def ob (s : PySem.W.SharedT) : He.AlX := He.obsX 5 fa fn [] [] ex (HandSHeadRun.getT s)
theorem ob_eq (s : PySem.W.SharedT) : ob s = hk.obs s.abs := He.obsX_eq (HandSHeadRun.getT_eq s)
set_option maxHeartbeats 0 in
theorem run (w : World) : HandSHeadRun.RunEq R (PySem.W.view R.prog [18]) hk ob 3000 loose w := by
  intro os
  kernel_rfl
end K37
open PySem PySem.W PySem.Calls PyProof.Rows
set_option maxHeartbeats 0 in
theorem PySem.Challenge.cw_windowrows_k37_whole_order_of_frames_holds : PySem.Challenge.rw_windowrows_k37_whole_order_of_frames.Holds := by
  w_on; o_law
  refine HandSHeadRun.head_any (r := OpenLaw.row PySem.Challenge.rw_windowrows_k37_whole_order_of_frames) (q := view (OpenLaw.row PySem.Challenge.rw_windowrows_k37_whole_order_of_frames).prog [18]) (H := K37.hk) (ob := K37.ob) (M := 3000) (loose := K37.loose) (d := HandSHeadRun.topDef (OpenLaw.row PySem.Challenge.rw_windowrows_k37_whole_order_of_frames).prog 18) (kwd := []) K37.ob_eq
    (by kernel_rfl) (fun s => by kernel_rfl) K37.run (by kernel_rfl) (by kernel_rfl) (by kernel_rfl) (by rfl) (by first | assumption | decide +kernel) (by decide +kernel) ⟨rfl, rfl, rfl, rfl, rfl, by decide +kernel⟩ ?hw ?hc
  case hw => w_witness2
  case hc =>
    refine LamX.walk_ofTsE (l := PySem.Challenge.rw_windowrows_k37_whole_order_of_frames) (n := 63) (k := 5) (x := "_law_script") (CX := fun _ => L2.CX0) rfl (by decide) (by kernel_rfl) ⟨rfl, by decide, by decide⟩ ?F (fun _ _ _ _ _ z => z)
    intro w mg fa h Y G hmg0
    obtain ⟨K, KX, c⟩ := Y
    have hmg : mg ("law" : PySem.Str) = some (.ref fa) := by
      have e : (HandSHeadRun.topDef (OpenLaw.row PySem.Challenge.rw_windowrows_k37_whole_order_of_frames).prog 18).name = ("law" : PySem.Str) := by kernel_rfl
      rw [← e]
      exact hmg0
    have ev : K37.E K mg := ⟨⟨⟨h, KX, G⟩, c.t.d⟩, c.more⟩
    have e := hmg.symm.trans (ev.glo 8)
    cases e
    obtain ⟨fd, hb, hF⟩ := K37.ok_law (P := (PySem.Challenge.rw_windowrows_k37_whole_order_of_frames).prog) (w := w) ev
    refine ⟨K, KX, fd, [], (K37.sp_law K), ?_, ?_, ?_, hb, fun H a ns hl hbits _ hS => ?_, fun base _ _ _ => hF base⟩
    · intro p hp; cases hp
    · intro p hp; cases hp
    · intro p hp; cases hp
    · exact ⟨a, ns, rfl, hS, hl, fun _ => rfl⟩

