import PyProof.Rows.All
import Wide.All
import OpenK.AllK
import Wide.FinOn
import KE.KStateDown
import Lean
import HandS.ForMost
import HandS.Exc
import HandS.Wide
import HandS.Defaults
import HandS.Evl
import HandS.IsInst
import HandS.Head0
import HandS.Head1
import HandS.Head2
import HandS.HeadEnd
import HandS.HeadHook1
import HandS.HeadHook2
import HandS.HeadHook3
import HandS.HeadHook4
import HandS.EndBits
import HandS.EndTab
import HandS.HeadWalk
import KE.KOpsOwn
import KE.KCallOwn
import HandS.ExcInit
import HandS.SlotsOwn
import HandS.Style
import HandS.Deep
import PyProof.ReprRoads
import HandS.ExcField
import HandS.ExcIs
import HandS.ExcOwn
import HandS.WordsExc
import KE.KExcIs
import KE.LtSeq
import HandS.Text
import HandS.Strs
import HandS.TryMany
import HandS.Codes
import HandS.FStr
import KE.KRevSl
import KE.IntTextLaws
import HandS.Walk
import HandS.Star
import HandS.OwnEq
import PySem.Challenge.RW_windowrows_k41_schemes
set_option Elab.async false
set_option linter.all false
set_option maxRecDepth 100000
set_option maxHeartbeats 4000000
namespace My
open PySem PySem.Spec PyProof.Rows L2
/-! ### a def that is called by its global name -/
structure Callee (P : Program) (w : World) (K : PySem.W.Frag) (mg : Str → Option Value) (base : Heap) (CX : CXT) (k : Nat) (d : He.DefD) (ps : List Str) (sp : Sp) : Prop where
  ex : ∃ (f : Addr) (fd : FuncData), FnOk P w K mg base CX k f fd ps sp ∧ mg d.name = some (.ref f) ∧ PySem.W.keepIn K (.ref f) = true ∧ Binds K fd ps [] ∧ FunD K d.name d.qual d.params d.body d.scope [] [] f fd
section
variable {X : Cx} {k : Nat} {d : He.DefD} {x : Str} {ps ks : List Str} {sp : Sp} {e : Expr} {es : List Expr} {t tk : TA} {p pos : Pos} {kws : List Keyword}
theorem pe_fn (C : Callee X.prog X.w X.K X.mg X.base CX0 k d ps sp) (hr : Room k X.A) (hg : Gl X x) (ha : PA X (e :: es) t) (hx : d.name = x := by rfl) (hdb : (x == ("__debug__" : Str)) = false := by decide)
    (he : starEach (e :: es) X.env = (false, eval e X.env) :: starEach es X.env := by rfl) (hpl : (backTo pos (starEach es X.env)).any (·.1) = false := by rfl) : PE X (.Call (.Name x p) (e :: es) [] pos) (tCall sp [] E0 t) := by
  obtain ⟨f, fd, F, hm, hk, hb, _⟩ := C.ex
  rw [hx] at hm
  exact pe_call F hr hg hm hk hb .nil pass0 ha hdb he hpl
theorem pe_fn0 (C : Callee X.prog X.w X.K X.mg X.base CX0 k d ps sp) (hr : Room k X.A) (hg : Gl X x) (hx : d.name = x := by rfl) (hdb : (x == ("__debug__" : Str)) = false := by decide) : PE X (.Call (.Name x p) [] [] pos) (tCall sp [] E0 tNil) := by
  obtain ⟨f, fd, F, hm, hk, hb, _⟩ := C.ex
  rw [hx] at hm
  exact pe_call0 F hr hg hm hk hb .nil pass0 hdb
/-- f(k = v, ..), nothing by place: gV puts the values in the parameters' order -/
def KCallK0 (m : Nat) (sp : Sp) (gV : List V → List V) (E : XK) (Q : VK) : List V → Hp → Prop := fun zs H2 => zs.length = m ∧ sp (gV zs) H2 Q E
def tCallK0 (m : Nat) (sp : Sp) (gV : List V → List V) (E : XK) (tk : TA) : TE := fun σ H Q => tk σ H (KCallK0 m sp gV E Q)
theorem pe_fnK0 (C : Callee X.prog X.w X.K X.mg X.base CX0 k d ps sp) (g : {α : Type} → List α → List α) (hr : Room k X.A) (hg : Gl X x) (hkw : PK X kws tk)
    (hb : ∀ (kV doc pm : Value) (an : Option Addr) (cdv ct : Value) (ws : List Value), ws.length = ks.length → bindArgs (PySem.W.fnOf d.name d.qual d.params d.body d.scope .none kV doc pm an cdv ct) ⟨[], ks.zip ws⟩ = pure (ps.zip (g ws)))
    (hv : ∀ {zs : List V} {ws : List Value}, Vals zs ws → Vals (g zs) (g ws)) (hx : d.name = x := by rfl)
    (hall : (backToKw pos (keywordEach kws X.env)).all (·.1.isSome) = true := by rfl) (hks : (backToKw pos (keywordEach kws X.env)).filterMap (·.1) = ks := by rfl) (hdb : (x == ("__debug__" : Str)) = false := by decide)
    (hpl : ((backTo pos (starEach [] X.env)).any (·.1) || (backToKw pos (keywordEach kws X.env)).any (·.1.isNone)) = false := by rfl) :
    PE X (.Call (.Name x p) [] kws pos) (tCallK0 ks.length sp g E0 tk) := by
  obtain ⟨f, fd, F, hm, hk, _, FD⟩ := C.ex
  rw [hx] at hm
  have kb : KBn X.K fd ps 0 ks (fun _ ws => g ws) (fun _ zs => g zs) := by
    obtain ⟨oc, od, dV, kV, doc, pm, an, cdv, ct, osl, rfl, lk, hcd, hD, hK⟩ := FD.ex
    rcases hD with ⟨_, rfl⟩ | ⟨e, _⟩
    · refine ⟨fun s us ws _ l1 l2 => ?_, fun _ r => hv r⟩
      have e := hb kV doc pm an cdv ct ws l2
      cases us with
      | nil => exact .of_eq e
      | cons _ _ => cases l1
    · exact absurd rfl e
  refine ⟨fun pins s σ H Q I h => ?_⟩
  refine wpAny_Call_Name_kw (ld_glob I hg hm ?_ hdb)
  refine PySem.W.callWith_KW0 (h₀ := X.base) I.ok.mod.kin hk hall (thn (hkw.run pos pins s σ H _ I h) fun ws s2 ⟨zs, H2, I2, rz, l2, q2⟩ => ⟨I2.kIn, ?_⟩) hpl
  rw [hks]
  exact run_fnN (us := []) (vs := []) F hr kb pass0 I2 .nil rz rfl l2 q2
end
/-! ### what the head says, by places -/
structure Env (fa : List He.Fa) (fn : List He.DefD) (K : PySem.W.Frag) (mg : Str → Option Value) : Prop where
  at_ : ∃ h : Heap, K.In h ∧ h.Ns mainGlobals mg
  c : He.SaysD fa fn K
section
variable {fa : List He.Fa} {fn : List He.DefD} {K : PySem.W.Frag} {mg : Str → Option Value}
theorem Env.glo (V : Env fa fn K mg) (i : Nat) {x : Str} (h : fa[i]? = some (.glo x) := by rfl) : mg x = some (.ref (He.ga K x)) := by
  obtain ⟨hp, X, G⟩ := V.at_
  exact He.glo_ok X G (V.c.fact i h)
theorem Env.fre (V : Env fa fn K mg) (i : Nat) {x : Str} (h : fa[i]? = some (.free x) := by rfl) : mg x = none := by
  obtain ⟨hp, X, G⟩ := V.at_
  exact He.free_ok X G (V.c.fact i h)
end
/-! ### isinstance of flat values by a built-in class -/
def tyN : V → Option String
  | .non => some "NoneType"
  | .bl _ => some "bool"
  | .int _ => some "int"
  | .str _ => some "str"
  | _ => none
def isiB (x : V) (n : String) : Option Bool := (tyN x).bind fun m => kitB m n
def rIsB : List V → Hp → VK → Prop := fun xs H Q => ∃ (x : V) (n : String) (b : Bool), xs = [x, .ty n] ∧ isiB x n = some b ∧ Q (.bl b) H
theorem tyN_of {K : PySem.W.Frag} {H : Hp} {x : V} {m : String} (h : tyN x = some m) : TyX K H x (.type m) := by
  cases x with
  | non => cases h; exact .base .non
  | bl b => cases h; exact .base (.bl b)
  | int i => cases h; exact .base (.int i)
  | str z => cases h; exact .base (.str z)
  | _ => cases h
theorem call_isB {X : Cx} : CallR X (.builtin "isinstance") rIsB := by
  intro pins s σ H xs us Q I r h
  obtain ⟨x, n, b, rfl, e, q⟩ := h
  cases q1 : tyN x with
  | none => unfold isiB at e; rw [q1] at e; cases e
  | some m =>
    have e2 : kitB m n = some b := by unfold isiB at e; rw [q1] at e; exact e
    exact call_isi pins s σ H _ us Q I r ⟨x, .ty n, .type m, .type n, b, rfl, .ty n, tyN_of q1, kit_ty e2, q⟩
/-! ### values for simp -/
section
variable {i j : Int} {b c : Bool} {x y : Str}
theorem scal_ii : scal (.int i) (.int j) = true := rfl
theorem scal_bb : scal (.bl b) (.bl c) = true := rfl
theorem scal_ss : scal (.str x) (.str y) = true := rfl
theorem scal_is : scal (.int i) (.str y) = true := rfl
theorem scal_si : scal (.str x) (.int j) = true := rfl
theorem scal_ni : scal .non (.int j) = true := rfl
theorem scal_in : scal (.int i) .non = true := rfl
theorem scal_nn : scal .non .non = true := rfl
theorem scal_ns : scal .non (.str y) = true := rfl
theorem scal_sn : scal (.str x) .non = true := rfl
theorem scal_nb : scal .non (.bl c) = true := rfl
theorem scal_bn : scal (.bl b) .non = true := rfl
theorem isi_bb : isiB (.bl b) "bool" = some true := by
  show kitB "bool" "bool" = some true
  decide +kernel
theorem isi_ib : isiB (.int i) "bool" = some false := by
  show kitB "int" "bool" = some false
  decide +kernel
theorem isi_ii : isiB (.int i) "int" = some true := by
  show kitB "int" "int" = some true
  decide +kernel
theorem isi_bi : isiB (.bl b) "int" = some true := by
  show kitB "bool" "int" = some true
  decide +kernel
theorem ex_some {α : Type} {p : α → Prop} {a : α} : (∃ b, some a = some b ∧ p b) = p a := by simp
theorem ite_and_m {a b X Y : Prop} [Decidable a] [Decidable b] : (if a then (if b then X else Y) else Y) = if a ∧ b then X else Y := by
  by_cases ha : a <;> by_cases hb : b <;> simp [ha, hb]
theorem ite_or_m {a b X Y : Prop} [Decidable a] [Decidable b] : (if a then X else if b then X else Y) = if a ∨ b then X else Y := by
  by_cases ha : a <;> by_cases hb : b <;> simp [ha, hb]
end
theorem q_bl {Q : VK} {H : Hp} {b c : Bool} (q : Q (.bl b) H) (e : b = c) : Q (.bl c) H := e ▸ q
theorem q_v {Q : VK} {H : Hp} {b c : V} (q : Q b H) (e : b = c) : Q c H := e ▸ q
/-! ### steps: what stands closed in the reading -/
section
variable {K : PySem.W.Frag} {H : Hp} {a p : Addr} {xs : List V} {i k : Int} {j : Nat} {v : V} {Q : VK}
theorem call_lenR {X : Cx} : CallR X (.builtin "len") (Evl.rLenS X.K) := call_len_seq
theorem ix_l (h : SqL K H a xs) (e : atI xs i = some v) (q : Q v H) : rIxL K (.ref a) (.int i) H Q := ⟨a, xs, i, v, rfl, rfl, h, e, q⟩
theorem ix_t (h : SqT K H a xs) (e : atI xs i = some v) (q : Q v H) : rIxT K (.ref a) (.int i) H Q := ⟨a, xs, i, v, rfl, rfl, h, e, q⟩
theorem set_l {Q : Hp → Prop} (h : H a = some (.lst xs)) (e : ixN xs.length k = some j) (q : Q (upd H a (.lst (xs.set j v)))) : rSetL (.ref a) (.int k) v H Q := ⟨a, xs, k, j, rfl, rfl, h, e, q⟩
theorem len_l (h : SqL K H a xs) (q : Q (.int xs.length) H) : Evl.rLenS K [.ref a] H Q := ⟨a, xs, rfl, .inl h, q⟩
theorem len_t (h : SqT K H a xs) (q : Q (.int xs.length) H) : Evl.rLenS K [.ref a] H Q := ⟨a, xs, rfl, .inr h, q⟩
theorem app_l (h : H a = some (.lst xs)) (e : xs.length < sizeLine) (q : Q .non (upd H a (.lst (xs ++ [v])))) : rAppend (.ref a) [v] H Q := ⟨a, xs, v, rfl, rfl, h, e, q⟩
theorem ty_l (h : H a = some (.lst xs)) : tyV K "list" (.ref a) H := .inl ⟨rfl, _, SqL.of h⟩
theorem at_ints {ns : List Int} (h0 : 0 ≤ i) (h1 : i < ns.length) : atI (ns.map V.int) i = some (.int (ns.getD i.toNat 0)) := by
  obtain ⟨n, rfl⟩ : ∃ n : Nat, i = (n : Int) := ⟨i.toNat, by omega⟩
  have hn : n < ns.length := by omega
  have e : (ns.map V.int)[n]? = some (.int (ns.getD n 0)) := by
    rw [List.getElem?_map, List.getD_eq_getElem?_getD, List.getElem?_eq_getElem hn]; rfl
  rw [Int.toNat_natCast]
  exact atI_nat e
theorem ix_ints {ns : List Int} (h0 : 0 ≤ i) (h1 : i < ns.length) : ixN (ns.map V.int).length i = some i.toNat := by
  rw [List.length_map]
  unfold ixN
  rw [if_pos h0, if_pos (by omega)]
theorem set_ints {ns : List Int} {n : Nat} {y : Int} : (ns.map V.int).set n (.int y) = (ns.set n y).map V.int := by
  rw [List.map_set]
end
/-! ### frames: what is tracked off the places of S stays -/
def Fr (S : List Addr) (H H' : Hp) : Prop := (∀ b o, b ∉ S → H b = some o → H' b = some o) ∧ ∀ b, H' b = none → H b = none
theorem Fr.refl (S : List Addr) (H : Hp) : Fr S H H := ⟨fun _ _ _ h => h, fun _ h => h⟩
theorem Fr.trans {S : List Addr} {H H1 H2 : Hp} (a : Fr S H H1) (b : Fr S H1 H2) : Fr S H H2 := ⟨fun c o n h => b.1 c o n (a.1 c o n h), fun c h => a.2 c (b.2 c h)⟩
theorem Fr.mono {S T : List Addr} {H H1 : Hp} (a : Fr S H H1) (h : ∀ b, b ∈ S → b ∈ T) : Fr T H H1 := ⟨fun c o n e => a.1 c o (fun z => n (h c z)) e, a.2⟩
theorem Fr.new {S : List Addr} {H : Hp} {p : Addr} {o : HO} (h : H p = none) : Fr S H (upd H p o) := by
  refine ⟨fun b u _ e => ?_, fun b e => ?_⟩
  · rw [upd_ne (ne_of_none e h)]; exact e
  · by_cases hb : b = p
    · rw [hb, upd_same] at e; cases e
    · rw [upd_ne hb] at e; exact e
theorem Fr.set {S : List Addr} {H : Hp} {p : Addr} {o : HO} (h : p ∈ S) : Fr S H (upd H p o) → Fr S H (upd H p o) := id
theorem Fr.put {S : List Addr} {H H1 : Hp} {p : Addr} {o : HO} (a : Fr S H H1) (h : p ∈ S) : Fr S H (upd H1 p o) := by
  refine ⟨fun b u n e => ?_, fun b e => ?_⟩
  · have hb : b ≠ p := fun z => n (z ▸ h)
    rw [upd_ne hb]; exact a.1 b u n e
  · by_cases hb : b = p
    · rw [hb, upd_same] at e; cases e
    · rw [upd_ne hb] at e; exact a.2 b e
theorem Fr.put_new {S : List Addr} {H H1 : Hp} {p : Addr} {o : HO} (a : Fr S H H1) (h : H1 p = none) : Fr S H (upd H1 p o) := a.trans (Fr.new h)
theorem Fr.l {S : List Addr} {K : PySem.W.Frag} {H H' : Hp} {a : Addr} {xs : List V} (f : Fr S H H') (n : a ∉ S) (h : SqL K H a xs) : SqL K H' a xs := by
  rcases h with (h | ⟨o, h⟩) | h
  · exact .inl (.inl (f.1 _ _ n h))
  · exact .inl (.inr ⟨o, f.1 _ _ n h⟩)
  · exact .inr h
theorem Fr.t {S : List Addr} {K : PySem.W.Frag} {H H' : Hp} {a : Addr} {xs : List V} (f : Fr S H H') (n : a ∉ S) (h : SqT K H a xs) : SqT K H' a xs := by
  rcases h with (h | ⟨o, h⟩) | h
  · exact .inl (.inl (f.1 _ _ n h))
  · exact .inl (.inr ⟨o, f.1 _ _ n h⟩)
  · exact .inr h
/-! ### the draws: at a the list of the cells' list at ac, the rests' list at ar and the turn -/
structure Dr (H : Hp) (a ac ar : Addr) : Prop where
  ex : ∃ (cs rs : List Int) (t : Int), H a = some (.lst [.ref ac, .ref ar, .int t]) ∧ H ac = some (.lst (cs.map V.int)) ∧ H ar = some (.lst (rs.map V.int)) ∧ cs.length = rs.length ∧ 0 < cs.length ∧ cs.length ≤ 1000 ∧ 0 ≤ t
  n1 : a ≠ ac
  n2 : a ≠ ar
  n3 : ac ≠ ar
theorem Dr.fr {H H' : Hp} {a ac ar : Addr} {S : List Addr} (d : Dr H a ac ar) (f : Fr S H H') (h1 : a ∉ S) (h2 : ac ∉ S) (h3 : ar ∉ S) : Dr H' a ac ar := by
  obtain ⟨⟨cs, rs, t, e1, e2, e3, q⟩, n1, n2, n3⟩ := d
  exact ⟨⟨cs, rs, t, f.1 _ _ h1 e1, f.1 _ _ h2 e2, f.1 _ _ h3 e3, q⟩, n1, n2, n3⟩
/-- a draw below many -/
def spDraw : Sp := fun vs H Q _ => ∃ (a ac ar : Addr) (m : Int), vs = [.ref a, .int m] ∧ 0 < m ∧ m < 2 ^ 100 ∧ Dr H a ac ar ∧ ∀ (v : Int) (H' : Hp), 0 ≤ v → v < m → Dr H' a ac ar → Fr [a, ar] H H' → Q (.int v) H'
/-- the draws of a script -/
def spBegin (K : PySem.W.Frag) : Sp := fun vs H Q _ => ∃ (a : Addr) (ns : List Int), vs = [.ref a] ∧ SqL K H a (ns.map V.int) ∧ ns.length ≤ 63 ∧ ∀ (p ac ar : Addr) (H' : Hp), H p = none → H ac = none → H ar = none → Dr H' p ac ar → Fr [] H H' → Q (.ref p) H'
end My
/-! What stands behind each piece, by name: the readings then open step by step, from the left. -/
namespace My
open PySem PySem.Spec PyProof.Rows L2
section
variable {K : PySem.W.Frag} {σ : L2.St} {H : Hp} {Q : VK} {D : Ends} {i : Nat} {v x y : V} {ta tb tc te : TE} {t u : TS} {c c' : TT} {ts tr tk : TA} {g : TG} {QB : Bool → Hp → Prop} {QA : List V → Hp → Prop} {QN : L2.St → Hp → Prop} {QH : Hp → Prop}
def KAsg (g : TG) (D : Ends) (σ : L2.St) : VK := fun x H1 => g x σ H1 D.nx
def KDrop (D : Ends) (σ : L2.St) : VK := fun _ H1 => D.nx σ H1
def KIf (t u : TS) (D : Ends) (σ : L2.St) : Bool → Hp → Prop := fun b H1 => if b = true then t D σ H1 else u D σ H1
def KB (Q : Bool → Hp → Prop) : VK := fun x H1 => ∃ k, x = .bl k ∧ Q k H1
def KAnd (u : TT) (σ : L2.St) (Q : Bool → Hp → Prop) : Bool → Hp → Prop := fun b H1 => if b = true then u σ H1 Q else Q false H1
def KOr (u : TT) (σ : L2.St) (Q : Bool → Hp → Prop) : Bool → Hp → Prop := fun b H1 => if b = true then Q true H1 else u σ H1 Q
def KNot (Q : Bool → Hp → Prop) : Bool → Hp → Prop := fun b H1 => Q (!b) H1
def KOp1 (r : R2) (tb : TE) (σ : L2.St) (Q : VK) : VK := fun x H1 => tb σ H1 fun y H2 => r x y H2 Q
def KOp2 (r : R2) (x : V) (Q : VK) : VK := fun y H2 => r x y H2 Q
def KUn (r : V → Hp → VK → Prop) (Q : VK) : VK := fun x H1 => r x H1 Q
def KArg1 (tr : TA) (σ : L2.St) (Q : List V → Hp → Prop) : VK := fun x H1 => tr σ H1 fun xs H2 => Q (x :: xs) H2
def KArg2 (x : V) (Q : List V → Hp → Prop) : List V → Hp → Prop := fun xs H2 => Q (x :: xs) H2
def KCall (sp : Sp) (dvs : List V) (E : XK) (Q : VK) : List V → Hp → Prop := fun vs H1 => sp (vs ++ dvs) H1 Q E
def KCB (r : List V → Hp → VK → Prop) (Q : VK) : List V → Hp → Prop := fun vs H1 => r vs H1 Q
def KTup (Q : VK) : List V → Hp → Prop := fun xs H1 => xs.length ≤ sizeLine ∧ ∀ p, H1 p = none → Q (.ref p) (upd H1 p (.tup xs))
def KLst (Q : VK) : List V → Hp → Prop := fun xs H1 => xs.length ≤ sizeLine ∧ ∀ p, H1 p = none → Q (.ref p) (upd H1 p (.lst xs))
def KIfE (ta tb : TE) (σ : L2.St) (Q : VK) : Bool → Hp → Prop := fun b H1 => if b = true then ta σ H1 Q else tb σ H1 Q
def KAndV (tb : TE) (σ : L2.St) (Q : VK) : VK := fun x H1 => ∃ c, x = .bl c ∧ if c = true then tb σ H1 Q else Q (.bl false) H1
def KOrV (tb : TE) (σ : L2.St) (Q : VK) : VK := fun x H1 => ∃ c, x = .bl c ∧ if c = true then Q (.bl true) H1 else tb σ H1 Q
def KNotV (Q : VK) : VK := fun x H1 => ∃ c, x = .bl c ∧ Q (.bl (!c)) H1
def KFld (K : PySem.W.Frag) (f : Str) (Q : VK) : VK := fun x H1 => ∃ a C dx fs v, x = .ref a ∧ H1 a = some (.ins C dx fs) ∧ Cls K C ∧ NoAttr K C f ∧ fs.lookup f = some v ∧ Q v H1
def KSub1 (ti : TE) (t : TSet) (v : V) (σ : L2.St) (Q : L2.St → Hp → Prop) : VK := fun o H1 => ti σ H1 fun i H2 => t o i v H2 fun H3 => Q σ H3
def KSub2 (t : TSet) (o v : V) (σ : L2.St) (Q : L2.St → Hp → Prop) : VK := fun i H2 => t o i v H2 fun H3 => Q σ H3
def KAt (σ : L2.St) (Q : L2.St → Hp → Prop) : Hp → Prop := fun H3 => Q σ H3
def KAug (i : Nat) (te : TE) (ti : TIp) (D : Ends) (σ : L2.St) : VK := fun x H => te σ H fun y H1 => ti x y H1 fun z H2 => D.nx (σ.set i (some z)) H2
def KAug2 (i : Nat) (x : V) (ti : TIp) (D : Ends) (σ : L2.St) : VK := fun y H1 => ti x y H1 fun z H2 => D.nx (σ.set i (some z)) H2
def KSet (i : Nat) (D : Ends) (σ : L2.St) : VK := fun z H2 => D.nx (σ.set i (some z)) H2
def KBM (K : PySem.W.Frag) (T : String) (r : V → List V → Hp → VK → Prop) (t : TA) (σ : L2.St) (Q : VK) : VK := fun x H1 => tyV K T x H1 ∧ t σ H1 fun xs H2 => r x xs H2 Q
def KBM2 (r : V → List V → Hp → VK → Prop) (x : V) (Q : VK) : List V → Hp → Prop := fun xs H2 => r x xs H2 Q
def KSl1 (r : V → Option Int → Option Int → Hp → VK → Prop) (tl th : TO) (σ : L2.St) (Q : VK) : VK := fun x H1 => tl σ H1 fun l H2 => th σ H2 fun u H3 => r x l u H3 Q
def KSl2 (r : V → Option Int → Option Int → Hp → VK → Prop) (x : V) (th : TO) (σ : L2.St) (Q : VK) : Option Int → Hp → Prop := fun l H2 => th σ H2 fun u H3 => r x l u H3 Q
def KSl3 (r : V → Option Int → Option Int → Hp → VK → Prop) (x : V) (l : Option Int) (Q : VK) : Option Int → Hp → Prop := fun u H3 => r x l u H3 Q
def KPart (Q : Option Int → Hp → Prop) : VK := fun x H1 => ∃ i, x = .int i ∧ Q (some i) H1
def KMake (C : Addr) (sp : Sp) (dvs : List V) (E : XK) (Q : VK) : List V → Hp → Prop := fun vs H1 => ∀ x dx, H1 x = none → H1 dx = none → dx ≠ x → sp (.ref x :: (vs ++ dvs)) (upd (upd H1 dx (.own x)) x (.ins C dx [])) (fun v H2 => v = .non ∧ Q (.ref x) H2) E
def KMeth (C : Addr) (m : Str) (sp : Sp) (dvs : List V) (E : XK) (t : TA) (σ : L2.St) (Q : VK) : VK := fun x H1 => ∃ a dx fs, x = .ref a ∧ H1 a = some (.ins C dx fs) ∧ fs.lookup m = none ∧ t σ H1 fun vs H2 => sp (x :: (vs ++ dvs)) H2 Q E
def KSf1 (K : PySem.W.Frag) (ta : TE) (f : Str) (D : Ends) (σ : L2.St) : VK := fun y H1 => ta σ H1 fun x H2 => ∃ a C dx fs, x = .ref a ∧ H2 a = some (.ins C dx fs) ∧ Cls K C ∧ NoAttr K C f ∧ fs.length < 1000 ∧ D.nx σ (upd H2 a (.ins C dx (putF f y fs)))
def KSf2 (K : PySem.W.Frag) (y : V) (f : Str) (D : Ends) (σ : L2.St) : VK := fun x H2 => ∃ a C dx fs, x = .ref a ∧ H2 a = some (.ins C dx fs) ∧ Cls K C ∧ NoAttr K C f ∧ fs.length < 1000 ∧ D.nx σ (upd H2 a (.ins C dx (putF f y fs)))
def KTg (u : TGs) (r : List V) (Q : L2.St → Hp → Prop) : L2.St → Hp → Prop := fun σ' H' => u r σ' H' Q
/-! statements -/
theorem mw_seq : tSeq t u D σ H = t ⟨u D, D.rt, D.bk, D.ct⟩ σ H := rfl
theorem mw_next : tNext D σ H = D.nx σ H := rfl
theorem mw_brk : tBreak D σ H = D.bk σ H := rfl
theorem mw_cont : tCont D σ H = D.ct σ H := rfl
theorem mw_ret : tRet te D σ H = te σ H D.rt := rfl
theorem mw_retN : tRetN D σ H = D.rt .non H := rfl
theorem mw_asg : tAsg te g D σ H = te σ H (KAsg g D σ) := rfl
theorem mw_asgN : KAsg (gName i) D σ x H = D.nx (σ.set i (some x)) H := rfl
theorem mw_asgS {ti : TE} {r : TSet} : KAsg (gSub ta ti r) D σ v H = ta σ H (KSub1 ti r v σ D.nx) := rfl
theorem mw_sub1 {r : TSet} {o : V} : KSub1 tb r v σ QN o H = tb σ H (KSub2 r o v σ QN) := rfl
theorem mw_sub2 {r : TSet} {o k : V} : KSub2 r o v σ QN k H = r o k v H (KAt σ QN) := rfl
theorem mw_at : KAt σ QN H = QN σ H := rfl
theorem mw_drop : tDrop te D σ H = te σ H (KDrop D σ) := rfl
theorem mw_dropK : KDrop D σ x H = D.nx σ H := rfl
theorem mw_aug {ti : TIp} : tAug i te ti D σ H = tVar i σ H (KAug i te ti D σ) := rfl
theorem mw_augK {ti : TIp} : KAug i te ti D σ x H = te σ H (KAug2 i x ti D σ) := rfl
theorem mw_aug2 {f : Int → Int → Int} {a b : Int} : KAug2 i (.int a) (ipI f) D σ (.int b) H = D.nx (σ.set i (some (.int (f a b)))) H := by
  refine propext ⟨fun h => ?_, fun h => ⟨a, b, rfl, rfl, h⟩⟩
  obtain ⟨_, _, e1, e2, h⟩ := h
  cases e1; cases e2; exact h
theorem mw_if : tIfS c t u D σ H = c σ H (KIf t u D σ) := rfl
theorem mw_ifK {b : Bool} : KIf t u D σ b H = if b = true then t D σ H else u D σ H := rfl
/-! tests -/
theorem mw_test : tTest te σ H QB = te σ H (KB QB) := rfl
theorem mw_B : tB te σ H QB = te σ H (KB QB) := rfl
theorem mw_KB {b : Bool} : KB QB (.bl b) H = QB b H := by
  refine propext ⟨fun h => ?_, fun h => ⟨b, rfl, h⟩⟩
  obtain ⟨_, e, h⟩ := h
  cases e; exact h
theorem mw_and : tAnd c c' σ H QB = c σ H (KAnd c' σ QB) := rfl
theorem mw_andK {b : Bool} : KAnd c σ QB b H = if b = true then c σ H QB else QB false H := rfl
theorem mw_or : tOr c c' σ H QB = c σ H (KOr c' σ QB) := rfl
theorem mw_orK {b : Bool} : KOr c σ QB b H = if b = true then QB true H else c σ H QB := rfl
theorem mw_not : tNot c σ H QB = c σ H (KNot QB) := rfl
theorem mw_notK {b : Bool} : KNot QB b H = QB (!b) H := rfl
theorem mw_yes : tYes σ H QB = QB true H := rfl
theorem mw_cxK {CX : CXT} {P : Program} {w : World} {mg : Str → Option Value} {base : Heap} {N : List Str} {q : Str} {sc : Scope} {f : Addr} {cd : Value} {A : Around} {o : List PySem.Env} {s : Shared} {E : XK} : (cxOf CX P w K mg base N q sc f cd A o s H E).K = K := rfl
/-! expressions -/
theorem mw_c : tC v σ H Q = Q v H := rfl
theorem mw_var0 : tVar 0 (some v :: σ) H Q = Q v H := by
  refine propext ⟨fun h => ?_, fun h => ⟨v, rfl, h⟩⟩
  obtain ⟨_, e, h⟩ := h
  cases e; exact h
theorem mw_varS {n : Nat} {o : Option V} : tVar (n + 1) (o :: σ) H Q = tVar n σ H Q := rfl
theorem mw_op {r : R2} : tOp r ta tb σ H Q = ta σ H (KOp1 r tb σ Q) := rfl
theorem mw_op1 {r : R2} : KOp1 r tb σ Q x H = tb σ H (KOp2 r x Q) := rfl
theorem mw_op2 {r : R2} : KOp2 r x Q y H = r x y H Q := rfl
theorem mw_un {r : V → Hp → VK → Prop} : tUn r ta σ H Q = ta σ H (KUn r Q) := rfl
theorem mw_unK {r : V → Hp → VK → Prop} : KUn r Q x H = r x H Q := rfl
theorem mw_rI0 {f : Int → Int → V} {a b : Int} : rI0 f (.int a) (.int b) H Q = Q (f a b) H := by
  refine propext ⟨fun h => ?_, fun h => ⟨a, b, rfl, rfl, h⟩⟩
  obtain ⟨_, _, e1, e2, h⟩ := h
  cases e1; cases e2; exact h
theorem mw_rI {C : Int → Int → Prop} {f : Int → Int → V} {a b : Int} : rI C f (.int a) (.int b) H Q = (C a b ∧ Q (f a b) H) := by
  refine propext ⟨fun h => ?_, fun h => ⟨a, b, rfl, rfl, h⟩⟩
  obtain ⟨_, _, e1, e2, h⟩ := h
  cases e1; cases e2; exact h
theorem mw_rU {f : Int → V} {a : Int} : rU f (.int a) H Q = Q (f a) H := by
  refine propext ⟨fun h => ?_, fun h => ⟨a, rfl, h⟩⟩
  obtain ⟨_, e1, h⟩ := h
  cases e1; exact h
theorem mw_eq (h : scal x y = true) : rEq x y H Q = Q (.bl (decide (x = y))) H := propext ⟨fun z => z.2, fun z => ⟨h, z⟩⟩
theorem mw_ne (h : scal x y = true) : rNe x y H Q = Q (.bl (!decide (x = y))) H := propext ⟨fun z => z.2, fun z => ⟨h, z⟩⟩
theorem mw_eqII {a b : Int} : rEq (.int a) (.int b) H Q = Q (.bl (decide (a = b))) H := by
  rw [mw_eq rfl]; simp
theorem mw_neII {a b : Int} : rNe (.int a) (.int b) H Q = Q (.bl (!decide (a = b))) H := by
  rw [mw_ne rfl]; simp
theorem mw_eqBB {a b : Bool} : rEq (.bl a) (.bl b) H Q = Q (.bl (decide (a = b))) H := by
  rw [mw_eq rfl]; simp
theorem mw_neBB {a b : Bool} : rNe (.bl a) (.bl b) H Q = Q (.bl (!decide (a = b))) H := by
  rw [mw_ne rfl]; simp
theorem mw_eqSS {a b : Str} : rEq (.str a) (.str b) H Q = Q (.bl (decide (a = b))) H := by
  rw [mw_eq rfl]; simp
theorem mw_neSS {a b : Str} : rNe (.str a) (.str b) H Q = Q (.bl (!decide (a = b))) H := by
  rw [mw_ne rfl]; simp
theorem mw_cons : tCons ta tr σ H QA = ta σ H (KArg1 tr σ QA) := rfl
theorem mw_arg1 : KArg1 tr σ QA x H = tr σ H (KArg2 x QA) := rfl
theorem mw_arg2 {xs : List V} : KArg2 x QA xs H = QA (x :: xs) H := rfl
theorem mw_nil : tNil σ H QA = QA [] H := rfl
theorem mw_call {sp : Sp} {dvs : List V} {E : XK} : tCall sp dvs E ts σ H Q = ts σ H (KCall sp dvs E Q) := rfl
theorem mw_callK {sp : Sp} {E : XK} {vs : List V} : KCall sp [] E Q vs H = sp vs H Q E := by
  unfold KCall
  rw [List.append_nil]
theorem mw_callK0 {n : Nat} {sp : Sp} {gV : List V → List V} {E : XK} : tCallK0 n sp gV E ts σ H Q = ts σ H (KCallK0 n sp gV E Q) := rfl
theorem mw_callK0K {n : Nat} {sp : Sp} {gV : List V → List V} {E : XK} {zs : List V} : KCallK0 n sp gV E Q zs H = (zs.length = n ∧ sp (gV zs) H Q E) := rfl
theorem mw_CB {r : List V → Hp → VK → Prop} : tCB r ts σ H Q = ts σ H (KCB r Q) := rfl
theorem mw_CBK {r : List V → Hp → VK → Prop} {vs : List V} : KCB r Q vs H = r vs H Q := rfl
theorem mw_tup : tTup ts σ H Q = ts σ H (KTup Q) := rfl
theorem mw_lst : tLst ts σ H Q = ts σ H (KLst Q) := rfl
theorem mw_ife : tIf c ta tb σ H Q = c σ H (KIfE ta tb σ Q) := rfl
theorem mw_ifeK {b : Bool} : KIfE ta tb σ Q b H = if b = true then ta σ H Q else tb σ H Q := rfl
theorem mw_andV : tAndV ta tb σ H Q = ta σ H (KAndV tb σ Q) := rfl
theorem mw_andVK {b : Bool} : KAndV tb σ Q (.bl b) H = if b = true then tb σ H Q else Q (.bl false) H := by
  refine propext ⟨fun h => ?_, fun h => ⟨b, rfl, h⟩⟩
  obtain ⟨_, e, h⟩ := h
  cases e; exact h
theorem mw_orV : tOrV ta tb σ H Q = ta σ H (KOrV tb σ Q) := rfl
theorem mw_orVK {b : Bool} : KOrV tb σ Q (.bl b) H = if b = true then Q (.bl true) H else tb σ H Q := by
  refine propext ⟨fun h => ?_, fun h => ⟨b, rfl, h⟩⟩
  obtain ⟨_, e, h⟩ := h
  cases e; exact h
theorem mw_notV : tNotV ta σ H Q = ta σ H (KNotV Q) := rfl
theorem mw_notVK {b : Bool} : KNotV Q (.bl b) H = Q (.bl (!b)) H := by
  refine propext ⟨fun h => ?_, fun h => ⟨b, rfl, h⟩⟩
  obtain ⟨_, e, h⟩ := h
  cases e; exact h
theorem mw_fld {f : Str} : tFld K ta f σ H Q = ta σ H (KFld K f Q) := rfl
theorem mw_BM {T : String} {r : V → List V → Hp → VK → Prop} : tBM K T r ta ts σ H Q = ta σ H (KBM K T r ts σ Q) := rfl
theorem mw_BMK {T : String} {r : V → List V → Hp → VK → Prop} : KBM K T r ts σ Q x H = (tyV K T x H ∧ ts σ H (KBM2 r x Q)) := rfl
theorem mw_BM2 {r : V → List V → Hp → VK → Prop} {vs : List V} : KBM2 r x Q vs H = r x vs H Q := rfl
theorem mw_sl {r : V → Option Int → Option Int → Hp → VK → Prop} {tl th : TO} : tSl r te tl th σ H Q = te σ H (KSl1 r tl th σ Q) := rfl
theorem mw_sl1 {r : V → Option Int → Option Int → Hp → VK → Prop} {tl th : TO} : KSl1 r tl th σ Q x H = tl σ H (KSl2 r x th σ Q) := rfl
theorem mw_sl2 {r : V → Option Int → Option Int → Hp → VK → Prop} {th : TO} {l : Option Int} : KSl2 r x th σ Q l H = th σ H (KSl3 r x l Q) := rfl
theorem mw_sl3 {r : V → Option Int → Option Int → Hp → VK → Prop} {l n : Option Int} : KSl3 r x l Q n H = r x l n H Q := rfl
theorem mw_part {QO : Option Int → Hp → Prop} : tPart te σ H QO = te σ H (KPart QO) := rfl
theorem mw_partK {QO : Option Int → Hp → Prop} {a : Int} : KPart QO (.int a) H = QO (some a) H := by
  refine propext ⟨fun h => ?_, fun h => ⟨a, rfl, h⟩⟩
  obtain ⟨_, e, h⟩ := h
  cases e; exact h
theorem mw_noPart {QO : Option Int → Hp → Prop} : tNoPart σ H QO = QO none H := rfl
theorem mw_make {C : Addr} {sp : Sp} {dvs : List V} {E : XK} : tMake C sp dvs E ts σ H Q = ts σ H (KMake C sp dvs E Q) := rfl
theorem mw_meth {C : Addr} {m : Str} {sp : Sp} {dvs : List V} {E : XK} : tMeth C m sp dvs E ta ts σ H Q = ta σ H (KMeth C m sp dvs E ts σ Q) := rfl
theorem mw_sfld {f : Str} : sFld K ta te f D σ H = te σ H (KSf1 K ta f D σ) := rfl
theorem mw_sf1 {f : Str} : KSf1 K ta f D σ y H = ta σ H (KSf2 K y f D σ) := rfl
/-! calls of built-ins on flat values -/
def rInt : List V → Hp → VK → Prop := fun xs H Q => (∃ i, xs = [.int i] ∧ Q (.int i) H) ∨ ∃ k, xs = [.bl k] ∧ Q (.int (if k then 1 else 0)) H
theorem call_intR {X : Cx} : CallR X (.type "int") rInt := call_int1
theorem mw_intI {a : Int} : rInt [.int a] H Q = Q (.int a) H := by
  refine propext ⟨fun h => ?_, fun h => .inl ⟨a, rfl, h⟩⟩
  rcases h with ⟨_, e, h⟩ | ⟨_, e, h⟩
  · cases e; exact h
  · cases e
theorem mw_intB {b : Bool} : rInt [.bl b] H Q = Q (.int (if b then 1 else 0)) H := by
  refine propext ⟨fun h => ?_, fun h => .inr ⟨b, rfl, h⟩⟩
  rcases h with ⟨_, e, h⟩ | ⟨_, e, h⟩
  · cases e
  · cases e; exact h
def rAbs : List V → Hp → VK → Prop := fun xs H Q => ∃ i, xs = [.int i] ∧ Q (.int (i.natAbs : Int)) H
theorem call_absR {X : Cx} : CallR X (.builtin "abs") rAbs := by
  intro pins s σ H xs us Q I r h
  obtain ⟨i, rfl, q⟩ := h
  refine call_abs pins s σ H _ us Q I r ⟨i, rfl, ?_⟩
  have e : (if i < 0 then -i else i) = (i.natAbs : Int) := by split <;> omega
  rw [e]; exact q
theorem mw_abs {a : Int} : rAbs [.int a] H Q = Q (.int (a.natAbs : Int)) H := by
  refine propext ⟨fun h => ?_, fun h => ⟨a, rfl, h⟩⟩
  obtain ⟨_, e, h⟩ := h
  cases e; exact h
def rMax : List V → Hp → VK → Prop := fun xs H Q => ∃ i j, xs = [.int i, .int j] ∧ Q (.int (max i j)) H
theorem call_maxR {X : Cx} (hc : X.calm = true) : CallR X (.builtin "max") rMax := by
  intro pins s σ H xs us Q I r h
  obtain ⟨i, j, rfl, q⟩ := h
  refine call_max2 hc pins s σ H _ us Q I r ⟨i, j, rfl, ?_⟩
  have e : (if j > i then j else i) = max i j := by split <;> omega
  rw [e]; exact q
theorem mw_max {a b : Int} : rMax [.int a, .int b] H Q = Q (.int (max a b)) H := by
  refine propext ⟨fun h => ?_, fun h => ⟨a, b, rfl, h⟩⟩
  obtain ⟨_, _, e, h⟩ := h
  cases e; exact h
def rMin : List V → Hp → VK → Prop := fun xs H Q => ∃ i j, xs = [.int i, .int j] ∧ Q (.int (min i j)) H
theorem call_minR {X : Cx} (hc : X.calm = true) : CallR X (.builtin "min") rMin := by
  intro pins s σ H xs us Q I r h
  obtain ⟨i, j, rfl, q⟩ := h
  refine call_min2 hc pins s σ H _ us Q I r ⟨i, j, rfl, ?_⟩
  have e : (if j < i then j else i) = min i j := by split <;> omega
  rw [e]; exact q
theorem mw_min {a b : Int} : rMin [.int a, .int b] H Q = Q (.int (min a b)) H := by
  refine propext ⟨fun h => ?_, fun h => ⟨a, b, rfl, h⟩⟩
  obtain ⟨_, _, e, h⟩ := h
  cases e; exact h
theorem mw_isB {n : String} {b : Bool} (h : isiB x n = some b) : rIsB [x, .ty n] H Q = Q (.bl b) H := by
  refine propext ⟨fun z => ?_, fun z => ⟨x, n, b, rfl, h, z⟩⟩
  obtain ⟨x', n', b', e, e2, z⟩ := z
  cases e
  rw [h] at e2
  cases e2; exact z
theorem mw_isBB {b : Bool} : rIsB [.bl b, .ty "bool"] H Q = Q (.bl true) H := mw_isB isi_bb
theorem mw_isIB {a : Int} : rIsB [.int a, .ty "bool"] H Q = Q (.bl false) H := mw_isB isi_ib
theorem mw_isII {a : Int} : rIsB [.int a, .ty "int"] H Q = Q (.bl true) H := mw_isB isi_ii
theorem mw_isBI {b : Bool} : rIsB [.bl b, .ty "int"] H Q = Q (.bl true) H := mw_isB isi_bi
/-! is None -/
def rIsNo : R2 := fun x y H Q => y = .non ∧ Q (.bl (decide (x = .non))) H
def rNotNo : R2 := fun x y H Q => y = .non ∧ Q (.bl (!decide (x = .non))) H
theorem op_isNo {X : Cx} : OpR X (compareOp .Is) rIsNo := op_isN
theorem op_notNo {X : Cx} : OpR X (compareOp .IsNot) rNotNo := op_notN
theorem mw_isNo : rIsNo x .non H Q = Q (.bl (decide (x = .non))) H := propext ⟨fun z => z.2, fun z => ⟨rfl, z⟩⟩
theorem mw_notNo : rNotNo x .non H Q = Q (.bl (!decide (x = .non))) H := propext ⟨fun z => z.2, fun z => ⟨rfl, z⟩⟩
/-! what is made -/
theorem new_l {xs : List V} (h : xs.length ≤ sizeLine) (q : ∀ p, H p = none → Q (.ref p) (upd H p (.lst xs))) : KLst Q xs H := ⟨h, q⟩
theorem new_t {xs : List V} (h : xs.length ≤ sizeLine) (q : ∀ p, H p = none → Q (.ref p) (upd H p (.tup xs))) : KTup Q xs H := ⟨h, q⟩
theorem fld_l {f : Str} {a C dx : Addr} {fs : List (Str × V)} (h : H a = some (.ins C dx fs)) (hc : Cls K C) (hn : NoAttr K C f) (e : fs.lookup f = some v) (q : Q v H) : KFld K f Q (.ref a) H := ⟨a, C, dx, fs, v, rfl, h, hc, hn, e, q⟩
theorem sf_l {f : Str} {a C dx : Addr} {fs : List (Str × V)} (h : H a = some (.ins C dx fs)) (hc : Cls K C) (hn : NoAttr K C f) (e : fs.length < 1000) (q : D.nx σ (upd H a (.ins C dx (putF f y fs)))) : KSf2 K y f D σ (.ref a) H := ⟨a, C, dx, fs, rfl, h, hc, hn, e, q⟩
theorem mk_l {C : Addr} {sp : Sp} {E : XK} {vs : List V} (q : ∀ x dx, H x = none → H dx = none → dx ≠ x → sp (.ref x :: vs) (upd (upd H dx (.own x)) x (.ins C dx [])) (fun v H2 => v = .non ∧ Q (.ref x) H2) E) : KMake C sp [] E Q vs H := by
  intro x dx h1 h2 h3
  rw [List.append_nil]
  exact q x dx h1 h2 h3
theorem meth_l {C : Addr} {m : Str} {sp : Sp} {E : XK} {a dx : Addr} {fs : List (Str × V)} (h : H a = some (.ins C dx fs)) (e : fs.lookup m = none) (q : ts σ H (KCall (fun vs => sp (.ref a :: vs)) [] E Q)) : KMeth C m sp [] E ts σ Q (.ref a) H := by
  refine ⟨a, dx, fs, rfl, h, e, ?_⟩
  exact q
theorem mw_tupG {n : Nat} {gs : TGs} : KAsg (gTup K n gs) D σ v H = gTup K n gs v σ H D.nx := rfl
theorem tg_l {a : Addr} {xs : List V} {n : Nat} {gs : TGs} {Q : L2.St → Hp → Prop} (h : SqT K H a xs) (e : xs.length = n) (q : gs xs σ H Q) : gTup K n gs (.ref a) σ H Q := ⟨a, xs, rfl, h, e, q⟩
theorem mw_gcons {gs : TGs} {xs : List V} : gCons g gs (v :: xs) σ H QN = g v σ H (KTg gs xs QN) := by
  refine propext ⟨fun h => ?_, fun h => ⟨v, xs, rfl, h⟩⟩
  obtain ⟨_, _, e, h⟩ := h
  cases e; exact h
theorem mw_gnil : gNil [] σ H QN = QN σ H := propext ⟨fun z => z.2, fun z => ⟨rfl, z⟩⟩
theorem mw_ktg {gs : TGs} {xs : List V} : KTg gs xs QN σ H = gs xs σ H QN := rfl
theorem mw_gname : gName i v σ H QN = QN (σ.set i (some v)) H := rfl
end
end My
/-! Loops and comprehensions, what they walk over known. -/
namespace My
open PySem PySem.Spec PyProof.Rows L2
theorem Fr.put_free {S : List Addr} {H H1 : Hp} {p : Addr} {o : HO} (a : Fr S H H1) (h : H p = none) : Fr S H (upd H1 p o) := by
  refine ⟨fun b u n e => ?_, fun b e => ?_⟩
  · rw [upd_ne (ne_of_none e h)]; exact a.1 b u n e
  · by_cases hb : b = p
    · rw [hb]; exact h
    · rw [upd_ne hb] at e; exact a.2 b e
theorem Fr.dom {S : List Addr} {H H1 : Hp} (a : Fr S H H1) {p : Addr} {o : HO} (h : H p = some o) : ∃ u, H1 p = some u := by
  cases e : H1 p with
  | none => rw [a.2 p e] at h; cases h
  | some u => exact ⟨u, rfl⟩
section
variable {K : PySem.W.Frag} {σ : L2.St} {H : Hp} {Q : VK} {D : Ends} {g : TG} {tb : TS} {te tl : TE} {tt : TT} {ta : TA} {vs : List Nat} {j : Nat}
def KForL (K : PySem.W.Frag) (g : TG) (tb : TS) (D : Ends) (σ : L2.St) : VK := fun x H => ∃ a, x = .ref a ∧ (∃ xs, SqL K H a xs) ∧ ∃ W : Nat → Nat → L2.St → Hp → Prop, (∃ m, W 0 m σ H) ∧ ∀ i m σ H, W i m σ H →
  ((Itl K a).stop i H ∧ D.nx σ H) ∨ ((Itl K a).go i H ∧ ∃ N : L2.St → Hp → Prop, (∀ σ' H', N σ' H' → ∃ m', m' < m ∧ W (i + 1) m' σ' H') ∧ ∀ x H', (Itl K a).yld i H x H' → g x σ H' fun σ2 H2 => tb { D with nx := N, ct := N, bk := D.nx } σ2 H2)
theorem mw_forL : tFor (iList K tl) g tb D σ H = tl σ H (KForL K g tb D σ) := rfl
def KForT (K : PySem.W.Frag) (g : TG) (tb : TS) (D : Ends) (σ : L2.St) : VK := fun x H => ∃ a, x = .ref a ∧ (∃ xs, SqT K H a xs) ∧ ∃ W : Nat → Nat → L2.St → Hp → Prop, (∃ m, W 0 m σ H) ∧ ∀ i m σ H, W i m σ H →
  ((Itt K a).stop i H ∧ D.nx σ H) ∨ ((Itt K a).go i H ∧ ∃ N : L2.St → Hp → Prop, (∀ σ' H', N σ' H' → ∃ m', m' < m ∧ W (i + 1) m' σ' H') ∧ ∀ x H', (Itt K a).yld i H x H' → g x σ H' fun σ2 H2 => tb { D with nx := N, ct := N, bk := D.nx } σ2 H2)
theorem mw_forT : tFor (iTup K tl) g tb D σ H = tl σ H (KForT K g tb D σ) := rfl
def KForR (g : TG) (tb : TS) (D : Ends) (σ : L2.St) (lo : Int) (n : Nat) (H : Hp) : Prop := ∃ W : Nat → Nat → L2.St → Hp → Prop, (∃ m, W 0 m σ H) ∧ ∀ i m σ H, W i m σ H →
  ((Itr lo n).stop i H ∧ D.nx σ H) ∨ ((Itr lo n).go i H ∧ ∃ N : L2.St → Hp → Prop, (∀ σ' H', N σ' H' → ∃ m', m' < m ∧ W (i + 1) m' σ' H') ∧ ∀ x H', (Itr lo n).yld i H x H' → g x σ H' fun σ2 H2 => tb { D with nx := N, ct := N, bk := D.nx } σ2 H2)
def KForR1 (g : TG) (tb : TS) (D : Ends) (σ : L2.St) : List V → Hp → Prop := fun vs H => ∃ j : Int, vs = [.int j] ∧ -(2 ^ 62) ≤ j ∧ j < 2 ^ 62 ∧ KForR g tb D σ 0 j.toNat H
theorem mw_forR1 : tFor (iRng1 ta) g tb D σ H = ta σ H (KForR1 g tb D σ) := rfl
def KForR2 (g : TG) (tb : TS) (D : Ends) (σ : L2.St) : List V → Hp → Prop := fun vs H => ∃ i j : Int, vs = [.int i, .int j] ∧ (-(2 ^ 62) ≤ i ∧ i < 2 ^ 62 ∧ -(2 ^ 62) ≤ j ∧ j < 2 ^ 62) ∧ KForR g tb D σ i (j - i).toNat H
theorem mw_forR2 : tFor (iRng2 ta) g tb D σ H = ta σ H (KForR2 g tb D σ) := rfl
/-- for .. in a list: Pv what holds ahead of turn i -/
theorem for_l {a : Addr} {xs : List V} (Pv : Nat → L2.St → Hp → Prop) (h0 : Pv 0 σ H) (hl : ∀ i σ H, i ≤ xs.length → Pv i σ H → SqL K H a xs)
    (hs : ∀ i x σ H, xs[i]? = some x → Pv i σ H → g x σ H fun σ2 H2 => tb ⟨Pv (i + 1), D.rt, D.nx, Pv (i + 1)⟩ σ2 H2) (hd : ∀ σ H, Pv xs.length σ H → D.nx σ H) : KForL K g tb D σ (.ref a) H :=
  ⟨a, rfl, ⟨xs, hl 0 σ H (Nat.zero_le _) h0⟩, for_list (xs := xs) Pv h0 hl hs hd⟩
theorem for_t {a : Addr} {xs : List V} (Pv : Nat → L2.St → Hp → Prop) (h0 : Pv 0 σ H) (hl : ∀ i σ H, i ≤ xs.length → Pv i σ H → SqT K H a xs)
    (hs : ∀ i x σ H, xs[i]? = some x → Pv i σ H → g x σ H fun σ2 H2 => tb ⟨Pv (i + 1), D.rt, D.nx, Pv (i + 1)⟩ σ2 H2) (hd : ∀ σ H, Pv xs.length σ H → D.nx σ H) : KForT K g tb D σ (.ref a) H :=
  ⟨a, rfl, ⟨xs, hl 0 σ H (Nat.zero_le _) h0⟩, for_tup (xs := xs) Pv h0 hl hs hd⟩
theorem for_r {lo : Int} {n : Nat} (Pv : Nat → L2.St → Hp → Prop) (h0 : Pv 0 σ H)
    (hs : ∀ i σ H, i < n → Pv i σ H → g (.int (lo + i)) σ H fun σ2 H2 => tb ⟨Pv (i + 1), D.rt, D.nx, Pv (i + 1)⟩ σ2 H2) (hd : ∀ σ H, Pv n σ H → D.nx σ H) : KForR g tb D σ lo n H :=
  for_range Pv h0 hs hd
theorem for_r1 {m : Int} (hm : m < 2 ^ 62) (Pv : Nat → L2.St → Hp → Prop) (h1 : -(2 ^ 62) ≤ m) (h0 : Pv 0 σ H)
    (hs : ∀ (i : Nat) σ H, (i : Int) < m → Pv i σ H → g (.int i) σ H fun σ2 H2 => tb ⟨Pv (i + 1), D.rt, D.nx, Pv (i + 1)⟩ σ2 H2) (hd : ∀ σ H, Pv m.toNat σ H → D.nx σ H) : KForR1 g tb D σ [.int m] H :=
  ⟨m, rfl, h1, hm, for_range Pv h0 (fun i σ H hi p => by rw [Int.zero_add]; exact hs i σ H (by omega) p) hd⟩
theorem for_r2 {lo m : Int} (hb : -(2 ^ 62) ≤ lo ∧ lo < 2 ^ 62 ∧ -(2 ^ 62) ≤ m ∧ m < 2 ^ 62) (Pv : Nat → L2.St → Hp → Prop) (h0 : Pv 0 σ H)
    (hs : ∀ (i : Nat) σ H, lo + i < m → Pv i σ H → g (.int (lo + i)) σ H fun σ2 H2 => tb ⟨Pv (i + 1), D.rt, D.nx, Pv (i + 1)⟩ σ2 H2) (hd : ∀ σ H, Pv (m - lo).toNat σ H → D.nx σ H) : KForR2 g tb D σ [.int lo, .int m] H :=
  ⟨lo, m, rfl, hb, for_range Pv h0 (fun i σ H hi p => hs i σ H (by omega) p) hd⟩
/-! comprehensions -/
def KLcJ (J : It) (g : TG) (tt : TT) (te : TE) (vs : List Nat) (σ : L2.St) (Q : VK) (H1 : Hp) : Prop := ∀ D, H1 D = none → ∃ W : Nat → Nat → Hp → Prop, (∃ m, W 0 m (upd H1 D (.lst []))) ∧ ∀ i m H, W i m H →
  (J.stop i H ∧ Q (.ref D) H) ∨ (J.go i H ∧ ∃ Nx : Hp → Prop, (∀ H', Nx H' → ∃ m', m' < m ∧ W (i + 1) m' H') ∧ ∀ x H', J.yld i H x H' → g x (wipe σ vs) H' fun σ2 H2 => wipe σ2 vs = wipe σ vs ∧ tt σ2 H2 fun b H3 =>
    if b = true then te σ2 H3 fun y H4 => ∃ acc, H4 D = some (.lst acc) ∧ acc.length < sizeLine ∧ Nx (upd H4 D (.lst (acc ++ [y]))) else Nx H3)
def KLcL (K : PySem.W.Frag) (g : TG) (tt : TT) (te : TE) (vs : List Nat) (σ : L2.St) (Q : VK) : VK := fun x H1 => ∃ a, x = .ref a ∧ (∃ xs, SqL K H1 a xs) ∧ KLcJ (Itl K a) g tt te vs σ Q H1
theorem mw_lcL : tLc (iList K tl) g tt te vs σ H Q = tl σ H (KLcL K g tt te vs σ Q) := rfl
def KLcT (K : PySem.W.Frag) (g : TG) (tt : TT) (te : TE) (vs : List Nat) (σ : L2.St) (Q : VK) : VK := fun x H1 => ∃ a, x = .ref a ∧ (∃ xs, SqT K H1 a xs) ∧ KLcJ (Itt K a) g tt te vs σ Q H1
theorem mw_lcT : tLc (iTup K tl) g tt te vs σ H Q = tl σ H (KLcT K g tt te vs σ Q) := rfl
def KLcR1 (g : TG) (tt : TT) (te : TE) (vs : List Nat) (σ : L2.St) (Q : VK) : List V → Hp → Prop := fun ws H1 => ∃ j : Int, ws = [.int j] ∧ -(2 ^ 62) ≤ j ∧ j < 2 ^ 62 ∧ KLcJ (Itr 0 j.toNat) g tt te vs σ Q H1
theorem mw_lcR1 : tLc (iRng1 ta) g tt te vs σ H Q = ta σ H (KLcR1 g tt te vs σ Q) := rfl
/-- what stands behind an item of a comprehension: the list grows by it -/
def KPush (Dl : Addr) (Nx : Hp → Prop) : VK := fun y H4 => ∃ acc, H4 Dl = some (.lst acc) ∧ acc.length < sizeLine ∧ Nx (upd H4 Dl (.lst (acc ++ [y])))
/-- item by item, each tested and kept or not: R says what is kept of which item -/
structure Lc (S : List Addr) (I : Hp → Prop) (R : V → Option V → Hp → Prop) (g : TG) (tt : TT) (te : TE) (vs : List Nat) (σ : L2.St) (H : Hp) (xs : List V) : Prop where
  i0 : I H
  iF : ∀ H' p o, H p = none → I H' → I (upd H' p o)
  rF : ∀ x y H' H'', Fr S H' H'' → R x y H' → R x y H''
  rL : ∀ x y H' Dl ys zs, H' Dl = some (.lst ys) → R x y H' → R x y (upd H' Dl (.lst zs))
  run : ∀ (x : V) (H' : Hp), x ∈ xs → Fr S H H' → I H' → ∀ Qn : Option V → Hp → Prop, (∀ y H'', R x y H'' → Fr S H' H'' → I H'' → Qn y H'') →
    g x (wipe σ vs) H' fun σ2 H2 => wipe σ2 vs = wipe σ vs ∧ tt σ2 H2 fun b H3 => if b = true then te σ2 H3 fun y H4 => Qn (some y) H4 else Qn none H3
/-- what is kept -/
inductive Kept (R : V → Option V → Hp → Prop) (H : Hp) : List V → List V → Prop where
  | nil : Kept R H [] []
  | yes {x y : V} {xs ys : List V} : R x (some y) H → Kept R H xs ys → Kept R H (x :: xs) (y :: ys)
  | no {x : V} {xs ys : List V} : R x none H → Kept R H xs ys → Kept R H (x :: xs) ys
theorem Kept.mono {R : V → Option V → Hp → Prop} {H H' : Hp} (f : ∀ x y, R x y H → R x y H') : ∀ {xs ys : List V}, Kept R H xs ys → Kept R H' xs ys
  | _, _, .nil => .nil
  | _, _, .yes r k => .yes (f _ _ r) (Kept.mono f k)
  | _, _, .no r k => .no (f _ _ r) (Kept.mono f k)
theorem Kept.snoc {R : V → Option V → Hp → Prop} {H : Hp} {x y : V} (r : R x (some y) H) : ∀ {xs ys : List V}, Kept R H xs ys → Kept R H (xs ++ [x]) (ys ++ [y])
  | _, _, .nil => .yes r .nil
  | _, _, .yes r' k => .yes r' (Kept.snoc r k)
  | _, _, .no r' k => .no r' (Kept.snoc r k)
theorem Kept.snoc0 {R : V → Option V → Hp → Prop} {H : Hp} {x : V} (r : R x none H) : ∀ {xs ys : List V}, Kept R H xs ys → Kept R H (xs ++ [x]) ys
  | _, _, .nil => .no r .nil
  | _, _, .yes r' k => .yes r' (Kept.snoc0 r k)
  | _, _, .no r' k => .no r' (Kept.snoc0 r k)
theorem Kept.len {R : V → Option V → Hp → Prop} {H : Hp} : ∀ {xs ys : List V}, Kept R H xs ys → ys.length ≤ xs.length
  | _, _, .nil => Nat.le_refl _
  | _, _, .yes _ k => by have := Kept.len k; simp only [List.length_cons]; omega
  | _, _, .no _ k => by have := Kept.len k; simp only [List.length_cons]; omega
/-- all are kept: ys is f of xs -/
theorem Kept.map {R : V → Option V → Hp → Prop} {H : Hp} {α : Type} {e f : α → V} (h : ∀ a o, R (e a) o H → o = some (f a)) : ∀ {l : List α} {ys : List V}, Kept R H (l.map e) ys → ys = l.map f
  | [], _, k => by cases k; rfl
  | a :: l, _, k => by
    rw [List.map_cons] at k
    cases k with
    | yes r k2 => rw [List.map_cons, Kept.map h k2, Option.some.inj (h a _ r)]
    | no r k2 => cases h a _ r
/-- filtered -/
theorem Kept.filterMap {R : V → Option V → Hp → Prop} {H : Hp} {α : Type} {e : α → V} {f : α → Option V} (h : ∀ a o, R (e a) o H → o = f a) : ∀ {l : List α} {ys : List V}, Kept R H (l.map e) ys → ys = l.filterMap f
  | [], _, k => by cases k; rfl
  | a :: l, _, k => by
    rw [List.map_cons] at k
    cases k with
    | yes r k2 => rw [List.filterMap_cons, ← h a _ r, Kept.filterMap h k2]
    | no r k2 => rw [List.filterMap_cons, ← h a _ r]; exact Kept.filterMap h k2
def LcP (S : List Addr) (I : Hp → Prop) (R : V → Option V → Hp → Prop) (H : Hp) (xs : List V) (Dl : Addr) (i : Nat) (H' : Hp) : Prop := H Dl = none ∧ Fr S H H' ∧ I H' ∧ ∃ ys, H' Dl = some (.lst ys) ∧ Kept R H' (xs.take i) ys
/-- the turn -/
theorem lc_turn {S : List Addr} {I : Hp → Prop} {R : V → Option V → Hp → Prop} {xs : List V} (L : Lc S I R g tt te vs σ H xs) (hlen : xs.length ≤ 100000) (hS : ∀ b ∈ S, ∃ o, H b = some o) {Dl : Addr} {i : Nat} {x : V} {H' : Hp} (hx : xs[i]? = some x) (p : LcP S I R H xs Dl i H') :
    g x (wipe σ vs) H' fun σ2 H2 => wipe σ2 vs = wipe σ vs ∧ tt σ2 H2 fun b H3 => if b = true then te σ2 H3 fun y H4 => ∃ acc, H4 Dl = some (.lst acc) ∧ acc.length < sizeLine ∧ LcP S I R H xs Dl (i + 1) (upd H4 Dl (.lst (acc ++ [y]))) else LcP S I R H xs Dl (i + 1) H3 := by
  obtain ⟨p1, p2, p3, ys, p4, p5⟩ := p
  have dS : Dl ∉ S := fun z => by
    obtain ⟨o, e⟩ := hS _ z
    rw [e] at p1; cases p1
  have hi : i < xs.length := (List.getElem?_eq_some_iff.mp hx).1
  have et : xs.take (i + 1) = xs.take i ++ [x] := by
    rw [List.take_add_one, hx]; rfl
  have hys : ys.length ≤ 100000 := by
    have := p5.len
    rw [List.length_take] at this
    omega
  have hxm : x ∈ xs := List.mem_of_getElem? hx
  have key := L.run x H' hxm p2 p3 (fun o H4 => match o with
    | some y => ∃ acc, H4 Dl = some (.lst acc) ∧ acc.length < sizeLine ∧ LcP S I R H xs Dl (i + 1) (upd H4 Dl (.lst (acc ++ [y])))
    | none => LcP S I R H xs Dl (i + 1) H4) (fun o H'' r f j => ?_)
  · exact key
  · have e4 : H'' Dl = some (.lst ys) := f.1 _ _ dS p4
    cases o with
    | some y =>
      refine ⟨ys, e4, Nat.lt_of_le_of_lt hys (by decide), p1, (p2.trans f).put_free p1, L.iF _ _ _ p1 j, ys ++ [y], upd_same, ?_⟩
      rw [et]
      have hm : ∀ x o, R x o H'' → R x o (upd H'' Dl (.lst (ys ++ [y]))) := fun x o r => L.rL x o H'' Dl ys _ e4 r
      exact (Kept.snoc r (p5.mono fun x o => L.rF x o _ _ f)).mono hm
    | none =>
      refine ⟨p1, p2.trans f, j, ys, e4, ?_⟩
      rw [et]
      exact Kept.snoc0 r (p5.mono fun x o => L.rF x o _ _ f)
/-- over a list that stands still -/
theorem lc_l {S : List Addr} (I : Hp → Prop) (R : V → Option V → Hp → Prop) {a : Addr} {xs : List V} (h : SqL K H a xs) (ha : a ∉ S) (hlen : xs.length ≤ 100000) (hS : ∀ b ∈ S, ∃ o, H b = some o) (L : Lc S I R g tt te vs σ H xs)
    (q : ∀ Dl ys H', H Dl = none → H' Dl = some (.lst ys) → Kept R H' xs ys → Fr S H H' → I H' → Q (.ref Dl) H') : KLcL K g tt te vs σ Q (.ref a) H := by
  refine ⟨a, rfl, ⟨xs, h⟩, fun Dl hD => lc_list (xs := xs) (LcP S I R H xs Dl) ⟨hD, (Fr.refl _ _).put_free hD, L.iF _ _ _ hD L.i0, [], upd_same, .nil⟩ (fun i H' _ p => p.2.1.l ha h) (fun i x H' hx p => lc_turn L hlen hS hx p) fun H' p => ?_⟩
  obtain ⟨p1, p2, p3, ys, p4, p5⟩ := p
  rw [List.take_length] at p5
  exact q Dl ys H' p1 p4 p5 p2 p3
theorem lc_t {S : List Addr} (I : Hp → Prop) (R : V → Option V → Hp → Prop) {a : Addr} {xs : List V} (h : SqT K H a xs) (ha : a ∉ S) (hlen : xs.length ≤ 100000) (hS : ∀ b ∈ S, ∃ o, H b = some o) (L : Lc S I R g tt te vs σ H xs)
    (q : ∀ Dl ys H', H Dl = none → H' Dl = some (.lst ys) → Kept R H' xs ys → Fr S H H' → I H' → Q (.ref Dl) H') : KLcT K g tt te vs σ Q (.ref a) H := by
  refine ⟨a, rfl, ⟨xs, h⟩, fun Dl hD => lc_tup (xs := xs) (LcP S I R H xs Dl) ⟨hD, (Fr.refl _ _).put_free hD, L.iF _ _ _ hD L.i0, [], upd_same, .nil⟩ (fun i H' _ p => p.2.1.t ha h) (fun i x H' hx p => lc_turn L hlen hS hx p) fun H' p => ?_⟩
  obtain ⟨p1, p2, p3, ys, p4, p5⟩ := p
  rw [List.take_length] at p5
  exact q Dl ys H' p1 p4 p5 p2 p3
def rngV (lo : Int) (n : Nat) : List V := (List.range n).map fun (i : Nat) => V.int (lo + (i : Int))
theorem rngV_get {lo : Int} {n i : Nat} (h : i < n) : (rngV lo n)[i]? = some (.int (lo + i)) := by
  unfold rngV
  rw [List.getElem?_map, List.getElem?_range h]; rfl
theorem rngV_len {lo : Int} {n : Nat} : (rngV lo n).length = n := by
  unfold rngV
  rw [List.length_map, List.length_range]
theorem lc_r {S : List Addr} (I : Hp → Prop) (R : V → Option V → Hp → Prop) {lo : Int} {n : Nat} (hlen : n ≤ 100000) (hS : ∀ b ∈ S, ∃ o, H b = some o) (L : Lc S I R g tt te vs σ H (rngV lo n))
    (q : ∀ Dl ys H', H Dl = none → H' Dl = some (.lst ys) → Kept R H' (rngV lo n) ys → Fr S H H' → I H' → Q (.ref Dl) H') : KLcJ (Itr lo n) g tt te vs σ Q H := by
  refine fun Dl hD => lc_range (lo := lo) (n := n) (LcP S I R H (rngV lo n) Dl) ⟨hD, (Fr.refl _ _).put_free hD, L.iF _ _ _ hD L.i0, [], upd_same, .nil⟩ (fun i H' hi p => lc_turn L (by rw [rngV_len]; exact hlen) hS (rngV_get hi) p) fun H' p => ?_
  obtain ⟨p1, p2, p3, ys, p4, p5⟩ := p
  have e : (rngV lo n).take n = rngV lo n := by
    conv => lhs; rw [← rngV_len (lo := lo) (n := n)]
    rw [rngV_len, List.take_of_length_le (by rw [rngV_len]; exact Nat.le_refl _)]
  rw [e] at p5
  exact q Dl ys H' p1 p4 p5 p2 p3
theorem lc_r1 {S : List Addr} (I : Hp → Prop) (R : V → Option V → Hp → Prop) {m : Int} (hm : 0 ≤ m ∧ m ≤ 100000) (hS : ∀ b ∈ S, ∃ o, H b = some o) (L : Lc S I R g tt te vs σ H (rngV 0 m.toNat))
    (q : ∀ Dl ys H', H Dl = none → H' Dl = some (.lst ys) → Kept R H' (rngV 0 m.toNat) ys → Fr S H H' → I H' → Q (.ref Dl) H') : KLcR1 g tt te vs σ Q [.int m] H :=
  ⟨m, rfl, by omega, by omega, lc_r I R (by omega) hS L q⟩
/-! an element that makes nothing: its value is f of the item -/
theorem lc_pure {f : V → V} {xs : List V} (hw : ∀ x ∈ xs, wipe ((wipe σ vs).set j (some x)) vs = wipe σ vs) (hr : ∀ x ∈ xs, ∀ (H' : Hp) (Q' : VK), Q' (f x) H' → te ((wipe σ vs).set j (some x)) H' Q') :
    Lc [] (fun _ => True) (fun x y _ => y = some (f x)) (gName j) tYes te vs σ H xs where
  i0 := True.intro
  iF := fun _ _ _ _ _ => True.intro
  rF := fun _ _ _ _ _ r => r
  rL := fun _ _ _ _ _ _ _ r => r
  run := fun x H' hx _ _ Qn k => by
    refine ⟨hw x hx, ?_⟩
    show te ((wipe σ vs).set j (some x)) H' fun y H4 => Qn (some y) H4
    exact hr x hx H' _ (k _ _ rfl (Fr.refl _ _) True.intro)
theorem kept_pure {f : V → V} {H' : Hp} : ∀ {xs ys : List V}, Kept (fun x y _ => y = some (f x)) H' xs ys → ys = xs.map f
  | _, _, .nil => rfl
  | _, _, .yes r k => by rw [List.map_cons, ← kept_pure k, Option.some.inj r]
  | _, _, .no r _ => by cases r
theorem sl_l {a : Addr} {xs : List V} {lo hi : Option Int} (h : SqL K H a xs) (q : ∀ p, H p = none → Q (.ref p) (upd H p (.lst (cutV xs lo hi)))) : rSlL K (.ref a) lo hi H Q := ⟨a, xs, rfl, h, q⟩
theorem cut_first {xs : List V} {n : Nat} (h : xs.length ≤ n) : cutV xs none (some (n : Int)) = xs := by
  unfold cutV
  have e1 : HT.sIx xs.length 0 none = 0 := rfl
  have e2 : HT.sIx xs.length xs.length (some (n : Int)) = xs.length := by
    rw [HT.sIx_nat, Nat.min_eq_right h]
  rw [e1, e2, List.drop_zero, Nat.sub_zero, List.take_length]
theorem lc_ints {a : Addr} {ns : List Int} (f : Int → Int) (h : SqL K H a (ns.map V.int)) (hlen : ns.length ≤ 100000) (hw : ∀ n : Int, wipe ((wipe σ vs).set j (some (.int n))) vs = wipe σ vs)
    (hr : ∀ n ∈ ns, ∀ (H' : Hp) (Q' : VK), Q' (.int (f n)) H' → te ((wipe σ vs).set j (some (.int n))) H' Q') (q : ∀ Dl H', H Dl = none → H' Dl = some (.lst ((ns.map f).map V.int)) → Fr [] H H' → Q (.ref Dl) H') : KLcL K (gName j) tYes te vs σ Q (.ref a) H := by
  have key : ∀ x ∈ ns.map V.int, ∃ n ∈ ns, x = V.int n := fun x hx => by
    obtain ⟨n, hn, e⟩ := List.mem_map.mp hx
    exact ⟨n, hn, e.symm⟩
  refine lc_l (S := []) (fun _ => True) (fun x y _ => y = some (match x with | .int n => .int (f n) | v => v)) h (by simp) (by rw [List.length_map]; exact hlen) (by simp) (lc_pure (fun x hx => ?_) fun x hx H' Q' k => ?_) fun Dl ys H' hD e k fr _ => ?_
  · obtain ⟨n, _, rfl⟩ := key x hx; exact hw n
  · obtain ⟨n, hn, rfl⟩ := key x hx; exact hr n hn H' Q' k
  · have ey := kept_pure (f := fun x => match x with | .int n => .int (f n) | v => v) k
    rw [List.map_map] at ey
    refine q Dl H' hD ?_ fr
    rw [e, ey, List.map_map] <;> rfl
end
end My
/-! Own classes: made, asked by operators. -/
namespace My
open PySem PySem.Spec PyProof.Rows L2
/-! ### further facts of the head, each a Bool of the written part -/
abbrev Xf := PySem.W.Frag → Bool
structure EnvX (fa : List He.Fa) (fn : List He.DefD) (xs : List Xf) (K : PySem.W.Frag) (mg : Str → Option Value) : Prop where
  e : Env fa fn K mg
  x : (xs.all fun f => f K) = true
theorem EnvX.xf {fa : List He.Fa} {fn : List He.DefD} {xs : List Xf} {K : PySem.W.Frag} {mg : Str → Option Value} (V : EnvX fa fn xs K mg) (i : Nat) {f : Xf} (h : xs[i]? = some f := by rfl) : f K = true :=
  List.all_eq_true.mp V.x f (List.mem_of_getElem? h)
section
variable {fa : List He.Fa} {fn : List He.DefD} {xs : List Xf} {K : PySem.W.Frag} {mg : Str → Option Value}
theorem EnvX.glo (V : EnvX fa fn xs K mg) (i : Nat) {x : Str} (h : fa[i]? = some (.glo x) := by rfl) : mg x = some (.ref (He.ga K x)) := V.e.glo i h
theorem EnvX.fre (V : EnvX fa fn xs K mg) (i : Nat) {x : Str} (h : fa[i]? = some (.free x) := by rfl) : mg x = none := V.e.fre i h
end
section
variable {K : PySem.W.Frag}
/-- instances of the class are asked by isinstance -/
def xIsi (C : Str) : Xf := fun K => He.eqO (PySem.W.findIn K (.ref (He.ga K C)) "__class__") (some (some (.builtin "object.__class__"))) && (He.eqO (PySem.W.specialIn K (.builtin "object.__class__") "__get__") (some (some (.builtin "getset_descriptor.__get__"))) &&
  (decide (PySem.W.takesIn K (.builtin "object.__class__") = some true) && decide (PySem.W.mroIn K (He.ga K C) (.type "object") = some true)))
theorem isi_of {C : Str} (h : xIsi C K = true) : SlX.SIsi K (He.ga K C) := by
  obtain ⟨a, h⟩ := He.ba h
  obtain ⟨b, h⟩ := He.ba h
  obtain ⟨c, d⟩ := He.ba h
  exact ⟨He.eqO_ok a, He.eqO_ok b, of_decide_eq_true c, of_decide_eq_true d⟩
theorem ty_ins {H : Hp} {a dx : Addr} {C : Str} {fs : List (Str × V)} (e : H a = some (.ins (He.ga K C) dx fs)) (cl : Cls K (He.ga K C)) (s : SlX.SIsi K (He.ga K C)) : TyX K H (.ref a) (.ref (He.ga K C)) := .base (.ins e cl s.ca s.cn s.ct s.cm)
/-- the class's instances stand ahead of values of that type in a comparison -/
def xNf (C : Str) (T : String) : Xf := fun K => PySem.W.notFirst K (He.ga K C) (.type T)
def xNfC (C D : Str) : Xf := fun K => PySem.W.notFirst K (He.ga K C) (.ref (He.ga K D))
def xKit (T : String) (C : Str) (b : Bool) : Xf := fun K => decide (PySem.W.kitOne K (.type T) (.ref (He.ga K C)) = some b)
def xKitC (D C : Str) (b : Bool) : Xf := fun K => decide (PySem.W.kitOne K (.ref (He.ga K D)) (.ref (He.ga K C)) = some b)
def xNe (C : Str) : Xf := fun K => He.eqO (PySem.W.findIn K (.ref (He.ga K C)) "__ne__") (some (some (.builtin "object.__ne__")))
def xSelf (C : Str) : Xf := fun K => PySem.W.selfFirst K (He.ga K C)
/-- an own error with its own __init__ -/
def xOex (C : Str) : Xf := fun K => (match K.lookup (He.ga K C) with
  | some ⟨.type "type", _, .cls cd, sl⟩ => (match cd.mro, sl.toList with
    | .ref C' :: bm, [_, _, _, _, some (.builtin n), _] => decide (C' = He.ga K C) && (decide (n = "ValueError.__new__") && (!cd.hasDel && (cd.hasDict && PySem.HandSPX.refsVE bm)))
    | _, _ => false)
  | _ => false) && (He.eqO (PySem.W.findIn K (.ref (He.ga K C)) "__setattr__") (some (some (.builtin "object.__setattr__"))) && (decide (PySem.W.subIn K (.ref (He.ga K C)) (.type "BaseException") = some true) &&
    (decide (PySem.W.typeIn K (.ref (He.ga K C)) = some (.type "type")) && PySem.W.keepIn K (.ref (He.ga K C)))))
theorem oex_of {C : Str} (h : xOex C K = true) : OexC K (He.ga K C) := by
  obtain ⟨h1, h⟩ := He.ba h
  obtain ⟨h2, h⟩ := He.ba h
  obtain ⟨h3, h⟩ := He.ba h
  obtain ⟨h4, h5⟩ := He.ba h
  refine ⟨?_, He.eqO_ok h2, of_decide_eq_true h3, of_decide_eq_true h4, h5⟩
  split at h1
  · rename_i dd cd sl ho
    split at h1
    · rename_i C' bm k0 k1 k2 k3 n k5 hm hs
      obtain ⟨g1, h1⟩ := He.ba h1
      obtain ⟨g2, h1⟩ := He.ba h1
      obtain ⟨g3, h1⟩ := He.ba h1
      obtain ⟨g4, g5⟩ := He.ba h1
      have g3' : cd.hasDel = false := by simpa using g3
      have e1 := of_decide_eq_true g1
      have e2 := of_decide_eq_true g2
      subst e1 e2
      obtain ⟨nm, bs, mro, ns, qn, hd, sn, sub, ab, col, del⟩ := cd
      dsimp only at hm g3' g4
      subst hm g3' g4
      obtain ⟨l⟩ := sl
      simp only at hs
      subst hs
      exact ⟨_, _, _, _, _, _, _, _, _, _, _, _, _, _, _, ho, g5⟩
    · cases h1
  · cases h1
end
/-! ### a method of a class -/
structure MethOf (P : Program) (w : World) (K : PySem.W.Frag) (mg : Str → Option Value) (base : Heap) (CX : CXT) (k : Nat) (C m : Str) (ps : List Str) (sp : Sp) : Prop where
  ex : ∃ (f : Addr) (fd : FuncData), FnOk P w K mg base CX k f fd ps sp ∧ Meth K (He.ga K C) m f ∧ Binds K fd ps []
  cl : Cls K (He.ga K C)
/-- a class whose instances are made by its own __init__ -/
structure MakeOf (P : Program) (w : World) (K : PySem.W.Frag) (mg : Str → Option Value) (base : Heap) (CX : CXT) (k : Nat) (d : He.DefD) (C : Str) (ps : List Str) (sp : Sp) : Prop where
  ex : ∃ (f : Addr) (fd : FuncData), FnOk P w K mg base CX k f fd ps sp ∧ Mk K (He.ga K C) f ∧ Binds K fd ps [] ∧ FunD K d.name d.qual d.params d.body d.scope [] [] f fd
  gl : mg C = some (.ref (He.ga K C))
section
variable {X : Cx} {CX : CXT} {k : Nat} {f : Addr} {fd : FuncData} {ps ks : List Str} {sp : Sp} {E : XK} {pins : List (Addr × Obj)} {σ : L2.St} {H : Hp} {s : Shared} {Q : VK} {us : List Value} {vs : List V} {A : Around} {C m x : Str} {d : He.DefD}
/-- the callee runs, around it A -/
theorem run_in (F : FnOk X.prog X.w X.K X.mg X.base CX k f fd ps sp) (hr : Room k A) (e0 : Env0 X.prog X.w X.K X.mg X.base A X.stack s H) (hb : Binds X.K fd ps []) (hx : Passes CX X E) (I : Inv X pins σ H s) (r : Vals vs us) (h : sp vs H Q E) :
    wpAny (model X.prog X.w) A (call (.ref f) us) (EP X pins σ Q) X.xe s := by
  have hl : (us ++ []).length = ps.length := by rw [List.append_nil, ← r.length]; exact F.len _ _ _ _ h
  have hbind := hb s us I.kIn hl
  rw [List.append_nil] at hbind
  refine wpAny_call (codeAny_mono (F.run A X.stack s H ⟨us, []⟩ us vs Q E hr e0 hbind r h) fun z s' hq => ?_)
  cases z with
  | error e => exact hx pins σ H s e s' I hq
  | ok fl =>
    cases fl with
    | ret u => exact I.after hq
    | next => exact False.elim hq
    | brk => exact False.elim hq
    | cont => exact False.elim hq
variable {o e : Expr} {es : List Expr} {ta : TE} {t tk : TA} {p pos apos : Pos} {kws : List Keyword}
theorem pe_me {pl : Sem Bool} (M : MethOf X.prog X.w X.K X.mg X.base CX0 k C m ps sp) (he : PE X o ta) (hr : Room k X.A) (ha : PA X (e :: es) t) (hst : starEach (e :: es) X.env = (false, eval e X.env) :: starEach es X.env := by rfl) (hpl : (backTo pos (starEach es X.env)).any (·.1) = false := by rfl)
    (ht : eval (.Call (.Attribute o m apos) (e :: es) [] pos) X.env = (do
      let ov ← eval o X.env
      standAt apos.atName
      let (f, first) ← holding [ov] (getMethod ov m pl)
      callWith pos f first (backTo pos (starEach (e :: es) X.env)) (backToKw pos (keywordEach [] X.env))) := by rfl) : PE X (.Call (.Attribute o m apos) (e :: es) [] pos) (tMeth (He.ga X.K C) m sp [] E0 ta t) := by
  obtain ⟨f, fd, F, hm, hb⟩ := M.ex
  exact pe_meth he M.cl hm F hr hb .nil pass0 ha hst hpl ht
theorem pe_me0 {pl : Sem Bool} (M : MethOf X.prog X.w X.K X.mg X.base CX0 k C m ps sp) (he : PE X o ta) (hr : Room k X.A)
    (ht : eval (.Call (.Attribute o m apos) [] [] pos) X.env = (do
      let ov ← eval o X.env
      standAt apos.atName
      let (f, first) ← holding [ov] (getMethod ov m pl)
      callWith pos f first (backTo pos (starEach [] X.env)) (backToKw pos (keywordEach [] X.env))) := by rfl) : PE X (.Call (.Attribute o m apos) [] [] pos) (tMeth (He.ga X.K C) m sp [] E0 ta tNil) := by
  obtain ⟨f, fd, F, hm, hb⟩ := M.ex
  exact pe_meth0 he M.cl hm F hr hb .nil pass0 ht
theorem pe_mk (M : MakeOf X.prog X.w X.K X.mg X.base CX0 k d C ps sp) (hr : Room (k + 1) X.A) (hg : Gl X C) (ha : PA X (e :: es) t) (hdb : (C == ("__debug__" : Str)) = false := by decide)
    (he : starEach (e :: es) X.env = (false, eval e X.env) :: starEach es X.env := by rfl) (hpl : (backTo pos (starEach es X.env)).any (·.1) = false := by rfl) : PE X (.Call (.Name C p) (e :: es) [] pos) (tMake (He.ga X.K C) sp [] E0 t) := by
  obtain ⟨f, fd, F, hm, hb, _⟩ := M.ex
  exact pe_make hm F hr hg M.gl hb .nil pass0 ha hdb he hpl
/-! operators -/
def rInC (C : Addr) (sp : Sp) : R2 := fun x y H Q => ∃ a dx fs, y = .ref a ∧ H a = some (.ins C dx fs) ∧ sp [y, x] H (fun z H' => ∃ b, z = .bl b ∧ Q (.bl b) H') E0
def rAddC (C : Addr) (sp : Sp) : R2 := fun x y H Q => ∃ a dx fs b dy gs, x = .ref a ∧ y = .ref b ∧ H a = some (.ins C dx fs) ∧ H b = some (.ins C dy gs) ∧ sp [x, y] H Q E0
def rNegC (C : Addr) (sp : Sp) : V → Hp → VK → Prop := fun x H Q => ∃ a dx fs, x = .ref a ∧ H a = some (.ins C dx fs) ∧ sp [x] H Q E0
/-- x op y, x an instance of C whose def for it is a method that keeps sp; y of any kind -/
def rOwnC (K : PySem.W.Frag) (C : Addr) (sp : Sp) (E : XK) : R2 := fun x y H Q => ∃ a dx fs t, x = .ref a ∧ H a = some (.ins C dx fs) ∧ TyX K H y t ∧ PySem.W.notFirst K C t = true ∧ sp [x, y] H Q E
theorem op_eqC (M : MethOf X.prog X.w X.K X.mg X.base CX0 k C "__eq__" ps sp) (hr : Room k X.A) : OpR X (compareOp .Eq) (rOwnC X.K (He.ga X.K C) sp E0) := by
  obtain ⟨f, fd, F, hm, hb⟩ := M.ex
  intro pins s σ H x y v u Q I rx ry h
  obtain ⟨a, dx, fs, t, rfl, ha, ty, hn, q⟩ := h
  cases (show v = Value.ref a from rx)
  obtain ⟨mA, J, _⟩ := ins_get I.hok ha
  obtain ⟨od, J, _⟩ := J.look
  obtain ⟨mF, hF⟩ := I.fr
  obtain ⟨Pt, Z, hp, _⟩ := kit_of I ry ty
  show wpAny _ _ (richCompare .Eq _ _) _ _ _
  refine PySem.W.cmp_K (op := .Eq) (tb := t) hr.units0 hF I.ok.mod.kin J (Z.ty _ _ I.kIn hp) hn hm.at_ hm.fn ?_
  refine wpAny_mono (run_in (us := [.ref a, u]) (vs := [.ref a, y]) F hr I.env0 hb pass0 I (.cons rfl (.cons ry .nil)) q) (fun w s' z => ?_) fun _ _ x => x
  obtain ⟨z', H', I', rz, qz⟩ := z
  exact SlX.cmpback rz ⟨z', H', I', rz, qz⟩
/-- the same where y stands ahead: y has no answer to it -/
theorem op_inC (M : MethOf X.prog X.w X.K X.mg X.base CX0 k C "__contains__" ps sp) (hr : Room k X.A) : OpR X (compareOp .In) (rInC (He.ga X.K C) sp) := by
  obtain ⟨f, fd, F, hm, hb⟩ := M.ex
  intro pins s σ H x y v u Q I rx ry h
  obtain ⟨a, dx, fs, rfl, ha, q⟩ := h
  cases (show u = Value.ref a from ry)
  obtain ⟨mA, J, _⟩ := ins_get I.hok ha
  obtain ⟨od, J, _⟩ := J.look
  obtain ⟨mF, hF⟩ := I.fr
  refine PySem.W.in_K hF I.ok.mod.kin J hm.at_ hm.fn ?_
  refine wpAny_mono (run_in (us := [.ref a, v]) (vs := [.ref a, x]) F hr I.env0 hb pass0 I (.cons rfl (.cons rx .nil)) q) (fun w s' z => ?_) fun _ _ x => x
  obtain ⟨z', H', I', rz, b, rfl, qz⟩ := z
  cases (show w = Value.bool b from rz)
  exact wpAny_truthy_bool ⟨.bl b, H', I', rfl, qz⟩
theorem op_addC (M : MethOf X.prog X.w X.K X.mg X.base CX0 k C "__add__" ps sp) (hc : PySem.W.selfFirst X.K (He.ga X.K C) = true) (hr : Room k X.A) : OpR X (binaryOp .Add) (rAddC (He.ga X.K C) sp) := by
  obtain ⟨f, fd, F, hm, hb⟩ := M.ex
  intro pins s σ H x y v u Q I rx ry h
  obtain ⟨a, dx, fs, b, dy, gs, rfl, rfl, ha, hb', q⟩ := h
  cases (show v = Value.ref a from rx)
  cases (show u = Value.ref b from ry)
  obtain ⟨mA, J, _⟩ := ins_get I.hok ha
  obtain ⟨od, J, _⟩ := J.look
  obtain ⟨mB, J', _⟩ := ins_get I.hok hb'
  obtain ⟨od', J', _⟩ := J'.look
  obtain ⟨mF, hF⟩ := I.fr
  refine PySem.W.binop_K (op := .Add) hF I.ok.mod.kin J J'.type hc hm.at_ hm.fn ?_
  refine wpAny_mono (run_in (us := [.ref a, .ref b]) (vs := [.ref a, .ref b]) F hr I.env0 hb pass0 I (.cons rfl (.cons rfl .nil)) q) (fun w s' z => ?_) fun _ _ x => x
  obtain ⟨z', H', I', rz, qz⟩ := z
  exact SlX.cmpback rz ⟨z', H', I', rz, qz⟩
theorem un_negC (M : MethOf X.prog X.w X.K X.mg X.base CX0 k C "__neg__" ps sp) (hr : Room k X.A) : UnR X (unaryOp .USub) (rNegC (He.ga X.K C) sp) := by
  obtain ⟨f, fd, F, hm, hb⟩ := M.ex
  intro pins s σ H x v Q I rx h
  obtain ⟨a, dx, fs, rfl, ha, q⟩ := h
  cases (show v = Value.ref a from rx)
  obtain ⟨mA, J, _⟩ := ins_get I.hok ha
  obtain ⟨od, J, _⟩ := J.look
  obtain ⟨mF, hF⟩ := I.fr
  exact PySem.W.ksp_neg hF I.ok.mod.kin J hm.at_ hm.fn (run_in (us := [.ref a]) (vs := [.ref a]) F hr I.env0 hb pass0 I (.cons rfl .nil) q)
/-! their readings, the operands known -/
theorem own_eq {K : PySem.W.Frag} {C : Addr} {sp : Sp} {E : XK} {H : Hp} {Q : VK} {a dx : Addr} {fs : List (Str × V)} {y : V} {t : Value} (h : H a = some (.ins C dx fs)) (ty : TyX K H y t) (hn : PySem.W.notFirst K C t = true) (q : sp [.ref a, y] H Q E) : rOwnC K C sp E (.ref a) y H Q := ⟨a, dx, fs, t, rfl, h, ty, hn, q⟩
theorem own_in {C : Addr} {sp : Sp} {H : Hp} {Q : VK} {a dx : Addr} {fs : List (Str × V)} {x : V} (h : H a = some (.ins C dx fs)) (q : sp [.ref a, x] H (fun z H' => ∃ b, z = .bl b ∧ Q (.bl b) H') E0) : rInC C sp x (.ref a) H Q := ⟨a, dx, fs, rfl, h, q⟩
theorem own_add {C : Addr} {sp : Sp} {H : Hp} {Q : VK} {a dx b dy : Addr} {fs gs : List (Str × V)} (h : H a = some (.ins C dx fs)) (h' : H b = some (.ins C dy gs)) (q : sp [.ref a, .ref b] H Q E0) : rAddC C sp (.ref a) (.ref b) H Q := ⟨a, dx, fs, b, dy, gs, rfl, rfl, h, h', q⟩
theorem own_neg {C : Addr} {sp : Sp} {H : Hp} {Q : VK} {a dx : Addr} {fs : List (Str × V)} (h : H a = some (.ins C dx fs)) (q : sp [.ref a] H Q E0) : rNegC C sp (.ref a) H Q := ⟨a, dx, fs, rfl, h, q⟩
end
end My
/-! != of an own instance whose class has an own ==; str of one. -/
namespace My
open PySem PySem.Spec PyProof.Rows L2 PySem.W
section
variable {prog : Program} {w : World} {A : Around} {E : Value → Shared → Prop} {s : Shared} {K : PySem.W.Frag} {x C L f : Addr} {h₀ : Heap} {m : Str → Option Value} {ox : Obj} {od : Option Obj} {b tb : Value}
theorem ne_body {Q : Fin → Shared → Prop} (hu : A.units < cLine) (X : K.In s.heap) (I : InstAt s.heap x ox C od) (hs : findIn K (.ref C) "__eq__" = some (some (.ref f))) (hf : isFn K (.ref f) = true)
    (h : wpAny (model prog w) A (call (.ref f) [.ref x, b]) (fun v s' => ∃ k, v = .bool k ∧ Q (.done (.ret (.bool (!k)))) s') E s) : wpAny (model prog w) A (Builtin.«object.__ne__» ⟨[.ref x, b], []⟩) Q E s := by
  unfold Builtin.«object.__ne__»
  repeat (first | with_reducible refine wpAny_cRoomFor hu ?_ | with_reducible refine ifBound_K X I hs hf (wpAny_mono h (fun v s' z => ?_) fun _ _ e => e) | wp_step)
  obtain ⟨k, rfl, q⟩ := z
  refine wpAny_bind (wpAny_truthy_bool ?_)
  exact wpAny_pure q
theorem looks_obj {h : Heap} {M : Model} (X : K.In h) (I : InstAt h x ox C od) (hm : mroIn K C (.type "object") = some true) : Looks M h (isInstance (.ref x) (.type "object")) true := I.type.andThen (looks_mroIn X hm)
theorem ne_call {Q : Value → Shared → Prop} (hu : A.in1.units < cLine) (X : K.In s.heap) (I : InstAt s.heap x ox C od) (hm : mroIn K C (.type "object") = some true) (hs : findIn K (.ref C) "__eq__" = some (some (.ref f))) (hf : isFn K (.ref f) = true)
    (h : wpAny (model prog w) A.in1 (call (.ref f) [.ref x, b]) (fun v s' => ∃ k, v = .bool k ∧ Q (.bool (!k)) s') E s) : wpAny (model prog w) A (call (.builtin "object.__ne__") [.ref x, b]) Q E s := by
  refine wpAny_call (codeAny_call_builtin PySem.F.cmp_object.ne.plain PySem.F.cmpEntry_ne (check_slot PySem.F.cmpKind_ne PySem.F.cmpSplit_ne (looks_obj X I hm) (PySem.F.cmpArgs_ne _ _) ?_))
  exact ne_body hu X I hs hf (wpAny_mono h (fun v s' z => z) fun _ _ e => e)
/-- the class's != is object's -/
theorem ne_bound {args : List Value} {Q : Option Value → Shared → Prop} (X : K.In s.heap) (I : InstAt s.heap x ox C od) (hs : findIn K (.ref C) "__ne__" = some (some (.builtin "object.__ne__")))
    (h : wpAny (model prog w) A (call (.builtin "object.__ne__") (.ref x :: args)) (fun v => Q (some v)) E s) : wpAny (model prog w) A (callSpecialIfBound? (.ref x) "__ne__" args) Q E s := by
  simp only [callSpecialIfBound?, bindSpecialIfBound?]
  refine wpAny_holding (wpAny_bind (wpAny_bind (wpAny_bind (I.type.here ((looks_findIn X hs).here ?_)))))
  refine wpAny_bind (wpAny_askSetting (wpAny_ite ?_))
  have fin : wpAny (model prog w) A (call (.builtin "object.__ne__") ([.ref x] ++ args) >>= fun v => pure (some v)) Q E s := wpAny_bind (wpAny_mono h (fun v s' h' => wpAny_pure h') fun _ _ h' => h')
  simp only [PySem.F.cmp_object.ne.bind]
  split
  · exact wpAny_bind (wpAny_pure (wpAny_pure fin))
  · exact wpAny_tryCatch (wpAny_bind (wpAny_pure (wpAny_pure fin)))
theorem ne_K {Q : Value → Shared → Prop} (hu : A.units < cLine) (hu1 : A.in1.units < cLine) (X : K.In s.heap) (I : InstAt s.heap x ox C od) (hb : Looks (model prog w) s.heap (typeOf b) tb) (hn : notFirst K C tb = true) (hm : mroIn K C (.type "object") = some true)
    (hne : findIn K (.ref C) "__ne__" = some (some (.builtin "object.__ne__"))) (hs : findIn K (.ref C) "__eq__" = some (some (.ref f))) (hf : isFn K (.ref f) = true)
    (h : wpAny (model prog w) A.in1 (call (.ref f) [.ref x, b]) (fun v s' => ∃ k, v = .bool k ∧ Q (.bool (!k)) s') E s) : wpAny (model prog w) A (richCompare .NotEq (.ref x) b) Q E s := by
  have one : wpAny (model prog w) A (tryCompare (.ref x) (cmpInfo .NotEq).2.1 b) (fun r s' => ∃ v, r = some v ∧ Q v s') E s := by
    unfold tryCompare
    refine wpAny_bind (ne_bound X I hne (ne_call hu1 X I hm hs hf (wpAny_mono h (fun v s' hv => ?_) fun _ _ e => e)))
    obtain ⟨k, rfl, q⟩ := hv
    exact ⟨k, rfl, wpAny_pure ⟨_, rfl, q⟩⟩
  unfold richCompare
  simp only [oneThing_ref]
  refine wpAny_holding (wpAny_bind (wpAny_cRoomFor hu ?_))
  refine wpAny_bind (I.type.here (wpAny_bind (hb.here ?_)))
  split
  · rename_i q
    have e : subIn K tb (.ref C) = some false := by
      rcases Bool.or_eq_true_iff.mp hn with e | e
      · rw [beq_iff_eq.mp e] at q
        exact absurd q (by simp)
      · exact beq_iff_eq.mp e
    refine wpAny_bind ((looks_subIn X e).here ?_)
    simp only [Bool.false_eq_true, if_false]
    refine wpAny_bind (wpAny_mono one (fun r s' ⟨v, er, hq⟩ => ?_) fun _ _ e => e)
    subst er
    exact wpAny_pure hq
  · refine wpAny_bind (wpAny_pure ?_)
    simp only [Bool.false_eq_true, if_false]
    refine wpAny_bind (wpAny_mono one (fun r s' ⟨v, er, hq⟩ => ?_) fun _ _ e => e)
    subst er
    exact wpAny_pure hq
end
section
variable {X : Cx} {k : Nat} {ps : List Str} {sp : Sp} {C : Str}
def rNeC (K : PySem.W.Frag) (C : Addr) (sp : Sp) : R2 := fun x y H Q => ∃ a dx fs t, x = .ref a ∧ H a = some (.ins C dx fs) ∧ TyX K H y t ∧ notFirst K C t = true ∧ sp [x, y] H (fun z H' => ∃ b, z = .bl b ∧ Q (.bl (!b)) H') E0
theorem own_ne {K : PySem.W.Frag} {C : Addr} {sp : Sp} {H : Hp} {Q : VK} {a dx : Addr} {fs : List (Str × V)} {y : V} {t : Value} (h : H a = some (.ins C dx fs)) (ty : TyX K H y t) (hn : notFirst K C t = true) (q : sp [.ref a, y] H (fun z H' => ∃ b, z = .bl b ∧ Q (.bl (!b)) H') E0) : rNeC K C sp (.ref a) y H Q := ⟨a, dx, fs, t, rfl, h, ty, hn, q⟩
def rStrC (C : Addr) (sp : Sp) : List V → Hp → VK → Prop := fun xs H Q => ∃ a dx fs, xs = [.ref a] ∧ H a = some (.ins C dx fs) ∧ sp [.ref a] H (fun z H' => ∃ y, z = .str y ∧ Q (.str y) H') E0
theorem own_str {C : Addr} {sp : Sp} {H : Hp} {Q : VK} {a dx : Addr} {fs : List (Str × V)} (h : H a = some (.ins C dx fs)) (q : sp [.ref a] H (fun z H' => ∃ y, z = .str y ∧ Q (.str y) H') E0) : rStrC C sp [.ref a] H Q := ⟨a, dx, fs, rfl, h, q⟩
/-- x != y -/
theorem op_neC (M : MethOf X.prog X.w X.K X.mg X.base CX0 k C "__eq__" ps sp) (hm : mroIn X.K (He.ga X.K C) (.type "object") = some true) (hne : findIn X.K (.ref (He.ga X.K C)) "__ne__" = some (some (.builtin "object.__ne__"))) (hr : Room (k + 1) X.A) :
    OpR X (compareOp .NotEq) (rNeC X.K (He.ga X.K C) sp) := by
  obtain ⟨f, fd, F, hme, hb⟩ := M.ex
  intro pins s σ H x y v u Q I rx ry h
  obtain ⟨a, dx, fs, t, rfl, ha, ty, hn, q⟩ := h
  cases (show v = Value.ref a from rx)
  obtain ⟨mA, J, _⟩ := ins_get I.hok ha
  obtain ⟨od, J, _⟩ := J.look
  obtain ⟨Pt, Z, hp, _⟩ := kit_of I ry ty
  show wpAny _ _ (richCompare .NotEq _ _) _ _ _
  refine ne_K (tb := t) hr.units0 hr.in1.units0 I.kIn J (Z.ty _ _ I.kIn hp) hn hm hne hme.at_ hme.fn ?_
  refine wpAny_mono (run_in (us := [.ref a, u]) (vs := [.ref a, y]) F hr.in1 I.env0.in1 hb pass0 I (.cons rfl (.cons ry .nil)) q) (fun w s' z => ?_) fun _ _ x => x
  obtain ⟨z', H', I', rz, b, ez, qz⟩ := z
  subst ez
  cases (show w = Value.bool b from rz)
  exact ⟨b, rfl, .bl (!b), H', I', rfl, qz⟩
/-- str(x) -/
theorem call_strC (M : MethOf X.prog X.w X.K X.mg X.base CX0 k C "__str__" ps sp) (hr : Room (k + 2) X.A) : CallR X (.type "str") (rStrC (He.ga X.K C) sp) := by
  obtain ⟨f, fd, F, hme, hb⟩ := M.ex
  intro pins s σ H xs us Q I r h
  obtain ⟨a, dx, fs, rfl, ha, q⟩ := h
  obtain ⟨u, rfl, ru⟩ := r.one
  cases (show u = Value.ref a from ru)
  obtain ⟨mA, J, _⟩ := ins_get I.hok ha
  obtain ⟨od, J, _⟩ := J.look
  have r1 : Room (k + 1) X.A.in1 := Room.in1 hr
  refine kso_call r1.in1.units0 I.kIn J hme.at_ hme.fn ?_
  refine wpAny_mono (run_in (us := [.ref a]) (vs := [.ref a]) F r1.in1 I.env0.in1.in1 hb pass0 I (.cons rfl .nil) q) (fun w s' z => ?_) fun _ _ x => x
  obtain ⟨z', H', I', rz, y, ez, qz⟩ := z
  subst ez
  obtain ⟨t, e⟩ := (show ∃ t, w = Value.str y t from rz)
  cases e
  exact ⟨.str y, H', I', ⟨t, rfl⟩, qz⟩
end
end My
/-! Assignments of several names; lists of integers that grow or are drawn. -/
namespace My
open PySem PySem.Spec PyProof.Rows L2
section
variable {K : PySem.W.Frag} {σ : L2.St} {H : Hp} {Q : VK} {D : Ends} {i j l : Nat} {u v z : V} {ta : TA}
def KPar2 (i j : Nat) (D : Ends) (σ : L2.St) : List V → Hp → Prop := fun vs H1 => ∃ v w, vs = [v, w] ∧ D.nx ((σ.set i (some v)).set j (some w)) H1
def KPar3 (i j l : Nat) (D : Ends) (σ : L2.St) : List V → Hp → Prop := fun vs H1 => ∃ u v w, vs = [u, v, w] ∧ D.nx (((σ.set i (some u)).set j (some v)).set l (some w)) H1
theorem mw_par2 : tPar i j ta D σ H = ta σ H (KPar2 i j D σ) := rfl
theorem mw_par3 : tPar3 i j l ta D σ H = ta σ H (KPar3 i j l D σ) := rfl
theorem mw_par2K : KPar2 i j D σ [u, v] H = D.nx ((σ.set i (some u)).set j (some v)) H := by
  refine propext ⟨fun h => ?_, fun h => ⟨u, v, rfl, h⟩⟩
  obtain ⟨_, _, e, h⟩ := h
  cases e; exact h
theorem mw_par3K : KPar3 i j l D σ [u, v, z] H = D.nx (((σ.set i (some u)).set j (some v)).set l (some z)) H := by
  refine propext ⟨fun h => ?_, fun h => ⟨u, v, z, rfl, h⟩⟩
  obtain ⟨_, _, _, e, h⟩ := h
  cases e; exact h
end
/-! the last item -/
theorem getD_snoc {ns : List Int} {y : Int} {i : Nat} : (ns ++ [y]).getD i 0 = if i < ns.length then ns.getD i 0 else if i = ns.length then y else 0 := by
  rw [List.getD_eq_getElem?_getD, List.getD_eq_getElem?_getD]
  split
  · rename_i h
    rw [List.getElem?_append_left h]
  · rename_i h
    split
    · rename_i e
      subst e
      rw [List.getElem?_append_right (Nat.le_refl _)]
      simp
    · rw [List.getElem?_eq_none (by simp; omega)]
      rfl
theorem getD_snoc_lt {ns : List Int} {y : Int} {i : Nat} (h : i < ns.length) : (ns ++ [y]).getD i 0 = ns.getD i 0 := by
  rw [getD_snoc, if_pos h]
theorem getD_snoc_last {ns : List Int} {y : Int} : (ns ++ [y]).getD ns.length 0 = y := by
  rw [getD_snoc, if_neg (Nat.lt_irrefl _), if_pos rfl]
theorem map_snoc {ns : List Int} {y : Int} : ns.map V.int ++ [.int y] = (ns ++ [y]).map V.int := by simp
theorem at_last {ns : List Int} (h : 0 < ns.length) : atI (ns.map V.int) (-1) = some (.int (ns.getD (ns.length - 1) 0)) := by
  have hne : ns ≠ [] := by intro e; rw [e] at h; cases h
  obtain ⟨ms, y, rfl⟩ : ∃ ms y, ns = ms ++ [y] := ⟨ns.dropLast, ns.getLast hne, (List.dropLast_concat_getLast hne).symm⟩
  rw [← map_snoc, atI_last]
  have e : (ms ++ [y]).length - 1 = ms.length := by simp
  rw [e, getD_snoc_last]
theorem at_intsN {ns : List Int} {i : Int} {n : Nat} (e : i = (n : Int)) (h : n < ns.length) : atI (ns.map V.int) i = some (.int (ns.getD n 0)) := by
  subst e
  have := at_ints (ns := ns) (i := (n : Int)) (by omega) (by omega)
  rwa [Int.toNat_natCast] at this
/-- all kept, integers each with p -/
theorem kept_ints {R : V → Option V → Hp → Prop} {p : Int → Prop} {H' : Hp} (h : ∀ x o, R x o H' → ∃ v, o = some (.int v) ∧ p v) : ∀ {xs ys : List V}, Kept R H' xs ys → ∃ ns : List Int, ys = ns.map V.int ∧ ns.length = xs.length ∧ ∀ n ∈ ns, p n
  | _, _, .nil => ⟨[], rfl, rfl, by simp⟩
  | _, _, .yes r k => by
    obtain ⟨ns, e1, e2, e3⟩ := kept_ints h k
    obtain ⟨v, e, pv⟩ := h _ _ r
    cases e
    refine ⟨v :: ns, by rw [e1]; rfl, by simp [e2], fun n hn => ?_⟩
    rcases List.mem_cons.mp hn with rfl | hn
    · exact pv
    · exact e3 n hn
  | _, _, .no r k => by
    obtain ⟨v, e, _⟩ := h _ _ r
    cases e
/-- new places are not those of the draws -/
theorem Dr.free {H : Hp} {a ac ar p : Addr} (d : Dr H a ac ar) (h : H p = none) : p ∉ [a, ar] := by
  obtain ⟨⟨_, _, _, e1, e2, e3, _⟩, _⟩ := d
  simp [(ne_of_none e1 h).symm, (ne_of_none e3 h).symm]
theorem Dr.new {H : Hp} {a ac ar p : Addr} {o : HO} (d : Dr H a ac ar) (h : H p = none) : Dr (upd H p o) a ac ar := d.fr (Fr.new (S := []) h) (by simp) (by simp) (by simp)
theorem Dr.f0 {H H' : Hp} {a ac ar : Addr} (d : Dr H a ac ar) (f : Fr [] H H') : Dr H' a ac ar := d.fr f (by simp) (by simp) (by simp)
theorem Dr.put {H : Hp} {a ac ar p : Addr} {o : HO} (d : Dr H a ac ar) (h1 : p ≠ a) (h2 : p ≠ ac) (h3 : p ≠ ar) : Dr (upd H p o) a ac ar := by
  obtain ⟨⟨cs, rs, t, e1, e2, e3, q⟩, n1, n2, n3⟩ := d
  exact ⟨⟨cs, rs, t, (upd_ne h1.symm).trans e1, (upd_ne h2.symm).trans e2, (upd_ne h3.symm).trans e3, q⟩, n1, n2, n3⟩
theorem Dr.put_free {H H' : Hp} {a ac ar p : Addr} {o : HO} (d0 : Dr H a ac ar) (h : H p = none) (d : Dr H' a ac ar) : Dr (upd H' p o) a ac ar := by
  obtain ⟨⟨_, _, _, e1, e2, e3, _⟩, _⟩ := d0
  exact d.put (ne_of_none e1 h).symm (ne_of_none e2 h).symm (ne_of_none e3 h).symm
theorem Dr.dom {H : Hp} {a ac ar : Addr} (d : Dr H a ac ar) : ∀ b ∈ [a, ar], ∃ o, H b = some o := by
  obtain ⟨⟨_, _, _, e1, e2, e3, _⟩, _⟩ := d
  intro b hb
  rcases List.mem_cons.mp hb with rfl | hb
  · exact ⟨_, e1⟩
  · rw [List.mem_singleton.mp hb]; exact ⟨_, e3⟩
end My
/-! Optional integers, truths, plain data compared, fields in comprehensions. -/
namespace My
open PySem PySem.Spec PyProof.Rows L2
def oV : Option Int → V
  | none => .non
  | some i => .int i
def oD : Option Int → PyData
  | none => .none
  | some i => .int i
section
variable {K : PySem.W.Frag} {σ : L2.St} {H : Hp} {Q : VK} {D : Ends} {a b : Option Int} {i : Int} {x y : V}
theorem oV_none : oV none = .non := rfl
theorem oV_some : oV (some i) = .int i := rfl
theorem oV_inj (h : oV a = oV b) : a = b := by
  cases a <;> cases b <;> simp [oV] at h ⊢
  exact h
theorem oV_non : oV a = .non ↔ a = none := by cases a <;> simp [oV]
theorem scal_oo : scal (oV a) (oV b) = true := by cases a <;> cases b <;> rfl
theorem mw_eqOO : rEq (oV a) (oV b) H Q = Q (.bl (decide (a = b))) H := by
  rw [mw_eq scal_oo]
  congr 2
  by_cases e : a = b
  · simp [e]
  · have : ¬ oV a = oV b := fun z => e (oV_inj z)
    simp [e, this]
theorem mw_isT {b c : Bool} : L2.rIsB (.bl b) (.bl c) H Q = Q (.bl (decide (b = c))) H := by
  refine propext ⟨fun h => ?_, fun h => ⟨b, c, rfl, rfl, h⟩⟩
  obtain ⟨_, _, e1, e2, h⟩ := h
  cases e1; cases e2; exact h
theorem mw_notT {b c : Bool} : L2.rNotB (.bl b) (.bl c) H Q = Q (.bl (!decide (b = c))) H := by
  refine propext ⟨fun h => ?_, fun h => ⟨b, c, rfl, rfl, h⟩⟩
  obtain ⟨_, _, e1, e2, h⟩ := h
  cases e1; cases e2; exact h
theorem eqD_l {d e : PyData} (hx : Dp K H x d) (hy : Dp K H y e) (s1 : SeqAt.shaped d = true) (s2 : SeqAt.shaped e = true) (q : Q (.bl (PyData.eqv d e)) H) : rEqD K x y H Q := ⟨d, e, hx, hy, s1, s2, q⟩
theorem neD_l {d e : PyData} (hx : Dp K H x d) (hy : Dp K H y e) (s1 : SeqAt.shaped d = true) (s2 : SeqAt.shaped e = true) (q : Q (.bl (!PyData.eqv d e)) H) : rNeD K x y H Q := ⟨d, e, hx, hy, s1, s2, q⟩
theorem dp_o : Dp K H (oV a) (oD a) := by
  cases a
  · exact .non
  · exact .int _
theorem sh_o : (oD a).canLay0 = true := by cases a <;> rfl
theorem eqv_o : PyData.eqv (oD a) (oD a) = true := by
  cases a
  · rfl
  · show (_ == _) = true
    simp
theorem in_l {p : Addr} {xs : List V} (h : SqL K H p xs ∨ SqT K H p xs) (f : flatV x = true) (g : xs.all flatV = true) (q : Q (.bl (inV x xs)) H) : rIn K false x (.ref p) H Q := ⟨p, xs, rfl, h, f, g, q⟩
theorem ty_lst {p : Addr} {xs : List V} (h : H p = some (.lst xs)) : TyX K H (.ref p) (.type "list") := .base (.lst h)
theorem ty_tup {p : Addr} {xs : List V} (h : H p = some (.tup xs)) : TyX K H (.ref p) (.type "tuple") := .base (.tup h)
theorem ty_str {z : Str} : TyX K H (.str z) (.type "str") := .base (.str z)
theorem ty_int : TyX K H (.int i) (.type "int") := .base (.int i)
theorem ty_non : TyX K H .non (.type "NoneType") := .base .non
theorem depth_o : (oD a).depth = 0 := by cases a <;> rfl
/-- pairs of optional integers, one behind another -/
inductive Prs (H : Hp) : List V → List (Option Int × Option Int) → Prop where
  | nil : Prs H [] []
  | cons {p : Addr} {l h : Option Int} {vs : List V} {ps : List (Option Int × Option Int)} : H p = some (.tup [oV l, oV h]) → Prs H vs ps → Prs H (.ref p :: vs) ((l, h) :: ps)
theorem Prs.snoc {p : Addr} {l h : Option Int} (e : H p = some (.tup [oV l, oV h])) : ∀ {vs : List V} {ps : List (Option Int × Option Int)}, Prs H vs ps → Prs H (vs ++ [.ref p]) (ps ++ [(l, h)])
  | _, _, .nil => .cons e .nil
  | _, _, .cons e' k => .cons e' (Prs.snoc e k)
theorem Prs.mono {H' : Hp} (f : ∀ p xs, H p = some (.tup xs) → H' p = some (.tup xs)) : ∀ {vs : List V} {ps : List (Option Int × Option Int)}, Prs H vs ps → Prs H' vs ps
  | _, _, .nil => .nil
  | _, _, .cons e k => .cons (f _ _ e) (Prs.mono f k)
theorem Prs.fr {H' : Hp} (f : Fr [] H H') {vs : List V} {ps : List (Option Int × Option Int)} (k : Prs H vs ps) : Prs H' vs ps := k.mono fun p xs e => f.1 _ _ (by simp) e
theorem Prs.put {f : Addr} {ys zs : List V} (e : H f = some (.lst ys)) {vs : List V} {ps : List (Option Int × Option Int)} (k : Prs H vs ps) : Prs (upd H f (.lst zs)) vs ps := k.mono fun p xs e' => by
  rw [upd_ne (fun z => by rw [z, e] at e'; cases e')]; exact e'
def prD (p : Option Int × Option Int) : PyData := .tuple [oD p.1, oD p.2]
theorem Prs.dp : ∀ {vs : List V} {ps : List (Option Int × Option Int)}, Prs H vs ps → DpAll K H vs (ps.map prD)
  | _, _, .nil => .nil
  | _, _, .cons e k => .cons (.tup (SqT.of e) (.cons dp_o (.cons dp_o .nil))) (Prs.dp k)
end
section
variable {X : Cx} {K : PySem.W.Frag} {e : Expr} {ta : TE} {f : Str} {pos : Pos}
theorem pe_fldK (hK : X.K = K) (he : PE X e ta) (hb : attributeBase e f X.env (eval e X.env) = eval e X.env) : PE X (.Attribute e f pos) (tFld K ta f) := hK ▸ pe_fld he hb
end
end My
/-! Defs that show plain data by repr: their promise holds where nothing is being shown (Around.guards is empty). -/
namespace My
open PySem PySem.Spec PyProof.Rows L2
structure FnG (P : Program) (w : World) (K : PySem.W.Frag) (mg : Str → Option Value) (base : Heap) (CX : CXT) (k : Nat) (f : Addr) (fd : FuncData) (ps : List Str) (sp : Sp) : Prop where
  len : ∀ vs H Q E, sp vs H Q E → vs.length = ps.length
  run : ∀ (A : Around) (outer : List PySem.Env) (s : Shared) (H : Hp) (args : Args) (us : List Value) (vs : List V) (Q : VK) (E : XK), A.guards = some [] → Room k A → Env0 P w K mg base A outer s H → BindsTo s fd args (ps.zip us) → Vals vs us → sp vs H Q E →
    codeAny (model P w) A (.call (.ref f) args) (CR CX outer P w H s Q E) s
section
variable {P : Program} {w : World} {K : PySem.W.Frag} {mg : Str → Option Value} {base : Heap} {k : Nat} {f : Addr} {fd : FuncData} {ps N : List Str} {sp : Sp} {CX : CXT} {x qual : Str} {params : Arguments} {body : List Stmt} {scope : Scope} {dvs : List V} {kws : List (Str × V)}
theorem okG (F : FunD K x qual params body scope dvs kws f fd) (S : FnScope N ps scope) (len : ∀ vs H Q E, sp vs H Q E → vs.length = ps.length)
    (hbody : ∀ (cdv : Value) (A : Around) (outer : List PySem.Env) (s : Shared) (H : Hp) (vs : List V) (Q : VK) (E : XK), A.guards = some [] → Room k (A.deeper (envOfC qual scope s.heap.objs.size f cdv)) → sp vs H Q E →
      ∃ t, PSs (cxOf CX P w K mg base N qual scope f cdv A outer s H E) body t ∧ t { nx := fun _ H' => Q .non H', rt := Q } (start N vs) H) : FnG P w K mg base CX (k + 1) f fd ps sp := by
  obtain ⟨oc, od, dV, kV, doc, pm, an, cdv, ct, osl, rfl, lk, hcd, _, _⟩ := F.ex
  refine ⟨len, fun A outer s H args us vs Q E hg hr e0 hb r hsp => ?_⟩
  have hl := len _ _ _ _ hsp
  have KX : K.In s.heap := e0.mod.kin.keeps fun b o e => (e0.bs b o e).1
  have lim : s.heap.NoLimit := e0.mod.nolimit.keeps fun b o e => (e0.bs b o e).1
  have hkind : ∀ y ∈ ps.zip us, scope.names.lookup y.1 = some .local ∨ (scope.names.lookup y.1 = some .cell ∧ ((cellsFrom (s.heap.objs.size + 1) scope.names []).lookup y.1).isSome = true) := fun ⟨n, v⟩ hy => by
    rcases S.par n (List.of_mem_zip hy).1 with q | q
    · exact .inl q
    · exact .inr ⟨q, PySem.W.cellsFrom_some _ _ _ (.inl q)⟩
  refine codeAny_call_function hr.depth (KX _ _ lk) rfl S.co S.gen rfl (PySem.W.codeRec_of KX hcd) (hb _ _ _ _ ?_)
  refine wpAny_newFunctionEnv_cells S.kind hkind fun env he s1 x => ?_
  subst he
  refine ⟨lim.keeps x.toInCall.keep, codeAny_func ?_⟩
  obtain ⟨t, ht, hq⟩ := hbody cdv A outer s H vs Q E hg (hr.deeper _) hsp
  have I : Inv (cxOf CX P w K mg base N qual scope f cdv A outer s H E) [] (start N vs) H s1 := inv_start S hr.hd e0 hl r x
  refine wpAny_mono (ht.run [] s1 (start N vs) H _ I hq) (fun fl s' hs => ?_) fun e s' hs => hs
  cases fl with
  | ret u => obtain ⟨v, σ', H', J, rv, q⟩ := hs; exact ⟨v, H', J.os, J.bare, J.base, J.hok, rv, q⟩
  | next => obtain ⟨σ', H', J, q⟩ := hs; exact ⟨V.non, H', J.os, J.bare, J.base, J.hok, rfl, q⟩
  | brk => obtain ⟨_, _, _, q⟩ := hs; exact q.elim
  | cont => obtain ⟨_, _, _, q⟩ := hs; exact q.elim
end
structure CalleeG (P : Program) (w : World) (K : PySem.W.Frag) (mg : Str → Option Value) (base : Heap) (CX : CXT) (k : Nat) (d : He.DefD) (ps : List Str) (sp : Sp) : Prop where
  ex : ∃ (f : Addr) (fd : FuncData), FnG P w K mg base CX k f fd ps sp ∧ mg d.name = some (.ref f) ∧ PySem.W.keepIn K (.ref f) = true ∧ Binds K fd ps []
section
variable {X : Cx} {k : Nat} {d : He.DefD} {x : Str} {ps : List Str} {sp : Sp} {e : Expr} {es : List Expr} {t : TA} {p pos : Pos}
theorem pe_fnG (C : CalleeG X.prog X.w X.K X.mg X.base CX0 k d ps sp) (hgd : X.A.guards = some []) (hr : Room k X.A) (hg : Gl X x) (ha : PA X (e :: es) t) (hx : d.name = x := by rfl) (hdb : (x == ("__debug__" : Str)) = false := by decide)
    (he : starEach (e :: es) X.env = (false, eval e X.env) :: starEach es X.env := by rfl) (hpl : (backTo pos (starEach es X.env)).any (·.1) = false := by rfl) : PE X (.Call (.Name x p) (e :: es) [] pos) (tCall sp [] E0 t) := by
  obtain ⟨f, fd, F, hm, hk, hb⟩ := C.ex
  rw [hx] at hm
  refine ⟨fun pins s σ H Q I h => ?_⟩
  refine wpAny_Call_Name_kw (ld_glob I hg hm ?_ hdb)
  refine PySem.W.callWith_K (h₀ := X.base) I.ok.mod.kin hk (thn (ha.run pos pins s σ H _ I h) fun us s1 ⟨vs, H1, I1, r, q⟩ => ⟨I1.kIn, ?_⟩) he hpl
  replace q : sp vs H1 Q E0 := by
    have z : sp (vs ++ []) H1 Q E0 := q
    rw [List.append_nil] at z
    exact z
  have hl : us.length = ps.length := by rw [← r.length]; exact F.len _ _ _ _ q
  have b := hb s1 us I1.kIn (by rw [List.append_nil]; exact hl)
  rw [List.append_nil] at b
  refine wpAny_call (codeAny_mono (F.run X.A X.stack s1 H1 ⟨us, []⟩ us vs Q E0 hgd hr I1.env0 b r q) fun r s' hq => ?_)
  cases r with
  | error e => exact hq.elim
  | ok fl =>
    cases fl with
    | ret u => exact I1.after hq
    | next => exact False.elim hq
    | brk => exact False.elim hq
    | cont => exact False.elim hq
/-- repr of plain data -/
def rRepr (K : PySem.W.Frag) : List V → Hp → VK → Prop := fun xs H Q => ∃ (a : Addr) (d : PyData), xs = [.ref a] ∧ Dp K H (.ref a) d ∧ d.showable = true ∧ d.hasDict = false ∧ d.depth ≤ 60 ∧ d.shown.length ≤ sizeLine ∧ Q (.str d.shown) H
theorem call_reprG (hgd : X.A.guards = some []) (hu : X.A.units + 64 < cLine) : CallR X (.builtin "repr") (rRepr X.K) := by
  intro pins s σ H xs us Q I r h
  obtain ⟨a, d, rfl, hd, hs, hn, hdp, hsz, q⟩ := h
  obtain ⟨u, rfl, ru⟩ := r.one
  cases (show u = Value.ref a from ru)
  obtain ⟨as, rd⟩ := Dp.reads I d (.ref a) (.ref a) hd rfl
  refine repr_of_reads' rd hs (fun z => by rw [hn] at z; cases z) hgd (by omega) (fun _ _ e => e) (fun h' u tk hk => ?_) hsz
  exact ⟨.str d.shown, H, I.kept (t' := tk) hk, ⟨_, rfl⟩, q⟩
theorem repr_l {K : PySem.W.Frag} {H : Hp} {Q : VK} {a : Addr} {d : PyData} (h : Dp K H (.ref a) d) (h1 : d.showable = true) (h2 : d.hasDict = false) (h3 : d.depth ≤ 60) (h4 : d.shown.length ≤ sizeLine) (q : Q (.str d.shown) H) : rRepr K [.ref a] H Q := ⟨a, d, rfl, h, h1, h2, h3, h4, q⟩
end
/-! the end: the law's own def at the place where nothing is shown yet -/
section
variable {P : Program} {w : World} {K : PySem.W.Frag} {mg mb : Str → Option Value} {k : Nat} {fa a : Addr} {fd : FuncData} {x : Str} {sp : Sp} {s₁ : Shared} {vs : List Value} {ns : List Int}
/-- the heap that is tracked at the start: the script, unless the written part holds it -/
theorem startH (KX : K.In s₁.heap) (ha : s₁.heap.get? a = some { cls := .type "list", data := .seq vs.toArray }) (hi : IntsAre vs ns) (hl : ns.length ≤ sizeLine) :
    ∃ H : Hp, Only H ∧ SqL K H a (ns.map V.int) ∧ HOk P w H s₁.heap ∧ ∀ b, H b ≠ none → b = a ∧ K.lookup a = none := by
  have rv := vals_ints hi
  have lenV := hi.length
  cases hk : K.lookup a with
  | some o =>
    have e := KX a o hk
    rw [ha] at e
    cases e
    refine ⟨fun _ => none, fun _ => .inl rfl, .inr ⟨_, vs.toArray, _, hk, rfl, rfl, rfl, by rw [List.size_toArray, lenV]; exact hl, by simpa using rv⟩, fun b u z => ?_, fun b z => absurd rfl z⟩
    cases (show (none : Option HO) = some u from z)
  | none =>
    let fz : HO := .frz { cls := .type "list", data := .seq vs.toArray } (.lst (ns.map V.int))
    have at_ : ∀ {b : Addr} {u : HO}, (upd (fun _ => none) a fz : Hp) b = some u → b = a ∧ u = fz := fun {b u} z => by
      by_cases hb : b = a
      · rw [hb, upd_same] at z
        exact ⟨hb, (Option.some.inj z).symm⟩
      · rw [upd_ne hb] at z
        cases z
    refine ⟨upd (fun _ => none) a fz, fun b => ?_, .inl (.inr ⟨_, upd_same⟩), fun b u z => ?_, fun b z => ?_⟩
    · by_cases hb : b = a
      · exact .inr ⟨_, _, by rw [hb]; exact upd_same⟩
      · exact .inl (upd_ne hb)
    · obtain ⟨rfl, rfl⟩ := at_ z
      exact ⟨ha, by rw [List.length_map]; exact hl, vs, _, rv, ha⟩
    · cases q : (upd (fun _ => none) a fz : Hp) b with
      | none => exact absurd q z
      | some u => exact ⟨(at_ q).1, rfl⟩
theorem law_callG (KX : K.In s₁.heap) (hns : s₁.heap.Ns mainGlobals mg) (hb : s₁.heap.Ns builtinsNs mb) (hbb : ∀ x : Str, x ≠ "__name__" → mb x = bootBuiltins x) (hlim : s₁.heap.NoLimit) (hg : s₁.gens = #[])
    (ha : s₁.heap.get? a = some { cls := .type "list", data := .seq vs.toArray }) (hi : IntsAre vs ns) (hl : ns.length ≤ sizeLine) (hr : Room k callerA)
    (F : ∀ base : Heap, FnG P w K mg base CX0 k fa fd [x] sp) (hbind : ∀ (s : Shared) (u : Value), BindsTo s fd ⟨[u], []⟩ [(x, u)])
    (hsp : ∀ H : Hp, SqL K H a (ns.map V.int) → sp [.ref a] H (fun v _ => v = .bl true) E0) :
    codeAny (model P w) callerA (.call (.ref fa) ⟨[.ref a], []⟩) (fun r s' => r = .ok (.ret (.bool true)) ∧ OldK s₁.heap s'.heap ∧ s'.os = s₁.os ∧ AllBare s'.gens) s₁ := by
  obtain ⟨H, hO, hS, hok, hA⟩ := startH (P := P) (w := w) KX ha hi hl
  have stay : ∀ {b : Addr} {o : Obj}, s₁.heap.get? b = some o → (b = a → K.lookup a = none → False) → (hidT s₁.heap H).get? b = some o := fun {b o} e n => hidT_get e (by
    cases q : H b with
    | none => rfl
    | some u =>
      obtain ⟨e1, e2⟩ := hA b (by rw [q]; simp)
      exact (n e1 e2).elim)
  have nsK : ∀ {b : Addr} {m : Str → Option Value}, s₁.heap.Ns b m → (hidT s₁.heap H).Ns b m := fun {b m} ⟨o, es, ep, e, d, r⟩ => ⟨o, es, ep, stay e (fun z _ => by
    rw [z, ha] at e
    cases e
    cases d), d, r⟩
  have hM : Mod K mg (hidT s₁.heap H) := ⟨fun b o e => stay (KX b o e) (fun z n => by rw [z, n] at e; cases e), nsK hns, ⟨mb, nsK hb, hbb⟩, let ⟨mc, h1, h2⟩ := hlim; ⟨mc, nsK h1, h2⟩⟩
  have e0 : Env0 P w K mg (hidT s₁.heap H) callerA [] s₁ H := ⟨rfl, hM, fun b o e => of_hidT e, Nat.le_of_eq (hidT_size _ _), trivial, fun b hb => absurd (show b ∈ ([] : List Addr) from hb) (by simp), hok, .of_eq hg⟩
  refine codeAny_mono ((F (hidT s₁.heap H)).run callerA [] s₁ H ⟨[.ref a], []⟩ [.ref a] [.ref a] _ _ rfl hr e0 (hbind s₁ (.ref a)) (.cons rfl .nil) (hsp H hS)) fun r s' h => ?_
  cases r with
  | error e => exact False.elim h
  | ok fl =>
    cases fl with
    | next => exact False.elim h
    | brk => exact False.elim h
    | cont => exact False.elim h
    | ret u =>
      obtain ⟨v, H', os, bare, un, hok', r', q⟩ := h
      cases (show v = .bl true from q)
      cases (show u = Value.bool true from r')
      refine ⟨rfl, OldK.of_keep fun b o e => ?_, os, bare⟩
      rcases hO b with z | ⟨ob, xs, z⟩
      · exact un.keep b o e z (fun y => absurd (show b ∈ ([] : List Addr) from y) (by simp)) (by simp)
      · have e1 := (hok b _ z).1
        rw [e] at e1
        rw [e1]
        exact (hok' b _ (un.frzs b ob _ z)).1
end
def LawAtG (l : PySem.W.OpenLaw) (w : World) (K : PySem.W.Frag) (k n : Nat) (x : Str) (mg : Str → Option Value) (fa : Addr) : Prop :=
  ∃ (fd : FuncData) (sp : Sp), (∀ (s : Shared) (u : Value), BindsTo s fd ⟨[u], []⟩ [(x, u)]) ∧ (∀ (H : Hp) (a : Addr) (ns : List Int), ns.length ≤ n → SqL K H a (ns.map V.int) → sp [.ref a] H (fun v _ => v = .bl true) E0) ∧ ∀ base : Heap, FnG l.prog w K mg base CX0 k fa fd [x] sp
theorem walk_ofG {l : PySem.W.OpenLaw} {n k : Nat} {q : Program} {loose : List Str} {XP : (Str → Option Value) → Heap → Prop} {YP : World → Heap → Prop} {d : DefRec} {x : Str} (hn : l.most = some n) (hn2 : n ≤ sizeLine) (hdf : d.params.defaults = []) (hr : Room k callerA)
    (F : ∀ (w : World) (mg : Str → Option Value) (fa : Addr) (h : Heap), YP w h → h.Ns mainGlobals mg → mg d.name = some (.ref fa) → ∃ K : PySem.W.Frag, K.In h ∧ LawAtG l w K k n x mg fa) : PySem.W.WalkO q loose XP YP l.row.toRowW d [] (fun f vs => PySem.call f vs) := by
  refine Att.attach_callB hn hdf fun w s₀ s₁ mg mb fa o pm cd doc a vs ns G Y ho hd hcd hmg hobj hints hlen hbits hg => ?_
  obtain ⟨K, KX, fd, sp, hb, hsp, hF⟩ := F w mg fa _ Y G.T.g hmg
  exact law_callG KX G.T.g G.T.b G.T.builtins G.T.nolimit hg hobj hints (Nat.le_trans hlen hn2) hr hF hb fun H hS => hsp H a ns hlen hS
end My
/-! Own errors with an __init__: made, raised, caught, read. -/
namespace My
open PySem PySem.Spec PyProof.Rows L2
def errF (ns : List Str) (xs : List V) : List (Str × V) := (ns.zip xs).reverse
/-- an error's __init__: the fields, one behind another -/
def spErr (K : PySem.W.Frag) (C : Str) (ns : List Str) : Sp := fun vs H Q _ => ∃ a xs, vs = .ref a :: xs ∧ xs.length = ns.length ∧ H a = some (exo a (He.ga K C) none) ∧ ∀ dx, H dx = none → dx ≠ a → Q .non (upd (upd H dx (exd dx (errF ns xs))) a (exo a (He.ga K C) (some dx)))
structure ErrInit (P : Program) (w : World) (K : PySem.W.Frag) (mg : Str → Option Value) (base : Heap) (CX : CXT) (k : Nat) (d : He.DefD) (C : Str) (ps : List Str) (sp : Sp) : Prop where
  ex : ∃ (f : Addr) (fd : FuncData), FnOk P w K mg base CX k f fd ps sp ∧ PySem.W.findIn K (.ref (He.ga K C)) "__init__" = some (some (.ref f)) ∧ PySem.W.typeIn K (.ref f) = some (.type "function") ∧ Binds K fd ps []
  gl : mg C = some (.ref (He.ga K C))
  ox : OexC K (He.ga K C)
def xIni (C : Str) : Xf := fun K => He.eqO (PySem.W.findIn K (.ref (He.ga K C)) "__init__") (some (some (.ref (He.ma K (He.ga K C) "__init__"))))
def xIniT (C : Str) : Xf := fun K => decide (PySem.W.typeIn K (.ref (He.ma K (He.ga K C) "__init__")) = some (.type "function"))
def xNoA (C f : Str) : Xf := fun K => He.eqO (PySem.W.findIn K (.ref (He.ga K C)) f) (some none)
def xXf (C : Str) : Xf := fun K => xfB K (He.ga K C)
def xExm (C D : Str) (b : Bool) : Xf := fun K => decide (PySem.W.exmOne K (.ref (He.ga K C)) (.ref (He.ga K D)) = some b)
theorem upd_swap {H : Hp} {a dx : Addr} {o1 o2 o3 : HO} (h : dx ≠ a) : upd (upd (upd H dx o1) a o2) dx o3 = upd (upd H dx o3) a o2 := by
  funext b
  by_cases h1 : b = dx
  · subst h1
    rw [upd_same, upd_ne h, upd_same]
  · rw [upd_ne h1]
    by_cases h2 : b = a
    · subst h2
      rw [upd_same, upd_same]
    · rw [upd_ne h2, upd_ne h2, upd_ne h1, upd_ne h1]
section
variable {K : PySem.W.Frag} {σ : L2.St} {H : Hp} {Q : VK} {QX : XK} {D : Ends} {W : WX} {ta : TA} {te to : TE} {f C : Str} {A : Addr} {ns : List Str} {vs : List V} {x y v : V} {a dx : Addr} {fs : List (Str × V)} {sp : Sp}
/-! self.f = e in an __init__ of an error -/
def KOst2 (K : PySem.W.Frag) (f : Str) (y : V) (D : Ends) (σ : L2.St) : VK := fun x H2 => ∃ a C : Addr, x = .ref a ∧ OexC K C ∧ PySem.W.findIn K (.ref C) f = some none ∧
  ((H2 a = some (exo a C none) ∧ ∀ dx, H2 dx = none → dx ≠ a → D.nx σ (upd (upd H2 dx (exd dx [(f, y)])) a (exo a C (some dx)))) ∨
    ∃ (dx : Addr) (fs : List (Str × V)), H2 a = some (exo a C (some dx)) ∧ H2 dx = some (exd dx fs) ∧ fs.length ≤ 900 ∧ D.nx σ (upd H2 dx (exd dx ((f, y) :: fs))))
def KOst1 (K : PySem.W.Frag) (f : Str) (to : TE) (D : Ends) (σ : L2.St) : VK := fun y H1 => to σ H1 (KOst2 K f y D σ)
theorem mw_ost : tOst K f to te D σ H = te σ H (KOst1 K f to D σ) := rfl
theorem mw_ost1 : KOst1 K f to D σ y H = to σ H (KOst2 K f y D σ) := rfl
theorem ost_n (T : OexC K A) (hn : PySem.W.findIn K (.ref A) f = some none) (e : H a = some (exo a A none)) (q : ∀ dx, H dx = none → dx ≠ a → D.nx σ (upd (upd H dx (exd dx [(f, y)])) a (exo a A (some dx)))) : KOst2 K f y D σ (.ref a) H := ⟨a, A, rfl, T, hn, .inl ⟨e, q⟩⟩
theorem ost_o (T : OexC K A) (hn : PySem.W.findIn K (.ref A) f = some none) (hd : dx ≠ a) (l : fs.length ≤ 900) (q : D.nx σ (upd (upd H dx (exd dx ((f, y) :: fs))) a (exo a A (some dx)))) : KOst2 K f y D σ (.ref a) (upd (upd H dx (exd dx fs)) a (exo a A (some dx))) :=
  ⟨a, A, rfl, T, hn, .inr ⟨dx, fs, upd_same, (upd_ne hd).trans upd_same, l, by rw [upd_swap hd]; exact q⟩⟩
/-! raise C(e, ..) -/
def KMkO (A : Addr) (sp : Sp) (QX : XK) : List V → Hp → Prop := fun vs H1 => vs.length ≤ 1000 ∧ ∀ a, H1 a = none → sp (.ref a :: (vs ++ [])) (upd H1 a (exo a A none))
  (fun v H2 => v = .non ∧ ∃ (d : Addr) (fs : List (Str × V)), H2 a = some (exo a A (some d)) ∧ H2 d = some (exd d fs) ∧ H1 d = none ∧ QX (.ref A) (some d) (upd (del H2 a) d (.xd fs))) (fun _ _ _ => False)
def tRaise (t : L2.St → Hp → XK → Prop) (W : WX) : TS := fun _ σ H => t σ H fun cls d H' => W cls d σ H'
theorem mw_raise : tRaise (tMkO A sp [] ta) W D σ H = ta σ H (KMkO A sp (fun cls d H' => W cls d σ H')) := rfl
theorem rs_l (hl : vs.length = ns.length) (hs : ns.length ≤ 1000) (q : ∀ d, H d = none → QX (.ref (He.ga K C)) (some d) (upd H d (.xd (errF ns vs)))) : KMkO (He.ga K C) (spErr K C ns) QX vs H := by
  refine ⟨by omega, fun a ha => ⟨a, vs, by rw [List.append_nil], hl, upd_same, fun dx hdx hne => ⟨rfl, dx, errF ns vs, upd_same, (upd_ne hne).trans upd_same, ?_, ?_⟩⟩⟩
  · rwa [upd_ne hne] at hdx
  · have e : upd (del (upd (upd (upd H a (exo a (He.ga K C) none)) dx (exd dx (errF ns vs))) a (exo a (He.ga K C) (some dx))) a) dx (.xd (errF ns vs)) = upd H dx (.xd (errF ns vs)) := by
      funext b
      by_cases h1 : b = dx
      · subst h1
        rw [upd_same, upd_same]
      · rw [upd_ne h1, upd_ne h1]
        by_cases h2 : b = a
        · subst h2
          rw [del_same, ha]
        · rw [del_ne h2, upd_ne h2, upd_ne h1, upd_ne h2]
    rw [e]
    exact q dx (by rwa [upd_ne hne] at hdx)
/-! an object made where an error may leave -/
def tMakeS (A : Addr) (sp : Sp) (E : L2.St → XK) (t : TA) : TE := fun σ H Q => tMake A sp [] (E σ) t σ H Q
theorem mw_makeS {E : L2.St → XK} : tMakeS A sp E ta σ H Q = ta σ H (KMake A sp [] (E σ) Q) := rfl
def KMakeK (A : Addr) (sp : Sp) (g : List V → List V) (n : Nat) (E : XK) (Q : VK) : List V → Hp → Prop := fun zs H1 => zs.length = n ∧ ∀ x dx, H1 x = none → H1 dx = none → dx ≠ x → sp (.ref x :: g zs) (upd (upd H1 dx (.own x)) x (.ins A dx [])) (fun v H2 => v = .non ∧ Q (.ref x) H2) E
def tMakeSK (A : Addr) (sp : Sp) (g : List V → List V) (n : Nat) (E : L2.St → XK) (t : TA) : TE := fun σ H Q => t σ H (KMakeK A sp g n (E σ) Q)
theorem mw_makeSK {E : L2.St → XK} {g : List V → List V} {n : Nat} : tMakeSK A sp g n E ta σ H Q = ta σ H (KMakeK A sp g n (E σ) Q) := rfl
theorem mkK_l {E : XK} {g : List V → List V} {n : Nat} (hn : vs.length = n) (q : ∀ x dx, H x = none → H dx = none → dx ≠ x → sp (.ref x :: g vs) (upd (upd H dx (.own x)) x (.ins A dx [])) (fun v H2 => v = .non ∧ Q (.ref x) H2) E) : KMakeK A sp g n E Q vs H := ⟨hn, q⟩
/-! try: .. except C as n: .. -/
def tTryA (K : PySem.W.Frag) (c : Value) (i : Nat) (tb : WX → TS) (ts : Addr → Value → Option Addr → TS) : TS := fun D σ H => tb (wAs K c i ts (fun _ _ _ _ => False) D) D σ H
theorem mw_tryA {c : Value} {i : Nat} {tb : WX → TS} {ts : Addr → Value → Option Addr → TS} : tTryA K c i tb ts D σ H = tb (wAs K c i ts (fun _ _ _ _ => False) D) D σ H := rfl
theorem was_yes {c cls : Value} {i : Nat} {d : Option Addr} {ts : Addr → Value → Option Addr → TS} {Wo : WX} (h : PySem.W.exmOne K cls c = some true) (q : ∀ a, H a = none → ts a cls d ⟨fun σ' H' => D.nx (σ'.set i none) H', D.rt, fun σ' H' => D.bk (σ'.set i none) H', fun σ' H' => D.ct (σ'.set i none) H'⟩ (σ.set i (some (.ref a))) H) : wAs K c i ts Wo D cls d σ H :=
  ⟨true, h, fun _ a ha => q a ha, fun z => nomatch z⟩
/-! n.f in the suite -/
def KXf (a : Addr) (cls : Value) (d : Option Addr) (A : Addr) (f : Str) (Q : VK) : VK := fun x H1 => x = .ref a ∧ cls = .ref A ∧ ∃ (dd : Addr) (fs : List (Str × V)) (v : V), d = some dd ∧ H1 dd = some (.xd fs) ∧ fs.lookup f = some v ∧ Q v H1
theorem mw_xf {cls : Value} {d : Option Addr} : tXf a cls d A f te σ H Q = te σ H (KXf a cls d A f Q) := rfl
theorem xf_l {dd : Addr} (h : H dd = some (.xd fs)) (l : fs.lookup f = some v) (q : Q v H) : KXf a (.ref A) (some dd) A f Q (.ref a) H := ⟨rfl, rfl, dd, fs, v, rfl, h, l, q⟩
end
theorem ip_ext {X : Cx} : PIp X .Add rExt2 := fun pins s σ H x y v u Q I r1 r2 h => iop_ext pins s σ H x y v u Q I r1 r2 h
section
variable {K : PySem.W.Frag} {σ : L2.St} {H : Hp} {Q : VK} {D : Ends} {x y z : V} {i : Nat}
theorem mw_aug2X : KAug2 i x rExt2 D σ y H = rExt2 x y H (KSet i D σ) := rfl
theorem mw_setK : KSet i D σ z H = D.nx (σ.set i (some z)) H := rfl
theorem ext_l {l b : Addr} {xs ys : List V} (h1 : H l = some (.lst xs)) (h2 : H b = some (.lst ys)) (n : xs.length + ys.length ≤ sizeLine) (q : Q (.ref l) (upd H l (.lst (xs ++ ys)))) : rExt2 (.ref l) (.ref b) H Q := ⟨l, b, xs, ys, rfl, rfl, h1, h2, n, q⟩
end
section
variable {X : Cx} {k : Nat} {d : He.DefD} {C : Str} {ps ks ns : List Str} {sp : Sp} {e : Expr} {es : List Expr} {t tk : TA} {p pos : Pos} {W : WX} {E : L2.St → XK} {kws : List Keyword}
theorem pmk_err (M : ErrInit X.prog X.w X.K X.mg X.base CX0 k d C ps sp) (hr : Room (k + 1) X.A) (hg : Gl X C) (ha : PA X (e :: es) t) (hdb : (C == ("__debug__" : Str)) = false := by decide)
    (he : starEach (e :: es) X.env = (false, eval e X.env) :: starEach es X.env := by rfl) (hpl : (backTo pos (starEach es X.env)).any (·.1) = false := by rfl) : PMk X (.Call (.Name C p) (e :: es) [] pos) (tMkO (He.ga X.K C) sp [] t) := by
  obtain ⟨f, fd, F, hi, ht, hb⟩ := M.ex
  exact pmk_oex M.ox hi ht F hr hb .nil pass0 hg M.gl ha hdb he hpl
theorem ps_rs {e : Expr} {t : L2.St → Hp → XK → Prop} (hc : X.calm = true) (tk : Takes X W) (he : PMk X e t) : PS X (.Raise (some e) none pos) (tRaise t W) := ps_raise hc tk he
/-- an object is made; what may leave it is asked at these slots -/
theorem run_mkS {CX : CXT} {A f : Addr} {fd : FuncData} {pins : List (Addr × Obj)} {σ : L2.St} {H : Hp} {s : Shared} {Q : VK} {E : XK} {us ws : List Value} {kw : List (Str × Value)} {vs : List V} (M : Mk X.K A f) (F : FnOk X.prog X.w X.K X.mg X.base CX k f fd ps sp) (hr : Room (k + 1) X.A)
    (hb : ∀ (s : Shared) (x : Addr), X.K.In s.heap → BindsTo s fd ⟨.ref x :: us, kw⟩ (ps.zip (.ref x :: ws))) (hx : PassesAt CX X σ E) (I : Inv X pins σ H s) (r : Vals vs ws)
    (h : ∀ x dx, H x = none → H dx = none → dx ≠ x → sp (.ref x :: vs) (upd (upd H dx (.own x)) x (.ins A dx [])) (fun v H2 => v = .non ∧ Q (.ref x) H2) E) : wpAny (model X.prog X.w) X.A (call (.ref A) us kw) (EP X pins σ Q) X.xe s := by
  have hq := h (s.heap.objs.size + 1) s.heap.objs.size (I.hok.fresh (Nat.le_succ _)) (I.hok.fresh (Nat.le_refl _)) (Nat.ne_of_lt (Nat.lt_succ_self _))
  have I2 := Inv.made (C := A) I
  have r2 : Vals (V.ref (s.heap.objs.size + 1) :: vs) (Value.ref (s.heap.objs.size + 1) :: ws) := .cons rfl r
  refine wpAny_call (make_map (f := f) I.kIn M.makes M.init (beq_iff_eq.mp M.fn) (codeAny_mono (F.run _ X.stack _ _ ⟨_, kw⟩ (Value.ref (s.heap.objs.size + 1) :: ws) _ _ E (hr.make A us kw) (I2.env0.make A us kw) (hb _ _ I2.kIn) r2 hq) fun r s' hq' => ?_))
  cases r with
  | error e => exact hx pins _ _ e s' I2 hq'
  | ok fl =>
    cases fl with
    | ret u =>
      obtain ⟨v, H', I3, rv, ev, q3⟩ := I2.after hq'
      subst ev
      exact ⟨rv, ⟨V.ref (s.heap.objs.size + 1), H', I3, rfl, q3⟩⟩
    | next => exact False.elim hq'
    | brk => exact False.elim hq'
    | cont => exact False.elim hq'
theorem pe_mkS {CX : CXT} {K : PySem.W.Frag} (hK : X.K = K) (M : MakeOf X.prog X.w X.K X.mg X.base CX k d C ps sp) (hr : Room (k + 1) X.A) (hx : ∀ σ, PassesAt CX X σ (E σ)) (hg : Gl X C) (ha : PA X (e :: es) t) (hdb : (C == ("__debug__" : Str)) = false := by decide)
    (he : starEach (e :: es) X.env = (false, eval e X.env) :: starEach es X.env := by rfl) (hpl : (backTo pos (starEach es X.env)).any (·.1) = false := by rfl) : PE X (.Call (.Name C p) (e :: es) [] pos) (tMakeS (He.ga K C) sp E t) := by
  subst hK
  obtain ⟨f, fd, F, hm, hb, _⟩ := M.ex
  refine ⟨fun pins s σ H Q I h => ?_⟩
  refine wpAny_Call_Name_kw (ld_glob I hg M.gl ?_ hdb)
  refine PySem.W.callWith_K (h₀ := X.base) I.ok.mod.kin hm.kp (thn (ha.run pos pins s σ H _ I h) fun us s1 ⟨vs, H1, I1, r, q⟩ => ⟨I1.kIn, ?_⟩) he hpl
  have q' : ∀ x dx, H1 x = none → H1 dx = none → dx ≠ x → sp (.ref x :: vs) (upd (upd H1 dx (.own x)) x (.ins (He.ga X.K C) dx [])) (fun v H2 => v = .non ∧ Q (.ref x) H2) (E σ) := fun x dx h1 h2 h3 => by
    have z := q x dx h1 h2 h3
    rwa [List.append_nil] at z
  have hl : us.length + 1 = ps.length := by
    have z := F.len _ _ _ _ (q' (s1.heap.objs.size + 1) s1.heap.objs.size (I1.hok.fresh (Nat.le_succ _)) (I1.hok.fresh (Nat.le_refl _)) (Nat.ne_of_lt (Nat.lt_succ_self _)))
    rw [← r.length, ← z]; rfl
  exact run_mkS hm F hr (fun s x hk => by
    have b := hb s (.ref x :: us) hk (by rw [List.append_nil]; exact hl)
    rwa [List.append_nil] at b) (hx σ) I1 r q'
/-- C(k = v, ..): g puts the values in the parameters' order -/
theorem pe_mkSK {CX : CXT} {K : PySem.W.Frag} (hK : X.K = K) (M : MakeOf X.prog X.w X.K X.mg X.base CX k d C ps sp) (g : {α : Type} → List α → List α) (hr : Room (k + 1) X.A) (hx : ∀ σ, PassesAt CX X σ (E σ)) (hg : Gl X C) (hkw : PK X kws tk)
    (hb : ∀ (kV doc pm : Value) (an : Option Addr) (cdv ct : Value) (x : Value) (ws : List Value), ws.length = ks.length → bindArgs (PySem.W.fnOf d.name d.qual d.params d.body d.scope .none kV doc pm an cdv ct) ⟨[x], ks.zip ws⟩ = pure (ps.zip (x :: g ws)))
    (hv : ∀ {zs : List V} {ws : List Value}, Vals zs ws → Vals (g zs) (g ws))
    (hall : (backToKw pos (keywordEach kws X.env)).all (·.1.isSome) = true := by rfl) (hks : (backToKw pos (keywordEach kws X.env)).filterMap (·.1) = ks := by rfl) (hdb : (C == ("__debug__" : Str)) = false := by decide)
    (hpl : ((backTo pos (starEach [] X.env)).any (·.1) || (backToKw pos (keywordEach kws X.env)).any (·.1.isNone)) = false := by rfl) : PE X (.Call (.Name C p) [] kws pos) (tMakeSK (He.ga K C) sp g ks.length E tk) := by
  subst hK
  obtain ⟨f, fd, F, hm, _, FD⟩ := M.ex
  refine ⟨fun pins s σ H Q I h => ?_⟩
  refine wpAny_Call_Name_kw (ld_glob I hg M.gl ?_ hdb)
  refine PySem.W.callWith_KW0 (h₀ := X.base) I.ok.mod.kin hm.kp hall (thn (hkw.run pos pins s σ H _ I h) fun ws s2 ⟨zs, H2, I2, rz, l2, q2⟩ => ⟨I2.kIn, ?_⟩) hpl
  rw [hks]
  refine run_mkS hm F hr (fun s x hk => ?_) (hx σ) I2 (hv rz) q2
  obtain ⟨oc, od, dV, kV, doc, pm, an, cdv, ct, osl, rfl, lk, hcd, hD, hK⟩ := FD.ex
  rcases hD with ⟨_, rfl⟩ | ⟨e, _⟩
  · exact .of_eq (hb kV doc pm an cdv ct (.ref x) ws (by rw [← rz.length]; exact l2))
  · exact absurd rfl e
theorem ps_tryA {x n : Str} {c : Value} {i : Nat} {body suite : List Stmt} {b₀ : Stmt} {np pos' : Pos} {tb : WX → TS} {ts : Addr → Value → Option Addr → TS} (hs : X.stack = X.env :: X.outer) (hf : X.env.frame = some X.env.locals) (hN : X.N.Nodup) (hi : X.N[i]? = some n) (hln : X.env.kindOf n = some .local) (hc : Names X x c) (tk : Takes X fun _ _ _ _ => False)
    (hb : ∀ (W : WX) (pn : List (Addr × Obj)) (xe : Value → Shared → Prop), Takes (X.tr pn xe) W → PassesOwn (model X.prog X.w) X.A X.env xe → PSs (X.tr pn xe) body (tb W))
    (hsu : ∀ (a : Addr) (oe : Obj) (cls : Value) (d : Option Addr) (pn : List (Addr × Obj)), Zc cls d oe → (∃ vs, oe.data = .fields vs) → PSs (X.suite a ((a, oe) :: pn)) (b₀ :: suite) (ts a cls d)) :
    PS X (.Try body [.ExceptHandler (some (.Name x np)) (some n) (b₀ :: suite) pos'] [] [] pos) (tTryA X.K c i tb ts) := ps_try_as hs hf hN hi hln hc tk hb hsu
/-- isinstance(e, T), e the caught error (of the class at D, its dict at dd), T an own class -/
def rIsED (K : PySem.W.Frag) (D a : Addr) (cls : Value) (d : Option Addr) : List V → Hp → VK → Prop := fun xs H Q => ∃ (T dd : Addr) (fs : List (Str × V)) (b : Bool), xs = [.ref a, .ref T] ∧ cls = .ref D ∧ d = some dd ∧ H dd = some (.xd fs) ∧ PySem.W.kitOne K (.ref D) (.ref T) = some b ∧ Q (.bl b) H
theorem call_isED {a D : Addr} {oe : Obj} {cls : Value} {d : Option Addr} {pn : List (Addr × Obj)} (C : ExcC X.K D) (hz : Zc cls d oe) (hf : ∃ vs, oe.data = .fields vs) : CallR (X.suite a ((a, oe) :: pn)) (.builtin "isinstance") (rIsED X.K D a cls d) := by
  intro pins s σ H xs us Q I r h
  obtain ⟨T, dd, fs, b, rfl, ec, ed, hd, e, q⟩ := h
  subst ec
  subst ed
  obtain ⟨u1, u2, rfl, r1, r2⟩ := vals2 r
  cases (show u1 = Value.ref a from r1)
  cases (show u2 = Value.ref T from r2)
  obtain ⟨hget, _⟩ := I.pin (a, oe) (List.mem_append.mpr (.inl List.mem_cons_self))
  obtain ⟨vs, hv⟩ := hf
  have hx : ObjOk X.prog X.w H s.heap dd (.xd fs) := I.hok dd _ hd
  obtain ⟨mA, hns, _⟩ := hx
  obtain ⟨od, ho, _⟩ := lookIn_ns hns
  have J : PySem.W.InstAt s.heap a oe D (some od) := ⟨hget, hz.1, by unfold PySem.W.notCls; rw [hv] <;> rfl, by rw [hz.2]; exact ho⟩
  have hcl : (PySem.W.clsIn X.K D).isSome = true := by
    obtain ⟨cd, hc, _⟩ := PySem.W.any_some C.hd
    rw [hc] <;> rfl
  exact PySem.W.kia_one (PySem.W.kitx_exc hcl C.hg C.hk C.hs C.ha C.hn C.ht C.hm) I.kIn J e (fun z => nomatch z) fun tk => ⟨.bl b, H, I.tok tk, rfl, q⟩
theorem isED_l {K : PySem.W.Frag} {D a T dd : Addr} {fs : List (Str × V)} {b : Bool} {H : Hp} {Q : VK} (h : H dd = some (.xd fs)) (e : PySem.W.kitOne K (.ref D) (.ref T) = some b) (q : Q (.bl b) H) : rIsED K D a (.ref D) (some dd) [.ref a, .ref T] H Q := ⟨T, dd, fs, b, rfl, rfl, rfl, h, e, q⟩
def xExcC (C : Str) : Xf := fun K => He.eqO (PySem.W.findIn K (.ref (He.ga K C)) "__getattribute__") (some (some (.builtin "BaseException.__getattribute__"))) && (He.eqO (PySem.W.findIn K (.ref (He.ga K C)) "__getattr__") (some none) && (decide (PySem.W.subIn K (.ref (He.ga K C)) (.type "BaseException") = some true) &&
  (PySem.W.hasDictIn K (He.ga K C) && (He.eqO (PySem.W.findIn K (.ref (He.ga K C)) "__class__") (some (some (.builtin "object.__class__"))) && (He.eqO (PySem.W.specialIn K (.builtin "object.__class__") "__get__") (some (some (.builtin "getset_descriptor.__get__"))) &&
  (decide (PySem.W.takesIn K (.builtin "object.__class__") = some true) && decide (PySem.W.mroIn K (He.ga K C) (.type "object") = some true)))))))
theorem excC_of {K : PySem.W.Frag} {C : Str} (h : xExcC C K = true) : ExcC K (He.ga K C) := by
  obtain ⟨h1, h⟩ := He.ba h
  obtain ⟨h2, h⟩ := He.ba h
  obtain ⟨h3, h⟩ := He.ba h
  obtain ⟨h4, h⟩ := He.ba h
  obtain ⟨h5, h⟩ := He.ba h
  obtain ⟨h6, h⟩ := He.ba h
  obtain ⟨h7, h8⟩ := He.ba h
  exact ⟨He.eqO_ok h1, He.eqO_ok h2, of_decide_eq_true h3, h4, He.eqO_ok h5, He.eqO_ok h6, of_decide_eq_true h7, of_decide_eq_true h8⟩
/-- x + y of own instances, where an error may leave -/
def rAddE (A : Addr) (sp : Sp) (E : XK) : R2 := fun x y H Q => ∃ a dx fs b dy gs, x = .ref a ∧ y = .ref b ∧ H a = some (.ins A dx fs) ∧ H b = some (.ins A dy gs) ∧ sp [x, y] H Q E
def tAddS (A : Addr) (sp : Sp) (E : L2.St → XK) (ta tb : TE) : TE := fun σ H Q => tOp (rAddE A sp (E σ)) ta tb σ H Q
theorem mw_addS {A : Addr} {sp : Sp} {E : L2.St → XK} {ta tb : TE} {σ : L2.St} {H : Hp} {Q : VK} : tAddS A sp E ta tb σ H Q = ta σ H (KOp1 (rAddE A sp (E σ)) tb σ Q) := rfl
theorem addE_l {A : Addr} {sp : Sp} {E : XK} {H : Hp} {Q : VK} {a dx b dy : Addr} {fs gs : List (Str × V)} (h : H a = some (.ins A dx fs)) (h' : H b = some (.ins A dy gs)) (q : sp [.ref a, .ref b] H Q E) : rAddE A sp E (.ref a) (.ref b) H Q := ⟨a, dx, fs, b, dy, gs, rfl, rfl, h, h', q⟩
theorem pe_addS {CX : CXT} {K : PySem.W.Frag} {a b : Expr} {ta tb : TE} (hK : X.K = K) (M : MethOf X.prog X.w X.K X.mg X.base CX k C "__add__" ps sp) (hc : PySem.W.selfFirst X.K (He.ga X.K C) = true) (hr : Room k X.A) (hx : ∀ σ, PassesAt CX X σ (E σ)) (ha : PE X a ta) (hb : PE X b tb) :
    PE X (.BinOp a .Add b pos) (tAddS (He.ga K C) sp E ta tb) := by
  subst hK
  obtain ⟨f, fd, F, hm, hbd⟩ := M.ex
  refine ⟨fun pins s σ H Q I h => ?_⟩
  refine wpAny_BinOp (binT ha hb I h fun v u s2 x y H2 I2 rx ry q => ?_)
  obtain ⟨a, dx, fs, b, dy, gs, rfl, rfl, ea, eb, q⟩ := q
  cases (show v = Value.ref a from rx)
  cases (show u = Value.ref b from ry)
  obtain ⟨mA, J, _⟩ := ins_get I2.hok ea
  obtain ⟨od, J, _⟩ := J.look
  obtain ⟨mB, J', _⟩ := ins_get I2.hok eb
  obtain ⟨od', J', _⟩ := J'.look
  obtain ⟨mF, hF⟩ := I2.fr
  refine PySem.W.binop_K (op := .Add) hF I2.ok.mod.kin J J'.type hc hm.at_ hm.fn ?_
  refine wpAny_mono (run_fnS (us := [.ref a, .ref b]) (vs := [.ref a, .ref b]) F hr hbd (hx σ) I2 (.cons rfl (.cons rfl .nil)) q) (fun w s' z => ?_) fun _ _ x => x
  obtain ⟨z', H', I', rz, qz⟩ := z
  exact SlX.cmpback rz ⟨z', H', I', rz, qz⟩
end
/-! texts of plain data are texts -/
theorem ok_of (s : String) : PyData.strOk (Str.ofString s) = true := by
  rw [Str.ofString_eq_toList]
  unfold PyData.strOk
  simp only [List.all_toArray, List.all_map, List.all_eq_true, Function.comp]
  intro c _
  refine decide_eq_true ?_
  have h := c.valid
  have e : c.toNat = c.val.toNat := rfl
  rw [e]
  rcases h with h | ⟨_, h⟩
  · exact Nat.lt_trans h (by decide)
  · exact h
theorem ok_app {a b : Str} (h1 : PyData.strOk a = true) (h2 : PyData.strOk b = true) : PyData.strOk (a ++ b) = true := by
  unfold PyData.strOk at *
  show (a.cps ++ b.cps).all _ = true
  rw [Array.all_append, h1, h2]; rfl
theorem ok_join {sep : Str} (hs : PyData.strOk sep = true) : ∀ (ts : List Str), (∀ t ∈ ts, PyData.strOk t = true) → PyData.strOk (Str.join sep ts) = true
  | [], _ => by first | rfl | exact ok_of "" | (unfold Str.join PyData.strOk; simp)
  | [x], h => h x (by simp)
  | x :: y :: r, h => by
    show PyData.strOk (x ++ sep ++ Str.join sep (y :: r)) = true
    exact ok_app (ok_app (h x (by simp)) hs) (ok_join hs (y :: r) fun t ht => h t (by simp at ht ⊢; exact .inr ht))
theorem ok_tuple (ts : List Str) (h : ∀ t ∈ ts, PyData.strOk t = true) : PyData.strOk (tupleText ts) = true := by
  unfold tupleText
  exact ok_app (ok_app (ok_of "(") (ok_join (ok_of ", ") ts h)) (ok_of _)
section
variable {K : PySem.W.Frag} {σ : L2.St} {H : Hp} {Q : VK} {te : TE} {vs : List Nat} {j : Nat}
theorem lc_intsT {a : Addr} {ns : List Int} (f : Int → Int) (h : SqT K H a (ns.map V.int)) (hlen : ns.length ≤ 100000) (hw : ∀ n : Int, wipe ((wipe σ vs).set j (some (.int n))) vs = wipe σ vs)
    (hr : ∀ n ∈ ns, ∀ (H' : Hp) (Q' : VK), Q' (.int (f n)) H' → te ((wipe σ vs).set j (some (.int n))) H' Q') (q : ∀ Dl H', H Dl = none → H' Dl = some (.lst ((ns.map f).map V.int)) → Fr [] H H' → Q (.ref Dl) H') : KLcT K (gName j) tYes te vs σ Q (.ref a) H := by
  have key : ∀ x ∈ ns.map V.int, ∃ n ∈ ns, x = V.int n := fun x hx => by
    obtain ⟨n, hn, e⟩ := List.mem_map.mp hx
    exact ⟨n, hn, e.symm⟩
  refine lc_t (S := []) (fun _ => True) (fun x y _ => y = some (match x with | .int n => .int (f n) | v => v)) h (by simp) (by rw [List.length_map]; exact hlen) (by simp) (lc_pure (fun x hx => ?_) fun x hx H' Q' k => ?_) fun Dl ys H' hD e k fr _ => ?_
  · obtain ⟨n, _, rfl⟩ := key x hx; exact hw n
  · obtain ⟨n, hn, rfl⟩ := key x hx; exact hr n hn H' Q' k
  · have ey := kept_pure (f := fun x => match x with | .int n => .int (f n) | v => v) k
    rw [List.map_map] at ey
    refine q Dl H' hD ?_ fr
    rw [e, ey, List.map_map] <;> rfl
end
/-- xs != [] (a list made here; its items may be own objects) -/
def rNeE : R2 := fun x y H Q => ∃ a b xs, x = .ref a ∧ y = .ref b ∧ H a = some (.lst xs) ∧ H b = some (.lst []) ∧ Q (.bl (!xs.isEmpty)) H
theorem op_neE {X : Cx} (hu : X.A.units + 64 < cLine) : OpR X (compareOp .NotEq) rNeE := by
  intro pins s σ H x y v u Q I rx ry h
  obtain ⟨a, b, xs, rfl, rfl, ha, hb, q⟩ := h
  cases xs with
  | nil => exact op_neD hu pins s σ H _ _ v u Q I rx ry ⟨.list [], .list [], .lst (SqL.of ha) .nil, .lst (SqL.of hb) .nil, rfl, rfl, q⟩
  | cons z zs =>
    cases (show v = Value.ref a from rx)
    cases (show u = Value.ref b from ry)
    obtain ⟨_, vs, n1, r1, o1⟩ := (show ObjOk X.prog X.w H s.heap a (.lst (z :: zs)) from I.hok a _ ha)
    obtain ⟨_, ws, n2, r2, o2⟩ := (show ObjOk X.prog X.w H s.heap b (.lst []) from I.hok b _ hb)
    have l1 := Paired.length r1
    have l2 := Paired.length r2
    refine SeqAt.RcNeAt.lists_lengths (items := vs.toArray) (items2 := ws.toArray) ⟨_, o1, rfl, _, rfl⟩ ⟨_, o2, rfl, _, rfl⟩ ?_ (by omega) X.prog X.w _ _ ⟨.bl true, H, I, rfl, q⟩
    simp only [List.size_toArray, bne_iff_ne, ne_eq, ← l1, ← l2]
    simp
theorem neE_l {H : Hp} {Q : VK} {a b : Addr} {xs : List V} (h : H a = some (.lst xs)) (h2 : H b = some (.lst [])) (q : Q (.bl (!xs.isEmpty)) H) : rNeE (.ref a) (.ref b) H Q := ⟨a, b, xs, rfl, rfl, h, h2, q⟩
end My
/-! x < y of integers, of tuples and of lists of such, at any depth. -/
namespace My
open PySem PySem.Spec PyProof.Rows L2
mutual
def ltv : PyData → PyData → Bool
  | .int a, .int b => decide (a < b)
  | .tuple xs, .tuple ys => ltvs xs ys
  | .list xs, .list ys => ltvs xs ys
  | _, _ => false
def ltvs : List PyData → List PyData → Bool
  | [], ys => !ys.isEmpty
  | _ :: _, [] => false
  | x :: xs, y :: ys => if PyData.eqv x y then ltvs xs ys else ltv x y
end
mutual
/-- the two can be held against one another -/
def ltOk : PyData → PyData → Bool
  | .int _, .int _ => true
  | .tuple xs, .tuple ys => ltOks xs ys
  | .list xs, .list ys => ltOks xs ys
  | _, _ => false
def ltOks : List PyData → List PyData → Bool
  | x :: xs, y :: ys => (PyData.eqv x y || ltOk x y) && ltOks xs ys
  | _, _ => true
end
theorem first_map {e r : Nat → Bool} {fin : Bool} {f : Nat → Nat} : ∀ l : List Nat, SeqAt.firstLt e r fin (l.map f) = SeqAt.firstLt (fun j => e (f j)) (fun j => r (f j)) fin l
  | [] => rfl
  | j :: l => by
    simp only [List.map_cons, SeqAt.firstLt]
    rw [first_map l]
theorem first_ltvs : ∀ xs ys : List PyData, SeqAt.firstLt (SeqAt.pairEq xs ys) (fun j => ltv (xs.getD j .none) (ys.getD j .none)) (decide (xs.length < ys.length)) (List.range (min xs.length ys.length)) = ltvs xs ys
  | [], [] => by simp [SeqAt.firstLt, ltvs]
  | [], _ :: _ => by simp [SeqAt.firstLt, ltvs]
  | _ :: _, [] => by simp [SeqAt.firstLt, ltvs]
  | x :: xs, y :: ys => by
    have el : Nat.min (xs.length + 1) (ys.length + 1) = Nat.min xs.length ys.length + 1 := by
      show min _ _ = min _ _ + 1
      omega
    show SeqAt.firstLt _ _ _ (List.range (Nat.min (xs.length + 1) (ys.length + 1))) = _
    rw [el, List.range_succ_eq_map, SeqAt.firstLt, first_map]
    have e2 : decide ((x :: xs).length < (y :: ys).length) = decide (xs.length < ys.length) := by simp
    rw [e2, ltvs, ← first_ltvs xs ys]
    rfl
theorem okAt : ∀ {xs ys : List PyData}, ltOks xs ys = true → ∀ j, j < xs.length → j < ys.length → SeqAt.pairEq xs ys j = false → ltOk (xs.getD j .none) (ys.getD j .none) = true
  | [], _, _, _, h, _, _ => absurd h (Nat.not_lt_zero _)
  | _ :: _, [], _, _, _, h, _ => absurd h (Nat.not_lt_zero _)
  | x :: xs, y :: ys, ok, 0, _, _, n => by
    rw [ltOks, Bool.and_eq_true, Bool.or_eq_true] at ok
    rcases ok.1 with z | z
    · have n' : PyData.eqv x y = false := n
      rw [z] at n'; cases n'
    · exact z
  | x :: xs, y :: ys, ok, j + 1, h1, h2, n => by
    rw [ltOks, Bool.and_eq_true] at ok
    exact okAt ok.2 j (Nat.lt_of_succ_lt_succ h1) (Nat.lt_of_succ_lt_succ h2) n
mutual
theorem rcLt_reads : ∀ (d e : PyData) (A : Around) (s : Shared) (v u : Value) (as bs : List Addr), Reads s.heap v d as → Reads s.heap u e bs → d.canLay0 = true → e.canLay0 = true → ltOk d e = true →
    A.units + min d.depth e.depth < cLine → SeqAt.RcLt A s v u (ltv d e)
  | .none, e, _, _, _, _, _, _, _, _, _, _, ok, _ => by simp [ltOk] at ok
  | .bool _, e, _, _, _, _, _, _, _, _, _, _, ok, _ => by simp [ltOk] at ok
  | .str _, e, _, _, _, _, _, _, _, _, _, _, ok, _ => by simp [ltOk] at ok
  | .dict _, e, _, _, _, _, _, _, _, _, _, _, ok, _ => by simp [ltOk] at ok
  | .int a, e, A, s, _, _, _, _, r1, r2, _, _, ok, _ => by
    cases e with
    | int b =>
      cases r1; cases r2
      exact fun prog w E Q q => HT.rcLt_int A s _ _ _ _ prog w E Q q
    | _ => simp [ltOk] at ok
  | .tuple xs, e, A, s, _, _, _, _, r1, r2, c1, c2, ok, hu => by
   cases e with
   | tuple ys =>
    cases r1 with
    | @tuple l o vs n _ as₁ a1 a2 a3 a4 =>
      cases r2 with
      | @tuple l' o' ws n' _ bs₁ b1 b2 b3 b4 =>
        have z1 : vs.size = xs.length := by simpa using SeqAt.ReadsAll.length _ _ _ a4
        have z2 : ws.size = ys.length := by simpa using SeqAt.ReadsAll.length _ _ _ b4
        show SeqAt.RcLt A s _ _ (ltvs xs ys)
        rw [← first_ltvs xs ys, ← z1, ← z2]
        refine SeqAt.RcLt.tuples ⟨_, a1, a2, _, a3⟩ ⟨_, b1, b2, _, b3⟩ (SeqAt.room_here hu) (fun j j1 j2 => ?_) fun j j1 j2 ne => ?_
        · have := SeqAt.eqAt_readsAll xs ys A.in1 s vs.toList ws.toList _ _ a4 b4 c1 c2 (SeqAt.room_in hu) j (by simpa using j1) (by simpa using j2)
          simpa using this
        · have := rcLt_readsAll xs ys A.in1 s vs.toList ws.toList _ _ a4 b4 c1 c2 (SeqAt.room_in hu) j (by simpa using j1) (by simpa using j2) (okAt ok j (by omega) (by omega) ne)
          simpa using this
   | _ => simp [ltOk] at ok
  | .list xs, e, A, s, _, _, _, _, r1, r2, c1, c2, ok, hu => by
   cases e with
   | list ys =>
    cases r1 with
    | @list l o vs n _ as₁ a1 a2 a3 a4 =>
      cases r2 with
      | @list l' o' ws n' _ bs₁ b1 b2 b3 b4 =>
        have z1 : vs.size = xs.length := by simpa using SeqAt.ReadsAll.length _ _ _ a4
        have z2 : ws.size = ys.length := by simpa using SeqAt.ReadsAll.length _ _ _ b4
        show SeqAt.RcLt A s _ _ (ltvs xs ys)
        rw [← first_ltvs xs ys, ← z1, ← z2]
        refine SeqAt.RcLt.lists ⟨_, a1, a2, _, a3⟩ ⟨_, b1, b2, _, b3⟩ (SeqAt.room_here hu) (fun j j1 j2 => ?_) fun j j1 j2 ne => ?_
        · have := SeqAt.eqAt_readsAll xs ys A.in1 s vs.toList ws.toList _ _ a4 b4 c1 c2 (SeqAt.room_in hu) j (by simpa using j1) (by simpa using j2)
          simpa using this
        · have := rcLt_readsAll xs ys A.in1 s vs.toList ws.toList _ _ a4 b4 c1 c2 (SeqAt.room_in hu) j (by simpa using j1) (by simpa using j2) (okAt ok j (by omega) (by omega) ne)
          simpa using this
   | _ => simp [ltOk] at ok
theorem rcLt_readsAll : ∀ (xs ys : List PyData) (A : Around) (s : Shared) (vs ws : List Value) (as bs : List Addr), ReadsAll s.heap vs xs as → ReadsAll s.heap ws ys bs → PyData.canLayAll0 xs = true → PyData.canLayAll0 ys = true →
    A.units + min (PyData.depthAll xs) (PyData.depthAll ys) < cLine → ∀ j (h1 : j < vs.length) (h2 : j < ws.length), ltOk (xs.getD j .none) (ys.getD j .none) = true → SeqAt.RcLt A s vs[j] ws[j] (ltv (xs.getD j .none) (ys.getD j .none))
  | [], _, _, _, _, _, _, _, r1, _, _, _, _, j, h1, _, _ => by cases r1; exact absurd h1 (Nat.not_lt_zero _)
  | _ :: _, [], _, _, _, _, _, _, _, r2, _, _, _, j, _, h2, _ => by cases r2; exact absurd h2 (Nat.not_lt_zero _)
  | x :: xs, y :: ys, A, s, _, _, _, _, r1, r2, c1, c2, hu, j, h1, h2, ok => by
    have c1' : x.canLay0 = true ∧ PyData.canLayAll0 xs = true := by simpa [PyData.canLayAll0] using c1
    have c2' : y.canLay0 = true ∧ PyData.canLayAll0 ys = true := by simpa [PyData.canLayAll0] using c2
    cases r1 with
    | cons p ps =>
      cases r2 with
      | cons p' ps' =>
        cases j with
        | zero => exact rcLt_reads x y A s _ _ _ _ p p' c1'.1 c2'.1 ok (SeqAt.room_head hu)
        | succ j => exact rcLt_readsAll xs ys A s _ _ _ _ ps ps' c1'.2 c2'.2 (SeqAt.room_tail hu) j (Nat.lt_of_succ_lt_succ h1) (Nat.lt_of_succ_lt_succ h2) ok
end
def rLtD (K : PySem.W.Frag) : R2 := fun x y H Q => ∃ d e, Dp K H x d ∧ Dp K H y e ∧ SeqAt.shaped d = true ∧ SeqAt.shaped e = true ∧ ltOk d e = true ∧ Q (.bl (ltv d e)) H
theorem op_ltD {X : Cx} (hu : X.A.units + 64 < cLine) : OpR X (compareOp .Lt) (rLtD X.K) := by
  intro pins s σ H x y v u Q I rx ry h
  obtain ⟨d, e, hd, he, sd, se, ok, q⟩ := h
  obtain ⟨as, r1⟩ := Dp.reads I d x v hd rx
  obtain ⟨bs, r2⟩ := Dp.reads I e y u he ry
  have dp : d.depth ≤ 64 := by
    have z : (d.canLay0 && decide (d.depth ≤ 64)) = true := sd
    rw [Bool.and_eq_true] at z
    exact of_decide_eq_true z.2
  exact rcLt_reads d e _ _ _ _ _ _ r1 r2 (SeqAt.canLay_of_shaped sd) (SeqAt.canLay_of_shaped se) ok (by omega) X.prog X.w _ _ ⟨.bl _, H, I, rfl, q⟩
theorem ltD_l {K : PySem.W.Frag} {H : Hp} {Q : VK} {x y : V} {d e : PyData} (hx : Dp K H x d) (hy : Dp K H y e) (s1 : SeqAt.shaped d = true) (s2 : SeqAt.shaped e = true) (ok : ltOk d e = true) (q : Q (.bl (ltv d e)) H) : rLtD K x y H Q := ⟨d, e, hx, hy, s1, s2, ok, q⟩
end My
/-! Objects made with values by place and by name; texts. -/
namespace My
open PySem PySem.Spec PyProof.Rows L2
/-- a class whose instances are made by an __init__ that has parameters by name only (and defaults for these) -/
structure MakeOfK (P : Program) (w : World) (K : PySem.W.Frag) (mg : Str → Option Value) (base : Heap) (CX : CXT) (k : Nat) (d : He.DefD) (C : Str) (ps : List Str) (sp : Sp) : Prop where
  ex : ∃ (f : Addr) (fd : FuncData), FnOk P w K mg base CX k f fd ps sp ∧ Mk K (He.ga K C) f ∧ FunD K d.name d.qual d.params d.body d.scope [] (d.kws K) f fd
  gl : mg C = some (.ref (He.ga K C))
section
variable {K : PySem.W.Frag} {σ : L2.St} {H : Hp} {Q : VK} {ta tk : TA} {A : Addr} {sp : Sp} {E : L2.St → XK} {n m : Nat} {vs zs : List V} {g : List V → List V → List V}
/-- C(e, .., k = v, ..) -/
def KMkM2 (A : Addr) (sp : Sp) (g : List V → List V → List V) (n m : Nat) (E : XK) (Q : VK) (vs : List V) : List V → Hp → Prop := fun zs H => vs.length = n ∧ zs.length = m ∧ ∀ x dx, H x = none → H dx = none → dx ≠ x → sp (.ref x :: g vs zs) (upd (upd H dx (.own x)) x (.ins A dx [])) (fun v H2 => v = .non ∧ Q (.ref x) H2) E
def KMkM1 (A : Addr) (sp : Sp) (g : List V → List V → List V) (n m : Nat) (E : L2.St → XK) (tk : TA) (σ : L2.St) (Q : VK) : List V → Hp → Prop := fun vs H1 => tk σ H1 (KMkM2 A sp g n m (E σ) Q vs)
def tMakeM (A : Addr) (sp : Sp) (g : List V → List V → List V) (n m : Nat) (E : L2.St → XK) (t tk : TA) : TE := fun σ H Q => t σ H (KMkM1 A sp g n m E tk σ Q)
theorem mw_makeM : tMakeM A sp g n m E ta tk σ H Q = ta σ H (KMkM1 A sp g n m E tk σ Q) := rfl
theorem mw_makeM1 : KMkM1 A sp g n m E tk σ Q vs H = tk σ H (KMkM2 A sp g n m (E σ) Q vs) := rfl
theorem mkM_l {E : XK} (h1 : vs.length = n) (h2 : zs.length = m) (q : ∀ x dx, H x = none → H dx = none → dx ≠ x → sp (.ref x :: g vs zs) (upd (upd H dx (.own x)) x (.ins A dx [])) (fun v H2 => v = .non ∧ Q (.ref x) H2) E) : KMkM2 A sp g n m E Q vs zs H := ⟨h1, h2, q⟩
end
section
variable {X : Cx} {k n : Nat} {d : He.DefD} {C : Str} {ps ks : List Str} {sp : Sp} {e : Expr} {es : List Expr} {t tk : TA} {p pos : Pos} {E : L2.St → XK} {kws : List Keyword}
theorem pe_mkM {CX : CXT} {K : PySem.W.Frag} (hK : X.K = K) (M : MakeOfK X.prog X.w X.K X.mg X.base CX k d C ps sp) (g : {α : Type} → List α → List α → List α) (hr : Room (k + 1) X.A) (hx : ∀ σ, PassesAt CX X σ (E σ)) (hg : Gl X C) (ha : PA X (e :: es) t) (hkw : PK X kws tk)
    (hb : ∀ (kV doc pm : Value) (an : Option Addr) (cdv ct : Value) (x : Value) (us ws : List Value), us.length = n → ws.length = ks.length → bindArgs (PySem.W.fnOf d.name d.qual d.params d.body d.scope .none kV doc pm an cdv ct) ⟨x :: us, ks.zip ws⟩ = pure (ps.zip (x :: g us ws)))
    (hv : ∀ {vs zs : List V} {us ws : List Value}, Vals vs us → Vals zs ws → Vals (g vs zs) (g us ws))
    (hall : (backToKw pos (keywordEach kws X.env)).all (·.1.isSome) = true := by rfl) (hks : (backToKw pos (keywordEach kws X.env)).filterMap (·.1) = ks := by rfl) (hdb : (C == ("__debug__" : Str)) = false := by decide) (he : starEach (e :: es) X.env = (false, eval e X.env) :: starEach es X.env := by rfl)
    (hpl : ((backTo pos (starEach (e :: es) X.env)).any (·.1) || (backToKw pos (keywordEach kws X.env)).any (·.1.isNone)) = false := by rfl) : PE X (.Call (.Name C p) (e :: es) kws pos) (tMakeM (He.ga K C) sp g n ks.length E t tk) := by
  subst hK
  obtain ⟨f, fd, F, hm, FD⟩ := M.ex
  refine ⟨fun pins s σ H Q I h => ?_⟩
  refine wpAny_Call_Name_kw (ld_glob I hg M.gl ?_ hdb)
  refine PySem.W.callWith_KW (h₀ := X.base) I.ok.mod.kin hm.kp hall (thn (ha.run pos pins s σ H _ I h) fun us s1 ⟨vs, H1, I1, r, q⟩ => ?_) hpl he
  refine thn (hkw.run pos pins s1 σ H1 _ I1 q) fun ws s2 ⟨zs, H2, I2, rz, l1, l2, q2⟩ => ⟨I2.kIn, ?_⟩
  rw [hks]
  refine run_mkS hm F hr (fun s x hk => ?_) (hx σ) I2 (hv r rz) q2
  obtain ⟨oc, od, dV, kV, doc, pm, an, cdv, ct, osl, rfl, lk, hcd, hD, hK⟩ := FD.ex
  rcases hD with ⟨_, rfl⟩ | ⟨z, _⟩
  · exact .of_eq (hb kV doc pm an cdv ct (.ref x) us ws (by rw [← r.length]; exact l1) (by rw [← rz.length]; exact l2))
  · exact absurd rfl z
theorem pass_no {X : Cx} {σ : L2.St} {E : XK} : PassesAt CX0 X σ E := fun _ _ _ _ _ _ z => z.elim
end
/-! tables of the module -/
def xTup (x : Str) (vs : List He.Dv) : Xf := fun K => He.tupB K x vs
def xTupP (x : Str) : Xf := fun K => match K.lookup (He.ga K x) with
  | some o => decide (o.cls = .type "tuple") && o.dict.isNone
  | none => false
section
variable {K : PySem.W.Frag} {H : Hp} {Q : VK} {x : Str} {vs : List He.Dv}
theorem tab_ok (h : xTup x vs K = true) (H : Hp) : SqT K H (He.ga K x) (vs.map (He.Dv.v K)) := He.tupB_ok h H
theorem tyT_ok (h : xTupP x K = true) (H : Hp) : tyV K "tuple" (.ref (He.ga K x)) H := by
  unfold xTupP at h
  cases e : K.lookup (He.ga K x) with
  | none => rw [e] at h; cases h
  | some o =>
    rw [e] at h
    have h' : (decide (o.cls = .type "tuple") && o.dict.isNone) = true := h
    obtain ⟨h1, h2⟩ := He.ba h'
    exact .inr (.inl ⟨rfl, o, e, of_decide_eq_true h1, by simpa using h2⟩)
theorem tyL {a : Addr} {xs : List V} (h : H a = some (.lst xs)) : tyV K "list" (.ref a) H := .inl ⟨rfl, xs, SqL.of h⟩
/-- t.index(w), l.index(w) of words -/
def rIdxT (K : PySem.W.Frag) : V → List V → Hp → VK → Prop := fun x xs H Q => ∃ p, ∃ ys : List Str, ∃ z j, x = .ref p ∧ xs = [.str z] ∧ SqT K H p (ys.map V.str) ∧ ys[j]? = some z ∧ (∀ m, m < j → ys[m]? ≠ some z) ∧ Q (.int (j : Nat)) H
theorem mt_idxT {X : Cx} : MtR X "tuple.index" (rIdxT X.K) := mt_tup_index
theorem at_idx {ws : List Str} {z : Str} (h : z ∈ ws) : ws[ws.idxOf z]? = some z ∧ ∀ m, m < ws.idxOf z → ws[m]? ≠ some z := by
  have hlt : ws.idxOf z < ws.length := List.idxOf_lt_length_of_mem h
  refine ⟨by rw [List.getElem?_eq_getElem hlt, List.getElem_idxOf hlt], ?_⟩
  clear hlt
  intro m hm e
  induction ws generalizing m with
  | nil => cases h
  | cons y ys ih =>
    rw [List.idxOf_cons] at hm
    cases e2 : (y == z) with
    | true => rw [e2] at hm; exact absurd hm (Nat.not_lt_zero _)
    | false =>
      rw [e2] at hm
      cases m with
      | zero =>
        have : y = z := Option.some.inj e
        rw [this] at e2
        simp at e2
      | succ m =>
        have hne : z ≠ y := fun q => by rw [q] at e2; simp at e2
        have h' : z ∈ ys := by
          rcases List.mem_cons.mp h with q | q
          · exact absurd q hne
          · exact q
        exact ih h' m (Nat.lt_of_succ_lt_succ hm) e
theorem idxT_l {a : Addr} {ws : List Str} {z : Str} (h : SqT K H a (ws.map V.str)) (m : z ∈ ws) (q : Q (.int (ws.idxOf z : Nat)) H) : rIdxT K (.ref a) [.str z] H Q :=
  ⟨a, ws, z, ws.idxOf z, rfl, rfl, h, (at_idx m).1, (at_idx m).2, q⟩
theorem idxL_l {a : Addr} {ws : List Str} {z : Str} (h : SqL K H a (ws.map V.str)) (m : z ∈ ws) (q : Q (.int (ws.idxOf z : Nat)) H) : rIndex K (.ref a) [.str z] H Q := by
  refine ⟨a, ws.map V.str, .str z, ws.idxOf z, .str z, rfl, rfl, h, rfl, ?_, ?_, ?_, fun j z' hj e => ?_, q⟩
  · simp [flatV]
  · rw [List.getElem?_map, (at_idx m).1] <;> rfl
  · show (z == z) = true
    simp
  · rw [List.getElem?_map] at e
    cases e3 : ws[j]? with
    | none => rw [e3] at e; cases e
    | some y =>
      rw [e3] at e
      cases e
      have : y ≠ z := fun q => (at_idx m).2 j hj (by rw [e3, q])
      show (y == z) = false
      simp [this]
theorem inV_str {z : Str} {ws : List Str} : inV (.str z) (ws.map V.str) = decide (z ∈ ws) := by
  unfold inV
  induction ws with
  | nil => rfl
  | cons y ys ih =>
    rw [List.map_cons, List.any_cons, ih]
    have e : eqV (.str y) (.str z) = decide (z = y) := by
      show (y == z) = _
      by_cases h : z = y
      · rw [decide_eq_true h, h]; simp
      · rw [decide_eq_false h]
        have : y ≠ z := fun q => h q.symm
        simp [this]
    rw [e, ← Bool.decide_or]
    simp
theorem flat_strs {ws : List Str} : (ws.map V.str).all flatV = true := by simp [flatV]
theorem notIn_l {p : Addr} {y : V} {xs : List V} (h : SqL K H p xs ∨ SqT K H p xs) (f : flatV y = true) (g : xs.all flatV = true) (q : Q (.bl (!inV y xs)) H) : rIn K true y (.ref p) H Q := ⟨p, xs, rfl, h, f, g, q⟩
theorem cat_l {l b : Addr} {xs zs : List V} (h : H l = some (.lst xs)) (h2 : H b = some (.lst zs)) (n : xs.length + zs.length ≤ sizeLine) (q : ∀ p, H p = none → Q (.ref p) (upd H p (.lst (xs ++ zs)))) : rCat (.ref l) (.ref b) H Q := ⟨l, b, xs, zs, rfl, rfl, h, h2, n, q⟩
/-- list(xs), tuple(xs) -/
def rListOf (K : PySem.W.Frag) : List V → Hp → VK → Prop := fun xs H Q => ∃ p ys, xs = [.ref p] ∧ (SqL K H p ys ∨ SqT K H p ys) ∧ ∀ l, H l = none → Q (.ref l) (upd H l (.lst ys))
theorem call_listOf {X : Cx} : CallR X (.type "list") (rListOf X.K) := call_list_of
theorem listOf_l {p : Addr} {ys : List V} (h : SqL K H p ys ∨ SqT K H p ys) (q : ∀ l, H l = none → Q (.ref l) (upd H l (.lst ys))) : rListOf K [.ref p] H Q := ⟨p, ys, rfl, h, q⟩
theorem dp_ints : ∀ ns : List Int, DpAll K H (ns.map V.int) (ns.map PyData.int)
  | [] => .nil
  | n :: ns => .cons (.int n) (dp_ints ns)
theorem eqv_oo {a b : Option Int} : PyData.eqv (oD a) (oD b) = decide (a = b) := by
  cases a <;> cases b
  · rfl
  · rfl
  · rfl
  · rename_i i j
    show (i == j) = _
    by_cases h : i = j
    · simp [h]
    · simp [h]
theorem eqv_ss {u w : Str} : PyData.eqv (.str u) (.str w) = decide (u = w) := by
  show (u == w) = _
  by_cases h : u = w
  · simp [h]
  · simp [h]
/-- all kept, place by place -/
theorem kept_at {R : V → Option V → Hp → Prop} {H' : Hp} (h : ∀ x o, R x o H' → ∃ y, o = some y) : ∀ {xs ys : List V}, Kept R H' xs ys → ys.length = xs.length ∧ ∀ (j : Nat) (x : V), xs[j]? = some x → ∃ y, ys[j]? = some y ∧ R x (some y) H'
  | _, _, .nil => ⟨rfl, fun (j : Nat) (x : V) (e : ([] : List V)[j]? = some x) => by simp at e⟩
  | _, _, .yes r k => by
    obtain ⟨e1, e2⟩ := kept_at h k
    refine ⟨by simp [e1], fun j x e => ?_⟩
    cases j with
    | zero => cases e; exact ⟨_, rfl, r⟩
    | succ j => exact e2 j x e
  | _, _, .no r k => by
    obtain ⟨y, e⟩ := h _ _ r
    cases e
end
end My
/-! try: .. with several named clauses; isinstance of a caught error whose class is known late. -/
namespace My
open PySem PySem.Spec PyProof.Rows L2
/-- the clauses, one behind another; i: the slot of their name; an error that none takes is not wished -/
def wClauses (K : PySem.W.Frag) (i : Nat) (D : Ends) : List (Value × (Addr → Value → Option Addr → TS)) → WX
  | [] => fun _ _ _ _ => False
  | (c, ts) :: r => wAs K c i ts (wClauses K i D r) D
theorem wcl_no {K : PySem.W.Frag} {c cls : Value} {i : Nat} {d : Option Addr} {ts : Addr → Value → Option Addr → TS} {Wo : WX} {D : Ends} {σ : L2.St} {H : Hp} (h : PySem.W.exmOne K cls c = some false) (q : Wo cls d σ H) : wAs K c i ts Wo D cls d σ H :=
  ⟨false, h, (fun z => nomatch z), fun _ => q⟩
/-- the clauses' own readings -/
inductive Clauses (X : Cx) (n : Str) : List ExceptHandler → List (Value × (Addr → Value → Option Addr → TS)) → Prop
  | end_ : Clauses X n [] []
  | next {x : Str} {c : Value} {ts : Addr → Value → Option Addr → TS} {b₀ : Stmt} {su : List Stmt} {np p' : Pos} {hs : List ExceptHandler} {l : List (Value × (Addr → Value → Option Addr → TS))} (nm : Names X x c)
      (rd : ∀ (a : Addr) (o : Obj) (cls : Value) (d : Option Addr) (pn : List (Addr × Obj)), Zc cls d o → (∃ vs, o.data = .fields vs) → PSs (X.suite a ((a, o) :: pn)) (b₀ :: su) (ts a cls d)) (r : Clauses X n hs l) :
      Clauses X n (.ExceptHandler (some (.Name x np)) (some n) (b₀ :: su) p' :: hs) ((c, ts) :: l)
def tTryC (K : PySem.W.Frag) (i : Nat) (l : List (Value × (Addr → Value → Option Addr → TS))) (tb : WX → TS) : TS := fun D σ H => tb (wClauses K i D l) D σ H
theorem mw_tryC {K : PySem.W.Frag} {i : Nat} {l : List (Value × (Addr → Value → Option Addr → TS))} {tb : WX → TS} {D : Ends} {σ : L2.St} {H : Hp} : tTryC K i l tb D σ H = tb (wClauses K i D l) D σ H := rfl
theorem ps_tryC {X : Cx} {n : Str} {i : Nat} {body : List Stmt} {h₀ : ExceptHandler} {hs : List ExceptHandler} {l : List (Value × (Addr → Value → Option Addr → TS))} {pos : Pos} {tb : WX → TS} (est : X.stack = X.env :: X.outer) (efr : X.env.frame = some X.env.locals) (nd : X.N.Nodup) (at_ : X.N[i]? = some n) (kd : X.env.kindOf n = some .local)
    (rb : ∀ (W : WX) (pn : List (Addr × Obj)) (xe : Value → Shared → Prop), Takes (X.tr pn xe) W → PassesOwn (model X.prog X.w) X.A X.env xe → PSs (X.tr pn xe) body (tb W)) (cl : Clauses X n (h₀ :: hs) l) :
    PS X (.Try body (h₀ :: hs) [] [] pos) (tTryC X.K i l tb) := by
  refine ⟨fun pins s σ H D I h => wpAny_Try_except ?_⟩
  have frs' : X.A.frames = some (X.env :: X.outer) := I.ok.frames.trans (congrArg some est)
  let after : Value → Shared → Prop := fun e z1 => wpAny (model X.prog X.w) X.A (noteFrame e X.env) (fun _ z2 => wpAny (model X.prog X.w) X.A (setFlight e none) (fun _ z3 => wpAny (model X.prog X.w) X.A (handleBy e X.env (h₀ :: hs)) (SP X pins D) X.xe z3) X.xe z2) X.xe z1
  have catch_ : Takes (X.tr (X.pn ++ pins) after) (wClauses X.K i D l) := by
    intro u z ⟨a, B, sI, pins', σ', H', cls, d, eu, Jt, nb, up, sk, na, os, ag, w⟩
    subst eu
    have Jo : Inv X pins σ' H' sI := Jt.ofTry I.ok
    have sk1 : Sky B (X.env :: X.outer) a (Zc cls d) X.env.locals z.heap := by rw [← est]; exact sk
    show wpAny (model X.prog X.w) X.A (noteFrame (.ref a) X.env) _ _ _
    refine Sky.land Zc.steady frs' efr sk1 fun g3 fl up3 => ?_
    have Jl : Inv X pins σ' H' { z with heap := g3 } := Jo.landed nb fl.1 (up.trans up3) os ag
    obtain ⟨o3, fs3, ho3, zc3, dt3⟩ := fl.there
    -- the error's place is no frame of anyone
    have off : a ∉ frs (X.env :: X.outer) := fun hm => by
      obtain ⟨_, o', ho', no⟩ := (fl.2.2.1).mem hm
      rw [ho3] at ho'
      cases ho'
      exact no _ dt3
    have offL : a ≠ X.env.locals := fun q => off (List.mem_filterMap.mpr ⟨X.env, List.mem_cons_self, efr.trans (congrArg some q.symm)⟩)
    have offF : a ∉ X.fs := fun hm => by
      obtain ⟨e, he, q⟩ := List.mem_filterMap.mp hm
      exact off (List.mem_filterMap.mpr ⟨e, .tail _ he, q⟩)
    have Sx := Jl.suite ho3 dt3 na offL offF
    have isA : PySem.W.Looks (model X.prog X.w) g3 (typeOf (.ref a)) cls := fun A Q E z' k q => wpAny_typeOf_ref (k _ _ ho3) (by rw [zc3.1]; exact q)
    suffices run : ∀ {hs' l'}, Clauses X n hs' l' → wClauses X.K i D l' cls d σ' H' → wpAny (model X.prog X.w) X.A (handleBy (.ref a) X.env hs') (SP X pins D) X.xe { z with heap := g3 } from run cl w
    intro hs' l' k
    induction k with
    | end_ => exact fun w => w.elim
    | @next x c ts b₀ su np p' hs2 l2 nm rd _ ih =>
      rintro ⟨b, is, yes, no⟩
      have name_ : ∀ {Q E : Value → Shared → Prop}, Q c { z with heap := g3 } → wpAny (model X.prog X.w) (X.A.mark (some (.ref a))) (eval (.Name x np) X.env) Q E { z with heap := g3 } := fun {Q E} q => by
        rcases nm with ⟨n1, n2, n3 | ⟨n3, n4, n5⟩⟩
        · exact ld_glob (X := X.suite a ((a, o3) :: (X.pn ++ pins))) Sx n1 n3 q n2
        · exact ld_blt (X := X.suite a ((a, o3) :: (X.pn ++ pins))) Sx n1 n3 n4 q n5 n2
      refine wpAny_handleBy_cons (codeAny_handlers_test (name_ ((PySem.W.exm_one (M := model X.prog X.w) Jl.kIn isA is).here ?_))) (fun q => nomatch q)
      cases b with
      | false => exact ih (no rfl)
      | true =>
        refine codeAny_handlers_suite_as (HandSPX.lands_againZ fl fun g4 fl4 up4 => ?_)
        have J4 : Inv X pins σ' H' { z with heap := g4 } := Jo.landed nb fl4.1 ((up.trans up3).trans up4) os ag
        obtain ⟨o4, fs4, ho4, zc4, dt4⟩ := fl4.there
        refine store_ok (X := X.suite a ((a, o4) :: (X.pn ++ pins))) (v := .ref a) (J4.suite ho4 dt4 na offL offF) nd at_ (.inl kd) rfl (fun z5 S5 => ?_) (.inr kd)
        refine wpAny_mono ((rd a o4 cls d (X.pn ++ pins) zc4 ⟨_, dt4⟩).run [] z5 _ H' _ S5 (yes rfl a na)) (fun f z6 done => ?_) (fun _ _ q => q.elim)
        have leave : ∀ {σ6 : L2.St} {H6 : Hp} {Q : Shared → Prop}, Inv (X.suite a ((a, o4) :: (X.pn ++ pins))) [] σ6 H6 z6 → (∀ z7, Inv X pins (σ6.set i none) H6 z7 → Q z7) → wpAny (model X.prog X.w) X.A (do bindName X.env n .none; unbindBehindTheSuite X.env n p') (fun _ z7 => Q z7) X.xe z6 :=
          fun {σ6 H6 Q} S6 q => gone_ok (S6.unsuite I.ok) nd at_ kd q
        cases f with
        | ret u => exact let ⟨v6, _, _, S6, r6, q6⟩ := done; leave S6 fun _ J7 => ⟨v6, _, _, J7, r6, q6⟩
        | next => exact let ⟨_, _, S6, q6⟩ := done; leave S6 fun _ J7 => ⟨_, _, J7, q6⟩
        | brk => exact let ⟨_, _, S6, q6⟩ := done; leave S6 fun _ J7 => ⟨_, _, J7, q6⟩
        | cont => exact let ⟨_, _, S6, q6⟩ := done; leave S6 fun _ J7 => ⟨_, _, J7, q6⟩
  refine wpAny_mono ((rb _ (X.pn ++ pins) after catch_ PassesOwn.looking).run [] s σ H D (I.toTry _) h) (fun f z1 done => ?_) (fun _ _ q => q)
  cases f with
  | next => exact let ⟨_, _, J, q⟩ := done; wpAny_execs_nil ⟨_, _, J.ofTry I.ok, q⟩
  | brk => exact let ⟨_, _, J, q⟩ := done; ⟨_, _, J.ofTry I.ok, q⟩
  | cont => exact let ⟨_, _, J, q⟩ := done; ⟨_, _, J.ofTry I.ok, q⟩
  | ret u => exact let ⟨_, _, _, J, r, q⟩ := done; ⟨_, _, _, J.ofTry I.ok, r, q⟩
/-- isinstance(e, T), e the caught error; its class is known where the reading is proved -/
def rIsLate (K : PySem.W.Frag) (a : Addr) (cls : Value) (d : Option Addr) : List V → Hp → VK → Prop := fun xs H Q => ∃ (C T dd : Addr) (fs : List (Str × V)) (b : Bool), xs = [.ref a, .ref T] ∧ ExcC K C ∧ cls = .ref C ∧ d = some dd ∧ H dd = some (.xd fs) ∧ PySem.W.kitOne K (.ref C) (.ref T) = some b ∧ Q (.bl b) H
def rIsLateB (K : PySem.W.Frag) (a : Addr) (cls : Value) (d : Option Addr) : List V → Hp → VK → Prop := fun xs H Q => ∃ (C dd : Addr) (n : String) (fs : List (Str × V)) (b : Bool), xs = [.ref a, .ty n] ∧ ExcC K C ∧ cls = .ref C ∧ d = some dd ∧ H dd = some (.xd fs) ∧ PySem.W.kitOne K (.ref C) (.type n) = some b ∧ Q (.bl b) H
section
variable {X : Cx} {a : Addr} {oe : Obj} {cls : Value} {d : Option Addr} {pn : List (Addr × Obj)}
theorem late_in {C dd : Addr} {T : Value} {fs : List (Str × V)} {b : Bool} {pins : List (Addr × Obj)} {σ : L2.St} {H : Hp} {s : Shared} {Q : VK} (E : ExcC X.K C) (hz : Zc (.ref C) (some dd) oe) (hf : ∃ vs, oe.data = .fields vs) (I : Inv (X.suite a ((a, oe) :: pn)) pins σ H s) (hd : H dd = some (.xd fs))
    (e : PySem.W.kitOne X.K (.ref C) T = some b) (q : Q (.bl b) H) : wpAny (model X.prog X.w) (X.suite a ((a, oe) :: pn)).A (call (.builtin "isinstance") [.ref a, T] []) (EP (X.suite a ((a, oe) :: pn)) pins σ Q) (X.suite a ((a, oe) :: pn)).xe s := by
  obtain ⟨vs, hv⟩ := hf
  obtain ⟨hget, _⟩ := I.pin (a, oe) (List.mem_append.mpr (.inl List.mem_cons_self))
  obtain ⟨mA, hns, _⟩ := (show ObjOk X.prog X.w H s.heap dd (.xd fs) from I.hok dd _ hd)
  obtain ⟨od, ho, _⟩ := lookIn_ns hns
  have J : PySem.W.InstAt s.heap a oe C (some od) := ⟨hget, hz.1, by unfold PySem.W.notCls; rw [hv] <;> rfl, by rw [hz.2]; exact ho⟩
  obtain ⟨cd, hc, _⟩ := PySem.W.any_some E.hd
  exact PySem.W.kia_one (PySem.W.kitx_exc (by rw [hc] <;> rfl) E.hg E.hk E.hs E.ha E.hn E.ht E.hm) I.kIn J e (fun z => nomatch z) fun tk => ⟨.bl b, H, I.tok tk, rfl, q⟩
theorem call_isLate (hz : Zc cls d oe) (hf : ∃ vs, oe.data = .fields vs) : CallR (X.suite a ((a, oe) :: pn)) (.builtin "isinstance") (rIsLate X.K a cls d) := by
  intro pins s σ H xs us Q I r ⟨C, T, dd, fs, b, e1, E, e2, e3, hd, e, q⟩
  subst e1 e2 e3
  obtain ⟨u1, u2, rfl, r1, r2⟩ := vals2 r
  cases (show u1 = Value.ref a from r1)
  cases (show u2 = Value.ref T from r2)
  exact late_in E hz hf I hd e q
theorem call_isLateB (hz : Zc cls d oe) (hf : ∃ vs, oe.data = .fields vs) : CallR (X.suite a ((a, oe) :: pn)) (.builtin "isinstance") (rIsLateB X.K a cls d) := by
  intro pins s σ H xs us Q I r ⟨C, dd, n, fs, b, e1, E, e2, e3, hd, e, q⟩
  subst e1 e2 e3
  obtain ⟨u1, u2, rfl, r1, r2⟩ := vals2 r
  cases (show u1 = Value.ref a from r1)
  cases (show u2 = Value.type n from r2)
  exact late_in E hz hf I hd e q
end
section
variable {K : PySem.W.Frag} {H : Hp} {Q : VK} {a C T dd : Addr} {fs : List (Str × V)} {b : Bool}
theorem late_l (E : ExcC K C) (h : H dd = some (.xd fs)) (e : PySem.W.kitOne K (.ref C) (.ref T) = some b) (q : Q (.bl b) H) : rIsLate K a (.ref C) (some dd) [.ref a, .ref T] H Q := ⟨C, T, dd, fs, b, rfl, E, rfl, rfl, h, e, q⟩
theorem lateB_l {n : String} (E : ExcC K C) (h : H dd = some (.xd fs)) (e : PySem.W.kitOne K (.ref C) (.type n) = some b) (q : Q (.bl b) H) : rIsLateB K a (.ref C) (some dd) [.ref a, .ty n] H Q := ⟨C, dd, n, fs, b, rfl, E, rfl, rfl, h, e, q⟩
end
def xKitB (C : Str) (n : String) (b : Bool) : Xf := fun K => decide (PySem.W.kitOne K (.ref (He.ga K C)) (.type n) = some b)
/-! texts: joined, cut -/
def rJoin (K : PySem.W.Frag) : V → List V → Hp → VK → Prop := fun x xs H Q => ∃ a p, ∃ ys : List Str, x = .str a ∧ xs = [.ref p] ∧ (SqL K H p (ys.map V.str) ∨ SqT K H p (ys.map V.str)) ∧ (ys.map (·.length)).sum + ys.length * a.length ≤ 16777216 ∧ Q (.str (Txt.join a ys)) H
theorem mt_joinK {X : Cx} : MtR X "str.join" (rJoin X.K) := mt_join
theorem join_l {K : PySem.W.Frag} {H : Hp} {Q : VK} {s : Str} {p : Addr} {ys : List Str} (h : SqL K H p (ys.map V.str) ∨ SqT K H p (ys.map V.str)) (n : (ys.map (·.length)).sum + ys.length * s.length ≤ 16777216) (q : Q (.str (Txt.join s ys)) H) : rJoin K (.str s) [.ref p] H Q := ⟨s, p, ys, rfl, rfl, h, n, q⟩
/-- a text of signs, of at most n of them -/
structure Ot (n : Nat) (z : Str) : Prop where
  ok : PyData.strOk z = true
  ln : z.length ≤ n
theorem Ot.mono {n m : Nat} {z : Str} (h : Ot n z) (l : n ≤ m) : Ot m z := ⟨h.ok, Nat.le_trans h.ln l⟩
theorem ok_cps {l : List Nat} (h : ∀ c ∈ l, c < 0x110000) : PyData.strOk ⟨l.toArray⟩ = true := by
  show l.toArray.all _ = true
  rw [List.all_toArray, List.all_eq_true]
  exact fun c hc => decide_eq_true (h c hc)
theorem cps_ok {z : Str} (h : PyData.strOk z = true) : ∀ c ∈ z.cps.toList, c < 0x110000 := by
  intro c hc
  have h' : z.cps.all (· < 0x110000) = true := h
  rw [Array.all_eq_true'] at h'
  exact of_decide_eq_true (h' c (by simpa using hc))
theorem Ot.cut {n : Nat} {z : Str} (h : Ot n z) (lo hi : Option Int) : Ot n (cutS z lo hi) :=
  ⟨ok_cps fun c hc => cps_ok h.ok c (List.mem_of_mem_drop (List.mem_of_mem_take hc)), Nat.le_trans (cutS_length z lo hi) h.ln⟩
theorem Ot.app {n m : Nat} {z y : Str} (h : Ot n z) (h2 : Ot m y) : Ot (n + m) (z ++ y) :=
  ⟨ok_app h.ok h2.ok, by rw [Str.length_append]; exact Nat.add_le_add h.ln h2.ln⟩
theorem Ot.join {n : Nat} : ∀ {ys : List Str}, (∀ y ∈ ys, Ot n y) → Ot (ys.length * n) (Txt.join "" ys)
  | ys, h => by
    rw [show Txt.join "" ys = Str.join "" ys from StrLaws.glued_eq_join "" ys]
    refine ⟨ok_join (ok_of "") ys fun y hy => (h y hy).ok, ?_⟩
    refine Nat.le_trans (StrLaws.join_length_le _ ys) ?_
    have e : ("" : Str).length = 0 := rfl
    rw [e, Nat.mul_zero, Nat.add_zero]
    clear e
    induction ys with
    | nil => exact Nat.zero_le _
    | cons y r ih =>
      have a := (h y (by simp)).ln
      have b := ih fun x hx => h x (by simp [hx])
      rw [List.map_cons, List.sum_cons, List.length_cons, Nat.succ_mul]
      omega
theorem sum_len {n : Nat} : ∀ {ys : List Str}, (∀ y ∈ ys, Ot n y) → (ys.map (·.length)).sum ≤ ys.length * n
  | [], _ => Nat.zero_le _
  | y :: r, h => by
    have a := (h y (by simp)).ln
    have b := sum_len (ys := r) fun x hx => h x (by simp [hx])
    rw [List.map_cons, List.sum_cons, List.length_cons, Nat.succ_mul]
    omega
theorem Ot.sign {z : Str} {i : Int} {c : Nat} (h : PyData.strOk z = true) (e : atI z.cps.toList i = some c) : Ot 1 ⟨#[c]⟩ := by
  refine ⟨?_, Nat.le_refl _⟩
  have hc : c ∈ z.cps.toList := by
    unfold atI at e
    cases q : ixN z.cps.toList.length i with
    | none => rw [q] at e; cases e
    | some j => rw [q] at e; exact List.mem_of_getElem? e
  exact ok_cps (l := [c]) fun d hd => by rw [List.mem_singleton.mp hd]; exact cps_ok h c hc
theorem at_sign {z : Str} {i : Int} (h0 : 0 ≤ i) (h1 : i < (z.length : Int)) : ∃ c, atI z.cps.toList i = some c := by
  obtain ⟨n, rfl⟩ := Int.eq_ofNat_of_zero_le h0
  have hn : n < z.cps.toList.length := by
    show n < z.cps.toList.length
    have : z.cps.toList.length = z.length := by show z.cps.toList.length = z.cps.size; simp
    omega
  exact ⟨_, atI_nat (List.getElem?_eq_getElem hn)⟩
section
variable {K : PySem.W.Frag} {H : Hp} {Q : VK} {z y : Str} {i : Int} {c : Nat} {lo hi : Option Int}
theorem ixS_l (n : z.length ≤ sizeLine) (e : atI z.cps.toList i = some c) (q : Q (.str ⟨#[c]⟩) H) : rIxS (.str z) (.int i) H Q := ⟨z, i, c, rfl, rfl, n, e, q⟩
theorem slS_l (n : z.length ≤ sizeLine) (q : Q (.str (cutS z lo hi)) H) : rSlS (.str z) lo hi H Q := ⟨z, rfl, n, q⟩
def rAddT : R2 := fun x y H Q => ∃ i j, x = .str i ∧ y = .str j ∧ i.length + j.length ≤ sizeLine ∧ Q (.str (i ++ j)) H
theorem op_addT {X : Cx} : OpR X (binaryOp .Add) rAddT := op_add_str
theorem addT_l (n : z.length + y.length ≤ sizeLine) (q : Q (.str (z ++ y)) H) : rAddT (.str z) (.str y) H Q := ⟨z, y, rfl, rfl, n, q⟩
/-- len of a text -/
def rLenX : List V → Hp → VK → Prop := fun xs H Q => ∃ z : Str, xs = [.str z] ∧ z.length ≤ sizeLine ∧ Q (.int z.length) H
theorem call_lenX {X : Cx} : CallR X (.builtin "len") rLenX := call_len_str
theorem lenX_l (n : z.length ≤ sizeLine) (q : Q (.int z.length) H) : rLenX [.str z] H Q := ⟨z, rfl, n, q⟩
end
theorem kept_strs {R : V → Option V → Hp → Prop} {p : Str → Prop} {H' : Hp} (h : ∀ x o, R x o H' → ∃ v, o = some (.str v) ∧ p v) : ∀ {xs ys : List V}, Kept R H' xs ys → ∃ ws : List Str, ys = ws.map V.str ∧ ws.length = xs.length ∧ ∀ n ∈ ws, p n
  | _, _, .nil => ⟨[], rfl, rfl, by simp⟩
  | _, _, .yes r k => by
    obtain ⟨ws, e1, e2, e3⟩ := kept_strs h k
    obtain ⟨v, e, pv⟩ := h _ _ r
    cases e
    exact ⟨v :: ws, by rw [e1]; rfl, by simp [e2], fun n hn => (List.mem_cons.mp hn).elim (fun z => z ▸ pv) (e3 n)⟩
  | _, _, .no r k => by
    obtain ⟨v, e, _⟩ := h _ _ r
    cases e
theorem cutV_mem {xs : List V} {lo hi : Option Int} {x : V} (h : x ∈ cutV xs lo hi) : x ∈ xs := List.mem_of_mem_drop (List.mem_of_mem_take h)
end My
/-! f-texts, str of whole numbers, a pair turned round, sorted. -/
namespace My
open PySem PySem.Spec PyProof.Rows L2
section
variable {K : PySem.W.Frag} {σ : L2.St} {H : Hp} {Q : VK} {t te : TE} {ts : List TE} {y acc : Str} {x : V} {i : Int}
/-- f'..' : the parts -/
def tFs (ts : List TE) : TE := fun σ H Q => tJs ts Str.empty σ H fun out H1 => Q (.str out) H1
def KFs (ts : List TE) (acc : Str) (σ : L2.St) (Q : VK) : VK := fun x H1 => ∃ y : Str, x = .str y ∧ (acc ++ y).length ≤ sizeLine ∧ tJs ts (acc ++ y) σ H1 fun out H2 => Q (.str out) H2
theorem mw_fs : tFs (t :: ts) σ H Q = t σ H (KFs ts Str.empty σ Q) := rfl
theorem fs_next {t2 : TE} {r : List TE} (n : (acc ++ y).length ≤ sizeLine) (q : t2 σ H (KFs r (acc ++ y) σ Q)) : KFs (t2 :: r) acc σ Q (.str y) H := ⟨y, rfl, n, q⟩
theorem fs_last (n : (acc ++ y).length ≤ sizeLine) (q : Q (.str (acc ++ y)) H) : KFs [] acc σ Q (.str y) H := ⟨y, rfl, n, q⟩
def KFm (Q : VK) : VK := fun x H1 => (∃ y : Str, x = .str y ∧ y.length ≤ sizeLine ∧ Q (.str y) H1) ∨ ∃ i : Int, x = .int i ∧ i.natAbs.log2 < 1920 ∧ Q (.str (toString i)) H1
theorem mw_fmt : tFmt te σ H Q = te σ H (KFm Q) := rfl
theorem fm_str (n : y.length ≤ sizeLine) (q : Q (.str y) H) : KFm Q (.str y) H := .inl ⟨y, rfl, n, q⟩
theorem fm_int (n : i.natAbs.log2 < 1920) (q : Q (.str (toString i)) H) : KFm Q (.int i) H := .inr ⟨i, rfl, n, q⟩
theorem pe_fs {X : Cx} {v1 v2 : Expr} {rest : List Expr} {ts : List TE} {pos : Pos} (h : PJ X (v1 :: v2 :: rest) ts) : PE X (.JoinedStr (v1 :: v2 :: rest) pos) (tFs ts) := pe_joined h
/-- str(i) -/
def rStrI : List V → Hp → VK → Prop := fun xs H Q => ∃ i : Int, xs = [.int i] ∧ i.natAbs.log2 < 1920 ∧ Q (.str (toString i)) H
theorem call_strI {X : Cx} : CallR X (.type "str") rStrI := call_str_int
theorem strI_l (n : i.natAbs.log2 < 1920) (q : Q (.str (toString i)) H) : rStrI [.int i] H Q := ⟨i, rfl, n, q⟩
/-- tuple(l) of a list -/
def rTupOf (K : PySem.W.Frag) : List V → Hp → VK → Prop := fun xs H Q => ∃ p ys, xs = [.ref p] ∧ ((SqL K H p ys ∧ ∀ l, H l = none → Q (.ref l) (upd H l (.tup ys))) ∨ (SqT K H p ys ∧ Q (.ref p) H))
theorem call_tupOf {X : Cx} : CallR X (.type "tuple") (rTupOf X.K) := call_tuple_of
theorem tupOf_l {p : Addr} {ys : List V} (h : SqL K H p ys) (q : ∀ l, H l = none → Q (.ref l) (upd H l (.tup ys))) : rTupOf K [.ref p] H Q := ⟨p, ys, rfl, .inl ⟨h, q⟩⟩
theorem tupOf_t {p : Addr} {ys : List V} (h : SqT K H p ys) (q : Q (.ref p) H) : rTupOf K [.ref p] H Q := ⟨p, ys, rfl, .inr ⟨h, q⟩⟩
/-- sorted(l), few whole numbers -/
theorem sorted_l {a : Addr} {ns : List Int} (h : SqL K H a (ns.map V.int)) (n : ns.length < 64) (q : ∀ (ns' : List Int) (p : Addr), ns'.Perm ns → ns'.Pairwise (· ≤ ·) → H p = none → Q (.ref p) (upd H p (.lst (ns'.map V.int)))) : rSorted K [.ref a] H Q := ⟨a, ns, rfl, h, n, q⟩
end
/-! t[::-1], t a pair -/
section
open HT PyProof.Rows
variable {prog : Program} {w : World} {A : Around} {E : Value → Shared → Prop} {s : Shared}
theorem pair_rev {t sl : Addr} {u v : Value} {tk : Tok} {Q : Value → Shared → Prop} (ht : IsTup s.heap t #[u, v]) (hs : s.heap.IsSliceOf sl .none .none (.int (-1) tk))
    (h : Q (.ref s.heap.objs.size) { s with heap := s.heap.push { cls := .type "tuple", data := .seq #[v, u] } }) : wpAny (model prog w) A (getItem (.ref t) (.ref sl)) Q E s := by
  obtain ⟨os, hos, hcs, hds⟩ := id hs
  unfold getItem
  try with_reducible refine wpAny_holding ?_
  first | refine wpAny_bind (wpAny_pure ?_) | skip
  refine wpAny_bind (wpAny_sequenceKey ht.typeIs (by decide) (wpAny_bind (wpAny_callSpecial?_slot (name := Str.ofString "__getitem__") ht.typeIs PyProof.Rows.slot_tuple_getitem (wpAny_call_entry PyProof.Rows.slot_tuple_getitem ht.typeIs entry_tuple_getitem ?_ (args_tuple_getitem _ _)))))
  show wpAny _ _ (Builtin.Tuple.tupleItemsOf (.ref t) >>= _) _ _ s
  refine wpAny_bind (tupleItemsOf_ ht (wpAny_bind (wpAny_typeOf (⟨os, hos, hcs⟩ : s.TypeIs (.ref sl) "slice") ?_)))
  rw [if_pos (by decide)]
  refine wpAny_bind ?_
  unfold Builtin.Slice.sliceApplied Builtin.Slice.sliceFields
  refine wpAny_bind (wpAny_bind (wpAny_field hos hds (x := .none) rfl (wpAny_bind (wpAny_field hos hds (x := .none) rfl (wpAny_bind (wpAny_field hos hds (x := .int (-1) tk) rfl (wpAny_pure (wpAny_bind (slicePart_int ?_)))))))))
  show wpAny _ _ (if ((-1 : Int) == 0) = true then _ else _) _ _ s
  rw [if_neg (by decide)]
  refine wpAny_bind (slicePart_none (wpAny_bind (slicePart_none (wpAny_bind (wpAny_pure ?_)))))
  have e1 : Builtin.Slice.sliceAdjust none none (-1) 2 = (1, -1) := by first | rfl | decide | simp [Builtin.Slice.sliceAdjust]
  have e2 : Builtin.Slice.slicePlaces 1 (-1) (-1) = 2 := by first | rfl | decide | simp [Builtin.Slice.slicePlaces]
  show wpAny _ _ (match Builtin.Slice.sliceAdjust none none (-1) 2 with
    | (lo, hi) => pure (lo, (-1 : Int), Builtin.Slice.slicePlaces lo hi (-1))) _ _ s
  rw [e1]
  show wpAny _ _ (pure ((1 : Int), (-1 : Int), Builtin.Slice.slicePlaces 1 (-1) (-1))) _ _ s
  rw [e2]
  refine wpAny_pure ?_
  have e : (List.filterMap (fun (k : Nat) => #[u, v][((1 : Int) + (k : Int) * (-1)).toNat]?) (List.range 2)).toArray = #[v, u] := rfl
  show wpAny _ _ (if ((1 : Int) == 0 && (-1 : Int) == 1 && (2 : Nat) == 2) = true then _ else _) _ _ s
  rw [if_neg (by decide), e]
  have fit : sizeOk (.seq #[v, u]) := by show 2 ≤ sizeLine; decide
  first
    | exact wpAny_bind (m := Builtin.Tuple.tupleExact _) (wpAny_newObj_type (wpAny_pure ⟨_, rfl, wpAny_pure h⟩) fit)
    | exact wpAny_bind (m := Builtin.Tuple.tupleExact _) (wpAny_newObj_type (wpAny_bind (wpAny_pure (wpAny_pure ⟨_, rfl, wpAny_pure h⟩))) fit)
    | exact wpAny_bind (wpAny_bind (m := Builtin.Tuple.tupleExact _) (wpAny_newObj_type (wpAny_pure (wpAny_pure ⟨_, rfl, wpAny_pure h⟩)) fit))
    | exact wpAny_bind (wpAny_bind (m := Builtin.Tuple.tupleExact _) (wpAny_newObj_type (wpAny_pure ⟨_, rfl, wpAny_pure h⟩) fit))
end
section
variable {K : PySem.W.Frag} {σ : L2.St} {H : Hp} {Q : VK} {te : TE}
def KRevP (K : PySem.W.Frag) (Q : VK) : VK := fun x H1 => ∃ a u v, x = .ref a ∧ SqT K H1 a [u, v] ∧ ∀ p, H1 p = none → Q (.ref p) (upd H1 p (.tup [v, u]))
def tRevP (K : PySem.W.Frag) (te : TE) : TE := fun σ H Q => te σ H (KRevP K Q)
theorem mw_revP : tRevP K te σ H Q = te σ H (KRevP K Q) := rfl
theorem revP_l {a : Addr} {u v : V} (h : SqT K H a [u, v]) (q : ∀ p, H p = none → Q (.ref p) (upd H p (.tup [v, u]))) : KRevP K Q (.ref a) H := ⟨a, u, v, rfl, h, q⟩
theorem pe_revP {X : Cx} {e : Expr} {k : Nat} {p1 p2 p3 pos : Pos} (he : PE X e te) : PE X (.Subscript e (.Slice none none (some (.UnaryOp .USub (.Constant (.int 1) k p1) p2)) p3) pos) (tRevP X.K te) := by
  refine ⟨fun pins s σ H Q I h => Subscript_ (thn (he.run pins s σ H _ I h) fun v s1 ⟨x, H1, I1, r1, a, y, z, ex, hx, q⟩ => ?_)⟩
  subst ex
  cases r1
  have step : PO X (some (.UnaryOp .USub (.Constant (.int 1) k p1) p2)) (tPart (tUn (rU fun i => .int (-i)) (tC (.int 1)))) := po_some (pe_un un_neg pe_int)
  refine wpAny_Slice (thn (po_none.run pins s1 σ H1 (fun o G => o = none ∧ G = H1) I1 ⟨rfl, rfl⟩) fun vl s2 ⟨_, _, I2, pl, el, eh⟩ => ?_)
  cases el
  cases eh
  refine thn (po_none.run pins s2 σ H1 (fun o G => o = none ∧ G = H1) I2 ⟨rfl, rfl⟩) fun vu s3 ⟨_, _, I3, pu, eu, eh⟩ => ?_
  cases eu
  cases eh
  refine thn (step.run pins s3 σ H1 (fun o G => o = some (-1) ∧ G = H1) I3 ⟨1, rfl, -1, rfl, rfl, rfl⟩) fun vs s4 ⟨_, _, I4, pz, ez, eh⟩ => ?_
  cases ez
  cases eh
  cases pl
  cases pu
  cases pz with
  | int _ tk =>
    have I5 : Inv X pins σ H1 { s4 with heap := s4.heap.push { cls := .type "slice", data := .fields #[.none, .none, .int (-1) tk] } } := I4.kept (t' := s4.toks) fun b ob g => Heap.get?_push_of_some _ g
    obtain ⟨its, r, ht, hz⟩ := I5.tuple hx
    obtain ⟨u1, u2, rfl, r1, r2⟩ := vals2 r
    show wpAny (model X.prog X.w) X.A (subscriptTail e (.Slice none none (some (.UnaryOp .USub (.Constant (.int 1) k p1) p2)) p3) (.ref a) (.ref s4.heap.objs.size)) (EP X pins σ Q) X.xe { s4 with heap := s4.heap.push { cls := .type "slice", data := .fields #[.none, .none, .int (-1) tk] } }
    refine tail_any (ops := [.ref a, .ref s4.heap.objs.size]) ht.typeIs (PyProof.Rows.slot_tuple_getitem.lookup) (pair_rev ht (Heap.IsSliceOf.new _ .none .none (.int (-1) tk)) ?_) (by with_unfolding_all rfl)
    refine ⟨.ref _, _, I5.laid (t' := s4.toks) (o := .tup [z, y]) (fun b ob g => Heap.get?_push_of_some _ g) (Nat.le_refl _) ?_, rfl, q _ (I5.hok.fresh (Nat.le_refl _))⟩
    exact ⟨by show 2 ≤ sizeLine; decide, [u2, u1], .cons r2 (.cons r1 .nil), IsTup.new _ _⟩
end
/-- repr of a truth -/
def tB (b : Bool) : Str := if b then "True" else "False"
def rReprB : List V → Hp → VK → Prop := fun xs H Q => ∃ b : Bool, xs = [.bl b] ∧ Q (.str (tB b)) H
theorem call_reprB {X : Cx} : CallR X (.builtin "repr") rReprB := by
  intro pins s σ H xs us Q I r ⟨b, ex, q⟩
  subst ex
  obtain ⟨u, rfl, ru⟩ := r.one
  cases (show u = Value.bool b from ru)
  have r2 : RelV (.str (tB b)) (.str (if b then "True" else "False") s.toks) := ⟨s.toks, by cases b <;> rfl⟩
  exact PySem.P.repr_of_bool ⟨.str (tB b), H, I.tok _, r2, q⟩
theorem reprB_l {H : Hp} {Q : VK} {b : Bool} (q : Q (.str (tB b)) H) : rReprB [.bl b] H Q := ⟨b, rfl, q⟩
end My
/-! while; signs and parts of texts; numbers read from texts. -/
namespace My
open PySem PySem.Spec PyProof.Rows L2 PySem.NumText TL
section
variable {K : PySem.W.Frag} {σ : L2.St} {H : Hp} {Q : VK} {D : Ends} {te : TE} {z y : Str} {b : Bool}
def KWhY (Pv : Nat → L2.St → Hp → Prop) (tb : TS) (D : Ends) (m : Nat) (σ : L2.St) (H : Hp) : Prop := ∃ N : L2.St → Hp → Prop, (∀ σ' H', N σ' H' → ∃ m', m' < m ∧ Pv m' σ' H') ∧ tb { D with nx := N, ct := N, bk := D.nx } σ H
def KWh (Pv : Nat → L2.St → Hp → Prop) (tb : TS) (D : Ends) (m : Nat) (σ : L2.St) : Bool → Hp → Prop := fun b H1 => if b = true then KWhY Pv tb D m σ H1 else D.nx σ H1
theorem mw_whK {Pv : Nat → L2.St → Hp → Prop} {tb : TS} {m : Nat} : KWh Pv tb D m σ b H = if b = true then KWhY Pv tb D m σ H else D.nx σ H := rfl
theorem whY_l {Pv : Nat → L2.St → Hp → Prop} {tb : TS} {m : Nat} (q : tb { D with nx := fun σ' H' => ∃ m', m' < m ∧ Pv m' σ' H', ct := fun σ' H' => ∃ m', m' < m ∧ Pv m' σ' H', bk := D.nx } σ H) : KWhY Pv tb D m σ H := ⟨_, fun _ _ z => z, q⟩
theorem while_l {c : TT} {tb : TS} (Pv : Nat → L2.St → Hp → Prop) (m0 : Nat) (h0 : Pv m0 σ H) (hs : ∀ m σ H, Pv m σ H → c σ H (KWh Pv tb D m σ)) : tWhile c tb D σ H := ⟨Pv, ⟨m0, h0⟩, hs⟩
/-- a text as a test -/
def KTs (Q : Bool → Hp → Prop) : VK := fun x H1 => ∃ z : Str, x = .str z ∧ z.length ≤ sizeLine ∧ Q ((z.length : Int) != 0) H1
def tTs (te : TE) : TT := fun σ H Q => te σ H (KTs Q)
theorem mw_ts {Q : Bool → Hp → Prop} : tTs te σ H Q = te σ H (KTs Q) := rfl
theorem ts_l {Q : Bool → Hp → Prop} (n : z.length ≤ sizeLine) (q : Q ((z.length : Int) != 0) H) : KTs Q (.str z) H := ⟨z, rfl, n, q⟩
theorem pt_str {X : Cx} {a : Expr} (ha : PE X a te) (he : ∀ whole, isTrue a X.env whole = (do let v ← whole; standAt a.pos; holding [v] (truthy v)) := by intro _; rfl) : PT X a (tTs te) := by
  refine ⟨fun pins s σ H Q I h => isTrue_plain (thn (ha.run pins s σ H _ I h) fun v s1 ⟨x, H1, I1, r1, z, ex, n, q⟩ => ?_) (he _)⟩
  subst ex
  exact tru_ok pins s1 σ H1 _ v Q I1 r1 ⟨_, ⟨n, rfl⟩, q⟩
/-- a sign in a text -/
def rInSg : R2 := fun x y H Q => ∃ (c : Nat) (z : Str), x = .str ⟨#[c]⟩ ∧ y = .str z ∧ Q (.bl (decide (c ∈ z.cps.toList))) H
theorem op_inSg {X : Cx} : OpR X (compareOp .In) rInSg := op_in_sign
theorem inSg_l {c : Nat} (q : Q (.bl (decide (c ∈ z.cps.toList))) H) : rInSg (.str ⟨#[c]⟩) (.str z) H Q := ⟨c, z, rfl, rfl, q⟩
/-- int of a text -/
def rIntT : List V → Hp → VK → Prop := fun xs H Q => ∃ a n, xs = [.str a] ∧ PySem.intText? a = some n ∧ a.length ≤ 640 ∧ Q (.int n) H
theorem call_intT {X : Cx} : CallR X (.type "int") rIntT := call_int_str
theorem intT_l {n : Int} (h : PySem.intText? z = some n) (l : z.length ≤ 640) (q : Q (.int n) H) : rIntT [.str z] H Q := ⟨z, n, rfl, h, l, q⟩
end
/-! parts of texts by their signs -/
abbrev cl (z : Str) : List Nat := z.cps.toList
theorem cl_len (z : Str) : (cl z).length = z.length := by show z.cps.toList.length = z.cps.size; simp
theorem str_ext {z y : Str} (h : cl z = cl y) : z = y := by
  obtain ⟨a⟩ := z
  obtain ⟨b⟩ := y
  have : a = b := Array.toList_inj.mp h
  rw [this]
theorem cl_app (z y : Str) : cl (z ++ y) = cl z ++ cl y := by
  show (z.cps ++ y.cps).toList = _
  simp
def sub (l : List Nat) (i j : Nat) : List Nat := (l.drop i).take (j - i)
theorem cl_cut {z : Str} {i j : Int} (hi : 0 ≤ i) (hj : 0 ≤ j) : cl (cutS z (some i) (some j)) = sub (cl z) i.toNat j.toNat := by
  obtain ⟨a, rfl⟩ := Int.eq_ofNat_of_zero_le hi
  obtain ⟨b, rfl⟩ := Int.eq_ofNat_of_zero_le hj
  show (((cl z).drop (HT.sIx z.length 0 (some (a : Int)))).take (HT.sIx z.length z.length (some (b : Int)) - HT.sIx z.length 0 (some (a : Int)))).toArray.toList = _
  rw [HT.sIx_nat, HT.sIx_nat, ← cl_len z, Int.toNat_natCast, Int.toNat_natCast]
  unfold sub
  simp only [List.toList_toArray]
  generalize cl z = l
  rcases Nat.lt_or_ge a l.length with h | h
  · rw [Nat.min_eq_left (Nat.le_of_lt h)]
    rcases Nat.lt_or_ge b l.length with h2 | h2
    · rw [Nat.min_eq_left (Nat.le_of_lt h2)]
    · rw [Nat.min_eq_right h2, List.take_of_length_le (by rw [List.length_drop]; omega), List.take_of_length_le (by rw [List.length_drop]; omega)]
  · rw [Nat.min_eq_right h, List.drop_of_length_le (Nat.le_refl _), List.drop_of_length_le h]
    simp
theorem one_eq {z : Str} {i : Int} {c : Nat} {s : Str} (hs : cl s = [c]) (hi : 0 ≤ i) : (cutS z (some i) (some (i + 1)) = s) ↔ ((cl z).drop i.toNat).head? = some c := by
  have e : cl (cutS z (some i) (some (i + 1))) = ((cl z).drop i.toNat).take 1 := by
    rw [cl_cut hi (by omega)]
    unfold sub
    rw [show (i + 1).toNat - i.toNat = 1 by omega]
  constructor
  · intro h
    rw [h, hs] at e
    cases q : (cl z).drop i.toNat with
    | nil => rw [q] at e; cases e
    | cons a r =>
      rw [q] at e
      have : c = a := by simpa using e
      rw [this]; rfl
  · intro h
    refine str_ext ?_
    rw [e, hs]
    cases q : (cl z).drop i.toNat with
    | nil => rw [q] at h; cases h
    | cons a r =>
      rw [q] at h
      have : a = c := by simpa using h
      rw [this]; rfl
theorem two_eq {z : Str} {i : Int} {c d : Nat} {s : Str} (hs : cl s = [c, d]) (hi : 0 ≤ i) : (cutS z (some i) (some (i + 2)) = s) ↔ ((cl z).drop i.toNat).take 2 = [c, d] := by
  have e : cl (cutS z (some i) (some (i + 2))) = ((cl z).drop i.toNat).take 2 := by
    rw [cl_cut hi (by omega)]
    unfold sub
    rw [show (i + 2).toNat - i.toNat = 2 by omega]
  rw [← e, ← hs]
  exact ⟨fun h => by rw [h], str_ext⟩
/-! numbers -/
def dig (c : Nat) : Bool := decide (48 ≤ c) && decide (c ≤ 57)
/-- how many digits stand ahead, at most k -/
def dR : List Nat → Nat → Nat
  | c :: t, k + 1 => if dig c = true then dR t k + 1 else 0
  | _, _ => 0
theorem dR_cons {c k : Nat} {t : List Nat} : dR (c :: t) (k + 1) = if dig c = true then dR t k + 1 else 0 := rfl
/-- how long the longest number ahead is -/
def nS (l : List Nat) : Nat := if l.head? = some 45 then 1 else 0
def nE (l : List Nat) : Nat := if (l.drop (nS l)).head? = some 48 then (if nS l = 0 then 1 else 0) else if 0 < dR (l.drop (nS l)) 13 then nS l + dR (l.drop (nS l)) 13 else 0
theorem dR_le : ∀ (l : List Nat) (k : Nat), dR l k ≤ k ∧ dR l k ≤ l.length
  | [], k => by cases k <;> simp [dR]
  | c :: t, 0 => by simp [dR]
  | c :: t, k + 1 => by
    unfold dR
    split
    · have := dR_le t k
      simp only [List.length_cons]
      omega
    · simp
theorem dR_digs : ∀ (l : List Nat) (k : Nat), NumText.AllDigits (l.take (dR l k))
  | [], k => by cases k <;> simp [dR, NumText.AllDigits]
  | c :: t, 0 => by simp [dR, NumText.AllDigits]
  | c :: t, k + 1 => by
    unfold dR
    split
    · rename_i h
      intro x hx
      rw [List.take_succ_cons] at hx
      rcases List.mem_cons.mp hx with rfl | hx
      · unfold dig at h
        rw [Bool.and_eq_true] at h
        exact ⟨of_decide_eq_true h.1, of_decide_eq_true h.2⟩
      · exact dR_digs t k x hx
    · intro x hx
      rw [List.take_zero] at hx
      cases hx
theorem dR_all {ds rest : List Nat} (h : NumText.AllDigits ds) (hr : ∀ c, rest.head? = some c → dig c = false) : ∀ k, ds.length ≤ k → dR (ds ++ rest) k = ds.length := by
  induction ds with
  | nil =>
    intro k _
    cases rest with
    | nil => cases k <;> rfl
    | cons c r =>
      cases k with
      | zero => rfl
      | succ k =>
        have := hr c rfl
        show (if dig c = true then _ else 0) = 0
        rw [if_neg (by rw [this]; decide)]
  | cons c t ih =>
    intro k hk
    cases k with
    | zero => simp at hk
    | succ k =>
      have hc := h c (by simp)
      have d : dig c = true := by unfold dig; simp [hc.1, hc.2]
      show (if dig c = true then dR (t ++ rest) k + 1 else 0) = _
      rw [if_pos d, ih (fun x hx => h x (by simp [hx])) k (by simpa using hk)]
      rfl
/-- what a number's signs mean -/
def rdE : List Nat → Option Int
  | [] => none
  | 45 :: ds => some (-((NumText.digitsVal ds : Nat) : Int))
  | ds => some ((NumText.digitsVal ds : Nat) : Int)
/-- the number ahead, read -/
theorem nE_reads (l : List Nat) {z : Str} (hz : cl z = l.take (nE l)) : (z.length = 0 ∧ rdE (l.take (nE l)) = none) ∨ (0 < z.length ∧ z.length ≤ 14 ∧ ∃ n, rdE (l.take (nE l)) = some n ∧ intText? z = some n) := by
  have hl : z.length = (l.take (nE l)).length := by rw [← hz, cl_len]
  have num : ∀ ds : List Nat, cl z = ds → NumText.AllDigits ds → ds ≠ [] → ds.length ≤ 14 → rdE ds = some ((NumText.digitsVal ds : Nat) : Int) ∧ intText? z = some ((NumText.digitsVal ds : Nat) : Int) := fun ds e a n l14 => by
    subst e
    refine ⟨?_, intText_digits a n (by rw [← cl_len]; omega)⟩
    cases q : cl z with
    | nil => exact absurd q n
    | cons c t =>
      have hc := a c (by rw [q]; simp)
      unfold rdE
      split
      · rename_i h; cases h
      · rename_i h; cases h; omega
      · rfl
  unfold nE at hz hl ⊢
  split at hz
  · rename_i h48
    rw [if_pos h48] at hl ⊢
    split at hz
    · rename_i h0
      rw [if_pos h0] at hl ⊢
      cases l with
      | nil => rw [h0] at h48; cases h48
      | cons c t =>
        rw [h0] at h48
        have e : c = 48 := by simpa using h48
        subst e
        obtain ⟨r1, r2⟩ := num [48] hz (fun x hx => by rw [List.mem_singleton.mp hx]; decide) (by simp) (by decide)
        rw [hl]
        exact .inr ⟨by simp, by simp, _, r1, r2⟩
    · rename_i h0
      rw [if_neg h0] at hl ⊢
      exact .inl ⟨by simpa using hl, by rw [List.take_zero]; rfl⟩
  · rename_i h48
    rw [if_neg h48] at hl ⊢
    split at hz
    · rename_i hp
      rw [if_pos hp] at hl ⊢
      have b := dR_le (l.drop (nS l)) 13
      have a := dR_digs (l.drop (nS l)) 13
      generalize hk : dR (l.drop (nS l)) 13 = k at *
      have hp' : 0 < k := hp
      unfold nS at hz hl a b ⊢
      by_cases h45 : l.head? = some 45
      · simp only [if_pos h45] at hz hl a b ⊢
        cases l with
        | nil => cases h45
        | cons c t =>
          have e : c = 45 := by simpa using h45
          subst e
          rw [Nat.add_comm 1 k, List.take_succ_cons] at hz hl ⊢
          have ht : (t.take k).length = k := by rw [List.length_take]; exact Nat.min_eq_left b.2
          have ne : t.take k ≠ [] := fun z => by rw [z] at ht; simp at ht; omega
          refine .inr ⟨by rw [hl]; simp, by rw [hl, List.length_cons, ht]; omega, _, rfl, ?_⟩
          exact intText_neg hz a ne (by rw [hl, List.length_cons, ht]; omega)
      · simp only [if_neg h45] at hz hl a b ⊢
        rw [Nat.zero_add] at hz hl ⊢
        rw [List.drop_zero] at a b
        have ht : (l.take k).length = k := by rw [List.length_take]; exact Nat.min_eq_left b.2
        have ne : l.take k ≠ [] := fun z => by rw [z] at ht; simp at ht; omega
        obtain ⟨r1, r2⟩ := num _ hz a ne (by omega)
        exact .inr ⟨by omega, by omega, _, r1, r2⟩
    · rename_i hp
      rw [if_neg hp] at hl ⊢
      exact .inl ⟨by simpa using hl, by rw [List.take_zero]; rfl⟩
/-- a stretch ahead: its ends, and how long it is -/
def stE (l : List Nat) : Option (Option Int × Option Int × Nat) := if (l.drop (nE l)).take 2 = [46, 46] then some (rdE (l.take (nE l)), rdE ((l.drop (nE l + 2)).take (nE (l.drop (nE l + 2)))), nE l + 2 + nE (l.drop (nE l + 2))) else none
/-! the signs of whole numbers -/
theorem cl_int (i : Int) : cl (Str.ofString (toString i)) = if i < 0 then 45 :: numL i.natAbs else numL i.natAbs := by
  cases i with
  | ofNat n =>
    rw [if_neg (by simp only [Int.ofNat_eq_natCast]; omega)]
    exact tl_num n
  | negSucc n =>
    rw [if_pos (by omega)]
    have e : toString (Int.negSucc n) = "-" ++ toString ((n + 1 : Nat) : Int) := rfl
    have h := tl_num (n + 1)
    have h' : (Str.ofString (toString ((n + 1 : Nat) : Int))).cps.toList = numL (n + 1) := h
    show (Str.ofString (toString (Int.negSucc n))).cps.toList = _
    rw [signs_ofString] at h' ⊢
    rw [e, String.toList_append, List.map_append, h']
    rfl
theorem numL_head : ∀ n : Nat, 0 < n → (numL n).head? ≠ some 48 := by
  intro n
  induction n using Nat.strongRecOn with
  | _ n ih =>
    intro hn
    by_cases h : n < 10
    · rw [numL_lt h]
      intro e
      have : 48 + n = 48 := by simpa using e
      omega
    · rw [numL_step (by omega)]
      have h2 := ih (n / 10) (by omega) (by omega)
      have ne := numL_ne (n / 10)
      cases q : numL (n / 10) with
      | nil => exact absurd q ne
      | cons c r => rw [q] at h2; simpa using h2
theorem cl_emp : cl (Str.ofString "") = [] := rfl
def wtL : Option Int → List Nat
  | none => []
  | some i => if i < 0 then 45 :: numL i.natAbs else numL i.natAbs
theorem wtL_some {i : Int} : wtL (some i) = if i < 0 then 45 :: numL i.natAbs else numL i.natAbs := rfl
theorem rdE_digs {ds : List Nat} (a : AllDigits ds) (n : ds ≠ []) : rdE ds = some ((digitsVal ds : Nat) : Int) := by
  cases ds with
  | nil => exact absurd rfl n
  | cons c t =>
    have hc := a c (by simp)
    unfold rdE
    split
    · rename_i h; cases h
    · rename_i h; cases h; omega
    · rfl
theorem rd_wt (v : Option Int) : rdE (wtL v) = v := by
  cases v with
  | none => rfl
  | some i =>
    rw [wtL_some]
    split
    · show some (-((digitsVal (numL i.natAbs) : Nat) : Int)) = some i
      rw [numL_val]
      congr 1
      omega
    · rw [rdE_digs (numL_digits _) (numL_ne _), numL_val]
      congr 1
      omega
/-- the number is just what stands there -/
theorem nE_wt {v : Option Int} {r : List Nat} (hb : ∀ i, v = some i → -10000000000000 < i ∧ i < 10000000000000) (hr : ∀ c, r.head? = some c → dig c = false ∧ (v = none → c ≠ 45)) : nE (wtL v ++ r) = (wtL v).length := by
  have hd : ∀ c, r.head? = some c → dig c = false := fun c e => (hr c e).1
  cases v with
  | none =>
    show nE r = 0
    have s0 : nS r = 0 := by
      unfold nS
      rw [if_neg (fun e => (hr 45 e).2 rfl rfl)]
    unfold nE
    rw [s0, List.drop_zero, if_neg (fun e => by have := hd 48 e; revert this; decide)]
    have e := dR_all (ds := []) (rest := r) (fun c hc => by cases hc) hd 13 (by simp)
    rw [List.nil_append] at e
    rw [e]
    rfl
  | some i =>
    have b := hb i rfl
    have l13 : (numL i.natAbs).length ≤ 13 := numL_len (by decide) (Nat.lt_of_lt_of_le (show i.natAbs < 10000000000000 by omega) (by decide))
    have run := dR_all (ds := numL i.natAbs) (rest := r) (numL_digits _) hd 13 l13
    have hpos : 0 < (numL i.natAbs).length := List.length_pos_iff.mpr (numL_ne _)
    rw [wtL_some]
    by_cases hi : i < 0
    · rw [if_pos hi]
      have s1 : nS (45 :: numL i.natAbs ++ r) = 1 := rfl
      unfold nE
      rw [s1]
      show (if (numL i.natAbs ++ r).head? = some 48 then _ else if 0 < dR (numL i.natAbs ++ r) 13 then 1 + dR (numL i.natAbs ++ r) 13 else 0) = _
      have hh := numL_head i.natAbs (by omega)
      have ne := numL_ne i.natAbs
      rw [if_neg (fun e => hh (by cases q : numL i.natAbs with | nil => exact absurd q ne | cons c t => rw [q] at e; exact e)), run, if_pos hpos, List.length_cons]
      omega
    · rw [if_neg hi]
      have s0 : nS (numL i.natAbs ++ r) = 0 := by
        unfold nS
        refine if_neg fun e => ?_
        cases q : numL i.natAbs with
        | nil => exact absurd q (numL_ne _)
        | cons c t =>
          rw [q] at e
          have ec : c = 45 := by simpa using e
          have := numL_digits i.natAbs c (by rw [q]; simp)
          omega
      unfold nE
      rw [s0, List.drop_zero]
      by_cases h0 : i = 0
      · subst h0
        rfl
      · have hh := numL_head i.natAbs (by omega)
        have ne := numL_ne i.natAbs
        rw [if_neg (fun e => hh (by cases q : numL i.natAbs with | nil => exact absurd q ne | cons c t => rw [q] at e; exact e)), run, if_pos hpos, Nat.zero_add]
theorem stE_wt {a b : Option Int} {r : List Nat} (ha : ∀ i, a = some i → -10000000000000 < i ∧ i < 10000000000000) (hb : ∀ i, b = some i → -10000000000000 < i ∧ i < 10000000000000) (hr : ∀ c, r.head? = some c → dig c = false ∧ (b = none → c ≠ 45)) :
    stE (wtL a ++ ([46, 46] ++ (wtL b ++ r))) = some (a, b, (wtL a).length + 2 + (wtL b).length) := by
  have e1 : nE (wtL a ++ ([46, 46] ++ (wtL b ++ r))) = (wtL a).length := nE_wt ha fun c e => by
    have : c = 46 := by simpa using e.symm
    subst this
    exact ⟨by decide, fun _ => by decide⟩
  have e2 : nE (wtL b ++ r) = (wtL b).length := nE_wt hb hr
  have d1 : (wtL a ++ ([46, 46] ++ (wtL b ++ r))).drop ((wtL a).length + 2) = wtL b ++ r := by
    rw [← List.drop_drop, List.drop_left]
    rfl
  unfold stE
  rw [e1, List.drop_left, if_pos (show List.take 2 ([46, 46] ++ (wtL b ++ r)) = [46, 46] from rfl), List.take_left, d1, e2, List.take_left, rd_wt, rd_wt]
section
variable {X : Cx} {CX : CXT} {k : Nat} {d : He.DefD} {x : Str} {ps : List Str} {sp : Sp} {e : Expr} {es : List Expr} {t : TA} {p pos : Pos} {E : L2.St → XK}
/-- f(e, ..) where an error may leave -/
def KCallS (sp : Sp) (E : XK) (Q : VK) : List V → Hp → Prop := fun vs H1 => sp vs H1 Q E
def tCallE (sp : Sp) (E : L2.St → XK) (t : TA) : TE := fun σ H Q => t σ H (KCallS sp (E σ) Q)
theorem mw_callE {σ : L2.St} {H : Hp} {Q : VK} : tCallE sp E t σ H Q = t σ H (KCallS sp (E σ) Q) := rfl
theorem mw_callEK {E : XK} {H : Hp} {Q : VK} {vs : List V} : KCallS sp E Q vs H = sp vs H Q E := rfl
theorem pe_fnS {K : PySem.W.Frag} (hK : X.K = K) (C : Callee X.prog X.w X.K X.mg X.base CX k d ps sp) (hr : Room k X.A) (hx : ∀ σ, PassesAt CX X σ (E σ)) (hg : Gl X x) (ha : PA X (e :: es) t) (hn : d.name = x := by rfl) (hdb : (x == ("__debug__" : Str)) = false := by decide)
    (he : starEach (e :: es) X.env = (false, eval e X.env) :: starEach es X.env := by rfl) (hpl : (backTo pos (starEach es X.env)).any (·.1) = false := by rfl) : PE X (.Call (.Name x p) (e :: es) [] pos) (tCallE sp E t) := by
  obtain ⟨f, fd, F, hm, hk, hb, _⟩ := C.ex
  rw [hn] at hm
  exact pe_callS F hr hg hm hk hb hx ha hdb he hpl
end
theorem ok_from : ∀ (ts : List Str) (k : Nat) (acc : Str), PyData.strOk acc = true → (∀ t ∈ ts, PyData.strOk t = true) → PyData.strOk (textFrom k acc ts) = true
  | [], _, _, ha, _ => ha
  | t :: ts, k, acc, ha, h => by
    show PyData.strOk (textFrom (k + 1) (acc ++ (if k > 0 then ", " else "" : String) ++ t) ts) = true
    exact ok_from ts (k + 1) _ (ok_app (ok_app ha (ok_of _)) (h t (by simp))) fun x hx => h x (by simp [hx])
theorem ok_list (ts : List Str) (h : ∀ t ∈ ts, PyData.strOk t = true) : PyData.strOk (listText ts) = true := ok_app (ok_from ts 0 _ (ok_of "[") h) (ok_of _)
end My
/-! walks over texts and enumerate; starred items; all(..); words of the lower signs. -/
namespace My
open PySem PySem.Spec PyProof.Rows L2
section
variable {K : PySem.W.Frag} {σ : L2.St} {H : Hp} {Q : VK} {D : Ends} {g : TG} {tb : TS} {te : TE} {tt : TT} {ta : TA} {vs : List Nat} {z : Str}
def KForI (J : It) (g : TG) (tb : TS) (D : Ends) (σ : L2.St) (H : Hp) : Prop := ∃ W : Nat → Nat → L2.St → Hp → Prop, (∃ m, W 0 m σ H) ∧ ∀ i m σ H, W i m σ H →
  (J.stop i H ∧ D.nx σ H) ∨ (J.go i H ∧ ∃ N : L2.St → Hp → Prop, (∀ σ' H', N σ' H' → ∃ m', m' < m ∧ W (i + 1) m' σ' H') ∧ ∀ x H', J.yld i H x H' → g x σ H' fun σ2 H2 => tb { D with nx := N, ct := N, bk := D.nx } σ2 H2)
def KForS (g : TG) (tb : TS) (D : Ends) (σ : L2.St) : VK := fun v H => ∃ x, v = .str x ∧ KForI (Its x) g tb D σ H
theorem mw_forS : tFor (iStr te) g tb D σ H = te σ H (KForS g tb D σ) := rfl
def KForE (K : PySem.W.Frag) (g : TG) (tb : TS) (D : Ends) (σ : L2.St) : List V → Hp → Prop := fun us H => ∃ a xs, us = [.ref a] ∧ SqL K H a xs ∧ KForI (Ite K a) g tb D σ H
theorem mw_forE : tFor (iEnum K ta) g tb D σ H = ta σ H (KForE K g tb D σ) := rfl
theorem for_s (Pv : Nat → L2.St → Hp → Prop) (h0 : Pv 0 σ H) (hs : ∀ i c σ H, (cl z)[i]? = some c → Pv i σ H → g (.str ⟨#[c]⟩) σ H fun σ2 H2 => tb ⟨Pv (i + 1), D.rt, D.nx, Pv (i + 1)⟩ σ2 H2) (hd : ∀ σ H, Pv z.length σ H → D.nx σ H) : KForS g tb D σ (.str z) H :=
  ⟨z, rfl, for_it walk_str Pv h0 (fun _ _ _ _ _ => trivial) (fun i x σ H H' _ p y => by
    obtain ⟨rfl, c, e, rfl⟩ := y
    exact hs i c σ _ (by rw [← e]; simp) p) hd⟩
theorem for_e {a : Addr} {xs : List V} (Pv : Nat → L2.St → Hp → Prop) (h0 : Pv 0 σ H) (hl : ∀ i σ H, i ≤ xs.length → Pv i σ H → SqL K H a xs)
    (hs : ∀ (i : Nat) x T σ H, xs[i]? = some x → Pv i σ H → H T = none → g (.ref T) σ (upd H T (.tup [.int i, x])) fun σ2 H2 => tb ⟨Pv (i + 1), D.rt, D.nx, Pv (i + 1)⟩ σ2 H2) (hd : ∀ σ H, Pv xs.length σ H → D.nx σ H) : KForE K g tb D σ [.ref a] H :=
  ⟨a, xs, rfl, hl 0 σ H (Nat.zero_le _) h0, for_it (walk_enum (xs := xs)) Pv h0 (fun i σ H hi p => hl i σ H hi p) (fun i v σ H H' _ p y => by
    obtain ⟨T, x, y, rfl, hT, rfl, e1, e2⟩ := y
    cases e1
    exact hs i y T σ H e2 p hT) hd⟩
def KLcS (g : TG) (tt : TT) (te : TE) (vs : List Nat) (σ : L2.St) (Q : VK) : VK := fun v H1 => ∃ x, v = .str x ∧ KLcJ (Its x) g tt te vs σ Q H1
theorem mw_lcS {tl : TE} : tLc (iStr tl) g tt te vs σ H Q = tl σ H (KLcS g tt te vs σ Q) := rfl
def sgs (z : Str) : List V := (cl z).map fun c => V.str ⟨#[c]⟩
theorem lc_s {S : List Addr} (I : Hp → Prop) (R : V → Option V → Hp → Prop) (hlen : z.length ≤ 100000) (hS : ∀ b ∈ S, ∃ o, H b = some o) (L : Lc S I R g tt te vs σ H (sgs z))
    (q : ∀ Dl ys H', H Dl = none → H' Dl = some (.lst ys) → Kept R H' (sgs z) ys → Fr S H H' → I H' → Q (.ref Dl) H') : KLcS g tt te vs σ Q (.str z) H := by
  have hl : (sgs z).length = z.length := by unfold sgs; rw [List.length_map, cl_len]
  refine ⟨z, rfl, fun Dl hD => lc_it walk_str (LcP S I R H (sgs z) Dl) ⟨hD, (Fr.refl _ _).put_free hD, L.iF _ _ _ hD L.i0, [], upd_same, .nil⟩ (fun _ _ _ _ => trivial) (fun i x H1 H2 _ p y => ?_) fun H' p => ?_⟩
  · obtain ⟨rfl, c, e, rfl⟩ := y
    exact lc_turn L (by omega) hS (by unfold sgs; rw [List.getElem?_map, show (cl z)[i]? = some c by rw [← e]; simp]; rfl) p
  · obtain ⟨p1, p2, p3, ys, p4, p5⟩ := p
    have hz : z.cps.size = (sgs z).length := hl.symm
    rw [hz, List.take_length] at p5
    exact q Dl ys H' p1 p4 p5 p2 p3
/-- all(l) -/
theorem all_l {a : Addr} {bs : List Bool} (h : SqL K H a (bs.map V.bl)) (q : Q (.bl (bs.all id)) H) : rAll K [.ref a] H Q := ⟨a, bs, rfl, h, q⟩
/-- *e, .. -/
def KStar2 (Q : List V → Hp → Prop) (xs : List V) : List V → Hp → Prop := fun ys H2 => Q (xs ++ ys) H2
def KStar (K : PySem.W.Frag) (ta : TA) (σ : L2.St) (Q : List V → Hp → Prop) : VK := fun x H1 => ∃ p xs, x = V.ref p ∧ (SqT K H1 p xs ∨ SqL K H1 p xs) ∧ ta σ H1 fun ys H2 => Q (xs ++ ys) H2
theorem mw_star {Q : List V → Hp → Prop} : StX.tStar K te ta σ H Q = te σ H (KStar K ta σ Q) := rfl
theorem mw_star2 {Q : List V → Hp → Prop} {xs ys : List V} : KStar2 Q xs ys H = Q (xs ++ ys) H := rfl
def KBM0 (K : PySem.W.Frag) (T : String) (r : V → List V → Hp → VK → Prop) (Q : VK) : VK := fun x H1 => tyV K T x H1 ∧ r x [] H1 Q
theorem mw_BM0 {T : String} {r : V → List V → Hp → VK → Prop} : tBM0 K T r te σ H Q = te σ H (KBM0 K T r Q) := rfl
theorem mw_BM0K {T : String} {r : V → List V → Hp → VK → Prop} {x : V} : KBM0 K T r Q x H = (tyV K T x H ∧ r x [] H Q) := rfl
theorem star_l {Q : List V → Hp → Prop} {p : Addr} {xs : List V} (h : SqT K H p xs ∨ SqL K H p xs) (q : ta σ H (KStar2 Q xs)) : KStar K ta σ Q (.ref p) H := ⟨p, xs, rfl, h, q⟩
end
/-! optional words -/
def oS : Option Str → V
  | none => .non
  | some s => .str s
def oSd : Option Str → PyData
  | none => .none
  | some s => .str s
theorem oS_none : oS none = .non := rfl
theorem oS_some {s : Str} : oS (some s) = .str s := rfl
theorem oS_inj {a b : Option Str} (h : oS a = oS b) : a = b := by
  cases a <;> cases b <;> simp [oS] at h ⊢
  exact h
theorem oS_non {a : Option Str} : oS a = .non ↔ a = none := by cases a <;> simp [oS]
/-- a word of signs below 128 -/
structure Aw (n : Nat) (z : Str) : Prop where
  as : ∀ c ∈ cl z, c < 128
  ln : z.length ≤ n
theorem Aw.ok {n : Nat} {z : Str} (h : Aw n z) : PyData.strOk z = true := by
  have e : z = ⟨(cl z).toArray⟩ := by
    obtain ⟨a⟩ := z
    simp
  rw [e]
  exact ok_cps fun c hc => Nat.lt_trans (h.as c hc) (by decide)
theorem Aw.mono {n m : Nat} {z : Str} (h : Aw n z) (l : n ≤ m) : Aw m z := ⟨h.as, Nat.le_trans h.ln l⟩
theorem Aw.cut {n : Nat} {z : Str} (h : Aw n z) (lo hi : Option Int) : Aw n (cutS z lo hi) := ⟨fun c hc => h.as c (List.mem_of_mem_drop (List.mem_of_mem_take (by simpa [cutS, cl] using hc))), Nat.le_trans (cutS_length z lo hi) h.ln⟩
theorem Aw.app {n m : Nat} {z y : Str} (h : Aw n z) (h2 : Aw m y) : Aw (n + m) (z ++ y) :=
  ⟨fun c hc => by rw [cl_app] at hc; exact (List.mem_append.mp hc).elim (h.as c) (h2.as c), by rw [Str.length_append]; exact Nat.add_le_add h.ln h2.ln⟩
theorem Aw.one {c : Nat} (h : c < 128) : Aw 1 ⟨#[c]⟩ := ⟨fun d hd => by
  have e : d = c := by simpa [cl] using hd
  rw [e]
  exact h, Nat.le_refl _⟩
theorem cl_join : ∀ cs : List Nat, cl (Txt.join "" (cs.map fun c => (⟨#[c]⟩ : Str))) = cs := by
  have one : ∀ (y : Str) (r : List Str), Str.join "" (y :: r) = y ++ Str.join "" r := fun y r => by
    cases r with
    | nil =>
      show y = y ++ Str.empty
      obtain ⟨a⟩ := y
      show (⟨a⟩ : Str) = ⟨a ++ #[]⟩
      simp
    | cons z r =>
      show y ++ Str.ofString "" ++ Str.join "" (z :: r) = _
      have e : y ++ Str.ofString "" = y := by
        obtain ⟨a⟩ := y
        show (⟨a ++ #[]⟩ : Str) = ⟨a⟩
        simp
      rw [e]
  intro cs
  rw [show Txt.join "" (cs.map fun c => (⟨#[c]⟩ : Str)) = Str.join "" (cs.map fun c => (⟨#[c]⟩ : Str)) from StrLaws.glued_eq_join "" _]
  induction cs with
  | nil => rfl
  | cons c r ih =>
    rw [List.map_cons, one, cl_app, ih]
    rfl
theorem nodup_le {α : Type} [DecidableEq α] : ∀ {l m : List α}, l.Nodup → (∀ x ∈ l, x ∈ m) → l.length ≤ m.length
  | [], _, _, _ => Nat.zero_le _
  | x :: l, m, h, s => by
    have hx := s x (by simp)
    have h' := List.nodup_cons.mp h
    have r := nodup_le (l := l) (m := m.erase x) h'.2 fun y hy => (List.mem_erase_of_ne (fun e => h'.1 (by rw [← e]; exact hy))).mpr (s y (by simp [hy]))
    rw [List.length_erase_of_mem hx] at r
    have : 0 < m.length := List.length_pos_iff.mpr (fun e => by rw [e] at hx; cases hx)
    rw [List.length_cons]
    omega
def lets : Str := "abcdefghijklmnopqrstuvwxyz"
theorem let_at {n : Int} (h0 : 0 ≤ n) (h1 : n < 26) : atI (cl "abcdefghijklmnopqrstuvwxyz") n = some (97 + n.toNat) := by
  obtain ⟨k, rfl⟩ := Int.eq_ofNat_of_zero_le h0
  refine atI_nat ?_
  have hk : k < 26 := by omega
  have e : cl (Str.ofString "abcdefghijklmnopqrstuvwxyz") = (List.range 26).map fun i => 97 + i := by decide
  rw [show cl (Str.ofString "abcdefghijklmnopqrstuvwxyz") = (List.range 26).map fun i => 97 + i from e, List.getElem?_map, List.getElem?_range hk]
  rfl
/-- s.upper() -/
def rUpper : V → List V → Hp → VK → Prop := fun x xs H Q => ∃ a : Str, x = .str a ∧ xs = [] ∧ a.length ≤ 5592405 ∧ Q (.str (Txt.upper a)) H
theorem mt_upperK {X : Cx} : MtR X "str.upper" rUpper := mt_upper
theorem upper_l {H : Hp} {Q : VK} {z : Str} (n : z.length ≤ 5592405) (q : Q (.str (Txt.upper z)) H) : rUpper (.str z) [] H Q := ⟨z, rfl, rfl, n, q⟩
theorem up_as : ∀ c, c < 128 → ∀ d ∈ Unicode.upperOf c, d < 128 := by
  have h : ((List.range 128).all fun c => (Unicode.upperOf c).all fun d => decide (d < 128)) = true := by decide +kernel
  intro c hc d hd
  have z := List.all_eq_true.mp h c (List.mem_range.mpr hc)
  exact of_decide_eq_true (List.all_eq_true.mp z d hd)
theorem Aw.up {n : Nat} {z : Str} (h : Aw n z) : Aw (3 * n) (Txt.upper z) := by
  refine ⟨fun d hd => ?_, Nat.le_trans (len_upper z) (Nat.mul_le_mul_left 3 h.ln)⟩
  have e : cl (Txt.upper z) = (z.cps.mapIdx fun _ c => (Unicode.upperOf c).toArray).flatten.toList := rfl
  rw [e] at hd
  obtain ⟨a, ha, hda⟩ := Array.mem_flatten.mp (Array.mem_toList_iff.mp hd)
  obtain ⟨i, hi, rfl⟩ := Array.mem_mapIdx.mp ha
  exact up_as _ (h.as z.cps[i] (Array.mem_toList_iff.mpr (Array.getElem_mem hi))) d (by simpa using hda)
def rNinSg : R2 := fun x y H Q => ∃ (c : Nat) (z : Str), x = .str ⟨#[c]⟩ ∧ y = .str z ∧ Q (.bl (!decide (c ∈ z.cps.toList))) H
theorem op_ninSg {X : Cx} : OpR X (compareOp .NotIn) rNinSg := op_notIn_sign
theorem ninSg_l {H : Hp} {Q : VK} {c : Nat} {z : Str} (q : Q (.bl (!decide (c ∈ z.cps.toList))) H) : rNinSg (.str ⟨#[c]⟩) (.str z) H Q := ⟨c, z, rfl, rfl, q⟩
end My
/-! Tuples of own instances compared by ==; objects made with keyword-only parameters that lack; steps whose new heap has a name. -/
namespace My
open PySem PySem.Spec PyProof.Rows
section
open PySem.SeqAt
open AutoSeq1 (wpAny_loadPart')
variable {pg : Program} {wd : World} {Ar : Around} {RR : Result → Shared → Prop}
theorem tup_walk (la lb : Addr) (us vs : Array Value) (k1 k2 : Nat) (d1 d2 : Option Addr) (z1 z2 : Array (Option Value)) (ev : Nat → Bool) (Iv : Shared → Prop)
    (one : ∀ j (g1 : j < us.size) (g2 : j < vs.size) st, Iv st → wpAny (model pg wd) Ar.in1 (eqBool us[j] vs[j]) (fun r st' => r = ev j ∧ Iv st') (fun er st' => RR (.error er) st') st)
    (last : ∀ st, Iv st → RR (.ok (.ret (.bool ((List.range (min us.size vs.size)).all ev && us.size == vs.size)))) st) {st : Shared} (ga : st.heap.get? la = some { cls := .type "tuple", dict := d1, data := .seq us k1, slots := z1 }) (gb : st.heap.get? lb = some { cls := .type "tuple", dict := d2, data := .seq vs k2, slots := z2 }) (i0 : Iv st) :
    wpAny (model pg wd) Ar.in1 (Builtin.«tuple.__eq__» ⟨[.ref la, .ref lb], []⟩) (GQ.FinOf pg wd Ar RR) (fun er st' => RR (.error er) st') st := by
  have sub2 := AutoSeq1.sub_tuple_tuple
  have hZ : (us.toList.zip vs.toList).length = min us.size vs.size := by simp
  have stop : ∀ st j, j < min us.size vs.size → ev j = false → Iv st → RR (.ok (.ret (.bool false))) st := fun st j hj e q => by
    have z := last st q
    have a : (List.range (min us.size vs.size)).all ev = false := List.all_eq_false.mpr ⟨j, List.mem_range.mpr hj, by rw [e]; decide⟩
    rw [a, Bool.false_and] at z
    exact z
  have i1 := i0
  obtain ⟨hp, g, d, tk, os⟩ := st
  wp_walk using wpAny_loadPart' ga, wpAny_loadPart' gb, wpAny_forIn_list _ (fun more b st' => b.1 = none ∧ ∃ i, more = (us.toList.zip vs.toList).drop i ∧ i ≤ min us.size vs.size ∧ Iv st' ∧ ∀ j, j < i → ev j = true) _
  case turn =>
    rintro ⟨y, x⟩ more b st' ⟨nb, i, hz, hi, q, al⟩
    have hlt : i < (us.toList.zip vs.toList).length := by
      rcases Nat.lt_or_ge i (us.toList.zip vs.toList).length with u | u
      · exact u
      · rw [List.drop_of_length_le u] at hz; cases hz
    have hm : i < min us.size vs.size := hZ ▸ hlt
    have g1 : i < us.size := Nat.lt_of_lt_of_le hm (Nat.min_le_left _ _)
    have g2 : i < vs.size := Nat.lt_of_lt_of_le hm (Nat.min_le_right _ _)
    rw [List.drop_eq_getElem_cons hlt] at hz
    injection hz with hyx tail
    have ey : y = us[i] := by have := congrArg Prod.fst hyx; simpa using this
    have ex : x = vs[i] := by have := congrArg Prod.snd hyx; simpa using this
    subst ey ex
    refine wpAny_bind (wpAny_mono (one i g1 g2 st' q) (fun r st2 q2 => ?_) fun _ _ z => z)
    obtain ⟨hr, q2⟩ := q2
    cases he : ev i with
    | true =>
      rw [he] at hr
      subst hr
      wp_walk
      refine ⟨rfl, i + 1, tail, hm, q2, fun j hj => ?_⟩
      by_cases ej : j = i
      · rw [ej]; exact he
      · exact al j (by omega)
    | false =>
      have w := stop st2 i hm he q2
      rw [he] at hr
      subst hr
      wp_walk
      exact w
  case fin =>
    rintro ⟨b1, b2⟩ st' ⟨nb, i, hz, hi, q, al⟩
    simp only at nb
    subst nb
    have ei : i = min us.size vs.size := by
      rcases Nat.lt_or_ge i (us.toList.zip vs.toList).length with u | u
      · rw [List.drop_eq_getElem_cons u] at hz; cases hz
      · rw [hZ] at u; omega
    have a : (List.range (min us.size vs.size)).all ev = true := List.all_eq_true.mpr fun j hj => al j (by have := List.mem_range.mp hj; omega)
    have w := last st' q
    rw [a, Bool.true_and] at w
    wp_walk
    simpa [Builtin.Tuple.tupleCompareSizes] using w
  case h =>
    exact ⟨rfl, 0, rfl, Nat.zero_le _, i1, fun j hj => absurd hj (Nat.not_lt_zero _)⟩
end
section
open L2
variable {X : Cx} {k : Nat} {ps : List Str} {sp : Sp} {C : Str}
theorem run_own {f : Addr} {fd : FuncData} {pins : List (Addr × Obj)} {σ : L2.St} {H : Hp} {s : Shared} {A : Around} {a b dx dy : Addr} {fs gs : List (Str × V)} {r : Bool} (M : FnOk X.prog X.w X.K X.mg X.base CX0 k f fd ps sp) (hm : Meth X.K (He.ga X.K C) "__eq__" f) (hb : Binds X.K fd ps []) (nf : PySem.W.notFirst X.K (He.ga X.K C) (.ref (He.ga X.K C)) = true) (hr : Room k A) (fr : A.frames = X.A.frames) (I : Inv X pins σ H s) (ha : H a = some (.ins (He.ga X.K C) dx fs)) (hb' : H b = some (.ins (He.ga X.K C) dy gs)) (same : a = b → r = true)
    (q : a ≠ b → sp [.ref a, .ref b] H (fun z H' => z = .bl r ∧ Fr [] H H') E0) : wpAny (model X.prog X.w) A (eqBool (.ref a) (.ref b)) (fun v s' => v = r ∧ ∃ H', Inv X pins σ H' s' ∧ Fr [] H H') X.xe s := by
  by_cases e : a = b
  · subst e
    exact SeqAt.EqAt.same (A := A) (s := s) (.ref a) X.prog X.w X.xe _ ⟨(same rfl).symm, H, I, Fr.refl _ _⟩
  · refine GQ.eqBool_refG e ?_
    obtain ⟨mA, J, _⟩ := ins_get I.hok ha
    obtain ⟨mB, J', _⟩ := ins_get I.hok hb'
    obtain ⟨od, J, _⟩ := J.look
    obtain ⟨od', J', _⟩ := J'.look
    obtain ⟨mF, hF⟩ := I.fr
    have e0 : Env0 X.prog X.w X.K X.mg X.base A X.stack s H := by
      have z := I.env0
      exact ⟨fr ▸ z.frames, z.mod, z.bs, z.bsz, z.funs, z.frf, z.hok, z.bare⟩
    refine PySem.W.cmp_K (op := .Eq) (tb := .ref (He.ga X.K C)) hr.units0 hF I.ok.mod.kin J J'.type nf hm.at_ hm.fn ?_
    refine wpAny_mono (run_in (us := [.ref a, .ref b]) (vs := [.ref a, .ref b]) M hr e0 hb pass0 I (.cons rfl (.cons rfl .nil)) (q e)) (fun w s' z => ?_) fun _ _ x => x
    obtain ⟨z', H', I', rz, ez, F⟩ := z
    subst ez
    cases (show w = Value.bool r from rz)
    exact ⟨r, rfl, rfl, H', I', F⟩
/-- a tuple of instances of C == another one: e says which two are equal -/
def rTupC (K : PySem.W.Frag) (C : Addr) (sp : Sp) : R2 := fun x y H Q => ∃ (a b : Addr) (xs ys : List V) (e : Nat → Bool), x = .ref a ∧ y = .ref b ∧ SqT K H a xs ∧ SqT K H b ys ∧
  (∀ (i : Nat) u v, xs[i]? = some u → ys[i]? = some v → ∃ p q dx dy fs gs, u = .ref p ∧ v = .ref q ∧ H p = some (.ins C dx fs) ∧ H q = some (.ins C dy gs) ∧ (p = q → e i = true) ∧ ∀ H' (Q' : VK), Fr [] H H' → (∀ H'', Fr [] H' H'' → Q' (.bl (e i)) H'') → sp [u, v] H' Q' E0) ∧
  ∀ H', Fr [] H H' → Q (.bl ((List.range (min xs.length ys.length)).all e && xs.length == ys.length)) H'
theorem op_tupC (M : MethOf X.prog X.w X.K X.mg X.base CX0 k C "__eq__" ps sp) (nf : PySem.W.notFirst X.K (He.ga X.K C) (.ref (He.ga X.K C)) = true) (hr : Room (k + 2) X.A) : OpR X (compareOp .Eq) (rTupC X.K (He.ga X.K C) sp) := by
  obtain ⟨f, fd, Fk, hm, hb⟩ := M.ex
  intro pins s σ H x y v u Q I rx ry h
  obtain ⟨a, b, xs, ys, e, rfl, rfl, hx, hy, hp, q⟩ := h
  cases (show v = Value.ref a from rx)
  cases (show u = Value.ref b from ry)
  obtain ⟨its, r1, w1, _⟩ := I.tuple hx
  obtain ⟨jts, r2, w2, _⟩ := I.tuple hy
  obtain ⟨⟨c1, d1, t1, z1⟩, o1, h1, n1, g1⟩ := id w1
  obtain ⟨⟨c2, d2, t2, z2⟩, o2, h2, n2, g2⟩ := id w2
  simp only at h1 g1 h2 g2
  subst h1 g1 h2 g2
  show wpAny _ _ (richCompare .Eq _ _) _ _ _
  refine wpAny_richCompare_same_room (op := .Eq) ⟨_, o1, rfl⟩ ⟨_, o2, rfl⟩ PySem.F.slot_tuple_eq (GQ.call_here PySem.F.slot_tuple_eq ⟨_, o1, rfl⟩ PySem.F.entry_tuple_eq (PySem.F.args_tuple_eq_2 _ _) ?_) hr.units0
  refine tup_walk (RR := wants (fun v s' => v ≠ .notImplemented ∧ EP X pins σ Q v s') X.xe) a b its.toArray jts.toArray n1 n2 d1 d2 z1 z2 e (fun s' => ∃ H', Inv X pins σ H' s' ∧ Fr [] H H') (fun j j1 j2 s' z => ?_) (fun s' z => ?_) o1 o2 ⟨H, I, Fr.refl _ _⟩
  · obtain ⟨H1, I1, F1⟩ := z
    have k1 : j < xs.length := by rw [r1.length]; simpa using j1
    have k2 : j < ys.length := by rw [r2.length]; simpa using j2
    obtain ⟨u1, hu, ru⟩ := r1.get (List.getElem?_eq_getElem k1)
    obtain ⟨v1, hv, rv⟩ := r2.get (List.getElem?_eq_getElem k2)
    obtain ⟨p, q', dx, dy, fs, gs, eu, ev, ep, eq, sm, run⟩ := hp j _ _ (List.getElem?_eq_getElem k1) (List.getElem?_eq_getElem k2)
    have a1 : its.toArray[j] = .ref p := by
      rw [eu] at ru
      have z : its[j]? = some its.toArray[j] := by rw [List.getElem?_eq_getElem (by simpa using j1)] <;> simp
      rw [z] at hu
      rw [Option.some.inj hu]
      exact ru
    have a2 : jts.toArray[j] = .ref q' := by
      rw [ev] at rv
      have z : jts[j]? = some jts.toArray[j] := by rw [List.getElem?_eq_getElem (by simpa using j2)] <;> simp
      rw [z] at hv
      rw [Option.some.inj hv]
      exact rv
    rw [a1, a2]
    refine wpAny_mono (run_own Fk hm hb nf ((Room.in1 hr).mono (Nat.le_succ k)) rfl I1 (F1.1 _ _ (by simp) ep) (F1.1 _ _ (by simp) eq) sm fun _ => ?_) (fun r s2 w => ?_) fun _ _ x => x
    · rw [← eu, ← ev]
      exact run H1 _ F1 fun H'' F2 => ⟨rfl, F2⟩
    · obtain ⟨e1, H2, I2, F2⟩ := w
      exact ⟨e1, H2, I2, F1.trans F2⟩
  · obtain ⟨H1, I1, F1⟩ := z
    have w := q H1 F1
    rw [List.size_toArray, List.size_toArray, ← r1.length, ← r2.length]
    have z : EP X pins σ Q (.bool ((List.range (min xs.length ys.length)).all e && xs.length == ys.length)) s' := ⟨V.bl _, H1, I1, rfl, w⟩
    exact ⟨(fun z => nomatch z), z⟩
end
section
variable {X : Cx} {k n : Nat} {d : He.DefD} {C : Str} {ps ks : List Str} {sp : Sp} {e : Expr} {es : List Expr} {t tk : TA} {p pos : Pos} {E : L2.St → XK} {kws : List Keyword}
open L2
theorem pass_cx {X : Cx} {σ : L2.St} : PassesAt (L2.CX X.prog X.w) X σ E0 := fun _ _ _ _ _ _ c => by
  obtain ⟨_, _, _, _, _, _, _, _, _, _, _, _, h⟩ := c
  exact h.elim
theorem kwEnd {α : Type} {D : Addr} {t : Sem α} {r : α} (h : t = pure r) : KwChain D [] t r := h
/-- C(e, .., k = v, ..) where the keyword-only parameters ms lack -/
theorem pe_mkD {CX : CXT} {K : PySem.W.Frag} (hK : X.K = K) (M : MakeOfK X.prog X.w X.K X.mg X.base CX k d C ps sp) (ms : List (Str × V)) (g : {α : Type} → List α → List α → List α → List α) (hms : ∀ q ∈ ms, q ∈ d.kws K) (hne : d.kws K ≠ []) (hr : Room (k + 1) X.A) (hx : ∀ σ, PassesAt CX X σ (E σ)) (hg : Gl X C) (ha : PA X (e :: es) t) (hkw : PK X kws tk)
    (hb : ∀ (D : Addr) (doc pm : Value) (an : Option Addr) (cdv ct : Value) (x : Value) (us mv ws : List Value), us.length = n → mv.length = ms.length → ws.length = ks.length → KwChain D ((ms.map (·.1)).zip mv) (bindArgs (PySem.W.fnOf d.name d.qual d.params d.body d.scope .none (.ref D) doc pm an cdv ct) ⟨x :: us, ks.zip ws⟩) (ps.zip (x :: g us mv ws)))
    (hv : ∀ {vs mz zs : List V} {us mv ws : List Value}, Vals vs us → Vals mz mv → Vals zs ws → Vals (g vs mz zs) (g us mv ws))
    (hall : (backToKw pos (keywordEach kws X.env)).all (·.1.isSome) = true := by rfl) (hks : (backToKw pos (keywordEach kws X.env)).filterMap (·.1) = ks := by rfl) (hdb : (C == ("__debug__" : Str)) = false := by decide) (he : starEach (e :: es) X.env = (false, eval e X.env) :: starEach es X.env := by rfl)
    (hpl : ((backTo pos (starEach (e :: es) X.env)).any (·.1) || (backToKw pos (keywordEach kws X.env)).any (·.1.isNone)) = false := by rfl) : PE X (.Call (.Name C p) (e :: es) kws pos) (tMakeM (He.ga K C) sp (fun vs zs => g vs (ms.map (·.2)) zs) n ks.length E t tk) := by
  subst hK
  obtain ⟨f, fd, F, hm, FD⟩ := M.ex
  obtain ⟨oc, od, dV, kV, doc, pm, an, cdv, ct, osl, rfl, lk, hcd, hD, hKw⟩ := FD.ex
  rcases hKw with z | ⟨D, rfl, hq⟩
  · exact absurd z hne
  obtain ⟨mv, lm, rm, hks2⟩ := kwd_vals (ms := ms) fun q hq' => hq q (hms q hq')
  refine ⟨fun pins s σ H Q I h => ?_⟩
  refine wpAny_Call_Name_kw (ld_glob I hg M.gl ?_ hdb)
  refine PySem.W.callWith_KW (h₀ := X.base) I.ok.mod.kin hm.kp hall (thn (ha.run pos pins s σ H _ I h) fun us s1 ⟨vs, H1, I1, r, q⟩ => ?_) hpl he
  refine thn (hkw.run pos pins s1 σ H1 _ I1 q) fun ws s2 ⟨zs, H2, I2, rz, l1, l2, q2⟩ => ⟨I2.kIn, ?_⟩
  rw [hks]
  refine run_mkS (ws := g us mv ws) hm F hr (fun s x hk => ?_) (hx σ) I2 (hv r rm rz) q2
  rcases hD with ⟨_, rfl⟩ | ⟨z, _⟩
  · exact BindsTo.of_looks fun M => KwChain.looks hk hks2 (hb D doc pm an cdv ct (.ref x) us mv ws (by rw [← r.length]; exact l1) lm (by rw [← rz.length]; exact l2))
  · exact absurd rfl z
end
/-! steps: the heap behind them is any that holds the new object -/
section
open L2
variable {K : PySem.W.Frag} {H : Hp} {Q : VK} {a b : Addr} {xs ys zs : List V} {lo hi : Option Int}
theorem lt_line {n : Nat} (h : n ≤ 1000) : n ≤ sizeLine := Nat.le_trans h (by decide)
theorem newQ (h : xs.length ≤ 1000) (q : ∀ p H', H p = none → H' p = some (.lst xs) → Fr [] H H' → Q (.ref p) H') : KLst Q xs H := ⟨lt_line h, fun p hp => q p _ hp upd_same (Fr.new hp)⟩
theorem newtQ (h : xs.length ≤ 1000) (q : ∀ p H', H p = none → H' p = some (.tup xs) → Fr [] H H' → Q (.ref p) H') : KTup Q xs H := ⟨lt_line h, fun p hp => q p _ hp upd_same (Fr.new hp)⟩
theorem catQ (h1 : H a = some (.lst xs)) (h2 : H b = some (.lst ys)) (e : xs ++ ys = zs) (n : zs.length ≤ 1000) (q : ∀ p H', H p = none → H' p = some (.lst zs) → Fr [] H H' → Q (.ref p) H') : rCat (.ref a) (.ref b) H Q := by
  subst e
  exact cat_l h1 h2 (by rw [← List.length_append]; exact lt_line n) fun p hp => q p _ hp upd_same (Fr.new hp)
theorem slQ (h : SqL K H a xs) (e : cutV xs lo hi = ys) (q : ∀ p H', H p = none → H' p = some (.lst ys) → Fr [] H H' → Q (.ref p) H') : rSlL K (.ref a) lo hi H Q := by
  subst e
  exact sl_l h fun p hp => q p _ hp upd_same (Fr.new hp)
theorem listQ (h : SqL K H a xs ∨ SqT K H a xs) (q : ∀ p H', H p = none → H' p = some (.lst xs) → Fr [] H H' → Q (.ref p) H') : rListOf K [.ref a] H Q := listOf_l h fun p hp => q p _ hp upd_same (Fr.new hp)
theorem tupQ (h : SqL K H a xs ∨ SqT K H a xs) (q : ∀ p H', SqT K H' p xs → Fr [] H H' → Q (.ref p) H') : rTupOf K [.ref a] H Q := by
  rcases h with h | h
  · exact tupOf_l h fun p hp => q p _ (SqT.of upd_same) (Fr.new hp)
  · exact tupOf_t h (q a H h (Fr.refl _ _))
theorem pop_l {y : V} (h : H a = some (.lst (xs ++ [y]))) (q : Q y (upd H a (.lst xs))) : rPop (.ref a) [] H Q := by
  refine ⟨a, xs ++ [y], y, rfl, rfl, h, by simp, ?_⟩
  rw [List.dropLast_concat]
  exact q
theorem rev_l (h : H a = some (.lst xs)) (q : Q .non (upd H a (.lst xs.reverse))) : rReverse (.ref a) [] H Q := ⟨a, xs, rfl, rfl, h, q⟩
theorem clear_l (h : H a = some (.lst xs)) (q : Q .non (upd H a (.lst []))) : rClear (.ref a) [] H Q := ⟨a, xs, rfl, rfl, h, q⟩
theorem mt_popK {X : Cx} : MtR X "list.pop" rPop := mt_pop
theorem mt_reverseK {X : Cx} : MtR X "list.reverse" rReverse := mt_reverse
theorem mt_clearK {X : Cx} : MtR X "list.clear" rClear := mt_clear
def KRevL (K : PySem.W.Frag) (Q : VK) : VK := fun x H1 => ∃ a xs, x = .ref a ∧ SqL K H1 a xs ∧ ∀ p, H1 p = none → Q (.ref p) (upd H1 p (.lst xs.reverse))
theorem mw_revL {te : TE} {σ : L2.St} : tRevL K te σ H Q = te σ H (KRevL K Q) := rfl
theorem revQ (h : SqL K H a xs) (q : ∀ p H', H p = none → H' p = some (.lst xs.reverse) → Fr [] H H' → Q (.ref p) H') : KRevL K Q (.ref a) H := ⟨a, xs, rfl, h, fun p hp => q p _ hp upd_same (Fr.new hp)⟩
theorem catTQ (h1 : SqT K H a xs) (h2 : SqT K H b ys) (n1 : xs ≠ []) (n2 : ys ≠ []) (n : xs.length + ys.length ≤ 1000) (q : ∀ p H', H p = none → H' p = some (.tup (xs ++ ys)) → Fr [] H H' → Q (.ref p) H') : rCatT K (.ref a) (.ref b) H Q :=
  ⟨a, b, xs, ys, rfl, rfl, h1, h2, n1, lt_line n, fun z => absurd z n2, fun _ p hp => q p _ hp upd_same (Fr.new hp)⟩
theorem slTQ (h : SqT K H a xs) (w : ¬ (HT.sIx xs.length 0 lo = 0 ∧ HT.sIx xs.length xs.length hi = xs.length)) (q : ∀ p H', H p = none → H' p = some (.tup (cutV xs lo hi)) → Fr [] H H' → Q (.ref p) H') : rSlT K (.ref a) lo hi H Q := ⟨a, xs, rfl, h, w, fun p hp => q p _ hp upd_same (Fr.new hp)⟩
end
/-! a method that may let an error out -/
section
open L2
variable {X : Cx} {CX : CXT} {k : Nat} {f : Addr} {fd : FuncData} {ps : List Str} {sp : Sp} {E : L2.St → XK} {EX : XK} {pins : List (Addr × Obj)} {σ : L2.St} {H : Hp} {s : Shared} {Q : VK} {us : List Value} {vs : List V} {A : Around} {C m : Str} {o e : Expr} {es : List Expr} {ta : TE} {t : TA} {pos apos : Pos}
theorem run_inS (F : FnOk X.prog X.w X.K X.mg X.base CX k f fd ps sp) (hr : Room k A) (e0 : Env0 X.prog X.w X.K X.mg X.base A X.stack s H) (hb : Binds X.K fd ps []) (hx : PassesAt CX X σ EX) (I : Inv X pins σ H s) (r : Vals vs us) (h : sp vs H Q EX) :
    wpAny (model X.prog X.w) A (call (.ref f) us) (EP X pins σ Q) X.xe s := by
  have hl : (us ++ []).length = ps.length := by rw [List.append_nil, ← r.length]; exact F.len _ _ _ _ h
  have hbd := hb s us I.kIn hl
  rw [List.append_nil] at hbd
  refine wpAny_call (codeAny_mono (F.run A X.stack s H ⟨us, []⟩ us vs Q EX hr e0 hbd r h) fun z s' hq => ?_)
  cases z with
  | error e => exact hx pins H s e s' I hq
  | ok fl =>
    cases fl with
    | ret u => exact I.after hq
    | next => exact False.elim hq
    | brk => exact False.elim hq
    | cont => exact False.elim hq
def KMethE (C : Addr) (m : Str) (sp : Sp) (E : XK) (t : TA) (σ : L2.St) (Q : VK) : VK := fun x H1 => ∃ a dx fs, x = .ref a ∧ H1 a = some (.ins C dx fs) ∧ fs.lookup m = none ∧ t σ H1 fun vs H2 => sp (x :: vs) H2 Q E
def tMethE (C : Addr) (m : Str) (sp : Sp) (E : L2.St → XK) (ta : TE) (t : TA) : TE := fun σ H Q => ta σ H (KMethE C m sp (E σ) t σ Q)
theorem mw_methE {C : Addr} : tMethE C m sp E ta t σ H Q = ta σ H (KMethE C m sp (E σ) t σ Q) := rfl
theorem pe_meS {K : PySem.W.Frag} {pl : Sem Bool} (hK : X.K = K) (M : MethOf X.prog X.w X.K X.mg X.base CX k C m ps sp) (he : PE X o ta) (hr : Room k X.A) (hx : ∀ σ, PassesAt CX X σ (E σ)) (ha : PA X (e :: es) t) (hst : starEach (e :: es) X.env = (false, eval e X.env) :: starEach es X.env := by rfl) (hpl : (backTo pos (starEach es X.env)).any (·.1) = false := by rfl)
    (ht : eval (.Call (.Attribute o m apos) (e :: es) [] pos) X.env = (do
      let ov ← eval o X.env
      standAt apos.atName
      let (fv, recv) ← holding [ov] (getMethod ov m pl)
      callWith pos fv recv (backTo pos (starEach (e :: es) X.env)) (backToKw pos (keywordEach [] X.env))) := by rfl) : PE X (.Call (.Attribute o m apos) (e :: es) [] pos) (tMethE (He.ga K C) m sp E ta t) := by
  subst hK
  obtain ⟨f, fd, F, hm, hb⟩ := M.ex
  refine ⟨fun pins s σ H Q I h => ?_⟩
  refine PySem.W.methodCall_KW (pl := pl) (thn (he.run pins s σ H _ I h) fun u s1 ⟨x, H1, I1, rx, a, dx, fs, ex, ea, l, q⟩ => ?_) ht
  subst ex
  obtain rfl : u = Value.ref a := rx
  refine getmeth_ok I1 ea M.cl hm l ?_
  refine PySem.W.callWith_K (first := [.ref a]) (h₀ := X.base) I.ok.mod.kin hm.kp (thn (ha.run pos pins s1 σ H1 _ I1 q) fun us s2 ⟨vs, H2, I2, r, q2⟩ => ⟨I2.kIn, ?_⟩) hst hpl
  exact run_inS (us := .ref a :: us) (vs := .ref a :: vs) F hr I2.env0 hb (hx σ) I2 (.cons rfl r) q2
theorem methE_l {K : PySem.W.Frag} {EX : XK} {a dx : Addr} {fs : List (Str × V)} (h : H a = some (.ins (He.ga K C) dx fs)) (l : fs.lookup m = none) (q : t σ H fun vs H2 => sp (.ref a :: vs) H2 Q EX) : KMethE (He.ga K C) m sp EX t σ Q (.ref a) H := ⟨a, dx, fs, rfl, h, l, q⟩
end
end My
namespace K41
open PySem PySem.Spec PyProof.Rows L2 My
/-- the empty tuple that stands for a keyword that lacks -/
def kwA (x : Str) : PySem.W.Frag → Addr := fun K => match K.lookup (He.fAd K ("Scheme", some "__init__")) with
  | some ⟨_, _, .func fd, _⟩ => (match fd.kwdefaults with
    | .ref D => (match PySem.W.nsIn K D x with
      | some (some (.ref a)) => a
      | _ => 0)
    | _ => 0)
  | _ => 0
def xKwT (x : Str) : Xf := fun K => match K.lookup (kwA x K) with
  | some ⟨.type c, _, .seq its _, _⟩ => decide (c = "tuple") && decide (its.size = 0)
  | _ => false
theorem kwT_ok {K : PySem.W.Frag} {x : Str} (h : xKwT x K = true) (H : Hp) : SqT K H (kwA x K) [] := by
  unfold xKwT at h
  split at h
  · rename_i c d its n sl e
    obtain ⟨h1, h2⟩ := He.ba h
    have h2 := of_decide_eq_true h2
    refine .inr ⟨_, its, n, e, congrArg Value.type (of_decide_eq_true h1), rfl, by rw [h2]; exact Nat.zero_le _, ?_⟩
    rw [List.length_eq_zero_iff.mp (show its.toList.length = 0 by rw [Array.length_toList]; exact h2)]
    exact .nil
  · cases h
/-! the text by places -/
def top (i : Nat) : Stmt := PySem.Challenge.pw_windowrows_k41_schemes.main.body.getD i (.Pass ⟨0, 0, 0, 0⟩)
abbrev s__wall : Stmt := top 0
abbrev s_BadScheme___init__ : Stmt := inClass (top 3) 0
abbrev s_UnknownSort___init__ : Stmt := inClass (top 4) 0
abbrev s_is_name : Stmt := top 9
abbrev s_Sort___init__ : Stmt := inClass (top 11) 0
abbrev s_Sort___eq__ : Stmt := inClass (top 11) 1
abbrev s_Scheme___init__ : Stmt := inClass (top 12) 0
abbrev s_Scheme_columns : Stmt := inClass (top 12) 1
abbrev s_Scheme_sort_names : Stmt := inClass (top 12) 2
abbrev s_Scheme_sort_named : Stmt := inClass (top 12) 3
abbrev s_Scheme_check_columns : Stmt := inClass (top 12) 4
abbrev s_Scheme___eq__ : Stmt := inClass (top 12) 5
abbrev s__check_names : Stmt := top 13
abbrev s__check_different : Stmt := top 14
abbrev s__check_parts : Stmt := top 15
abbrev s__law_begin : Stmt := top 17
abbrev s__law_draw : Stmt := top 18
abbrev s__law_name : Stmt := top 19
abbrev s__law_names : Stmt := top 20
abbrev s__law_spec : Stmt := top 21
abbrev s__law_sort : Stmt := top 22
abbrev s__law_made : Stmt := top 23
abbrev s__law_told : Stmt := top 24
abbrev s__law_columns : Stmt := top 25
abbrev s__law_due : Stmt := top 26
abbrev s__law_four : Stmt := top 27
abbrev s__law_named : Stmt := top 28
abbrev s__law_names_right : Stmt := top 29
abbrev s__law_called : Stmt := top 30
abbrev s__law_changed : Stmt := top 31
abbrev s__law_right : Stmt := top 32
abbrev s__law_sorts_right : Stmt := top 33
abbrev s_law : Stmt := top 34
theorem sc__wall : FnScope ["k"] ["k"] (defScope s__wall) := ⟨rfl, rfl, rfl, by decide +kernel, rfl, by decide +kernel, by decide +kernel⟩
theorem sc_BadScheme___init__ : FnScope ["self", "word"] ["self", "word"] (defScope s_BadScheme___init__) := ⟨rfl, rfl, rfl, by decide +kernel, rfl, by decide +kernel, by decide +kernel⟩
theorem sc_UnknownSort___init__ : FnScope ["self", "name"] ["self", "name"] (defScope s_UnknownSort___init__) := ⟨rfl, rfl, rfl, by decide +kernel, rfl, by decide +kernel, by decide +kernel⟩
theorem sc_is_name : FnScope ["word", "letter"] ["word"] (defScope s_is_name) := ⟨rfl, rfl, rfl, by decide +kernel, rfl, by decide +kernel, by decide +kernel⟩
theorem sc_Sort___init__ : FnScope ["self", "name", "key", "part", "descending"] ["self", "name", "key", "part", "descending"] (defScope s_Sort___init__) := ⟨rfl, rfl, rfl, by decide +kernel, rfl, by decide +kernel, by decide +kernel⟩
theorem sc_Sort___eq__ : FnScope ["self", "other"] ["self", "other"] (defScope s_Sort___eq__) := ⟨rfl, rfl, rfl, by decide +kernel, rfl, by decide +kernel, by decide +kernel⟩
theorem sc_Scheme___init__ : FnScope ["self", "sorts", "parts", "values", "marks"] ["self", "sorts", "parts", "values", "marks"] (defScope s_Scheme___init__) := ⟨rfl, rfl, rfl, by decide +kernel, rfl, by decide +kernel, by decide +kernel⟩
theorem sc_Scheme_columns : FnScope ["self", "keys", "sort"] ["self"] (defScope s_Scheme_columns) := ⟨rfl, rfl, rfl, by decide +kernel, rfl, by decide +kernel, by decide +kernel⟩
theorem sc_Scheme_sort_names : FnScope ["self", "sort"] ["self"] (defScope s_Scheme_sort_names) := ⟨rfl, rfl, rfl, by decide +kernel, rfl, by decide +kernel, by decide +kernel⟩
theorem sc_Scheme_sort_named : FnScope ["self", "name", "sort"] ["self", "name"] (defScope s_Scheme_sort_named) := ⟨rfl, rfl, rfl, by decide +kernel, rfl, by decide +kernel, by decide +kernel⟩
theorem sc_Scheme_check_columns : FnScope ["self", "columns"] ["self", "columns"] (defScope s_Scheme_check_columns) := ⟨rfl, rfl, rfl, by decide +kernel, rfl, by decide +kernel, by decide +kernel⟩
theorem sc_Scheme___eq__ : FnScope ["self", "other"] ["self", "other"] (defScope s_Scheme___eq__) := ⟨rfl, rfl, rfl, by decide +kernel, rfl, by decide +kernel, by decide +kernel⟩
theorem sc__check_names : FnScope ["words", "word"] ["words"] (defScope s__check_names) := ⟨rfl, rfl, rfl, by decide +kernel, rfl, by decide +kernel, by decide +kernel⟩
theorem sc__check_different : FnScope ["names", "index", "name"] ["names"] (defScope s__check_different) := ⟨rfl, rfl, rfl, by decide +kernel, rfl, by decide +kernel, by decide +kernel⟩
theorem sc__check_parts : FnScope ["sorts", "part_columns", "sort"] ["sorts", "part_columns"] (defScope s__check_parts) := ⟨rfl, rfl, rfl, by decide +kernel, rfl, by decide +kernel, by decide +kernel⟩
theorem sc__law_begin : FnScope ["_law_script", "_law_cells", "_law_rests", "_law_cell"] ["_law_script"] (defScope s__law_begin) := ⟨rfl, rfl, rfl, by decide +kernel, rfl, by decide +kernel, by decide +kernel⟩
theorem sc__law_draw : FnScope ["_law_draws", "_law_many", "_law_cells", "_law_rests", "_law_turn", "_law_at", "_law_got", "_law_first", "_law_salt", "_law_second", "_law_mixed", "_law_third"] ["_law_draws", "_law_many"] (defScope s__law_draw) := ⟨rfl, rfl, rfl, by decide +kernel, rfl, by decide +kernel, by decide +kernel⟩
theorem sc__law_name : FnScope ["_law_draws", "_law_taken", "_law_letters", "_law_words", "_law_spots", "_law_step", "_law_last", "_law_word", "_law_k", "_law_spot"] ["_law_draws", "_law_taken"] (defScope s__law_name) := ⟨rfl, rfl, rfl, by decide +kernel, rfl, by decide +kernel, by decide +kernel⟩
theorem sc__law_names : FnScope ["_law_draws", "_law_taken", "_law_many", "_law_found", "_law_k", "_law_word"] ["_law_draws", "_law_taken", "_law_many"] (defScope s__law_names) := ⟨rfl, rfl, rfl, by decide +kernel, rfl, by decide +kernel, by decide +kernel⟩
theorem sc__law_spec : FnScope ["_law_draws", "_law_most", "_law_taken", "_law_called_here", "_law_sorts", "_law_halls", "_law_worths", "_law_flags", "_law_k", "_law_falling", "_law_hall", "_law_same", "_law_key"] ["_law_draws", "_law_most"] (defScope s__law_spec) := ⟨rfl, rfl, rfl, by decide +kernel, rfl, by decide +kernel, by decide +kernel⟩
theorem sc__law_sort : FnScope ["_law_one"] ["_law_one"] (defScope s__law_sort) := ⟨rfl, rfl, rfl, by decide +kernel, rfl, by decide +kernel, by decide +kernel⟩
theorem sc__law_made : FnScope ["_law_spec_here", "_law_sorts", "_law_kinds", "_law_found", "_law_words", "_law_one"] ["_law_spec_here"] (defScope s__law_made) := ⟨rfl, rfl, rfl, by decide +kernel, rfl, by decide +kernel, by decide +kernel⟩
theorem sc__law_told : FnScope ["_law_scheme", "_law_told_here"] ["_law_scheme"] (defScope s__law_told) := ⟨rfl, rfl, rfl, by decide +kernel, rfl, by decide +kernel, by decide +kernel⟩
theorem sc__law_columns : FnScope ["_law_spec_here", "_law_one"] ["_law_spec_here"] (defScope s__law_columns) := ⟨rfl, rfl, rfl, by decide +kernel, rfl, by decide +kernel, by decide +kernel⟩
theorem sc__law_due : FnScope ["_law_spec_here", "_law_told_here", "_law_one"] ["_law_spec_here"] (defScope s__law_due) := ⟨rfl, rfl, rfl, by decide +kernel, rfl, by decide +kernel, by decide +kernel⟩
theorem sc__law_four : FnScope ["_law_found"] ["_law_found"] (defScope s__law_four) := ⟨rfl, rfl, rfl, by decide +kernel, rfl, by decide +kernel, by decide +kernel⟩
theorem sc__law_named : FnScope ["_law_scheme", "_law_name_here", "_law_found", "e"] ["_law_scheme", "_law_name_here"] (defScope s__law_named) := ⟨rfl, rfl, rfl, by decide +kernel, rfl, by decide +kernel, by decide +kernel⟩
theorem sc__law_names_right : FnScope ["_law_scheme", "_law_spec_here", "_law_one", "_law_names_here", "_law_word", "_law_due_here", "_law_given"] ["_law_scheme", "_law_spec_here"] (defScope s__law_names_right) := ⟨rfl, rfl, rfl, by decide +kernel, rfl, by decide +kernel, by decide +kernel⟩
theorem sc__law_called : FnScope ["_law_draws", "_law_spec_here", "_law_one", "_law_names_here", "_law_free", "_law_at", "_law_word"] ["_law_draws", "_law_spec_here"] (defScope s__law_called) := ⟨rfl, rfl, rfl, by decide +kernel, rfl, by decide +kernel, by decide +kernel⟩
theorem sc__law_changed : FnScope ["_law_draws", "_law_spec_here", "_law_sorts", "_law_kinds", "_law_fresh", "_law_at", "_law_way", "_law_one", "_law_words"] ["_law_draws", "_law_spec_here"] (defScope s__law_changed) := ⟨rfl, rfl, rfl, by decide +kernel, rfl, by decide +kernel, by decide +kernel⟩
theorem sc__law_right : FnScope ["_law_scheme", "_law_spec_here", "_law_turn"] ["_law_scheme", "_law_spec_here"] (defScope s__law_right) := ⟨rfl, rfl, rfl, by decide +kernel, rfl, by decide +kernel, by decide +kernel⟩
theorem sc__law_sorts_right : FnScope ["_law_spec_here", "_law_other", "_law_one", "_law_two"] ["_law_spec_here", "_law_other"] (defScope s__law_sorts_right) := ⟨rfl, rfl, rfl, by decide +kernel, rfl, by decide +kernel, by decide +kernel⟩
theorem sc_law : FnScope ["_law_script", "_law_draws", "_law_turn", "_law_spec_here", "_law_other", "_law_first", "_law_second"] ["_law_script"] (defScope s_law) := ⟨rfl, rfl, rfl, by decide +kernel, rfl, by decide +kernel, by decide +kernel⟩
def d__wall : He.DefD := ⟨("_wall", none), "_wall", "_wall", defArgs s__wall, defBody s__wall, defScope s__wall, [], []⟩
def d_BadScheme___init__ : He.DefD := ⟨("BadScheme", some "__init__"), "__init__", "BadScheme.__init__", defArgs s_BadScheme___init__, defBody s_BadScheme___init__, defScope s_BadScheme___init__, [], []⟩
def d_UnknownSort___init__ : He.DefD := ⟨("UnknownSort", some "__init__"), "__init__", "UnknownSort.__init__", defArgs s_UnknownSort___init__, defBody s_UnknownSort___init__, defScope s_UnknownSort___init__, [], []⟩
def d_is_name : He.DefD := ⟨("is_name", none), "is_name", "is_name", defArgs s_is_name, defBody s_is_name, defScope s_is_name, [], []⟩
def d_Sort___init__ : He.DefD := ⟨("Sort", some "__init__"), "__init__", "Sort.__init__", defArgs s_Sort___init__, defBody s_Sort___init__, defScope s_Sort___init__, [], [("part", .non), ("descending", .bl false)]⟩
def d_Sort___eq__ : He.DefD := ⟨("Sort", some "__eq__"), "__eq__", "Sort.__eq__", defArgs s_Sort___eq__, defBody s_Sort___eq__, defScope s_Sort___eq__, [], []⟩
def d_Scheme___init__ : He.DefD := ⟨("Scheme", some "__init__"), "__init__", "Scheme.__init__", defArgs s_Scheme___init__, defBody s_Scheme___init__, defScope s_Scheme___init__, [], [("parts", .adr (kwA "parts")), ("values", .adr (kwA "values")), ("marks", .adr (kwA "marks"))]⟩
def d_Scheme_columns : He.DefD := ⟨("Scheme", some "columns"), "columns", "Scheme.columns", defArgs s_Scheme_columns, defBody s_Scheme_columns, defScope s_Scheme_columns, [], []⟩
def d_Scheme_sort_names : He.DefD := ⟨("Scheme", some "sort_names"), "sort_names", "Scheme.sort_names", defArgs s_Scheme_sort_names, defBody s_Scheme_sort_names, defScope s_Scheme_sort_names, [], []⟩
def d_Scheme_sort_named : He.DefD := ⟨("Scheme", some "sort_named"), "sort_named", "Scheme.sort_named", defArgs s_Scheme_sort_named, defBody s_Scheme_sort_named, defScope s_Scheme_sort_named, [], []⟩
def d_Scheme_check_columns : He.DefD := ⟨("Scheme", some "check_columns"), "check_columns", "Scheme.check_columns", defArgs s_Scheme_check_columns, defBody s_Scheme_check_columns, defScope s_Scheme_check_columns, [], []⟩
def d_Scheme___eq__ : He.DefD := ⟨("Scheme", some "__eq__"), "__eq__", "Scheme.__eq__", defArgs s_Scheme___eq__, defBody s_Scheme___eq__, defScope s_Scheme___eq__, [], []⟩
def d__check_names : He.DefD := ⟨("_check_names", none), "_check_names", "_check_names", defArgs s__check_names, defBody s__check_names, defScope s__check_names, [], []⟩
def d__check_different : He.DefD := ⟨("_check_different", none), "_check_different", "_check_different", defArgs s__check_different, defBody s__check_different, defScope s__check_different, [], []⟩
def d__check_parts : He.DefD := ⟨("_check_parts", none), "_check_parts", "_check_parts", defArgs s__check_parts, defBody s__check_parts, defScope s__check_parts, [], []⟩
def d__law_begin : He.DefD := ⟨("_law_begin", none), "_law_begin", "_law_begin", defArgs s__law_begin, defBody s__law_begin, defScope s__law_begin, [], []⟩
def d__law_draw : He.DefD := ⟨("_law_draw", none), "_law_draw", "_law_draw", defArgs s__law_draw, defBody s__law_draw, defScope s__law_draw, [], []⟩
def d__law_name : He.DefD := ⟨("_law_name", none), "_law_name", "_law_name", defArgs s__law_name, defBody s__law_name, defScope s__law_name, [], []⟩
def d__law_names : He.DefD := ⟨("_law_names", none), "_law_names", "_law_names", defArgs s__law_names, defBody s__law_names, defScope s__law_names, [], []⟩
def d__law_spec : He.DefD := ⟨("_law_spec", none), "_law_spec", "_law_spec", defArgs s__law_spec, defBody s__law_spec, defScope s__law_spec, [], []⟩
def d__law_sort : He.DefD := ⟨("_law_sort", none), "_law_sort", "_law_sort", defArgs s__law_sort, defBody s__law_sort, defScope s__law_sort, [], []⟩
def d__law_made : He.DefD := ⟨("_law_made", none), "_law_made", "_law_made", defArgs s__law_made, defBody s__law_made, defScope s__law_made, [], []⟩
def d__law_told : He.DefD := ⟨("_law_told", none), "_law_told", "_law_told", defArgs s__law_told, defBody s__law_told, defScope s__law_told, [], []⟩
def d__law_columns : He.DefD := ⟨("_law_columns", none), "_law_columns", "_law_columns", defArgs s__law_columns, defBody s__law_columns, defScope s__law_columns, [], []⟩
def d__law_due : He.DefD := ⟨("_law_due", none), "_law_due", "_law_due", defArgs s__law_due, defBody s__law_due, defScope s__law_due, [], []⟩
def d__law_four : He.DefD := ⟨("_law_four", none), "_law_four", "_law_four", defArgs s__law_four, defBody s__law_four, defScope s__law_four, [], []⟩
def d__law_named : He.DefD := ⟨("_law_named", none), "_law_named", "_law_named", defArgs s__law_named, defBody s__law_named, defScope s__law_named, [], []⟩
def d__law_names_right : He.DefD := ⟨("_law_names_right", none), "_law_names_right", "_law_names_right", defArgs s__law_names_right, defBody s__law_names_right, defScope s__law_names_right, [], []⟩
def d__law_called : He.DefD := ⟨("_law_called", none), "_law_called", "_law_called", defArgs s__law_called, defBody s__law_called, defScope s__law_called, [], []⟩
def d__law_changed : He.DefD := ⟨("_law_changed", none), "_law_changed", "_law_changed", defArgs s__law_changed, defBody s__law_changed, defScope s__law_changed, [], []⟩
def d__law_right : He.DefD := ⟨("_law_right", none), "_law_right", "_law_right", defArgs s__law_right, defBody s__law_right, defScope s__law_right, [], []⟩
def d__law_sorts_right : He.DefD := ⟨("_law_sorts_right", none), "_law_sorts_right", "_law_sorts_right", defArgs s__law_sorts_right, defBody s__law_sorts_right, defScope s__law_sorts_right, [], []⟩
def d_law : He.DefD := ⟨("law", none), "law", "law", defArgs s_law, defBody s_law, defScope s_law, [], []⟩
def fn : List He.DefD := [d__wall, d_BadScheme___init__, d_UnknownSort___init__, d_is_name, d_Sort___init__, d_Sort___eq__, d_Scheme___init__, d_Scheme_columns, d_Scheme_sort_names, d_Scheme_sort_named, d_Scheme_check_columns, d_Scheme___eq__, d__check_names, d__check_different, d__check_parts, d__law_begin, d__law_draw, d__law_name, d__law_names, d__law_spec, d__law_sort, d__law_made, d__law_told, d__law_columns, d__law_due, d__law_four, d__law_named, d__law_names_right, d__law_called, d__law_changed, d__law_right, d__law_sorts_right, d_law]
def fa : List He.Fa := ([.glo "_wall", .glo "is_name", .glo "_check_names", .glo "_check_different", .glo "_check_parts", .glo "_law_begin", .glo "_law_draw", .glo "_law_name", .glo "_law_names", .glo "_law_spec", .glo "_law_sort", .glo "_law_made", .glo "_law_told", .glo "_law_columns", .glo "_law_due", .glo "_law_four", .glo "_law_named", .glo "_law_names_right", .glo "_law_called", .glo "_law_changed", .glo "_law_right", .glo "_law_sorts_right", .glo "law", .free "ValueError", .free "all", .free "enumerate", .free "range", .free "repr", .free "tuple", .free "int", .free "len", .free "list", .free "isinstance", .free "abs", .glo "Sort", .cls "Sort", .noat "Sort" "name", .noat "Sort" "key", .noat "Sort" "part", .noat "Sort" "descending"] : List He.Fa) ++ ([.mkr "Sort", .meth "Sort" "__eq__", .glo "Scheme", .cls "Scheme", .noat "Scheme" "sorts", .noat "Scheme" "part_columns", .noat "Scheme" "value_columns", .noat "Scheme" "mark_columns", .mkr "Scheme", .meth "Scheme" "columns", .meth "Scheme" "sort_names", .meth "Scheme" "sort_named", .meth "Scheme" "check_columns", .meth "Scheme" "__eq__", .glo "WindowError", .glo "BadScheme", .glo "UnknownSort", .str "LETTERS" "abcdefghijklmnopqrstuvwxyz", .int "MOST_LETTERS" 8, .glo "OTHER_WORDS"] : List He.Fa)
def xs : List Xf := ([xIsi "Sort", xSelf "Sort", xNe "Sort", xNf "Sort" "NoneType", xKit "NoneType" "Sort" false, xNf "Sort" "int", xKit "int" "Sort" false, xNf "Sort" "str", xKit "str" "Sort" false, xNf "Sort" "bool", xKit "bool" "Sort" false, xNf "Sort" "list", xKit "list" "Sort" false, xNf "Sort" "tuple", xKit "tuple" "Sort" false, xNfC "Sort" "Sort", xKitC "Sort" "Sort" true, xNfC "Sort" "Scheme", xKitC "Scheme" "Sort" false, xIsi "Scheme", xSelf "Scheme", xNe "Scheme", xNf "Scheme" "NoneType", xKit "NoneType" "Scheme" false, xNf "Scheme" "int", xKit "int" "Scheme" false, xNf "Scheme" "str", xKit "str" "Scheme" false, xNf "Scheme" "bool", xKit "bool" "Scheme" false, xNf "Scheme" "list", xKit "list" "Scheme" false, xNf "Scheme" "tuple", xKit "tuple" "Scheme" false, xNfC "Scheme" "Sort", xKitC "Sort" "Scheme" false, xNfC "Scheme" "Scheme", xKitC "Scheme" "Scheme" true, xIni "BadScheme", xIniT "BadScheme"] : List Xf) ++ ([xOex "BadScheme", xXf "BadScheme", xExcC "BadScheme", xExm "BadScheme" "BadScheme" true, xNoA "BadScheme" "word", xKitC "BadScheme" "WindowError" true, xExm "BadScheme" "WindowError" true, xKitC "BadScheme" "BadScheme" true, xKitC "BadScheme" "UnknownSort" false, xExm "BadScheme" "UnknownSort" false, xKitB "BadScheme" "ValueError" true, xIni "UnknownSort", xIniT "UnknownSort", xOex "UnknownSort", xXf "UnknownSort", xExcC "UnknownSort", xExm "UnknownSort" "UnknownSort" true, xNoA "UnknownSort" "name", xKitC "UnknownSort" "WindowError" true, xExm "UnknownSort" "WindowError" true, xKitC "UnknownSort" "BadScheme" false, xExm "UnknownSort" "BadScheme" false, xKitC "UnknownSort" "UnknownSort" true, xKitB "UnknownSort" "ValueError" true, xTup "OTHER_WORDS" [.str "rows", .str "groups", .str "keys", .str "self", .str "ties", .str "group", .str "all", .str "none", .str "sum", .str "count", .str "by", .str "not"], xTupP "OTHER_WORDS", xKwT "parts", xKwT "values", xKwT "marks"] : List Xf)
abbrev E (K : PySem.W.Frag) (mg : Str → Option Value) : Prop := My.EnvX fa fn xs K mg
section
variable {K : PySem.W.Frag} {mg : Str → Option Value}
theorem free_ValueError (ev : E K mg) : mg "ValueError" = none := ev.fre 23
theorem free_all (ev : E K mg) : mg "all" = none := ev.fre 24
theorem free_enumerate (ev : E K mg) : mg "enumerate" = none := ev.fre 25
theorem free_range (ev : E K mg) : mg "range" = none := ev.fre 26
theorem free_repr (ev : E K mg) : mg "repr" = none := ev.fre 27
theorem free_tuple (ev : E K mg) : mg "tuple" = none := ev.fre 28
theorem free_int (ev : E K mg) : mg "int" = none := ev.fre 29
theorem free_len (ev : E K mg) : mg "len" = none := ev.fre 30
theorem free_list (ev : E K mg) : mg "list" = none := ev.fre 31
theorem free_isinstance (ev : E K mg) : mg "isinstance" = none := ev.fre 32
theorem free_abs (ev : E K mg) : mg "abs" = none := ev.fre 33
theorem glo_Sort (ev : E K mg) : mg "Sort" = some (.ref (He.ga K "Sort")) := ev.glo 34
theorem cls_Sort (ev : E K mg) : Cls K (He.ga K "Sort") := He.cls_ok (ev.e.c.fact 35 rfl)
theorem isi_Sort (ev : E K mg) : SlX.SIsi K (He.ga K "Sort") := isi_of (ev.xf 0)
theorem self_Sort (ev : E K mg) : PySem.W.selfFirst K (He.ga K "Sort") = true := ev.xf 1
theorem mro_Sort (ev : E K mg) : PySem.W.mroIn K (He.ga K "Sort") (.type "object") = some true := (isi_Sort ev).cm
theorem ne_Sort (ev : E K mg) : PySem.W.findIn K (.ref (He.ga K "Sort")) "__ne__" = some (some (.builtin "object.__ne__")) := He.eqO_ok (ev.xf 2)
theorem ty_Sort (ev : E K mg) {H : Hp} {a dx : Addr} {fs : List (Str × V)} (e : H a = some (.ins (He.ga K "Sort") dx fs)) : TyX K H (.ref a) (.ref (He.ga K "Sort")) := ty_ins e (cls_Sort ev) (isi_Sort ev)
theorem nf_Sort_NoneType (ev : E K mg) : PySem.W.notFirst K (He.ga K "Sort") (.type "NoneType") = true := ev.xf 3
theorem kit_NoneType_Sort (ev : E K mg) : PySem.W.kitOne K (.type "NoneType") (.ref (He.ga K "Sort")) = some false := of_decide_eq_true (ev.xf 4)
theorem nf_Sort_int (ev : E K mg) : PySem.W.notFirst K (He.ga K "Sort") (.type "int") = true := ev.xf 5
theorem kit_int_Sort (ev : E K mg) : PySem.W.kitOne K (.type "int") (.ref (He.ga K "Sort")) = some false := of_decide_eq_true (ev.xf 6)
theorem nf_Sort_str (ev : E K mg) : PySem.W.notFirst K (He.ga K "Sort") (.type "str") = true := ev.xf 7
theorem kit_str_Sort (ev : E K mg) : PySem.W.kitOne K (.type "str") (.ref (He.ga K "Sort")) = some false := of_decide_eq_true (ev.xf 8)
theorem nf_Sort_bool (ev : E K mg) : PySem.W.notFirst K (He.ga K "Sort") (.type "bool") = true := ev.xf 9
theorem kit_bool_Sort (ev : E K mg) : PySem.W.kitOne K (.type "bool") (.ref (He.ga K "Sort")) = some false := of_decide_eq_true (ev.xf 10)
theorem nf_Sort_list (ev : E K mg) : PySem.W.notFirst K (He.ga K "Sort") (.type "list") = true := ev.xf 11
theorem kit_list_Sort (ev : E K mg) : PySem.W.kitOne K (.type "list") (.ref (He.ga K "Sort")) = some false := of_decide_eq_true (ev.xf 12)
theorem nf_Sort_tuple (ev : E K mg) : PySem.W.notFirst K (He.ga K "Sort") (.type "tuple") = true := ev.xf 13
theorem kit_tuple_Sort (ev : E K mg) : PySem.W.kitOne K (.type "tuple") (.ref (He.ga K "Sort")) = some false := of_decide_eq_true (ev.xf 14)
theorem nf_Sort_Sort (ev : E K mg) : PySem.W.notFirst K (He.ga K "Sort") (.ref (He.ga K "Sort")) = true := ev.xf 15
theorem kit_Sort_Sort (ev : E K mg) : PySem.W.kitOne K (.ref (He.ga K "Sort")) (.ref (He.ga K "Sort")) = some true := of_decide_eq_true (ev.xf 16)
theorem nf_Sort_Scheme (ev : E K mg) : PySem.W.notFirst K (He.ga K "Sort") (.ref (He.ga K "Scheme")) = true := ev.xf 17
theorem kit_Scheme_Sort (ev : E K mg) : PySem.W.kitOne K (.ref (He.ga K "Scheme")) (.ref (He.ga K "Sort")) = some false := of_decide_eq_true (ev.xf 18)
theorem no_Sort_name (ev : E K mg) : NoAttr K (He.ga K "Sort") "name" := He.noat_ok (ev.e.c.fact 36 rfl)
theorem fld_Sort_name (ev : E K mg) {H : Hp} {Q : VK} {v : V} {a dx : Addr} {fs : List (Str × V)} (h : H a = some (.ins (He.ga K "Sort") dx fs)) (e : fs.lookup ("name" : Str) = some v) (q : Q v H) : KFld K "name" Q (.ref a) H := fld_l h (cls_Sort ev) (no_Sort_name ev) e q
theorem put_Sort_name (ev : E K mg) {H : Hp} {D : Ends} {σ : L2.St} {y : V} {a dx : Addr} {fs : List (Str × V)} (h : H a = some (.ins (He.ga K "Sort") dx fs)) (e : fs.length < 1000) (q : D.nx σ (upd H a (.ins (He.ga K "Sort") dx (putF "name" y fs)))) : KSf2 K y "name" D σ (.ref a) H := sf_l h (cls_Sort ev) (no_Sort_name ev) e q
theorem no_Sort_key (ev : E K mg) : NoAttr K (He.ga K "Sort") "key" := He.noat_ok (ev.e.c.fact 37 rfl)
theorem fld_Sort_key (ev : E K mg) {H : Hp} {Q : VK} {v : V} {a dx : Addr} {fs : List (Str × V)} (h : H a = some (.ins (He.ga K "Sort") dx fs)) (e : fs.lookup ("key" : Str) = some v) (q : Q v H) : KFld K "key" Q (.ref a) H := fld_l h (cls_Sort ev) (no_Sort_key ev) e q
theorem put_Sort_key (ev : E K mg) {H : Hp} {D : Ends} {σ : L2.St} {y : V} {a dx : Addr} {fs : List (Str × V)} (h : H a = some (.ins (He.ga K "Sort") dx fs)) (e : fs.length < 1000) (q : D.nx σ (upd H a (.ins (He.ga K "Sort") dx (putF "key" y fs)))) : KSf2 K y "key" D σ (.ref a) H := sf_l h (cls_Sort ev) (no_Sort_key ev) e q
theorem no_Sort_part (ev : E K mg) : NoAttr K (He.ga K "Sort") "part" := He.noat_ok (ev.e.c.fact 38 rfl)
theorem fld_Sort_part (ev : E K mg) {H : Hp} {Q : VK} {v : V} {a dx : Addr} {fs : List (Str × V)} (h : H a = some (.ins (He.ga K "Sort") dx fs)) (e : fs.lookup ("part" : Str) = some v) (q : Q v H) : KFld K "part" Q (.ref a) H := fld_l h (cls_Sort ev) (no_Sort_part ev) e q
theorem put_Sort_part (ev : E K mg) {H : Hp} {D : Ends} {σ : L2.St} {y : V} {a dx : Addr} {fs : List (Str × V)} (h : H a = some (.ins (He.ga K "Sort") dx fs)) (e : fs.length < 1000) (q : D.nx σ (upd H a (.ins (He.ga K "Sort") dx (putF "part" y fs)))) : KSf2 K y "part" D σ (.ref a) H := sf_l h (cls_Sort ev) (no_Sort_part ev) e q
theorem no_Sort_descending (ev : E K mg) : NoAttr K (He.ga K "Sort") "descending" := He.noat_ok (ev.e.c.fact 39 rfl)
theorem fld_Sort_descending (ev : E K mg) {H : Hp} {Q : VK} {v : V} {a dx : Addr} {fs : List (Str × V)} (h : H a = some (.ins (He.ga K "Sort") dx fs)) (e : fs.lookup ("descending" : Str) = some v) (q : Q v H) : KFld K "descending" Q (.ref a) H := fld_l h (cls_Sort ev) (no_Sort_descending ev) e q
theorem put_Sort_descending (ev : E K mg) {H : Hp} {D : Ends} {σ : L2.St} {y : V} {a dx : Addr} {fs : List (Str × V)} (h : H a = some (.ins (He.ga K "Sort") dx fs)) (e : fs.length < 1000) (q : D.nx σ (upd H a (.ins (He.ga K "Sort") dx (putF "descending" y fs)))) : KSf2 K y "descending" D σ (.ref a) H := sf_l h (cls_Sort ev) (no_Sort_descending ev) e q
theorem ini_Sort_name (ev : E K mg) {H : Hp} {D : Ends} {σ : L2.St} {y : V} {a dx : Addr} (h : H a = some (.ins (He.ga K "Sort") dx [])) (q : D.nx σ (upd H a (.ins (He.ga K "Sort") dx [(("name" : Str), y)]))) : KSf2 K y "name" D σ (.ref a) H := put_Sort_name ev h (by show 0 < 1000; decide) (by rw [show putF "name" y ([] : List (Str × V)) = [(("name" : Str), y)] from by kernel_rfl]; exact q)
theorem iniQ_Sort_name (ev : E K mg) {H : Hp} {D : Ends} {σ : L2.St} {y : V} {a dx : Addr} (h : H a = some (.ins (He.ga K "Sort") dx [])) (q : ∀ H', H' a = some (.ins (He.ga K "Sort") dx [(("name" : Str), y)]) → My.Fr [a] H H' → D.nx σ H') : KSf2 K y "name" D σ (.ref a) H := ini_Sort_name ev h (q _ upd_same ((Fr.refl _ _).put (by simp)))
theorem ini_Sort_key (ev : E K mg) {H : Hp} {D : Ends} {σ : L2.St} {y : V} {x0 : V} {a dx : Addr} (h : H a = some (.ins (He.ga K "Sort") dx [(("name" : Str), x0)])) (q : D.nx σ (upd H a (.ins (He.ga K "Sort") dx [(("name" : Str), x0), (("key" : Str), y)]))) : KSf2 K y "key" D σ (.ref a) H := put_Sort_key ev h (by show 1 < 1000; decide) (by rw [show putF "key" y ([(("name" : Str), x0)] : List (Str × V)) = [(("name" : Str), x0), (("key" : Str), y)] from by kernel_rfl]; exact q)
theorem iniQ_Sort_key (ev : E K mg) {H : Hp} {D : Ends} {σ : L2.St} {y : V} {x0 : V} {a dx : Addr} (h : H a = some (.ins (He.ga K "Sort") dx [(("name" : Str), x0)])) (q : ∀ H', H' a = some (.ins (He.ga K "Sort") dx [(("name" : Str), x0), (("key" : Str), y)]) → My.Fr [a] H H' → D.nx σ H') : KSf2 K y "key" D σ (.ref a) H := ini_Sort_key ev h (q _ upd_same ((Fr.refl _ _).put (by simp)))
theorem ini_Sort_part (ev : E K mg) {H : Hp} {D : Ends} {σ : L2.St} {y : V} {x0 x1 : V} {a dx : Addr} (h : H a = some (.ins (He.ga K "Sort") dx [(("name" : Str), x0), (("key" : Str), x1)])) (q : D.nx σ (upd H a (.ins (He.ga K "Sort") dx [(("name" : Str), x0), (("key" : Str), x1), (("part" : Str), y)]))) : KSf2 K y "part" D σ (.ref a) H := put_Sort_part ev h (by show 2 < 1000; decide) (by rw [show putF "part" y ([(("name" : Str), x0), (("key" : Str), x1)] : List (Str × V)) = [(("name" : Str), x0), (("key" : Str), x1), (("part" : Str), y)] from by kernel_rfl]; exact q)
theorem iniQ_Sort_part (ev : E K mg) {H : Hp} {D : Ends} {σ : L2.St} {y : V} {x0 x1 : V} {a dx : Addr} (h : H a = some (.ins (He.ga K "Sort") dx [(("name" : Str), x0), (("key" : Str), x1)])) (q : ∀ H', H' a = some (.ins (He.ga K "Sort") dx [(("name" : Str), x0), (("key" : Str), x1), (("part" : Str), y)]) → My.Fr [a] H H' → D.nx σ H') : KSf2 K y "part" D σ (.ref a) H := ini_Sort_part ev h (q _ upd_same ((Fr.refl _ _).put (by simp)))
theorem ini_Sort_descending (ev : E K mg) {H : Hp} {D : Ends} {σ : L2.St} {y : V} {x0 x1 x2 : V} {a dx : Addr} (h : H a = some (.ins (He.ga K "Sort") dx [(("name" : Str), x0), (("key" : Str), x1), (("part" : Str), x2)])) (q : D.nx σ (upd H a (.ins (He.ga K "Sort") dx [(("name" : Str), x0), (("key" : Str), x1), (("part" : Str), x2), (("descending" : Str), y)]))) : KSf2 K y "descending" D σ (.ref a) H := put_Sort_descending ev h (by show 3 < 1000; decide) (by rw [show putF "descending" y ([(("name" : Str), x0), (("key" : Str), x1), (("part" : Str), x2)] : List (Str × V)) = [(("name" : Str), x0), (("key" : Str), x1), (("part" : Str), x2), (("descending" : Str), y)] from by kernel_rfl]; exact q)
theorem iniQ_Sort_descending (ev : E K mg) {H : Hp} {D : Ends} {σ : L2.St} {y : V} {x0 x1 x2 : V} {a dx : Addr} (h : H a = some (.ins (He.ga K "Sort") dx [(("name" : Str), x0), (("key" : Str), x1), (("part" : Str), x2)])) (q : ∀ H', H' a = some (.ins (He.ga K "Sort") dx [(("name" : Str), x0), (("key" : Str), x1), (("part" : Str), x2), (("descending" : Str), y)]) → My.Fr [a] H H' → D.nx σ H') : KSf2 K y "descending" D σ (.ref a) H := ini_Sort_descending ev h (q _ upd_same ((Fr.refl _ _).put (by simp)))
theorem mkr_Sort (ev : E K mg) : Mk K (He.ga K "Sort") (He.ma K (He.ga K "Sort") "__init__") := He.mkr_ok (ev.e.c.fact 40 rfl)
theorem meth_Sort___eq__ (ev : E K mg) : Meth K (He.ga K "Sort") "__eq__" (He.ma K (He.ga K "Sort") "__eq__") := He.meth_ok (ev.e.c.fact 41 rfl)
theorem glo_Scheme (ev : E K mg) : mg "Scheme" = some (.ref (He.ga K "Scheme")) := ev.glo 42
theorem cls_Scheme (ev : E K mg) : Cls K (He.ga K "Scheme") := He.cls_ok (ev.e.c.fact 43 rfl)
theorem isi_Scheme (ev : E K mg) : SlX.SIsi K (He.ga K "Scheme") := isi_of (ev.xf 19)
theorem self_Scheme (ev : E K mg) : PySem.W.selfFirst K (He.ga K "Scheme") = true := ev.xf 20
theorem mro_Scheme (ev : E K mg) : PySem.W.mroIn K (He.ga K "Scheme") (.type "object") = some true := (isi_Scheme ev).cm
theorem ne_Scheme (ev : E K mg) : PySem.W.findIn K (.ref (He.ga K "Scheme")) "__ne__" = some (some (.builtin "object.__ne__")) := He.eqO_ok (ev.xf 21)
theorem ty_Scheme (ev : E K mg) {H : Hp} {a dx : Addr} {fs : List (Str × V)} (e : H a = some (.ins (He.ga K "Scheme") dx fs)) : TyX K H (.ref a) (.ref (He.ga K "Scheme")) := ty_ins e (cls_Scheme ev) (isi_Scheme ev)
theorem nf_Scheme_NoneType (ev : E K mg) : PySem.W.notFirst K (He.ga K "Scheme") (.type "NoneType") = true := ev.xf 22
theorem kit_NoneType_Scheme (ev : E K mg) : PySem.W.kitOne K (.type "NoneType") (.ref (He.ga K "Scheme")) = some false := of_decide_eq_true (ev.xf 23)
theorem nf_Scheme_int (ev : E K mg) : PySem.W.notFirst K (He.ga K "Scheme") (.type "int") = true := ev.xf 24
theorem kit_int_Scheme (ev : E K mg) : PySem.W.kitOne K (.type "int") (.ref (He.ga K "Scheme")) = some false := of_decide_eq_true (ev.xf 25)
theorem nf_Scheme_str (ev : E K mg) : PySem.W.notFirst K (He.ga K "Scheme") (.type "str") = true := ev.xf 26
theorem kit_str_Scheme (ev : E K mg) : PySem.W.kitOne K (.type "str") (.ref (He.ga K "Scheme")) = some false := of_decide_eq_true (ev.xf 27)
theorem nf_Scheme_bool (ev : E K mg) : PySem.W.notFirst K (He.ga K "Scheme") (.type "bool") = true := ev.xf 28
theorem kit_bool_Scheme (ev : E K mg) : PySem.W.kitOne K (.type "bool") (.ref (He.ga K "Scheme")) = some false := of_decide_eq_true (ev.xf 29)
theorem nf_Scheme_list (ev : E K mg) : PySem.W.notFirst K (He.ga K "Scheme") (.type "list") = true := ev.xf 30
theorem kit_list_Scheme (ev : E K mg) : PySem.W.kitOne K (.type "list") (.ref (He.ga K "Scheme")) = some false := of_decide_eq_true (ev.xf 31)
theorem nf_Scheme_tuple (ev : E K mg) : PySem.W.notFirst K (He.ga K "Scheme") (.type "tuple") = true := ev.xf 32
theorem kit_tuple_Scheme (ev : E K mg) : PySem.W.kitOne K (.type "tuple") (.ref (He.ga K "Scheme")) = some false := of_decide_eq_true (ev.xf 33)
theorem nf_Scheme_Sort (ev : E K mg) : PySem.W.notFirst K (He.ga K "Scheme") (.ref (He.ga K "Sort")) = true := ev.xf 34
theorem kit_Sort_Scheme (ev : E K mg) : PySem.W.kitOne K (.ref (He.ga K "Sort")) (.ref (He.ga K "Scheme")) = some false := of_decide_eq_true (ev.xf 35)
theorem nf_Scheme_Scheme (ev : E K mg) : PySem.W.notFirst K (He.ga K "Scheme") (.ref (He.ga K "Scheme")) = true := ev.xf 36
theorem kit_Scheme_Scheme (ev : E K mg) : PySem.W.kitOne K (.ref (He.ga K "Scheme")) (.ref (He.ga K "Scheme")) = some true := of_decide_eq_true (ev.xf 37)
theorem no_Scheme_sorts (ev : E K mg) : NoAttr K (He.ga K "Scheme") "sorts" := He.noat_ok (ev.e.c.fact 44 rfl)
theorem fld_Scheme_sorts (ev : E K mg) {H : Hp} {Q : VK} {v : V} {a dx : Addr} {fs : List (Str × V)} (h : H a = some (.ins (He.ga K "Scheme") dx fs)) (e : fs.lookup ("sorts" : Str) = some v) (q : Q v H) : KFld K "sorts" Q (.ref a) H := fld_l h (cls_Scheme ev) (no_Scheme_sorts ev) e q
theorem put_Scheme_sorts (ev : E K mg) {H : Hp} {D : Ends} {σ : L2.St} {y : V} {a dx : Addr} {fs : List (Str × V)} (h : H a = some (.ins (He.ga K "Scheme") dx fs)) (e : fs.length < 1000) (q : D.nx σ (upd H a (.ins (He.ga K "Scheme") dx (putF "sorts" y fs)))) : KSf2 K y "sorts" D σ (.ref a) H := sf_l h (cls_Scheme ev) (no_Scheme_sorts ev) e q
theorem no_Scheme_part_columns (ev : E K mg) : NoAttr K (He.ga K "Scheme") "part_columns" := He.noat_ok (ev.e.c.fact 45 rfl)
theorem fld_Scheme_part_columns (ev : E K mg) {H : Hp} {Q : VK} {v : V} {a dx : Addr} {fs : List (Str × V)} (h : H a = some (.ins (He.ga K "Scheme") dx fs)) (e : fs.lookup ("part_columns" : Str) = some v) (q : Q v H) : KFld K "part_columns" Q (.ref a) H := fld_l h (cls_Scheme ev) (no_Scheme_part_columns ev) e q
theorem put_Scheme_part_columns (ev : E K mg) {H : Hp} {D : Ends} {σ : L2.St} {y : V} {a dx : Addr} {fs : List (Str × V)} (h : H a = some (.ins (He.ga K "Scheme") dx fs)) (e : fs.length < 1000) (q : D.nx σ (upd H a (.ins (He.ga K "Scheme") dx (putF "part_columns" y fs)))) : KSf2 K y "part_columns" D σ (.ref a) H := sf_l h (cls_Scheme ev) (no_Scheme_part_columns ev) e q
theorem no_Scheme_value_columns (ev : E K mg) : NoAttr K (He.ga K "Scheme") "value_columns" := He.noat_ok (ev.e.c.fact 46 rfl)
theorem fld_Scheme_value_columns (ev : E K mg) {H : Hp} {Q : VK} {v : V} {a dx : Addr} {fs : List (Str × V)} (h : H a = some (.ins (He.ga K "Scheme") dx fs)) (e : fs.lookup ("value_columns" : Str) = some v) (q : Q v H) : KFld K "value_columns" Q (.ref a) H := fld_l h (cls_Scheme ev) (no_Scheme_value_columns ev) e q
theorem put_Scheme_value_columns (ev : E K mg) {H : Hp} {D : Ends} {σ : L2.St} {y : V} {a dx : Addr} {fs : List (Str × V)} (h : H a = some (.ins (He.ga K "Scheme") dx fs)) (e : fs.length < 1000) (q : D.nx σ (upd H a (.ins (He.ga K "Scheme") dx (putF "value_columns" y fs)))) : KSf2 K y "value_columns" D σ (.ref a) H := sf_l h (cls_Scheme ev) (no_Scheme_value_columns ev) e q
theorem no_Scheme_mark_columns (ev : E K mg) : NoAttr K (He.ga K "Scheme") "mark_columns" := He.noat_ok (ev.e.c.fact 47 rfl)
theorem fld_Scheme_mark_columns (ev : E K mg) {H : Hp} {Q : VK} {v : V} {a dx : Addr} {fs : List (Str × V)} (h : H a = some (.ins (He.ga K "Scheme") dx fs)) (e : fs.lookup ("mark_columns" : Str) = some v) (q : Q v H) : KFld K "mark_columns" Q (.ref a) H := fld_l h (cls_Scheme ev) (no_Scheme_mark_columns ev) e q
theorem put_Scheme_mark_columns (ev : E K mg) {H : Hp} {D : Ends} {σ : L2.St} {y : V} {a dx : Addr} {fs : List (Str × V)} (h : H a = some (.ins (He.ga K "Scheme") dx fs)) (e : fs.length < 1000) (q : D.nx σ (upd H a (.ins (He.ga K "Scheme") dx (putF "mark_columns" y fs)))) : KSf2 K y "mark_columns" D σ (.ref a) H := sf_l h (cls_Scheme ev) (no_Scheme_mark_columns ev) e q
theorem ini_Scheme_sorts (ev : E K mg) {H : Hp} {D : Ends} {σ : L2.St} {y : V} {a dx : Addr} (h : H a = some (.ins (He.ga K "Scheme") dx [])) (q : D.nx σ (upd H a (.ins (He.ga K "Scheme") dx [(("sorts" : Str), y)]))) : KSf2 K y "sorts" D σ (.ref a) H := put_Scheme_sorts ev h (by show 0 < 1000; decide) (by rw [show putF "sorts" y ([] : List (Str × V)) = [(("sorts" : Str), y)] from by kernel_rfl]; exact q)
theorem iniQ_Scheme_sorts (ev : E K mg) {H : Hp} {D : Ends} {σ : L2.St} {y : V} {a dx : Addr} (h : H a = some (.ins (He.ga K "Scheme") dx [])) (q : ∀ H', H' a = some (.ins (He.ga K "Scheme") dx [(("sorts" : Str), y)]) → My.Fr [a] H H' → D.nx σ H') : KSf2 K y "sorts" D σ (.ref a) H := ini_Scheme_sorts ev h (q _ upd_same ((Fr.refl _ _).put (by simp)))
theorem ini_Scheme_part_columns (ev : E K mg) {H : Hp} {D : Ends} {σ : L2.St} {y : V} {x0 : V} {a dx : Addr} (h : H a = some (.ins (He.ga K "Scheme") dx [(("sorts" : Str), x0)])) (q : D.nx σ (upd H a (.ins (He.ga K "Scheme") dx [(("sorts" : Str), x0), (("part_columns" : Str), y)]))) : KSf2 K y "part_columns" D σ (.ref a) H := put_Scheme_part_columns ev h (by show 1 < 1000; decide) (by rw [show putF "part_columns" y ([(("sorts" : Str), x0)] : List (Str × V)) = [(("sorts" : Str), x0), (("part_columns" : Str), y)] from by kernel_rfl]; exact q)
theorem iniQ_Scheme_part_columns (ev : E K mg) {H : Hp} {D : Ends} {σ : L2.St} {y : V} {x0 : V} {a dx : Addr} (h : H a = some (.ins (He.ga K "Scheme") dx [(("sorts" : Str), x0)])) (q : ∀ H', H' a = some (.ins (He.ga K "Scheme") dx [(("sorts" : Str), x0), (("part_columns" : Str), y)]) → My.Fr [a] H H' → D.nx σ H') : KSf2 K y "part_columns" D σ (.ref a) H := ini_Scheme_part_columns ev h (q _ upd_same ((Fr.refl _ _).put (by simp)))
theorem ini_Scheme_value_columns (ev : E K mg) {H : Hp} {D : Ends} {σ : L2.St} {y : V} {x0 x1 : V} {a dx : Addr} (h : H a = some (.ins (He.ga K "Scheme") dx [(("sorts" : Str), x0), (("part_columns" : Str), x1)])) (q : D.nx σ (upd H a (.ins (He.ga K "Scheme") dx [(("sorts" : Str), x0), (("part_columns" : Str), x1), (("value_columns" : Str), y)]))) : KSf2 K y "value_columns" D σ (.ref a) H := put_Scheme_value_columns ev h (by show 2 < 1000; decide) (by rw [show putF "value_columns" y ([(("sorts" : Str), x0), (("part_columns" : Str), x1)] : List (Str × V)) = [(("sorts" : Str), x0), (("part_columns" : Str), x1), (("value_columns" : Str), y)] from by kernel_rfl]; exact q)
theorem iniQ_Scheme_value_columns (ev : E K mg) {H : Hp} {D : Ends} {σ : L2.St} {y : V} {x0 x1 : V} {a dx : Addr} (h : H a = some (.ins (He.ga K "Scheme") dx [(("sorts" : Str), x0), (("part_columns" : Str), x1)])) (q : ∀ H', H' a = some (.ins (He.ga K "Scheme") dx [(("sorts" : Str), x0), (("part_columns" : Str), x1), (("value_columns" : Str), y)]) → My.Fr [a] H H' → D.nx σ H') : KSf2 K y "value_columns" D σ (.ref a) H := ini_Scheme_value_columns ev h (q _ upd_same ((Fr.refl _ _).put (by simp)))
theorem ini_Scheme_mark_columns (ev : E K mg) {H : Hp} {D : Ends} {σ : L2.St} {y : V} {x0 x1 x2 : V} {a dx : Addr} (h : H a = some (.ins (He.ga K "Scheme") dx [(("sorts" : Str), x0), (("part_columns" : Str), x1), (("value_columns" : Str), x2)])) (q : D.nx σ (upd H a (.ins (He.ga K "Scheme") dx [(("sorts" : Str), x0), (("part_columns" : Str), x1), (("value_columns" : Str), x2), (("mark_columns" : Str), y)]))) : KSf2 K y "mark_columns" D σ (.ref a) H := put_Scheme_mark_columns ev h (by show 3 < 1000; decide) (by rw [show putF "mark_columns" y ([(("sorts" : Str), x0), (("part_columns" : Str), x1), (("value_columns" : Str), x2)] : List (Str × V)) = [(("sorts" : Str), x0), (("part_columns" : Str), x1), (("value_columns" : Str), x2), (("mark_columns" : Str), y)] from by kernel_rfl]; exact q)
theorem iniQ_Scheme_mark_columns (ev : E K mg) {H : Hp} {D : Ends} {σ : L2.St} {y : V} {x0 x1 x2 : V} {a dx : Addr} (h : H a = some (.ins (He.ga K "Scheme") dx [(("sorts" : Str), x0), (("part_columns" : Str), x1), (("value_columns" : Str), x2)])) (q : ∀ H', H' a = some (.ins (He.ga K "Scheme") dx [(("sorts" : Str), x0), (("part_columns" : Str), x1), (("value_columns" : Str), x2), (("mark_columns" : Str), y)]) → My.Fr [a] H H' → D.nx σ H') : KSf2 K y "mark_columns" D σ (.ref a) H := ini_Scheme_mark_columns ev h (q _ upd_same ((Fr.refl _ _).put (by simp)))
theorem mkr_Scheme (ev : E K mg) : Mk K (He.ga K "Scheme") (He.ma K (He.ga K "Scheme") "__init__") := He.mkr_ok (ev.e.c.fact 48 rfl)
theorem meth_Scheme_columns (ev : E K mg) : Meth K (He.ga K "Scheme") "columns" (He.ma K (He.ga K "Scheme") "columns") := He.meth_ok (ev.e.c.fact 49 rfl)
theorem meth_Scheme_sort_names (ev : E K mg) : Meth K (He.ga K "Scheme") "sort_names" (He.ma K (He.ga K "Scheme") "sort_names") := He.meth_ok (ev.e.c.fact 50 rfl)
theorem meth_Scheme_sort_named (ev : E K mg) : Meth K (He.ga K "Scheme") "sort_named" (He.ma K (He.ga K "Scheme") "sort_named") := He.meth_ok (ev.e.c.fact 51 rfl)
theorem meth_Scheme_check_columns (ev : E K mg) : Meth K (He.ga K "Scheme") "check_columns" (He.ma K (He.ga K "Scheme") "check_columns") := He.meth_ok (ev.e.c.fact 52 rfl)
theorem meth_Scheme___eq__ (ev : E K mg) : Meth K (He.ga K "Scheme") "__eq__" (He.ma K (He.ga K "Scheme") "__eq__") := He.meth_ok (ev.e.c.fact 53 rfl)
theorem gloE_WindowError (ev : E K mg) : mg "WindowError" = some (.ref (He.ga K "WindowError")) := ev.glo 54
theorem gloE_BadScheme (ev : E K mg) : mg "BadScheme" = some (.ref (He.ga K "BadScheme")) := ev.glo 55
theorem ini_BadScheme (ev : E K mg) : PySem.W.findIn K (.ref (He.ga K "BadScheme")) "__init__" = some (some (.ref (He.ma K (He.ga K "BadScheme") "__init__"))) := He.eqO_ok (ev.xf 38)
theorem iniT_BadScheme (ev : E K mg) : PySem.W.typeIn K (.ref (He.ma K (He.ga K "BadScheme") "__init__")) = some (.type "function") := of_decide_eq_true (ev.xf 39)
theorem oex_BadScheme (ev : E K mg) : OexC K (He.ga K "BadScheme") := oex_of (ev.xf 40)
theorem xf_BadScheme (ev : E K mg) : XfC K (He.ga K "BadScheme") := xfB_ok (ev.xf 41)
theorem excC_BadScheme (ev : E K mg) : ExcC K (He.ga K "BadScheme") := excC_of (ev.xf 42)
theorem exm_BadScheme (ev : E K mg) : PySem.W.exmOne K (.ref (He.ga K "BadScheme")) (.ref (He.ga K "BadScheme")) = some true := of_decide_eq_true (ev.xf 43)
theorem noA_BadScheme_word (ev : E K mg) : PySem.W.findIn K (.ref (He.ga K "BadScheme")) "word" = some none := He.eqO_ok (ev.xf 44)
theorem kit2_BadScheme_WindowError (ev : E K mg) : PySem.W.kitOne K (.ref (He.ga K "BadScheme")) (.ref (He.ga K "WindowError")) = some true := of_decide_eq_true (ev.xf 45)
theorem exm2_BadScheme_WindowError (ev : E K mg) : PySem.W.exmOne K (.ref (He.ga K "BadScheme")) (.ref (He.ga K "WindowError")) = some true := of_decide_eq_true (ev.xf 46)
theorem kit2_BadScheme_BadScheme (ev : E K mg) : PySem.W.kitOne K (.ref (He.ga K "BadScheme")) (.ref (He.ga K "BadScheme")) = some true := of_decide_eq_true (ev.xf 47)
theorem exm2_BadScheme_BadScheme (ev : E K mg) : PySem.W.exmOne K (.ref (He.ga K "BadScheme")) (.ref (He.ga K "BadScheme")) = some true := of_decide_eq_true (ev.xf 43)
theorem kit2_BadScheme_UnknownSort (ev : E K mg) : PySem.W.kitOne K (.ref (He.ga K "BadScheme")) (.ref (He.ga K "UnknownSort")) = some false := of_decide_eq_true (ev.xf 48)
theorem exm2_BadScheme_UnknownSort (ev : E K mg) : PySem.W.exmOne K (.ref (He.ga K "BadScheme")) (.ref (He.ga K "UnknownSort")) = some false := of_decide_eq_true (ev.xf 49)
theorem kitB_BadScheme_ValueError (ev : E K mg) : PySem.W.kitOne K (.ref (He.ga K "BadScheme")) (.type "ValueError") = some true := of_decide_eq_true (ev.xf 50)
theorem kitE_BadScheme_WindowError (ev : E K mg) : PySem.W.kitOne K (.ref (He.ga K "BadScheme")) (.ref (He.ga K "WindowError")) = some true := of_decide_eq_true (ev.xf 45)
theorem kitE_BadScheme_BadScheme (ev : E K mg) : PySem.W.kitOne K (.ref (He.ga K "BadScheme")) (.ref (He.ga K "BadScheme")) = some true := of_decide_eq_true (ev.xf 47)
theorem gloE_UnknownSort (ev : E K mg) : mg "UnknownSort" = some (.ref (He.ga K "UnknownSort")) := ev.glo 56
theorem ini_UnknownSort (ev : E K mg) : PySem.W.findIn K (.ref (He.ga K "UnknownSort")) "__init__" = some (some (.ref (He.ma K (He.ga K "UnknownSort") "__init__"))) := He.eqO_ok (ev.xf 51)
theorem iniT_UnknownSort (ev : E K mg) : PySem.W.typeIn K (.ref (He.ma K (He.ga K "UnknownSort") "__init__")) = some (.type "function") := of_decide_eq_true (ev.xf 52)
theorem oex_UnknownSort (ev : E K mg) : OexC K (He.ga K "UnknownSort") := oex_of (ev.xf 53)
theorem xf_UnknownSort (ev : E K mg) : XfC K (He.ga K "UnknownSort") := xfB_ok (ev.xf 54)
theorem excC_UnknownSort (ev : E K mg) : ExcC K (He.ga K "UnknownSort") := excC_of (ev.xf 55)
theorem exm_UnknownSort (ev : E K mg) : PySem.W.exmOne K (.ref (He.ga K "UnknownSort")) (.ref (He.ga K "UnknownSort")) = some true := of_decide_eq_true (ev.xf 56)
theorem noA_UnknownSort_name (ev : E K mg) : PySem.W.findIn K (.ref (He.ga K "UnknownSort")) "name" = some none := He.eqO_ok (ev.xf 57)
theorem kit2_UnknownSort_WindowError (ev : E K mg) : PySem.W.kitOne K (.ref (He.ga K "UnknownSort")) (.ref (He.ga K "WindowError")) = some true := of_decide_eq_true (ev.xf 58)
theorem exm2_UnknownSort_WindowError (ev : E K mg) : PySem.W.exmOne K (.ref (He.ga K "UnknownSort")) (.ref (He.ga K "WindowError")) = some true := of_decide_eq_true (ev.xf 59)
theorem kit2_UnknownSort_BadScheme (ev : E K mg) : PySem.W.kitOne K (.ref (He.ga K "UnknownSort")) (.ref (He.ga K "BadScheme")) = some false := of_decide_eq_true (ev.xf 60)
theorem exm2_UnknownSort_BadScheme (ev : E K mg) : PySem.W.exmOne K (.ref (He.ga K "UnknownSort")) (.ref (He.ga K "BadScheme")) = some false := of_decide_eq_true (ev.xf 61)
theorem kit2_UnknownSort_UnknownSort (ev : E K mg) : PySem.W.kitOne K (.ref (He.ga K "UnknownSort")) (.ref (He.ga K "UnknownSort")) = some true := of_decide_eq_true (ev.xf 62)
theorem exm2_UnknownSort_UnknownSort (ev : E K mg) : PySem.W.exmOne K (.ref (He.ga K "UnknownSort")) (.ref (He.ga K "UnknownSort")) = some true := of_decide_eq_true (ev.xf 56)
theorem kitB_UnknownSort_ValueError (ev : E K mg) : PySem.W.kitOne K (.ref (He.ga K "UnknownSort")) (.type "ValueError") = some true := of_decide_eq_true (ev.xf 63)
theorem kitE_UnknownSort_WindowError (ev : E K mg) : PySem.W.kitOne K (.ref (He.ga K "UnknownSort")) (.ref (He.ga K "WindowError")) = some true := of_decide_eq_true (ev.xf 58)
theorem kitE_UnknownSort_UnknownSort (ev : E K mg) : PySem.W.kitOne K (.ref (He.ga K "UnknownSort")) (.ref (He.ga K "UnknownSort")) = some true := of_decide_eq_true (ev.xf 62)
theorem con_LETTERS (ev : E K mg) : ∃ t, mg "LETTERS" = some (.str "abcdefghijklmnopqrstuvwxyz" t) := by obtain ⟨_, X, G⟩ := ev.e.at_; exact He.str_ok X G (ev.e.c.fact 57 rfl)
theorem con_MOST_LETTERS (ev : E K mg) : ∃ t, mg "MOST_LETTERS" = some (.int 8 t) := by obtain ⟨_, X, G⟩ := ev.e.at_; exact He.int_ok X G (ev.e.c.fact 58 rfl)
theorem con_OTHER_WORDS (ev : E K mg) : mg "OTHER_WORDS" = some (.ref (He.ga K "OTHER_WORDS")) := ev.glo 59
theorem tab_OTHER_WORDS (ev : E K mg) (H : Hp) : SqT K H (He.ga K "OTHER_WORDS") ((["rows", "groups", "keys", "self", "ties", "group", "all", "none", "sum", "count", "by", "not"] : List Str).map V.str) := tab_ok (ev.xf 64) H
theorem tyc_OTHER_WORDS (ev : E K mg) (H : Hp) : tyV K "tuple" (.ref (He.ga K "OTHER_WORDS")) H := tyT_ok (ev.xf 65) H
theorem kw_parts (ev : E K mg) (H : Hp) : SqT K H (kwA "parts" K) [] := kwT_ok (ev.xf 66) H
theorem kw_values (ev : E K mg) (H : Hp) : SqT K H (kwA "values" K) [] := kwT_ok (ev.xf 67) H
theorem kw_marks (ev : E K mg) (H : Hp) : SqT K H (kwA "marks" K) [] := kwT_ok (ev.xf 68) H
end

abbrev kept : List Str := ["rows", "groups", "keys", "self", "ties", "group", "all", "none", "sum", "count", "by", "not"]
def lowc (c : Nat) : Bool := decide (97 ≤ c) && decide (c ≤ 122)
def good (w : Str) : Bool := !(decide (w = "") || (decide (8 < w.length) || decide (w ∈ kept))) && (cl w).all lowc
theorem low_mem {c : Nat} : c ∈ (Str.ofString "abcdefghijklmnopqrstuvwxyz").cps.toList ↔ lowc c = true := by
  have e : (Str.ofString "abcdefghijklmnopqrstuvwxyz").cps.toList = [97, 98, 99, 100, 101, 102, 103, 104, 105, 106, 107, 108, 109, 110, 111, 112, 113, 114, 115, 116, 117, 118, 119, 120, 121, 122] := by decide
  rw [e]
  unfold lowc
  simp
  omega
def spName : Sp := fun vs H Q _ => ∃ w, vs = [.str w] ∧ w.length ≤ 100000 ∧ ∀ H', My.Fr [] H H' → Q (.bl (good w)) H'
def chN : List Str → Option Str
  | [] => none
  | w :: r => if good w = true then chN r else some w
def bsF (w : Str) : List (Str × V) := errF ["word"] [.str w]
def sp_cn (K : PySem.W.Frag) : Sp := fun vs H Q E => ∃ l ws, vs = [.ref l] ∧ H l = some (.lst (ws.map V.str)) ∧ (∀ w ∈ ws, w.length ≤ 100000) ∧ (chN ws = none → ∀ H', My.Fr [] H H' → Q .non H') ∧ (∀ w, chN ws = some w → ∀ d H', H' d = some (.xd (bsF w)) → My.Fr [] H H' → E (.ref (He.ga K "BadScheme")) (some d) H')
theorem chN_app {ws : List Str} : ∀ i, i ≤ ws.length → (∀ j, j < i → ∃ w, ws[j]? = some w ∧ good w = true) → chN ws = chN (ws.drop i)
  | 0, _, _ => rfl
  | i + 1, hi, h => by
    have e := chN_app i (by omega) fun j hj => h j (by omega)
    obtain ⟨w, hw, g⟩ := h i (by omega)
    have hl : i < ws.length := by omega
    have hd : ws.drop i = w :: ws.drop (i + 1) := by
      rw [List.drop_eq_getElem_cons hl]
      rw [List.getElem?_eq_getElem hl] at hw
      rw [Option.some.inj hw]
    rw [e, hd]
    show (if good w = true then _ else _) = _
    rw [if_pos g]
def ICN (l : Addr) (ws : List Str) (H0 : Hp) (i : Nat) (σ : L2.St) (H : Hp) : Prop := ∃ v, σ = [some (.ref l), v] ∧ chN ws = chN (ws.drop i) ∧ My.Fr [] H0 H
def chD (seen : List Str) : List Str → Option Str
  | [] => none
  | w :: r => if w ∈ seen then some w else chD (seen ++ [w]) r
def sp_cd (K : PySem.W.Frag) : Sp := fun vs H Q E => ∃ l ws, vs = [.ref l] ∧ H l = some (.lst (ws.map V.str)) ∧ (chD [] ws = none → ∀ H', My.Fr [] H H' → Q .non H') ∧ (∀ w, chD [] ws = some w → ∀ d H', H' d = some (.xd (bsF w)) → My.Fr [] H H' → E (.ref (He.ga K "BadScheme")) (some d) H')
def ICD (l : Addr) (ws : List Str) (H0 : Hp) (i : Nat) (σ : L2.St) (H : Hp) : Prop := ∃ v1 v2, σ = [some (.ref l), v1, v2] ∧ chD [] ws = chD (ws.take i) (ws.drop i) ∧ My.Fr [] H0 H
structure So where
  n : Str
  k : Str
  pa : Option Str
  de : Bool
  deriving DecidableEq
def soF (s : So) : List (Str × V) := [("name", .str s.n), ("key", .str s.k), ("part", oS s.pa), ("descending", .bl s.de)]
def IsSort (K : PySem.W.Frag) (H : Hp) (p : Addr) (s : So) : Prop := ∃ dx, H p = some (.ins (He.ga K "Sort") dx (soF s))
theorem IsSort.fr {K : PySem.W.Frag} {S : List Addr} {H H' : Hp} {p : Addr} {s : So} (h : IsSort K H p s) (f : My.Fr S H H') (n : p ∉ S) : IsSort K H' p s := by
  obtain ⟨dx, e⟩ := h
  exact ⟨dx, f.1 _ _ n e⟩
inductive SoL (K : PySem.W.Frag) (H : Hp) : List V → List So → Prop
  | nil : SoL K H [] []
  | cons {p : Addr} {s : So} {vs : List V} {l : List So} : IsSort K H p s → SoL K H vs l → SoL K H (.ref p :: vs) (s :: l)
theorem SoL.mono {K : PySem.W.Frag} {H H' : Hp} (f : ∀ p s, IsSort K H p s → IsSort K H' p s) : ∀ {vs : List V} {l : List So}, SoL K H vs l → SoL K H' vs l
  | _, _, .nil => .nil
  | _, _, .cons a b => .cons (f _ _ a) (SoL.mono f b)
theorem SoL.fr {K : PySem.W.Frag} {H H' : Hp} {vs : List V} {l : List So} (h : SoL K H vs l) (f : My.Fr [] H H') : SoL K H' vs l := h.mono fun p s e => e.fr f (by simp)
theorem SoL.len {K : PySem.W.Frag} {H : Hp} : ∀ {vs : List V} {l : List So}, SoL K H vs l → vs.length = l.length
  | _, _, .nil => rfl
  | _, _, .cons _ b => by simp [SoL.len b]
theorem SoL.get {K : PySem.W.Frag} {H : Hp} : ∀ {vs : List V} {l : List So}, SoL K H vs l → ∀ (i : Nat) (x : V), vs[i]? = some x → ∃ p s, x = .ref p ∧ l[i]? = some s ∧ IsSort K H p s
  | _, _, .nil, i, x, e => by simp at e
  | _, _, .cons a b, 0, x, e => by cases e; exact ⟨_, _, rfl, rfl, a⟩
  | _, _, .cons a b, i + 1, x, e => SoL.get b i x e
def sp_sortI (K : PySem.W.Frag) : Sp := fun vs H Q _ => ∃ x dx s, vs = [.ref x, .str s.n, .str s.k, oS s.pa, .bl s.de] ∧ H x = some (.ins (He.ga K "Sort") dx []) ∧ Q .non (upd H x (.ins (He.ga K "Sort") dx (soF s)))
def scF (ts tp tv tm : Addr) : List (Str × V) := [("sorts", .ref ts), ("part_columns", .ref tp), ("value_columns", .ref tv), ("mark_columns", .ref tm)]
/-- a scheme's object: its sorts, its columns of parts, values and marks -/
def IsSch (K : PySem.W.Frag) (H : Hp) (p : Addr) (l : List So) (P V' M : List Str) : Prop := ∃ dx ts tp tv tm vs, H p = some (.ins (He.ga K "Scheme") dx (scF ts tp tv tm)) ∧ SqT K H ts vs ∧ SoL K H vs l ∧ SqT K H tp (P.map V.str) ∧ SqT K H tv (V'.map V.str) ∧ SqT K H tm (M.map V.str)
theorem IsSch.fr {K : PySem.W.Frag} {H H' : Hp} {p : Addr} {l : List So} {P V' M : List Str} (h : IsSch K H p l P V' M) (f : My.Fr [] H H') : IsSch K H' p l P V' M := by
  obtain ⟨dx, ts, tp, tv, tm, vs, h1, h2, h3, h4, h5, h6⟩ := h
  exact ⟨dx, ts, tp, tv, tm, vs, f.1 _ _ (by simp) h1, f.t (by simp) h2, h3.fr f, f.t (by simp) h4, f.t (by simp) h5, f.t (by simp) h6⟩
def sp_sn (K : PySem.W.Frag) : Sp := fun vs H Q _ => ∃ p l P V' M, vs = [.ref p] ∧ IsSch K H p l P V' M ∧ l.length ≤ 1000 ∧ ∀ r H', H r = none → H' r = some (.lst ((l.map So.n).map V.str)) → My.Fr [] H H' → Q (.ref r) H'
theorem kept_so {K : PySem.W.Frag} {H0 H : Hp} {f : So → V} {R : V → Option V → Hp → Prop} (hR : ∀ x o, R x o H → ∃ p s, x = .ref p ∧ IsSort K H0 p s ∧ o = some (f s)) (uniq : ∀ p s s', IsSort K H0 p s → IsSort K H0 p s' → f s = f s') : ∀ {vs ys : List V} {l : List So}, SoL K H0 vs l → My.Kept R H vs ys → ys = l.map f
  | _, _, _, .nil, k => by cases k; rfl
  | _, _, _, .cons a b, k => by
    cases k with
    | yes r k =>
      obtain ⟨p, s, e1, e2, e3⟩ := hR _ _ r
      cases e1
      cases e3
      rw [List.map_cons, kept_so hR uniq b k, uniq _ _ _ e2 a]
    | no r k =>
      obtain ⟨p, s, e1, e2, e3⟩ := hR _ _ r
      cases e3
theorem so_uniq {K : PySem.W.Frag} {H : Hp} {p : Addr} {s s' : So} (h : IsSort K H p s) (h2 : IsSort K H p s') : s = s' := by
  obtain ⟨dx, e⟩ := h
  obtain ⟨dy, e2⟩ := h2
  rw [e] at e2
  unfold soF at e2
  injection e2 with e2
  injection e2 with _ _ e2
  injection e2 with a1 e2
  injection e2 with a2 e2
  injection e2 with a3 e2
  injection e2 with a4 _
  obtain ⟨n, k, pa, de⟩ := s
  obtain ⟨n', k', pa', de'⟩ := s'
  have b1 := (Prod.mk.inj a1).2
  have b2 := (Prod.mk.inj a2).2
  have b3 := oS_inj (Prod.mk.inj a3).2
  have b4 := (Prod.mk.inj a4).2
  cases b1
  cases b2
  cases b3
  cases b4
  rfl
theorem IsSch.put {K : PySem.W.Frag} {H : Hp} {p a : Addr} {l : List So} {P V' M : List Str} {xs ys : List V} (h : IsSch K H p l P V' M) (ha : H a = some (.lst xs)) : IsSch K (upd H a (.lst ys)) p l P V' M := by
  obtain ⟨dx, ts, tp, tv, tm, vs, h1, h2, h3, h4, h5, h6⟩ := h
  have off : ∀ {b : Addr} {o : HO}, H b = some o → o ≠ .lst xs → (upd H a (.lst ys)) b = some o := fun {b o} e n => (upd_ne (fun z => by rw [z, ha] at e; cases e; exact n rfl)).trans e
  have t : ∀ {b : Addr} {zs : List V}, SqT K H b zs → SqT K (upd H a (.lst ys)) b zs := fun {b zs} z => by
    rcases z with (z | ⟨o, z⟩) | z
    · exact .inl (.inl (off z (by simp)))
    · exact .inl (.inr ⟨o, off z (by simp)⟩)
    · exact .inr z
  exact ⟨dx, ts, tp, tv, tm, vs, off h1 (by simp), t h2, h3.mono fun p s ⟨dy, e⟩ => ⟨dy, off e (by simp)⟩, t h4, t h5, t h6⟩
theorem off_t {K : PySem.W.Frag} {H H' : Hp} {x dx C b : Addr} {fs : List (Str × V)} {xs : List V} (hx : H x = some (.ins C dx fs)) (f : My.Fr [x] H H') (h : SqT K H b xs) : SqT K H' b xs := by
  rcases h with (h | ⟨o, h⟩) | h
  · exact .inl (.inl (f.1 _ _ (fun z => by rw [List.mem_singleton.mp z, hx] at h; cases h) h))
  · exact .inl (.inr ⟨o, f.1 _ _ (fun z => by rw [List.mem_singleton.mp z, hx] at h; cases h) h⟩)
  · exact .inr h
theorem off_l {K : PySem.W.Frag} {H H' : Hp} {x dx C b : Addr} {fs : List (Str × V)} {xs : List V} (hx : H x = some (.ins C dx fs)) (f : My.Fr [x] H H') (h : SqL K H b xs) : SqL K H' b xs := by
  rcases h with (h | ⟨o, h⟩) | h
  · exact .inl (.inl (f.1 _ _ (fun z => by rw [List.mem_singleton.mp z, hx] at h; cases h) h))
  · exact .inl (.inr ⟨o, f.1 _ _ (fun z => by rw [List.mem_singleton.mp z, hx] at h; cases h) h⟩)
  · exact .inr h
def cols (l : List So) (P V' M : List Str) : List Str := P ++ (l.map So.k ++ (V' ++ M))
def sp_co (K : PySem.W.Frag) : Sp := fun vs H Q _ => ∃ p l P V' M, vs = [.ref p] ∧ IsSch K H p l P V' M ∧ l.length ≤ 1000 ∧ P.length ≤ 1000 ∧ V'.length ≤ 1000 ∧ M.length ≤ 1000 ∧ ∀ r H', H r = none → H' r = some (.lst ((cols l P V' M).map V.str)) → My.Fr [] H H' → Q (.ref r) H'
def chP (P : List Str) : List So → Option Str
  | [] => none
  | s :: r => match s.pa with
    | none => chP P r
    | some w => if w ∈ P then chP P r else some w
theorem chP_cons {P : List Str} {s : So} {r : List So} : chP P (s :: r) = match s.pa with
    | none => chP P r
    | some w => if w ∈ P then chP P r else some w := rfl
def sp_cp (K : PySem.W.Frag) : Sp := fun vs H Q E => ∃ ts tp us l P, vs = [.ref ts, .ref tp] ∧ SqT K H ts us ∧ SoL K H us l ∧ SqT K H tp (P.map V.str) ∧ (chP P l = none → ∀ H', My.Fr [] H H' → Q .non H') ∧ (∀ w, chP P l = some w → ∀ d H', H' d = some (.xd (bsF w)) → My.Fr [] H H' → E (.ref (He.ga K "BadScheme")) (some d) H')
def ICP (ts tp : Addr) (P : List Str) (l : List So) (H0 : Hp) (i : Nat) (σ : L2.St) (H : Hp) : Prop := ∃ v, σ = [some (.ref ts), some (.ref tp), v] ∧ chP P l = chP P (l.drop i) ∧ My.Fr [] H0 H
theorem drop_at {α : Type} {l : List α} {i : Nat} {s : α} (e : l[i]? = some s) : l.drop i = s :: l.drop (i + 1) := by
  have hl := (List.getElem?_eq_some_iff.mp e).1
  have hd := List.drop_eq_getElem_cons hl
  rw [List.getElem?_eq_getElem hl] at e
  rw [hd, Option.some.inj e]
def chk (l : List So) (P V' M : List Str) : Option Str := match chN (l.map So.n ++ cols l P V' M) with
  | some w => some w
  | none => match chD [] (l.map So.n) with
    | some w => some w
    | none => match chD [] (cols l P V' M) with
      | some w => some w
      | none => chP P l
abbrev Cw (K : PySem.W.Frag) (H : Hp) (a : Addr) (ws : List Str) : Prop := SqL K H a (ws.map V.str) ∨ SqT K H a (ws.map V.str)
def sp_schI (K : PySem.W.Frag) : Sp := fun vs H Q E => ∃ x dx ls lp lv lm us l P V' M, vs = [.ref x, .ref ls, .ref lp, .ref lv, .ref lm] ∧ H x = some (.ins (He.ga K "Scheme") dx []) ∧ SqL K H ls us ∧ SoL K H us l ∧ Cw K H lp P ∧ Cw K H lv V' ∧ Cw K H lm M ∧ l.length ≤ 1000 ∧ P.length ≤ 1000 ∧ V'.length ≤ 1000 ∧ M.length ≤ 1000 ∧ (∀ w ∈ l.map So.n ++ cols l P V' M, w.length ≤ 100000) ∧
  (chk l P V' M = none → ∀ H', IsSch K H' x l P V' M → My.Fr [x] H H' → Q .non H') ∧ (∀ w, chk l P V' M = some w → ∀ d H', H' d = some (.xd (bsF w)) → My.Fr [x] H H' → E (.ref (He.ga K "BadScheme")) (some d) H')
def sp_eqS (K : PySem.W.Frag) : Sp := fun vs H Q _ => ∃ p s y, vs = [.ref p, y] ∧ IsSort K H p s ∧ ((∃ r s', y = .ref r ∧ IsSort K H r s' ∧ Q (.bl (decide (s = s'))) H) ∨ ∃ t, TyX K H y t ∧ PySem.W.kitOne K t (.ref (He.ga K "Sort")) = some false ∧ Q (.bl false) H)
theorem scal_oS {a b : Option Str} : scal (oS a) (oS b) = true := by cases a <;> cases b <;> rfl
theorem eq_oS {H : Hp} {Q : VK} {a b : Option Str} (q : Q (.bl (decide (a = b))) H) : rEq (oS a) (oS b) H Q := by
  rw [mw_eq scal_oS]
  have e : decide (oS a = oS b) = decide (a = b) := by
    by_cases h : a = b
    · simp [h]
    · have : ¬ oS a = oS b := fun z => h (oS_inj z)
      simp [h, this]
  rw [e]; exact q
def sp_eqH (K : PySem.W.Frag) : Sp := fun vs H Q _ => ∃ p l P V' M y, vs = [.ref p, y] ∧ IsSch K H p l P V' M ∧ l.length ≤ 1000 ∧ (∀ w ∈ P ++ V' ++ M, PyData.strOk w = true) ∧ ((∃ r l2 P2 V2 M2, y = .ref r ∧ IsSch K H r l2 P2 V2 M2 ∧ (∀ w ∈ P2 ++ V2 ++ M2, PyData.strOk w = true) ∧ ∀ H', My.Fr [] H H' → Q (.bl (decide (l = l2) && (decide (P = P2) && (decide (V' = V2) && decide (M = M2))))) H') ∨ ∃ t, TyX K H y t ∧ PySem.W.kitOne K t (.ref (He.ga K "Scheme")) = some false ∧ Q (.bl false) H)
theorem dp_ss {K : PySem.W.Frag} {H : Hp} : ∀ ws : List Str, DpAll K H (ws.map V.str) (ws.map PyData.str)
  | [] => .nil
  | w :: ws => .cons (.str w) (dp_ss ws)
theorem ss_lay : ∀ {ws : List Str}, (∀ w ∈ ws, PyData.strOk w = true) → PyData.canLayAll0 (ws.map PyData.str) = true
  | [], _ => rfl
  | w :: ws, h => by
    show (PyData.strOk w && PyData.canLayAll0 (ws.map PyData.str)) = true
    rw [h w (by simp), ss_lay fun x hx => h x (by simp [hx])]; rfl
theorem ss_dep : ∀ ws : List Str, PyData.depthAll (ws.map PyData.str) = 0
  | [] => rfl
  | w :: ws => by
    show max 0 (PyData.depthAll (ws.map PyData.str)) = 0
    rw [ss_dep ws]; rfl
theorem sh_tup {ws : List Str} (h : ∀ w ∈ ws, PyData.strOk w = true) : SeqAt.shaped (.tuple (ws.map PyData.str)) = true := by
  simp only [SeqAt.shaped, PyData.canLay0, PyData.depth, ss_lay h, ss_dep]
  rfl
theorem sh_lst {ws : List Str} (h : ∀ w ∈ ws, PyData.strOk w = true) : SeqAt.shaped (.list (ws.map PyData.str)) = true := by
  simp only [SeqAt.shaped, PyData.canLay0, PyData.depth, ss_lay h, ss_dep]
  rfl
theorem eqv_sss : ∀ us ws : List Str, PyData.eqvAll (us.map PyData.str) (ws.map PyData.str) = decide (us = ws)
  | [], [] => rfl
  | [], _ :: _ => rfl
  | _ :: _, [] => rfl
  | u :: us, w :: ws => by
    show (PyData.eqv (.str u) (.str w) && PyData.eqvAll (us.map PyData.str) (ws.map PyData.str)) = _
    rw [eqv_ss, eqv_sss us ws]
    by_cases h1 : u = w <;> by_cases h2 : us = ws <;> simp [h1, h2]
theorem eqv_tup (us ws : List Str) : PyData.eqv (.tuple (us.map PyData.str)) (.tuple (ws.map PyData.str)) = decide (us = ws) := eqv_sss us ws
theorem eqv_lst (us ws : List Str) : PyData.eqv (.list (us.map PyData.str)) (.list (ws.map PyData.str)) = decide (us = ws) := eqv_sss us ws
def sEq (l l2 : List So) (i : Nat) : Bool := decide (l[i]? = l2[i]?)
theorem sEq_all {l l2 : List So} : ((List.range (min l.length l2.length)).all (sEq l l2) && l.length == l2.length) = decide (l = l2) := by
  by_cases h : l = l2
  · subst h
    rw [decide_eq_true rfl, Bool.and_eq_true]
    exact ⟨List.all_eq_true.mpr fun i _ => by simp [sEq], by simp⟩
  · rw [decide_eq_false h, Bool.and_eq_false_iff]
    by_cases hl : l.length = l2.length
    · left
      rw [List.all_eq_false]
      have : ¬ ∀ i, l[i]? = l2[i]? := fun z => h (List.ext_getElem? z)
      obtain ⟨i, hi⟩ := Classical.not_forall.mp this
      refine ⟨i, ?_, by simp [sEq, hi]⟩
      rw [List.mem_range, hl, Nat.min_self]
      rcases Nat.lt_or_ge i l2.length with z | z
      · exact z
      · exact absurd (by rw [List.getElem?_eq_none (by omega), List.getElem?_eq_none z]) hi
    · right
      simp [hl]
def unF (w : Str) : List (Str × V) := errF ["name"] [.str w]
def fnd (l : List So) (w : Str) : Option So := l.find? fun s => decide (s.n = w)
def sp_snm (K : PySem.W.Frag) : Sp := fun vs H Q _ => ∃ p w l P V' M s, vs = [.ref p, .str w] ∧ IsSch K H p l P V' M ∧ fnd l w = some s ∧ ∀ q H', IsSort K H' q s → My.Fr [] H H' → Q (.ref q) H'
def sp_snx (K : PySem.W.Frag) : Sp := fun vs H Q E => ∃ p w l P V' M, vs = [.ref p, .str w] ∧ IsSch K H p l P V' M ∧ (∀ s, fnd l w = some s → ∀ q H', IsSort K H' q s → My.Fr [] H H' → Q (.ref q) H') ∧ (fnd l w = none → ∀ d H', H' d = some (.xd (unF w)) → My.Fr [] H H' → E (.ref (He.ga K "UnknownSort")) (some d) H')
def ISN (p : Addr) (w : Str) (l : List So) (H0 : Hp) (i : Nat) (σ : L2.St) (H : Hp) : Prop := ∃ v, σ = [some (.ref p), some (.str w), v] ∧ fnd l w = fnd (l.drop i) w ∧ My.Fr [] H0 H
theorem fnd_cons {s : So} {r : List So} {w : Str} : fnd (s :: r) w = if s.n = w then some s else fnd r w := by
  unfold fnd
  rw [List.find?_cons]
  by_cases h : s.n = w
  · rw [if_pos h, decide_eq_true h]
  · rw [if_neg h, decide_eq_false h]
def spNm : Sp := fun vs H Q _ => ∃ (a ac ar t : Addr) (ts : List Str), vs = [.ref a, .ref t] ∧ Dr H a ac ar ∧ H t = some (.lst (ts.map V.str)) ∧ t ∉ [a, ar] ∧ ts.length ≤ 24 ∧ ∀ w H', good w = true → w ∉ ts → Dr H' a ac ar → My.Fr [a, ar] H H' → Q (.str w) H'
def cand (pre : List Nat) (l : Int) (j : Nat) : Str := ⟨(pre ++ [97 + ((l + j) % 26).toNat]).toArray⟩
theorem cl_cand (pre : List Nat) (l : Int) (j : Nat) : cl (cand pre l j) = pre ++ [97 + ((l + j) % 26).toNat] := by simp [cand, cl]
theorem cand_inj {pre : List Nat} {l : Int} {i j : Nat} (hi : i < 26) (hj : j < 26) (e : cand pre l i = cand pre l j) : i = j := by
  have h : cl (cand pre l i) = cl (cand pre l j) := by rw [e]
  rw [cl_cand, cl_cand] at h
  have h2 := List.append_cancel_left h
  have h3 : 97 + ((l + i) % 26).toNat = 97 + ((l + j) % 26).toNat := by simpa using h2
  omega
theorem filt1 {f : Str → List Nat} {c : List Nat} : ∀ {l : List Str}, (l.map f).Nodup → (l.filter fun w => decide (f w = c)).length ≤ 1
  | [], _ => Nat.zero_le _
  | w :: l, h => by
    have h' := List.nodup_cons.mp h
    rw [List.filter_cons]
    split
    · rename_i e
      have z : (l.filter fun w => decide (f w = c)) = [] := List.filter_eq_nil_iff.mpr fun x hx z => h'.1 (by
        rw [of_decide_eq_true e, ← of_decide_eq_true z]
        exact List.mem_map_of_mem hx)
      rw [z]
      exact Nat.le_refl _
    · exact filt1 h'.2
theorem kept_last : (kept.map fun w => (cl w).dropLast).Nodup := by decide +kernel
theorem cand_out {pre : List Nat} {l : Int} {ts : List Str} (h : ts.length ≤ 24) : ¬ ∀ j, j < 26 → cand pre l j ∈ kept ∨ cand pre l j ∈ ts := fun all => by
  have nd : ((List.range 26).map (cand pre l)).Nodup := by
    rw [List.nodup_iff_pairwise_ne, List.pairwise_map]
    refine List.Pairwise.imp_of_mem (R := fun i j => i < j) (fun {i j} hi hj hlt e => ?_) (List.pairwise_lt_range)
    have := cand_inj (List.mem_range.mp hi) (List.mem_range.mp hj) e
    omega
  have le := nodup_le (m := (kept.filter fun w => decide ((cl w).dropLast = pre)) ++ ts) nd fun x hx => by
    obtain ⟨j, hj, rfl⟩ := List.mem_map.mp hx
    refine List.mem_append.mpr ((all j (List.mem_range.mp hj)).imp (fun z => List.mem_filter.mpr ⟨z, decide_eq_true ?_⟩) id)
    rw [cl_cand, List.dropLast_concat]
  have := filt1 (c := pre) kept_last
  rw [List.length_map, List.length_range, List.length_append] at le
  omega
theorem lowI {c : Nat} (h1 : 97 ≤ c) (h2 : c < 123) : lowc c = true := by
  unfold lowc
  rw [decide_eq_true h1, decide_eq_true (show c ≤ 122 by omega)]
  rfl
theorem cand_good {pre : List Nat} {l : Int} {j : Nat} (h : pre.length < 8) (hp : ∀ c ∈ pre, 97 ≤ c ∧ c < 123) (hk : cand pre l j ∉ kept) : good (cand pre l j) = true := by
  have len : (cand pre l j).length = pre.length + 1 := by rw [← cl_len, cl_cand, List.length_append]; rfl
  have ne : cand pre l j ≠ "" := fun z => by
    rw [z] at len
    have : (Str.ofString "").length = 0 := rfl
    omega
  have al : (cl (cand pre l j)).all lowc = true := by
    rw [cl_cand, List.all_append, Bool.and_eq_true, List.all_eq_true]
    refine ⟨fun c hc => lowI (hp c hc).1 (hp c hc).2, ?_⟩
    have : (l + (j : Int)) % 26 < 26 := Int.emod_lt_of_pos _ (by decide)
    have : 0 ≤ (l + (j : Int)) % 26 := Int.emod_nonneg _ (by decide)
    simp only [List.all_cons, List.all_nil, Bool.and_true]
    exact lowI (by omega) (by omega)
  unfold good
  rw [decide_eq_false ne, decide_eq_false (show ¬ 8 < (cand pre l j).length by omega), decide_eq_false hk, al]
  rfl
def ltN (v : Int) : Nat := 97 + v.toNat
def ltV : V → V
  | .int v => .str ⟨#[97 + v.toNat]⟩
  | v => v
def INm (a t p l : Addr) (H0 : Hp) (pre : List Nat) (y : Int) (ts : List Str) (i : Nat) (σ : L2.St) (H : Hp) : Prop := (∃ v5 v6 v7, σ = [some (.ref a), some (.ref t), some (.str "abcdefghijklmnopqrstuvwxyz"), some (.ref p), some (.ref l), v5, v6, v7, none, none]) ∧ My.Fr [] H0 H ∧ ∀ j, j < i → cand pre y j ∈ kept ∨ cand pre y j ∈ ts
theorem at_end (ms : List Int) (y : Int) (i : Int) (h : i = -1 := by rfl) : atI ((ms ++ [y]).map V.int) i = some (.int y) := by
  subst h
  rw [at_last (by simp)]
  simp
theorem cut_end (ms : List Int) (y : Int) : cutV ((ms ++ [y]).map V.int) none (some (-1)) = ms.map V.int := by
  have e1 : HT.sIx ((ms ++ [y]).map V.int).length 0 none = 0 := rfl
  have e2 : HT.sIx ((ms ++ [y]).map V.int).length ((ms ++ [y]).map V.int).length (some (-1)) = ms.length := by
    show (if (-1 : Int) < 0 then ((-1 : Int) + (((ms ++ [y]).map V.int).length : Int)).toNat else min (-1 : Int).toNat ((ms ++ [y]).map V.int).length) = _
    rw [if_pos (by decide), List.length_map, List.length_append, List.length_singleton]
    omega
  unfold cutV
  rw [e1, e2, List.map_append, List.drop_zero, Nat.sub_zero]
  exact List.take_left' (by rw [List.length_map])
theorem jn_len (cs : List Nat) (h : cs.length ≤ 100 := by simp only [List.length_map, List.length_append, List.length_singleton]; omega) : (((cs.map fun c => (⟨#[c]⟩ : Str))).map (·.length)).sum + (cs.map fun c => (⟨#[c]⟩ : Str)).length * (Str.ofString "").length ≤ 16777216 := by
  have e : ∀ ds : List Nat, (((ds.map fun c => (⟨#[c]⟩ : Str))).map (·.length)).sum = ds.length := fun ds => by
    induction ds with
    | nil => rfl
    | cons d r ih =>
      rw [List.map_cons, List.map_cons, List.sum_cons, ih, List.length_cons]
      show 1 + r.length = _
      omega
  rw [e, show (Str.ofString "").length = 0 from rfl]
  omega
structure Nms (ts : List Str) (m : Nat) (ws : List Str) : Prop where
  ln : ws.length = m
  gd : ∀ w ∈ ws, good w = true
  nd : ws.Nodup
  dj : ∀ w ∈ ws, w ∉ ts
def spNms : Sp := fun vs H Q _ => ∃ (a ac ar t : Addr) (ts : List Str) (m : Nat), vs = [.ref a, .ref t, .int m] ∧ Dr H a ac ar ∧ H t = some (.lst (ts.map V.str)) ∧ t ∉ [a, ac, ar] ∧ ts.length + m ≤ 14 ∧ ∀ l ws H', Nms ts m ws → H l = none → H' l = some (.lst (ws.map V.str)) → H' t = some (.lst ((ts ++ ws).map V.str)) → Dr H' a ac ar → My.Fr [a, ar, t] H H' → Q (.ref l) H'
def INs (a ac ar t l : Addr) (ts : List Str) (m : Nat) (H0 : Hp) (i : Nat) (σ : L2.St) (H : Hp) : Prop := (∃ v4 v5, σ = [some (.ref a), some (.ref t), some (.int m), some (.ref l), v4, v5]) ∧ ∃ ws, Nms ts i ws ∧ H l = some (.lst (ws.map V.str)) ∧ H t = some (.lst ((ts ++ ws).map V.str)) ∧ Dr H a ac ar ∧ My.Fr [a, ar, t] H0 H
inductive RwL (H : Hp) (mk : List V → HO) : List V → List So → Prop
  | nil : RwL H mk [] []
  | cons {p : Addr} {s : So} {vs : List V} {l : List So} : H p = some (mk [.str s.n, .str s.k, oS s.pa, .bl s.de]) → RwL H mk vs l → RwL H mk (.ref p :: vs) (s :: l)
theorem RwL.mono {H H' : Hp} {mk : List V → HO} : ∀ {vs : List V} {l : List So}, (∀ p (s : So), V.ref p ∈ vs → H p = some (mk [.str s.n, .str s.k, oS s.pa, .bl s.de]) → H' p = some (mk [.str s.n, .str s.k, oS s.pa, .bl s.de])) → RwL H mk vs l → RwL H' mk vs l
  | _, _, _, .nil => .nil
  | _, _, f, .cons a b => .cons (f _ _ (by simp) a) (RwL.mono (fun p s m => f p s (by simp [m])) b)
theorem RwL.len {H : Hp} {mk : List V → HO} : ∀ {vs : List V} {l : List So}, RwL H mk vs l → vs.length = l.length
  | _, _, .nil => rfl
  | _, _, .cons _ b => by simp [RwL.len b]
theorem RwL.get {H : Hp} {mk : List V → HO} : ∀ {vs : List V} {l : List So}, RwL H mk vs l → ∀ (i : Nat) (x : V), vs[i]? = some x → ∃ p s, x = .ref p ∧ l[i]? = some s ∧ H p = some (mk [.str s.n, .str s.k, oS s.pa, .bl s.de])
  | _, _, .nil, i, x, e => by simp at e
  | _, _, .cons a b, 0, x, e => by cases e; exact ⟨_, _, rfl, rfl, a⟩
  | _, _, .cons a b, i + 1, x, e => RwL.get b i x e
theorem RwL.snoc {H : Hp} {mk : List V → HO} {p : Addr} {s : So} (h : H p = some (mk [.str s.n, .str s.k, oS s.pa, .bl s.de])) : ∀ {vs : List V} {l : List So}, RwL H mk vs l → RwL H mk (vs ++ [.ref p]) (l ++ [s])
  | _, _, .nil => .cons h .nil
  | _, _, .cons a b => .cons a (RwL.snoc h b)
theorem RwL.tfr {H H' : Hp} {S : List Addr} {vs : List V} {l : List So} (hS : ∀ b ∈ S, ∀ xs, H b ≠ some (.tup xs)) (f : My.Fr S H H') (h : RwL H .tup vs l) : RwL H' .tup vs l := h.mono fun p s _ e => f.1 _ _ (fun z => hS _ z _ e) e
/-- what a drawn description holds -/
structure Spc (l : List So) (P V' M : List Str) : Prop where
  lP : P.length ≤ 2
  lV : V'.length ≤ 3
  lM : M.length ≤ 3
  gn : ∀ w ∈ l.map So.n, good w = true
  nn : (l.map So.n).Nodup
  gc : ∀ w ∈ P ++ V' ++ M ++ l.map So.k, good w = true
  nc : (P ++ V' ++ M ++ l.map So.k).Nodup
  pp : ∀ s ∈ l, ∀ w, s.pa = some w → w ∈ P
theorem chN_none : ∀ {ws : List Str}, (∀ w ∈ ws, good w = true) → chN ws = none
  | [], _ => rfl
  | w :: r, h => by
    show (if good w = true then chN r else some w) = none
    rw [if_pos (h w (by simp))]
    exact chN_none fun x hx => h x (by simp [hx])
theorem chD_none : ∀ {ws seen : List Str}, (seen ++ ws).Nodup → chD seen ws = none
  | [], _, _ => rfl
  | w :: r, seen, h => by
    have n : w ∉ seen := fun z => (List.nodup_append.mp h).2.2 w z w (by simp) rfl
    show (if w ∈ seen then some w else chD (seen ++ [w]) r) = none
    rw [if_neg n]
    exact chD_none (by rw [List.append_assoc]; exact h)
theorem chP_none {P : List Str} : ∀ {l : List So}, (∀ s ∈ l, ∀ w, s.pa = some w → w ∈ P) → chP P l = none
  | [], _ => rfl
  | s :: r, h => by
    rw [chP_cons]
    have ih := chP_none (P := P) (l := r) fun x hx => h x (by simp [hx])
    cases e : s.pa with
    | none => exact ih
    | some w =>
      show (if w ∈ P then chP P r else some w) = none
      rw [if_pos (h s (by simp) w e)]
      exact ih
theorem cols_perm (l : List So) (P V' M : List Str) : (cols l P V' M).Perm (P ++ V' ++ M ++ l.map So.k) := by
  unfold cols
  rw [List.append_assoc, List.append_assoc]
  refine List.Perm.append_left P ?_
  rw [← List.append_assoc V' M]
  exact List.perm_append_comm
theorem Spc.chk {l : List So} {P V' M : List Str} (h : Spc l P V' M) : chk l P V' M = none := by
  have c := cols_perm l P V' M
  unfold K41.chk
  rw [chN_none fun w hw => (List.mem_append.mp hw).elim (h.gn w) fun z => h.gc w (c.mem_iff.mp z)]
  rw [chD_none (seen := []) (by rw [List.nil_append]; exact h.nn), chD_none (seen := []) (by rw [List.nil_append]; exact c.nodup_iff.mpr h.nc)]
  exact chP_none h.pp
theorem _root_.My.Dr.free3 {H : Hp} {a ac ar p : Addr} (d : Dr H a ac ar) (h : H p = none) : p ∉ [a, ac, ar] := by
  obtain ⟨⟨cs, rs, u, ea, ec, er, hl', hc, hc2, ht⟩, n1, n2, n3⟩ := d
  intro z
  simp only [List.mem_cons, List.not_mem_nil, or_false] at z
  rcases z with z | z | z
  · rw [z, ea] at h; cases h
  · rw [z, ec] at h; cases h
  · rw [z, er] at h; cases h
theorem _root_.My.Dr.ntup {H : Hp} {a ac ar : Addr} (d : Dr H a ac ar) : ∀ b ∈ [a, ar], ∀ xs, H b ≠ some (.tup xs) := by
  obtain ⟨⟨cs, rs, u, ea, ec, er, hl', hc, hc2, ht⟩, n1, n2, n3⟩ := d
  intro b hb xs z
  simp only [List.mem_cons, List.not_mem_nil, or_false] at hb
  rcases hb with rfl | rfl
  · rw [ea] at z; cases z
  · rw [er] at z; cases z
theorem sub3 {a ac ar p : Addr} (h : p ∉ [a, ac, ar]) : p ∉ [a, ar] := fun z => h (by
  simp only [List.mem_cons, List.not_mem_nil, or_false] at z ⊢
  rcases z with z | z <;> simp [z])
theorem nin3 {H : Hp} {p x y z : Addr} {o1 o2 o3 : HO} (h : H p = none) (hx : H x = some o1) (hy : H y = some o2) (hz : H z = some o3) : p ∉ [x, y, z] := by
  intro m
  simp only [List.mem_cons, List.not_mem_nil, or_false] at m
  rcases m with rfl | rfl | rfl
  · rw [h] at hx; cases hx
  · rw [h] at hy; cases hy
  · rw [h] at hz; cases hz
theorem fr_drop {H0 H H' : Hp} {a ar t : Addr} (F : My.Fr [a, ar] H0 H) (f : My.Fr [a, ar, t] H H') (h : H0 t = none) : My.Fr [a, ar] H0 H' :=
  ⟨fun b o n e => f.1 b o (fun z => by
    simp only [List.mem_cons, List.not_mem_nil, or_false] at z n
    rcases z with z | z | z
    · exact n (.inl z)
    · exact n (.inr z)
    · rw [z, h] at e; cases e) (F.1 b o n e), fun b e => F.2 b (f.2 b e)⟩
structure SN (a ac ar t c so lp lv lm : Addr) (H0 : Hp) : Prop where
  nt : t ∉ [a, ac, ar]
  nc : c ∉ [a, ac, ar]
  ns : so ∉ [a, ac, ar]
  np : lp ∉ [a, ac, ar]
  nv : lv ∉ [a, ac, ar]
  nm : lm ∉ [a, ac, ar]
  tc : t ≠ c
  ts : t ≠ so
  cs : c ≠ so
  pt : lp ∉ [t, c, so]
  vt : lv ∉ [t, c, so]
  mt : lm ∉ [t, c, so]
  ft : H0 t = none
  fc : H0 c = none
  fs : H0 so = none
structure SH (a ac ar t c so lp lv lm : Addr) (T C : List Str) (us : List V) (l : List So) (P V' M : List Str) (H0 H : Hp) : Prop where
  et : H t = some (.lst (T.map V.str))
  ec : H c = some (.lst (C.map V.str))
  es : H so = some (.lst us)
  rw : RwL H .tup us l
  ep : H lp = some (.lst (P.map V.str))
  ev : H lv = some (.lst (V'.map V.str))
  em : H lm = some (.lst (M.map V.str))
  D : Dr H a ac ar
  F : My.Fr [a, ar] H0 H
theorem out3 {x y z p : Addr} (h : p ∉ [x, y, z]) : p ≠ x ∧ p ≠ y ∧ p ≠ z := by
  simp only [List.mem_cons, List.not_mem_nil, or_false, not_or] at h
  exact h
theorem in3 {x y z p : Addr} (h1 : p ≠ x) (h2 : p ≠ y) (h3 : p ≠ z) : p ∉ [x, y, z] := by
  simp only [List.mem_cons, List.not_mem_nil, or_false, not_or]
  exact ⟨h1, h2, h3⟩
section
variable {a ac ar t c so lp lv lm : Addr} {T C T' : List Str} {us : List V} {l : List So} {P V' M : List Str} {H0 H H' : Hp}
theorem SH.f (N : SN a ac ar t c so lp lv lm H0) (S : SH a ac ar t c so lp lv lm T C us l P V' M H0 H) (f : My.Fr [a, ar] H H') (d : Dr H' a ac ar) : SH a ac ar t c so lp lv lm T C us l P V' M H0 H' :=
  ⟨f.1 _ _ (sub3 N.nt) S.et, f.1 _ _ (sub3 N.nc) S.ec, f.1 _ _ (sub3 N.ns) S.es, S.rw.tfr S.D.ntup f, f.1 _ _ (sub3 N.np) S.ep, f.1 _ _ (sub3 N.nv) S.ev, f.1 _ _ (sub3 N.nm) S.em, d, S.F.trans f⟩
theorem SH.f0 (N : SN a ac ar t c so lp lv lm H0) (S : SH a ac ar t c so lp lv lm T C us l P V' M H0 H) (f : My.Fr [] H H') : SH a ac ar t c so lp lv lm T C us l P V' M H0 H' := S.f N (f.mono (by simp)) (S.D.f0 f)
theorem sub_r {a ac ar p x : Addr} (h : p ∉ [a, ac, ar]) (n : p ≠ x) : p ∉ [a, ar, x] := in3 (out3 h).1 (out3 h).2.2 n
theorem SH.key (N : SN a ac ar t c so lp lv lm H0) (S : SH a ac ar t c so lp lv lm T C us l P V' M H0 H) (f : My.Fr [a, ar, t] H H') (d : Dr H' a ac ar) (e : H' t = some (.lst (T'.map V.str))) : SH a ac ar t c so lp lv lm T' C us l P V' M H0 H' :=
  ⟨e, f.1 _ _ (sub_r N.nc (Ne.symm N.tc)) S.ec, f.1 _ _ (sub_r N.ns (Ne.symm N.ts)) S.es, S.rw.tfr (S := [a, ar, t]) (fun b hb xs z => by
    simp only [List.mem_cons, List.not_mem_nil, or_false] at hb
    rcases hb with hb | hb | hb
    · exact S.D.ntup b (by simp [hb]) xs z
    · exact S.D.ntup b (by simp [hb]) xs z
    · rw [hb, S.et] at z; cases z) f, f.1 _ _ (sub_r N.np (out3 N.pt).1) S.ep, f.1 _ _ (sub_r N.nv (out3 N.vt).1) S.ev, f.1 _ _ (sub_r N.nm (out3 N.mt).1) S.em, d, fr_drop S.F f N.ft⟩
theorem SH.nam (N : SN a ac ar t c so lp lv lm H0) (S : SH a ac ar t c so lp lv lm T C us l P V' M H0 H) (f : My.Fr [a, ar, c] H H') (d : Dr H' a ac ar) (e : H' c = some (.lst (T'.map V.str))) : SH a ac ar t c so lp lv lm T T' us l P V' M H0 H' :=
  ⟨f.1 _ _ (sub_r N.nt N.tc) S.et, e, f.1 _ _ (sub_r N.ns (Ne.symm N.cs)) S.es, S.rw.tfr (S := [a, ar, c]) (fun b hb xs z => by
    simp only [List.mem_cons, List.not_mem_nil, or_false] at hb
    rcases hb with hb | hb | hb
    · exact S.D.ntup b (by simp [hb]) xs z
    · exact S.D.ntup b (by simp [hb]) xs z
    · rw [hb, S.ec] at z; cases z) f, f.1 _ _ (sub_r N.np (out3 N.pt).2.1) S.ep, f.1 _ _ (sub_r N.nv (out3 N.vt).2.1) S.ev, f.1 _ _ (sub_r N.nm (out3 N.mt).2.1) S.em, d, fr_drop S.F f N.fc⟩
theorem SH.row {s : So} {q : Addr} (N : SN a ac ar t c so lp lv lm H0) (S : SH a ac ar t c so lp lv lm T C us l P V' M H0 H) (hq : H q = some (.tup [.str s.n, .str s.k, oS s.pa, .bl s.de])) : SH a ac ar t c so lp lv lm T C (us ++ [.ref q]) (l ++ [s]) P V' M H0 (upd H so (.lst (us ++ [.ref q]))) :=
  ⟨(upd_ne N.ts).trans S.et, (upd_ne N.cs).trans S.ec, upd_same, .snoc ((upd_ne (fun z => by rw [z, S.es] at hq; cases hq)).trans hq) (S.rw.mono fun p s _ e => (upd_ne (fun z => by rw [z, S.es] at e; cases e)).trans e), (upd_ne (out3 N.pt).2.2).trans S.ep, (upd_ne (out3 N.vt).2.2).trans S.ev, (upd_ne (out3 N.mt).2.2).trans S.em, S.D.put (out3 N.ns).1 (out3 N.ns).2.1 (out3 N.ns).2.2, S.F.put_free N.fs⟩
end
theorem at_opt {P : List Str} {i : Int} (h0 : 0 ≤ i) (h1 : i < P.length + 1) : ∃ pa, atI ([V.non] ++ P.map V.str) i = some (oS pa) ∧ ∀ w, pa = some w → w ∈ P := by
  obtain ⟨k, rfl⟩ := Int.eq_ofNat_of_zero_le h0
  cases k with
  | zero => exact ⟨none, atI_nat rfl, fun w z => by cases z⟩
  | succ k =>
    have hk : k < P.length := by omega
    refine ⟨some P[k], atI_nat ?_, fun w z => by cases z; exact List.getElem_mem hk⟩
    show (P.map V.str)[k]? = _
    rw [List.getElem?_map, List.getElem?_eq_getElem hk]
    rfl
theorem at_lastS {ws : List Str} {w : Str} {i : Int} (h : i = -1) : atI ((ws ++ [w]).map V.str) i = some (.str w) := by
  subst h
  rw [show (ws ++ [w]).map V.str = ws.map V.str ++ [.str w] by simp, atI_last]
theorem Spc.snoc {l : List So} {P V' M : List Str} {s : So} (h : Spc l P V' M) (g1 : good s.n = true) (n1 : s.n ∉ l.map So.n) (g2 : good s.k = true) (n2 : s.k ∉ P ++ V' ++ M ++ l.map So.k) (hp : ∀ w, s.pa = some w → w ∈ P) : Spc (l ++ [s]) P V' M := by
  refine ⟨h.lP, h.lV, h.lM, fun w hw => ?_, ?_, fun w hw => ?_, ?_, fun x hx => ?_⟩
  · rw [List.map_append] at hw
    rcases List.mem_append.mp hw with z | z
    · exact h.gn w z
    · rw [List.mem_singleton.mp z]; exact g1
  · rw [List.map_append, List.nodup_append]
    exact ⟨h.nn, by simp, fun x hx y hy e => n1 (by rw [List.mem_singleton.mp hy] at e; rw [← e]; exact hx)⟩
  · rw [List.map_append, ← List.append_assoc] at hw
    rcases List.mem_append.mp hw with z | z
    · exact h.gc w z
    · rw [List.mem_singleton.mp z]; exact g2
  · rw [List.map_append, ← List.append_assoc, List.nodup_append]
    exact ⟨h.nc, by simp, fun x hx y hy e => n2 (by rw [List.mem_singleton.mp hy] at e; rw [← e]; exact hx)⟩
  · rcases List.mem_append.mp hx with z | z
    · exact h.pp x z
    · rw [List.mem_singleton.mp z]; exact hp
def ISp (a ac ar t c so lp lv lm : Addr) (m : Nat) (P V' M : List Str) (H0 : Hp) (i : Nat) (σ : L2.St) (H : Hp) : Prop := (∃ v8 v9 v10 v11 v12, σ = [some (.ref a), some (.int m), some (.ref t), some (.ref c), some (.ref so), some (.ref lp), some (.ref lv), some (.ref lm), v8, v9, v10, v11, v12]) ∧ ∃ us l, SH a ac ar t c so lp lv lm (P ++ V' ++ M ++ l.map So.k) (l.map So.n) us l P V' M H0 H ∧ Spc l P V' M ∧ l.length = i
def Spd (K : PySem.W.Frag) (H : Hp) (S : List Addr) (r ls lp lv lm : Addr) (us : List V) (l : List So) (P V' M : List Str) : Prop := H r = some (.lst [.ref ls, .ref lp, .ref lv, .ref lm]) ∧ H ls = some (.lst us) ∧ RwL H .tup us l ∧ H lp = some (.lst (P.map V.str)) ∧ H lv = some (.lst (V'.map V.str)) ∧ H lm = some (.lst (M.map V.str)) ∧ r ∉ S ∧ ls ∉ S ∧ lp ∉ S ∧ lv ∉ S ∧ lm ∉ S
def spSpec (K : PySem.W.Frag) : Sp := fun vs H Q _ => ∃ (a ac ar : Addr) (m : Nat), vs = [.ref a, .int m] ∧ 1 ≤ m ∧ m ≤ 3 ∧ Dr H a ac ar ∧ ∀ r ls lp lv lm us l P V' M H', Spd K H' [a, ac, ar] r ls lp lv lm us l P V' M → Spc l P V' M → 1 ≤ l.length → l.length ≤ m → Dr H' a ac ar → My.Fr [a, ar] H H' → Q (.ref r) H' 
abbrev rowV (s : So) : List V := [.str s.n, .str s.k, oS s.pa, .bl s.de]
theorem row_inj {s s' : So} (h : rowV s = rowV s') : s = s' := by
  unfold rowV at h
  injection h with a1 h
  injection h with a2 h
  injection h with a3 h
  injection h with a4 _
  obtain ⟨n, k, pa, de⟩ := s
  obtain ⟨n', k', pa', de'⟩ := s'
  have b3 := oS_inj a3
  cases a1
  cases a2
  cases b3
  cases a4
  rfl
def spSort (K : PySem.W.Frag) : Sp := fun vs H Q _ => ∃ p s, vs = [.ref p] ∧ H p = some (.tup (rowV s)) ∧ ∀ q H', H q = none → IsSort K H' q s → My.Fr [] H H' → Q (.ref q) H'
theorem sort_made {K : PySem.W.Frag} {H : Hp} {x dx : Addr} {s : So} {Q : VK} (hx : H x = none) (hd : H dx = none) (q : ∀ q H', H q = none → IsSort K H' q s → My.Fr [] H H' → Q (.ref q) H') : Q (.ref x) (upd (upd (upd H dx (.own x)) x (.ins (He.ga K "Sort") dx [])) x (.ins (He.ga K "Sort") dx (soF s))) :=
  q x _ hx ⟨dx, upd_same⟩ (((Fr.new hd).put_free hx).put_free hx)
inductive RwT (S : List Addr) (H : Hp) : List V → List So → Prop
  | nil : RwT S H [] []
  | cons {p : Addr} {s : So} {vs : List V} {l : List So} : p ∉ S → H p = some (.tup (rowV s)) → RwT S H vs l → RwT S H (.ref p :: vs) (s :: l)
section
variable {S T : List Addr} {H H' : Hp} {vs us : List V} {l k : List So}
theorem RwT.len : ∀ {vs : List V} {l : List So}, RwT S H vs l → vs.length = l.length
  | _, _, .nil => rfl
  | _, _, .cons _ _ b => by simp [RwT.len b]
theorem RwT.fr (f : My.Fr T H H') (n : ∀ b ∈ T, b ∈ S) : ∀ {vs : List V} {l : List So}, RwT S H vs l → RwT S H' vs l
  | _, _, .nil => .nil
  | _, _, .cons h a b => .cons h (f.1 _ _ (fun z => h (n _ z)) a) (RwT.fr f n b)
theorem RwT.get : ∀ {vs : List V} {l : List So}, RwT S H vs l → ∀ (i : Nat) (x : V), vs[i]? = some x → ∃ p s, x = .ref p ∧ l[i]? = some s ∧ p ∉ S ∧ H p = some (.tup (rowV s))
  | _, _, .nil, i, x, e => by simp at e
  | _, _, .cons h a b, 0, x, e => by cases e; exact ⟨_, _, rfl, rfl, h, a⟩
  | _, _, .cons h a b, i + 1, x, e => RwT.get b i x e
theorem RwT.app : ∀ {vs : List V} {l : List So}, RwT S H vs l → RwT S H us k → RwT S H (vs ++ us) (l ++ k)
  | _, _, .nil, b => b
  | _, _, .cons h a c, b => .cons h a (RwT.app c b)
theorem RwT.drop : ∀ {vs : List V} {l : List So} (n : Nat), RwT S H vs l → RwT S H (vs.drop n) (l.drop n)
  | _, _, 0, h => h
  | _, _, _ + 1, .nil => .nil
  | _, _, n + 1, .cons _ _ b => RwT.drop n b
theorem RwT.take : ∀ {vs : List V} {l : List So} (n : Nat), RwT S H vs l → RwT S H (vs.take n) (l.take n)
  | _, _, 0, _ => .nil
  | _, _, _ + 1, .nil => .nil
  | _, _, n + 1, .cons h a b => .cons h a (RwT.take n b)
theorem RwT.of (hS : ∀ b ∈ S, ∃ xs, H b = some (.lst xs)) : ∀ {vs : List V} {l : List So}, RwL H .tup vs l → RwT S H vs l
  | _, _, .nil => .nil
  | _, _, .cons a b => .cons (fun z => by obtain ⟨xs, e⟩ := hS _ z; rw [e] at a; cases a) a (RwT.of hS b)
end
/-- a description: the sorts' rows, the columns of parts, values and marks; none of it in S -/
structure Spx (S : List Addr) (H : Hp) (r ls lp lv lm : Addr) (us : List V) (l : List So) (P V' M : List Str) : Prop where
  er : H r = some (.lst [.ref ls, .ref lp, .ref lv, .ref lm])
  es : H ls = some (.lst us)
  rw : RwT S H us l
  ep : H lp = some (.lst (P.map V.str))
  ev : H lv = some (.lst (V'.map V.str))
  em : H lm = some (.lst (M.map V.str))
  nr : r ∉ S
  ns : ls ∉ S
  np : lp ∉ S
  nv : lv ∉ S
  nm : lm ∉ S
theorem Spx.fr {S T : List Addr} {H H' : Hp} {r ls lp lv lm : Addr} {us : List V} {l : List So} {P V' M : List Str} (X : Spx S H r ls lp lv lm us l P V' M) (f : My.Fr T H H') (n : ∀ b ∈ T, b ∈ S) : Spx S H' r ls lp lv lm us l P V' M :=
  ⟨f.1 _ _ (fun z => X.nr (n _ z)) X.er, f.1 _ _ (fun z => X.ns (n _ z)) X.es, X.rw.fr f n, f.1 _ _ (fun z => X.np (n _ z)) X.ep, f.1 _ _ (fun z => X.nv (n _ z)) X.ev, f.1 _ _ (fun z => X.nm (n _ z)) X.em, X.nr, X.ns, X.np, X.nv, X.nm⟩
theorem Spx.f0 {S : List Addr} {H H' : Hp} {r ls lp lv lm : Addr} {us : List V} {l : List So} {P V' M : List Str} (X : Spx S H r ls lp lv lm us l P V' M) (f : My.Fr [] H H') : Spx S H' r ls lp lv lm us l P V' M := X.fr f (by simp)
/-- a description whose parts have no names -/
def Spn (S : List Addr) (H : Hp) (r : Addr) (l : List So) (P V' M : List Str) : Prop := ∃ ls lp lv lm us, Spx S H r ls lp lv lm us l P V' M
theorem Spn.fr {S T : List Addr} {H H' : Hp} {r : Addr} {l : List So} {P V' M : List Str} (X : Spn S H r l P V' M) (f : My.Fr T H H') (n : ∀ b ∈ T, b ∈ S) : Spn S H' r l P V' M := by
  obtain ⟨ls, lp, lv, lm, us, X⟩ := X
  exact ⟨ls, lp, lv, lm, us, X.fr f n⟩
theorem Spn.f0 {S : List Addr} {H H' : Hp} {r : Addr} {l : List So} {P V' M : List Str} (X : Spn S H r l P V' M) (f : My.Fr [] H H') : Spn S H' r l P V' M := X.fr f (by simp)
theorem kept_rt {S : List Addr} {H0 H : Hp} {f : So → V} {R : V → Option V → Hp → Prop} (hR : ∀ x o, R x o H → ∃ p s, x = .ref p ∧ H0 p = some (.tup (rowV s)) ∧ o = some (f s)) : ∀ {vs ys : List V} {l : List So}, RwT S H0 vs l → My.Kept R H vs ys → ys = l.map f
  | _, _, _, .nil, k => by cases k; rfl
  | _, _, _, .cons _ a b, k => by
    cases k with
    | yes r k =>
      obtain ⟨p, s, e1, e2, e3⟩ := hR _ _ r
      cases e1
      cases e3
      rw [a] at e2
      injection e2 with e2
      injection e2 with e2
      rw [List.map_cons, kept_rt hR b k, row_inj e2]
    | no r k =>
      obtain ⟨p, s, e1, e2, e3⟩ := hR _ _ r
      cases e3
theorem lc_rt {K : PySem.W.Frag} {te : TE} {vs : List Nat} {σ : L2.St} {j : Nat} {Q : VK} {H : Hp} {s0 : Addr} {us : List V} {S : List Addr} {l : List So} (f : So → V) (h : H s0 = some (.lst us)) (rw' : RwT S H us l) (hlen : l.length ≤ 1000) (hw : ∀ p : Addr, wipe ((wipe σ vs).set j (some (.ref p))) vs = wipe σ vs)
    (hr : ∀ s p (H' : Hp) (Q' : VK), H' p = some (.tup (rowV s)) → Q' (f s) H' → te ((wipe σ vs).set j (some (.ref p))) H' Q') (q : ∀ Dl H', H Dl = none → H' Dl = some (.lst (l.map f)) → My.Fr [] H H' → Q (.ref Dl) H') : KLcL K (gName j) tYes te vs σ Q (.ref s0) H := by
  refine lc_l (S := []) (fun _ => True) (fun x o _ => ∃ p s, x = .ref p ∧ H p = some (.tup (rowV s)) ∧ o = some (f s)) (SqL.of h) (by simp) (by rw [rw'.len]; omega) (by simp) ⟨True.intro, fun _ _ _ _ _ => True.intro, fun _ _ _ _ _ r => r, fun _ _ _ _ _ _ _ r => r, fun x H' hx Fx _ Qn kq => ?_⟩ fun Dl ys H' hD eD k fr _ => ?_
  · obtain ⟨i, hi⟩ := List.getElem?_of_mem hx
    obtain ⟨p, s, rfl, _, _, e⟩ := rw'.get i x hi
    refine ⟨hw p, ?_⟩
    show te ((wipe σ vs).set j (some (.ref p))) H' fun y H4 => Qn (some y) H4
    exact hr s p H' _ (Fx.1 _ _ (by simp) e) (kq _ _ ⟨p, s, rfl, e, rfl⟩ (Fr.refl _ _) True.intro)
  · rw [kept_rt (H0 := H) (f := f) (fun x o r => r) rw' k] at eD
    exact q Dl H' hD eD fr
structure Sz (l : List So) (P V' M : List Str) : Prop where
  l : l.length ≤ 3
  p : P.length ≤ 3
  v : V'.length ≤ 4
  m : M.length ≤ 4
theorem cols_len (l : List So) (P V' M : List Str) : (cols l P V' M).length = P.length + (l.length + (V'.length + M.length)) := by unfold cols; simp only [List.length_append, List.length_map]
def spCols : Sp := fun vs H Q _ => ∃ S r l P V' M, vs = [.ref r] ∧ Spn S H r l P V' M ∧ Sz l P V' M ∧ ∀ q H', H q = none → H' q = some (.lst ((cols l P V' M).map V.str)) → My.Fr [] H H' → Q (.ref q) H' 
structure Gd (l : List So) (P V' M : List Str) : Prop where
  c : Spc l P V' M
  n : l.length ≤ 3
  h : 1 ≤ l.length
theorem Gd.sz {l : List So} {P V' M : List Str} (G : Gd l P V' M) : Sz l P V' M := ⟨G.n, by have := G.c.lP; omega, by have := G.c.lV; omega, by have := G.c.lM; omega⟩
theorem good_aw {w : Str} (h : good w = true) : Aw 9 w := by
  unfold good at h
  simp only [Bool.and_eq_true, Bool.not_eq_true', Bool.or_eq_false_iff, decide_eq_false_iff_not] at h
  refine ⟨fun c hc => ?_, by omega⟩
  have z := List.all_eq_true.mp h.2 c hc
  unfold lowc at z
  simp only [Bool.and_eq_true, decide_eq_true_eq] at z
  omega
theorem Gd.gc {l : List So} {P V' M : List Str} (G : Gd l P V' M) : ∀ w ∈ cols l P V' M, good w = true := fun w hw => G.c.gc w ((cols_perm l P V' M).mem_iff.mp hw)
theorem Gd.ws {l : List So} {P V' M : List Str} (G : Gd l P V' M) : ∀ w ∈ l.map So.n ++ cols l P V' M, good w = true := fun w hw => (List.mem_append.mp hw).elim (G.c.gn w) (G.gc w)
theorem Gd.le {l : List So} {P V' M : List Str} (G : Gd l P V' M) : ∀ w ∈ l.map So.n ++ cols l P V' M, w.length ≤ 100000 := fun w hw => Nat.le_trans (good_aw (G.ws w hw)).ln (by decide)
theorem Gd.ok {l : List So} {P V' M : List Str} (G : Gd l P V' M) : ∀ w ∈ P ++ V' ++ M, PyData.strOk w = true := fun w hw => (good_aw (G.gc w (by
  unfold cols
  simp only [List.mem_append] at hw ⊢
  rcases hw with (h | h) | h
  · exact .inl h
  · exact .inr (.inr (.inl h))
  · exact .inr (.inr (.inr h))))).ok
def kD (P V' M : List Str) : PyData := .list [.list (P.map PyData.str), .list (V'.map PyData.str), .list (M.map PyData.str)]
theorem kD_dp {K : PySem.W.Frag} {H : Hp} {k0 kp kv km : Addr} {P V' M : List Str} (h0 : H k0 = some (.lst [.ref kp, .ref kv, .ref km])) (h1 : H kp = some (.lst (P.map V.str))) (h2 : H kv = some (.lst (V'.map V.str))) (h3 : H km = some (.lst (M.map V.str))) : Dp K H (.ref k0) (kD P V' M) :=
  .lst (SqL.of h0) (.cons (.lst (SqL.of h1) (dp_ss _)) (.cons (.lst (SqL.of h2) (dp_ss _)) (.cons (.lst (SqL.of h3) (dp_ss _)) .nil)))
theorem kD_sh {P V' M : List Str} (h : ∀ w ∈ P ++ V' ++ M, PyData.strOk w = true) : SeqAt.shaped (kD P V' M) = true := by
  have a := ss_lay (ws := P) fun w hw => h w (by simp [hw])
  have b := ss_lay (ws := V') fun w hw => h w (by simp [hw])
  have c := ss_lay (ws := M) fun w hw => h w (by simp [hw])
  simp only [kD, SeqAt.shaped, PyData.canLay0, PyData.canLayAll0, PyData.depth, PyData.depthAll, a, b, c, ss_dep]
  rfl
theorem kD_eq (P V' M P2 V2 M2 : List Str) : PyData.eqv (kD P V' M) (kD P2 V2 M2) = (decide (P = P2) && (decide (V' = V2) && decide (M = M2))) := by
  show (PyData.eqv (.list (P.map PyData.str)) (.list (P2.map PyData.str)) && (PyData.eqv (.list (V'.map PyData.str)) (.list (V2.map PyData.str)) && (PyData.eqv (.list (M.map PyData.str)) (.list (M2.map PyData.str)) && true))) = _
  rw [eqv_lst, eqv_lst, eqv_lst, Bool.and_true]
def RSt (K : PySem.W.Frag) (H0 : Hp) (x : V) (o : Option V) (H : Hp) : Prop := ∃ p s q, x = .ref p ∧ H0 p = some (.tup (rowV s)) ∧ o = some (.ref q) ∧ IsSort K H q s
theorem kept_sot {S : List Addr} {K : PySem.W.Frag} {H0 H : Hp} : ∀ {vs ys : List V} {l : List So}, RwT S H0 vs l → My.Kept (RSt K H0) H vs ys → SoL K H ys l
  | _, _, _, .nil, k => by cases k; exact .nil
  | _, _, _, .cons _ a b, k => by
    cases k with
    | yes r k =>
      obtain ⟨p, s, q, e1, e2, e3, e4⟩ := r
      cases e1
      cases e3
      rw [a] at e2
      injection e2 with e2
      injection e2 with e2
      rw [row_inj e2]
      exact .cons e4 (kept_sot b k)
    | no r k =>
      obtain ⟨p, s, q, e1, e2, e3, e4⟩ := r
      cases e3
theorem Cw.f0 {K : PySem.W.Frag} {H H' : Hp} {a : Addr} {ws : List Str} (h : Cw K H a ws) (f : My.Fr [] H H') : Cw K H' a ws := h.elim (fun h => .inl (f.l (by simp) h)) fun h => .inr (f.t (by simp) h)
theorem sch_run {K : PySem.W.Frag} {Hc : Hp} {x dx nq a b c : Addr} {ys : List V} {l : List So} {P V' M : List Str} {Q' : VK} (hx : Hc x = none) (hd : Hc dx = none) (es : Hc nq = some (.lst ys)) (SL : SoL K Hc ys l) (ca : Cw K Hc a P) (cb : Cw K Hc b V') (cc : Cw K Hc c M) (G : Gd l P V' M) (q : ∀ H', IsSch K H' x l P V' M → My.Fr [] Hc H' → Q' (.ref x) H') :
    sp_schI K [.ref x, .ref nq, .ref a, .ref b, .ref c] (upd (upd Hc dx (.own x)) x (.ins (He.ga K "Scheme") dx [])) (fun v H2 => v = .non ∧ Q' (.ref x) H2) E0 := by
  obtain ⟨z1, z2, z3, z4⟩ := G.sz
  have F5 : My.Fr [] Hc (upd (upd Hc dx (.own x)) x (.ins (He.ga K "Scheme") dx [])) := (Fr.new hd).put_free hx
  refine ⟨x, dx, nq, a, b, c, ys, l, P, V', M, rfl, upd_same, SqL.of (F5.1 _ _ (by simp) es), SL.fr F5, ca.f0 F5, cb.f0 F5, cc.f0 F5, by omega, by omega, by omega, by omega, G.le, fun _ H6 I6 F6 => ⟨rfl, q H6 I6 ⟨fun b o n e => F6.1 b o (fun z => by
    rw [List.mem_singleton.mp z, hx] at e
    cases e) (F5.1 b o n e), fun b e => F5.2 b (F6.2 b e)⟩⟩, fun w e => by rw [G.c.chk] at e; cases e⟩
def spMade (K : PySem.W.Frag) : Sp := fun vs H Q _ => ∃ S r l P V' M, vs = [.ref r] ∧ Spn S H r l P V' M ∧ Gd l P V' M ∧ ∀ q H', H q = none → IsSch K H' q l P V' M → My.Fr [] H H' → Q (.ref q) H'
def MdW (K : PySem.W.Frag) (H0 H1 : Hp) (r nq k0 : Addr) (l : List So) (P V' M : List Str) (σ : L2.St) (H : Hp) : Prop := ∃ x v4 v5, σ = [some (.ref r), some (.ref nq), some (.ref k0), some (.ref x), v4, v5] ∧ H0 x = none ∧ IsSch K H x l P V' M ∧ My.Fr [] H1 H
theorem fr_away {T : List Addr} {H H1 H2 : Hp} (F : My.Fr [] H H1) (f : My.Fr T H1 H2) (h : ∀ t ∈ T, H t = none) : My.Fr [] H H2 :=
  ⟨fun b o n e => f.1 b o (fun z => by rw [h b z] at e; cases e) (F.1 b o n e), fun b e => F.2 b (f.2 b e)⟩
def IMd (K : PySem.W.Frag) (r nq k0 x kp kv km : Addr) (l : List So) (P V' M : List Str) (H0 : Hp) (i : Nat) (σ : L2.St) (H : Hp) : Prop := (∃ v4 v5, σ = [some (.ref r), some (.ref nq), some (.ref k0), some (.ref x), v4, v5]) ∧ IsSch K H x l P V' M ∧ H k0 = some (.lst [.ref kp, .ref kv, .ref km]) ∧ (∀ b ∈ [kp, kv, km], ∃ ws, H b = some (.lst ws) ∧ ws.length ≤ 10 + i) ∧ k0 ∉ [kp, kv, km] ∧ My.Fr [nq, kp, kv, km] H0 H
def CpP (H : Hp) (Dl : Addr) (cont : List (List V)) (i : Nat) (H' : Hp) : Prop := ∃ qs : List Addr, H' Dl = some (.lst (qs.map V.ref)) ∧ qs.length = i ∧ (Dl :: qs).Nodup ∧ (∀ c ∈ qs, ∃ o, H' c = some o) ∧ (∀ (i : Nat) (c : Addr) (xs : List V), qs[i]? = some c → cont[i]? = some xs → H c = none ∧ H' c = some (.lst xs)) ∧ My.Fr [] H H'
theorem lc_copy {K : PySem.W.Frag} {te : TE} {vs : List Nat} {σ : L2.St} {j : Nat} {Q : VK} {H : Hp} {a : Addr} {bs : List Addr} {cont : List (List V)} (h : SqL K H a (bs.map V.ref)) (hlen : bs.length ≤ 1000) (hb : ∀ (i : Nat) (b : Addr), bs[i]? = some b → ∃ xs, cont[i]? = some xs ∧ (SqL K H b xs ∨ SqT K H b xs)) (hw : ∀ p : Addr, wipe ((wipe σ vs).set j (some (.ref p))) vs = wipe σ vs)
    (hr : ∀ p xs (H' : Hp) (Q' : VK), (SqL K H' p xs ∨ SqT K H' p xs) → (∀ q, H' q = none → Q' (.ref q) (upd H' q (.lst xs))) → te ((wipe σ vs).set j (some (.ref p))) H' Q')
    (q : ∀ Dl (qs : List Addr) H', H Dl = none → H' Dl = some (.lst (qs.map V.ref)) → qs.length = bs.length → (Dl :: qs).Nodup → (∀ (i : Nat) (c : Addr) (xs : List V), qs[i]? = some c → cont[i]? = some xs → H c = none ∧ H' c = some (.lst xs)) → My.Fr [] H H' → Q (.ref Dl) H') : KLcL K (gName j) tYes te vs σ Q (.ref a) H := by
  have sl : (100000 : Nat) ≤ sizeLine := by decide
  refine ⟨a, rfl, ⟨_, h⟩, fun Dl hD => lc_list (xs := bs.map V.ref) (CpP H Dl cont) ⟨[], upd_same, rfl, by simp, by simp, by simp, Fr.new hD⟩ (fun i H' _ p => p.choose_spec.2.2.2.2.2.l (by simp) h) (fun i x H' hx p => ?_) fun H' p => ?_⟩
  · rw [List.getElem?_map] at hx
    cases e : bs[i]? with
    | none => rw [e] at hx; cases hx
    | some b =>
      rw [e] at hx
      cases hx
      obtain ⟨xs, ex, hs⟩ := hb i b e
      obtain ⟨qs, e1, e2, e3, e4, e5, e6⟩ := p
      have hi := (List.getElem?_eq_some_iff.mp e).1
      refine ⟨hw b, ?_⟩
      show te ((wipe σ vs).set j (some (.ref b))) H' fun y H4 => ∃ acc, H4 Dl = some (.lst acc) ∧ acc.length < sizeLine ∧ CpP H Dl cont (i + 1) (upd H4 Dl (.lst (acc ++ [y])))
      refine hr b xs H' _ (hs.elim (fun z => .inl (e6.l (by simp) z)) fun z => .inr (e6.t (by simp) z)) fun c hc => ?_
      have nD : Dl ≠ c := ne_of_none e1 hc
      have nq : c ∉ qs := fun z => by
        obtain ⟨o, eo⟩ := e4 c z
        rw [eo] at hc; cases hc
      refine ⟨qs.map V.ref, (upd_ne nD).trans e1, by rw [List.length_map]; omega, qs ++ [c], by rw [upd_same]; simp, by rw [List.length_append, e2]; rfl, ?_, fun d hd => ?_, fun k d ys hd hk => ?_, (e6.put_new hc).put_free hD⟩
      · rw [← List.cons_append, List.nodup_append]
        exact ⟨e3, by simp, fun x hx y hy z => by
          rw [List.mem_singleton.mp hy] at z
          rcases List.mem_cons.mp hx with h | h
          · exact nD (by rw [← h, z])
          · exact nq (z ▸ h)⟩
      · by_cases z : d = Dl
        · exact ⟨_, by rw [z]; exact upd_same⟩
        · rw [upd_ne z]
          rcases List.mem_append.mp hd with h | h
          · obtain ⟨o, eo⟩ := e4 d h
            exact ⟨o, (upd_ne (ne_of_none eo hc)).trans eo⟩
          · rw [List.mem_singleton.mp h]; exact ⟨_, upd_same⟩
      · by_cases hk' : k < qs.length
        · rw [List.getElem?_append_left hk'] at hd
          obtain ⟨g1, g2⟩ := e5 k d ys hd hk
          have z : d ≠ Dl := fun z => by
            rw [z] at hd
            exact (List.nodup_cons.mp e3).1 (List.mem_of_getElem? hd)
          exact ⟨g1, by rw [upd_ne z, upd_ne (ne_of_none g2 hc)]; exact g2⟩
        · have hk2 : k = qs.length := by
            have := (List.getElem?_eq_some_iff.mp hd).1
            rw [List.length_append, List.length_singleton] at this
            omega
          subst hk2
          rw [List.getElem?_append_right (Nat.le_refl _), Nat.sub_self] at hd
          cases hd
          rw [e2, ex] at hk
          cases hk
          exact ⟨e6.2 _ hc, by rw [upd_ne (Ne.symm nD)]; exact upd_same⟩
  · obtain ⟨qs, e1, e2, e3, e4, e5, e6⟩ := p
    exact q Dl qs H' hD e1 (by rw [e2, List.length_map]) e3 e5 e6

def tolD (l : List So) (P V' M : List Str) : PyData := .list [.list ((cols l P V' M).map PyData.str), .list ((l.map So.n).map PyData.str), .tuple (P.map PyData.str), .tuple (V'.map PyData.str), .tuple (M.map PyData.str)]
theorem hd_ss : ∀ ws : List Str, PyData.hasDictAll (ws.map PyData.str) = false
  | [] => rfl
  | w :: ws => by
    show (PyData.hasDict (.str w) || PyData.hasDictAll (ws.map PyData.str)) = false
    rw [hd_ss ws]; rfl
theorem sw_ss : ∀ ws : List Str, PyData.showableAll (ws.map PyData.str) = true
  | [] => rfl
  | w :: ws => by
    show (PyData.showable (.str w) && PyData.showableAll (ws.map PyData.str)) = true
    rw [sw_ss ws]; rfl
theorem we_ss {n : Nat} : ∀ {ws : List Str}, (∀ w ∈ ws, w.length ≤ n) → PyData.weightAll (ws.map PyData.str) ≤ (n + 1) * ws.length
  | [], _ => Nat.zero_le _
  | w :: ws, h => by
    show w.cps.size + 1 + PyData.weightAll (ws.map PyData.str) ≤ (n + 1) * (ws.length + 1)
    have a := h w (by simp)
    have b := we_ss (ws := ws) fun x hx => h x (by simp [hx])
    have c : w.length = w.cps.size := rfl
    rw [Nat.mul_add]
    omega
structure Shw (d : PyData) : Prop where
  a : d.showable = true
  b : d.hasDict = false
  c : d.depth ≤ 60
  e : d.shown.length ≤ sizeLine
  ok : PyData.strOk d.shown = true
theorem ok_shown_strs {ws : List Str} (h : ∀ w ∈ ws, PyData.strOk w = true) : True := True.intro
theorem told_shw {l : List So} {P V' M : List Str} (G : Gd l P V' M) : (tolD l P V' M).showable = true ∧ (tolD l P V' M).hasDict = false ∧ (tolD l P V' M).depth ≤ 60 ∧ (tolD l P V' M).shown.length ≤ sizeLine := by
  obtain ⟨z1, z2, z3, z4⟩ := G.sz
  have okN : ∀ w ∈ l.map So.n, Aw 9 w := fun w hw => good_aw (G.c.gn w hw)
  have okC : ∀ w ∈ cols l P V' M, Aw 9 w := fun w hw => good_aw (G.gc w hw)
  have okP : ∀ w ∈ P, Aw 9 w := fun w hw => okC w (by unfold cols; simp [hw])
  have okV : ∀ w ∈ V', Aw 9 w := fun w hw => okC w (by unfold cols; simp [hw])
  have okM : ∀ w ∈ M, Aw 9 w := fun w hw => okC w (by unfold cols; simp [hw])
  refine ⟨?_, ?_, ?_, ?_⟩
  · simp only [tolD, PyData.showable, PyData.showableAll, sw_ss]
    rfl
  · simp only [tolD, PyData.hasDict, PyData.hasDictAll, hd_ss]
    rfl
  · simp only [tolD, PyData.depth, PyData.depthAll, ss_dep]
    decide
  · refine PyData.shown_fits_of_layable0 (B := 13) (by decide) (by decide) ?_ ?_
    · show (PyData.canLay0 _ && decide (PyData.depth _ ≤ 64) && decide (PyData.weight _ ≤ 2 ^ 20)) = true
      have c1 := we_ss fun w hw => (okC w hw).ln
      have c2 := we_ss fun w hw => (okN w hw).ln
      have c3 := we_ss fun w hw => (okP w hw).ln
      have c4 := we_ss fun w hw => (okV w hw).ln
      have c5 := we_ss fun w hw => (okM w hw).ln
      have lc := cols_len l P V' M
      rw [List.length_map] at c2
      have hw : PyData.weight (tolD l P V' M) ≤ 2 ^ 20 := by
        show PyData.weightAll _ + 1 + (PyData.weightAll _ + 1 + (PyData.weightAll _ + 1 + (PyData.weightAll _ + 1 + (PyData.weightAll _ + 1 + 0)))) ≤ _
        omega
      rw [decide_eq_true hw]
      simp only [tolD, PyData.canLay0, PyData.canLayAll0, PyData.depth, PyData.depthAll, ss_dep, ss_lay fun w hw => (okC w hw).ok, ss_lay fun w hw => (okN w hw).ok, ss_lay fun w hw => (okP w hw).ok, ss_lay fun w hw => (okV w hw).ok, ss_lay fun w hw => (okM w hw).ok]
      rfl
    · simp only [tolD, PyData.intsShort, PyData.intsShortAll, PyData.intsShortAll_strs]
      rfl
def spTold (K : PySem.W.Frag) : Sp := fun vs H Q _ => ∃ r l P V' M, vs = [.ref r] ∧ IsSch K H r l P V' M ∧ Gd l P V' M ∧ ∀ H', My.Fr [] H H' → Q (.str (tolD l P V' M).shown) H' 
def spDue : Sp := fun vs H Q _ => ∃ S r l P V' M, vs = [.ref r] ∧ Spn S H r l P V' M ∧ Gd l P V' M ∧ ∀ H', My.Fr [] H H' → Q (.str (tolD l P V' M).shown) H' 
def fourD (s : So) : PyData := .tuple [.str s.n, .str s.k, oSd s.pa, .bool s.de]
structure Gs (s : So) : Prop where
  n : Aw 9 s.n
  k : Aw 9 s.k
  p : ∀ w, s.pa = some w → Aw 9 w
theorem four_shw {s : So} (h : Gs s) : (fourD s).showable = true ∧ (fourD s).hasDict = false ∧ (fourD s).depth ≤ 60 ∧ (fourD s).shown.length ≤ sizeLine := by
  obtain ⟨n, k, pa, de⟩ := s
  obtain ⟨a, b, c⟩ := h
  have e1 : n.cps.size ≤ 9 := a.ln
  have e2 : k.cps.size ≤ 9 := b.ln
  have a' := a.ok
  have b' := b.ok
  cases pa with
  | none =>
    refine ⟨rfl, rfl, by show max 0 (max 0 (max 0 (max 0 0))) + 1 ≤ 60; decide, PyData.shown_fits_of_layable0 (B := 13) (by decide) (by decide) ?_ rfl⟩
    show (PyData.canLay0 _ && decide (PyData.depth _ ≤ 64) && decide (PyData.weight _ ≤ 2 ^ 20)) = true
    have hw : PyData.weight (fourD ⟨n, k, none, de⟩) ≤ 2 ^ 20 := by
      show n.cps.size + 1 + (k.cps.size + 1 + (0 + 1 + (0 + 1 + 0))) ≤ _
      omega
    rw [decide_eq_true hw]
    show (PyData.strOk n && (PyData.strOk k && true) && true && true) = true
    rw [a', b']; rfl
  | some w =>
    have c' := (c w rfl).ok
    have e3 : w.cps.size ≤ 9 := (c w rfl).ln
    refine ⟨rfl, rfl, by show max 0 (max 0 (max 0 (max 0 0))) + 1 ≤ 60; decide, PyData.shown_fits_of_layable0 (B := 13) (by decide) (by decide) ?_ rfl⟩
    show (PyData.canLay0 _ && decide (PyData.depth _ ≤ 64) && decide (PyData.weight _ ≤ 2 ^ 20)) = true
    have hw : PyData.weight (fourD ⟨n, k, some w, de⟩) ≤ 2 ^ 20 := by
      show n.cps.size + 1 + (k.cps.size + 1 + (w.cps.size + 1 + (0 + 1 + 0))) ≤ _
      omega
    rw [decide_eq_true hw]
    show (PyData.strOk n && (PyData.strOk k && (PyData.strOk w && true)) && true && true) = true
    rw [a', b', c']; rfl
theorem dp_oS {K : PySem.W.Frag} {H : Hp} {o : Option Str} : Dp K H (oS o) (oSd o) := by
  cases o
  · exact .non
  · exact .str _
theorem dp_row {K : PySem.W.Frag} {H : Hp} {p : Addr} {s : So} (h : SqT K H p (rowV s)) : Dp K H (.ref p) (fourD s) := .tup h (.cons (.str _) (.cons (.str _) (.cons dp_oS (.cons (.bl _) .nil))))
def spFour (K : PySem.W.Frag) : Sp := fun vs H Q _ => ∃ p s, vs = [.ref p] ∧ IsSort K H p s ∧ Gs s ∧ ∀ H', My.Fr [] H H' → Q (.str (fourD s).shown) H' 
section
open PySem.StrLaws PySem.Builtin.Str
theorem rq_or (x : Str) : reprQuote x = 39 ∨ reprQuote x = 34 := by
  unfold reprQuote
  split <;> simp
theorem rc_lt {q c : Nat} (hq : q = 39 ∨ q = 34) (hc : c < 128) : ∀ d ∈ reprChar q c, d < 128 := by
  have h : ((List.range 128).all fun c => ((reprChar 39 c).all fun d => decide (d < 128)) && (reprChar 34 c).all fun d => decide (d < 128)) = true := by decide +kernel
  have z := List.all_eq_true.mp h c (List.mem_range.mpr hc)
  rw [Bool.and_eq_true] at z
  intro d hd
  rcases hq with rfl | rfl
  · exact of_decide_eq_true (List.all_eq_true.mp z.1 d hd)
  · exact of_decide_eq_true (List.all_eq_true.mp z.2 d hd)
theorem rt_fold {q : Nat} (hq : q = 39 ∨ q = 34) : ∀ (l : List Nat) (acc : Array Nat), (∀ c ∈ l, c < 128) → (∀ c ∈ acc.toList, c < 128) → ∀ c ∈ (l.foldl (fun out c => out ++ (reprChar q c).toArray) acc).toList, c < 128
  | [], acc, _, ha => ha
  | c :: r, acc, h, ha => by
    rw [List.foldl_cons]
    refine rt_fold hq r _ (fun d hd => h d (by simp [hd])) fun d hd => ?_
    rw [Array.toList_append, List.mem_append] at hd
    exact hd.elim (ha d) fun z => rc_lt hq (h c (by simp)) d z
theorem ok_rep {n : Nat} {w : Str} (h : Aw n w) : PyData.strOk (reprText w) = true := by
  unfold reprText
  have hq := rq_or w
  have q1 : reprQuote w < 128 := by omega
  rw [show (⟨(w.cps.foldl (fun out c => out ++ (reprChar (reprQuote w) c).toArray) #[reprQuote w]).push (reprQuote w)⟩ : Str) = ⟨((w.cps.foldl (fun out c => out ++ (reprChar (reprQuote w) c).toArray) #[reprQuote w]).push (reprQuote w)).toList.toArray⟩ by simp]
  refine ok_cps fun c hc => ?_
  rw [Array.toList_push, List.mem_append, ← Array.foldl_toList] at hc
  have : c < 128 := hc.elim (rt_fold hq _ _ (fun d hd => h.as d hd) (fun d hd => by
    have : d = reprQuote w := by simpa using hd
    omega) c) fun z => by
      have : c = reprQuote w := by simpa using z
      omega
  omega
end
theorem four_ok {s : So} (h : Gs s) : PyData.strOk (fourD s).shown = true := by
  show PyData.strOk (tupleText (PyData.shownAll _)) = true
  refine ok_tuple _ fun t ht => ?_
  have e : t = PyData.shown (.str s.n) ∨ t = PyData.shown (.str s.k) ∨ t = PyData.shown (oSd s.pa) ∨ t = PyData.shown (.bool s.de) := by
    have z : t ∈ [PyData.shown (.str s.n), PyData.shown (.str s.k), PyData.shown (oSd s.pa), PyData.shown (.bool s.de)] := ht
    simpa using z
  rcases e with rfl | rfl | rfl | rfl
  · exact ok_rep h.n
  · exact ok_rep h.k
  · cases hp : s.pa with
    | none => exact ok_of "None"
    | some w => exact ok_rep (h.p w hp)
  · cases s.de
    · exact ok_of "False"
    · exact ok_of "True"
theorem Gd.gs {l : List So} {P V' M : List Str} (G : Gd l P V' M) : ∀ s ∈ l, Gs s := fun s hs => ⟨good_aw (G.c.gn _ (List.mem_map.mpr ⟨s, hs, rfl⟩)), good_aw (G.gc _ (by unfold cols; simp only [List.mem_append, List.mem_map]; exact .inr (.inl ⟨s, hs, rfl⟩))), fun w hw => good_aw (G.gc _ (by unfold cols; simp only [List.mem_append]; exact .inl (G.c.pp s hs w hw)))⟩

def NmV (H : Hp) (q : Addr) (l : List So) (w : Str) : Prop := match fnd l w with
  | some s => H q = some (.tup [.str "sort", .str (fourD s).shown])
  | none => H q = some (.tup [.str "unknown", .str w])
theorem fnd_mem {l : List So} {w : Str} {s : So} (h : fnd l w = some s) : s ∈ l ∧ s.n = w := by
  unfold fnd at h
  refine ⟨List.mem_of_find?_eq_some h, ?_⟩
  have z := List.find?_some h
  simpa using z
def spNamed (K : PySem.W.Frag) : Sp := fun vs H Q _ => ∃ r w l P V' M, vs = [.ref r, .str w] ∧ IsSch K H r l P V' M ∧ Gd l P V' M ∧ ∀ q H', NmV H' q l w → My.Fr [] H H' → Q (.ref q) H' 
def spNR (K : PySem.W.Frag) : Sp := fun vs H Q _ => ∃ S r q0 l P V' M, vs = [.ref q0, .ref r] ∧ IsSch K H q0 l P V' M ∧ Spn S H r l P V' M ∧ Gd l P V' M ∧ ∀ H', My.Fr [] H H' → Q (.bl true) H'
def nmD (l : List So) (w : Str) : PyData := match fnd l w with
  | some s => .tuple [.str "sort", .str (fourD s).shown]
  | none => .tuple [.str "unknown", .str w]
theorem nm_dp {K : PySem.W.Frag} {H : Hp} {q : Addr} {l : List So} {w : Str} (h : NmV H q l w) : Dp K H (.ref q) (nmD l w) := by
  unfold NmV at h
  unfold nmD
  cases e : fnd l w with
  | some s => rw [e] at h; exact .tup (SqT.of h) (.cons (.str _) (.cons (.str _) .nil))
  | none => rw [e] at h; exact .tup (SqT.of h) (.cons (.str _) (.cons (.str _) .nil))
theorem sh_2 {a b : Str} (ha : PyData.strOk a = true) (hb : PyData.strOk b = true) : SeqAt.shaped (.tuple [.str a, .str b]) = true := by
  show ((PyData.strOk a && (PyData.strOk b && true)) && true) = true
  rw [ha, hb]; rfl
theorem nm_sh {l : List So} {w : Str} (hl : ∀ s ∈ l, Gs s) (hw : PyData.strOk w = true) : SeqAt.shaped (nmD l w) = true := by
  unfold nmD
  cases e : fnd l w with
  | some s => exact sh_2 (ok_of _) (four_ok (hl s (fnd_mem e).1))
  | none => exact sh_2 (ok_of _) hw
theorem nm_eq {l : List So} {w : Str} (h : SeqAt.shaped (nmD l w) = true) : PyData.eqv (nmD l w) (nmD l w) = true := SeqAt.eqv_refl _ (SeqAt.canLay_of_shaped h)
theorem fnd_none {l : List So} {w : Str} : fnd l w = none ↔ w ∉ l.map So.n := by
  unfold fnd
  rw [List.find?_eq_none]
  constructor
  · intro h z
    obtain ⟨s, hs, e⟩ := List.mem_map.mp z
    exact h s hs (decide_eq_true e)
  · intro h s hs z
    exact h (List.mem_map.mpr ⟨s, hs, of_decide_eq_true z⟩)
theorem fnd_idx {l : List So} {w : Str} (h : w ∈ l.map So.n) : ∃ s, fnd l w = some s ∧ l[(l.map So.n).idxOf w]? = some s := by
  induction l with
  | nil => cases h
  | cons s r ih =>
    rw [fnd_cons, List.map_cons, List.idxOf_cons]
    by_cases e : s.n = w
    · rw [if_pos e]
      refine ⟨s, rfl, ?_⟩
      rw [e]
      simp
    · rw [if_neg e]
      have h' : w ∈ r.map So.n := by
        rcases List.mem_cons.mp h with z | z
        · exact absurd z.symm e
        · exact z
      obtain ⟨t, e1, e2⟩ := ih h'
      refine ⟨t, e1, ?_⟩
      have : (s.n == w) = false := by simp [e]
      rw [this]
      exact e2
theorem fnd_own {l : List So} (nd : (l.map So.n).Nodup) {s : So} (h : s ∈ l) : fnd l s.n = some s := by
  induction l with
  | nil => cases h
  | cons t r ih =>
    rw [fnd_cons]
    have nd' := List.nodup_cons.mp nd
    rcases List.mem_cons.mp h with rfl | z
    · rw [if_pos rfl]
    · rw [if_neg (fun e => nd'.1 (by rw [e]; exact List.mem_map.mpr ⟨s, z, rfl⟩))]
      exact ih nd'.2 z
def INR1 (q0 r nq : Addr) (H0 : Hp) (_ : Nat) (σ : L2.St) (H : Hp) : Prop := (∃ v3 v4 v5 v6, σ = [some (.ref q0), some (.ref r), v3, some (.ref nq), v4, v5, v6]) ∧ My.Fr [] H0 H
theorem kept_rw {H0 H : Hp} {f : So → V} {R : V → Option V → Hp → Prop} (hR : ∀ x o, R x o H → ∃ p s, x = .ref p ∧ H0 p = some (.lst (rowV s)) ∧ o = some (f s)) : ∀ {vs ys : List V} {l : List So}, RwL H0 .lst vs l → My.Kept R H vs ys → ys = l.map f
  | _, _, _, .nil, k => by cases k; rfl
  | _, _, _, .cons a b, k => by
    cases k with
    | yes r k =>
      obtain ⟨p, s, e1, e2, e3⟩ := hR _ _ r
      cases e1
      cases e3
      rw [a] at e2
      injection e2 with e2
      injection e2 with e2
      rw [List.map_cons, kept_rw hR b k, row_inj e2]
    | no r k =>
      obtain ⟨p, s, e1, e2, e3⟩ := hR _ _ r
      cases e3
theorem lc_rows {K : PySem.W.Frag} {te : TE} {vs : List Nat} {σ : L2.St} {j : Nat} {Q : VK} {H : Hp} {s0 : Addr} {us : List V} {l : List So} (f : So → V) (h : H s0 = some (.lst us)) (rw' : RwL H .lst us l) (hlen : l.length ≤ 1000) (hw : ∀ p : Addr, wipe ((wipe σ vs).set j (some (.ref p))) vs = wipe σ vs)
    (hr : ∀ s p (H' : Hp) (Q' : VK), H' p = some (.lst (rowV s)) → Q' (f s) H' → te ((wipe σ vs).set j (some (.ref p))) H' Q') (q : ∀ Dl H', H Dl = none → H' Dl = some (.lst (l.map f)) → My.Fr [] H H' → Q (.ref Dl) H') : KLcL K (gName j) tYes te vs σ Q (.ref s0) H := by
  refine lc_l (S := []) (fun _ => True) (fun x o _ => ∃ p s, x = .ref p ∧ H p = some (.lst (rowV s)) ∧ o = some (f s)) (SqL.of h) (by simp) (by rw [rw'.len]; omega) (by simp) ⟨True.intro, fun _ _ _ _ _ => True.intro, fun _ _ _ _ _ r => r, fun _ _ _ _ _ _ _ r => r, fun x H' hx Fx _ Qn kq => ?_⟩ fun Dl ys H' hD eD k fr _ => ?_
  · obtain ⟨i, hi⟩ := List.getElem?_of_mem hx
    obtain ⟨p, s, rfl, _, e⟩ := rw'.get i x hi
    refine ⟨hw p, ?_⟩
    show te ((wipe σ vs).set j (some (.ref p))) H' fun y H4 => Qn (some y) H4
    exact hr s p H' _ (Fx.1 _ _ (by simp) e) (kq _ _ ⟨p, s, rfl, e, rfl⟩ (Fr.refl _ _) True.intro)
  · rw [kept_rw (H0 := H) (f := f) (fun x o r => r) rw' k] at eD
    exact q Dl H' hD eD fr
/-- a table of lists: the sorts' rows, the three kinds of columns -/
structure Tb (H : Hp) (s0 k0 kp kv km : Addr) (ps : List Addr) (l : List So) (P V' M : List Str) : Prop where
  es : H s0 = some (.lst (ps.map V.ref))
  rw : RwL H .lst (ps.map V.ref) l
  ek : H k0 = some (.lst [.ref kp, .ref kv, .ref km])
  ep : H kp = some (.lst (P.map V.str))
  ev : H kv = some (.lst (V'.map V.str))
  em : H km = some (.lst (M.map V.str))
  sl : l.length ≤ 3
  sP : P.length ≤ 3
  sV : V'.length ≤ 3
  sM : M.length ≤ 3
theorem Tb.fr {H H' : Hp} {s0 k0 kp kv km : Addr} {ps : List Addr} {l : List So} {P V' M : List Str} {S : List Addr} (T : Tb H s0 k0 kp kv km ps l P V' M) (f : My.Fr S H H') (n : ∀ b ∈ s0 :: k0 :: kp :: kv :: km :: ps, b ∉ S) : Tb H' s0 k0 kp kv km ps l P V' M :=
  ⟨f.1 _ _ (n _ (by simp)) T.es, T.rw.mono fun p s m e => f.1 _ _ (n _ (by
    obtain ⟨p', hp, e⟩ := List.mem_map.mp m
    cases e
    simp [hp])) e, f.1 _ _ (n _ (by simp)) T.ek, f.1 _ _ (n _ (by simp)) T.ep, f.1 _ _ (n _ (by simp)) T.ev, f.1 _ _ (n _ (by simp)) T.em, T.sl, T.sP, T.sV, T.sM⟩
structure Out (a ac ar s0 k0 kp kv km : Addr) (ps : List Addr) : Prop where
  row : ∀ p ∈ ps, p ≠ a ∧ p ≠ ac ∧ p ≠ ar ∧ p ≠ s0 ∧ p ≠ k0 ∧ p ≠ kp ∧ p ≠ kv ∧ p ≠ km
  sp : s0 ≠ a ∧ s0 ≠ ar
  ko : k0 ≠ a ∧ k0 ≠ ar
  pp : kp ≠ a ∧ kp ≠ ac ∧ kp ≠ ar ∧ kp ≠ s0 ∧ kp ≠ k0 ∧ kp ≠ kv ∧ kp ≠ km
  vv : kv ≠ a ∧ kv ≠ ac ∧ kv ≠ ar ∧ kv ≠ s0 ∧ kv ≠ k0 ∧ kv ≠ kp ∧ kv ≠ km
  mm : km ≠ a ∧ km ≠ ac ∧ km ≠ ar ∧ km ≠ s0 ∧ km ≠ k0 ∧ km ≠ kp ∧ km ≠ kv
  nd : ps.Nodup
theorem out_of {a ac ar s0 k0 kp kv km : Addr} {ps : List Addr} (nd : (a :: ac :: ar :: s0 :: k0 :: kp :: kv :: km :: ps).Nodup) : Out a ac ar s0 k0 kp kv km ps := by
  simp only [List.nodup_cons, List.mem_cons, not_or] at nd
  obtain ⟨⟨a1, a2, a3, a4, a5, a6, a7, a8⟩, ⟨b1, b2, b3, b4, b5, b6, b7⟩, ⟨c1, c2, c3, c4, c5, c6⟩, ⟨d1, d2, d3, d4, d5⟩, ⟨e1, e2, e3, e4⟩, ⟨f1, f2, f3⟩, ⟨g1, g2⟩, h1, n⟩ := nd
  refine ⟨fun p hp => ⟨?_, ?_, ?_, ?_, ?_, ?_, ?_, ?_⟩, ⟨Ne.symm a3, Ne.symm c1⟩, ⟨Ne.symm a4, Ne.symm c2⟩, ⟨Ne.symm a5, Ne.symm b4, Ne.symm c3, Ne.symm d2, Ne.symm e1, f1, f2⟩, ⟨Ne.symm a6, Ne.symm b5, Ne.symm c4, Ne.symm d3, Ne.symm e2, Ne.symm f1, g1⟩, ⟨Ne.symm a7, Ne.symm b6, Ne.symm c5, Ne.symm d4, Ne.symm e3, Ne.symm f2, Ne.symm g1⟩, n⟩
  all_goals (intro z; subst z; contradiction)
theorem RwL.put {H : Hp} {p : Addr} {s' : So} : ∀ {ps : List Addr} {l : List So} {i : Nat}, ps.Nodup → RwL H .lst (ps.map V.ref) l → ps[i]? = some p → RwL (upd H p (.lst (rowV s'))) .lst (ps.map V.ref) (l.set i s')
  | [], _, _, _, _, e => by simp at e
  | b :: ps, _, 0, nd, .cons h r, e => by
    have e : b = p := by simpa using e
    have nb := (List.nodup_cons.mp nd).1
    have nb' : ∀ c ∈ ps, c ≠ p := fun c hc z => nb (by rw [e, ← z]; exact hc)
    rw [e]
    refine .cons upd_same (r.mono fun c s m hc => ?_)
    obtain ⟨c', hc', ec⟩ := List.mem_map.mp m
    cases ec
    exact (upd_ne (nb' _ hc')).trans hc
  | b :: ps, _, i + 1, nd, .cons h r, e => by
    have nb := (List.nodup_cons.mp nd).1
    have e : ps[i]? = some p := by simpa using e
    refine .cons ((upd_ne (fun z => nb (by rw [z]; exact List.mem_of_getElem? e))).trans h) (RwL.put (List.nodup_cons.mp nd).2 r e)
section
variable {H : Hp} {a ac ar s0 k0 kp kv km : Addr} {ps : List Addr} {l : List So} {P V' M X : List Str}
theorem Tb.row {p : Addr} {s' : So} {i : Nat} (O : Out a ac ar s0 k0 kp kv km ps) (T : Tb H s0 k0 kp kv km ps l P V' M) (e : ps[i]? = some p) : Tb (upd H p (.lst (rowV s'))) s0 k0 kp kv km ps (l.set i s') P V' M := by
  obtain ⟨h1, h2, h3, h4, h5, h6, h7, h8⟩ := O.row p (List.mem_of_getElem? e)
  exact ⟨(upd_ne (Ne.symm h4)).trans T.es, T.rw.put O.nd e, (upd_ne (Ne.symm h5)).trans T.ek, (upd_ne (Ne.symm h6)).trans T.ep, (upd_ne (Ne.symm h7)).trans T.ev, (upd_ne (Ne.symm h8)).trans T.em, by rw [List.length_set]; exact T.sl, T.sP, T.sV, T.sM⟩
theorem Tb.rowsK {k : Addr} {o : HO} (T : Tb H s0 k0 kp kv km ps l P V' M) (n : ∀ p ∈ ps, p ≠ k) : RwL (upd H k o) .lst (ps.map V.ref) l := T.rw.mono fun p s m h => (upd_ne (n p (by
  obtain ⟨p', hp, e⟩ := List.mem_map.mp m
  cases e
  exact hp))).trans h
theorem Tb.kP (O : Out a ac ar s0 k0 kp kv km ps) (T : Tb H s0 k0 kp kv km ps l P V' M) (n : X.length = P.length) : Tb (upd H kp (.lst (X.map V.str))) s0 k0 kp kv km ps l X V' M := by
  obtain ⟨h1, h2, h3, h4, h5, h6, h7⟩ := O.pp
  exact ⟨(upd_ne (Ne.symm h4)).trans T.es, T.rowsK fun p hp => (O.row p hp).2.2.2.2.2.1, (upd_ne (Ne.symm h5)).trans T.ek, upd_same, (upd_ne (Ne.symm h6)).trans T.ev, (upd_ne (Ne.symm h7)).trans T.em, T.sl, by rw [n]; exact T.sP, T.sV, T.sM⟩
theorem Tb.kV (O : Out a ac ar s0 k0 kp kv km ps) (T : Tb H s0 k0 kp kv km ps l P V' M) (n : X.length = V'.length) : Tb (upd H kv (.lst (X.map V.str))) s0 k0 kp kv km ps l P X M := by
  obtain ⟨h1, h2, h3, h4, h5, h6, h7⟩ := O.vv
  exact ⟨(upd_ne (Ne.symm h4)).trans T.es, T.rowsK fun p hp => (O.row p hp).2.2.2.2.2.2.1, (upd_ne (Ne.symm h5)).trans T.ek, (upd_ne (Ne.symm h6)).trans T.ep, upd_same, (upd_ne (Ne.symm h7)).trans T.em, T.sl, T.sP, by rw [n]; exact T.sV, T.sM⟩
theorem Tb.kM (O : Out a ac ar s0 k0 kp kv km ps) (T : Tb H s0 k0 kp kv km ps l P V' M) (n : X.length = M.length) : Tb (upd H km (.lst (X.map V.str))) s0 k0 kp kv km ps l P V' X := by
  obtain ⟨h1, h2, h3, h4, h5, h6, h7⟩ := O.mm
  exact ⟨(upd_ne (Ne.symm h4)).trans T.es, T.rowsK fun p hp => (O.row p hp).2.2.2.2.2.2.2, (upd_ne (Ne.symm h5)).trans T.ek, (upd_ne (Ne.symm h6)).trans T.ep, (upd_ne (Ne.symm h7)).trans T.ev, upd_same, T.sl, T.sP, T.sV, by rw [n]; exact T.sM⟩
theorem Out.far (O : Out a ac ar s0 k0 kp kv km ps) : ∀ b ∈ s0 :: k0 :: kp :: kv :: km :: ps, b ∉ [a, ar] := by
  intro b hb
  simp only [List.mem_cons, List.not_mem_nil, or_false, not_or] at hb ⊢
  rcases hb with rfl | rfl | rfl | rfl | rfl | hb
  · exact O.sp
  · exact O.ko
  · exact ⟨O.pp.1, O.pp.2.2.1⟩
  · exact ⟨O.vv.1, O.vv.2.2.1⟩
  · exact ⟨O.mm.1, O.mm.2.2.1⟩
  · exact ⟨(O.row b hb).1, (O.row b hb).2.2.1⟩
end
theorem ix_gen {xs : List V} {i : Int} (h0 : 0 ≤ i) (h1 : i < xs.length) : ixN xs.length i = some i.toNat := by
  unfold ixN
  rw [if_pos h0, if_pos h1]
theorem at_ref {ps : List Addr} {i : Int} (h0 : 0 ≤ i) (h1 : i < ps.length) : ∃ p, atI (ps.map V.ref) i = some (.ref p) ∧ ps[i.toNat]? = some p := by
  obtain ⟨k, rfl⟩ := Int.eq_ofNat_of_zero_le h0
  have hk : k < ps.length := by omega
  refine ⟨ps[k], atI_nat ?_, ?_⟩
  · rw [List.getElem?_map, List.getElem?_eq_getElem hk]; rfl
  · exact List.getElem?_eq_getElem hk
theorem at_str {ws : List Str} {i : Int} (h0 : 0 ≤ i) (h1 : i < ws.length) : ∃ w, atI (ws.map V.str) i = some (.str w) ∧ w ∈ ws := by
  obtain ⟨k, rfl⟩ := Int.eq_ofNat_of_zero_le h0
  have hk : k < ws.length := by omega
  refine ⟨ws[k], atI_nat ?_, List.getElem_mem hk⟩
  rw [List.getElem?_map, List.getElem?_eq_getElem hk]
  rfl
theorem RwL.refs {H : Hp} {mk : List V → HO} : ∀ {us : List V} {l : List So}, RwL H mk us l → ∃ bs : List Addr, us = bs.map V.ref
  | _, _, .nil => ⟨[], rfl⟩
  | _, _, .cons _ b => by
    obtain ⟨bs, e⟩ := b.refs
    exact ⟨_ :: bs, by rw [e]; rfl⟩
theorem rw_of {H : Hp} : ∀ {ps : List Addr} {l : List So}, ps.length = l.length → (∀ (i : Nat) (c : Addr) (xs : List V), ps[i]? = some c → (l.map rowV)[i]? = some xs → H c = some (.lst xs)) → RwL H .lst (ps.map V.ref) l
  | [], [], _, _ => .nil
  | [], _ :: _, e, _ => by cases e
  | _ :: _, [], e, _ => by cases e
  | c :: ps, s :: l, e, h => .cons (h 0 c (rowV s) rfl rfl) (rw_of (Nat.succ.inj e) fun i c xs a b => h (i + 1) c xs (by simpa using a) (by simpa using b))
theorem nd_of {H H' : Hp} {a ac ar s0 k0 kp kv km : Addr} {ps : List Addr} (d : a ≠ ac ∧ a ≠ ar ∧ ac ≠ ar) (n1 : (s0 :: ps).Nodup) (n2 : (k0 :: kp :: kv :: km :: []).Nodup) (f1 : ∀ b ∈ s0 :: ps, b ∉ [a, ac, ar]) (f2 : ∀ b ∈ k0 :: kp :: kv :: km :: [], b ∉ [a, ac, ar]) (f3 : ∀ b ∈ s0 :: ps, ∀ c ∈ k0 :: kp :: kv :: km :: [], b ≠ c) : (a :: ac :: ar :: s0 :: k0 :: kp :: kv :: km :: ps).Nodup := by
  have e : (a :: ac :: ar :: s0 :: k0 :: kp :: kv :: km :: ps).Perm ([a, ac, ar] ++ ((k0 :: kp :: kv :: km :: []) ++ (s0 :: ps))) := by
    simp only [List.cons_append, List.nil_append]
    refine .cons _ (.cons _ (.cons _ ?_))
    exact (List.perm_middle (a := s0) (l₁ := [k0, kp, kv, km]) (l₂ := ps)).symm
  rw [e.nodup_iff, List.nodup_append, List.nodup_append]
  refine ⟨by simp [d.1, d.2.1, d.2.2], ⟨n2, n1, fun x hx y hy => Ne.symm (f3 y hy x hx)⟩, fun x hx y hy z => ?_⟩
  rcases List.mem_append.mp hy with h | h
  · exact f2 y h (z ▸ hx)
  · exact f1 y h (z ▸ hx)
theorem cut_to {xs : List V} {k : Nat} : cutV xs none (some (k : Int)) = xs.take k := by
  unfold cutV
  rw [HT.sIx_none, HT.sIx_nat, List.drop_zero, Nat.sub_zero]
  by_cases h : k ≤ xs.length
  · rw [Nat.min_eq_left h]
  · rw [Nat.min_eq_right (by omega), List.take_length, List.take_of_length_le (by omega)]
theorem cut_from {xs : List V} {k : Nat} : cutV xs (some (k : Int)) none = xs.drop k := by
  unfold cutV
  rw [HT.sIx_none, HT.sIx_nat]
  by_cases h : k ≤ xs.length
  · rw [Nat.min_eq_left h, List.take_of_length_le (by rw [List.length_drop]; omega)]
  · rw [Nat.min_eq_right (by omega), List.drop_length, List.drop_of_length_le (by omega), List.take_nil]
theorem nd_set {α : Type} : ∀ {l : List α} {w : α} (i : Nat), l.Nodup → w ∉ l → (l.set i w).Nodup
  | [], _, _, _, _ => by simp
  | x :: l, w, 0, h, n => by
    have h' := List.nodup_cons.mp h
    exact List.nodup_cons.mpr ⟨fun z => n (by simp [z]), h'.2⟩
  | x :: l, w, i + 1, h, n => by
    have h' := List.nodup_cons.mp h
    refine List.nodup_cons.mpr ⟨fun z => ?_, nd_set i h'.2 fun z => n (by simp [z])⟩
    rcases List.mem_or_eq_of_mem_set z with y | y
    · exact h'.1 y
    · exact n (by simp [y])
theorem set_td {α : Type} {l : List α} {i : Nat} {x : α} (h : i < l.length) : l.set i x = l.take i ++ [x] ++ l.drop (i + 1) := by
  rw [List.set_eq_take_append_cons_drop, if_pos h]
  simp
theorem set_same {α : Type} : ∀ {l : List α} {i : Nat} {x : α}, l[i]? = some x → l.set i x = l
  | [], _, _, h => by simp
  | y :: l, 0, x, h => by simp at h; simp [h]
  | y :: l, i + 1, x, h => by
    rw [List.set_cons_succ, set_same (by simpa using h)]
theorem map_set' {α β : Type} {f : α → β} {l : List α} {i : Nat} {x : α} : (l.set i x).map f = (l.map f).set i (f x) := by rw [List.map_set]
/-- a sort's name exchanged for a good one that no sort has -/
theorem Gd.name {l : List So} {P V' M : List Str} (G : Gd l P V' M) {i : Nat} {s : So} {w : Str} (hs : l[i]? = some s) (g : good w = true) (n : w ∉ l.map So.n) : Gd (l.set i ⟨w, s.k, s.pa, s.de⟩) P V' M := by
  have ek : (l.set i (⟨w, s.k, s.pa, s.de⟩ : So)).map So.k = l.map So.k := by
    rw [map_set']
    exact set_same (by rw [List.getElem?_map, hs]; rfl)
  refine ⟨⟨G.c.lP, G.c.lV, G.c.lM, fun x hx => ?_, ?_, by rw [ek]; exact G.c.gc, by rw [ek]; exact G.c.nc, fun t ht x e => ?_⟩, by rw [List.length_set]; exact G.n, by rw [List.length_set]; exact G.h⟩
  · rw [map_set'] at hx
    rcases List.mem_or_eq_of_mem_set hx with z | z
    · exact G.c.gn x z
    · rw [z]; exact g
  · rw [map_set']
    exact nd_set i G.c.nn n
  · rcases List.mem_or_eq_of_mem_set ht with z | z
    · exact G.c.pp t z x e
    · rw [z] at e
      exact G.c.pp s (List.mem_of_getElem? hs) x e
abbrev B3 (a ac ar : Addr) : List Addr := [a, ac, ar]
theorem in3a {a ac ar b : Addr} (h : b ∈ [a, ar]) : b ∈ [a, ac, ar] := by
  simp only [List.mem_cons, List.not_mem_nil, or_false] at h ⊢
  rcases h with h | h <;> simp [h]
def spCalled : Sp := fun vs H Q _ => ∃ a ac ar r l P V' M, vs = [.ref a, .ref r] ∧ Dr H a ac ar ∧ Spn [a, ac, ar] H r l P V' M ∧ Gd l P V' M ∧ ∀ r' l' H', Spn [a, ac, ar] H' r' l' P V' M → Gd l' P V' M → Dr H' a ac ar → My.Fr [a, ar] H H' → Q (.ref r') H' 
theorem rowsT_at {S : List Addr} {H : Hp} {bs : List Addr} {l : List So} (h : RwT S H (bs.map V.ref) l) (K : PySem.W.Frag) (i : Nat) (b : Addr) (e : bs[i]? = some b) : ∃ xs, (l.map rowV)[i]? = some xs ∧ (SqL K H b xs ∨ SqT K H b xs) := by
  obtain ⟨p', s, e1, e2, _, e3⟩ := h.get i (.ref b) (by rw [List.getElem?_map, e]; rfl)
  cases e1
  exact ⟨rowV s, by rw [List.getElem?_map, e2]; rfl, .inr (SqT.of e3)⟩
theorem RwT.refs {S : List Addr} {H : Hp} : ∀ {us : List V} {l : List So}, RwT S H us l → ∃ bs : List Addr, us = bs.map V.ref
  | _, _, .nil => ⟨[], rfl⟩
  | _, _, .cons _ _ b => by
    obtain ⟨bs, e⟩ := b.refs
    exact ⟨_ :: bs, by rw [e]; rfl⟩
structure CT (H0 H : Hp) (a ac ar s0 k0 kp kv km : Addr) (ps : List Addr) (l : List So) (P V' M : List Str) : Prop where
  T : Tb H s0 k0 kp kv km ps l P V' M
  nd : (a :: ac :: ar :: s0 :: k0 :: kp :: kv :: km :: ps).Nodup
  fs : ∀ b ∈ s0 :: k0 :: kp :: kv :: km :: ps, H0 b = none
  D : Dr H a ac ar
  F : My.Fr [a, ar] H0 H
section
variable {H0 H H' : Hp} {a ac ar s0 k0 kp kv km q : Addr} {ps : List Addr} {l : List So} {P V' M X : List Str}
theorem CT.f (C : CT H0 H a ac ar s0 k0 kp kv km ps l P V' M) (f : My.Fr [a, ar] H H') (d : Dr H' a ac ar) : CT H0 H' a ac ar s0 k0 kp kv km ps l P V' M := ⟨C.T.fr f (out_of C.nd).far, C.nd, C.fs, d, C.F.trans f⟩
theorem CT.f0 (C : CT H0 H a ac ar s0 k0 kp kv km ps l P V' M) (f : My.Fr [] H H') : CT H0 H' a ac ar s0 k0 kp kv km ps l P V' M := C.f (f.mono (by simp)) (C.D.f0 f)
theorem CT.at_ (C : CT H0 H a ac ar s0 k0 kp kv km ps l P V' M) {i : Nat} {p : Addr} {s : So} (gp : ps[i]? = some p) (gs : l[i]? = some s) : H p = some (.lst [.str s.n, .str s.k, oS s.pa, .bl s.de]) := by
  obtain ⟨p', s', e1, e2, e3⟩ := C.T.rw.get i (.ref p) (by rw [List.getElem?_map, gp]; rfl)
  cases e1
  rw [gs] at e2
  cases e2
  exact e3
theorem lps (C : CT H0 H a ac ar s0 k0 kp kv km ps l P V' M) : ps.length = l.length := by rw [← C.T.rw.len, List.length_map]
theorem CT.row (C : CT H0 H a ac ar s0 k0 kp kv km ps l P V' M) {i : Nat} {p : Addr} {s' : So} (e : ps[i]? = some p) : CT H0 (upd H p (.lst (rowV s'))) a ac ar s0 k0 kp kv km ps (l.set i s') P V' M := by
  have O := out_of C.nd
  have m := List.mem_of_getElem? e
  obtain ⟨h1, h2, h3, _⟩ := O.row p m
  exact ⟨C.T.row O e, C.nd, C.fs, C.D.put h1 h2 h3, C.F.put_free (C.fs p (by simp [m]))⟩
theorem CT.kP (C : CT H0 H a ac ar s0 k0 kp kv km ps l P V' M) (n : X.length ≤ 3) : CT H0 (upd H kp (.lst (X.map V.str))) a ac ar s0 k0 kp kv km ps l X V' M := by
  have O := out_of C.nd
  obtain ⟨h1, h2, h3, h4, h5, h6, h7⟩ := O.pp
  have T := C.T
  exact ⟨⟨(upd_ne (Ne.symm h4)).trans T.es, T.rowsK fun p hp => (O.row p hp).2.2.2.2.2.1, (upd_ne (Ne.symm h5)).trans T.ek, upd_same, (upd_ne (Ne.symm h6)).trans T.ev, (upd_ne (Ne.symm h7)).trans T.em, T.sl, n, T.sV, T.sM⟩, C.nd, C.fs, C.D.put h1 h2 h3, C.F.put_free (C.fs kp (by simp))⟩
theorem CT.kV (C : CT H0 H a ac ar s0 k0 kp kv km ps l P V' M) (n : X.length ≤ 3) : CT H0 (upd H kv (.lst (X.map V.str))) a ac ar s0 k0 kp kv km ps l P X M := by
  have O := out_of C.nd
  obtain ⟨h1, h2, h3, h4, h5, h6, h7⟩ := O.vv
  have T := C.T
  exact ⟨⟨(upd_ne (Ne.symm h4)).trans T.es, T.rowsK fun p hp => (O.row p hp).2.2.2.2.2.2.1, (upd_ne (Ne.symm h5)).trans T.ek, (upd_ne (Ne.symm h6)).trans T.ep, upd_same, (upd_ne (Ne.symm h7)).trans T.em, T.sl, T.sP, n, T.sM⟩, C.nd, C.fs, C.D.put h1 h2 h3, C.F.put_free (C.fs kv (by simp))⟩
theorem CT.kM (C : CT H0 H a ac ar s0 k0 kp kv km ps l P V' M) (n : X.length ≤ 3) : CT H0 (upd H km (.lst (X.map V.str))) a ac ar s0 k0 kp kv km ps l P V' X := by
  have O := out_of C.nd
  obtain ⟨h1, h2, h3, h4, h5, h6, h7⟩ := O.mm
  have T := C.T
  exact ⟨⟨(upd_ne (Ne.symm h4)).trans T.es, T.rowsK fun p hp => (O.row p hp).2.2.2.2.2.2.2, (upd_ne (Ne.symm h5)).trans T.ek, (upd_ne (Ne.symm h6)).trans T.ep, (upd_ne (Ne.symm h7)).trans T.ev, upd_same, T.sl, T.sP, T.sV, n⟩, C.nd, C.fs, C.D.put h1 h2 h3, C.F.put_free (C.fs km (by simp))⟩
theorem RwL.rev {mk : List V → HO} : ∀ {us : List V} {l : List So}, RwL H mk us l → RwL H mk us.reverse l.reverse
  | _, _, .nil => .nil
  | _, _, .cons a b => by
    rw [List.reverse_cons, List.reverse_cons]
    exact .snoc a b.rev
theorem Dr.f0_free (D : Dr H a ac ar) (h : H q = none) : q ≠ a ∧ q ≠ ac ∧ q ≠ ar := by
  have z := D.free3 h
  simp only [List.mem_cons, List.not_mem_nil, or_false, not_or] at z
  exact z
theorem CT.some_ (C : CT H0 H a ac ar s0 k0 kp kv km ps l P V' M) : ∀ b ∈ a :: ac :: ar :: s0 :: k0 :: kp :: kv :: km :: ps, ∃ o, H b = some o := by
  obtain ⟨⟨cs, rs, u, ea, ec, er, _⟩, _⟩ := C.D
  intro b hb
  simp only [List.mem_cons] at hb
  rcases hb with rfl | rfl | rfl | rfl | rfl | rfl | rfl | rfl | hb
  · exact ⟨_, ea⟩
  · exact ⟨_, ec⟩
  · exact ⟨_, er⟩
  · exact ⟨_, C.T.es⟩
  · exact ⟨_, C.T.ek⟩
  · exact ⟨_, C.T.ep⟩
  · exact ⟨_, C.T.ev⟩
  · exact ⟨_, C.T.em⟩
  · obtain ⟨i, hi⟩ := List.getElem?_of_mem hb
    have hl : i < l.length := by rw [← lps C]; exact (List.getElem?_eq_some_iff.mp hi).1
    exact ⟨_, C.at_ hi (List.getElem?_eq_getElem hl)⟩
theorem CT.new (C : CT H0 H a ac ar s0 k0 kp kv km ps l P V' M) (h : H q = none) : q ∉ a :: ac :: ar :: s0 :: k0 :: kp :: kv :: km :: ps := fun z => by
  obtain ⟨o, e⟩ := C.some_ q z
  rw [h] at e; cases e
theorem CT.rev (C : CT H0 H a ac ar s0 k0 kp kv km ps l P V' M) (h : H q = none) (e : H' q = some (.lst (ps.map V.ref).reverse)) (f : My.Fr [] H H') : CT H0 H' a ac ar q k0 kp kv km ps.reverse l.reverse P V' M := by
  have C' := C.f0 f
  have T := C'.T
  have nq := C.new h
  refine ⟨⟨by rw [e, List.map_reverse], by rw [List.map_reverse]; exact T.rw.rev, T.ek, T.ep, T.ev, T.em, by rw [List.length_reverse]; exact T.sl, T.sP, T.sV, T.sM⟩, ?_, fun b hb => ?_, C'.D, C'.F⟩
  · have nd := C.nd
    simp only [List.nodup_cons, List.mem_cons, not_or, List.mem_reverse] at nd nq ⊢
    obtain ⟨⟨a1, a2, a3, a4, a5, a6, a7, a8⟩, ⟨b1, b2, b3, b4, b5, b6, b7⟩, ⟨c1, c2, c3, c4, c5, c6⟩, ⟨d1, d2, d3, d4, d5⟩, e1, f1, g1, h1, n⟩ := nd
    obtain ⟨q1, q2, q3, q4, q5, q6, q7, q8, q9⟩ := nq
    exact ⟨⟨a1, a2, Ne.symm q1, a4, a5, a6, a7, a8⟩, ⟨b1, Ne.symm q2, b3, b4, b5, b6, b7⟩, ⟨Ne.symm q3, c2, c3, c4, c5, c6⟩, ⟨q5, q6, q7, q8, q9⟩, e1, f1, g1, h1, (List.reverse_perm _).nodup_iff.mpr n⟩
  · simp only [List.mem_cons, List.mem_reverse] at hb
    rcases hb with rfl | hb
    · exact C.F.2 _ h
    · exact C.fs b (by simp only [List.mem_cons]; exact .inr hb)
theorem CT.newV (C : CT H0 H a ac ar s0 k0 kp kv km ps l P V' M) (h : H q = none) (e : H' q = some (.lst (V'.reverse.map V.str))) (f : My.Fr [] H H') : CT H0 (upd H' k0 (.lst [.ref kp, .ref q, .ref km])) a ac ar s0 k0 kp q km ps l P V'.reverse M := by
  have C' := C.f0 f
  have T := C'.T
  have nq := C.new h
  have nd := C.nd
  have O := out_of nd
  simp only [List.nodup_cons, List.mem_cons, not_or] at nd nq
  obtain ⟨⟨a1, a2, a3, a4, a5, a6, a7, a8⟩, ⟨b1, b2, b3, b4, b5, b6, b7⟩, ⟨c1, c2, c3, c4, c5, c6⟩, ⟨d1, d2, d3, d4, d5⟩, ⟨e1, e2, e3, e4⟩, ⟨f1, f2, f3⟩, ⟨g1, g2⟩, h1, n⟩ := nd
  obtain ⟨q1, q2, q3, q4, q5, q6, q7, q8, q9⟩ := nq
  refine ⟨⟨(upd_ne d1).trans T.es, T.rowsK fun p hp => (O.row p hp).2.2.2.2.1, upd_same, (upd_ne (Ne.symm e1)).trans T.ep, (upd_ne q5).trans e, (upd_ne (Ne.symm e3)).trans T.em, T.sl, T.sP, by rw [List.length_reverse]; exact T.sV, T.sM⟩, ?_, fun b hb => ?_, C'.D.put (Ne.symm a4) (Ne.symm b3) (Ne.symm c2), C'.F.put_free (C.fs k0 (by simp))⟩
  · simp only [List.nodup_cons, List.mem_cons, not_or]
    exact ⟨⟨a1, a2, a3, a4, a5, Ne.symm q1, a7, a8⟩, ⟨b1, b2, b3, b4, Ne.symm q2, b6, b7⟩, ⟨c1, c2, c3, Ne.symm q3, c5, c6⟩, ⟨d1, d2, Ne.symm q4, d4, d5⟩, ⟨e1, Ne.symm q5, e3, e4⟩, ⟨Ne.symm q6, f2, f3⟩, ⟨q8, q9⟩, h1, n⟩
  · simp only [List.mem_cons] at hb
    rcases hb with rfl | rfl | rfl | rfl | rfl | hb
    · exact C.fs _ (by simp)
    · exact C.fs _ (by simp)
    · exact C.fs _ (by simp)
    · exact C.F.2 _ h
    · exact C.fs _ (by simp)
    · exact C.fs _ (by simp [hb])
end
section
variable {l l2 : List So} {P V' M P2 V2 M2 : List Str} {w : Str}
theorem Gd.of (G : Gd l P V' M) (hn : (l2.map So.n).Perm (l.map So.n)) (hc : (P2 ++ V2 ++ M2 ++ l2.map So.k).Perm (P ++ V' ++ M ++ l.map So.k)) (pp : ∀ s ∈ l2, ∀ w, s.pa = some w → w ∈ P2) (a : P2.length ≤ 2) (b : V2.length ≤ 3) (c : M2.length ≤ 3) : Gd l2 P2 V2 M2 := by
  have e := hn.length_eq
  rw [List.length_map, List.length_map] at e
  exact ⟨⟨a, b, c, fun w hw => G.c.gn w (hn.mem_iff.mp hw), hn.nodup_iff.mpr G.c.nn, fun w hw => G.c.gc w (hc.mem_iff.mp hw), hc.nodup_iff.mpr G.c.nc, pp⟩, by rw [e]; exact G.n, by rw [e]; exact G.h⟩
theorem Gd.add (G : Gd l P V' M) (g : good w = true) (n : w ∉ cols l P V' M) (hc : (P2 ++ V2 ++ M2 ++ l.map So.k).Perm (w :: (P ++ V' ++ M ++ l.map So.k))) (pp : ∀ s ∈ l, ∀ w, s.pa = some w → w ∈ P2) (a : P2.length ≤ 2) (b : V2.length ≤ 3) (c : M2.length ≤ 3) : Gd l P2 V2 M2 :=
  ⟨⟨a, b, c, G.c.gn, G.c.nn, fun x hx => by
    rcases List.mem_cons.mp (hc.mem_iff.mp hx) with z | z
    · rw [z]; exact g
    · exact G.c.gc x z, hc.nodup_iff.mpr (List.nodup_cons.mpr ⟨fun z => n ((cols_perm l P V' M).mem_iff.mpr z), G.c.nc⟩), pp⟩, G.n, G.h⟩
theorem Gd.keep (G : Gd l P V' M) {i : Nat} {s s' : So} (hs : l[i]? = some s) (en : s'.n = s.n) (ek : s'.k = s.k) (hp : ∀ w, s'.pa = some w → w ∈ P) : Gd (l.set i s') P V' M := by
  have e1 : (l.set i s').map So.n = l.map So.n := by
    rw [map_set', en]
    exact set_same (by rw [List.getElem?_map, hs]; rfl)
  have e2 : (l.set i s').map So.k = l.map So.k := by
    rw [map_set', ek]
    exact set_same (by rw [List.getElem?_map, hs]; rfl)
  refine G.of (by rw [e1]) (by rw [e2]) (fun t ht x e => ?_) G.c.lP G.c.lV G.c.lM
  rcases List.mem_or_eq_of_mem_set ht with z | z
  · exact G.c.pp t z x e
  · rw [z] at e
    exact hp x e
theorem Gd.key (G : Gd l P V' M) {i : Nat} {s : So} (hs : l[i]? = some s) (g : good w = true) (n : w ∉ cols l P V' M) : Gd (l.set i ⟨s.n, w, s.pa, s.de⟩) P V' M := by
  have n' : w ∉ P ++ V' ++ M ++ l.map So.k := fun z => n ((cols_perm l P V' M).mem_iff.mpr z)
  have e1 : (l.set i (⟨s.n, w, s.pa, s.de⟩ : So)).map So.n = l.map So.n := by
    rw [map_set']
    exact set_same (by rw [List.getElem?_map, hs]; rfl)
  have nd := List.nodup_append.mp G.c.nc
  refine ⟨⟨G.c.lP, G.c.lV, G.c.lM, by rw [e1]; exact G.c.gn, by rw [e1]; exact G.c.nn, fun x hx => ?_, ?_, fun t ht x e => ?_⟩, by rw [List.length_set]; exact G.n, by rw [List.length_set]; exact G.h⟩
  · rw [map_set'] at hx
    rcases List.mem_append.mp hx with z | z
    · exact G.c.gc x (List.mem_append.mpr (.inl z))
    · rcases List.mem_or_eq_of_mem_set z with y | y
      · exact G.c.gc x (List.mem_append.mpr (.inr y))
      · rw [y]; exact g
  · rw [map_set', List.nodup_append]
    refine ⟨nd.1, nd_set i nd.2.1 fun z => n' (List.mem_append.mpr (.inr z)), fun x hx y hy e => ?_⟩
    rcases List.mem_or_eq_of_mem_set hy with z | z
    · exact nd.2.2 x hx y z e
    · have e2 : x = w := by rw [e]; exact z
      exact n' (List.mem_append.mpr (.inl (by rw [← e2]; exact hx)))
  · rcases List.mem_or_eq_of_mem_set ht with z | z
    · exact G.c.pp t z x e
    · rw [z] at e
      exact G.c.pp s (List.mem_of_getElem? hs) x e
theorem Gd.rev (G : Gd l P V' M) : Gd l.reverse P V' M := G.of (by rw [List.map_reverse]; exact List.reverse_perm _) (by rw [List.map_reverse]; exact List.Perm.append_left _ (List.reverse_perm _)) (fun s hs => G.c.pp s (List.mem_reverse.mp hs)) G.c.lP G.c.lV G.c.lM
theorem Gd.perm (G : Gd l P V' M) (a : P2.Perm P) (b : V2.Perm V') (c : M2.Perm M) : Gd l P2 V2 M2 := G.of (.refl _) (((a.append b).append c).append_right _) (fun s hs w e => a.mem_iff.mpr (G.c.pp s hs w e)) (by rw [a.length_eq]; exact G.c.lP) (by rw [b.length_eq]; exact G.c.lV) (by rw [c.length_eq]; exact G.c.lM)
theorem Gd.move (G : Gd l P V' (M ++ [w])) (h : V'.length < 3) : Gd l P (V' ++ [w]) M := by
  have c := G.c.lM
  rw [List.length_append] at c
  refine G.of (.refl _) (List.Perm.append_right _ ?_) G.c.pp G.c.lP (by rw [List.length_append]; exact h) (by omega)
  have e1 : P ++ (V' ++ [w]) ++ M = P ++ V' ++ ([w] ++ M) := by simp
  rw [e1]
  exact List.Perm.append_left _ List.perm_append_comm
theorem Gd.addM (G : Gd l P V' M) (g : good w = true) (n : w ∉ cols l P V' M) (h : M.length < 3) : Gd l P V' (M ++ [w]) := by
  refine G.add g n ?_ G.c.pp G.c.lP G.c.lV (by rw [List.length_append]; exact h)
  have e : P ++ V' ++ (M ++ [w]) ++ l.map So.k = (P ++ V' ++ M) ++ w :: l.map So.k := by simp
  rw [e]
  exact List.perm_middle
theorem Gd.addP (G : Gd l P V' M) (g : good w = true) (n : w ∉ cols l P V' M) (h : P.length < 2) : Gd l (P ++ [w]) V' M := by
  refine G.add g n ?_ (fun s hs x e => List.mem_append.mpr (.inl (G.c.pp s hs x e))) (by rw [List.length_append]; exact h) G.c.lV G.c.lM
  have e : P ++ [w] ++ V' ++ M ++ l.map So.k = P ++ w :: (V' ++ M ++ l.map So.k) := by simp
  have e2 : P ++ V' ++ M ++ l.map So.k = P ++ (V' ++ M ++ l.map So.k) := by simp
  rw [e, e2]
  exact List.perm_middle
end
theorem ltl {n : Nat} (h : n ≤ 100) : n < sizeLine := Nat.lt_of_le_of_lt h (by decide)
def ChW (a ac ar r : Addr) (w : Str) (g y : Int) (H0 : Hp) (l0 : List So) (P0 V0 M0 : List Str) (i : Int) (σ : L2.St) (H : Hp) : Prop := ∃ s0 k0 kp kv km ps l P V' M v7 v8, σ = [some (.ref a), some (.ref r), some (.ref s0), some (.ref k0), some (.str w), some (.int g), some (.int y), v7, v8] ∧ CT H0 H a ac ar s0 k0 kp kv km ps l P V' M ∧ Gd l P V' M ∧ l.length = l0.length ∧ (i ≤ y → l = l0 ∧ P = P0 ∧ V' = V0 ∧ M = M0)
def RTt (S : List Addr) (H0 : Hp) (x : V) (o : Option V) (H : Hp) : Prop := ∃ p s q, x = .ref p ∧ H0 p = some (.lst (rowV s)) ∧ o = some (.ref q) ∧ q ∉ S ∧ H q = some (.tup (rowV s))
theorem kept_tt {S : List Addr} {H0 H : Hp} : ∀ {vs ys : List V} {l : List So}, RwL H0 .lst vs l → My.Kept (RTt S H0) H vs ys → RwT S H ys l
  | _, _, _, .nil, k => by cases k; exact .nil
  | _, _, _, .cons a b, k => by
    cases k with
    | yes r k =>
      obtain ⟨p, s, q, e1, e2, e3, e4, e5⟩ := r
      cases e1
      cases e3
      rw [a] at e2
      injection e2 with e2
      injection e2 with e2
      rw [row_inj e2]
      exact .cons e4 e5 (kept_tt b k)
    | no r k =>
      obtain ⟨p, s, q, e1, e2, e3, e4, e5⟩ := r
      cases e3
def spChanged : Sp := fun vs H Q _ => ∃ a ac ar r l P V' M, vs = [.ref a, .ref r] ∧ Dr H a ac ar ∧ Spn [a, ac, ar] H r l P V' M ∧ Gd l P V' M ∧ ∀ r' l' P2 V2 M2 H', Spn [a, ac, ar] H' r' l' P2 V2 M2 → Gd l' P2 V2 M2 → Dr H' a ac ar → My.Fr [a, ar] H H' → Q (.ref r') H' 
def spRight (K : PySem.W.Frag) : Sp := fun vs H Q _ => ∃ S r q0 l P V' M, vs = [.ref q0, .ref r] ∧ IsSch K H q0 l P V' M ∧ Spn S H r l P V' M ∧ Gd l P V' M ∧ ∀ H', My.Fr [] H H' → Q (.bl true) H'
def IRt (q0 r : Addr) (H0 : Hp) (_ : Nat) (σ : L2.St) (H : Hp) : Prop := (∃ v2, σ = [some (.ref q0), some (.ref r), v2]) ∧ My.Fr [] H0 H
def spSR (K : PySem.W.Frag) : Sp := fun vs H Q _ => ∃ S r l P V' M r2 l2 P2 V2 M2, vs = [.ref r, .ref r2] ∧ Spn S H r l P V' M ∧ Spn S H r2 l2 P2 V2 M2 ∧ Gd l P V' M ∧ Gd l2 P2 V2 M2 ∧ ∀ H', My.Fr [] H H' → Q (.bl true) H'
theorem eqv_oSd {a b : Option Str} : PyData.eqv (oSd a) (oSd b) = decide (a = b) := by
  cases a <;> cases b
  · rfl
  · rfl
  · rfl
  · rename_i u w
    rw [show PyData.eqv (oSd (some u)) (oSd (some w)) = PyData.eqv (.str u) (.str w) from rfl, eqv_ss]
    simp
theorem four_eq (s t : So) : PyData.eqv (fourD s) (fourD t) = decide (s = t) := by
  obtain ⟨n, k, pa, de⟩ := s
  obtain ⟨n', k', pa', de'⟩ := t
  have e : decide ((⟨n, k, pa, de⟩ : So) = ⟨n', k', pa', de'⟩) = (decide (n = n') && (decide (k = k') && (decide (pa = pa') && decide (de = de')))) := by simp
  rw [e]
  show (PyData.eqv (.str n) (.str n') && (PyData.eqv (.str k) (.str k') && (PyData.eqv (oSd pa) (oSd pa') && ((de == de') && true)))) = _
  rw [eqv_ss, eqv_ss, eqv_oSd, Bool.and_true]
  cases de <;> cases de' <;> rfl
theorem four_lay {s : So} (h : Gs s) : (fourD s).canLay0 = true ∧ (fourD s).depth = 1 := by
  obtain ⟨n, k, pa, de⟩ := s
  obtain ⟨a, b, c⟩ := h
  have a' := a.ok
  have b' := b.ok
  cases pa with
  | none =>
    refine ⟨?_, rfl⟩
    show (PyData.strOk n && (PyData.strOk k && true)) = true
    rw [a', b']; rfl
  | some w =>
    refine ⟨?_, rfl⟩
    show (PyData.strOk n && (PyData.strOk k && (PyData.strOk w && true))) = true
    rw [a', b', (c w rfl).ok]; rfl
theorem four_sh {s : So} (h : Gs s) : SeqAt.shaped (fourD s) = true := by
  obtain ⟨a, b⟩ := four_lay h
  show ((fourD s).canLay0 && decide ((fourD s).depth ≤ 64)) = true
  rw [a, b]; rfl
def ISR (r r2 : Addr) (H0 : Hp) (_ : Nat) (σ : L2.St) (H : Hp) : Prop := (∃ v2 v3, σ = [some (.ref r), some (.ref r2), v2, v3]) ∧ My.Fr [] H0 H
def ISR2 (r r2 p : Addr) (H0 : Hp) (_ : Nat) (σ : L2.St) (H : Hp) : Prop := (∃ v3, σ = [some (.ref r), some (.ref r2), some (.ref p), v3]) ∧ My.Fr [] H0 H
def sp_law (K : PySem.W.Frag) : Sp := fun vs H Q _ => ∃ (a : Addr) (ns : List Int), vs = [.ref a] ∧ SqL K H a (ns.map V.int) ∧ ns.length ≤ 63 ∧ ∀ H', Q (.bl true) H'
def IL (a p ac ar : Addr) (_ : Nat) (σ : L2.St) (H : Hp) : Prop := (∃ v2 v3 v4 v5 v6, σ = [some (.ref a), some (.ref p), v2, v3, v4, v5, v6]) ∧ Dr H p ac ar
def spD (l : List So) (P V' M : List Str) : PyData := .list [.list (l.map fourD), .list (P.map PyData.str), .list (V'.map PyData.str), .list (M.map PyData.str)]
theorem dp_rows {S : List Addr} {K : PySem.W.Frag} {H : Hp} : ∀ {us : List V} {l : List So}, RwT S H us l → DpAll K H us (l.map fourD)
  | _, _, .nil => .nil
  | _, _, .cons _ a b => .cons (dp_row (SqT.of a)) (dp_rows b)
theorem spD_dp {S : List Addr} {K : PySem.W.Frag} {H : Hp} {r : Addr} {l : List So} {P V' M : List Str} (X : Spn S H r l P V' M) : Dp K H (.ref r) (spD l P V' M) := by
  obtain ⟨ls, lp, lv, lm, us, X⟩ := X
  exact .lst (SqL.of X.er) (.cons (.lst (SqL.of X.es) (dp_rows X.rw)) (.cons (.lst (SqL.of X.ep) (dp_ss _)) (.cons (.lst (SqL.of X.ev) (dp_ss _)) (.cons (.lst (SqL.of X.em) (dp_ss _)) .nil))))
theorem rows_lay : ∀ {l : List So}, (∀ s ∈ l, Gs s) → PyData.canLayAll0 (l.map fourD) = true ∧ PyData.depthAll (l.map fourD) ≤ 1
  | [], _ => ⟨rfl, by decide⟩
  | s :: l, h => by
    obtain ⟨a, b⟩ := rows_lay (l := l) fun t ht => h t (by simp [ht])
    obtain ⟨c, d⟩ := four_lay (h s (by simp))
    refine ⟨?_, ?_⟩
    · show ((fourD s).canLay0 && PyData.canLayAll0 (l.map fourD)) = true
      rw [a, c]; rfl
    · show max (fourD s).depth (PyData.depthAll (l.map fourD)) ≤ 1
      omega
theorem spD_sh {l : List So} {P V' M : List Str} (G : Gd l P V' M) : SeqAt.shaped (spD l P V' M) = true := by
  obtain ⟨a, b⟩ := rows_lay G.gs
  have p := ss_lay (ws := P) fun w hw => G.ok w (by simp [hw])
  have v := ss_lay (ws := V') fun w hw => G.ok w (by simp [hw])
  have m := ss_lay (ws := M) fun w hw => G.ok w (by simp [hw])
  have d : (spD l P V' M).depth ≤ 64 := by
    show max (PyData.depthAll (l.map fourD) + 1) (max (PyData.depthAll (P.map PyData.str) + 1) (max (PyData.depthAll (V'.map PyData.str) + 1) (max (PyData.depthAll (M.map PyData.str) + 1) 0))) + 1 ≤ 64
    rw [ss_dep, ss_dep, ss_dep]
    omega
  show ((spD l P V' M).canLay0 && decide ((spD l P V' M).depth ≤ 64)) = true
  rw [decide_eq_true d, Bool.and_true]
  show (PyData.canLayAll0 (l.map fourD) && (PyData.canLayAll0 (P.map PyData.str) && (PyData.canLayAll0 (V'.map PyData.str) && (PyData.canLayAll0 (M.map PyData.str) && true)))) = true
  rw [a, p, v, m]; rfl
theorem rows_eq : ∀ l k : List So, PyData.eqvAll (l.map fourD) (k.map fourD) = decide (l = k)
  | [], [] => rfl
  | [], _ :: _ => rfl
  | _ :: _, [] => rfl
  | s :: l, t :: k => by
    show (PyData.eqv (fourD s) (fourD t) && PyData.eqvAll (l.map fourD) (k.map fourD)) = _
    rw [four_eq, rows_eq l k]
    by_cases h1 : s = t <;> by_cases h2 : l = k <;> simp [h1, h2]
theorem spD_eq (l : List So) (P V' M : List Str) (l2 : List So) (P2 V2 M2 : List Str) : PyData.eqv (spD l P V' M) (spD l2 P2 V2 M2) = (decide (l = l2) && (decide (P = P2) && (decide (V' = V2) && decide (M = M2)))) := by
  show (PyData.eqvAll (l.map fourD) (l2.map fourD) && (PyData.eqv (.list (P.map PyData.str)) (.list (P2.map PyData.str)) && (PyData.eqv (.list (V'.map PyData.str)) (.list (V2.map PyData.str)) && (PyData.eqv (.list (M.map PyData.str)) (.list (M2.map PyData.str)) && true)))) = _
  rw [rows_eq, eqv_lst, eqv_lst, eqv_lst, Bool.and_true]
theorem IsSch.ins {K : PySem.W.Frag} {H : Hp} {p : Addr} {l : List So} {P V' M : List Str} (h : IsSch K H p l P V' M) : ∃ dx fs, H p = some (.ins (He.ga K "Scheme") dx fs) := by
  obtain ⟨dx, ts, tp, tv, tm, vs, h1, _⟩ := h
  exact ⟨dx, _, h1⟩
local macro_rules | `(tactic| walk_at "wp") => `(tactic| try simp only [mw_seq, mw_next, mw_brk, mw_cont, mw_ret, mw_retN, mw_asg, mw_asgN, mw_asgS, mw_sub1, mw_sub2, mw_at, mw_drop, mw_dropK, mw_aug, mw_augK, mw_aug2, mw_if, mw_ifK, mw_test, mw_B, mw_KB, mw_and, mw_andK, mw_or, mw_orK, mw_not, mw_notK, mw_yes, mw_cxK, mw_c, mw_var0, mw_varS, mw_op, mw_op1, mw_op2, mw_un, mw_unK, mw_rI0, mw_rI, mw_rU, mw_eqII, mw_neII, mw_eqBB, mw_neBB, mw_eqSS, mw_neSS, mw_cons, mw_arg1, mw_arg2, mw_nil, mw_call, mw_callK, mw_callK0, mw_callK0K, mw_CB, mw_CBK, mw_tup, mw_lst, mw_ife, mw_ifeK, mw_andV, mw_andVK, mw_orV, mw_orVK, mw_notV, mw_notVK, mw_fld, mw_BM, mw_BMK, mw_BM2, mw_sl, mw_sl1, mw_sl2, mw_sl3, mw_part, mw_partK, mw_noPart, mw_make, mw_meth, mw_sfld, mw_sf1, mw_intI, mw_intB, mw_abs, mw_max, mw_min, mw_isBB, mw_isIB, mw_isII, mw_isBI, mw_isNo, mw_notNo, mw_aug2X, mw_setK, mw_addS, mw_ost, mw_ost1, mw_raise, mw_makeS, mw_makeSK, mw_tryA, mw_xf, mw_eqOO, mw_isT, mw_notT, oV_none, oV_some, mw_par2, mw_par3, mw_par2K, mw_par3K, mw_tupG, mw_gcons, mw_gnil, mw_ktg, mw_gname, mw_forL, mw_forT, mw_forR1, mw_forR2, mw_lcL, mw_lcT, mw_lcR1, ite_and_m, ite_or_m, L2.start, L2.wipe, List.map_cons, List.map_nil, List.length_cons, List.length_nil, List.replicate, List.cons_append, List.nil_append, List.append_nil, List.set_cons_zero, List.set_cons_succ, L2.V.int.injEq, L2.V.bl.injEq, L2.V.str.injEq, L2.V.ref.injEq, L2.V.ty.injEq, List.cons.injEq, reduceCtorEq, exists_eq_left, exists_eq_left', exists_and_left, exists_and_right, exists_eq, and_assoc, and_true, true_and, and_self, decide_eq_true_eq, decide_true, decide_false, Bool.not_eq_true, Bool.not_true, Bool.not_false, if_true, if_false, ite_true, ite_false, Bool.false_eq_true, Bool.not_eq_eq_eq_not, decide_eq_false_iff_not, Nat.reduceSub, Nat.reduceAdd, false_or, or_false, exists_const, false_and, and_false, exists_false, mw_makeM, mw_makeM1, mw_tryC, mw_fs, mw_fmt, mw_revP, mw_whK, mw_ts, mw_callE, mw_callEK, mw_forS, mw_forE, mw_lcS, mw_star, mw_star2, mw_BM0, mw_BM0K, oS_none, oS_some, mw_revL, mw_methE])
local macro_rules | `(tactic| walk_at "num") => `(tactic| first | decide | exact ⟨by decide, by decide, by decide⟩ | exact .inl ⟨by omega, by omega⟩ | exact .inr ⟨by omega, by omega⟩ | exact .inl ⟨by decide, by decide⟩ | exact .inr ⟨by decide, by decide⟩ | omega)
local macro_rules | `(tactic| walk_at "hp") => `(tactic| first | assumption | exact upd_same | (refine (upd_ne ?_).trans ?_; (walk_at "ne"); (walk_at "hp")))
local macro_rules | `(tactic| walk_at "ne") => `(tactic| first | assumption | exact Ne.symm (by assumption) | exact ne_of_none (by walk_at "hp") (by assumption) | exact Ne.symm (ne_of_none (by walk_at "hp") (by assumption)))
local macro_rules | `(tactic| walk_at "fin") => `(tactic| first | assumption | (refine q_bl (by assumption) ?_; first | rfl | exact decide_eq_true (by omega) | exact decide_eq_false (by omega) | exact (decide_eq_true (by omega)).symm | exact (decide_eq_false (by omega)).symm | exact decide_eq_decide.mpr (by omega) | (simp; omega)))
section
variable {P : Program} {w : World} {K : PySem.W.Frag} {mg : Str → Option Value} {base : Heap}
-- no promise yet: _wall
theorem ok_BadScheme___init__ (ev : E K mg) : My.ErrInit P w K mg base CX0 1 d_BadScheme___init__ "BadScheme" ["self", "word"] (spErr K "BadScheme" ["word"]) := by
  obtain ⟨fd, F⟩ := ev.e.c.def_ 1 (d := d_BadScheme___init__) rfl
  refine ⟨⟨_, fd, ?_, ini_BadScheme ev, iniT_BadScheme ev, F.bindsN fun _ _ _ _ _ _ us hl => match us, hl with | [_, _], _ => rfl⟩, gloE_BadScheme ev, oex_BadScheme ev⟩
  refine F.ok sc_BadScheme___init__ (fun vs H Q Ex h => ?_) (fun cdv A outer s H vs Q Ex hr h => ⟨_, PSs.nox
    (pss_one (ps_ost (pv 0) (pv 1))), ?_⟩)
  · first | (obtain ⟨_, xs, rfl, h2, _⟩ := h; simpa using h2)
  · obtain ⟨a, xs, rfl, hl, ha, q⟩ := h
    obtain ⟨x, rfl⟩ : ∃ x, xs = [x] := by
      match xs, hl with
      | [x], _ => exact ⟨x, rfl⟩
    walk_at "wp"
    exact ost_n (oex_BadScheme ev) (noA_BadScheme_word ev) ha fun dx h1 h2 => q dx h1 h2
theorem ok_UnknownSort___init__ (ev : E K mg) : My.ErrInit P w K mg base CX0 1 d_UnknownSort___init__ "UnknownSort" ["self", "name"] (spErr K "UnknownSort" ["name"]) := by
  obtain ⟨fd, F⟩ := ev.e.c.def_ 2 (d := d_UnknownSort___init__) rfl
  refine ⟨⟨_, fd, ?_, ini_UnknownSort ev, iniT_UnknownSort ev, F.bindsN fun _ _ _ _ _ _ us hl => match us, hl with | [_, _], _ => rfl⟩, gloE_UnknownSort ev, oex_UnknownSort ev⟩
  refine F.ok sc_UnknownSort___init__ (fun vs H Q Ex h => ?_) (fun cdv A outer s H vs Q Ex hr h => ⟨_, PSs.nox
    (pss_one (ps_ost (pv 0) (pv 1))), ?_⟩)
  · first | (obtain ⟨_, xs, rfl, h2, _⟩ := h; simpa using h2)
  · obtain ⟨a, xs, rfl, hl, ha, q⟩ := h
    obtain ⟨x, rfl⟩ : ∃ x, xs = [x] := by
      match xs, hl with
      | [x], _ => exact ⟨x, rfl⟩
    walk_at "wp"
    exact ost_n (oex_UnknownSort ev) (noA_UnknownSort_name ev) ha fun dx h1 h2 => q dx h1 h2
theorem ok_is_name (ev : E K mg) : My.Callee P w K mg base CX0 1 d_is_name ["word"] spName := by
  obtain ⟨fd, F⟩ := ev.e.c.def_ 3 (d := d_is_name) rfl
  refine ⟨_, fd, ?_, ev.glo 1, F.kp, F.bindsN fun _ _ _ _ _ _ us hl => match us, hl with | [_], _ => rfl, F⟩
  refine F.ok sc_is_name (fun vs H Q Ex h => ?_) (fun cdv A outer s H vs Q Ex hr h => ⟨_, PSs.nox
    (pss_cons (ps_if (PW.pt (pw_or (pt_cmpR op_eq (pv 0) pe_str (nomark _)) (pw_or (pt_cmpR op_gt (pe_callB call_lenX rfl (free_len ev) (by decide +kernel) (pa_cons (pv 0) pa_nil)) (C8.pe_gc (v := .int 8) rfl (by obtain ⟨t, z⟩ := con_MOST_LETTERS (K := K) ev; exact ⟨_, z, ⟨t, rfl⟩⟩)) (nomark _)) (pw_or1 (pt_cmpR op_in_seq (pv 0) (pe_glob (v := .ref (He.ga K "OTHER_WORDS")) rfl (con_OTHER_WORDS (K := K) ev) rfl) (by rfl)))))) (pss_one (ps_ret pe_bl))
  pss_nil)
  (pss_one (ps_ret (pe_callB (r := rAll K) (cr_all rfl) rfl (free_all ev) (by decide +kernel) (pa_cons (pe_lc (own := [("letter", 1)]) (g := (gName 1)) (tt := tYes) rfl sc_is_name.nd (pi_str (pv 0)) (blkOk_by (own := [("letter", 1)]) (N := ["word", "letter"]) (sc := defScope s_is_name) (by decide +kernel)) (fun _ _ _ _ _ => (pg_name (i := 1) sc_is_name.nd rfl (Or.inl rfl))) (fun _ _ _ _ _ => pts_nil) (fun _ _ _ _ _ => (pe_cmpR op_inSg (pv 1) (C8.pe_gc (v := .str "abcdefghijklmnopqrstuvwxyz") rfl (by obtain ⟨t, z⟩ := con_LETTERS (K := K) ev; exact ⟨_, z, ⟨t, rfl⟩⟩)) (by rfl)))) pa_nil))))), ?_⟩)
  · first | (obtain ⟨rfl, _⟩ := h; rfl) | (obtain ⟨_, rfl, _⟩ := h; rfl) | (obtain ⟨_, _, rfl, _⟩ := h; rfl) | (obtain ⟨_, _, _, rfl, _⟩ := h; rfl) | (obtain ⟨_, _, _, _, rfl, _⟩ := h; rfl) | (obtain ⟨_, _, _, _, _, rfl, _⟩ := h; rfl) | (obtain ⟨_, _, _, _, _, _, rfl, _⟩ := h; rfl) | (obtain ⟨_, _, _, _, _, _, _, rfl, _⟩ := h; rfl) | (obtain ⟨_, _, _, _, _, _, _, _, rfl, _⟩ := h; rfl) | (obtain ⟨_, _, _, _, _, _, _, _, _, rfl, _⟩ := h; rfl) | (obtain ⟨_, _, _, _, _, _, _, _, _, _, rfl, _⟩ := h; rfl) | (obtain ⟨_, _, _, _, _, _, _, _, _, _, _, rfl, _⟩ := h; rfl) | (obtain ⟨_, _, _, _, _, _, _, _, _, _, _, _, rfl, _⟩ := h; rfl) | (obtain ⟨_, _, _, _, _, _, _, _, _, _, _, _, _, rfl, _⟩ := h; rfl) | (obtain ⟨_, _, _, _, _, _, _, _, _, _, _, _, _, _, rfl, _⟩ := h; rfl) | (obtain ⟨_, _, _, _, _, _, _, _, _, _, _, _, _, _, _, rfl, _⟩ := h; rfl)
  · obtain ⟨w, rfl, hw, q⟩ := h
    have sl : 100000 ≤ sizeLine := by decide
    unfold good at q
    walk_at "wp"
    split
    · rename_i h0
      rw [decide_eq_true h0] at q
      simpa using q _ (Fr.refl _ _)
    · rename_i h0
      rw [decide_eq_false h0] at q
      refine lenX_l (by omega) ?_
      walk_at "wp"
      split
      · rename_i h8
        rw [decide_eq_true (show 8 < w.length by omega)] at q
        simpa using q _ (Fr.refl _ _)
      · rename_i h8
        rw [decide_eq_false (show ¬ 8 < w.length by omega)] at q
        refine in_l (.inr (tab_OTHER_WORDS ev _)) rfl flat_strs ?_
        rw [inV_str]
        walk_at "wp"
        split
        · rename_i hk
          rw [decide_eq_true hk] at q
          simpa using q _ (Fr.refl _ _)
        · rename_i hk
          rw [decide_eq_false hk] at q
          refine lc_s (S := []) (fun _ => True) (fun x o _ => ∃ c : Nat, x = .str ⟨#[c]⟩ ∧ o = some (.bl (lowc c))) hw (by simp) ⟨True.intro, fun _ _ _ _ _ => True.intro, fun _ _ _ _ _ r => r, fun _ _ _ _ _ _ _ r => r, fun x H' hx Fx _ Qn kq => ?_⟩ fun Dl ys H2 hD eD kk F2 _ => ?_
          · obtain ⟨c, _, rfl⟩ := List.mem_map.mp hx
            walk_at "wp"
            refine inSg_l ?_
            have e : decide (c ∈ (Str.ofString "abcdefghijklmnopqrstuvwxyz").cps.toList) = lowc c := by
              rw [Bool.eq_iff_iff, decide_eq_true_eq]
              exact low_mem
            rw [e]
            exact kq (some (.bl (lowc c))) H' ⟨c, rfl, rfl⟩ (Fr.refl _ _) True.intro
          have ey := Kept.map (e := fun c : Nat => V.str ⟨#[c]⟩) (f := fun c => V.bl (lowc c)) (fun c o r => by
            obtain ⟨d, e1, e2⟩ := r
            have : c = d := by simpa using e1
            rw [e2, this]) kk
          subst ey
          walk_at "wp"
          refine all_l (bs := (cl w).map lowc) (by rw [List.map_map]; exact SqL.of eD) ?_
          have e : ((cl w).map lowc).all id = (cl w).all lowc := by rw [List.all_map]; rfl
          rw [e]
          simpa using q _ F2
theorem ok_Sort___init__ (ev : E K mg) : My.MakeOfK P w K mg base CX0 1 d_Sort___init__ "Sort" ["self", "name", "key", "part", "descending"] (sp_sortI K) := by
  obtain ⟨fd, F⟩ := ev.e.c.def_ 4 (d := d_Sort___init__) rfl
  refine ⟨⟨_, fd, ?_, mkr_Sort ev, F⟩, glo_Sort ev⟩
  refine F.ok sc_Sort___init__ (fun vs H Q Ex h => ?_) (fun cdv A outer s H vs Q Ex hr h => ⟨_, PSs.nox
    (pss_cons (ps_fld (pv 0) (pv 1) rfl)
  (pss_cons (ps_fld (pv 0) (pv 2) rfl)
  (pss_cons (ps_fld (pv 0) (pv 3) rfl)
  (pss_one (ps_fld (pv 0) (pv 4) rfl))))), ?_⟩)
  · first | (obtain ⟨rfl, _⟩ := h; rfl) | (obtain ⟨_, rfl, _⟩ := h; rfl) | (obtain ⟨_, _, rfl, _⟩ := h; rfl) | (obtain ⟨_, _, _, rfl, _⟩ := h; rfl) | (obtain ⟨_, _, _, _, rfl, _⟩ := h; rfl) | (obtain ⟨_, _, _, _, _, rfl, _⟩ := h; rfl) | (obtain ⟨_, _, _, _, _, _, rfl, _⟩ := h; rfl) | (obtain ⟨_, _, _, _, _, _, _, rfl, _⟩ := h; rfl) | (obtain ⟨_, _, _, _, _, _, _, _, rfl, _⟩ := h; rfl) | (obtain ⟨_, _, _, _, _, _, _, _, _, rfl, _⟩ := h; rfl) | (obtain ⟨_, _, _, _, _, _, _, _, _, _, rfl, _⟩ := h; rfl) | (obtain ⟨_, _, _, _, _, _, _, _, _, _, _, rfl, _⟩ := h; rfl) | (obtain ⟨_, _, _, _, _, _, _, _, _, _, _, _, rfl, _⟩ := h; rfl) | (obtain ⟨_, _, _, _, _, _, _, _, _, _, _, _, _, rfl, _⟩ := h; rfl) | (obtain ⟨_, _, _, _, _, _, _, _, _, _, _, _, _, _, rfl, _⟩ := h; rfl) | (obtain ⟨_, _, _, _, _, _, _, _, _, _, _, _, _, _, _, rfl, _⟩ := h; rfl)
  · obtain ⟨x, dx, s, rfl, hx, q⟩ := h
    walk_at "wp"
    refine ini_Sort_name ev hx ?_
    walk_at "wp"
    refine ini_Sort_key ev upd_same ?_
    walk_at "wp"
    refine ini_Sort_part ev upd_same ?_
    walk_at "wp"
    refine ini_Sort_descending ev upd_same ?_
    walk_at "wp"
    rw [upd_upd, upd_upd, upd_upd]
    exact q
theorem ok_Sort___eq__ (ev : E K mg) : My.MethOf P w K mg base CX0 1 "Sort" "__eq__" ["self", "other"] (sp_eqS K) := by
  obtain ⟨fd, F⟩ := ev.e.c.def_ 5 (d := d_Sort___eq__) rfl
  refine ⟨⟨_, fd, ?_, meth_Sort___eq__ ev, F.bindsN fun _ _ _ _ _ _ us hl => match us, hl with | [_, _], _ => rfl⟩, cls_Sort ev⟩
  refine F.ok sc_Sort___eq__ (fun vs H Q Ex h => ?_) (fun cdv A outer s H vs Q Ex hr h => ⟨_, PSs.nox
    (pss_one (ps_ret (pe_and (pe_callB call_isi rfl (free_isinstance ev) (by decide +kernel) (pa_cons (pv 1) (pa_cons (pe_glob (v := .ref (He.ga K "Sort")) rfl (glo_Sort ev) rfl) pa_nil))) (pe_and (pe_cmpR op_eq (pe_fld (pv 0) rfl) (pe_fld (pv 1) rfl) (nomark _)) (pe_and (pe_cmpR op_eq (pe_fld (pv 0) rfl) (pe_fld (pv 1) rfl) (nomark _)) (pe_and (pe_cmpR op_eq (pe_fld (pv 0) rfl) (pe_fld (pv 1) rfl) (nomark _)) (pe_one (pe_cmpR op_eq (pe_fld (pv 0) rfl) (pe_fld (pv 1) rfl) (nomark _))))))))), ?_⟩)
  · first | (obtain ⟨rfl, _⟩ := h; rfl) | (obtain ⟨_, rfl, _⟩ := h; rfl) | (obtain ⟨_, _, rfl, _⟩ := h; rfl) | (obtain ⟨_, _, _, rfl, _⟩ := h; rfl) | (obtain ⟨_, _, _, _, rfl, _⟩ := h; rfl) | (obtain ⟨_, _, _, _, _, rfl, _⟩ := h; rfl) | (obtain ⟨_, _, _, _, _, _, rfl, _⟩ := h; rfl) | (obtain ⟨_, _, _, _, _, _, _, rfl, _⟩ := h; rfl) | (obtain ⟨_, _, _, _, _, _, _, _, rfl, _⟩ := h; rfl) | (obtain ⟨_, _, _, _, _, _, _, _, _, rfl, _⟩ := h; rfl) | (obtain ⟨_, _, _, _, _, _, _, _, _, _, rfl, _⟩ := h; rfl) | (obtain ⟨_, _, _, _, _, _, _, _, _, _, _, rfl, _⟩ := h; rfl) | (obtain ⟨_, _, _, _, _, _, _, _, _, _, _, _, rfl, _⟩ := h; rfl) | (obtain ⟨_, _, _, _, _, _, _, _, _, _, _, _, _, rfl, _⟩ := h; rfl) | (obtain ⟨_, _, _, _, _, _, _, _, _, _, _, _, _, _, rfl, _⟩ := h; rfl) | (obtain ⟨_, _, _, _, _, _, _, _, _, _, _, _, _, _, _, rfl, _⟩ := h; rfl)
  · obtain ⟨p, s, y, rfl, ⟨dx, hp⟩, q⟩ := h
    walk_at "wp"
    rcases q with ⟨r, s', rfl, ⟨dy, hr'⟩, q⟩ | ⟨t, ty, hk, q⟩
    · obtain ⟨n, k, pa, de⟩ := s
      obtain ⟨n', k', pa', de'⟩ := s'
      have eq : decide ((⟨n, k, pa, de⟩ : So) = ⟨n', k', pa', de'⟩) = (decide (n = n') && (decide (k = k') && (decide (pa = pa') && decide (de = de')))) := by
        simp
      rw [eq] at q
      refine ⟨_, _, _, _, true, rfl, .own _, ty_Sort ev hr', kit_Sort_Sort ev, ?_⟩
      walk_at "wp"
      refine fld_Sort_name ev hp (v := .str n) rfl ?_
      walk_at "wp"
      refine fld_Sort_name ev hr' (v := .str n') rfl ?_
      walk_at "wp"
      split
      · rename_i e1
        rw [decide_eq_true e1] at q
        refine fld_Sort_key ev hp (v := .str k) rfl ?_
        walk_at "wp"
        refine fld_Sort_key ev hr' (v := .str k') rfl ?_
        walk_at "wp"
        split
        · rename_i e2
          rw [decide_eq_true e2] at q
          refine fld_Sort_part ev hp (v := oS pa) rfl ?_
          walk_at "wp"
          refine fld_Sort_part ev hr' (v := oS pa') rfl ?_
          walk_at "wp"
          refine eq_oS ?_
          walk_at "wp"
          split
          · rename_i e3
            rw [decide_eq_true e3] at q
            refine fld_Sort_descending ev hp (v := .bl de) rfl ?_
            walk_at "wp"
            refine fld_Sort_descending ev hr' (v := .bl de') rfl ?_
            walk_at "wp"
            simpa using q
          · rename_i e3
            rw [decide_eq_false e3] at q
            simpa using q
        · rename_i e2
          rw [decide_eq_false e2] at q
          simpa using q
      · rename_i e1
        rw [decide_eq_false e1] at q
        simpa using q
    · refine ⟨_, _, _, _, false, rfl, .own _, ty, hk, ?_⟩
      walk_at "wp"
      exact q
theorem ok_Scheme_columns (ev : E K mg) : My.MethOf P w K mg base CX0 1 "Scheme" "columns" ["self"] (sp_co K) := by
  obtain ⟨fd, F⟩ := ev.e.c.def_ 7 (d := d_Scheme_columns) rfl
  refine ⟨⟨_, fd, ?_, meth_Scheme_columns ev, F.bindsN fun _ _ _ _ _ _ us hl => match us, hl with | [_], _ => rfl⟩, cls_Scheme ev⟩
  refine F.ok sc_Scheme_columns (fun vs H Q Ex h => ?_) (fun cdv A outer s H vs Q Ex hr h => ⟨_, PSs.nox
    (pss_cons (ps_setLc (i := 1) (own := [("sort", 2)]) (g := (gName 2)) (tt := tYes) rfl sc_Scheme_columns.nd rfl rfl (sw_true rfl rfl rfl (by decide +kernel)) (pi_tup (pe_fld (pv 0) rfl)) (blkOk_by (own := [("sort", 2)]) (N := ["self", "keys", "sort"]) (sc := defScope s_Scheme_columns) (by decide +kernel)) (fun _ _ _ _ _ => (pg_name (i := 2) sc_Scheme_columns.nd rfl (Or.inl rfl))) (fun _ _ _ _ _ => pts_nil) (fun _ _ _ _ _ => (pe_fldK (K := K) rfl (pv 2) rfl)))
  (pss_one (ps_ret (pe_lst (StX.pa_star (pe_fld (pv 0) rfl) (StX.pa_star (pv 1) (StX.pa_star (pe_fld (pv 0) rfl) (StX.pa_star (pe_fld (pv 0) rfl) pa_nil)))))))), ?_⟩)
  · first | (obtain ⟨rfl, _⟩ := h; rfl) | (obtain ⟨_, rfl, _⟩ := h; rfl) | (obtain ⟨_, _, rfl, _⟩ := h; rfl) | (obtain ⟨_, _, _, rfl, _⟩ := h; rfl) | (obtain ⟨_, _, _, _, rfl, _⟩ := h; rfl) | (obtain ⟨_, _, _, _, _, rfl, _⟩ := h; rfl) | (obtain ⟨_, _, _, _, _, _, rfl, _⟩ := h; rfl) | (obtain ⟨_, _, _, _, _, _, _, rfl, _⟩ := h; rfl) | (obtain ⟨_, _, _, _, _, _, _, _, rfl, _⟩ := h; rfl) | (obtain ⟨_, _, _, _, _, _, _, _, _, rfl, _⟩ := h; rfl) | (obtain ⟨_, _, _, _, _, _, _, _, _, _, rfl, _⟩ := h; rfl) | (obtain ⟨_, _, _, _, _, _, _, _, _, _, _, rfl, _⟩ := h; rfl) | (obtain ⟨_, _, _, _, _, _, _, _, _, _, _, _, rfl, _⟩ := h; rfl) | (obtain ⟨_, _, _, _, _, _, _, _, _, _, _, _, _, rfl, _⟩ := h; rfl) | (obtain ⟨_, _, _, _, _, _, _, _, _, _, _, _, _, _, rfl, _⟩ := h; rfl) | (obtain ⟨_, _, _, _, _, _, _, _, _, _, _, _, _, _, _, rfl, _⟩ := h; rfl)
  · obtain ⟨p, l, P, V', M, rfl, ⟨dx, ts, tp, tv, tm, vs, h1, h2, h3, h4, h5, h6⟩, hl, lP, lV, lM, q⟩ := h
    walk_at "wp"
    refine fld_Scheme_sorts ev h1 rfl ?_
    refine lc_t (S := []) (fun _ => True) (fun x o _ => ∃ p s, x = .ref p ∧ IsSort K H p s ∧ o = some (.str s.k)) h2 (by simp) (by rw [h3.len]; omega) (by simp) ⟨True.intro, fun _ _ _ _ _ => True.intro, fun _ _ _ _ _ r => r, fun _ _ _ _ _ _ _ r => r, fun x H' hx Fx _ Qn kq => ?_⟩ fun Dl ys H2 hD eD kk F2 _ => ?_
    · obtain ⟨i, hi⟩ := List.getElem?_of_mem hx
      obtain ⟨r, s, rfl, _, S⟩ := h3.get i x hi
      have S' := S.fr Fx (by simp)
      walk_at "wp"
      refine fld_Sort_key ev S'.choose_spec rfl ?_
      exact kq (some (.str s.k)) H' ⟨r, s, rfl, S, rfl⟩ (Fr.refl _ _) True.intro
    have ey := kept_so (K := K) (H0 := H) (f := fun s => V.str s.k) (fun x o r => r) (fun p s s' a b => by rw [so_uniq a b]) h3 kk
    subst ey
    have g1 := F2.1 _ _ (by simp) h1
    have g4 := F2.t (by simp) h4
    have g5 := F2.t (by simp) h5
    have g6 := F2.t (by simp) h6
    walk_at "wp"
    refine fld_Scheme_part_columns ev g1 rfl ?_
    refine star_l (.inl g4) ?_
    walk_at "wp"
    refine star_l (.inr (SqL.of eD)) ?_
    walk_at "wp"
    refine fld_Scheme_value_columns ev g1 rfl ?_
    refine star_l (.inl g5) ?_
    walk_at "wp"
    refine fld_Scheme_mark_columns ev g1 rfl ?_
    refine star_l (.inl g6) ?_
    walk_at "wp"
    have sl : 100000 ≤ sizeLine := by decide
    have e : P.map V.str ++ (l.map (fun s => V.str s.k) ++ (V'.map V.str ++ M.map V.str)) = (cols l P V' M).map V.str := by
      unfold cols
      simp [List.map_append, List.map_map, Function.comp_def]
    rw [e]
    refine new_l (by rw [List.length_map]; unfold cols; simp only [List.length_append, List.length_map]; omega) fun r hr2 => ?_
    exact q r _ (F2.2 _ hr2) upd_same (F2.trans (Fr.new hr2))
theorem ok_Scheme_sort_names (ev : E K mg) : My.MethOf P w K mg base CX0 1 "Scheme" "sort_names" ["self"] (sp_sn K) := by
  obtain ⟨fd, F⟩ := ev.e.c.def_ 8 (d := d_Scheme_sort_names) rfl
  refine ⟨⟨_, fd, ?_, meth_Scheme_sort_names ev, F.bindsN fun _ _ _ _ _ _ us hl => match us, hl with | [_], _ => rfl⟩, cls_Scheme ev⟩
  refine F.ok sc_Scheme_sort_names (fun vs H Q Ex h => ?_) (fun cdv A outer s H vs Q Ex hr h => ⟨_, PSs.nox
    (pss_one (ps_ret (pe_lc (own := [("sort", 1)]) (g := (gName 1)) (tt := tYes) rfl sc_Scheme_sort_names.nd (pi_tup (pe_fld (pv 0) rfl)) (blkOk_by (own := [("sort", 1)]) (N := ["self", "sort"]) (sc := defScope s_Scheme_sort_names) (by decide +kernel)) (fun _ _ _ _ _ => (pg_name (i := 1) sc_Scheme_sort_names.nd rfl (Or.inl rfl))) (fun _ _ _ _ _ => pts_nil) (fun _ _ _ _ _ => (pe_fldK (K := K) rfl (pv 1) rfl))))), ?_⟩)
  · first | (obtain ⟨rfl, _⟩ := h; rfl) | (obtain ⟨_, rfl, _⟩ := h; rfl) | (obtain ⟨_, _, rfl, _⟩ := h; rfl) | (obtain ⟨_, _, _, rfl, _⟩ := h; rfl) | (obtain ⟨_, _, _, _, rfl, _⟩ := h; rfl) | (obtain ⟨_, _, _, _, _, rfl, _⟩ := h; rfl) | (obtain ⟨_, _, _, _, _, _, rfl, _⟩ := h; rfl) | (obtain ⟨_, _, _, _, _, _, _, rfl, _⟩ := h; rfl) | (obtain ⟨_, _, _, _, _, _, _, _, rfl, _⟩ := h; rfl) | (obtain ⟨_, _, _, _, _, _, _, _, _, rfl, _⟩ := h; rfl) | (obtain ⟨_, _, _, _, _, _, _, _, _, _, rfl, _⟩ := h; rfl) | (obtain ⟨_, _, _, _, _, _, _, _, _, _, _, rfl, _⟩ := h; rfl) | (obtain ⟨_, _, _, _, _, _, _, _, _, _, _, _, rfl, _⟩ := h; rfl) | (obtain ⟨_, _, _, _, _, _, _, _, _, _, _, _, _, rfl, _⟩ := h; rfl) | (obtain ⟨_, _, _, _, _, _, _, _, _, _, _, _, _, _, rfl, _⟩ := h; rfl) | (obtain ⟨_, _, _, _, _, _, _, _, _, _, _, _, _, _, _, rfl, _⟩ := h; rfl)
  · obtain ⟨p, l, P, V', M, rfl, ⟨dx, ts, tp, tv, tm, vs, h1, h2, h3, h4, h5, h6⟩, hl, q⟩ := h
    walk_at "wp"
    refine fld_Scheme_sorts ev h1 rfl ?_
    refine lc_t (S := []) (fun _ => True) (fun x o _ => ∃ p s, x = .ref p ∧ IsSort K H p s ∧ o = some (.str s.n)) h2 (by simp) (by rw [h3.len]; omega) (by simp) ⟨True.intro, fun _ _ _ _ _ => True.intro, fun _ _ _ _ _ r => r, fun _ _ _ _ _ _ _ r => r, fun x H' hx Fx _ Qn kq => ?_⟩ fun Dl ys H2 hD eD kk F2 _ => ?_
    · obtain ⟨i, hi⟩ := List.getElem?_of_mem hx
      obtain ⟨r, s, rfl, _, S⟩ := h3.get i x hi
      have S' := S.fr Fx (by simp)
      walk_at "wp"
      refine fld_Sort_name ev S'.choose_spec rfl ?_
      exact kq (some (.str s.n)) H' ⟨r, s, rfl, S, rfl⟩ (Fr.refl _ _) True.intro
    have ey := kept_so (K := K) (H0 := H) (f := fun s => V.str s.n) (fun x o r => r) (fun p s s' a b => by rw [so_uniq a b]) h3 kk
    subst ey
    walk_at "wp"
    exact q Dl _ hD (by rw [List.map_map]; exact eD) F2
theorem ok__law_begin (ev : E K mg) : My.Callee P w K mg base CX0 1 d__law_begin ["_law_script"] (spBegin K) := by
  obtain ⟨fd, F⟩ := ev.e.c.def_ 15 (d := d__law_begin) rfl
  refine ⟨_, fd, ?_, ev.glo 5, F.kp, F.bindsN fun _ _ _ _ _ _ us hl => match us, hl with | [_], _ => rfl, F⟩
  refine F.ok sc__law_begin (fun vs H Q Ex h => ?_) (fun cdv A outer s H vs Q Ex hr h => ⟨_, PSs.nox
    (pss_cons (ps_setLc (i := 1) (own := [("_law_cell", 3)]) (g := (gName 3)) (tt := tYes) rfl sc__law_begin.nd rfl rfl (sw_true rfl rfl rfl (by decide +kernel)) (pi_list (pe_slice sl_list (pv 0) po_none (po_some pe_int))) (blkOk_by (own := [("_law_cell", 3)]) (N := ["_law_script", "_law_cells", "_law_rests", "_law_cell"]) (sc := defScope s__law_begin) (by decide +kernel)) (fun _ _ _ _ _ => (pg_name (i := 3) sc__law_begin.nd rfl (Or.inl rfl))) (fun _ _ _ _ _ => pts_nil) (fun _ _ _ _ _ => (pe_callTy call_intR rfl (free_int ev) (by decide +kernel) (pa_cons (pv 3) pa_nil))))
  (pss_cons (ps_if (pt_cmpR op_eq (pe_callB call_lenR rfl (free_len ev) (by decide +kernel) (pa_cons (pv 1) pa_nil)) pe_int (nomark _)) (pss_one (ps_set (i := 1) sc__law_begin.nd rfl (Or.inl rfl) (pe_lst (pa_cons pe_int pa_nil))))
  pss_nil)
  (pss_cons (ps_setLc (i := 2) (own := [("_law_cell", 3)]) (g := (gName 3)) (tt := tYes) rfl sc__law_begin.nd rfl rfl (sw_true rfl rfl rfl (by decide +kernel)) (pi_list (pv 1)) (blkOk_by (own := [("_law_cell", 3)]) (N := ["_law_script", "_law_cells", "_law_rests", "_law_cell"]) (sc := defScope s__law_begin) (by decide +kernel)) (fun _ _ _ _ _ => (pg_name (i := 3) sc__law_begin.nd rfl (Or.inl rfl))) (fun _ _ _ _ _ => pts_nil) (fun _ _ _ _ _ => (pe_op op_mul (pe_callB call_absR rfl (free_abs ev) (by decide +kernel) (pa_cons (pv 3) pa_nil)) (pe_callTy call_intR rfl (free_int ev) (by decide +kernel) (pa_cons (pe_cmpR op_ge (pe_callB call_absR rfl (free_abs ev) (by decide +kernel) (pa_cons (pv 3) pa_nil)) (pe_op op_pow pe_int pe_int) (nomark _)) pa_nil)))))
  (pss_one (ps_ret (pe_lst (pa_cons (pv 1) (pa_cons (pv 2) (pa_cons pe_int pa_nil))))))))), ?_⟩)
  · first | (obtain ⟨rfl, _⟩ := h; rfl) | (obtain ⟨_, rfl, _⟩ := h; rfl) | (obtain ⟨_, _, rfl, _⟩ := h; rfl) | (obtain ⟨_, _, _, rfl, _⟩ := h; rfl) | (obtain ⟨_, _, _, _, rfl, _⟩ := h; rfl) | (obtain ⟨_, _, _, _, _, rfl, _⟩ := h; rfl) | (obtain ⟨_, _, _, _, _, _, rfl, _⟩ := h; rfl) | (obtain ⟨_, _, _, _, _, _, _, rfl, _⟩ := h; rfl) | (obtain ⟨_, _, _, _, _, _, _, _, rfl, _⟩ := h; rfl) | (obtain ⟨_, _, _, _, _, _, _, _, _, rfl, _⟩ := h; rfl) | (obtain ⟨_, _, _, _, _, _, _, _, _, _, rfl, _⟩ := h; rfl) | (obtain ⟨_, _, _, _, _, _, _, _, _, _, _, rfl, _⟩ := h; rfl) | (obtain ⟨_, _, _, _, _, _, _, _, _, _, _, _, rfl, _⟩ := h; rfl) | (obtain ⟨_, _, _, _, _, _, _, _, _, _, _, _, _, rfl, _⟩ := h; rfl) | (obtain ⟨_, _, _, _, _, _, _, _, _, _, _, _, _, _, rfl, _⟩ := h; rfl) | (obtain ⟨_, _, _, _, _, _, _, _, _, _, _, _, _, _, _, rfl, _⟩ := h; rfl)
  · obtain ⟨a, ns, rfl, hS, hlen, q⟩ := h
    walk_at "wp"
    refine sl_l hS fun p hp => ?_
    have ecut : cutV (ns.map V.int) none (some 63) = ns.map V.int := cut_first (n := 63) (by rw [List.length_map]; exact hlen)
    rw [ecut]
    walk_at "wp"
    refine lc_ints (fun n => n) (SqL.of upd_same) (by omega) (fun n => rfl) (fun n hn H' Q' k => ?_) fun C H1 hC eC f1 => ?_
    · walk_at "wp"
      exact k
    rw [List.map_id'] at eC
    have f1' : My.Fr [] H H1 := (Fr.new hp).trans f1
    have hC' : H C = none := (Fr.new (S := []) hp).2 _ hC
    walk_at "wp"
    refine len_l (SqL.of eC) ?_
    walk_at "wp"
    split
    · refine new_l (by show 1 ≤ sizeLine; decide) fun Dl hD => ?_
      have f2 : My.Fr [] H (upd H1 Dl (.lst [V.int 0])) := f1'.trans (Fr.new hD)
      have eD : (upd H1 Dl (.lst [V.int 0])) Dl = some (.lst (([0] : List Int).map V.int)) := upd_same
      have hD' : H Dl = none := f1'.2 _ hD
      walk_at "wp"
      refine lc_ints (fun n => (n.natAbs : Int) * (if (10 : Int) ^ 18 ≤ (n.natAbs : Int) then 1 else 0)) (SqL.of eD) (by decide) (fun n => rfl) (fun n hn H' Q' k => ?_) fun Ad H3 hA eA f3 => ?_
      · walk_at "wp"
        refine ⟨⟨by decide, by decide, by decide⟩, .inr ?_, ?_⟩
        · (repeat' split) <;> exact ⟨by decide, by decide⟩
        · have e : (if (decide ((10 : Int) ^ Int.toNat 18 ≤ (n.natAbs : Int))) = true then (1 : Int) else 0) = (if (10 : Int) ^ 18 ≤ (n.natAbs : Int) then 1 else 0) := by
            rw [show Int.toNat 18 = 18 from rfl]; simp only [decide_eq_true_eq]
          first | exact k | (rw [e]; exact k) | (simp only [decide_eq_true_eq] at *; exact k)
      have f13 : My.Fr [] H H3 := f2.trans f3
      have hA' : H Ad = none := f2.2 _ hA
      have nAD : Ad ≠ Dl := fun z => by rw [z, eD] at hA; cases hA
      walk_at "wp"
      refine new_l (by show 3 ≤ sizeLine; decide) fun z hz => ?_
      walk_at "wp"
      have nzA : z ≠ Ad := fun y => by rw [y, eA] at hz; cases hz
      have eD3 : H3 Dl = some _ := f3.1 _ _ (by simp) eD
      have nzD : z ≠ Dl := fun y => by rw [y, eD3] at hz; cases hz
      refine q z Dl Ad _ (f13.2 _ hz) hD' hA' ⟨⟨_, _, 0, upd_same, (upd_ne nzD.symm).trans eD3, (upd_ne nzA.symm).trans eA, by rw [List.length_map], by first | exact hpos | (show 0 < 1; decide), by first | exact hle | (show 1 ≤ 1000; decide), by decide⟩, nzD, nzA, Ne.symm nAD⟩ (f13.put_new hz)
    · rename_i hne
      rw [List.length_map] at hne
      have hpos : 0 < ns.length := by omega
      have hle : ns.length ≤ 1000 := by omega
      have f2 := f1'
      have eD := eC
      have hD' := hC'
      refine lc_ints (fun n => (n.natAbs : Int) * (if (10 : Int) ^ 18 ≤ (n.natAbs : Int) then 1 else 0)) (SqL.of eD) (by omega) (fun n => rfl) (fun n hn H' Q' k => ?_) fun Ad H3 hA eA f3 => ?_
      · walk_at "wp"
        refine ⟨⟨by decide, by decide, by decide⟩, .inr ?_, ?_⟩
        · (repeat' split) <;> exact ⟨by decide, by decide⟩
        · have e : (if (decide ((10 : Int) ^ Int.toNat 18 ≤ (n.natAbs : Int))) = true then (1 : Int) else 0) = (if (10 : Int) ^ 18 ≤ (n.natAbs : Int) then 1 else 0) := by
            rw [show Int.toNat 18 = 18 from rfl]; simp only [decide_eq_true_eq]
          first | exact k | (rw [e]; exact k) | (simp only [decide_eq_true_eq] at *; exact k)
      have f13 : My.Fr [] H H3 := f2.trans f3
      have hA' : H Ad = none := f2.2 _ hA
      have nAD : Ad ≠ C := fun z => by rw [z, eD] at hA; cases hA
      walk_at "wp"
      refine new_l (by show 3 ≤ sizeLine; decide) fun z hz => ?_
      walk_at "wp"
      have nzA : z ≠ Ad := fun y => by rw [y, eA] at hz; cases hz
      have eD3 : H3 C = some _ := f3.1 _ _ (by simp) eD
      have nzD : z ≠ C := fun y => by rw [y, eD3] at hz; cases hz
      refine q z C Ad _ (f13.2 _ hz) hD' hA' ⟨⟨_, _, 0, upd_same, (upd_ne nzD.symm).trans eD3, (upd_ne nzA.symm).trans eA, by rw [List.length_map], by first | exact hpos | (show 0 < 1; decide), by first | exact hle | (show 1 ≤ 1000; decide), by decide⟩, nzD, nzA, Ne.symm nAD⟩ (f13.put_new hz)
theorem ok__law_draw (ev : E K mg) : My.Callee P w K mg base CX0 1 d__law_draw ["_law_draws", "_law_many"] spDraw := by
  obtain ⟨fd, F⟩ := ev.e.c.def_ 16 (d := d__law_draw) rfl
  refine ⟨_, fd, ?_, ev.glo 6, F.kp, F.bindsN fun _ _ _ _ _ _ us hl => match us, hl with | [_, _], _ => rfl, F⟩
  refine F.ok sc__law_draw (fun vs H Q Ex h => ?_) (fun cdv A outer s H vs Q Ex hr h => ⟨_, PSs.nox
    (pss_cons (ps_set (i := 2) sc__law_draw.nd rfl (Or.inl rfl) (pe_ix ix_list (pv 0) pe_int (fun _ _ => rfl)))
  (pss_cons (ps_set (i := 3) sc__law_draw.nd rfl (Or.inl rfl) (pe_ix ix_list (pv 0) pe_int (fun _ _ => rfl)))
  (pss_cons (ps_set (i := 4) sc__law_draw.nd rfl (Or.inl rfl) (pe_ix ix_list (pv 0) pe_int (fun _ _ => rfl)))
  (pss_cons (ps_asg (pe_op op_add (pv 4) pe_int) (pg_sub (pv 0) pe_int set_list))
  (pss_cons (ps_set (i := 5) sc__law_draw.nd rfl (Or.inl rfl) (pe_op op_mod (pe_callTy call_intR rfl (free_int ev) (by decide +kernel) (pa_cons (pv 4) pa_nil)) (pe_callB call_lenR rfl (free_len ev) (by decide +kernel) (pa_cons (pv 2) pa_nil))))
  (pss_cons (ps_if (pt_cmpR op_gt (pe_ix ix_list (pv 3) (pv 5) (fun _ _ => rfl)) pe_int (nomark _)) (pss_cons (ps_set (i := 6) sc__law_draw.nd rfl (Or.inl rfl) (pe_op op_mod (pe_callTy call_intR rfl (free_int ev) (by decide +kernel) (pa_cons (pe_ix ix_list (pv 3) (pv 5) (fun _ _ => rfl)) pa_nil)) (pv 1)))
  (pss_cons (ps_asg (pe_op op_fdivW (pe_ix ix_list (pv 3) (pv 5) (fun _ _ => rfl)) (pv 1)) (pg_sub (pv 3) (pv 5) set_list))
  (pss_one (ps_ret (pv 6)))))
  pss_nil)
  (pss_cons (ps_set (i := 7) sc__law_draw.nd rfl (Or.inl rfl) (pe_op op_mod (pe_callTy call_intR rfl (free_int ev) (by decide +kernel) (pa_cons (pe_op op_mul (pe_op op_add (pe_op op_mod (pe_callTy call_intR rfl (free_int ev) (by decide +kernel) (pa_cons (pe_ix ix_list (pv 2) (pv 5) (fun _ _ => rfl)) pa_nil)) pe_int) pe_int) (pe_op op_add (pv 4) pe_int)) pa_nil)) pe_int))
  (pss_cons (ps_set (i := 8) sc__law_draw.nd rfl (Or.inl rfl) (pe_op op_add (pe_op op_mod (pe_callTy call_intR rfl (free_int ev) (by decide +kernel) (pa_cons (pe_ix ix_list (pv 2) (pv 5) (fun _ _ => rfl)) pa_nil)) pe_int) (pe_op op_mul pe_int (pv 4))))
  (pss_cons (ps_set (i := 9) sc__law_draw.nd rfl (Or.inl rfl) (pe_op op_mod (pe_callTy call_intR rfl (free_int ev) (by decide +kernel) (pa_cons (pe_op op_add (pe_op op_add (pe_op op_mul (pv 7) (pv 7)) (pe_op op_mul pe_int (pv 7))) (pv 8)) pa_nil)) pe_int))
  (pss_cons (ps_set (i := 10) sc__law_draw.nd rfl (Or.inl rfl) (pe_op op_add (pe_op op_mul (pe_op op_mod (pe_callTy call_intR rfl (free_int ev) (by decide +kernel) (pa_cons (pv 9) pa_nil)) pe_int) pe_int) (pe_op op_mul (pe_op op_fdivW (pv 9) pe_int) pe_int)))
  (pss_cons (ps_set (i := 11) sc__law_draw.nd rfl (Or.inl rfl) (pe_op op_mod (pe_callTy call_intR rfl (free_int ev) (by decide +kernel) (pa_cons (pe_op op_add (pv 10) (pv 7)) pa_nil)) pe_int))
  (pss_cons (ps_if (pt_cmpR op_le (pv 1) pe_int (nomark _)) (pss_one (ps_ret (pe_op op_mod (pe_callTy call_intR rfl (free_int ev) (by decide +kernel) (pa_cons (pv 11) pa_nil)) (pv 1))))
  pss_nil)
  (pss_one (ps_ret (pe_op op_mod (pe_callTy call_intR rfl (free_int ev) (by decide +kernel) (pa_cons (pe_op op_add (pe_op op_mul (pv 11) pe_int) (pv 9)) pa_nil)) (pv 1)))))))))))))))), ?_⟩)
  · first | (obtain ⟨rfl, _⟩ := h; rfl) | (obtain ⟨_, rfl, _⟩ := h; rfl) | (obtain ⟨_, _, rfl, _⟩ := h; rfl) | (obtain ⟨_, _, _, rfl, _⟩ := h; rfl) | (obtain ⟨_, _, _, _, rfl, _⟩ := h; rfl) | (obtain ⟨_, _, _, _, _, rfl, _⟩ := h; rfl) | (obtain ⟨_, _, _, _, _, _, rfl, _⟩ := h; rfl) | (obtain ⟨_, _, _, _, _, _, _, rfl, _⟩ := h; rfl) | (obtain ⟨_, _, _, _, _, _, _, _, rfl, _⟩ := h; rfl) | (obtain ⟨_, _, _, _, _, _, _, _, _, rfl, _⟩ := h; rfl) | (obtain ⟨_, _, _, _, _, _, _, _, _, _, rfl, _⟩ := h; rfl) | (obtain ⟨_, _, _, _, _, _, _, _, _, _, _, rfl, _⟩ := h; rfl) | (obtain ⟨_, _, _, _, _, _, _, _, _, _, _, _, rfl, _⟩ := h; rfl) | (obtain ⟨_, _, _, _, _, _, _, _, _, _, _, _, _, rfl, _⟩ := h; rfl) | (obtain ⟨_, _, _, _, _, _, _, _, _, _, _, _, _, _, rfl, _⟩ := h; rfl) | (obtain ⟨_, _, _, _, _, _, _, _, _, _, _, _, _, _, _, rfl, _⟩ := h; rfl)
  · obtain ⟨a, ac, ar, m, rfl, hm, hmb, ⟨⟨cs, rs, t, ea, ec, er, hl, hc, hc2, ht⟩, n1, n2, n3⟩, q⟩ := h
    walk_at "wp"
    refine ix_l (SqL.of ea) rfl ?_
    walk_at "wp"
    refine ix_l (SqL.of ea) rfl ?_
    walk_at "wp"
    refine ix_l (SqL.of ea) rfl ?_
    walk_at "wp"
    refine set_l ea rfl ?_
    walk_at "wp"
    have ec1 : (upd H a (.lst [.ref ac, .ref ar, .int (t + 1)])) ac = some (.lst (cs.map V.int)) := by rw [upd_ne n1.symm]; exact ec
    have er1 : (upd H a (.lst [.ref ac, .ref ar, .int (t + 1)])) ar = some (.lst (rs.map V.int)) := by rw [upd_ne n2.symm]; exact er
    refine len_l (SqL.of ec1) ?_
    walk_at "wp"
    refine ⟨by rw [List.length_map]; omega, ?_⟩
    rw [List.length_map]
    generalize hi : t % (cs.length : Int) = i
    have hi0 : 0 ≤ i := by rw [← hi]; exact Int.emod_nonneg _ (by omega)
    have hi1 : i < cs.length := by rw [← hi]; exact Int.emod_lt_of_pos _ (by omega)
    refine ix_l (SqL.of er1) (at_ints hi0 (by omega)) ?_
    walk_at "wp"
    have eh : [V.ref ac, V.ref ar, V.int t].set (Int.toNat 2) (V.int (t + 1)) = [V.ref ac, V.ref ar, V.int (t + 1)] := rfl
    rw [eh]
    have D1 : Dr (upd H a (.lst [.ref ac, .ref ar, .int (t + 1)])) a ac ar := ⟨⟨cs, rs, t + 1, upd_same, ec1, er1, hl, hc, hc2, by omega⟩, n1, n2, n3⟩
    have F1 : My.Fr [a, ar] H (upd H a (.lst [.ref ac, .ref ar, .int (t + 1)])) := (Fr.refl _ _).put (by simp)
    split
    · refine ix_l (SqL.of er1) (at_ints hi0 (by omega)) ?_
      walk_at "wp"
      refine ⟨hm, ix_l (SqL.of er1) (at_ints hi0 (by omega)) ?_⟩
      walk_at "wp"
      refine ⟨wide_div (b := 100) hm (by omega) (by decide) (by decide), set_l er1 (ix_ints hi0 (by omega)) ?_⟩
      walk_at "wp"
      rw [set_ints]
      refine q _ _ (Int.emod_nonneg _ (by omega)) (Int.emod_lt_of_pos _ hm) ⟨⟨cs, _, t + 1, by rw [upd_ne n2]; exact upd_same, by rw [upd_ne n3]; exact ec1, upd_same, by rw [List.length_set]; exact hl, hc, hc2, by omega⟩, n1, n2, n3⟩ (F1.put (by simp))
    · refine ix_l (SqL.of ec1) (at_ints hi0 hi1) ?_
      walk_at "wp"
      generalize cs.getD i.toNat 0 = c
      refine ⟨by decide, .inl ⟨by omega, by omega⟩, by decide, ?_⟩
      generalize hx : (c % 2147483629 + 1000003) * (t + 48271) % 2147483647 = x
      have x0 : 0 ≤ x ∧ x < 2147483647 := by omega
      refine ix_l (SqL.of ec1) (at_ints hi0 hi1) ?_
      walk_at "wp"
      refine ⟨by decide, .inl ⟨by decide, by decide⟩, .inl ⟨by omega, by omega⟩, .inl ⟨by decide, by decide⟩, by decide, ?_⟩
      generalize hy : (x * x + 69697 * x + _) % 2147483587 = y
      have y0 : 0 ≤ y ∧ y < 2147483587 := by omega
      refine ⟨by decide, .inr ⟨by decide, by decide⟩, ⟨by decide, Nat.lt_of_le_of_lt (by decide : _ ≤ 20) (by decide)⟩, .inr ⟨by decide, by decide⟩, by decide, ?_⟩
      generalize hz : (y % 65537 * 40503 + y / 65537 * 30011 + x) % 2147483549 = z
      have z0 : 0 ≤ z ∧ z < 2147483549 := by omega
      split
      · refine ⟨hm, q _ _ (Int.emod_nonneg _ (by omega)) (Int.emod_lt_of_pos _ hm) D1 F1⟩
      · refine ⟨.inr ⟨by decide, by decide⟩, hm, q _ _ (Int.emod_nonneg _ (by omega)) (Int.emod_lt_of_pos _ hm) D1 F1⟩
theorem ok__law_columns (ev : E K mg) : My.Callee P w K mg base CX0 1 d__law_columns ["_law_spec_here"] spCols := by
  obtain ⟨fd, F⟩ := ev.e.c.def_ 23 (d := d__law_columns) rfl
  refine ⟨_, fd, ?_, ev.glo 13, F.kp, F.bindsN fun _ _ _ _ _ _ us hl => match us, hl with | [_], _ => rfl, F⟩
  refine F.ok sc__law_columns (fun vs H Q Ex h => ?_) (fun cdv A outer s H vs Q Ex hr h => ⟨_, PSs.nox
    (pss_one (ps_ret (pe_op op_cat (pe_op op_cat (pe_op op_cat (pe_callTy (r := rListOf K) call_listOf rfl (free_list ev) (by decide +kernel) (pa_cons (pe_ix ix_list (pv 0) pe_int (fun _ _ => rfl)) pa_nil)) (pe_lc (own := [("_law_one", 1)]) (g := (gName 1)) (tt := tYes) rfl sc__law_columns.nd (pi_list (pe_ix ix_list (pv 0) pe_int (fun _ _ => rfl))) (blkOk_by (own := [("_law_one", 1)]) (N := ["_law_spec_here", "_law_one"]) (sc := defScope s__law_columns) (by decide +kernel)) (fun _ _ _ _ _ => (pg_name (i := 1) sc__law_columns.nd rfl (Or.inl rfl))) (fun _ _ _ _ _ => pts_nil) (fun _ _ _ _ _ => (pe_ix (r := rIxT K) ix_tup (pv 1) pe_int (fun _ _ => rfl))))) (pe_callTy (r := rListOf K) call_listOf rfl (free_list ev) (by decide +kernel) (pa_cons (pe_ix ix_list (pv 0) pe_int (fun _ _ => rfl)) pa_nil))) (pe_callTy (r := rListOf K) call_listOf rfl (free_list ev) (by decide +kernel) (pa_cons (pe_ix ix_list (pv 0) pe_int (fun _ _ => rfl)) pa_nil))))), ?_⟩)
  · first | (obtain ⟨rfl, _⟩ := h; rfl) | (obtain ⟨_, rfl, _⟩ := h; rfl) | (obtain ⟨_, _, rfl, _⟩ := h; rfl) | (obtain ⟨_, _, _, rfl, _⟩ := h; rfl) | (obtain ⟨_, _, _, _, rfl, _⟩ := h; rfl) | (obtain ⟨_, _, _, _, _, rfl, _⟩ := h; rfl) | (obtain ⟨_, _, _, _, _, _, rfl, _⟩ := h; rfl) | (obtain ⟨_, _, _, _, _, _, _, rfl, _⟩ := h; rfl) | (obtain ⟨_, _, _, _, _, _, _, _, rfl, _⟩ := h; rfl) | (obtain ⟨_, _, _, _, _, _, _, _, _, rfl, _⟩ := h; rfl) | (obtain ⟨_, _, _, _, _, _, _, _, _, _, rfl, _⟩ := h; rfl) | (obtain ⟨_, _, _, _, _, _, _, _, _, _, _, rfl, _⟩ := h; rfl) | (obtain ⟨_, _, _, _, _, _, _, _, _, _, _, _, rfl, _⟩ := h; rfl) | (obtain ⟨_, _, _, _, _, _, _, _, _, _, _, _, _, rfl, _⟩ := h; rfl) | (obtain ⟨_, _, _, _, _, _, _, _, _, _, _, _, _, _, rfl, _⟩ := h; rfl) | (obtain ⟨_, _, _, _, _, _, _, _, _, _, _, _, _, _, _, rfl, _⟩ := h; rfl)
  · obtain ⟨S, r, l, P, V', M, rfl, ⟨ls, lp, lv, lm, us, X⟩, Z, q⟩ := h
    obtain ⟨z1, z2, z3, z4⟩ := Z
    have lc := cols_len l P V' M
    walk_at "wp"
    refine ix_l (SqL.of X.er) (v := .ref lp) rfl ?_
    walk_at "wp"
    refine listQ (.inl (SqL.of X.ep)) fun q1 H1 h1 e1 F1 => ?_
    have X1 := X.f0 F1
    walk_at "wp"
    refine ix_l (SqL.of X1.er) (v := .ref ls) rfl ?_
    refine lc_rt (fun s => .str s.k) X1.es X1.rw (by omega) (fun p => rfl) (fun s p H' Q' e k => ?_) fun q2 H2 h2 e2 F2 => ?_
    · walk_at "wp"
      exact ix_t (SqT.of e) rfl k
    have X2 := X1.f0 F2
    walk_at "wp"
    refine catQ (F2.1 _ _ (by simp) e1) e2 rfl (by simp only [List.length_map, List.length_append]; omega) fun q3 H3 h3 e3 F3 => ?_
    have X3 := X2.f0 F3
    walk_at "wp"
    refine ix_l (SqL.of X3.er) (v := .ref lv) rfl ?_
    walk_at "wp"
    refine listQ (.inl (SqL.of X3.ev)) fun q4 H4 h4 e4 F4 => ?_
    have X4 := X3.f0 F4
    walk_at "wp"
    refine catQ (F4.1 _ _ (by simp) e3) e4 rfl (by simp only [List.length_map, List.length_append]; omega) fun q5 H5 h5 e5 F5 => ?_
    have X5 := X4.f0 F5
    walk_at "wp"
    refine ix_l (SqL.of X5.er) (v := .ref lm) rfl ?_
    walk_at "wp"
    refine listQ (.inl (SqL.of X5.em)) fun q6 H6 h6 e6 F6 => ?_
    walk_at "wp"
    have F := ((((F1.trans F2).trans F3).trans F4).trans F5).trans F6
    refine catQ (F6.1 _ _ (by simp) e5) e6 (zs := (cols l P V' M).map V.str) (by unfold cols; simp [Function.comp_def]) (by simp only [List.length_map]; omega) fun q7 H7 h7 e7 F7 => ?_
    exact q q7 H7 (F.2 _ h7) e7 (F.trans F7)
theorem ok__law_four (ev : E K mg) : My.CalleeG P w K mg base CX0 1 d__law_four ["_law_found"] (spFour K) := by
  obtain ⟨fd, F⟩ := ev.e.c.def_ 25 (d := d__law_four) rfl
  refine ⟨_, fd, ?_, ev.glo 15, F.kp, F.bindsN fun _ _ _ _ _ _ us hl => match us, hl with | [_], _ => rfl⟩
  refine okG F sc__law_four (fun vs H Q Ex h => ?_) (fun cdv A outer s H vs Q Ex hgd hr h => ⟨_, PSs.nox
    (pss_one (ps_ret (pe_callB (r := rRepr K) (call_reprG hgd hr.units) rfl (free_repr ev) (by decide +kernel) (pa_cons (pe_tup (pa_cons (pe_fld (pv 0) rfl) (pa_cons (pe_fld (pv 0) rfl) (pa_cons (pe_fld (pv 0) rfl) (pa_cons (pe_fld (pv 0) rfl) pa_nil))))) pa_nil)))), ?_⟩)
  · first | (obtain ⟨rfl, _⟩ := h; rfl) | (obtain ⟨_, rfl, _⟩ := h; rfl) | (obtain ⟨_, _, rfl, _⟩ := h; rfl) | (obtain ⟨_, _, _, rfl, _⟩ := h; rfl) | (obtain ⟨_, _, _, _, rfl, _⟩ := h; rfl) | (obtain ⟨_, _, _, _, _, rfl, _⟩ := h; rfl) | (obtain ⟨_, _, _, _, _, _, rfl, _⟩ := h; rfl) | (obtain ⟨_, _, _, _, _, _, _, rfl, _⟩ := h; rfl) | (obtain ⟨_, _, _, _, _, _, _, _, rfl, _⟩ := h; rfl) | (obtain ⟨_, _, _, _, _, _, _, _, _, rfl, _⟩ := h; rfl) | (obtain ⟨_, _, _, _, _, _, _, _, _, _, rfl, _⟩ := h; rfl) | (obtain ⟨_, _, _, _, _, _, _, _, _, _, _, rfl, _⟩ := h; rfl) | (obtain ⟨_, _, _, _, _, _, _, _, _, _, _, _, rfl, _⟩ := h; rfl) | (obtain ⟨_, _, _, _, _, _, _, _, _, _, _, _, _, rfl, _⟩ := h; rfl) | (obtain ⟨_, _, _, _, _, _, _, _, _, _, _, _, _, _, rfl, _⟩ := h; rfl) | (obtain ⟨_, _, _, _, _, _, _, _, _, _, _, _, _, _, _, rfl, _⟩ := h; rfl)
  · obtain ⟨p, s, rfl, ⟨dx, e⟩, G, q⟩ := h
    obtain ⟨s1, s2, s3, s4⟩ := four_shw G
    walk_at "wp"
    refine fld_Sort_name ev e (v := .str s.n) rfl ?_
    walk_at "wp"
    refine fld_Sort_key ev e (v := .str s.k) rfl ?_
    walk_at "wp"
    refine fld_Sort_part ev e (v := oS s.pa) rfl ?_
    walk_at "wp"
    refine fld_Sort_descending ev e (v := .bl s.de) rfl ?_
    walk_at "wp"
    refine newtQ (by show 4 ≤ 1000; decide) fun t H1 ht et F1 => ?_
    exact repr_l (d := fourD s) (dp_row (SqT.of et)) s1 s2 s3 s4 (q H1 F1)
-- no promise yet: Scheme.check_columns
theorem ok__law_name (ev : E K mg) : My.Callee P w K mg base CX0 2 d__law_name ["_law_draws", "_law_taken"] spNm := by
  obtain ⟨fd, F⟩ := ev.e.c.def_ 17 (d := d__law_name) rfl
  refine ⟨_, fd, ?_, ev.glo 7, F.kp, F.bindsN fun _ _ _ _ _ _ us hl => match us, hl with | [_, _], _ => rfl, F⟩
  refine F.ok sc__law_name (fun vs H Q Ex h => ?_) (fun cdv A outer s H vs Q Ex hr h => ⟨_, PSs.nox
    (pss_cons (ps_set (i := 2) sc__law_name.nd rfl (Or.inr rfl) pe_str)
  (pss_cons (ps_set (i := 3) sc__law_name.nd rfl (Or.inl rfl) (pe_lst (pa_cons pe_str (pa_cons pe_str (pa_cons pe_str (pa_cons pe_str (pa_cons pe_str (pa_cons pe_str (pa_cons pe_str (pa_cons pe_str (pa_cons pe_str (pa_cons pe_str (pa_cons pe_str (pa_cons pe_str pa_nil))))))))))))))
  (pss_cons (ps_setLc (i := 4) (own := [("_law_k", 8)]) (g := (gName 8)) (tt := tYes) rfl sc__law_name.nd rfl rfl (sw_true rfl rfl rfl (by decide +kernel)) (pi_range1 rfl (free_range ev) (pa_cons (pe_op op_add pe_int (pe_fn (ok__law_draw ev) (hr.mono (by decide)) rfl (pa_cons (pv 0) (pa_cons pe_int pa_nil)))) pa_nil)) (blkOk_by (own := [("_law_k", 8)]) (N := ["_law_draws", "_law_taken", "_law_letters", "_law_words", "_law_spots", "_law_step", "_law_last", "_law_word", "_law_k", "_law_spot"]) (sc := defScope s__law_name) (by decide +kernel)) (fun _ _ _ _ _ => (pg_name (i := 8) sc__law_name.nd rfl (Or.inl rfl))) (fun _ _ _ _ _ => pts_nil) (fun _ _ _ _ _ => (pe_fn (ok__law_draw ev) (hr.mono (by decide)) rfl (pa_cons (pv 0) (pa_cons pe_int pa_nil)))))
  (pss_cons (ps_for PassesOwn.never rfl (pi_range1 rfl (free_range ev) (pa_cons pe_int pa_nil)) (pg_name (i := 5) sc__law_name.nd rfl (Or.inl rfl))
  (pss_cons (ps_set (i := 6) sc__law_name.nd rfl (Or.inl rfl) (pe_ix ix_str (pv 2) (pe_op op_mod (pe_callTy call_intR rfl (free_int ev) (by decide +kernel) (pa_cons (pe_op op_add (pe_ix ix_list (pv 4) (pe_un un_neg pe_int) (fun _ _ => rfl)) (pv 5)) pa_nil)) pe_int) (fun _ _ => rfl)))
  (pss_cons (ps_set (i := 7) sc__law_name.nd rfl (Or.inl rfl) (pe_bm PySem.F.plainAttrs_str PySem.F.slot_str_join PySem.F.type_str_join (r := rJoin K) mt_joinK pe_str (pa_cons (pe_op op_cat (pe_lc (own := [("_law_spot", 9)]) (g := (gName 9)) (tt := tYes) rfl sc__law_name.nd (pi_list (pe_slice sl_list (pv 4) po_none (po_some (pe_un un_neg pe_int)))) (blkOk_by (own := [("_law_spot", 9)]) (N := ["_law_draws", "_law_taken", "_law_letters", "_law_words", "_law_spots", "_law_step", "_law_last", "_law_word", "_law_k", "_law_spot"]) (sc := defScope s__law_name) (by decide +kernel)) (fun _ _ _ _ _ => (pg_name (i := 9) sc__law_name.nd rfl (Or.inl rfl))) (fun _ _ _ _ _ => pts_nil) (fun _ _ _ _ _ => (pe_ix ix_str (pv 2) (pv 9) (fun _ _ => rfl)))) (pe_lst (pa_cons (pv 6) pa_nil))) pa_nil)))
  (pss_one (ps_if (PW.pt (pw_and (pt_cmpR op_notIn_seq (pv 7) (pv 3) (by rfl)) (pw_and1 (pt_cmpR op_notIn_seq (pv 7) (pv 1) (by rfl))))) (pss_one (ps_ret (pv 7)))
  pss_nil)))))
  (pss_one (ps_ret pe_str)))))), ?_⟩)
  · first | (obtain ⟨rfl, _⟩ := h; rfl) | (obtain ⟨_, rfl, _⟩ := h; rfl) | (obtain ⟨_, _, rfl, _⟩ := h; rfl) | (obtain ⟨_, _, _, rfl, _⟩ := h; rfl) | (obtain ⟨_, _, _, _, rfl, _⟩ := h; rfl) | (obtain ⟨_, _, _, _, _, rfl, _⟩ := h; rfl) | (obtain ⟨_, _, _, _, _, _, rfl, _⟩ := h; rfl) | (obtain ⟨_, _, _, _, _, _, _, rfl, _⟩ := h; rfl) | (obtain ⟨_, _, _, _, _, _, _, _, rfl, _⟩ := h; rfl) | (obtain ⟨_, _, _, _, _, _, _, _, _, rfl, _⟩ := h; rfl) | (obtain ⟨_, _, _, _, _, _, _, _, _, _, rfl, _⟩ := h; rfl) | (obtain ⟨_, _, _, _, _, _, _, _, _, _, _, rfl, _⟩ := h; rfl) | (obtain ⟨_, _, _, _, _, _, _, _, _, _, _, _, rfl, _⟩ := h; rfl) | (obtain ⟨_, _, _, _, _, _, _, _, _, _, _, _, _, rfl, _⟩ := h; rfl) | (obtain ⟨_, _, _, _, _, _, _, _, _, _, _, _, _, _, rfl, _⟩ := h; rfl) | (obtain ⟨_, _, _, _, _, _, _, _, _, _, _, _, _, _, _, rfl, _⟩ := h; rfl)
  · obtain ⟨a, ac, ar, t, ts, rfl, D, et, nt, lt, q⟩ := h
    walk_at "wp"
    refine new_l (by show 12 ≤ sizeLine; decide) fun p hp => ?_
    have F1 := Fr.new (S := []) (o := .lst (kept.map V.str)) hp
    have np := D.free hp
    have D1 := D.new (o := .lst (kept.map V.str)) hp
    have ep : (upd H p (.lst (kept.map V.str))) p = some (.lst (kept.map V.str)) := upd_same
    have eg : upd H p (.lst (kept.map V.str)) = upd H p (.lst [V.str "rows", V.str "groups", V.str "keys", V.str "self", V.str "ties", V.str "group", V.str "all", V.str "none", V.str "sum", V.str "count", V.str "by", V.str "not"]) := rfl
    rw [← eg]
    generalize upd H p (.lst (kept.map V.str)) = H1 at F1 D1 ep ⊢
    walk_at "wp"
    refine ⟨a, ac, ar, _, rfl, by decide, by decide, D1, fun m H2 m0 m1 D2 F2 => ?_⟩
    walk_at "wp"
    refine lc_r1 (S := [a, ar]) (fun H => Dr H a ac ar) (fun x o _ => ∃ v : Int, o = some (.int v) ∧ 0 ≤ v ∧ v < 26) (by omega) D2.dom ⟨D2, fun H' p o hp e => D2.put_free hp e, fun _ _ _ _ _ r => r, fun _ _ _ _ _ _ _ r => r, fun x H3 hx F3 e Qn kq => ?_⟩ fun l ys H3 hl el kk F3 D3 => ?_
    · walk_at "wp"
      refine ⟨a, ac, ar, _, rfl, by decide, by decide, e, fun v H4 v0 v1 D4 F4 => ?_⟩
      exact kq (some (.int v)) H4 ⟨v, rfl, v0, v1⟩ F4 D4
    obtain ⟨ns, rfl, hns, hall⟩ := kept_ints (p := fun v : Int => 0 ≤ v ∧ v < 26) (fun x o r => r) kk
    rw [rngV_len] at hns
    obtain ⟨ms, y, rfl⟩ : ∃ ms y, ns = ms ++ [y] := ⟨ns.dropLast, ns.getLast (fun z => by rw [z] at hns; simp at hns; omega), (List.dropLast_concat_getLast _).symm⟩
    have y2 := hall y (by simp)
    have m2 : ∀ v ∈ ms, 0 ≤ v ∧ v < 26 := fun v hv => hall v (by simp [hv])
    have lm : ms.length < 8 := by rw [List.length_append] at hns; simp at hns; omega
    have F03 : My.Fr [a, ar] H H3 := ((F1.mono (by simp)).trans F2).trans F3
    have et3 : H3 t = some (.lst (ts.map V.str)) := F03.1 _ _ nt et
    have ep3 : H3 p = some (.lst (kept.map V.str)) := (F2.trans F3).1 _ _ np ep
    clear kk hall
    walk_at "wp"
    refine for_r1 (by decide) (INm a t p l H3 (ms.map ltN) y ts) (by decide) ⟨⟨_, _, _, rfl⟩, Fr.refl _ _, fun j hj => absurd hj (Nat.not_lt_zero _)⟩ ?_ ?_
    · rintro i σ H4 hi ⟨⟨v5, v6, v7, rfl⟩, F4, hj⟩
      have D4 := D3.f0 F4
      have el4 := F4.1 _ _ (by simp) el
      have et4 := F4.1 _ _ (by simp) et3
      have ep4 := F4.1 _ _ (by simp) ep3
      walk_at "wp"
      refine ix_l (SqL.of el4) (v := .int y) (at_end _ _ _) ?_
      walk_at "wp"
      refine ⟨by decide, ?_⟩
      have z0 : 0 ≤ (y + (i : Int)) % 26 := Int.emod_nonneg _ (by decide)
      have z1 : (y + (i : Int)) % 26 < 26 := Int.emod_lt_of_pos _ (by decide)
      refine ixS_l (by decide) (let_at z0 z1) ?_
      walk_at "wp"
      refine ⟨by simp [tyV], sl_l (SqL.of el4) fun q1 hq1 => ?_⟩
      have F5 := F4.trans (Fr.new (S := []) (o := .lst (cutV ((ms ++ [y]).map V.int) none (some (-1)))) hq1)
      rw [cut_end] at F5 ⊢
      have eq1 : (upd H4 q1 (.lst (ms.map V.int))) q1 = some (.lst (ms.map V.int)) := upd_same
      generalize upd H4 q1 (.lst (ms.map V.int)) = H5 at F5 eq1 ⊢
      refine lc_l (S := []) (fun _ => True) (fun x y _ => y = some (ltV x)) (SqL.of eq1) (by simp) (by rw [List.length_map]; omega) (by simp) (lc_pure (fun x hx => ?_) fun x hx H' Q' k => ?_) fun q2 ys H6 hq2 eq2 k F6 _ => ?_
      · obtain ⟨v, _, rfl⟩ := List.mem_map.mp hx; rfl
      · obtain ⟨v, hv, rfl⟩ := List.mem_map.mp hx
        walk_at "wp"
        refine ixS_l (by decide) (let_at (m2 v hv).1 (m2 v hv).2) ?_
        exact k
      obtain rfl := kept_pure k
      have F56 := F5.trans F6
      walk_at "wp"
      refine new_l (by show 1 ≤ sizeLine; decide) fun q3 hq3 => ?_
      have eq3 : (upd H6 q3 (.lst [V.str ⟨#[97 + ((y + (i : Int)) % 26).toNat]⟩])) q3 = some (.lst [V.str ⟨#[97 + ((y + (i : Int)) % 26).toNat]⟩]) := upd_same
      have F7 := F56.trans (Fr.new (S := []) (o := .lst [V.str ⟨#[97 + ((y + (i : Int)) % 26).toNat]⟩]) hq3)
      have eq27 := (Fr.new (S := []) (o := .lst [V.str ⟨#[97 + ((y + (i : Int)) % 26).toNat]⟩]) hq3).1 _ _ (by simp) eq2
      generalize upd H6 q3 (.lst [V.str ⟨#[97 + ((y + (i : Int)) % 26).toNat]⟩]) = H7 at F7 eq3 eq27 ⊢
      refine cat_l eq27 eq3 (by have : (50 : Nat) ≤ sizeLine := by decide
                                simp only [List.length_map, List.length_cons, List.length_nil]; omega) fun q4 hq4 => ?_
      have F8 := F7.trans (Fr.new (S := []) (o := .lst (((ms.map V.int).map ltV) ++ [V.str ⟨#[97 + ((y + (i : Int)) % 26).toNat]⟩])) hq4)
      have eq4 : (upd H7 q4 (.lst (((ms.map V.int).map ltV) ++ [V.str ⟨#[97 + ((y + (i : Int)) % 26).toNat]⟩]))) q4 = some (.lst ((((ms.map ltN) ++ [97 + ((y + (i : Int)) % 26).toNat]).map fun c => (⟨#[c]⟩ : Str)).map V.str)) := by
        rw [upd_same]
        congr 2
        simp [ltV, ltN]
      generalize upd H7 q4 (.lst (((ms.map V.int).map ltV) ++ [V.str ⟨#[97 + ((y + (i : Int)) % 26).toNat]⟩])) = H8 at F8 eq4 ⊢
      walk_at "wp"
      refine join_l (.inl (SqL.of eq4)) (jn_len _) ?_
      have ew : Txt.join "" (((ms.map ltN) ++ [97 + ((y + (i : Int)) % 26).toNat]).map fun c => (⟨#[c]⟩ : Str)) = cand (ms.map ltN) y i := by
        refine str_ext ?_
        rw [cl_join, cl_cand]
      rw [ew]
      walk_at "wp"
      have ep8 := F8.1 _ _ (by simp) ep3
      have et8 := F8.1 _ _ (by simp) et3
      refine notIn_l (.inl (SqL.of ep8)) rfl flat_strs ?_
      rw [inV_str]
      walk_at "wp"
      by_cases hk : cand (ms.map ltN) y i ∈ kept
      · rw [if_neg (fun z => z hk)]
        walk_at "wp"
        refine ⟨⟨_, _, _, rfl⟩, F8, fun j h => ?_⟩
        by_cases e : j = i
        · exact .inl (e ▸ hk)
        · exact hj j (by omega)
      · rw [if_pos hk]
        walk_at "wp"
        refine notIn_l (.inl (SqL.of et8)) rfl flat_strs ?_
        rw [inV_str]
        walk_at "wp"
        by_cases ht : cand (ms.map ltN) y i ∈ ts
        · rw [if_neg (fun z => z ht)]
          walk_at "wp"
          refine ⟨⟨_, _, _, rfl⟩, F8, fun j h => ?_⟩
          by_cases e : j = i
          · exact .inr (e ▸ ht)
          · exact hj j (by omega)
        · rw [if_pos ht]
          walk_at "wp"
          refine q _ _ (cand_good (by rw [List.length_map]; omega) (fun c hc => ?_) hk) ht (D3.f0 F8) (F03.trans (F8.mono (by simp)))
          obtain ⟨v, hv, rfl⟩ := List.mem_map.mp hc
          have := m2 v hv
          unfold ltN
          omega
    · rintro σ H4 ⟨-, -, hj⟩
      exact absurd (fun j (h : j < 26) => hj j h) (cand_out lt)
theorem ok__law_told (ev : E K mg) : My.CalleeG P w K mg base CX0 2 d__law_told ["_law_scheme"] (spTold K) := by
  obtain ⟨fd, F⟩ := ev.e.c.def_ 22 (d := d__law_told) rfl
  refine ⟨_, fd, ?_, ev.glo 12, F.kp, F.bindsN fun _ _ _ _ _ _ us hl => match us, hl with | [_], _ => rfl⟩
  refine okG F sc__law_told (fun vs H Q Ex h => ?_) (fun cdv A outer s H vs Q Ex hgd hr h => ⟨_, PSs.nox
    (pss_cons (ps_set (i := 1) sc__law_told.nd rfl (Or.inl rfl) (pe_lst (pa_cons (pe_me0 (ok_Scheme_columns ev) (pv 0) (hr.mono (by decide))) (pa_cons (pe_me0 (ok_Scheme_sort_names ev) (pv 0) (hr.mono (by decide))) pa_nil))))
  (pss_one (ps_ret (pe_callB (r := rRepr K) (call_reprG hgd hr.units) rfl (free_repr ev) (by decide +kernel) (pa_cons (pe_op op_cat (pv 1) (pe_lst (pa_cons (pe_fld (pv 0) rfl) (pa_cons (pe_fld (pv 0) rfl) (pa_cons (pe_fld (pv 0) rfl) pa_nil))))) pa_nil))))), ?_⟩)
  · first | (obtain ⟨rfl, _⟩ := h; rfl) | (obtain ⟨_, rfl, _⟩ := h; rfl) | (obtain ⟨_, _, rfl, _⟩ := h; rfl) | (obtain ⟨_, _, _, rfl, _⟩ := h; rfl) | (obtain ⟨_, _, _, _, rfl, _⟩ := h; rfl) | (obtain ⟨_, _, _, _, _, rfl, _⟩ := h; rfl) | (obtain ⟨_, _, _, _, _, _, rfl, _⟩ := h; rfl) | (obtain ⟨_, _, _, _, _, _, _, rfl, _⟩ := h; rfl) | (obtain ⟨_, _, _, _, _, _, _, _, rfl, _⟩ := h; rfl) | (obtain ⟨_, _, _, _, _, _, _, _, _, rfl, _⟩ := h; rfl) | (obtain ⟨_, _, _, _, _, _, _, _, _, _, rfl, _⟩ := h; rfl) | (obtain ⟨_, _, _, _, _, _, _, _, _, _, _, rfl, _⟩ := h; rfl) | (obtain ⟨_, _, _, _, _, _, _, _, _, _, _, _, rfl, _⟩ := h; rfl) | (obtain ⟨_, _, _, _, _, _, _, _, _, _, _, _, _, rfl, _⟩ := h; rfl) | (obtain ⟨_, _, _, _, _, _, _, _, _, _, _, _, _, _, rfl, _⟩ := h; rfl) | (obtain ⟨_, _, _, _, _, _, _, _, _, _, _, _, _, _, _, rfl, _⟩ := h; rfl)
  · obtain ⟨r, l, P, V', M, rfl, I, G, q⟩ := h
    obtain ⟨z1, z2, z3, z4⟩ := G.sz
    have lc := cols_len l P V' M
    obtain ⟨s1, s2, s3, s4⟩ := told_shw G
    have I0 := I
    obtain ⟨dx, ts, tp, tv, tm, vs, h1, h2, h3, h4, h5, h6⟩ := I0
    walk_at "wp"
    refine meth_l h1 rfl ?_
    walk_at "wp"
    refine ⟨r, l, P, V', M, rfl, I, by omega, by omega, by omega, by omega, fun c H1 _ ec F1 => ?_⟩
    walk_at "wp"
    refine meth_l (F1.1 _ _ (by simp) h1) rfl ?_
    walk_at "wp"
    refine ⟨r, l, P, V', M, rfl, I.fr F1, by omega, fun n H2 _ en F2 => ?_⟩
    walk_at "wp"
    refine newQ (by show 2 ≤ 1000; decide) fun k H3 h3' e3 F3 => ?_
    walk_at "wp"
    have F := (F1.trans F2).trans F3
    have g1 := F.1 _ _ (by simp) h1
    refine fld_Scheme_part_columns ev g1 rfl ?_
    walk_at "wp"
    refine fld_Scheme_value_columns ev g1 rfl ?_
    walk_at "wp"
    refine fld_Scheme_mark_columns ev g1 rfl ?_
    walk_at "wp"
    refine newQ (by show 3 ≤ 1000; decide) fun k2 H4 h4' e4 F4 => ?_
    refine catQ (F4.1 _ _ (by simp) e3) e4 rfl (by show 5 ≤ 1000; decide) fun k3 H5 h5' e5 F5 => ?_
    have F35 := F4.trans F5
    have F05 := F.trans F35
    walk_at "wp"
    refine repr_l (d := tolD l P V' M) (.lst (SqL.of e5) (.cons (.lst (SqL.of (((F2.trans F3).trans F35).1 _ _ (by simp) ec)) (dp_ss _)) (.cons (.lst (SqL.of ((F3.trans F35).1 _ _ (by simp) en)) (dp_ss _)) (.cons (.tup (F05.t (by simp) h4) (dp_ss _)) (.cons (.tup (F05.t (by simp) h5) (dp_ss _)) (.cons (.tup (F05.t (by simp) h6) (dp_ss _)) .nil)))))) s1 s2 s3 s4 ?_
    exact q H5 F05
theorem ok__law_due (ev : E K mg) : My.CalleeG P w K mg base CX0 2 d__law_due ["_law_spec_here"] spDue := by
  obtain ⟨fd, F⟩ := ev.e.c.def_ 24 (d := d__law_due) rfl
  refine ⟨_, fd, ?_, ev.glo 14, F.kp, F.bindsN fun _ _ _ _ _ _ us hl => match us, hl with | [_], _ => rfl⟩
  refine okG F sc__law_due (fun vs H Q Ex h => ?_) (fun cdv A outer s H vs Q Ex hgd hr h => ⟨_, PSs.nox
    (pss_cons (ps_set (i := 1) sc__law_due.nd rfl (Or.inl rfl) (pe_lst (pa_cons (pe_fn (ok__law_columns ev) (hr.mono (by decide)) rfl (pa_cons (pv 0) pa_nil)) (pa_cons (pe_lc (own := [("_law_one", 2)]) (g := (gName 2)) (tt := tYes) rfl sc__law_due.nd (pi_list (pe_ix ix_list (pv 0) pe_int (fun _ _ => rfl))) (blkOk_by (own := [("_law_one", 2)]) (N := ["_law_spec_here", "_law_told_here", "_law_one"]) (sc := defScope s__law_due) (by decide +kernel)) (fun _ _ _ _ _ => (pg_name (i := 2) sc__law_due.nd rfl (Or.inl rfl))) (fun _ _ _ _ _ => pts_nil) (fun _ _ _ _ _ => (pe_ix (r := rIxT K) ix_tup (pv 2) pe_int (fun _ _ => rfl)))) pa_nil))))
  (pss_one (ps_ret (pe_callB (r := rRepr K) (call_reprG hgd hr.units) rfl (free_repr ev) (by decide +kernel) (pa_cons (pe_op op_cat (pv 1) (pe_lst (pa_cons (pe_callTy (r := rTupOf K) call_tupOf rfl (free_tuple ev) (by decide +kernel) (pa_cons (pe_ix ix_list (pv 0) pe_int (fun _ _ => rfl)) pa_nil)) (pa_cons (pe_callTy (r := rTupOf K) call_tupOf rfl (free_tuple ev) (by decide +kernel) (pa_cons (pe_ix ix_list (pv 0) pe_int (fun _ _ => rfl)) pa_nil)) (pa_cons (pe_callTy (r := rTupOf K) call_tupOf rfl (free_tuple ev) (by decide +kernel) (pa_cons (pe_ix ix_list (pv 0) pe_int (fun _ _ => rfl)) pa_nil)) pa_nil))))) pa_nil))))), ?_⟩)
  · first | (obtain ⟨rfl, _⟩ := h; rfl) | (obtain ⟨_, rfl, _⟩ := h; rfl) | (obtain ⟨_, _, rfl, _⟩ := h; rfl) | (obtain ⟨_, _, _, rfl, _⟩ := h; rfl) | (obtain ⟨_, _, _, _, rfl, _⟩ := h; rfl) | (obtain ⟨_, _, _, _, _, rfl, _⟩ := h; rfl) | (obtain ⟨_, _, _, _, _, _, rfl, _⟩ := h; rfl) | (obtain ⟨_, _, _, _, _, _, _, rfl, _⟩ := h; rfl) | (obtain ⟨_, _, _, _, _, _, _, _, rfl, _⟩ := h; rfl) | (obtain ⟨_, _, _, _, _, _, _, _, _, rfl, _⟩ := h; rfl) | (obtain ⟨_, _, _, _, _, _, _, _, _, _, rfl, _⟩ := h; rfl) | (obtain ⟨_, _, _, _, _, _, _, _, _, _, _, rfl, _⟩ := h; rfl) | (obtain ⟨_, _, _, _, _, _, _, _, _, _, _, _, rfl, _⟩ := h; rfl) | (obtain ⟨_, _, _, _, _, _, _, _, _, _, _, _, _, rfl, _⟩ := h; rfl) | (obtain ⟨_, _, _, _, _, _, _, _, _, _, _, _, _, _, rfl, _⟩ := h; rfl) | (obtain ⟨_, _, _, _, _, _, _, _, _, _, _, _, _, _, _, rfl, _⟩ := h; rfl)
  · obtain ⟨S, r, l, P, V', M, rfl, Y, G, q⟩ := h
    have Z := G.sz
    obtain ⟨z1, z2, z3, z4⟩ := G.sz
    obtain ⟨s1, s2, s3, s4⟩ := told_shw G
    walk_at "wp"
    refine ⟨S, r, l, P, V', M, rfl, Y, Z, fun c H1 hc ec F1 => ?_⟩
    obtain ⟨ls, lp, lv, lm, us, X⟩ := Y.f0 F1
    walk_at "wp"
    refine ix_l (SqL.of X.er) (v := .ref ls) rfl ?_
    walk_at "wp"
    refine lc_rt (fun s => .str s.n) X.es X.rw (by omega) (fun p => rfl) (fun s p H' Q' e k => ?_) fun n H2 hn en F2 => ?_
    · walk_at "wp"
      exact ix_t (SqT.of e) rfl k
    have X2 := X.f0 F2
    walk_at "wp"
    refine newQ (by show 2 ≤ 1000; decide) fun k H3 h3 e3 F3 => ?_
    have X3 := X2.f0 F3
    walk_at "wp"
    refine ix_l (SqL.of X3.er) (v := .ref lp) rfl ?_
    walk_at "wp"
    refine tupQ (.inl (SqL.of X3.ep)) fun tp H4 etp F4 => ?_
    have X4 := X3.f0 F4
    walk_at "wp"
    refine ix_l (SqL.of X4.er) (v := .ref lv) rfl ?_
    walk_at "wp"
    refine tupQ (.inl (SqL.of X4.ev)) fun tv H5 etv F5 => ?_
    have X5 := X4.f0 F5
    walk_at "wp"
    refine ix_l (SqL.of X5.er) (v := .ref lm) rfl ?_
    walk_at "wp"
    refine tupQ (.inl (SqL.of X5.em)) fun tm H6 etm F6 => ?_
    walk_at "wp"
    refine newQ (by show 3 ≤ 1000; decide) fun k2 H7 h7 e7 F7 => ?_
    have F47 := (F5.trans F6).trans F7
    have F37 := F4.trans F47
    refine catQ (F37.1 _ _ (by simp) e3) e7 rfl (by show 5 ≤ 1000; decide) fun k3 H8 h8 e8 F8 => ?_
    have F38 := F37.trans F8
    walk_at "wp"
    refine repr_l (d := tolD l P V' M) (.lst (SqL.of e8) (.cons (.lst (SqL.of (((F2.trans F3).trans F38).1 _ _ (by simp) ec)) (dp_ss _)) (.cons (.lst (SqL.of (by rw [List.map_map]; exact (F3.trans F38).1 _ _ (by simp) en)) (dp_ss _)) (.cons (.tup ((F47.trans F8).t (by simp) etp) (dp_ss _)) (.cons (.tup (((F6.trans F7).trans F8).t (by simp) etv) (dp_ss _)) (.cons (.tup ((F7.trans F8).t (by simp) etm) (dp_ss _)) .nil)))))) s1 s2 s3 s4 ?_
    exact q H8 ((((F1.trans F2).trans F3).trans F38))
theorem ok__law_called (ev : E K mg) : My.Callee P w K mg base CX0 2 d__law_called ["_law_draws", "_law_spec_here"] spCalled := by
  obtain ⟨fd, F⟩ := ev.e.c.def_ 28 (d := d__law_called) rfl
  refine ⟨_, fd, ?_, ev.glo 18, F.kp, F.bindsN fun _ _ _ _ _ _ us hl => match us, hl with | [_, _], _ => rfl, F⟩
  refine F.ok sc__law_called (fun vs H Q Ex h => ?_) (fun cdv A outer s H vs Q Ex hr h => ⟨_, PSs.nox
    (pss_cons (ps_set (i := 3) sc__law_called.nd rfl (Or.inr rfl) (pe_lc (own := [("_law_one", 2)]) (g := (gName 2)) (tt := tYes) rfl sc__law_called.nd (pi_list (pe_ix ix_list (pv 1) pe_int (fun _ _ => rfl))) (blkOk_by (own := [("_law_one", 2)]) (N := ["_law_draws", "_law_spec_here", "_law_one", "_law_names_here", "_law_free", "_law_at", "_law_word"]) (sc := defScope s__law_called) (by decide +kernel)) (fun _ _ _ _ _ => (pg_name (i := 2) sc__law_called.nd rfl (Or.inl rfl))) (fun _ _ _ _ _ => pts_nil) (fun _ _ _ _ _ => (pe_ix (r := rIxT K) ix_tup (pv 2) pe_int (fun _ _ => rfl)))))
  (pss_cons (ps_setLc (i := 4) (own := [("_law_word", 6)]) (g := (gName 6)) rfl sc__law_called.nd rfl rfl (sw_true rfl rfl rfl (by decide +kernel)) (pi_list (pe_fn (ok__law_columns ev) (hr.mono (by decide)) rfl (pa_cons (pv 1) pa_nil))) (blkOk_by (own := [("_law_word", 6)]) (N := ["_law_draws", "_law_spec_here", "_law_one", "_law_names_here", "_law_free", "_law_at", "_law_word"]) (sc := defScope s__law_called) (by decide +kernel)) (fun _ _ _ _ _ => (pg_name (i := 6) sc__law_called.nd rfl (Or.inl rfl))) (fun _ _ _ _ _ => (pts_one (pt_cmpR (show OpR _ _ (rIn K true) from op_notIn_seq) (pv 6) (pv 3) (by rfl)))) (fun _ _ _ _ _ => (pv 6)))
  (pss_cons (ps_set (i := 5) sc__law_called.nd rfl (Or.inl rfl) (pe_fn (ok__law_draw ev) (hr.mono (by decide)) rfl (pa_cons (pv 0) (pa_cons (pe_callB call_lenR rfl (free_len ev) (by decide +kernel) (pa_cons (pv 3) pa_nil)) pa_nil))))
  (pss_cons (ps_if (PW.pt (pw_or (pt_cmpR (op_eqD hr.units) (pv 4) (pe_lst pa_nil) (nomark _)) (pw_or1 (pt_cmpR op_eq (pe_fn (ok__law_draw ev) (hr.mono (by decide)) rfl (pa_cons (pv 0) (pa_cons pe_int pa_nil))) pe_int (nomark _))))) (pss_one (ps_ret (pv 1)))
  pss_nil)
  (pss_cons (ps_set (i := 2) sc__law_called.nd rfl (Or.inl rfl) (pe_op op_catT (pe_tup (pa_cons (pe_ix ix_list (pv 4) (pe_fn (ok__law_draw ev) (hr.mono (by decide)) rfl (pa_cons (pv 0) (pa_cons (pe_callB call_lenR rfl (free_len ev) (by decide +kernel) (pa_cons (pv 4) pa_nil)) pa_nil))) (fun _ _ => rfl)) pa_nil)) (pe_slice sl_tup (pe_ix ix_list (pe_ix ix_list (pv 1) pe_int (fun _ _ => rfl)) (pv 5) (fun _ _ => rfl)) (po_some pe_int) po_none)))
  (pss_one (ps_ret (pe_op op_cat (pe_lst (pa_cons (pe_op op_cat (pe_op op_cat (pe_slice sl_list (pe_ix ix_list (pv 1) pe_int (fun _ _ => rfl)) po_none (po_some (pv 5))) (pe_lst (pa_cons (pv 2) pa_nil))) (pe_slice sl_list (pe_ix ix_list (pv 1) pe_int (fun _ _ => rfl)) (po_some (pe_op op_add (pv 5) pe_int)) po_none)) pa_nil)) (pe_slice sl_list (pv 1) (po_some pe_int) po_none))))))))), ?_⟩)
  · first | (obtain ⟨rfl, _⟩ := h; rfl) | (obtain ⟨_, rfl, _⟩ := h; rfl) | (obtain ⟨_, _, rfl, _⟩ := h; rfl) | (obtain ⟨_, _, _, rfl, _⟩ := h; rfl) | (obtain ⟨_, _, _, _, rfl, _⟩ := h; rfl) | (obtain ⟨_, _, _, _, _, rfl, _⟩ := h; rfl) | (obtain ⟨_, _, _, _, _, _, rfl, _⟩ := h; rfl) | (obtain ⟨_, _, _, _, _, _, _, rfl, _⟩ := h; rfl) | (obtain ⟨_, _, _, _, _, _, _, _, rfl, _⟩ := h; rfl) | (obtain ⟨_, _, _, _, _, _, _, _, _, rfl, _⟩ := h; rfl) | (obtain ⟨_, _, _, _, _, _, _, _, _, _, rfl, _⟩ := h; rfl) | (obtain ⟨_, _, _, _, _, _, _, _, _, _, _, rfl, _⟩ := h; rfl) | (obtain ⟨_, _, _, _, _, _, _, _, _, _, _, _, rfl, _⟩ := h; rfl) | (obtain ⟨_, _, _, _, _, _, _, _, _, _, _, _, _, rfl, _⟩ := h; rfl) | (obtain ⟨_, _, _, _, _, _, _, _, _, _, _, _, _, _, rfl, _⟩ := h; rfl) | (obtain ⟨_, _, _, _, _, _, _, _, _, _, _, _, _, _, _, rfl, _⟩ := h; rfl)
  · obtain ⟨a, ac, ar, r, l, P, V', M, rfl, D, Y, G, q⟩ := h
    obtain ⟨ls, lp, lv, lm, us, X⟩ := Y
    obtain ⟨z1, z2, z3, z4⟩ := G.sz
    have lc := cols_len l P V' M
    walk_at "wp"
    refine ix_l (SqL.of X.er) (v := .ref ls) rfl ?_
    refine lc_rt (fun s => .str s.n) X.es X.rw (by omega) (fun p => rfl) (fun s p H' Q' e k => ?_) fun nq H1 h1 en F1 => ?_
    · walk_at "wp"
      exact ix_t (SqT.of e) rfl k
    have X1 := X.f0 F1
    have en : H1 nq = some (.lst ((l.map So.n).map V.str)) := by rw [en, List.map_map]; rfl
    walk_at "wp"
    refine ⟨[a, ac, ar], r, l, P, V', M, rfl, ⟨ls, lp, lv, lm, us, X1⟩, G.sz, fun c H2 hc ec F2 => ?_⟩
    have en2 := F2.1 _ _ (by simp) en
    walk_at "wp"
    refine lc_l (S := []) (fun _ => True) (fun x o _ => ∃ w, x = .str w ∧ o = if w ∈ l.map So.n then none else some (.str w)) (SqL.of ec) (by simp) (by rw [List.length_map]; omega) (by simp) ⟨True.intro, fun _ _ _ _ _ => True.intro, fun _ _ _ _ _ r => r, fun _ _ _ _ _ _ _ r => r, fun x H' hx Fx _ Qn kq => ?_⟩ fun fq ys H3 h3 e3 kk F3 _ => ?_
    · obtain ⟨w, _, rfl⟩ := List.mem_map.mp hx
      walk_at "wp"
      refine notIn_l (.inl (SqL.of (Fx.1 _ _ (by simp) en2))) rfl flat_strs ?_
      rw [inV_str]
      walk_at "wp"
      by_cases hw : w ∈ l.map So.n
      · rw [if_neg (fun z => z hw)]
        exact kq none H' ⟨w, rfl, by rw [if_pos hw]⟩ (Fr.refl _ _) True.intro
      · rw [if_pos hw]
        exact kq (some (.str w)) H' ⟨w, rfl, by rw [if_neg hw]⟩ (Fr.refl _ _) True.intro
    have ey : ys = ((cols l P V' M).filter fun w => decide (w ∉ l.map So.n)).map V.str := by
      rw [Kept.filterMap (e := V.str) (f := fun w => if w ∈ l.map So.n then none else some (.str w)) (fun w o r => by
        obtain ⟨w', e1, e2⟩ := r
        cases e1
        exact e2) kk]
      generalize cols l P V' M = C
      induction C with
      | nil => rfl
      | cons c C ih =>
        rw [List.filterMap_cons, List.filter_cons]
        by_cases hw : c ∈ l.map So.n
        · rw [if_pos hw]
          rw [if_neg (by simpa using hw)]
          exact ih
        · rw [if_neg hw, if_pos (by simpa using hw), List.map_cons]
          show V.str c :: _ = _
          rw [ih]
    subst ey
    generalize hF : (cols l P V' M).filter (fun w => decide (w ∉ l.map So.n)) = Fw at e3
    have inF : ∀ w ∈ Fw, good w = true ∧ w ∉ l.map So.n := fun w hw => by
      rw [← hF] at hw
      have z := List.mem_filter.mp hw
      exact ⟨G.gc w z.1, of_decide_eq_true z.2⟩
    have lF : Fw.length ≤ 20 := by
      rw [← hF]
      have := List.length_filter_le (fun w => decide (w ∉ l.map So.n)) (cols l P V' M)
      omega
    have F23 := F2.trans F3
    have F03 := F1.trans F23
    have X3 := X1.f0 F23
    have D3 := D.f0 F03
    walk_at "wp"
    refine len_l (SqL.of (F3.1 _ _ (by simp) en2)) ?_
    walk_at "wp"
    rw [List.length_map, List.length_map]
    have hh := G.h
    refine ⟨a, ac, ar, _, rfl, by omega, by omega, D3, fun i H4 i0 i1 D4 F4 => ?_⟩
    have X4 := X3.fr F4 fun b => in3a
    have nF := D.free3 (F1.trans F2 |>.2 _ h3)
    have e34 := F4.1 _ _ (sub3 nF) e3
    have F04 : My.Fr [a, ar] H H4 := (F03.mono (by simp)).trans F4
    walk_at "wp"
    refine newQ (by show 0 ≤ 1000; decide) fun nl H5 h5 e5 F5 => ?_
    have okF : ∀ w ∈ Fw, PyData.strOk w = true := fun w hw => (good_aw (inF w hw).1).ok
    have e35 := F5.1 _ _ (by simp) e34
    refine eqD_l (.lst (SqL.of e35) (dp_ss Fw)) (.lst (SqL.of e5) .nil) (sh_lst okF) (by rfl) ?_
    rw [show PyData.eqv (.list (Fw.map PyData.str)) (.list []) = decide (Fw = []) from eqv_lst Fw []]
    have X5 := X4.f0 F5
    have D5 := D4.f0 F5
    have F05 : My.Fr [a, ar] H H5 := F04.trans (F5.mono (by simp))
    walk_at "wp"
    by_cases hE : Fw = []
    · rw [if_pos hE]
      exact q r l H5 ⟨ls, lp, lv, lm, us, X5⟩ G D5 F05
    rw [if_neg hE]
    refine ⟨a, ac, ar, _, rfl, by decide, by decide, D5, fun t H6 t0 t1 D6 F6 => ?_⟩
    have X6 := X5.fr F6 fun b => in3a
    have F06 := F05.trans F6
    have e36 := F6.1 _ _ (sub3 nF) e35
    walk_at "wp"
    split
    · exact q r l H6 ⟨ls, lp, lv, lm, us, X6⟩ G D6 F06
    walk_at "wp"
    have pF : 0 < Fw.length := List.length_pos_iff.mpr hE
    refine len_l (SqL.of e36) ?_
    walk_at "wp"
    rw [List.length_map]
    refine ⟨a, ac, ar, _, rfl, by omega, by omega, D6, fun j H7 j0 j1 D7 F7 => ?_⟩
    have X7 := X6.fr F7 fun b => in3a
    have F07 := F06.trans F7
    obtain ⟨w, ew, mw⟩ := at_str j0 j1
    refine ix_l (SqL.of (F7.1 _ _ (sub3 nF) e36)) ew ?_
    walk_at "wp"
    refine newtQ (by show 1 ≤ 1000; decide) fun t1' H8 h8 e8 F8 => ?_
    have X8 := X7.f0 F8
    walk_at "wp"
    refine ix_l (SqL.of X8.er) (v := .ref ls) rfl ?_
    walk_at "wp"
    obtain ⟨k, rfl⟩ := Int.eq_ofNat_of_zero_le i0
    have hk : k < l.length := by omega
    have hku : k < us.length := by rw [X8.rw.len]; exact hk
    obtain ⟨p, s, ep, es, np, er⟩ := X8.rw.get k _ (List.getElem?_eq_getElem hku)
    refine ix_l (SqL.of X8.es) (v := .ref p) (atI_nat (by rw [List.getElem?_eq_getElem hku, ep])) ?_
    walk_at "wp"
    refine slTQ (SqT.of er) (by
      show ¬ (1 = 0 ∧ 4 = 4)
      decide) fun t2 H9 h9 e9 F9 => ?_
    have e9 : H9 t2 = some (.tup [.str s.k, oS s.pa, .bl s.de]) := e9
    refine catTQ (SqT.of (F9.1 _ _ (by simp) e8)) (SqT.of e9) (by simp) (by simp) (by show 4 ≤ 1000; decide) fun t3 H10 h10 e10 F10 => ?_
    have F80 := F9.trans F10
    have e10 : H10 t3 = some (.tup (rowV ⟨w, s.k, s.pa, s.de⟩)) := e10
    have X10 := X8.f0 F80
    have D8 := D7.f0 F8
    have D10 := D8.f0 F80
    have n10 : t3 ∉ [a, ac, ar] := (D8.f0 F9).free3 h10
    walk_at "wp"
    refine ix_l (SqL.of X10.er) (v := .ref ls) rfl ?_
    walk_at "wp"
    refine slQ (SqL.of X10.es) cut_to fun q1 H11 h11 e11 F11 => ?_
    have X11 := X10.f0 F11
    walk_at "wp"
    refine newQ (by show 1 ≤ 1000; decide) fun q2 H12 h12 e12 F12 => ?_
    have X12 := X11.f0 F12
    have lu := X12.rw.len
    refine catQ (F12.1 _ _ (by simp) e11) e12 rfl (by rw [List.length_append, List.length_take]; show _ + 1 ≤ 1000; omega) fun q3 H13 h13 e13 F13 => ?_
    have X13 := X12.f0 F13
    walk_at "wp"
    refine ix_l (SqL.of X13.er) (v := .ref ls) rfl ?_
    walk_at "wp"
    refine slQ (SqL.of X13.es) (cut_from (k := k + 1)) fun q4 H14 h14 e14 F14 => ?_
    refine catQ (F14.1 _ _ (by simp) e13) e14 rfl (by simp only [List.length_append, List.length_take, List.length_drop, List.length_cons, List.length_nil]; omega) fun q5 H15 h15 e15 F15 => ?_
    have X15 := (X13.f0 F14).f0 F15
    walk_at "wp"
    refine newQ (by show 1 ≤ 1000; decide) fun q6 H16 h16 e16 F16 => ?_
    have X16 := X15.f0 F16
    walk_at "wp"
    refine slQ (SqL.of X16.er) (ys := [.ref lp, .ref lv, .ref lm]) rfl fun q7 H17 h17 e17 F17 => ?_
    refine catQ (F17.1 _ _ (by simp) e16) e17 rfl (by show 4 ≤ 1000; decide) fun q8 H18 h18 e18 F18 => ?_
    have F68 := (F16.trans F17).trans F18
    have F1015 := ((((F11.trans F12).trans F13).trans F14).trans F15)
    have F1018 := F1015.trans F68
    have X18 := X16.f0 (F17.trans F18)
    have D15 := D10.f0 F1015
    have es' : l[k]? = some s := es
    refine q q8 (l.set k ⟨w, s.k, s.pa, s.de⟩) H18 ⟨q5, lp, lv, lm, _, ⟨e18, F68.1 _ _ (by simp) e15, ?_, X18.ep, X18.ev, X18.em, ?_, ?_, X18.np, X18.nv, X18.nm⟩⟩ (G.name es' (inF w mw).1 (inF w mw).2) (D10.f0 F1018) (((F07.trans (F8.mono (by simp))).trans (F80.mono (by simp))).trans (F1018.mono (by simp)))
    · rw [set_td hk]
      exact ((X18.rw.take k).app (.cons n10 (F1018.1 _ _ (by simp) e10) .nil)).app (X18.rw.drop (k + 1))
    · exact ((D15.f0 F16).f0 F17).free3 h18
    · exact (D10.f0 (((F11.trans F12).trans F13).trans F14)).free3 h15
theorem ok_Scheme_sort_named (ev : E K mg) : My.MethOf P w K mg base CX0 3 "Scheme" "sort_named" ["self", "name"] (sp_snm K) := by
  obtain ⟨fd, F⟩ := ev.e.c.def_ 9 (d := d_Scheme_sort_named) rfl
  refine ⟨⟨_, fd, ?_, meth_Scheme_sort_named ev, F.bindsN fun _ _ _ _ _ _ us hl => match us, hl with | [_, _], _ => rfl⟩, cls_Scheme ev⟩
  refine F.ok sc_Scheme_sort_named (fun vs H Q Ex h => ?_) (fun cdv A outer s H vs Q Ex hr h => ⟨_, PSs.nox
    (pss_cons (ps_for PassesOwn.never rfl (pi_tup (pe_fld (pv 0) rfl)) (pg_name (i := 2) sc_Scheme_sort_named.nd rfl (Or.inl rfl))
  (pss_one (ps_if (pt_cmpR op_eq (pe_fld (pv 2) rfl) (pv 1) (nomark _)) (pss_one (ps_ret (pv 2)))
  pss_nil)))
  (pss_one ps_never)), ?_⟩)
  · first | (obtain ⟨rfl, _⟩ := h; rfl) | (obtain ⟨_, rfl, _⟩ := h; rfl) | (obtain ⟨_, _, rfl, _⟩ := h; rfl) | (obtain ⟨_, _, _, rfl, _⟩ := h; rfl) | (obtain ⟨_, _, _, _, rfl, _⟩ := h; rfl) | (obtain ⟨_, _, _, _, _, rfl, _⟩ := h; rfl) | (obtain ⟨_, _, _, _, _, _, rfl, _⟩ := h; rfl) | (obtain ⟨_, _, _, _, _, _, _, rfl, _⟩ := h; rfl) | (obtain ⟨_, _, _, _, _, _, _, _, rfl, _⟩ := h; rfl) | (obtain ⟨_, _, _, _, _, _, _, _, _, rfl, _⟩ := h; rfl) | (obtain ⟨_, _, _, _, _, _, _, _, _, _, rfl, _⟩ := h; rfl) | (obtain ⟨_, _, _, _, _, _, _, _, _, _, _, rfl, _⟩ := h; rfl) | (obtain ⟨_, _, _, _, _, _, _, _, _, _, _, _, rfl, _⟩ := h; rfl) | (obtain ⟨_, _, _, _, _, _, _, _, _, _, _, _, _, rfl, _⟩ := h; rfl) | (obtain ⟨_, _, _, _, _, _, _, _, _, _, _, _, _, _, rfl, _⟩ := h; rfl) | (obtain ⟨_, _, _, _, _, _, _, _, _, _, _, _, _, _, _, rfl, _⟩ := h; rfl)
  · obtain ⟨p, w, l, P, V', M, s, rfl, I, fs, q⟩ := h
    obtain ⟨dx, ts, tp, tv, tm, vs, h1, h2, h3, h4, h5, h6⟩ := I
    walk_at "wp"
    refine fld_Scheme_sorts ev h1 rfl ?_
    refine for_t (xs := vs) (ISN p w l H) ⟨_, rfl, rfl, Fr.refl _ _⟩ (fun i σ H1 _ p => ?_) ?_ ?_
    · obtain ⟨_, _, _, F⟩ := p
      exact F.t (by simp) h2
    · rintro i x σ H1 hx ⟨v, rfl, hc, F1⟩
      obtain ⟨b, s', rfl, es, S⟩ := h3.get i x hx
      have S1 := S.fr F1 (by simp)
      rw [drop_at es, fnd_cons] at hc
      walk_at "wp"
      refine fld_Sort_name ev S1.choose_spec (v := .str s'.n) rfl ?_
      walk_at "wp"
      split
      · rename_i e
        rw [if_pos e, fs] at hc
        cases hc
        exact q b H1 S1 F1
      · rename_i e
        rw [if_neg e] at hc
        exact ⟨_, rfl, hc, F1⟩
    · rintro σ H1 ⟨v, rfl, hc, F1⟩
      rw [h3.len, List.drop_length, fs] at hc
      cases hc
theorem ok_Scheme_sort_named_x (ev : E K mg) : My.MethOf P w K mg base (L2.CX P w) 3 "Scheme" "sort_named" ["self", "name"] (sp_snx K) := by
  obtain ⟨fd, F⟩ := ev.e.c.def_ 9 (d := d_Scheme_sort_named) rfl
  refine ⟨⟨_, fd, ?_, meth_Scheme_sort_named ev, F.bindsN fun _ _ _ _ _ _ us hl => match us, hl with | [_, _], _ => rfl⟩, cls_Scheme ev⟩
  refine F.ok sc_Scheme_sort_named (fun vs H Q Ex h => ?_) (fun cdv A outer s H vs Q Ex hr h => ⟨_, id
    (pss_cons (ps_for (passes_of rfl) rfl (pi_tup (pe_fld (pv 0) rfl)) (pg_name (i := 2) sc_Scheme_sort_named.nd rfl (Or.inl rfl))
  (pss_one (ps_if (pt_cmpR op_eq (pe_fld (pv 2) rfl) (pv 1) (nomark _)) (pss_one (ps_ret (pv 2)))
  pss_nil)))
  (pss_one (ps_rs rfl (takes_of rfl rfl rfl rfl) (pmk_err (ok_UnknownSort___init__ ev) (hr.mono (by decide)) rfl (pa_cons (pv 1) pa_nil))))), ?_⟩)
  · first | (obtain ⟨rfl, _⟩ := h; rfl) | (obtain ⟨_, rfl, _⟩ := h; rfl) | (obtain ⟨_, _, rfl, _⟩ := h; rfl) | (obtain ⟨_, _, _, rfl, _⟩ := h; rfl) | (obtain ⟨_, _, _, _, rfl, _⟩ := h; rfl) | (obtain ⟨_, _, _, _, _, rfl, _⟩ := h; rfl) | (obtain ⟨_, _, _, _, _, _, rfl, _⟩ := h; rfl) | (obtain ⟨_, _, _, _, _, _, _, rfl, _⟩ := h; rfl) | (obtain ⟨_, _, _, _, _, _, _, _, rfl, _⟩ := h; rfl) | (obtain ⟨_, _, _, _, _, _, _, _, _, rfl, _⟩ := h; rfl) | (obtain ⟨_, _, _, _, _, _, _, _, _, _, rfl, _⟩ := h; rfl) | (obtain ⟨_, _, _, _, _, _, _, _, _, _, _, rfl, _⟩ := h; rfl) | (obtain ⟨_, _, _, _, _, _, _, _, _, _, _, _, rfl, _⟩ := h; rfl) | (obtain ⟨_, _, _, _, _, _, _, _, _, _, _, _, _, rfl, _⟩ := h; rfl) | (obtain ⟨_, _, _, _, _, _, _, _, _, _, _, _, _, _, rfl, _⟩ := h; rfl) | (obtain ⟨_, _, _, _, _, _, _, _, _, _, _, _, _, _, _, rfl, _⟩ := h; rfl)
  · obtain ⟨p, w, l, P, V', M, rfl, I, q1, q2⟩ := h
    obtain ⟨dx, ts, tp, tv, tm, vs, h1, h2, h3, h4, h5, h6⟩ := I
    walk_at "wp"
    refine fld_Scheme_sorts ev h1 rfl ?_
    refine for_t (xs := vs) (ISN p w l H) ⟨_, rfl, rfl, Fr.refl _ _⟩ (fun i σ H1 _ p => ?_) ?_ ?_
    · obtain ⟨_, _, _, F⟩ := p
      exact F.t (by simp) h2
    · rintro i x σ H1 hx ⟨v, rfl, hc, F1⟩
      obtain ⟨b, s', rfl, es, S⟩ := h3.get i x hx
      have S1 := S.fr F1 (by simp)
      rw [drop_at es, fnd_cons] at hc
      walk_at "wp"
      refine fld_Sort_name ev S1.choose_spec (v := .str s'.n) rfl ?_
      walk_at "wp"
      split
      · rename_i e
        rw [if_pos e] at hc
        exact q1 s' hc b H1 S1 F1
      · rename_i e
        rw [if_neg e] at hc
        exact ⟨_, rfl, hc, F1⟩
    · rintro σ H1 ⟨v, rfl, hc, F1⟩
      rw [h3.len, List.drop_length] at hc
      walk_at "wp"
      exact rs_l rfl (by decide) fun d hd => q2 hc d _ upd_same (F1.trans (Fr.new hd))
theorem ok__check_names_x (ev : E K mg) : My.Callee P w K mg base (L2.CX P w) 3 d__check_names ["words"] (sp_cn K) := by
  obtain ⟨fd, F⟩ := ev.e.c.def_ 12 (d := d__check_names) rfl
  refine ⟨_, fd, ?_, ev.glo 2, F.kp, F.bindsN fun _ _ _ _ _ _ us hl => match us, hl with | [_], _ => rfl, F⟩
  refine F.ok sc__check_names (fun vs H Q Ex h => ?_) (fun cdv A outer s H vs Q Ex hr h => ⟨_, id
    (pss_one (ps_for (passes_of rfl) rfl (pi_list (pv 0)) (pg_name (i := 1) sc__check_names.nd rfl (Or.inl rfl))
  (pss_one (ps_if (pt_not (pt_val (pe_fn (ok_is_name ev) (hr.mono (by decide)) rfl (pa_cons (pv 1) pa_nil)))) (pss_one (ps_rs rfl (takes_of rfl rfl rfl rfl) (pmk_err (ok_BadScheme___init__ ev) (hr.mono (by decide)) rfl (pa_cons (pv 1) pa_nil))))
  pss_nil)))), ?_⟩)
  · first | (obtain ⟨rfl, _⟩ := h; rfl) | (obtain ⟨_, rfl, _⟩ := h; rfl) | (obtain ⟨_, _, rfl, _⟩ := h; rfl) | (obtain ⟨_, _, _, rfl, _⟩ := h; rfl) | (obtain ⟨_, _, _, _, rfl, _⟩ := h; rfl) | (obtain ⟨_, _, _, _, _, rfl, _⟩ := h; rfl) | (obtain ⟨_, _, _, _, _, _, rfl, _⟩ := h; rfl) | (obtain ⟨_, _, _, _, _, _, _, rfl, _⟩ := h; rfl) | (obtain ⟨_, _, _, _, _, _, _, _, rfl, _⟩ := h; rfl) | (obtain ⟨_, _, _, _, _, _, _, _, _, rfl, _⟩ := h; rfl) | (obtain ⟨_, _, _, _, _, _, _, _, _, _, rfl, _⟩ := h; rfl) | (obtain ⟨_, _, _, _, _, _, _, _, _, _, _, rfl, _⟩ := h; rfl) | (obtain ⟨_, _, _, _, _, _, _, _, _, _, _, _, rfl, _⟩ := h; rfl) | (obtain ⟨_, _, _, _, _, _, _, _, _, _, _, _, _, rfl, _⟩ := h; rfl) | (obtain ⟨_, _, _, _, _, _, _, _, _, _, _, _, _, _, rfl, _⟩ := h; rfl) | (obtain ⟨_, _, _, _, _, _, _, _, _, _, _, _, _, _, _, rfl, _⟩ := h; rfl)
  · obtain ⟨l, ws, rfl, el, hw, q1, q2⟩ := h
    walk_at "wp"
    refine for_l (xs := ws.map V.str) (ICN l ws H) ⟨_, rfl, rfl, Fr.refl _ _⟩ (fun i σ H1 _ p => ?_) ?_ ?_
    · obtain ⟨_, _, _, F⟩ := p
      exact SqL.of (F.1 _ _ (by simp) el)
    · rintro i x σ H1 hx ⟨v, rfl, hc, F1⟩
      rw [List.getElem?_map] at hx
      cases e : ws[i]? with
      | none => rw [e] at hx; cases hx
      | some w =>
        rw [e] at hx
        cases hx
        have hl := (List.getElem?_eq_some_iff.mp e).1
        have hd : ws.drop i = w :: ws.drop (i + 1) := by
          rw [List.drop_eq_getElem_cons hl]
          rw [List.getElem?_eq_getElem hl] at e
          rw [Option.some.inj e]
        walk_at "wp"
        refine ⟨w, rfl, hw w (List.mem_of_getElem? e), fun H2 F2 => ?_⟩
        walk_at "wp"
        rw [hd] at hc
        cases g : good w
        · rw [if_pos rfl]
          refine rs_l rfl (by decide) fun d hd => q2 w ?_ d _ upd_same ((F1.trans F2).trans (Fr.new hd))
          rw [hc]
          show (if good w = true then _ else _) = _
          rw [if_neg (by rw [g]; decide)]
        · walk_at "wp"
          refine ⟨_, rfl, ?_, F1.trans F2⟩
          rw [hc]
          show (if good w = true then _ else _) = _
          rw [if_pos g]
    · rintro σ H1 ⟨v, rfl, hc, F1⟩
      walk_at "wp"
      refine q1 ?_ _ F1
      rw [hc, List.length_map, List.drop_length]
      rfl
theorem ok__check_different_x (ev : E K mg) : My.Callee P w K mg base (L2.CX P w) 3 d__check_different ["names"] (sp_cd K) := by
  obtain ⟨fd, F⟩ := ev.e.c.def_ 13 (d := d__check_different) rfl
  refine ⟨_, fd, ?_, ev.glo 3, F.kp, F.bindsN fun _ _ _ _ _ _ us hl => match us, hl with | [_], _ => rfl, F⟩
  refine F.ok sc__check_different (fun vs H Q Ex h => ?_) (fun cdv A outer s H vs Q Ex hr h => ⟨_, id
    (pss_one (ps_for (passes_of rfl) rfl (pi_enum (by rfl) (free_enumerate ev) (pa_cons (pv 0) pa_nil)) (pg_tup rfl (pgs_cons (pg_name (i := 1) sc__check_different.nd rfl (Or.inl rfl)) (pgs_cons (pg_name (i := 2) sc__check_different.nd rfl (Or.inl rfl)) pgs_nil)))
  (pss_one (ps_if (pt_cmpR op_in_seq (pv 2) (pe_slice sl_list (pv 0) po_none (po_some (pv 1))) (by rfl)) (pss_one (ps_rs rfl (takes_of rfl rfl rfl rfl) (pmk_err (ok_BadScheme___init__ ev) (hr.mono (by decide)) rfl (pa_cons (pv 2) pa_nil))))
  pss_nil)))), ?_⟩)
  · first | (obtain ⟨rfl, _⟩ := h; rfl) | (obtain ⟨_, rfl, _⟩ := h; rfl) | (obtain ⟨_, _, rfl, _⟩ := h; rfl) | (obtain ⟨_, _, _, rfl, _⟩ := h; rfl) | (obtain ⟨_, _, _, _, rfl, _⟩ := h; rfl) | (obtain ⟨_, _, _, _, _, rfl, _⟩ := h; rfl) | (obtain ⟨_, _, _, _, _, _, rfl, _⟩ := h; rfl) | (obtain ⟨_, _, _, _, _, _, _, rfl, _⟩ := h; rfl) | (obtain ⟨_, _, _, _, _, _, _, _, rfl, _⟩ := h; rfl) | (obtain ⟨_, _, _, _, _, _, _, _, _, rfl, _⟩ := h; rfl) | (obtain ⟨_, _, _, _, _, _, _, _, _, _, rfl, _⟩ := h; rfl) | (obtain ⟨_, _, _, _, _, _, _, _, _, _, _, rfl, _⟩ := h; rfl) | (obtain ⟨_, _, _, _, _, _, _, _, _, _, _, _, rfl, _⟩ := h; rfl) | (obtain ⟨_, _, _, _, _, _, _, _, _, _, _, _, _, rfl, _⟩ := h; rfl) | (obtain ⟨_, _, _, _, _, _, _, _, _, _, _, _, _, _, rfl, _⟩ := h; rfl) | (obtain ⟨_, _, _, _, _, _, _, _, _, _, _, _, _, _, _, rfl, _⟩ := h; rfl)
  · obtain ⟨l, ws, rfl, el, q1, q2⟩ := h
    walk_at "wp"
    refine for_e (xs := ws.map V.str) (ICD l ws H) ⟨_, _, rfl, by simp, Fr.refl _ _⟩ (fun i σ H1 _ p => ?_) ?_ ?_
    · obtain ⟨_, _, _, _, F⟩ := p
      exact SqL.of (F.1 _ _ (by simp) el)
    · rintro i x T σ H1 hx ⟨v1, v2, rfl, hc, F1⟩ hT
      rw [List.getElem?_map] at hx
      cases e : ws[i]? with
      | none => rw [e] at hx; cases hx
      | some w =>
        rw [e] at hx
        cases hx
        have hl := (List.getElem?_eq_some_iff.mp e).1
        have hd : ws.drop i = w :: ws.drop (i + 1) := by
          rw [List.drop_eq_getElem_cons hl]
          rw [List.getElem?_eq_getElem hl] at e
          rw [Option.some.inj e]
        have F2 := F1.trans (Fr.new (o := .tup [V.int i, V.str w]) hT)
        walk_at "wp"
        refine tg_l (SqT.of upd_same) rfl ?_
        walk_at "wp"
        refine sl_l (SqL.of (F2.1 _ _ (by simp) el)) fun p hp => ?_
        walk_at "wp"
        have ecut : cutV (ws.map V.str) none (some (i : Int)) = (ws.take i).map V.str := by
          unfold cutV
          rw [HT.sIx_none, HT.sIx_nat, List.drop_zero, Nat.sub_zero, List.length_map, Nat.min_eq_left (by omega), List.map_take]
        rw [ecut]
        refine in_l (.inl (SqL.of upd_same)) rfl flat_strs ?_
        rw [inV_str]
        walk_at "wp"
        rw [hd] at hc
        have F3 := F2.trans (Fr.new (o := .lst ((ws.take i).map V.str)) hp)
        split
        · rename_i hin
          refine rs_l rfl (by decide) fun d hd => q2 w ?_ d _ upd_same (F3.trans (Fr.new hd))
          rw [hc]
          exact if_pos hin
        · rename_i hin
          refine ⟨_, _, rfl, ?_, F3⟩
          rw [hc]
          have et : ws.take (i + 1) = ws.take i ++ [w] := by rw [List.take_add_one, e]; rfl
          rw [et]
          exact if_neg hin
    · rintro σ H1 ⟨v1, v2, rfl, hc, F1⟩
      walk_at "wp"
      refine q1 ?_ _ F1
      rw [hc, List.length_map, List.drop_length]
      rfl
theorem ok__check_parts_x (ev : E K mg) : My.Callee P w K mg base (L2.CX P w) 3 d__check_parts ["sorts", "part_columns"] (sp_cp K) := by
  obtain ⟨fd, F⟩ := ev.e.c.def_ 14 (d := d__check_parts) rfl
  refine ⟨_, fd, ?_, ev.glo 4, F.kp, F.bindsN fun _ _ _ _ _ _ us hl => match us, hl with | [_, _], _ => rfl, F⟩
  refine F.ok sc__check_parts (fun vs H Q Ex h => ?_) (fun cdv A outer s H vs Q Ex hr h => ⟨_, id
    (pss_one (ps_for (passes_of rfl) rfl (pi_tup (pv 0)) (pg_name (i := 2) sc__check_parts.nd rfl (Or.inl rfl))
  (pss_one (ps_if (PW.pt (pw_and (pt_cmpR op_notNo (pe_fld (pv 2) rfl) pe_non (nomark _)) (pw_and1 (pt_cmpR op_notIn_seq (pe_fld (pv 2) rfl) (pv 1) (by rfl))))) (pss_one (ps_rs rfl (takes_of rfl rfl rfl rfl) (pmk_err (ok_BadScheme___init__ ev) (hr.mono (by decide)) rfl (pa_cons (pe_fld (pv 2) rfl) pa_nil))))
  pss_nil)))), ?_⟩)
  · first | (obtain ⟨rfl, _⟩ := h; rfl) | (obtain ⟨_, rfl, _⟩ := h; rfl) | (obtain ⟨_, _, rfl, _⟩ := h; rfl) | (obtain ⟨_, _, _, rfl, _⟩ := h; rfl) | (obtain ⟨_, _, _, _, rfl, _⟩ := h; rfl) | (obtain ⟨_, _, _, _, _, rfl, _⟩ := h; rfl) | (obtain ⟨_, _, _, _, _, _, rfl, _⟩ := h; rfl) | (obtain ⟨_, _, _, _, _, _, _, rfl, _⟩ := h; rfl) | (obtain ⟨_, _, _, _, _, _, _, _, rfl, _⟩ := h; rfl) | (obtain ⟨_, _, _, _, _, _, _, _, _, rfl, _⟩ := h; rfl) | (obtain ⟨_, _, _, _, _, _, _, _, _, _, rfl, _⟩ := h; rfl) | (obtain ⟨_, _, _, _, _, _, _, _, _, _, _, rfl, _⟩ := h; rfl) | (obtain ⟨_, _, _, _, _, _, _, _, _, _, _, _, rfl, _⟩ := h; rfl) | (obtain ⟨_, _, _, _, _, _, _, _, _, _, _, _, _, rfl, _⟩ := h; rfl) | (obtain ⟨_, _, _, _, _, _, _, _, _, _, _, _, _, _, rfl, _⟩ := h; rfl) | (obtain ⟨_, _, _, _, _, _, _, _, _, _, _, _, _, _, _, rfl, _⟩ := h; rfl)
  · obtain ⟨ts, tp, us, l, P, rfl, e1, SL, e2, q1, q2⟩ := h
    walk_at "wp"
    refine for_t (xs := us) (ICP ts tp P l H) ⟨_, rfl, rfl, Fr.refl _ _⟩ (fun i σ H1 _ p => ?_) ?_ ?_
    · obtain ⟨_, _, _, F⟩ := p
      exact F.t (by simp) e1
    · rintro i x σ H1 hx ⟨v, rfl, hc, F1⟩
      obtain ⟨p, s, rfl, es, S⟩ := SL.get i x hx
      have S1 := S.fr F1 (by simp)
      have e21 := F1.t (by simp) e2
      rw [drop_at es] at hc
      walk_at "wp"
      refine fld_Sort_part ev S1.choose_spec rfl ?_
      cases hp : s.pa with
      | none =>
        walk_at "wp"
        refine ⟨_, rfl, ?_, F1⟩
        rw [hc, chP_cons, hp]
      | some w =>
        walk_at "wp"
        refine fld_Sort_part ev S1.choose_spec (v := .str w) (by unfold soF; rw [hp]; rfl) ?_
        walk_at "wp"
        refine notIn_l (.inr e21) rfl flat_strs ?_
        rw [inV_str]
        walk_at "wp"
        by_cases hw : w ∈ P
        · rw [if_neg (fun z => z hw)]
          refine ⟨_, rfl, ?_, F1⟩
          rw [hc, chP_cons, hp]
          exact if_pos hw
        · rw [if_pos hw]
          refine fld_Sort_part ev S1.choose_spec (v := .str w) (by unfold soF; rw [hp]; rfl) ?_
          walk_at "wp"
          refine rs_l rfl (by decide) fun d hd => q2 w ?_ d _ upd_same (F1.trans (Fr.new hd))
          rw [hc, chP_cons, hp]
          exact if_neg hw
    · rintro σ H1 ⟨v, rfl, hc, F1⟩
      walk_at "wp"
      refine q1 ?_ _ F1
      rw [hc, SL.len, List.drop_length]
      rfl
theorem ok__law_names (ev : E K mg) : My.Callee P w K mg base CX0 3 d__law_names ["_law_draws", "_law_taken", "_law_many"] spNms := by
  obtain ⟨fd, F⟩ := ev.e.c.def_ 18 (d := d__law_names) rfl
  refine ⟨_, fd, ?_, ev.glo 8, F.kp, F.bindsN fun _ _ _ _ _ _ us hl => match us, hl with | [_, _, _], _ => rfl, F⟩
  refine F.ok sc__law_names (fun vs H Q Ex h => ?_) (fun cdv A outer s H vs Q Ex hr h => ⟨_, PSs.nox
    (pss_cons (ps_set (i := 3) sc__law_names.nd rfl (Or.inl rfl) (pe_lst pa_nil))
  (pss_cons (ps_for PassesOwn.never rfl (pi_range1 rfl (free_range ev) (pa_cons (pv 2) pa_nil)) (pg_name (i := 4) sc__law_names.nd rfl (Or.inl rfl))
  (pss_cons (ps_set (i := 5) sc__law_names.nd rfl (Or.inl rfl) (pe_fn (ok__law_name ev) (hr.mono (by decide)) rfl (pa_cons (pv 0) (pa_cons (pv 1) pa_nil))))
  (pss_cons (ps_expr (pe_bm PySem.F.plainAttrs_list PySem.F.slot_list_append PySem.F.type_list_append mt_append (pv 1) (pa_cons (pv 5) pa_nil)))
  (pss_one (ps_expr (pe_bm PySem.F.plainAttrs_list PySem.F.slot_list_append PySem.F.type_list_append mt_append (pv 3) (pa_cons (pv 5) pa_nil)))))))
  (pss_one (ps_ret (pv 3))))), ?_⟩)
  · first | (obtain ⟨rfl, _⟩ := h; rfl) | (obtain ⟨_, rfl, _⟩ := h; rfl) | (obtain ⟨_, _, rfl, _⟩ := h; rfl) | (obtain ⟨_, _, _, rfl, _⟩ := h; rfl) | (obtain ⟨_, _, _, _, rfl, _⟩ := h; rfl) | (obtain ⟨_, _, _, _, _, rfl, _⟩ := h; rfl) | (obtain ⟨_, _, _, _, _, _, rfl, _⟩ := h; rfl) | (obtain ⟨_, _, _, _, _, _, _, rfl, _⟩ := h; rfl) | (obtain ⟨_, _, _, _, _, _, _, _, rfl, _⟩ := h; rfl) | (obtain ⟨_, _, _, _, _, _, _, _, _, rfl, _⟩ := h; rfl) | (obtain ⟨_, _, _, _, _, _, _, _, _, _, rfl, _⟩ := h; rfl) | (obtain ⟨_, _, _, _, _, _, _, _, _, _, _, rfl, _⟩ := h; rfl) | (obtain ⟨_, _, _, _, _, _, _, _, _, _, _, _, rfl, _⟩ := h; rfl) | (obtain ⟨_, _, _, _, _, _, _, _, _, _, _, _, _, rfl, _⟩ := h; rfl) | (obtain ⟨_, _, _, _, _, _, _, _, _, _, _, _, _, _, rfl, _⟩ := h; rfl) | (obtain ⟨_, _, _, _, _, _, _, _, _, _, _, _, _, _, _, rfl, _⟩ := h; rfl)
  · obtain ⟨a, ac, ar, t, ts, m, rfl, D, et, nt, lt, q⟩ := h
    have nt1 : t ≠ a := fun z => nt (by simp [z])
    have nt2 : t ≠ ac := fun z => nt (by simp [z])
    have nt3 : t ≠ ar := fun z => nt (by simp [z])
    walk_at "wp"
    refine new_l (by decide) fun l hl => ?_
    have nl := D.free hl
    have nlt : l ≠ t := fun z => by rw [z, et] at hl; cases hl
    have nlc : l ≠ ac := fun z => by
      obtain ⟨⟨cs, rs, u, ea, ec, er, hl', hc, hc2, ht⟩, n1, n2, n3⟩ := D
      rw [z, ec] at hl; cases hl
    walk_at "wp"
    refine for_r1 (by omega) (INs a ac ar t l ts m H) (by omega) ⟨⟨_, _, rfl⟩, [], ⟨rfl, by simp, .nil, by simp⟩, upd_same, by rw [upd_ne (Ne.symm nlt), List.append_nil]; exact et, D.new hl, Fr.new hl⟩ ?_ ?_
    · rintro i σ H1 hi ⟨⟨v4, v5, rfl⟩, ws, N, el1, et1, D1, F1⟩
      have b := N.ln
      walk_at "wp"
      refine ⟨a, ac, ar, t, ts ++ ws, rfl, D1, et1, fun z => nt (by simp at z ⊢; rcases z with z | z <;> simp [z]), by rw [List.length_append]; omega, fun w H2 gw hw D2 F2 => ?_⟩
      have et2 := F2.1 _ _ (by simp; exact ⟨nt1, nt3⟩) et1
      have el2 := F2.1 _ _ (by simpa using nl) el1
      walk_at "wp"
      refine ⟨tyL et2, app_l et2 (by have : (100 : Nat) ≤ sizeLine := by decide
                                     rw [List.length_map, List.length_append]; omega) ?_⟩
      walk_at "wp"
      have el3 := (upd_ne (H := H2) (o := .lst (((ts ++ ws).map V.str) ++ [.str w])) nlt).trans el2
      refine ⟨tyL el3, app_l el3 (by have : (100 : Nat) ≤ sizeLine := by decide
                                     rw [List.length_map]; omega) ?_⟩
      walk_at "wp"
      refine ⟨⟨_, _, rfl⟩, ws ++ [w], ⟨by rw [List.length_append, b]; rfl, fun x hx => ?_, ?_, fun x hx => ?_⟩, by rw [upd_same]; simp, by rw [upd_ne (Ne.symm nlt), upd_same]; simp, (D2.put nt1 nt2 nt3).put (fun z => nl (by simp [z])) nlc (fun z => nl (by simp [z])), ?_⟩
      · rcases List.mem_append.mp hx with h | h
        · exact N.gd x h
        · rw [List.mem_singleton.mp h]; exact gw
      · rw [List.nodup_append]
        exact ⟨N.nd, by simp, fun x hx y hy e => hw (by rw [List.mem_singleton.mp hy] at e; rw [← e]; simp [hx])⟩
      · rcases List.mem_append.mp hx with h | h
        · exact N.dj x h
        · rw [List.mem_singleton.mp h]; exact fun z => hw (by simp [z])
      · exact ((F1.trans (F2.mono (by simp))).put (by simp)).put_free hl
    · rintro σ H1 ⟨⟨v4, v5, rfl⟩, ws, N, el1, et1, D1, F1⟩
      walk_at "wp"
      exact q l ws H1 (by rw [Int.toNat_natCast] at N; exact N) hl el1 et1 D1 F1
theorem ok__law_sort (ev : E K mg) : My.Callee P w K mg base CX0 3 d__law_sort ["_law_one"] (spSort K) := by
  obtain ⟨fd, F⟩ := ev.e.c.def_ 20 (d := d__law_sort) rfl
  refine ⟨_, fd, ?_, ev.glo 10, F.kp, F.bindsN fun _ _ _ _ _ _ us hl => match us, hl with | [_], _ => rfl, F⟩
  refine F.ok sc__law_sort (fun vs H Q Ex h => ?_) (fun cdv A outer s H vs Q Ex hr h => ⟨_, PSs.nox
    (pss_cons (ps_if (PW.pt (pw_and (pt_cmpR op_isNo (pe_ix ix_tup (pv 0) pe_int (fun _ _ => rfl)) pe_non (nomark _)) (pw_and1 (pt_not (pt_val (pe_ix ix_tup (pv 0) pe_int (fun _ _ => rfl))))))) (pss_one (ps_ret (pe_mkD (K := K) (E := fun _ => E0) (n := 2) (ks := []) rfl (ok_Sort___init__ (K := K) ev) [(("part" : Str), V.non), (("descending" : Str), V.bl false)] (fun us mv ws => us ++ (((mv.drop 0).take 1) ++ ((mv.drop 1).take 1))) (List.Sublist.subset (show List.Sublist ([(("part" : Str), V.non), (("descending" : Str), V.bl false)] : List (Str × V)) (He.DefD.kws K d_Sort___init__) from (.cons₂ _ (.cons₂ _ .slnil)))) (List.cons_ne_nil _ _) (hr.mono (by decide)) (fun σ => by first | exact pass_no | exact pass_cx) rfl (pa_cons (pe_ix ix_tup (pv 0) pe_int (fun _ _ => rfl)) (pa_cons (pe_ix ix_tup (pv 0) pe_int (fun _ _ => rfl)) pa_nil)) pk_nil (fun _ _ _ _ _ _ _ us mv ws h1 h2 h3 => match us, mv, ws, h1, h2, h3 with | [_, _], [_, _], [], _, _, _ => ⟨_, _, _, _, _, _, rfl, rfl, ⟨_, _, _, _, _, _, rfl, rfl, (kwEnd rfl)⟩⟩) (fun r1 rm r2 => r1.append (((rm.drop 0).take 1).append ((rm.drop 1).take 1))))))
  pss_nil)
  (pss_cons (ps_if (pt_cmpR op_isNo (pe_ix ix_tup (pv 0) pe_int (fun _ _ => rfl)) pe_non (nomark _)) (pss_one (ps_ret (pe_mkD (K := K) (E := fun _ => E0) (n := 2) (ks := ["descending"]) rfl (ok_Sort___init__ (K := K) ev) [(("part" : Str), V.non)] (fun us mv ws => us ++ (((mv.drop 0).take 1) ++ ((ws.drop 0).take 1))) (List.Sublist.subset (show List.Sublist ([(("part" : Str), V.non)] : List (Str × V)) (He.DefD.kws K d_Sort___init__) from (.cons₂ _ (.cons _ .slnil)))) (List.cons_ne_nil _ _) (hr.mono (by decide)) (fun σ => by first | exact pass_no | exact pass_cx) rfl (pa_cons (pe_ix ix_tup (pv 0) pe_int (fun _ _ => rfl)) (pa_cons (pe_ix ix_tup (pv 0) pe_int (fun _ _ => rfl)) pa_nil)) (pk_cons (pe_ix ix_tup (pv 0) pe_int (fun _ _ => rfl)) pk_nil) (fun _ _ _ _ _ _ _ us mv ws h1 h2 h3 => match us, mv, ws, h1, h2, h3 with | [_, _], [_], [_], _, _, _ => ⟨_, _, _, _, _, _, rfl, rfl, (kwEnd rfl)⟩) (fun r1 rm r2 => r1.append (((rm.drop 0).take 1).append ((r2.drop 0).take 1))))))
  pss_nil)
  (pss_cons (ps_if (pt_not (pt_val (pe_ix ix_tup (pv 0) pe_int (fun _ _ => rfl)))) (pss_one (ps_ret (pe_mkD (K := K) (E := fun _ => E0) (n := 2) (ks := ["part"]) rfl (ok_Sort___init__ (K := K) ev) [(("descending" : Str), V.bl false)] (fun us mv ws => us ++ (((ws.drop 0).take 1) ++ ((mv.drop 0).take 1))) (List.Sublist.subset (show List.Sublist ([(("descending" : Str), V.bl false)] : List (Str × V)) (He.DefD.kws K d_Sort___init__) from (.cons _ (.cons₂ _ .slnil)))) (List.cons_ne_nil _ _) (hr.mono (by decide)) (fun σ => by first | exact pass_no | exact pass_cx) rfl (pa_cons (pe_ix ix_tup (pv 0) pe_int (fun _ _ => rfl)) (pa_cons (pe_ix ix_tup (pv 0) pe_int (fun _ _ => rfl)) pa_nil)) (pk_cons (pe_ix ix_tup (pv 0) pe_int (fun _ _ => rfl)) pk_nil) (fun _ _ _ _ _ _ _ us mv ws h1 h2 h3 => match us, mv, ws, h1, h2, h3 with | [_, _], [_], [_], _, _, _ => ⟨_, _, _, _, _, _, rfl, rfl, (kwEnd rfl)⟩) (fun r1 rm r2 => r1.append (((r2.drop 0).take 1).append ((rm.drop 0).take 1))))))
  pss_nil)
  (pss_one (ps_ret (pe_mkM (K := K) (E := fun _ => E0) (n := 2) (ks := ["descending", "part"]) rfl (ok_Sort___init__ (K := K) ev) (fun us ws => us ++ (match ws with | [a0, a1] => [a1, a0] | l => l)) (hr.mono (by decide)) (fun σ => by first | exact pass_no | exact pass_cx) rfl (pa_cons (pe_ix ix_tup (pv 0) pe_int (fun _ _ => rfl)) (pa_cons (pe_ix ix_tup (pv 0) pe_int (fun _ _ => rfl)) pa_nil)) (pk_cons pe_bl (pk_cons (pe_ix ix_tup (pv 0) pe_int (fun _ _ => rfl)) pk_nil)) (fun _ _ _ _ _ _ _ us ws h1 h2 => match us, ws, h1, h2 with | [_, _], [_, _], _, _ => rfl) (fun ra rb => ra.append ((fun t => by (cases t with | nil => exact .nil | cons r0 t => (cases t with | nil => exact (.cons r0 .nil) | cons r1 t => (cases t with | nil => exact (.cons r1 (.cons r0 .nil)) | cons r2 u => exact (.cons r0 (.cons r1 (.cons r2 u))))))) rb)))))))), ?_⟩)
  · first | (obtain ⟨rfl, _⟩ := h; rfl) | (obtain ⟨_, rfl, _⟩ := h; rfl) | (obtain ⟨_, _, rfl, _⟩ := h; rfl) | (obtain ⟨_, _, _, rfl, _⟩ := h; rfl) | (obtain ⟨_, _, _, _, rfl, _⟩ := h; rfl) | (obtain ⟨_, _, _, _, _, rfl, _⟩ := h; rfl) | (obtain ⟨_, _, _, _, _, _, rfl, _⟩ := h; rfl) | (obtain ⟨_, _, _, _, _, _, _, rfl, _⟩ := h; rfl) | (obtain ⟨_, _, _, _, _, _, _, _, rfl, _⟩ := h; rfl) | (obtain ⟨_, _, _, _, _, _, _, _, _, rfl, _⟩ := h; rfl) | (obtain ⟨_, _, _, _, _, _, _, _, _, _, rfl, _⟩ := h; rfl) | (obtain ⟨_, _, _, _, _, _, _, _, _, _, _, rfl, _⟩ := h; rfl) | (obtain ⟨_, _, _, _, _, _, _, _, _, _, _, _, rfl, _⟩ := h; rfl) | (obtain ⟨_, _, _, _, _, _, _, _, _, _, _, _, _, rfl, _⟩ := h; rfl) | (obtain ⟨_, _, _, _, _, _, _, _, _, _, _, _, _, _, rfl, _⟩ := h; rfl) | (obtain ⟨_, _, _, _, _, _, _, _, _, _, _, _, _, _, _, rfl, _⟩ := h; rfl)
  · obtain ⟨p, s, rfl, e, q⟩ := h
    obtain ⟨n, k, pa, de⟩ := s
    have e2 : H p = some (.tup [.str n, .str k, oS pa, .bl de]) := e
    walk_at "wp"
    refine ix_t (SqT.of e2) (v := oS pa) rfl ?_
    cases pa with
    | none =>
      walk_at "wp"
      refine ix_t (SqT.of e2) (v := .bl de) rfl ?_
      walk_at "wp"
      cases de with
      | false =>
        walk_at "wp"
        refine ix_t (SqT.of e2) (v := .str n) rfl ?_
        walk_at "wp"
        refine ix_t (SqT.of e2) (v := .str k) rfl ?_
        walk_at "wp"
        refine mkM_l rfl rfl fun x dx hx1 hx2 hne => ⟨x, dx, ⟨n, k, none, false⟩, rfl, upd_same, rfl, sort_made hx1 hx2 q⟩
      | true =>
        walk_at "wp"
        refine ix_t (SqT.of e2) (v := oS none) rfl ?_
        walk_at "wp"
        refine ix_t (SqT.of e2) (v := .str n) rfl ?_
        walk_at "wp"
        refine ix_t (SqT.of e2) (v := .str k) rfl ?_
        walk_at "wp"
        refine ix_t (SqT.of e2) (v := .bl true) rfl ?_
        walk_at "wp"
        refine mkM_l rfl rfl fun x dx hx1 hx2 hne => ⟨x, dx, ⟨n, k, none, true⟩, rfl, upd_same, rfl, sort_made hx1 hx2 q⟩
    | some w =>
      walk_at "wp"
      refine ix_t (SqT.of e2) (v := oS (some w)) rfl ?_
      walk_at "wp"
      refine ix_t (SqT.of e2) (v := .bl de) rfl ?_
      walk_at "wp"
      cases de with
      | false =>
        walk_at "wp"
        refine ix_t (SqT.of e2) (v := .str n) rfl ?_
        walk_at "wp"
        refine ix_t (SqT.of e2) (v := .str k) rfl ?_
        walk_at "wp"
        refine ix_t (SqT.of e2) (v := .str w) rfl ?_
        walk_at "wp"
        refine mkM_l rfl rfl fun x dx hx1 hx2 hne => ⟨x, dx, ⟨n, k, some w, false⟩, rfl, upd_same, rfl, sort_made hx1 hx2 q⟩
      | true =>
        walk_at "wp"
        refine ix_t (SqT.of e2) (v := .str n) rfl ?_
        walk_at "wp"
        refine ix_t (SqT.of e2) (v := .str k) rfl ?_
        walk_at "wp"
        refine ix_t (SqT.of e2) (v := .str w) rfl ?_
        walk_at "wp"
        refine mkM_l rfl rfl fun x dx hx1 hx2 hne => ⟨x, dx, ⟨n, k, some w, true⟩, rfl, upd_same, rfl, sort_made hx1 hx2 q⟩
theorem ok__law_changed (ev : E K mg) : My.Callee P w K mg base CX0 3 d__law_changed ["_law_draws", "_law_spec_here"] spChanged := by
  obtain ⟨fd, F⟩ := ev.e.c.def_ 29 (d := d__law_changed) rfl
  refine ⟨_, fd, ?_, ev.glo 19, F.kp, F.bindsN fun _ _ _ _ _ _ us hl => match us, hl with | [_, _], _ => rfl, F⟩
  refine F.ok sc__law_changed (fun vs H Q Ex h => ?_) (fun cdv A outer s H vs Q Ex hr h => ⟨_, PSs.nox
    (pss_cons (ps_setLc (i := 2) (own := [("_law_one", 7)]) (g := (gName 7)) (tt := tYes) rfl sc__law_changed.nd rfl rfl (sw_true rfl rfl rfl (by decide +kernel)) (pi_list (pe_ix ix_list (pv 1) pe_int (fun _ _ => rfl))) (blkOk_by (own := [("_law_one", 7)]) (N := ["_law_draws", "_law_spec_here", "_law_sorts", "_law_kinds", "_law_fresh", "_law_at", "_law_way", "_law_one", "_law_words"]) (sc := defScope s__law_changed) (by decide +kernel)) (fun _ _ _ _ _ => (pg_name (i := 7) sc__law_changed.nd rfl (Or.inl rfl))) (fun _ _ _ _ _ => pts_nil) (fun _ _ _ _ _ => (pe_callTy (r := rListOf K) call_listOf rfl (free_list ev) (by decide +kernel) (pa_cons (pv 7) pa_nil))))
  (pss_cons (ps_setLc (i := 3) (own := [("_law_words", 8)]) (g := (gName 8)) (tt := tYes) rfl sc__law_changed.nd rfl rfl (sw_true rfl rfl rfl (by decide +kernel)) (pi_list (pe_slice sl_list (pv 1) (po_some pe_int) po_none)) (blkOk_by (own := [("_law_words", 8)]) (N := ["_law_draws", "_law_spec_here", "_law_sorts", "_law_kinds", "_law_fresh", "_law_at", "_law_way", "_law_one", "_law_words"]) (sc := defScope s__law_changed) (by decide +kernel)) (fun _ _ _ _ _ => (pg_name (i := 8) sc__law_changed.nd rfl (Or.inl rfl))) (fun _ _ _ _ _ => pts_nil) (fun _ _ _ _ _ => (pe_callTy (r := rListOf K) call_listOf rfl (free_list ev) (by decide +kernel) (pa_cons (pv 8) pa_nil))))
  (pss_cons (ps_set (i := 4) sc__law_changed.nd rfl (Or.inl rfl) (pe_fn (ok__law_name ev) (hr.mono (by decide)) rfl (pa_cons (pv 0) (pa_cons (pe_op op_cat (pe_fn (ok__law_columns ev) (hr.mono (by decide)) rfl (pa_cons (pv 1) pa_nil)) (pe_lc (own := [("_law_one", 7)]) (g := (gName 7)) (tt := tYes) rfl sc__law_changed.nd (pi_list (pe_ix ix_list (pv 1) pe_int (fun _ _ => rfl))) (blkOk_by (own := [("_law_one", 7)]) (N := ["_law_draws", "_law_spec_here", "_law_sorts", "_law_kinds", "_law_fresh", "_law_at", "_law_way", "_law_one", "_law_words"]) (sc := defScope s__law_changed) (by decide +kernel)) (fun _ _ _ _ _ => (pg_name (i := 7) sc__law_changed.nd rfl (Or.inl rfl))) (fun _ _ _ _ _ => pts_nil) (fun _ _ _ _ _ => (pe_ix (r := rIxT K) ix_tup (pv 7) pe_int (fun _ _ => rfl))))) pa_nil))))
  (pss_cons (ps_set (i := 5) sc__law_changed.nd rfl (Or.inl rfl) (pe_fn (ok__law_draw ev) (hr.mono (by decide)) rfl (pa_cons (pv 0) (pa_cons (pe_callB call_lenR rfl (free_len ev) (by decide +kernel) (pa_cons (pv 2) pa_nil)) pa_nil))))
  (pss_cons (ps_set (i := 6) sc__law_changed.nd rfl (Or.inl rfl) (pe_fn (ok__law_draw ev) (hr.mono (by decide)) rfl (pa_cons (pv 0) (pa_cons pe_int pa_nil))))
  (Evl.pss_cut (ps_if (pt_cmpR op_eq (pv 6) pe_int (nomark _)) (pss_one (ps_asg (pe_not (pe_ix ix_list (pe_ix ix_list (pv 2) (pv 5) (fun _ _ => rfl)) pe_int (fun _ _ => rfl))) (pg_sub (pe_ix ix_list (pv 2) (pv 5) (fun _ _ => rfl)) pe_int set_list)))
  pss_nil)
  (Evl.pss_cut (ps_if (pt_cmpR op_eq (pv 6) pe_int (nomark _)) (pss_one (ps_asg (pv 4) (pg_sub (pe_ix ix_list (pv 2) (pv 5) (fun _ _ => rfl)) pe_int set_list)))
  pss_nil)
  (Evl.pss_cut (ps_if (pt_cmpR op_eq (pv 6) pe_int (nomark _)) (pss_one (ps_asg (pv 4) (pg_sub (pe_ix ix_list (pv 2) (pv 5) (fun _ _ => rfl)) pe_int set_list)))
  pss_nil)
  (Evl.pss_cut (ps_if (pt_cmpR op_eq (pv 6) pe_int (nomark _)) (pss_one (ps_asg (pe_ix ix_list (pe_op op_cat (pe_lst (pa_cons pe_non pa_nil)) (pe_ix ix_list (pv 3) pe_int (fun _ _ => rfl))) (pe_fn (ok__law_draw ev) (hr.mono (by decide)) rfl (pa_cons (pv 0) (pa_cons (pe_op op_add (pe_callB call_lenR rfl (free_len ev) (by decide +kernel) (pa_cons (pe_ix ix_list (pv 3) pe_int (fun _ _ => rfl)) pa_nil)) pe_int) pa_nil))) (fun _ _ => rfl)) (pg_sub (pe_ix ix_list (pv 2) (pv 5) (fun _ _ => rfl)) pe_int set_list)))
  pss_nil)
  (Evl.pss_cut (ps_if (pt_cmpR op_eq (pv 6) pe_int (nomark _)) (pss_one (ps_set (i := 2) sc__law_changed.nd rfl (Or.inl rfl) (pe_revL (pv 2))))
  pss_nil)
  (Evl.pss_cut (ps_if (pt_cmpR op_eq (pv 6) pe_int (nomark _)) (pss_one (ps_asg (pe_revL (pe_ix ix_list (pv 3) pe_int (fun _ _ => rfl))) (pg_sub (pv 3) pe_int set_list)))
  pss_nil)
  (Evl.pss_cut (ps_if (PW.pt (pw_and (pt_cmpR op_eq (pv 6) pe_int (nomark _)) (pw_and (pt_cmpR op_gt (pe_callB call_lenR rfl (free_len ev) (by decide +kernel) (pa_cons (pe_ix ix_list (pv 3) pe_int (fun _ _ => rfl)) pa_nil)) pe_int (nomark _)) (pw_and1 (pt_cmpR op_lt (pe_callB call_lenR rfl (free_len ev) (by decide +kernel) (pa_cons (pe_ix ix_list (pv 3) pe_int (fun _ _ => rfl)) pa_nil)) pe_int (nomark _)))))) (pss_one (ps_expr (pe_bm PySem.F.plainAttrs_list PySem.F.slot_list_append PySem.F.type_list_append mt_append (pe_ix ix_list (pv 3) pe_int (fun _ _ => rfl)) (pa_cons (pe_bm0 PySem.F.plainAttrs_list PySem.F.slot_list_pop PySem.F.type_list_pop (r := rPop) mt_popK (pe_ix ix_list (pv 3) pe_int (fun _ _ => rfl))) pa_nil))))
  pss_nil)
  (Evl.pss_cut (ps_if (PW.pt (pw_and (pt_cmpR op_eq (pv 6) pe_int (nomark _)) (pw_and1 (pt_cmpR op_lt (pe_callB call_lenR rfl (free_len ev) (by decide +kernel) (pa_cons (pe_ix ix_list (pv 3) pe_int (fun _ _ => rfl)) pa_nil)) pe_int (nomark _))))) (pss_one (ps_expr (pe_bm PySem.F.plainAttrs_list PySem.F.slot_list_append PySem.F.type_list_append mt_append (pe_ix ix_list (pv 3) pe_int (fun _ _ => rfl)) (pa_cons (pv 4) pa_nil))))
  pss_nil)
  (Evl.pss_cut (ps_if (PW.pt (pw_and (pt_cmpR op_eq (pv 6) pe_int (nomark _)) (pw_and1 (pt_cmpR op_lt (pe_callB call_lenR rfl (free_len ev) (by decide +kernel) (pa_cons (pe_ix ix_list (pv 3) pe_int (fun _ _ => rfl)) pa_nil)) pe_int (nomark _))))) (pss_one (ps_expr (pe_bm PySem.F.plainAttrs_list PySem.F.slot_list_append PySem.F.type_list_append mt_append (pe_ix ix_list (pv 3) pe_int (fun _ _ => rfl)) (pa_cons (pv 4) pa_nil))))
  pss_nil)
  (Evl.pss_cut (ps_if (pt_cmpR op_gt (pv 6) pe_int (nomark _)) (pss_one (ps_expr (pe_bm0 PySem.F.plainAttrs_list PySem.F.slot_list_reverse PySem.F.type_list_reverse (r := rReverse) mt_reverseK (pe_ix ix_list (pv 3) (pe_ix ix_list (pe_lst (pa_cons pe_int (pa_cons pe_int pa_nil))) (pe_op op_sub (pv 6) pe_int) (fun _ _ => rfl)) (fun _ _ => rfl)))))
  pss_nil)
  (pss_one (ps_ret (pe_op op_cat (pe_lst (pa_cons (pe_lc (own := [("_law_one", 7)]) (g := (gName 7)) (tt := tYes) rfl sc__law_changed.nd (pi_list (pv 2)) (blkOk_by (own := [("_law_one", 7)]) (N := ["_law_draws", "_law_spec_here", "_law_sorts", "_law_kinds", "_law_fresh", "_law_at", "_law_way", "_law_one", "_law_words"]) (sc := defScope s__law_changed) (by decide +kernel)) (fun _ _ _ _ _ => (pg_name (i := 7) sc__law_changed.nd rfl (Or.inl rfl))) (fun _ _ _ _ _ => pts_nil) (fun _ _ _ _ _ => (pe_callTy (r := rTupOf K) call_tupOf rfl (free_tuple ev) (by decide +kernel) (pa_cons (pv 7) pa_nil)))) pa_nil)) (pv 3))))))))))))))))))), ?_⟩)
  · first | (obtain ⟨rfl, _⟩ := h; rfl) | (obtain ⟨_, rfl, _⟩ := h; rfl) | (obtain ⟨_, _, rfl, _⟩ := h; rfl) | (obtain ⟨_, _, _, rfl, _⟩ := h; rfl) | (obtain ⟨_, _, _, _, rfl, _⟩ := h; rfl) | (obtain ⟨_, _, _, _, _, rfl, _⟩ := h; rfl) | (obtain ⟨_, _, _, _, _, _, rfl, _⟩ := h; rfl) | (obtain ⟨_, _, _, _, _, _, _, rfl, _⟩ := h; rfl) | (obtain ⟨_, _, _, _, _, _, _, _, rfl, _⟩ := h; rfl) | (obtain ⟨_, _, _, _, _, _, _, _, _, rfl, _⟩ := h; rfl) | (obtain ⟨_, _, _, _, _, _, _, _, _, _, rfl, _⟩ := h; rfl) | (obtain ⟨_, _, _, _, _, _, _, _, _, _, _, rfl, _⟩ := h; rfl) | (obtain ⟨_, _, _, _, _, _, _, _, _, _, _, _, rfl, _⟩ := h; rfl) | (obtain ⟨_, _, _, _, _, _, _, _, _, _, _, _, _, rfl, _⟩ := h; rfl) | (obtain ⟨_, _, _, _, _, _, _, _, _, _, _, _, _, _, rfl, _⟩ := h; rfl) | (obtain ⟨_, _, _, _, _, _, _, _, _, _, _, _, _, _, _, rfl, _⟩ := h; rfl)
  · obtain ⟨a, ac, ar, r, l0, P0, V0, M0, rfl, D, Y, G0, q⟩ := h
    obtain ⟨ls, lp, lv, lm, us, X⟩ := Y
    obtain ⟨z1, z2, z3, z4⟩ := G0.sz
    have zP := G0.c.lP
    have zV := G0.c.lV
    have zM := G0.c.lM
    have lc := cols_len l0 P0 V0 M0
    obtain ⟨bs, rfl⟩ := X.rw.refs
    have lbs : bs.length = l0.length := by rw [← X.rw.len, List.length_map]
    walk_at "wp"
    refine ix_l (SqL.of X.er) (v := .ref ls) rfl ?_
    refine lc_copy (cont := l0.map rowV) (SqL.of X.es) (by omega) (rowsT_at X.rw K) (fun p => rfl) (fun b xs H' Q' h k => ?_) fun s0 ps H4 h4 e4 lps' nd4 g4 F4 => ?_
    · walk_at "wp"
      exact listOf_l h k
    have X4 := X.f0 F4
    walk_at "wp"
    refine slQ (SqL.of X4.er) (ys := [lp, lv, lm].map V.ref) rfl fun q1 H5 h5 e5 F5 => ?_
    have X5 := X4.f0 F5
    refine lc_copy (cont := [P0.map V.str, V0.map V.str, M0.map V.str]) (SqL.of e5) (by show 3 ≤ 1000; decide) (fun i b e => ?_) (fun p => rfl) (fun b xs H' Q' h k => ?_) fun k0 qs H6 h6 e6 lqs nd6 g6 F6 => ?_
    · match i, e with
      | 0, e => cases e; exact ⟨_, rfl, .inl (SqL.of X5.ep)⟩
      | 1, e => cases e; exact ⟨_, rfl, .inl (SqL.of X5.ev)⟩
      | 2, e => cases e; exact ⟨_, rfl, .inl (SqL.of X5.em)⟩
      | i + 3, e => cases e
    · walk_at "wp"
      exact listOf_l h k
    obtain ⟨kp, kv, km, rfl⟩ : ∃ kp kv km, qs = [kp, kv, km] := by
      match qs, lqs with
      | [x, y, z], _ => exact ⟨x, y, z, rfl⟩
    have gp := g6 0 kp _ rfl rfl
    have gv := g6 1 kv _ rfl rfl
    have gm := g6 2 km _ rfl rfl
    have gr : ∀ b ∈ s0 :: ps, H b = none ∧ ∃ o, H5 b = some o := by
      intro b hb
      rcases List.mem_cons.mp hb with rfl | hb
      · exact ⟨h4, F5.dom e4⟩
      · obtain ⟨j, hj⟩ := List.getElem?_of_mem hb
        have hj' := (List.getElem?_eq_some_iff.mp hj).1
        obtain ⟨g1, g2⟩ := g4 j b (rowV l0[j]) hj (by rw [List.getElem?_map, List.getElem?_eq_getElem (by omega)]; rfl)
        exact ⟨g1, F5.dom g2⟩
    have gk : ∀ b ∈ k0 :: kp :: kv :: km :: [], H5 b = none := by
      intro b hb
      simp only [List.mem_cons, List.not_mem_nil, or_false] at hb
      rcases hb with rfl | rfl | rfl | rfl
      · exact h6
      · exact gp.1
      · exact gv.1
      · exact gm.1
    have F05 := F4.trans F5
    have F06 := F05.trans F6
    have D5 := D.f0 F05
    have D6 := D5.f0 F6
    have dd : a ≠ ac ∧ a ≠ ar ∧ ac ≠ ar := ⟨D.n1, D.n2, D.n3⟩
    have nd : (a :: ac :: ar :: s0 :: k0 :: kp :: kv :: km :: ps).Nodup := nd_of (H := H5) (H' := H5) dd nd4 nd6 (fun b hb => D.free3 (gr b hb).1) (fun b hb => D5.free3 (gk b hb)) fun b hb c hc z => by
      obtain ⟨_, o, eo⟩ := gr b hb
      rw [z, gk c hc] at eo
      cases eo
    have F46 := F5.trans F6
    have C : CT H H6 a ac ar s0 k0 kp kv km ps l0 P0 V0 M0 := ⟨⟨F46.1 _ _ (by simp) e4, rw_of (by omega) fun i c xs a b => F46.1 _ _ (by simp) (g4 i c xs a b).2, e6, gp.2, gv.2, gm.2, by omega, by omega, by omega, by omega⟩, nd, fun b hb => by
      simp only [List.mem_cons] at hb
      rcases hb with rfl | rfl | rfl | rfl | rfl | hb
      · exact (gr _ (by simp)).1
      · exact F05.2 _ (gk _ (by simp))
      · exact F05.2 _ (gk _ (by simp))
      · exact F05.2 _ (gk _ (by simp))
      · exact F05.2 _ (gk _ (by simp))
      · exact (gr _ (by simp [hb])).1, D6, F06.mono (by simp)⟩
    have X6 := X5.f0 F6
    clear gr gk gp gv gm g4 g6 e4 e6 nd4 nd6 h4 h6 F4 F5 F6 F05 F46 X X4 X5 D5 D6 e5 h5 nd
    walk_at "wp"
    refine ⟨[a, ac, ar], r, l0, P0, V0, M0, rfl, ⟨ls, lp, lv, lm, _, X6⟩, G0.sz, fun cq H7 h7 e7 F7 => ?_⟩
    have X7 := X6.f0 F7
    have C7 := C.f0 F7
    walk_at "wp"
    refine ix_l (SqL.of X7.er) (v := .ref ls) rfl ?_
    refine lc_rt (fun s => .str s.n) X7.es X7.rw (by omega) (fun p => rfl) (fun s p H' Q' e k => ?_) fun nq H8 h8 e8 F8 => ?_
    · walk_at "wp"
      exact ix_t (SqT.of e) rfl k
    have C8 := C7.f0 F8
    walk_at "wp"
    refine catQ (F8.1 _ _ (by simp) e7) e8 (zs := (cols l0 P0 V0 M0 ++ l0.map So.n).map V.str) (by simp [Function.comp_def]) (by simp only [List.length_map, List.length_append]; omega) fun tq H9 h9 e9 F9 => ?_
    have C9 := C8.f0 F9
    walk_at "wp"
    refine ⟨a, ac, ar, tq, _, rfl, C9.D, e9, sub3 (C8.D.free3 h9), by simp only [List.length_append, List.length_map]; omega, fun w H10 gw nw D10 F10 => ?_⟩
    have C10 := C9.f F10 D10
    walk_at "wp"
    refine len_l (SqL.of C10.T.es) ?_
    walk_at "wp"
    rw [List.length_map, lps C10]
    have hh := G0.h
    refine ⟨a, ac, ar, _, rfl, by omega, by omega, C10.D, fun g H11 g0 g1 D11 F11 => ?_⟩
    have C11 := C10.f F11 D11
    walk_at "wp"
    refine ⟨a, ac, ar, _, rfl, by decide, by decide, C11.D, fun y H12 y0 y1 D12 F12 => ?_⟩
    have C12 := C11.f F12 D12
    walk_at "wp"
    clear C C7 C8 C9 C10 C11 X6 X7 e7 e8 e9 h7 h8 h9 F7 F8 F9 F10 F11 F12 F06 D10 D11 D12
    revert C12
    generalize H12 = HN
    intro C0
    obtain ⟨l, hl⟩ : ∃ l, l = l0 := ⟨_, rfl⟩
    obtain ⟨P, hP⟩ : ∃ P, P = P0 := ⟨_, rfl⟩
    obtain ⟨V', hV⟩ : ∃ V', V' = V0 := ⟨_, rfl⟩
    obtain ⟨M, hM⟩ : ∃ M, M = M0 := ⟨_, rfl⟩
    have keep : (0 : Int) ≤ y → l = l0 ∧ P = P0 ∧ V' = V0 ∧ M = M0 := fun _ => ⟨hl, hP, hV, hM⟩
    have C : CT H HN a ac ar s0 k0 kp kv km ps l P V' M := by rw [hl, hP, hV, hM]; exact C0
    have G : Gd l P V' M := by rw [hl, hP, hV, hM]; exact G0
    have ll : l.length = l0.length := by rw [hl]
    clear hl hP hV hM C0
    refine Evl.q_cut (M := ChW a ac ar r w g y H l0 P0 V0 M0 1) ?_ ?_
    · walk_at "wp"
      split
      · rename_i hy
        obtain ⟨rfl, rfl, rfl, rfl⟩ := keep (by omega)
        obtain ⟨p, ep, gp⟩ := at_ref (ps := ps) (i := g) g0 (by rw [lps C]; omega)
        have hi : g.toNat < l.length := by omega
        obtain ⟨s, gs⟩ : ∃ s, l[g.toNat]? = some s := ⟨_, List.getElem?_eq_getElem hi⟩
        have er := C.at_ gp gs
    
        refine ix_l (SqL.of C.T.es) ep ?_
        walk_at "wp"
        refine ix_l (SqL.of er) (v := .bl s.de) rfl ?_
        walk_at "wp"
        refine ix_l (SqL.of C.T.es) ep ?_
        walk_at "wp"
        refine set_l er rfl ?_
        walk_at "wp"
        exact ⟨s0, k0, kp, kv, km, ps, _, P, V', M, _, _, rfl, C.row (s' := ⟨s.n, s.k, s.pa, !s.de⟩) gp, G.keep gs rfl rfl (fun w e => G.c.pp s (List.mem_of_getElem? gs) w e), by rw [List.length_set], fun h => absurd h (by omega)⟩
      · exact ⟨s0, k0, kp, kv, km, ps, l, P, V', M, _, _, rfl, C, G, ll, fun h => keep (by omega)⟩
    clear keep ll G C
    rintro σ HN ⟨s0, k0, kp, kv, km, ps, l, P, V', M, v7, v8, rfl, C, G, ll, keep⟩
    walk_at "wp"
    refine Evl.q_cut (M := ChW a ac ar r w g y H l0 P0 V0 M0 2) ?_ ?_
    · walk_at "wp"
      split
      · rename_i hy
        obtain ⟨rfl, rfl, rfl, rfl⟩ := keep (by omega)
        obtain ⟨p, ep, gp⟩ := at_ref (ps := ps) (i := g) g0 (by rw [lps C]; omega)
        have hi : g.toNat < l.length := by omega
        obtain ⟨s, gs⟩ : ∃ s, l[g.toNat]? = some s := ⟨_, List.getElem?_eq_getElem hi⟩
        have er := C.at_ gp gs
    
        refine ix_l (SqL.of C.T.es) ep ?_
        walk_at "wp"
        refine set_l er rfl ?_
        walk_at "wp"
        exact ⟨s0, k0, kp, kv, km, ps, _, P, V', M, _, _, rfl, C.row (s' := ⟨w, s.k, s.pa, s.de⟩) gp, G.name gs gw (fun z => nw (List.mem_append.mpr (.inr z))), by rw [List.length_set], fun h => absurd h (by omega)⟩
      · exact ⟨s0, k0, kp, kv, km, ps, l, P, V', M, _, _, rfl, C, G, ll, fun h => keep (by omega)⟩
    clear keep ll G C
    rintro σ HN ⟨s0, k0, kp, kv, km, ps, l, P, V', M, v7, v8, rfl, C, G, ll, keep⟩
    walk_at "wp"
    refine Evl.q_cut (M := ChW a ac ar r w g y H l0 P0 V0 M0 3) ?_ ?_
    · walk_at "wp"
      split
      · rename_i hy
        obtain ⟨rfl, rfl, rfl, rfl⟩ := keep (by omega)
        obtain ⟨p, ep, gp⟩ := at_ref (ps := ps) (i := g) g0 (by rw [lps C]; omega)
        have hi : g.toNat < l.length := by omega
        obtain ⟨s, gs⟩ : ∃ s, l[g.toNat]? = some s := ⟨_, List.getElem?_eq_getElem hi⟩
        have er := C.at_ gp gs
    
        refine ix_l (SqL.of C.T.es) ep ?_
        walk_at "wp"
        refine set_l er rfl ?_
        walk_at "wp"
        exact ⟨s0, k0, kp, kv, km, ps, _, P, V', M, _, _, rfl, C.row (s' := ⟨s.n, w, s.pa, s.de⟩) gp, G.key gs gw (fun z => nw (List.mem_append.mpr (.inl z))), by rw [List.length_set], fun h => absurd h (by omega)⟩
      · exact ⟨s0, k0, kp, kv, km, ps, l, P, V', M, _, _, rfl, C, G, ll, fun h => keep (by omega)⟩
    clear keep ll G C
    rintro σ HN ⟨s0, k0, kp, kv, km, ps, l, P, V', M, v7, v8, rfl, C, G, ll, keep⟩
    walk_at "wp"
    refine Evl.q_cut (M := ChW a ac ar r w g y H l0 P0 V0 M0 4) ?_ ?_
    · walk_at "wp"
      split
      · rename_i hy
        obtain ⟨rfl, rfl, rfl, rfl⟩ := keep (by omega)
        obtain ⟨p, ep, gp⟩ := at_ref (ps := ps) (i := g) g0 (by rw [lps C]; omega)
        have hi : g.toNat < l.length := by omega
        obtain ⟨s, gs⟩ : ∃ s, l[g.toNat]? = some s := ⟨_, List.getElem?_eq_getElem hi⟩
        have er := C.at_ gp gs
    
        refine newQ (by show 1 ≤ 1000; decide) fun q1 H2 h2 e2 F2 => ?_
        walk_at "wp"
        have C2 := C.f0 F2
        refine ix_l (SqL.of C2.T.ek) (v := .ref kp) rfl ?_
        have zP := C2.T.sP
        refine catQ e2 C2.T.ep rfl (by simp only [List.length_append, List.length_cons, List.length_nil, List.length_map]; omega) fun q2 H3 h3 e3 F3 => ?_
        have C3 := C2.f0 F3
        have nq2 := C2.D.free3 h3
        walk_at "wp"
        refine ix_l (SqL.of C3.T.ek) (v := .ref kp) rfl ?_
        walk_at "wp"
        refine len_l (SqL.of C3.T.ep) ?_
        walk_at "wp"
        rw [List.length_map]
        refine ⟨a, ac, ar, _, rfl, by omega, by omega, C3.D, fun u H4 u0 u1 D4 F4 => ?_⟩
        have C4 := C3.f F4 D4
        obtain ⟨pa, epa, hpa⟩ := at_opt (P := P) u0 (by omega)
        refine ix_l (SqL.of (F4.1 _ _ (sub3 nq2) e3)) epa ?_
        walk_at "wp"
        refine ix_l (SqL.of C4.T.es) ep ?_
        walk_at "wp"
        refine set_l (C4.at_ gp gs) rfl ?_
        walk_at "wp"
        exact ⟨s0, k0, kp, kv, km, ps, _, P, V', M, _, _, rfl, C4.row (s' := ⟨s.n, s.k, pa, s.de⟩) gp, G.keep gs rfl rfl hpa, by rw [List.length_set], fun h => absurd h (by omega)⟩
      · exact ⟨s0, k0, kp, kv, km, ps, l, P, V', M, _, _, rfl, C, G, ll, fun h => keep (by omega)⟩
    clear keep ll G C
    rintro σ HN ⟨s0, k0, kp, kv, km, ps, l, P, V', M, v7, v8, rfl, C, G, ll, keep⟩
    walk_at "wp"
    refine Evl.q_cut (M := ChW a ac ar r w g y H l0 P0 V0 M0 5) ?_ ?_
    · walk_at "wp"
      split
      · rename_i hy
        obtain ⟨rfl, rfl, rfl, rfl⟩ := keep (by omega)
        refine revQ (SqL.of C.T.es) fun q1 H2 h2 e2 F2 => ?_
        walk_at "wp"
        exact ⟨q1, k0, kp, kv, km, ps.reverse, l.reverse, P, V', M, _, _, rfl, C.rev h2 e2 F2, G.rev, by rw [List.length_reverse], fun h => absurd h (by omega)⟩
      · exact ⟨s0, k0, kp, kv, km, ps, l, P, V', M, _, _, rfl, C, G, ll, fun h => keep (by omega)⟩
    clear keep ll G C
    rintro σ HN ⟨s0, k0, kp, kv, km, ps, l, P, V', M, v7, v8, rfl, C, G, ll, keep⟩
    walk_at "wp"
    refine Evl.q_cut (M := ChW a ac ar r w g y H l0 P0 V0 M0 6) ?_ ?_
    · walk_at "wp"
      split
      · rename_i hy
        obtain ⟨rfl, rfl, rfl, rfl⟩ := keep (by omega)
        refine ix_l (SqL.of C.T.ek) (v := .ref kv) rfl ?_
        walk_at "wp"
        refine revQ (SqL.of C.T.ev) fun q1 H2 h2 e2 F2 => ?_
        walk_at "wp"
        have C2 := C.f0 F2
        refine set_l C2.T.ek rfl ?_
        walk_at "wp"
        rw [← List.map_reverse] at e2
        exact ⟨s0, k0, kp, q1, km, ps, l, P, V'.reverse, M, _, _, rfl, C.newV h2 e2 F2, G.perm (.refl _) (List.reverse_perm _) (.refl _), rfl, fun h => absurd h (by omega)⟩
      · exact ⟨s0, k0, kp, kv, km, ps, l, P, V', M, _, _, rfl, C, G, ll, fun h => keep (by omega)⟩
    clear keep ll G C
    rintro σ HN ⟨s0, k0, kp, kv, km, ps, l, P, V', M, v7, v8, rfl, C, G, ll, keep⟩
    walk_at "wp"
    refine Evl.q_cut (M := ChW a ac ar r w g y H l0 P0 V0 M0 7) ?_ ?_
    · walk_at "wp"
      split
      · rename_i hy
        obtain ⟨rfl, rfl, rfl, rfl⟩ := keep (by omega)
        refine ix_l (SqL.of C.T.ek) (v := .ref km) rfl ?_
        walk_at "wp"
        refine len_l (SqL.of C.T.em) ?_
        walk_at "wp"
        rw [List.length_map]
        split
        · rename_i hm
          refine ix_l (SqL.of C.T.ek) (v := .ref kv) rfl ?_
          walk_at "wp"
          refine len_l (SqL.of C.T.ev) ?_
          walk_at "wp"
          rw [List.length_map]
          split
    
          · rename_i hv
            obtain ⟨M1, m, rfl⟩ : ∃ M1 m, M = M1 ++ [m] := ⟨M.dropLast, M.getLast (fun z => by rw [z] at hm; simp at hm), (List.dropLast_concat_getLast _).symm⟩
            refine ix_l (SqL.of C.T.ek) (v := .ref kv) rfl ?_
            walk_at "wp"
            refine ⟨tyL C.T.ev, ix_l (SqL.of C.T.ek) (v := .ref km) rfl ?_⟩
            walk_at "wp"
            refine ⟨tyL C.T.em, pop_l (xs := M1.map V.str) (y := .str m) (by rw [C.T.em]; simp) ?_⟩
            have C2 := C.kM (X := M1) (by have := C.T.sM; rw [List.length_append] at this; omega)
            walk_at "wp"
            have zV := C2.T.sV
            refine app_l C2.T.ev (ltl (by rw [List.length_map]; omega)) ?_
            walk_at "wp"
            have C3 := C2.kV (X := V' ++ [m]) (by rw [List.length_append]; show V'.length + 1 ≤ 3; omega)
            rw [List.map_append] at C3
            exact ⟨s0, k0, kp, kv, km, ps, l, P, V' ++ [m], M1, _, _, rfl, C3, G.move (by omega), rfl, fun h => absurd h (by omega)⟩
          · exact ⟨s0, k0, kp, kv, km, ps, l, P, V', M, _, _, rfl, C, G, rfl, fun h => absurd h (by omega)⟩
        · exact ⟨s0, k0, kp, kv, km, ps, l, P, V', M, _, _, rfl, C, G, rfl, fun h => absurd h (by omega)⟩
      · exact ⟨s0, k0, kp, kv, km, ps, l, P, V', M, _, _, rfl, C, G, ll, fun h => keep (by omega)⟩
    clear keep ll G C
    rintro σ HN ⟨s0, k0, kp, kv, km, ps, l, P, V', M, v7, v8, rfl, C, G, ll, keep⟩
    walk_at "wp"
    refine Evl.q_cut (M := ChW a ac ar r w g y H l0 P0 V0 M0 8) ?_ ?_
    · walk_at "wp"
      split
      · rename_i hy
        obtain ⟨rfl, rfl, rfl, rfl⟩ := keep (by omega)
        refine ix_l (SqL.of C.T.ek) (v := .ref km) rfl ?_
        walk_at "wp"
        refine len_l (SqL.of C.T.em) ?_
        walk_at "wp"
        rw [List.length_map]
        split
        · rename_i hm
          refine ix_l (SqL.of C.T.ek) (v := .ref km) rfl ?_
          walk_at "wp"
          refine ⟨tyL C.T.em, app_l C.T.em (ltl (by rw [List.length_map]; omega)) ?_⟩
          walk_at "wp"
          have C3 := C.kM (X := M ++ [w]) (by rw [List.length_append]; show M.length + 1 ≤ 3; omega)
          rw [List.map_append] at C3
          exact ⟨s0, k0, kp, kv, km, ps, l, P, V', M ++ [w], _, _, rfl, C3, G.addM gw (fun z => nw (List.mem_append.mpr (.inl z))) (by omega), rfl, fun h => absurd h (by omega)⟩
        · exact ⟨s0, k0, kp, kv, km, ps, l, P, V', M, _, _, rfl, C, G, rfl, fun h => absurd h (by omega)⟩
      · exact ⟨s0, k0, kp, kv, km, ps, l, P, V', M, _, _, rfl, C, G, ll, fun h => keep (by omega)⟩
    clear keep ll G C
    rintro σ HN ⟨s0, k0, kp, kv, km, ps, l, P, V', M, v7, v8, rfl, C, G, ll, keep⟩
    walk_at "wp"
    refine Evl.q_cut (M := ChW a ac ar r w g y H l0 P0 V0 M0 9) ?_ ?_
    · walk_at "wp"
      split
      · rename_i hy
        obtain ⟨rfl, rfl, rfl, rfl⟩ := keep (by omega)
        refine ix_l (SqL.of C.T.ek) (v := .ref kp) rfl ?_
        walk_at "wp"
        refine len_l (SqL.of C.T.ep) ?_
        walk_at "wp"
        rw [List.length_map]
        split
        · rename_i hm
          refine ix_l (SqL.of C.T.ek) (v := .ref kp) rfl ?_
          walk_at "wp"
          refine ⟨tyL C.T.ep, app_l C.T.ep (ltl (by rw [List.length_map]; omega)) ?_⟩
          walk_at "wp"
          have C3 := C.kP (X := P ++ [w]) (by rw [List.length_append]; show P.length + 1 ≤ 3; omega)
          rw [List.map_append] at C3
          exact ⟨s0, k0, kp, kv, km, ps, l, P ++ [w], V', M, _, _, rfl, C3, G.addP gw (fun z => nw (List.mem_append.mpr (.inl z))) (by omega), rfl, fun h => absurd h (by omega)⟩
        · exact ⟨s0, k0, kp, kv, km, ps, l, P, V', M, _, _, rfl, C, G, rfl, fun h => absurd h (by omega)⟩
      · exact ⟨s0, k0, kp, kv, km, ps, l, P, V', M, _, _, rfl, C, G, ll, fun h => keep (by omega)⟩
    clear keep ll G C
    rintro σ HN ⟨s0, k0, kp, kv, km, ps, l, P, V', M, v7, v8, rfl, C, G, ll, keep⟩
    walk_at "wp"
    refine Evl.q_cut (M := ChW a ac ar r w g y H l0 P0 V0 M0 11) ?_ ?_
    · walk_at "wp"
      split
      · rename_i hy
        obtain ⟨rfl, rfl, rfl, rfl⟩ := keep (by omega)
        refine newQ (by show 2 ≤ 1000; decide) fun q1 H2 h2 e2 F2 => ?_
        walk_at "wp"
        have C2 := C.f0 F2
        obtain rfl | rfl : y = 9 ∨ y = 10 := by omega
        · refine ix_l (SqL.of e2) (v := .int 0) rfl ?_
          walk_at "wp"
          refine ix_l (SqL.of C2.T.ek) (v := .ref kp) rfl ?_
          walk_at "wp"
          refine ⟨tyL C2.T.ep, rev_l C2.T.ep ?_⟩
          walk_at "wp"
          have C3 := C2.kP (X := P.reverse) (by rw [List.length_reverse]; exact C2.T.sP)
          rw [List.map_reverse] at C3
          exact ⟨s0, k0, kp, kv, km, ps, l, P.reverse, V', M, _, _, rfl, C3, G.perm (List.reverse_perm _) (.refl _) (.refl _), rfl, fun h => absurd h (by omega)⟩
        · refine ix_l (SqL.of e2) (v := .int 2) rfl ?_
          walk_at "wp"
          refine ix_l (SqL.of C2.T.ek) (v := .ref km) rfl ?_
          walk_at "wp"
          refine ⟨tyL C2.T.em, rev_l C2.T.em ?_⟩
          walk_at "wp"
          have C3 := C2.kM (X := M.reverse) (by rw [List.length_reverse]; exact C2.T.sM)
          rw [List.map_reverse] at C3
          exact ⟨s0, k0, kp, kv, km, ps, l, P, V', M.reverse, _, _, rfl, C3, G.perm (.refl _) (.refl _) (List.reverse_perm _), rfl, fun h => absurd h (by omega)⟩
      · exact ⟨s0, k0, kp, kv, km, ps, l, P, V', M, _, _, rfl, C, G, ll, fun h => keep (by omega)⟩
    clear keep ll G C
    rintro σ HN ⟨s0, k0, kp, kv, km, ps, l, P, V', M, v7, v8, rfl, C, G, ll, keep⟩
    walk_at "wp"
    
    refine lc_l (S := []) (fun H' => Dr H' a ac ar) (RTt [a, ac, ar] HN) (SqL.of C.T.es) (by simp) (by rw [List.length_map, lps C]; exact Nat.le_trans C.T.sl (by decide)) (by simp) ⟨C.D, fun H' p o hp d => C.D.put_free hp d, fun x y H' H'' f r => ?_, fun x y H' Dl ys zs e r => ?_, fun x H' hx Fx d Qn kq => ?_⟩ fun sq ys H2 h2 e2 kk F2 _ => ?_
    · obtain ⟨p, s, q, e1, e2, e3, e4, e5⟩ := r
      exact ⟨p, s, q, e1, e2, e3, e4, f.1 _ _ (by simp) e5⟩
    · obtain ⟨p, s, q, e1, e2, e3, e4, e5⟩ := r
      exact ⟨p, s, q, e1, e2, e3, e4, (upd_ne (fun z => by rw [z, e] at e5; cases e5)).trans e5⟩
    · obtain ⟨i, hi⟩ := List.getElem?_of_mem hx
      obtain ⟨p, s, rfl, _, er⟩ := C.T.rw.get i x hi
      walk_at "wp"
      refine tupOf_l (SqL.of (Fx.1 _ _ (by simp) er)) fun q' hq' => ?_
      exact kq (some (.ref q')) _ ⟨p, s, q', rfl, er, rfl, d.free3 hq', upd_same⟩ (Fr.new hq') (d.new hq')
    have RT := kept_tt C.T.rw kk
    have C2 := C.f0 F2
    walk_at "wp"
    refine newQ (by show 1 ≤ 1000; decide) fun q1 H3 h3 e3 F3 => ?_
    have C3 := C2.f0 F3
    walk_at "wp"
    refine catQ e3 C3.T.ek rfl (by show 4 ≤ 1000; decide) fun q2 H4 h4 e4 F4 => ?_
    have C4 := C3.f0 F4
    have nd := C.nd
    simp only [List.nodup_cons, List.mem_cons, not_or] at nd
    obtain ⟨⟨a1, a2, a3, a4, a5, a6, a7, a8⟩, ⟨b1, b2, b3, b4, b5, b6, b7⟩, ⟨c1, c2, c3, c4, c5, c6⟩, _⟩ := nd
    have F24 := F3.trans F4
    exact q q2 l P V' M H4 ⟨sq, kp, kv, km, ys, ⟨e4, F24.1 _ _ (by simp) e2, RT.fr F24 (by simp), C4.T.ep, C4.T.ev, C4.T.em, C3.D.free3 h4, C.D.free3 h2, in3 (Ne.symm a5) (Ne.symm b4) (Ne.symm c3), in3 (Ne.symm a6) (Ne.symm b5) (Ne.symm c4), in3 (Ne.symm a7) (Ne.symm b6) (Ne.symm c5)⟩⟩ G C4.D C4.F
theorem ok_Scheme___init__ (ev : E K mg) : My.MakeOfK P w K mg base (L2.CX P w) 4 d_Scheme___init__ "Scheme" ["self", "sorts", "parts", "values", "marks"] (sp_schI K) := by
  obtain ⟨fd, F⟩ := ev.e.c.def_ 6 (d := d_Scheme___init__) rfl
  refine ⟨⟨_, fd, ?_, mkr_Scheme ev, F⟩, glo_Scheme ev⟩
  refine F.ok sc_Scheme___init__ (fun vs H Q Ex h => ?_) (fun cdv A outer s H vs Q Ex hr h => ⟨_, id
    (pss_cons (ps_fld (pv 0) (pe_callTy (r := rTupOf K) call_tupOf rfl (free_tuple ev) (by decide +kernel) (pa_cons (pv 1) pa_nil)) rfl)
  (pss_cons (ps_fld (pv 0) (pe_callTy (r := rTupOf K) call_tupOf rfl (free_tuple ev) (by decide +kernel) (pa_cons (pv 2) pa_nil)) rfl)
  (pss_cons (ps_fld (pv 0) (pe_callTy (r := rTupOf K) call_tupOf rfl (free_tuple ev) (by decide +kernel) (pa_cons (pv 3) pa_nil)) rfl)
  (pss_cons (ps_fld (pv 0) (pe_callTy (r := rTupOf K) call_tupOf rfl (free_tuple ev) (by decide +kernel) (pa_cons (pv 4) pa_nil)) rfl)
  (pss_cons (ps_expr (pe_fnS (K := K) rfl (ok__check_names_x (K := K) ev) (hr.mono (by decide)) (fun σ => passAt (takes_of rfl rfl rfl rfl) σ) rfl (pa_cons (pe_op op_cat (pe_me0 (ok_Scheme_sort_names ev) (pv 0) (hr.mono (by decide))) (pe_me0 (ok_Scheme_columns ev) (pv 0) (hr.mono (by decide)))) pa_nil)))
  (pss_cons (ps_expr (pe_fnS (K := K) rfl (ok__check_different_x (K := K) ev) (hr.mono (by decide)) (fun σ => passAt (takes_of rfl rfl rfl rfl) σ) rfl (pa_cons (pe_me0 (ok_Scheme_sort_names ev) (pv 0) (hr.mono (by decide))) pa_nil)))
  (pss_cons (ps_expr (pe_fnS (K := K) rfl (ok__check_different_x (K := K) ev) (hr.mono (by decide)) (fun σ => passAt (takes_of rfl rfl rfl rfl) σ) rfl (pa_cons (pe_me0 (ok_Scheme_columns ev) (pv 0) (hr.mono (by decide))) pa_nil)))
  (pss_one (ps_expr (pe_fnS (K := K) rfl (ok__check_parts_x (K := K) ev) (hr.mono (by decide)) (fun σ => passAt (takes_of rfl rfl rfl rfl) σ) rfl (pa_cons (pe_fld (pv 0) rfl) (pa_cons (pe_fld (pv 0) rfl) pa_nil)))))))))))), ?_⟩)
  · first | (obtain ⟨rfl, _⟩ := h; rfl) | (obtain ⟨_, rfl, _⟩ := h; rfl) | (obtain ⟨_, _, rfl, _⟩ := h; rfl) | (obtain ⟨_, _, _, rfl, _⟩ := h; rfl) | (obtain ⟨_, _, _, _, rfl, _⟩ := h; rfl) | (obtain ⟨_, _, _, _, _, rfl, _⟩ := h; rfl) | (obtain ⟨_, _, _, _, _, _, rfl, _⟩ := h; rfl) | (obtain ⟨_, _, _, _, _, _, _, rfl, _⟩ := h; rfl) | (obtain ⟨_, _, _, _, _, _, _, _, rfl, _⟩ := h; rfl) | (obtain ⟨_, _, _, _, _, _, _, _, _, rfl, _⟩ := h; rfl) | (obtain ⟨_, _, _, _, _, _, _, _, _, _, rfl, _⟩ := h; rfl) | (obtain ⟨_, _, _, _, _, _, _, _, _, _, _, rfl, _⟩ := h; rfl) | (obtain ⟨_, _, _, _, _, _, _, _, _, _, _, _, rfl, _⟩ := h; rfl) | (obtain ⟨_, _, _, _, _, _, _, _, _, _, _, _, _, rfl, _⟩ := h; rfl) | (obtain ⟨_, _, _, _, _, _, _, _, _, _, _, _, _, _, rfl, _⟩ := h; rfl) | (obtain ⟨_, _, _, _, _, _, _, _, _, _, _, _, _, _, _, rfl, _⟩ := h; rfl)
  · obtain ⟨x, dx, ls, lp, lv, lm, us, l, P, V', M, rfl, hx, els, SL, elp, elv, elm, ll, lP, lV, lM, hw, q1, q2⟩ := h
    have sl : 100000 ≤ sizeLine := by decide
    have ns : ∀ p s, IsSort K H p s → p ∉ [x] := fun p s ⟨dy, e⟩ z => by
      rw [List.mem_singleton.mp z, hx] at e
      injection e with e
      injection e with _ _ e
      cases e
    have off : ∀ {H' : Hp} {b : Addr} {ws : List Str}, My.Fr [x] H H' → Cw K H b ws → Cw K H' b ws := fun {H' b ws} f h => h.elim (fun h => .inl (off_l hx f h)) fun h => .inr (off_t hx f h)
    walk_at "wp"
    refine tupQ (.inl els) fun ts H1 ets G1 => ?_
    have F1 : My.Fr [x] H H1 := G1.mono (by simp)
    have hx1 := G1.1 _ _ (by simp) hx
    walk_at "wp"
    refine iniQ_Scheme_sorts ev hx1 fun H2 hx2 A2 => ?_
    have F2 := F1.trans A2
    have ets := off_t hx1 A2 ets
    walk_at "wp"
    refine tupQ (off F2 elp) fun tp H3 etp G3 => ?_
    have F3 := F2.trans (G3.mono (by simp))
    have hx3 := G3.1 _ _ (by simp) hx2
    have ets := G3.t (by simp) ets
    walk_at "wp"
    refine iniQ_Scheme_part_columns ev hx3 fun H4 hx4 A4 => ?_
    have F4 := F3.trans A4
    have ets := off_t hx3 A4 ets
    have etp := off_t hx3 A4 etp
    walk_at "wp"
    refine tupQ (off F4 elv) fun tv H5 etv G5 => ?_
    have F5 := F4.trans (G5.mono (by simp))
    have hx5 := G5.1 _ _ (by simp) hx4
    have ets := G5.t (by simp) ets
    have etp := G5.t (by simp) etp
    walk_at "wp"
    refine iniQ_Scheme_value_columns ev hx5 fun H6 hx6 A6 => ?_
    have F6 := F5.trans A6
    have ets := off_t hx5 A6 ets
    have etp := off_t hx5 A6 etp
    have etv := off_t hx5 A6 etv
    walk_at "wp"
    refine tupQ (off F6 elm) fun tm H65 etm G65 => ?_
    have F65 := F6.trans (G65.mono (by simp))
    have hx65 := G65.1 _ _ (by simp) hx6
    have ets := G65.t (by simp) ets
    have etp := G65.t (by simp) etp
    have etv := G65.t (by simp) etv
    walk_at "wp"
    refine iniQ_Scheme_mark_columns ev hx65 fun H7 hx7 A7 => ?_
    have F7 := F65.trans A7
    have ets7 := off_t hx65 A7 ets
    have etp7 := off_t hx65 A7 etp
    have I7 : IsSch K H7 x l P V' M := ⟨dx, ts, tp, tv, tm, us, hx7, ets7, SL.mono fun p s S => S.fr F7 (ns p s S), etp7, off_t hx65 A7 etv, off_t hx65 A7 etm⟩
    walk_at "wp"
    refine meth_l hx7 rfl ?_
    walk_at "wp"
    refine ⟨x, l, P, V', M, rfl, I7, ll, fun r1 H8 _ er1 F8 => ?_⟩
    walk_at "wp"
    have I8 := I7.fr F8
    have hx8 := F8.1 _ _ (by simp) hx7
    refine meth_l hx8 rfl ?_
    walk_at "wp"
    refine ⟨x, l, P, V', M, rfl, I8, ll, lP, lV, lM, fun r2 H9 _ er2 F9 => ?_⟩
    walk_at "wp"
    refine cat_l (F9.1 _ _ (by simp) er1) er2 (by simp only [List.length_map]; unfold cols; simp only [List.length_append, List.length_map]; omega) fun r3 h3 => ?_
    walk_at "wp"
    have F79 := (F8.trans F9).trans (Fr.new (o := .lst ((l.map So.n).map V.str ++ (cols l P V' M).map V.str)) h3)
    have up : ∀ {H' : Hp}, My.Fr [] H7 H' → My.Fr [x] H H' := fun f => F7.trans (f.mono (by simp))
    refine ⟨r3, l.map So.n ++ cols l P V' M, rfl, by rw [List.map_append]; exact upd_same, hw, fun hN H10 F10 => ?_, fun w e d H10 hd F10 => q2 w (by unfold chk; rw [e]) d _ hd (up (F79.trans F10))⟩
    have F710 := F79.trans F10
    walk_at "wp"
    refine meth_l (F710.1 _ _ (by simp) hx7) rfl ?_
    walk_at "wp"
    refine ⟨x, l, P, V', M, rfl, I7.fr F710, ll, fun r4 H11 _ er4 F11 => ?_⟩
    walk_at "wp"
    have F711 := F710.trans F11
    refine ⟨r4, l.map So.n, rfl, er4, fun hD H12 F12 => ?_, fun w e d H12 hd F12 => q2 w (by unfold chk; rw [hN]; show (match chD [] (l.map So.n) with | some w => some w | none => _) = _; rw [e]) d _ hd (up (F711.trans F12))⟩
    have F712 := F711.trans F12
    walk_at "wp"
    refine meth_l (F712.1 _ _ (by simp) hx7) rfl ?_
    walk_at "wp"
    refine ⟨x, l, P, V', M, rfl, I7.fr F712, ll, lP, lV, lM, fun r5 H13 _ er5 F13 => ?_⟩
    walk_at "wp"
    have F713 := F712.trans F13
    refine ⟨r5, cols l P V' M, rfl, er5, fun hD2 H14 F14 => ?_, fun w e d H14 hd F14 => q2 w (by unfold chk; rw [hN]; simp only; rw [hD]; simp only; rw [e]) d _ hd (up (F713.trans F14))⟩
    have F714 := F713.trans F14
    walk_at "wp"
    have I14 := I7.fr F714
    have hx14 := F714.1 _ _ (by simp) hx7
    refine fld_Scheme_sorts ev hx14 rfl ?_
    walk_at "wp"
    refine fld_Scheme_part_columns ev hx14 rfl ?_
    walk_at "wp"
    have SL14 : SoL K H14 us l := (SL.mono fun p s S => S.fr F7 (ns p s S)).fr F714
    refine ⟨ts, tp, us, l, P, rfl, F714.t (by simp) ets7, SL14, F714.t (by simp) etp7, fun hP H15 F15 => ?_, fun w e d H15 hd F15 => q2 w (by unfold chk; rw [hN]; simp only; rw [hD]; simp only; rw [hD2]; simp only; exact e) d _ hd (up (F714.trans F15))⟩
    walk_at "wp"
    exact q1 (by unfold chk; rw [hN]; simp only; rw [hD]; simp only; rw [hD2]; simp only; exact hP) _ (I7.fr (F714.trans F15)) (up (F714.trans F15))
theorem ok_Scheme___eq__ (ev : E K mg) : My.MethOf P w K mg base CX0 4 "Scheme" "__eq__" ["self", "other"] (sp_eqH K) := by
  obtain ⟨fd, F⟩ := ev.e.c.def_ 11 (d := d_Scheme___eq__) rfl
  refine ⟨⟨_, fd, ?_, meth_Scheme___eq__ ev, F.bindsN fun _ _ _ _ _ _ us hl => match us, hl with | [_, _], _ => rfl⟩, cls_Scheme ev⟩
  refine F.ok sc_Scheme___eq__ (fun vs H Q Ex h => ?_) (fun cdv A outer s H vs Q Ex hr h => ⟨_, PSs.nox
    (pss_one (ps_ret (pe_and (pe_callB call_isi rfl (free_isinstance ev) (by decide +kernel) (pa_cons (pv 1) (pa_cons (pe_glob (v := .ref (He.ga K "Scheme")) rfl (glo_Scheme ev) rfl) pa_nil))) (pe_and (pe_cmpR (op_tupC (ok_Sort___eq__ (K := K) ev) (nf_Sort_Sort ev) (hr.mono (by decide))) (pe_fld (pv 0) rfl) (pe_fld (pv 1) rfl) (nomark _)) (pe_and (pe_cmpR (op_eqD hr.units) (pe_fld (pv 0) rfl) (pe_fld (pv 1) rfl) (nomark _)) (pe_and (pe_cmpR (op_eqD hr.units) (pe_fld (pv 0) rfl) (pe_fld (pv 1) rfl) (nomark _)) (pe_one (pe_cmpR (op_eqD hr.units) (pe_fld (pv 0) rfl) (pe_fld (pv 1) rfl) (nomark _))))))))), ?_⟩)
  · first | (obtain ⟨rfl, _⟩ := h; rfl) | (obtain ⟨_, rfl, _⟩ := h; rfl) | (obtain ⟨_, _, rfl, _⟩ := h; rfl) | (obtain ⟨_, _, _, rfl, _⟩ := h; rfl) | (obtain ⟨_, _, _, _, rfl, _⟩ := h; rfl) | (obtain ⟨_, _, _, _, _, rfl, _⟩ := h; rfl) | (obtain ⟨_, _, _, _, _, _, rfl, _⟩ := h; rfl) | (obtain ⟨_, _, _, _, _, _, _, rfl, _⟩ := h; rfl) | (obtain ⟨_, _, _, _, _, _, _, _, rfl, _⟩ := h; rfl) | (obtain ⟨_, _, _, _, _, _, _, _, _, rfl, _⟩ := h; rfl) | (obtain ⟨_, _, _, _, _, _, _, _, _, _, rfl, _⟩ := h; rfl) | (obtain ⟨_, _, _, _, _, _, _, _, _, _, _, rfl, _⟩ := h; rfl) | (obtain ⟨_, _, _, _, _, _, _, _, _, _, _, _, rfl, _⟩ := h; rfl) | (obtain ⟨_, _, _, _, _, _, _, _, _, _, _, _, _, rfl, _⟩ := h; rfl) | (obtain ⟨_, _, _, _, _, _, _, _, _, _, _, _, _, _, rfl, _⟩ := h; rfl) | (obtain ⟨_, _, _, _, _, _, _, _, _, _, _, _, _, _, _, rfl, _⟩ := h; rfl)
  · obtain ⟨p, l, P, V', M, y, rfl, I, ll, ok, q⟩ := h
    have I' := I
    obtain ⟨dx, ts, tp, tv, tm, vs, h1, h2, h3, h4, h5, h6⟩ := I'
    walk_at "wp"
    rcases q with ⟨r, l2, P2, V2, M2, rfl, J, ok2, q⟩ | ⟨t, ty, hk, q⟩
    · have J' := J
      obtain ⟨dy, ts2, tp2, tv2, tm2, vs2, j1, j2, j3, j4, j5, j6⟩ := J'
      refine ⟨_, _, _, _, true, rfl, .own _, ty_Scheme ev j1, kit_Scheme_Scheme ev, ?_⟩
      walk_at "wp"
      refine fld_Scheme_sorts ev h1 rfl ?_
      walk_at "wp"
      refine fld_Scheme_sorts ev j1 rfl ?_
      walk_at "wp"
      refine ⟨ts, ts2, vs, vs2, sEq l l2, rfl, rfl, h2, j2, fun i u v eu ev' => ?_, fun H1 F1 => ?_⟩
      · obtain ⟨a, s, rfl, e1, S1⟩ := h3.get i u eu
        obtain ⟨b, s', rfl, e2, S2⟩ := j3.get i v ev'
        obtain ⟨d1, g1⟩ := S1
        obtain ⟨d2, g2⟩ := S2
        have es : sEq l l2 i = decide (s = s') := by unfold sEq; rw [e1, e2]; simp
        refine ⟨a, b, d1, d2, _, _, rfl, rfl, g1, g2, fun z => ?_, fun H' Q' F k => ?_⟩
        · subst z
          rw [es, so_uniq ⟨d1, g1⟩ ⟨d2, g2⟩, decide_eq_true rfl]
        · refine ⟨a, s, .ref b, rfl, ⟨d1, F.1 _ _ (by simp) g1⟩, .inl ⟨b, s', rfl, ⟨d2, F.1 _ _ (by simp) g2⟩, ?_⟩⟩
          rw [← es]
          exact k H' (Fr.refl _ _)
      · rw [h3.len, j3.len, sEq_all]
        walk_at "wp"
        have I1 := I.fr F1
        have J1 := J.fr F1
        split
        · rename_i e1
          have q := fun H' (F : My.Fr [] H H') => by have z := q H' F; rw [decide_eq_true e1, Bool.true_and] at z; exact z
          refine fld_Scheme_part_columns ev (F1.1 _ _ (by simp) h1) rfl ?_
          walk_at "wp"
          refine fld_Scheme_part_columns ev (F1.1 _ _ (by simp) j1) rfl ?_
          walk_at "wp"
          refine eqD_l (.tup (F1.t (by simp) h4) (dp_ss P)) (.tup (F1.t (by simp) j4) (dp_ss P2)) (sh_tup fun w hw => ok w (by simp [hw])) (sh_tup fun w hw => ok2 w (by simp [hw])) ?_
          rw [eqv_tup]
          walk_at "wp"
          split
          · rename_i e2
            have q := fun H' (F : My.Fr [] H H') => by have z := q H' F; rw [decide_eq_true e2, Bool.true_and] at z; exact z
            refine fld_Scheme_value_columns ev (F1.1 _ _ (by simp) h1) rfl ?_
            walk_at "wp"
            refine fld_Scheme_value_columns ev (F1.1 _ _ (by simp) j1) rfl ?_
            walk_at "wp"
            refine eqD_l (.tup (F1.t (by simp) h5) (dp_ss V')) (.tup (F1.t (by simp) j5) (dp_ss V2)) (sh_tup fun w hw => ok w (by simp [hw])) (sh_tup fun w hw => ok2 w (by simp [hw])) ?_
            rw [eqv_tup]
            walk_at "wp"
            split
            · rename_i e3
              have q := fun H' (F : My.Fr [] H H') => by have z := q H' F; rw [decide_eq_true e3, Bool.true_and] at z; exact z
              refine fld_Scheme_mark_columns ev (F1.1 _ _ (by simp) h1) rfl ?_
              walk_at "wp"
              refine fld_Scheme_mark_columns ev (F1.1 _ _ (by simp) j1) rfl ?_
              walk_at "wp"
              refine eqD_l (.tup (F1.t (by simp) h6) (dp_ss M)) (.tup (F1.t (by simp) j6) (dp_ss M2)) (sh_tup fun w hw => ok w (by simp [hw])) (sh_tup fun w hw => ok2 w (by simp [hw])) ?_
              rw [eqv_tup]
              walk_at "wp"
              exact q H1 F1
            · rename_i e3
              have z := q H1 F1
              rw [decide_eq_false e3, Bool.false_and] at z
              exact z
          · rename_i e2
            have z := q H1 F1
            rw [decide_eq_false e2, Bool.false_and] at z
            exact z
        · rename_i e1
          have z := q H1 F1
          rw [decide_eq_false e1, Bool.false_and] at z
          exact z
    · refine ⟨_, _, _, _, false, rfl, .own _, ty, hk, ?_⟩
      walk_at "wp"
      exact q
theorem ok__law_spec (ev : E K mg) : My.Callee P w K mg base CX0 4 d__law_spec ["_law_draws", "_law_most"] (spSpec K) := by
  obtain ⟨fd, F⟩ := ev.e.c.def_ 19 (d := d__law_spec) rfl
  refine ⟨_, fd, ?_, ev.glo 9, F.kp, F.bindsN fun _ _ _ _ _ _ us hl => match us, hl with | [_, _], _ => rfl, F⟩
  refine F.ok sc__law_spec (fun vs H Q Ex h => ?_) (fun cdv A outer s H vs Q Ex hr h => ⟨_, PSs.nox
    (pss_cons (ps_set (i := 2) sc__law_spec.nd rfl (Or.inl rfl) (pe_lst pa_nil))
  (pss_cons (ps_set (i := 3) sc__law_spec.nd rfl (Or.inl rfl) (pe_lst pa_nil))
  (pss_cons (ps_set (i := 4) sc__law_spec.nd rfl (Or.inl rfl) (pe_lst pa_nil))
  (pss_cons (ps_set (i := 5) sc__law_spec.nd rfl (Or.inl rfl) (pe_fn (ok__law_names ev) (hr.mono (by decide)) rfl (pa_cons (pv 0) (pa_cons (pv 2) (pa_cons (pe_fn (ok__law_draw ev) (hr.mono (by decide)) rfl (pa_cons (pv 0) (pa_cons pe_int pa_nil))) pa_nil)))))
  (pss_cons (ps_set (i := 6) sc__law_spec.nd rfl (Or.inl rfl) (pe_fn (ok__law_names ev) (hr.mono (by decide)) rfl (pa_cons (pv 0) (pa_cons (pv 2) (pa_cons (pe_fn (ok__law_draw ev) (hr.mono (by decide)) rfl (pa_cons (pv 0) (pa_cons pe_int pa_nil))) pa_nil)))))
  (pss_cons (ps_set (i := 7) sc__law_spec.nd rfl (Or.inl rfl) (pe_fn (ok__law_names ev) (hr.mono (by decide)) rfl (pa_cons (pv 0) (pa_cons (pv 2) (pa_cons (pe_fn (ok__law_draw ev) (hr.mono (by decide)) rfl (pa_cons (pv 0) (pa_cons pe_int pa_nil))) pa_nil)))))
  (pss_cons (ps_for PassesOwn.never rfl (pi_range1 rfl (free_range ev) (pa_cons (pe_op op_add pe_int (pe_fn (ok__law_draw ev) (hr.mono (by decide)) rfl (pa_cons (pv 0) (pa_cons (pv 1) pa_nil)))) pa_nil)) (pg_name (i := 8) sc__law_spec.nd rfl (Or.inl rfl))
  (pss_cons (ps_set (i := 9) sc__law_spec.nd rfl (Or.inl rfl) (pe_cmpR op_eq (pe_fn (ok__law_draw ev) (hr.mono (by decide)) rfl (pa_cons (pv 0) (pa_cons pe_int pa_nil))) pe_int (nomark _)))
  (pss_cons (ps_set (i := 10) sc__law_spec.nd rfl (Or.inl rfl) (pe_ix ix_list (pe_op op_cat (pe_lst (pa_cons pe_non pa_nil)) (pv 5)) (pe_fn (ok__law_draw ev) (hr.mono (by decide)) rfl (pa_cons (pv 0) (pa_cons (pe_op op_add (pe_callB call_lenR rfl (free_len ev) (by decide +kernel) (pa_cons (pv 5) pa_nil)) pe_int) pa_nil))) (fun _ _ => rfl)))
  (pss_cons (ps_set (i := 11) sc__law_spec.nd rfl (Or.inl rfl) (pe_cmpR op_eq (pe_fn (ok__law_draw ev) (hr.mono (by decide)) rfl (pa_cons (pv 0) (pa_cons pe_int pa_nil))) pe_int (nomark _)))
  (pss_cons (ps_set (i := 12) sc__law_spec.nd rfl (Or.inl rfl) (pe_ix ix_list (pe_fn (ok__law_names ev) (hr.mono (by decide)) rfl (pa_cons (pv 0) (pa_cons (pv 2) (pa_cons pe_int pa_nil)))) pe_int (fun _ _ => rfl)))
  (pss_cons (ps_if (PW.pt (pw_and (pt_val (pv 11)) (pw_and1 (pt_cmpR op_notIn_seq (pv 12) (pv 3) (by rfl))))) (pss_one (ps_expr (pe_bm PySem.F.plainAttrs_list PySem.F.slot_list_append PySem.F.type_list_append mt_append (pv 3) (pa_cons (pv 12) pa_nil))))
  (pss_one (ps_expr (pe_fn (ok__law_names ev) (hr.mono (by decide)) rfl (pa_cons (pv 0) (pa_cons (pv 3) (pa_cons pe_int pa_nil)))))))
  (pss_one (ps_expr (pe_bm PySem.F.plainAttrs_list PySem.F.slot_list_append PySem.F.type_list_append mt_append (pv 4) (pa_cons (pe_tup (pa_cons (pe_ix ix_list (pv 3) (pe_un un_neg pe_int) (fun _ _ => rfl)) (pa_cons (pv 12) (pa_cons (pv 10) (pa_cons (pv 9) pa_nil))))) pa_nil))))))))))
  (pss_one (ps_ret (pe_lst (pa_cons (pv 4) (pa_cons (pv 5) (pa_cons (pv 6) (pa_cons (pv 7) pa_nil)))))))))))))), ?_⟩)
  · first | (obtain ⟨rfl, _⟩ := h; rfl) | (obtain ⟨_, rfl, _⟩ := h; rfl) | (obtain ⟨_, _, rfl, _⟩ := h; rfl) | (obtain ⟨_, _, _, rfl, _⟩ := h; rfl) | (obtain ⟨_, _, _, _, rfl, _⟩ := h; rfl) | (obtain ⟨_, _, _, _, _, rfl, _⟩ := h; rfl) | (obtain ⟨_, _, _, _, _, _, rfl, _⟩ := h; rfl) | (obtain ⟨_, _, _, _, _, _, _, rfl, _⟩ := h; rfl) | (obtain ⟨_, _, _, _, _, _, _, _, rfl, _⟩ := h; rfl) | (obtain ⟨_, _, _, _, _, _, _, _, _, rfl, _⟩ := h; rfl) | (obtain ⟨_, _, _, _, _, _, _, _, _, _, rfl, _⟩ := h; rfl) | (obtain ⟨_, _, _, _, _, _, _, _, _, _, _, rfl, _⟩ := h; rfl) | (obtain ⟨_, _, _, _, _, _, _, _, _, _, _, _, rfl, _⟩ := h; rfl) | (obtain ⟨_, _, _, _, _, _, _, _, _, _, _, _, _, rfl, _⟩ := h; rfl) | (obtain ⟨_, _, _, _, _, _, _, _, _, _, _, _, _, _, rfl, _⟩ := h; rfl) | (obtain ⟨_, _, _, _, _, _, _, _, _, _, _, _, _, _, _, rfl, _⟩ := h; rfl)
  · obtain ⟨a, ac, ar, m, rfl, hm1, hm3, D, q⟩ := h
    have sl : (100 : Nat) ≤ sizeLine := by decide
    walk_at "wp"
    refine new_l (by decide) fun t ht => ?_
    have nt := D.free3 ht
    have D1 := D.new (o := .lst []) ht
    have F1 : My.Fr [a, ar] H (upd H t (.lst [])) := Fr.new ht
    have et1 : (upd H t (.lst [])) t = some (.lst (([] : List Str).map V.str)) := upd_same
    generalize upd H t (.lst []) = H1 at D1 F1 et1 ⊢
    walk_at "wp"
    refine new_l (by decide) fun c hc => ?_
    have nc := D1.free3 hc
    have fc := F1.2 _ hc
    have tc : t ≠ c := ne_of_none et1 hc
    have D2 := D1.new (o := .lst []) hc
    have F2 := F1.trans (Fr.new (o := .lst []) hc)
    have et2 := (Fr.new (S := []) (o := .lst []) hc).1 _ _ (by simp) et1
    have ec2 : (upd H1 c (.lst [])) c = some (.lst (([] : List Str).map V.str)) := upd_same
    generalize upd H1 c (.lst []) = H2 at D2 F2 et2 ec2 ⊢
    walk_at "wp"
    refine new_l (by decide) fun so hs => ?_
    have ns := D2.free3 hs
    have fs := F2.2 _ hs
    have tso : t ≠ so := ne_of_none et2 hs
    have cso : c ≠ so := ne_of_none ec2 hs
    have D3 := D2.new (o := .lst []) hs
    have F3 := F2.trans (Fr.new (o := .lst []) hs)
    have et3 := (Fr.new (S := []) (o := .lst []) hs).1 _ _ (by simp) et2
    have ec3 := (Fr.new (S := []) (o := .lst []) hs).1 _ _ (by simp) ec2
    have es3 : (upd H2 so (.lst [])) so = some (.lst []) := upd_same
    generalize upd H2 so (.lst []) = H3 at D3 F3 et3 ec3 es3 ⊢
    walk_at "wp"
    refine ⟨a, ac, ar, _, rfl, by decide, by decide, D3, fun v H4 v0 v1 D4 F4 => ?_⟩
    obtain ⟨n1, rfl⟩ := Int.eq_ofNat_of_zero_le v0
    walk_at "wp"
    have et4 := F4.1 _ _ (sub3 nt) et3
    have ec4 := F4.1 _ _ (sub3 nc) ec3
    have es4 := F4.1 _ _ (sub3 ns) es3
    refine ⟨a, ac, ar, t, [], n1, rfl, D4, et4, nt, by simp; omega, fun lp P H5 NP hlp ep5 et5 D5 F5 => ?_⟩
    rw [List.nil_append] at et5
    have np := D4.free3 hlp
    have pt := nin3 hlp et4 ec4 es4
    have ec5 := F5.1 _ _ (sub_r nc (Ne.symm tc)) ec4
    have es5 := F5.1 _ _ (sub_r ns (Ne.symm tso)) es4
    have F05 := fr_drop (F3.trans F4) F5 ht
    walk_at "wp"
    refine ⟨a, ac, ar, _, rfl, by decide, by decide, D5, fun v H6 v0 v1 D6 F6 => ?_⟩
    obtain ⟨n2, rfl⟩ := Int.eq_ofNat_of_zero_le v0
    walk_at "wp"
    have et6 := F6.1 _ _ (sub3 nt) et5
    have ec6 := F6.1 _ _ (sub3 nc) ec5
    have es6 := F6.1 _ _ (sub3 ns) es5
    have ep6 := F6.1 _ _ (sub3 np) ep5
    have lP := NP.ln
    refine ⟨a, ac, ar, t, P, n2, rfl, D6, et6, nt, by omega, fun lv V' H7 NV hlv ev7 et7 D7 F7 => ?_⟩
    have nv := D6.free3 hlv
    have vt := nin3 hlv et6 ec6 es6
    have ec7 := F7.1 _ _ (sub_r nc (Ne.symm tc)) ec6
    have es7 := F7.1 _ _ (sub_r ns (Ne.symm tso)) es6
    have ep7 := F7.1 _ _ (sub_r np (out3 pt).1) ep6
    have F07 := fr_drop (F05.trans F6) F7 ht
    walk_at "wp"
    refine ⟨a, ac, ar, _, rfl, by decide, by decide, D7, fun v H8 v0 v1 D8 F8 => ?_⟩
    obtain ⟨n3, rfl⟩ := Int.eq_ofNat_of_zero_le v0
    walk_at "wp"
    have et8 := F8.1 _ _ (sub3 nt) et7
    have ec8 := F8.1 _ _ (sub3 nc) ec7
    have es8 := F8.1 _ _ (sub3 ns) es7
    have ep8 := F8.1 _ _ (sub3 np) ep7
    have ev8 := F8.1 _ _ (sub3 nv) ev7
    have lV := NV.ln
    refine ⟨a, ac, ar, t, P ++ V', n3, rfl, D8, et8, nt, by rw [List.length_append]; omega, fun lm M H9 NM hlm em9 et9 D9 F9 => ?_⟩
    have nm := D8.free3 hlm
    have mt := nin3 hlm et8 ec8 es8
    have lM := NM.ln
    have N : SN a ac ar t c so lp lv lm H := ⟨nt, nc, ns, np, nv, nm, tc, tso, cso, pt, vt, mt, ht, fc, fs⟩
    have S9 : SH a ac ar t c so lp lv lm (P ++ V' ++ M ++ ([] : List So).map So.k) (([] : List So).map So.n) [] [] P V' M H H9 := ⟨by rw [List.map_nil, List.append_nil]; exact et9, F9.1 _ _ (sub_r nc (Ne.symm tc)) ec8, F9.1 _ _ (sub_r ns (Ne.symm tso)) es8, .nil, F9.1 _ _ (sub_r np (out3 pt).1) ep8, F9.1 _ _ (sub_r nv (out3 vt).1) ev8, em9, D9, fr_drop (F07.trans F8) F9 ht⟩
    have G9 : Spc [] P V' M := by
      refine ⟨by omega, by omega, by omega, by simp, .nil, fun w hw => ?_, ?_, by simp⟩
      · rw [List.map_nil, List.append_nil] at hw
        rcases List.mem_append.mp hw with z | z
        · rcases List.mem_append.mp z with z | z
          · exact NP.gd w z
          · exact NV.gd w z
        · exact NM.gd w z
      · rw [List.map_nil, List.append_nil, List.nodup_append]
        exact ⟨List.nodup_append.mpr ⟨NP.nd, NV.nd, fun x hx y hy e => NV.dj y hy (e ▸ hx)⟩, NM.nd, fun x hx y hy e => NM.dj y hy (e ▸ hx)⟩
    clear et1 et2 et3 et4 et5 et6 et7 et8 et9 ec2 ec3 ec4 ec5 ec6 ec7 ec8 es3 es4 es5 es6 es7 es8 ep5 ep6 ep7 ep8 ev7 ev8 em9 D1 D2 D3 D4 D5 D6 D7 D8 F1 F2 F3 F4 F5 F05 F6 F7 F07 F8 F9 hs hc hlp hlv hlm
    walk_at "wp"
    refine ⟨a, ac, ar, _, rfl, by omega, by omega, S9.D, fun v H10 v0 v1 D10 F10 => ?_⟩
    have S10 := S9.f N F10 D10
    obtain ⟨n4, rfl⟩ := Int.eq_ofNat_of_zero_le v0
    walk_at "wp"
    refine for_r1 (by omega) (ISp a ac ar t c so lp lv lm m P V' M H) (by omega) ⟨⟨_, _, _, _, _, rfl⟩, [], [], S10, G9, rfl⟩ ?_ ?_
    · rintro i σ H1 hi ⟨⟨v8, v9, v10, v11, v12, rfl⟩, us, l, S1, G, hl⟩
      walk_at "wp"
      refine ⟨a, ac, ar, _, rfl, by decide, by decide, S1.D, fun f H2 f0 f1 D2 F2 => ?_⟩
      have S2 := S1.f N F2 D2
      walk_at "wp"
      generalize hfb : decide (f = 1) = fb
      refine new_l (by show 1 ≤ sizeLine; decide) fun q1 hq1 => ?_
      have S3 := S2.f0 N (Fr.new (o := .lst [V.non]) hq1)
      have e3 : (upd H2 q1 (.lst [V.non])) q1 = some (.lst [V.non]) := upd_same
      generalize upd H2 q1 (.lst [V.non]) = H3 at S3 e3 ⊢
      walk_at "wp"
      refine cat_l e3 S3.ep (by have := G.lP; simp only [List.length_map, List.length_cons, List.length_nil]; omega) fun q2 hq2 => ?_
      have S3' := S3.f0 N (Fr.new (o := .lst ([V.non] ++ P.map V.str)) hq2)
      have e4 : (upd H3 q2 (.lst ([V.non] ++ P.map V.str))) q2 = some (.lst ([V.non] ++ P.map V.str)) := upd_same
      have nq2 := S3.D.free3 hq2
      generalize upd H3 q2 (.lst ([V.non] ++ P.map V.str)) = H3' at S3' e4 ⊢
      walk_at "wp"
      refine len_l (SqL.of S3'.ep) ?_
      walk_at "wp"
      rw [List.length_map]
      refine ⟨a, ac, ar, _, rfl, by omega, by omega, S3'.D, fun g H4 g0 g1 D4 F4 => ?_⟩
      have S4 := S3'.f N F4 D4
      obtain ⟨pa, epa, hpa⟩ := at_opt (P := P) g0 (by omega)
      refine ix_l (SqL.of (F4.1 _ _ (sub3 nq2) e4)) epa ?_
      walk_at "wp"
      refine ⟨a, ac, ar, _, rfl, by decide, by decide, S4.D, fun u H5 u0 u1 D5 F5 => ?_⟩
      have S5 := S4.f N F5 D5
      walk_at "wp"
      generalize hub : decide (u = 0) = ub
      have lP := G.lP
      have lV := G.lV
      have lM := G.lM
      refine ⟨a, ac, ar, t, _, 1, rfl, S5.D, S5.et, N.nt, by simp only [List.length_append, List.length_map]; omega, fun ky ws H5' NK hky eky et5 D5' F5' => ?_⟩
      have S5' := S5.key N F5' D5' et5
      obtain ⟨k, rfl⟩ : ∃ k, ws = [k] := by
        have z := NK.ln
        match ws, z with
        | [k], _ => exact ⟨k, rfl⟩
      have gk := NK.gd k (by simp)
      have nk := NK.dj k (by simp)
      walk_at "wp"
      refine ix_l (SqL.of eky) (v := .str k) rfl ?_
      walk_at "wp"
      have viaNames : ∀ (Q' : VK) (E' : XK), (∀ x w H6, SH a ac ar t c so lp lv lm (P ++ V' ++ M ++ l.map So.k ++ [k]) (l.map So.n ++ [w]) us l P V' M H H6 → good w = true → w ∉ l.map So.n → Q' x H6) → spNms [V.ref a, V.ref c, V.int 1] H5' Q' E' := fun Q' E' hq => by
        refine ⟨a, ac, ar, c, _, 1, rfl, S5'.D, S5'.ec, N.nc, by simp only [List.length_map]; omega, fun ky ws H6 NW hky eky ec6 D6 F6 => ?_⟩
        obtain ⟨w, rfl⟩ : ∃ w, ws = [w] := by
          have z := NW.ln
          match ws, z with
          | [k], _ => exact ⟨k, rfl⟩
        exact hq _ w H6 (S5'.nam N F6 D6 ec6) (NW.gd w (by simp)) (NW.dj w (by simp))
      split
      · refine notIn_l (.inl (SqL.of S5'.ec)) rfl flat_strs ?_
        rw [inV_str]
        walk_at "wp"
        by_cases hk : k ∈ l.map So.n
        · rw [if_neg (fun z => z hk)]
          refine viaNames _ _ fun x w H6 S6 gw nw => ?_
          walk_at "wp"
          refine ⟨tyL S6.es, ix_l (SqL.of S6.ec) (at_lastS rfl) ?_⟩
          walk_at "wp"
          refine new_t (by show 4 ≤ sizeLine; decide) fun tq htq => ?_
          have S7 := S6.f0 N (Fr.new (o := .tup [.str w, .str k, oS pa, .bl fb]) htq)
          have e7 : (upd H6 tq (.tup [.str w, .str k, oS pa, .bl fb])) tq = some (.tup [.str (So.mk w k pa fb).n, .str (So.mk w k pa fb).k, oS (So.mk w k pa fb).pa, .bl (So.mk w k pa fb).de]) := upd_same
          generalize upd H6 tq (.tup [.str w, .str k, oS pa, .bl fb]) = H7 at S7 e7 ⊢
          walk_at "wp"
          refine app_l S7.es (by rw [S7.rw.len]; omega) ?_
          walk_at "wp"
          refine ⟨⟨_, _, _, _, _, rfl⟩, us ++ [.ref tq], l ++ [So.mk w k pa fb], ?_, G.snoc gw nw gk nk hpa, by rw [List.length_append, hl]; rfl⟩
          have S8 := S7.row N e7
          rw [List.map_append, List.map_append, ← List.append_assoc]
          exact S8
        · rw [if_pos hk]
          refine ⟨tyL S5'.ec, app_l S5'.ec (by rw [List.length_map, List.length_map]; omega) ?_⟩
          have S6 : SH a ac ar t c so lp lv lm (P ++ V' ++ M ++ l.map So.k ++ [k]) (l.map So.n ++ [k]) us l P V' M H (upd H5' c (.lst ((l.map So.n).map V.str ++ [.str k]))) := S5'.nam N ((Fr.refl _ _).put (by simp)) (S5'.D.put (out3 N.nc).1 (out3 N.nc).2.1 (out3 N.nc).2.2) (by rw [upd_same]; simp)
          generalize upd H5' c (.lst ((l.map So.n).map V.str ++ [.str k])) = H6 at S6 ⊢
          walk_at "wp"
          refine ⟨tyL S6.es, ix_l (SqL.of S6.ec) (at_lastS rfl) ?_⟩
          walk_at "wp"
          refine new_t (by show 4 ≤ sizeLine; decide) fun tq htq => ?_
          have S7 := S6.f0 N (Fr.new (o := .tup [.str k, .str k, oS pa, .bl fb]) htq)
          have e7 : (upd H6 tq (.tup [.str k, .str k, oS pa, .bl fb])) tq = some (.tup [.str (So.mk k k pa fb).n, .str (So.mk k k pa fb).k, oS (So.mk k k pa fb).pa, .bl (So.mk k k pa fb).de]) := upd_same
          generalize upd H6 tq (.tup [.str k, .str k, oS pa, .bl fb]) = H7 at S7 e7 ⊢
          walk_at "wp"
          refine app_l S7.es (by rw [S7.rw.len]; omega) ?_
          walk_at "wp"
          refine ⟨⟨_, _, _, _, _, rfl⟩, us ++ [.ref tq], l ++ [So.mk k k pa fb], ?_, G.snoc gk hk gk nk hpa, by rw [List.length_append, hl]; rfl⟩
          have S8 := S7.row N e7
          rw [List.map_append, List.map_append, ← List.append_assoc]
          exact S8
      · refine viaNames _ _ fun x w H6 S6 gw nw => ?_
        walk_at "wp"
        refine ⟨tyL S6.es, ix_l (SqL.of S6.ec) (at_lastS rfl) ?_⟩
        walk_at "wp"
        refine new_t (by show 4 ≤ sizeLine; decide) fun tq htq => ?_
        have S7 := S6.f0 N (Fr.new (o := .tup [.str w, .str k, oS pa, .bl fb]) htq)
        have e7 : (upd H6 tq (.tup [.str w, .str k, oS pa, .bl fb])) tq = some (.tup [.str (So.mk w k pa fb).n, .str (So.mk w k pa fb).k, oS (So.mk w k pa fb).pa, .bl (So.mk w k pa fb).de]) := upd_same
        generalize upd H6 tq (.tup [.str w, .str k, oS pa, .bl fb]) = H7 at S7 e7 ⊢
        walk_at "wp"
        refine app_l S7.es (by rw [S7.rw.len]; omega) ?_
        walk_at "wp"
        refine ⟨⟨_, _, _, _, _, rfl⟩, us ++ [.ref tq], l ++ [So.mk w k pa fb], ?_, G.snoc gw nw gk nk hpa, by rw [List.length_append, hl]; rfl⟩
        have S8 := S7.row N e7
        rw [List.map_append, List.map_append, ← List.append_assoc]
        exact S8
    · rintro σ H1 ⟨⟨v8, v9, v10, v11, v12, rfl⟩, us, l, S1, G, hl⟩
      walk_at "wp"
      refine new_l (by show 4 ≤ sizeLine; decide) fun r hr' => ?_
      have S2 := S1.f0 N (Fr.new (o := .lst [V.ref so, V.ref lp, V.ref lv, V.ref lm]) hr')
      refine q r so lp lv lm us l P V' M _ ⟨upd_same, S2.es, S2.rw, S2.ep, S2.ev, S2.em, S1.D.free3 hr', N.ns, N.np, N.nv, N.nm⟩ G ?_ ?_ S2.D S2.F
      · omega
      · omega
theorem ok__law_named (ev : E K mg) : My.CalleeG P w K mg base CX0 4 d__law_named ["_law_scheme", "_law_name_here"] (spNamed K) := by
  obtain ⟨fd, F⟩ := ev.e.c.def_ 26 (d := d__law_named) rfl
  refine ⟨_, fd, ?_, ev.glo 16, F.kp, F.bindsN fun _ _ _ _ _ _ us hl => match us, hl with | [_, _], _ => rfl⟩
  refine okG F sc__law_named (fun vs H Q Ex h => ?_) (fun cdv A outer s H vs Q Ex hgd hr h => ⟨_, PSs.nox
    (pss_cons (ps_tryC (i := 3) rfl rfl sc__law_named.nd rfl rfl (fun W pn xe tk hpo => by exact (pss_one (ps_set (i := 2) sc__law_named.nd rfl (Or.inl rfl) (pe_meS (K := K) rfl (ok_Scheme_sort_named_x (K := K) ev) (pv 0) (hr.mono (by decide)) (fun σ => passAt tk σ) (pa_cons (pv 1) pa_nil))))) (.next ⟨rfl, by decide, .inl (gloE_UnknownSort ev)⟩ (fun a oe cls dd pn hz hf => by exact (pss_one (ps_ret (pe_tup (pa_cons pe_str (pa_cons (pe_xf (xf_UnknownSort (K := K) ev) (noA_UnknownSort_name (K := K) ev) hz hf (pv 3)) pa_nil)))))) .end_))
  (pss_one (ps_ret (pe_tup (pa_cons pe_str (pa_cons (pe_fnG (ok__law_four ev) hgd (hr.mono (by decide)) rfl (pa_cons (pv 2) pa_nil)) pa_nil)))))), ?_⟩)
  · first | (obtain ⟨rfl, _⟩ := h; rfl) | (obtain ⟨_, rfl, _⟩ := h; rfl) | (obtain ⟨_, _, rfl, _⟩ := h; rfl) | (obtain ⟨_, _, _, rfl, _⟩ := h; rfl) | (obtain ⟨_, _, _, _, rfl, _⟩ := h; rfl) | (obtain ⟨_, _, _, _, _, rfl, _⟩ := h; rfl) | (obtain ⟨_, _, _, _, _, _, rfl, _⟩ := h; rfl) | (obtain ⟨_, _, _, _, _, _, _, rfl, _⟩ := h; rfl) | (obtain ⟨_, _, _, _, _, _, _, _, rfl, _⟩ := h; rfl) | (obtain ⟨_, _, _, _, _, _, _, _, _, rfl, _⟩ := h; rfl) | (obtain ⟨_, _, _, _, _, _, _, _, _, _, rfl, _⟩ := h; rfl) | (obtain ⟨_, _, _, _, _, _, _, _, _, _, _, rfl, _⟩ := h; rfl) | (obtain ⟨_, _, _, _, _, _, _, _, _, _, _, _, rfl, _⟩ := h; rfl) | (obtain ⟨_, _, _, _, _, _, _, _, _, _, _, _, _, rfl, _⟩ := h; rfl) | (obtain ⟨_, _, _, _, _, _, _, _, _, _, _, _, _, _, rfl, _⟩ := h; rfl) | (obtain ⟨_, _, _, _, _, _, _, _, _, _, _, _, _, _, _, rfl, _⟩ := h; rfl)
  · obtain ⟨r, w, l, P, V', M, rfl, I, G, q⟩ := h
    have I0 := I
    obtain ⟨dx, ts, tp, tv, tm, vs, h1, h2, h3, h4, h5, h6⟩ := I0
    walk_at "wp"
    refine methE_l h1 rfl ?_
    walk_at "wp"
    refine ⟨r, w, l, P, V', M, rfl, I, fun s fs p H1 S1 F1 => ?_, fun fs d H1 hd F1 => ?_⟩
    · walk_at "wp"
      refine ⟨p, s, rfl, S1, G.gs s (fnd_mem fs).1, fun H2 F2 => ?_⟩
      walk_at "wp"
      refine newtQ (by show 2 ≤ 1000; decide) fun t H3 ht et F3 => ?_
      exact q t H3 (by unfold NmV; rw [fs]; exact et) ((F1.trans F2).trans F3)
    · refine was_yes (exm2_UnknownSort_UnknownSort ev) fun e he => ?_
      walk_at "wp"
      refine xf_l hd (v := .str w) rfl ?_
      walk_at "wp"
      refine newtQ (by show 2 ≤ 1000; decide) fun t H3 ht et F3 => ?_
      exact q t H3 (by unfold NmV; rw [fs]; exact et) (F1.trans F3)
theorem ok__law_sorts_right (ev : E K mg) : My.Callee P w K mg base CX0 4 d__law_sorts_right ["_law_spec_here", "_law_other"] (spSR K) := by
  obtain ⟨fd, F⟩ := ev.e.c.def_ 31 (d := d__law_sorts_right) rfl
  refine ⟨_, fd, ?_, ev.glo 21, F.kp, F.bindsN fun _ _ _ _ _ _ us hl => match us, hl with | [_, _], _ => rfl, F⟩
  refine F.ok sc__law_sorts_right (fun vs H Q Ex h => ?_) (fun cdv A outer s H vs Q Ex hr h => ⟨_, PSs.nox
    (pss_cons (ps_for PassesOwn.never rfl (pi_list (pe_ix ix_list (pv 0) pe_int (fun _ _ => rfl))) (pg_name (i := 2) sc__law_sorts_right.nd rfl (Or.inl rfl))
  (pss_one (ps_for PassesOwn.never rfl (pi_list (pe_ix ix_list (pv 1) pe_int (fun _ _ => rfl))) (pg_name (i := 3) sc__law_sorts_right.nd rfl (Or.inl rfl))
  (pss_one (ps_if (PW.pt (pw_or (pt_cmpR op_ne (pe_cmpR (op_eqC (ok_Sort___eq__ (K := K) ev) (hr.mono (by decide))) (pe_fn (ok__law_sort ev) (hr.mono (by decide)) rfl (pa_cons (pv 2) pa_nil)) (pe_fn (ok__law_sort ev) (hr.mono (by decide)) rfl (pa_cons (pv 3) pa_nil)) (nomark _)) (pe_cmpR (op_eqD hr.units) (pv 2) (pv 3) (nomark _)) (nomark _)) (pw_or1 (pt_cmpR (op_eqC (ok_Sort___eq__ (K := K) ev) (hr.mono (by decide))) (pe_fn (ok__law_sort ev) (hr.mono (by decide)) rfl (pa_cons (pv 2) pa_nil)) (pv 2) (nomark _))))) (pss_one (ps_ret pe_bl))
  pss_nil)))))
  (pss_one (ps_ret pe_bl))), ?_⟩)
  · first | (obtain ⟨rfl, _⟩ := h; rfl) | (obtain ⟨_, rfl, _⟩ := h; rfl) | (obtain ⟨_, _, rfl, _⟩ := h; rfl) | (obtain ⟨_, _, _, rfl, _⟩ := h; rfl) | (obtain ⟨_, _, _, _, rfl, _⟩ := h; rfl) | (obtain ⟨_, _, _, _, _, rfl, _⟩ := h; rfl) | (obtain ⟨_, _, _, _, _, _, rfl, _⟩ := h; rfl) | (obtain ⟨_, _, _, _, _, _, _, rfl, _⟩ := h; rfl) | (obtain ⟨_, _, _, _, _, _, _, _, rfl, _⟩ := h; rfl) | (obtain ⟨_, _, _, _, _, _, _, _, _, rfl, _⟩ := h; rfl) | (obtain ⟨_, _, _, _, _, _, _, _, _, _, rfl, _⟩ := h; rfl) | (obtain ⟨_, _, _, _, _, _, _, _, _, _, _, rfl, _⟩ := h; rfl) | (obtain ⟨_, _, _, _, _, _, _, _, _, _, _, _, rfl, _⟩ := h; rfl) | (obtain ⟨_, _, _, _, _, _, _, _, _, _, _, _, _, rfl, _⟩ := h; rfl) | (obtain ⟨_, _, _, _, _, _, _, _, _, _, _, _, _, _, rfl, _⟩ := h; rfl) | (obtain ⟨_, _, _, _, _, _, _, _, _, _, _, _, _, _, _, rfl, _⟩ := h; rfl)
  · obtain ⟨S, r, l, P, V', M, r2, l2, P2, V2, M2, rfl, ⟨ls, lp, lv, lm, us, X⟩, ⟨ls2, lp2, lv2, lm2, us2, X2⟩, G, G2, q⟩ := h
    walk_at "wp"
    refine ix_l (SqL.of X.er) (v := .ref ls) rfl ?_
    refine for_l (xs := us) (ISR r r2 H) ⟨⟨_, _, rfl⟩, Fr.refl _ _⟩ (fun i σ H1 _ p => SqL.of (p.2.1 _ _ (by simp) X.es)) ?_ ?_
    · rintro i x σ H1 hx ⟨⟨v2, v3, rfl⟩, F1⟩
      obtain ⟨p, s, rfl, es, _, er⟩ := X.rw.get i x hx
      have hs := G.gs s (List.mem_of_getElem? es)
      walk_at "wp"
      refine ix_l (SqL.of (X2.f0 F1).er) (v := .ref ls2) rfl ?_
      refine for_l (xs := us2) (ISR2 r r2 p H) ⟨⟨_, rfl⟩, F1⟩ (fun i σ H1 _ p => SqL.of (p.2.1 _ _ (by simp) X2.es)) ?_ ?_
      · rintro j y σ H2 hy ⟨⟨v3, rfl⟩, F2⟩
        obtain ⟨p2, t, rfl, et, _, er2⟩ := X2.rw.get j y hy
        have ht := G2.gs t (List.mem_of_getElem? et)
        walk_at "wp"
        refine ⟨p, s, rfl, F2.1 _ _ (by simp) er, fun g1 H3 _ S1 F3 => ?_⟩
        have F03 := F2.trans F3
        walk_at "wp"
        refine ⟨p2, t, rfl, F03.1 _ _ (by simp) er2, fun g2 H4 _ S2 F4 => ?_⟩
        have F04 := F03.trans F4
        have S14 := S1.fr F4 (by simp)
        obtain ⟨d1, e1⟩ := S14
        walk_at "wp"
        refine own_eq (sp := sp_eqS K) e1 (ty_Sort ev S2.choose_spec) (nf_Sort_Sort ev) ⟨g1, s, .ref g2, rfl, ⟨d1, e1⟩, .inl ⟨g2, t, rfl, S2, ?_⟩⟩
        walk_at "wp"
        refine eqD_l (dp_row (SqT.of (F04.1 _ _ (by simp) er))) (dp_row (SqT.of (F04.1 _ _ (by simp) er2))) (four_sh hs) (four_sh ht) ?_
        rw [four_eq]
        walk_at "wp"
        refine ⟨p, s, rfl, F04.1 _ _ (by simp) er, fun g3 H5 _ S3 F5 => ?_⟩
        have F05 := F04.trans F5
        obtain ⟨d3, e3⟩ := S3
        walk_at "wp"
        refine own_eq (sp := sp_eqS K) e3 (ty_tup (F05.1 _ _ (by simp) er)) (nf_Sort_tuple ev) ⟨g3, s, .ref p, rfl, ⟨d3, e3⟩, .inr ⟨_, ty_tup (F05.1 _ _ (by simp) er), kit_tuple_Sort ev, ?_⟩⟩
        walk_at "wp"
        exact ⟨⟨_, rfl⟩, F05⟩
      · rintro σ H2 ⟨⟨v3, rfl⟩, F2⟩
        exact ⟨⟨_, _, rfl⟩, F2⟩
    · rintro σ H1 ⟨⟨v2, v3, rfl⟩, F1⟩
      walk_at "wp"
      exact q H1 F1
theorem ok__law_names_right (ev : E K mg) : My.CalleeG P w K mg base CX0 5 d__law_names_right ["_law_scheme", "_law_spec_here"] (spNR K) := by
  obtain ⟨fd, F⟩ := ev.e.c.def_ 27 (d := d__law_names_right) rfl
  refine ⟨_, fd, ?_, ev.glo 17, F.kp, F.bindsN fun _ _ _ _ _ _ us hl => match us, hl with | [_, _], _ => rfl⟩
  refine okG F sc__law_names_right (fun vs H Q Ex h => ?_) (fun cdv A outer s H vs Q Ex hgd hr h => ⟨_, PSs.nox
    (pss_cons (ps_setLc (i := 3) (own := [("_law_one", 2)]) (g := (gName 2)) (tt := tYes) rfl sc__law_names_right.nd rfl rfl (sw_true rfl rfl rfl (by decide +kernel)) (pi_list (pe_ix ix_list (pv 1) pe_int (fun _ _ => rfl))) (blkOk_by (own := [("_law_one", 2)]) (N := ["_law_scheme", "_law_spec_here", "_law_one", "_law_names_here", "_law_word", "_law_due_here", "_law_given"]) (sc := defScope s__law_names_right) (by decide +kernel)) (fun _ _ _ _ _ => (pg_name (i := 2) sc__law_names_right.nd rfl (Or.inl rfl))) (fun _ _ _ _ _ => pts_nil) (fun _ _ _ _ _ => (pe_ix (r := rIxT K) ix_tup (pv 2) pe_int (fun _ _ => rfl))))
  (pss_cons (ps_for PassesOwn.never rfl (pi_list (pe_op op_cat (pe_op op_cat (pv 3) (pe_fn (ok__law_columns ev) (hr.mono (by decide)) rfl (pa_cons (pv 1) pa_nil))) (pe_lst (pa_cons pe_str (pa_cons pe_str pa_nil))))) (pg_name (i := 4) sc__law_names_right.nd rfl (Or.inl rfl))
  (pss_cons (ps_set (i := 5) sc__law_names_right.nd rfl (Or.inl rfl) (pe_tup (pa_cons pe_str (pa_cons (pv 4) pa_nil))))
  (pss_cons (ps_if (pt_cmpR op_in_seq (pv 4) (pv 3) (by rfl)) (pss_one (ps_set (i := 5) sc__law_names_right.nd rfl (Or.inl rfl) (pe_tup (pa_cons pe_str (pa_cons (pe_callB (r := rRepr K) (call_reprG hgd hr.units) rfl (free_repr ev) (by decide +kernel) (pa_cons (pe_callTy (r := rTupOf K) call_tupOf rfl (free_tuple ev) (by decide +kernel) (pa_cons (pe_ix ix_list (pe_ix ix_list (pv 1) pe_int (fun _ _ => rfl)) (pe_bm PySem.F.plainAttrs_list PySem.F.slot_list_index PySem.F.type_list_index (r := rIndex K) mt_index (pv 3) (pa_cons (pv 4) pa_nil)) (fun _ _ => rfl)) pa_nil)) pa_nil)) pa_nil)))))
  pss_nil)
  (pss_one (ps_if (pt_cmpR (op_neD hr.units) (pe_fnG (ok__law_named ev) hgd (hr.mono (by decide)) rfl (pa_cons (pv 0) (pa_cons (pv 4) pa_nil))) (pv 5) (nomark _)) (pss_one (ps_ret pe_bl))
  pss_nil)))))
  (pss_cons (ps_for PassesOwn.never rfl (pi_list (pe_ix ix_list (pv 1) pe_int (fun _ _ => rfl))) (pg_name (i := 2) sc__law_names_right.nd rfl (Or.inl rfl))
  (pss_cons (ps_set (i := 6) sc__law_names_right.nd rfl (Or.inl rfl) (pe_fn (ok__law_sort ev) (hr.mono (by decide)) rfl (pa_cons (pv 2) pa_nil)))
  (pss_one (ps_if (PW.pt (pw_or (pt_cmpR (op_neC (ok_Sort___eq__ (K := K) ev) (mro_Sort ev) (ne_Sort ev) (hr.mono (by decide))) (pe_me (ok_Scheme_sort_named ev) (pv 0) (hr.mono (by decide)) (pa_cons (pe_ix ix_tup (pv 2) pe_int (fun _ _ => rfl)) pa_nil)) (pv 6) (nomark _)) (pw_or1 (pt_cmpR op_ne (pe_fnG (ok__law_four ev) hgd (hr.mono (by decide)) rfl (pa_cons (pv 6) pa_nil)) (pe_callB (r := rRepr K) (call_reprG hgd hr.units) rfl (free_repr ev) (by decide +kernel) (pa_cons (pe_callTy (r := rTupOf K) call_tupOf rfl (free_tuple ev) (by decide +kernel) (pa_cons (pv 2) pa_nil)) pa_nil)) (nomark _))))) (pss_one (ps_ret pe_bl))
  pss_nil))))
  (pss_one (ps_ret pe_bl))))), ?_⟩)
  · first | (obtain ⟨rfl, _⟩ := h; rfl) | (obtain ⟨_, rfl, _⟩ := h; rfl) | (obtain ⟨_, _, rfl, _⟩ := h; rfl) | (obtain ⟨_, _, _, rfl, _⟩ := h; rfl) | (obtain ⟨_, _, _, _, rfl, _⟩ := h; rfl) | (obtain ⟨_, _, _, _, _, rfl, _⟩ := h; rfl) | (obtain ⟨_, _, _, _, _, _, rfl, _⟩ := h; rfl) | (obtain ⟨_, _, _, _, _, _, _, rfl, _⟩ := h; rfl) | (obtain ⟨_, _, _, _, _, _, _, _, rfl, _⟩ := h; rfl) | (obtain ⟨_, _, _, _, _, _, _, _, _, rfl, _⟩ := h; rfl) | (obtain ⟨_, _, _, _, _, _, _, _, _, _, rfl, _⟩ := h; rfl) | (obtain ⟨_, _, _, _, _, _, _, _, _, _, _, rfl, _⟩ := h; rfl) | (obtain ⟨_, _, _, _, _, _, _, _, _, _, _, _, rfl, _⟩ := h; rfl) | (obtain ⟨_, _, _, _, _, _, _, _, _, _, _, _, _, rfl, _⟩ := h; rfl) | (obtain ⟨_, _, _, _, _, _, _, _, _, _, _, _, _, _, rfl, _⟩ := h; rfl) | (obtain ⟨_, _, _, _, _, _, _, _, _, _, _, _, _, _, _, rfl, _⟩ := h; rfl)
  · obtain ⟨S, r, q0, l, P, V', M, rfl, I, ⟨ls, lp, lv, lm, us, X⟩, G, q⟩ := h
    obtain ⟨z1, z2, z3, z4⟩ := G.sz
    have lc := cols_len l P V' M
    have gs := G.gs
    walk_at "wp"
    refine ix_l (SqL.of X.er) (v := .ref ls) rfl ?_
    refine lc_rt (fun s => .str s.n) X.es X.rw (by omega) (fun p => rfl) (fun s p H' Q' e k => ?_) fun nq H1 h1 en F1 => ?_
    · walk_at "wp"
      exact ix_t (SqT.of e) rfl k
    have X1 := X.f0 F1
    have en : H1 nq = some (.lst ((l.map So.n).map V.str)) := by rw [en, List.map_map]; rfl
    walk_at "wp"
    refine ⟨S, r, l, P, V', M, rfl, ⟨ls, lp, lv, lm, us, X1⟩, G.sz, fun c H2 hc ec F2 => ?_⟩
    walk_at "wp"
    refine catQ (F2.1 _ _ (by simp) en) ec (zs := (l.map So.n ++ cols l P V' M).map V.str) (by simp) (by simp only [List.length_map, List.length_append]; omega) fun k H3 hk ek F3 => ?_
    walk_at "wp"
    refine newQ (by show 2 ≤ 1000; decide) fun k2 H4 hk2 ek2 F4 => ?_
    refine catQ (F4.1 _ _ (by simp) ek) ek2 (zs := (l.map So.n ++ cols l P V' M ++ (["", "Zz"] : List Str)).map V.str) (by simp) (by simp only [List.length_map, List.length_append, List.length_cons, List.length_nil]; omega) fun k3 H5 hk3 ek3 F5 => ?_
    have F15 := ((F2.trans F3).trans F4).trans F5
    have F05 := F1.trans F15
    have aw : ∀ w ∈ l.map So.n ++ cols l P V' M ++ (["", "Zz"] : List Str), Aw 9 w := fun w hw => by
      rcases List.mem_append.mp hw with h | h
      · exact good_aw (G.ws w h)
      · have h2 : ((["", "Zz"] : List Str).all fun w => (cl w).all (fun c => decide (c < 128)) && decide (w.length ≤ 9)) = true := by decide +kernel
        have z := List.all_eq_true.mp h2 w h
        rw [Bool.and_eq_true] at z
        exact ⟨fun c hc => of_decide_eq_true (List.all_eq_true.mp z.1 c hc), of_decide_eq_true z.2⟩
    generalize hW : l.map So.n ++ cols l P V' M ++ (["", "Zz"] : List Str) = W at ek3 aw
    walk_at "wp"
    refine for_l (xs := W.map V.str) (INR1 q0 r nq H5) ⟨⟨_, _, _, _, rfl⟩, Fr.refl _ _⟩ (fun i σ H1 _ p => ?_) ?_ ?_
    · exact SqL.of (p.2.1 _ _ (by simp) ek3)
    · rintro i x σ H6 hx ⟨⟨v3, v4, v5, v6, rfl⟩, F6⟩
      rw [List.getElem?_map] at hx
      cases ew : W[i]? with
      | none => rw [ew] at hx; cases hx
      | some w =>
        rw [ew] at hx
        cases hx
        have hw := aw w (List.mem_of_getElem? ew)
        have F06 := F05.trans F6
        walk_at "wp"
        refine newtQ (by show 2 ≤ 1000; decide) fun t H7 ht et F7 => ?_
        have F07 := F06.trans F7
        have X7 := X.f0 F07
        have en7 := ((F15.trans F6).trans F7).1 _ _ (by simp) en
        walk_at "wp"
        refine in_l (.inl (SqL.of en7)) rfl flat_strs ?_
        rw [inV_str]
        walk_at "wp"
        split
        · rename_i hm
          obtain ⟨s, e1, e2⟩ := fnd_idx hm
          refine ix_l (SqL.of X7.er) (v := .ref ls) rfl ?_
          walk_at "wp"
          refine ⟨tyL en7, idxL_l (SqL.of en7) hm ?_⟩
          obtain ⟨p, eu, ep⟩ : ∃ p, us[(l.map So.n).idxOf w]? = some (.ref p) ∧ H7 p = some (.tup (rowV s)) := by
            have hl := (List.getElem?_eq_some_iff.mp e2).1
            have hu : (l.map So.n).idxOf w < us.length := by rw [X7.rw.len]; exact hl
            obtain ⟨p, s', ex, es', _, er⟩ := X7.rw.get _ _ (List.getElem?_eq_getElem hu)
            rw [e2] at es'
            cases es'
            exact ⟨p, by rw [List.getElem?_eq_getElem hu, ex], er⟩
          refine ix_l (SqL.of X7.es) (v := .ref p) (atI_nat eu) ?_
          walk_at "wp"
          refine tupQ (.inr (SqT.of ep)) fun tt H8 ett F8 => ?_
          obtain ⟨s1, s2, s3, s4⟩ := four_shw (gs s (fnd_mem e1).1)
          refine repr_l (d := fourD s) (dp_row ett) s1 s2 s3 s4 ?_
          walk_at "wp"
          refine newtQ (by show 2 ≤ 1000; decide) fun t2 H9 ht2 et2 F9 => ?_
          have F79 := F8.trans F9
          walk_at "wp"
          refine ⟨q0, w, l, P, V', M, rfl, I.fr (F07.trans F79), G, fun z H10 Nz F10 => ?_⟩
          walk_at "wp"
          have N9 : NmV H10 t2 l w := by unfold NmV; rw [e1]; exact F10.1 _ _ (by simp) et2
          have sh := nm_sh gs hw.ok (l := l)
          refine neD_l (nm_dp Nz) (nm_dp N9) sh sh ?_
          rw [nm_eq sh]
          walk_at "wp"
          exact ⟨⟨_, _, _, _, rfl⟩, (F6.trans (F7.trans F79)).trans F10⟩
        · rename_i hm
          refine ⟨q0, w, l, P, V', M, rfl, I.fr F07, G, fun z H10 Nz F10 => ?_⟩
          walk_at "wp"
          have N9 : NmV H10 t l w := by unfold NmV; rw [fnd_none.mpr hm]; exact F10.1 _ _ (by simp) et
          have sh := nm_sh gs hw.ok (l := l)
          refine neD_l (nm_dp Nz) (nm_dp N9) sh sh ?_
          rw [nm_eq sh]
          walk_at "wp"
          exact ⟨⟨_, _, _, _, rfl⟩, (F6.trans F7).trans F10⟩
    · rintro σ H6 ⟨⟨v3, v4, v5, v6, rfl⟩, F6⟩
      have F06 := F05.trans F6
      have X6 := X.f0 F06
      walk_at "wp"
      refine ix_l (SqL.of X6.er) (v := .ref ls) rfl ?_
      refine for_l (xs := us) (INR1 q0 r nq H6) ⟨⟨_, _, _, _, rfl⟩, Fr.refl _ _⟩ (fun i σ H1 _ p => ?_) ?_ ?_
      · exact SqL.of (p.2.1 _ _ (by simp) X6.es)
      · rintro i x σ H7 hx ⟨⟨v3, v4, v5, v6, rfl⟩, F7⟩
        have F07 := F06.trans F7
        have X7 := X.f0 F07
        obtain ⟨p, s, rfl, es, _, er⟩ := X7.rw.get i x hx
        have hs : s ∈ l := List.mem_of_getElem? es
        have I7 := I.fr F07
        walk_at "wp"
        refine ⟨p, s, rfl, er, fun g H8 hg Sg F8 => ?_⟩
        have I8 := I7.fr F8
        have I8' := I8
        obtain ⟨dx, ts, tp, tv, tm, vs, i1, _⟩ := I8'
        walk_at "wp"
        refine meth_l i1 rfl ?_
        walk_at "wp"
        refine ix_t (SqT.of (F8.1 _ _ (by simp) er)) (v := .str s.n) rfl ?_
        walk_at "wp"
        refine ⟨q0, s.n, l, P, V', M, s, rfl, I8, fnd_own G.c.nn hs, fun b H9 Sb F9 => ?_⟩
        have Sg9 := Sg.fr F9 (by simp)
        obtain ⟨db, eb⟩ := Sb
        walk_at "wp"
        refine own_ne (sp := sp_eqS K) eb (ty_Sort ev Sg9.choose_spec) (nf_Sort_Sort ev) ⟨b, s, .ref g, rfl, ⟨db, eb⟩, .inl ⟨g, s, rfl, Sg9, ?_⟩⟩
        rw [decide_eq_true rfl]
        refine ⟨true, rfl, ?_⟩
        walk_at "wp"
        refine ⟨g, s, rfl, Sg9, gs s hs, fun H10 F10 => ?_⟩
        walk_at "wp"
        refine tupQ (.inr (SqT.of (((F8.trans F9).trans F10).1 _ _ (by simp) er))) fun tt H11 ett F11 => ?_
        obtain ⟨s1, s2, s3, s4⟩ := four_shw (gs s hs)
        refine repr_l (d := fourD s) (dp_row ett) s1 s2 s3 s4 ?_
        walk_at "wp"
        exact ⟨⟨_, _, _, _, rfl⟩, (((F7.trans F8).trans F9).trans F10).trans F11⟩
      · rintro σ H7 ⟨⟨v3, v4, v5, v6, rfl⟩, F7⟩
        walk_at "wp"
        exact q H7 (F06.trans F7)
theorem ok__law_made (ev : E K mg) : My.Callee P w K mg base CX0 6 d__law_made ["_law_spec_here"] (spMade K) := by
  obtain ⟨fd, F⟩ := ev.e.c.def_ 21 (d := d__law_made) rfl
  refine ⟨_, fd, ?_, ev.glo 11, F.kp, F.bindsN fun _ _ _ _ _ _ us hl => match us, hl with | [_], _ => rfl, F⟩
  refine F.ok sc__law_made (fun vs H Q Ex h => ?_) (fun cdv A outer s H vs Q Ex hr h => ⟨_, PSs.nox
    (pss_cons (ps_setLc (i := 1) (own := [("_law_one", 5)]) (g := (gName 5)) (tt := tYes) rfl sc__law_made.nd rfl rfl (sw_true rfl rfl rfl (by decide +kernel)) (pi_list (pe_ix ix_list (pv 0) pe_int (fun _ _ => rfl))) (blkOk_by (own := [("_law_one", 5)]) (N := ["_law_spec_here", "_law_sorts", "_law_kinds", "_law_found", "_law_words", "_law_one"]) (sc := defScope s__law_made) (by decide +kernel)) (fun _ _ _ _ _ => (pg_name (i := 5) sc__law_made.nd rfl (Or.inl rfl))) (fun _ _ _ _ _ => pts_nil) (fun _ _ _ _ _ => (pe_fn (ok__law_sort ev) (hr.mono (by decide)) rfl (pa_cons (pv 5) pa_nil))))
  (pss_cons (ps_set (i := 2) sc__law_made.nd rfl (Or.inl rfl) (pe_lst (pa_cons (pe_callTy (r := rListOf K) call_listOf rfl (free_list ev) (by decide +kernel) (pa_cons (pe_ix ix_list (pv 0) pe_int (fun _ _ => rfl)) pa_nil)) (pa_cons (pe_callTy (r := rListOf K) call_listOf rfl (free_list ev) (by decide +kernel) (pa_cons (pe_ix ix_list (pv 0) pe_int (fun _ _ => rfl)) pa_nil)) (pa_cons (pe_callTy (r := rListOf K) call_listOf rfl (free_list ev) (by decide +kernel) (pa_cons (pe_ix ix_list (pv 0) pe_int (fun _ _ => rfl)) pa_nil)) pa_nil)))))
  (Evl.pss_cut (ps_if (pt_cmpR (op_eqD hr.units) (pv 2) (pe_lst (pa_cons (pe_lst pa_nil) (pa_cons (pe_lst pa_nil) (pa_cons (pe_lst pa_nil) pa_nil)))) (nomark _)) (pss_one (ps_set (i := 3) sc__law_made.nd rfl (Or.inl rfl) (pe_mkD (K := K) (E := fun _ => E0) (n := 1) (ks := []) rfl (ok_Scheme___init__ (K := K) ev) [(("parts" : Str), V.ref (kwA "parts" K)), (("values" : Str), V.ref (kwA "values" K)), (("marks" : Str), V.ref (kwA "marks" K))] (fun us mv ws => us ++ (((mv.drop 0).take 1) ++ ((mv.drop 1).take 1) ++ ((mv.drop 2).take 1))) (List.Sublist.subset (show List.Sublist ([(("parts" : Str), V.ref (kwA "parts" K)), (("values" : Str), V.ref (kwA "values" K)), (("marks" : Str), V.ref (kwA "marks" K))] : List (Str × V)) (He.DefD.kws K d_Scheme___init__) from (.cons₂ _ (.cons₂ _ (.cons₂ _ .slnil))))) (List.cons_ne_nil _ _) (hr.mono (by decide)) (fun σ => by first | exact pass_no | exact pass_cx) rfl (pa_cons (pv 1) pa_nil) pk_nil (fun _ _ _ _ _ _ _ us mv ws h1 h2 h3 => match us, mv, ws, h1, h2, h3 with | [_], [_, _, _], [], _, _, _ => ⟨_, _, _, _, _, _, rfl, rfl, ⟨_, _, _, _, _, _, rfl, rfl, ⟨_, _, _, _, _, _, rfl, rfl, (kwEnd rfl)⟩⟩⟩) (fun r1 rm r2 => r1.append ((((rm.drop 0).take 1).append ((rm.drop 1).take 1)).append ((rm.drop 2).take 1))))))
  (pss_one (ps_if (pt_cmpR (op_eqD hr.units) (pe_ix ix_list (pv 2) pe_int (fun _ _ => rfl)) (pe_lst pa_nil) (nomark _)) (pss_one (ps_set (i := 3) sc__law_made.nd rfl (Or.inl rfl) (pe_mkD (K := K) (E := fun _ => E0) (n := 1) (ks := ["values", "parts"]) rfl (ok_Scheme___init__ (K := K) ev) [(("marks" : Str), V.ref (kwA "marks" K))] (fun us mv ws => us ++ (((ws.drop 1).take 1) ++ ((ws.drop 0).take 1) ++ ((mv.drop 0).take 1))) (List.Sublist.subset (show List.Sublist ([(("marks" : Str), V.ref (kwA "marks" K))] : List (Str × V)) (He.DefD.kws K d_Scheme___init__) from (.cons _ (.cons _ (.cons₂ _ .slnil))))) (List.cons_ne_nil _ _) (hr.mono (by decide)) (fun σ => by first | exact pass_no | exact pass_cx) rfl (pa_cons (pv 1) pa_nil) (pk_cons (pe_ix ix_list (pv 2) pe_int (fun _ _ => rfl)) (pk_cons (pe_ix ix_list (pv 2) pe_int (fun _ _ => rfl)) pk_nil)) (fun _ _ _ _ _ _ _ us mv ws h1 h2 h3 => match us, mv, ws, h1, h2, h3 with | [_], [_], [_, _], _, _, _ => ⟨_, _, _, _, _, _, rfl, rfl, (kwEnd rfl)⟩) (fun r1 rm r2 => r1.append ((((r2.drop 1).take 1).append ((r2.drop 0).take 1)).append ((rm.drop 0).take 1))))))
  (pss_one (ps_set (i := 3) sc__law_made.nd rfl (Or.inl rfl) (pe_mkM (K := K) (E := fun _ => E0) (n := 1) (ks := ["parts", "values", "marks"]) rfl (ok_Scheme___init__ (K := K) ev) (fun us ws => us ++ ws) (hr.mono (by decide)) (fun σ => by first | exact pass_no | exact pass_cx) rfl (pa_cons (pv 1) pa_nil) (pk_cons (pe_ix ix_list (pv 2) pe_int (fun _ _ => rfl)) (pk_cons (pe_ix ix_list (pv 2) pe_int (fun _ _ => rfl)) (pk_cons (pe_ix ix_list (pv 2) pe_int (fun _ _ => rfl)) pk_nil))) (fun _ _ _ _ _ _ _ us ws h1 h2 => match us, ws, h1, h2 with | [_], [_, _, _], _, _ => rfl) (fun r1 r2 => r1.append r2)))))))
  (pss_cons (ps_if (PW.pt (pw_or (pt_cmpR (op_neD hr.units) (pv 2) (pe_lc (own := [("_law_words", 4)]) (g := (gName 4)) (tt := tYes) rfl sc__law_made.nd (pi_list (pe_slice sl_list (pv 0) (po_some pe_int) po_none)) (blkOk_by (own := [("_law_words", 4)]) (N := ["_law_spec_here", "_law_sorts", "_law_kinds", "_law_found", "_law_words", "_law_one"]) (sc := defScope s__law_made) (by decide +kernel)) (fun _ _ _ _ _ => (pg_name (i := 4) sc__law_made.nd rfl (Or.inl rfl))) (fun _ _ _ _ _ => pts_nil) (fun _ _ _ _ _ => (pe_callTy (r := rListOf K) call_listOf rfl (free_list ev) (by decide +kernel) (pa_cons (pv 4) pa_nil)))) (nomark _)) (pw_or1 (pt_cmpR op_ne (pe_callB call_lenR rfl (free_len ev) (by decide +kernel) (pa_cons (pv 1) pa_nil)) (pe_callB call_lenR rfl (free_len ev) (by decide +kernel) (pa_cons (pe_ix ix_list (pv 0) pe_int (fun _ _ => rfl)) pa_nil)) (nomark _))))) (pss_one (ps_ret pe_non))
  pss_nil)
  (pss_cons (ps_expr (pe_bm PySem.F.plainAttrs_list PySem.F.slot_list_append PySem.F.type_list_append mt_append (pv 1) (pa_cons pe_str pa_nil)))
  (pss_cons (ps_for PassesOwn.never rfl (pi_list (pv 2)) (pg_name (i := 4) sc__law_made.nd rfl (Or.inl rfl))
  (pss_one (ps_expr (pe_bm PySem.F.plainAttrs_list PySem.F.slot_list_append PySem.F.type_list_append mt_append (pv 4) (pa_cons pe_str pa_nil)))))
  (pss_one (ps_ret (pv 3))))))))), ?_⟩)
  · first | (obtain ⟨rfl, _⟩ := h; rfl) | (obtain ⟨_, rfl, _⟩ := h; rfl) | (obtain ⟨_, _, rfl, _⟩ := h; rfl) | (obtain ⟨_, _, _, rfl, _⟩ := h; rfl) | (obtain ⟨_, _, _, _, rfl, _⟩ := h; rfl) | (obtain ⟨_, _, _, _, _, rfl, _⟩ := h; rfl) | (obtain ⟨_, _, _, _, _, _, rfl, _⟩ := h; rfl) | (obtain ⟨_, _, _, _, _, _, _, rfl, _⟩ := h; rfl) | (obtain ⟨_, _, _, _, _, _, _, _, rfl, _⟩ := h; rfl) | (obtain ⟨_, _, _, _, _, _, _, _, _, rfl, _⟩ := h; rfl) | (obtain ⟨_, _, _, _, _, _, _, _, _, _, rfl, _⟩ := h; rfl) | (obtain ⟨_, _, _, _, _, _, _, _, _, _, _, rfl, _⟩ := h; rfl) | (obtain ⟨_, _, _, _, _, _, _, _, _, _, _, _, rfl, _⟩ := h; rfl) | (obtain ⟨_, _, _, _, _, _, _, _, _, _, _, _, _, rfl, _⟩ := h; rfl) | (obtain ⟨_, _, _, _, _, _, _, _, _, _, _, _, _, _, rfl, _⟩ := h; rfl) | (obtain ⟨_, _, _, _, _, _, _, _, _, _, _, _, _, _, _, rfl, _⟩ := h; rfl)
  · obtain ⟨S, r, l, P, V', M, rfl, ⟨ls, lp, lv, lm, us, X⟩, G, q⟩ := h
    have c0 := G.c.chk
    obtain ⟨z1, z2, z3, z4⟩ := G.sz
    walk_at "wp"
    refine ix_l (SqL.of X.er) (v := .ref ls) rfl ?_
    refine lc_l (S := []) (fun _ => True) (RSt K H) (SqL.of X.es) (by simp) (by rw [X.rw.len]; omega) (by simp) ⟨True.intro, fun _ _ _ _ _ => True.intro, fun x y H' H'' f r => ?_, fun x y H' Dl ys zs e r => ?_, fun x H' hx Fx _ Qn kq => ?_⟩ fun nq ys H1 h1 e1 kk F1 _ => ?_
    · obtain ⟨p, s, q, e1, e2, e3, e4⟩ := r
      exact ⟨p, s, q, e1, e2, e3, e4.fr f (by simp)⟩
    · obtain ⟨p, s, q, e1, e2, e3, dx, e4⟩ := r
      exact ⟨p, s, q, e1, e2, e3, dx, (upd_ne (fun z => by rw [z, e] at e4; cases e4)).trans e4⟩
    · obtain ⟨i, hi⟩ := List.getElem?_of_mem hx
      obtain ⟨p, s, rfl, _, _, er⟩ := X.rw.get i x hi
      walk_at "wp"
      refine ⟨p, s, rfl, Fx.1 _ _ (by simp) er, fun q' H2 _ S2 F2 => ?_⟩
      exact kq (some (.ref q')) H2 ⟨p, s, q', rfl, er, rfl, S2⟩ F2 True.intro
    have SL := kept_sot X.rw kk
    have lys : ys.length = l.length := SL.len
    have X1 := X.f0 F1
    walk_at "wp"
    refine ix_l (SqL.of X1.er) (v := .ref lp) rfl ?_
    walk_at "wp"
    refine listQ (.inl (SqL.of X1.ep)) fun kp H2 h2 ep F2 => ?_
    have X2 := X1.f0 F2
    walk_at "wp"
    refine ix_l (SqL.of X2.er) (v := .ref lv) rfl ?_
    walk_at "wp"
    refine listQ (.inl (SqL.of X2.ev)) fun kv H3 h3 ev' F3 => ?_
    have X3 := X2.f0 F3
    walk_at "wp"
    refine ix_l (SqL.of X3.er) (v := .ref lm) rfl ?_
    walk_at "wp"
    refine listQ (.inl (SqL.of X3.em)) fun km H4 h4 em F4 => ?_
    have X4 := X3.f0 F4
    walk_at "wp"
    refine newQ (by show 3 ≤ 1000; decide) fun k0 H5 h5 e5 F5 => ?_
    have X5 := X4.f0 F5
    have nk : k0 ≠ nq ∧ k0 ≠ kp ∧ k0 ≠ kv ∧ k0 ≠ km := ⟨Ne.symm (ne_of_none (((F2.trans F3).trans F4).1 _ _ (by simp) e1) h5), Ne.symm (ne_of_none ((F3.trans F4).1 _ _ (by simp) ep) h5), Ne.symm (ne_of_none (F4.1 _ _ (by simp) ev') h5), Ne.symm (ne_of_none em h5)⟩
    have n0 : H nq = none ∧ H kp = none ∧ H kv = none ∧ H km = none := ⟨h1, F1.2 _ h2, (F1.trans F2).2 _ h3, ((F1.trans F2).trans F3).2 _ h4⟩
    have F15 := ((F2.trans F3).trans F4).trans F5
    have F05 := F1.trans F15
    have es := F15.1 _ _ (by simp) e1
    have SL := SL.fr F15
    have ep := ((F3.trans F4).trans F5).1 _ _ (by simp) ep
    have ev' := (F4.trans F5).1 _ _ (by simp) ev'
    have em := F5.1 _ _ (by simp) em
    clear F1 F2 F3 F4 F5 X X1 X2 X3 X4
    walk_at "wp"
    refine Evl.q_cut (M := MdW K H H5 r nq k0 l P V' M) ?_ ?_
    · walk_at "wp"
      refine newQ (by show 0 ≤ 1000; decide) fun a1 H6 h6 a1e F6 => ?_
      walk_at "wp"
      refine newQ (by show 0 ≤ 1000; decide) fun a2 H7 h7 a2e F7 => ?_
      walk_at "wp"
      refine newQ (by show 0 ≤ 1000; decide) fun a3 H8 h8 a3e F8 => ?_
      walk_at "wp"
      refine newQ (by show 3 ≤ 1000; decide) fun a4 H9 h9 a4e F9 => ?_
      walk_at "wp"
      have F59 := ((F6.trans F7).trans F8).trans F9
      have F09 := F05.trans F59
      have kd : Dp K H9 (.ref k0) (kD P V' M) := kD_dp (F59.1 _ _ (by simp) e5) (F59.1 _ _ (by simp) ep) (F59.1 _ _ (by simp) ev') (F59.1 _ _ (by simp) em)
      refine eqD_l kd (kD_dp a4e (((F7.trans F8).trans F9).1 _ _ (by simp) a1e) ((F8.trans F9).1 _ _ (by simp) a2e) (F9.1 _ _ (by simp) a3e) (P := []) (V' := []) (M := [])) (kD_sh G.ok) (kD_sh (by simp)) ?_
      rw [kD_eq]
      have es9 := F59.1 _ _ (by simp) es
      have SL9 := SL.fr F59
      have e59 := F59.1 _ _ (by simp) e5
      have ep9 := F59.1 _ _ (by simp) ep
      have ev9 := F59.1 _ _ (by simp) ev'
      have em9 := F59.1 _ _ (by simp) em
      walk_at "wp"
      split
      · rename_i hh
        simp only [Bool.and_eq_true, decide_eq_true_eq] at hh
        obtain ⟨hP, hV, hM⟩ := hh
        walk_at "wp"
        refine mkM_l rfl rfl fun x dx hx1 hx2 hne => ?_
        refine sch_run hx1 hx2 es9 SL9 (.inr (by rw [hP]; exact kw_parts ev _)) (.inr (by rw [hV]; exact kw_values ev _)) (.inr (by rw [hM]; exact kw_marks ev _)) G fun H' I' F' => ?_
        walk_at "wp"
        exact ⟨x, _, _, rfl, F09.2 _ hx1, I', F59.trans F'⟩
      · walk_at "wp"
        refine ix_l (SqL.of e59) (v := .ref km) rfl ?_
        walk_at "wp"
        refine newQ (by show 0 ≤ 1000; decide) fun a5 H10 h10 a5e F10 => ?_
        have F010 := F09.trans F10
        have es10 := F10.1 _ _ (by simp) es9
        have SL10 := SL9.fr F10
        have e510 := F10.1 _ _ (by simp) e59
        have ep10 := F10.1 _ _ (by simp) ep9
        have ev10 := F10.1 _ _ (by simp) ev9
        have em10 := F10.1 _ _ (by simp) em9
        refine eqD_l (.lst (SqL.of em10) (dp_ss M)) (.lst (SqL.of a5e) .nil) (sh_lst fun w hw => G.ok w (by simp [hw])) (by rfl) ?_
        rw [show PyData.eqv (.list (M.map PyData.str)) (.list []) = decide (M = []) from eqv_lst M []]
        walk_at "wp"
        split
        · rename_i hM
          walk_at "wp"
          refine ix_l (SqL.of e510) (v := .ref kv) rfl ?_
          walk_at "wp"
          refine ix_l (SqL.of e510) (v := .ref kp) rfl ?_
          walk_at "wp"
          refine mkM_l rfl rfl fun x dx hx1 hx2 hne => ?_
          refine sch_run hx1 hx2 es10 SL10 (.inl (SqL.of ep10)) (.inl (SqL.of ev10)) (.inr (by rw [hM]; exact kw_marks ev _)) G fun H' I' F' => ?_
          walk_at "wp"
          exact ⟨x, _, _, rfl, F010.2 _ hx1, I', (F59.trans F10).trans F'⟩
        · walk_at "wp"
          refine ix_l (SqL.of e510) (v := .ref kp) rfl ?_
          walk_at "wp"
          refine ix_l (SqL.of e510) (v := .ref kv) rfl ?_
          walk_at "wp"
          refine ix_l (SqL.of e510) (v := .ref km) rfl ?_
          walk_at "wp"
          refine mkM_l rfl rfl fun x dx hx1 hx2 hne => ?_
          refine sch_run hx1 hx2 es10 SL10 (.inl (SqL.of ep10)) (.inl (SqL.of ev10)) (.inl (SqL.of em10)) G fun H' I' F' => ?_
          walk_at "wp"
          exact ⟨x, _, _, rfl, F010.2 _ hx1, I', (F59.trans F10).trans F'⟩
    · rintro σ H6 ⟨x, v4, v5, rfl, nx, I6, F6⟩
      have X6 := X5.f0 F6
      have F06 := F05.trans F6
      walk_at "wp"
      refine slQ (SqL.of X6.er) (ys := [lp, lv, lm].map V.ref) rfl fun s1 H7 h7 e7 F7 => ?_
      have X7 := X6.f0 F7
      refine lc_copy (cont := [P.map V.str, V'.map V.str, M.map V.str]) (SqL.of e7) (by show 3 ≤ 1000; decide) (fun i b e => ?_) (fun p => rfl) (fun b xs H' Q' h k => ?_) fun d0 qs H8 h8 e8 lqs nd8 g8 F8 => ?_
      · match i, e with
        | 0, e => cases e; exact ⟨_, rfl, .inl (SqL.of X7.ep)⟩
        | 1, e => cases e; exact ⟨_, rfl, .inl (SqL.of X7.ev)⟩
        | 2, e => cases e; exact ⟨_, rfl, .inl (SqL.of X7.em)⟩
        | i + 3, e => cases e
      · walk_at "wp"
        exact listOf_l h k
      obtain ⟨dp, dv, dm, rfl⟩ : ∃ kp kv km, qs = [kp, kv, km] := by
        match qs, lqs with
        | [x, y, z], _ => exact ⟨x, y, z, rfl⟩
      have F58 := (F6.trans F7).trans F8
      have F68 := F7.trans F8
      have e58 := F58.1 _ _ (by simp) e5
      have ep8 := F58.1 _ _ (by simp) ep
      have ev8 := F58.1 _ _ (by simp) ev'
      have em8 := F58.1 _ _ (by simp) em
      have es8 := F58.1 _ _ (by simp) es
      walk_at "wp"
      refine neD_l (kD_dp e58 ep8 ev8 em8) (kD_dp e8 (g8 0 dp _ rfl rfl).2 (g8 1 dv _ rfl rfl).2 (g8 2 dm _ rfl rfl).2) (kD_sh G.ok) (kD_sh G.ok) ?_
      rw [kD_eq]
      simp only [decide_true, Bool.and_self, Bool.not_true]
      walk_at "wp"
      refine len_l (SqL.of es8) ?_
      walk_at "wp"
      have X8 := X6.f0 F68
      refine ix_l (SqL.of X8.er) (v := .ref ls) rfl ?_
      walk_at "wp"
      refine len_l (SqL.of X8.es) ?_
      rw [lys, X8.rw.len]
      walk_at "wp"
      refine ⟨tyL es8, app_l es8 (by have : (100 : Nat) ≤ sizeLine := by decide
                                     omega) ?_⟩
      have I8 := (I6.fr F68).put (ys := ys ++ [.str "more"]) es8
      have FA : My.Fr [nq, kp, kv, km] H8 (upd H8 nq (.lst (ys ++ [.str "more"]))) := (Fr.refl _ _).put (by simp)
      generalize hu : upd H8 nq (.lst (ys ++ [.str "more"])) = HN at I8 FA ⊢
      have hupd := hu
      walk_at "wp"
      have k0n : k0 ∉ [nq, kp, kv, km] := by simp [nk.1, nk.2.1, nk.2.2.1, nk.2.2.2]
      have cell : ∀ (b : Addr) (ws : List Str), b ∈ [kp, kv, km] → H8 b = some (.lst (ws.map V.str)) → ws.length ≤ 4 → ∃ ws, HN b = some (.lst ws) ∧ ws.length ≤ 10 + 0 := fun b ws _ e le => by
        by_cases z : b = nq
        · rw [← hupd, z]
          exact ⟨_, upd_same, by rw [List.length_append]; show ys.length + 1 ≤ 10; omega⟩
        · rw [← hupd]
          exact ⟨_, (upd_ne z).trans e, by rw [List.length_map]; omega⟩
      refine for_l (xs := [V.ref kp, V.ref kv, V.ref km]) (IMd K r nq k0 x kp kv km l P V' M H8) ⟨⟨_, _, rfl⟩, I8, FA.1 _ _ k0n e58, fun b hb => ?_, fun z => k0n (List.mem_cons_of_mem _ z), FA⟩ (fun i σ H1 _ p => ?_) ?_ ?_
      · simp only [List.mem_cons, List.not_mem_nil, or_false] at hb
        rcases hb with rfl | rfl | rfl
        · exact cell _ _ (by simp) ep8 (by omega)
        · exact cell _ _ (by simp) ev8 (by omega)
        · exact cell _ _ (by simp) em8 (by omega)
      · obtain ⟨_, _, e, _⟩ := p
        exact SqL.of e
      · rintro i w σ HA hw ⟨⟨v4, v5, rfl⟩, IA, eA, cA, nA, FB⟩
        obtain ⟨b, rfl, hb⟩ : ∃ b, w = .ref b ∧ b ∈ [kp, kv, km] := by
          match i, hw with
          | 0, hw => cases hw; exact ⟨kp, rfl, by simp⟩
          | 1, hw => cases hw; exact ⟨kv, rfl, by simp⟩
          | 2, hw => cases hw; exact ⟨km, rfl, by simp⟩
          | i + 3, hw => cases hw
        have hi : i < 3 := (List.getElem?_eq_some_iff.mp hw).1
        obtain ⟨ws, eb, lb⟩ := cA b hb
        walk_at "wp"
        refine ⟨tyL eb, app_l eb (by have : (100 : Nat) ≤ sizeLine := by decide
                                     omega) ?_⟩
        walk_at "wp"
        refine ⟨⟨_, _, rfl⟩, IA.put eb, (upd_ne (fun z => nA (by rw [z]; exact hb))).trans eA, fun c hc => ?_, nA, FB.put (List.mem_cons_of_mem _ hb)⟩
        by_cases z : c = b
        · rw [z]
          exact ⟨_, upd_same, by rw [List.length_append]; show ws.length + 1 ≤ _; omega⟩
        · obtain ⟨us', e', l'⟩ := cA c hc
          exact ⟨us', (upd_ne z).trans e', by omega⟩
      · rintro σ HA ⟨⟨v4, v5, rfl⟩, IA, eA, cA, nA, FB⟩
        walk_at "wp"
        refine q x HA nx IA (fr_away ((F06.trans F7).trans F8) FB fun t ht => ?_)
        simp only [List.mem_cons, List.not_mem_nil, or_false] at ht
        rcases ht with rfl | rfl | rfl | rfl
        · exact n0.1
        · exact n0.2.1
        · exact n0.2.2.1
        · exact n0.2.2.2
theorem ok__law_right (ev : E K mg) : My.CalleeG P w K mg base CX0 6 d__law_right ["_law_scheme", "_law_spec_here"] (spRight K) := by
  obtain ⟨fd, F⟩ := ev.e.c.def_ 30 (d := d__law_right) rfl
  refine ⟨_, fd, ?_, ev.glo 20, F.kp, F.bindsN fun _ _ _ _ _ _ us hl => match us, hl with | [_, _], _ => rfl⟩
  refine okG F sc__law_right (fun vs H Q Ex h => ?_) (fun cdv A outer s H vs Q Ex hgd hr h => ⟨_, PSs.nox
    (pss_cons (ps_if (pt_cmpR op_isNo (pv 0) pe_non (nomark _)) (pss_one (ps_ret pe_bl))
  pss_nil)
  (pss_cons (ps_expr (pe_bm PySem.F.plainAttrs_list PySem.F.slot_list_append PySem.F.type_list_append mt_append (pe_me0 (ok_Scheme_columns ev) (pv 0) (hr.mono (by decide))) (pa_cons pe_str pa_nil)))
  (pss_cons (ps_expr (pe_bm0 PySem.F.plainAttrs_list PySem.F.slot_list_clear PySem.F.type_list_clear (r := rClear) mt_clearK (pe_me0 (ok_Scheme_sort_names ev) (pv 0) (hr.mono (by decide)))))
  (pss_cons (ps_for PassesOwn.never rfl (pi_range1 rfl (free_range ev) (pa_cons pe_int pa_nil)) (pg_name (i := 2) sc__law_right.nd rfl (Or.inl rfl))
  (pss_cons (ps_if (PW.pt (pw_or (pt_cmpR op_ne (pe_fnG (ok__law_told ev) hgd (hr.mono (by decide)) rfl (pa_cons (pv 0) pa_nil)) (pe_fnG (ok__law_due ev) hgd (hr.mono (by decide)) rfl (pa_cons (pv 1) pa_nil)) (nomark _)) (pw_or1 (pt_not (pt_val (pe_fnG (ok__law_names_right ev) hgd (hr.mono (by decide)) rfl (pa_cons (pv 0) (pa_cons (pv 1) pa_nil)))))))) (pss_one (ps_ret pe_bl))
  pss_nil)
  (pss_cons (ps_expr (pe_bm PySem.F.plainAttrs_list PySem.F.slot_list_append PySem.F.type_list_append mt_append (pe_me0 (ok_Scheme_columns ev) (pv 0) (hr.mono (by decide))) (pa_cons pe_str pa_nil)))
  (pss_one (ps_expr (pe_bm0 PySem.F.plainAttrs_list PySem.F.slot_list_clear PySem.F.type_list_clear (r := rClear) mt_clearK (pe_me0 (ok_Scheme_sort_names ev) (pv 0) (hr.mono (by decide)))))))))
  (pss_one (ps_ret (pe_cmpR op_eq (pe_fnG (ok__law_told ev) hgd (hr.mono (by decide)) rfl (pa_cons (pv 0) pa_nil)) (pe_fnG (ok__law_due ev) hgd (hr.mono (by decide)) rfl (pa_cons (pv 1) pa_nil)) (nomark _)))))))), ?_⟩)
  · first | (obtain ⟨rfl, _⟩ := h; rfl) | (obtain ⟨_, rfl, _⟩ := h; rfl) | (obtain ⟨_, _, rfl, _⟩ := h; rfl) | (obtain ⟨_, _, _, rfl, _⟩ := h; rfl) | (obtain ⟨_, _, _, _, rfl, _⟩ := h; rfl) | (obtain ⟨_, _, _, _, _, rfl, _⟩ := h; rfl) | (obtain ⟨_, _, _, _, _, _, rfl, _⟩ := h; rfl) | (obtain ⟨_, _, _, _, _, _, _, rfl, _⟩ := h; rfl) | (obtain ⟨_, _, _, _, _, _, _, _, rfl, _⟩ := h; rfl) | (obtain ⟨_, _, _, _, _, _, _, _, _, rfl, _⟩ := h; rfl) | (obtain ⟨_, _, _, _, _, _, _, _, _, _, rfl, _⟩ := h; rfl) | (obtain ⟨_, _, _, _, _, _, _, _, _, _, _, rfl, _⟩ := h; rfl) | (obtain ⟨_, _, _, _, _, _, _, _, _, _, _, _, rfl, _⟩ := h; rfl) | (obtain ⟨_, _, _, _, _, _, _, _, _, _, _, _, _, rfl, _⟩ := h; rfl) | (obtain ⟨_, _, _, _, _, _, _, _, _, _, _, _, _, _, rfl, _⟩ := h; rfl) | (obtain ⟨_, _, _, _, _, _, _, _, _, _, _, _, _, _, _, rfl, _⟩ := h; rfl)
  · obtain ⟨S, r, q0, l, P, V', M, rfl, I, X, G, q⟩ := h
    obtain ⟨z1, z2, z3, z4⟩ := G.sz
    have lc := cols_len l P V' M
    have poke : ∀ {H1 : Hp} {D : Ends} {σ : L2.St} (F : My.Fr [] H H1), True := fun _ => True.intro
    walk_at "wp"
    have I0 := I
    obtain ⟨dx, ts, tp, tv, tm, vs, h1, _⟩ := I0
    refine meth_l h1 rfl ?_
    walk_at "wp"
    refine ⟨q0, l, P, V', M, rfl, I, by omega, by omega, by omega, by omega, fun c H1 hc ec F1 => ?_⟩
    walk_at "wp"
    refine ⟨tyL ec, app_l ec (ltl (by rw [List.length_map]; omega)) ?_⟩
    have F2 : My.Fr [] H (upd H1 c (.lst ((cols l P V' M).map V.str ++ [.str "more"]))) := F1.put_free hc
    generalize upd H1 c (.lst ((cols l P V' M).map V.str ++ [.str "more"])) = H2 at F2 ⊢
    walk_at "wp"
    refine meth_l (F2.1 _ _ (by simp) h1) rfl ?_
    walk_at "wp"
    refine ⟨q0, l, P, V', M, rfl, I.fr F2, by omega, fun n H3 hn en F3 => ?_⟩
    walk_at "wp"
    refine ⟨tyL en, clear_l en ?_⟩
    have F4 : My.Fr [] H (upd H3 n (.lst [])) := (F2.trans F3).put_free (F2.2 _ hn)
    generalize upd H3 n (.lst []) = H4 at F4 ⊢
    walk_at "wp"
    refine for_r1 (by decide) (IRt q0 r H) (by decide) ⟨⟨_, rfl⟩, F4⟩ ?_ ?_
    · rintro i σ H5 hi ⟨⟨v2, rfl⟩, F5⟩
      walk_at "wp"
      refine ⟨q0, l, P, V', M, rfl, I.fr F5, G, fun H6 F6 => ?_⟩
      have F06 := F5.trans F6
      walk_at "wp"
      refine ⟨S, r, l, P, V', M, rfl, X.f0 F06, G, fun H7 F7 => ?_⟩
      have F07 := F06.trans F7
      walk_at "wp"
      refine ⟨S, r, q0, l, P, V', M, rfl, I.fr F07, X.f0 F07, G, fun H8 F8 => ?_⟩
      have F08 := F07.trans F8
      walk_at "wp"
      refine meth_l (F08.1 _ _ (by simp) h1) rfl ?_
      walk_at "wp"
      refine ⟨q0, l, P, V', M, rfl, I.fr F08, by omega, by omega, by omega, by omega, fun c H1 hc ec F1 => ?_⟩
      walk_at "wp"
      refine ⟨tyL ec, app_l ec (ltl (by rw [List.length_map]; omega)) ?_⟩
      have F2 : My.Fr [] H (upd H1 c (.lst ((cols l P V' M).map V.str ++ [.str "more"]))) := (F08.trans F1).put_free (F08.2 _ hc)
      generalize upd H1 c (.lst ((cols l P V' M).map V.str ++ [.str "more"])) = H2 at F2 ⊢
      walk_at "wp"
      refine meth_l (F2.1 _ _ (by simp) h1) rfl ?_
      walk_at "wp"
      refine ⟨q0, l, P, V', M, rfl, I.fr F2, by omega, fun n H3 hn en F3 => ?_⟩
      walk_at "wp"
      refine ⟨tyL en, clear_l en ?_⟩
      walk_at "wp"
      exact ⟨⟨_, rfl⟩, (F2.trans F3).put_free (F2.2 _ hn)⟩
    · rintro σ H5 ⟨⟨v2, rfl⟩, F5⟩
      walk_at "wp"
      refine ⟨q0, l, P, V', M, rfl, I.fr F5, G, fun H6 F6 => ?_⟩
      have F06 := F5.trans F6
      walk_at "wp"
      refine ⟨S, r, l, P, V', M, rfl, X.f0 F06, G, fun H7 F7 => ?_⟩
      walk_at "wp"
      exact q H7 (F06.trans F7)
theorem ok_law (ev : E K mg) : ∃ fd : FuncData, (∀ (s : Shared) (v : Value), BindsTo s fd ⟨[v], []⟩ [("_law_script", v)]) ∧ ∀ base : Heap, My.FnG P w K mg base CX0 7 (He.ga K "law") fd ["_law_script"] (sp_law K) := by
  obtain ⟨fd, F⟩ := ev.e.c.def_ 32 (d := d_law) rfl
  have b := FunD.bindsA (ps := ["_law_script"]) F fun _ _ _ _ _ _ us hl => match us, hl with | [_], _ => rfl
  refine ⟨fd, fun s v => b s [v] rfl, fun base => ?_⟩
  refine okG F sc_law (fun vs H Q Ex h => ?_) (fun cdv A outer s H vs Q Ex hgd hr h => ⟨_, PSs.nox
    (pss_cons (ps_set (i := 1) sc_law.nd rfl (Or.inl rfl) (pe_fn (ok__law_begin ev) (hr.mono (by decide)) rfl (pa_cons (pv 0) pa_nil)))
  (pss_cons (ps_for PassesOwn.never rfl (pi_range1 rfl (free_range ev) (pa_cons pe_int pa_nil)) (pg_name (i := 2) sc_law.nd rfl (Or.inl rfl))
  (pss_cons (ps_set (i := 3) sc_law.nd rfl (Or.inl rfl) (pe_fn (ok__law_called ev) (hr.mono (by decide)) rfl (pa_cons (pv 1) (pa_cons (pe_fn (ok__law_spec ev) (hr.mono (by decide)) rfl (pa_cons (pv 1) (pa_cons pe_int pa_nil))) pa_nil))))
  (pss_cons (ps_set (i := 4) sc_law.nd rfl (Or.inl rfl) (pe_fn (ok__law_changed ev) (hr.mono (by decide)) rfl (pa_cons (pv 1) (pa_cons (pv 3) pa_nil))))
  (pss_cons (ps_set (i := 5) sc_law.nd rfl (Or.inl rfl) (pe_fn (ok__law_made ev) (hr.mono (by decide)) rfl (pa_cons (pv 3) pa_nil)))
  (pss_cons (ps_set (i := 6) sc_law.nd rfl (Or.inl rfl) (pe_fn (ok__law_made ev) (hr.mono (by decide)) rfl (pa_cons (pv 4) pa_nil)))
  (pss_cons (ps_if (PW.pt (pw_or (pt_not (pt_val (pe_fnG (ok__law_right ev) hgd (hr.mono (by decide)) rfl (pa_cons (pv 5) (pa_cons (pv 3) pa_nil))))) (pw_or (pt_not (pt_val (pe_fnG (ok__law_right ev) hgd (hr.mono (by decide)) rfl (pa_cons (pv 6) (pa_cons (pv 4) pa_nil))))) (pw_or1 (pt_not (pt_val (pe_fnG (ok__law_right ev) hgd (hr.mono (by decide)) rfl (pa_cons (pv 5) (pa_cons (pv 3) pa_nil))))))))) (pss_one (ps_ret pe_bl))
  pss_nil)
  (pss_cons (ps_if (PW.pt (pw_or (pt_cmpR (op_neC (ok_Scheme___eq__ (K := K) ev) (mro_Scheme ev) (ne_Scheme ev) (hr.mono (by decide))) (pv 5) (pe_fn (ok__law_made ev) (hr.mono (by decide)) rfl (pa_cons (pv 3) pa_nil)) (nomark _)) (pw_or (pt_cmpR op_ne (pe_cmpR (op_eqC (ok_Scheme___eq__ (K := K) ev) (hr.mono (by decide))) (pv 5) (pv 6) (nomark _)) (pe_cmpR (op_eqD hr.units) (pv 3) (pv 4) (nomark _)) (nomark _)) (pw_or1 (pt_not (pt_val (pe_fn (ok__law_sorts_right ev) (hr.mono (by decide)) rfl (pa_cons (pv 3) (pa_cons (pv 4) pa_nil))))))))) (pss_one (ps_ret pe_bl))
  pss_nil)
  (pss_one (ps_if (PW.pt (pw_or (pt_cmpR (op_eqC (ok_Scheme___eq__ (K := K) ev) (hr.mono (by decide))) (pv 5) (pe_fn (ok__law_columns ev) (hr.mono (by decide)) rfl (pa_cons (pv 3) pa_nil)) (nomark _)) (pw_or1 (pt_cmpR (op_eqC (ok_Scheme___eq__ (K := K) ev) (hr.mono (by decide))) (pv 5) (pe_fn (ok__law_sort ev) (hr.mono (by decide)) rfl (pa_cons (pe_ix ix_list (pe_ix ix_list (pv 3) pe_int (fun _ _ => rfl)) pe_int (fun _ _ => rfl)) pa_nil)) (nomark _))))) (pss_one (ps_ret pe_bl))
  pss_nil)))))))))
  (pss_one (ps_ret pe_bl)))), ?_⟩)
  · first | (obtain ⟨rfl, _⟩ := h; rfl) | (obtain ⟨_, rfl, _⟩ := h; rfl) | (obtain ⟨_, _, rfl, _⟩ := h; rfl) | (obtain ⟨_, _, _, rfl, _⟩ := h; rfl) | (obtain ⟨_, _, _, _, rfl, _⟩ := h; rfl) | (obtain ⟨_, _, _, _, _, rfl, _⟩ := h; rfl) | (obtain ⟨_, _, _, _, _, _, rfl, _⟩ := h; rfl) | (obtain ⟨_, _, _, _, _, _, _, rfl, _⟩ := h; rfl) | (obtain ⟨_, _, _, _, _, _, _, _, rfl, _⟩ := h; rfl) | (obtain ⟨_, _, _, _, _, _, _, _, _, rfl, _⟩ := h; rfl) | (obtain ⟨_, _, _, _, _, _, _, _, _, _, rfl, _⟩ := h; rfl) | (obtain ⟨_, _, _, _, _, _, _, _, _, _, _, rfl, _⟩ := h; rfl) | (obtain ⟨_, _, _, _, _, _, _, _, _, _, _, _, rfl, _⟩ := h; rfl) | (obtain ⟨_, _, _, _, _, _, _, _, _, _, _, _, _, rfl, _⟩ := h; rfl) | (obtain ⟨_, _, _, _, _, _, _, _, _, _, _, _, _, _, rfl, _⟩ := h; rfl) | (obtain ⟨_, _, _, _, _, _, _, _, _, _, _, _, _, _, _, rfl, _⟩ := h; rfl)
  · obtain ⟨a, ns, rfl, hS, hl, q⟩ := h
    walk_at "wp"
    refine ⟨a, ns, rfl, hS, hl, fun p ac ar H1 hp hac har D1 F1 => ?_⟩
    walk_at "wp"
    refine for_r1 (by decide) (IL a p ac ar) (by decide) ⟨⟨_, _, _, _, _, rfl⟩, D1⟩ ?_ ?_
    · rintro i σ H2 hi ⟨⟨v2, v3, v4, v5, v6, rfl⟩, D2⟩
      walk_at "wp"
      refine ⟨p, ac, ar, 3, rfl, by decide, by decide, D2, fun r0 ls lp lv lm us l0 P V' M H3 S3 G0 l1 l3 D3 F3 => ?_⟩
      obtain ⟨er, els, rw3, elp, elv, elm, nr, nls, nlp, nlv, nlm⟩ := S3
      have lstS : ∀ b ∈ [p, ac, ar], ∃ xs, H3 b = some (.lst xs) := by
        obtain ⟨⟨cs, rs, t, ea, ec, er', _⟩, _⟩ := D3
        intro b hb
        simp only [List.mem_cons, List.not_mem_nil, or_false] at hb
        rcases hb with rfl | rfl | rfl
        · exact ⟨_, ea⟩
        · exact ⟨_, ec⟩
        · exact ⟨_, er'⟩
      have Y0 : Spn [p, ac, ar] H3 r0 l0 P V' M := ⟨ls, lp, lv, lm, us, ⟨er, els, RwT.of lstS rw3, elp, elv, elm, nr, nls, nlp, nlv, nlm⟩⟩
      walk_at "wp"
      refine ⟨p, ac, ar, r0, l0, P, V', M, rfl, D3, Y0, ⟨G0, l3, l1⟩, fun r l H4 Y G D4 F4 => ?_⟩
      clear Y0 lstS er els rw3 elp elv elm nr nls nlp nlv nlm G0 l1 l3 F3 F4
      walk_at "wp"
      refine ⟨p, ac, ar, r, l, P, V', M, rfl, D4, Y, G, fun r2 l2 P2 V2 M2 H5 Y2 G2 D5 F5 => ?_⟩
      have Y := Y.fr F5 fun b => in3a
      walk_at "wp"
      refine ⟨_, r, l, P, V', M, rfl, Y, G, fun q1 H6 n1 I1 F6 => ?_⟩
      have Y := Y.f0 F6
      have Y2 := Y2.f0 F6
      have D6 := D5.f0 F6
      walk_at "wp"
      refine ⟨_, r2, l2, P2, V2, M2, rfl, Y2, G2, fun q2 H7 n2 I2 F7 => ?_⟩
      have Y := Y.f0 F7
      have Y2 := Y2.f0 F7
      have I1 := I1.fr F7
      have D7 := D6.f0 F7
      walk_at "wp"
      refine ⟨_, r, q1, l, P, V', M, rfl, I1, Y, G, fun H8 F8 => ?_⟩
      have Y := Y.f0 F8
      have Y2 := Y2.f0 F8
      have I1 := I1.fr F8
      have I2 := I2.fr F8
      have D8 := D7.f0 F8
      walk_at "wp"
      refine ⟨_, r2, q2, l2, P2, V2, M2, rfl, I2, Y2, G2, fun H9 F9 => ?_⟩
      have Y := Y.f0 F9
      have Y2 := Y2.f0 F9
      have I1 := I1.fr F9
      have I2 := I2.fr F9
      have D9 := D8.f0 F9
      walk_at "wp"
      refine ⟨_, r, q1, l, P, V', M, rfl, I1, Y, G, fun H10 F10 => ?_⟩
      have Y := Y.f0 F10
      have Y2 := Y2.f0 F10
      have I1 := I1.fr F10
      have I2 := I2.fr F10
      have D10 := D9.f0 F10
      walk_at "wp"
      refine ⟨_, r, l, P, V', M, rfl, Y, G, fun q3 H11 n3 I3 F11 => ?_⟩
      have Y := Y.f0 F11
      have Y2 := Y2.f0 F11
      have I1 := I1.fr F11
      have I2 := I2.fr F11
      have D11 := D10.f0 F11
      walk_at "wp"
      obtain ⟨e1x, e1f, e1⟩ := I1.ins
      obtain ⟨e3x, e3f, e3⟩ := I3.ins
      refine own_ne (sp := sp_eqH K) e1 (ty_Scheme ev e3) (nf_Scheme_Scheme ev) ⟨q1, l, P, V', M, .ref q3, rfl, I1, by have := G.n; omega, G.ok, .inl ⟨q3, l, P, V', M, rfl, I3, G.ok, fun H12 F12 => ?_⟩⟩
      simp only [decide_true, Bool.and_self]
      refine ⟨true, rfl, ?_⟩
      have Y := Y.f0 F12
      have Y2 := Y2.f0 F12
      have I1 := I1.fr F12
      have I2 := I2.fr F12
      have D12 := D11.f0 F12
      walk_at "wp"
      obtain ⟨f1x, f1f, f1⟩ := I1.ins
      obtain ⟨f2x, f2f, f2⟩ := I2.ins
      refine own_eq (sp := sp_eqH K) f1 (ty_Scheme ev f2) (nf_Scheme_Scheme ev) ⟨q1, l, P, V', M, .ref q2, rfl, I1, by have := G.n; omega, G.ok, .inl ⟨q2, l2, P2, V2, M2, rfl, I2, G2.ok, fun H13 F13 => ?_⟩⟩
      have Y := Y.f0 F13
      have Y2 := Y2.f0 F13
      have I1 := I1.fr F13
      have D13 := D12.f0 F13
      walk_at "wp"
      refine eqD_l (spD_dp Y) (spD_dp Y2) (spD_sh G) (spD_sh G2) ?_
      rw [spD_eq]
      walk_at "wp"
      refine ⟨_, r, l, P, V', M, r2, l2, P2, V2, M2, rfl, Y, Y2, G, G2, fun H14 F14 => ?_⟩
      have Y := Y.f0 F14
      have I1 := I1.fr F14
      have D14 := D13.f0 F14
      walk_at "wp"
      refine ⟨_, r, l, P, V', M, rfl, Y, G.sz, fun c H15 nc ec F15 => ?_⟩
      have Y := Y.f0 F15
      have I1 := I1.fr F15
      have D15 := D14.f0 F15
      walk_at "wp"
      obtain ⟨g1x, g1f, g1⟩ := I1.ins
      refine own_eq (sp := sp_eqH K) g1 (ty_lst ec) (nf_Scheme_list ev) ⟨q1, l, P, V', M, .ref c, rfl, I1, by have := G.n; omega, G.ok, .inr ⟨_, ty_lst ec, kit_list_Scheme ev, ?_⟩⟩
      walk_at "wp"
      obtain ⟨ls, lp, lv, lm, us, X⟩ := Y
      refine ix_l (SqL.of X.er) (v := .ref ls) rfl ?_
      walk_at "wp"
      have hh := G.h
      have hu : 0 < us.length := by rw [X.rw.len]; omega
      obtain ⟨b, s, eb, es, _, erow⟩ := X.rw.get 0 _ (List.getElem?_eq_getElem hu)
      refine ix_l (SqL.of X.es) (v := .ref b) (atI_nat (j := 0) (by rw [List.getElem?_eq_getElem hu, eb])) ?_
      walk_at "wp"
      refine ⟨b, s, rfl, erow, fun g H16 _ Sg F16 => ?_⟩
      have I1 := I1.fr F16
      walk_at "wp"
      obtain ⟨h1x, h1f, h1⟩ := I1.ins
      refine own_eq (sp := sp_eqH K) h1 (ty_Sort ev Sg.choose_spec) (nf_Scheme_Sort ev) ⟨q1, l, P, V', M, .ref g, rfl, I1, by have := G.n; omega, G.ok, .inr ⟨_, ty_Sort ev Sg.choose_spec, kit_Sort_Scheme ev, ?_⟩⟩
      walk_at "wp"
      exact ⟨⟨_, _, _, _, _, rfl⟩, D15.f0 F16⟩
    · rintro σ H2 ⟨⟨v2, v3, v4, v5, v6, rfl⟩, D2⟩
      walk_at "wp"
      exact q _
end
/-! the head -/
def loose : List PySem.Str := (["_wall", "WindowError", "BadScheme", "UnknownSort", "LETTERS", "MOST_LETTERS", "OTHER_WORDS", "is_name", "Sort", "Scheme", "_check_names", "_check_different", "_check_parts", "_law_begin", "_law_draw", "_law_name", "_law_names", "_law_spec", "_law_sort", "_law_made", "_law_told", "_law_columns", "_law_due", "_law_four", "_law_named", "_law_names_right", "_law_called", "_law_changed", "_law_right", "_law_sorts_right"] : List PySem.Str)
abbrev R : PySem.W.OpenRow := PySem.W.OpenLaw.row PySem.Challenge.rw_windowrows_k41_schemes
def ex (K : PySem.W.Frag) : Bool := xs.all fun f => f K
abbrev hk : PySem.W.Hook := He.hookX 5 fa fn [] [] ex
def ob (s : PySem.W.SharedT) : He.AlX := He.obsX 5 fa fn [] [] ex (HandSHeadRun.getT s)
theorem ob_eq (s : PySem.W.SharedT) : ob s = hk.obs s.abs := He.obsX_eq (HandSHeadRun.getT_eq s)
set_option maxHeartbeats 0 in
theorem run (w : World) : HandSHeadRun.RunEq R (PySem.W.view R.prog [34]) hk ob 3000 loose w := by
  intro os
  kernel_rfl
end K41
open PySem PySem.W PySem.Calls PyProof.Rows
set_option maxHeartbeats 0 in
theorem PySem.Challenge.cw_windowrows_k41_schemes_holds : PySem.Challenge.rw_windowrows_k41_schemes.Holds := by
  w_on; o_law
  refine HandSHeadRun.head_any (r := OpenLaw.row PySem.Challenge.rw_windowrows_k41_schemes) (q := view (OpenLaw.row PySem.Challenge.rw_windowrows_k41_schemes).prog [34]) (H := K41.hk) (ob := K41.ob) (M := 3000) (loose := K41.loose) (d := HandSHeadRun.topDef (OpenLaw.row PySem.Challenge.rw_windowrows_k41_schemes).prog 34) (kwd := []) K41.ob_eq
    (by kernel_rfl) (fun s => by kernel_rfl) K41.run (by kernel_rfl) (by kernel_rfl) (by kernel_rfl) (by rfl) (by first | assumption | decide +kernel) (by decide +kernel) ⟨rfl, rfl, rfl, rfl, rfl, by decide +kernel⟩ ?hw ?hc
  case hw => w_witness2
  case hc =>
    refine My.walk_ofG (l := PySem.Challenge.rw_windowrows_k41_schemes) (n := 63) (k := 7) (x := "_law_script") rfl (by decide) (by kernel_rfl) ⟨rfl, by decide, by decide⟩ ?F
    intro w mg fa h Y G hmg0
    obtain ⟨K, KX, c⟩ := Y
    have hmg : mg ("law" : PySem.Str) = some (.ref fa) := by
      have e : (HandSHeadRun.topDef (OpenLaw.row PySem.Challenge.rw_windowrows_k41_schemes).prog 34).name = ("law" : PySem.Str) := by kernel_rfl
      rw [← e]
      exact hmg0
    have ev : K41.E K mg := ⟨⟨⟨h, KX, G⟩, c.t.d⟩, c.more⟩
    have e := hmg.symm.trans (ev.glo 22)
    cases e
    obtain ⟨fd, hb, hF⟩ := K41.ok_law (P := (PySem.Challenge.rw_windowrows_k41_schemes).prog) (w := w) ev
    exact ⟨K, KX, fd, (K41.sp_law K), hb, fun H a ns hl hS => ⟨a, ns, rfl, hS, hl, fun _ => rfl⟩, hF⟩

