import PyProof.Rows.All
import Wide.All
import OpenK.AllK
import Wide.FinOn
import KE.KStateDown
import Lean
import HandS.ForMost
import HandS.Exc
import HandS.Wide
import HandS.Defaults
import HandS.Evl
import HandS.IsInst
import HandS.Head0
import HandS.Head1
import HandS.Head2
import HandS.HeadEnd
import HandS.HeadHook1
import HandS.HeadHook2
import HandS.HeadHook3
import HandS.HeadHook4
import HandS.EndBits
import HandS.EndTab
import HandS.HeadWalk
import KE.KOpsOwn
import KE.KCallOwn
import HandS.ExcInit
import HandS.SlotsOwn
import HandS.Style
import HandS.Deep
import PyProof.ReprRoads
import HandS.ExcField
import HandS.ExcIs
import HandS.ExcOwn
import HandS.WordsExc
import KE.KExcIs
import PySem.Challenge.RW_windowrows_k18_offsets_added
set_option Elab.async false
set_option linter.all false
set_option maxRecDepth 100000
set_option maxHeartbeats 4000000
namespace My
open PySem PySem.Spec PyProof.Rows L2
/-! ### a def that is called by its global name -/
structure Callee (P : Program) (w : World) (K : PySem.W.Frag) (mg : Str → Option Value) (base : Heap) (CX : CXT) (k : Nat) (d : He.DefD) (ps : List Str) (sp : Sp) : Prop where
  ex : ∃ (f : Addr) (fd : FuncData), FnOk P w K mg base CX k f fd ps sp ∧ mg d.name = some (.ref f) ∧ PySem.W.keepIn K (.ref f) = true ∧ Binds K fd ps [] ∧ FunD K d.name d.qual d.params d.body d.scope [] [] f fd
section
variable {X : Cx} {k : Nat} {d : He.DefD} {x : Str} {ps ks : List Str} {sp : Sp} {e : Expr} {es : List Expr} {t tk : TA} {p pos : Pos} {kws : List Keyword}
theorem pe_fn (C : Callee X.prog X.w X.K X.mg X.base CX0 k d ps sp) (hr : Room k X.A) (hg : Gl X x) (ha : PA X (e :: es) t) (hx : d.name = x := by rfl) (hdb : (x == ("__debug__" : Str)) = false := by decide)
    (he : starEach (e :: es) X.env = (false, eval e X.env) :: starEach es X.env := by rfl) (hpl : (backTo pos (starEach es X.env)).any (·.1) = false := by rfl) : PE X (.Call (.Name x p) (e :: es) [] pos) (tCall sp [] E0 t) := by
  obtain ⟨f, fd, F, hm, hk, hb, _⟩ := C.ex
  rw [hx] at hm
  exact pe_call F hr hg hm hk hb .nil pass0 ha hdb he hpl
theorem pe_fn0 (C : Callee X.prog X.w X.K X.mg X.base CX0 k d ps sp) (hr : Room k X.A) (hg : Gl X x) (hx : d.name = x := by rfl) (hdb : (x == ("__debug__" : Str)) = false := by decide) : PE X (.Call (.Name x p) [] [] pos) (tCall sp [] E0 tNil) := by
  obtain ⟨f, fd, F, hm, hk, hb, _⟩ := C.ex
  rw [hx] at hm
  exact pe_call0 F hr hg hm hk hb .nil pass0 hdb
/-- f(k = v, ..), nothing by place: gV puts the values in the parameters' order -/
def KCallK0 (m : Nat) (sp : Sp) (gV : List V → List V) (E : XK) (Q : VK) : List V → Hp → Prop := fun zs H2 => zs.length = m ∧ sp (gV zs) H2 Q E
def tCallK0 (m : Nat) (sp : Sp) (gV : List V → List V) (E : XK) (tk : TA) : TE := fun σ H Q => tk σ H (KCallK0 m sp gV E Q)
theorem pe_fnK0 (C : Callee X.prog X.w X.K X.mg X.base CX0 k d ps sp) (g : {α : Type} → List α → List α) (hr : Room k X.A) (hg : Gl X x) (hkw : PK X kws tk)
    (hb : ∀ (kV doc pm : Value) (an : Option Addr) (cdv ct : Value) (ws : List Value), ws.length = ks.length → bindArgs (PySem.W.fnOf d.name d.qual d.params d.body d.scope .none kV doc pm an cdv ct) ⟨[], ks.zip ws⟩ = pure (ps.zip (g ws)))
    (hv : ∀ {zs : List V} {ws : List Value}, Vals zs ws → Vals (g zs) (g ws)) (hx : d.name = x := by rfl)
    (hall : (backToKw pos (keywordEach kws X.env)).all (·.1.isSome) = true := by rfl) (hks : (backToKw pos (keywordEach kws X.env)).filterMap (·.1) = ks := by rfl) (hdb : (x == ("__debug__" : Str)) = false := by decide)
    (hpl : ((backTo pos (starEach [] X.env)).any (·.1) || (backToKw pos (keywordEach kws X.env)).any (·.1.isNone)) = false := by rfl) :
    PE X (.Call (.Name x p) [] kws pos) (tCallK0 ks.length sp g E0 tk) := by
  obtain ⟨f, fd, F, hm, hk, _, FD⟩ := C.ex
  rw [hx] at hm
  have kb : KBn X.K fd ps 0 ks (fun _ ws => g ws) (fun _ zs => g zs) := by
    obtain ⟨oc, od, dV, kV, doc, pm, an, cdv, ct, osl, rfl, lk, hcd, hD, hK⟩ := FD.ex
    rcases hD with ⟨_, rfl⟩ | ⟨e, _⟩
    · refine ⟨fun s us ws _ l1 l2 => ?_, fun _ r => hv r⟩
      have e := hb kV doc pm an cdv ct ws l2
      cases us with
      | nil => exact .of_eq e
      | cons _ _ => cases l1
    · exact absurd rfl e
  refine ⟨fun pins s σ H Q I h => ?_⟩
  refine wpAny_Call_Name_kw (ld_glob I hg hm ?_ hdb)
  refine PySem.W.callWith_KW0 (h₀ := X.base) I.ok.mod.kin hk hall (thn (hkw.run pos pins s σ H _ I h) fun ws s2 ⟨zs, H2, I2, rz, l2, q2⟩ => ⟨I2.kIn, ?_⟩) hpl
  rw [hks]
  exact run_fnN (us := []) (vs := []) F hr kb pass0 I2 .nil rz rfl l2 q2
end
/-! ### what the head says, by places -/
structure Env (fa : List He.Fa) (fn : List He.DefD) (K : PySem.W.Frag) (mg : Str → Option Value) : Prop where
  at_ : ∃ h : Heap, K.In h ∧ h.Ns mainGlobals mg
  c : He.SaysD fa fn K
section
variable {fa : List He.Fa} {fn : List He.DefD} {K : PySem.W.Frag} {mg : Str → Option Value}
theorem Env.glo (V : Env fa fn K mg) (i : Nat) {x : Str} (h : fa[i]? = some (.glo x) := by rfl) : mg x = some (.ref (He.ga K x)) := by
  obtain ⟨hp, X, G⟩ := V.at_
  exact He.glo_ok X G (V.c.fact i h)
theorem Env.fre (V : Env fa fn K mg) (i : Nat) {x : Str} (h : fa[i]? = some (.free x) := by rfl) : mg x = none := by
  obtain ⟨hp, X, G⟩ := V.at_
  exact He.free_ok X G (V.c.fact i h)
end
/-! ### isinstance of flat values by a built-in class -/
def tyN : V → Option String
  | .non => some "NoneType"
  | .bl _ => some "bool"
  | .int _ => some "int"
  | .str _ => some "str"
  | _ => none
def isiB (x : V) (n : String) : Option Bool := (tyN x).bind fun m => kitB m n
def rIsB : List V → Hp → VK → Prop := fun xs H Q => ∃ (x : V) (n : String) (b : Bool), xs = [x, .ty n] ∧ isiB x n = some b ∧ Q (.bl b) H
theorem tyN_of {K : PySem.W.Frag} {H : Hp} {x : V} {m : String} (h : tyN x = some m) : TyX K H x (.type m) := by
  cases x with
  | non => cases h; exact .base .non
  | bl b => cases h; exact .base (.bl b)
  | int i => cases h; exact .base (.int i)
  | str z => cases h; exact .base (.str z)
  | _ => cases h
theorem call_isB {X : Cx} : CallR X (.builtin "isinstance") rIsB := by
  intro pins s σ H xs us Q I r h
  obtain ⟨x, n, b, rfl, e, q⟩ := h
  cases q1 : tyN x with
  | none => unfold isiB at e; rw [q1] at e; cases e
  | some m =>
    have e2 : kitB m n = some b := by unfold isiB at e; rw [q1] at e; exact e
    exact call_isi pins s σ H _ us Q I r ⟨x, .ty n, .type m, .type n, b, rfl, .ty n, tyN_of q1, kit_ty e2, q⟩
/-! ### values for simp -/
section
variable {i j : Int} {b c : Bool} {x y : Str}
theorem scal_ii : scal (.int i) (.int j) = true := rfl
theorem scal_bb : scal (.bl b) (.bl c) = true := rfl
theorem scal_ss : scal (.str x) (.str y) = true := rfl
theorem scal_is : scal (.int i) (.str y) = true := rfl
theorem scal_si : scal (.str x) (.int j) = true := rfl
theorem scal_ni : scal .non (.int j) = true := rfl
theorem scal_in : scal (.int i) .non = true := rfl
theorem scal_nn : scal .non .non = true := rfl
theorem scal_ns : scal .non (.str y) = true := rfl
theorem scal_sn : scal (.str x) .non = true := rfl
theorem scal_nb : scal .non (.bl c) = true := rfl
theorem scal_bn : scal (.bl b) .non = true := rfl
theorem isi_bb : isiB (.bl b) "bool" = some true := by
  show kitB "bool" "bool" = some true
  decide +kernel
theorem isi_ib : isiB (.int i) "bool" = some false := by
  show kitB "int" "bool" = some false
  decide +kernel
theorem isi_ii : isiB (.int i) "int" = some true := by
  show kitB "int" "int" = some true
  decide +kernel
theorem isi_bi : isiB (.bl b) "int" = some true := by
  show kitB "bool" "int" = some true
  decide +kernel
theorem ex_some {α : Type} {p : α → Prop} {a : α} : (∃ b, some a = some b ∧ p b) = p a := by simp
theorem ite_and_m {a b X Y : Prop} [Decidable a] [Decidable b] : (if a then (if b then X else Y) else Y) = if a ∧ b then X else Y := by
  by_cases ha : a <;> by_cases hb : b <;> simp [ha, hb]
theorem ite_or_m {a b X Y : Prop} [Decidable a] [Decidable b] : (if a then X else if b then X else Y) = if a ∨ b then X else Y := by
  by_cases ha : a <;> by_cases hb : b <;> simp [ha, hb]
end
theorem q_bl {Q : VK} {H : Hp} {b c : Bool} (q : Q (.bl b) H) (e : b = c) : Q (.bl c) H := e ▸ q
theorem q_v {Q : VK} {H : Hp} {b c : V} (q : Q b H) (e : b = c) : Q c H := e ▸ q
/-! ### steps: what stands closed in the reading -/
section
variable {K : PySem.W.Frag} {H : Hp} {a p : Addr} {xs : List V} {i k : Int} {j : Nat} {v : V} {Q : VK}
theorem call_lenR {X : Cx} : CallR X (.builtin "len") (Evl.rLenS X.K) := call_len_seq
theorem ix_l (h : SqL K H a xs) (e : atI xs i = some v) (q : Q v H) : rIxL K (.ref a) (.int i) H Q := ⟨a, xs, i, v, rfl, rfl, h, e, q⟩
theorem ix_t (h : SqT K H a xs) (e : atI xs i = some v) (q : Q v H) : rIxT K (.ref a) (.int i) H Q := ⟨a, xs, i, v, rfl, rfl, h, e, q⟩
theorem set_l {Q : Hp → Prop} (h : H a = some (.lst xs)) (e : ixN xs.length k = some j) (q : Q (upd H a (.lst (xs.set j v)))) : rSetL (.ref a) (.int k) v H Q := ⟨a, xs, k, j, rfl, rfl, h, e, q⟩
theorem len_l (h : SqL K H a xs) (q : Q (.int xs.length) H) : Evl.rLenS K [.ref a] H Q := ⟨a, xs, rfl, .inl h, q⟩
theorem len_t (h : SqT K H a xs) (q : Q (.int xs.length) H) : Evl.rLenS K [.ref a] H Q := ⟨a, xs, rfl, .inr h, q⟩
theorem app_l (h : H a = some (.lst xs)) (e : xs.length < sizeLine) (q : Q .non (upd H a (.lst (xs ++ [v])))) : rAppend (.ref a) [v] H Q := ⟨a, xs, v, rfl, rfl, h, e, q⟩
theorem ty_l (h : H a = some (.lst xs)) : tyV K "list" (.ref a) H := .inl ⟨rfl, _, SqL.of h⟩
theorem at_ints {ns : List Int} (h0 : 0 ≤ i) (h1 : i < ns.length) : atI (ns.map V.int) i = some (.int (ns.getD i.toNat 0)) := by
  obtain ⟨n, rfl⟩ : ∃ n : Nat, i = (n : Int) := ⟨i.toNat, by omega⟩
  have hn : n < ns.length := by omega
  have e : (ns.map V.int)[n]? = some (.int (ns.getD n 0)) := by
    rw [List.getElem?_map, List.getD_eq_getElem?_getD, List.getElem?_eq_getElem hn]; rfl
  rw [Int.toNat_natCast]
  exact atI_nat e
theorem ix_ints {ns : List Int} (h0 : 0 ≤ i) (h1 : i < ns.length) : ixN (ns.map V.int).length i = some i.toNat := by
  rw [List.length_map]
  unfold ixN
  rw [if_pos h0, if_pos (by omega)]
theorem set_ints {ns : List Int} {n : Nat} {y : Int} : (ns.map V.int).set n (.int y) = (ns.set n y).map V.int := by
  rw [List.map_set]
end
/-! ### frames: what is tracked off the places of S stays -/
def Fr (S : List Addr) (H H' : Hp) : Prop := (∀ b o, b ∉ S → H b = some o → H' b = some o) ∧ ∀ b, H' b = none → H b = none
theorem Fr.refl (S : List Addr) (H : Hp) : Fr S H H := ⟨fun _ _ _ h => h, fun _ h => h⟩
theorem Fr.trans {S : List Addr} {H H1 H2 : Hp} (a : Fr S H H1) (b : Fr S H1 H2) : Fr S H H2 := ⟨fun c o n h => b.1 c o n (a.1 c o n h), fun c h => a.2 c (b.2 c h)⟩
theorem Fr.mono {S T : List Addr} {H H1 : Hp} (a : Fr S H H1) (h : ∀ b, b ∈ S → b ∈ T) : Fr T H H1 := ⟨fun c o n e => a.1 c o (fun z => n (h c z)) e, a.2⟩
theorem Fr.new {S : List Addr} {H : Hp} {p : Addr} {o : HO} (h : H p = none) : Fr S H (upd H p o) := by
  refine ⟨fun b u _ e => ?_, fun b e => ?_⟩
  · rw [upd_ne (ne_of_none e h)]; exact e
  · by_cases hb : b = p
    · rw [hb, upd_same] at e; cases e
    · rw [upd_ne hb] at e; exact e
theorem Fr.set {S : List Addr} {H : Hp} {p : Addr} {o : HO} (h : p ∈ S) : Fr S H (upd H p o) → Fr S H (upd H p o) := id
theorem Fr.put {S : List Addr} {H H1 : Hp} {p : Addr} {o : HO} (a : Fr S H H1) (h : p ∈ S) : Fr S H (upd H1 p o) := by
  refine ⟨fun b u n e => ?_, fun b e => ?_⟩
  · have hb : b ≠ p := fun z => n (z ▸ h)
    rw [upd_ne hb]; exact a.1 b u n e
  · by_cases hb : b = p
    · rw [hb, upd_same] at e; cases e
    · rw [upd_ne hb] at e; exact a.2 b e
theorem Fr.put_new {S : List Addr} {H H1 : Hp} {p : Addr} {o : HO} (a : Fr S H H1) (h : H1 p = none) : Fr S H (upd H1 p o) := a.trans (Fr.new h)
theorem Fr.l {S : List Addr} {K : PySem.W.Frag} {H H' : Hp} {a : Addr} {xs : List V} (f : Fr S H H') (n : a ∉ S) (h : SqL K H a xs) : SqL K H' a xs := by
  rcases h with (h | ⟨o, h⟩) | h
  · exact .inl (.inl (f.1 _ _ n h))
  · exact .inl (.inr ⟨o, f.1 _ _ n h⟩)
  · exact .inr h
theorem Fr.t {S : List Addr} {K : PySem.W.Frag} {H H' : Hp} {a : Addr} {xs : List V} (f : Fr S H H') (n : a ∉ S) (h : SqT K H a xs) : SqT K H' a xs := by
  rcases h with (h | ⟨o, h⟩) | h
  · exact .inl (.inl (f.1 _ _ n h))
  · exact .inl (.inr ⟨o, f.1 _ _ n h⟩)
  · exact .inr h
/-! ### the draws: at a the list of the cells' list at ac, the rests' list at ar and the turn -/
structure Dr (H : Hp) (a ac ar : Addr) : Prop where
  ex : ∃ (cs rs : List Int) (t : Int), H a = some (.lst [.ref ac, .ref ar, .int t]) ∧ H ac = some (.lst (cs.map V.int)) ∧ H ar = some (.lst (rs.map V.int)) ∧ cs.length = rs.length ∧ 0 < cs.length ∧ cs.length ≤ 1000 ∧ 0 ≤ t
  n1 : a ≠ ac
  n2 : a ≠ ar
  n3 : ac ≠ ar
theorem Dr.fr {H H' : Hp} {a ac ar : Addr} {S : List Addr} (d : Dr H a ac ar) (f : Fr S H H') (h1 : a ∉ S) (h2 : ac ∉ S) (h3 : ar ∉ S) : Dr H' a ac ar := by
  obtain ⟨⟨cs, rs, t, e1, e2, e3, q⟩, n1, n2, n3⟩ := d
  exact ⟨⟨cs, rs, t, f.1 _ _ h1 e1, f.1 _ _ h2 e2, f.1 _ _ h3 e3, q⟩, n1, n2, n3⟩
/-- a draw below many -/
def spDraw : Sp := fun vs H Q _ => ∃ (a ac ar : Addr) (m : Int), vs = [.ref a, .int m] ∧ 0 < m ∧ m < 2 ^ 100 ∧ Dr H a ac ar ∧ ∀ (v : Int) (H' : Hp), 0 ≤ v → v < m → Dr H' a ac ar → Fr [a, ar] H H' → Q (.int v) H'
/-- the draws of a script -/
def spBegin (K : PySem.W.Frag) : Sp := fun vs H Q _ => ∃ (a : Addr) (ns : List Int), vs = [.ref a] ∧ SqL K H a (ns.map V.int) ∧ ns.length ≤ 63 ∧ ∀ (p ac ar : Addr) (H' : Hp), H p = none → H ac = none → H ar = none → Dr H' p ac ar → Fr [] H H' → Q (.ref p) H'
end My
/-! What stands behind each piece, by name: the readings then open step by step, from the left. -/
namespace My
open PySem PySem.Spec PyProof.Rows L2
section
variable {K : PySem.W.Frag} {σ : L2.St} {H : Hp} {Q : VK} {D : Ends} {i : Nat} {v x y : V} {ta tb tc te : TE} {t u : TS} {c c' : TT} {ts tr tk : TA} {g : TG} {QB : Bool → Hp → Prop} {QA : List V → Hp → Prop} {QN : L2.St → Hp → Prop} {QH : Hp → Prop}
def KAsg (g : TG) (D : Ends) (σ : L2.St) : VK := fun x H1 => g x σ H1 D.nx
def KDrop (D : Ends) (σ : L2.St) : VK := fun _ H1 => D.nx σ H1
def KIf (t u : TS) (D : Ends) (σ : L2.St) : Bool → Hp → Prop := fun b H1 => if b = true then t D σ H1 else u D σ H1
def KB (Q : Bool → Hp → Prop) : VK := fun x H1 => ∃ k, x = .bl k ∧ Q k H1
def KAnd (u : TT) (σ : L2.St) (Q : Bool → Hp → Prop) : Bool → Hp → Prop := fun b H1 => if b = true then u σ H1 Q else Q false H1
def KOr (u : TT) (σ : L2.St) (Q : Bool → Hp → Prop) : Bool → Hp → Prop := fun b H1 => if b = true then Q true H1 else u σ H1 Q
def KNot (Q : Bool → Hp → Prop) : Bool → Hp → Prop := fun b H1 => Q (!b) H1
def KOp1 (r : R2) (tb : TE) (σ : L2.St) (Q : VK) : VK := fun x H1 => tb σ H1 fun y H2 => r x y H2 Q
def KOp2 (r : R2) (x : V) (Q : VK) : VK := fun y H2 => r x y H2 Q
def KUn (r : V → Hp → VK → Prop) (Q : VK) : VK := fun x H1 => r x H1 Q
def KArg1 (tr : TA) (σ : L2.St) (Q : List V → Hp → Prop) : VK := fun x H1 => tr σ H1 fun xs H2 => Q (x :: xs) H2
def KArg2 (x : V) (Q : List V → Hp → Prop) : List V → Hp → Prop := fun xs H2 => Q (x :: xs) H2
def KCall (sp : Sp) (dvs : List V) (E : XK) (Q : VK) : List V → Hp → Prop := fun vs H1 => sp (vs ++ dvs) H1 Q E
def KCB (r : List V → Hp → VK → Prop) (Q : VK) : List V → Hp → Prop := fun vs H1 => r vs H1 Q
def KTup (Q : VK) : List V → Hp → Prop := fun xs H1 => xs.length ≤ sizeLine ∧ ∀ p, H1 p = none → Q (.ref p) (upd H1 p (.tup xs))
def KLst (Q : VK) : List V → Hp → Prop := fun xs H1 => xs.length ≤ sizeLine ∧ ∀ p, H1 p = none → Q (.ref p) (upd H1 p (.lst xs))
def KIfE (ta tb : TE) (σ : L2.St) (Q : VK) : Bool → Hp → Prop := fun b H1 => if b = true then ta σ H1 Q else tb σ H1 Q
def KAndV (tb : TE) (σ : L2.St) (Q : VK) : VK := fun x H1 => ∃ c, x = .bl c ∧ if c = true then tb σ H1 Q else Q (.bl false) H1
def KOrV (tb : TE) (σ : L2.St) (Q : VK) : VK := fun x H1 => ∃ c, x = .bl c ∧ if c = true then Q (.bl true) H1 else tb σ H1 Q
def KNotV (Q : VK) : VK := fun x H1 => ∃ c, x = .bl c ∧ Q (.bl (!c)) H1
def KFld (K : PySem.W.Frag) (f : Str) (Q : VK) : VK := fun x H1 => ∃ a C dx fs v, x = .ref a ∧ H1 a = some (.ins C dx fs) ∧ Cls K C ∧ NoAttr K C f ∧ fs.lookup f = some v ∧ Q v H1
def KSub1 (ti : TE) (t : TSet) (v : V) (σ : L2.St) (Q : L2.St → Hp → Prop) : VK := fun o H1 => ti σ H1 fun i H2 => t o i v H2 fun H3 => Q σ H3
def KSub2 (t : TSet) (o v : V) (σ : L2.St) (Q : L2.St → Hp → Prop) : VK := fun i H2 => t o i v H2 fun H3 => Q σ H3
def KAt (σ : L2.St) (Q : L2.St → Hp → Prop) : Hp → Prop := fun H3 => Q σ H3
def KAug (i : Nat) (te : TE) (ti : TIp) (D : Ends) (σ : L2.St) : VK := fun x H => te σ H fun y H1 => ti x y H1 fun z H2 => D.nx (σ.set i (some z)) H2
def KAug2 (i : Nat) (x : V) (ti : TIp) (D : Ends) (σ : L2.St) : VK := fun y H1 => ti x y H1 fun z H2 => D.nx (σ.set i (some z)) H2
def KSet (i : Nat) (D : Ends) (σ : L2.St) : VK := fun z H2 => D.nx (σ.set i (some z)) H2
def KBM (K : PySem.W.Frag) (T : String) (r : V → List V → Hp → VK → Prop) (t : TA) (σ : L2.St) (Q : VK) : VK := fun x H1 => tyV K T x H1 ∧ t σ H1 fun xs H2 => r x xs H2 Q
def KBM2 (r : V → List V → Hp → VK → Prop) (x : V) (Q : VK) : List V → Hp → Prop := fun xs H2 => r x xs H2 Q
def KSl1 (r : V → Option Int → Option Int → Hp → VK → Prop) (tl th : TO) (σ : L2.St) (Q : VK) : VK := fun x H1 => tl σ H1 fun l H2 => th σ H2 fun u H3 => r x l u H3 Q
def KSl2 (r : V → Option Int → Option Int → Hp → VK → Prop) (x : V) (th : TO) (σ : L2.St) (Q : VK) : Option Int → Hp → Prop := fun l H2 => th σ H2 fun u H3 => r x l u H3 Q
def KSl3 (r : V → Option Int → Option Int → Hp → VK → Prop) (x : V) (l : Option Int) (Q : VK) : Option Int → Hp → Prop := fun u H3 => r x l u H3 Q
def KPart (Q : Option Int → Hp → Prop) : VK := fun x H1 => ∃ i, x = .int i ∧ Q (some i) H1
def KMake (C : Addr) (sp : Sp) (dvs : List V) (E : XK) (Q : VK) : List V → Hp → Prop := fun vs H1 => ∀ x dx, H1 x = none → H1 dx = none → dx ≠ x → sp (.ref x :: (vs ++ dvs)) (upd (upd H1 dx (.own x)) x (.ins C dx [])) (fun v H2 => v = .non ∧ Q (.ref x) H2) E
def KMeth (C : Addr) (m : Str) (sp : Sp) (dvs : List V) (E : XK) (t : TA) (σ : L2.St) (Q : VK) : VK := fun x H1 => ∃ a dx fs, x = .ref a ∧ H1 a = some (.ins C dx fs) ∧ fs.lookup m = none ∧ t σ H1 fun vs H2 => sp (x :: (vs ++ dvs)) H2 Q E
def KSf1 (K : PySem.W.Frag) (ta : TE) (f : Str) (D : Ends) (σ : L2.St) : VK := fun y H1 => ta σ H1 fun x H2 => ∃ a C dx fs, x = .ref a ∧ H2 a = some (.ins C dx fs) ∧ Cls K C ∧ NoAttr K C f ∧ fs.length < 1000 ∧ D.nx σ (upd H2 a (.ins C dx (putF f y fs)))
def KSf2 (K : PySem.W.Frag) (y : V) (f : Str) (D : Ends) (σ : L2.St) : VK := fun x H2 => ∃ a C dx fs, x = .ref a ∧ H2 a = some (.ins C dx fs) ∧ Cls K C ∧ NoAttr K C f ∧ fs.length < 1000 ∧ D.nx σ (upd H2 a (.ins C dx (putF f y fs)))
def KTg (u : TGs) (r : List V) (Q : L2.St → Hp → Prop) : L2.St → Hp → Prop := fun σ' H' => u r σ' H' Q
/-! statements -/
theorem mw_seq : tSeq t u D σ H = t ⟨u D, D.rt, D.bk, D.ct⟩ σ H := rfl
theorem mw_next : tNext D σ H = D.nx σ H := rfl
theorem mw_brk : tBreak D σ H = D.bk σ H := rfl
theorem mw_cont : tCont D σ H = D.ct σ H := rfl
theorem mw_ret : tRet te D σ H = te σ H D.rt := rfl
theorem mw_retN : tRetN D σ H = D.rt .non H := rfl
theorem mw_asg : tAsg te g D σ H = te σ H (KAsg g D σ) := rfl
theorem mw_asgN : KAsg (gName i) D σ x H = D.nx (σ.set i (some x)) H := rfl
theorem mw_asgS {ti : TE} {r : TSet} : KAsg (gSub ta ti r) D σ v H = ta σ H (KSub1 ti r v σ D.nx) := rfl
theorem mw_sub1 {r : TSet} {o : V} : KSub1 tb r v σ QN o H = tb σ H (KSub2 r o v σ QN) := rfl
theorem mw_sub2 {r : TSet} {o k : V} : KSub2 r o v σ QN k H = r o k v H (KAt σ QN) := rfl
theorem mw_at : KAt σ QN H = QN σ H := rfl
theorem mw_drop : tDrop te D σ H = te σ H (KDrop D σ) := rfl
theorem mw_dropK : KDrop D σ x H = D.nx σ H := rfl
theorem mw_aug {ti : TIp} : tAug i te ti D σ H = tVar i σ H (KAug i te ti D σ) := rfl
theorem mw_augK {ti : TIp} : KAug i te ti D σ x H = te σ H (KAug2 i x ti D σ) := rfl
theorem mw_aug2 {f : Int → Int → Int} {a b : Int} : KAug2 i (.int a) (ipI f) D σ (.int b) H = D.nx (σ.set i (some (.int (f a b)))) H := by
  refine propext ⟨fun h => ?_, fun h => ⟨a, b, rfl, rfl, h⟩⟩
  obtain ⟨_, _, e1, e2, h⟩ := h
  cases e1; cases e2; exact h
theorem mw_if : tIfS c t u D σ H = c σ H (KIf t u D σ) := rfl
theorem mw_ifK {b : Bool} : KIf t u D σ b H = if b = true then t D σ H else u D σ H := rfl
/-! tests -/
theorem mw_test : tTest te σ H QB = te σ H (KB QB) := rfl
theorem mw_B : tB te σ H QB = te σ H (KB QB) := rfl
theorem mw_KB {b : Bool} : KB QB (.bl b) H = QB b H := by
  refine propext ⟨fun h => ?_, fun h => ⟨b, rfl, h⟩⟩
  obtain ⟨_, e, h⟩ := h
  cases e; exact h
theorem mw_and : tAnd c c' σ H QB = c σ H (KAnd c' σ QB) := rfl
theorem mw_andK {b : Bool} : KAnd c σ QB b H = if b = true then c σ H QB else QB false H := rfl
theorem mw_or : tOr c c' σ H QB = c σ H (KOr c' σ QB) := rfl
theorem mw_orK {b : Bool} : KOr c σ QB b H = if b = true then QB true H else c σ H QB := rfl
theorem mw_not : tNot c σ H QB = c σ H (KNot QB) := rfl
theorem mw_notK {b : Bool} : KNot QB b H = QB (!b) H := rfl
theorem mw_yes : tYes σ H QB = QB true H := rfl
theorem mw_cxK {CX : CXT} {P : Program} {w : World} {mg : Str → Option Value} {base : Heap} {N : List Str} {q : Str} {sc : Scope} {f : Addr} {cd : Value} {A : Around} {o : List PySem.Env} {s : Shared} {E : XK} : (cxOf CX P w K mg base N q sc f cd A o s H E).K = K := rfl
/-! expressions -/
theorem mw_c : tC v σ H Q = Q v H := rfl
theorem mw_var0 : tVar 0 (some v :: σ) H Q = Q v H := by
  refine propext ⟨fun h => ?_, fun h => ⟨v, rfl, h⟩⟩
  obtain ⟨_, e, h⟩ := h
  cases e; exact h
theorem mw_varS {n : Nat} {o : Option V} : tVar (n + 1) (o :: σ) H Q = tVar n σ H Q := rfl
theorem mw_op {r : R2} : tOp r ta tb σ H Q = ta σ H (KOp1 r tb σ Q) := rfl
theorem mw_op1 {r : R2} : KOp1 r tb σ Q x H = tb σ H (KOp2 r x Q) := rfl
theorem mw_op2 {r : R2} : KOp2 r x Q y H = r x y H Q := rfl
theorem mw_un {r : V → Hp → VK → Prop} : tUn r ta σ H Q = ta σ H (KUn r Q) := rfl
theorem mw_unK {r : V → Hp → VK → Prop} : KUn r Q x H = r x H Q := rfl
theorem mw_rI0 {f : Int → Int → V} {a b : Int} : rI0 f (.int a) (.int b) H Q = Q (f a b) H := by
  refine propext ⟨fun h => ?_, fun h => ⟨a, b, rfl, rfl, h⟩⟩
  obtain ⟨_, _, e1, e2, h⟩ := h
  cases e1; cases e2; exact h
theorem mw_rI {C : Int → Int → Prop} {f : Int → Int → V} {a b : Int} : rI C f (.int a) (.int b) H Q = (C a b ∧ Q (f a b) H) := by
  refine propext ⟨fun h => ?_, fun h => ⟨a, b, rfl, rfl, h⟩⟩
  obtain ⟨_, _, e1, e2, h⟩ := h
  cases e1; cases e2; exact h
theorem mw_rU {f : Int → V} {a : Int} : rU f (.int a) H Q = Q (f a) H := by
  refine propext ⟨fun h => ?_, fun h => ⟨a, rfl, h⟩⟩
  obtain ⟨_, e1, h⟩ := h
  cases e1; exact h
theorem mw_eq (h : scal x y = true) : rEq x y H Q = Q (.bl (decide (x = y))) H := propext ⟨fun z => z.2, fun z => ⟨h, z⟩⟩
theorem mw_ne (h : scal x y = true) : rNe x y H Q = Q (.bl (!decide (x = y))) H := propext ⟨fun z => z.2, fun z => ⟨h, z⟩⟩
theorem mw_eqII {a b : Int} : rEq (.int a) (.int b) H Q = Q (.bl (decide (a = b))) H := by
  rw [mw_eq rfl]; simp
theorem mw_neII {a b : Int} : rNe (.int a) (.int b) H Q = Q (.bl (!decide (a = b))) H := by
  rw [mw_ne rfl]; simp
theorem mw_eqBB {a b : Bool} : rEq (.bl a) (.bl b) H Q = Q (.bl (decide (a = b))) H := by
  rw [mw_eq rfl]; simp
theorem mw_neBB {a b : Bool} : rNe (.bl a) (.bl b) H Q = Q (.bl (!decide (a = b))) H := by
  rw [mw_ne rfl]; simp
theorem mw_eqSS {a b : Str} : rEq (.str a) (.str b) H Q = Q (.bl (decide (a = b))) H := by
  rw [mw_eq rfl]; simp
theorem mw_neSS {a b : Str} : rNe (.str a) (.str b) H Q = Q (.bl (!decide (a = b))) H := by
  rw [mw_ne rfl]; simp
theorem mw_cons : tCons ta tr σ H QA = ta σ H (KArg1 tr σ QA) := rfl
theorem mw_arg1 : KArg1 tr σ QA x H = tr σ H (KArg2 x QA) := rfl
theorem mw_arg2 {xs : List V} : KArg2 x QA xs H = QA (x :: xs) H := rfl
theorem mw_nil : tNil σ H QA = QA [] H := rfl
theorem mw_call {sp : Sp} {dvs : List V} {E : XK} : tCall sp dvs E ts σ H Q = ts σ H (KCall sp dvs E Q) := rfl
theorem mw_callK {sp : Sp} {E : XK} {vs : List V} : KCall sp [] E Q vs H = sp vs H Q E := by
  unfold KCall
  rw [List.append_nil]
theorem mw_callK0 {n : Nat} {sp : Sp} {gV : List V → List V} {E : XK} : tCallK0 n sp gV E ts σ H Q = ts σ H (KCallK0 n sp gV E Q) := rfl
theorem mw_callK0K {n : Nat} {sp : Sp} {gV : List V → List V} {E : XK} {zs : List V} : KCallK0 n sp gV E Q zs H = (zs.length = n ∧ sp (gV zs) H Q E) := rfl
theorem mw_CB {r : List V → Hp → VK → Prop} : tCB r ts σ H Q = ts σ H (KCB r Q) := rfl
theorem mw_CBK {r : List V → Hp → VK → Prop} {vs : List V} : KCB r Q vs H = r vs H Q := rfl
theorem mw_tup : tTup ts σ H Q = ts σ H (KTup Q) := rfl
theorem mw_lst : tLst ts σ H Q = ts σ H (KLst Q) := rfl
theorem mw_ife : tIf c ta tb σ H Q = c σ H (KIfE ta tb σ Q) := rfl
theorem mw_ifeK {b : Bool} : KIfE ta tb σ Q b H = if b = true then ta σ H Q else tb σ H Q := rfl
theorem mw_andV : tAndV ta tb σ H Q = ta σ H (KAndV tb σ Q) := rfl
theorem mw_andVK {b : Bool} : KAndV tb σ Q (.bl b) H = if b = true then tb σ H Q else Q (.bl false) H := by
  refine propext ⟨fun h => ?_, fun h => ⟨b, rfl, h⟩⟩
  obtain ⟨_, e, h⟩ := h
  cases e; exact h
theorem mw_orV : tOrV ta tb σ H Q = ta σ H (KOrV tb σ Q) := rfl
theorem mw_orVK {b : Bool} : KOrV tb σ Q (.bl b) H = if b = true then Q (.bl true) H else tb σ H Q := by
  refine propext ⟨fun h => ?_, fun h => ⟨b, rfl, h⟩⟩
  obtain ⟨_, e, h⟩ := h
  cases e; exact h
theorem mw_notV : tNotV ta σ H Q = ta σ H (KNotV Q) := rfl
theorem mw_notVK {b : Bool} : KNotV Q (.bl b) H = Q (.bl (!b)) H := by
  refine propext ⟨fun h => ?_, fun h => ⟨b, rfl, h⟩⟩
  obtain ⟨_, e, h⟩ := h
  cases e; exact h
theorem mw_fld {f : Str} : tFld K ta f σ H Q = ta σ H (KFld K f Q) := rfl
theorem mw_BM {T : String} {r : V → List V → Hp → VK → Prop} : tBM K T r ta ts σ H Q = ta σ H (KBM K T r ts σ Q) := rfl
theorem mw_BMK {T : String} {r : V → List V → Hp → VK → Prop} : KBM K T r ts σ Q x H = (tyV K T x H ∧ ts σ H (KBM2 r x Q)) := rfl
theorem mw_BM2 {r : V → List V → Hp → VK → Prop} {vs : List V} : KBM2 r x Q vs H = r x vs H Q := rfl
theorem mw_sl {r : V → Option Int → Option Int → Hp → VK → Prop} {tl th : TO} : tSl r te tl th σ H Q = te σ H (KSl1 r tl th σ Q) := rfl
theorem mw_sl1 {r : V → Option Int → Option Int → Hp → VK → Prop} {tl th : TO} : KSl1 r tl th σ Q x H = tl σ H (KSl2 r x th σ Q) := rfl
theorem mw_sl2 {r : V → Option Int → Option Int → Hp → VK → Prop} {th : TO} {l : Option Int} : KSl2 r x th σ Q l H = th σ H (KSl3 r x l Q) := rfl
theorem mw_sl3 {r : V → Option Int → Option Int → Hp → VK → Prop} {l n : Option Int} : KSl3 r x l Q n H = r x l n H Q := rfl
theorem mw_part {QO : Option Int → Hp → Prop} : tPart te σ H QO = te σ H (KPart QO) := rfl
theorem mw_partK {QO : Option Int → Hp → Prop} {a : Int} : KPart QO (.int a) H = QO (some a) H := by
  refine propext ⟨fun h => ?_, fun h => ⟨a, rfl, h⟩⟩
  obtain ⟨_, e, h⟩ := h
  cases e; exact h
theorem mw_noPart {QO : Option Int → Hp → Prop} : tNoPart σ H QO = QO none H := rfl
theorem mw_make {C : Addr} {sp : Sp} {dvs : List V} {E : XK} : tMake C sp dvs E ts σ H Q = ts σ H (KMake C sp dvs E Q) := rfl
theorem mw_meth {C : Addr} {m : Str} {sp : Sp} {dvs : List V} {E : XK} : tMeth C m sp dvs E ta ts σ H Q = ta σ H (KMeth C m sp dvs E ts σ Q) := rfl
theorem mw_sfld {f : Str} : sFld K ta te f D σ H = te σ H (KSf1 K ta f D σ) := rfl
theorem mw_sf1 {f : Str} : KSf1 K ta f D σ y H = ta σ H (KSf2 K y f D σ) := rfl
/-! calls of built-ins on flat values -/
def rInt : List V → Hp → VK → Prop := fun xs H Q => (∃ i, xs = [.int i] ∧ Q (.int i) H) ∨ ∃ k, xs = [.bl k] ∧ Q (.int (if k then 1 else 0)) H
theorem call_intR {X : Cx} : CallR X (.type "int") rInt := call_int1
theorem mw_intI {a : Int} : rInt [.int a] H Q = Q (.int a) H := by
  refine propext ⟨fun h => ?_, fun h => .inl ⟨a, rfl, h⟩⟩
  rcases h with ⟨_, e, h⟩ | ⟨_, e, h⟩
  · cases e; exact h
  · cases e
theorem mw_intB {b : Bool} : rInt [.bl b] H Q = Q (.int (if b then 1 else 0)) H := by
  refine propext ⟨fun h => ?_, fun h => .inr ⟨b, rfl, h⟩⟩
  rcases h with ⟨_, e, h⟩ | ⟨_, e, h⟩
  · cases e
  · cases e; exact h
def rAbs : List V → Hp → VK → Prop := fun xs H Q => ∃ i, xs = [.int i] ∧ Q (.int (i.natAbs : Int)) H
theorem call_absR {X : Cx} : CallR X (.builtin "abs") rAbs := by
  intro pins s σ H xs us Q I r h
  obtain ⟨i, rfl, q⟩ := h
  refine call_abs pins s σ H _ us Q I r ⟨i, rfl, ?_⟩
  have e : (if i < 0 then -i else i) = (i.natAbs : Int) := by split <;> omega
  rw [e]; exact q
theorem mw_abs {a : Int} : rAbs [.int a] H Q = Q (.int (a.natAbs : Int)) H := by
  refine propext ⟨fun h => ?_, fun h => ⟨a, rfl, h⟩⟩
  obtain ⟨_, e, h⟩ := h
  cases e; exact h
def rMax : List V → Hp → VK → Prop := fun xs H Q => ∃ i j, xs = [.int i, .int j] ∧ Q (.int (max i j)) H
theorem call_maxR {X : Cx} (hc : X.calm = true) : CallR X (.builtin "max") rMax := by
  intro pins s σ H xs us Q I r h
  obtain ⟨i, j, rfl, q⟩ := h
  refine call_max2 hc pins s σ H _ us Q I r ⟨i, j, rfl, ?_⟩
  have e : (if j > i then j else i) = max i j := by split <;> omega
  rw [e]; exact q
theorem mw_max {a b : Int} : rMax [.int a, .int b] H Q = Q (.int (max a b)) H := by
  refine propext ⟨fun h => ?_, fun h => ⟨a, b, rfl, h⟩⟩
  obtain ⟨_, _, e, h⟩ := h
  cases e; exact h
def rMin : List V → Hp → VK → Prop := fun xs H Q => ∃ i j, xs = [.int i, .int j] ∧ Q (.int (min i j)) H
theorem call_minR {X : Cx} (hc : X.calm = true) : CallR X (.builtin "min") rMin := by
  intro pins s σ H xs us Q I r h
  obtain ⟨i, j, rfl, q⟩ := h
  refine call_min2 hc pins s σ H _ us Q I r ⟨i, j, rfl, ?_⟩
  have e : (if j < i then j else i) = min i j := by split <;> omega
  rw [e]; exact q
theorem mw_min {a b : Int} : rMin [.int a, .int b] H Q = Q (.int (min a b)) H := by
  refine propext ⟨fun h => ?_, fun h => ⟨a, b, rfl, h⟩⟩
  obtain ⟨_, _, e, h⟩ := h
  cases e; exact h
theorem mw_isB {n : String} {b : Bool} (h : isiB x n = some b) : rIsB [x, .ty n] H Q = Q (.bl b) H := by
  refine propext ⟨fun z => ?_, fun z => ⟨x, n, b, rfl, h, z⟩⟩
  obtain ⟨x', n', b', e, e2, z⟩ := z
  cases e
  rw [h] at e2
  cases e2; exact z
theorem mw_isBB {b : Bool} : rIsB [.bl b, .ty "bool"] H Q = Q (.bl true) H := mw_isB isi_bb
theorem mw_isIB {a : Int} : rIsB [.int a, .ty "bool"] H Q = Q (.bl false) H := mw_isB isi_ib
theorem mw_isII {a : Int} : rIsB [.int a, .ty "int"] H Q = Q (.bl true) H := mw_isB isi_ii
theorem mw_isBI {b : Bool} : rIsB [.bl b, .ty "int"] H Q = Q (.bl true) H := mw_isB isi_bi
/-! is None -/
def rIsNo : R2 := fun x y H Q => y = .non ∧ Q (.bl (decide (x = .non))) H
def rNotNo : R2 := fun x y H Q => y = .non ∧ Q (.bl (!decide (x = .non))) H
theorem op_isNo {X : Cx} : OpR X (compareOp .Is) rIsNo := op_isN
theorem op_notNo {X : Cx} : OpR X (compareOp .IsNot) rNotNo := op_notN
theorem mw_isNo : rIsNo x .non H Q = Q (.bl (decide (x = .non))) H := propext ⟨fun z => z.2, fun z => ⟨rfl, z⟩⟩
theorem mw_notNo : rNotNo x .non H Q = Q (.bl (!decide (x = .non))) H := propext ⟨fun z => z.2, fun z => ⟨rfl, z⟩⟩
/-! what is made -/
theorem new_l {xs : List V} (h : xs.length ≤ sizeLine) (q : ∀ p, H p = none → Q (.ref p) (upd H p (.lst xs))) : KLst Q xs H := ⟨h, q⟩
theorem new_t {xs : List V} (h : xs.length ≤ sizeLine) (q : ∀ p, H p = none → Q (.ref p) (upd H p (.tup xs))) : KTup Q xs H := ⟨h, q⟩
theorem fld_l {f : Str} {a C dx : Addr} {fs : List (Str × V)} (h : H a = some (.ins C dx fs)) (hc : Cls K C) (hn : NoAttr K C f) (e : fs.lookup f = some v) (q : Q v H) : KFld K f Q (.ref a) H := ⟨a, C, dx, fs, v, rfl, h, hc, hn, e, q⟩
theorem sf_l {f : Str} {a C dx : Addr} {fs : List (Str × V)} (h : H a = some (.ins C dx fs)) (hc : Cls K C) (hn : NoAttr K C f) (e : fs.length < 1000) (q : D.nx σ (upd H a (.ins C dx (putF f y fs)))) : KSf2 K y f D σ (.ref a) H := ⟨a, C, dx, fs, rfl, h, hc, hn, e, q⟩
theorem mk_l {C : Addr} {sp : Sp} {E : XK} {vs : List V} (q : ∀ x dx, H x = none → H dx = none → dx ≠ x → sp (.ref x :: vs) (upd (upd H dx (.own x)) x (.ins C dx [])) (fun v H2 => v = .non ∧ Q (.ref x) H2) E) : KMake C sp [] E Q vs H := by
  intro x dx h1 h2 h3
  rw [List.append_nil]
  exact q x dx h1 h2 h3
theorem meth_l {C : Addr} {m : Str} {sp : Sp} {E : XK} {a dx : Addr} {fs : List (Str × V)} (h : H a = some (.ins C dx fs)) (e : fs.lookup m = none) (q : ts σ H (KCall (fun vs => sp (.ref a :: vs)) [] E Q)) : KMeth C m sp [] E ts σ Q (.ref a) H := by
  refine ⟨a, dx, fs, rfl, h, e, ?_⟩
  exact q
theorem mw_tupG {n : Nat} {gs : TGs} : KAsg (gTup K n gs) D σ v H = gTup K n gs v σ H D.nx := rfl
theorem tg_l {a : Addr} {xs : List V} {n : Nat} {gs : TGs} {Q : L2.St → Hp → Prop} (h : SqT K H a xs) (e : xs.length = n) (q : gs xs σ H Q) : gTup K n gs (.ref a) σ H Q := ⟨a, xs, rfl, h, e, q⟩
theorem mw_gcons {gs : TGs} {xs : List V} : gCons g gs (v :: xs) σ H QN = g v σ H (KTg gs xs QN) := by
  refine propext ⟨fun h => ?_, fun h => ⟨v, xs, rfl, h⟩⟩
  obtain ⟨_, _, e, h⟩ := h
  cases e; exact h
theorem mw_gnil : gNil [] σ H QN = QN σ H := propext ⟨fun z => z.2, fun z => ⟨rfl, z⟩⟩
theorem mw_ktg {gs : TGs} {xs : List V} : KTg gs xs QN σ H = gs xs σ H QN := rfl
theorem mw_gname : gName i v σ H QN = QN (σ.set i (some v)) H := rfl
end
end My
/-! Loops and comprehensions, what they walk over known. -/
namespace My
open PySem PySem.Spec PyProof.Rows L2
theorem Fr.put_free {S : List Addr} {H H1 : Hp} {p : Addr} {o : HO} (a : Fr S H H1) (h : H p = none) : Fr S H (upd H1 p o) := by
  refine ⟨fun b u n e => ?_, fun b e => ?_⟩
  · rw [upd_ne (ne_of_none e h)]; exact a.1 b u n e
  · by_cases hb : b = p
    · rw [hb]; exact h
    · rw [upd_ne hb] at e; exact a.2 b e
theorem Fr.dom {S : List Addr} {H H1 : Hp} (a : Fr S H H1) {p : Addr} {o : HO} (h : H p = some o) : ∃ u, H1 p = some u := by
  cases e : H1 p with
  | none => rw [a.2 p e] at h; cases h
  | some u => exact ⟨u, rfl⟩
section
variable {K : PySem.W.Frag} {σ : L2.St} {H : Hp} {Q : VK} {D : Ends} {g : TG} {tb : TS} {te tl : TE} {tt : TT} {ta : TA} {vs : List Nat} {j : Nat}
def KForL (K : PySem.W.Frag) (g : TG) (tb : TS) (D : Ends) (σ : L2.St) : VK := fun x H => ∃ a, x = .ref a ∧ (∃ xs, SqL K H a xs) ∧ ∃ W : Nat → Nat → L2.St → Hp → Prop, (∃ m, W 0 m σ H) ∧ ∀ i m σ H, W i m σ H →
  ((Itl K a).stop i H ∧ D.nx σ H) ∨ ((Itl K a).go i H ∧ ∃ N : L2.St → Hp → Prop, (∀ σ' H', N σ' H' → ∃ m', m' < m ∧ W (i + 1) m' σ' H') ∧ ∀ x H', (Itl K a).yld i H x H' → g x σ H' fun σ2 H2 => tb { D with nx := N, ct := N, bk := D.nx } σ2 H2)
theorem mw_forL : tFor (iList K tl) g tb D σ H = tl σ H (KForL K g tb D σ) := rfl
def KForT (K : PySem.W.Frag) (g : TG) (tb : TS) (D : Ends) (σ : L2.St) : VK := fun x H => ∃ a, x = .ref a ∧ (∃ xs, SqT K H a xs) ∧ ∃ W : Nat → Nat → L2.St → Hp → Prop, (∃ m, W 0 m σ H) ∧ ∀ i m σ H, W i m σ H →
  ((Itt K a).stop i H ∧ D.nx σ H) ∨ ((Itt K a).go i H ∧ ∃ N : L2.St → Hp → Prop, (∀ σ' H', N σ' H' → ∃ m', m' < m ∧ W (i + 1) m' σ' H') ∧ ∀ x H', (Itt K a).yld i H x H' → g x σ H' fun σ2 H2 => tb { D with nx := N, ct := N, bk := D.nx } σ2 H2)
theorem mw_forT : tFor (iTup K tl) g tb D σ H = tl σ H (KForT K g tb D σ) := rfl
def KForR (g : TG) (tb : TS) (D : Ends) (σ : L2.St) (lo : Int) (n : Nat) (H : Hp) : Prop := ∃ W : Nat → Nat → L2.St → Hp → Prop, (∃ m, W 0 m σ H) ∧ ∀ i m σ H, W i m σ H →
  ((Itr lo n).stop i H ∧ D.nx σ H) ∨ ((Itr lo n).go i H ∧ ∃ N : L2.St → Hp → Prop, (∀ σ' H', N σ' H' → ∃ m', m' < m ∧ W (i + 1) m' σ' H') ∧ ∀ x H', (Itr lo n).yld i H x H' → g x σ H' fun σ2 H2 => tb { D with nx := N, ct := N, bk := D.nx } σ2 H2)
def KForR1 (g : TG) (tb : TS) (D : Ends) (σ : L2.St) : List V → Hp → Prop := fun vs H => ∃ j : Int, vs = [.int j] ∧ -(2 ^ 62) ≤ j ∧ j < 2 ^ 62 ∧ KForR g tb D σ 0 j.toNat H
theorem mw_forR1 : tFor (iRng1 ta) g tb D σ H = ta σ H (KForR1 g tb D σ) := rfl
def KForR2 (g : TG) (tb : TS) (D : Ends) (σ : L2.St) : List V → Hp → Prop := fun vs H => ∃ i j : Int, vs = [.int i, .int j] ∧ (-(2 ^ 62) ≤ i ∧ i < 2 ^ 62 ∧ -(2 ^ 62) ≤ j ∧ j < 2 ^ 62) ∧ KForR g tb D σ i (j - i).toNat H
theorem mw_forR2 : tFor (iRng2 ta) g tb D σ H = ta σ H (KForR2 g tb D σ) := rfl
/-- for .. in a list: Pv what holds ahead of turn i -/
theorem for_l {a : Addr} {xs : List V} (Pv : Nat → L2.St → Hp → Prop) (h0 : Pv 0 σ H) (hl : ∀ i σ H, i ≤ xs.length → Pv i σ H → SqL K H a xs)
    (hs : ∀ i x σ H, xs[i]? = some x → Pv i σ H → g x σ H fun σ2 H2 => tb ⟨Pv (i + 1), D.rt, D.nx, Pv (i + 1)⟩ σ2 H2) (hd : ∀ σ H, Pv xs.length σ H → D.nx σ H) : KForL K g tb D σ (.ref a) H :=
  ⟨a, rfl, ⟨xs, hl 0 σ H (Nat.zero_le _) h0⟩, for_list (xs := xs) Pv h0 hl hs hd⟩
theorem for_t {a : Addr} {xs : List V} (Pv : Nat → L2.St → Hp → Prop) (h0 : Pv 0 σ H) (hl : ∀ i σ H, i ≤ xs.length → Pv i σ H → SqT K H a xs)
    (hs : ∀ i x σ H, xs[i]? = some x → Pv i σ H → g x σ H fun σ2 H2 => tb ⟨Pv (i + 1), D.rt, D.nx, Pv (i + 1)⟩ σ2 H2) (hd : ∀ σ H, Pv xs.length σ H → D.nx σ H) : KForT K g tb D σ (.ref a) H :=
  ⟨a, rfl, ⟨xs, hl 0 σ H (Nat.zero_le _) h0⟩, for_tup (xs := xs) Pv h0 hl hs hd⟩
theorem for_r {lo : Int} {n : Nat} (Pv : Nat → L2.St → Hp → Prop) (h0 : Pv 0 σ H)
    (hs : ∀ i σ H, i < n → Pv i σ H → g (.int (lo + i)) σ H fun σ2 H2 => tb ⟨Pv (i + 1), D.rt, D.nx, Pv (i + 1)⟩ σ2 H2) (hd : ∀ σ H, Pv n σ H → D.nx σ H) : KForR g tb D σ lo n H :=
  for_range Pv h0 hs hd
theorem for_r1 {m : Int} (hm : m < 2 ^ 62) (Pv : Nat → L2.St → Hp → Prop) (h1 : -(2 ^ 62) ≤ m) (h0 : Pv 0 σ H)
    (hs : ∀ (i : Nat) σ H, (i : Int) < m → Pv i σ H → g (.int i) σ H fun σ2 H2 => tb ⟨Pv (i + 1), D.rt, D.nx, Pv (i + 1)⟩ σ2 H2) (hd : ∀ σ H, Pv m.toNat σ H → D.nx σ H) : KForR1 g tb D σ [.int m] H :=
  ⟨m, rfl, h1, hm, for_range Pv h0 (fun i σ H hi p => by rw [Int.zero_add]; exact hs i σ H (by omega) p) hd⟩
theorem for_r2 {lo m : Int} (hb : -(2 ^ 62) ≤ lo ∧ lo < 2 ^ 62 ∧ -(2 ^ 62) ≤ m ∧ m < 2 ^ 62) (Pv : Nat → L2.St → Hp → Prop) (h0 : Pv 0 σ H)
    (hs : ∀ (i : Nat) σ H, lo + i < m → Pv i σ H → g (.int (lo + i)) σ H fun σ2 H2 => tb ⟨Pv (i + 1), D.rt, D.nx, Pv (i + 1)⟩ σ2 H2) (hd : ∀ σ H, Pv (m - lo).toNat σ H → D.nx σ H) : KForR2 g tb D σ [.int lo, .int m] H :=
  ⟨lo, m, rfl, hb, for_range Pv h0 (fun i σ H hi p => hs i σ H (by omega) p) hd⟩
/-! comprehensions -/
def KLcJ (J : It) (g : TG) (tt : TT) (te : TE) (vs : List Nat) (σ : L2.St) (Q : VK) (H1 : Hp) : Prop := ∀ D, H1 D = none → ∃ W : Nat → Nat → Hp → Prop, (∃ m, W 0 m (upd H1 D (.lst []))) ∧ ∀ i m H, W i m H →
  (J.stop i H ∧ Q (.ref D) H) ∨ (J.go i H ∧ ∃ Nx : Hp → Prop, (∀ H', Nx H' → ∃ m', m' < m ∧ W (i + 1) m' H') ∧ ∀ x H', J.yld i H x H' → g x (wipe σ vs) H' fun σ2 H2 => wipe σ2 vs = wipe σ vs ∧ tt σ2 H2 fun b H3 =>
    if b = true then te σ2 H3 fun y H4 => ∃ acc, H4 D = some (.lst acc) ∧ acc.length < sizeLine ∧ Nx (upd H4 D (.lst (acc ++ [y]))) else Nx H3)
def KLcL (K : PySem.W.Frag) (g : TG) (tt : TT) (te : TE) (vs : List Nat) (σ : L2.St) (Q : VK) : VK := fun x H1 => ∃ a, x = .ref a ∧ (∃ xs, SqL K H1 a xs) ∧ KLcJ (Itl K a) g tt te vs σ Q H1
theorem mw_lcL : tLc (iList K tl) g tt te vs σ H Q = tl σ H (KLcL K g tt te vs σ Q) := rfl
def KLcT (K : PySem.W.Frag) (g : TG) (tt : TT) (te : TE) (vs : List Nat) (σ : L2.St) (Q : VK) : VK := fun x H1 => ∃ a, x = .ref a ∧ (∃ xs, SqT K H1 a xs) ∧ KLcJ (Itt K a) g tt te vs σ Q H1
theorem mw_lcT : tLc (iTup K tl) g tt te vs σ H Q = tl σ H (KLcT K g tt te vs σ Q) := rfl
def KLcR1 (g : TG) (tt : TT) (te : TE) (vs : List Nat) (σ : L2.St) (Q : VK) : List V → Hp → Prop := fun ws H1 => ∃ j : Int, ws = [.int j] ∧ -(2 ^ 62) ≤ j ∧ j < 2 ^ 62 ∧ KLcJ (Itr 0 j.toNat) g tt te vs σ Q H1
theorem mw_lcR1 : tLc (iRng1 ta) g tt te vs σ H Q = ta σ H (KLcR1 g tt te vs σ Q) := rfl
/-- what stands behind an item of a comprehension: the list grows by it -/
def KPush (Dl : Addr) (Nx : Hp → Prop) : VK := fun y H4 => ∃ acc, H4 Dl = some (.lst acc) ∧ acc.length < sizeLine ∧ Nx (upd H4 Dl (.lst (acc ++ [y])))
/-- item by item, each tested and kept or not: R says what is kept of which item -/
structure Lc (S : List Addr) (I : Hp → Prop) (R : V → Option V → Hp → Prop) (g : TG) (tt : TT) (te : TE) (vs : List Nat) (σ : L2.St) (H : Hp) (xs : List V) : Prop where
  i0 : I H
  iF : ∀ H' p o, H p = none → I H' → I (upd H' p o)
  rF : ∀ x y H' H'', Fr S H' H'' → R x y H' → R x y H''
  rL : ∀ x y H' Dl ys zs, H' Dl = some (.lst ys) → R x y H' → R x y (upd H' Dl (.lst zs))
  run : ∀ (x : V) (H' : Hp), x ∈ xs → Fr S H H' → I H' → ∀ Qn : Option V → Hp → Prop, (∀ y H'', R x y H'' → Fr S H' H'' → I H'' → Qn y H'') →
    g x (wipe σ vs) H' fun σ2 H2 => wipe σ2 vs = wipe σ vs ∧ tt σ2 H2 fun b H3 => if b = true then te σ2 H3 fun y H4 => Qn (some y) H4 else Qn none H3
/-- what is kept -/
inductive Kept (R : V → Option V → Hp → Prop) (H : Hp) : List V → List V → Prop where
  | nil : Kept R H [] []
  | yes {x y : V} {xs ys : List V} : R x (some y) H → Kept R H xs ys → Kept R H (x :: xs) (y :: ys)
  | no {x : V} {xs ys : List V} : R x none H → Kept R H xs ys → Kept R H (x :: xs) ys
theorem Kept.mono {R : V → Option V → Hp → Prop} {H H' : Hp} (f : ∀ x y, R x y H → R x y H') : ∀ {xs ys : List V}, Kept R H xs ys → Kept R H' xs ys
  | _, _, .nil => .nil
  | _, _, .yes r k => .yes (f _ _ r) (Kept.mono f k)
  | _, _, .no r k => .no (f _ _ r) (Kept.mono f k)
theorem Kept.snoc {R : V → Option V → Hp → Prop} {H : Hp} {x y : V} (r : R x (some y) H) : ∀ {xs ys : List V}, Kept R H xs ys → Kept R H (xs ++ [x]) (ys ++ [y])
  | _, _, .nil => .yes r .nil
  | _, _, .yes r' k => .yes r' (Kept.snoc r k)
  | _, _, .no r' k => .no r' (Kept.snoc r k)
theorem Kept.snoc0 {R : V → Option V → Hp → Prop} {H : Hp} {x : V} (r : R x none H) : ∀ {xs ys : List V}, Kept R H xs ys → Kept R H (xs ++ [x]) ys
  | _, _, .nil => .no r .nil
  | _, _, .yes r' k => .yes r' (Kept.snoc0 r k)
  | _, _, .no r' k => .no r' (Kept.snoc0 r k)
theorem Kept.len {R : V → Option V → Hp → Prop} {H : Hp} : ∀ {xs ys : List V}, Kept R H xs ys → ys.length ≤ xs.length
  | _, _, .nil => Nat.le_refl _
  | _, _, .yes _ k => by have := Kept.len k; simp only [List.length_cons]; omega
  | _, _, .no _ k => by have := Kept.len k; simp only [List.length_cons]; omega
/-- all are kept: ys is f of xs -/
theorem Kept.map {R : V → Option V → Hp → Prop} {H : Hp} {α : Type} {e f : α → V} (h : ∀ a o, R (e a) o H → o = some (f a)) : ∀ {l : List α} {ys : List V}, Kept R H (l.map e) ys → ys = l.map f
  | [], _, k => by cases k; rfl
  | a :: l, _, k => by
    rw [List.map_cons] at k
    cases k with
    | yes r k2 => rw [List.map_cons, Kept.map h k2, Option.some.inj (h a _ r)]
    | no r k2 => cases h a _ r
/-- filtered -/
theorem Kept.filterMap {R : V → Option V → Hp → Prop} {H : Hp} {α : Type} {e : α → V} {f : α → Option V} (h : ∀ a o, R (e a) o H → o = f a) : ∀ {l : List α} {ys : List V}, Kept R H (l.map e) ys → ys = l.filterMap f
  | [], _, k => by cases k; rfl
  | a :: l, _, k => by
    rw [List.map_cons] at k
    cases k with
    | yes r k2 => rw [List.filterMap_cons, ← h a _ r, Kept.filterMap h k2]
    | no r k2 => rw [List.filterMap_cons, ← h a _ r]; exact Kept.filterMap h k2
def LcP (S : List Addr) (I : Hp → Prop) (R : V → Option V → Hp → Prop) (H : Hp) (xs : List V) (Dl : Addr) (i : Nat) (H' : Hp) : Prop := H Dl = none ∧ Fr S H H' ∧ I H' ∧ ∃ ys, H' Dl = some (.lst ys) ∧ Kept R H' (xs.take i) ys
/-- the turn -/
theorem lc_turn {S : List Addr} {I : Hp → Prop} {R : V → Option V → Hp → Prop} {xs : List V} (L : Lc S I R g tt te vs σ H xs) (hlen : xs.length ≤ 100000) (hS : ∀ b ∈ S, ∃ o, H b = some o) {Dl : Addr} {i : Nat} {x : V} {H' : Hp} (hx : xs[i]? = some x) (p : LcP S I R H xs Dl i H') :
    g x (wipe σ vs) H' fun σ2 H2 => wipe σ2 vs = wipe σ vs ∧ tt σ2 H2 fun b H3 => if b = true then te σ2 H3 fun y H4 => ∃ acc, H4 Dl = some (.lst acc) ∧ acc.length < sizeLine ∧ LcP S I R H xs Dl (i + 1) (upd H4 Dl (.lst (acc ++ [y]))) else LcP S I R H xs Dl (i + 1) H3 := by
  obtain ⟨p1, p2, p3, ys, p4, p5⟩ := p
  have dS : Dl ∉ S := fun z => by
    obtain ⟨o, e⟩ := hS _ z
    rw [e] at p1; cases p1
  have hi : i < xs.length := (List.getElem?_eq_some_iff.mp hx).1
  have et : xs.take (i + 1) = xs.take i ++ [x] := by
    rw [List.take_add_one, hx]; rfl
  have hys : ys.length ≤ 100000 := by
    have := p5.len
    rw [List.length_take] at this
    omega
  have hxm : x ∈ xs := List.mem_of_getElem? hx
  have key := L.run x H' hxm p2 p3 (fun o H4 => match o with
    | some y => ∃ acc, H4 Dl = some (.lst acc) ∧ acc.length < sizeLine ∧ LcP S I R H xs Dl (i + 1) (upd H4 Dl (.lst (acc ++ [y])))
    | none => LcP S I R H xs Dl (i + 1) H4) (fun o H'' r f j => ?_)
  · exact key
  · have e4 : H'' Dl = some (.lst ys) := f.1 _ _ dS p4
    cases o with
    | some y =>
      refine ⟨ys, e4, Nat.lt_of_le_of_lt hys (by decide), p1, (p2.trans f).put_free p1, L.iF _ _ _ p1 j, ys ++ [y], upd_same, ?_⟩
      rw [et]
      have hm : ∀ x o, R x o H'' → R x o (upd H'' Dl (.lst (ys ++ [y]))) := fun x o r => L.rL x o H'' Dl ys _ e4 r
      exact (Kept.snoc r (p5.mono fun x o => L.rF x o _ _ f)).mono hm
    | none =>
      refine ⟨p1, p2.trans f, j, ys, e4, ?_⟩
      rw [et]
      exact Kept.snoc0 r (p5.mono fun x o => L.rF x o _ _ f)
/-- over a list that stands still -/
theorem lc_l {S : List Addr} (I : Hp → Prop) (R : V → Option V → Hp → Prop) {a : Addr} {xs : List V} (h : SqL K H a xs) (ha : a ∉ S) (hlen : xs.length ≤ 100000) (hS : ∀ b ∈ S, ∃ o, H b = some o) (L : Lc S I R g tt te vs σ H xs)
    (q : ∀ Dl ys H', H Dl = none → H' Dl = some (.lst ys) → Kept R H' xs ys → Fr S H H' → I H' → Q (.ref Dl) H') : KLcL K g tt te vs σ Q (.ref a) H := by
  refine ⟨a, rfl, ⟨xs, h⟩, fun Dl hD => lc_list (xs := xs) (LcP S I R H xs Dl) ⟨hD, (Fr.refl _ _).put_free hD, L.iF _ _ _ hD L.i0, [], upd_same, .nil⟩ (fun i H' _ p => p.2.1.l ha h) (fun i x H' hx p => lc_turn L hlen hS hx p) fun H' p => ?_⟩
  obtain ⟨p1, p2, p3, ys, p4, p5⟩ := p
  rw [List.take_length] at p5
  exact q Dl ys H' p1 p4 p5 p2 p3
theorem lc_t {S : List Addr} (I : Hp → Prop) (R : V → Option V → Hp → Prop) {a : Addr} {xs : List V} (h : SqT K H a xs) (ha : a ∉ S) (hlen : xs.length ≤ 100000) (hS : ∀ b ∈ S, ∃ o, H b = some o) (L : Lc S I R g tt te vs σ H xs)
    (q : ∀ Dl ys H', H Dl = none → H' Dl = some (.lst ys) → Kept R H' xs ys → Fr S H H' → I H' → Q (.ref Dl) H') : KLcT K g tt te vs σ Q (.ref a) H := by
  refine ⟨a, rfl, ⟨xs, h⟩, fun Dl hD => lc_tup (xs := xs) (LcP S I R H xs Dl) ⟨hD, (Fr.refl _ _).put_free hD, L.iF _ _ _ hD L.i0, [], upd_same, .nil⟩ (fun i H' _ p => p.2.1.t ha h) (fun i x H' hx p => lc_turn L hlen hS hx p) fun H' p => ?_⟩
  obtain ⟨p1, p2, p3, ys, p4, p5⟩ := p
  rw [List.take_length] at p5
  exact q Dl ys H' p1 p4 p5 p2 p3
def rngV (lo : Int) (n : Nat) : List V := (List.range n).map fun (i : Nat) => V.int (lo + (i : Int))
theorem rngV_get {lo : Int} {n i : Nat} (h : i < n) : (rngV lo n)[i]? = some (.int (lo + i)) := by
  unfold rngV
  rw [List.getElem?_map, List.getElem?_range h]; rfl
theorem rngV_len {lo : Int} {n : Nat} : (rngV lo n).length = n := by
  unfold rngV
  rw [List.length_map, List.length_range]
theorem lc_r {S : List Addr} (I : Hp → Prop) (R : V → Option V → Hp → Prop) {lo : Int} {n : Nat} (hlen : n ≤ 100000) (hS : ∀ b ∈ S, ∃ o, H b = some o) (L : Lc S I R g tt te vs σ H (rngV lo n))
    (q : ∀ Dl ys H', H Dl = none → H' Dl = some (.lst ys) → Kept R H' (rngV lo n) ys → Fr S H H' → I H' → Q (.ref Dl) H') : KLcJ (Itr lo n) g tt te vs σ Q H := by
  refine fun Dl hD => lc_range (lo := lo) (n := n) (LcP S I R H (rngV lo n) Dl) ⟨hD, (Fr.refl _ _).put_free hD, L.iF _ _ _ hD L.i0, [], upd_same, .nil⟩ (fun i H' hi p => lc_turn L (by rw [rngV_len]; exact hlen) hS (rngV_get hi) p) fun H' p => ?_
  obtain ⟨p1, p2, p3, ys, p4, p5⟩ := p
  have e : (rngV lo n).take n = rngV lo n := by
    conv => lhs; rw [← rngV_len (lo := lo) (n := n)]
    rw [rngV_len, List.take_of_length_le (by rw [rngV_len]; exact Nat.le_refl _)]
  rw [e] at p5
  exact q Dl ys H' p1 p4 p5 p2 p3
theorem lc_r1 {S : List Addr} (I : Hp → Prop) (R : V → Option V → Hp → Prop) {m : Int} (hm : 0 ≤ m ∧ m ≤ 100000) (hS : ∀ b ∈ S, ∃ o, H b = some o) (L : Lc S I R g tt te vs σ H (rngV 0 m.toNat))
    (q : ∀ Dl ys H', H Dl = none → H' Dl = some (.lst ys) → Kept R H' (rngV 0 m.toNat) ys → Fr S H H' → I H' → Q (.ref Dl) H') : KLcR1 g tt te vs σ Q [.int m] H :=
  ⟨m, rfl, by omega, by omega, lc_r I R (by omega) hS L q⟩
/-! an element that makes nothing: its value is f of the item -/
theorem lc_pure {f : V → V} {xs : List V} (hw : ∀ x ∈ xs, wipe ((wipe σ vs).set j (some x)) vs = wipe σ vs) (hr : ∀ x ∈ xs, ∀ (H' : Hp) (Q' : VK), Q' (f x) H' → te ((wipe σ vs).set j (some x)) H' Q') :
    Lc [] (fun _ => True) (fun x y _ => y = some (f x)) (gName j) tYes te vs σ H xs where
  i0 := True.intro
  iF := fun _ _ _ _ _ => True.intro
  rF := fun _ _ _ _ _ r => r
  rL := fun _ _ _ _ _ _ _ r => r
  run := fun x H' hx _ _ Qn k => by
    refine ⟨hw x hx, ?_⟩
    show te ((wipe σ vs).set j (some x)) H' fun y H4 => Qn (some y) H4
    exact hr x hx H' _ (k _ _ rfl (Fr.refl _ _) True.intro)
theorem kept_pure {f : V → V} {H' : Hp} : ∀ {xs ys : List V}, Kept (fun x y _ => y = some (f x)) H' xs ys → ys = xs.map f
  | _, _, .nil => rfl
  | _, _, .yes r k => by rw [List.map_cons, ← kept_pure k, Option.some.inj r]
  | _, _, .no r _ => by cases r
theorem sl_l {a : Addr} {xs : List V} {lo hi : Option Int} (h : SqL K H a xs) (q : ∀ p, H p = none → Q (.ref p) (upd H p (.lst (cutV xs lo hi)))) : rSlL K (.ref a) lo hi H Q := ⟨a, xs, rfl, h, q⟩
theorem cut_first {xs : List V} {n : Nat} (h : xs.length ≤ n) : cutV xs none (some (n : Int)) = xs := by
  unfold cutV
  have e1 : HT.sIx xs.length 0 none = 0 := rfl
  have e2 : HT.sIx xs.length xs.length (some (n : Int)) = xs.length := by
    rw [HT.sIx_nat, Nat.min_eq_right h]
  rw [e1, e2, List.drop_zero, Nat.sub_zero, List.take_length]
theorem lc_ints {a : Addr} {ns : List Int} (f : Int → Int) (h : SqL K H a (ns.map V.int)) (hlen : ns.length ≤ 100000) (hw : ∀ n : Int, wipe ((wipe σ vs).set j (some (.int n))) vs = wipe σ vs)
    (hr : ∀ n ∈ ns, ∀ (H' : Hp) (Q' : VK), Q' (.int (f n)) H' → te ((wipe σ vs).set j (some (.int n))) H' Q') (q : ∀ Dl H', H Dl = none → H' Dl = some (.lst ((ns.map f).map V.int)) → Fr [] H H' → Q (.ref Dl) H') : KLcL K (gName j) tYes te vs σ Q (.ref a) H := by
  have key : ∀ x ∈ ns.map V.int, ∃ n ∈ ns, x = V.int n := fun x hx => by
    obtain ⟨n, hn, e⟩ := List.mem_map.mp hx
    exact ⟨n, hn, e.symm⟩
  refine lc_l (S := []) (fun _ => True) (fun x y _ => y = some (match x with | .int n => .int (f n) | v => v)) h (by simp) (by rw [List.length_map]; exact hlen) (by simp) (lc_pure (fun x hx => ?_) fun x hx H' Q' k => ?_) fun Dl ys H' hD e k fr _ => ?_
  · obtain ⟨n, _, rfl⟩ := key x hx; exact hw n
  · obtain ⟨n, hn, rfl⟩ := key x hx; exact hr n hn H' Q' k
  · have ey := kept_pure (f := fun x => match x with | .int n => .int (f n) | v => v) k
    rw [List.map_map] at ey
    refine q Dl H' hD ?_ fr
    rw [e, ey, List.map_map] <;> rfl
end
end My
/-! Own classes: made, asked by operators. -/
namespace My
open PySem PySem.Spec PyProof.Rows L2
/-! ### further facts of the head, each a Bool of the written part -/
abbrev Xf := PySem.W.Frag → Bool
structure EnvX (fa : List He.Fa) (fn : List He.DefD) (xs : List Xf) (K : PySem.W.Frag) (mg : Str → Option Value) : Prop where
  e : Env fa fn K mg
  x : (xs.all fun f => f K) = true
theorem EnvX.xf {fa : List He.Fa} {fn : List He.DefD} {xs : List Xf} {K : PySem.W.Frag} {mg : Str → Option Value} (V : EnvX fa fn xs K mg) (i : Nat) {f : Xf} (h : xs[i]? = some f := by rfl) : f K = true :=
  List.all_eq_true.mp V.x f (List.mem_of_getElem? h)
section
variable {fa : List He.Fa} {fn : List He.DefD} {xs : List Xf} {K : PySem.W.Frag} {mg : Str → Option Value}
theorem EnvX.glo (V : EnvX fa fn xs K mg) (i : Nat) {x : Str} (h : fa[i]? = some (.glo x) := by rfl) : mg x = some (.ref (He.ga K x)) := V.e.glo i h
theorem EnvX.fre (V : EnvX fa fn xs K mg) (i : Nat) {x : Str} (h : fa[i]? = some (.free x) := by rfl) : mg x = none := V.e.fre i h
end
section
variable {K : PySem.W.Frag}
/-- instances of the class are asked by isinstance -/
def xIsi (C : Str) : Xf := fun K => He.eqO (PySem.W.findIn K (.ref (He.ga K C)) "__class__") (some (some (.builtin "object.__class__"))) && (He.eqO (PySem.W.specialIn K (.builtin "object.__class__") "__get__") (some (some (.builtin "getset_descriptor.__get__"))) &&
  (decide (PySem.W.takesIn K (.builtin "object.__class__") = some true) && decide (PySem.W.mroIn K (He.ga K C) (.type "object") = some true)))
theorem isi_of {C : Str} (h : xIsi C K = true) : SlX.SIsi K (He.ga K C) := by
  obtain ⟨a, h⟩ := He.ba h
  obtain ⟨b, h⟩ := He.ba h
  obtain ⟨c, d⟩ := He.ba h
  exact ⟨He.eqO_ok a, He.eqO_ok b, of_decide_eq_true c, of_decide_eq_true d⟩
theorem ty_ins {H : Hp} {a dx : Addr} {C : Str} {fs : List (Str × V)} (e : H a = some (.ins (He.ga K C) dx fs)) (cl : Cls K (He.ga K C)) (s : SlX.SIsi K (He.ga K C)) : TyX K H (.ref a) (.ref (He.ga K C)) := .base (.ins e cl s.ca s.cn s.ct s.cm)
/-- the class's instances stand ahead of values of that type in a comparison -/
def xNf (C : Str) (T : String) : Xf := fun K => PySem.W.notFirst K (He.ga K C) (.type T)
def xNfC (C D : Str) : Xf := fun K => PySem.W.notFirst K (He.ga K C) (.ref (He.ga K D))
def xKit (T : String) (C : Str) (b : Bool) : Xf := fun K => decide (PySem.W.kitOne K (.type T) (.ref (He.ga K C)) = some b)
def xKitC (D C : Str) (b : Bool) : Xf := fun K => decide (PySem.W.kitOne K (.ref (He.ga K D)) (.ref (He.ga K C)) = some b)
def xNe (C : Str) : Xf := fun K => He.eqO (PySem.W.findIn K (.ref (He.ga K C)) "__ne__") (some (some (.builtin "object.__ne__")))
def xSelf (C : Str) : Xf := fun K => PySem.W.selfFirst K (He.ga K C)
/-- an own error with its own __init__ -/
def xOex (C : Str) : Xf := fun K => (match K.lookup (He.ga K C) with
  | some ⟨.type "type", _, .cls cd, sl⟩ => (match cd.mro, sl.toList with
    | .ref C' :: bm, [_, _, _, _, some (.builtin n), _] => decide (C' = He.ga K C) && (decide (n = "ValueError.__new__") && (!cd.hasDel && (cd.hasDict && PySem.HandSPX.refsVE bm)))
    | _, _ => false)
  | _ => false) && (He.eqO (PySem.W.findIn K (.ref (He.ga K C)) "__setattr__") (some (some (.builtin "object.__setattr__"))) && (decide (PySem.W.subIn K (.ref (He.ga K C)) (.type "BaseException") = some true) &&
    (decide (PySem.W.typeIn K (.ref (He.ga K C)) = some (.type "type")) && PySem.W.keepIn K (.ref (He.ga K C)))))
theorem oex_of {C : Str} (h : xOex C K = true) : OexC K (He.ga K C) := by
  obtain ⟨h1, h⟩ := He.ba h
  obtain ⟨h2, h⟩ := He.ba h
  obtain ⟨h3, h⟩ := He.ba h
  obtain ⟨h4, h5⟩ := He.ba h
  refine ⟨?_, He.eqO_ok h2, of_decide_eq_true h3, of_decide_eq_true h4, h5⟩
  split at h1
  · rename_i dd cd sl ho
    split at h1
    · rename_i C' bm k0 k1 k2 k3 n k5 hm hs
      obtain ⟨g1, h1⟩ := He.ba h1
      obtain ⟨g2, h1⟩ := He.ba h1
      obtain ⟨g3, h1⟩ := He.ba h1
      obtain ⟨g4, g5⟩ := He.ba h1
      have g3' : cd.hasDel = false := by simpa using g3
      have e1 := of_decide_eq_true g1
      have e2 := of_decide_eq_true g2
      subst e1 e2
      obtain ⟨nm, bs, mro, ns, qn, hd, sn, sub, ab, col, del⟩ := cd
      dsimp only at hm g3' g4
      subst hm g3' g4
      obtain ⟨l⟩ := sl
      simp only at hs
      subst hs
      exact ⟨_, _, _, _, _, _, _, _, _, _, _, _, _, _, _, ho, g5⟩
    · cases h1
  · cases h1
end
/-! ### a method of a class -/
structure MethOf (P : Program) (w : World) (K : PySem.W.Frag) (mg : Str → Option Value) (base : Heap) (CX : CXT) (k : Nat) (C m : Str) (ps : List Str) (sp : Sp) : Prop where
  ex : ∃ (f : Addr) (fd : FuncData), FnOk P w K mg base CX k f fd ps sp ∧ Meth K (He.ga K C) m f ∧ Binds K fd ps []
  cl : Cls K (He.ga K C)
/-- a class whose instances are made by its own __init__ -/
structure MakeOf (P : Program) (w : World) (K : PySem.W.Frag) (mg : Str → Option Value) (base : Heap) (CX : CXT) (k : Nat) (d : He.DefD) (C : Str) (ps : List Str) (sp : Sp) : Prop where
  ex : ∃ (f : Addr) (fd : FuncData), FnOk P w K mg base CX k f fd ps sp ∧ Mk K (He.ga K C) f ∧ Binds K fd ps [] ∧ FunD K d.name d.qual d.params d.body d.scope [] [] f fd
  gl : mg C = some (.ref (He.ga K C))
section
variable {X : Cx} {CX : CXT} {k : Nat} {f : Addr} {fd : FuncData} {ps ks : List Str} {sp : Sp} {E : XK} {pins : List (Addr × Obj)} {σ : L2.St} {H : Hp} {s : Shared} {Q : VK} {us : List Value} {vs : List V} {A : Around} {C m x : Str} {d : He.DefD}
/-- the callee runs, around it A -/
theorem run_in (F : FnOk X.prog X.w X.K X.mg X.base CX k f fd ps sp) (hr : Room k A) (e0 : Env0 X.prog X.w X.K X.mg X.base A X.stack s H) (hb : Binds X.K fd ps []) (hx : Passes CX X E) (I : Inv X pins σ H s) (r : Vals vs us) (h : sp vs H Q E) :
    wpAny (model X.prog X.w) A (call (.ref f) us) (EP X pins σ Q) X.xe s := by
  have hl : (us ++ []).length = ps.length := by rw [List.append_nil, ← r.length]; exact F.len _ _ _ _ h
  have hbind := hb s us I.kIn hl
  rw [List.append_nil] at hbind
  refine wpAny_call (codeAny_mono (F.run A X.stack s H ⟨us, []⟩ us vs Q E hr e0 hbind r h) fun z s' hq => ?_)
  cases z with
  | error e => exact hx pins σ H s e s' I hq
  | ok fl =>
    cases fl with
    | ret u => exact I.after hq
    | next => exact False.elim hq
    | brk => exact False.elim hq
    | cont => exact False.elim hq
variable {o e : Expr} {es : List Expr} {ta : TE} {t tk : TA} {p pos apos : Pos} {kws : List Keyword}
theorem pe_me {pl : Sem Bool} (M : MethOf X.prog X.w X.K X.mg X.base CX0 k C m ps sp) (he : PE X o ta) (hr : Room k X.A) (ha : PA X (e :: es) t) (hst : starEach (e :: es) X.env = (false, eval e X.env) :: starEach es X.env := by rfl) (hpl : (backTo pos (starEach es X.env)).any (·.1) = false := by rfl)
    (ht : eval (.Call (.Attribute o m apos) (e :: es) [] pos) X.env = (do
      let ov ← eval o X.env
      standAt apos.atName
      let (f, first) ← holding [ov] (getMethod ov m pl)
      callWith pos f first (backTo pos (starEach (e :: es) X.env)) (backToKw pos (keywordEach [] X.env))) := by rfl) : PE X (.Call (.Attribute o m apos) (e :: es) [] pos) (tMeth (He.ga X.K C) m sp [] E0 ta t) := by
  obtain ⟨f, fd, F, hm, hb⟩ := M.ex
  exact pe_meth he M.cl hm F hr hb .nil pass0 ha hst hpl ht
theorem pe_me0 {pl : Sem Bool} (M : MethOf X.prog X.w X.K X.mg X.base CX0 k C m ps sp) (he : PE X o ta) (hr : Room k X.A)
    (ht : eval (.Call (.Attribute o m apos) [] [] pos) X.env = (do
      let ov ← eval o X.env
      standAt apos.atName
      let (f, first) ← holding [ov] (getMethod ov m pl)
      callWith pos f first (backTo pos (starEach [] X.env)) (backToKw pos (keywordEach [] X.env))) := by rfl) : PE X (.Call (.Attribute o m apos) [] [] pos) (tMeth (He.ga X.K C) m sp [] E0 ta tNil) := by
  obtain ⟨f, fd, F, hm, hb⟩ := M.ex
  exact pe_meth0 he M.cl hm F hr hb .nil pass0 ht
theorem pe_mk (M : MakeOf X.prog X.w X.K X.mg X.base CX0 k d C ps sp) (hr : Room (k + 1) X.A) (hg : Gl X C) (ha : PA X (e :: es) t) (hdb : (C == ("__debug__" : Str)) = false := by decide)
    (he : starEach (e :: es) X.env = (false, eval e X.env) :: starEach es X.env := by rfl) (hpl : (backTo pos (starEach es X.env)).any (·.1) = false := by rfl) : PE X (.Call (.Name C p) (e :: es) [] pos) (tMake (He.ga X.K C) sp [] E0 t) := by
  obtain ⟨f, fd, F, hm, hb, _⟩ := M.ex
  exact pe_make hm F hr hg M.gl hb .nil pass0 ha hdb he hpl
/-! operators -/
def rInC (C : Addr) (sp : Sp) : R2 := fun x y H Q => ∃ a dx fs, y = .ref a ∧ H a = some (.ins C dx fs) ∧ sp [y, x] H (fun z H' => ∃ b, z = .bl b ∧ Q (.bl b) H') E0
def rAddC (C : Addr) (sp : Sp) : R2 := fun x y H Q => ∃ a dx fs b dy gs, x = .ref a ∧ y = .ref b ∧ H a = some (.ins C dx fs) ∧ H b = some (.ins C dy gs) ∧ sp [x, y] H Q E0
def rNegC (C : Addr) (sp : Sp) : V → Hp → VK → Prop := fun x H Q => ∃ a dx fs, x = .ref a ∧ H a = some (.ins C dx fs) ∧ sp [x] H Q E0
/-- x op y, x an instance of C whose def for it is a method that keeps sp; y of any kind -/
def rOwnC (K : PySem.W.Frag) (C : Addr) (sp : Sp) (E : XK) : R2 := fun x y H Q => ∃ a dx fs t, x = .ref a ∧ H a = some (.ins C dx fs) ∧ TyX K H y t ∧ PySem.W.notFirst K C t = true ∧ sp [x, y] H Q E
theorem op_eqC (M : MethOf X.prog X.w X.K X.mg X.base CX0 k C "__eq__" ps sp) (hr : Room k X.A) : OpR X (compareOp .Eq) (rOwnC X.K (He.ga X.K C) sp E0) := by
  obtain ⟨f, fd, F, hm, hb⟩ := M.ex
  intro pins s σ H x y v u Q I rx ry h
  obtain ⟨a, dx, fs, t, rfl, ha, ty, hn, q⟩ := h
  cases (show v = Value.ref a from rx)
  obtain ⟨mA, J, _⟩ := ins_get I.hok ha
  obtain ⟨od, J, _⟩ := J.look
  obtain ⟨mF, hF⟩ := I.fr
  obtain ⟨Pt, Z, hp, _⟩ := kit_of I ry ty
  show wpAny _ _ (richCompare .Eq _ _) _ _ _
  refine PySem.W.cmp_K (op := .Eq) (tb := t) hr.units0 hF I.ok.mod.kin J (Z.ty _ _ I.kIn hp) hn hm.at_ hm.fn ?_
  refine wpAny_mono (run_in (us := [.ref a, u]) (vs := [.ref a, y]) F hr I.env0 hb pass0 I (.cons rfl (.cons ry .nil)) q) (fun w s' z => ?_) fun _ _ x => x
  obtain ⟨z', H', I', rz, qz⟩ := z
  exact SlX.cmpback rz ⟨z', H', I', rz, qz⟩
/-- the same where y stands ahead: y has no answer to it -/
theorem op_inC (M : MethOf X.prog X.w X.K X.mg X.base CX0 k C "__contains__" ps sp) (hr : Room k X.A) : OpR X (compareOp .In) (rInC (He.ga X.K C) sp) := by
  obtain ⟨f, fd, F, hm, hb⟩ := M.ex
  intro pins s σ H x y v u Q I rx ry h
  obtain ⟨a, dx, fs, rfl, ha, q⟩ := h
  cases (show u = Value.ref a from ry)
  obtain ⟨mA, J, _⟩ := ins_get I.hok ha
  obtain ⟨od, J, _⟩ := J.look
  obtain ⟨mF, hF⟩ := I.fr
  refine PySem.W.in_K hF I.ok.mod.kin J hm.at_ hm.fn ?_
  refine wpAny_mono (run_in (us := [.ref a, v]) (vs := [.ref a, x]) F hr I.env0 hb pass0 I (.cons rfl (.cons rx .nil)) q) (fun w s' z => ?_) fun _ _ x => x
  obtain ⟨z', H', I', rz, b, rfl, qz⟩ := z
  cases (show w = Value.bool b from rz)
  exact wpAny_truthy_bool ⟨.bl b, H', I', rfl, qz⟩
theorem op_addC (M : MethOf X.prog X.w X.K X.mg X.base CX0 k C "__add__" ps sp) (hc : PySem.W.selfFirst X.K (He.ga X.K C) = true) (hr : Room k X.A) : OpR X (binaryOp .Add) (rAddC (He.ga X.K C) sp) := by
  obtain ⟨f, fd, F, hm, hb⟩ := M.ex
  intro pins s σ H x y v u Q I rx ry h
  obtain ⟨a, dx, fs, b, dy, gs, rfl, rfl, ha, hb', q⟩ := h
  cases (show v = Value.ref a from rx)
  cases (show u = Value.ref b from ry)
  obtain ⟨mA, J, _⟩ := ins_get I.hok ha
  obtain ⟨od, J, _⟩ := J.look
  obtain ⟨mB, J', _⟩ := ins_get I.hok hb'
  obtain ⟨od', J', _⟩ := J'.look
  obtain ⟨mF, hF⟩ := I.fr
  refine PySem.W.binop_K (op := .Add) hF I.ok.mod.kin J J'.type hc hm.at_ hm.fn ?_
  refine wpAny_mono (run_in (us := [.ref a, .ref b]) (vs := [.ref a, .ref b]) F hr I.env0 hb pass0 I (.cons rfl (.cons rfl .nil)) q) (fun w s' z => ?_) fun _ _ x => x
  obtain ⟨z', H', I', rz, qz⟩ := z
  exact SlX.cmpback rz ⟨z', H', I', rz, qz⟩
theorem un_negC (M : MethOf X.prog X.w X.K X.mg X.base CX0 k C "__neg__" ps sp) (hr : Room k X.A) : UnR X (unaryOp .USub) (rNegC (He.ga X.K C) sp) := by
  obtain ⟨f, fd, F, hm, hb⟩ := M.ex
  intro pins s σ H x v Q I rx h
  obtain ⟨a, dx, fs, rfl, ha, q⟩ := h
  cases (show v = Value.ref a from rx)
  obtain ⟨mA, J, _⟩ := ins_get I.hok ha
  obtain ⟨od, J, _⟩ := J.look
  obtain ⟨mF, hF⟩ := I.fr
  exact PySem.W.ksp_neg hF I.ok.mod.kin J hm.at_ hm.fn (run_in (us := [.ref a]) (vs := [.ref a]) F hr I.env0 hb pass0 I (.cons rfl .nil) q)
/-! their readings, the operands known -/
theorem own_eq {K : PySem.W.Frag} {C : Addr} {sp : Sp} {E : XK} {H : Hp} {Q : VK} {a dx : Addr} {fs : List (Str × V)} {y : V} {t : Value} (h : H a = some (.ins C dx fs)) (ty : TyX K H y t) (hn : PySem.W.notFirst K C t = true) (q : sp [.ref a, y] H Q E) : rOwnC K C sp E (.ref a) y H Q := ⟨a, dx, fs, t, rfl, h, ty, hn, q⟩
theorem own_in {C : Addr} {sp : Sp} {H : Hp} {Q : VK} {a dx : Addr} {fs : List (Str × V)} {x : V} (h : H a = some (.ins C dx fs)) (q : sp [.ref a, x] H (fun z H' => ∃ b, z = .bl b ∧ Q (.bl b) H') E0) : rInC C sp x (.ref a) H Q := ⟨a, dx, fs, rfl, h, q⟩
theorem own_add {C : Addr} {sp : Sp} {H : Hp} {Q : VK} {a dx b dy : Addr} {fs gs : List (Str × V)} (h : H a = some (.ins C dx fs)) (h' : H b = some (.ins C dy gs)) (q : sp [.ref a, .ref b] H Q E0) : rAddC C sp (.ref a) (.ref b) H Q := ⟨a, dx, fs, b, dy, gs, rfl, rfl, h, h', q⟩
theorem own_neg {C : Addr} {sp : Sp} {H : Hp} {Q : VK} {a dx : Addr} {fs : List (Str × V)} (h : H a = some (.ins C dx fs)) (q : sp [.ref a] H Q E0) : rNegC C sp (.ref a) H Q := ⟨a, dx, fs, rfl, h, q⟩
end
end My
/-! != of an own instance whose class has an own ==; str of one. -/
namespace My
open PySem PySem.Spec PyProof.Rows L2 PySem.W
section
variable {prog : Program} {w : World} {A : Around} {E : Value → Shared → Prop} {s : Shared} {K : PySem.W.Frag} {x C L f : Addr} {h₀ : Heap} {m : Str → Option Value} {ox : Obj} {od : Option Obj} {b tb : Value}
theorem ne_body {Q : Fin → Shared → Prop} (hu : A.units < cLine) (X : K.In s.heap) (I : InstAt s.heap x ox C od) (hs : findIn K (.ref C) "__eq__" = some (some (.ref f))) (hf : isFn K (.ref f) = true)
    (h : wpAny (model prog w) A (call (.ref f) [.ref x, b]) (fun v s' => ∃ k, v = .bool k ∧ Q (.done (.ret (.bool (!k)))) s') E s) : wpAny (model prog w) A (Builtin.«object.__ne__» ⟨[.ref x, b], []⟩) Q E s := by
  unfold Builtin.«object.__ne__»
  repeat (first | with_reducible refine wpAny_cRoomFor hu ?_ | with_reducible refine ifBound_K X I hs hf (wpAny_mono h (fun v s' z => ?_) fun _ _ e => e) | wp_step)
  obtain ⟨k, rfl, q⟩ := z
  refine wpAny_bind (wpAny_truthy_bool ?_)
  exact wpAny_pure q
theorem looks_obj {h : Heap} {M : Model} (X : K.In h) (I : InstAt h x ox C od) (hm : mroIn K C (.type "object") = some true) : Looks M h (isInstance (.ref x) (.type "object")) true := I.type.andThen (looks_mroIn X hm)
theorem ne_call {Q : Value → Shared → Prop} (hu : A.in1.units < cLine) (X : K.In s.heap) (I : InstAt s.heap x ox C od) (hm : mroIn K C (.type "object") = some true) (hs : findIn K (.ref C) "__eq__" = some (some (.ref f))) (hf : isFn K (.ref f) = true)
    (h : wpAny (model prog w) A.in1 (call (.ref f) [.ref x, b]) (fun v s' => ∃ k, v = .bool k ∧ Q (.bool (!k)) s') E s) : wpAny (model prog w) A (call (.builtin "object.__ne__") [.ref x, b]) Q E s := by
  refine wpAny_call (codeAny_call_builtin PySem.F.cmp_object.ne.plain PySem.F.cmpEntry_ne (check_slot PySem.F.cmpKind_ne PySem.F.cmpSplit_ne (looks_obj X I hm) (PySem.F.cmpArgs_ne _ _) ?_))
  exact ne_body hu X I hs hf (wpAny_mono h (fun v s' z => z) fun _ _ e => e)
/-- the class's != is object's -/
theorem ne_bound {args : List Value} {Q : Option Value → Shared → Prop} (X : K.In s.heap) (I : InstAt s.heap x ox C od) (hs : findIn K (.ref C) "__ne__" = some (some (.builtin "object.__ne__")))
    (h : wpAny (model prog w) A (call (.builtin "object.__ne__") (.ref x :: args)) (fun v => Q (some v)) E s) : wpAny (model prog w) A (callSpecialIfBound? (.ref x) "__ne__" args) Q E s := by
  simp only [callSpecialIfBound?, bindSpecialIfBound?]
  refine wpAny_holding (wpAny_bind (wpAny_bind (wpAny_bind (I.type.here ((looks_findIn X hs).here ?_)))))
  refine wpAny_bind (wpAny_askSetting (wpAny_ite ?_))
  have fin : wpAny (model prog w) A (call (.builtin "object.__ne__") ([.ref x] ++ args) >>= fun v => pure (some v)) Q E s := wpAny_bind (wpAny_mono h (fun v s' h' => wpAny_pure h') fun _ _ h' => h')
  simp only [PySem.F.cmp_object.ne.bind]
  split
  · exact wpAny_bind (wpAny_pure (wpAny_pure fin))
  · exact wpAny_tryCatch (wpAny_bind (wpAny_pure (wpAny_pure fin)))
theorem ne_K {Q : Value → Shared → Prop} (hu : A.units < cLine) (hu1 : A.in1.units < cLine) (X : K.In s.heap) (I : InstAt s.heap x ox C od) (hb : Looks (model prog w) s.heap (typeOf b) tb) (hn : notFirst K C tb = true) (hm : mroIn K C (.type "object") = some true)
    (hne : findIn K (.ref C) "__ne__" = some (some (.builtin "object.__ne__"))) (hs : findIn K (.ref C) "__eq__" = some (some (.ref f))) (hf : isFn K (.ref f) = true)
    (h : wpAny (model prog w) A.in1 (call (.ref f) [.ref x, b]) (fun v s' => ∃ k, v = .bool k ∧ Q (.bool (!k)) s') E s) : wpAny (model prog w) A (richCompare .NotEq (.ref x) b) Q E s := by
  have one : wpAny (model prog w) A (tryCompare (.ref x) (cmpInfo .NotEq).2.1 b) (fun r s' => ∃ v, r = some v ∧ Q v s') E s := by
    unfold tryCompare
    refine wpAny_bind (ne_bound X I hne (ne_call hu1 X I hm hs hf (wpAny_mono h (fun v s' hv => ?_) fun _ _ e => e)))
    obtain ⟨k, rfl, q⟩ := hv
    exact ⟨k, rfl, wpAny_pure ⟨_, rfl, q⟩⟩
  unfold richCompare
  simp only [oneThing_ref]
  refine wpAny_holding (wpAny_bind (wpAny_cRoomFor hu ?_))
  refine wpAny_bind (I.type.here (wpAny_bind (hb.here ?_)))
  split
  · rename_i q
    have e : subIn K tb (.ref C) = some false := by
      rcases Bool.or_eq_true_iff.mp hn with e | e
      · rw [beq_iff_eq.mp e] at q
        exact absurd q (by simp)
      · exact beq_iff_eq.mp e
    refine wpAny_bind ((looks_subIn X e).here ?_)
    simp only [Bool.false_eq_true, if_false]
    refine wpAny_bind (wpAny_mono one (fun r s' ⟨v, er, hq⟩ => ?_) fun _ _ e => e)
    subst er
    exact wpAny_pure hq
  · refine wpAny_bind (wpAny_pure ?_)
    simp only [Bool.false_eq_true, if_false]
    refine wpAny_bind (wpAny_mono one (fun r s' ⟨v, er, hq⟩ => ?_) fun _ _ e => e)
    subst er
    exact wpAny_pure hq
end
section
variable {X : Cx} {k : Nat} {ps : List Str} {sp : Sp} {C : Str}
def rNeC (K : PySem.W.Frag) (C : Addr) (sp : Sp) : R2 := fun x y H Q => ∃ a dx fs t, x = .ref a ∧ H a = some (.ins C dx fs) ∧ TyX K H y t ∧ notFirst K C t = true ∧ sp [x, y] H (fun z H' => ∃ b, z = .bl b ∧ Q (.bl (!b)) H') E0
theorem own_ne {K : PySem.W.Frag} {C : Addr} {sp : Sp} {H : Hp} {Q : VK} {a dx : Addr} {fs : List (Str × V)} {y : V} {t : Value} (h : H a = some (.ins C dx fs)) (ty : TyX K H y t) (hn : notFirst K C t = true) (q : sp [.ref a, y] H (fun z H' => ∃ b, z = .bl b ∧ Q (.bl (!b)) H') E0) : rNeC K C sp (.ref a) y H Q := ⟨a, dx, fs, t, rfl, h, ty, hn, q⟩
def rStrC (C : Addr) (sp : Sp) : List V → Hp → VK → Prop := fun xs H Q => ∃ a dx fs, xs = [.ref a] ∧ H a = some (.ins C dx fs) ∧ sp [.ref a] H (fun z H' => ∃ y, z = .str y ∧ Q (.str y) H') E0
theorem own_str {C : Addr} {sp : Sp} {H : Hp} {Q : VK} {a dx : Addr} {fs : List (Str × V)} (h : H a = some (.ins C dx fs)) (q : sp [.ref a] H (fun z H' => ∃ y, z = .str y ∧ Q (.str y) H') E0) : rStrC C sp [.ref a] H Q := ⟨a, dx, fs, rfl, h, q⟩
/-- x != y -/
theorem op_neC (M : MethOf X.prog X.w X.K X.mg X.base CX0 k C "__eq__" ps sp) (hm : mroIn X.K (He.ga X.K C) (.type "object") = some true) (hne : findIn X.K (.ref (He.ga X.K C)) "__ne__" = some (some (.builtin "object.__ne__"))) (hr : Room (k + 1) X.A) :
    OpR X (compareOp .NotEq) (rNeC X.K (He.ga X.K C) sp) := by
  obtain ⟨f, fd, F, hme, hb⟩ := M.ex
  intro pins s σ H x y v u Q I rx ry h
  obtain ⟨a, dx, fs, t, rfl, ha, ty, hn, q⟩ := h
  cases (show v = Value.ref a from rx)
  obtain ⟨mA, J, _⟩ := ins_get I.hok ha
  obtain ⟨od, J, _⟩ := J.look
  obtain ⟨Pt, Z, hp, _⟩ := kit_of I ry ty
  show wpAny _ _ (richCompare .NotEq _ _) _ _ _
  refine ne_K (tb := t) hr.units0 hr.in1.units0 I.kIn J (Z.ty _ _ I.kIn hp) hn hm hne hme.at_ hme.fn ?_
  refine wpAny_mono (run_in (us := [.ref a, u]) (vs := [.ref a, y]) F hr.in1 I.env0.in1 hb pass0 I (.cons rfl (.cons ry .nil)) q) (fun w s' z => ?_) fun _ _ x => x
  obtain ⟨z', H', I', rz, b, ez, qz⟩ := z
  subst ez
  cases (show w = Value.bool b from rz)
  exact ⟨b, rfl, .bl (!b), H', I', rfl, qz⟩
/-- str(x) -/
theorem call_strC (M : MethOf X.prog X.w X.K X.mg X.base CX0 k C "__str__" ps sp) (hr : Room (k + 2) X.A) : CallR X (.type "str") (rStrC (He.ga X.K C) sp) := by
  obtain ⟨f, fd, F, hme, hb⟩ := M.ex
  intro pins s σ H xs us Q I r h
  obtain ⟨a, dx, fs, rfl, ha, q⟩ := h
  obtain ⟨u, rfl, ru⟩ := r.one
  cases (show u = Value.ref a from ru)
  obtain ⟨mA, J, _⟩ := ins_get I.hok ha
  obtain ⟨od, J, _⟩ := J.look
  have r1 : Room (k + 1) X.A.in1 := Room.in1 hr
  refine kso_call r1.in1.units0 I.kIn J hme.at_ hme.fn ?_
  refine wpAny_mono (run_in (us := [.ref a]) (vs := [.ref a]) F r1.in1 I.env0.in1.in1 hb pass0 I (.cons rfl .nil) q) (fun w s' z => ?_) fun _ _ x => x
  obtain ⟨z', H', I', rz, y, ez, qz⟩ := z
  subst ez
  obtain ⟨t, e⟩ := (show ∃ t, w = Value.str y t from rz)
  cases e
  exact ⟨.str y, H', I', ⟨t, rfl⟩, qz⟩
end
end My
/-! Assignments of several names; lists of integers that grow or are drawn. -/
namespace My
open PySem PySem.Spec PyProof.Rows L2
section
variable {K : PySem.W.Frag} {σ : L2.St} {H : Hp} {Q : VK} {D : Ends} {i j l : Nat} {u v z : V} {ta : TA}
def KPar2 (i j : Nat) (D : Ends) (σ : L2.St) : List V → Hp → Prop := fun vs H1 => ∃ v w, vs = [v, w] ∧ D.nx ((σ.set i (some v)).set j (some w)) H1
def KPar3 (i j l : Nat) (D : Ends) (σ : L2.St) : List V → Hp → Prop := fun vs H1 => ∃ u v w, vs = [u, v, w] ∧ D.nx (((σ.set i (some u)).set j (some v)).set l (some w)) H1
theorem mw_par2 : tPar i j ta D σ H = ta σ H (KPar2 i j D σ) := rfl
theorem mw_par3 : tPar3 i j l ta D σ H = ta σ H (KPar3 i j l D σ) := rfl
theorem mw_par2K : KPar2 i j D σ [u, v] H = D.nx ((σ.set i (some u)).set j (some v)) H := by
  refine propext ⟨fun h => ?_, fun h => ⟨u, v, rfl, h⟩⟩
  obtain ⟨_, _, e, h⟩ := h
  cases e; exact h
theorem mw_par3K : KPar3 i j l D σ [u, v, z] H = D.nx (((σ.set i (some u)).set j (some v)).set l (some z)) H := by
  refine propext ⟨fun h => ?_, fun h => ⟨u, v, z, rfl, h⟩⟩
  obtain ⟨_, _, _, e, h⟩ := h
  cases e; exact h
end
/-! the last item -/
theorem getD_snoc {ns : List Int} {y : Int} {i : Nat} : (ns ++ [y]).getD i 0 = if i < ns.length then ns.getD i 0 else if i = ns.length then y else 0 := by
  rw [List.getD_eq_getElem?_getD, List.getD_eq_getElem?_getD]
  split
  · rename_i h
    rw [List.getElem?_append_left h]
  · rename_i h
    split
    · rename_i e
      subst e
      rw [List.getElem?_append_right (Nat.le_refl _)]
      simp
    · rw [List.getElem?_eq_none (by simp; omega)]
      rfl
theorem getD_snoc_lt {ns : List Int} {y : Int} {i : Nat} (h : i < ns.length) : (ns ++ [y]).getD i 0 = ns.getD i 0 := by
  rw [getD_snoc, if_pos h]
theorem getD_snoc_last {ns : List Int} {y : Int} : (ns ++ [y]).getD ns.length 0 = y := by
  rw [getD_snoc, if_neg (Nat.lt_irrefl _), if_pos rfl]
theorem map_snoc {ns : List Int} {y : Int} : ns.map V.int ++ [.int y] = (ns ++ [y]).map V.int := by simp
theorem at_last {ns : List Int} (h : 0 < ns.length) : atI (ns.map V.int) (-1) = some (.int (ns.getD (ns.length - 1) 0)) := by
  have hne : ns ≠ [] := by intro e; rw [e] at h; cases h
  obtain ⟨ms, y, rfl⟩ : ∃ ms y, ns = ms ++ [y] := ⟨ns.dropLast, ns.getLast hne, (List.dropLast_concat_getLast hne).symm⟩
  rw [← map_snoc, atI_last]
  have e : (ms ++ [y]).length - 1 = ms.length := by simp
  rw [e, getD_snoc_last]
theorem at_intsN {ns : List Int} {i : Int} {n : Nat} (e : i = (n : Int)) (h : n < ns.length) : atI (ns.map V.int) i = some (.int (ns.getD n 0)) := by
  subst e
  have := at_ints (ns := ns) (i := (n : Int)) (by omega) (by omega)
  rwa [Int.toNat_natCast] at this
/-- all kept, integers each with p -/
theorem kept_ints {R : V → Option V → Hp → Prop} {p : Int → Prop} {H' : Hp} (h : ∀ x o, R x o H' → ∃ v, o = some (.int v) ∧ p v) : ∀ {xs ys : List V}, Kept R H' xs ys → ∃ ns : List Int, ys = ns.map V.int ∧ ns.length = xs.length ∧ ∀ n ∈ ns, p n
  | _, _, .nil => ⟨[], rfl, rfl, by simp⟩
  | _, _, .yes r k => by
    obtain ⟨ns, e1, e2, e3⟩ := kept_ints h k
    obtain ⟨v, e, pv⟩ := h _ _ r
    cases e
    refine ⟨v :: ns, by rw [e1]; rfl, by simp [e2], fun n hn => ?_⟩
    rcases List.mem_cons.mp hn with rfl | hn
    · exact pv
    · exact e3 n hn
  | _, _, .no r k => by
    obtain ⟨v, e, _⟩ := h _ _ r
    cases e
/-- new places are not those of the draws -/
theorem Dr.free {H : Hp} {a ac ar p : Addr} (d : Dr H a ac ar) (h : H p = none) : p ∉ [a, ar] := by
  obtain ⟨⟨_, _, _, e1, e2, e3, _⟩, _⟩ := d
  simp [(ne_of_none e1 h).symm, (ne_of_none e3 h).symm]
theorem Dr.new {H : Hp} {a ac ar p : Addr} {o : HO} (d : Dr H a ac ar) (h : H p = none) : Dr (upd H p o) a ac ar := d.fr (Fr.new (S := []) h) (by simp) (by simp) (by simp)
theorem Dr.f0 {H H' : Hp} {a ac ar : Addr} (d : Dr H a ac ar) (f : Fr [] H H') : Dr H' a ac ar := d.fr f (by simp) (by simp) (by simp)
theorem Dr.put {H : Hp} {a ac ar p : Addr} {o : HO} (d : Dr H a ac ar) (h1 : p ≠ a) (h2 : p ≠ ac) (h3 : p ≠ ar) : Dr (upd H p o) a ac ar := by
  obtain ⟨⟨cs, rs, t, e1, e2, e3, q⟩, n1, n2, n3⟩ := d
  exact ⟨⟨cs, rs, t, (upd_ne h1.symm).trans e1, (upd_ne h2.symm).trans e2, (upd_ne h3.symm).trans e3, q⟩, n1, n2, n3⟩
theorem Dr.put_free {H H' : Hp} {a ac ar p : Addr} {o : HO} (d0 : Dr H a ac ar) (h : H p = none) (d : Dr H' a ac ar) : Dr (upd H' p o) a ac ar := by
  obtain ⟨⟨_, _, _, e1, e2, e3, _⟩, _⟩ := d0
  exact d.put (ne_of_none e1 h).symm (ne_of_none e2 h).symm (ne_of_none e3 h).symm
theorem Dr.dom {H : Hp} {a ac ar : Addr} (d : Dr H a ac ar) : ∀ b ∈ [a, ar], ∃ o, H b = some o := by
  obtain ⟨⟨_, _, _, e1, e2, e3, _⟩, _⟩ := d
  intro b hb
  rcases List.mem_cons.mp hb with rfl | hb
  · exact ⟨_, e1⟩
  · rw [List.mem_singleton.mp hb]; exact ⟨_, e3⟩
end My
/-! Optional integers, truths, plain data compared, fields in comprehensions. -/
namespace My
open PySem PySem.Spec PyProof.Rows L2
def oV : Option Int → V
  | none => .non
  | some i => .int i
def oD : Option Int → PyData
  | none => .none
  | some i => .int i
section
variable {K : PySem.W.Frag} {σ : L2.St} {H : Hp} {Q : VK} {D : Ends} {a b : Option Int} {i : Int} {x y : V}
theorem oV_none : oV none = .non := rfl
theorem oV_some : oV (some i) = .int i := rfl
theorem oV_inj (h : oV a = oV b) : a = b := by
  cases a <;> cases b <;> simp [oV] at h ⊢
  exact h
theorem oV_non : oV a = .non ↔ a = none := by cases a <;> simp [oV]
theorem scal_oo : scal (oV a) (oV b) = true := by cases a <;> cases b <;> rfl
theorem mw_eqOO : rEq (oV a) (oV b) H Q = Q (.bl (decide (a = b))) H := by
  rw [mw_eq scal_oo]
  congr 2
  by_cases e : a = b
  · simp [e]
  · have : ¬ oV a = oV b := fun z => e (oV_inj z)
    simp [e, this]
theorem mw_isT {b c : Bool} : L2.rIsB (.bl b) (.bl c) H Q = Q (.bl (decide (b = c))) H := by
  refine propext ⟨fun h => ?_, fun h => ⟨b, c, rfl, rfl, h⟩⟩
  obtain ⟨_, _, e1, e2, h⟩ := h
  cases e1; cases e2; exact h
theorem mw_notT {b c : Bool} : L2.rNotB (.bl b) (.bl c) H Q = Q (.bl (!decide (b = c))) H := by
  refine propext ⟨fun h => ?_, fun h => ⟨b, c, rfl, rfl, h⟩⟩
  obtain ⟨_, _, e1, e2, h⟩ := h
  cases e1; cases e2; exact h
theorem eqD_l {d e : PyData} (hx : Dp K H x d) (hy : Dp K H y e) (s1 : SeqAt.shaped d = true) (s2 : SeqAt.shaped e = true) (q : Q (.bl (PyData.eqv d e)) H) : rEqD K x y H Q := ⟨d, e, hx, hy, s1, s2, q⟩
theorem neD_l {d e : PyData} (hx : Dp K H x d) (hy : Dp K H y e) (s1 : SeqAt.shaped d = true) (s2 : SeqAt.shaped e = true) (q : Q (.bl (!PyData.eqv d e)) H) : rNeD K x y H Q := ⟨d, e, hx, hy, s1, s2, q⟩
theorem dp_o : Dp K H (oV a) (oD a) := by
  cases a
  · exact .non
  · exact .int _
theorem sh_o : (oD a).canLay0 = true := by cases a <;> rfl
theorem eqv_o : PyData.eqv (oD a) (oD a) = true := by
  cases a
  · rfl
  · show (_ == _) = true
    simp
theorem in_l {p : Addr} {xs : List V} (h : SqL K H p xs ∨ SqT K H p xs) (f : flatV x = true) (g : xs.all flatV = true) (q : Q (.bl (inV x xs)) H) : rIn K false x (.ref p) H Q := ⟨p, xs, rfl, h, f, g, q⟩
theorem ty_lst {p : Addr} {xs : List V} (h : H p = some (.lst xs)) : TyX K H (.ref p) (.type "list") := .base (.lst h)
theorem ty_tup {p : Addr} {xs : List V} (h : H p = some (.tup xs)) : TyX K H (.ref p) (.type "tuple") := .base (.tup h)
theorem ty_str {z : Str} : TyX K H (.str z) (.type "str") := .base (.str z)
theorem ty_int : TyX K H (.int i) (.type "int") := .base (.int i)
theorem ty_non : TyX K H .non (.type "NoneType") := .base .non
theorem depth_o : (oD a).depth = 0 := by cases a <;> rfl
/-- pairs of optional integers, one behind another -/
inductive Prs (H : Hp) : List V → List (Option Int × Option Int) → Prop where
  | nil : Prs H [] []
  | cons {p : Addr} {l h : Option Int} {vs : List V} {ps : List (Option Int × Option Int)} : H p = some (.tup [oV l, oV h]) → Prs H vs ps → Prs H (.ref p :: vs) ((l, h) :: ps)
theorem Prs.snoc {p : Addr} {l h : Option Int} (e : H p = some (.tup [oV l, oV h])) : ∀ {vs : List V} {ps : List (Option Int × Option Int)}, Prs H vs ps → Prs H (vs ++ [.ref p]) (ps ++ [(l, h)])
  | _, _, .nil => .cons e .nil
  | _, _, .cons e' k => .cons e' (Prs.snoc e k)
theorem Prs.mono {H' : Hp} (f : ∀ p xs, H p = some (.tup xs) → H' p = some (.tup xs)) : ∀ {vs : List V} {ps : List (Option Int × Option Int)}, Prs H vs ps → Prs H' vs ps
  | _, _, .nil => .nil
  | _, _, .cons e k => .cons (f _ _ e) (Prs.mono f k)
theorem Prs.fr {H' : Hp} (f : Fr [] H H') {vs : List V} {ps : List (Option Int × Option Int)} (k : Prs H vs ps) : Prs H' vs ps := k.mono fun p xs e => f.1 _ _ (by simp) e
theorem Prs.put {f : Addr} {ys zs : List V} (e : H f = some (.lst ys)) {vs : List V} {ps : List (Option Int × Option Int)} (k : Prs H vs ps) : Prs (upd H f (.lst zs)) vs ps := k.mono fun p xs e' => by
  rw [upd_ne (fun z => by rw [z, e] at e'; cases e')]; exact e'
def prD (p : Option Int × Option Int) : PyData := .tuple [oD p.1, oD p.2]
theorem Prs.dp : ∀ {vs : List V} {ps : List (Option Int × Option Int)}, Prs H vs ps → DpAll K H vs (ps.map prD)
  | _, _, .nil => .nil
  | _, _, .cons e k => .cons (.tup (SqT.of e) (.cons dp_o (.cons dp_o .nil))) (Prs.dp k)
end
section
variable {X : Cx} {K : PySem.W.Frag} {e : Expr} {ta : TE} {f : Str} {pos : Pos}
theorem pe_fldK (hK : X.K = K) (he : PE X e ta) (hb : attributeBase e f X.env (eval e X.env) = eval e X.env) : PE X (.Attribute e f pos) (tFld K ta f) := hK ▸ pe_fld he hb
end
end My
/-! Defs that show plain data by repr: their promise holds where nothing is being shown (Around.guards is empty). -/
namespace My
open PySem PySem.Spec PyProof.Rows L2
structure FnG (P : Program) (w : World) (K : PySem.W.Frag) (mg : Str → Option Value) (base : Heap) (CX : CXT) (k : Nat) (f : Addr) (fd : FuncData) (ps : List Str) (sp : Sp) : Prop where
  len : ∀ vs H Q E, sp vs H Q E → vs.length = ps.length
  run : ∀ (A : Around) (outer : List PySem.Env) (s : Shared) (H : Hp) (args : Args) (us : List Value) (vs : List V) (Q : VK) (E : XK), A.guards = some [] → Room k A → Env0 P w K mg base A outer s H → BindsTo s fd args (ps.zip us) → Vals vs us → sp vs H Q E →
    codeAny (model P w) A (.call (.ref f) args) (CR CX outer P w H s Q E) s
section
variable {P : Program} {w : World} {K : PySem.W.Frag} {mg : Str → Option Value} {base : Heap} {k : Nat} {f : Addr} {fd : FuncData} {ps N : List Str} {sp : Sp} {CX : CXT} {x qual : Str} {params : Arguments} {body : List Stmt} {scope : Scope} {dvs : List V} {kws : List (Str × V)}
theorem okG (F : FunD K x qual params body scope dvs kws f fd) (S : FnScope N ps scope) (len : ∀ vs H Q E, sp vs H Q E → vs.length = ps.length)
    (hbody : ∀ (cdv : Value) (A : Around) (outer : List PySem.Env) (s : Shared) (H : Hp) (vs : List V) (Q : VK) (E : XK), A.guards = some [] → Room k (A.deeper (envOfC qual scope s.heap.objs.size f cdv)) → sp vs H Q E →
      ∃ t, PSs (cxOf CX P w K mg base N qual scope f cdv A outer s H E) body t ∧ t { nx := fun _ H' => Q .non H', rt := Q } (start N vs) H) : FnG P w K mg base CX (k + 1) f fd ps sp := by
  obtain ⟨oc, od, dV, kV, doc, pm, an, cdv, ct, osl, rfl, lk, hcd, _, _⟩ := F.ex
  refine ⟨len, fun A outer s H args us vs Q E hg hr e0 hb r hsp => ?_⟩
  have hl := len _ _ _ _ hsp
  have KX : K.In s.heap := e0.mod.kin.keeps fun b o e => (e0.bs b o e).1
  have lim : s.heap.NoLimit := e0.mod.nolimit.keeps fun b o e => (e0.bs b o e).1
  have hkind : ∀ y ∈ ps.zip us, scope.names.lookup y.1 = some .local ∨ (scope.names.lookup y.1 = some .cell ∧ ((cellsFrom (s.heap.objs.size + 1) scope.names []).lookup y.1).isSome = true) := fun ⟨n, v⟩ hy => by
    rcases S.par n (List.of_mem_zip hy).1 with q | q
    · exact .inl q
    · exact .inr ⟨q, PySem.W.cellsFrom_some _ _ _ (.inl q)⟩
  refine codeAny_call_function hr.depth (KX _ _ lk) rfl S.co S.gen rfl (PySem.W.codeRec_of KX hcd) (hb _ _ _ _ ?_)
  refine wpAny_newFunctionEnv_cells S.kind hkind fun env he s1 x => ?_
  subst he
  refine ⟨lim.keeps x.toInCall.keep, codeAny_func ?_⟩
  obtain ⟨t, ht, hq⟩ := hbody cdv A outer s H vs Q E hg (hr.deeper _) hsp
  have I : Inv (cxOf CX P w K mg base N qual scope f cdv A outer s H E) [] (start N vs) H s1 := inv_start S hr.hd e0 hl r x
  refine wpAny_mono (ht.run [] s1 (start N vs) H _ I hq) (fun fl s' hs => ?_) fun e s' hs => hs
  cases fl with
  | ret u => obtain ⟨v, σ', H', J, rv, q⟩ := hs; exact ⟨v, H', J.os, J.bare, J.base, J.hok, rv, q⟩
  | next => obtain ⟨σ', H', J, q⟩ := hs; exact ⟨V.non, H', J.os, J.bare, J.base, J.hok, rfl, q⟩
  | brk => obtain ⟨_, _, _, q⟩ := hs; exact q.elim
  | cont => obtain ⟨_, _, _, q⟩ := hs; exact q.elim
end
structure CalleeG (P : Program) (w : World) (K : PySem.W.Frag) (mg : Str → Option Value) (base : Heap) (CX : CXT) (k : Nat) (d : He.DefD) (ps : List Str) (sp : Sp) : Prop where
  ex : ∃ (f : Addr) (fd : FuncData), FnG P w K mg base CX k f fd ps sp ∧ mg d.name = some (.ref f) ∧ PySem.W.keepIn K (.ref f) = true ∧ Binds K fd ps []
section
variable {X : Cx} {k : Nat} {d : He.DefD} {x : Str} {ps : List Str} {sp : Sp} {e : Expr} {es : List Expr} {t : TA} {p pos : Pos}
theorem pe_fnG (C : CalleeG X.prog X.w X.K X.mg X.base CX0 k d ps sp) (hgd : X.A.guards = some []) (hr : Room k X.A) (hg : Gl X x) (ha : PA X (e :: es) t) (hx : d.name = x := by rfl) (hdb : (x == ("__debug__" : Str)) = false := by decide)
    (he : starEach (e :: es) X.env = (false, eval e X.env) :: starEach es X.env := by rfl) (hpl : (backTo pos (starEach es X.env)).any (·.1) = false := by rfl) : PE X (.Call (.Name x p) (e :: es) [] pos) (tCall sp [] E0 t) := by
  obtain ⟨f, fd, F, hm, hk, hb⟩ := C.ex
  rw [hx] at hm
  refine ⟨fun pins s σ H Q I h => ?_⟩
  refine wpAny_Call_Name_kw (ld_glob I hg hm ?_ hdb)
  refine PySem.W.callWith_K (h₀ := X.base) I.ok.mod.kin hk (thn (ha.run pos pins s σ H _ I h) fun us s1 ⟨vs, H1, I1, r, q⟩ => ⟨I1.kIn, ?_⟩) he hpl
  replace q : sp vs H1 Q E0 := by
    have z : sp (vs ++ []) H1 Q E0 := q
    rw [List.append_nil] at z
    exact z
  have hl : us.length = ps.length := by rw [← r.length]; exact F.len _ _ _ _ q
  have b := hb s1 us I1.kIn (by rw [List.append_nil]; exact hl)
  rw [List.append_nil] at b
  refine wpAny_call (codeAny_mono (F.run X.A X.stack s1 H1 ⟨us, []⟩ us vs Q E0 hgd hr I1.env0 b r q) fun r s' hq => ?_)
  cases r with
  | error e => exact hq.elim
  | ok fl =>
    cases fl with
    | ret u => exact I1.after hq
    | next => exact False.elim hq
    | brk => exact False.elim hq
    | cont => exact False.elim hq
/-- repr of plain data -/
def rRepr (K : PySem.W.Frag) : List V → Hp → VK → Prop := fun xs H Q => ∃ (a : Addr) (d : PyData), xs = [.ref a] ∧ Dp K H (.ref a) d ∧ d.showable = true ∧ d.hasDict = false ∧ d.depth ≤ 60 ∧ d.shown.length ≤ sizeLine ∧ Q (.str d.shown) H
theorem call_reprG (hgd : X.A.guards = some []) (hu : X.A.units + 64 < cLine) : CallR X (.builtin "repr") (rRepr X.K) := by
  intro pins s σ H xs us Q I r h
  obtain ⟨a, d, rfl, hd, hs, hn, hdp, hsz, q⟩ := h
  obtain ⟨u, rfl, ru⟩ := r.one
  cases (show u = Value.ref a from ru)
  obtain ⟨as, rd⟩ := Dp.reads I d (.ref a) (.ref a) hd rfl
  refine repr_of_reads' rd hs (fun z => by rw [hn] at z; cases z) hgd (by omega) (fun _ _ e => e) (fun h' u tk hk => ?_) hsz
  exact ⟨.str d.shown, H, I.kept (t' := tk) hk, ⟨_, rfl⟩, q⟩
theorem repr_l {K : PySem.W.Frag} {H : Hp} {Q : VK} {a : Addr} {d : PyData} (h : Dp K H (.ref a) d) (h1 : d.showable = true) (h2 : d.hasDict = false) (h3 : d.depth ≤ 60) (h4 : d.shown.length ≤ sizeLine) (q : Q (.str d.shown) H) : rRepr K [.ref a] H Q := ⟨a, d, rfl, h, h1, h2, h3, h4, q⟩
end
/-! the end: the law's own def at the place where nothing is shown yet -/
section
variable {P : Program} {w : World} {K : PySem.W.Frag} {mg mb : Str → Option Value} {k : Nat} {fa a : Addr} {fd : FuncData} {x : Str} {sp : Sp} {s₁ : Shared} {vs : List Value} {ns : List Int}
/-- the heap that is tracked at the start: the script, unless the written part holds it -/
theorem startH (KX : K.In s₁.heap) (ha : s₁.heap.get? a = some { cls := .type "list", data := .seq vs.toArray }) (hi : IntsAre vs ns) (hl : ns.length ≤ sizeLine) :
    ∃ H : Hp, Only H ∧ SqL K H a (ns.map V.int) ∧ HOk P w H s₁.heap ∧ ∀ b, H b ≠ none → b = a ∧ K.lookup a = none := by
  have rv := vals_ints hi
  have lenV := hi.length
  cases hk : K.lookup a with
  | some o =>
    have e := KX a o hk
    rw [ha] at e
    cases e
    refine ⟨fun _ => none, fun _ => .inl rfl, .inr ⟨_, vs.toArray, _, hk, rfl, rfl, rfl, by rw [List.size_toArray, lenV]; exact hl, by simpa using rv⟩, fun b u z => ?_, fun b z => absurd rfl z⟩
    cases (show (none : Option HO) = some u from z)
  | none =>
    let fz : HO := .frz { cls := .type "list", data := .seq vs.toArray } (.lst (ns.map V.int))
    have at_ : ∀ {b : Addr} {u : HO}, (upd (fun _ => none) a fz : Hp) b = some u → b = a ∧ u = fz := fun {b u} z => by
      by_cases hb : b = a
      · rw [hb, upd_same] at z
        exact ⟨hb, (Option.some.inj z).symm⟩
      · rw [upd_ne hb] at z
        cases z
    refine ⟨upd (fun _ => none) a fz, fun b => ?_, .inl (.inr ⟨_, upd_same⟩), fun b u z => ?_, fun b z => ?_⟩
    · by_cases hb : b = a
      · exact .inr ⟨_, _, by rw [hb]; exact upd_same⟩
      · exact .inl (upd_ne hb)
    · obtain ⟨rfl, rfl⟩ := at_ z
      exact ⟨ha, by rw [List.length_map]; exact hl, vs, _, rv, ha⟩
    · cases q : (upd (fun _ => none) a fz : Hp) b with
      | none => exact absurd q z
      | some u => exact ⟨(at_ q).1, rfl⟩
theorem law_callG (KX : K.In s₁.heap) (hns : s₁.heap.Ns mainGlobals mg) (hb : s₁.heap.Ns builtinsNs mb) (hbb : ∀ x : Str, x ≠ "__name__" → mb x = bootBuiltins x) (hlim : s₁.heap.NoLimit) (hg : s₁.gens = #[])
    (ha : s₁.heap.get? a = some { cls := .type "list", data := .seq vs.toArray }) (hi : IntsAre vs ns) (hl : ns.length ≤ sizeLine) (hr : Room k callerA)
    (F : ∀ base : Heap, FnG P w K mg base CX0 k fa fd [x] sp) (hbind : ∀ (s : Shared) (u : Value), BindsTo s fd ⟨[u], []⟩ [(x, u)])
    (hsp : ∀ H : Hp, SqL K H a (ns.map V.int) → sp [.ref a] H (fun v _ => v = .bl true) E0) :
    codeAny (model P w) callerA (.call (.ref fa) ⟨[.ref a], []⟩) (fun r s' => r = .ok (.ret (.bool true)) ∧ OldK s₁.heap s'.heap ∧ s'.os = s₁.os ∧ AllBare s'.gens) s₁ := by
  obtain ⟨H, hO, hS, hok, hA⟩ := startH (P := P) (w := w) KX ha hi hl
  have stay : ∀ {b : Addr} {o : Obj}, s₁.heap.get? b = some o → (b = a → K.lookup a = none → False) → (hidT s₁.heap H).get? b = some o := fun {b o} e n => hidT_get e (by
    cases q : H b with
    | none => rfl
    | some u =>
      obtain ⟨e1, e2⟩ := hA b (by rw [q]; simp)
      exact (n e1 e2).elim)
  have nsK : ∀ {b : Addr} {m : Str → Option Value}, s₁.heap.Ns b m → (hidT s₁.heap H).Ns b m := fun {b m} ⟨o, es, ep, e, d, r⟩ => ⟨o, es, ep, stay e (fun z _ => by
    rw [z, ha] at e
    cases e
    cases d), d, r⟩
  have hM : Mod K mg (hidT s₁.heap H) := ⟨fun b o e => stay (KX b o e) (fun z n => by rw [z, n] at e; cases e), nsK hns, ⟨mb, nsK hb, hbb⟩, let ⟨mc, h1, h2⟩ := hlim; ⟨mc, nsK h1, h2⟩⟩
  have e0 : Env0 P w K mg (hidT s₁.heap H) callerA [] s₁ H := ⟨rfl, hM, fun b o e => of_hidT e, Nat.le_of_eq (hidT_size _ _), trivial, fun b hb => absurd (show b ∈ ([] : List Addr) from hb) (by simp), hok, .of_eq hg⟩
  refine codeAny_mono ((F (hidT s₁.heap H)).run callerA [] s₁ H ⟨[.ref a], []⟩ [.ref a] [.ref a] _ _ rfl hr e0 (hbind s₁ (.ref a)) (.cons rfl .nil) (hsp H hS)) fun r s' h => ?_
  cases r with
  | error e => exact False.elim h
  | ok fl =>
    cases fl with
    | next => exact False.elim h
    | brk => exact False.elim h
    | cont => exact False.elim h
    | ret u =>
      obtain ⟨v, H', os, bare, un, hok', r', q⟩ := h
      cases (show v = .bl true from q)
      cases (show u = Value.bool true from r')
      refine ⟨rfl, OldK.of_keep fun b o e => ?_, os, bare⟩
      rcases hO b with z | ⟨ob, xs, z⟩
      · exact un.keep b o e z (fun y => absurd (show b ∈ ([] : List Addr) from y) (by simp)) (by simp)
      · have e1 := (hok b _ z).1
        rw [e] at e1
        rw [e1]
        exact (hok' b _ (un.frzs b ob _ z)).1
end
def LawAtG (l : PySem.W.OpenLaw) (w : World) (K : PySem.W.Frag) (k n : Nat) (x : Str) (mg : Str → Option Value) (fa : Addr) : Prop :=
  ∃ (fd : FuncData) (sp : Sp), (∀ (s : Shared) (u : Value), BindsTo s fd ⟨[u], []⟩ [(x, u)]) ∧ (∀ (H : Hp) (a : Addr) (ns : List Int), ns.length ≤ n → SqL K H a (ns.map V.int) → sp [.ref a] H (fun v _ => v = .bl true) E0) ∧ ∀ base : Heap, FnG l.prog w K mg base CX0 k fa fd [x] sp
theorem walk_ofG {l : PySem.W.OpenLaw} {n k : Nat} {q : Program} {loose : List Str} {XP : (Str → Option Value) → Heap → Prop} {YP : World → Heap → Prop} {d : DefRec} {x : Str} (hn : l.most = some n) (hn2 : n ≤ sizeLine) (hdf : d.params.defaults = []) (hr : Room k callerA)
    (F : ∀ (w : World) (mg : Str → Option Value) (fa : Addr) (h : Heap), YP w h → h.Ns mainGlobals mg → mg d.name = some (.ref fa) → ∃ K : PySem.W.Frag, K.In h ∧ LawAtG l w K k n x mg fa) : PySem.W.WalkO q loose XP YP l.row.toRowW d [] (fun f vs => PySem.call f vs) := by
  refine Att.attach_callB hn hdf fun w s₀ s₁ mg mb fa o pm cd doc a vs ns G Y ho hd hcd hmg hobj hints hlen hbits hg => ?_
  obtain ⟨K, KX, fd, sp, hb, hsp, hF⟩ := F w mg fa _ Y G.T.g hmg
  exact law_callG KX G.T.g G.T.b G.T.builtins G.T.nolimit hg hobj hints (Nat.le_trans hlen hn2) hr hF hb fun H hS => hsp H a ns hlen hS
end My
/-! Own errors with an __init__: made, raised, caught, read. -/
namespace My
open PySem PySem.Spec PyProof.Rows L2
def errF (ns : List Str) (xs : List V) : List (Str × V) := (ns.zip xs).reverse
/-- an error's __init__: the fields, one behind another -/
def spErr (K : PySem.W.Frag) (C : Str) (ns : List Str) : Sp := fun vs H Q _ => ∃ a xs, vs = .ref a :: xs ∧ xs.length = ns.length ∧ H a = some (exo a (He.ga K C) none) ∧ ∀ dx, H dx = none → dx ≠ a → Q .non (upd (upd H dx (exd dx (errF ns xs))) a (exo a (He.ga K C) (some dx)))
structure ErrInit (P : Program) (w : World) (K : PySem.W.Frag) (mg : Str → Option Value) (base : Heap) (CX : CXT) (k : Nat) (d : He.DefD) (C : Str) (ps : List Str) (sp : Sp) : Prop where
  ex : ∃ (f : Addr) (fd : FuncData), FnOk P w K mg base CX k f fd ps sp ∧ PySem.W.findIn K (.ref (He.ga K C)) "__init__" = some (some (.ref f)) ∧ PySem.W.typeIn K (.ref f) = some (.type "function") ∧ Binds K fd ps []
  gl : mg C = some (.ref (He.ga K C))
  ox : OexC K (He.ga K C)
def xIni (C : Str) : Xf := fun K => He.eqO (PySem.W.findIn K (.ref (He.ga K C)) "__init__") (some (some (.ref (He.ma K (He.ga K C) "__init__"))))
def xIniT (C : Str) : Xf := fun K => decide (PySem.W.typeIn K (.ref (He.ma K (He.ga K C) "__init__")) = some (.type "function"))
def xNoA (C f : Str) : Xf := fun K => He.eqO (PySem.W.findIn K (.ref (He.ga K C)) f) (some none)
def xXf (C : Str) : Xf := fun K => xfB K (He.ga K C)
def xExm (C D : Str) (b : Bool) : Xf := fun K => decide (PySem.W.exmOne K (.ref (He.ga K C)) (.ref (He.ga K D)) = some b)
theorem upd_swap {H : Hp} {a dx : Addr} {o1 o2 o3 : HO} (h : dx ≠ a) : upd (upd (upd H dx o1) a o2) dx o3 = upd (upd H dx o3) a o2 := by
  funext b
  by_cases h1 : b = dx
  · subst h1
    rw [upd_same, upd_ne h, upd_same]
  · rw [upd_ne h1]
    by_cases h2 : b = a
    · subst h2
      rw [upd_same, upd_same]
    · rw [upd_ne h2, upd_ne h2, upd_ne h1, upd_ne h1]
section
variable {K : PySem.W.Frag} {σ : L2.St} {H : Hp} {Q : VK} {QX : XK} {D : Ends} {W : WX} {ta : TA} {te to : TE} {f C : Str} {A : Addr} {ns : List Str} {vs : List V} {x y v : V} {a dx : Addr} {fs : List (Str × V)} {sp : Sp}
/-! self.f = e in an __init__ of an error -/
def KOst2 (K : PySem.W.Frag) (f : Str) (y : V) (D : Ends) (σ : L2.St) : VK := fun x H2 => ∃ a C : Addr, x = .ref a ∧ OexC K C ∧ PySem.W.findIn K (.ref C) f = some none ∧
  ((H2 a = some (exo a C none) ∧ ∀ dx, H2 dx = none → dx ≠ a → D.nx σ (upd (upd H2 dx (exd dx [(f, y)])) a (exo a C (some dx)))) ∨
    ∃ (dx : Addr) (fs : List (Str × V)), H2 a = some (exo a C (some dx)) ∧ H2 dx = some (exd dx fs) ∧ fs.length ≤ 900 ∧ D.nx σ (upd H2 dx (exd dx ((f, y) :: fs))))
def KOst1 (K : PySem.W.Frag) (f : Str) (to : TE) (D : Ends) (σ : L2.St) : VK := fun y H1 => to σ H1 (KOst2 K f y D σ)
theorem mw_ost : tOst K f to te D σ H = te σ H (KOst1 K f to D σ) := rfl
theorem mw_ost1 : KOst1 K f to D σ y H = to σ H (KOst2 K f y D σ) := rfl
theorem ost_n (T : OexC K A) (hn : PySem.W.findIn K (.ref A) f = some none) (e : H a = some (exo a A none)) (q : ∀ dx, H dx = none → dx ≠ a → D.nx σ (upd (upd H dx (exd dx [(f, y)])) a (exo a A (some dx)))) : KOst2 K f y D σ (.ref a) H := ⟨a, A, rfl, T, hn, .inl ⟨e, q⟩⟩
theorem ost_o (T : OexC K A) (hn : PySem.W.findIn K (.ref A) f = some none) (hd : dx ≠ a) (l : fs.length ≤ 900) (q : D.nx σ (upd (upd H dx (exd dx ((f, y) :: fs))) a (exo a A (some dx)))) : KOst2 K f y D σ (.ref a) (upd (upd H dx (exd dx fs)) a (exo a A (some dx))) :=
  ⟨a, A, rfl, T, hn, .inr ⟨dx, fs, upd_same, (upd_ne hd).trans upd_same, l, by rw [upd_swap hd]; exact q⟩⟩
/-! raise C(e, ..) -/
def KMkO (A : Addr) (sp : Sp) (QX : XK) : List V → Hp → Prop := fun vs H1 => vs.length ≤ 1000 ∧ ∀ a, H1 a = none → sp (.ref a :: (vs ++ [])) (upd H1 a (exo a A none))
  (fun v H2 => v = .non ∧ ∃ (d : Addr) (fs : List (Str × V)), H2 a = some (exo a A (some d)) ∧ H2 d = some (exd d fs) ∧ H1 d = none ∧ QX (.ref A) (some d) (upd (del H2 a) d (.xd fs))) (fun _ _ _ => False)
def tRaise (t : L2.St → Hp → XK → Prop) (W : WX) : TS := fun _ σ H => t σ H fun cls d H' => W cls d σ H'
theorem mw_raise : tRaise (tMkO A sp [] ta) W D σ H = ta σ H (KMkO A sp (fun cls d H' => W cls d σ H')) := rfl
theorem rs_l (hl : vs.length = ns.length) (hs : ns.length ≤ 1000) (q : ∀ d, H d = none → QX (.ref (He.ga K C)) (some d) (upd H d (.xd (errF ns vs)))) : KMkO (He.ga K C) (spErr K C ns) QX vs H := by
  refine ⟨by omega, fun a ha => ⟨a, vs, by rw [List.append_nil], hl, upd_same, fun dx hdx hne => ⟨rfl, dx, errF ns vs, upd_same, (upd_ne hne).trans upd_same, ?_, ?_⟩⟩⟩
  · rwa [upd_ne hne] at hdx
  · have e : upd (del (upd (upd (upd H a (exo a (He.ga K C) none)) dx (exd dx (errF ns vs))) a (exo a (He.ga K C) (some dx))) a) dx (.xd (errF ns vs)) = upd H dx (.xd (errF ns vs)) := by
      funext b
      by_cases h1 : b = dx
      · subst h1
        rw [upd_same, upd_same]
      · rw [upd_ne h1, upd_ne h1]
        by_cases h2 : b = a
        · subst h2
          rw [del_same, ha]
        · rw [del_ne h2, upd_ne h2, upd_ne h1, upd_ne h2]
    rw [e]
    exact q dx (by rwa [upd_ne hne] at hdx)
/-! an object made where an error may leave -/
def tMakeS (A : Addr) (sp : Sp) (E : L2.St → XK) (t : TA) : TE := fun σ H Q => tMake A sp [] (E σ) t σ H Q
theorem mw_makeS {E : L2.St → XK} : tMakeS A sp E ta σ H Q = ta σ H (KMake A sp [] (E σ) Q) := rfl
def KMakeK (A : Addr) (sp : Sp) (g : List V → List V) (n : Nat) (E : XK) (Q : VK) : List V → Hp → Prop := fun zs H1 => zs.length = n ∧ ∀ x dx, H1 x = none → H1 dx = none → dx ≠ x → sp (.ref x :: g zs) (upd (upd H1 dx (.own x)) x (.ins A dx [])) (fun v H2 => v = .non ∧ Q (.ref x) H2) E
def tMakeSK (A : Addr) (sp : Sp) (g : List V → List V) (n : Nat) (E : L2.St → XK) (t : TA) : TE := fun σ H Q => t σ H (KMakeK A sp g n (E σ) Q)
theorem mw_makeSK {E : L2.St → XK} {g : List V → List V} {n : Nat} : tMakeSK A sp g n E ta σ H Q = ta σ H (KMakeK A sp g n (E σ) Q) := rfl
theorem mkK_l {E : XK} {g : List V → List V} {n : Nat} (hn : vs.length = n) (q : ∀ x dx, H x = none → H dx = none → dx ≠ x → sp (.ref x :: g vs) (upd (upd H dx (.own x)) x (.ins A dx [])) (fun v H2 => v = .non ∧ Q (.ref x) H2) E) : KMakeK A sp g n E Q vs H := ⟨hn, q⟩
/-! try: .. except C as n: .. -/
def tTryA (K : PySem.W.Frag) (c : Value) (i : Nat) (tb : WX → TS) (ts : Addr → Value → Option Addr → TS) : TS := fun D σ H => tb (wAs K c i ts (fun _ _ _ _ => False) D) D σ H
theorem mw_tryA {c : Value} {i : Nat} {tb : WX → TS} {ts : Addr → Value → Option Addr → TS} : tTryA K c i tb ts D σ H = tb (wAs K c i ts (fun _ _ _ _ => False) D) D σ H := rfl
theorem was_yes {c cls : Value} {i : Nat} {d : Option Addr} {ts : Addr → Value → Option Addr → TS} {Wo : WX} (h : PySem.W.exmOne K cls c = some true) (q : ∀ a, H a = none → ts a cls d ⟨fun σ' H' => D.nx (σ'.set i none) H', D.rt, fun σ' H' => D.bk (σ'.set i none) H', fun σ' H' => D.ct (σ'.set i none) H'⟩ (σ.set i (some (.ref a))) H) : wAs K c i ts Wo D cls d σ H :=
  ⟨true, h, fun _ a ha => q a ha, fun z => nomatch z⟩
/-! n.f in the suite -/
def KXf (a : Addr) (cls : Value) (d : Option Addr) (A : Addr) (f : Str) (Q : VK) : VK := fun x H1 => x = .ref a ∧ cls = .ref A ∧ ∃ (dd : Addr) (fs : List (Str × V)) (v : V), d = some dd ∧ H1 dd = some (.xd fs) ∧ fs.lookup f = some v ∧ Q v H1
theorem mw_xf {cls : Value} {d : Option Addr} : tXf a cls d A f te σ H Q = te σ H (KXf a cls d A f Q) := rfl
theorem xf_l {dd : Addr} (h : H dd = some (.xd fs)) (l : fs.lookup f = some v) (q : Q v H) : KXf a (.ref A) (some dd) A f Q (.ref a) H := ⟨rfl, rfl, dd, fs, v, rfl, h, l, q⟩
end
theorem ip_ext {X : Cx} : PIp X .Add rExt2 := fun pins s σ H x y v u Q I r1 r2 h => iop_ext pins s σ H x y v u Q I r1 r2 h
section
variable {K : PySem.W.Frag} {σ : L2.St} {H : Hp} {Q : VK} {D : Ends} {x y z : V} {i : Nat}
theorem mw_aug2X : KAug2 i x rExt2 D σ y H = rExt2 x y H (KSet i D σ) := rfl
theorem mw_setK : KSet i D σ z H = D.nx (σ.set i (some z)) H := rfl
theorem ext_l {l b : Addr} {xs ys : List V} (h1 : H l = some (.lst xs)) (h2 : H b = some (.lst ys)) (n : xs.length + ys.length ≤ sizeLine) (q : Q (.ref l) (upd H l (.lst (xs ++ ys)))) : rExt2 (.ref l) (.ref b) H Q := ⟨l, b, xs, ys, rfl, rfl, h1, h2, n, q⟩
end
section
variable {X : Cx} {k : Nat} {d : He.DefD} {C : Str} {ps ks ns : List Str} {sp : Sp} {e : Expr} {es : List Expr} {t tk : TA} {p pos : Pos} {W : WX} {E : L2.St → XK} {kws : List Keyword}
theorem pmk_err (M : ErrInit X.prog X.w X.K X.mg X.base CX0 k d C ps sp) (hr : Room (k + 1) X.A) (hg : Gl X C) (ha : PA X (e :: es) t) (hdb : (C == ("__debug__" : Str)) = false := by decide)
    (he : starEach (e :: es) X.env = (false, eval e X.env) :: starEach es X.env := by rfl) (hpl : (backTo pos (starEach es X.env)).any (·.1) = false := by rfl) : PMk X (.Call (.Name C p) (e :: es) [] pos) (tMkO (He.ga X.K C) sp [] t) := by
  obtain ⟨f, fd, F, hi, ht, hb⟩ := M.ex
  exact pmk_oex M.ox hi ht F hr hb .nil pass0 hg M.gl ha hdb he hpl
theorem ps_rs {e : Expr} {t : L2.St → Hp → XK → Prop} (hc : X.calm = true) (tk : Takes X W) (he : PMk X e t) : PS X (.Raise (some e) none pos) (tRaise t W) := ps_raise hc tk he
/-- an object is made; what may leave it is asked at these slots -/
theorem run_mkS {CX : CXT} {A f : Addr} {fd : FuncData} {pins : List (Addr × Obj)} {σ : L2.St} {H : Hp} {s : Shared} {Q : VK} {E : XK} {us ws : List Value} {kw : List (Str × Value)} {vs : List V} (M : Mk X.K A f) (F : FnOk X.prog X.w X.K X.mg X.base CX k f fd ps sp) (hr : Room (k + 1) X.A)
    (hb : ∀ (s : Shared) (x : Addr), X.K.In s.heap → BindsTo s fd ⟨.ref x :: us, kw⟩ (ps.zip (.ref x :: ws))) (hx : PassesAt CX X σ E) (I : Inv X pins σ H s) (r : Vals vs ws)
    (h : ∀ x dx, H x = none → H dx = none → dx ≠ x → sp (.ref x :: vs) (upd (upd H dx (.own x)) x (.ins A dx [])) (fun v H2 => v = .non ∧ Q (.ref x) H2) E) : wpAny (model X.prog X.w) X.A (call (.ref A) us kw) (EP X pins σ Q) X.xe s := by
  have hq := h (s.heap.objs.size + 1) s.heap.objs.size (I.hok.fresh (Nat.le_succ _)) (I.hok.fresh (Nat.le_refl _)) (Nat.ne_of_lt (Nat.lt_succ_self _))
  have I2 := Inv.made (C := A) I
  have r2 : Vals (V.ref (s.heap.objs.size + 1) :: vs) (Value.ref (s.heap.objs.size + 1) :: ws) := .cons rfl r
  refine wpAny_call (make_map (f := f) I.kIn M.makes M.init (beq_iff_eq.mp M.fn) (codeAny_mono (F.run _ X.stack _ _ ⟨_, kw⟩ (Value.ref (s.heap.objs.size + 1) :: ws) _ _ E (hr.make A us kw) (I2.env0.make A us kw) (hb _ _ I2.kIn) r2 hq) fun r s' hq' => ?_))
  cases r with
  | error e => exact hx pins _ _ e s' I2 hq'
  | ok fl =>
    cases fl with
    | ret u =>
      obtain ⟨v, H', I3, rv, ev, q3⟩ := I2.after hq'
      subst ev
      exact ⟨rv, ⟨V.ref (s.heap.objs.size + 1), H', I3, rfl, q3⟩⟩
    | next => exact False.elim hq'
    | brk => exact False.elim hq'
    | cont => exact False.elim hq'
theorem pe_mkS {CX : CXT} {K : PySem.W.Frag} (hK : X.K = K) (M : MakeOf X.prog X.w X.K X.mg X.base CX k d C ps sp) (hr : Room (k + 1) X.A) (hx : ∀ σ, PassesAt CX X σ (E σ)) (hg : Gl X C) (ha : PA X (e :: es) t) (hdb : (C == ("__debug__" : Str)) = false := by decide)
    (he : starEach (e :: es) X.env = (false, eval e X.env) :: starEach es X.env := by rfl) (hpl : (backTo pos (starEach es X.env)).any (·.1) = false := by rfl) : PE X (.Call (.Name C p) (e :: es) [] pos) (tMakeS (He.ga K C) sp E t) := by
  subst hK
  obtain ⟨f, fd, F, hm, hb, _⟩ := M.ex
  refine ⟨fun pins s σ H Q I h => ?_⟩
  refine wpAny_Call_Name_kw (ld_glob I hg M.gl ?_ hdb)
  refine PySem.W.callWith_K (h₀ := X.base) I.ok.mod.kin hm.kp (thn (ha.run pos pins s σ H _ I h) fun us s1 ⟨vs, H1, I1, r, q⟩ => ⟨I1.kIn, ?_⟩) he hpl
  have q' : ∀ x dx, H1 x = none → H1 dx = none → dx ≠ x → sp (.ref x :: vs) (upd (upd H1 dx (.own x)) x (.ins (He.ga X.K C) dx [])) (fun v H2 => v = .non ∧ Q (.ref x) H2) (E σ) := fun x dx h1 h2 h3 => by
    have z := q x dx h1 h2 h3
    rwa [List.append_nil] at z
  have hl : us.length + 1 = ps.length := by
    have z := F.len _ _ _ _ (q' (s1.heap.objs.size + 1) s1.heap.objs.size (I1.hok.fresh (Nat.le_succ _)) (I1.hok.fresh (Nat.le_refl _)) (Nat.ne_of_lt (Nat.lt_succ_self _)))
    rw [← r.length, ← z]; rfl
  exact run_mkS hm F hr (fun s x hk => by
    have b := hb s (.ref x :: us) hk (by rw [List.append_nil]; exact hl)
    rwa [List.append_nil] at b) (hx σ) I1 r q'
/-- C(k = v, ..): g puts the values in the parameters' order -/
theorem pe_mkSK {CX : CXT} {K : PySem.W.Frag} (hK : X.K = K) (M : MakeOf X.prog X.w X.K X.mg X.base CX k d C ps sp) (g : {α : Type} → List α → List α) (hr : Room (k + 1) X.A) (hx : ∀ σ, PassesAt CX X σ (E σ)) (hg : Gl X C) (hkw : PK X kws tk)
    (hb : ∀ (kV doc pm : Value) (an : Option Addr) (cdv ct : Value) (x : Value) (ws : List Value), ws.length = ks.length → bindArgs (PySem.W.fnOf d.name d.qual d.params d.body d.scope .none kV doc pm an cdv ct) ⟨[x], ks.zip ws⟩ = pure (ps.zip (x :: g ws)))
    (hv : ∀ {zs : List V} {ws : List Value}, Vals zs ws → Vals (g zs) (g ws))
    (hall : (backToKw pos (keywordEach kws X.env)).all (·.1.isSome) = true := by rfl) (hks : (backToKw pos (keywordEach kws X.env)).filterMap (·.1) = ks := by rfl) (hdb : (C == ("__debug__" : Str)) = false := by decide)
    (hpl : ((backTo pos (starEach [] X.env)).any (·.1) || (backToKw pos (keywordEach kws X.env)).any (·.1.isNone)) = false := by rfl) : PE X (.Call (.Name C p) [] kws pos) (tMakeSK (He.ga K C) sp g ks.length E tk) := by
  subst hK
  obtain ⟨f, fd, F, hm, _, FD⟩ := M.ex
  refine ⟨fun pins s σ H Q I h => ?_⟩
  refine wpAny_Call_Name_kw (ld_glob I hg M.gl ?_ hdb)
  refine PySem.W.callWith_KW0 (h₀ := X.base) I.ok.mod.kin hm.kp hall (thn (hkw.run pos pins s σ H _ I h) fun ws s2 ⟨zs, H2, I2, rz, l2, q2⟩ => ⟨I2.kIn, ?_⟩) hpl
  rw [hks]
  refine run_mkS hm F hr (fun s x hk => ?_) (hx σ) I2 (hv rz) q2
  obtain ⟨oc, od, dV, kV, doc, pm, an, cdv, ct, osl, rfl, lk, hcd, hD, hK⟩ := FD.ex
  rcases hD with ⟨_, rfl⟩ | ⟨e, _⟩
  · exact .of_eq (hb kV doc pm an cdv ct (.ref x) ws (by rw [← rz.length]; exact l2))
  · exact absurd rfl e
theorem ps_tryA {x n : Str} {c : Value} {i : Nat} {body suite : List Stmt} {b₀ : Stmt} {np pos' : Pos} {tb : WX → TS} {ts : Addr → Value → Option Addr → TS} (hs : X.stack = X.env :: X.outer) (hf : X.env.frame = some X.env.locals) (hN : X.N.Nodup) (hi : X.N[i]? = some n) (hln : X.env.kindOf n = some .local) (hc : Names X x c) (tk : Takes X fun _ _ _ _ => False)
    (hb : ∀ (W : WX) (pn : List (Addr × Obj)) (xe : Value → Shared → Prop), Takes (X.tr pn xe) W → PassesOwn (model X.prog X.w) X.A X.env xe → PSs (X.tr pn xe) body (tb W))
    (hsu : ∀ (a : Addr) (oe : Obj) (cls : Value) (d : Option Addr) (pn : List (Addr × Obj)), Zc cls d oe → (∃ vs, oe.data = .fields vs) → PSs (X.suite a ((a, oe) :: pn)) (b₀ :: suite) (ts a cls d)) :
    PS X (.Try body [.ExceptHandler (some (.Name x np)) (some n) (b₀ :: suite) pos'] [] [] pos) (tTryA X.K c i tb ts) := ps_try_as hs hf hN hi hln hc tk hb hsu
/-- isinstance(e, T), e the caught error (of the class at D, its dict at dd), T an own class -/
def rIsED (K : PySem.W.Frag) (D a : Addr) (cls : Value) (d : Option Addr) : List V → Hp → VK → Prop := fun xs H Q => ∃ (T dd : Addr) (fs : List (Str × V)) (b : Bool), xs = [.ref a, .ref T] ∧ cls = .ref D ∧ d = some dd ∧ H dd = some (.xd fs) ∧ PySem.W.kitOne K (.ref D) (.ref T) = some b ∧ Q (.bl b) H
theorem call_isED {a D : Addr} {oe : Obj} {cls : Value} {d : Option Addr} {pn : List (Addr × Obj)} (C : ExcC X.K D) (hz : Zc cls d oe) (hf : ∃ vs, oe.data = .fields vs) : CallR (X.suite a ((a, oe) :: pn)) (.builtin "isinstance") (rIsED X.K D a cls d) := by
  intro pins s σ H xs us Q I r h
  obtain ⟨T, dd, fs, b, rfl, ec, ed, hd, e, q⟩ := h
  subst ec
  subst ed
  obtain ⟨u1, u2, rfl, r1, r2⟩ := vals2 r
  cases (show u1 = Value.ref a from r1)
  cases (show u2 = Value.ref T from r2)
  obtain ⟨hget, _⟩ := I.pin (a, oe) (List.mem_append.mpr (.inl List.mem_cons_self))
  obtain ⟨vs, hv⟩ := hf
  have hx : ObjOk X.prog X.w H s.heap dd (.xd fs) := I.hok dd _ hd
  obtain ⟨mA, hns, _⟩ := hx
  obtain ⟨od, ho, _⟩ := lookIn_ns hns
  have J : PySem.W.InstAt s.heap a oe D (some od) := ⟨hget, hz.1, by unfold PySem.W.notCls; rw [hv] <;> rfl, by rw [hz.2]; exact ho⟩
  have hcl : (PySem.W.clsIn X.K D).isSome = true := by
    obtain ⟨cd, hc, _⟩ := PySem.W.any_some C.hd
    rw [hc] <;> rfl
  exact PySem.W.kia_one (PySem.W.kitx_exc hcl C.hg C.hk C.hs C.ha C.hn C.ht C.hm) I.kIn J e (fun z => nomatch z) fun tk => ⟨.bl b, H, I.tok tk, rfl, q⟩
theorem isED_l {K : PySem.W.Frag} {D a T dd : Addr} {fs : List (Str × V)} {b : Bool} {H : Hp} {Q : VK} (h : H dd = some (.xd fs)) (e : PySem.W.kitOne K (.ref D) (.ref T) = some b) (q : Q (.bl b) H) : rIsED K D a (.ref D) (some dd) [.ref a, .ref T] H Q := ⟨T, dd, fs, b, rfl, rfl, rfl, h, e, q⟩
def xExcC (C : Str) : Xf := fun K => He.eqO (PySem.W.findIn K (.ref (He.ga K C)) "__getattribute__") (some (some (.builtin "BaseException.__getattribute__"))) && (He.eqO (PySem.W.findIn K (.ref (He.ga K C)) "__getattr__") (some none) && (decide (PySem.W.subIn K (.ref (He.ga K C)) (.type "BaseException") = some true) &&
  (PySem.W.hasDictIn K (He.ga K C) && (He.eqO (PySem.W.findIn K (.ref (He.ga K C)) "__class__") (some (some (.builtin "object.__class__"))) && (He.eqO (PySem.W.specialIn K (.builtin "object.__class__") "__get__") (some (some (.builtin "getset_descriptor.__get__"))) &&
  (decide (PySem.W.takesIn K (.builtin "object.__class__") = some true) && decide (PySem.W.mroIn K (He.ga K C) (.type "object") = some true)))))))
theorem excC_of {K : PySem.W.Frag} {C : Str} (h : xExcC C K = true) : ExcC K (He.ga K C) := by
  obtain ⟨h1, h⟩ := He.ba h
  obtain ⟨h2, h⟩ := He.ba h
  obtain ⟨h3, h⟩ := He.ba h
  obtain ⟨h4, h⟩ := He.ba h
  obtain ⟨h5, h⟩ := He.ba h
  obtain ⟨h6, h⟩ := He.ba h
  obtain ⟨h7, h8⟩ := He.ba h
  exact ⟨He.eqO_ok h1, He.eqO_ok h2, of_decide_eq_true h3, h4, He.eqO_ok h5, He.eqO_ok h6, of_decide_eq_true h7, of_decide_eq_true h8⟩
/-- x + y of own instances, where an error may leave -/
def rAddE (A : Addr) (sp : Sp) (E : XK) : R2 := fun x y H Q => ∃ a dx fs b dy gs, x = .ref a ∧ y = .ref b ∧ H a = some (.ins A dx fs) ∧ H b = some (.ins A dy gs) ∧ sp [x, y] H Q E
def tAddS (A : Addr) (sp : Sp) (E : L2.St → XK) (ta tb : TE) : TE := fun σ H Q => tOp (rAddE A sp (E σ)) ta tb σ H Q
theorem mw_addS {A : Addr} {sp : Sp} {E : L2.St → XK} {ta tb : TE} {σ : L2.St} {H : Hp} {Q : VK} : tAddS A sp E ta tb σ H Q = ta σ H (KOp1 (rAddE A sp (E σ)) tb σ Q) := rfl
theorem addE_l {A : Addr} {sp : Sp} {E : XK} {H : Hp} {Q : VK} {a dx b dy : Addr} {fs gs : List (Str × V)} (h : H a = some (.ins A dx fs)) (h' : H b = some (.ins A dy gs)) (q : sp [.ref a, .ref b] H Q E) : rAddE A sp E (.ref a) (.ref b) H Q := ⟨a, dx, fs, b, dy, gs, rfl, rfl, h, h', q⟩
theorem pe_addS {CX : CXT} {K : PySem.W.Frag} {a b : Expr} {ta tb : TE} (hK : X.K = K) (M : MethOf X.prog X.w X.K X.mg X.base CX k C "__add__" ps sp) (hc : PySem.W.selfFirst X.K (He.ga X.K C) = true) (hr : Room k X.A) (hx : ∀ σ, PassesAt CX X σ (E σ)) (ha : PE X a ta) (hb : PE X b tb) :
    PE X (.BinOp a .Add b pos) (tAddS (He.ga K C) sp E ta tb) := by
  subst hK
  obtain ⟨f, fd, F, hm, hbd⟩ := M.ex
  refine ⟨fun pins s σ H Q I h => ?_⟩
  refine wpAny_BinOp (binT ha hb I h fun v u s2 x y H2 I2 rx ry q => ?_)
  obtain ⟨a, dx, fs, b, dy, gs, rfl, rfl, ea, eb, q⟩ := q
  cases (show v = Value.ref a from rx)
  cases (show u = Value.ref b from ry)
  obtain ⟨mA, J, _⟩ := ins_get I2.hok ea
  obtain ⟨od, J, _⟩ := J.look
  obtain ⟨mB, J', _⟩ := ins_get I2.hok eb
  obtain ⟨od', J', _⟩ := J'.look
  obtain ⟨mF, hF⟩ := I2.fr
  refine PySem.W.binop_K (op := .Add) hF I2.ok.mod.kin J J'.type hc hm.at_ hm.fn ?_
  refine wpAny_mono (run_fnS (us := [.ref a, .ref b]) (vs := [.ref a, .ref b]) F hr hbd (hx σ) I2 (.cons rfl (.cons rfl .nil)) q) (fun w s' z => ?_) fun _ _ x => x
  obtain ⟨z', H', I', rz, qz⟩ := z
  exact SlX.cmpback rz ⟨z', H', I', rz, qz⟩
end
/-! texts of plain data are texts -/
theorem ok_of (s : String) : PyData.strOk (Str.ofString s) = true := by
  rw [Str.ofString_eq_toList]
  unfold PyData.strOk
  simp only [List.all_toArray, List.all_map, List.all_eq_true, Function.comp]
  intro c _
  refine decide_eq_true ?_
  have h := c.valid
  have e : c.toNat = c.val.toNat := rfl
  rw [e]
  rcases h with h | ⟨_, h⟩
  · exact Nat.lt_trans h (by decide)
  · exact h
theorem ok_app {a b : Str} (h1 : PyData.strOk a = true) (h2 : PyData.strOk b = true) : PyData.strOk (a ++ b) = true := by
  unfold PyData.strOk at *
  show (a.cps ++ b.cps).all _ = true
  rw [Array.all_append, h1, h2]; rfl
theorem ok_join {sep : Str} (hs : PyData.strOk sep = true) : ∀ (ts : List Str), (∀ t ∈ ts, PyData.strOk t = true) → PyData.strOk (Str.join sep ts) = true
  | [], _ => by first | rfl | exact ok_of "" | (unfold Str.join PyData.strOk; simp)
  | [x], h => h x (by simp)
  | x :: y :: r, h => by
    show PyData.strOk (x ++ sep ++ Str.join sep (y :: r)) = true
    exact ok_app (ok_app (h x (by simp)) hs) (ok_join hs (y :: r) fun t ht => h t (by simp at ht ⊢; exact .inr ht))
theorem ok_tuple (ts : List Str) (h : ∀ t ∈ ts, PyData.strOk t = true) : PyData.strOk (tupleText ts) = true := by
  unfold tupleText
  exact ok_app (ok_app (ok_of "(") (ok_join (ok_of ", ") ts h)) (ok_of _)
section
variable {K : PySem.W.Frag} {σ : L2.St} {H : Hp} {Q : VK} {te : TE} {vs : List Nat} {j : Nat}
theorem lc_intsT {a : Addr} {ns : List Int} (f : Int → Int) (h : SqT K H a (ns.map V.int)) (hlen : ns.length ≤ 100000) (hw : ∀ n : Int, wipe ((wipe σ vs).set j (some (.int n))) vs = wipe σ vs)
    (hr : ∀ n ∈ ns, ∀ (H' : Hp) (Q' : VK), Q' (.int (f n)) H' → te ((wipe σ vs).set j (some (.int n))) H' Q') (q : ∀ Dl H', H Dl = none → H' Dl = some (.lst ((ns.map f).map V.int)) → Fr [] H H' → Q (.ref Dl) H') : KLcT K (gName j) tYes te vs σ Q (.ref a) H := by
  have key : ∀ x ∈ ns.map V.int, ∃ n ∈ ns, x = V.int n := fun x hx => by
    obtain ⟨n, hn, e⟩ := List.mem_map.mp hx
    exact ⟨n, hn, e.symm⟩
  refine lc_t (S := []) (fun _ => True) (fun x y _ => y = some (match x with | .int n => .int (f n) | v => v)) h (by simp) (by rw [List.length_map]; exact hlen) (by simp) (lc_pure (fun x hx => ?_) fun x hx H' Q' k => ?_) fun Dl ys H' hD e k fr _ => ?_
  · obtain ⟨n, _, rfl⟩ := key x hx; exact hw n
  · obtain ⟨n, hn, rfl⟩ := key x hx; exact hr n hn H' Q' k
  · have ey := kept_pure (f := fun x => match x with | .int n => .int (f n) | v => v) k
    rw [List.map_map] at ey
    refine q Dl H' hD ?_ fr
    rw [e, ey, List.map_map] <;> rfl
end
/-- xs != [] (a list made here; its items may be own objects) -/
def rNeE : R2 := fun x y H Q => ∃ a b xs, x = .ref a ∧ y = .ref b ∧ H a = some (.lst xs) ∧ H b = some (.lst []) ∧ Q (.bl (!xs.isEmpty)) H
theorem op_neE {X : Cx} (hu : X.A.units + 64 < cLine) : OpR X (compareOp .NotEq) rNeE := by
  intro pins s σ H x y v u Q I rx ry h
  obtain ⟨a, b, xs, rfl, rfl, ha, hb, q⟩ := h
  cases xs with
  | nil => exact op_neD hu pins s σ H _ _ v u Q I rx ry ⟨.list [], .list [], .lst (SqL.of ha) .nil, .lst (SqL.of hb) .nil, rfl, rfl, q⟩
  | cons z zs =>
    cases (show v = Value.ref a from rx)
    cases (show u = Value.ref b from ry)
    obtain ⟨_, vs, n1, r1, o1⟩ := (show ObjOk X.prog X.w H s.heap a (.lst (z :: zs)) from I.hok a _ ha)
    obtain ⟨_, ws, n2, r2, o2⟩ := (show ObjOk X.prog X.w H s.heap b (.lst []) from I.hok b _ hb)
    have l1 := Paired.length r1
    have l2 := Paired.length r2
    refine SeqAt.RcNeAt.lists_lengths (items := vs.toArray) (items2 := ws.toArray) ⟨_, o1, rfl, _, rfl⟩ ⟨_, o2, rfl, _, rfl⟩ ?_ (by omega) X.prog X.w _ _ ⟨.bl true, H, I, rfl, q⟩
    simp only [List.size_toArray, bne_iff_ne, ne_eq, ← l1, ← l2]
    simp
theorem neE_l {H : Hp} {Q : VK} {a b : Addr} {xs : List V} (h : H a = some (.lst xs)) (h2 : H b = some (.lst [])) (q : Q (.bl (!xs.isEmpty)) H) : rNeE (.ref a) (.ref b) H Q := ⟨a, b, xs, rfl, rfl, h, h2, q⟩
end My
namespace K18
open PySem PySem.Spec PyProof.Rows L2 My

/-! the text by places -/
def top (i : Nat) : Stmt := PySem.Challenge.pw_windowrows_k18_offsets_added.main.body.getD i (.Pass ⟨0, 0, 0, 0⟩)
abbrev s_BadOffset___init__ : Stmt := inClass (top 2) 0
abbrev s_zone_of : Stmt := top 4
abbrev s__zone_in_group : Stmt := top 5
abbrev s_Offset___init__ : Stmt := inClass (top 6) 0
abbrev s_Offset_fewest_rows : Stmt := inClass (top 6) 1
abbrev s_Offset___neg__ : Stmt := inClass (top 6) 2
abbrev s_Offset___add__ : Stmt := inClass (top 6) 3
abbrev s_Offset___eq__ : Stmt := inClass (top 6) 4
abbrev s__law_begin : Stmt := top 8
abbrev s__law_draw : Stmt := top 9
abbrev s__law_good : Stmt := top 10
abbrev s__law_is_good : Stmt := top 11
abbrev s__law_other : Stmt := top 12
abbrev s__law_zone : Stmt := top 13
abbrev s__law_due_of : Stmt := top 14
abbrev s__law_told_of : Stmt := top 15
abbrev s__law_sum : Stmt := top 16
abbrev s__law_right : Stmt := top 17
abbrev s_law : Stmt := top 18
theorem sc_BadOffset___init__ : FnScope ["self", "rows", "groups", "distance"] ["self", "rows", "groups", "distance"] (defScope s_BadOffset___init__) := ⟨rfl, rfl, rfl, by decide +kernel, rfl, by decide +kernel, by decide +kernel⟩
theorem sc_zone_of : FnScope ["rows", "groups", "distance"] ["rows", "groups", "distance"] (defScope s_zone_of) := ⟨rfl, rfl, rfl, by decide +kernel, rfl, by decide +kernel, by decide +kernel⟩
theorem sc__zone_in_group : FnScope ["rows"] ["rows"] (defScope s__zone_in_group) := ⟨rfl, rfl, rfl, by decide +kernel, rfl, by decide +kernel, by decide +kernel⟩
theorem sc_Offset___init__ : FnScope ["self", "rows", "groups", "distance", "zone"] ["self", "rows", "groups", "distance"] (defScope s_Offset___init__) := ⟨rfl, rfl, rfl, by decide +kernel, rfl, by decide +kernel, by decide +kernel⟩
theorem sc_Offset_fewest_rows : FnScope ["self"] ["self"] (defScope s_Offset_fewest_rows) := ⟨rfl, rfl, rfl, by decide +kernel, rfl, by decide +kernel, by decide +kernel⟩
theorem sc_Offset___neg__ : FnScope ["self"] ["self"] (defScope s_Offset___neg__) := ⟨rfl, rfl, rfl, by decide +kernel, rfl, by decide +kernel, by decide +kernel⟩
theorem sc_Offset___add__ : FnScope ["self", "other"] ["self", "other"] (defScope s_Offset___add__) := ⟨rfl, rfl, rfl, by decide +kernel, rfl, by decide +kernel, by decide +kernel⟩
theorem sc_Offset___eq__ : FnScope ["self", "other"] ["self", "other"] (defScope s_Offset___eq__) := ⟨rfl, rfl, rfl, by decide +kernel, rfl, by decide +kernel, by decide +kernel⟩
theorem sc__law_begin : FnScope ["_law_script", "_law_cells", "_law_rests", "_law_cell"] ["_law_script"] (defScope s__law_begin) := ⟨rfl, rfl, rfl, by decide +kernel, rfl, by decide +kernel, by decide +kernel⟩
theorem sc__law_draw : FnScope ["_law_draws", "_law_many", "_law_cells", "_law_rests", "_law_turn", "_law_at", "_law_got", "_law_first", "_law_salt", "_law_second", "_law_mixed", "_law_third"] ["_law_draws", "_law_many"] (defScope s__law_draw) := ⟨rfl, rfl, rfl, by decide +kernel, rfl, by decide +kernel, by decide +kernel⟩
theorem sc__law_good : FnScope ["_law_draws", "_law_way", "_law_g", "_law_d", "_law_k"] ["_law_draws"] (defScope s__law_good) := ⟨rfl, rfl, rfl, by decide +kernel, rfl, by decide +kernel, by decide +kernel⟩
theorem sc__law_is_good : FnScope ["_law_triple", "_law_d", "_law_g", "_law_k"] ["_law_triple"] (defScope s__law_is_good) := ⟨rfl, rfl, rfl, by decide +kernel, rfl, by decide +kernel, by decide +kernel⟩
theorem sc__law_other : FnScope ["_law_draws", "_law_triple", "_law_found", "_law_at", "_law_spot"] ["_law_draws", "_law_triple"] (defScope s__law_other) := ⟨rfl, rfl, rfl, by decide +kernel, rfl, by decide +kernel, by decide +kernel⟩
theorem sc__law_zone : FnScope ["_law_triple"] ["_law_triple"] (defScope s__law_zone) := ⟨rfl, rfl, rfl, by decide +kernel, rfl, by decide +kernel, by decide +kernel⟩
theorem sc__law_due_of : FnScope ["_law_triple"] ["_law_triple"] (defScope s__law_due_of) := ⟨rfl, rfl, rfl, by decide +kernel, rfl, by decide +kernel, by decide +kernel⟩
theorem sc__law_told_of : FnScope ["_law_offset"] ["_law_offset"] (defScope s__law_told_of) := ⟨rfl, rfl, rfl, by decide +kernel, rfl, by decide +kernel, by decide +kernel⟩
theorem sc__law_sum : FnScope ["_law_first", "_law_second", "_law_offset", "e"] ["_law_first", "_law_second"] (defScope s__law_sum) := ⟨rfl, rfl, rfl, by decide +kernel, rfl, by decide +kernel, by decide +kernel⟩
theorem sc__law_right : FnScope ["_law_first", "_law_second", "_law_one", "_law_two", "_law_due", "_law_told", "_law_k", "_law_spot"] ["_law_first", "_law_second", "_law_one", "_law_two"] (defScope s__law_right) := ⟨rfl, rfl, rfl, by decide +kernel, rfl, by decide +kernel, by decide +kernel⟩
theorem sc_law : FnScope ["_law_script", "_law_draws", "_law_turn", "_law_one", "_law_two", "_law_first", "_law_second"] ["_law_script"] (defScope s_law) := ⟨rfl, rfl, rfl, by decide +kernel, rfl, by decide +kernel, by decide +kernel⟩
def d_BadOffset___init__ : He.DefD := ⟨("BadOffset", some "__init__"), "__init__", "BadOffset.__init__", defArgs s_BadOffset___init__, defBody s_BadOffset___init__, defScope s_BadOffset___init__, [], []⟩
def d_zone_of : He.DefD := ⟨("zone_of", none), "zone_of", "zone_of", defArgs s_zone_of, defBody s_zone_of, defScope s_zone_of, [], []⟩
def d__zone_in_group : He.DefD := ⟨("_zone_in_group", none), "_zone_in_group", "_zone_in_group", defArgs s__zone_in_group, defBody s__zone_in_group, defScope s__zone_in_group, [], []⟩
def d_Offset___init__ : He.DefD := ⟨("Offset", some "__init__"), "__init__", "Offset.__init__", defArgs s_Offset___init__, defBody s_Offset___init__, defScope s_Offset___init__, [], []⟩
def d_Offset_fewest_rows : He.DefD := ⟨("Offset", some "fewest_rows"), "fewest_rows", "Offset.fewest_rows", defArgs s_Offset_fewest_rows, defBody s_Offset_fewest_rows, defScope s_Offset_fewest_rows, [], []⟩
def d_Offset___neg__ : He.DefD := ⟨("Offset", some "__neg__"), "__neg__", "Offset.__neg__", defArgs s_Offset___neg__, defBody s_Offset___neg__, defScope s_Offset___neg__, [], []⟩
def d_Offset___add__ : He.DefD := ⟨("Offset", some "__add__"), "__add__", "Offset.__add__", defArgs s_Offset___add__, defBody s_Offset___add__, defScope s_Offset___add__, [], []⟩
def d_Offset___eq__ : He.DefD := ⟨("Offset", some "__eq__"), "__eq__", "Offset.__eq__", defArgs s_Offset___eq__, defBody s_Offset___eq__, defScope s_Offset___eq__, [], []⟩
def d__law_begin : He.DefD := ⟨("_law_begin", none), "_law_begin", "_law_begin", defArgs s__law_begin, defBody s__law_begin, defScope s__law_begin, [], []⟩
def d__law_draw : He.DefD := ⟨("_law_draw", none), "_law_draw", "_law_draw", defArgs s__law_draw, defBody s__law_draw, defScope s__law_draw, [], []⟩
def d__law_good : He.DefD := ⟨("_law_good", none), "_law_good", "_law_good", defArgs s__law_good, defBody s__law_good, defScope s__law_good, [], []⟩
def d__law_is_good : He.DefD := ⟨("_law_is_good", none), "_law_is_good", "_law_is_good", defArgs s__law_is_good, defBody s__law_is_good, defScope s__law_is_good, [], []⟩
def d__law_other : He.DefD := ⟨("_law_other", none), "_law_other", "_law_other", defArgs s__law_other, defBody s__law_other, defScope s__law_other, [], []⟩
def d__law_zone : He.DefD := ⟨("_law_zone", none), "_law_zone", "_law_zone", defArgs s__law_zone, defBody s__law_zone, defScope s__law_zone, [], []⟩
def d__law_due_of : He.DefD := ⟨("_law_due_of", none), "_law_due_of", "_law_due_of", defArgs s__law_due_of, defBody s__law_due_of, defScope s__law_due_of, [], []⟩
def d__law_told_of : He.DefD := ⟨("_law_told_of", none), "_law_told_of", "_law_told_of", defArgs s__law_told_of, defBody s__law_told_of, defScope s__law_told_of, [], []⟩
def d__law_sum : He.DefD := ⟨("_law_sum", none), "_law_sum", "_law_sum", defArgs s__law_sum, defBody s__law_sum, defScope s__law_sum, [], []⟩
def d__law_right : He.DefD := ⟨("_law_right", none), "_law_right", "_law_right", defArgs s__law_right, defBody s__law_right, defScope s__law_right, [], []⟩
def d_law : He.DefD := ⟨("law", none), "law", "law", defArgs s_law, defBody s_law, defScope s_law, [], []⟩
def fn : List He.DefD := [d_BadOffset___init__, d_zone_of, d__zone_in_group, d_Offset___init__, d_Offset_fewest_rows, d_Offset___neg__, d_Offset___add__, d_Offset___eq__, d__law_begin, d__law_draw, d__law_good, d__law_is_good, d__law_other, d__law_zone, d__law_due_of, d__law_told_of, d__law_sum, d__law_right, d_law]
def fa : List He.Fa := ([.glo "zone_of", .glo "_zone_in_group", .glo "_law_begin", .glo "_law_draw", .glo "_law_good", .glo "_law_is_good", .glo "_law_other", .glo "_law_zone", .glo "_law_due_of", .glo "_law_told_of", .glo "_law_sum", .glo "_law_right", .glo "law", .free "ValueError", .free "tuple", .free "repr", .free "range", .free "int", .free "len", .free "isinstance", .free "abs", .glo "Offset", .cls "Offset", .noat "Offset" "rows", .noat "Offset" "groups", .noat "Offset" "distance", .noat "Offset" "zone", .mkr "Offset", .meth "Offset" "fewest_rows", .meth "Offset" "__neg__", .meth "Offset" "__add__", .meth "Offset" "__eq__", .glo "WindowError", .glo "BadOffset"] : List He.Fa)
def xs : List Xf := ([xIsi "Offset", xSelf "Offset", xNe "Offset", xNf "Offset" "NoneType", xKit "NoneType" "Offset" false, xNf "Offset" "int", xKit "int" "Offset" false, xNf "Offset" "str", xKit "str" "Offset" false, xNf "Offset" "bool", xKit "bool" "Offset" false, xNf "Offset" "list", xKit "list" "Offset" false, xNf "Offset" "tuple", xKit "tuple" "Offset" false, xNfC "Offset" "Offset", xKitC "Offset" "Offset" true, xIni "BadOffset", xIniT "BadOffset", xOex "BadOffset", xXf "BadOffset", xExcC "BadOffset", xExm "BadOffset" "BadOffset" true, xNoA "BadOffset" "rows", xNoA "BadOffset" "groups", xNoA "BadOffset" "distance", xKitC "BadOffset" "WindowError" true, xKitC "BadOffset" "BadOffset" true] : List Xf)
abbrev E (K : PySem.W.Frag) (mg : Str → Option Value) : Prop := My.EnvX fa fn xs K mg
section
variable {K : PySem.W.Frag} {mg : Str → Option Value}
theorem free_ValueError (ev : E K mg) : mg "ValueError" = none := ev.fre 13
theorem free_tuple (ev : E K mg) : mg "tuple" = none := ev.fre 14
theorem free_repr (ev : E K mg) : mg "repr" = none := ev.fre 15
theorem free_range (ev : E K mg) : mg "range" = none := ev.fre 16
theorem free_int (ev : E K mg) : mg "int" = none := ev.fre 17
theorem free_len (ev : E K mg) : mg "len" = none := ev.fre 18
theorem free_isinstance (ev : E K mg) : mg "isinstance" = none := ev.fre 19
theorem free_abs (ev : E K mg) : mg "abs" = none := ev.fre 20
theorem glo_Offset (ev : E K mg) : mg "Offset" = some (.ref (He.ga K "Offset")) := ev.glo 21
theorem cls_Offset (ev : E K mg) : Cls K (He.ga K "Offset") := He.cls_ok (ev.e.c.fact 22 rfl)
theorem isi_Offset (ev : E K mg) : SlX.SIsi K (He.ga K "Offset") := isi_of (ev.xf 0)
theorem self_Offset (ev : E K mg) : PySem.W.selfFirst K (He.ga K "Offset") = true := ev.xf 1
theorem mro_Offset (ev : E K mg) : PySem.W.mroIn K (He.ga K "Offset") (.type "object") = some true := (isi_Offset ev).cm
theorem ne_Offset (ev : E K mg) : PySem.W.findIn K (.ref (He.ga K "Offset")) "__ne__" = some (some (.builtin "object.__ne__")) := He.eqO_ok (ev.xf 2)
theorem ty_Offset (ev : E K mg) {H : Hp} {a dx : Addr} {fs : List (Str × V)} (e : H a = some (.ins (He.ga K "Offset") dx fs)) : TyX K H (.ref a) (.ref (He.ga K "Offset")) := ty_ins e (cls_Offset ev) (isi_Offset ev)
theorem nf_Offset_NoneType (ev : E K mg) : PySem.W.notFirst K (He.ga K "Offset") (.type "NoneType") = true := ev.xf 3
theorem kit_NoneType_Offset (ev : E K mg) : PySem.W.kitOne K (.type "NoneType") (.ref (He.ga K "Offset")) = some false := of_decide_eq_true (ev.xf 4)
theorem nf_Offset_int (ev : E K mg) : PySem.W.notFirst K (He.ga K "Offset") (.type "int") = true := ev.xf 5
theorem kit_int_Offset (ev : E K mg) : PySem.W.kitOne K (.type "int") (.ref (He.ga K "Offset")) = some false := of_decide_eq_true (ev.xf 6)
theorem nf_Offset_str (ev : E K mg) : PySem.W.notFirst K (He.ga K "Offset") (.type "str") = true := ev.xf 7
theorem kit_str_Offset (ev : E K mg) : PySem.W.kitOne K (.type "str") (.ref (He.ga K "Offset")) = some false := of_decide_eq_true (ev.xf 8)
theorem nf_Offset_bool (ev : E K mg) : PySem.W.notFirst K (He.ga K "Offset") (.type "bool") = true := ev.xf 9
theorem kit_bool_Offset (ev : E K mg) : PySem.W.kitOne K (.type "bool") (.ref (He.ga K "Offset")) = some false := of_decide_eq_true (ev.xf 10)
theorem nf_Offset_list (ev : E K mg) : PySem.W.notFirst K (He.ga K "Offset") (.type "list") = true := ev.xf 11
theorem kit_list_Offset (ev : E K mg) : PySem.W.kitOne K (.type "list") (.ref (He.ga K "Offset")) = some false := of_decide_eq_true (ev.xf 12)
theorem nf_Offset_tuple (ev : E K mg) : PySem.W.notFirst K (He.ga K "Offset") (.type "tuple") = true := ev.xf 13
theorem kit_tuple_Offset (ev : E K mg) : PySem.W.kitOne K (.type "tuple") (.ref (He.ga K "Offset")) = some false := of_decide_eq_true (ev.xf 14)
theorem nf_Offset_Offset (ev : E K mg) : PySem.W.notFirst K (He.ga K "Offset") (.ref (He.ga K "Offset")) = true := ev.xf 15
theorem kit_Offset_Offset (ev : E K mg) : PySem.W.kitOne K (.ref (He.ga K "Offset")) (.ref (He.ga K "Offset")) = some true := of_decide_eq_true (ev.xf 16)
theorem no_Offset_rows (ev : E K mg) : NoAttr K (He.ga K "Offset") "rows" := He.noat_ok (ev.e.c.fact 23 rfl)
theorem fld_Offset_rows (ev : E K mg) {H : Hp} {Q : VK} {v : V} {a dx : Addr} {fs : List (Str × V)} (h : H a = some (.ins (He.ga K "Offset") dx fs)) (e : fs.lookup ("rows" : Str) = some v) (q : Q v H) : KFld K "rows" Q (.ref a) H := fld_l h (cls_Offset ev) (no_Offset_rows ev) e q
theorem put_Offset_rows (ev : E K mg) {H : Hp} {D : Ends} {σ : L2.St} {y : V} {a dx : Addr} {fs : List (Str × V)} (h : H a = some (.ins (He.ga K "Offset") dx fs)) (e : fs.length < 1000) (q : D.nx σ (upd H a (.ins (He.ga K "Offset") dx (putF "rows" y fs)))) : KSf2 K y "rows" D σ (.ref a) H := sf_l h (cls_Offset ev) (no_Offset_rows ev) e q
theorem no_Offset_groups (ev : E K mg) : NoAttr K (He.ga K "Offset") "groups" := He.noat_ok (ev.e.c.fact 24 rfl)
theorem fld_Offset_groups (ev : E K mg) {H : Hp} {Q : VK} {v : V} {a dx : Addr} {fs : List (Str × V)} (h : H a = some (.ins (He.ga K "Offset") dx fs)) (e : fs.lookup ("groups" : Str) = some v) (q : Q v H) : KFld K "groups" Q (.ref a) H := fld_l h (cls_Offset ev) (no_Offset_groups ev) e q
theorem put_Offset_groups (ev : E K mg) {H : Hp} {D : Ends} {σ : L2.St} {y : V} {a dx : Addr} {fs : List (Str × V)} (h : H a = some (.ins (He.ga K "Offset") dx fs)) (e : fs.length < 1000) (q : D.nx σ (upd H a (.ins (He.ga K "Offset") dx (putF "groups" y fs)))) : KSf2 K y "groups" D σ (.ref a) H := sf_l h (cls_Offset ev) (no_Offset_groups ev) e q
theorem no_Offset_distance (ev : E K mg) : NoAttr K (He.ga K "Offset") "distance" := He.noat_ok (ev.e.c.fact 25 rfl)
theorem fld_Offset_distance (ev : E K mg) {H : Hp} {Q : VK} {v : V} {a dx : Addr} {fs : List (Str × V)} (h : H a = some (.ins (He.ga K "Offset") dx fs)) (e : fs.lookup ("distance" : Str) = some v) (q : Q v H) : KFld K "distance" Q (.ref a) H := fld_l h (cls_Offset ev) (no_Offset_distance ev) e q
theorem put_Offset_distance (ev : E K mg) {H : Hp} {D : Ends} {σ : L2.St} {y : V} {a dx : Addr} {fs : List (Str × V)} (h : H a = some (.ins (He.ga K "Offset") dx fs)) (e : fs.length < 1000) (q : D.nx σ (upd H a (.ins (He.ga K "Offset") dx (putF "distance" y fs)))) : KSf2 K y "distance" D σ (.ref a) H := sf_l h (cls_Offset ev) (no_Offset_distance ev) e q
theorem no_Offset_zone (ev : E K mg) : NoAttr K (He.ga K "Offset") "zone" := He.noat_ok (ev.e.c.fact 26 rfl)
theorem fld_Offset_zone (ev : E K mg) {H : Hp} {Q : VK} {v : V} {a dx : Addr} {fs : List (Str × V)} (h : H a = some (.ins (He.ga K "Offset") dx fs)) (e : fs.lookup ("zone" : Str) = some v) (q : Q v H) : KFld K "zone" Q (.ref a) H := fld_l h (cls_Offset ev) (no_Offset_zone ev) e q
theorem put_Offset_zone (ev : E K mg) {H : Hp} {D : Ends} {σ : L2.St} {y : V} {a dx : Addr} {fs : List (Str × V)} (h : H a = some (.ins (He.ga K "Offset") dx fs)) (e : fs.length < 1000) (q : D.nx σ (upd H a (.ins (He.ga K "Offset") dx (putF "zone" y fs)))) : KSf2 K y "zone" D σ (.ref a) H := sf_l h (cls_Offset ev) (no_Offset_zone ev) e q
theorem ini_Offset_rows (ev : E K mg) {H : Hp} {D : Ends} {σ : L2.St} {y : V} {a dx : Addr} (h : H a = some (.ins (He.ga K "Offset") dx [])) (q : D.nx σ (upd H a (.ins (He.ga K "Offset") dx [(("rows" : Str), y)]))) : KSf2 K y "rows" D σ (.ref a) H := put_Offset_rows ev h (by show 0 < 1000; decide) (by rw [show putF "rows" y ([] : List (Str × V)) = [(("rows" : Str), y)] from by kernel_rfl]; exact q)
theorem ini_Offset_groups (ev : E K mg) {H : Hp} {D : Ends} {σ : L2.St} {y : V} {x0 : V} {a dx : Addr} (h : H a = some (.ins (He.ga K "Offset") dx [(("rows" : Str), x0)])) (q : D.nx σ (upd H a (.ins (He.ga K "Offset") dx [(("rows" : Str), x0), (("groups" : Str), y)]))) : KSf2 K y "groups" D σ (.ref a) H := put_Offset_groups ev h (by show 1 < 1000; decide) (by rw [show putF "groups" y ([(("rows" : Str), x0)] : List (Str × V)) = [(("rows" : Str), x0), (("groups" : Str), y)] from by kernel_rfl]; exact q)
theorem ini_Offset_distance (ev : E K mg) {H : Hp} {D : Ends} {σ : L2.St} {y : V} {x0 x1 : V} {a dx : Addr} (h : H a = some (.ins (He.ga K "Offset") dx [(("rows" : Str), x0), (("groups" : Str), x1)])) (q : D.nx σ (upd H a (.ins (He.ga K "Offset") dx [(("rows" : Str), x0), (("groups" : Str), x1), (("distance" : Str), y)]))) : KSf2 K y "distance" D σ (.ref a) H := put_Offset_distance ev h (by show 2 < 1000; decide) (by rw [show putF "distance" y ([(("rows" : Str), x0), (("groups" : Str), x1)] : List (Str × V)) = [(("rows" : Str), x0), (("groups" : Str), x1), (("distance" : Str), y)] from by kernel_rfl]; exact q)
theorem ini_Offset_zone (ev : E K mg) {H : Hp} {D : Ends} {σ : L2.St} {y : V} {x0 x1 x2 : V} {a dx : Addr} (h : H a = some (.ins (He.ga K "Offset") dx [(("rows" : Str), x0), (("groups" : Str), x1), (("distance" : Str), x2)])) (q : D.nx σ (upd H a (.ins (He.ga K "Offset") dx [(("rows" : Str), x0), (("groups" : Str), x1), (("distance" : Str), x2), (("zone" : Str), y)]))) : KSf2 K y "zone" D σ (.ref a) H := put_Offset_zone ev h (by show 3 < 1000; decide) (by rw [show putF "zone" y ([(("rows" : Str), x0), (("groups" : Str), x1), (("distance" : Str), x2)] : List (Str × V)) = [(("rows" : Str), x0), (("groups" : Str), x1), (("distance" : Str), x2), (("zone" : Str), y)] from by kernel_rfl]; exact q)
theorem mkr_Offset (ev : E K mg) : Mk K (He.ga K "Offset") (He.ma K (He.ga K "Offset") "__init__") := He.mkr_ok (ev.e.c.fact 27 rfl)
theorem meth_Offset_fewest_rows (ev : E K mg) : Meth K (He.ga K "Offset") "fewest_rows" (He.ma K (He.ga K "Offset") "fewest_rows") := He.meth_ok (ev.e.c.fact 28 rfl)
theorem meth_Offset___neg__ (ev : E K mg) : Meth K (He.ga K "Offset") "__neg__" (He.ma K (He.ga K "Offset") "__neg__") := He.meth_ok (ev.e.c.fact 29 rfl)
theorem meth_Offset___add__ (ev : E K mg) : Meth K (He.ga K "Offset") "__add__" (He.ma K (He.ga K "Offset") "__add__") := He.meth_ok (ev.e.c.fact 30 rfl)
theorem meth_Offset___eq__ (ev : E K mg) : Meth K (He.ga K "Offset") "__eq__" (He.ma K (He.ga K "Offset") "__eq__") := He.meth_ok (ev.e.c.fact 31 rfl)
theorem gloE_WindowError (ev : E K mg) : mg "WindowError" = some (.ref (He.ga K "WindowError")) := ev.glo 32
theorem gloE_BadOffset (ev : E K mg) : mg "BadOffset" = some (.ref (He.ga K "BadOffset")) := ev.glo 33
theorem ini_BadOffset (ev : E K mg) : PySem.W.findIn K (.ref (He.ga K "BadOffset")) "__init__" = some (some (.ref (He.ma K (He.ga K "BadOffset") "__init__"))) := He.eqO_ok (ev.xf 17)
theorem iniT_BadOffset (ev : E K mg) : PySem.W.typeIn K (.ref (He.ma K (He.ga K "BadOffset") "__init__")) = some (.type "function") := of_decide_eq_true (ev.xf 18)
theorem oex_BadOffset (ev : E K mg) : OexC K (He.ga K "BadOffset") := oex_of (ev.xf 19)
theorem xf_BadOffset (ev : E K mg) : XfC K (He.ga K "BadOffset") := xfB_ok (ev.xf 20)
theorem excC_BadOffset (ev : E K mg) : ExcC K (He.ga K "BadOffset") := excC_of (ev.xf 21)
theorem exm_BadOffset (ev : E K mg) : PySem.W.exmOne K (.ref (He.ga K "BadOffset")) (.ref (He.ga K "BadOffset")) = some true := of_decide_eq_true (ev.xf 22)
theorem noA_BadOffset_rows (ev : E K mg) : PySem.W.findIn K (.ref (He.ga K "BadOffset")) "rows" = some none := He.eqO_ok (ev.xf 23)
theorem noA_BadOffset_groups (ev : E K mg) : PySem.W.findIn K (.ref (He.ga K "BadOffset")) "groups" = some none := He.eqO_ok (ev.xf 24)
theorem noA_BadOffset_distance (ev : E K mg) : PySem.W.findIn K (.ref (He.ga K "BadOffset")) "distance" = some none := He.eqO_ok (ev.xf 25)
theorem kitE_BadOffset_WindowError (ev : E K mg) : PySem.W.kitOne K (.ref (He.ga K "BadOffset")) (.ref (He.ga K "WindowError")) = some true := of_decide_eq_true (ev.xf 26)
theorem kitE_BadOffset_BadOffset (ev : E K mg) : PySem.W.kitOne K (.ref (He.ga K "BadOffset")) (.ref (He.ga K "BadOffset")) = some true := of_decide_eq_true (ev.xf 27)
end

def zin (r : Int) : V := if r = 0 then .str "self" else if 0 < r then .str "after" else .str "before"
def sp_zin : Sp := fun vs H Q _ => ∃ r, vs = [.int r] ∧ Q (zin r) H
def zone (r g k : Int) : V := if g = 0 ∧ k = 0 then zin r else if 1 ≤ g ∧ g ≤ r ∧ g ≤ k then .str "future" else if g ≤ -1 ∧ r ≤ g ∧ k ≤ g then .str "past" else .non
def okZ (r g k : Int) : Prop := (g = 0 ∧ k = 0) ∨ (1 ≤ g ∧ g ≤ r ∧ g ≤ k) ∨ (g ≤ -1 ∧ r ≤ g ∧ k ≤ g)
instance (r g k : Int) : Decidable (okZ r g k) := by unfold okZ; infer_instance
theorem zone_non {r g k : Int} : zone r g k = .non ↔ ¬ okZ r g k := by
  unfold zone okZ zin
  (repeat' split) <;> simp <;> omega
def sp_zone : Sp := fun vs H Q _ => ∃ r g k, vs = [.int r, .int g, .int k] ∧ Q (zone r g k) H
def offF (r g k : Int) : List (Str × V) := [("rows", .int r), ("groups", .int g), ("distance", .int k), ("zone", zone r g k)]
def IsOff (K : PySem.W.Frag) (H : Hp) (a : Addr) (r g k : Int) : Prop := ∃ dx, H a = some (.ins (He.ga K "Offset") dx (offF r g k))
theorem IsOff.fr {K : PySem.W.Frag} {S : List Addr} {H H' : Hp} {a : Addr} {r g k : Int} (h : IsOff K H a r g k) (f : My.Fr S H H') (n : a ∉ S) : IsOff K H' a r g k := by
  obtain ⟨dx, e⟩ := h
  exact ⟨dx, f.1 _ _ n e⟩
def sp_offI (K : PySem.W.Frag) : Sp := fun vs H Q _ => ∃ x dx r g k, vs = [.ref x, .int r, .int g, .int k] ∧ H x = some (.ins (He.ga K "Offset") dx []) ∧ okZ r g k ∧ Q .non (upd H x (.ins (He.ga K "Offset") dx (offF r g k)))
def boF (r g k : Int) : List (Str × V) := errF ["rows", "groups", "distance"] [.int r, .int g, .int k]
def sp_offX (K : PySem.W.Frag) : Sp := fun vs H Q E => ∃ x dx r g k, vs = [.ref x, .int r, .int g, .int k] ∧ H x = some (.ins (He.ga K "Offset") dx []) ∧ (okZ r g k → Q .non (upd H x (.ins (He.ga K "Offset") dx (offF r g k)))) ∧ (¬ okZ r g k → ∀ d, H d = none → E (.ref (He.ga K "BadOffset")) (some d) (upd H d (.xd (boF r g k))))
def sp_few (K : PySem.W.Frag) : Sp := fun vs H Q _ => ∃ a r g k, vs = [.ref a] ∧ IsOff K H a r g k ∧ Q (.int ((r.natAbs : Int) + 1)) H
def sp_eqO (K : PySem.W.Frag) : Sp := fun vs H Q _ => ∃ a r g k y, vs = [.ref a, y] ∧ IsOff K H a r g k ∧ ((∃ b r' g' k', y = .ref b ∧ IsOff K H b r' g' k' ∧ Q (.bl (decide (r = r' ∧ g = g' ∧ k = k'))) H) ∨ ∃ t, TyX K H y t ∧ PySem.W.kitOne K t (.ref (He.ga K "Offset")) = some false ∧ Q (.bl false) H)
theorem okZ_neg {r g k : Int} (h : okZ r g k) : okZ (-r) (-g) (-k) := by
  unfold okZ at *
  omega
def sp_neg (K : PySem.W.Frag) : Sp := fun vs H Q _ => ∃ a r g k, vs = [.ref a] ∧ IsOff K H a r g k ∧ okZ r g k ∧ ∀ p H', H p = none → IsOff K H' p (-r) (-g) (-k) → My.Fr [] H H' → Q (.ref p) H'
def sp_add (K : PySem.W.Frag) : Sp := fun vs H Q _ => ∃ a r g k b r' g' k', vs = [.ref a, .ref b] ∧ IsOff K H a r g k ∧ IsOff K H b r' g' k' ∧ okZ (r + r') (g + g') (k + k') ∧ ∀ p H', H p = none → IsOff K H' p (r + r') (g + g') (k + k') → My.Fr [] H H' → Q (.ref p) H'
def sp_addX (K : PySem.W.Frag) : Sp := fun vs H Q E => ∃ a r g k b r' g' k', vs = [.ref a, .ref b] ∧ IsOff K H a r g k ∧ IsOff K H b r' g' k' ∧ (okZ (r + r') (g + g') (k + k') → ∀ p H', H p = none → IsOff K H' p (r + r') (g + g') (k + k') → My.Fr [] H H' → Q (.ref p) H') ∧ (¬ okZ (r + r') (g + g') (k + k') → ∀ d H', H' d = some (.xd (boF (r + r') (g + g') (k + k'))) → My.Fr [] H H' → E (.ref (He.ga K "BadOffset")) (some d) H')
def Bd (x : Int) : Prop := -10000000000000 < x ∧ x < 10000000000000
def spGood : Sp := fun vs H Q _ => ∃ (a ac ar : Addr), vs = [.ref a] ∧ Dr H a ac ar ∧ ∀ (p : Addr) (d g k : Int) (H' : Hp), H' p = some (.tup [.int d, .int g, .int k]) → okZ d g k → (-4000000000000 < d ∧ d < 4000000000000) → (-4000000000000 < g ∧ g < 4000000000000) → (-4000000000000 < k ∧ k < 4000000000000) → Dr H' a ac ar → My.Fr [a, ar] H H' → Q (.ref p) H'
def spIsG : Sp := fun vs H Q _ => ∃ t d g k, vs = [.ref t] ∧ H t = some (.tup [.int d, .int g, .int k]) ∧ Q (.bl (decide (okZ d g k))) H
def z3 (d g : Int) : Str := if d = 0 then "self" else if g = 0 then (if 0 < d then "after" else "before") else if 0 < g then "future" else "past"
theorem zone_z3 {d g k : Int} (h : okZ d g k) : zone d g k = .str (z3 d g) := by
  unfold okZ at h
  unfold zone zin z3
  (repeat' split) <;> first | rfl | (exfalso; omega)
def spZn : Sp := fun vs H Q _ => ∃ t d g k, vs = [.ref t] ∧ H t = some (.tup [.int d, .int g, .int k]) ∧ ∀ H', My.Fr [] H H' → Q (.str (z3 d g)) H'
def spZnL : Sp := fun vs H Q _ => ∃ t d g k, vs = [.ref t] ∧ H t = some (.lst [.int d, .int g, .int k]) ∧ ∀ H', My.Fr [] H H' → Q (.str (z3 d g)) H'
def tx (d g k : Int) : PyData := .tuple [.int d, .int g, .int k, .str (z3 d g), .int ((d.natAbs : Int) + 1)]
def bt (d g k : Int) : PyData := .tuple [.int d, .int g, .int k]
def Bi (x : Int) : Prop := -100000000000000 < x ∧ x < 100000000000000
theorem log_bi {i : Int} (h : Bi i) : i.natAbs.log2 < 1920 := by
  unfold Bi at h
  by_cases e : i.natAbs = 0
  · rw [e]; decide
  · exact (Nat.log2_lt e).mpr (Nat.lt_of_lt_of_le (show i.natAbs < 100000000000000 by omega) (by decide +kernel))
theorem log_ab {i : Int} (h : Bi i) : ((i.natAbs : Int) + 1).natAbs.log2 < 1920 := by
  unfold Bi at h
  exact (Nat.log2_lt (by omega)).mpr (Nat.lt_of_lt_of_le (show ((i.natAbs : Int) + 1).natAbs < 200000000000000 by omega) (by decide +kernel))
theorem we_i {i : Int} (h : i.natAbs.log2 < 1920) : (PyData.int i).weight ≤ 1920 := by
  show (if (i == 0) = true then 0 else i.natAbs.log2 + 1) ≤ 1920
  split <;> omega
theorem z3_facts (d g : Int) : PyData.strOk (z3 d g) = true ∧ (PyData.str (z3 d g)).leavesShort 1921 = true ∧ (PyData.str (z3 d g)).weight ≤ 10 ∧ PyData.strOk (reprText (z3 d g)) = true := by
  unfold z3
  (repeat' split) <;> exact ⟨by decide +kernel, by decide +kernel, by decide +kernel, by decide +kernel⟩
structure Rp (d : PyData) : Prop where
  sh : d.showable = true
  hd : d.hasDict = false
  dp : d.depth ≤ 60
  ln : d.shown.length ≤ sizeLine
  ok : PyData.strOk d.shown = true
theorem sl_i {i : Int} (h : i.natAbs.log2 < 1920) : decide ((PyData.int i).shown.length ≤ 1921) = true := decide_eq_true (PyProof.Rows.int_text_len_1921 h)
theorem rp_bt {d g k : Int} (h1 : Bi d) (h2 : Bi g) (h3 : Bi k) : Rp (bt d g k) := by
  have a1 := log_bi h1
  have a2 := log_bi h2
  have a3 := log_bi h3
  refine ⟨?_, rfl, by simp [bt, PyData.depth, PyData.depthAll], ?_, ok_tuple _ fun t ht => ?_⟩
  · show (decide _ && (decide _ && (decide _ && true))) = true
    rw [decide_eq_true a1, decide_eq_true a2, decide_eq_true a3]; rfl
  · have h := PyData.shown_le 1921 (by decide) (bt d g k) (by
      show (decide _ && (decide _ && (decide _ && true))) = true
      rw [sl_i a1, sl_i a2, sl_i a3]; rfl)
    have e : (bt d g k).weight = (PyData.int d).weight + 1 + ((PyData.int g).weight + 1 + ((PyData.int k).weight + 1 + 0)) := rfl
    have b1 := we_i a1
    have b2 := we_i a2
    have b3 := we_i a3
    rw [e] at h
    rw [sizeLine_eq]
    omega
  · have ht' : t = toString d ∨ t = toString g ∨ t = toString k := by simpa [bt, PyData.shownAll, PyData.shown] using ht
    rcases ht' with rfl | rfl | rfl <;> exact ok_of _
theorem rp_tx {d g k : Int} (h1 : Bi d) (h2 : Bi g) (h3 : Bi k) : Rp (tx d g k) := by
  have a1 := log_bi h1
  have a2 := log_bi h2
  have a3 := log_bi h3
  have a4 := log_ab h1
  obtain ⟨z1, z2, z4, z5⟩ := z3_facts d g
  refine ⟨?_, rfl, by simp [tx, PyData.depth, PyData.depthAll], ?_, ok_tuple _ fun t ht => ?_⟩
  · show (decide _ && (decide _ && (decide _ && (true && (decide _ && true))))) = true
    rw [decide_eq_true a1, decide_eq_true a2, decide_eq_true a3, decide_eq_true a4]; rfl
  · have h := PyData.shown_le 1921 (by decide) (tx d g k) (by
      show (decide _ && (decide _ && (decide _ && ((PyData.str (z3 d g)).leavesShort 1921 && (decide _ && true))))) = true
      rw [sl_i a1, sl_i a2, sl_i a3, sl_i a4, z2]; rfl)
    have e : (tx d g k).weight = (PyData.int d).weight + 1 + ((PyData.int g).weight + 1 + ((PyData.int k).weight + 1 + ((PyData.str (z3 d g)).weight + 1 + ((PyData.int ((d.natAbs : Int) + 1)).weight + 1 + 0)))) := rfl
    have b1 := we_i a1
    have b2 := we_i a2
    have b3 := we_i a3
    have b4 := we_i a4
    rw [e] at h
    rw [sizeLine_eq]
    omega
  · have ht' : t = toString d ∨ t = toString g ∨ t = toString k ∨ t = reprText (z3 d g) ∨ t = toString ((d.natAbs : Int) + 1) := by simpa [tx, PyData.shownAll, PyData.shown] using ht
    rcases ht' with rfl | rfl | rfl | rfl | rfl
    · exact ok_of _
    · exact ok_of _
    · exact ok_of _
    · exact z5
    · exact ok_of _
def spDue (K : PySem.W.Frag) : Sp := fun vs H Q _ => ∃ t d g k, vs = [.ref t] ∧ H t = some (.tup [.int d, .int g, .int k]) ∧ Bi d ∧ Bi g ∧ Bi k ∧ ∀ H', My.Fr [] H H' → Q (.str (tx d g k).shown) H'
def spDueL (K : PySem.W.Frag) : Sp := fun vs H Q _ => ∃ t d g k, vs = [.ref t] ∧ H t = some (.lst [.int d, .int g, .int k]) ∧ Bi d ∧ Bi g ∧ Bi k ∧ ∀ H', My.Fr [] H H' → Q (.str (tx d g k).shown) H'
def spTold (K : PySem.W.Frag) : Sp := fun vs H Q _ => ∃ o d g k, vs = [.ref o] ∧ IsOff K H o d g k ∧ okZ d g k ∧ Bi d ∧ Bi g ∧ Bi k ∧ ∀ H', My.Fr [] H H' → Q (.str (tx d g k).shown) H'
def spSum (K : PySem.W.Frag) : Sp := fun vs H Q _ => ∃ a r g k b r' g' k', vs = [.ref a, .ref b] ∧ IsOff K H a r g k ∧ IsOff K H b r' g' k' ∧ Bi (r + r') ∧ Bi (g + g') ∧ Bi (k + k') ∧
  (okZ (r + r') (g + g') (k + k') → ∀ p H', H' p = some (.tup [.str "sum", .bl true, .str (tx (r + r') (g + g') (k + k')).shown]) → My.Fr [] H H' → Q (.ref p) H') ∧ (¬ okZ (r + r') (g + g') (k + k') → ∀ p H', H' p = some (.tup [.str "bad", .str (bt (r + r') (g + g') (k + k')).shown]) → My.Fr [] H H' → Q (.ref p) H')
def Bk (x : Int) : Prop := -5000000000000 < x ∧ x < 5000000000000
structure Two (K : PySem.W.Frag) (H : Hp) (f s o t : Addr) (d g k d' g' k' : Int) : Prop where
  f : IsOff K H f d g k
  s : IsOff K H s d' g' k'
  o : H o = some (.tup [.int d, .int g, .int k])
  t : H t = some (.tup [.int d', .int g', .int k'])
theorem Two.fr {K : PySem.W.Frag} {H H' : Hp} {f s o t : Addr} {d g k d' g' k' : Int} (h : Two K H f s o t d g k d' g' k') (F : My.Fr [] H H') : Two K H' f s o t d g k d' g' k' := ⟨h.f.fr F (by simp), h.s.fr F (by simp), F.1 _ _ (by simp) h.o, F.1 _ _ (by simp) h.t⟩
structure Nums (d g k d' g' k' : Int) : Prop where
  ok1 : okZ d g k
  ok2 : okZ d' g' k'
  b : Bk d ∧ Bk g ∧ Bk k ∧ Bk d' ∧ Bk g' ∧ Bk k'
theorem kept3 {R : V → Option V → Hp → Prop} {H : Hp} {x y z : V} {f : V → V} (h : ∀ v o, R v o H → o = some (f v)) {ys : List V} (k : My.Kept R H [x, y, z] ys) : ys = [f x, f y, f z] := by
  cases k with
  | no r _ => cases h _ _ r
  | yes r1 k1 =>
    cases k1 with
    | no r _ => cases h _ _ r
    | yes r2 k2 =>
      cases k2 with
      | no r _ => cases h _ _ r
      | yes r3 k3 =>
        cases k3
        rw [Option.some.inj (h _ _ r1), Option.some.inj (h _ _ r2), Option.some.inj (h _ _ r3)]
def add3 (d g k d' g' k' : Int) : V → V
  | .int i => .int ([d, g, k].getD i.toNat 0 + [d', g', k'].getD i.toNat 0)
  | v => v
def ITold (f s o t : Addr) (d g k : Int) (H0 : Hp) (σ : L2.St) (H : Hp) : Prop := ∃ du tt v1 v2, σ = [some (.ref f), some (.ref s), some (.ref o), some (.ref t), some (.ref du), some (.ref tt), v1, v2] ∧ My.Fr [] H0 H ∧ (okZ d g k → H tt = some (.tup [.str "sum", .bl true, .str (tx d g k).shown])) ∧ (¬ okZ d g k → H tt = some (.tup [.str "bad", .str (bt d g k).shown]))
def IAfter (f s o t : Addr) (H0 : Hp) (σ : L2.St) (H : Hp) : Prop := ∃ v1 v2 v3 v4, σ = [some (.ref f), some (.ref s), some (.ref o), some (.ref t), v1, v2, v3, v4] ∧ My.Fr [] H0 H
def spRight (K : PySem.W.Frag) : Sp := fun vs H Q _ => ∃ f s o t d g k d' g' k', vs = [.ref f, .ref s, .ref o, .ref t] ∧ Two K H f s o t d g k d' g' k' ∧ Nums d g k d' g' k' ∧ ∀ H', My.Fr [] H H' → Q (.bl true) H'
def spOth : Sp := fun vs H Q _ => ∃ (a ac ar t : Addr) (d g k : Int), vs = [.ref a, .ref t] ∧ Dr H a ac ar ∧ H t = some (.tup [.int d, .int g, .int k]) ∧ okZ d g k ∧ (-4000000000000 < d ∧ d < 4000000000000) ∧ (-4000000000000 < g ∧ g < 4000000000000) ∧ (-4000000000000 < k ∧ k < 4000000000000) ∧ ∀ (p : Addr) (d' g' k' : Int) (H' : Hp), H' p = some (.tup [.int d', .int g', .int k']) → okZ d' g' k' → Bk d' → Bk g' → Bk k' → Dr H' a ac ar → My.Fr [a, ar] H H' → Q (.ref p) H'
theorem offA {H : Hp} {a ac ar t : Addr} {xs : List V} (D : Dr H a ac ar) (ht : H t = some (.tup xs)) : t ∉ [a, ar] := fun z => by
  obtain ⟨⟨_, _, _, e1, e2, e3, _⟩, _⟩ := D
  rcases List.mem_cons.mp z with rfl | z
  · rw [e1] at ht; cases ht
  · rw [List.mem_singleton.mp z, e3] at ht; cases ht
def sp_law (K : PySem.W.Frag) : Sp := fun vs H Q _ => ∃ (a : Addr) (ns : List Int), vs = [.ref a] ∧ SqL K H a (ns.map V.int) ∧ ns.length ≤ 63 ∧ ∀ H', Q (.bl true) H'
def ILaw (a p ac ar : Addr) (_ : Nat) (σ : L2.St) (H : Hp) : Prop := ∃ v1 v2 v3 v4 v5, σ = [some (.ref a), some (.ref p), v1, v2, v3, v4, v5] ∧ Dr H p ac ar
local macro_rules | `(tactic| walk_at "wp") => `(tactic| try simp only [mw_seq, mw_next, mw_brk, mw_cont, mw_ret, mw_retN, mw_asg, mw_asgN, mw_asgS, mw_sub1, mw_sub2, mw_at, mw_drop, mw_dropK, mw_aug, mw_augK, mw_aug2, mw_if, mw_ifK, mw_test, mw_B, mw_KB, mw_and, mw_andK, mw_or, mw_orK, mw_not, mw_notK, mw_yes, mw_cxK, mw_c, mw_var0, mw_varS, mw_op, mw_op1, mw_op2, mw_un, mw_unK, mw_rI0, mw_rI, mw_rU, mw_eqII, mw_neII, mw_eqBB, mw_neBB, mw_eqSS, mw_neSS, mw_cons, mw_arg1, mw_arg2, mw_nil, mw_call, mw_callK, mw_callK0, mw_callK0K, mw_CB, mw_CBK, mw_tup, mw_lst, mw_ife, mw_ifeK, mw_andV, mw_andVK, mw_orV, mw_orVK, mw_notV, mw_notVK, mw_fld, mw_BM, mw_BMK, mw_BM2, mw_sl, mw_sl1, mw_sl2, mw_sl3, mw_part, mw_partK, mw_noPart, mw_make, mw_meth, mw_sfld, mw_sf1, mw_intI, mw_intB, mw_abs, mw_max, mw_min, mw_isBB, mw_isIB, mw_isII, mw_isBI, mw_isNo, mw_notNo, mw_aug2X, mw_setK, mw_addS, mw_ost, mw_ost1, mw_raise, mw_makeS, mw_makeSK, mw_tryA, mw_xf, mw_eqOO, mw_isT, mw_notT, oV_none, oV_some, mw_par2, mw_par3, mw_par2K, mw_par3K, mw_tupG, mw_gcons, mw_gnil, mw_ktg, mw_gname, mw_forL, mw_forT, mw_forR1, mw_forR2, mw_lcL, mw_lcT, mw_lcR1, ite_and_m, ite_or_m, L2.start, L2.wipe, List.map_cons, List.map_nil, List.length_cons, List.length_nil, List.replicate, List.cons_append, List.nil_append, List.append_nil, List.set_cons_zero, List.set_cons_succ, L2.V.int.injEq, L2.V.bl.injEq, L2.V.str.injEq, L2.V.ref.injEq, L2.V.ty.injEq, List.cons.injEq, reduceCtorEq, exists_eq_left, exists_eq_left', exists_and_left, exists_and_right, exists_eq, and_assoc, and_true, true_and, and_self, decide_eq_true_eq, decide_true, decide_false, Bool.not_eq_true, Bool.not_true, Bool.not_false, if_true, if_false, ite_true, ite_false, Bool.false_eq_true, Bool.not_eq_eq_eq_not, decide_eq_false_iff_not, Nat.reduceSub, Nat.reduceAdd, false_or, or_false, exists_const, false_and, and_false, exists_false, sp_zin, sp_zone])
local macro_rules | `(tactic| walk_at "num") => `(tactic| first | decide | exact ⟨by decide, by decide, by decide⟩ | exact .inl ⟨by omega, by omega⟩ | exact .inr ⟨by omega, by omega⟩ | exact .inl ⟨by decide, by decide⟩ | exact .inr ⟨by decide, by decide⟩ | omega)
local macro_rules | `(tactic| walk_at "hp") => `(tactic| first | assumption | exact upd_same | (refine (upd_ne ?_).trans ?_; (walk_at "ne"); (walk_at "hp")))
local macro_rules | `(tactic| walk_at "ne") => `(tactic| first | assumption | exact Ne.symm (by assumption) | exact ne_of_none (by walk_at "hp") (by assumption) | exact Ne.symm (ne_of_none (by walk_at "hp") (by assumption)))
local macro_rules | `(tactic| walk_at "fin") => `(tactic| first | assumption | (refine q_bl (by assumption) ?_; first | rfl | exact decide_eq_true (by omega) | exact decide_eq_false (by omega) | exact (decide_eq_true (by omega)).symm | exact (decide_eq_false (by omega)).symm | exact decide_eq_decide.mpr (by omega) | (simp; omega)))
section
variable {P : Program} {w : World} {K : PySem.W.Frag} {mg : Str → Option Value} {base : Heap}
theorem ok_BadOffset___init__ (ev : E K mg) : My.ErrInit P w K mg base CX0 1 d_BadOffset___init__ "BadOffset" ["self", "rows", "groups", "distance"] (spErr K "BadOffset" ["rows", "groups", "distance"]) := by
  obtain ⟨fd, F⟩ := ev.e.c.def_ 0 (d := d_BadOffset___init__) rfl
  refine ⟨⟨_, fd, ?_, ini_BadOffset ev, iniT_BadOffset ev, F.bindsN fun _ _ _ _ _ _ us hl => match us, hl with | [_, _, _, _], _ => rfl⟩, gloE_BadOffset ev, oex_BadOffset ev⟩
  refine F.ok sc_BadOffset___init__ (fun vs H Q Ex h => ?_) (fun cdv A outer s H vs Q Ex hr h => ⟨_, PSs.nox
    (pss_cons (ps_ost (pv 0) (pv 1))
  (pss_cons (ps_ost (pv 0) (pv 2))
  (pss_one (ps_ost (pv 0) (pv 3))))), ?_⟩)
  · first | (obtain ⟨_, xs, rfl, h2, _⟩ := h; simpa using h2)
  · obtain ⟨a, xs, rfl, hl, ha, q⟩ := h
    obtain ⟨x, y, z, rfl⟩ : ∃ x y z, xs = [x, y, z] := by
      match xs, hl with
      | [x, y, z], _ => exact ⟨x, y, z, rfl⟩
    walk_at "wp"
    refine ost_n (oex_BadOffset ev) (noA_BadOffset_rows ev) ha fun dx h1 h2 => ?_
    walk_at "wp"
    refine ost_o (oex_BadOffset ev) (noA_BadOffset_groups ev) h2 (by show 1 ≤ 900; decide) ?_
    walk_at "wp"
    refine ost_o (oex_BadOffset ev) (noA_BadOffset_distance ev) h2 (by show 2 ≤ 900; decide) ?_
    walk_at "wp"
    exact q dx h1 h2
theorem ok__zone_in_group (ev : E K mg) : My.Callee P w K mg base CX0 1 d__zone_in_group ["rows"] sp_zin := by
  obtain ⟨fd, F⟩ := ev.e.c.def_ 2 (d := d__zone_in_group) rfl
  refine ⟨_, fd, ?_, ev.glo 1, F.kp, F.bindsN fun _ _ _ _ _ _ us hl => match us, hl with | [_], _ => rfl, F⟩
  refine F.ok sc__zone_in_group (fun vs H Q Ex h => ?_) (fun cdv A outer s H vs Q Ex hr h => ⟨_, PSs.nox
    (pss_cons (ps_if (pt_cmpR op_eq (pv 0) pe_int (nomark _)) (pss_one (ps_ret pe_str))
  pss_nil)
  (pss_one (ps_ret (pe_ifExp (pt_cmpR op_gt (pv 0) pe_int (nomark _)) pe_str pe_str)))), ?_⟩)
  · first | (obtain ⟨rfl, _⟩ := h; rfl) | (obtain ⟨_, rfl, _⟩ := h; rfl) | (obtain ⟨_, _, rfl, _⟩ := h; rfl) | (obtain ⟨_, _, _, rfl, _⟩ := h; rfl) | (obtain ⟨_, _, _, _, rfl, _⟩ := h; rfl) | (obtain ⟨_, _, _, _, _, rfl, _⟩ := h; rfl) | (obtain ⟨_, _, _, _, _, _, rfl, _⟩ := h; rfl) | (obtain ⟨_, _, _, _, _, _, _, rfl, _⟩ := h; rfl) | (obtain ⟨_, _, _, _, _, _, _, _, rfl, _⟩ := h; rfl) | (obtain ⟨_, _, _, _, _, _, _, _, _, rfl, _⟩ := h; rfl) | (obtain ⟨_, _, _, _, _, _, _, _, _, _, rfl, _⟩ := h; rfl) | (obtain ⟨_, _, _, _, _, _, _, _, _, _, _, rfl, _⟩ := h; rfl) | (obtain ⟨_, _, _, _, _, _, _, _, _, _, _, _, rfl, _⟩ := h; rfl) | (obtain ⟨_, _, _, _, _, _, _, _, _, _, _, _, _, rfl, _⟩ := h; rfl) | (obtain ⟨_, _, _, _, _, _, _, _, _, _, _, _, _, _, rfl, _⟩ := h; rfl) | (obtain ⟨_, _, _, _, _, _, _, _, _, _, _, _, _, _, _, rfl, _⟩ := h; rfl)
  · obtain ⟨r, rfl, q⟩ := h
    unfold zin at q
    walk_at "wp"
    (repeat' split) <;> simp_all
theorem ok_Offset_fewest_rows (ev : E K mg) : My.MethOf P w K mg base CX0 1 "Offset" "fewest_rows" ["self"] (sp_few K) := by
  obtain ⟨fd, F⟩ := ev.e.c.def_ 4 (d := d_Offset_fewest_rows) rfl
  refine ⟨⟨_, fd, ?_, meth_Offset_fewest_rows ev, F.bindsN fun _ _ _ _ _ _ us hl => match us, hl with | [_], _ => rfl⟩, cls_Offset ev⟩
  refine F.ok sc_Offset_fewest_rows (fun vs H Q Ex h => ?_) (fun cdv A outer s H vs Q Ex hr h => ⟨_, PSs.nox
    (pss_one (ps_ret (pe_op op_add (pe_callB call_absR rfl (free_abs ev) (by decide +kernel) (pa_cons (pe_fld (pv 0) rfl) pa_nil)) pe_int))), ?_⟩)
  · first | (obtain ⟨rfl, _⟩ := h; rfl) | (obtain ⟨_, rfl, _⟩ := h; rfl) | (obtain ⟨_, _, rfl, _⟩ := h; rfl) | (obtain ⟨_, _, _, rfl, _⟩ := h; rfl) | (obtain ⟨_, _, _, _, rfl, _⟩ := h; rfl) | (obtain ⟨_, _, _, _, _, rfl, _⟩ := h; rfl) | (obtain ⟨_, _, _, _, _, _, rfl, _⟩ := h; rfl) | (obtain ⟨_, _, _, _, _, _, _, rfl, _⟩ := h; rfl) | (obtain ⟨_, _, _, _, _, _, _, _, rfl, _⟩ := h; rfl) | (obtain ⟨_, _, _, _, _, _, _, _, _, rfl, _⟩ := h; rfl) | (obtain ⟨_, _, _, _, _, _, _, _, _, _, rfl, _⟩ := h; rfl) | (obtain ⟨_, _, _, _, _, _, _, _, _, _, _, rfl, _⟩ := h; rfl) | (obtain ⟨_, _, _, _, _, _, _, _, _, _, _, _, rfl, _⟩ := h; rfl) | (obtain ⟨_, _, _, _, _, _, _, _, _, _, _, _, _, rfl, _⟩ := h; rfl) | (obtain ⟨_, _, _, _, _, _, _, _, _, _, _, _, _, _, rfl, _⟩ := h; rfl) | (obtain ⟨_, _, _, _, _, _, _, _, _, _, _, _, _, _, _, rfl, _⟩ := h; rfl)
  · obtain ⟨a, r, g, k, rfl, ⟨dx, ha⟩, q⟩ := h
    walk_at "wp"
    refine fld_Offset_rows ev ha rfl ?_
    walk_at "wp"
    exact q
theorem ok_Offset___eq__ (ev : E K mg) : My.MethOf P w K mg base CX0 1 "Offset" "__eq__" ["self", "other"] (sp_eqO K) := by
  obtain ⟨fd, F⟩ := ev.e.c.def_ 7 (d := d_Offset___eq__) rfl
  refine ⟨⟨_, fd, ?_, meth_Offset___eq__ ev, F.bindsN fun _ _ _ _ _ _ us hl => match us, hl with | [_, _], _ => rfl⟩, cls_Offset ev⟩
  refine F.ok sc_Offset___eq__ (fun vs H Q Ex h => ?_) (fun cdv A outer s H vs Q Ex hr h => ⟨_, PSs.nox
    (pss_one (ps_ret (pe_and (pe_callB call_isi rfl (free_isinstance ev) (by decide +kernel) (pa_cons (pv 1) (pa_cons (pe_glob (v := .ref (He.ga K "Offset")) rfl (glo_Offset ev) rfl) pa_nil))) (pe_and (pe_cmpR op_eq (pe_fld (pv 0) rfl) (pe_fld (pv 1) rfl) (nomark _)) (pe_and (pe_cmpR op_eq (pe_fld (pv 0) rfl) (pe_fld (pv 1) rfl) (nomark _)) (pe_one (pe_cmpR op_eq (pe_fld (pv 0) rfl) (pe_fld (pv 1) rfl) (nomark _)))))))), ?_⟩)
  · first | (obtain ⟨rfl, _⟩ := h; rfl) | (obtain ⟨_, rfl, _⟩ := h; rfl) | (obtain ⟨_, _, rfl, _⟩ := h; rfl) | (obtain ⟨_, _, _, rfl, _⟩ := h; rfl) | (obtain ⟨_, _, _, _, rfl, _⟩ := h; rfl) | (obtain ⟨_, _, _, _, _, rfl, _⟩ := h; rfl) | (obtain ⟨_, _, _, _, _, _, rfl, _⟩ := h; rfl) | (obtain ⟨_, _, _, _, _, _, _, rfl, _⟩ := h; rfl) | (obtain ⟨_, _, _, _, _, _, _, _, rfl, _⟩ := h; rfl) | (obtain ⟨_, _, _, _, _, _, _, _, _, rfl, _⟩ := h; rfl) | (obtain ⟨_, _, _, _, _, _, _, _, _, _, rfl, _⟩ := h; rfl) | (obtain ⟨_, _, _, _, _, _, _, _, _, _, _, rfl, _⟩ := h; rfl) | (obtain ⟨_, _, _, _, _, _, _, _, _, _, _, _, rfl, _⟩ := h; rfl) | (obtain ⟨_, _, _, _, _, _, _, _, _, _, _, _, _, rfl, _⟩ := h; rfl) | (obtain ⟨_, _, _, _, _, _, _, _, _, _, _, _, _, _, rfl, _⟩ := h; rfl) | (obtain ⟨_, _, _, _, _, _, _, _, _, _, _, _, _, _, _, rfl, _⟩ := h; rfl)
  · obtain ⟨a, r, g, k, y, rfl, ⟨dx, ha⟩, q⟩ := h
    walk_at "wp"
    rcases q with ⟨b, r', g', k', rfl, ⟨dy, hb⟩, q⟩ | ⟨t, ty, hk, q⟩
    · refine ⟨_, _, _, _, true, rfl, .own _, ty_Offset ev hb, kit_Offset_Offset ev, ?_⟩
      walk_at "wp"
      refine fld_Offset_rows ev ha rfl ?_
      walk_at "wp"
      refine fld_Offset_rows ev hb rfl ?_
      walk_at "wp"
      split
      · refine fld_Offset_groups ev ha rfl ?_
        walk_at "wp"
        refine fld_Offset_groups ev hb rfl ?_
        walk_at "wp"
        split
        · refine fld_Offset_distance ev ha rfl ?_
          walk_at "wp"
          refine fld_Offset_distance ev hb rfl ?_
          walk_at "wp"
          walk_at "fin"
        · walk_at "fin"
      · walk_at "fin"
    · refine ⟨_, _, _, _, false, rfl, .own _, ty, hk, ?_⟩
      walk_at "wp"
      exact q
theorem ok__law_begin (ev : E K mg) : My.Callee P w K mg base CX0 1 d__law_begin ["_law_script"] (spBegin K) := by
  obtain ⟨fd, F⟩ := ev.e.c.def_ 8 (d := d__law_begin) rfl
  refine ⟨_, fd, ?_, ev.glo 2, F.kp, F.bindsN fun _ _ _ _ _ _ us hl => match us, hl with | [_], _ => rfl, F⟩
  refine F.ok sc__law_begin (fun vs H Q Ex h => ?_) (fun cdv A outer s H vs Q Ex hr h => ⟨_, PSs.nox
    (pss_cons (ps_setLc (i := 1) (own := [("_law_cell", 3)]) (g := (gName 3)) (tt := tYes) rfl sc__law_begin.nd rfl rfl (sw_true rfl rfl rfl (by decide +kernel)) (pi_list (pe_slice sl_list (pv 0) po_none (po_some pe_int))) (blkOk_by (own := [("_law_cell", 3)]) (N := ["_law_script", "_law_cells", "_law_rests", "_law_cell"]) (sc := defScope s__law_begin) (by decide +kernel)) (fun _ _ _ _ _ => (pg_name (i := 3) sc__law_begin.nd rfl (Or.inl rfl))) (fun _ _ _ _ _ => pts_nil) (fun _ _ _ _ _ => (pe_callTy call_intR rfl (free_int ev) (by decide +kernel) (pa_cons (pv 3) pa_nil))))
  (pss_cons (ps_if (pt_cmpR op_eq (pe_callB call_lenR rfl (free_len ev) (by decide +kernel) (pa_cons (pv 1) pa_nil)) pe_int (nomark _)) (pss_one (ps_set (i := 1) sc__law_begin.nd rfl (Or.inl rfl) (pe_lst (pa_cons pe_int pa_nil))))
  pss_nil)
  (pss_cons (ps_setLc (i := 2) (own := [("_law_cell", 3)]) (g := (gName 3)) (tt := tYes) rfl sc__law_begin.nd rfl rfl (sw_true rfl rfl rfl (by decide +kernel)) (pi_list (pv 1)) (blkOk_by (own := [("_law_cell", 3)]) (N := ["_law_script", "_law_cells", "_law_rests", "_law_cell"]) (sc := defScope s__law_begin) (by decide +kernel)) (fun _ _ _ _ _ => (pg_name (i := 3) sc__law_begin.nd rfl (Or.inl rfl))) (fun _ _ _ _ _ => pts_nil) (fun _ _ _ _ _ => (pe_op op_mul (pe_callB call_absR rfl (free_abs ev) (by decide +kernel) (pa_cons (pv 3) pa_nil)) (pe_callTy call_intR rfl (free_int ev) (by decide +kernel) (pa_cons (pe_cmpR op_ge (pe_callB call_absR rfl (free_abs ev) (by decide +kernel) (pa_cons (pv 3) pa_nil)) (pe_op op_pow pe_int pe_int) (nomark _)) pa_nil)))))
  (pss_one (ps_ret (pe_lst (pa_cons (pv 1) (pa_cons (pv 2) (pa_cons pe_int pa_nil))))))))), ?_⟩)
  · first | (obtain ⟨rfl, _⟩ := h; rfl) | (obtain ⟨_, rfl, _⟩ := h; rfl) | (obtain ⟨_, _, rfl, _⟩ := h; rfl) | (obtain ⟨_, _, _, rfl, _⟩ := h; rfl) | (obtain ⟨_, _, _, _, rfl, _⟩ := h; rfl) | (obtain ⟨_, _, _, _, _, rfl, _⟩ := h; rfl) | (obtain ⟨_, _, _, _, _, _, rfl, _⟩ := h; rfl) | (obtain ⟨_, _, _, _, _, _, _, rfl, _⟩ := h; rfl) | (obtain ⟨_, _, _, _, _, _, _, _, rfl, _⟩ := h; rfl) | (obtain ⟨_, _, _, _, _, _, _, _, _, rfl, _⟩ := h; rfl) | (obtain ⟨_, _, _, _, _, _, _, _, _, _, rfl, _⟩ := h; rfl) | (obtain ⟨_, _, _, _, _, _, _, _, _, _, _, rfl, _⟩ := h; rfl) | (obtain ⟨_, _, _, _, _, _, _, _, _, _, _, _, rfl, _⟩ := h; rfl) | (obtain ⟨_, _, _, _, _, _, _, _, _, _, _, _, _, rfl, _⟩ := h; rfl) | (obtain ⟨_, _, _, _, _, _, _, _, _, _, _, _, _, _, rfl, _⟩ := h; rfl) | (obtain ⟨_, _, _, _, _, _, _, _, _, _, _, _, _, _, _, rfl, _⟩ := h; rfl)
  · obtain ⟨a, ns, rfl, hS, hlen, q⟩ := h
    walk_at "wp"
    refine sl_l hS fun p hp => ?_
    have ecut : cutV (ns.map V.int) none (some 63) = ns.map V.int := cut_first (n := 63) (by rw [List.length_map]; exact hlen)
    rw [ecut]
    walk_at "wp"
    refine lc_ints (fun n => n) (SqL.of upd_same) (by omega) (fun n => rfl) (fun n hn H' Q' k => ?_) fun C H1 hC eC f1 => ?_
    · walk_at "wp"
      exact k
    rw [List.map_id'] at eC
    have f1' : My.Fr [] H H1 := (Fr.new hp).trans f1
    have hC' : H C = none := (Fr.new (S := []) hp).2 _ hC
    walk_at "wp"
    refine len_l (SqL.of eC) ?_
    walk_at "wp"
    split
    · refine new_l (by show 1 ≤ sizeLine; decide) fun Dl hD => ?_
      have f2 : My.Fr [] H (upd H1 Dl (.lst [V.int 0])) := f1'.trans (Fr.new hD)
      have eD : (upd H1 Dl (.lst [V.int 0])) Dl = some (.lst (([0] : List Int).map V.int)) := upd_same
      have hD' : H Dl = none := f1'.2 _ hD
      walk_at "wp"
      refine lc_ints (fun n => (n.natAbs : Int) * (if (10 : Int) ^ 18 ≤ (n.natAbs : Int) then 1 else 0)) (SqL.of eD) (by decide) (fun n => rfl) (fun n hn H' Q' k => ?_) fun Ad H3 hA eA f3 => ?_
      · walk_at "wp"
        refine ⟨⟨by decide, by decide, by decide⟩, .inr ?_, ?_⟩
        · (repeat' split) <;> exact ⟨by decide, by decide⟩
        · have e : (if (decide ((10 : Int) ^ Int.toNat 18 ≤ (n.natAbs : Int))) = true then (1 : Int) else 0) = (if (10 : Int) ^ 18 ≤ (n.natAbs : Int) then 1 else 0) := by
            rw [show Int.toNat 18 = 18 from rfl]; simp only [decide_eq_true_eq]
          first | exact k | (rw [e]; exact k) | (simp only [decide_eq_true_eq] at *; exact k)
      have f13 : My.Fr [] H H3 := f2.trans f3
      have hA' : H Ad = none := f2.2 _ hA
      have nAD : Ad ≠ Dl := fun z => by rw [z, eD] at hA; cases hA
      walk_at "wp"
      refine new_l (by show 3 ≤ sizeLine; decide) fun z hz => ?_
      walk_at "wp"
      have nzA : z ≠ Ad := fun y => by rw [y, eA] at hz; cases hz
      have eD3 : H3 Dl = some _ := f3.1 _ _ (by simp) eD
      have nzD : z ≠ Dl := fun y => by rw [y, eD3] at hz; cases hz
      refine q z Dl Ad _ (f13.2 _ hz) hD' hA' ⟨⟨_, _, 0, upd_same, (upd_ne nzD.symm).trans eD3, (upd_ne nzA.symm).trans eA, by rw [List.length_map], by first | exact hpos | (show 0 < 1; decide), by first | exact hle | (show 1 ≤ 1000; decide), by decide⟩, nzD, nzA, Ne.symm nAD⟩ (f13.put_new hz)
    · rename_i hne
      rw [List.length_map] at hne
      have hpos : 0 < ns.length := by omega
      have hle : ns.length ≤ 1000 := by omega
      have f2 := f1'
      have eD := eC
      have hD' := hC'
      refine lc_ints (fun n => (n.natAbs : Int) * (if (10 : Int) ^ 18 ≤ (n.natAbs : Int) then 1 else 0)) (SqL.of eD) (by omega) (fun n => rfl) (fun n hn H' Q' k => ?_) fun Ad H3 hA eA f3 => ?_
      · walk_at "wp"
        refine ⟨⟨by decide, by decide, by decide⟩, .inr ?_, ?_⟩
        · (repeat' split) <;> exact ⟨by decide, by decide⟩
        · have e : (if (decide ((10 : Int) ^ Int.toNat 18 ≤ (n.natAbs : Int))) = true then (1 : Int) else 0) = (if (10 : Int) ^ 18 ≤ (n.natAbs : Int) then 1 else 0) := by
            rw [show Int.toNat 18 = 18 from rfl]; simp only [decide_eq_true_eq]
          first | exact k | (rw [e]; exact k) | (simp only [decide_eq_true_eq] at *; exact k)
      have f13 : My.Fr [] H H3 := f2.trans f3
      have hA' : H Ad = none := f2.2 _ hA
      have nAD : Ad ≠ C := fun z => by rw [z, eD] at hA; cases hA
      walk_at "wp"
      refine new_l (by show 3 ≤ sizeLine; decide) fun z hz => ?_
      walk_at "wp"
      have nzA : z ≠ Ad := fun y => by rw [y, eA] at hz; cases hz
      have eD3 : H3 C = some _ := f3.1 _ _ (by simp) eD
      have nzD : z ≠ C := fun y => by rw [y, eD3] at hz; cases hz
      refine q z C Ad _ (f13.2 _ hz) hD' hA' ⟨⟨_, _, 0, upd_same, (upd_ne nzD.symm).trans eD3, (upd_ne nzA.symm).trans eA, by rw [List.length_map], by first | exact hpos | (show 0 < 1; decide), by first | exact hle | (show 1 ≤ 1000; decide), by decide⟩, nzD, nzA, Ne.symm nAD⟩ (f13.put_new hz)
theorem ok__law_draw (ev : E K mg) : My.Callee P w K mg base CX0 1 d__law_draw ["_law_draws", "_law_many"] spDraw := by
  obtain ⟨fd, F⟩ := ev.e.c.def_ 9 (d := d__law_draw) rfl
  refine ⟨_, fd, ?_, ev.glo 3, F.kp, F.bindsN fun _ _ _ _ _ _ us hl => match us, hl with | [_, _], _ => rfl, F⟩
  refine F.ok sc__law_draw (fun vs H Q Ex h => ?_) (fun cdv A outer s H vs Q Ex hr h => ⟨_, PSs.nox
    (pss_cons (ps_set (i := 2) sc__law_draw.nd rfl (Or.inl rfl) (pe_ix ix_list (pv 0) pe_int (fun _ _ => rfl)))
  (pss_cons (ps_set (i := 3) sc__law_draw.nd rfl (Or.inl rfl) (pe_ix ix_list (pv 0) pe_int (fun _ _ => rfl)))
  (pss_cons (ps_set (i := 4) sc__law_draw.nd rfl (Or.inl rfl) (pe_ix ix_list (pv 0) pe_int (fun _ _ => rfl)))
  (pss_cons (ps_asg (pe_op op_add (pv 4) pe_int) (pg_sub (pv 0) pe_int set_list))
  (pss_cons (ps_set (i := 5) sc__law_draw.nd rfl (Or.inl rfl) (pe_op op_mod (pe_callTy call_intR rfl (free_int ev) (by decide +kernel) (pa_cons (pv 4) pa_nil)) (pe_callB call_lenR rfl (free_len ev) (by decide +kernel) (pa_cons (pv 2) pa_nil))))
  (pss_cons (ps_if (pt_cmpR op_gt (pe_ix ix_list (pv 3) (pv 5) (fun _ _ => rfl)) pe_int (nomark _)) (pss_cons (ps_set (i := 6) sc__law_draw.nd rfl (Or.inl rfl) (pe_op op_mod (pe_callTy call_intR rfl (free_int ev) (by decide +kernel) (pa_cons (pe_ix ix_list (pv 3) (pv 5) (fun _ _ => rfl)) pa_nil)) (pv 1)))
  (pss_cons (ps_asg (pe_op op_fdivW (pe_ix ix_list (pv 3) (pv 5) (fun _ _ => rfl)) (pv 1)) (pg_sub (pv 3) (pv 5) set_list))
  (pss_one (ps_ret (pv 6)))))
  pss_nil)
  (pss_cons (ps_set (i := 7) sc__law_draw.nd rfl (Or.inl rfl) (pe_op op_mod (pe_callTy call_intR rfl (free_int ev) (by decide +kernel) (pa_cons (pe_op op_mul (pe_op op_add (pe_op op_mod (pe_callTy call_intR rfl (free_int ev) (by decide +kernel) (pa_cons (pe_ix ix_list (pv 2) (pv 5) (fun _ _ => rfl)) pa_nil)) pe_int) pe_int) (pe_op op_add (pv 4) pe_int)) pa_nil)) pe_int))
  (pss_cons (ps_set (i := 8) sc__law_draw.nd rfl (Or.inl rfl) (pe_op op_add (pe_op op_mod (pe_callTy call_intR rfl (free_int ev) (by decide +kernel) (pa_cons (pe_ix ix_list (pv 2) (pv 5) (fun _ _ => rfl)) pa_nil)) pe_int) (pe_op op_mul pe_int (pv 4))))
  (pss_cons (ps_set (i := 9) sc__law_draw.nd rfl (Or.inl rfl) (pe_op op_mod (pe_callTy call_intR rfl (free_int ev) (by decide +kernel) (pa_cons (pe_op op_add (pe_op op_add (pe_op op_mul (pv 7) (pv 7)) (pe_op op_mul pe_int (pv 7))) (pv 8)) pa_nil)) pe_int))
  (pss_cons (ps_set (i := 10) sc__law_draw.nd rfl (Or.inl rfl) (pe_op op_add (pe_op op_mul (pe_op op_mod (pe_callTy call_intR rfl (free_int ev) (by decide +kernel) (pa_cons (pv 9) pa_nil)) pe_int) pe_int) (pe_op op_mul (pe_op op_fdivW (pv 9) pe_int) pe_int)))
  (pss_cons (ps_set (i := 11) sc__law_draw.nd rfl (Or.inl rfl) (pe_op op_mod (pe_callTy call_intR rfl (free_int ev) (by decide +kernel) (pa_cons (pe_op op_add (pv 10) (pv 7)) pa_nil)) pe_int))
  (pss_cons (ps_if (pt_cmpR op_le (pv 1) pe_int (nomark _)) (pss_one (ps_ret (pe_op op_mod (pe_callTy call_intR rfl (free_int ev) (by decide +kernel) (pa_cons (pv 11) pa_nil)) (pv 1))))
  pss_nil)
  (pss_one (ps_ret (pe_op op_mod (pe_callTy call_intR rfl (free_int ev) (by decide +kernel) (pa_cons (pe_op op_add (pe_op op_mul (pv 11) pe_int) (pv 9)) pa_nil)) (pv 1)))))))))))))))), ?_⟩)
  · first | (obtain ⟨rfl, _⟩ := h; rfl) | (obtain ⟨_, rfl, _⟩ := h; rfl) | (obtain ⟨_, _, rfl, _⟩ := h; rfl) | (obtain ⟨_, _, _, rfl, _⟩ := h; rfl) | (obtain ⟨_, _, _, _, rfl, _⟩ := h; rfl) | (obtain ⟨_, _, _, _, _, rfl, _⟩ := h; rfl) | (obtain ⟨_, _, _, _, _, _, rfl, _⟩ := h; rfl) | (obtain ⟨_, _, _, _, _, _, _, rfl, _⟩ := h; rfl) | (obtain ⟨_, _, _, _, _, _, _, _, rfl, _⟩ := h; rfl) | (obtain ⟨_, _, _, _, _, _, _, _, _, rfl, _⟩ := h; rfl) | (obtain ⟨_, _, _, _, _, _, _, _, _, _, rfl, _⟩ := h; rfl) | (obtain ⟨_, _, _, _, _, _, _, _, _, _, _, rfl, _⟩ := h; rfl) | (obtain ⟨_, _, _, _, _, _, _, _, _, _, _, _, rfl, _⟩ := h; rfl) | (obtain ⟨_, _, _, _, _, _, _, _, _, _, _, _, _, rfl, _⟩ := h; rfl) | (obtain ⟨_, _, _, _, _, _, _, _, _, _, _, _, _, _, rfl, _⟩ := h; rfl) | (obtain ⟨_, _, _, _, _, _, _, _, _, _, _, _, _, _, _, rfl, _⟩ := h; rfl)
  · obtain ⟨a, ac, ar, m, rfl, hm, hmb, ⟨⟨cs, rs, t, ea, ec, er, hl, hc, hc2, ht⟩, n1, n2, n3⟩, q⟩ := h
    walk_at "wp"
    refine ix_l (SqL.of ea) rfl ?_
    walk_at "wp"
    refine ix_l (SqL.of ea) rfl ?_
    walk_at "wp"
    refine ix_l (SqL.of ea) rfl ?_
    walk_at "wp"
    refine set_l ea rfl ?_
    walk_at "wp"
    have ec1 : (upd H a (.lst [.ref ac, .ref ar, .int (t + 1)])) ac = some (.lst (cs.map V.int)) := by rw [upd_ne n1.symm]; exact ec
    have er1 : (upd H a (.lst [.ref ac, .ref ar, .int (t + 1)])) ar = some (.lst (rs.map V.int)) := by rw [upd_ne n2.symm]; exact er
    refine len_l (SqL.of ec1) ?_
    walk_at "wp"
    refine ⟨by rw [List.length_map]; omega, ?_⟩
    rw [List.length_map]
    generalize hi : t % (cs.length : Int) = i
    have hi0 : 0 ≤ i := by rw [← hi]; exact Int.emod_nonneg _ (by omega)
    have hi1 : i < cs.length := by rw [← hi]; exact Int.emod_lt_of_pos _ (by omega)
    refine ix_l (SqL.of er1) (at_ints hi0 (by omega)) ?_
    walk_at "wp"
    have eh : [V.ref ac, V.ref ar, V.int t].set (Int.toNat 2) (V.int (t + 1)) = [V.ref ac, V.ref ar, V.int (t + 1)] := rfl
    rw [eh]
    have D1 : Dr (upd H a (.lst [.ref ac, .ref ar, .int (t + 1)])) a ac ar := ⟨⟨cs, rs, t + 1, upd_same, ec1, er1, hl, hc, hc2, by omega⟩, n1, n2, n3⟩
    have F1 : My.Fr [a, ar] H (upd H a (.lst [.ref ac, .ref ar, .int (t + 1)])) := (Fr.refl _ _).put (by simp)
    split
    · refine ix_l (SqL.of er1) (at_ints hi0 (by omega)) ?_
      walk_at "wp"
      refine ⟨hm, ix_l (SqL.of er1) (at_ints hi0 (by omega)) ?_⟩
      walk_at "wp"
      refine ⟨wide_div (b := 100) hm (by omega) (by decide) (by decide), set_l er1 (ix_ints hi0 (by omega)) ?_⟩
      walk_at "wp"
      rw [set_ints]
      refine q _ _ (Int.emod_nonneg _ (by omega)) (Int.emod_lt_of_pos _ hm) ⟨⟨cs, _, t + 1, by rw [upd_ne n2]; exact upd_same, by rw [upd_ne n3]; exact ec1, upd_same, by rw [List.length_set]; exact hl, hc, hc2, by omega⟩, n1, n2, n3⟩ (F1.put (by simp))
    · refine ix_l (SqL.of ec1) (at_ints hi0 hi1) ?_
      walk_at "wp"
      generalize cs.getD i.toNat 0 = c
      refine ⟨by decide, .inl ⟨by omega, by omega⟩, by decide, ?_⟩
      generalize hx : (c % 2147483629 + 1000003) * (t + 48271) % 2147483647 = x
      have x0 : 0 ≤ x ∧ x < 2147483647 := by omega
      refine ix_l (SqL.of ec1) (at_ints hi0 hi1) ?_
      walk_at "wp"
      refine ⟨by decide, .inl ⟨by decide, by decide⟩, .inl ⟨by omega, by omega⟩, .inl ⟨by decide, by decide⟩, by decide, ?_⟩
      generalize hy : (x * x + 69697 * x + _) % 2147483587 = y
      have y0 : 0 ≤ y ∧ y < 2147483587 := by omega
      refine ⟨by decide, .inr ⟨by decide, by decide⟩, ⟨by decide, Nat.lt_of_le_of_lt (by decide : _ ≤ 20) (by decide)⟩, .inr ⟨by decide, by decide⟩, by decide, ?_⟩
      generalize hz : (y % 65537 * 40503 + y / 65537 * 30011 + x) % 2147483549 = z
      have z0 : 0 ≤ z ∧ z < 2147483549 := by omega
      split
      · refine ⟨hm, q _ _ (Int.emod_nonneg _ (by omega)) (Int.emod_lt_of_pos _ hm) D1 F1⟩
      · refine ⟨.inr ⟨by decide, by decide⟩, hm, q _ _ (Int.emod_nonneg _ (by omega)) (Int.emod_lt_of_pos _ hm) D1 F1⟩
theorem ok__law_is_good (ev : E K mg) : My.Callee P w K mg base CX0 1 d__law_is_good ["_law_triple"] spIsG := by
  obtain ⟨fd, F⟩ := ev.e.c.def_ 11 (d := d__law_is_good) rfl
  refine ⟨_, fd, ?_, ev.glo 5, F.kp, F.bindsN fun _ _ _ _ _ _ us hl => match us, hl with | [_], _ => rfl, F⟩
  refine F.ok sc__law_is_good (fun vs H Q Ex h => ?_) (fun cdv A outer s H vs Q Ex hr h => ⟨_, PSs.nox
    (pss_cons (ps_asg (pv 0) (pg_tup rfl (pgs_cons (pg_name (i := 1) sc__law_is_good.nd rfl (Or.inl rfl)) (pgs_cons (pg_name (i := 2) sc__law_is_good.nd rfl (Or.inl rfl)) (pgs_cons (pg_name (i := 3) sc__law_is_good.nd rfl (Or.inl rfl)) pgs_nil)))))
  (pss_cons (ps_if (pt_cmpR op_eq (pv 2) pe_int (nomark _)) (pss_one (ps_ret (pe_cmpR op_eq (pv 3) pe_int (nomark _))))
  pss_nil)
  (pss_one (ps_ret (pe_or (pe_and (pe_cmpR op_gt (pv 2) pe_int (nomark _)) (pe_and (pe_cmpR op_ge (pv 1) (pv 2) (nomark _)) (pe_one (pe_cmpR op_ge (pv 3) (pv 2) (nomark _))))) (pe_one (pe_and (pe_cmpR op_lt (pv 2) pe_int (nomark _)) (pe_and (pe_cmpR op_le (pv 1) (pv 2) (nomark _)) (pe_one (pe_cmpR op_le (pv 3) (pv 2) (nomark _))))))))))), ?_⟩)
  · first | (obtain ⟨rfl, _⟩ := h; rfl) | (obtain ⟨_, rfl, _⟩ := h; rfl) | (obtain ⟨_, _, rfl, _⟩ := h; rfl) | (obtain ⟨_, _, _, rfl, _⟩ := h; rfl) | (obtain ⟨_, _, _, _, rfl, _⟩ := h; rfl) | (obtain ⟨_, _, _, _, _, rfl, _⟩ := h; rfl) | (obtain ⟨_, _, _, _, _, _, rfl, _⟩ := h; rfl) | (obtain ⟨_, _, _, _, _, _, _, rfl, _⟩ := h; rfl) | (obtain ⟨_, _, _, _, _, _, _, _, rfl, _⟩ := h; rfl) | (obtain ⟨_, _, _, _, _, _, _, _, _, rfl, _⟩ := h; rfl) | (obtain ⟨_, _, _, _, _, _, _, _, _, _, rfl, _⟩ := h; rfl) | (obtain ⟨_, _, _, _, _, _, _, _, _, _, _, rfl, _⟩ := h; rfl) | (obtain ⟨_, _, _, _, _, _, _, _, _, _, _, _, rfl, _⟩ := h; rfl) | (obtain ⟨_, _, _, _, _, _, _, _, _, _, _, _, _, rfl, _⟩ := h; rfl) | (obtain ⟨_, _, _, _, _, _, _, _, _, _, _, _, _, _, rfl, _⟩ := h; rfl) | (obtain ⟨_, _, _, _, _, _, _, _, _, _, _, _, _, _, _, rfl, _⟩ := h; rfl)
  · obtain ⟨t, d, g, k, rfl, ht, q⟩ := h
    unfold okZ at q
    walk_at "wp"
    refine tg_l (SqT.of ht) rfl ?_
    walk_at "wp"
    (repeat' split) <;> walk_at "fin"
theorem ok__law_zone (ev : E K mg) : My.Callee P w K mg base CX0 1 d__law_zone ["_law_triple"] spZn := by
  obtain ⟨fd, F⟩ := ev.e.c.def_ 13 (d := d__law_zone) rfl
  refine ⟨_, fd, ?_, ev.glo 7, F.kp, F.bindsN fun _ _ _ _ _ _ us hl => match us, hl with | [_], _ => rfl, F⟩
  refine F.ok sc__law_zone (fun vs H Q Ex h => ?_) (fun cdv A outer s H vs Q Ex hr h => ⟨_, PSs.nox
    (pss_cons (ps_if (pt_cmpR op_eq (pe_ix ix_tup (pv 0) pe_int (fun _ _ => rfl)) pe_int (nomark _)) (pss_one (ps_ret pe_str))
  pss_nil)
  (pss_cons (ps_if (pt_cmpR op_eq (pe_ix ix_tup (pv 0) pe_int (fun _ _ => rfl)) pe_int (nomark _)) (pss_one (ps_ret (pe_ix ix_list (pe_lst (pa_cons pe_str (pa_cons pe_str pa_nil))) (pe_callTy call_intR rfl (free_int ev) (by decide +kernel) (pa_cons (pe_cmpR op_gt (pe_ix ix_tup (pv 0) pe_int (fun _ _ => rfl)) pe_int (nomark _)) pa_nil)) (fun _ _ => rfl))))
  pss_nil)
  (pss_one (ps_ret (pe_ix ix_list (pe_lst (pa_cons pe_str (pa_cons pe_str pa_nil))) (pe_callTy call_intR rfl (free_int ev) (by decide +kernel) (pa_cons (pe_cmpR op_gt (pe_ix ix_tup (pv 0) pe_int (fun _ _ => rfl)) pe_int (nomark _)) pa_nil)) (fun _ _ => rfl)))))), ?_⟩)
  · first | (obtain ⟨rfl, _⟩ := h; rfl) | (obtain ⟨_, rfl, _⟩ := h; rfl) | (obtain ⟨_, _, rfl, _⟩ := h; rfl) | (obtain ⟨_, _, _, rfl, _⟩ := h; rfl) | (obtain ⟨_, _, _, _, rfl, _⟩ := h; rfl) | (obtain ⟨_, _, _, _, _, rfl, _⟩ := h; rfl) | (obtain ⟨_, _, _, _, _, _, rfl, _⟩ := h; rfl) | (obtain ⟨_, _, _, _, _, _, _, rfl, _⟩ := h; rfl) | (obtain ⟨_, _, _, _, _, _, _, _, rfl, _⟩ := h; rfl) | (obtain ⟨_, _, _, _, _, _, _, _, _, rfl, _⟩ := h; rfl) | (obtain ⟨_, _, _, _, _, _, _, _, _, _, rfl, _⟩ := h; rfl) | (obtain ⟨_, _, _, _, _, _, _, _, _, _, _, rfl, _⟩ := h; rfl) | (obtain ⟨_, _, _, _, _, _, _, _, _, _, _, _, rfl, _⟩ := h; rfl) | (obtain ⟨_, _, _, _, _, _, _, _, _, _, _, _, _, rfl, _⟩ := h; rfl) | (obtain ⟨_, _, _, _, _, _, _, _, _, _, _, _, _, _, rfl, _⟩ := h; rfl) | (obtain ⟨_, _, _, _, _, _, _, _, _, _, _, _, _, _, _, rfl, _⟩ := h; rfl)
  · obtain ⟨t, d, g, k, rfl, ht, q⟩ := h
    unfold z3 at q
    walk_at "wp"
    refine ix_t (SqT.of ht) (v := .int d) rfl ?_
    walk_at "wp"
    split
    · rename_i h
      simp only [h, if_true] at q
      exact q _ (Fr.refl _ _)
    · rename_i h
      simp only [h, if_false] at q
      refine ix_t (SqT.of ht) (v := .int g) rfl ?_
      walk_at "wp"
      split
      · rename_i h2
        simp only [h2, if_true] at q
        refine new_l (by show 2 ≤ sizeLine; decide) fun p hp => ?_
        walk_at "wp"
        refine ix_t (SqT.of ((Fr.new (S := []) hp).1 _ _ (by simp) ht)) (v := .int d) rfl ?_
        walk_at "wp"
        by_cases h3 : 0 < d
        · simp only [h3, decide_true, if_true] at q ⊢
          exact ix_l (SqL.of upd_same) (v := .str "after") rfl (q _ (Fr.new hp))
        · simp only [h3, decide_false, if_false, Bool.false_eq_true] at q ⊢
          exact ix_l (SqL.of upd_same) (v := .str "before") rfl (q _ (Fr.new hp))
      · rename_i h2
        simp only [h2, if_false] at q
        refine new_l (by show 2 ≤ sizeLine; decide) fun p hp => ?_
        walk_at "wp"
        refine ix_t (SqT.of ((Fr.new (S := []) hp).1 _ _ (by simp) ht)) (v := .int g) rfl ?_
        walk_at "wp"
        by_cases h3 : 0 < g
        · simp only [h3, decide_true, if_true] at q ⊢
          exact ix_l (SqL.of upd_same) (v := .str "future") rfl (q _ (Fr.new hp))
        · simp only [h3, decide_false, if_false, Bool.false_eq_true] at q ⊢
          exact ix_l (SqL.of upd_same) (v := .str "past") rfl (q _ (Fr.new hp))
theorem ok__law_zone_l (ev : E K mg) : My.Callee P w K mg base CX0 1 d__law_zone ["_law_triple"] spZnL := by
  obtain ⟨fd, F⟩ := ev.e.c.def_ 13 (d := d__law_zone) rfl
  refine ⟨_, fd, ?_, ev.glo 7, F.kp, F.bindsN fun _ _ _ _ _ _ us hl => match us, hl with | [_], _ => rfl, F⟩
  refine F.ok sc__law_zone (fun vs H Q Ex h => ?_) (fun cdv A outer s H vs Q Ex hr h => ⟨_, PSs.nox
    (pss_cons (ps_if (pt_cmpR op_eq (pe_ix ix_list (pv 0) pe_int (fun _ _ => rfl)) pe_int (nomark _)) (pss_one (ps_ret pe_str))
  pss_nil)
  (pss_cons (ps_if (pt_cmpR op_eq (pe_ix ix_list (pv 0) pe_int (fun _ _ => rfl)) pe_int (nomark _)) (pss_one (ps_ret (pe_ix ix_list (pe_lst (pa_cons pe_str (pa_cons pe_str pa_nil))) (pe_callTy call_intR rfl (free_int ev) (by decide +kernel) (pa_cons (pe_cmpR op_gt (pe_ix ix_list (pv 0) pe_int (fun _ _ => rfl)) pe_int (nomark _)) pa_nil)) (fun _ _ => rfl))))
  pss_nil)
  (pss_one (ps_ret (pe_ix ix_list (pe_lst (pa_cons pe_str (pa_cons pe_str pa_nil))) (pe_callTy call_intR rfl (free_int ev) (by decide +kernel) (pa_cons (pe_cmpR op_gt (pe_ix ix_list (pv 0) pe_int (fun _ _ => rfl)) pe_int (nomark _)) pa_nil)) (fun _ _ => rfl)))))), ?_⟩)
  · first | (obtain ⟨rfl, _⟩ := h; rfl) | (obtain ⟨_, rfl, _⟩ := h; rfl) | (obtain ⟨_, _, rfl, _⟩ := h; rfl) | (obtain ⟨_, _, _, rfl, _⟩ := h; rfl) | (obtain ⟨_, _, _, _, rfl, _⟩ := h; rfl) | (obtain ⟨_, _, _, _, _, rfl, _⟩ := h; rfl) | (obtain ⟨_, _, _, _, _, _, rfl, _⟩ := h; rfl) | (obtain ⟨_, _, _, _, _, _, _, rfl, _⟩ := h; rfl) | (obtain ⟨_, _, _, _, _, _, _, _, rfl, _⟩ := h; rfl) | (obtain ⟨_, _, _, _, _, _, _, _, _, rfl, _⟩ := h; rfl) | (obtain ⟨_, _, _, _, _, _, _, _, _, _, rfl, _⟩ := h; rfl) | (obtain ⟨_, _, _, _, _, _, _, _, _, _, _, rfl, _⟩ := h; rfl) | (obtain ⟨_, _, _, _, _, _, _, _, _, _, _, _, rfl, _⟩ := h; rfl) | (obtain ⟨_, _, _, _, _, _, _, _, _, _, _, _, _, rfl, _⟩ := h; rfl) | (obtain ⟨_, _, _, _, _, _, _, _, _, _, _, _, _, _, rfl, _⟩ := h; rfl) | (obtain ⟨_, _, _, _, _, _, _, _, _, _, _, _, _, _, _, rfl, _⟩ := h; rfl)
  · obtain ⟨t, d, g, k, rfl, ht, q⟩ := h
    unfold z3 at q
    walk_at "wp"
    refine ix_l (SqL.of ht) (v := .int d) rfl ?_
    walk_at "wp"
    split
    · rename_i h
      simp only [h, if_true] at q
      exact q _ (Fr.refl _ _)
    · rename_i h
      simp only [h, if_false] at q
      refine ix_l (SqL.of ht) (v := .int g) rfl ?_
      walk_at "wp"
      split
      · rename_i h2
        simp only [h2, if_true] at q
        refine new_l (by show 2 ≤ sizeLine; decide) fun p hp => ?_
        walk_at "wp"
        refine ix_l (SqL.of ((Fr.new (S := []) hp).1 _ _ (by simp) ht)) (v := .int d) rfl ?_
        walk_at "wp"
        by_cases h3 : 0 < d
        · simp only [h3, decide_true, if_true] at q ⊢
          exact ix_l (SqL.of upd_same) (v := .str "after") rfl (q _ (Fr.new hp))
        · simp only [h3, decide_false, if_false, Bool.false_eq_true] at q ⊢
          exact ix_l (SqL.of upd_same) (v := .str "before") rfl (q _ (Fr.new hp))
      · rename_i h2
        simp only [h2, if_false] at q
        refine new_l (by show 2 ≤ sizeLine; decide) fun p hp => ?_
        walk_at "wp"
        refine ix_l (SqL.of ((Fr.new (S := []) hp).1 _ _ (by simp) ht)) (v := .int g) rfl ?_
        walk_at "wp"
        by_cases h3 : 0 < g
        · simp only [h3, decide_true, if_true] at q ⊢
          exact ix_l (SqL.of upd_same) (v := .str "future") rfl (q _ (Fr.new hp))
        · simp only [h3, decide_false, if_false, Bool.false_eq_true] at q ⊢
          exact ix_l (SqL.of upd_same) (v := .str "past") rfl (q _ (Fr.new hp))
theorem ok_zone_of (ev : E K mg) : My.Callee P w K mg base CX0 2 d_zone_of ["rows", "groups", "distance"] sp_zone := by
  obtain ⟨fd, F⟩ := ev.e.c.def_ 1 (d := d_zone_of) rfl
  refine ⟨_, fd, ?_, ev.glo 0, F.kp, F.bindsN fun _ _ _ _ _ _ us hl => match us, hl with | [_, _, _], _ => rfl, F⟩
  refine F.ok sc_zone_of (fun vs H Q Ex h => ?_) (fun cdv A outer s H vs Q Ex hr h => ⟨_, PSs.nox
    (pss_cons (ps_if (PW.pt (pw_and (pt_cmpR op_eq (pv 1) pe_int (nomark _)) (pw_and1 (pt_cmpR op_eq (pv 2) pe_int (nomark _))))) (pss_one (ps_ret (pe_fn (ok__zone_in_group ev) (hr.mono (by decide)) rfl (pa_cons (pv 0) pa_nil))))
  pss_nil)
  (pss_cons (ps_if (PW.pt (pw_and (pt_cmpR op_ge (pv 1) pe_int (nomark _)) (pw_and (pt_cmpR op_ge (pv 0) (pv 1) (nomark _)) (pw_and1 (pt_cmpR op_ge (pv 2) (pv 1) (nomark _)))))) (pss_one (ps_ret pe_str))
  pss_nil)
  (pss_cons (ps_if (PW.pt (pw_and (pt_cmpR op_le (pv 1) (pe_un un_neg pe_int) (nomark _)) (pw_and (pt_cmpR op_le (pv 0) (pv 1) (nomark _)) (pw_and1 (pt_cmpR op_le (pv 2) (pv 1) (nomark _)))))) (pss_one (ps_ret pe_str))
  pss_nil)
  (pss_one (ps_ret pe_non))))), ?_⟩)
  · first | (obtain ⟨rfl, _⟩ := h; rfl) | (obtain ⟨_, rfl, _⟩ := h; rfl) | (obtain ⟨_, _, rfl, _⟩ := h; rfl) | (obtain ⟨_, _, _, rfl, _⟩ := h; rfl) | (obtain ⟨_, _, _, _, rfl, _⟩ := h; rfl) | (obtain ⟨_, _, _, _, _, rfl, _⟩ := h; rfl) | (obtain ⟨_, _, _, _, _, _, rfl, _⟩ := h; rfl) | (obtain ⟨_, _, _, _, _, _, _, rfl, _⟩ := h; rfl) | (obtain ⟨_, _, _, _, _, _, _, _, rfl, _⟩ := h; rfl) | (obtain ⟨_, _, _, _, _, _, _, _, _, rfl, _⟩ := h; rfl) | (obtain ⟨_, _, _, _, _, _, _, _, _, _, rfl, _⟩ := h; rfl) | (obtain ⟨_, _, _, _, _, _, _, _, _, _, _, rfl, _⟩ := h; rfl) | (obtain ⟨_, _, _, _, _, _, _, _, _, _, _, _, rfl, _⟩ := h; rfl) | (obtain ⟨_, _, _, _, _, _, _, _, _, _, _, _, _, rfl, _⟩ := h; rfl) | (obtain ⟨_, _, _, _, _, _, _, _, _, _, _, _, _, _, rfl, _⟩ := h; rfl) | (obtain ⟨_, _, _, _, _, _, _, _, _, _, _, _, _, _, _, rfl, _⟩ := h; rfl)
  · obtain ⟨r, g, k, rfl, q⟩ := h
    unfold zone at q
    walk_at "wp"
    (repeat' split) <;> first | (refine ⟨_, rfl, ?_⟩; simp_all; done) | simp_all
theorem ok__law_good (ev : E K mg) : My.Callee P w K mg base CX0 2 d__law_good ["_law_draws"] spGood := by
  obtain ⟨fd, F⟩ := ev.e.c.def_ 10 (d := d__law_good) rfl
  refine ⟨_, fd, ?_, ev.glo 4, F.kp, F.bindsN fun _ _ _ _ _ _ us hl => match us, hl with | [_], _ => rfl, F⟩
  refine F.ok sc__law_good (fun vs H Q Ex h => ?_) (fun cdv A outer s H vs Q Ex hr h => ⟨_, PSs.nox
    (pss_cons (ps_set (i := 1) sc__law_good.nd rfl (Or.inl rfl) (pe_fn (ok__law_draw ev) (hr.mono (by decide)) rfl (pa_cons (pv 0) (pa_cons pe_int pa_nil))))
  (pss_cons (ps_set (i := 2) sc__law_good.nd rfl (Or.inl rfl) (pe_ix ix_list (pe_lst (pa_cons pe_int (pa_cons pe_int (pa_cons pe_int (pa_cons pe_int (pa_cons (pe_op op_pow pe_int pe_int) pa_nil)))))) (pe_fn (ok__law_draw ev) (hr.mono (by decide)) rfl (pa_cons (pv 0) (pa_cons pe_int pa_nil))) (fun _ _ => rfl)))
  (pss_cons (ps_set (i := 3) sc__law_good.nd rfl (Or.inl rfl) (pe_op op_add (pv 2) (pe_ix ix_list (pe_lst (pa_cons pe_int (pa_cons pe_int (pa_cons pe_int (pa_cons pe_int (pa_cons (pe_op op_pow pe_int pe_int) pa_nil)))))) (pe_fn (ok__law_draw ev) (hr.mono (by decide)) rfl (pa_cons (pv 0) (pa_cons pe_int pa_nil))) (fun _ _ => rfl))))
  (pss_cons (ps_set (i := 4) sc__law_good.nd rfl (Or.inl rfl) (pe_op op_add (pv 2) (pe_ix ix_list (pe_lst (pa_cons pe_int (pa_cons pe_int (pa_cons pe_int (pa_cons pe_int (pa_cons (pe_op op_pow pe_int pe_int) pa_nil)))))) (pe_fn (ok__law_draw ev) (hr.mono (by decide)) rfl (pa_cons (pv 0) (pa_cons pe_int pa_nil))) (fun _ _ => rfl))))
  (pss_cons (ps_if (pt_cmpR op_eq (pv 1) pe_int (nomark _)) (pss_one (ps_ret (pe_tup (pa_cons pe_int (pa_cons pe_int (pa_cons pe_int pa_nil))))))
  pss_nil)
  (pss_cons (ps_if (pt_cmpR op_lt (pv 1) pe_int (nomark _)) (pss_one (ps_ret (pe_tup (pa_cons (pe_op op_mul (pe_op op_add (pv 3) pe_int) (pe_ix ix_list (pe_lst (pa_cons pe_int (pa_cons (pe_un un_neg pe_int) pa_nil))) (pe_op op_sub (pv 1) pe_int) (fun _ _ => rfl))) (pa_cons pe_int (pa_cons pe_int pa_nil))))))
  pss_nil)
  (pss_cons (ps_if (pt_cmpR op_eq (pv 2) pe_int (nomark _)) (pss_one (ps_par3 (i := 2) (j := 3) (l := 4) (by rfl) sc__law_good.nd rfl rfl rfl (by decide) (by decide) (by decide) rfl rfl rfl (pa_cons pe_int (pa_cons (pe_op op_add (pv 3) pe_int) (pa_cons (pe_op op_add (pv 4) pe_int) pa_nil))) (by rfl)))
  pss_nil)
  (pss_cons (ps_if (pt_cmpR op_eq (pv 1) pe_int (nomark _)) (pss_one (ps_ret (pe_tup (pa_cons (pv 3) (pa_cons (pv 2) (pa_cons (pv 4) pa_nil))))))
  pss_nil)
  (pss_one (ps_ret (pe_tup (pa_cons (pe_op op_sub pe_int (pv 3)) (pa_cons (pe_op op_sub pe_int (pv 2)) (pa_cons (pe_op op_sub pe_int (pv 4)) pa_nil)))))))))))))), ?_⟩)
  · first | (obtain ⟨rfl, _⟩ := h; rfl) | (obtain ⟨_, rfl, _⟩ := h; rfl) | (obtain ⟨_, _, rfl, _⟩ := h; rfl) | (obtain ⟨_, _, _, rfl, _⟩ := h; rfl) | (obtain ⟨_, _, _, _, rfl, _⟩ := h; rfl) | (obtain ⟨_, _, _, _, _, rfl, _⟩ := h; rfl) | (obtain ⟨_, _, _, _, _, _, rfl, _⟩ := h; rfl) | (obtain ⟨_, _, _, _, _, _, _, rfl, _⟩ := h; rfl) | (obtain ⟨_, _, _, _, _, _, _, _, rfl, _⟩ := h; rfl) | (obtain ⟨_, _, _, _, _, _, _, _, _, rfl, _⟩ := h; rfl) | (obtain ⟨_, _, _, _, _, _, _, _, _, _, rfl, _⟩ := h; rfl) | (obtain ⟨_, _, _, _, _, _, _, _, _, _, _, rfl, _⟩ := h; rfl) | (obtain ⟨_, _, _, _, _, _, _, _, _, _, _, _, rfl, _⟩ := h; rfl) | (obtain ⟨_, _, _, _, _, _, _, _, _, _, _, _, _, rfl, _⟩ := h; rfl) | (obtain ⟨_, _, _, _, _, _, _, _, _, _, _, _, _, _, rfl, _⟩ := h; rfl) | (obtain ⟨_, _, _, _, _, _, _, _, _, _, _, _, _, _, _, rfl, _⟩ := h; rfl)
  · obtain ⟨a, ac, ar, rfl, D, q⟩ := h
    have fin : ∀ (H2 : Hp) (d g k : Int), Dr H2 a ac ar → My.Fr [a, ar] H H2 → okZ d g k → (-4000000000000 < d ∧ d < 4000000000000) → (-4000000000000 < g ∧ g < 4000000000000) → (-4000000000000 < k ∧ k < 4000000000000) → KTup Q [.int d, .int g, .int k] H2 := fun H2 d g k D2 F2 ok b1 b2 b3 => by
      refine new_t (by show 3 ≤ sizeLine; decide) fun p hp => ?_
      exact q p d g k _ upd_same ok b1 b2 b3 (D2.new hp) (F2.put_new hp)
    walk_at "wp"
    refine ⟨a, ac, ar, _, rfl, by decide, by decide, D, fun w H1 w0 w1 D1 F1 => ?_⟩
    walk_at "wp"
    refine ⟨⟨by decide, by decide, by decide⟩, ?_⟩
    rw [show (10 : Int) ^ Int.toNat 6 = 1000000 by decide]
    refine new_l (by show 5 ≤ sizeLine; decide) fun zA hzA => ?_
    walk_at "wp"
    have DzA := D1.new (o := .lst (([0, 1, 2, 3, 1000000] : List Int).map V.int)) hzA
    refine ⟨a, ac, ar, _, rfl, by decide, by decide, DzA, fun xA HxA pA qA D2 FxA => ?_⟩
    have GA := F1.trans ((Fr.new hzA).trans FxA)
    walk_at "wp"
    refine ix_l (SqL.of (FxA.1 zA _ (D1.free hzA) upd_same)) (at_ints (ns := [0, 1, 2, 3, 1000000]) pA (by simpa using qA)) ?_
    walk_at "wp"
    generalize hyA : ([0, 1, 2, 3, 1000000] : List Int).getD xA.toNat 0 = yA
    have byA : 0 ≤ yA ∧ yA ≤ 1000000000000 := by
      have : xA.toNat < 5 := by simp only [Int.toNat_lt pA]; exact qA
      rw [← hyA]
      match xA.toNat, this with
      | 0, _ => exact ⟨by decide, by decide⟩
      | 1, _ => exact ⟨by decide, by decide⟩
      | 2, _ => exact ⟨by decide, by decide⟩
      | 3, _ => exact ⟨by decide, by decide⟩
      | 4, _ => exact ⟨by decide, by decide⟩
    refine ⟨⟨by decide, by decide, by decide⟩, ?_⟩
    rw [show (10 : Int) ^ Int.toNat 12 = 1000000000000 by decide]
    refine new_l (by show 5 ≤ sizeLine; decide) fun zB hzB => ?_
    walk_at "wp"
    have DzB := D2.new (o := .lst (([0, 0, 1, 2, 1000000000000] : List Int).map V.int)) hzB
    refine ⟨a, ac, ar, _, rfl, by decide, by decide, DzB, fun xB HxB pB qB D3 FxB => ?_⟩
    have GB := GA.trans ((Fr.new hzB).trans FxB)
    walk_at "wp"
    refine ix_l (SqL.of (FxB.1 zB _ (D2.free hzB) upd_same)) (at_ints (ns := [0, 0, 1, 2, 1000000000000]) pB (by simpa using qB)) ?_
    walk_at "wp"
    generalize hyB : ([0, 0, 1, 2, 1000000000000] : List Int).getD xB.toNat 0 = yB
    have byB : 0 ≤ yB ∧ yB ≤ 1000000000000 := by
      have : xB.toNat < 5 := by simp only [Int.toNat_lt pB]; exact qB
      rw [← hyB]
      match xB.toNat, this with
      | 0, _ => exact ⟨by decide, by decide⟩
      | 1, _ => exact ⟨by decide, by decide⟩
      | 2, _ => exact ⟨by decide, by decide⟩
      | 3, _ => exact ⟨by decide, by decide⟩
      | 4, _ => exact ⟨by decide, by decide⟩
    refine ⟨⟨by decide, by decide, by decide⟩, ?_⟩
    rw [show (10 : Int) ^ Int.toNat 12 = 1000000000000 by decide]
    refine new_l (by show 5 ≤ sizeLine; decide) fun zC hzC => ?_
    walk_at "wp"
    have DzC := D3.new (o := .lst (([0, 0, 1, 3, 1000000000000] : List Int).map V.int)) hzC
    refine ⟨a, ac, ar, _, rfl, by decide, by decide, DzC, fun xC HxC pC qC D4 FxC => ?_⟩
    have GC := GB.trans ((Fr.new hzC).trans FxC)
    walk_at "wp"
    refine ix_l (SqL.of (FxC.1 zC _ (D3.free hzC) upd_same)) (at_ints (ns := [0, 0, 1, 3, 1000000000000]) pC (by simpa using qC)) ?_
    walk_at "wp"
    generalize hyC : ([0, 0, 1, 3, 1000000000000] : List Int).getD xC.toNat 0 = yC
    have byC : 0 ≤ yC ∧ yC ≤ 1000000000000 := by
      have : xC.toNat < 5 := by simp only [Int.toNat_lt pC]; exact qC
      rw [← hyC]
      match xC.toNat, this with
      | 0, _ => exact ⟨by decide, by decide⟩
      | 1, _ => exact ⟨by decide, by decide⟩
      | 2, _ => exact ⟨by decide, by decide⟩
      | 3, _ => exact ⟨by decide, by decide⟩
      | 4, _ => exact ⟨by decide, by decide⟩
    split
    · exact fin _ _ _ _ D4 GC (.inl ⟨rfl, rfl⟩) (by decide) (by decide) (by decide)
    · split
      · refine new_l (by show 2 ≤ sizeLine; decide) fun z hz => ?_
        walk_at "wp"
        refine ix_l (SqL.of upd_same) (at_ints (ns := [1, -1]) (by omega) (by simp; omega)) ?_
        have hw : w - 1 = 0 ∨ w - 1 = 1 := by omega
        have fz := GC.trans (Fr.new (o := .lst [V.int 1, V.int (-1)]) hz)
        have Dz := D4.new (o := .lst [V.int 1, V.int (-1)]) hz
        rcases hw with e | e <;> rw [e]
        · have e2 : ([1, -1] : List Int).getD (Int.toNat 0) 0 = 1 := rfl
          rw [e2]
          walk_at "wp"
          refine ⟨by walk_at "num", ?_⟩
          exact fin _ _ _ _ Dz fz (.inl ⟨rfl, rfl⟩) (by omega) (by decide) (by decide)
        · have e2 : ([1, -1] : List Int).getD (Int.toNat 1) 0 = -1 := rfl
          rw [e2]
          walk_at "wp"
          refine ⟨by walk_at "num", ?_⟩
          exact fin _ _ _ _ Dz fz (.inl ⟨rfl, rfl⟩) (by omega) (by decide) (by decide)
      · split
        · split
          · exact fin _ _ _ _ D4 GC (.inr (.inl ⟨by omega, by omega, by omega⟩)) (by omega) (by omega) (by omega)
          · exact fin _ _ _ _ D4 GC (.inr (.inr ⟨by omega, by omega, by omega⟩)) (by omega) (by omega) (by omega)
        · split
          · exact fin _ _ _ _ D4 GC (.inr (.inl ⟨by omega, by omega, by omega⟩)) (by omega) (by omega) (by omega)
          · exact fin _ _ _ _ D4 GC (.inr (.inr ⟨by omega, by omega, by omega⟩)) (by omega) (by omega) (by omega)
theorem ok__law_due_of (ev : E K mg) : My.CalleeG P w K mg base CX0 2 d__law_due_of ["_law_triple"] (spDue K) := by
  obtain ⟨fd, F⟩ := ev.e.c.def_ 14 (d := d__law_due_of) rfl
  refine ⟨_, fd, ?_, ev.glo 8, F.kp, F.bindsN fun _ _ _ _ _ _ us hl => match us, hl with | [_], _ => rfl⟩
  refine okG F sc__law_due_of (fun vs H Q Ex h => ?_) (fun cdv A outer s H vs Q Ex hgd hr h => ⟨_, PSs.nox
    (pss_one (ps_ret (pe_callB (r := rRepr K) (call_reprG hgd hr.units) rfl (free_repr ev) (by decide +kernel) (pa_cons (pe_op op_catT (pe_callTy call_tuple_of rfl (free_tuple ev) (by decide +kernel) (pa_cons (pv 0) pa_nil)) (pe_tup (pa_cons (pe_fn (ok__law_zone ev) (hr.mono (by decide)) rfl (pa_cons (pv 0) pa_nil)) (pa_cons (pe_op op_add (pe_callB call_absR rfl (free_abs ev) (by decide +kernel) (pa_cons (pe_ix ix_tup (pv 0) pe_int (fun _ _ => rfl)) pa_nil)) pe_int) pa_nil)))) pa_nil)))), ?_⟩)
  · first | (obtain ⟨rfl, _⟩ := h; rfl) | (obtain ⟨_, rfl, _⟩ := h; rfl) | (obtain ⟨_, _, rfl, _⟩ := h; rfl) | (obtain ⟨_, _, _, rfl, _⟩ := h; rfl) | (obtain ⟨_, _, _, _, rfl, _⟩ := h; rfl) | (obtain ⟨_, _, _, _, _, rfl, _⟩ := h; rfl) | (obtain ⟨_, _, _, _, _, _, rfl, _⟩ := h; rfl) | (obtain ⟨_, _, _, _, _, _, _, rfl, _⟩ := h; rfl) | (obtain ⟨_, _, _, _, _, _, _, _, rfl, _⟩ := h; rfl) | (obtain ⟨_, _, _, _, _, _, _, _, _, rfl, _⟩ := h; rfl) | (obtain ⟨_, _, _, _, _, _, _, _, _, _, rfl, _⟩ := h; rfl) | (obtain ⟨_, _, _, _, _, _, _, _, _, _, _, rfl, _⟩ := h; rfl) | (obtain ⟨_, _, _, _, _, _, _, _, _, _, _, _, rfl, _⟩ := h; rfl) | (obtain ⟨_, _, _, _, _, _, _, _, _, _, _, _, _, rfl, _⟩ := h; rfl) | (obtain ⟨_, _, _, _, _, _, _, _, _, _, _, _, _, _, rfl, _⟩ := h; rfl) | (obtain ⟨_, _, _, _, _, _, _, _, _, _, _, _, _, _, _, rfl, _⟩ := h; rfl)
  · obtain ⟨t, d, g, k, rfl, ht, b1, b2, b3, q⟩ := h
    walk_at "wp"
    refine ⟨_, .inr ⟨SqT.of ht, ?_⟩⟩
    have el := ht
    have F1 := Fr.refl [] H
    walk_at "wp"
    refine ⟨t, d, g, k, rfl, F1.1 _ _ (by simp) ht, fun H2 F2 => ?_⟩
    walk_at "wp"
    have F12 := F1.trans F2
    refine ix_t (SqT.of (F12.1 _ _ (by simp) ht)) (v := .int d) rfl ?_
    walk_at "wp"
    refine new_t (by show 2 ≤ sizeLine; decide) fun p hp => ?_
    walk_at "wp"
    have F3 := Fr.new (S := []) (o := .tup [.str (z3 d g), .int ((d.natAbs : Int) + 1)]) hp
    refine ⟨t, p, [.int d, .int g, .int k], [.str (z3 d g), .int ((d.natAbs : Int) + 1)], rfl, rfl, SqT.of (F3.1 _ _ (by simp) (F2.1 _ _ (by simp) el)), SqT.of upd_same, by simp, by show 5 ≤ sizeLine; decide, fun e => (by cases e), fun _ c hc => ?_⟩
    walk_at "wp"
    have rp := rp_tx (k := k) b1 b2 b3
    refine repr_l (d := tx d g k) (.tup (SqT.of upd_same) (.cons (.int _) (.cons (.int _) (.cons (.int _) (.cons (.str _) (.cons (.int _) .nil)))))) rp.sh rp.hd rp.dp rp.ln ?_
    exact q _ ((F12.trans F3).trans (Fr.new hc))
theorem ok__law_due_of_l (ev : E K mg) : My.CalleeG P w K mg base CX0 2 d__law_due_of ["_law_triple"] (spDueL K) := by
  obtain ⟨fd, F⟩ := ev.e.c.def_ 14 (d := d__law_due_of) rfl
  refine ⟨_, fd, ?_, ev.glo 8, F.kp, F.bindsN fun _ _ _ _ _ _ us hl => match us, hl with | [_], _ => rfl⟩
  refine okG F sc__law_due_of (fun vs H Q Ex h => ?_) (fun cdv A outer s H vs Q Ex hgd hr h => ⟨_, PSs.nox
    (pss_one (ps_ret (pe_callB (r := rRepr K) (call_reprG hgd hr.units) rfl (free_repr ev) (by decide +kernel) (pa_cons (pe_op op_catT (pe_callTy call_tuple_of rfl (free_tuple ev) (by decide +kernel) (pa_cons (pv 0) pa_nil)) (pe_tup (pa_cons (pe_fn (ok__law_zone_l ev) (hr.mono (by decide)) rfl (pa_cons (pv 0) pa_nil)) (pa_cons (pe_op op_add (pe_callB call_absR rfl (free_abs ev) (by decide +kernel) (pa_cons (pe_ix ix_list (pv 0) pe_int (fun _ _ => rfl)) pa_nil)) pe_int) pa_nil)))) pa_nil)))), ?_⟩)
  · first | (obtain ⟨rfl, _⟩ := h; rfl) | (obtain ⟨_, rfl, _⟩ := h; rfl) | (obtain ⟨_, _, rfl, _⟩ := h; rfl) | (obtain ⟨_, _, _, rfl, _⟩ := h; rfl) | (obtain ⟨_, _, _, _, rfl, _⟩ := h; rfl) | (obtain ⟨_, _, _, _, _, rfl, _⟩ := h; rfl) | (obtain ⟨_, _, _, _, _, _, rfl, _⟩ := h; rfl) | (obtain ⟨_, _, _, _, _, _, _, rfl, _⟩ := h; rfl) | (obtain ⟨_, _, _, _, _, _, _, _, rfl, _⟩ := h; rfl) | (obtain ⟨_, _, _, _, _, _, _, _, _, rfl, _⟩ := h; rfl) | (obtain ⟨_, _, _, _, _, _, _, _, _, _, rfl, _⟩ := h; rfl) | (obtain ⟨_, _, _, _, _, _, _, _, _, _, _, rfl, _⟩ := h; rfl) | (obtain ⟨_, _, _, _, _, _, _, _, _, _, _, _, rfl, _⟩ := h; rfl) | (obtain ⟨_, _, _, _, _, _, _, _, _, _, _, _, _, rfl, _⟩ := h; rfl) | (obtain ⟨_, _, _, _, _, _, _, _, _, _, _, _, _, _, rfl, _⟩ := h; rfl) | (obtain ⟨_, _, _, _, _, _, _, _, _, _, _, _, _, _, _, rfl, _⟩ := h; rfl)
  · obtain ⟨t, d, g, k, rfl, ht, b1, b2, b3, q⟩ := h
    walk_at "wp"
    refine ⟨_, .inl ⟨SqL.of ht, fun l hl => ?_⟩⟩
    have F1 := Fr.new (S := []) (o := .tup [.int d, .int g, .int k]) hl
    have el : (upd H l (.tup [.int d, .int g, .int k])) l = some (.tup [.int d, .int g, .int k]) := upd_same
    walk_at "wp"
    refine ⟨t, d, g, k, rfl, F1.1 _ _ (by simp) ht, fun H2 F2 => ?_⟩
    walk_at "wp"
    have F12 := F1.trans F2
    refine ix_l (SqL.of (F12.1 _ _ (by simp) ht)) (v := .int d) rfl ?_
    walk_at "wp"
    refine new_t (by show 2 ≤ sizeLine; decide) fun p hp => ?_
    walk_at "wp"
    have F3 := Fr.new (S := []) (o := .tup [.str (z3 d g), .int ((d.natAbs : Int) + 1)]) hp
    refine ⟨l, p, [.int d, .int g, .int k], [.str (z3 d g), .int ((d.natAbs : Int) + 1)], rfl, rfl, SqT.of (F3.1 _ _ (by simp) (F2.1 _ _ (by simp) el)), SqT.of upd_same, by simp, by show 5 ≤ sizeLine; decide, fun e => (by cases e), fun _ c hc => ?_⟩
    walk_at "wp"
    have rp := rp_tx (k := k) b1 b2 b3
    refine repr_l (d := tx d g k) (.tup (SqT.of upd_same) (.cons (.int _) (.cons (.int _) (.cons (.int _) (.cons (.str _) (.cons (.int _) .nil)))))) rp.sh rp.hd rp.dp rp.ln ?_
    exact q _ ((F12.trans F3).trans (Fr.new hc))
theorem ok__law_told_of (ev : E K mg) : My.CalleeG P w K mg base CX0 2 d__law_told_of ["_law_offset"] (spTold K) := by
  obtain ⟨fd, F⟩ := ev.e.c.def_ 15 (d := d__law_told_of) rfl
  refine ⟨_, fd, ?_, ev.glo 9, F.kp, F.bindsN fun _ _ _ _ _ _ us hl => match us, hl with | [_], _ => rfl⟩
  refine okG F sc__law_told_of (fun vs H Q Ex h => ?_) (fun cdv A outer s H vs Q Ex hgd hr h => ⟨_, PSs.nox
    (pss_one (ps_ret (pe_callB (r := rRepr K) (call_reprG hgd hr.units) rfl (free_repr ev) (by decide +kernel) (pa_cons (pe_tup (pa_cons (pe_fld (pv 0) rfl) (pa_cons (pe_fld (pv 0) rfl) (pa_cons (pe_fld (pv 0) rfl) (pa_cons (pe_fld (pv 0) rfl) (pa_cons (pe_me0 (ok_Offset_fewest_rows ev) (pv 0) (hr.mono (by decide))) pa_nil)))))) pa_nil)))), ?_⟩)
  · first | (obtain ⟨rfl, _⟩ := h; rfl) | (obtain ⟨_, rfl, _⟩ := h; rfl) | (obtain ⟨_, _, rfl, _⟩ := h; rfl) | (obtain ⟨_, _, _, rfl, _⟩ := h; rfl) | (obtain ⟨_, _, _, _, rfl, _⟩ := h; rfl) | (obtain ⟨_, _, _, _, _, rfl, _⟩ := h; rfl) | (obtain ⟨_, _, _, _, _, _, rfl, _⟩ := h; rfl) | (obtain ⟨_, _, _, _, _, _, _, rfl, _⟩ := h; rfl) | (obtain ⟨_, _, _, _, _, _, _, _, rfl, _⟩ := h; rfl) | (obtain ⟨_, _, _, _, _, _, _, _, _, rfl, _⟩ := h; rfl) | (obtain ⟨_, _, _, _, _, _, _, _, _, _, rfl, _⟩ := h; rfl) | (obtain ⟨_, _, _, _, _, _, _, _, _, _, _, rfl, _⟩ := h; rfl) | (obtain ⟨_, _, _, _, _, _, _, _, _, _, _, _, rfl, _⟩ := h; rfl) | (obtain ⟨_, _, _, _, _, _, _, _, _, _, _, _, _, rfl, _⟩ := h; rfl) | (obtain ⟨_, _, _, _, _, _, _, _, _, _, _, _, _, _, rfl, _⟩ := h; rfl) | (obtain ⟨_, _, _, _, _, _, _, _, _, _, _, _, _, _, _, rfl, _⟩ := h; rfl)
  · obtain ⟨o, d, g, k, rfl, O, hz, b1, b2, b3, q⟩ := h
    obtain ⟨dx, ho⟩ := id O
    unfold offF at ho
    rw [zone_z3 hz] at ho
    walk_at "wp"
    refine fld_Offset_rows ev ho rfl ?_
    walk_at "wp"
    refine fld_Offset_groups ev ho rfl ?_
    walk_at "wp"
    refine fld_Offset_distance ev ho rfl ?_
    walk_at "wp"
    refine fld_Offset_zone ev ho rfl ?_
    walk_at "wp"
    refine meth_l ho rfl ?_
    walk_at "wp"
    refine ⟨o, d, g, k, rfl, O, ?_⟩
    walk_at "wp"
    refine new_t (by show 5 ≤ sizeLine; decide) fun c hc => ?_
    walk_at "wp"
    have rp := rp_tx (k := k) b1 b2 b3
    refine repr_l (d := tx d g k) (.tup (SqT.of upd_same) (.cons (.int _) (.cons (.int _) (.cons (.int _) (.cons (.str _) (.cons (.int _) .nil)))))) rp.sh rp.hd rp.dp rp.ln ?_
    exact q _ (Fr.new hc)
theorem ok_Offset___init__ (ev : E K mg) : My.MakeOf P w K mg base CX0 3 d_Offset___init__ "Offset" ["self", "rows", "groups", "distance"] (sp_offI K) := by
  obtain ⟨fd, F⟩ := ev.e.c.def_ 3 (d := d_Offset___init__) rfl
  refine ⟨⟨_, fd, ?_, mkr_Offset ev, F.bindsN fun _ _ _ _ _ _ us hl => match us, hl with | [_, _, _, _], _ => rfl, F⟩, glo_Offset ev⟩
  refine F.ok sc_Offset___init__ (fun vs H Q Ex h => ?_) (fun cdv A outer s H vs Q Ex hr h => ⟨_, PSs.nox
    (pss_cons (ps_set (i := 4) sc_Offset___init__.nd rfl (Or.inl rfl) (pe_fn (ok_zone_of ev) (hr.mono (by decide)) rfl (pa_cons (pv 1) (pa_cons (pv 2) (pa_cons (pv 3) pa_nil)))))
  (pss_cons (ps_if (pt_cmpR op_isNo (pv 4) pe_non (nomark _)) (pss_one ps_never)
  pss_nil)
  (pss_cons (ps_fld (pv 0) (pv 1) rfl)
  (pss_cons (ps_fld (pv 0) (pv 2) rfl)
  (pss_cons (ps_fld (pv 0) (pv 3) rfl)
  (pss_one (ps_fld (pv 0) (pv 4) rfl))))))), ?_⟩)
  · first | (obtain ⟨rfl, _⟩ := h; rfl) | (obtain ⟨_, rfl, _⟩ := h; rfl) | (obtain ⟨_, _, rfl, _⟩ := h; rfl) | (obtain ⟨_, _, _, rfl, _⟩ := h; rfl) | (obtain ⟨_, _, _, _, rfl, _⟩ := h; rfl) | (obtain ⟨_, _, _, _, _, rfl, _⟩ := h; rfl) | (obtain ⟨_, _, _, _, _, _, rfl, _⟩ := h; rfl) | (obtain ⟨_, _, _, _, _, _, _, rfl, _⟩ := h; rfl) | (obtain ⟨_, _, _, _, _, _, _, _, rfl, _⟩ := h; rfl) | (obtain ⟨_, _, _, _, _, _, _, _, _, rfl, _⟩ := h; rfl) | (obtain ⟨_, _, _, _, _, _, _, _, _, _, rfl, _⟩ := h; rfl) | (obtain ⟨_, _, _, _, _, _, _, _, _, _, _, rfl, _⟩ := h; rfl) | (obtain ⟨_, _, _, _, _, _, _, _, _, _, _, _, rfl, _⟩ := h; rfl) | (obtain ⟨_, _, _, _, _, _, _, _, _, _, _, _, _, rfl, _⟩ := h; rfl) | (obtain ⟨_, _, _, _, _, _, _, _, _, _, _, _, _, _, rfl, _⟩ := h; rfl) | (obtain ⟨_, _, _, _, _, _, _, _, _, _, _, _, _, _, _, rfl, _⟩ := h; rfl)
  · obtain ⟨x, dx, r, g, k, rfl, hx, hz, q⟩ := h
    walk_at "wp"
    rw [if_neg (fun z => zone_non.mp z hz)]
    refine ini_Offset_rows ev hx ?_
    walk_at "wp"
    refine ini_Offset_groups ev upd_same ?_
    walk_at "wp"
    refine ini_Offset_distance ev upd_same ?_
    walk_at "wp"
    refine ini_Offset_zone ev upd_same ?_
    walk_at "wp"
    rw [upd_upd, upd_upd, upd_upd]
    exact q
theorem ok_Offset___init___x (ev : E K mg) : My.MakeOf P w K mg base (L2.CX P w) 3 d_Offset___init__ "Offset" ["self", "rows", "groups", "distance"] (sp_offX K) := by
  obtain ⟨fd, F⟩ := ev.e.c.def_ 3 (d := d_Offset___init__) rfl
  refine ⟨⟨_, fd, ?_, mkr_Offset ev, F.bindsN fun _ _ _ _ _ _ us hl => match us, hl with | [_, _, _, _], _ => rfl, F⟩, glo_Offset ev⟩
  refine F.ok sc_Offset___init__ (fun vs H Q Ex h => ?_) (fun cdv A outer s H vs Q Ex hr h => ⟨_, id
    (pss_cons (ps_set (i := 4) sc_Offset___init__.nd rfl (Or.inl rfl) (pe_fn (ok_zone_of ev) (hr.mono (by decide)) rfl (pa_cons (pv 1) (pa_cons (pv 2) (pa_cons (pv 3) pa_nil)))))
  (pss_cons (ps_if (pt_cmpR op_isNo (pv 4) pe_non (nomark _)) (pss_one (ps_rs rfl (takes_of rfl rfl rfl rfl) (pmk_err (ok_BadOffset___init__ ev) (hr.mono (by decide)) rfl (pa_cons (pv 1) (pa_cons (pv 2) (pa_cons (pv 3) pa_nil))))))
  pss_nil)
  (pss_cons (ps_fld (pv 0) (pv 1) rfl)
  (pss_cons (ps_fld (pv 0) (pv 2) rfl)
  (pss_cons (ps_fld (pv 0) (pv 3) rfl)
  (pss_one (ps_fld (pv 0) (pv 4) rfl))))))), ?_⟩)
  · first | (obtain ⟨rfl, _⟩ := h; rfl) | (obtain ⟨_, rfl, _⟩ := h; rfl) | (obtain ⟨_, _, rfl, _⟩ := h; rfl) | (obtain ⟨_, _, _, rfl, _⟩ := h; rfl) | (obtain ⟨_, _, _, _, rfl, _⟩ := h; rfl) | (obtain ⟨_, _, _, _, _, rfl, _⟩ := h; rfl) | (obtain ⟨_, _, _, _, _, _, rfl, _⟩ := h; rfl) | (obtain ⟨_, _, _, _, _, _, _, rfl, _⟩ := h; rfl) | (obtain ⟨_, _, _, _, _, _, _, _, rfl, _⟩ := h; rfl) | (obtain ⟨_, _, _, _, _, _, _, _, _, rfl, _⟩ := h; rfl) | (obtain ⟨_, _, _, _, _, _, _, _, _, _, rfl, _⟩ := h; rfl) | (obtain ⟨_, _, _, _, _, _, _, _, _, _, _, rfl, _⟩ := h; rfl) | (obtain ⟨_, _, _, _, _, _, _, _, _, _, _, _, rfl, _⟩ := h; rfl) | (obtain ⟨_, _, _, _, _, _, _, _, _, _, _, _, _, rfl, _⟩ := h; rfl) | (obtain ⟨_, _, _, _, _, _, _, _, _, _, _, _, _, _, rfl, _⟩ := h; rfl) | (obtain ⟨_, _, _, _, _, _, _, _, _, _, _, _, _, _, _, rfl, _⟩ := h; rfl)
  · obtain ⟨x, dx, r, g, k, rfl, hx, q1, q2⟩ := h
    walk_at "wp"
    by_cases hz : okZ r g k
    · rw [if_neg (fun z => zone_non.mp z hz)]
      refine ini_Offset_rows ev hx ?_
      walk_at "wp"
      refine ini_Offset_groups ev upd_same ?_
      walk_at "wp"
      refine ini_Offset_distance ev upd_same ?_
      walk_at "wp"
      refine ini_Offset_zone ev upd_same ?_
      walk_at "wp"
      rw [upd_upd, upd_upd, upd_upd]
      exact q1 hz
    · rw [if_pos (zone_non.mpr hz)]
      exact rs_l rfl (by decide) fun d hd => q2 hz d hd
theorem ok__law_other (ev : E K mg) : My.Callee P w K mg base CX0 3 d__law_other ["_law_draws", "_law_triple"] spOth := by
  obtain ⟨fd, F⟩ := ev.e.c.def_ 12 (d := d__law_other) rfl
  refine ⟨_, fd, ?_, ev.glo 6, F.kp, F.bindsN fun _ _ _ _ _ _ us hl => match us, hl with | [_, _], _ => rfl, F⟩
  refine F.ok sc__law_other (fun vs H Q Ex h => ?_) (fun cdv A outer s H vs Q Ex hr h => ⟨_, PSs.nox
    (pss_cons (ps_if (pt_cmpR op_eq (pe_fn (ok__law_draw ev) (hr.mono (by decide)) rfl (pa_cons (pv 0) (pa_cons pe_int pa_nil))) pe_int (nomark _)) (pss_one (ps_ret (pe_fn (ok__law_good ev) (hr.mono (by decide)) rfl (pa_cons (pv 0) pa_nil))))
  pss_nil)
  (pss_cons (ps_setLc (i := 2) (own := [("_law_spot", 4)]) (g := (gName 4)) (tt := tYes) rfl sc__law_other.nd rfl rfl (sw_true rfl rfl rfl (by decide +kernel)) (pi_tup (pv 1)) (blkOk_by (own := [("_law_spot", 4)]) (N := ["_law_draws", "_law_triple", "_law_found", "_law_at", "_law_spot"]) (sc := defScope s__law_other) (by decide +kernel)) (fun _ _ _ _ _ => (pg_name (i := 4) sc__law_other.nd rfl (Or.inl rfl))) (fun _ _ _ _ _ => pts_nil) (fun _ _ _ _ _ => (pe_op op_sub pe_int (pv 4))))
  (pss_cons (ps_set (i := 3) sc__law_other.nd rfl (Or.inl rfl) (pe_fn (ok__law_draw ev) (hr.mono (by decide)) rfl (pa_cons (pv 0) (pa_cons pe_int pa_nil))))
  (pss_cons (ps_asg (pe_op op_sub (pe_op op_add (pe_ix ix_list (pv 2) (pv 3) (fun _ _ => rfl)) (pe_fn (ok__law_draw ev) (hr.mono (by decide)) rfl (pa_cons (pv 0) (pa_cons pe_int pa_nil)))) pe_int) (pg_sub (pv 2) (pv 3) set_list))
  (pss_cons (ps_if (pt_val (pe_fn (ok__law_is_good ev) (hr.mono (by decide)) rfl (pa_cons (pe_callTy call_tuple_of rfl (free_tuple ev) (by decide +kernel) (pa_cons (pv 2) pa_nil)) pa_nil))) (pss_one (ps_ret (pe_callTy call_tuple_of rfl (free_tuple ev) (by decide +kernel) (pa_cons (pv 2) pa_nil))))
  pss_nil)
  (pss_one (ps_ret (pe_callTy call_tuple_of rfl (free_tuple ev) (by decide +kernel) (pa_cons (pe_lc (own := [("_law_spot", 4)]) (g := (gName 4)) (tt := tYes) rfl sc__law_other.nd (pi_tup (pv 1)) (blkOk_by (own := [("_law_spot", 4)]) (N := ["_law_draws", "_law_triple", "_law_found", "_law_at", "_law_spot"]) (sc := defScope s__law_other) (by decide +kernel)) (fun _ _ _ _ _ => (pg_name (i := 4) sc__law_other.nd rfl (Or.inl rfl))) (fun _ _ _ _ _ => pts_nil) (fun _ _ _ _ _ => (pe_op op_sub pe_int (pv 4)))) pa_nil))))))))), ?_⟩)
  · first | (obtain ⟨rfl, _⟩ := h; rfl) | (obtain ⟨_, rfl, _⟩ := h; rfl) | (obtain ⟨_, _, rfl, _⟩ := h; rfl) | (obtain ⟨_, _, _, rfl, _⟩ := h; rfl) | (obtain ⟨_, _, _, _, rfl, _⟩ := h; rfl) | (obtain ⟨_, _, _, _, _, rfl, _⟩ := h; rfl) | (obtain ⟨_, _, _, _, _, _, rfl, _⟩ := h; rfl) | (obtain ⟨_, _, _, _, _, _, _, rfl, _⟩ := h; rfl) | (obtain ⟨_, _, _, _, _, _, _, _, rfl, _⟩ := h; rfl) | (obtain ⟨_, _, _, _, _, _, _, _, _, rfl, _⟩ := h; rfl) | (obtain ⟨_, _, _, _, _, _, _, _, _, _, rfl, _⟩ := h; rfl) | (obtain ⟨_, _, _, _, _, _, _, _, _, _, _, rfl, _⟩ := h; rfl) | (obtain ⟨_, _, _, _, _, _, _, _, _, _, _, _, rfl, _⟩ := h; rfl) | (obtain ⟨_, _, _, _, _, _, _, _, _, _, _, _, _, rfl, _⟩ := h; rfl) | (obtain ⟨_, _, _, _, _, _, _, _, _, _, _, _, _, _, rfl, _⟩ := h; rfl) | (obtain ⟨_, _, _, _, _, _, _, _, _, _, _, _, _, _, _, rfl, _⟩ := h; rfl)
  · obtain ⟨a, ac, ar, t, d, g, k, rfl, D, ht, hz, c1, c2, c3, q⟩ := h
    have nt := offA D ht
    walk_at "wp"
    refine ⟨a, ac, ar, _, rfl, by decide, by decide, D, fun w H1 w0 w1 D1 F1 => ?_⟩
    walk_at "wp"
    split
    · refine ⟨a, ac, ar, rfl, D1, fun p d' g' k' H2 ep ok b1 b2 b3 D2 F2 => ?_⟩
      exact q p d' g' k' H2 ep ok (by unfold Bk; omega) (by unfold Bk; omega) (by unfold Bk; omega) D2 (F1.trans F2)
    · have ht1 := F1.1 _ _ nt ht
      refine lc_intsT (ns := [d, g, k]) (fun n => 0 - n) (SqT.of ht1) (by show 3 ≤ 100000; decide) (fun n => rfl) (fun n hn H' Q' kq => ?_) fun f H2 hf ef F2 => ?_
      · walk_at "wp"
        exact kq
      have D2 := D1.f0 F2
      walk_at "wp"
      refine ⟨a, ac, ar, _, rfl, by decide, by decide, D2, fun x H3 x0 x1 D3 F3 => ?_⟩
      have ef3 : H3 f = some (.lst (([0 - d, 0 - g, 0 - k] : List Int).map V.int)) := F3.1 _ _ (D1.free hf) ef
      walk_at "wp"
      refine ix_l (SqL.of ef3) (at_ints (ns := [0 - d, 0 - g, 0 - k]) x0 (by simpa using x1)) ?_
      walk_at "wp"
      refine ⟨a, ac, ar, _, rfl, by decide, by decide, D3, fun y H4 y0 y1 D4 F4 => ?_⟩
      have ef4 := F4.1 _ _ (D1.free hf) ef3
      walk_at "wp"
      refine set_l ef4 (ix_ints (ns := [0 - d, 0 - g, 0 - k]) x0 (by simpa using x1)) ?_
      rw [set_ints]
      obtain ⟨u, v, w', eL, bu, bv, bw⟩ : ∃ u v w', ([0 - d, 0 - g, 0 - k] : List Int).set x.toNat (([0 - d, 0 - g, 0 - k] : List Int).getD x.toNat 0 + y - 2) = [u, v, w'] ∧ Bk u ∧ Bk v ∧ Bk w' := by
        have hx : x = 0 ∨ x = 1 ∨ x = 2 := by omega
        unfold Bk
        rcases hx with rfl | rfl | rfl
        · exact ⟨0 - d + y - 2, 0 - g, 0 - k, rfl, by omega, by omega, by omega⟩
        · exact ⟨0 - d, 0 - g + y - 2, 0 - k, rfl, by omega, by omega, by omega⟩
        · exact ⟨0 - d, 0 - g, 0 - k + y - 2, rfl, by omega, by omega, by omega⟩
      rw [eL]
      have F14 := ((F1.trans (F2.mono (by simp))).trans F3).trans F4
      have F15 := F14.put_free (o := .lst (([u, v, w'] : List Int).map V.int)) (F1.2 _ hf)
      have D5 := D1.put_free (o := .lst (([u, v, w'] : List Int).map V.int)) hf D4
      generalize hH5 : upd H4 f (.lst (([u, v, w'] : List Int).map V.int)) = H5 at F15 D5 ⊢
      have ef5 : H5 f = some (.lst [.int u, .int v, .int w']) := by rw [← hH5]; exact upd_same
      clear hH5
      walk_at "wp"
      refine ⟨_, .inl ⟨SqL.of ef5, fun l hl => ?_⟩⟩
      have D6 := D5.new (o := .tup [.int u, .int v, .int w']) hl
      have F6 := Fr.new (S := []) (o := .tup [.int u, .int v, .int w']) hl
      have F16 := F15.trans (F6.mono (by simp))
      walk_at "wp"
      refine ⟨l, u, v, w', rfl, upd_same, ?_⟩
      walk_at "wp"
      split
      · rename_i ok
        refine ⟨_, .inl ⟨SqL.of (F6.1 _ _ (by simp) ef5), fun l2 hl2 => ?_⟩⟩
        exact q l2 u v w' _ upd_same ok bu bv bw (D6.new hl2) (F16.trans (Fr.new hl2))
      · refine lc_intsT (ns := [d, g, k]) (fun n => 0 - n) (SqT.of (F16.1 _ _ nt ht)) (by show 3 ≤ 100000; decide) (fun n => rfl) (fun n hn H' Q' kq => ?_) fun f2 H7 hf2 ef7 F7 => ?_
        · walk_at "wp"
          exact kq
        have ef7' : H7 f2 = some (.lst [.int (-d), .int (-g), .int (-k)]) := by rw [ef7]; simp
        walk_at "wp"
        refine ⟨_, .inl ⟨SqL.of ef7', fun l2 hl2 => ?_⟩⟩
        exact q l2 _ _ _ _ upd_same (okZ_neg hz) (by unfold Bk; omega) (by unfold Bk; omega) (by unfold Bk; omega) ((D6.f0 F7).new hl2) ((F16.trans (F7.mono (by simp))).trans (Fr.new hl2))
theorem ok_Offset___neg__ (ev : E K mg) : My.MethOf P w K mg base CX0 5 "Offset" "__neg__" ["self"] (sp_neg K) := by
  obtain ⟨fd, F⟩ := ev.e.c.def_ 5 (d := d_Offset___neg__) rfl
  refine ⟨⟨_, fd, ?_, meth_Offset___neg__ ev, F.bindsN fun _ _ _ _ _ _ us hl => match us, hl with | [_], _ => rfl⟩, cls_Offset ev⟩
  refine F.ok sc_Offset___neg__ (fun vs H Q Ex h => ?_) (fun cdv A outer s H vs Q Ex hr h => ⟨_, PSs.nox
    (pss_one (ps_ret (pe_mk (ok_Offset___init__ ev) (hr.mono (by decide)) rfl (pa_cons (pe_un un_neg (pe_fld (pv 0) rfl)) (pa_cons (pe_un un_neg (pe_fld (pv 0) rfl)) (pa_cons (pe_un un_neg (pe_fld (pv 0) rfl)) pa_nil)))))), ?_⟩)
  · first | (obtain ⟨rfl, _⟩ := h; rfl) | (obtain ⟨_, rfl, _⟩ := h; rfl) | (obtain ⟨_, _, rfl, _⟩ := h; rfl) | (obtain ⟨_, _, _, rfl, _⟩ := h; rfl) | (obtain ⟨_, _, _, _, rfl, _⟩ := h; rfl) | (obtain ⟨_, _, _, _, _, rfl, _⟩ := h; rfl) | (obtain ⟨_, _, _, _, _, _, rfl, _⟩ := h; rfl) | (obtain ⟨_, _, _, _, _, _, _, rfl, _⟩ := h; rfl) | (obtain ⟨_, _, _, _, _, _, _, _, rfl, _⟩ := h; rfl) | (obtain ⟨_, _, _, _, _, _, _, _, _, rfl, _⟩ := h; rfl) | (obtain ⟨_, _, _, _, _, _, _, _, _, _, rfl, _⟩ := h; rfl) | (obtain ⟨_, _, _, _, _, _, _, _, _, _, _, rfl, _⟩ := h; rfl) | (obtain ⟨_, _, _, _, _, _, _, _, _, _, _, _, rfl, _⟩ := h; rfl) | (obtain ⟨_, _, _, _, _, _, _, _, _, _, _, _, _, rfl, _⟩ := h; rfl) | (obtain ⟨_, _, _, _, _, _, _, _, _, _, _, _, _, _, rfl, _⟩ := h; rfl) | (obtain ⟨_, _, _, _, _, _, _, _, _, _, _, _, _, _, _, rfl, _⟩ := h; rfl)
  · obtain ⟨a, r, g, k, rfl, ⟨dx, ha⟩, hz, q⟩ := h
    walk_at "wp"
    refine fld_Offset_rows ev ha rfl ?_
    walk_at "wp"
    refine fld_Offset_groups ev ha rfl ?_
    walk_at "wp"
    refine fld_Offset_distance ev ha rfl ?_
    walk_at "wp"
    refine mk_l fun x ex h1 h2 h3 => ⟨x, ex, _, _, _, rfl, upd_same, okZ_neg hz, rfl, ?_⟩
    rw [upd_upd]
    exact q x _ h1 ⟨ex, upd_same⟩ (((Fr.refl _ _).put_free h2).put_free h1)
theorem ok_Offset___add__ (ev : E K mg) : My.MethOf P w K mg base CX0 5 "Offset" "__add__" ["self", "other"] (sp_add K) := by
  obtain ⟨fd, F⟩ := ev.e.c.def_ 6 (d := d_Offset___add__) rfl
  refine ⟨⟨_, fd, ?_, meth_Offset___add__ ev, F.bindsN fun _ _ _ _ _ _ us hl => match us, hl with | [_, _], _ => rfl⟩, cls_Offset ev⟩
  refine F.ok sc_Offset___add__ (fun vs H Q Ex h => ?_) (fun cdv A outer s H vs Q Ex hr h => ⟨_, PSs.nox
    (pss_one (ps_ret (pe_mk (ok_Offset___init__ ev) (hr.mono (by decide)) rfl (pa_cons (pe_op op_add (pe_fld (pv 0) rfl) (pe_fld (pv 1) rfl)) (pa_cons (pe_op op_add (pe_fld (pv 0) rfl) (pe_fld (pv 1) rfl)) (pa_cons (pe_op op_add (pe_fld (pv 0) rfl) (pe_fld (pv 1) rfl)) pa_nil)))))), ?_⟩)
  · first | (obtain ⟨rfl, _⟩ := h; rfl) | (obtain ⟨_, rfl, _⟩ := h; rfl) | (obtain ⟨_, _, rfl, _⟩ := h; rfl) | (obtain ⟨_, _, _, rfl, _⟩ := h; rfl) | (obtain ⟨_, _, _, _, rfl, _⟩ := h; rfl) | (obtain ⟨_, _, _, _, _, rfl, _⟩ := h; rfl) | (obtain ⟨_, _, _, _, _, _, rfl, _⟩ := h; rfl) | (obtain ⟨_, _, _, _, _, _, _, rfl, _⟩ := h; rfl) | (obtain ⟨_, _, _, _, _, _, _, _, rfl, _⟩ := h; rfl) | (obtain ⟨_, _, _, _, _, _, _, _, _, rfl, _⟩ := h; rfl) | (obtain ⟨_, _, _, _, _, _, _, _, _, _, rfl, _⟩ := h; rfl) | (obtain ⟨_, _, _, _, _, _, _, _, _, _, _, rfl, _⟩ := h; rfl) | (obtain ⟨_, _, _, _, _, _, _, _, _, _, _, _, rfl, _⟩ := h; rfl) | (obtain ⟨_, _, _, _, _, _, _, _, _, _, _, _, _, rfl, _⟩ := h; rfl) | (obtain ⟨_, _, _, _, _, _, _, _, _, _, _, _, _, _, rfl, _⟩ := h; rfl) | (obtain ⟨_, _, _, _, _, _, _, _, _, _, _, _, _, _, _, rfl, _⟩ := h; rfl)
  · obtain ⟨a, r, g, k, b, r', g', k', rfl, ⟨dx, ha⟩, ⟨dy, hb⟩, hz, q⟩ := h
    walk_at "wp"
    refine fld_Offset_rows ev ha rfl ?_
    walk_at "wp"
    refine fld_Offset_rows ev hb rfl ?_
    walk_at "wp"
    refine fld_Offset_groups ev ha rfl ?_
    walk_at "wp"
    refine fld_Offset_groups ev hb rfl ?_
    walk_at "wp"
    refine fld_Offset_distance ev ha rfl ?_
    walk_at "wp"
    refine fld_Offset_distance ev hb rfl ?_
    walk_at "wp"
    refine mk_l fun x ex h1 h2 h3 => ⟨x, ex, _, _, _, rfl, upd_same, hz, rfl, ?_⟩
    rw [upd_upd]
    exact q x _ h1 ⟨ex, upd_same⟩ (((Fr.refl _ _).put_free h2).put_free h1)
theorem ok_Offset___add___x (ev : E K mg) : My.MethOf P w K mg base (L2.CX P w) 5 "Offset" "__add__" ["self", "other"] (sp_addX K) := by
  obtain ⟨fd, F⟩ := ev.e.c.def_ 6 (d := d_Offset___add__) rfl
  refine ⟨⟨_, fd, ?_, meth_Offset___add__ ev, F.bindsN fun _ _ _ _ _ _ us hl => match us, hl with | [_, _], _ => rfl⟩, cls_Offset ev⟩
  refine F.ok sc_Offset___add__ (fun vs H Q Ex h => ?_) (fun cdv A outer s H vs Q Ex hr h => ⟨_, id
    (pss_one (ps_ret (pe_mkS (K := K) rfl (ok_Offset___init___x (K := K) ev) (hr.mono (by decide)) (fun σ => passAt (takes_of rfl rfl rfl rfl) σ) rfl (pa_cons (pe_op op_add (pe_fld (pv 0) rfl) (pe_fld (pv 1) rfl)) (pa_cons (pe_op op_add (pe_fld (pv 0) rfl) (pe_fld (pv 1) rfl)) (pa_cons (pe_op op_add (pe_fld (pv 0) rfl) (pe_fld (pv 1) rfl)) pa_nil)))))), ?_⟩)
  · first | (obtain ⟨rfl, _⟩ := h; rfl) | (obtain ⟨_, rfl, _⟩ := h; rfl) | (obtain ⟨_, _, rfl, _⟩ := h; rfl) | (obtain ⟨_, _, _, rfl, _⟩ := h; rfl) | (obtain ⟨_, _, _, _, rfl, _⟩ := h; rfl) | (obtain ⟨_, _, _, _, _, rfl, _⟩ := h; rfl) | (obtain ⟨_, _, _, _, _, _, rfl, _⟩ := h; rfl) | (obtain ⟨_, _, _, _, _, _, _, rfl, _⟩ := h; rfl) | (obtain ⟨_, _, _, _, _, _, _, _, rfl, _⟩ := h; rfl) | (obtain ⟨_, _, _, _, _, _, _, _, _, rfl, _⟩ := h; rfl) | (obtain ⟨_, _, _, _, _, _, _, _, _, _, rfl, _⟩ := h; rfl) | (obtain ⟨_, _, _, _, _, _, _, _, _, _, _, rfl, _⟩ := h; rfl) | (obtain ⟨_, _, _, _, _, _, _, _, _, _, _, _, rfl, _⟩ := h; rfl) | (obtain ⟨_, _, _, _, _, _, _, _, _, _, _, _, _, rfl, _⟩ := h; rfl) | (obtain ⟨_, _, _, _, _, _, _, _, _, _, _, _, _, _, rfl, _⟩ := h; rfl) | (obtain ⟨_, _, _, _, _, _, _, _, _, _, _, _, _, _, _, rfl, _⟩ := h; rfl)
  · obtain ⟨a, r, g, k, b, r', g', k', rfl, ⟨dx, ha⟩, ⟨dy, hb⟩, q1, q2⟩ := h
    walk_at "wp"
    refine fld_Offset_rows ev ha rfl ?_
    walk_at "wp"
    refine fld_Offset_rows ev hb rfl ?_
    walk_at "wp"
    refine fld_Offset_groups ev ha rfl ?_
    walk_at "wp"
    refine fld_Offset_groups ev hb rfl ?_
    walk_at "wp"
    refine fld_Offset_distance ev ha rfl ?_
    walk_at "wp"
    refine fld_Offset_distance ev hb rfl ?_
    walk_at "wp"
    refine mk_l fun x ex h1 h2 h3 => ⟨x, ex, _, _, _, rfl, upd_same, fun hz => ⟨rfl, ?_⟩, fun hz d hd => ?_⟩
    · rw [upd_upd]
      exact q1 hz x _ h1 ⟨ex, upd_same⟩ (((Fr.refl _ _).put_free h2).put_free h1)
    · exact q2 hz d _ upd_same ((((Fr.refl _ _).put_free h2).put_free h1).trans (Fr.new hd))
theorem ok__law_sum (ev : E K mg) : My.CalleeG P w K mg base CX0 6 d__law_sum ["_law_first", "_law_second"] (spSum K) := by
  obtain ⟨fd, F⟩ := ev.e.c.def_ 16 (d := d__law_sum) rfl
  refine ⟨_, fd, ?_, ev.glo 10, F.kp, F.bindsN fun _ _ _ _ _ _ us hl => match us, hl with | [_, _], _ => rfl⟩
  refine okG F sc__law_sum (fun vs H Q Ex h => ?_) (fun cdv A outer s H vs Q Ex hgd hr h => ⟨_, PSs.nox
    (pss_cons (ps_tryA (i := 3) rfl rfl sc__law_sum.nd rfl rfl ⟨rfl, by decide, .inl (gloE_BadOffset ev)⟩ takes0 (fun W pn xe tk _ => by exact (pss_one (ps_set (i := 2) sc__law_sum.nd rfl (Or.inl rfl) (pe_addS (K := K) rfl (ok_Offset___add___x (K := K) ev) (self_Offset ev) (hr.mono (by decide)) (fun σ => passAt tk σ) (pv 0) (pv 1))))) (fun a oe cls dd pn hz hf => by exact (pss_one (ps_ret (pe_tup (pa_cons pe_str (pa_cons (pe_callB (r := rRepr K) (call_reprG hgd hr.units) rfl (free_repr ev) (by decide +kernel) (pa_cons (pe_tup (pa_cons (pe_xf (xf_BadOffset (K := K) ev) (noA_BadOffset_rows (K := K) ev) hz hf (pv 3)) (pa_cons (pe_xf (xf_BadOffset (K := K) ev) (noA_BadOffset_groups (K := K) ev) hz hf (pv 3)) (pa_cons (pe_xf (xf_BadOffset (K := K) ev) (noA_BadOffset_distance (K := K) ev) hz hf (pv 3)) pa_nil)))) pa_nil)) pa_nil)))))))
  (pss_one (ps_ret (pe_tup (pa_cons pe_str (pa_cons (pe_callB call_isi rfl (free_isinstance ev) (by decide +kernel) (pa_cons (pv 2) (pa_cons (pe_glob (v := .ref (He.ga K "Offset")) rfl (glo_Offset ev) rfl) pa_nil))) (pa_cons (pe_fnG (ok__law_told_of ev) hgd (hr.mono (by decide)) rfl (pa_cons (pv 2) pa_nil)) pa_nil))))))), ?_⟩)
  · first | (obtain ⟨rfl, _⟩ := h; rfl) | (obtain ⟨_, rfl, _⟩ := h; rfl) | (obtain ⟨_, _, rfl, _⟩ := h; rfl) | (obtain ⟨_, _, _, rfl, _⟩ := h; rfl) | (obtain ⟨_, _, _, _, rfl, _⟩ := h; rfl) | (obtain ⟨_, _, _, _, _, rfl, _⟩ := h; rfl) | (obtain ⟨_, _, _, _, _, _, rfl, _⟩ := h; rfl) | (obtain ⟨_, _, _, _, _, _, _, rfl, _⟩ := h; rfl) | (obtain ⟨_, _, _, _, _, _, _, _, rfl, _⟩ := h; rfl) | (obtain ⟨_, _, _, _, _, _, _, _, _, rfl, _⟩ := h; rfl) | (obtain ⟨_, _, _, _, _, _, _, _, _, _, rfl, _⟩ := h; rfl) | (obtain ⟨_, _, _, _, _, _, _, _, _, _, _, rfl, _⟩ := h; rfl) | (obtain ⟨_, _, _, _, _, _, _, _, _, _, _, _, rfl, _⟩ := h; rfl) | (obtain ⟨_, _, _, _, _, _, _, _, _, _, _, _, _, rfl, _⟩ := h; rfl) | (obtain ⟨_, _, _, _, _, _, _, _, _, _, _, _, _, _, rfl, _⟩ := h; rfl) | (obtain ⟨_, _, _, _, _, _, _, _, _, _, _, _, _, _, _, rfl, _⟩ := h; rfl)
  · obtain ⟨a, r, g, k, b, r', g', k', rfl, A1, B1, b1, b2, b3, q1, q2⟩ := h
    walk_at "wp"
    refine addE_l A1.choose_spec B1.choose_spec ⟨a, r, g, k, b, r', g', k', rfl, A1, B1, fun hz p H1 hp O F1 => ?_, fun hz d H1 ed F1 => ?_⟩
    · walk_at "wp"
      refine ⟨_, _, _, _, true, rfl, .own _, ty_Offset ev O.choose_spec, kit_Offset_Offset ev, ?_⟩
      walk_at "wp"
      refine ⟨p, _, _, _, rfl, O, hz, b1, b2, b3, fun H2 F2 => ?_⟩
      walk_at "wp"
      refine new_t (by show 3 ≤ sizeLine; decide) fun c hc => ?_
      exact q1 hz c _ upd_same ((F1.trans F2).trans (Fr.new hc))
    · refine was_yes (exm_BadOffset ev) fun e he => ?_
      walk_at "wp"
      refine xf_l ed rfl ?_
      walk_at "wp"
      refine xf_l ed rfl ?_
      walk_at "wp"
      refine xf_l ed rfl ?_
      walk_at "wp"
      refine new_t (by show 3 ≤ sizeLine; decide) fun c hc => ?_
      walk_at "wp"
      have rp := rp_bt b1 b2 b3
      refine repr_l (d := bt (r + r') (g + g') (k + k')) (.tup (SqT.of upd_same) (.cons (.int _) (.cons (.int _) (.cons (.int _) .nil)))) rp.sh rp.hd rp.dp rp.ln ?_
      walk_at "wp"
      refine new_t (by show 2 ≤ sizeLine; decide) fun c2 hc2 => ?_
      exact q2 hz c2 _ upd_same ((F1.trans (Fr.new hc)).trans (Fr.new hc2))
theorem ok__law_right (ev : E K mg) : My.CalleeG P w K mg base CX0 7 d__law_right ["_law_first", "_law_second", "_law_one", "_law_two"] (spRight K) := by
  obtain ⟨fd, F⟩ := ev.e.c.def_ 17 (d := d__law_right) rfl
  refine ⟨_, fd, ?_, ev.glo 11, F.kp, F.bindsN fun _ _ _ _ _ _ us hl => match us, hl with | [_, _, _, _], _ => rfl⟩
  refine okG F sc__law_right (fun vs H Q Ex h => ?_) (fun cdv A outer s H vs Q Ex hgd hr h => ⟨_, PSs.nox
    (pss_cons (ps_set (i := 4) sc__law_right.nd rfl (Or.inl rfl) (pe_callTy call_tuple_of rfl (free_tuple ev) (by decide +kernel) (pa_cons (pe_lc (own := [("_law_k", 6)]) (g := (gName 6)) (tt := tYes) rfl sc__law_right.nd (pi_range1 rfl (free_range ev) (pa_cons pe_int pa_nil)) (blkOk_by (own := [("_law_k", 6)]) (N := ["_law_first", "_law_second", "_law_one", "_law_two", "_law_due", "_law_told", "_law_k", "_law_spot"]) (sc := defScope s__law_right) (by decide +kernel)) (fun _ _ _ _ _ => (pg_name (i := 6) sc__law_right.nd rfl (Or.inl rfl))) (fun _ _ _ _ _ => pts_nil) (fun _ _ _ _ _ => (pe_op op_add (pe_ix (r := rIxT K) ix_tup (pv 2) (pv 6) (fun _ _ => rfl)) (pe_ix (r := rIxT K) ix_tup (pv 3) (pv 6) (fun _ _ => rfl))))) pa_nil)))
  (pss_cons (ps_set (i := 5) sc__law_right.nd rfl (Or.inl rfl) (pe_tup (pa_cons pe_str (pa_cons (pe_callB (r := rRepr K) (call_reprG hgd hr.units) rfl (free_repr ev) (by decide +kernel) (pa_cons (pv 4) pa_nil)) pa_nil))))
  (Evl.pss_cut (ps_if (pt_val (pe_fn (ok__law_is_good ev) (hr.mono (by decide)) rfl (pa_cons (pv 4) pa_nil))) (pss_one (ps_set (i := 5) sc__law_right.nd rfl (Or.inl rfl) (pe_tup (pa_cons pe_str (pa_cons pe_bl (pa_cons (pe_fnG (ok__law_due_of ev) hgd (hr.mono (by decide)) rfl (pa_cons (pv 4) pa_nil)) pa_nil))))))
  pss_nil)
  (Evl.pss_cut (ps_if (PW.pt (pw_or (pt_cmpR (op_neD hr.units) (pe_fnG (ok__law_sum ev) hgd (hr.mono (by decide)) rfl (pa_cons (pv 0) (pa_cons (pv 1) pa_nil))) (pv 5) (nomark _)) (pw_or1 (pt_cmpR (op_neD hr.units) (pe_fnG (ok__law_sum ev) hgd (hr.mono (by decide)) rfl (pa_cons (pv 1) (pa_cons (pv 0) pa_nil))) (pv 5) (nomark _))))) (pss_one (ps_ret pe_bl))
  pss_nil)
  (pss_cons (ps_if (PW.pt (pw_or (pt_cmpR op_ne (pe_fnG (ok__law_told_of ev) hgd (hr.mono (by decide)) rfl (pa_cons (pe_un (un_negC (ok_Offset___neg__ ev) (hr.mono (by decide))) (pv 0)) pa_nil)) (pe_fnG (ok__law_due_of_l ev) hgd (hr.mono (by decide)) rfl (pa_cons (pe_lc (own := [("_law_spot", 7)]) (g := (gName 7)) (tt := tYes) rfl sc__law_right.nd (pi_tup (pv 2)) (blkOk_by (own := [("_law_spot", 7)]) (N := ["_law_first", "_law_second", "_law_one", "_law_two", "_law_due", "_law_told", "_law_k", "_law_spot"]) (sc := defScope s__law_right) (by decide +kernel)) (fun _ _ _ _ _ => (pg_name (i := 7) sc__law_right.nd rfl (Or.inl rfl))) (fun _ _ _ _ _ => pts_nil) (fun _ _ _ _ _ => (pe_op op_sub pe_int (pv 7)))) pa_nil)) (nomark _)) (pw_or1 (pt_cmpR (op_neC (ok_Offset___eq__ ev) (mro_Offset ev) (ne_Offset ev) (hr.mono (by decide))) (pe_un (un_negC (ok_Offset___neg__ ev) (hr.mono (by decide))) (pe_un (un_negC (ok_Offset___neg__ ev) (hr.mono (by decide))) (pv 0))) (pv 0) (nomark _))))) (pss_one (ps_ret pe_bl))
  pss_nil)
  (pss_cons (ps_if (pt_cmpR op_ne (pe_fnG (ok__law_told_of ev) hgd (hr.mono (by decide)) rfl (pa_cons (pe_un (un_negC (ok_Offset___neg__ ev) (hr.mono (by decide))) (pe_un (un_negC (ok_Offset___neg__ ev) (hr.mono (by decide))) (pv 0))) pa_nil)) (pe_fnG (ok__law_due_of ev) hgd (hr.mono (by decide)) rfl (pa_cons (pv 2) pa_nil)) (nomark _)) (pss_one (ps_ret pe_bl))
  pss_nil)
  (pss_cons (ps_if (PW.pt (pw_or (pt_cmpR (op_neC (ok_Offset___eq__ ev) (mro_Offset ev) (ne_Offset ev) (hr.mono (by decide))) (pe_op (op_addC (ok_Offset___add__ ev) (self_Offset ev) (hr.mono (by decide))) (pv 0) (pe_un (un_negC (ok_Offset___neg__ ev) (hr.mono (by decide))) (pv 0))) (pe_mk (ok_Offset___init__ ev) (hr.mono (by decide)) rfl (pa_cons pe_int (pa_cons pe_int (pa_cons pe_int pa_nil)))) (nomark _)) (pw_or1 (pt_cmpR (op_neC (ok_Offset___eq__ ev) (mro_Offset ev) (ne_Offset ev) (hr.mono (by decide))) (pe_op (op_addC (ok_Offset___add__ ev) (self_Offset ev) (hr.mono (by decide))) (pe_mk (ok_Offset___init__ ev) (hr.mono (by decide)) rfl (pa_cons pe_int (pa_cons pe_int (pa_cons pe_int pa_nil)))) (pv 1)) (pv 1) (nomark _))))) (pss_one (ps_ret pe_bl))
  pss_nil)
  (pss_cons (ps_if (pt_cmpR op_ne (pe_fnG (ok__law_told_of ev) hgd (hr.mono (by decide)) rfl (pa_cons (pe_op (op_addC (ok_Offset___add__ ev) (self_Offset ev) (hr.mono (by decide))) (pv 0) (pe_un (un_negC (ok_Offset___neg__ ev) (hr.mono (by decide))) (pv 0))) pa_nil)) (pe_fnG (ok__law_due_of ev) hgd (hr.mono (by decide)) rfl (pa_cons (pe_tup (pa_cons pe_int (pa_cons pe_int (pa_cons pe_int pa_nil)))) pa_nil)) (nomark _)) (pss_one (ps_ret pe_bl))
  pss_nil)
  (pss_cons (ps_if (pt_cmpR op_ne (pe_fnG (ok__law_told_of ev) hgd (hr.mono (by decide)) rfl (pa_cons (pe_op (op_addC (ok_Offset___add__ ev) (self_Offset ev) (hr.mono (by decide))) (pe_mk (ok_Offset___init__ ev) (hr.mono (by decide)) rfl (pa_cons pe_int (pa_cons pe_int (pa_cons pe_int pa_nil)))) (pv 1)) pa_nil)) (pe_fnG (ok__law_due_of ev) hgd (hr.mono (by decide)) rfl (pa_cons (pv 3) pa_nil)) (nomark _)) (pss_one (ps_ret pe_bl))
  pss_nil)
  (pss_one (ps_ret (pe_and (pe_cmpR op_eq (pe_fnG (ok__law_told_of ev) hgd (hr.mono (by decide)) rfl (pa_cons (pv 0) pa_nil)) (pe_fnG (ok__law_due_of ev) hgd (hr.mono (by decide)) rfl (pa_cons (pv 2) pa_nil)) (nomark _)) (pe_one (pe_cmpR op_eq (pe_fnG (ok__law_told_of ev) hgd (hr.mono (by decide)) rfl (pa_cons (pv 1) pa_nil)) (pe_fnG (ok__law_due_of ev) hgd (hr.mono (by decide)) rfl (pa_cons (pv 3) pa_nil)) (nomark _))))))))))))))), ?_⟩)
  · first | (obtain ⟨rfl, _⟩ := h; rfl) | (obtain ⟨_, rfl, _⟩ := h; rfl) | (obtain ⟨_, _, rfl, _⟩ := h; rfl) | (obtain ⟨_, _, _, rfl, _⟩ := h; rfl) | (obtain ⟨_, _, _, _, rfl, _⟩ := h; rfl) | (obtain ⟨_, _, _, _, _, rfl, _⟩ := h; rfl) | (obtain ⟨_, _, _, _, _, _, rfl, _⟩ := h; rfl) | (obtain ⟨_, _, _, _, _, _, _, rfl, _⟩ := h; rfl) | (obtain ⟨_, _, _, _, _, _, _, _, rfl, _⟩ := h; rfl) | (obtain ⟨_, _, _, _, _, _, _, _, _, rfl, _⟩ := h; rfl) | (obtain ⟨_, _, _, _, _, _, _, _, _, _, rfl, _⟩ := h; rfl) | (obtain ⟨_, _, _, _, _, _, _, _, _, _, _, rfl, _⟩ := h; rfl) | (obtain ⟨_, _, _, _, _, _, _, _, _, _, _, _, rfl, _⟩ := h; rfl) | (obtain ⟨_, _, _, _, _, _, _, _, _, _, _, _, _, rfl, _⟩ := h; rfl) | (obtain ⟨_, _, _, _, _, _, _, _, _, _, _, _, _, _, rfl, _⟩ := h; rfl) | (obtain ⟨_, _, _, _, _, _, _, _, _, _, _, _, _, _, _, rfl, _⟩ := h; rfl)
  · obtain ⟨f, s, o, t, d, g, k, d', g', k', rfl, T, N, q⟩ := h
    obtain ⟨c1, c2, c3, c4, c5, c6⟩ := N.b
    unfold Bk at c1 c2 c3 c4 c5 c6
    have b1 : Bi (d + d') := by unfold Bi; omega
    have b2 : Bi (g + g') := by unfold Bi; omega
    have b3 : Bi (k + k') := by unfold Bi; omega
    walk_at "wp"
    refine lc_r1 (S := []) (fun _ => True) (fun x v _ => v = some (add3 d g k d' g' k' x)) (by decide) (by simp) ⟨True.intro, fun _ _ _ _ _ => True.intro, fun _ _ _ _ _ r => r, fun _ _ _ _ _ _ _ r => r, fun x H1 hx F1 _ Qn kq => ?_⟩ fun Dl ys H1 hD eD kk F1 _ => ?_
    · have hx' : x = .int 0 ∨ x = .int 1 ∨ x = .int 2 := by
        have e : rngV 0 (Int.toNat 3) = [V.int 0, V.int 1, V.int 2] := rfl
        rw [e] at hx
        simpa using hx
      have T1 := T.fr F1
      rcases hx' with rfl | rfl | rfl
      · walk_at "wp"
        refine ix_t (SqT.of T1.o) (v := .int d) rfl ?_
        walk_at "wp"
        refine ix_t (SqT.of T1.t) (v := .int d') rfl ?_
        walk_at "wp"
        exact kq _ _ rfl (Fr.refl _ _) True.intro
      · walk_at "wp"
        refine ix_t (SqT.of T1.o) (v := .int g) rfl ?_
        walk_at "wp"
        refine ix_t (SqT.of T1.t) (v := .int g') rfl ?_
        walk_at "wp"
        exact kq _ _ rfl (Fr.refl _ _) True.intro
      · walk_at "wp"
        refine ix_t (SqT.of T1.o) (v := .int k) rfl ?_
        walk_at "wp"
        refine ix_t (SqT.of T1.t) (v := .int k') rfl ?_
        walk_at "wp"
        exact kq _ _ rfl (Fr.refl _ _) True.intro
    have ey := kept3 (fun v o r => r) (show My.Kept _ H1 [V.int 0, V.int 1, V.int 2] ys from kk)
    have ey' : ys = [.int (d + d'), .int (g + g'), .int (k + k')] := ey
    subst ey'
    walk_at "wp"
    refine ⟨_, .inl ⟨SqL.of eD, fun du hdu => ?_⟩⟩
    have F2 := Fr.new (S := []) (o := .tup [.int (d + d'), .int (g + g'), .int (k + k')]) hdu
    generalize hH2 : upd H1 du _ = H2 at F2 ⊢
    have edu : H2 du = some (.tup [.int (d + d'), .int (g + g'), .int (k + k')]) := by rw [← hH2]; exact upd_same
    clear hH2
    have rb := rp_bt b1 b2 b3
    walk_at "wp"
    refine repr_l (d := bt (d + d') (g + g') (k + k')) (.tup (SqT.of edu) (.cons (.int _) (.cons (.int _) (.cons (.int _) .nil)))) rb.sh rb.hd rb.dp rb.ln ?_
    walk_at "wp"
    refine new_t (by show 2 ≤ sizeLine; decide) fun tt htt => ?_
    have F3 := Fr.new (S := []) (o := .tup [.str "bad", .str (bt (d + d') (g + g') (k + k')).shown]) htt
    walk_at "wp"
    refine ⟨ITold f s o t (d + d') (g + g') (k + k') H, ?_, ?_⟩
    · walk_at "wp"
      refine ⟨du, _, _, _, rfl, F3.1 _ _ (by simp) edu, ?_⟩
      have F13 := (F1.trans F2).trans F3
      walk_at "wp"
      split
      · rename_i hz
        refine ⟨du, _, _, _, rfl, F3.1 _ _ (by simp) edu, b1, b2, b3, fun H4 F4 => ?_⟩
        walk_at "wp"
        refine new_t (by show 3 ≤ sizeLine; decide) fun t2 ht2 => ?_
        exact ⟨_, t2, _, _, rfl, (F13.trans F4).trans (Fr.new ht2), fun _ => upd_same, fun z => absurd hz z⟩
      · rename_i hz
        exact ⟨_, tt, _, _, rfl, F13, fun z => absurd z hz, fun _ => upd_same⟩
    rintro σ' H4 ⟨du, tt, v1, v2, rfl, F4, et1, et2⟩
    have T4 := T.fr F4
    refine ⟨IAfter f s o t H4, ?_, ?_⟩
    · walk_at "wp"
      have rt := rp_tx (k := k + k') b1 b2 b3
      have c : d' + d = d + d' ∧ g' + g = g + g' ∧ k' + k = k + k' := by omega
      obtain ⟨x1, x2, x3⟩ := c
      refine ⟨f, d, g, k, s, d', g', k', rfl, T4.f, T4.s, b1, b2, b3, fun hz p H5 ep F5 => ?_, fun hz p H5 ep F5 => ?_⟩
      · walk_at "wp"
        have sh : SeqAt.shaped (.tuple [.str "sum", .bool true, .str (tx (d + d') (g + g') (k + k')).shown]) = true := by
          simp [SeqAt.shaped, PyData.canLay0, PyData.canLayAll0, PyData.depth, PyData.depthAll, rt.ok]
          decide +kernel
        refine neD_l (.tup (SqT.of ep) (.cons (.str _) (.cons (.bl _) (.cons (.str _) .nil)))) (.tup (SqT.of (F5.1 _ _ (by simp) (et1 hz))) (.cons (.str _) (.cons (.bl _) (.cons (.str _) .nil)))) sh sh ?_
        walk_at "wp"
        have ev1 : PyData.eqv (.tuple [.str "sum", .bool true, .str (tx (d + d') (g + g') (k + k')).shown]) (.tuple [.str "sum", .bool true, .str (tx (d + d') (g + g') (k + k')).shown]) = true := by simp [PyData.eqv, PyData.eqvAll]
        rw [ev1]
        walk_at "wp"
        have T5 := T4.fr F5
        refine ⟨s, d', g', k', f, d, g, k, rfl, T5.s, T5.f, by rw [x1]; exact b1, by rw [x2]; exact b2, by rw [x3]; exact b3, fun hz2 p2 H6 ep2 F6 => ?_, fun hz2 p2 H6 ep2 F6 => ?_⟩
        · walk_at "wp"
          rw [x1, x2, x3] at ep2
          refine neD_l (.tup (SqT.of ep2) (.cons (.str _) (.cons (.bl _) (.cons (.str _) .nil)))) (.tup (SqT.of (F6.1 _ _ (by simp) (F5.1 _ _ (by simp) (et1 hz)))) (.cons (.str _) (.cons (.bl _) (.cons (.str _) .nil)))) sh sh ?_
          rw [ev1]
          walk_at "wp"
          exact ⟨_, _, _, _, rfl, F5.trans F6⟩
        · rw [x1, x2, x3] at hz2
          exact absurd hz hz2
      · walk_at "wp"
        have sh : SeqAt.shaped (.tuple [.str "bad", .str (bt (d + d') (g + g') (k + k')).shown]) = true := by
          simp [SeqAt.shaped, PyData.canLay0, PyData.canLayAll0, PyData.depth, PyData.depthAll, rb.ok]
          decide +kernel
        refine neD_l (.tup (SqT.of ep) (.cons (.str _) (.cons (.str _) .nil))) (.tup (SqT.of (F5.1 _ _ (by simp) (et2 hz))) (.cons (.str _) (.cons (.str _) .nil))) sh sh ?_
        have ev1 : PyData.eqv (.tuple [.str "bad", .str (bt (d + d') (g + g') (k + k')).shown]) (.tuple [.str "bad", .str (bt (d + d') (g + g') (k + k')).shown]) = true := by simp [PyData.eqv, PyData.eqvAll]
        rw [ev1]
        walk_at "wp"
        have T5 := T4.fr F5
        refine ⟨s, d', g', k', f, d, g, k, rfl, T5.s, T5.f, by rw [x1]; exact b1, by rw [x2]; exact b2, by rw [x3]; exact b3, fun hz2 p2 H6 ep2 F6 => ?_, fun hz2 p2 H6 ep2 F6 => ?_⟩
        · rw [x1, x2, x3] at hz2
          exact absurd hz2 hz
        · walk_at "wp"
          rw [x1, x2, x3] at ep2
          refine neD_l (.tup (SqT.of ep2) (.cons (.str _) (.cons (.str _) .nil))) (.tup (SqT.of (F6.1 _ _ (by simp) (F5.1 _ _ (by simp) (et2 hz)))) (.cons (.str _) (.cons (.str _) .nil))) sh sh ?_
          rw [ev1]
          walk_at "wp"
          exact ⟨_, _, _, _, rfl, F5.trans F6⟩
    rintro σ' H5 ⟨v1, v2, v3, v4, rfl, F5⟩
    have T5 := T4.fr F5
    walk_at "wp"
    have n1 : Bi d := by unfold Bi; omega
    have n2 : Bi g := by unfold Bi; omega
    have n3 : Bi k := by unfold Bi; omega
    have n4 : Bi d' := by unfold Bi; omega
    have n5 : Bi g' := by unfold Bi; omega
    have n6 : Bi k' := by unfold Bi; omega
    have m1 : Bi (-d) := by unfold Bi; omega
    have m2 : Bi (-g) := by unfold Bi; omega
    have m3 : Bi (-k) := by unfold Bi; omega
    have bi0 : Bi 0 := by unfold Bi; omega
    have ok0 : okZ 0 0 0 := .inl ⟨rfl, rfl⟩
    have z1 : d + -d = 0 := by omega
    have z2 : g + -g = 0 := by omega
    have z3_ : k + -k = 0 := by omega
    have okd : okZ (d + -d) (g + -g) (k + -k) := by rw [z1, z2, z3_]; exact ok0
    have oks : okZ (0 + d') (0 + g') (0 + k') := by rw [Int.zero_add, Int.zero_add, Int.zero_add]; exact N.ok2
    refine own_neg T5.f.choose_spec ⟨_, d, g, k, rfl, T5.f, N.ok1, fun p5 H6 hp5 N1 F6 => ?_⟩
    have T6 := T5.fr F6
    walk_at "wp"
    refine ⟨_, _, _, _, rfl, N1, okZ_neg N.ok1, m1, m2, m3, fun H7 F7 => ?_⟩
    have T7 := T6.fr F7
    walk_at "wp"
    refine lc_intsT (ns := [d, g, k]) (fun n => 0 - n) (SqT.of T7.o) (by show 3 ≤ 100000; decide) (fun n => rfl) (fun n hn H' Q' kq => ?_) fun Dl H8 hDl eDl F8 => ?_
    · walk_at "wp"
      exact kq
    have eD8 : H8 Dl = some (.lst [.int (-d), .int (-g), .int (-k)]) := by rw [eDl]; simp
    have T8 := T7.fr F8
    walk_at "wp"
    refine ⟨_, _, _, _, rfl, eD8, m1, m2, m3, fun H9 F9 => ?_⟩
    have T9 := T8.fr F9
    walk_at "wp"
    refine own_neg T9.f.choose_spec ⟨_, d, g, k, rfl, T9.f, N.ok1, fun p9 H10 hp9 N2 F10 => ?_⟩
    have T10 := T9.fr F10
    walk_at "wp"
    refine own_neg N2.choose_spec ⟨_, -d, -g, -k, rfl, N2, okZ_neg N.ok1, fun p10 H11 hp10 N3 F11 => ?_⟩
    have T11 := T10.fr F11
    rw [Int.neg_neg, Int.neg_neg, Int.neg_neg] at N3
    walk_at "wp"
    refine own_ne N3.choose_spec (ty_Offset ev T11.f.choose_spec) (nf_Offset_Offset ev) ⟨_, _, _, _, _, rfl, N3, .inl ⟨_, _, _, _, rfl, T11.f, _, rfl, ?_⟩⟩
    walk_at "wp"
    refine own_neg T11.f.choose_spec ⟨_, d, g, k, rfl, T11.f, N.ok1, fun p11 H12 hp11 N4 F12 => ?_⟩
    have T12 := T11.fr F12
    walk_at "wp"
    refine own_neg N4.choose_spec ⟨_, -d, -g, -k, rfl, N4, okZ_neg N.ok1, fun p12 H13 hp12 N5 F13 => ?_⟩
    have T13 := T12.fr F13
    rw [Int.neg_neg, Int.neg_neg, Int.neg_neg] at N5
    walk_at "wp"
    refine ⟨_, _, _, _, rfl, N5, N.ok1, n1, n2, n3, fun H14 F14 => ?_⟩
    have T14 := T13.fr F14
    walk_at "wp"
    refine ⟨_, _, _, _, rfl, T14.o, n1, n2, n3, fun H15 F15 => ?_⟩
    have T15 := T14.fr F15
    walk_at "wp"
    refine own_neg T15.f.choose_spec ⟨_, d, g, k, rfl, T15.f, N.ok1, fun p15 H16 hp15 N6 F16 => ?_⟩
    have T16 := T15.fr F16
    walk_at "wp"
    refine own_add T16.f.choose_spec N6.choose_spec ⟨_, _, _, _, _, _, _, _, rfl, T16.f, N6, okd, fun p16 H17 hp16 N7 F17 => ?_⟩
    have T17 := T16.fr F17
    rw [z1, z2, z3_] at N7
    walk_at "wp"
    refine mk_l fun x17 ex17 hx17 he17 nx17 => ⟨x17, ex17, 0, 0, 0, rfl, upd_same, ok0, rfl, ?_⟩
    rw [upd_upd]
    have F18 : My.Fr [] H17 (upd (upd H17 ex17 (.own x17)) x17 (.ins (He.ga K "Offset") ex17 (offF 0 0 0))) := ((Fr.refl _ _).put_free he17).put_free hx17
    generalize hH17 : upd (upd H17 ex17 _) x17 _ = H18 at F18 ⊢
    have O17 : IsOff K H18 x17 0 0 0 := ⟨ex17, by rw [← hH17]; exact upd_same⟩
    clear hH17
    have T18 := T17.fr F18
    walk_at "wp"
    have N8 := N7.fr F18 (by simp)
    refine own_ne N8.choose_spec (ty_Offset ev O17.choose_spec) (nf_Offset_Offset ev) ⟨_, _, _, _, _, rfl, N8, .inl ⟨_, _, _, _, rfl, O17, _, rfl, ?_⟩⟩
    walk_at "wp"
    refine mk_l fun x18 ex18 hx18 he18 nx18 => ⟨x18, ex18, 0, 0, 0, rfl, upd_same, ok0, rfl, ?_⟩
    rw [upd_upd]
    have F19 : My.Fr [] H18 (upd (upd H18 ex18 (.own x18)) x18 (.ins (He.ga K "Offset") ex18 (offF 0 0 0))) := ((Fr.refl _ _).put_free he18).put_free hx18
    generalize hH18 : upd (upd H18 ex18 _) x18 _ = H19 at F19 ⊢
    have O18 : IsOff K H19 x18 0 0 0 := ⟨ex18, by rw [← hH18]; exact upd_same⟩
    clear hH18
    have T19 := T18.fr F19
    walk_at "wp"
    refine own_add O18.choose_spec T19.s.choose_spec ⟨_, _, _, _, _, _, _, _, rfl, O18, T19.s, oks, fun p19 H20 hp19 N9 F20 => ?_⟩
    have T20 := T19.fr F20
    rw [Int.zero_add, Int.zero_add, Int.zero_add] at N9
    walk_at "wp"
    refine own_ne N9.choose_spec (ty_Offset ev T20.s.choose_spec) (nf_Offset_Offset ev) ⟨_, _, _, _, _, rfl, N9, .inl ⟨_, _, _, _, rfl, T20.s, _, rfl, ?_⟩⟩
    walk_at "wp"
    refine own_neg T20.f.choose_spec ⟨_, d, g, k, rfl, T20.f, N.ok1, fun p20 H21 hp20 N10 F21 => ?_⟩
    have T21 := T20.fr F21
    walk_at "wp"
    refine own_add T21.f.choose_spec N10.choose_spec ⟨_, _, _, _, _, _, _, _, rfl, T21.f, N10, okd, fun p21 H22 hp21 N11 F22 => ?_⟩
    have T22 := T21.fr F22
    rw [z1, z2, z3_] at N11
    walk_at "wp"
    refine ⟨_, _, _, _, rfl, N11, ok0, bi0, bi0, bi0, fun H23 F23 => ?_⟩
    have T23 := T22.fr F23
    walk_at "wp"
    refine new_t (by show 3 ≤ sizeLine; decide) fun nt hnt => ?_
    have F24 := Fr.new (S := []) (o := .tup [.int 0, .int 0, .int 0]) hnt
    generalize hN : upd H23 nt _ = H24 at F24 ⊢
    have ent : H24 nt = some (.tup [.int 0, .int 0, .int 0]) := by rw [← hN]; exact upd_same
    clear hN
    have T24 := T23.fr F24
    walk_at "wp"
    refine ⟨_, _, _, _, rfl, ent, bi0, bi0, bi0, fun H25 F25 => ?_⟩
    have T25 := T24.fr F25
    walk_at "wp"
    refine mk_l fun x25 ex25 hx25 he25 nx25 => ⟨x25, ex25, 0, 0, 0, rfl, upd_same, ok0, rfl, ?_⟩
    rw [upd_upd]
    have F26 : My.Fr [] H25 (upd (upd H25 ex25 (.own x25)) x25 (.ins (He.ga K "Offset") ex25 (offF 0 0 0))) := ((Fr.refl _ _).put_free he25).put_free hx25
    generalize hH25 : upd (upd H25 ex25 _) x25 _ = H26 at F26 ⊢
    have O25 : IsOff K H26 x25 0 0 0 := ⟨ex25, by rw [← hH25]; exact upd_same⟩
    clear hH25
    have T26 := T25.fr F26
    walk_at "wp"
    refine own_add O25.choose_spec T26.s.choose_spec ⟨_, _, _, _, _, _, _, _, rfl, O25, T26.s, oks, fun p26 H27 hp26 N12 F27 => ?_⟩
    have T27 := T26.fr F27
    rw [Int.zero_add, Int.zero_add, Int.zero_add] at N12
    walk_at "wp"
    refine ⟨_, _, _, _, rfl, N12, N.ok2, n4, n5, n6, fun H28 F28 => ?_⟩
    have T28 := T27.fr F28
    walk_at "wp"
    refine ⟨_, _, _, _, rfl, T28.t, n4, n5, n6, fun H29 F29 => ?_⟩
    have T29 := T28.fr F29
    walk_at "wp"
    refine ⟨_, _, _, _, rfl, T29.f, N.ok1, n1, n2, n3, fun H30 F30 => ?_⟩
    have T30 := T29.fr F30
    walk_at "wp"
    refine ⟨_, _, _, _, rfl, T30.o, n1, n2, n3, fun H31 F31 => ?_⟩
    have T31 := T30.fr F31
    walk_at "wp"
    refine ⟨_, _, _, _, rfl, T31.s, N.ok2, n4, n5, n6, fun H32 F32 => ?_⟩
    have T32 := T31.fr F32
    walk_at "wp"
    refine ⟨_, _, _, _, rfl, T32.t, n4, n5, n6, fun H33 F33 => ?_⟩
    have T33 := T32.fr F33
    walk_at "wp"
    exact q _ (((((((((((((((((((((((((((((F4.trans F5).trans F6).trans F7).trans F8).trans F9).trans F10).trans F11).trans F12).trans F13).trans F14).trans F15).trans F16).trans F17).trans F18).trans F19).trans F20).trans F21).trans F22).trans F23).trans F24).trans F25).trans F26).trans F27).trans F28).trans F29).trans F30).trans F31).trans F32).trans F33)
theorem ok_law (ev : E K mg) : ∃ fd : FuncData, (∀ (s : Shared) (v : Value), BindsTo s fd ⟨[v], []⟩ [("_law_script", v)]) ∧ ∀ base : Heap, My.FnG P w K mg base CX0 8 (He.ga K "law") fd ["_law_script"] (sp_law K) := by
  obtain ⟨fd, F⟩ := ev.e.c.def_ 18 (d := d_law) rfl
  have b := FunD.bindsA (ps := ["_law_script"]) F fun _ _ _ _ _ _ us hl => match us, hl with | [_], _ => rfl
  refine ⟨fd, fun s v => b s [v] rfl, fun base => ?_⟩
  refine okG F sc_law (fun vs H Q Ex h => ?_) (fun cdv A outer s H vs Q Ex hgd hr h => ⟨_, PSs.nox
    (pss_cons (ps_set (i := 1) sc_law.nd rfl (Or.inl rfl) (pe_fn (ok__law_begin ev) (hr.mono (by decide)) rfl (pa_cons (pv 0) pa_nil)))
  (pss_cons (ps_for PassesOwn.never rfl (pi_range1 rfl (free_range ev) (pa_cons pe_int pa_nil)) (pg_name (i := 2) sc_law.nd rfl (Or.inl rfl))
  (pss_cons (ps_set (i := 3) sc_law.nd rfl (Or.inl rfl) (pe_fn (ok__law_good ev) (hr.mono (by decide)) rfl (pa_cons (pv 1) pa_nil)))
  (pss_cons (ps_set (i := 4) sc_law.nd rfl (Or.inl rfl) (pe_fn (ok__law_other ev) (hr.mono (by decide)) rfl (pa_cons (pv 1) (pa_cons (pv 3) pa_nil))))
  (pss_cons (ps_set (i := 5) sc_law.nd rfl (Or.inl rfl) (pe_mk (ok_Offset___init__ ev) (hr.mono (by decide)) rfl (pa_cons (pe_ix ix_tup (pv 3) pe_int (fun _ _ => rfl)) (pa_cons (pe_ix ix_tup (pv 3) pe_int (fun _ _ => rfl)) (pa_cons (pe_ix ix_tup (pv 3) pe_int (fun _ _ => rfl)) pa_nil)))))
  (pss_cons (ps_set (i := 6) sc_law.nd rfl (Or.inl rfl) (pe_mk (ok_Offset___init__ ev) (hr.mono (by decide)) rfl (pa_cons (pe_ix ix_tup (pv 4) pe_int (fun _ _ => rfl)) (pa_cons (pe_ix ix_tup (pv 4) pe_int (fun _ _ => rfl)) (pa_cons (pe_ix ix_tup (pv 4) pe_int (fun _ _ => rfl)) pa_nil)))))
  (pss_cons (ps_if (PW.pt (pw_or (pt_not (pt_val (pe_fnG (ok__law_right ev) hgd (hr.mono (by decide)) rfl (pa_cons (pv 5) (pa_cons (pv 6) (pa_cons (pv 3) (pa_cons (pv 4) pa_nil))))))) (pw_or1 (pt_not (pt_val (pe_fnG (ok__law_right ev) hgd (hr.mono (by decide)) rfl (pa_cons (pv 6) (pa_cons (pv 5) (pa_cons (pv 4) (pa_cons (pv 3) pa_nil)))))))))) (pss_one (ps_ret pe_bl))
  pss_nil)
  (pss_one (ps_if (pt_not (pt_val (pe_fnG (ok__law_right ev) hgd (hr.mono (by decide)) rfl (pa_cons (pv 5) (pa_cons (pv 5) (pa_cons (pv 3) (pa_cons (pv 3) pa_nil))))))) (pss_one (ps_ret pe_bl))
  pss_nil))))))))
  (pss_one (ps_ret pe_bl)))), ?_⟩)
  · first | (obtain ⟨rfl, _⟩ := h; rfl) | (obtain ⟨_, rfl, _⟩ := h; rfl) | (obtain ⟨_, _, rfl, _⟩ := h; rfl) | (obtain ⟨_, _, _, rfl, _⟩ := h; rfl) | (obtain ⟨_, _, _, _, rfl, _⟩ := h; rfl) | (obtain ⟨_, _, _, _, _, rfl, _⟩ := h; rfl) | (obtain ⟨_, _, _, _, _, _, rfl, _⟩ := h; rfl) | (obtain ⟨_, _, _, _, _, _, _, rfl, _⟩ := h; rfl) | (obtain ⟨_, _, _, _, _, _, _, _, rfl, _⟩ := h; rfl) | (obtain ⟨_, _, _, _, _, _, _, _, _, rfl, _⟩ := h; rfl) | (obtain ⟨_, _, _, _, _, _, _, _, _, _, rfl, _⟩ := h; rfl) | (obtain ⟨_, _, _, _, _, _, _, _, _, _, _, rfl, _⟩ := h; rfl) | (obtain ⟨_, _, _, _, _, _, _, _, _, _, _, _, rfl, _⟩ := h; rfl) | (obtain ⟨_, _, _, _, _, _, _, _, _, _, _, _, _, rfl, _⟩ := h; rfl) | (obtain ⟨_, _, _, _, _, _, _, _, _, _, _, _, _, _, rfl, _⟩ := h; rfl) | (obtain ⟨_, _, _, _, _, _, _, _, _, _, _, _, _, _, _, rfl, _⟩ := h; rfl)
  · obtain ⟨a, ns, rfl, hS, hl, q⟩ := h
    walk_at "wp"
    refine ⟨a, ns, rfl, hS, hl, fun p ac ar H1 hp hac har D1 F1 => ?_⟩
    walk_at "wp"
    refine for_r1 (by decide) (ILaw a p ac ar) (by decide) ⟨_, _, _, _, _, rfl, D1⟩ ?_ ?_
    · rintro i σ H hi ⟨v1, v2, v3, v4, v5, rfl, D⟩
      walk_at "wp"
      refine ⟨p, ac, ar, rfl, D, fun o d g k H1 eo ok b1 b2 b3 D1 F1 => ?_⟩
      walk_at "wp"
      refine ⟨p, ac, ar, o, d, g, k, rfl, D1, eo, ok, b1, b2, b3, fun t d' g' k' H2 et ok' c1 c2 c3 D2 F2 => ?_⟩
      have eo2 := F2.1 _ _ (offA D1 eo) eo
      have N : Nums d g k d' g' k' := ⟨ok, ok', by unfold Bk; omega, by unfold Bk; omega, by unfold Bk; omega, c1, c2, c3⟩
      have N' : Nums d' g' k' d g k := ⟨ok', ok, N.b.2.2.2.1, N.b.2.2.2.2.1, N.b.2.2.2.2.2, N.b.1, N.b.2.1, N.b.2.2.1⟩
      have N2 : Nums d g k d g k := ⟨ok, ok, N.b.1, N.b.2.1, N.b.2.2.1, N.b.1, N.b.2.1, N.b.2.2.1⟩
      walk_at "wp"
      refine ix_t (SqT.of eo2) (v := .int d) rfl ?_
      walk_at "wp"
      refine ix_t (SqT.of eo2) (v := .int g) rfl ?_
      walk_at "wp"
      refine ix_t (SqT.of eo2) (v := .int k) rfl ?_
      walk_at "wp"
      refine mk_l fun xA exA hxA heA nxA => ⟨xA, exA, d, g, k, rfl, upd_same, ok, rfl, ?_⟩
      rw [upd_upd]
      have GA : My.Fr [] H2 (upd (upd H2 exA (.own xA)) xA (.ins (He.ga K "Offset") exA (offF d g k))) := ((Fr.refl _ _).put_free heA).put_free hxA
      generalize hHA : upd (upd H2 exA _) xA _ = JA at GA ⊢
      have OA : IsOff K JA xA d g k := ⟨exA, by rw [← hHA]; exact upd_same⟩
      clear hHA
      walk_at "wp"
      have et3 := GA.1 _ _ (by simp) et
      refine ix_t (SqT.of et3) (v := .int d') rfl ?_
      walk_at "wp"
      refine ix_t (SqT.of et3) (v := .int g') rfl ?_
      walk_at "wp"
      refine ix_t (SqT.of et3) (v := .int k') rfl ?_
      walk_at "wp"
      refine mk_l fun xB exB hxB heB nxB => ⟨xB, exB, d', g', k', rfl, upd_same, ok', rfl, ?_⟩
      rw [upd_upd]
      have GB : My.Fr [] JA (upd (upd JA exB (.own xB)) xB (.ins (He.ga K "Offset") exB (offF d' g' k'))) := ((Fr.refl _ _).put_free heB).put_free hxB
      generalize hHB : upd (upd JA exB _) xB _ = JB at GB ⊢
      have OB : IsOff K JB xB d' g' k' := ⟨exB, by rw [← hHB]; exact upd_same⟩
      clear hHB
      walk_at "wp"
      have GAB := GA.trans GB
      have T : Two K JB xA xB o t d g k d' g' k' := ⟨OA.fr GB (by simp), OB, GAB.1 _ _ (by simp) eo2, GAB.1 _ _ (by simp) et⟩
      refine ⟨xA, xB, o, t, d, g, k, d', g', k', rfl, T, N, fun H5 F5 => ?_⟩
      have T5 := T.fr F5
      walk_at "wp"
      refine ⟨xB, xA, t, o, d', g', k', d, g, k, rfl, ⟨T5.s, T5.f, T5.t, T5.o⟩, N', fun H6 F6 => ?_⟩
      have T6 := T5.fr F6
      walk_at "wp"
      refine ⟨xA, xA, o, o, d, g, k, d, g, k, rfl, ⟨T6.f, T6.f, T6.o, T6.o⟩, N2, fun H7 F7 => ?_⟩
      walk_at "wp"
      exact ⟨_, _, _, _, _, rfl, (D2.f0 GAB).f0 ((F5.trans F6).trans F7)⟩
    · rintro σ H ⟨v1, v2, v3, v4, v5, rfl, D⟩
      walk_at "wp"
      exact q _
end
/-! the head -/
def loose : List PySem.Str := (["WindowError", "BadOffset", "zone_of", "_zone_in_group", "Offset", "_law_begin", "_law_draw", "_law_good", "_law_is_good", "_law_other", "_law_zone", "_law_due_of", "_law_told_of", "_law_sum", "_law_right"] : List PySem.Str)
abbrev R : PySem.W.OpenRow := PySem.W.OpenLaw.row PySem.Challenge.rw_windowrows_k18_offsets_added
def ex (K : PySem.W.Frag) : Bool := xs.all fun f => f K
abbrev hk : PySem.W.Hook := He.hookX 5 fa fn [] [] ex
def ob (s : PySem.W.SharedT) : He.AlX := He.obsX 5 fa fn [] [] ex (HandSHeadRun.getT s)
theorem ob_eq (s : PySem.W.SharedT) : ob s = hk.obs s.abs := He.obsX_eq (HandSHeadRun.getT_eq s)
set_option maxHeartbeats 0 in
theorem run (w : World) : HandSHeadRun.RunEq R (PySem.W.view R.prog [18]) hk ob 3000 loose w := by
  intro os
  kernel_rfl
end K18
open PySem PySem.W PySem.Calls PyProof.Rows
set_option maxHeartbeats 0 in
theorem PySem.Challenge.cw_windowrows_k18_offsets_added_holds : PySem.Challenge.rw_windowrows_k18_offsets_added.Holds := by
  w_on; o_law
  refine HandSHeadRun.head_any (r := OpenLaw.row PySem.Challenge.rw_windowrows_k18_offsets_added) (q := view (OpenLaw.row PySem.Challenge.rw_windowrows_k18_offsets_added).prog [18]) (H := K18.hk) (ob := K18.ob) (M := 3000) (loose := K18.loose) (d := HandSHeadRun.topDef (OpenLaw.row PySem.Challenge.rw_windowrows_k18_offsets_added).prog 18) (kwd := []) K18.ob_eq
    (by kernel_rfl) (fun s => by kernel_rfl) K18.run (by kernel_rfl) (by kernel_rfl) (by kernel_rfl) (by rfl) (by first | assumption | decide +kernel) (by decide +kernel) ⟨rfl, rfl, rfl, rfl, rfl, by decide +kernel⟩ ?hw ?hc
  case hw => w_witness2
  case hc =>
    refine My.walk_ofG (l := PySem.Challenge.rw_windowrows_k18_offsets_added) (n := 63) (k := 8) (x := "_law_script") rfl (by decide) (by kernel_rfl) ⟨rfl, by decide, by decide⟩ ?F
    intro w mg fa h Y G hmg0
    obtain ⟨K, KX, c⟩ := Y
    have hmg : mg ("law" : PySem.Str) = some (.ref fa) := by
      have e : (HandSHeadRun.topDef (OpenLaw.row PySem.Challenge.rw_windowrows_k18_offsets_added).prog 18).name = ("law" : PySem.Str) := by kernel_rfl
      rw [← e]
      exact hmg0
    have ev : K18.E K mg := ⟨⟨⟨h, KX, G⟩, c.t.d⟩, c.more⟩
    have e := hmg.symm.trans (ev.glo 12)
    cases e
    obtain ⟨fd, hb, hF⟩ := K18.ok_law (P := (PySem.Challenge.rw_windowrows_k18_offsets_added).prog) (w := w) ev
    exact ⟨K, KX, fd, (K18.sp_law K), hb, fun H a ns hl hS => ⟨a, ns, rfl, hS, hl, fun _ => rfl⟩, hF⟩

