import PyProof.Rows.All
import Wide.All
import OpenK.AllK
import Wide.FinOn
import KE.KStateDown
import Lean
import HandS.ForMost
import HandS.Exc
import HandS.Wide
import HandS.Defaults
import HandS.Evl
import HandS.IsInst
import HandS.Head0
import HandS.Head1
import HandS.Head2
import HandS.HeadEnd
import HandS.HeadHook1
import HandS.HeadHook2
import HandS.HeadHook3
import HandS.HeadHook4
import HandS.EndBits
import HandS.EndTab
import HandS.HeadWalk
import PySem.Challenge.RW_windowrows_k16_possible_offsets
set_option Elab.async false
set_option linter.all false
set_option maxRecDepth 100000
set_option maxHeartbeats 4000000
namespace My
open PySem PySem.Spec PyProof.Rows L2
/-! ### a def that is called by its global name -/
structure Callee (P : Program) (w : World) (K : PySem.W.Frag) (mg : Str → Option Value) (base : Heap) (CX : CXT) (k : Nat) (d : He.DefD) (ps : List Str) (sp : Sp) : Prop where
  ex : ∃ (f : Addr) (fd : FuncData), FnOk P w K mg base CX k f fd ps sp ∧ mg d.name = some (.ref f) ∧ PySem.W.keepIn K (.ref f) = true ∧ Binds K fd ps [] ∧ FunD K d.name d.qual d.params d.body d.scope [] [] f fd
section
variable {X : Cx} {k : Nat} {d : He.DefD} {x : Str} {ps ks : List Str} {sp : Sp} {e : Expr} {es : List Expr} {t tk : TA} {p pos : Pos} {kws : List Keyword}
theorem pe_fn (C : Callee X.prog X.w X.K X.mg X.base CX0 k d ps sp) (hr : Room k X.A) (hg : Gl X x) (ha : PA X (e :: es) t) (hx : d.name = x := by rfl) (hdb : (x == ("__debug__" : Str)) = false := by decide)
    (he : starEach (e :: es) X.env = (false, eval e X.env) :: starEach es X.env := by rfl) (hpl : (backTo pos (starEach es X.env)).any (·.1) = false := by rfl) : PE X (.Call (.Name x p) (e :: es) [] pos) (tCall sp [] E0 t) := by
  obtain ⟨f, fd, F, hm, hk, hb, _⟩ := C.ex
  rw [hx] at hm
  exact pe_call F hr hg hm hk hb .nil pass0 ha hdb he hpl
theorem pe_fn0 (C : Callee X.prog X.w X.K X.mg X.base CX0 k d ps sp) (hr : Room k X.A) (hg : Gl X x) (hx : d.name = x := by rfl) (hdb : (x == ("__debug__" : Str)) = false := by decide) : PE X (.Call (.Name x p) [] [] pos) (tCall sp [] E0 tNil) := by
  obtain ⟨f, fd, F, hm, hk, hb, _⟩ := C.ex
  rw [hx] at hm
  exact pe_call0 F hr hg hm hk hb .nil pass0 hdb
/-- f(k = v, ..), nothing by place: gV puts the values in the parameters' order -/
def KCallK0 (m : Nat) (sp : Sp) (gV : List V → List V) (E : XK) (Q : VK) : List V → Hp → Prop := fun zs H2 => zs.length = m ∧ sp (gV zs) H2 Q E
def tCallK0 (m : Nat) (sp : Sp) (gV : List V → List V) (E : XK) (tk : TA) : TE := fun σ H Q => tk σ H (KCallK0 m sp gV E Q)
theorem pe_fnK0 (C : Callee X.prog X.w X.K X.mg X.base CX0 k d ps sp) (g : {α : Type} → List α → List α) (hr : Room k X.A) (hg : Gl X x) (hkw : PK X kws tk)
    (hb : ∀ (kV doc pm : Value) (an : Option Addr) (cdv ct : Value) (ws : List Value), ws.length = ks.length → bindArgs (PySem.W.fnOf d.name d.qual d.params d.body d.scope .none kV doc pm an cdv ct) ⟨[], ks.zip ws⟩ = pure (ps.zip (g ws)))
    (hv : ∀ {zs : List V} {ws : List Value}, Vals zs ws → Vals (g zs) (g ws)) (hx : d.name = x := by rfl)
    (hall : (backToKw pos (keywordEach kws X.env)).all (·.1.isSome) = true := by rfl) (hks : (backToKw pos (keywordEach kws X.env)).filterMap (·.1) = ks := by rfl) (hdb : (x == ("__debug__" : Str)) = false := by decide)
    (hpl : ((backTo pos (starEach [] X.env)).any (·.1) || (backToKw pos (keywordEach kws X.env)).any (·.1.isNone)) = false := by rfl) :
    PE X (.Call (.Name x p) [] kws pos) (tCallK0 ks.length sp g E0 tk) := by
  obtain ⟨f, fd, F, hm, hk, _, FD⟩ := C.ex
  rw [hx] at hm
  have kb : KBn X.K fd ps 0 ks (fun _ ws => g ws) (fun _ zs => g zs) := by
    obtain ⟨oc, od, dV, kV, doc, pm, an, cdv, ct, osl, rfl, lk, hcd, hD, hK⟩ := FD.ex
    rcases hD with ⟨_, rfl⟩ | ⟨e, _⟩
    · refine ⟨fun s us ws _ l1 l2 => ?_, fun _ r => hv r⟩
      have e := hb kV doc pm an cdv ct ws l2
      cases us with
      | nil => exact .of_eq e
      | cons _ _ => cases l1
    · exact absurd rfl e
  refine ⟨fun pins s σ H Q I h => ?_⟩
  refine wpAny_Call_Name_kw (ld_glob I hg hm ?_ hdb)
  refine PySem.W.callWith_KW0 (h₀ := X.base) I.ok.mod.kin hk hall (thn (hkw.run pos pins s σ H _ I h) fun ws s2 ⟨zs, H2, I2, rz, l2, q2⟩ => ⟨I2.kIn, ?_⟩) hpl
  rw [hks]
  exact run_fnN (us := []) (vs := []) F hr kb pass0 I2 .nil rz rfl l2 q2
end
/-! ### what the head says, by places -/
structure Env (fa : List He.Fa) (fn : List He.DefD) (K : PySem.W.Frag) (mg : Str → Option Value) : Prop where
  at_ : ∃ h : Heap, K.In h ∧ h.Ns mainGlobals mg
  c : He.SaysD fa fn K
section
variable {fa : List He.Fa} {fn : List He.DefD} {K : PySem.W.Frag} {mg : Str → Option Value}
theorem Env.glo (V : Env fa fn K mg) (i : Nat) {x : Str} (h : fa[i]? = some (.glo x) := by rfl) : mg x = some (.ref (He.ga K x)) := by
  obtain ⟨hp, X, G⟩ := V.at_
  exact He.glo_ok X G (V.c.fact i h)
theorem Env.fre (V : Env fa fn K mg) (i : Nat) {x : Str} (h : fa[i]? = some (.free x) := by rfl) : mg x = none := by
  obtain ⟨hp, X, G⟩ := V.at_
  exact He.free_ok X G (V.c.fact i h)
end
/-! ### isinstance of flat values by a built-in class -/
def tyN : V → Option String
  | .non => some "NoneType"
  | .bl _ => some "bool"
  | .int _ => some "int"
  | .str _ => some "str"
  | _ => none
def isiB (x : V) (n : String) : Option Bool := (tyN x).bind fun m => kitB m n
def rIsB : List V → Hp → VK → Prop := fun xs H Q => ∃ (x : V) (n : String) (b : Bool), xs = [x, .ty n] ∧ isiB x n = some b ∧ Q (.bl b) H
theorem tyN_of {K : PySem.W.Frag} {H : Hp} {x : V} {m : String} (h : tyN x = some m) : TyX K H x (.type m) := by
  cases x with
  | non => cases h; exact .base .non
  | bl b => cases h; exact .base (.bl b)
  | int i => cases h; exact .base (.int i)
  | str z => cases h; exact .base (.str z)
  | _ => cases h
theorem call_isB {X : Cx} : CallR X (.builtin "isinstance") rIsB := by
  intro pins s σ H xs us Q I r h
  obtain ⟨x, n, b, rfl, e, q⟩ := h
  cases q1 : tyN x with
  | none => unfold isiB at e; rw [q1] at e; cases e
  | some m =>
    have e2 : kitB m n = some b := by unfold isiB at e; rw [q1] at e; exact e
    exact call_isi pins s σ H _ us Q I r ⟨x, .ty n, .type m, .type n, b, rfl, .ty n, tyN_of q1, kit_ty e2, q⟩
/-! ### values for simp -/
section
variable {i j : Int} {b c : Bool} {x y : Str}
theorem scal_ii : scal (.int i) (.int j) = true := rfl
theorem scal_bb : scal (.bl b) (.bl c) = true := rfl
theorem scal_ss : scal (.str x) (.str y) = true := rfl
theorem scal_is : scal (.int i) (.str y) = true := rfl
theorem scal_si : scal (.str x) (.int j) = true := rfl
theorem scal_ni : scal .non (.int j) = true := rfl
theorem scal_in : scal (.int i) .non = true := rfl
theorem scal_nn : scal .non .non = true := rfl
theorem scal_ns : scal .non (.str y) = true := rfl
theorem scal_sn : scal (.str x) .non = true := rfl
theorem scal_nb : scal .non (.bl c) = true := rfl
theorem scal_bn : scal (.bl b) .non = true := rfl
theorem isi_bb : isiB (.bl b) "bool" = some true := by
  show kitB "bool" "bool" = some true
  decide +kernel
theorem isi_ib : isiB (.int i) "bool" = some false := by
  show kitB "int" "bool" = some false
  decide +kernel
theorem isi_ii : isiB (.int i) "int" = some true := by
  show kitB "int" "int" = some true
  decide +kernel
theorem isi_bi : isiB (.bl b) "int" = some true := by
  show kitB "bool" "int" = some true
  decide +kernel
theorem ex_some {α : Type} {p : α → Prop} {a : α} : (∃ b, some a = some b ∧ p b) = p a := by simp
theorem ite_and_m {a b X Y : Prop} [Decidable a] [Decidable b] : (if a then (if b then X else Y) else Y) = if a ∧ b then X else Y := by
  by_cases ha : a <;> by_cases hb : b <;> simp [ha, hb]
theorem ite_or_m {a b X Y : Prop} [Decidable a] [Decidable b] : (if a then X else if b then X else Y) = if a ∨ b then X else Y := by
  by_cases ha : a <;> by_cases hb : b <;> simp [ha, hb]
end
theorem q_bl {Q : VK} {H : Hp} {b c : Bool} (q : Q (.bl b) H) (e : b = c) : Q (.bl c) H := e ▸ q
theorem q_v {Q : VK} {H : Hp} {b c : V} (q : Q b H) (e : b = c) : Q c H := e ▸ q
/-! ### steps: what stands closed in the reading -/
section
variable {K : PySem.W.Frag} {H : Hp} {a p : Addr} {xs : List V} {i k : Int} {j : Nat} {v : V} {Q : VK}
theorem call_lenR {X : Cx} : CallR X (.builtin "len") (Evl.rLenS X.K) := call_len_seq
theorem ix_l (h : SqL K H a xs) (e : atI xs i = some v) (q : Q v H) : rIxL K (.ref a) (.int i) H Q := ⟨a, xs, i, v, rfl, rfl, h, e, q⟩
theorem ix_t (h : SqT K H a xs) (e : atI xs i = some v) (q : Q v H) : rIxT K (.ref a) (.int i) H Q := ⟨a, xs, i, v, rfl, rfl, h, e, q⟩
theorem set_l {Q : Hp → Prop} (h : H a = some (.lst xs)) (e : ixN xs.length k = some j) (q : Q (upd H a (.lst (xs.set j v)))) : rSetL (.ref a) (.int k) v H Q := ⟨a, xs, k, j, rfl, rfl, h, e, q⟩
theorem len_l (h : SqL K H a xs) (q : Q (.int xs.length) H) : Evl.rLenS K [.ref a] H Q := ⟨a, xs, rfl, .inl h, q⟩
theorem len_t (h : SqT K H a xs) (q : Q (.int xs.length) H) : Evl.rLenS K [.ref a] H Q := ⟨a, xs, rfl, .inr h, q⟩
theorem app_l (h : H a = some (.lst xs)) (e : xs.length < sizeLine) (q : Q .non (upd H a (.lst (xs ++ [v])))) : rAppend (.ref a) [v] H Q := ⟨a, xs, v, rfl, rfl, h, e, q⟩
theorem ty_l (h : H a = some (.lst xs)) : tyV K "list" (.ref a) H := .inl ⟨rfl, _, SqL.of h⟩
theorem at_ints {ns : List Int} (h0 : 0 ≤ i) (h1 : i < ns.length) : atI (ns.map V.int) i = some (.int (ns.getD i.toNat 0)) := by
  obtain ⟨n, rfl⟩ : ∃ n : Nat, i = (n : Int) := ⟨i.toNat, by omega⟩
  have hn : n < ns.length := by omega
  have e : (ns.map V.int)[n]? = some (.int (ns.getD n 0)) := by
    rw [List.getElem?_map, List.getD_eq_getElem?_getD, List.getElem?_eq_getElem hn]; rfl
  rw [Int.toNat_natCast]
  exact atI_nat e
theorem ix_ints {ns : List Int} (h0 : 0 ≤ i) (h1 : i < ns.length) : ixN (ns.map V.int).length i = some i.toNat := by
  rw [List.length_map]
  unfold ixN
  rw [if_pos h0, if_pos (by omega)]
theorem set_ints {ns : List Int} {n : Nat} {y : Int} : (ns.map V.int).set n (.int y) = (ns.set n y).map V.int := by
  rw [List.map_set]
end
/-! ### frames: what is tracked off the places of S stays -/
def Fr (S : List Addr) (H H' : Hp) : Prop := (∀ b o, b ∉ S → H b = some o → H' b = some o) ∧ ∀ b, H' b = none → H b = none
theorem Fr.refl (S : List Addr) (H : Hp) : Fr S H H := ⟨fun _ _ _ h => h, fun _ h => h⟩
theorem Fr.trans {S : List Addr} {H H1 H2 : Hp} (a : Fr S H H1) (b : Fr S H1 H2) : Fr S H H2 := ⟨fun c o n h => b.1 c o n (a.1 c o n h), fun c h => a.2 c (b.2 c h)⟩
theorem Fr.mono {S T : List Addr} {H H1 : Hp} (a : Fr S H H1) (h : ∀ b, b ∈ S → b ∈ T) : Fr T H H1 := ⟨fun c o n e => a.1 c o (fun z => n (h c z)) e, a.2⟩
theorem Fr.new {S : List Addr} {H : Hp} {p : Addr} {o : HO} (h : H p = none) : Fr S H (upd H p o) := by
  refine ⟨fun b u _ e => ?_, fun b e => ?_⟩
  · rw [upd_ne (ne_of_none e h)]; exact e
  · by_cases hb : b = p
    · rw [hb, upd_same] at e; cases e
    · rw [upd_ne hb] at e; exact e
theorem Fr.set {S : List Addr} {H : Hp} {p : Addr} {o : HO} (h : p ∈ S) : Fr S H (upd H p o) → Fr S H (upd H p o) := id
theorem Fr.put {S : List Addr} {H H1 : Hp} {p : Addr} {o : HO} (a : Fr S H H1) (h : p ∈ S) : Fr S H (upd H1 p o) := by
  refine ⟨fun b u n e => ?_, fun b e => ?_⟩
  · have hb : b ≠ p := fun z => n (z ▸ h)
    rw [upd_ne hb]; exact a.1 b u n e
  · by_cases hb : b = p
    · rw [hb, upd_same] at e; cases e
    · rw [upd_ne hb] at e; exact a.2 b e
theorem Fr.put_new {S : List Addr} {H H1 : Hp} {p : Addr} {o : HO} (a : Fr S H H1) (h : H1 p = none) : Fr S H (upd H1 p o) := a.trans (Fr.new h)
theorem Fr.l {S : List Addr} {K : PySem.W.Frag} {H H' : Hp} {a : Addr} {xs : List V} (f : Fr S H H') (n : a ∉ S) (h : SqL K H a xs) : SqL K H' a xs := by
  rcases h with (h | ⟨o, h⟩) | h
  · exact .inl (.inl (f.1 _ _ n h))
  · exact .inl (.inr ⟨o, f.1 _ _ n h⟩)
  · exact .inr h
theorem Fr.t {S : List Addr} {K : PySem.W.Frag} {H H' : Hp} {a : Addr} {xs : List V} (f : Fr S H H') (n : a ∉ S) (h : SqT K H a xs) : SqT K H' a xs := by
  rcases h with (h | ⟨o, h⟩) | h
  · exact .inl (.inl (f.1 _ _ n h))
  · exact .inl (.inr ⟨o, f.1 _ _ n h⟩)
  · exact .inr h
/-! ### the draws: at a the list of the cells' list at ac, the rests' list at ar and the turn -/
structure Dr (H : Hp) (a ac ar : Addr) : Prop where
  ex : ∃ (cs rs : List Int) (t : Int), H a = some (.lst [.ref ac, .ref ar, .int t]) ∧ H ac = some (.lst (cs.map V.int)) ∧ H ar = some (.lst (rs.map V.int)) ∧ cs.length = rs.length ∧ 0 < cs.length ∧ cs.length ≤ 1000 ∧ 0 ≤ t
  n1 : a ≠ ac
  n2 : a ≠ ar
  n3 : ac ≠ ar
theorem Dr.fr {H H' : Hp} {a ac ar : Addr} {S : List Addr} (d : Dr H a ac ar) (f : Fr S H H') (h1 : a ∉ S) (h2 : ac ∉ S) (h3 : ar ∉ S) : Dr H' a ac ar := by
  obtain ⟨⟨cs, rs, t, e1, e2, e3, q⟩, n1, n2, n3⟩ := d
  exact ⟨⟨cs, rs, t, f.1 _ _ h1 e1, f.1 _ _ h2 e2, f.1 _ _ h3 e3, q⟩, n1, n2, n3⟩
/-- a draw below many -/
def spDraw : Sp := fun vs H Q _ => ∃ (a ac ar : Addr) (m : Int), vs = [.ref a, .int m] ∧ 0 < m ∧ m < 2 ^ 100 ∧ Dr H a ac ar ∧ ∀ (v : Int) (H' : Hp), 0 ≤ v → v < m → Dr H' a ac ar → Fr [a, ar] H H' → Q (.int v) H'
/-- the draws of a script -/
def spBegin (K : PySem.W.Frag) : Sp := fun vs H Q _ => ∃ (a : Addr) (ns : List Int), vs = [.ref a] ∧ SqL K H a (ns.map V.int) ∧ ns.length ≤ 63 ∧ ∀ (p ac ar : Addr) (H' : Hp), H p = none → H ac = none → H ar = none → Dr H' p ac ar → Fr [] H H' → Q (.ref p) H'
end My
/-! What stands behind each piece, by name: the readings then open step by step, from the left. -/
namespace My
open PySem PySem.Spec PyProof.Rows L2
section
variable {K : PySem.W.Frag} {σ : L2.St} {H : Hp} {Q : VK} {D : Ends} {i : Nat} {v x y : V} {ta tb tc te : TE} {t u : TS} {c c' : TT} {ts tr tk : TA} {g : TG} {QB : Bool → Hp → Prop} {QA : List V → Hp → Prop} {QN : L2.St → Hp → Prop} {QH : Hp → Prop}
def KAsg (g : TG) (D : Ends) (σ : L2.St) : VK := fun x H1 => g x σ H1 D.nx
def KDrop (D : Ends) (σ : L2.St) : VK := fun _ H1 => D.nx σ H1
def KIf (t u : TS) (D : Ends) (σ : L2.St) : Bool → Hp → Prop := fun b H1 => if b = true then t D σ H1 else u D σ H1
def KB (Q : Bool → Hp → Prop) : VK := fun x H1 => ∃ k, x = .bl k ∧ Q k H1
def KAnd (u : TT) (σ : L2.St) (Q : Bool → Hp → Prop) : Bool → Hp → Prop := fun b H1 => if b = true then u σ H1 Q else Q false H1
def KOr (u : TT) (σ : L2.St) (Q : Bool → Hp → Prop) : Bool → Hp → Prop := fun b H1 => if b = true then Q true H1 else u σ H1 Q
def KNot (Q : Bool → Hp → Prop) : Bool → Hp → Prop := fun b H1 => Q (!b) H1
def KOp1 (r : R2) (tb : TE) (σ : L2.St) (Q : VK) : VK := fun x H1 => tb σ H1 fun y H2 => r x y H2 Q
def KOp2 (r : R2) (x : V) (Q : VK) : VK := fun y H2 => r x y H2 Q
def KUn (r : V → Hp → VK → Prop) (Q : VK) : VK := fun x H1 => r x H1 Q
def KArg1 (tr : TA) (σ : L2.St) (Q : List V → Hp → Prop) : VK := fun x H1 => tr σ H1 fun xs H2 => Q (x :: xs) H2
def KArg2 (x : V) (Q : List V → Hp → Prop) : List V → Hp → Prop := fun xs H2 => Q (x :: xs) H2
def KCall (sp : Sp) (dvs : List V) (E : XK) (Q : VK) : List V → Hp → Prop := fun vs H1 => sp (vs ++ dvs) H1 Q E
def KCB (r : List V → Hp → VK → Prop) (Q : VK) : List V → Hp → Prop := fun vs H1 => r vs H1 Q
def KTup (Q : VK) : List V → Hp → Prop := fun xs H1 => xs.length ≤ sizeLine ∧ ∀ p, H1 p = none → Q (.ref p) (upd H1 p (.tup xs))
def KLst (Q : VK) : List V → Hp → Prop := fun xs H1 => xs.length ≤ sizeLine ∧ ∀ p, H1 p = none → Q (.ref p) (upd H1 p (.lst xs))
def KIfE (ta tb : TE) (σ : L2.St) (Q : VK) : Bool → Hp → Prop := fun b H1 => if b = true then ta σ H1 Q else tb σ H1 Q
def KAndV (tb : TE) (σ : L2.St) (Q : VK) : VK := fun x H1 => ∃ c, x = .bl c ∧ if c = true then tb σ H1 Q else Q (.bl false) H1
def KOrV (tb : TE) (σ : L2.St) (Q : VK) : VK := fun x H1 => ∃ c, x = .bl c ∧ if c = true then Q (.bl true) H1 else tb σ H1 Q
def KNotV (Q : VK) : VK := fun x H1 => ∃ c, x = .bl c ∧ Q (.bl (!c)) H1
def KFld (K : PySem.W.Frag) (f : Str) (Q : VK) : VK := fun x H1 => ∃ a C dx fs v, x = .ref a ∧ H1 a = some (.ins C dx fs) ∧ Cls K C ∧ NoAttr K C f ∧ fs.lookup f = some v ∧ Q v H1
def KSub1 (ti : TE) (t : TSet) (v : V) (σ : L2.St) (Q : L2.St → Hp → Prop) : VK := fun o H1 => ti σ H1 fun i H2 => t o i v H2 fun H3 => Q σ H3
def KSub2 (t : TSet) (o v : V) (σ : L2.St) (Q : L2.St → Hp → Prop) : VK := fun i H2 => t o i v H2 fun H3 => Q σ H3
def KAt (σ : L2.St) (Q : L2.St → Hp → Prop) : Hp → Prop := fun H3 => Q σ H3
def KAug (i : Nat) (te : TE) (ti : TIp) (D : Ends) (σ : L2.St) : VK := fun x H => te σ H fun y H1 => ti x y H1 fun z H2 => D.nx (σ.set i (some z)) H2
def KAug2 (i : Nat) (x : V) (ti : TIp) (D : Ends) (σ : L2.St) : VK := fun y H1 => ti x y H1 fun z H2 => D.nx (σ.set i (some z)) H2
def KSet (i : Nat) (D : Ends) (σ : L2.St) : VK := fun z H2 => D.nx (σ.set i (some z)) H2
def KBM (K : PySem.W.Frag) (T : String) (r : V → List V → Hp → VK → Prop) (t : TA) (σ : L2.St) (Q : VK) : VK := fun x H1 => tyV K T x H1 ∧ t σ H1 fun xs H2 => r x xs H2 Q
def KBM2 (r : V → List V → Hp → VK → Prop) (x : V) (Q : VK) : List V → Hp → Prop := fun xs H2 => r x xs H2 Q
def KSl1 (r : V → Option Int → Option Int → Hp → VK → Prop) (tl th : TO) (σ : L2.St) (Q : VK) : VK := fun x H1 => tl σ H1 fun l H2 => th σ H2 fun u H3 => r x l u H3 Q
def KSl2 (r : V → Option Int → Option Int → Hp → VK → Prop) (x : V) (th : TO) (σ : L2.St) (Q : VK) : Option Int → Hp → Prop := fun l H2 => th σ H2 fun u H3 => r x l u H3 Q
def KSl3 (r : V → Option Int → Option Int → Hp → VK → Prop) (x : V) (l : Option Int) (Q : VK) : Option Int → Hp → Prop := fun u H3 => r x l u H3 Q
def KPart (Q : Option Int → Hp → Prop) : VK := fun x H1 => ∃ i, x = .int i ∧ Q (some i) H1
def KMake (C : Addr) (sp : Sp) (dvs : List V) (E : XK) (Q : VK) : List V → Hp → Prop := fun vs H1 => ∀ x dx, H1 x = none → H1 dx = none → dx ≠ x → sp (.ref x :: (vs ++ dvs)) (upd (upd H1 dx (.own x)) x (.ins C dx [])) (fun v H2 => v = .non ∧ Q (.ref x) H2) E
def KMeth (C : Addr) (m : Str) (sp : Sp) (dvs : List V) (E : XK) (t : TA) (σ : L2.St) (Q : VK) : VK := fun x H1 => ∃ a dx fs, x = .ref a ∧ H1 a = some (.ins C dx fs) ∧ fs.lookup m = none ∧ t σ H1 fun vs H2 => sp (x :: (vs ++ dvs)) H2 Q E
def KSf1 (K : PySem.W.Frag) (ta : TE) (f : Str) (D : Ends) (σ : L2.St) : VK := fun y H1 => ta σ H1 fun x H2 => ∃ a C dx fs, x = .ref a ∧ H2 a = some (.ins C dx fs) ∧ Cls K C ∧ NoAttr K C f ∧ fs.length < 1000 ∧ D.nx σ (upd H2 a (.ins C dx (putF f y fs)))
def KSf2 (K : PySem.W.Frag) (y : V) (f : Str) (D : Ends) (σ : L2.St) : VK := fun x H2 => ∃ a C dx fs, x = .ref a ∧ H2 a = some (.ins C dx fs) ∧ Cls K C ∧ NoAttr K C f ∧ fs.length < 1000 ∧ D.nx σ (upd H2 a (.ins C dx (putF f y fs)))
def KTg (u : TGs) (r : List V) (Q : L2.St → Hp → Prop) : L2.St → Hp → Prop := fun σ' H' => u r σ' H' Q
/-! statements -/
theorem mw_seq : tSeq t u D σ H = t ⟨u D, D.rt, D.bk, D.ct⟩ σ H := rfl
theorem mw_next : tNext D σ H = D.nx σ H := rfl
theorem mw_brk : tBreak D σ H = D.bk σ H := rfl
theorem mw_cont : tCont D σ H = D.ct σ H := rfl
theorem mw_ret : tRet te D σ H = te σ H D.rt := rfl
theorem mw_retN : tRetN D σ H = D.rt .non H := rfl
theorem mw_asg : tAsg te g D σ H = te σ H (KAsg g D σ) := rfl
theorem mw_asgN : KAsg (gName i) D σ x H = D.nx (σ.set i (some x)) H := rfl
theorem mw_asgS {ti : TE} {r : TSet} : KAsg (gSub ta ti r) D σ v H = ta σ H (KSub1 ti r v σ D.nx) := rfl
theorem mw_sub1 {r : TSet} {o : V} : KSub1 tb r v σ QN o H = tb σ H (KSub2 r o v σ QN) := rfl
theorem mw_sub2 {r : TSet} {o k : V} : KSub2 r o v σ QN k H = r o k v H (KAt σ QN) := rfl
theorem mw_at : KAt σ QN H = QN σ H := rfl
theorem mw_drop : tDrop te D σ H = te σ H (KDrop D σ) := rfl
theorem mw_dropK : KDrop D σ x H = D.nx σ H := rfl
theorem mw_aug {ti : TIp} : tAug i te ti D σ H = tVar i σ H (KAug i te ti D σ) := rfl
theorem mw_augK {ti : TIp} : KAug i te ti D σ x H = te σ H (KAug2 i x ti D σ) := rfl
theorem mw_aug2 {f : Int → Int → Int} {a b : Int} : KAug2 i (.int a) (ipI f) D σ (.int b) H = D.nx (σ.set i (some (.int (f a b)))) H := by
  refine propext ⟨fun h => ?_, fun h => ⟨a, b, rfl, rfl, h⟩⟩
  obtain ⟨_, _, e1, e2, h⟩ := h
  cases e1; cases e2; exact h
theorem mw_if : tIfS c t u D σ H = c σ H (KIf t u D σ) := rfl
theorem mw_ifK {b : Bool} : KIf t u D σ b H = if b = true then t D σ H else u D σ H := rfl
/-! tests -/
theorem mw_test : tTest te σ H QB = te σ H (KB QB) := rfl
theorem mw_B : tB te σ H QB = te σ H (KB QB) := rfl
theorem mw_KB {b : Bool} : KB QB (.bl b) H = QB b H := by
  refine propext ⟨fun h => ?_, fun h => ⟨b, rfl, h⟩⟩
  obtain ⟨_, e, h⟩ := h
  cases e; exact h
theorem mw_and : tAnd c c' σ H QB = c σ H (KAnd c' σ QB) := rfl
theorem mw_andK {b : Bool} : KAnd c σ QB b H = if b = true then c σ H QB else QB false H := rfl
theorem mw_or : tOr c c' σ H QB = c σ H (KOr c' σ QB) := rfl
theorem mw_orK {b : Bool} : KOr c σ QB b H = if b = true then QB true H else c σ H QB := rfl
theorem mw_not : tNot c σ H QB = c σ H (KNot QB) := rfl
theorem mw_notK {b : Bool} : KNot QB b H = QB (!b) H := rfl
theorem mw_yes : tYes σ H QB = QB true H := rfl
theorem mw_cxK {CX : CXT} {P : Program} {w : World} {mg : Str → Option Value} {base : Heap} {N : List Str} {q : Str} {sc : Scope} {f : Addr} {cd : Value} {A : Around} {o : List PySem.Env} {s : Shared} {E : XK} : (cxOf CX P w K mg base N q sc f cd A o s H E).K = K := rfl
/-! expressions -/
theorem mw_c : tC v σ H Q = Q v H := rfl
theorem mw_var0 : tVar 0 (some v :: σ) H Q = Q v H := by
  refine propext ⟨fun h => ?_, fun h => ⟨v, rfl, h⟩⟩
  obtain ⟨_, e, h⟩ := h
  cases e; exact h
theorem mw_varS {n : Nat} {o : Option V} : tVar (n + 1) (o :: σ) H Q = tVar n σ H Q := rfl
theorem mw_op {r : R2} : tOp r ta tb σ H Q = ta σ H (KOp1 r tb σ Q) := rfl
theorem mw_op1 {r : R2} : KOp1 r tb σ Q x H = tb σ H (KOp2 r x Q) := rfl
theorem mw_op2 {r : R2} : KOp2 r x Q y H = r x y H Q := rfl
theorem mw_un {r : V → Hp → VK → Prop} : tUn r ta σ H Q = ta σ H (KUn r Q) := rfl
theorem mw_unK {r : V → Hp → VK → Prop} : KUn r Q x H = r x H Q := rfl
theorem mw_rI0 {f : Int → Int → V} {a b : Int} : rI0 f (.int a) (.int b) H Q = Q (f a b) H := by
  refine propext ⟨fun h => ?_, fun h => ⟨a, b, rfl, rfl, h⟩⟩
  obtain ⟨_, _, e1, e2, h⟩ := h
  cases e1; cases e2; exact h
theorem mw_rI {C : Int → Int → Prop} {f : Int → Int → V} {a b : Int} : rI C f (.int a) (.int b) H Q = (C a b ∧ Q (f a b) H) := by
  refine propext ⟨fun h => ?_, fun h => ⟨a, b, rfl, rfl, h⟩⟩
  obtain ⟨_, _, e1, e2, h⟩ := h
  cases e1; cases e2; exact h
theorem mw_rU {f : Int → V} {a : Int} : rU f (.int a) H Q = Q (f a) H := by
  refine propext ⟨fun h => ?_, fun h => ⟨a, rfl, h⟩⟩
  obtain ⟨_, e1, h⟩ := h
  cases e1; exact h
theorem mw_eq (h : scal x y = true) : rEq x y H Q = Q (.bl (decide (x = y))) H := propext ⟨fun z => z.2, fun z => ⟨h, z⟩⟩
theorem mw_ne (h : scal x y = true) : rNe x y H Q = Q (.bl (!decide (x = y))) H := propext ⟨fun z => z.2, fun z => ⟨h, z⟩⟩
theorem mw_eqII {a b : Int} : rEq (.int a) (.int b) H Q = Q (.bl (decide (a = b))) H := by
  rw [mw_eq rfl]; simp
theorem mw_neII {a b : Int} : rNe (.int a) (.int b) H Q = Q (.bl (!decide (a = b))) H := by
  rw [mw_ne rfl]; simp
theorem mw_eqBB {a b : Bool} : rEq (.bl a) (.bl b) H Q = Q (.bl (decide (a = b))) H := by
  rw [mw_eq rfl]; simp
theorem mw_neBB {a b : Bool} : rNe (.bl a) (.bl b) H Q = Q (.bl (!decide (a = b))) H := by
  rw [mw_ne rfl]; simp
theorem mw_eqSS {a b : Str} : rEq (.str a) (.str b) H Q = Q (.bl (decide (a = b))) H := by
  rw [mw_eq rfl]; simp
theorem mw_neSS {a b : Str} : rNe (.str a) (.str b) H Q = Q (.bl (!decide (a = b))) H := by
  rw [mw_ne rfl]; simp
theorem mw_cons : tCons ta tr σ H QA = ta σ H (KArg1 tr σ QA) := rfl
theorem mw_arg1 : KArg1 tr σ QA x H = tr σ H (KArg2 x QA) := rfl
theorem mw_arg2 {xs : List V} : KArg2 x QA xs H = QA (x :: xs) H := rfl
theorem mw_nil : tNil σ H QA = QA [] H := rfl
theorem mw_call {sp : Sp} {dvs : List V} {E : XK} : tCall sp dvs E ts σ H Q = ts σ H (KCall sp dvs E Q) := rfl
theorem mw_callK {sp : Sp} {E : XK} {vs : List V} : KCall sp [] E Q vs H = sp vs H Q E := by
  unfold KCall
  rw [List.append_nil]
theorem mw_callK0 {n : Nat} {sp : Sp} {gV : List V → List V} {E : XK} : tCallK0 n sp gV E ts σ H Q = ts σ H (KCallK0 n sp gV E Q) := rfl
theorem mw_callK0K {n : Nat} {sp : Sp} {gV : List V → List V} {E : XK} {zs : List V} : KCallK0 n sp gV E Q zs H = (zs.length = n ∧ sp (gV zs) H Q E) := rfl
theorem mw_CB {r : List V → Hp → VK → Prop} : tCB r ts σ H Q = ts σ H (KCB r Q) := rfl
theorem mw_CBK {r : List V → Hp → VK → Prop} {vs : List V} : KCB r Q vs H = r vs H Q := rfl
theorem mw_tup : tTup ts σ H Q = ts σ H (KTup Q) := rfl
theorem mw_lst : tLst ts σ H Q = ts σ H (KLst Q) := rfl
theorem mw_ife : tIf c ta tb σ H Q = c σ H (KIfE ta tb σ Q) := rfl
theorem mw_ifeK {b : Bool} : KIfE ta tb σ Q b H = if b = true then ta σ H Q else tb σ H Q := rfl
theorem mw_andV : tAndV ta tb σ H Q = ta σ H (KAndV tb σ Q) := rfl
theorem mw_andVK {b : Bool} : KAndV tb σ Q (.bl b) H = if b = true then tb σ H Q else Q (.bl false) H := by
  refine propext ⟨fun h => ?_, fun h => ⟨b, rfl, h⟩⟩
  obtain ⟨_, e, h⟩ := h
  cases e; exact h
theorem mw_orV : tOrV ta tb σ H Q = ta σ H (KOrV tb σ Q) := rfl
theorem mw_orVK {b : Bool} : KOrV tb σ Q (.bl b) H = if b = true then Q (.bl true) H else tb σ H Q := by
  refine propext ⟨fun h => ?_, fun h => ⟨b, rfl, h⟩⟩
  obtain ⟨_, e, h⟩ := h
  cases e; exact h
theorem mw_notV : tNotV ta σ H Q = ta σ H (KNotV Q) := rfl
theorem mw_notVK {b : Bool} : KNotV Q (.bl b) H = Q (.bl (!b)) H := by
  refine propext ⟨fun h => ?_, fun h => ⟨b, rfl, h⟩⟩
  obtain ⟨_, e, h⟩ := h
  cases e; exact h
theorem mw_fld {f : Str} : tFld K ta f σ H Q = ta σ H (KFld K f Q) := rfl
theorem mw_BM {T : String} {r : V → List V → Hp → VK → Prop} : tBM K T r ta ts σ H Q = ta σ H (KBM K T r ts σ Q) := rfl
theorem mw_BMK {T : String} {r : V → List V → Hp → VK → Prop} : KBM K T r ts σ Q x H = (tyV K T x H ∧ ts σ H (KBM2 r x Q)) := rfl
theorem mw_BM2 {r : V → List V → Hp → VK → Prop} {vs : List V} : KBM2 r x Q vs H = r x vs H Q := rfl
theorem mw_sl {r : V → Option Int → Option Int → Hp → VK → Prop} {tl th : TO} : tSl r te tl th σ H Q = te σ H (KSl1 r tl th σ Q) := rfl
theorem mw_sl1 {r : V → Option Int → Option Int → Hp → VK → Prop} {tl th : TO} : KSl1 r tl th σ Q x H = tl σ H (KSl2 r x th σ Q) := rfl
theorem mw_sl2 {r : V → Option Int → Option Int → Hp → VK → Prop} {th : TO} {l : Option Int} : KSl2 r x th σ Q l H = th σ H (KSl3 r x l Q) := rfl
theorem mw_sl3 {r : V → Option Int → Option Int → Hp → VK → Prop} {l n : Option Int} : KSl3 r x l Q n H = r x l n H Q := rfl
theorem mw_part {QO : Option Int → Hp → Prop} : tPart te σ H QO = te σ H (KPart QO) := rfl
theorem mw_partK {QO : Option Int → Hp → Prop} {a : Int} : KPart QO (.int a) H = QO (some a) H := by
  refine propext ⟨fun h => ?_, fun h => ⟨a, rfl, h⟩⟩
  obtain ⟨_, e, h⟩ := h
  cases e; exact h
theorem mw_noPart {QO : Option Int → Hp → Prop} : tNoPart σ H QO = QO none H := rfl
theorem mw_make {C : Addr} {sp : Sp} {dvs : List V} {E : XK} : tMake C sp dvs E ts σ H Q = ts σ H (KMake C sp dvs E Q) := rfl
theorem mw_meth {C : Addr} {m : Str} {sp : Sp} {dvs : List V} {E : XK} : tMeth C m sp dvs E ta ts σ H Q = ta σ H (KMeth C m sp dvs E ts σ Q) := rfl
theorem mw_sfld {f : Str} : sFld K ta te f D σ H = te σ H (KSf1 K ta f D σ) := rfl
theorem mw_sf1 {f : Str} : KSf1 K ta f D σ y H = ta σ H (KSf2 K y f D σ) := rfl
/-! calls of built-ins on flat values -/
def rInt : List V → Hp → VK → Prop := fun xs H Q => (∃ i, xs = [.int i] ∧ Q (.int i) H) ∨ ∃ k, xs = [.bl k] ∧ Q (.int (if k then 1 else 0)) H
theorem call_intR {X : Cx} : CallR X (.type "int") rInt := call_int1
theorem mw_intI {a : Int} : rInt [.int a] H Q = Q (.int a) H := by
  refine propext ⟨fun h => ?_, fun h => .inl ⟨a, rfl, h⟩⟩
  rcases h with ⟨_, e, h⟩ | ⟨_, e, h⟩
  · cases e; exact h
  · cases e
theorem mw_intB {b : Bool} : rInt [.bl b] H Q = Q (.int (if b then 1 else 0)) H := by
  refine propext ⟨fun h => ?_, fun h => .inr ⟨b, rfl, h⟩⟩
  rcases h with ⟨_, e, h⟩ | ⟨_, e, h⟩
  · cases e
  · cases e; exact h
def rAbs : List V → Hp → VK → Prop := fun xs H Q => ∃ i, xs = [.int i] ∧ Q (.int (i.natAbs : Int)) H
theorem call_absR {X : Cx} : CallR X (.builtin "abs") rAbs := by
  intro pins s σ H xs us Q I r h
  obtain ⟨i, rfl, q⟩ := h
  refine call_abs pins s σ H _ us Q I r ⟨i, rfl, ?_⟩
  have e : (if i < 0 then -i else i) = (i.natAbs : Int) := by split <;> omega
  rw [e]; exact q
theorem mw_abs {a : Int} : rAbs [.int a] H Q = Q (.int (a.natAbs : Int)) H := by
  refine propext ⟨fun h => ?_, fun h => ⟨a, rfl, h⟩⟩
  obtain ⟨_, e, h⟩ := h
  cases e; exact h
def rMax : List V → Hp → VK → Prop := fun xs H Q => ∃ i j, xs = [.int i, .int j] ∧ Q (.int (max i j)) H
theorem call_maxR {X : Cx} (hc : X.calm = true) : CallR X (.builtin "max") rMax := by
  intro pins s σ H xs us Q I r h
  obtain ⟨i, j, rfl, q⟩ := h
  refine call_max2 hc pins s σ H _ us Q I r ⟨i, j, rfl, ?_⟩
  have e : (if j > i then j else i) = max i j := by split <;> omega
  rw [e]; exact q
theorem mw_max {a b : Int} : rMax [.int a, .int b] H Q = Q (.int (max a b)) H := by
  refine propext ⟨fun h => ?_, fun h => ⟨a, b, rfl, h⟩⟩
  obtain ⟨_, _, e, h⟩ := h
  cases e; exact h
def rMin : List V → Hp → VK → Prop := fun xs H Q => ∃ i j, xs = [.int i, .int j] ∧ Q (.int (min i j)) H
theorem call_minR {X : Cx} (hc : X.calm = true) : CallR X (.builtin "min") rMin := by
  intro pins s σ H xs us Q I r h
  obtain ⟨i, j, rfl, q⟩ := h
  refine call_min2 hc pins s σ H _ us Q I r ⟨i, j, rfl, ?_⟩
  have e : (if j < i then j else i) = min i j := by split <;> omega
  rw [e]; exact q
theorem mw_min {a b : Int} : rMin [.int a, .int b] H Q = Q (.int (min a b)) H := by
  refine propext ⟨fun h => ?_, fun h => ⟨a, b, rfl, h⟩⟩
  obtain ⟨_, _, e, h⟩ := h
  cases e; exact h
theorem mw_isB {n : String} {b : Bool} (h : isiB x n = some b) : rIsB [x, .ty n] H Q = Q (.bl b) H := by
  refine propext ⟨fun z => ?_, fun z => ⟨x, n, b, rfl, h, z⟩⟩
  obtain ⟨x', n', b', e, e2, z⟩ := z
  cases e
  rw [h] at e2
  cases e2; exact z
theorem mw_isBB {b : Bool} : rIsB [.bl b, .ty "bool"] H Q = Q (.bl true) H := mw_isB isi_bb
theorem mw_isIB {a : Int} : rIsB [.int a, .ty "bool"] H Q = Q (.bl false) H := mw_isB isi_ib
theorem mw_isII {a : Int} : rIsB [.int a, .ty "int"] H Q = Q (.bl true) H := mw_isB isi_ii
theorem mw_isBI {b : Bool} : rIsB [.bl b, .ty "int"] H Q = Q (.bl true) H := mw_isB isi_bi
/-! is None -/
def rIsNo : R2 := fun x y H Q => y = .non ∧ Q (.bl (decide (x = .non))) H
def rNotNo : R2 := fun x y H Q => y = .non ∧ Q (.bl (!decide (x = .non))) H
theorem op_isNo {X : Cx} : OpR X (compareOp .Is) rIsNo := op_isN
theorem op_notNo {X : Cx} : OpR X (compareOp .IsNot) rNotNo := op_notN
theorem mw_isNo : rIsNo x .non H Q = Q (.bl (decide (x = .non))) H := propext ⟨fun z => z.2, fun z => ⟨rfl, z⟩⟩
theorem mw_notNo : rNotNo x .non H Q = Q (.bl (!decide (x = .non))) H := propext ⟨fun z => z.2, fun z => ⟨rfl, z⟩⟩
/-! what is made -/
theorem new_l {xs : List V} (h : xs.length ≤ sizeLine) (q : ∀ p, H p = none → Q (.ref p) (upd H p (.lst xs))) : KLst Q xs H := ⟨h, q⟩
theorem new_t {xs : List V} (h : xs.length ≤ sizeLine) (q : ∀ p, H p = none → Q (.ref p) (upd H p (.tup xs))) : KTup Q xs H := ⟨h, q⟩
theorem fld_l {f : Str} {a C dx : Addr} {fs : List (Str × V)} (h : H a = some (.ins C dx fs)) (hc : Cls K C) (hn : NoAttr K C f) (e : fs.lookup f = some v) (q : Q v H) : KFld K f Q (.ref a) H := ⟨a, C, dx, fs, v, rfl, h, hc, hn, e, q⟩
theorem sf_l {f : Str} {a C dx : Addr} {fs : List (Str × V)} (h : H a = some (.ins C dx fs)) (hc : Cls K C) (hn : NoAttr K C f) (e : fs.length < 1000) (q : D.nx σ (upd H a (.ins C dx (putF f y fs)))) : KSf2 K y f D σ (.ref a) H := ⟨a, C, dx, fs, rfl, h, hc, hn, e, q⟩
theorem mk_l {C : Addr} {sp : Sp} {E : XK} {vs : List V} (q : ∀ x dx, H x = none → H dx = none → dx ≠ x → sp (.ref x :: vs) (upd (upd H dx (.own x)) x (.ins C dx [])) (fun v H2 => v = .non ∧ Q (.ref x) H2) E) : KMake C sp [] E Q vs H := by
  intro x dx h1 h2 h3
  rw [List.append_nil]
  exact q x dx h1 h2 h3
theorem meth_l {C : Addr} {m : Str} {sp : Sp} {E : XK} {a dx : Addr} {fs : List (Str × V)} (h : H a = some (.ins C dx fs)) (e : fs.lookup m = none) (q : ts σ H (KCall (fun vs => sp (.ref a :: vs)) [] E Q)) : KMeth C m sp [] E ts σ Q (.ref a) H := by
  refine ⟨a, dx, fs, rfl, h, e, ?_⟩
  exact q
theorem mw_tupG {n : Nat} {gs : TGs} : KAsg (gTup K n gs) D σ v H = gTup K n gs v σ H D.nx := rfl
theorem tg_l {a : Addr} {xs : List V} {n : Nat} {gs : TGs} {Q : L2.St → Hp → Prop} (h : SqT K H a xs) (e : xs.length = n) (q : gs xs σ H Q) : gTup K n gs (.ref a) σ H Q := ⟨a, xs, rfl, h, e, q⟩
theorem mw_gcons {gs : TGs} {xs : List V} : gCons g gs (v :: xs) σ H QN = g v σ H (KTg gs xs QN) := by
  refine propext ⟨fun h => ?_, fun h => ⟨v, xs, rfl, h⟩⟩
  obtain ⟨_, _, e, h⟩ := h
  cases e; exact h
theorem mw_gnil : gNil [] σ H QN = QN σ H := propext ⟨fun z => z.2, fun z => ⟨rfl, z⟩⟩
theorem mw_ktg {gs : TGs} {xs : List V} : KTg gs xs QN σ H = gs xs σ H QN := rfl
theorem mw_gname : gName i v σ H QN = QN (σ.set i (some v)) H := rfl
end
end My
/-! Loops and comprehensions, what they walk over known. -/
namespace My
open PySem PySem.Spec PyProof.Rows L2
theorem Fr.put_free {S : List Addr} {H H1 : Hp} {p : Addr} {o : HO} (a : Fr S H H1) (h : H p = none) : Fr S H (upd H1 p o) := by
  refine ⟨fun b u n e => ?_, fun b e => ?_⟩
  · rw [upd_ne (ne_of_none e h)]; exact a.1 b u n e
  · by_cases hb : b = p
    · rw [hb]; exact h
    · rw [upd_ne hb] at e; exact a.2 b e
theorem Fr.dom {S : List Addr} {H H1 : Hp} (a : Fr S H H1) {p : Addr} {o : HO} (h : H p = some o) : ∃ u, H1 p = some u := by
  cases e : H1 p with
  | none => rw [a.2 p e] at h; cases h
  | some u => exact ⟨u, rfl⟩
section
variable {K : PySem.W.Frag} {σ : L2.St} {H : Hp} {Q : VK} {D : Ends} {g : TG} {tb : TS} {te tl : TE} {tt : TT} {ta : TA} {vs : List Nat} {j : Nat}
def KForL (K : PySem.W.Frag) (g : TG) (tb : TS) (D : Ends) (σ : L2.St) : VK := fun x H => ∃ a, x = .ref a ∧ (∃ xs, SqL K H a xs) ∧ ∃ W : Nat → Nat → L2.St → Hp → Prop, (∃ m, W 0 m σ H) ∧ ∀ i m σ H, W i m σ H →
  ((Itl K a).stop i H ∧ D.nx σ H) ∨ ((Itl K a).go i H ∧ ∃ N : L2.St → Hp → Prop, (∀ σ' H', N σ' H' → ∃ m', m' < m ∧ W (i + 1) m' σ' H') ∧ ∀ x H', (Itl K a).yld i H x H' → g x σ H' fun σ2 H2 => tb { D with nx := N, ct := N, bk := D.nx } σ2 H2)
theorem mw_forL : tFor (iList K tl) g tb D σ H = tl σ H (KForL K g tb D σ) := rfl
def KForT (K : PySem.W.Frag) (g : TG) (tb : TS) (D : Ends) (σ : L2.St) : VK := fun x H => ∃ a, x = .ref a ∧ (∃ xs, SqT K H a xs) ∧ ∃ W : Nat → Nat → L2.St → Hp → Prop, (∃ m, W 0 m σ H) ∧ ∀ i m σ H, W i m σ H →
  ((Itt K a).stop i H ∧ D.nx σ H) ∨ ((Itt K a).go i H ∧ ∃ N : L2.St → Hp → Prop, (∀ σ' H', N σ' H' → ∃ m', m' < m ∧ W (i + 1) m' σ' H') ∧ ∀ x H', (Itt K a).yld i H x H' → g x σ H' fun σ2 H2 => tb { D with nx := N, ct := N, bk := D.nx } σ2 H2)
theorem mw_forT : tFor (iTup K tl) g tb D σ H = tl σ H (KForT K g tb D σ) := rfl
def KForR (g : TG) (tb : TS) (D : Ends) (σ : L2.St) (lo : Int) (n : Nat) (H : Hp) : Prop := ∃ W : Nat → Nat → L2.St → Hp → Prop, (∃ m, W 0 m σ H) ∧ ∀ i m σ H, W i m σ H →
  ((Itr lo n).stop i H ∧ D.nx σ H) ∨ ((Itr lo n).go i H ∧ ∃ N : L2.St → Hp → Prop, (∀ σ' H', N σ' H' → ∃ m', m' < m ∧ W (i + 1) m' σ' H') ∧ ∀ x H', (Itr lo n).yld i H x H' → g x σ H' fun σ2 H2 => tb { D with nx := N, ct := N, bk := D.nx } σ2 H2)
def KForR1 (g : TG) (tb : TS) (D : Ends) (σ : L2.St) : List V → Hp → Prop := fun vs H => ∃ j : Int, vs = [.int j] ∧ -(2 ^ 62) ≤ j ∧ j < 2 ^ 62 ∧ KForR g tb D σ 0 j.toNat H
theorem mw_forR1 : tFor (iRng1 ta) g tb D σ H = ta σ H (KForR1 g tb D σ) := rfl
def KForR2 (g : TG) (tb : TS) (D : Ends) (σ : L2.St) : List V → Hp → Prop := fun vs H => ∃ i j : Int, vs = [.int i, .int j] ∧ (-(2 ^ 62) ≤ i ∧ i < 2 ^ 62 ∧ -(2 ^ 62) ≤ j ∧ j < 2 ^ 62) ∧ KForR g tb D σ i (j - i).toNat H
theorem mw_forR2 : tFor (iRng2 ta) g tb D σ H = ta σ H (KForR2 g tb D σ) := rfl
/-- for .. in a list: Pv what holds ahead of turn i -/
theorem for_l {a : Addr} {xs : List V} (Pv : Nat → L2.St → Hp → Prop) (h0 : Pv 0 σ H) (hl : ∀ i σ H, i ≤ xs.length → Pv i σ H → SqL K H a xs)
    (hs : ∀ i x σ H, xs[i]? = some x → Pv i σ H → g x σ H fun σ2 H2 => tb ⟨Pv (i + 1), D.rt, D.nx, Pv (i + 1)⟩ σ2 H2) (hd : ∀ σ H, Pv xs.length σ H → D.nx σ H) : KForL K g tb D σ (.ref a) H :=
  ⟨a, rfl, ⟨xs, hl 0 σ H (Nat.zero_le _) h0⟩, for_list (xs := xs) Pv h0 hl hs hd⟩
theorem for_t {a : Addr} {xs : List V} (Pv : Nat → L2.St → Hp → Prop) (h0 : Pv 0 σ H) (hl : ∀ i σ H, i ≤ xs.length → Pv i σ H → SqT K H a xs)
    (hs : ∀ i x σ H, xs[i]? = some x → Pv i σ H → g x σ H fun σ2 H2 => tb ⟨Pv (i + 1), D.rt, D.nx, Pv (i + 1)⟩ σ2 H2) (hd : ∀ σ H, Pv xs.length σ H → D.nx σ H) : KForT K g tb D σ (.ref a) H :=
  ⟨a, rfl, ⟨xs, hl 0 σ H (Nat.zero_le _) h0⟩, for_tup (xs := xs) Pv h0 hl hs hd⟩
theorem for_r {lo : Int} {n : Nat} (Pv : Nat → L2.St → Hp → Prop) (h0 : Pv 0 σ H)
    (hs : ∀ i σ H, i < n → Pv i σ H → g (.int (lo + i)) σ H fun σ2 H2 => tb ⟨Pv (i + 1), D.rt, D.nx, Pv (i + 1)⟩ σ2 H2) (hd : ∀ σ H, Pv n σ H → D.nx σ H) : KForR g tb D σ lo n H :=
  for_range Pv h0 hs hd
theorem for_r1 {m : Int} (hm : m < 2 ^ 62) (Pv : Nat → L2.St → Hp → Prop) (h1 : -(2 ^ 62) ≤ m) (h0 : Pv 0 σ H)
    (hs : ∀ (i : Nat) σ H, (i : Int) < m → Pv i σ H → g (.int i) σ H fun σ2 H2 => tb ⟨Pv (i + 1), D.rt, D.nx, Pv (i + 1)⟩ σ2 H2) (hd : ∀ σ H, Pv m.toNat σ H → D.nx σ H) : KForR1 g tb D σ [.int m] H :=
  ⟨m, rfl, h1, hm, for_range Pv h0 (fun i σ H hi p => by rw [Int.zero_add]; exact hs i σ H (by omega) p) hd⟩
theorem for_r2 {lo m : Int} (hb : -(2 ^ 62) ≤ lo ∧ lo < 2 ^ 62 ∧ -(2 ^ 62) ≤ m ∧ m < 2 ^ 62) (Pv : Nat → L2.St → Hp → Prop) (h0 : Pv 0 σ H)
    (hs : ∀ (i : Nat) σ H, lo + i < m → Pv i σ H → g (.int (lo + i)) σ H fun σ2 H2 => tb ⟨Pv (i + 1), D.rt, D.nx, Pv (i + 1)⟩ σ2 H2) (hd : ∀ σ H, Pv (m - lo).toNat σ H → D.nx σ H) : KForR2 g tb D σ [.int lo, .int m] H :=
  ⟨lo, m, rfl, hb, for_range Pv h0 (fun i σ H hi p => hs i σ H (by omega) p) hd⟩
/-! comprehensions -/
def KLcJ (J : It) (g : TG) (tt : TT) (te : TE) (vs : List Nat) (σ : L2.St) (Q : VK) (H1 : Hp) : Prop := ∀ D, H1 D = none → ∃ W : Nat → Nat → Hp → Prop, (∃ m, W 0 m (upd H1 D (.lst []))) ∧ ∀ i m H, W i m H →
  (J.stop i H ∧ Q (.ref D) H) ∨ (J.go i H ∧ ∃ Nx : Hp → Prop, (∀ H', Nx H' → ∃ m', m' < m ∧ W (i + 1) m' H') ∧ ∀ x H', J.yld i H x H' → g x (wipe σ vs) H' fun σ2 H2 => wipe σ2 vs = wipe σ vs ∧ tt σ2 H2 fun b H3 =>
    if b = true then te σ2 H3 fun y H4 => ∃ acc, H4 D = some (.lst acc) ∧ acc.length < sizeLine ∧ Nx (upd H4 D (.lst (acc ++ [y]))) else Nx H3)
def KLcL (K : PySem.W.Frag) (g : TG) (tt : TT) (te : TE) (vs : List Nat) (σ : L2.St) (Q : VK) : VK := fun x H1 => ∃ a, x = .ref a ∧ (∃ xs, SqL K H1 a xs) ∧ KLcJ (Itl K a) g tt te vs σ Q H1
theorem mw_lcL : tLc (iList K tl) g tt te vs σ H Q = tl σ H (KLcL K g tt te vs σ Q) := rfl
def KLcT (K : PySem.W.Frag) (g : TG) (tt : TT) (te : TE) (vs : List Nat) (σ : L2.St) (Q : VK) : VK := fun x H1 => ∃ a, x = .ref a ∧ (∃ xs, SqT K H1 a xs) ∧ KLcJ (Itt K a) g tt te vs σ Q H1
theorem mw_lcT : tLc (iTup K tl) g tt te vs σ H Q = tl σ H (KLcT K g tt te vs σ Q) := rfl
def KLcR1 (g : TG) (tt : TT) (te : TE) (vs : List Nat) (σ : L2.St) (Q : VK) : List V → Hp → Prop := fun ws H1 => ∃ j : Int, ws = [.int j] ∧ -(2 ^ 62) ≤ j ∧ j < 2 ^ 62 ∧ KLcJ (Itr 0 j.toNat) g tt te vs σ Q H1
theorem mw_lcR1 : tLc (iRng1 ta) g tt te vs σ H Q = ta σ H (KLcR1 g tt te vs σ Q) := rfl
/-- what stands behind an item of a comprehension: the list grows by it -/
def KPush (Dl : Addr) (Nx : Hp → Prop) : VK := fun y H4 => ∃ acc, H4 Dl = some (.lst acc) ∧ acc.length < sizeLine ∧ Nx (upd H4 Dl (.lst (acc ++ [y])))
/-- item by item, each tested and kept or not: R says what is kept of which item -/
structure Lc (S : List Addr) (I : Hp → Prop) (R : V → Option V → Hp → Prop) (g : TG) (tt : TT) (te : TE) (vs : List Nat) (σ : L2.St) (H : Hp) (xs : List V) : Prop where
  i0 : I H
  iF : ∀ H' p o, H p = none → I H' → I (upd H' p o)
  rF : ∀ x y H' H'', Fr S H' H'' → R x y H' → R x y H''
  rL : ∀ x y H' Dl ys zs, H' Dl = some (.lst ys) → R x y H' → R x y (upd H' Dl (.lst zs))
  run : ∀ (x : V) (H' : Hp), x ∈ xs → Fr S H H' → I H' → ∀ Qn : Option V → Hp → Prop, (∀ y H'', R x y H'' → Fr S H' H'' → I H'' → Qn y H'') →
    g x (wipe σ vs) H' fun σ2 H2 => wipe σ2 vs = wipe σ vs ∧ tt σ2 H2 fun b H3 => if b = true then te σ2 H3 fun y H4 => Qn (some y) H4 else Qn none H3
/-- what is kept -/
inductive Kept (R : V → Option V → Hp → Prop) (H : Hp) : List V → List V → Prop where
  | nil : Kept R H [] []
  | yes {x y : V} {xs ys : List V} : R x (some y) H → Kept R H xs ys → Kept R H (x :: xs) (y :: ys)
  | no {x : V} {xs ys : List V} : R x none H → Kept R H xs ys → Kept R H (x :: xs) ys
theorem Kept.mono {R : V → Option V → Hp → Prop} {H H' : Hp} (f : ∀ x y, R x y H → R x y H') : ∀ {xs ys : List V}, Kept R H xs ys → Kept R H' xs ys
  | _, _, .nil => .nil
  | _, _, .yes r k => .yes (f _ _ r) (Kept.mono f k)
  | _, _, .no r k => .no (f _ _ r) (Kept.mono f k)
theorem Kept.snoc {R : V → Option V → Hp → Prop} {H : Hp} {x y : V} (r : R x (some y) H) : ∀ {xs ys : List V}, Kept R H xs ys → Kept R H (xs ++ [x]) (ys ++ [y])
  | _, _, .nil => .yes r .nil
  | _, _, .yes r' k => .yes r' (Kept.snoc r k)
  | _, _, .no r' k => .no r' (Kept.snoc r k)
theorem Kept.snoc0 {R : V → Option V → Hp → Prop} {H : Hp} {x : V} (r : R x none H) : ∀ {xs ys : List V}, Kept R H xs ys → Kept R H (xs ++ [x]) ys
  | _, _, .nil => .no r .nil
  | _, _, .yes r' k => .yes r' (Kept.snoc0 r k)
  | _, _, .no r' k => .no r' (Kept.snoc0 r k)
theorem Kept.len {R : V → Option V → Hp → Prop} {H : Hp} : ∀ {xs ys : List V}, Kept R H xs ys → ys.length ≤ xs.length
  | _, _, .nil => Nat.le_refl _
  | _, _, .yes _ k => by have := Kept.len k; simp only [List.length_cons]; omega
  | _, _, .no _ k => by have := Kept.len k; simp only [List.length_cons]; omega
/-- all are kept: ys is f of xs -/
theorem Kept.map {R : V → Option V → Hp → Prop} {H : Hp} {α : Type} {e f : α → V} (h : ∀ a o, R (e a) o H → o = some (f a)) : ∀ {l : List α} {ys : List V}, Kept R H (l.map e) ys → ys = l.map f
  | [], _, k => by cases k; rfl
  | a :: l, _, k => by
    rw [List.map_cons] at k
    cases k with
    | yes r k2 => rw [List.map_cons, Kept.map h k2, Option.some.inj (h a _ r)]
    | no r k2 => cases h a _ r
/-- filtered -/
theorem Kept.filterMap {R : V → Option V → Hp → Prop} {H : Hp} {α : Type} {e : α → V} {f : α → Option V} (h : ∀ a o, R (e a) o H → o = f a) : ∀ {l : List α} {ys : List V}, Kept R H (l.map e) ys → ys = l.filterMap f
  | [], _, k => by cases k; rfl
  | a :: l, _, k => by
    rw [List.map_cons] at k
    cases k with
    | yes r k2 => rw [List.filterMap_cons, ← h a _ r, Kept.filterMap h k2]
    | no r k2 => rw [List.filterMap_cons, ← h a _ r]; exact Kept.filterMap h k2
def LcP (S : List Addr) (I : Hp → Prop) (R : V → Option V → Hp → Prop) (H : Hp) (xs : List V) (Dl : Addr) (i : Nat) (H' : Hp) : Prop := H Dl = none ∧ Fr S H H' ∧ I H' ∧ ∃ ys, H' Dl = some (.lst ys) ∧ Kept R H' (xs.take i) ys
/-- the turn -/
theorem lc_turn {S : List Addr} {I : Hp → Prop} {R : V → Option V → Hp → Prop} {xs : List V} (L : Lc S I R g tt te vs σ H xs) (hlen : xs.length ≤ 100000) (hS : ∀ b ∈ S, ∃ o, H b = some o) {Dl : Addr} {i : Nat} {x : V} {H' : Hp} (hx : xs[i]? = some x) (p : LcP S I R H xs Dl i H') :
    g x (wipe σ vs) H' fun σ2 H2 => wipe σ2 vs = wipe σ vs ∧ tt σ2 H2 fun b H3 => if b = true then te σ2 H3 fun y H4 => ∃ acc, H4 Dl = some (.lst acc) ∧ acc.length < sizeLine ∧ LcP S I R H xs Dl (i + 1) (upd H4 Dl (.lst (acc ++ [y]))) else LcP S I R H xs Dl (i + 1) H3 := by
  obtain ⟨p1, p2, p3, ys, p4, p5⟩ := p
  have dS : Dl ∉ S := fun z => by
    obtain ⟨o, e⟩ := hS _ z
    rw [e] at p1; cases p1
  have hi : i < xs.length := (List.getElem?_eq_some_iff.mp hx).1
  have et : xs.take (i + 1) = xs.take i ++ [x] := by
    rw [List.take_add_one, hx]; rfl
  have hys : ys.length ≤ 100000 := by
    have := p5.len
    rw [List.length_take] at this
    omega
  have hxm : x ∈ xs := List.mem_of_getElem? hx
  have key := L.run x H' hxm p2 p3 (fun o H4 => match o with
    | some y => ∃ acc, H4 Dl = some (.lst acc) ∧ acc.length < sizeLine ∧ LcP S I R H xs Dl (i + 1) (upd H4 Dl (.lst (acc ++ [y])))
    | none => LcP S I R H xs Dl (i + 1) H4) (fun o H'' r f j => ?_)
  · exact key
  · have e4 : H'' Dl = some (.lst ys) := f.1 _ _ dS p4
    cases o with
    | some y =>
      refine ⟨ys, e4, Nat.lt_of_le_of_lt hys (by decide), p1, (p2.trans f).put_free p1, L.iF _ _ _ p1 j, ys ++ [y], upd_same, ?_⟩
      rw [et]
      have hm : ∀ x o, R x o H'' → R x o (upd H'' Dl (.lst (ys ++ [y]))) := fun x o r => L.rL x o H'' Dl ys _ e4 r
      exact (Kept.snoc r (p5.mono fun x o => L.rF x o _ _ f)).mono hm
    | none =>
      refine ⟨p1, p2.trans f, j, ys, e4, ?_⟩
      rw [et]
      exact Kept.snoc0 r (p5.mono fun x o => L.rF x o _ _ f)
/-- over a list that stands still -/
theorem lc_l {S : List Addr} (I : Hp → Prop) (R : V → Option V → Hp → Prop) {a : Addr} {xs : List V} (h : SqL K H a xs) (ha : a ∉ S) (hlen : xs.length ≤ 100000) (hS : ∀ b ∈ S, ∃ o, H b = some o) (L : Lc S I R g tt te vs σ H xs)
    (q : ∀ Dl ys H', H Dl = none → H' Dl = some (.lst ys) → Kept R H' xs ys → Fr S H H' → I H' → Q (.ref Dl) H') : KLcL K g tt te vs σ Q (.ref a) H := by
  refine ⟨a, rfl, ⟨xs, h⟩, fun Dl hD => lc_list (xs := xs) (LcP S I R H xs Dl) ⟨hD, (Fr.refl _ _).put_free hD, L.iF _ _ _ hD L.i0, [], upd_same, .nil⟩ (fun i H' _ p => p.2.1.l ha h) (fun i x H' hx p => lc_turn L hlen hS hx p) fun H' p => ?_⟩
  obtain ⟨p1, p2, p3, ys, p4, p5⟩ := p
  rw [List.take_length] at p5
  exact q Dl ys H' p1 p4 p5 p2 p3
theorem lc_t {S : List Addr} (I : Hp → Prop) (R : V → Option V → Hp → Prop) {a : Addr} {xs : List V} (h : SqT K H a xs) (ha : a ∉ S) (hlen : xs.length ≤ 100000) (hS : ∀ b ∈ S, ∃ o, H b = some o) (L : Lc S I R g tt te vs σ H xs)
    (q : ∀ Dl ys H', H Dl = none → H' Dl = some (.lst ys) → Kept R H' xs ys → Fr S H H' → I H' → Q (.ref Dl) H') : KLcT K g tt te vs σ Q (.ref a) H := by
  refine ⟨a, rfl, ⟨xs, h⟩, fun Dl hD => lc_tup (xs := xs) (LcP S I R H xs Dl) ⟨hD, (Fr.refl _ _).put_free hD, L.iF _ _ _ hD L.i0, [], upd_same, .nil⟩ (fun i H' _ p => p.2.1.t ha h) (fun i x H' hx p => lc_turn L hlen hS hx p) fun H' p => ?_⟩
  obtain ⟨p1, p2, p3, ys, p4, p5⟩ := p
  rw [List.take_length] at p5
  exact q Dl ys H' p1 p4 p5 p2 p3
def rngV (lo : Int) (n : Nat) : List V := (List.range n).map fun (i : Nat) => V.int (lo + (i : Int))
theorem rngV_get {lo : Int} {n i : Nat} (h : i < n) : (rngV lo n)[i]? = some (.int (lo + i)) := by
  unfold rngV
  rw [List.getElem?_map, List.getElem?_range h]; rfl
theorem rngV_len {lo : Int} {n : Nat} : (rngV lo n).length = n := by
  unfold rngV
  rw [List.length_map, List.length_range]
theorem lc_r {S : List Addr} (I : Hp → Prop) (R : V → Option V → Hp → Prop) {lo : Int} {n : Nat} (hlen : n ≤ 100000) (hS : ∀ b ∈ S, ∃ o, H b = some o) (L : Lc S I R g tt te vs σ H (rngV lo n))
    (q : ∀ Dl ys H', H Dl = none → H' Dl = some (.lst ys) → Kept R H' (rngV lo n) ys → Fr S H H' → I H' → Q (.ref Dl) H') : KLcJ (Itr lo n) g tt te vs σ Q H := by
  refine fun Dl hD => lc_range (lo := lo) (n := n) (LcP S I R H (rngV lo n) Dl) ⟨hD, (Fr.refl _ _).put_free hD, L.iF _ _ _ hD L.i0, [], upd_same, .nil⟩ (fun i H' hi p => lc_turn L (by rw [rngV_len]; exact hlen) hS (rngV_get hi) p) fun H' p => ?_
  obtain ⟨p1, p2, p3, ys, p4, p5⟩ := p
  have e : (rngV lo n).take n = rngV lo n := by
    conv => lhs; rw [← rngV_len (lo := lo) (n := n)]
    rw [rngV_len, List.take_of_length_le (by rw [rngV_len]; exact Nat.le_refl _)]
  rw [e] at p5
  exact q Dl ys H' p1 p4 p5 p2 p3
theorem lc_r1 {S : List Addr} (I : Hp → Prop) (R : V → Option V → Hp → Prop) {m : Int} (hm : 0 ≤ m ∧ m ≤ 100000) (hS : ∀ b ∈ S, ∃ o, H b = some o) (L : Lc S I R g tt te vs σ H (rngV 0 m.toNat))
    (q : ∀ Dl ys H', H Dl = none → H' Dl = some (.lst ys) → Kept R H' (rngV 0 m.toNat) ys → Fr S H H' → I H' → Q (.ref Dl) H') : KLcR1 g tt te vs σ Q [.int m] H :=
  ⟨m, rfl, by omega, by omega, lc_r I R (by omega) hS L q⟩
/-! an element that makes nothing: its value is f of the item -/
theorem lc_pure {f : V → V} {xs : List V} (hw : ∀ x ∈ xs, wipe ((wipe σ vs).set j (some x)) vs = wipe σ vs) (hr : ∀ x ∈ xs, ∀ (H' : Hp) (Q' : VK), Q' (f x) H' → te ((wipe σ vs).set j (some x)) H' Q') :
    Lc [] (fun _ => True) (fun x y _ => y = some (f x)) (gName j) tYes te vs σ H xs where
  i0 := True.intro
  iF := fun _ _ _ _ _ => True.intro
  rF := fun _ _ _ _ _ r => r
  rL := fun _ _ _ _ _ _ _ r => r
  run := fun x H' hx _ _ Qn k => by
    refine ⟨hw x hx, ?_⟩
    show te ((wipe σ vs).set j (some x)) H' fun y H4 => Qn (some y) H4
    exact hr x hx H' _ (k _ _ rfl (Fr.refl _ _) True.intro)
theorem kept_pure {f : V → V} {H' : Hp} : ∀ {xs ys : List V}, Kept (fun x y _ => y = some (f x)) H' xs ys → ys = xs.map f
  | _, _, .nil => rfl
  | _, _, .yes r k => by rw [List.map_cons, ← kept_pure k, Option.some.inj r]
  | _, _, .no r _ => by cases r
theorem sl_l {a : Addr} {xs : List V} {lo hi : Option Int} (h : SqL K H a xs) (q : ∀ p, H p = none → Q (.ref p) (upd H p (.lst (cutV xs lo hi)))) : rSlL K (.ref a) lo hi H Q := ⟨a, xs, rfl, h, q⟩
theorem cut_first {xs : List V} {n : Nat} (h : xs.length ≤ n) : cutV xs none (some (n : Int)) = xs := by
  unfold cutV
  have e1 : HT.sIx xs.length 0 none = 0 := rfl
  have e2 : HT.sIx xs.length xs.length (some (n : Int)) = xs.length := by
    rw [HT.sIx_nat, Nat.min_eq_right h]
  rw [e1, e2, List.drop_zero, Nat.sub_zero, List.take_length]
theorem lc_ints {a : Addr} {ns : List Int} (f : Int → Int) (h : SqL K H a (ns.map V.int)) (hlen : ns.length ≤ 100000) (hw : ∀ n : Int, wipe ((wipe σ vs).set j (some (.int n))) vs = wipe σ vs)
    (hr : ∀ n ∈ ns, ∀ (H' : Hp) (Q' : VK), Q' (.int (f n)) H' → te ((wipe σ vs).set j (some (.int n))) H' Q') (q : ∀ Dl H', H Dl = none → H' Dl = some (.lst ((ns.map f).map V.int)) → Fr [] H H' → Q (.ref Dl) H') : KLcL K (gName j) tYes te vs σ Q (.ref a) H := by
  have key : ∀ x ∈ ns.map V.int, ∃ n ∈ ns, x = V.int n := fun x hx => by
    obtain ⟨n, hn, e⟩ := List.mem_map.mp hx
    exact ⟨n, hn, e.symm⟩
  refine lc_l (S := []) (fun _ => True) (fun x y _ => y = some (match x with | .int n => .int (f n) | v => v)) h (by simp) (by rw [List.length_map]; exact hlen) (by simp) (lc_pure (fun x hx => ?_) fun x hx H' Q' k => ?_) fun Dl ys H' hD e k fr _ => ?_
  · obtain ⟨n, _, rfl⟩ := key x hx; exact hw n
  · obtain ⟨n, hn, rfl⟩ := key x hx; exact hr n hn H' Q' k
  · have ey := kept_pure (f := fun x => match x with | .int n => .int (f n) | v => v) k
    rw [List.map_map] at ey
    refine q Dl H' hD ?_ fr
    rw [e, ey, List.map_map] <;> rfl
end
end My
namespace K16
open PySem PySem.Spec PyProof.Rows L2 My
/-! the text by places -/
def top (i : Nat) : Stmt := PySem.Challenge.pw_windowrows_k16_possible_offsets.main.body.getD i (.Pass ⟨0, 0, 0, 0⟩)
abbrev s_possible : Stmt := top 1
abbrev s_zone_of : Stmt := top 2
abbrev s__zone_in_group : Stmt := top 3
abbrev s__law_begin : Stmt := top 5
abbrev s__law_draw : Stmt := top 6
abbrev s__law_in_future : Stmt := top 7
abbrev s__law_due : Stmt := top 8
abbrev s__law_right : Stmt := top 9
abbrev s__law_far : Stmt := top 10
abbrev s_law : Stmt := top 11
theorem sc_possible : FnScope ["rows", "groups", "distance"] ["rows", "groups", "distance"] (defScope s_possible) := ⟨rfl, rfl, rfl, by decide +kernel, rfl, by decide +kernel, by decide +kernel⟩
theorem sc_zone_of : FnScope ["rows", "groups", "distance"] ["rows", "groups", "distance"] (defScope s_zone_of) := ⟨rfl, rfl, rfl, by decide +kernel, rfl, by decide +kernel, by decide +kernel⟩
theorem sc__zone_in_group : FnScope ["rows"] ["rows"] (defScope s__zone_in_group) := ⟨rfl, rfl, rfl, by decide +kernel, rfl, by decide +kernel, by decide +kernel⟩
theorem sc__law_begin : FnScope ["_law_script", "_law_cells", "_law_rests", "_law_cell"] ["_law_script"] (defScope s__law_begin) := ⟨rfl, rfl, rfl, by decide +kernel, rfl, by decide +kernel, by decide +kernel⟩
theorem sc__law_draw : FnScope ["_law_draws", "_law_many", "_law_cells", "_law_rests", "_law_turn", "_law_at", "_law_got", "_law_first", "_law_salt", "_law_second", "_law_mixed", "_law_third"] ["_law_draws", "_law_many"] (defScope s__law_draw) := ⟨rfl, rfl, rfl, by decide +kernel, rfl, by decide +kernel, by decide +kernel⟩
theorem sc__law_in_future : FnScope ["_law_d", "_law_g", "_law_k"] ["_law_d", "_law_g", "_law_k"] (defScope s__law_in_future) := ⟨rfl, rfl, rfl, by decide +kernel, rfl, by decide +kernel, by decide +kernel⟩
theorem sc__law_due : FnScope ["_law_d", "_law_g", "_law_k"] ["_law_d", "_law_g", "_law_k"] (defScope s__law_due) := ⟨rfl, rfl, rfl, by decide +kernel, rfl, by decide +kernel, by decide +kernel⟩
theorem sc__law_right : FnScope ["_law_d", "_law_g", "_law_k", "_law_found"] ["_law_d", "_law_g", "_law_k"] (defScope s__law_right) := ⟨rfl, rfl, rfl, by decide +kernel, rfl, by decide +kernel, by decide +kernel⟩
theorem sc__law_far : FnScope ["_law_draws", "_law_base", "_law_way"] ["_law_draws", "_law_base"] (defScope s__law_far) := ⟨rfl, rfl, rfl, by decide +kernel, rfl, by decide +kernel, by decide +kernel⟩
theorem sc_law : FnScope ["_law_script", "_law_draws", "_law_d", "_law_g", "_law_k", "_law_turn", "_law_base"] ["_law_script"] (defScope s_law) := ⟨rfl, rfl, rfl, by decide +kernel, rfl, by decide +kernel, by decide +kernel⟩
def d_possible : He.DefD := ⟨("possible", none), "possible", "possible", defArgs s_possible, defBody s_possible, defScope s_possible, [], []⟩
def d_zone_of : He.DefD := ⟨("zone_of", none), "zone_of", "zone_of", defArgs s_zone_of, defBody s_zone_of, defScope s_zone_of, [], []⟩
def d__zone_in_group : He.DefD := ⟨("_zone_in_group", none), "_zone_in_group", "_zone_in_group", defArgs s__zone_in_group, defBody s__zone_in_group, defScope s__zone_in_group, [], []⟩
def d__law_begin : He.DefD := ⟨("_law_begin", none), "_law_begin", "_law_begin", defArgs s__law_begin, defBody s__law_begin, defScope s__law_begin, [], []⟩
def d__law_draw : He.DefD := ⟨("_law_draw", none), "_law_draw", "_law_draw", defArgs s__law_draw, defBody s__law_draw, defScope s__law_draw, [], []⟩
def d__law_in_future : He.DefD := ⟨("_law_in_future", none), "_law_in_future", "_law_in_future", defArgs s__law_in_future, defBody s__law_in_future, defScope s__law_in_future, [], []⟩
def d__law_due : He.DefD := ⟨("_law_due", none), "_law_due", "_law_due", defArgs s__law_due, defBody s__law_due, defScope s__law_due, [], []⟩
def d__law_right : He.DefD := ⟨("_law_right", none), "_law_right", "_law_right", defArgs s__law_right, defBody s__law_right, defScope s__law_right, [], []⟩
def d__law_far : He.DefD := ⟨("_law_far", none), "_law_far", "_law_far", defArgs s__law_far, defBody s__law_far, defScope s__law_far, [], []⟩
def d_law : He.DefD := ⟨("law", none), "law", "law", defArgs s_law, defBody s_law, defScope s_law, [], []⟩
def fn : List He.DefD := [d_possible, d_zone_of, d__zone_in_group, d__law_begin, d__law_draw, d__law_in_future, d__law_due, d__law_right, d__law_far, d_law]
def fa : List He.Fa := [.glo "possible", .glo "zone_of", .glo "_zone_in_group", .glo "_law_begin", .glo "_law_draw", .glo "_law_in_future", .glo "_law_due", .glo "_law_right", .glo "_law_far", .glo "law", .free "range", .free "int", .free "len", .free "isinstance", .free "bool", .free "abs"]
abbrev E (K : PySem.W.Frag) (mg : Str → Option Value) : Prop := My.Env fa fn K mg
section
variable {K : PySem.W.Frag} {mg : Str → Option Value}
theorem free_range (ev : E K mg) : mg "range" = none := ev.fre 10
theorem free_int (ev : E K mg) : mg "int" = none := ev.fre 11
theorem free_len (ev : E K mg) : mg "len" = none := ev.fre 12
theorem free_isinstance (ev : E K mg) : mg "isinstance" = none := ev.fre 13
theorem free_bool (ev : E K mg) : mg "bool" = none := ev.fre 14
theorem free_abs (ev : E K mg) : mg "abs" = none := ev.fre 15
end

def zin (r : Int) : V := if r = 0 then .str "self" else if 0 < r then .str "after" else .str "before"
def sp_zin : Sp := fun vs H Q _ => ∃ r, vs = [.int r] ∧ Q (zin r) H
def sp_fut : Sp := fun vs H Q _ => ∃ r g k, vs = [.int r, .int g, .int k] ∧ Q (.bl (decide (1 ≤ g ∧ g ≤ r ∧ g ≤ k))) H
def zone (r g k : Int) : V := if g = 0 ∧ k = 0 then zin r else if 1 ≤ g ∧ g ≤ r ∧ g ≤ k then .str "future" else if g ≤ -1 ∧ r ≤ g ∧ k ≤ g then .str "past" else .non
def sp_zone : Sp := fun vs H Q _ => ∃ r g k, vs = [.int r, .int g, .int k] ∧ Q (zone r g k) H
def due (r g k : Int) : Bool := !decide (zone r g k = .non)
theorem due_eq (r g k : Int) : due r g k = decide ((g = 0 ∧ k = 0) ∨ (1 ≤ g ∧ g ≤ r ∧ g ≤ k) ∨ (g ≤ -1 ∧ r ≤ g ∧ k ≤ g)) := by
  unfold due zone zin
  (repeat' split) <;> simp <;> omega
def sp_due : Sp := fun vs H Q _ => ∃ r g k, vs = [.int r, .int g, .int k] ∧ Q (.bl (due r g k)) H
def sp_far : Sp := fun vs H Q _ => ∃ (a ac ar : Addr) (b : Int), vs = [.ref a, .int b] ∧ Dr H a ac ar ∧ ∀ (v : Int) (H' : Hp), Dr H' a ac ar → My.Fr [a, ar] H H' → Q (.int v) H'
def sp_poss : Sp := fun vs H Q _ => ∃ r g k, vs = [.int r, .int g, .int k] ∧ Q (.bl (!decide (zone r g k = .non))) H
def sp_right : Sp := fun vs H Q _ => ∃ r g k, vs = [.int r, .int g, .int k] ∧ Q (.bl true) H
def sp_law (K : PySem.W.Frag) : Sp := fun vs H Q _ => ∃ (a : Addr) (ns : List Int), vs = [.ref a] ∧ SqL K H a (ns.map V.int) ∧ ns.length ≤ 63 ∧ ∀ H', Q (.bl true) H'
def I1 (a p ac ar : Addr) (_ : Nat) (σ : L2.St) (H : Hp) : Prop := ∃ vd vg vk vt vb, σ = [some (.ref a), some (.ref p), vd, vg, vk, vt, vb] ∧ Dr H p ac ar
def I2 (a p ac ar : Addr) (d : Int) (_ : Nat) (σ : L2.St) (H : Hp) : Prop := ∃ vg vk vt vb, σ = [some (.ref a), some (.ref p), some (.int d), vg, vk, vt, vb] ∧ Dr H p ac ar
def I3 (a p ac ar : Addr) (d g : Int) (_ : Nat) (σ : L2.St) (H : Hp) : Prop := ∃ vk vt vb, σ = [some (.ref a), some (.ref p), some (.int d), some (.int g), vk, vt, vb] ∧ Dr H p ac ar
local macro_rules | `(tactic| walk_at "wp") => `(tactic| try simp only [mw_seq, mw_next, mw_brk, mw_cont, mw_ret, mw_retN, mw_asg, mw_asgN, mw_asgS, mw_sub1, mw_sub2, mw_at, mw_drop, mw_dropK, mw_aug, mw_augK, mw_aug2, mw_if, mw_ifK, mw_test, mw_B, mw_KB, mw_and, mw_andK, mw_or, mw_orK, mw_not, mw_notK, mw_yes, mw_cxK, mw_c, mw_var0, mw_varS, mw_op, mw_op1, mw_op2, mw_un, mw_unK, mw_rI0, mw_rI, mw_rU, mw_eqII, mw_neII, mw_eqBB, mw_neBB, mw_eqSS, mw_neSS, mw_cons, mw_arg1, mw_arg2, mw_nil, mw_call, mw_callK, mw_callK0, mw_callK0K, mw_CB, mw_CBK, mw_tup, mw_lst, mw_ife, mw_ifeK, mw_andV, mw_andVK, mw_orV, mw_orVK, mw_notV, mw_notVK, mw_fld, mw_BM, mw_BMK, mw_BM2, mw_sl, mw_sl1, mw_sl2, mw_sl3, mw_part, mw_partK, mw_noPart, mw_make, mw_meth, mw_sfld, mw_sf1, mw_intI, mw_intB, mw_abs, mw_max, mw_min, mw_isBB, mw_isIB, mw_isII, mw_isBI, mw_isNo, mw_notNo, mw_tupG, mw_gcons, mw_gnil, mw_ktg, mw_gname, mw_forL, mw_forT, mw_forR1, mw_forR2, mw_lcL, mw_lcT, mw_lcR1, ite_and_m, ite_or_m, L2.start, L2.wipe, List.map_cons, List.map_nil, List.length_cons, List.length_nil, List.replicate, List.cons_append, List.nil_append, List.append_nil, List.set_cons_zero, List.set_cons_succ, L2.V.int.injEq, L2.V.bl.injEq, L2.V.str.injEq, L2.V.ref.injEq, L2.V.ty.injEq, List.cons.injEq, reduceCtorEq, exists_eq_left, exists_eq_left', exists_and_left, exists_and_right, exists_eq, and_assoc, and_true, true_and, and_self, decide_eq_true_eq, decide_true, decide_false, Bool.not_eq_true, Bool.not_true, Bool.not_false, if_true, if_false, ite_true, ite_false, Bool.false_eq_true, Bool.not_eq_eq_eq_not, decide_eq_false_iff_not, Nat.reduceSub, Nat.reduceAdd, false_or, or_false, exists_const, false_and, and_false, exists_false, sp_zin, sp_zone, sp_poss, sp_fut, sp_due, sp_right])
local macro_rules | `(tactic| walk_at "num") => `(tactic| first | decide | exact ⟨by decide, by decide, by decide⟩ | exact .inl ⟨by omega, by omega⟩ | exact .inr ⟨by omega, by omega⟩ | exact .inl ⟨by decide, by decide⟩ | exact .inr ⟨by decide, by decide⟩ | omega)
local macro_rules | `(tactic| walk_at "hp") => `(tactic| first | assumption | exact upd_same | (refine (upd_ne ?_).trans ?_; (walk_at "ne"); (walk_at "hp")))
local macro_rules | `(tactic| walk_at "ne") => `(tactic| first | assumption | exact Ne.symm (by assumption) | exact ne_of_none (by walk_at "hp") (by assumption) | exact Ne.symm (ne_of_none (by walk_at "hp") (by assumption)))
local macro_rules | `(tactic| walk_at "fin") => `(tactic| first | assumption | (refine q_bl (by assumption) ?_; first | rfl | exact decide_eq_true (by omega) | exact decide_eq_false (by omega) | exact (decide_eq_true (by omega)).symm | exact (decide_eq_false (by omega)).symm | exact decide_eq_decide.mpr (by omega) | (simp; omega)))
section
variable {P : Program} {w : World} {K : PySem.W.Frag} {mg : Str → Option Value} {base : Heap}
theorem ok__zone_in_group (ev : E K mg) : My.Callee P w K mg base CX0 1 d__zone_in_group ["rows"] sp_zin := by
  obtain ⟨fd, F⟩ := ev.c.def_ 2 (d := d__zone_in_group) rfl
  refine ⟨_, fd, ?_, ev.glo 2, F.kp, F.bindsN fun _ _ _ _ _ _ us hl => match us, hl with | [_], _ => rfl, F⟩
  refine F.ok sc__zone_in_group (fun vs H Q Ex h => ?_) (fun cdv A outer s H vs Q Ex hr h => ⟨_, PSs.nox
    (pss_cons (ps_if (pt_cmpR op_eq (pv 0) pe_int (nomark _)) (pss_one (ps_ret pe_str))
  pss_nil)
  (pss_one (ps_ret (pe_ifExp (pt_cmpR op_gt (pv 0) pe_int (nomark _)) pe_str pe_str)))), ?_⟩)
  · first | (obtain ⟨rfl, _⟩ := h; rfl) | (obtain ⟨_, rfl, _⟩ := h; rfl) | (obtain ⟨_, _, rfl, _⟩ := h; rfl) | (obtain ⟨_, _, _, rfl, _⟩ := h; rfl) | (obtain ⟨_, _, _, _, rfl, _⟩ := h; rfl) | (obtain ⟨_, _, _, _, _, rfl, _⟩ := h; rfl) | (obtain ⟨_, _, _, _, _, _, rfl, _⟩ := h; rfl) | (obtain ⟨_, _, _, _, _, _, _, rfl, _⟩ := h; rfl) | (obtain ⟨_, _, _, _, _, _, _, _, rfl, _⟩ := h; rfl)
  · obtain ⟨r, rfl, q⟩ := h
    unfold zin at q
    walk_at "wp"
    (repeat' split) <;> simp_all
theorem ok__law_begin (ev : E K mg) : My.Callee P w K mg base CX0 1 d__law_begin ["_law_script"] (spBegin K) := by
  obtain ⟨fd, F⟩ := ev.c.def_ 3 (d := d__law_begin) rfl
  refine ⟨_, fd, ?_, ev.glo 3, F.kp, F.bindsN fun _ _ _ _ _ _ us hl => match us, hl with | [_], _ => rfl, F⟩
  refine F.ok sc__law_begin (fun vs H Q Ex h => ?_) (fun cdv A outer s H vs Q Ex hr h => ⟨_, PSs.nox
    (pss_cons (ps_setLc (i := 1) (own := [("_law_cell", 3)]) (g := (gName 3)) (tt := tYes) rfl sc__law_begin.nd rfl rfl (sw_true rfl rfl rfl (by decide +kernel)) (pi_list (pe_slice sl_list (pv 0) po_none (po_some pe_int))) (blkOk_by (own := [("_law_cell", 3)]) (N := ["_law_script", "_law_cells", "_law_rests", "_law_cell"]) (sc := defScope s__law_begin) (by decide +kernel)) (fun _ _ _ _ _ => (pg_name (i := 3) sc__law_begin.nd rfl (Or.inl rfl))) (fun _ _ _ _ _ => pts_nil) (fun _ _ _ _ _ => (pe_callTy call_intR rfl (free_int ev) (by decide +kernel) (pa_cons (pv 3) pa_nil))))
  (pss_cons (ps_if (pt_cmpR op_eq (pe_callB call_lenR rfl (free_len ev) (by decide +kernel) (pa_cons (pv 1) pa_nil)) pe_int (nomark _)) (pss_one (ps_set (i := 1) sc__law_begin.nd rfl (Or.inl rfl) (pe_lst (pa_cons pe_int pa_nil))))
  pss_nil)
  (pss_cons (ps_setLc (i := 2) (own := [("_law_cell", 3)]) (g := (gName 3)) (tt := tYes) rfl sc__law_begin.nd rfl rfl (sw_true rfl rfl rfl (by decide +kernel)) (pi_list (pv 1)) (blkOk_by (own := [("_law_cell", 3)]) (N := ["_law_script", "_law_cells", "_law_rests", "_law_cell"]) (sc := defScope s__law_begin) (by decide +kernel)) (fun _ _ _ _ _ => (pg_name (i := 3) sc__law_begin.nd rfl (Or.inl rfl))) (fun _ _ _ _ _ => pts_nil) (fun _ _ _ _ _ => (pe_op op_mul (pe_callB call_absR rfl (free_abs ev) (by decide +kernel) (pa_cons (pv 3) pa_nil)) (pe_callTy call_intR rfl (free_int ev) (by decide +kernel) (pa_cons (pe_cmpR op_ge (pe_callB call_absR rfl (free_abs ev) (by decide +kernel) (pa_cons (pv 3) pa_nil)) (pe_op op_pow pe_int pe_int) (nomark _)) pa_nil)))))
  (pss_one (ps_ret (pe_lst (pa_cons (pv 1) (pa_cons (pv 2) (pa_cons pe_int pa_nil))))))))), ?_⟩)
  · first | (obtain ⟨rfl, _⟩ := h; rfl) | (obtain ⟨_, rfl, _⟩ := h; rfl) | (obtain ⟨_, _, rfl, _⟩ := h; rfl) | (obtain ⟨_, _, _, rfl, _⟩ := h; rfl) | (obtain ⟨_, _, _, _, rfl, _⟩ := h; rfl) | (obtain ⟨_, _, _, _, _, rfl, _⟩ := h; rfl) | (obtain ⟨_, _, _, _, _, _, rfl, _⟩ := h; rfl) | (obtain ⟨_, _, _, _, _, _, _, rfl, _⟩ := h; rfl) | (obtain ⟨_, _, _, _, _, _, _, _, rfl, _⟩ := h; rfl)
  · obtain ⟨a, ns, rfl, hS, hlen, q⟩ := h
    walk_at "wp"
    refine sl_l hS fun p hp => ?_
    have ecut : cutV (ns.map V.int) none (some 63) = ns.map V.int := cut_first (n := 63) (by rw [List.length_map]; exact hlen)
    rw [ecut]
    walk_at "wp"
    refine lc_ints (fun n => n) (SqL.of upd_same) (by omega) (fun n => rfl) (fun n hn H' Q' k => ?_) fun C H1 hC eC f1 => ?_
    · walk_at "wp"
      exact k
    rw [List.map_id'] at eC
    have f1' : My.Fr [] H H1 := (Fr.new hp).trans f1
    have hC' : H C = none := (Fr.new (S := []) hp).2 _ hC
    walk_at "wp"
    refine len_l (SqL.of eC) ?_
    walk_at "wp"
    split
    · refine new_l (by show 1 ≤ sizeLine; decide) fun Dl hD => ?_
      have f2 : My.Fr [] H (upd H1 Dl (.lst [V.int 0])) := f1'.trans (Fr.new hD)
      have eD : (upd H1 Dl (.lst [V.int 0])) Dl = some (.lst (([0] : List Int).map V.int)) := upd_same
      have hD' : H Dl = none := f1'.2 _ hD
      walk_at "wp"
      refine lc_ints (fun n => (n.natAbs : Int) * (if (10 : Int) ^ 18 ≤ (n.natAbs : Int) then 1 else 0)) (SqL.of eD) (by decide) (fun n => rfl) (fun n hn H' Q' k => ?_) fun Ad H3 hA eA f3 => ?_
      · walk_at "wp"
        refine ⟨⟨by decide, by decide, by decide⟩, .inr ?_, ?_⟩
        · (repeat' split) <;> exact ⟨by decide, by decide⟩
        · have e : (if (decide ((10 : Int) ^ Int.toNat 18 ≤ (n.natAbs : Int))) = true then (1 : Int) else 0) = (if (10 : Int) ^ 18 ≤ (n.natAbs : Int) then 1 else 0) := by
            rw [show Int.toNat 18 = 18 from rfl]; simp only [decide_eq_true_eq]
          first | exact k | (rw [e]; exact k) | (simp only [decide_eq_true_eq] at *; exact k)
      have f13 : My.Fr [] H H3 := f2.trans f3
      have hA' : H Ad = none := f2.2 _ hA
      have nAD : Ad ≠ Dl := fun z => by rw [z, eD] at hA; cases hA
      walk_at "wp"
      refine new_l (by show 3 ≤ sizeLine; decide) fun z hz => ?_
      walk_at "wp"
      have nzA : z ≠ Ad := fun y => by rw [y, eA] at hz; cases hz
      have eD3 : H3 Dl = some _ := f3.1 _ _ (by simp) eD
      have nzD : z ≠ Dl := fun y => by rw [y, eD3] at hz; cases hz
      refine q z Dl Ad _ (f13.2 _ hz) hD' hA' ⟨⟨_, _, 0, upd_same, (upd_ne nzD.symm).trans eD3, (upd_ne nzA.symm).trans eA, by rw [List.length_map], by first | exact hpos | (show 0 < 1; decide), by first | exact hle | (show 1 ≤ 1000; decide), by decide⟩, nzD, nzA, Ne.symm nAD⟩ (f13.put_new hz)
    · rename_i hne
      rw [List.length_map] at hne
      have hpos : 0 < ns.length := by omega
      have hle : ns.length ≤ 1000 := by omega
      have f2 := f1'
      have eD := eC
      have hD' := hC'
      refine lc_ints (fun n => (n.natAbs : Int) * (if (10 : Int) ^ 18 ≤ (n.natAbs : Int) then 1 else 0)) (SqL.of eD) (by omega) (fun n => rfl) (fun n hn H' Q' k => ?_) fun Ad H3 hA eA f3 => ?_
      · walk_at "wp"
        refine ⟨⟨by decide, by decide, by decide⟩, .inr ?_, ?_⟩
        · (repeat' split) <;> exact ⟨by decide, by decide⟩
        · have e : (if (decide ((10 : Int) ^ Int.toNat 18 ≤ (n.natAbs : Int))) = true then (1 : Int) else 0) = (if (10 : Int) ^ 18 ≤ (n.natAbs : Int) then 1 else 0) := by
            rw [show Int.toNat 18 = 18 from rfl]; simp only [decide_eq_true_eq]
          first | exact k | (rw [e]; exact k) | (simp only [decide_eq_true_eq] at *; exact k)
      have f13 : My.Fr [] H H3 := f2.trans f3
      have hA' : H Ad = none := f2.2 _ hA
      have nAD : Ad ≠ C := fun z => by rw [z, eD] at hA; cases hA
      walk_at "wp"
      refine new_l (by show 3 ≤ sizeLine; decide) fun z hz => ?_
      walk_at "wp"
      have nzA : z ≠ Ad := fun y => by rw [y, eA] at hz; cases hz
      have eD3 : H3 C = some _ := f3.1 _ _ (by simp) eD
      have nzD : z ≠ C := fun y => by rw [y, eD3] at hz; cases hz
      refine q z C Ad _ (f13.2 _ hz) hD' hA' ⟨⟨_, _, 0, upd_same, (upd_ne nzD.symm).trans eD3, (upd_ne nzA.symm).trans eA, by rw [List.length_map], by first | exact hpos | (show 0 < 1; decide), by first | exact hle | (show 1 ≤ 1000; decide), by decide⟩, nzD, nzA, Ne.symm nAD⟩ (f13.put_new hz)
theorem ok__law_draw (ev : E K mg) : My.Callee P w K mg base CX0 1 d__law_draw ["_law_draws", "_law_many"] spDraw := by
  obtain ⟨fd, F⟩ := ev.c.def_ 4 (d := d__law_draw) rfl
  refine ⟨_, fd, ?_, ev.glo 4, F.kp, F.bindsN fun _ _ _ _ _ _ us hl => match us, hl with | [_, _], _ => rfl, F⟩
  refine F.ok sc__law_draw (fun vs H Q Ex h => ?_) (fun cdv A outer s H vs Q Ex hr h => ⟨_, PSs.nox
    (pss_cons (ps_set (i := 2) sc__law_draw.nd rfl (Or.inl rfl) (pe_ix ix_list (pv 0) pe_int (fun _ _ => rfl)))
  (pss_cons (ps_set (i := 3) sc__law_draw.nd rfl (Or.inl rfl) (pe_ix ix_list (pv 0) pe_int (fun _ _ => rfl)))
  (pss_cons (ps_set (i := 4) sc__law_draw.nd rfl (Or.inl rfl) (pe_ix ix_list (pv 0) pe_int (fun _ _ => rfl)))
  (pss_cons (ps_asg (pe_op op_add (pv 4) pe_int) (pg_sub (pv 0) pe_int set_list))
  (pss_cons (ps_set (i := 5) sc__law_draw.nd rfl (Or.inl rfl) (pe_op op_mod (pe_callTy call_intR rfl (free_int ev) (by decide +kernel) (pa_cons (pv 4) pa_nil)) (pe_callB call_lenR rfl (free_len ev) (by decide +kernel) (pa_cons (pv 2) pa_nil))))
  (pss_cons (ps_if (pt_cmpR op_gt (pe_ix ix_list (pv 3) (pv 5) (fun _ _ => rfl)) pe_int (nomark _)) (pss_cons (ps_set (i := 6) sc__law_draw.nd rfl (Or.inl rfl) (pe_op op_mod (pe_callTy call_intR rfl (free_int ev) (by decide +kernel) (pa_cons (pe_ix ix_list (pv 3) (pv 5) (fun _ _ => rfl)) pa_nil)) (pv 1)))
  (pss_cons (ps_asg (pe_op op_fdivW (pe_ix ix_list (pv 3) (pv 5) (fun _ _ => rfl)) (pv 1)) (pg_sub (pv 3) (pv 5) set_list))
  (pss_one (ps_ret (pv 6)))))
  pss_nil)
  (pss_cons (ps_set (i := 7) sc__law_draw.nd rfl (Or.inl rfl) (pe_op op_mod (pe_callTy call_intR rfl (free_int ev) (by decide +kernel) (pa_cons (pe_op op_mul (pe_op op_add (pe_op op_mod (pe_callTy call_intR rfl (free_int ev) (by decide +kernel) (pa_cons (pe_ix ix_list (pv 2) (pv 5) (fun _ _ => rfl)) pa_nil)) pe_int) pe_int) (pe_op op_add (pv 4) pe_int)) pa_nil)) pe_int))
  (pss_cons (ps_set (i := 8) sc__law_draw.nd rfl (Or.inl rfl) (pe_op op_add (pe_op op_mod (pe_callTy call_intR rfl (free_int ev) (by decide +kernel) (pa_cons (pe_ix ix_list (pv 2) (pv 5) (fun _ _ => rfl)) pa_nil)) pe_int) (pe_op op_mul pe_int (pv 4))))
  (pss_cons (ps_set (i := 9) sc__law_draw.nd rfl (Or.inl rfl) (pe_op op_mod (pe_callTy call_intR rfl (free_int ev) (by decide +kernel) (pa_cons (pe_op op_add (pe_op op_add (pe_op op_mul (pv 7) (pv 7)) (pe_op op_mul pe_int (pv 7))) (pv 8)) pa_nil)) pe_int))
  (pss_cons (ps_set (i := 10) sc__law_draw.nd rfl (Or.inl rfl) (pe_op op_add (pe_op op_mul (pe_op op_mod (pe_callTy call_intR rfl (free_int ev) (by decide +kernel) (pa_cons (pv 9) pa_nil)) pe_int) pe_int) (pe_op op_mul (pe_op op_fdivW (pv 9) pe_int) pe_int)))
  (pss_cons (ps_set (i := 11) sc__law_draw.nd rfl (Or.inl rfl) (pe_op op_mod (pe_callTy call_intR rfl (free_int ev) (by decide +kernel) (pa_cons (pe_op op_add (pv 10) (pv 7)) pa_nil)) pe_int))
  (pss_cons (ps_if (pt_cmpR op_le (pv 1) pe_int (nomark _)) (pss_one (ps_ret (pe_op op_mod (pe_callTy call_intR rfl (free_int ev) (by decide +kernel) (pa_cons (pv 11) pa_nil)) (pv 1))))
  pss_nil)
  (pss_one (ps_ret (pe_op op_mod (pe_callTy call_intR rfl (free_int ev) (by decide +kernel) (pa_cons (pe_op op_add (pe_op op_mul (pv 11) pe_int) (pv 9)) pa_nil)) (pv 1)))))))))))))))), ?_⟩)
  · first | (obtain ⟨rfl, _⟩ := h; rfl) | (obtain ⟨_, rfl, _⟩ := h; rfl) | (obtain ⟨_, _, rfl, _⟩ := h; rfl) | (obtain ⟨_, _, _, rfl, _⟩ := h; rfl) | (obtain ⟨_, _, _, _, rfl, _⟩ := h; rfl) | (obtain ⟨_, _, _, _, _, rfl, _⟩ := h; rfl) | (obtain ⟨_, _, _, _, _, _, rfl, _⟩ := h; rfl) | (obtain ⟨_, _, _, _, _, _, _, rfl, _⟩ := h; rfl) | (obtain ⟨_, _, _, _, _, _, _, _, rfl, _⟩ := h; rfl)
  · obtain ⟨a, ac, ar, m, rfl, hm, hmb, ⟨⟨cs, rs, t, ea, ec, er, hl, hc, hc2, ht⟩, n1, n2, n3⟩, q⟩ := h
    walk_at "wp"
    refine ix_l (SqL.of ea) rfl ?_
    walk_at "wp"
    refine ix_l (SqL.of ea) rfl ?_
    walk_at "wp"
    refine ix_l (SqL.of ea) rfl ?_
    walk_at "wp"
    refine set_l ea rfl ?_
    walk_at "wp"
    have ec1 : (upd H a (.lst [.ref ac, .ref ar, .int (t + 1)])) ac = some (.lst (cs.map V.int)) := by rw [upd_ne n1.symm]; exact ec
    have er1 : (upd H a (.lst [.ref ac, .ref ar, .int (t + 1)])) ar = some (.lst (rs.map V.int)) := by rw [upd_ne n2.symm]; exact er
    refine len_l (SqL.of ec1) ?_
    walk_at "wp"
    refine ⟨by rw [List.length_map]; omega, ?_⟩
    rw [List.length_map]
    generalize hi : t % (cs.length : Int) = i
    have hi0 : 0 ≤ i := by rw [← hi]; exact Int.emod_nonneg _ (by omega)
    have hi1 : i < cs.length := by rw [← hi]; exact Int.emod_lt_of_pos _ (by omega)
    refine ix_l (SqL.of er1) (at_ints hi0 (by omega)) ?_
    walk_at "wp"
    have eh : [V.ref ac, V.ref ar, V.int t].set (Int.toNat 2) (V.int (t + 1)) = [V.ref ac, V.ref ar, V.int (t + 1)] := rfl
    rw [eh]
    have D1 : Dr (upd H a (.lst [.ref ac, .ref ar, .int (t + 1)])) a ac ar := ⟨⟨cs, rs, t + 1, upd_same, ec1, er1, hl, hc, hc2, by omega⟩, n1, n2, n3⟩
    have F1 : My.Fr [a, ar] H (upd H a (.lst [.ref ac, .ref ar, .int (t + 1)])) := (Fr.refl _ _).put (by simp)
    split
    · refine ix_l (SqL.of er1) (at_ints hi0 (by omega)) ?_
      walk_at "wp"
      refine ⟨hm, ix_l (SqL.of er1) (at_ints hi0 (by omega)) ?_⟩
      walk_at "wp"
      refine ⟨wide_div (b := 100) hm (by omega) (by decide) (by decide), set_l er1 (ix_ints hi0 (by omega)) ?_⟩
      walk_at "wp"
      rw [set_ints]
      refine q _ _ (Int.emod_nonneg _ (by omega)) (Int.emod_lt_of_pos _ hm) ⟨⟨cs, _, t + 1, by rw [upd_ne n2]; exact upd_same, by rw [upd_ne n3]; exact ec1, upd_same, by rw [List.length_set]; exact hl, hc, hc2, by omega⟩, n1, n2, n3⟩ (F1.put (by simp))
    · refine ix_l (SqL.of ec1) (at_ints hi0 hi1) ?_
      walk_at "wp"
      generalize cs.getD i.toNat 0 = c
      refine ⟨by decide, .inl ⟨by omega, by omega⟩, by decide, ?_⟩
      generalize hx : (c % 2147483629 + 1000003) * (t + 48271) % 2147483647 = x
      have x0 : 0 ≤ x ∧ x < 2147483647 := by omega
      refine ix_l (SqL.of ec1) (at_ints hi0 hi1) ?_
      walk_at "wp"
      refine ⟨by decide, .inl ⟨by decide, by decide⟩, .inl ⟨by omega, by omega⟩, .inl ⟨by decide, by decide⟩, by decide, ?_⟩
      generalize hy : (x * x + 69697 * x + _) % 2147483587 = y
      have y0 : 0 ≤ y ∧ y < 2147483587 := by omega
      refine ⟨by decide, .inr ⟨by decide, by decide⟩, ⟨by decide, Nat.lt_of_le_of_lt (by decide : _ ≤ 20) (by decide)⟩, .inr ⟨by decide, by decide⟩, by decide, ?_⟩
      generalize hz : (y % 65537 * 40503 + y / 65537 * 30011 + x) % 2147483549 = z
      have z0 : 0 ≤ z ∧ z < 2147483549 := by omega
      split
      · refine ⟨hm, q _ _ (Int.emod_nonneg _ (by omega)) (Int.emod_lt_of_pos _ hm) D1 F1⟩
      · refine ⟨.inr ⟨by decide, by decide⟩, hm, q _ _ (Int.emod_nonneg _ (by omega)) (Int.emod_lt_of_pos _ hm) D1 F1⟩
theorem ok__law_in_future (ev : E K mg) : My.Callee P w K mg base CX0 1 d__law_in_future ["_law_d", "_law_g", "_law_k"] sp_fut := by
  obtain ⟨fd, F⟩ := ev.c.def_ 5 (d := d__law_in_future) rfl
  refine ⟨_, fd, ?_, ev.glo 5, F.kp, F.bindsN fun _ _ _ _ _ _ us hl => match us, hl with | [_, _, _], _ => rfl, F⟩
  refine F.ok sc__law_in_future (fun vs H Q Ex h => ?_) (fun cdv A outer s H vs Q Ex hr h => ⟨_, PSs.nox
    (pss_one (ps_ret (pe_and (pe_cmpR op_ge (pv 1) pe_int (nomark _)) (pe_and (pe_cmpR op_ge (pv 0) (pv 1) (nomark _)) (pe_one (pe_cmpR op_ge (pv 2) (pv 1) (nomark _))))))), ?_⟩)
  · first | (obtain ⟨rfl, _⟩ := h; rfl) | (obtain ⟨_, rfl, _⟩ := h; rfl) | (obtain ⟨_, _, rfl, _⟩ := h; rfl) | (obtain ⟨_, _, _, rfl, _⟩ := h; rfl) | (obtain ⟨_, _, _, _, rfl, _⟩ := h; rfl) | (obtain ⟨_, _, _, _, _, rfl, _⟩ := h; rfl) | (obtain ⟨_, _, _, _, _, _, rfl, _⟩ := h; rfl) | (obtain ⟨_, _, _, _, _, _, _, rfl, _⟩ := h; rfl) | (obtain ⟨_, _, _, _, _, _, _, _, rfl, _⟩ := h; rfl)
  · obtain ⟨r, g, k, rfl, q⟩ := h
    walk_at "wp"
    (repeat' split) <;> walk_at "fin"
theorem ok_zone_of (ev : E K mg) : My.Callee P w K mg base CX0 2 d_zone_of ["rows", "groups", "distance"] sp_zone := by
  obtain ⟨fd, F⟩ := ev.c.def_ 1 (d := d_zone_of) rfl
  refine ⟨_, fd, ?_, ev.glo 1, F.kp, F.bindsN fun _ _ _ _ _ _ us hl => match us, hl with | [_, _, _], _ => rfl, F⟩
  refine F.ok sc_zone_of (fun vs H Q Ex h => ?_) (fun cdv A outer s H vs Q Ex hr h => ⟨_, PSs.nox
    (pss_cons (ps_if (PW.pt (pw_and (pt_cmpR op_eq (pv 1) pe_int (nomark _)) (pw_and1 (pt_cmpR op_eq (pv 2) pe_int (nomark _))))) (pss_one (ps_ret (pe_fn (ok__zone_in_group ev) (hr.mono (by decide)) rfl (pa_cons (pv 0) pa_nil))))
  pss_nil)
  (pss_cons (ps_if (PW.pt (pw_and (pt_cmpR op_ge (pv 1) pe_int (nomark _)) (pw_and (pt_cmpR op_ge (pv 0) (pv 1) (nomark _)) (pw_and1 (pt_cmpR op_ge (pv 2) (pv 1) (nomark _)))))) (pss_one (ps_ret pe_str))
  pss_nil)
  (pss_cons (ps_if (PW.pt (pw_and (pt_cmpR op_le (pv 1) (pe_un un_neg pe_int) (nomark _)) (pw_and (pt_cmpR op_le (pv 0) (pv 1) (nomark _)) (pw_and1 (pt_cmpR op_le (pv 2) (pv 1) (nomark _)))))) (pss_one (ps_ret pe_str))
  pss_nil)
  (pss_one (ps_ret pe_non))))), ?_⟩)
  · first | (obtain ⟨rfl, _⟩ := h; rfl) | (obtain ⟨_, rfl, _⟩ := h; rfl) | (obtain ⟨_, _, rfl, _⟩ := h; rfl) | (obtain ⟨_, _, _, rfl, _⟩ := h; rfl) | (obtain ⟨_, _, _, _, rfl, _⟩ := h; rfl) | (obtain ⟨_, _, _, _, _, rfl, _⟩ := h; rfl) | (obtain ⟨_, _, _, _, _, _, rfl, _⟩ := h; rfl) | (obtain ⟨_, _, _, _, _, _, _, rfl, _⟩ := h; rfl) | (obtain ⟨_, _, _, _, _, _, _, _, rfl, _⟩ := h; rfl)
  · obtain ⟨r, g, k, rfl, q⟩ := h
    unfold zone at q
    walk_at "wp"
    (repeat' split) <;> simp_all
theorem ok__law_due (ev : E K mg) : My.Callee P w K mg base CX0 2 d__law_due ["_law_d", "_law_g", "_law_k"] sp_due := by
  obtain ⟨fd, F⟩ := ev.c.def_ 6 (d := d__law_due) rfl
  refine ⟨_, fd, ?_, ev.glo 6, F.kp, F.bindsN fun _ _ _ _ _ _ us hl => match us, hl with | [_, _, _], _ => rfl, F⟩
  refine F.ok sc__law_due (fun vs H Q Ex h => ?_) (fun cdv A outer s H vs Q Ex hr h => ⟨_, PSs.nox
    (pss_cons (ps_if (PW.pt (pw_and (pt_cmpR op_eq (pv 0) pe_int (nomark _)) (pw_and (pt_cmpR op_eq (pv 1) pe_int (nomark _)) (pw_and1 (pt_cmpR op_eq (pv 2) pe_int (nomark _)))))) (pss_one (ps_ret pe_bl))
  pss_nil)
  (pss_cons (ps_if (PW.pt (pw_and (pt_cmpR op_eq (pv 1) pe_int (nomark _)) (pw_and1 (pt_cmpR op_eq (pv 2) pe_int (nomark _))))) (pss_one (ps_ret (pe_or (pe_cmpR op_ge (pv 0) pe_int (nomark _)) (pe_one (pe_cmpR op_le (pv 0) (pe_un un_neg pe_int) (nomark _))))))
  pss_nil)
  (pss_one (ps_ret (pe_or (pe_fn (ok__law_in_future ev) (hr.mono (by decide)) rfl (pa_cons (pv 0) (pa_cons (pv 1) (pa_cons (pv 2) pa_nil)))) (pe_one (pe_fn (ok__law_in_future ev) (hr.mono (by decide)) rfl (pa_cons (pe_op op_sub pe_int (pv 0)) (pa_cons (pe_op op_sub pe_int (pv 1)) (pa_cons (pe_op op_sub pe_int (pv 2)) pa_nil)))))))))), ?_⟩)
  · first | (obtain ⟨rfl, _⟩ := h; rfl) | (obtain ⟨_, rfl, _⟩ := h; rfl) | (obtain ⟨_, _, rfl, _⟩ := h; rfl) | (obtain ⟨_, _, _, rfl, _⟩ := h; rfl) | (obtain ⟨_, _, _, _, rfl, _⟩ := h; rfl) | (obtain ⟨_, _, _, _, _, rfl, _⟩ := h; rfl) | (obtain ⟨_, _, _, _, _, _, rfl, _⟩ := h; rfl) | (obtain ⟨_, _, _, _, _, _, _, rfl, _⟩ := h; rfl) | (obtain ⟨_, _, _, _, _, _, _, _, rfl, _⟩ := h; rfl)
  · obtain ⟨r, g, k, rfl, q⟩ := h
    rw [due_eq] at q
    walk_at "wp"
    (repeat' split) <;> walk_at "fin"
theorem ok__law_far (ev : E K mg) : My.Callee P w K mg base CX0 2 d__law_far ["_law_draws", "_law_base"] sp_far := by
  obtain ⟨fd, F⟩ := ev.c.def_ 8 (d := d__law_far) rfl
  refine ⟨_, fd, ?_, ev.glo 8, F.kp, F.bindsN fun _ _ _ _ _ _ us hl => match us, hl with | [_, _], _ => rfl, F⟩
  refine F.ok sc__law_far (fun vs H Q Ex h => ?_) (fun cdv A outer s H vs Q Ex hr h => ⟨_, PSs.nox
    (pss_cons (ps_set (i := 2) sc__law_far.nd rfl (Or.inl rfl) (pe_fn (ok__law_draw ev) (hr.mono (by decide)) rfl (pa_cons (pv 0) (pa_cons pe_int pa_nil))))
  (pss_cons (ps_if (pt_cmpR op_lt (pv 2) pe_int (nomark _)) (pss_one (ps_ret (pe_op op_sub (pe_op op_add (pv 1) (pv 2)) pe_int)))
  pss_nil)
  (pss_cons (ps_if (pt_cmpR op_eq (pv 2) pe_int (nomark _)) (pss_one (ps_ret (pe_op op_sub pe_int (pv 1))))
  pss_nil)
  (pss_one (ps_ret (pe_op op_sub (pe_fn (ok__law_draw ev) (hr.mono (by decide)) rfl (pa_cons (pv 0) (pa_cons (pe_op op_add (pe_op op_mul pe_int (pe_op op_pow pe_int pe_int)) pe_int) pa_nil))) (pe_op op_pow pe_int pe_int))))))), ?_⟩)
  · first | (obtain ⟨rfl, _⟩ := h; rfl) | (obtain ⟨_, rfl, _⟩ := h; rfl) | (obtain ⟨_, _, rfl, _⟩ := h; rfl) | (obtain ⟨_, _, _, rfl, _⟩ := h; rfl) | (obtain ⟨_, _, _, _, rfl, _⟩ := h; rfl) | (obtain ⟨_, _, _, _, _, rfl, _⟩ := h; rfl) | (obtain ⟨_, _, _, _, _, _, rfl, _⟩ := h; rfl) | (obtain ⟨_, _, _, _, _, _, _, rfl, _⟩ := h; rfl) | (obtain ⟨_, _, _, _, _, _, _, _, rfl, _⟩ := h; rfl)
  · obtain ⟨a, ac, ar, b, rfl, D, q⟩ := h
    walk_at "wp"
    refine ⟨a, ac, ar, 5, rfl, by decide, by decide, D, fun v H1 v0 v1 D1 F1 => ?_⟩
    walk_at "wp"
    split
    · exact q _ _ D1 F1
    · split
      · exact q _ _ D1 F1
      · refine ⟨by walk_at "num", by walk_at "num", ?_⟩
        refine ⟨a, ac, ar, _, rfl, by decide, by decide, D1, fun v H2 v0 v1 D2 F2 => ?_⟩
        walk_at "wp"
        refine ⟨by walk_at "num", ?_⟩
        exact q _ _ D2 (F1.trans F2)
theorem ok_possible (ev : E K mg) : My.Callee P w K mg base CX0 3 d_possible ["rows", "groups", "distance"] sp_poss := by
  obtain ⟨fd, F⟩ := ev.c.def_ 0 (d := d_possible) rfl
  refine ⟨_, fd, ?_, ev.glo 0, F.kp, F.bindsN fun _ _ _ _ _ _ us hl => match us, hl with | [_, _, _], _ => rfl, F⟩
  refine F.ok sc_possible (fun vs H Q Ex h => ?_) (fun cdv A outer s H vs Q Ex hr h => ⟨_, PSs.nox
    (pss_one (ps_ret (pe_cmpR op_notNo (pe_fn (ok_zone_of ev) (hr.mono (by decide)) rfl (pa_cons (pv 0) (pa_cons (pv 1) (pa_cons (pv 2) pa_nil)))) pe_non (nomark _)))), ?_⟩)
  · first | (obtain ⟨rfl, _⟩ := h; rfl) | (obtain ⟨_, rfl, _⟩ := h; rfl) | (obtain ⟨_, _, rfl, _⟩ := h; rfl) | (obtain ⟨_, _, _, rfl, _⟩ := h; rfl) | (obtain ⟨_, _, _, _, rfl, _⟩ := h; rfl) | (obtain ⟨_, _, _, _, _, rfl, _⟩ := h; rfl) | (obtain ⟨_, _, _, _, _, _, rfl, _⟩ := h; rfl) | (obtain ⟨_, _, _, _, _, _, _, rfl, _⟩ := h; rfl) | (obtain ⟨_, _, _, _, _, _, _, _, rfl, _⟩ := h; rfl)
  · obtain ⟨r, g, k, rfl, q⟩ := h
    walk_at "wp"
    exact q
theorem ok__law_right (ev : E K mg) : My.Callee P w K mg base CX0 4 d__law_right ["_law_d", "_law_g", "_law_k"] sp_right := by
  obtain ⟨fd, F⟩ := ev.c.def_ 7 (d := d__law_right) rfl
  refine ⟨_, fd, ?_, ev.glo 7, F.kp, F.bindsN fun _ _ _ _ _ _ us hl => match us, hl with | [_, _, _], _ => rfl, F⟩
  refine F.ok sc__law_right (fun vs H Q Ex h => ?_) (fun cdv A outer s H vs Q Ex hr h => ⟨_, PSs.nox
    (pss_cons (ps_set (i := 3) sc__law_right.nd rfl (Or.inl rfl) (pe_fn (ok_possible ev) (hr.mono (by decide)) rfl (pa_cons (pv 0) (pa_cons (pv 1) (pa_cons (pv 2) pa_nil)))))
  (pss_one (ps_ret (pe_and (pe_callB call_isB rfl (free_isinstance ev) (by decide +kernel) (pa_cons (pv 3) (pa_cons (pe_bltn (v := .ty "bool") (u := .type "bool") rfl (free_bool ev) (by decide +kernel) rfl) pa_nil))) (pe_one (pe_cmpR op_eq (pv 3) (pe_fn (ok__law_due ev) (hr.mono (by decide)) rfl (pa_cons (pv 0) (pa_cons (pv 1) (pa_cons (pv 2) pa_nil)))) (nomark _))))))), ?_⟩)
  · first | (obtain ⟨rfl, _⟩ := h; rfl) | (obtain ⟨_, rfl, _⟩ := h; rfl) | (obtain ⟨_, _, rfl, _⟩ := h; rfl) | (obtain ⟨_, _, _, rfl, _⟩ := h; rfl) | (obtain ⟨_, _, _, _, rfl, _⟩ := h; rfl) | (obtain ⟨_, _, _, _, _, rfl, _⟩ := h; rfl) | (obtain ⟨_, _, _, _, _, _, rfl, _⟩ := h; rfl) | (obtain ⟨_, _, _, _, _, _, _, rfl, _⟩ := h; rfl) | (obtain ⟨_, _, _, _, _, _, _, _, rfl, _⟩ := h; rfl)
  · obtain ⟨r, g, k, rfl, q⟩ := h
    walk_at "wp"
    unfold due
    simpa using q
theorem ok_law (ev : E K mg) : ∃ fd : FuncData, (∀ (s : Shared) (v : Value), BindsTo s fd ⟨[v], []⟩ [("_law_script", v)]) ∧ ∀ base : Heap, FnOk P w K mg base CX0 5 (He.ga K "law") fd ["_law_script"] (sp_law K) := by
  obtain ⟨fd, F⟩ := ev.c.def_ 9 (d := d_law) rfl
  have b := FunD.bindsA (ps := ["_law_script"]) F fun _ _ _ _ _ _ us hl => match us, hl with | [_], _ => rfl
  refine ⟨fd, fun s v => b s [v] rfl, fun base => ?_⟩
  refine F.ok sc_law (fun vs H Q Ex h => ?_) (fun cdv A outer s H vs Q Ex hr h => ⟨_, PSs.nox
    (pss_cons (ps_set (i := 1) sc_law.nd rfl (Or.inl rfl) (pe_fn (ok__law_begin ev) (hr.mono (by decide)) rfl (pa_cons (pv 0) pa_nil)))
  (pss_cons (ps_for PassesOwn.never rfl (pi_range2 rfl (free_range ev) (pa_cons (pe_un un_neg pe_int) (pa_cons pe_int pa_nil))) (pg_name (i := 2) sc_law.nd rfl (Or.inl rfl))
  (pss_one (ps_for PassesOwn.never rfl (pi_range2 rfl (free_range ev) (pa_cons (pe_un un_neg pe_int) (pa_cons pe_int pa_nil))) (pg_name (i := 3) sc_law.nd rfl (Or.inl rfl))
  (pss_one (ps_for PassesOwn.never rfl (pi_range2 rfl (free_range ev) (pa_cons (pe_un un_neg pe_int) (pa_cons pe_int pa_nil))) (pg_name (i := 4) sc_law.nd rfl (Or.inl rfl))
  (pss_one (ps_if (pt_not (pt_val (pe_fn (ok__law_right ev) (hr.mono (by decide)) rfl (pa_cons (pv 2) (pa_cons (pv 3) (pa_cons (pv 4) pa_nil)))))) (pss_one (ps_ret pe_bl))
  pss_nil)))))))
  (pss_cons (ps_for PassesOwn.never rfl (pi_range1 rfl (free_range ev) (pa_cons pe_int pa_nil)) (pg_name (i := 5) sc_law.nd rfl (Or.inl rfl))
  (pss_cons (ps_set (i := 6) sc_law.nd rfl (Or.inl rfl) (pe_fn (ok__law_far ev) (hr.mono (by decide)) rfl (pa_cons (pv 1) (pa_cons pe_int pa_nil))))
  (pss_cons (ps_set (i := 2) sc_law.nd rfl (Or.inl rfl) (pe_fn (ok__law_far ev) (hr.mono (by decide)) rfl (pa_cons (pv 1) (pa_cons (pv 6) pa_nil))))
  (pss_cons (ps_set (i := 3) sc_law.nd rfl (Or.inl rfl) (pe_fn (ok__law_far ev) (hr.mono (by decide)) rfl (pa_cons (pv 1) (pa_cons (pe_ix ix_list (pe_lst (pa_cons (pv 6) (pa_cons (pv 2) pa_nil))) (pe_fn (ok__law_draw ev) (hr.mono (by decide)) rfl (pa_cons (pv 1) (pa_cons pe_int pa_nil))) (fun _ _ => rfl)) pa_nil))))
  (pss_cons (ps_set (i := 4) sc_law.nd rfl (Or.inl rfl) (pe_fn (ok__law_far ev) (hr.mono (by decide)) rfl (pa_cons (pv 1) (pa_cons (pe_ix ix_list (pe_lst (pa_cons (pv 6) (pa_cons (pv 3) pa_nil))) (pe_fn (ok__law_draw ev) (hr.mono (by decide)) rfl (pa_cons (pv 1) (pa_cons pe_int pa_nil))) (fun _ _ => rfl)) pa_nil))))
  (pss_cons (ps_if (PW.pt (pw_or (pt_not (pt_val (pe_fn (ok__law_right ev) (hr.mono (by decide)) rfl (pa_cons (pv 2) (pa_cons (pv 3) (pa_cons (pv 4) pa_nil)))))) (pw_or1 (pt_not (pt_val (pe_fn (ok__law_right ev) (hr.mono (by decide)) rfl (pa_cons (pv 4) (pa_cons (pv 3) (pa_cons (pv 2) pa_nil))))))))) (pss_one (ps_ret pe_bl))
  pss_nil)
  (pss_one (ps_if (pt_cmpR op_ne (pe_fnK0 (ks := ["distance", "rows", "groups"]) (ok_possible ev) (fun l => match l with | [a0, a1, a2] => [a1, a2, a0] | l => l) (hr.mono (by decide)) rfl (pk_cons (pv 4) (pk_cons (pv 2) (pk_cons (pv 3) pk_nil))) (fun _ _ _ _ _ _ ws hl => match ws, hl with | [_, _, _], _ => rfl) (fun t => by (cases t with | nil => exact .nil | cons r0 t => (cases t with | nil => exact (.cons r0 .nil) | cons r1 t => (cases t with | nil => exact (.cons r0 (.cons r1 .nil)) | cons r2 t => (cases t with | nil => exact (.cons r1 (.cons r2 (.cons r0 .nil))) | cons r3 u => exact (.cons r0 (.cons r1 (.cons r2 (.cons r3 u)))))))))) (pe_fn (ok__law_due ev) (hr.mono (by decide)) rfl (pa_cons (pv 2) (pa_cons (pv 3) (pa_cons (pv 4) pa_nil)))) (nomark _)) (pss_one (ps_ret pe_bl))
  pss_nil))))))))
  (pss_one (ps_ret pe_bl))))), ?_⟩)
  · first | (obtain ⟨rfl, _⟩ := h; rfl) | (obtain ⟨_, rfl, _⟩ := h; rfl) | (obtain ⟨_, _, rfl, _⟩ := h; rfl) | (obtain ⟨_, _, _, rfl, _⟩ := h; rfl) | (obtain ⟨_, _, _, _, rfl, _⟩ := h; rfl) | (obtain ⟨_, _, _, _, _, rfl, _⟩ := h; rfl) | (obtain ⟨_, _, _, _, _, _, rfl, _⟩ := h; rfl) | (obtain ⟨_, _, _, _, _, _, _, rfl, _⟩ := h; rfl) | (obtain ⟨_, _, _, _, _, _, _, _, rfl, _⟩ := h; rfl)
  · obtain ⟨a, ns, rfl, hS, hl, q⟩ := h
    walk_at "wp"
    refine ⟨a, ns, rfl, hS, hl, fun p ac ar H1 hp hac har D1 F1 => ?_⟩
    walk_at "wp"
    refine for_r2 (by decide) (I1 a p ac ar) ⟨_, _, _, _, _, rfl, D1⟩ ?_ ?_
    · rintro i σ H hi ⟨vd, vg, vk, vt, vb, rfl, D⟩
      walk_at "wp"
      refine for_r2 (by decide) (I2 a p ac ar _) ⟨_, _, _, _, rfl, D⟩ ?_ ?_
      · rintro i σ H hi ⟨vg, vk, vt, vb, rfl, D⟩
        walk_at "wp"
        refine for_r2 (by decide) (I3 a p ac ar _ _) ⟨_, _, _, rfl, D⟩ ?_ ?_
        · rintro i σ H hi ⟨vk, vt, vb, rfl, D⟩
          walk_at "wp"
          exact ⟨_, _, _, rfl, D⟩
        · rintro σ H ⟨vk, vt, vb, rfl, D⟩
          exact ⟨_, _, _, _, rfl, D⟩
      · rintro σ H ⟨vg, vk, vt, vb, rfl, D⟩
        exact ⟨_, _, _, _, _, rfl, D⟩
    · rintro σ H ⟨vd, vg, vk, vt, vb, rfl, D⟩
      walk_at "wp"
      refine for_r1 (by decide) (I1 a p ac ar) (by decide) ⟨_, _, _, _, _, rfl, D⟩ ?_ ?_
      · rintro i σ H hi ⟨vd, vg, vk, vt, vb, rfl, D⟩
        walk_at "wp"
        refine ⟨p, ac, ar, _, rfl, D, fun b H1 D F1 => ?_⟩
        walk_at "wp"
        refine ⟨p, ac, ar, _, rfl, D, fun d H2 D F2 => ?_⟩
        walk_at "wp"
        refine new_l (by show 2 ≤ sizeLine; decide) fun l hl => ?_
        have D' : Dr (upd H2 l (.lst [.int b, .int d])) p ac ar := D.fr (Fr.new (S := []) hl) (by simp) (by simp) (by simp)
        have nl : l ∉ [p, ar] := by
          obtain ⟨⟨_, _, _, e1, e2, e3, _⟩, _⟩ := D
          simp [(ne_of_none e1 hl).symm, (ne_of_none e3 hl).symm]
        walk_at "wp"
        refine ⟨p, ac, ar, _, rfl, by decide, by decide, D', fun v H3 v0 v1 D F3 => ?_⟩
        walk_at "wp"
        refine ix_l (SqL.of (F3.1 l _ nl upd_same)) (at_ints (ns := [b, d]) v0 (by simpa using v1)) ?_
        walk_at "wp"
        refine ⟨p, ac, ar, _, rfl, D, fun g H4 D F4 => ?_⟩
        walk_at "wp"
        refine new_l (by show 2 ≤ sizeLine; decide) fun l2 hl2 => ?_
        have D' : Dr (upd H4 l2 (.lst [.int b, .int g])) p ac ar := D.fr (Fr.new (S := []) hl2) (by simp) (by simp) (by simp)
        have nl2 : l2 ∉ [p, ar] := by
          obtain ⟨⟨_, _, _, e1, e2, e3, _⟩, _⟩ := D
          simp [(ne_of_none e1 hl2).symm, (ne_of_none e3 hl2).symm]
        walk_at "wp"
        refine ⟨p, ac, ar, _, rfl, by decide, by decide, D', fun v H5 v0 v1 D F5 => ?_⟩
        walk_at "wp"
        refine ix_l (SqL.of (F5.1 l2 _ nl2 upd_same)) (at_ints (ns := [b, g]) v0 (by simpa using v1)) ?_
        walk_at "wp"
        refine ⟨p, ac, ar, _, rfl, D, fun k H6 D F6 => ?_⟩
        walk_at "wp"
        rw [if_neg (by unfold due; simp)]
        exact ⟨_, _, _, _, _, rfl, D⟩
      · rintro σ H ⟨vd, vg, vk, vt, vb, rfl, D⟩
        walk_at "wp"
        exact q _
end
/-! the head -/
def loose : List PySem.Str := (["possible", "zone_of", "_zone_in_group", "_law_begin", "_law_draw", "_law_in_future", "_law_due", "_law_right", "_law_far"] : List PySem.Str)
abbrev R : PySem.W.OpenRow := PySem.W.OpenLaw.row PySem.Challenge.rw_windowrows_k16_possible_offsets
abbrev hk : PySem.W.Hook := He.hookD 4 fa fn
def ob (s : PySem.W.SharedT) : He.AlD := He.obsDG 4 fa fn (HandSHeadRun.getT s)
theorem ob_eq (s : PySem.W.SharedT) : ob s = hk.obs s.abs := He.obsDG_eq (HandSHeadRun.getT_eq s)
set_option maxHeartbeats 0 in
theorem run (w : World) : HandSHeadRun.RunEq R (PySem.W.view R.prog [11]) hk ob 1500 loose w := by
  intro os
  kernel_rfl
end K16
open PySem PySem.W PySem.Calls PyProof.Rows
set_option maxHeartbeats 0 in
theorem PySem.Challenge.cw_windowrows_k16_possible_offsets_holds : PySem.Challenge.rw_windowrows_k16_possible_offsets.Holds := by
  w_on; o_law
  refine HandSHeadRun.head_any (r := OpenLaw.row PySem.Challenge.rw_windowrows_k16_possible_offsets) (q := view (OpenLaw.row PySem.Challenge.rw_windowrows_k16_possible_offsets).prog [11]) (H := K16.hk) (ob := K16.ob) (M := 1500) (loose := K16.loose) (d := HandSHeadRun.topDef (OpenLaw.row PySem.Challenge.rw_windowrows_k16_possible_offsets).prog 11) (kwd := []) K16.ob_eq
    (by kernel_rfl) (fun s => by kernel_rfl) K16.run (by kernel_rfl) (by kernel_rfl) (by kernel_rfl) (by rfl) (by first | assumption | decide +kernel) (by decide +kernel) ⟨rfl, rfl, rfl, rfl, rfl, by decide +kernel⟩ ?hw ?hc
  case hw => w_witness2
  case hc =>
    refine LamX.walk_ofTsE (l := PySem.Challenge.rw_windowrows_k16_possible_offsets) (n := 63) (k := 5) (x := "_law_script") (CX := fun _ => L2.CX0) rfl (by decide) (by kernel_rfl) ⟨rfl, by decide, by decide⟩ ?F (fun _ _ _ _ _ z => z)
    intro w mg fa h Y G hmg0
    obtain ⟨K, KX, c⟩ := Y
    have hmg : mg ("law" : PySem.Str) = some (.ref fa) := by
      have e : (HandSHeadRun.topDef (OpenLaw.row PySem.Challenge.rw_windowrows_k16_possible_offsets).prog 11).name = ("law" : PySem.Str) := by kernel_rfl
      rw [← e]
      exact hmg0
    have ev : K16.E K mg := ⟨⟨h, KX, G⟩, c⟩
    have e := hmg.symm.trans (ev.glo 9)
    cases e
    obtain ⟨fd, hb, hF⟩ := K16.ok_law (P := (PySem.Challenge.rw_windowrows_k16_possible_offsets).prog) (w := w) ev
    refine ⟨K, KX, fd, [], (K16.sp_law K), ?_, ?_, ?_, hb, fun H a ns hl hbits _ hS => ?_, fun base _ _ _ => hF base⟩
    · intro p hp; cases hp
    · intro p hp; cases hp
    · intro p hp; cases hp
    · exact ⟨a, ns, rfl, hS, hl, fun _ => rfl⟩

