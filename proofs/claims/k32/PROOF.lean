import PyProof.Rows.All
import Wide.All
import OpenK.AllK
import Wide.FinOn
import PySem.Challenge.RW_pileports_k32_divisors_and_multiples
import HandS.ForMost
import HandS.Wide
import HandS.WideMore
import HandS.IsInst
import HandS.Star
import HandS.NoneIn
import HandS.Zip
import HandS.Defaults
import HandS.Evl
import HandS.WrittenGet
import HandS.CallLocal
import HandS.TupAny
import HandS.Style
import HandS.More
set_option Elab.async false
set_option linter.all false
set_option maxRecDepth 100000
set_option maxHeartbeats 8000000
namespace Z
open PySem PySem.Spec PyProof.Rows L2
def topS (i : Nat) : Stmt := PySem.Challenge.pw_pileports_k32_divisors_and_multiples.main.body.getD i (.Pass ⟨0, 0, 0, 0⟩)
abbrev s_greatest_divisor : Stmt := topS 1
abbrev N_greatest_divisor : List Str := ["one", "other"]
abbrev P_greatest_divisor : List Str := ["one", "other"]
theorem sc_greatest_divisor : FnScope N_greatest_divisor P_greatest_divisor (defScope s_greatest_divisor) := ⟨rfl, rfl, rfl, by decide +kernel, rfl, by decide +kernel, by decide +kernel⟩
abbrev s_least_multiple : Stmt := topS 2
abbrev N_least_multiple : List Str := ["numbers", "multiple", "number"]
abbrev P_least_multiple : List Str := ["numbers"]
theorem sc_least_multiple : FnScope N_least_multiple P_least_multiple (defScope s_least_multiple) := ⟨rfl, rfl, rfl, by decide +kernel, rfl, by decide +kernel, by decide +kernel⟩
abbrev s__law_bag : Stmt := topS 4
abbrev N__law_bag : List Str := ["_law_script", "_law_salt", "_law_cell"]
abbrev P__law_bag : List Str := ["_law_script"]
theorem sc__law_bag : FnScope N__law_bag P__law_bag (defScope s__law_bag) := ⟨rfl, rfl, rfl, by decide +kernel, rfl, by decide +kernel, by decide +kernel⟩
abbrev s__law_pull : Stmt := topS 5
abbrev N__law_pull : List Str := ["_law_bag_here", "_law_amount", "_law_cell", "_law_got", "_law_seed"]
abbrev P__law_pull : List Str := ["_law_bag_here", "_law_amount"]
theorem sc__law_pull : FnScope N__law_pull P__law_pull (defScope s__law_pull) := ⟨rfl, rfl, rfl, by decide +kernel, rfl, by decide +kernel, by decide +kernel⟩
abbrev s__law_same : Stmt := topS 6
abbrev N__law_same : List Str := ["_law_found", "_law_due", "_law_one_z", "_law_other_z", "_law_key"]
abbrev P__law_same : List Str := ["_law_found", "_law_due"]
theorem sc__law_same : FnScope N__law_same P__law_same (defScope s__law_same) := ⟨rfl, rfl, rfl, by decide +kernel, rfl, by decide +kernel, by decide +kernel⟩
abbrev s_law : Stmt := topS 7
abbrev N_law : List Str := ["_law_script", "_law_bag_here", "_law_turn", "_law_one_z", "_law_other_z", "_law_due", "_law_factor", "_law_a", "_law_b", "_law_c", "_law_found", "_law_dues", "_law_k"]
abbrev P_law : List Str := ["_law_script"]
theorem sc_law : FnScope N_law P_law (defScope s_law) := ⟨rfl, rfl, rfl, by decide +kernel, rfl, by decide +kernel, by decide +kernel⟩
/-! ### rules whose reading names the written part by its own letter -/
section
variable {X : Cx} {K : PySem.W.Frag}
def rLenQ (K : PySem.W.Frag) : List V → Hp → VK → Prop := fun vs H Q => ∃ a us, vs = [.ref a] ∧ (SqL K H a us ∨ SqT K H a us) ∧ Q (.int us.length) H
def rListQ (K : PySem.W.Frag) : List V → Hp → VK → Prop := fun vs H Q => ∃ a us, vs = [.ref a] ∧ (SqL K H a us ∨ SqT K H a us) ∧ ∀ n, H n = none → Q (.ref n) (upd H n (.lst us))
def rTupleQ (K : PySem.W.Frag) : List V → Hp → VK → Prop := fun vs H Q => ∃ a us, vs = [.ref a] ∧ ((SqL K H a us ∧ ∀ n, H n = none → Q (.ref n) (upd H n (.tup us))) ∨ (SqT K H a us ∧ Q (.ref a) H))
theorem k_ixL (h : X.K = K := by rfl) : IxR X (rIxL K) := h ▸ ix_list
theorem k_ixT (h : X.K = K := by rfl) : IxR X (rIxT K) := h ▸ ix_tup
theorem k_slL (h : X.K = K := by rfl) : SlR X (rSlL K) := h ▸ sl_list
theorem k_len (h : X.K = K := by rfl) : CallR X (.builtin "len") (rLenQ K) := h ▸ call_len_seq
theorem k_list (h : X.K = K := by rfl) : CallR X (.type "list") (rListQ K) := h ▸ call_list_of
theorem k_tuple (h : X.K = K := by rfl) : CallR X (.type "tuple") (rTupleQ K) := h ▸ call_tuple_of
theorem k_max (hc : X.calm = true := by rfl) (h : X.K = K := by rfl) : CallR X (.builtin "max") (rMax K) := h ▸ cr_max hc
theorem k_min (hc : X.calm = true := by rfl) (h : X.K = K := by rfl) : CallR X (.builtin "min") (rMin K) := h ▸ cr_min hc
theorem k_all (hc : X.calm = true := by rfl) (h : X.K = K := by rfl) : CallR X (.builtin "all") (rAll K) := h ▸ cr_all hc
theorem k_isi (h : X.K = K := by rfl) : CallR X (.builtin "isinstance") (rIsi K) := h ▸ call_isi
theorem k_in (h : X.K = K := by rfl) : OpR X (compareOp .In) (rIn K false) := h ▸ op_in_seq
theorem k_notIn (h : X.K = K := by rfl) : OpR X (compareOp .NotIn) (rIn K true) := h ▸ op_notIn_seq
theorem k_eqD (hu : X.A.units + 64 < cLine) (h : X.K = K := by rfl) : OpR X (compareOp .Eq) (rEqD K) := h ▸ op_eqD hu
theorem k_neD (hu : X.A.units + 64 < cLine) (h : X.K = K := by rfl) : OpR X (compareOp .NotEq) (rNeD K) := h ▸ op_neD hu
theorem k_piL {tg l : Expr} {tl : TE} (hl : PE X l tl) (h : X.K = K := by rfl) : PI X tg l (iList K tl) := h ▸ pi_list hl
theorem k_piT {tg l : Expr} {tl : TE} (hl : PE X l tl) (h : X.K = K := by rfl) : PI X tg l (iTup K tl) := h ▸ pi_tup hl
theorem k_gT {es : List Expr} {k : Nat} {t : TGs} {n : Nat} {pos : Pos} (pt : PGs X es t) (hc : X.calm = true := by rfl) (hn : (assignEach es X.env).length = n := by rfl)
    (hst : (assignEach es X.env).findIdx? (·.1) = none := by rfl) (h : X.K = K := by rfl) : PG X (.Tuple es k pos) (gTup K n t) := h ▸ pg_tup hc pt hn hst
theorem k_gL {es : List Expr} {k : Nat} {t : TGs} {n : Nat} {pos : Pos} (pt : PGs X es t) (hc : X.calm = true := by rfl) (hn : (assignEach es X.env).length = n := by rfl)
    (hst : (assignEach es X.env).findIdx? (·.1) = none := by rfl) (h : X.K = K := by rfl) : PG X (.Tuple es k pos) (gUnl K n t) := h ▸ pg_unl hc pt hn hst
theorem k_zip {a b : Expr} {ta : TA} {p pos tpos : Pos} {elts : List Expr} {kk : Nat} (ha : PA X [a, b] ta) (hm : X.mg "zip" = none) (hg : Gl X "zip" := by rfl)
    (h1 : starEach [a, b] X.env = (false, eval a X.env) :: starEach [b] X.env := by rfl) (h2 : (backTo pos (starEach [b] X.env)).any (·.1) = false := by rfl) (h : X.K = K := by rfl) :
    PI X (.Tuple elts kk tpos) (.Call (.Name "zip" p) [a, b] [] pos) (RZ.iZipA K ta) := h ▸ RZ.pi_zipA hg hm ha h1 h2
theorem k_enum {e : Expr} {ta : TA} {p pos tpos : Pos} {elts : List Expr} {kk : Nat} (ha : PA X [e] ta) (hm : X.mg "enumerate" = none) (hg : Gl X "enumerate" := by rfl) (h1 : starEach [e] X.env = [(false, eval e X.env)] := by rfl) (h : X.K = K := by rfl) :
    PI X (.Tuple elts kk tpos) (.Call (.Name "enumerate" p) [e] [] pos) (iEnum K ta) := h ▸ pi_enum hg hm ha h1
end
/-! ### dicts of the module -/
section
variable {X : Cx} {K : PySem.W.Frag} {w : World}
theorem k_slT (h : X.K = K := by rfl) : SlR X (rSlT K) := h ▸ sl_tup
theorem k_ixK (h : X.K = K := by rfl) (h2 : X.w = w := by rfl) : IxR X (rIxD K w) := h ▸ h2 ▸ ix_kdict
def KD (K : PySem.W.Frag) (w : World) (a : Addr) : Prop := ∃ es n, K.lookup a = some ⟨.type "dict", none, .dict es n, #[]⟩ ∧ PySem.W.KeysLit w.params es.toList ∧ (a == sysModules) = false
def tKGet (K : PySem.W.Frag) (w : World) (a : Addr) (te : TE) : TE := fun σ H Q => te σ H fun y H2 => ∃ z, y = .str z ∧ ((∃ v, KDct K w a z v ∧ Q v H2) ∨ (KMiss K w a z ∧ Q .non H2))
theorem pe_kget {a : Addr} {o e : Expr} {apos cpos : Pos} {te : TE} (ho : PE X o (tC (.ref a))) (kd : KD K w a) (he : PE X e te) (m : M1 X o "get" apos e cpos) (h : X.K = K := by rfl) (h2 : X.w = w := by rfl) :
    PE X (.Call (.Attribute o "get" apos) [e] [] cpos) (tKGet K w a te) := by
  subst h h2
  obtain ⟨es, n, hl, hkl, low⟩ := kd
  constructor
  intro pins s σ H Q I hq
  refine wpAny_Call_method m.base m.few m.line PySem.F.plainAttrs_dict PySem.F.slot_dict_get PySem.F.type_dict_get (thn (ho.run pins s σ H (fun x H1 => x = .ref a ∧ H1 = H) I ⟨rfl, rfl⟩) fun u s1 ⟨x, H1, I1, rx, ex, eH⟩ => ?_)
  subst ex eH
  obtain rfl : u = Value.ref a := rx
  have hm := PySem.W.mapOf_K (prog := X.prog) (w := X.w) I1.kIn hl hkl
  refine ⟨hm.typeIs, ?_, ?_⟩
  · intro b eb
    cases eb
    exact ⟨_, I1.kIn _ _ hl, rfl⟩
  rw [m.trees]
  refine Calls.callWith_builtin rfl (Calls.evalArgs_plain (Calls.spliced_cons (thn (he.run pins s1 σ _ _ I1 hq) fun iv s2 ⟨y, H2, I2, ry, z, ey, q2⟩ => Calls.spliced_nil ?_)))
  subst ey
  obtain ⟨t, rfl⟩ := (show ∃ t, iv = Value.str z t from ry)
  have hm2 := PySem.W.mapOf_K (prog := X.prog) (w := X.w) I2.kIn hl hkl
  refine call_meetsIn PySem.F.slot_dict_get hm2.typeIs PySem.F.entry_dict_get (PySem.F.args_dict_get_2 _ _) (meets_dict_get (strKind X.prog X.w) a (strKind_is X.prog X.w z t) low) ⟨_, hm2, ?_⟩
  rcases q2 with ⟨v, ⟨es', n', u0, hl', hk', e, ru⟩, q⟩ | ⟨⟨es', n', hl', hk', low', e⟩, q⟩
  · rw [PySem.W.find_K hl e]
    exact ⟨v, H2, I2.tok _, ru, q⟩
  · rw [PySem.W.find_K hl e]
    exact ⟨.non, H2, I2.tok _, rfl, q⟩
end
structure Txt (K : PySem.W.Frag) (mg : Str → Option Value) (w : World) where
  a_greatest_divisor : Addr
  d_greatest_divisor : FuncData
  F_greatest_divisor : Fun K "greatest_divisor" "greatest_divisor" s_greatest_divisor a_greatest_divisor d_greatest_divisor
  g_greatest_divisor : mg "greatest_divisor" = some (.ref a_greatest_divisor)
  b_greatest_divisor : Binds K d_greatest_divisor P_greatest_divisor []
  a_least_multiple : Addr
  d_least_multiple : FuncData
  F_least_multiple : Fun K "least_multiple" "least_multiple" s_least_multiple a_least_multiple d_least_multiple
  g_least_multiple : mg "least_multiple" = some (.ref a_least_multiple)
  a__law_bag : Addr
  d__law_bag : FuncData
  F__law_bag : Fun K "_law_bag" "_law_bag" s__law_bag a__law_bag d__law_bag
  g__law_bag : mg "_law_bag" = some (.ref a__law_bag)
  b__law_bag : Binds K d__law_bag P__law_bag []
  a__law_pull : Addr
  d__law_pull : FuncData
  F__law_pull : Fun K "_law_pull" "_law_pull" s__law_pull a__law_pull d__law_pull
  g__law_pull : mg "_law_pull" = some (.ref a__law_pull)
  b__law_pull : Binds K d__law_pull P__law_pull []
  a__law_same : Addr
  d__law_same : FuncData
  F__law_same : Fun K "_law_same" "_law_same" s__law_same a__law_same d__law_same
  g__law_same : mg "_law_same" = some (.ref a__law_same)
  b__law_same : Binds K d__law_same P__law_same []
  a_law : Addr
  d_law : FuncData
  F_law : Fun K "law" "law" s_law a_law d_law
  g_law : mg "law" = some (.ref a_law)
  m_abs : mg "abs" = none
  m_all : mg "all" = none
  m_bool : mg "bool" = none
  m_dict : mg "dict" = none
  m_int : mg "int" = none
  m_isinstance : mg "isinstance" = none
  m_len : mg "len" = none
  m_list : mg "list" = none
  m_max : mg "max" = none
  m_min : mg "min" = none
  m_range : mg "range" = none
  m_str : mg "str" = none
  m_tuple : mg "tuple" = none
  m_zip : mg "zip" = none
/-! ### calls without arguments, by keywords alone, of a starred def -/
section
variable {X : Cx} {CX : CXT} {k : Nat} {f : Addr} {fd : FuncData} {ps ks : List Str} {sp : Sp} {E : XK} {x : Str} {p pos : Pos} {e : Expr} {es : List Expr} {kws : List Keyword} {t tk : TA}
def tR (sp : Sp) (E : XK) (t : TA) : TE := fun σ H Q => t σ H fun vs H1 => sp vs H1 Q E
theorem pe_callR (F : FnR X.prog X.w X.K X.mg X.base CX k f sp) (hr : Room k X.A) (hk : PySem.W.keepIn X.K (.ref f) = true) (hg : Gl X x) (hm : X.mg x = some (.ref f)) (hx : Passes CX X E)
    (args : PA X (e :: es) t) (no_dbg : (x == ("__debug__" : Str)) = false := by decide) (h1 : starEach (e :: es) X.env = (false, eval e X.env) :: starEach es X.env := by rfl)
    (h2 : (backTo pos (starEach es X.env)).any (·.1) = false := by rfl) : PE X (.Call (.Name x p) (e :: es) [] pos) (tR sp E t) :=
  ⟨fun pins s σ H Q I h => wpAny_Call_Name_kw (ld_glob I hg hm (PySem.W.callWith_K (h₀ := X.base) I.ok.mod.kin hk
    (thn (args.run pos pins s σ H _ I h) fun us s1 ⟨vs, H1, I1, r, q⟩ => ⟨I1.kIn, wpAny_call (run_fnR F hr hx I1 r q)⟩) h1 h2) no_dbg)⟩
theorem pe_callR0 (F : FnR X.prog X.w X.K X.mg X.base CX k f sp) (hr : Room k X.A) (hk : PySem.W.keepIn X.K (.ref f) = true) (hg : Gl X x) (hm : X.mg x = some (.ref f)) (hx : Passes CX X E)
    (no_dbg : (x == ("__debug__" : Str)) = false := by decide) : PE X (.Call (.Name x p) [] [] pos) (tR sp E tNil) :=
  ⟨fun pins s σ H Q I h => wpAny_Call_Name_kw (ld_glob I hg hm (PySem.W.callWith_K0 I.kIn hk (wpAny_call (run_fnR (us := []) F hr hx I .nil h))) no_dbg)⟩
theorem pe_callK0 {g : List Value → List Value → List Value} {gV : List V → List V → List V} (F : FnOk X.prog X.w X.K X.mg X.base CX k f fd ps sp) (hr : Room k X.A) (hg : Gl X x) (hm : X.mg x = some (.ref f))
    (hk : PySem.W.keepIn X.K (.ref f) = true) (hb : KBinds X.K fd ps ks g gV) (hx : Passes CX X E) (hkw : PK X kws tk) (hall : (backToKw pos (keywordEach kws X.env)).all (·.1.isSome) = true := by rfl)
    (hks : (backToKw pos (keywordEach kws X.env)).filterMap (·.1) = ks := by rfl) (no_dbg : (x == ("__debug__" : Str)) = false := by decide)
    (hpl : ((backTo pos (starEach [] X.env)).any (·.1) || (backToKw pos (keywordEach kws X.env)).any (·.1.isNone)) = false := by rfl) : PE X (.Call (.Name x p) [] kws pos) (tCallK sp gV E tNil tk) := by
  constructor
  intro pins s σ H Q I h
  refine wpAny_Call_Name_kw (ld_glob I hg hm (PySem.W.callWith_KW0 (h₀ := X.base) I.ok.mod.kin hk hall (thn (hkw.run pos pins s σ H _ I h) fun ws s2 ⟨zs, H2, I2, rz, q2⟩ => ⟨I2.kIn, ?_⟩) hpl) no_dbg)
  rw [hks]
  exact run_fnk (us := []) F hr hb hx I2 .nil rz q2
end
/-! ### tests -/
theorem iteD {p : Prop} [Decidable p] {A B : Prop} (h1 : p → A) (h2 : ¬ p → B) : if decide p = true then A else B := by
  by_cases h : p
  · simp only [h, decide_true, if_true]; exact h1 h
  · simp only [h, decide_false, Bool.false_eq_true, if_false]; exact h2 h
theorem iteND {p : Prop} [Decidable p] {A B : Prop} (h1 : ¬ p → A) (h2 : p → B) : if (!decide p) = true then A else B := by
  by_cases h : p
  · simp only [h, decide_true, Bool.not_true, Bool.false_eq_true, if_false]; exact h2 h
  · simp only [h, decide_false, Bool.not_false, if_true]; exact h1 h
theorem iteE {i j : Int} {A B : Prop} (h1 : i = j → A) (h2 : i ≠ j → B) : if decide (V.int i = V.int j) = true then A else B :=
  iteD (fun h => h1 (V.int.inj h)) fun h => h2 fun e => h (by rw [e])
theorem iteNE {i j : Int} {A B : Prop} (h1 : i ≠ j → A) (h2 : i = j → B) : if (!decide (V.int i = V.int j)) = true then A else B :=
  iteND (fun h => h1 fun e => h (by rw [e])) fun h => h2 (V.int.inj h)
/-! ### the bag of drawn numbers -/
theorem same_new {H : Hp} {p : Addr} {o : HO} (h : H p = none) : Same H (upd H p o) := fun b x e => by rw [upd_ne (ne_of_none e h)]; exact e
def But (b : Addr) (H H' : Hp) : Prop := ∀ a o, a ≠ b → H a = some o → H' a = some o
theorem But.refl (b : Addr) (H : Hp) : But b H H := fun _ _ _ h => h
theorem But.trans {b : Addr} {H H1 H2 : Hp} (x : But b H H1) (y : But b H1 H2) : But b H H2 := fun a o n h => y a o n (x a o n h)
theorem But.upd {b : Addr} {H H' : Hp} {o : HO} (x : But b H H') : But b H (upd H' b o) := fun a u n h => by rw [upd_ne n]; exact x a u n h
theorem Same.but {b : Addr} {H H' : Hp} (x : Same H H') : But b H H' := fun a o _ h => x a o h
theorem But.new {b p : Addr} {H H' : Hp} {o : HO} (x : But b H H') (h : H' p = none) : But b H (L2.upd H' p o) := x.trans (Same.but (same_new h))
theorem But.get {b a : Addr} {H H' : Hp} {o : HO} (x : But b H H') (n : a ≠ b) (h : H a = some o) : H' a = some o := x a o n h
/-- the bag stands at b: its cells at l, the place, what is held, the seed -/
structure BagAt (H : Hp) (b l : Addr) (cs : List Int) (i h s : Int) : Prop where
  at_ : H b = some (.lst [.ref l, .int i, .int h, .int s])
  cells : H l = some (.lst (cs.map V.int))
  ne : l ≠ b
  len : cs.length ≤ 63
  i0 : 0 ≤ i
  h0 : 0 ≤ h
  s0 : 0 ≤ s
  s1 : s < 2147483647
def Bag (H : Hp) (b l : Addr) : Prop := ∃ cs i h s, BagAt H b l cs i h s
theorem BagAt.same {H H' : Hp} {b l : Addr} {cs : List Int} {i h s : Int} (x : BagAt H b l cs i h s) (e : Same H H') : BagAt H' b l cs i h s := ⟨e _ _ x.at_, e _ _ x.cells, x.ne, x.len, x.i0, x.h0, x.s0, x.s1⟩
theorem Bag.same {H H' : Hp} {b l : Addr} (x : Bag H b l) (e : Same H H') : Bag H' b l := by
  obtain ⟨cs, i, h, s, y⟩ := x
  exact ⟨cs, i, h, s, y.same e⟩
theorem Bag.ne {H : Hp} {a b l : Addr} (x : Bag H b l) (h : H a = none) : a ≠ b := by
  obtain ⟨cs, i, hh, s, y⟩ := x
  exact (ne_of_none y.at_ h).symm
theorem Bag.nl {H : Hp} {a b l : Addr} (x : Bag H b l) (h : H a = none) : a ≠ l := by
  obtain ⟨cs, i, hh, s, y⟩ := x
  exact (ne_of_none y.cells h).symm
theorem Bag.mut {H : Hp} {a b l : Addr} {o : HO} (x : Bag H b l) (h1 : a ≠ b) (h2 : a ≠ l) : Bag (upd H a o) b l := by
  obtain ⟨cs, i, hh, s, y⟩ := x
  exact ⟨cs, i, hh, s, by rw [upd_ne h1.symm]; exact y.at_, by rw [upd_ne h2.symm]; exact y.cells, y.ne, y.len, y.i0, y.h0, y.s0, y.s1⟩
theorem BagAt.set {H : Hp} {b l : Addr} {cs : List Int} {i h s i' h' s' : Int} {o : List V} (x : BagAt H b l cs i h s) (e : o = [.ref l, .int i', .int h', .int s']) (a1 : 0 ≤ i') (a2 : 0 ≤ h') (a3 : 0 ≤ s') (a4 : s' < 2147483647) :
    BagAt (upd H b (.lst o)) b l cs i' h' s' := ⟨by rw [upd_same, e], by rw [upd_ne x.ne]; exact x.cells, x.ne, x.len, a1, a2, a3, a4⟩
theorem bag_set {H : Hp} {b l : Addr} {cs : List Int} {i h s i' h' s' k : Int} {j : Nat} {v : V} {Q : Hp → Prop} (x : BagAt H b l cs i h s) (hj : ixN 4 k = some j)
    (e : ([.ref l, .int i, .int h, .int s] : List V).set j v = [.ref l, .int i', .int h', .int s']) (a1 : 0 ≤ i') (a2 : 0 ≤ h') (a3 : 0 ≤ s') (a4 : s' < 2147483647)
    (q : ∀ H', BagAt H' b l cs i' h' s' → But b H H' → Q H') : rSetL (.ref b) (.int k) v H Q :=
  ⟨b, _, k, j, rfl, rfl, x.at_, hj, q _ (x.set e a1 a2 a3 a4) (But.refl b H).upd⟩
theorem fmod_lo (a : Int) {m : Int} (h : 0 < m) : 0 ≤ a.fmod m := by rw [Int.fmod_eq_emod_of_nonneg _ (by omega)]; exact Int.emod_nonneg _ (by omega)
theorem fmod_hi (a : Int) {m : Int} (h : 0 < m) : a.fmod m < m := by rw [Int.fmod_eq_emod_of_nonneg _ (by omega)]; exact Int.emod_lt_of_pos _ h
theorem nat_lt {z : Int} {n : Nat} (h0 : 0 ≤ z) (h1 : z < 2 ^ n) : z.natAbs < 2 ^ n := by
  have : ((z.natAbs : Int)) < ((2 ^ n : Nat) : Int) := by rw [Int.natAbs_of_nonneg h0]; rw [Int.natCast_pow]; exact h1
  omega
def sp_bag (K : PySem.W.Frag) : Sp := fun vs H Q _ => ∃ (a : Addr) (ns : List Int), vs = [.ref a] ∧ SqL K H a (ns.map V.int) ∧ ns.length ≤ 63 ∧ ∀ b l H', H b = none → H l = none → Same H H' → Bag H' b l → Q (.ref b) H'
/-- an amount that // takes -/
def Fit (n : Int) : Prop := n.natAbs < 2 ^ 8000
theorem Fit.of {n : Int} (h0 : 0 ≤ n) (h : n < 1000000000000000000000000000000000000000000) : Fit n := Nat.lt_of_lt_of_le (show n.natAbs < 2 ^ 140 by omega) (Nat.pow_le_pow_right (by decide) (by decide))
def sp_pull : Sp := fun vs H Q _ => ∃ (b l : Addr) (n : Int), vs = [.ref b, .int n] ∧ Bag H b l ∧ 0 < n ∧ Fit n ∧ ∀ r H', 0 ≤ r → r < n → Bag H' b l → But b H H' → Q (.int r) H'
/-! ### steps of a reading -/
theorem mul_ok {i j : Int} (h1 : i.natAbs < 2 ^ 20000) (h2 : j.natAbs < 2 ^ 20000) : CMulW i j := wide_mul h1 h2 (by decide) (by decide) (by decide)
theorem small_pow {i : Int} {a b : Nat} (h : i.natAbs < 2 ^ a) (hab : a ≤ b) : i.natAbs < 2 ^ b := Nat.lt_of_lt_of_le h (Nat.pow_le_pow_right (by decide) hab)
theorem small_abs {i : Int} (h : i.natAbs < 1000000000000000000000000000000000000000000) : i.natAbs < 2 ^ 20000 := small_pow (a := 140) (Nat.lt_of_lt_of_le h (by decide)) (by decide)
theorem div_ok {i j : Int} (h : 0 < j) (h1 : Fit j) : CDivW i j := wide_div h h1 (by decide) (by decide)
theorem div_small {i j : Int} (h : 0 < j) (h1 : j < 1000000000000000000000000000000) : CDivW i j := div_ok h (Fit.of (by omega) (by omega))
theorem le_line {n : Nat} (h : n ≤ 1000) : n ≤ sizeLine := Nat.le_trans h (by decide)
theorem lt_line {n : Nat} (h : n < 1000) : n < sizeLine := Nat.lt_of_lt_of_le h (by decide)
theorem at0 {a b c d : V} : atI [a, b, c, d] 0 = some a := rfl
theorem at1 {a b c d : V} : atI [a, b, c, d] 1 = some b := rfl
theorem at2 {a b c d : V} : atI [a, b, c, d] 2 = some c := rfl
theorem at3 {a b c d : V} : atI [a, b, c, d] 3 = some d := rfl
/-! ### isinstance of built-in kinds -/
theorem kb_int_list : kitB "int" "list" = some false := by decide +kernel
theorem kb_int_tuple : kitB "int" "tuple" = some false := by decide +kernel
theorem kb_int_dict : kitB "int" "dict" = some false := by decide +kernel
theorem kb_int_bool : kitB "int" "bool" = some false := by decide +kernel
theorem kb_int_int : kitB "int" "int" = some true := by decide +kernel
theorem kb_int_str : kitB "int" "str" = some false := by decide +kernel
theorem kb_str_list : kitB "str" "list" = some false := by decide +kernel
theorem kb_str_tuple : kitB "str" "tuple" = some false := by decide +kernel
theorem kb_str_dict : kitB "str" "dict" = some false := by decide +kernel
theorem kb_str_bool : kitB "str" "bool" = some false := by decide +kernel
theorem kb_str_int : kitB "str" "int" = some false := by decide +kernel
theorem kb_str_str : kitB "str" "str" = some true := by decide +kernel
theorem kb_bool_list : kitB "bool" "list" = some false := by decide +kernel
theorem kb_bool_tuple : kitB "bool" "tuple" = some false := by decide +kernel
theorem kb_bool_dict : kitB "bool" "dict" = some false := by decide +kernel
theorem kb_bool_bool : kitB "bool" "bool" = some true := by decide +kernel
theorem kb_bool_int : kitB "bool" "int" = some true := by decide +kernel
theorem kb_bool_str : kitB "bool" "str" = some false := by decide +kernel
theorem kb_NoneType_list : kitB "NoneType" "list" = some false := by decide +kernel
theorem kb_NoneType_tuple : kitB "NoneType" "tuple" = some false := by decide +kernel
theorem kb_NoneType_dict : kitB "NoneType" "dict" = some false := by decide +kernel
theorem kb_NoneType_bool : kitB "NoneType" "bool" = some false := by decide +kernel
theorem kb_NoneType_int : kitB "NoneType" "int" = some false := by decide +kernel
theorem kb_NoneType_str : kitB "NoneType" "str" = some false := by decide +kernel
theorem kb_list_list : kitB "list" "list" = some true := by decide +kernel
theorem kb_list_tuple : kitB "list" "tuple" = some false := by decide +kernel
theorem kb_list_dict : kitB "list" "dict" = some false := by decide +kernel
theorem kb_list_bool : kitB "list" "bool" = some false := by decide +kernel
theorem kb_list_int : kitB "list" "int" = some false := by decide +kernel
theorem kb_list_str : kitB "list" "str" = some false := by decide +kernel
theorem kb_tuple_list : kitB "tuple" "list" = some false := by decide +kernel
theorem kb_tuple_tuple : kitB "tuple" "tuple" = some true := by decide +kernel
theorem kb_tuple_dict : kitB "tuple" "dict" = some false := by decide +kernel
theorem kb_tuple_bool : kitB "tuple" "bool" = some false := by decide +kernel
theorem kb_tuple_int : kitB "tuple" "int" = some false := by decide +kernel
theorem kb_tuple_str : kitB "tuple" "str" = some false := by decide +kernel
theorem tyL {K : PySem.W.Frag} {H : Hp} {a : Addr} {xs : List V} (h : SqL K H a xs) : TyX K H (.ref a) (.type "list") := by
  rcases h with (h | ⟨o, h⟩) | ⟨o, its, n, h1, h2, _⟩
  · exact .base (.lst h)
  · exact .base (.frz h)
  · exact .kList h1 h2
theorem tyT {K : PySem.W.Frag} {H : Hp} {a : Addr} {xs : List V} (h : SqT K H a xs) : TyX K H (.ref a) (.type "tuple") := by
  rcases h with (h | ⟨o, h⟩) | ⟨o, its, n, h1, h2, _⟩
  · exact .base (.tup h)
  · exact .fTuple h
  · exact .kTuple h1 h2
/-! ### loops over anything -/
theorem lc_by {J : It} {n : Nat} {g : TG} {tt : TT} {te : TE} {vs : List Nat} {σ : L2.St} {H1 : Hp} {D : Addr} {Qd : Hp → Prop} (Pv : Nat → Hp → Prop) (h0 : Pv 0 (upd H1 D (.lst []))) (hgo : ∀ i H, i < n → Pv i H → J.go i H) (hstop : ∀ H, Pv n H → J.stop n H)
    (hs : ∀ i H x H', i < n → Pv i H → J.yld i H x H' → g x (wipe σ vs) H' fun σ2 H2 => wipe σ2 vs = wipe σ vs ∧ tt σ2 H2 fun b H3 =>
      if b = true then te σ2 H3 fun y H4 => ∃ acc, H4 D = some (.lst acc) ∧ acc.length < sizeLine ∧ Pv (i + 1) (upd H4 D (.lst (acc ++ [y]))) else Pv (i + 1) H3) (hd : ∀ H, Pv n H → Qd H) :
    ∃ W : Nat → Nat → Hp → Prop, (∃ m, W 0 m (upd H1 D (.lst []))) ∧ ∀ i m H, W i m H →
      (J.stop i H ∧ Qd H) ∨ (J.go i H ∧ ∃ Nx : Hp → Prop, (∀ H', Nx H' → ∃ m', m' < m ∧ W (i + 1) m' H') ∧ ∀ x H', J.yld i H x H' → g x (wipe σ vs) H' fun σ2 H2 => wipe σ2 vs = wipe σ vs ∧ tt σ2 H2 fun b H3 =>
        if b = true then te σ2 H3 fun y H4 => ∃ acc, H4 D = some (.lst acc) ∧ acc.length < sizeLine ∧ Nx (upd H4 D (.lst (acc ++ [y]))) else Nx H3) := by
  refine ⟨fun i m H => m = n - i ∧ i ≤ n ∧ Pv i H, ⟨n, by simp, Nat.zero_le _, h0⟩, ?_⟩
  rintro i m H ⟨em, hi, pv⟩
  by_cases hlt : i < n
  · exact .inr ⟨hgo i H hlt pv, Pv (i + 1), fun H' p' => ⟨n - (i + 1), by omega, rfl, hlt, p'⟩, fun x H' y => hs i H x H' hlt pv y⟩
  · have e : i = n := by omega
    rw [e] at pv ⊢
    exact .inl ⟨hstop H pv, hd H pv⟩
theorem for_by {J : It} {n : Nat} {g : TG} {tb : TS} {D : Ends} {σ : L2.St} {H : Hp} (Pv : Nat → L2.St → Hp → Prop) (h0 : Pv 0 σ H) (hgo : ∀ i σ H, i < n → Pv i σ H → J.go i H) (hstop : ∀ σ H, Pv n σ H → J.stop n H)
    (hs : ∀ i σ H x H', i < n → Pv i σ H → J.yld i H x H' → g x σ H' fun σ2 H2 => tb { D with nx := Pv (i + 1), ct := Pv (i + 1), bk := D.nx } σ2 H2) (hd : ∀ σ H, Pv n σ H → D.nx σ H) :
    ∃ W : Nat → Nat → L2.St → Hp → Prop, (∃ m, W 0 m σ H) ∧ ∀ i m σ H, W i m σ H →
      (J.stop i H ∧ D.nx σ H) ∨ (J.go i H ∧ ∃ N : L2.St → Hp → Prop, (∀ σ' H', N σ' H' → ∃ m', m' < m ∧ W (i + 1) m' σ' H') ∧ ∀ x H', J.yld i H x H' → g x σ H' fun σ2 H2 => tb { D with nx := N, ct := N, bk := D.nx } σ2 H2) := by
  refine ⟨fun i m σ H => m = n - i ∧ i ≤ n ∧ Pv i σ H, ⟨n, by simp, Nat.zero_le _, h0⟩, ?_⟩
  rintro i m σ H ⟨em, hi, pv⟩
  by_cases hlt : i < n
  · exact .inr ⟨hgo i σ H hlt pv, Pv (i + 1), fun σ' H' p' => ⟨n - (i + 1), by omega, rfl, hlt, p'⟩, fun x H' y => hs i σ H x H' hlt pv y⟩
  · have e : i = n := by omega
    rw [e] at pv ⊢
    exact .inl ⟨hstop σ H pv, hd σ H pv⟩
theorem at_zero {α : Type} {x : α} {xs : List α} : atI (x :: xs) 0 = some x := by
  show atI (x :: xs) ((0 : Nat) : Int) = some x
  exact atI_nat rfl
theorem Same.mut {H H' : Hp} {p : Addr} {o : HO} (e : Same H H') (h : H p = none) : Same H (upd H' p o) := fun a u ha => by
  rw [upd_ne (ne_of_none ha h)]
  exact e a u ha
theorem Same.new {H H' : Hp} {p : Addr} {o : HO} (e : Same H H') (h : H' p = none) : Same H (upd H' p o) := Same.trans e (same_new h)
theorem Same.tup {K : PySem.W.Frag} {H H' : Hp} {a : Addr} {xs : List V} (e : Same H H') (h : SqT K H a xs) : SqT K H' a xs := by
  rcases h with (h | ⟨o, h⟩) | h
  · exact .inl (.inl (e _ _ h))
  · exact .inl (.inr ⟨o, e _ _ h⟩)
  · exact .inr h
-- what stands at an address
local macro_rules | `(tactic| walk_at "hp") => `(tactic| first | assumption | exact upd_same | exact BagAt.at_ (by assumption) | exact BagAt.cells (by assumption) | fail "hp")
local macro_rules | `(tactic| walk_at "sq") => `(tactic| first | assumption | (refine Or.inl (Or.inl ?_); walk_at "hp") | (apply Same.seq <;> assumption))
-- bounds
local macro_rules | `(tactic| walk_at "num") => `(tactic| first
  | exact rfl | decide | exact le_line (Nat.le_of_ble_eq_true rfl) | exact lt_line (Nat.le_of_ble_eq_true rfl)
  | (exact mul_ok (small_abs (by omega)) (small_abs (by omega)))
  | (exact div_small (by omega) (by omega))
  | (exact div_ok (by omega) (by assumption))
  | (refine ⟨?_, ?_⟩ <;> omega) | omega
  | (show (_ : Int) ≠ 0; omega) | (show CPow _ _; unfold CPow; decide))
-- one step
local macro_rules | `(tactic| walk_at "rd") => `(tactic| first
  | (refine Exists.intro _ (And.intro rfl ?_))
  | (refine Exists.intro _ (Exists.intro _ (And.intro rfl (And.intro rfl ?_))))
  | (refine Or.inl (Exists.intro _ (And.intro rfl ?_)))
  | (refine Or.inr (Exists.intro _ (And.intro rfl ?_)))
  | (with_reducible refine iteF ?_) | (with_reducible refine iteT ?_)
  | (refine And.intro ?cc ?_; (case cc => walk_at "num"))
  | (refine' Exists.intro _ (Exists.intro _ (Exists.intro _ (Exists.intro _ (And.intro rfl (And.intro rfl (And.intro ?sq (And.intro ?ha ?k))))))); (case sq => walk_at "sq"); (case ha => first | exact rfl | assumption | exact at_zero))
  | (refine' Exists.intro _ (Exists.intro _ (And.intro rfl (And.intro (Or.inl ?sq) ?k))); (case sq => walk_at "sq")))
local macro_rules | `(tactic| walk_at "sqt") => `(tactic| first | assumption | (refine Or.inl (Or.inl ?_); walk_at "hp") | (apply Same.tup <;> assumption))
local macro_rules | `(tactic| walk_at "rdt") => `(tactic| first
  | walk_at "rd"
  | (refine' Exists.intro _ (Exists.intro _ (And.intro rfl (And.intro (Or.inr ?sq) ?k))); (case sq => walk_at "sqt"))
  | (refine' Exists.intro _ (Exists.intro _ (Exists.intro _ (Exists.intro _ (And.intro rfl (And.intro rfl (And.intro ?sq (And.intro ?ha ?k))))))); (case sq => walk_at "sqt"); (case ha => first | exact rfl | assumption | exact at_zero))
  | (refine iteF ?_) | (refine iteT ?_))
local macro_rules | `(tactic| walk_at "rds") => `(tactic| repeat walk_at "rdt")
local macro_rules | `(tactic| walk_at "pull") => `(tactic| (refine' Exists.intro _ (Exists.intro _ (Exists.intro _ (And.intro rfl (And.intro ?bag (And.intro ?pos (And.intro ?fit ?kk)))))); (case bag => assumption); (case pos => first | decide | omega); (case fit => exact Fit.of (by first | decide | omega) (by first | decide | omega))))
local macro_rules | `(tactic| walk_at "two") => `(tactic| refine Exists.intro _ (Exists.intro _ (And.intro rfl ?_)))
/-! ### the law's own draws -/
section
variable {P : Program} {w : World} {K : PySem.W.Frag} {mg : Str → Option Value} {base : Heap}
theorem tail_take {xs : List V} (h : xs.length ≤ 63) : cutV xs none (some 63) = xs := by
  unfold cutV
  have e1 : HT.sIx xs.length 0 none = 0 := HT.sIx_none _ _
  have e2 : HT.sIx xs.length xs.length (some 63) = xs.length := by
    have := HT.sIx_nat xs.length xs.length 63
    rw [show ((63 : Nat) : Int) = 63 from rfl] at this
    rw [this]
    omega
  rw [e1, e2, List.drop_zero, Nat.sub_zero]
  exact List.take_length
theorem ne_zero {i : Int} (h : 0 < i) : i ≠ 0 := by omega
theorem ok__law_bag (T : Txt K mg w) : FnOk P w K mg base CX0 1 T.a__law_bag T.d__law_bag P__law_bag (sp_bag K) := by
  refine T.F__law_bag.ok sc__law_bag (fun vs H Q E h => ?_) (fun cdv A outer s H vs Q E hr h => ?_)
  · obtain ⟨a, ns, rfl, _⟩ := h
    rfl
  · obtain ⟨a, ns, rfl, hS, hlen, q⟩ := h
    refine ⟨_, (pss_cons (ps_set (i := 1) sc__law_bag.nd rfl (Or.inl rfl) pe_int)
  (pss_cons (ps_for PassesOwn.never rfl (k_piL (K := K) (pe_slice (k_slL (K := K)) (pv 0) po_none (po_some pe_int))) (pg_name (i := 2) sc__law_bag.nd rfl (Or.inl rfl))
  (pss_one (ps_set (i := 1) sc__law_bag.nd rfl (Or.inl rfl) (pe_op op_modN (pe_callTy call_int1 (by rfl) T.m_int boot_int (pa_cons (pe_op op_add (pe_op op_add (pe_op op_mulW (pv 1) pe_int) (pe_op op_modN (pe_callTy call_int1 (by rfl) T.m_int boot_int (pa_cons (pv 2) pa_nil)) pe_int)) pe_int) pa_nil)) pe_int))))
  (pss_one (ps_ret (pe_lst (pa_cons (pe_callTy (k_list (K := K)) (by rfl) T.m_list boot_list (pa_cons (pe_slice (k_slL (K := K)) (pv 0) po_none (po_some pe_int)) pa_nil)) (pa_cons pe_int (pa_cons pe_int (pa_cons (pv 1) pa_nil))))))))), ?_⟩
    refine ⟨.ref a, rfl, 63, rfl, a, ns.map V.int, rfl, hS, fun c nc => ?_⟩
    rw [tail_take (by rw [List.length_map]; exact hlen)]
    have s1 : Same H (upd H c (.lst (ns.map V.int))) := same_new nc
    have hC : SqL K (upd H c (.lst (ns.map V.int))) c (ns.map V.int) := .inl (.inl upd_same)
    refine ⟨c, rfl, ⟨_, hC⟩, for_list (xs := ns.map V.int) (fun i σ H' => H' = upd H c (.lst (ns.map V.int)) ∧ ∃ salt y, σ = [some (.ref a), some (.int salt), y] ∧ 0 ≤ salt ∧ salt < 2147483647)
      ⟨rfl, 3817, none, rfl, by omega, by omega⟩ (fun i σ H' _ hp => by rw [hp.1]; exact hC) (fun i x σ H' hx hp => ?_) (fun σ H' hp => ?_)⟩
    · obtain ⟨rfl, salt, y, rfl, b1, b2⟩ := hp
      obtain ⟨n, -, rfl⟩ : ∃ n, n ∈ ns ∧ V.int n = x := by simpa using List.mem_of_getElem? hx
      have c1 := fmod_lo n (m := 2147483579) (by decide)
      have c2 := fmod_hi n (m := 2147483579) (by decide)
      refine ⟨_, rfl, _, _, rfl, rfl, mul_ok (small_abs (by omega)) (small_abs (by omega)), ?_⟩
      refine ⟨_, rfl, .inl ⟨_, rfl, ?_⟩⟩
      refine ⟨_, _, rfl, rfl, ne_zero (by decide), _, _, rfl, rfl, _, _, rfl, rfl, .inl ⟨_, rfl, ?_⟩⟩
      refine ⟨_, _, rfl, rfl, ne_zero (by decide), rfl, _, _, rfl, ?_, ?_⟩
      · exact fmod_lo _ (by decide)
      · exact fmod_hi _ (by decide)
    · obtain ⟨rfl, salt, y, rfl, b1, b2⟩ := hp
      refine ⟨.ref a, rfl, 63, rfl, a, ns.map V.int, rfl, s1.seq hS, fun c2 nc2 => ?_⟩
      rw [tail_take (by rw [List.length_map]; exact hlen)]
      refine ⟨c2, _, rfl, .inl (.inl (.inl upd_same)), fun l nl => ?_⟩
      refine ⟨_, rfl, by show 4 ≤ sizeLine; decide, fun b nb => ?_⟩
      have s2 := (s1.trans (same_new nc2)).trans (same_new (o := .lst (ns.map V.int)) nl)
      have s3 := s2.trans (same_new (o := .lst [.ref l, .int 0, .int 0, .int salt]) nb)
      have nlb : l ≠ b := fun e => by
        rw [← e, upd_same] at nb
        cases nb
      refine q b l _ (s2.free nb) ((s1.trans (same_new nc2)).free nl) s3 ⟨ns, 0, 0, salt, ⟨upd_same, ?_, nlb, hlen, by omega, by omega, b1, b2⟩⟩
      rw [upd_ne nlb]
      exact upd_same
theorem ok__law_pull (T : Txt K mg w) : FnOk P w K mg base CX0 1 T.a__law_pull T.d__law_pull P__law_pull sp_pull := by
  refine T.F__law_pull.ok sc__law_pull (fun vs H Q E h => ?_) (fun cdv A outer s H vs Q E hr h => ?_)
  · obtain ⟨a, l, n, rfl, _⟩ := h
    rfl
  · obtain ⟨b, l, n, rfl, ⟨cs, i, hd, s, hB⟩, n0, n1, q⟩ := h
    refine ⟨_, (Evl.pss_cut (ps_if (PW.pt (pw_and (pt_cmpR op_eq (pe_ix (k_ixL (K := K)) (pv 0) pe_int (fun _ _ => rfl)) pe_int (nomark _)) (pw_and1 (pt_cmpR op_lt (pe_ix (k_ixL (K := K)) (pv 0) pe_int (fun _ _ => rfl)) (pe_callB (k_len (K := K)) (by rfl) T.m_len boot_len (pa_cons (pe_ix (k_ixL (K := K)) (pv 0) pe_int (fun _ _ => rfl)) pa_nil)) (nomark _)))))
  (pss_cons (ps_set (i := 2) sc__law_pull.nd rfl (Or.inl rfl) (pe_ix (k_ixL (K := K)) (pe_ix (k_ixL (K := K)) (pv 0) pe_int (fun _ _ => rfl)) (pe_ix (k_ixL (K := K)) (pv 0) pe_int (fun _ _ => rfl)) (fun _ _ => rfl)))
  (pss_cons (ps_asg (pe_op op_add (pe_ix (k_ixL (K := K)) (pv 0) pe_int (fun _ _ => rfl)) pe_int) (pg_sub (pv 0) pe_int set_list))
  (pss_one (ps_if (pt_cmpR op_ge (pv 2) (pe_op op_pow pe_int pe_int) (nomark _))
  (pss_one (ps_asg (pv 2) (pg_sub (pv 0) pe_int set_list))) (pss_one (ps_asg (pe_op op_modN (pe_callTy call_int1 (by rfl) T.m_int boot_int (pa_cons (pe_op op_add (pe_op op_add (pe_op op_mulW (pe_ix (k_ixL (K := K)) (pv 0) pe_int (fun _ _ => rfl)) pe_int) (pe_op op_mulW (pe_op op_modN (pe_callTy call_int1 (by rfl) T.m_int boot_int (pa_cons (pv 2) pa_nil)) pe_int) pe_int)) pe_int) pa_nil)) pe_int) (pg_sub (pv 0) pe_int set_list))))))) pss_nil)
  (pss_cons (ps_if (pt_cmpR op_gt (pe_ix (k_ixL (K := K)) (pv 0) pe_int (fun _ _ => rfl)) pe_int (nomark _))
  (pss_cons (ps_set (i := 3) sc__law_pull.nd rfl (Or.inl rfl) (pe_op op_modN (pe_callTy call_int1 (by rfl) T.m_int boot_int (pa_cons (pe_ix (k_ixL (K := K)) (pv 0) pe_int (fun _ _ => rfl)) pa_nil)) (pv 1)))
  (pss_cons (ps_asg (pe_op op_fdivW (pe_ix (k_ixL (K := K)) (pv 0) pe_int (fun _ _ => rfl)) (pv 1)) (pg_sub (pv 0) pe_int set_list))
  (pss_one (ps_ret (pv 3))))) pss_nil)
  (pss_cons (ps_set (i := 4) sc__law_pull.nd rfl (Or.inl rfl) (pe_ix (k_ixL (K := K)) (pv 0) pe_int (fun _ _ => rfl)))
  (pss_cons (ps_asg (pe_op op_modN (pe_callTy call_int1 (by rfl) T.m_int boot_int (pa_cons (pe_op op_add (pe_op op_add (pe_op op_mulW (pv 4) (pv 4)) (pe_op op_mulW (pv 4) pe_int)) pe_int) pa_nil)) pe_int) (pg_sub (pv 0) pe_int set_list))
  (pss_one (ps_ret (pe_op op_modN (pe_callTy call_int1 (by rfl) T.m_int boot_int (pa_cons (pe_op op_add (pe_op op_fdivW (pe_ix (k_ixL (K := K)) (pv 0) pe_int (fun _ _ => rfl)) pe_int) (pe_op op_mulW (pe_op op_modN (pe_callTy call_int1 (by rfl) T.m_int boot_int (pa_cons (pe_ix (k_ixL (K := K)) (pv 0) pe_int (fun _ _ => rfl)) pa_nil)) pe_int) pe_int)) pa_nil)) (pv 1)))))))), ?_⟩
    have i0 := hB.i0
    have hd0 := hB.h0
    have s0 := hB.s0
    have s1 := hB.s1
    refine ⟨fun σ' H' => ∃ i' hd' s' y2, BagAt H' b l cs i' hd' s' ∧ But b H H' ∧ σ' = [some (.ref b), some (.int n), y2, none, none], ?_, fun σ' H' hM => ?_⟩
    · walk_at "rds"
      refine iteE (fun h0 => ?_) (fun h0 => ?_)
      · walk_at "rds"
        refine iteD (fun h1 => ?_) (fun h1 => ?_)
        · have hl : i.toNat < cs.length := by
            rw [List.length_map] at h1
            omega
          have hat : atI (cs.map V.int) i = some (.int cs[i.toNat]) := by
            exact at_of (j := i.toNat) (by omega) (by rw [List.getElem?_map, List.getElem?_eq_getElem hl]; rfl)
          walk_at "rds"
          refine bag_set hB rfl rfl (by omega) hd0 s0 s1 (fun H2 hB2 b2 => ?_)
          walk_at "rds"
          refine iteD (fun h2 => ?_) (fun h2 => ?_)
          · have h3 : (0 : Int) ≤ cs[i.toNat] := Int.le_trans (by decide) h2
            walk_at "rds"
            exact bag_set hB2 rfl rfl (by omega) h3 s0 s1 fun H3 hB3 b3 => ⟨_, _, _, _, hB3, b2.trans b3, rfl⟩
          · have c1 := fmod_lo cs[i.toNat] (m := 2147483579) (by decide)
            have c2 := fmod_hi cs[i.toNat] (m := 2147483579) (by decide)
            walk_at "rds"
            exact bag_set hB2 rfl rfl (by omega) hd0 (fmod_lo _ (by decide)) (fmod_hi _ (by decide)) fun H3 hB3 b3 => ⟨_, _, _, _, hB3, b2.trans b3, rfl⟩
        · exact ⟨_, _, _, _, hB, But.refl _ _, rfl⟩
      · walk_at "rds"
        exact ⟨_, _, _, _, hB, But.refl _ _, rfl⟩
    · obtain ⟨i', hd', s', y2, hB', hb', rfl⟩ := hM
      have i0 := hB'.i0
      have hd0 := hB'.h0
      have s0 := hB'.s0
      have s1 := hB'.s1
      walk_at "rds"
      refine iteD (fun h0 => ?_) (fun h0 => ?_)
      · have nn : n ≠ 0 := by omega
        walk_at "rds"
        refine bag_set hB' rfl rfl i0 (Int.ediv_nonneg hd0 (by omega)) s0 s1 (fun H2 hB2 b2 => ?_)
        walk_at "rds"
        exact q _ _ (fmod_lo _ n0) (fmod_hi _ n0) ⟨_, _, _, _, hB2⟩ (hb'.trans b2)
      · have nn : n ≠ 0 := by omega
        walk_at "rds"
        refine bag_set hB' rfl rfl i0 hd0 (fmod_lo _ (by decide)) (fmod_hi _ (by decide)) (fun H2 hB2 b2 => ?_)
        have c1 := hB2.s0
        have c2 := hB2.s1
        generalize (s' * s' + s' * 48271 + 1013904223).fmod 2147483647 = z at hB2 c1 c2
        have c3 := fmod_lo z (m := 8191) (by decide)
        have c4 := fmod_hi z (m := 8191) (by decide)
        walk_at "rds"
        exact q _ _ (fmod_lo _ n0) (fmod_hi _ n0) ⟨_, _, _, _, hB2⟩ (hb'.trans b2)
end
local macro_rules | `(tactic| walk_at "isi") => `(tactic| (refine' Exists.intro _ (Exists.intro _ (Exists.intro _ (Exists.intro _ (Exists.intro _ (And.intro rfl (And.intro (ClsV.ty _) (And.intro ?tt (And.intro (kit_ty ?ee) ?kk)))))))); (case tt => assumption); (case ee => first | exact kb_int_list | exact kb_int_tuple | exact kb_int_dict | exact kb_int_bool | exact kb_int_int | exact kb_int_str | exact kb_str_list | exact kb_str_tuple | exact kb_str_dict | exact kb_str_bool | exact kb_str_int | exact kb_str_str | exact kb_bool_list | exact kb_bool_tuple | exact kb_bool_dict | exact kb_bool_bool | exact kb_bool_int | exact kb_bool_str | exact kb_NoneType_list | exact kb_NoneType_tuple | exact kb_NoneType_dict | exact kb_NoneType_bool | exact kb_NoneType_int | exact kb_NoneType_str | exact kb_list_list | exact kb_list_tuple | exact kb_list_dict | exact kb_list_bool | exact kb_list_int | exact kb_list_str | exact kb_tuple_list | exact kb_tuple_tuple | exact kb_tuple_dict | exact kb_tuple_bool | exact kb_tuple_int | exact kb_tuple_str)))
-- one step
local macro_rules | `(tactic| walk_at "same") => `(tactic| repeat first | walk_at "rdt" | walk_at "isi")
/-! ### the law's comparison -/
/-- equal data, at most d deep -/
inductive Sm (K : PySem.W.Frag) (H : Hp) : Nat → V → V → Prop where
  | int (d : Nat) (i : Int) : Sm K H d (.int i) (.int i)
  | str (d : Nat) (z : Str) : Sm K H d (.str z) (.str z)
  | bl (d : Nat) (b : Bool) : Sm K H d (.bl b) (.bl b)
  | non (d : Nat) : Sm K H d .non .non
  | lst {d : Nat} {a b : Addr} {xs ys : List V} (hx : SqL K H a xs) (hy : SqL K H b ys) (hl : xs.length = ys.length) (hz : xs.length < 1000) (h : ∀ (i : Nat) (x y : V), xs[i]? = some x → ys[i]? = some y → Sm K H d x y) : Sm K H (d + 1) (.ref a) (.ref b)
  | tup {d : Nat} {a b : Addr} {xs ys : List V} (hx : SqT K H a xs) (hy : SqT K H b ys) (hl : xs.length = ys.length) (hz : xs.length < 1000) (h : ∀ (i : Nat) (x y : V), xs[i]? = some x → ys[i]? = some y → Sm K H d x y) : Sm K H (d + 1) (.ref a) (.ref b)
theorem Sm.same {K : PySem.W.Frag} {H H' : Hp} {d : Nat} {x y : V} (h : Sm K H d x y) (e : Same H H') : Sm K H' d x y := by
  induction h with
  | int d i => exact .int d i
  | str d z => exact .str d z
  | bl d b => exact .bl d b
  | non d => exact .non d
  | lst hx hy hl hz _ ih => exact .lst (e.seq hx) (e.seq hy) hl hz ih
  | tup hx hy hl hz _ ih => exact .tup (Same.tup e hx) (Same.tup e hy) hl hz ih
def sp_same (K : PySem.W.Frag) (d : Nat) : Sp := fun vs H Q _ => ∃ x y : V, vs = [x, y] ∧ Sm K H d x y ∧ ∀ H', Same H H' → Q (.bl true) H'
theorem all_true (n : Nat) : (List.replicate n true).all id = true := by
  rw [List.all_eq_true]
  intro b hb
  exact (List.mem_replicate.mp hb).2
section
variable {P : Program} {w : World} {K : PySem.W.Frag} {mg : Str → Option Value} {base : Heap}
theorem ok_same_step (T : Txt K mg w) {k : Nat} {spr : Sp} (G__law_same : FnOk P w K mg base CX0 k T.a__law_same T.d__law_same P__law_same spr) (d : Nat) (hspr : ∀ e, d = e + 1 → ∀ x y H (Q : VK) E, Sm K H e x y → (∀ H', Same H H' → Q (.bl true) H') → spr [x, y] H Q E) :
    FnOk P w K mg base CX0 (k + 1) T.a__law_same T.d__law_same P__law_same (sp_same K d) := by
  refine T.F__law_same.ok sc__law_same (fun vs H Q E h => ?_) (fun cdv A outer s H vs Q E hr h => ?_)
  · obtain ⟨x, y, rfl, _⟩ := h
    rfl
  · obtain ⟨x, y, rfl, hS, q⟩ := h
    refine ⟨_, (pss_cons (ps_if (PW.pt (pw_or (pt_val (pe_callB (k_isi (K := K)) (by rfl) T.m_isinstance boot_isinstance (pa_cons (pv 1) (pa_cons (pe_bltn (v := .ty "list") (by rfl) T.m_list boot_list rfl) pa_nil)))) (pw_or1 (pt_val (pe_callB (k_isi (K := K)) (by rfl) T.m_isinstance boot_isinstance (pa_cons (pv 1) (pa_cons (pe_bltn (v := .ty "tuple") (by rfl) T.m_tuple boot_tuple rfl) pa_nil)))))))
  (pss_cons (ps_if (PW.pt (pw_or (pt_cmpR op_ne (pe_callB (k_isi (K := K)) (by rfl) T.m_isinstance boot_isinstance (pa_cons (pv 0) (pa_cons (pe_bltn (v := .ty "list") (by rfl) T.m_list boot_list rfl) pa_nil))) (pe_callB (k_isi (K := K)) (by rfl) T.m_isinstance boot_isinstance (pa_cons (pv 1) (pa_cons (pe_bltn (v := .ty "list") (by rfl) T.m_list boot_list rfl) pa_nil))) (nomark _)) (pw_or1 (pt_cmpR op_ne (pe_callB (k_isi (K := K)) (by rfl) T.m_isinstance boot_isinstance (pa_cons (pv 0) (pa_cons (pe_bltn (v := .ty "tuple") (by rfl) T.m_tuple boot_tuple rfl) pa_nil))) (pe_callB (k_isi (K := K)) (by rfl) T.m_isinstance boot_isinstance (pa_cons (pv 1) (pa_cons (pe_bltn (v := .ty "tuple") (by rfl) T.m_tuple boot_tuple rfl) pa_nil))) (nomark _)))))
  (pss_one (ps_ret pe_bl)) pss_nil)
  (pss_one (ps_ret (pe_and (pe_cmpR op_eq (pe_callB (k_len (K := K)) (by rfl) T.m_len boot_len (pa_cons (pv 0) pa_nil)) (pe_callB (k_len (K := K)) (by rfl) T.m_len boot_len (pa_cons (pv 1) pa_nil)) (nomark _)) (pe_one (pe_callB (k_all (K := K)) (by rfl) T.m_all boot_all (pa_cons (pe_lc (own := [("_law_one_z", 2), ("_law_other_z", 3)]) rfl sc__law_same.nd (k_zip (K := K) (pa_cons (pv 0) (pa_cons (pv 1) pa_nil)) T.m_zip) (blkOk_by (N := N__law_same) (sc := defScope s__law_same) (by decide +kernel)) (fun _ _ _ _ _ => (k_gT (K := K) (n := 2) (pgs_cons (pg_name (i := 2) sc__law_same.nd rfl (Or.inl rfl)) (pgs_cons (pg_name (i := 3) sc__law_same.nd rfl (Or.inl rfl)) pgs_nil)))) (fun _ _ _ _ _ => pts_nil) (fun _ _ _ _ _ => (pe_call G__law_same hr (by rfl) T.g__law_same T.F__law_same.kp T.b__law_same .nil pass0 (pa_cons (pv 2) (pa_cons (pv 3) pa_nil))))) pa_nil))))))) pss_nil)
  (pss_cons (ps_if (pt_val (pe_callB (k_isi (K := K)) (by rfl) T.m_isinstance boot_isinstance (pa_cons (pv 1) (pa_cons (pe_bltn (v := .ty "dict") (by rfl) T.m_dict boot_dict rfl) pa_nil))))
  (pss_one ps_never) pss_nil)
  (pss_cons (ps_if (PW.pt (pw_or (pt_cmpR op_isN (pv 1) pe_non (nomark _)) (pw_or1 (pt_cmpR op_isN (pv 0) pe_non (nomark _)))))
  (pss_one (ps_ret (pe_and (pe_cmpR op_isN (pv 1) pe_non (nomark _)) (pe_one (pe_cmpR op_isN (pv 0) pe_non (nomark _)))))) pss_nil)
  (pss_cons (ps_if (PW.pt (pw_or (pt_cmpR op_ne (pe_callB (k_isi (K := K)) (by rfl) T.m_isinstance boot_isinstance (pa_cons (pv 0) (pa_cons (pe_bltn (v := .ty "bool") (by rfl) T.m_bool boot_bool rfl) pa_nil))) (pe_callB (k_isi (K := K)) (by rfl) T.m_isinstance boot_isinstance (pa_cons (pv 1) (pa_cons (pe_bltn (v := .ty "bool") (by rfl) T.m_bool boot_bool rfl) pa_nil))) (nomark _)) (pw_or1 (pt_cmpR op_ne (pe_callB (k_isi (K := K)) (by rfl) T.m_isinstance boot_isinstance (pa_cons (pv 0) (pa_cons (pe_bltn (v := .ty "int") (by rfl) T.m_int boot_int rfl) pa_nil))) (pe_callB (k_isi (K := K)) (by rfl) T.m_isinstance boot_isinstance (pa_cons (pv 1) (pa_cons (pe_bltn (v := .ty "int") (by rfl) T.m_int boot_int rfl) pa_nil))) (nomark _)))))
  (pss_one (ps_ret pe_bl)) pss_nil)
  (pss_one (ps_ret (pe_and (pe_cmpR op_eq (pe_callB (k_isi (K := K)) (by rfl) T.m_isinstance boot_isinstance (pa_cons (pv 0) (pa_cons (pe_bltn (v := .ty "str") (by rfl) T.m_str boot_str rfl) pa_nil))) (pe_callB (k_isi (K := K)) (by rfl) T.m_isinstance boot_isinstance (pa_cons (pv 1) (pa_cons (pe_bltn (v := .ty "str") (by rfl) T.m_str boot_str rfl) pa_nil))) (nomark _)) (pe_one (pe_cmpR op_eq (pv 0) (pv 1) (nomark _)))))))))), ?_⟩
    cases hS with
    | int _ i =>
      have tx : TyX K H (.int i) (.type "int") := .base (.int i)
      walk_at "same"
      show Q (V.bl (decide (V.int i = V.int i))) H
      rw [decide_eq_true rfl]
      exact q H (Same.refl H)
    | str _ z =>
      have tx : TyX K H (.str z) (.type "str") := .base (.str z)
      walk_at "same"
      show Q (V.bl (decide (V.str z = V.str z))) H
      rw [decide_eq_true rfl]
      exact q H (Same.refl H)
    | bl _ b =>
      have tx : TyX K H (.bl b) (.type "bool") := .base (.bl b)
      walk_at "same"
      show Q (V.bl (decide (V.bl b = V.bl b))) H
      rw [decide_eq_true rfl]
      exact q H (Same.refl H)
    | non =>
      have tx : TyX K H .non (.type "NoneType") := .base .non
      walk_at "same"
      exact q H (Same.refl H)
    | @lst _ a b xs ys hx hy hl hz hh =>
      have tx := tyL hx
      have ty := tyL hy
      walk_at "same"
      refine iteE (fun _ => ?_) (fun e => absurd (by rw [hl]) e)
      refine ⟨.ref a, rfl, .ref b, rfl, a, b, xs, ys, rfl, .inl ⟨hx, hy, fun D hD => ?_⟩⟩
      have s0 : Same H (upd H D (.lst [])) := same_new hD
      refine lc_by (n := xs.length) (fun i H' => Same H H' ∧ H' D = some (.lst ((List.replicate i true).map V.bl))) ⟨s0, upd_same⟩
        (fun i H' hi hp => ⟨xs, ys, xs[i], ys[i]'(hl ▸ hi), hp.1.seq hx, hp.1.seq hy, List.getElem?_eq_getElem hi, List.getElem?_eq_getElem (hl ▸ hi)⟩)
        (fun H' hp => ⟨xs, ys, hp.1.seq hx, hp.1.seq hy, .inl (Nat.le_refl _)⟩) (fun i H' v H2 hi hp hv => ?_) (fun H' hp => ?_)
      · obtain ⟨t, x, y, rfl, nt, rfl, f1, f2⟩ := hv
        obtain ⟨hp1, hp2⟩ := hp
        have gx := f1 xs (hp1.seq hx)
        have gy := f2 ys (hp1.seq hy)
        have s2 : Same H (upd H' t (.tup [x, y])) := Same.new hp1 nt
        refine ⟨t, [x, y], rfl, .inl (.inl upd_same), rfl, x, [y], rfl, y, [], rfl, rfl, rfl, x, rfl, y, rfl, ?_⟩
        refine hspr _ rfl x y _ _ _ ((hh i x y gx gy).same s2) fun H3 s3 => ⟨_, s3 _ _ (same_new nt _ _ hp2), ?_, Same.mut (s2.trans s3) hD, ?_⟩
        · rw [List.length_map, List.length_replicate]
          exact lt_line (by omega)
        · rw [upd_same, List.replicate_succ']
          simp
      · refine ⟨D, _, rfl, .inl (.inl hp.2), ?_⟩
        rw [all_true]
        exact q H' hp.1
    | @tup _ a b xs ys hx hy hl hz hh =>
      have tx := tyT hx
      have ty := tyT hy
      walk_at "same"
      refine iteE (fun _ => ?_) (fun e => absurd (by rw [hl]) e)
      refine ⟨.ref a, rfl, .ref b, rfl, a, b, xs, ys, rfl, .inr ⟨hx, hy, fun D hD => ?_⟩⟩
      have s0 : Same H (upd H D (.lst [])) := same_new hD
      refine lc_by (n := xs.length) (fun i H' => Same H H' ∧ H' D = some (.lst ((List.replicate i true).map V.bl))) ⟨s0, upd_same⟩
        (fun i H' hi hp => ⟨xs, ys, xs[i], ys[i]'(hl ▸ hi), Same.tup hp.1 hx, Same.tup hp.1 hy, List.getElem?_eq_getElem hi, List.getElem?_eq_getElem (hl ▸ hi)⟩)
        (fun H' hp => ⟨xs, ys, Same.tup hp.1 hx, Same.tup hp.1 hy, .inl (Nat.le_refl _)⟩) (fun i H' v H2 hi hp hv => ?_) (fun H' hp => ?_)
      · obtain ⟨t, x, y, rfl, nt, rfl, f1, f2⟩ := hv
        obtain ⟨hp1, hp2⟩ := hp
        have gx := f1 xs (Same.tup hp1 hx)
        have gy := f2 ys (Same.tup hp1 hy)
        have s2 : Same H (upd H' t (.tup [x, y])) := Same.new hp1 nt
        refine ⟨t, [x, y], rfl, .inl (.inl upd_same), rfl, x, [y], rfl, y, [], rfl, rfl, rfl, x, rfl, y, rfl, ?_⟩
        refine hspr _ rfl x y _ _ _ ((hh i x y gx gy).same s2) fun H3 s3 => ⟨_, s3 _ _ (same_new nt _ _ hp2), ?_, Same.mut (s2.trans s3) hD, ?_⟩
        · rw [List.length_map, List.length_replicate]
          exact lt_line (by omega)
        · rw [upd_same, List.replicate_succ']
          simp
      · refine ⟨D, _, rfl, .inl (.inl hp.2), ?_⟩
        rw [all_true]
        exact q H' hp.1
theorem ok_same (T : Txt K mg w) (d : Nat) : FnOk P w K mg base CX0 (d + 1) T.a__law_same T.d__law_same P__law_same (sp_same K d) := by
  induction d with
  | zero =>
    have z : FnOk P w K mg base CX0 0 T.a__law_same T.d__law_same P__law_same (fun _ _ _ _ => False) := ⟨fun _ _ _ _ h => h.elim, fun _ _ _ _ _ _ _ _ _ _ _ _ _ h => h.elim⟩
    exact ok_same_step T z 0 fun e h => nomatch h
  | succ d ih => exact ok_same_step T ih (d + 1) fun e he x y H Q E h q => ⟨x, y, rfl, (Nat.succ.inj he) ▸ h, q⟩
end
/-! ### the program: divisors and multiples -/
theorem gcd_step {x y : Int} (hx : 0 ≤ x) (hy : 0 < y) : Int.gcd y (x.fmod y) = Int.gcd x y := by
  rw [Int.fmod_eq_emod_of_nonneg _ (by omega)]
  obtain ⟨a, rfl⟩ := Int.eq_ofNat_of_zero_le hx
  obtain ⟨b, rfl⟩ := Int.eq_ofNat_of_zero_le (Int.le_of_lt hy)
  show Nat.gcd b (a % b) = Nat.gcd a b
  rw [Nat.gcd_comm a b]
  exact (Nat.gcd_rec b a).symm ▸ (Nat.gcd_comm _ _)
def sp_gcd : Sp := fun vs H Q _ => ∃ a b : Int, vs = [.int a, .int b] ∧ Q (.int (Int.gcd a b : Int)) H
section
variable {P : Program} {w : World} {K : PySem.W.Frag} {mg : Str → Option Value} {base : Heap}
theorem ok_greatest_divisor (T : Txt K mg w) : FnOk P w K mg base CX0 1 T.a_greatest_divisor T.d_greatest_divisor P_greatest_divisor sp_gcd := by
  refine T.F_greatest_divisor.ok sc_greatest_divisor (fun vs H Q E h => ?_) (fun cdv A outer s H vs Q E hr h => ?_)
  · obtain ⟨a, b, rfl, _⟩ := h
    rfl
  · obtain ⟨a, b, rfl, q⟩ := h
    refine ⟨_, (pss_cons (ps_set (i := 0) sc_greatest_divisor.nd rfl (Or.inl rfl) (pe_callB call_abs (by rfl) T.m_abs boot_abs (pa_cons (pv 0) pa_nil)))
  (pss_cons (ps_set (i := 1) sc_greatest_divisor.nd rfl (Or.inl rfl) (pe_callB call_abs (by rfl) T.m_abs boot_abs (pa_cons (pv 1) pa_nil)))
  (pss_cons (ps_while PassesOwn.never (pt_cmpR op_ne (pv 1) pe_int (nomark _))
  (pss_one (ps_par (by rfl) sc_greatest_divisor.nd (i := 0) (j := 1) rfl rfl (by decide) rfl rfl (pa_cons (pv 1) (pa_cons (pe_op op_modN (pv 0) (pv 1)) pa_nil)) (by rfl))))
  (pss_one (ps_ret (pv 0)))))), ?_⟩
    refine ⟨_, rfl, _, rfl, ?_⟩
    refine ⟨_, rfl, _, rfl, ?_⟩
    refine ⟨fun m σ' H' => ∃ x y : Int, 0 ≤ x ∧ 0 ≤ y ∧ m = y.toNat ∧ σ' = [some (.int x), some (.int y)] ∧ H' = H ∧ Int.gcd x y = Int.gcd a b,
      ⟨_, (if a < 0 then -a else a), (if b < 0 then -b else b), by split <;> omega, by split <;> omega, rfl, rfl, rfl, ?_⟩, fun m σ' H' hW => ?_⟩
    · have e1 : ∀ z : Int, (if z < 0 then -z else z).natAbs = z.natAbs := fun z => by split <;> omega
      show Nat.gcd _ _ = Nat.gcd _ _
      rw [e1, e1]
    · obtain ⟨x, y, hx, hy, rfl, rfl, rfl, hg⟩ := hW
      refine ⟨_, rfl, rfl, _, rfl, ?_⟩
      refine iteNE (fun ne => ?_) (fun e => ?_)
      · have hy' : 0 < y := by omega
        refine ⟨fun σ2 H2 => σ2 = [some (.int y), some (.int (x.fmod y))] ∧ H2 = H', fun σ2 H2 h2 => ?_, ?_⟩
        · obtain ⟨rfl, rfl⟩ := h2
          have h1 := fmod_lo x hy'
          have h2 := fmod_hi x hy'
          exact ⟨(x.fmod y).toNat, by omega, y, _, hy, h1, rfl, rfl, rfl, by rw [gcd_step hx hy', hg]⟩
        · exact ⟨_, rfl, _, rfl, _, rfl, _, _, rfl, rfl, ne, _, _, rfl, rfl, rfl⟩
      · subst e
        refine ⟨_, rfl, ?_⟩
        have hx2 : (x : Int) = (Int.gcd a b : Int) := by
          rw [← hg, Int.gcd_zero_right]
          omega
        rw [hx2]
        exact q
end
/-! ### what a comprehension picks -/
def picks (f : Nat → Bool) (v : Nat → Int) : Nat → List Int
  | 0 => []
  | n + 1 => if f n = true then picks f v n ++ [v n] else picks f v n
theorem picks_len (f : Nat → Bool) (v : Nat → Int) : ∀ n, (picks f v n).length ≤ n
  | 0 => Nat.le_refl _
  | n + 1 => by
    have h := picks_len f v n
    unfold picks
    split
    · rw [List.length_append]
      exact Nat.succ_le_succ h
    · exact Nat.le_succ_of_le h
theorem picks_mem {f : Nat → Bool} {v : Nat → Int} {z : Int} : ∀ {n : Nat}, z ∈ picks f v n ↔ ∃ i, i < n ∧ f i = true ∧ v i = z
  | 0 => by
    constructor
    · intro h
      exact nomatch h
    · rintro ⟨i, h, _⟩
      exact absurd h (Nat.not_lt_zero i)
  | n + 1 => by
    have ih := picks_mem (f := f) (v := v) (z := z) (n := n)
    unfold picks
    split
    · rename_i hf
      rw [List.mem_append, ih, List.mem_singleton]
      constructor
      · rintro (⟨i, h1, h2⟩ | rfl)
        · exact ⟨i, by omega, h2⟩
        · exact ⟨n, by omega, hf, rfl⟩
      · rintro ⟨i, h1, h2, h3⟩
        by_cases e : i = n
        · subst e
          exact .inr h3.symm
        · exact .inl ⟨i, by omega, h2, h3⟩
    · rename_i hf
      rw [ih]
      constructor
      · rintro ⟨i, h1, h2⟩
        exact ⟨i, by omega, h2⟩
      · rintro ⟨i, h1, h2, h3⟩
        by_cases e : i = n
        · subst e
          exact absurd h2 hf
        · exact ⟨i, by omega, h2, h3⟩
theorem picks_yes {f : Nat → Bool} {v : Nat → Int} {n : Nat} (h : f n = true) : picks f v (n + 1) = picks f v n ++ [v n] := if_pos h
theorem picks_no {f : Nat → Bool} {v : Nat → Int} {n : Nat} (h : f n = false) : picks f v (n + 1) = picks f v n := if_neg (by rw [h]; decide)
/-- what is known while a comprehension picks -/
structure Pick (H : Hp) (D : Addr) (f : Nat → Bool) (v : Nat → Int) (i : Nat) (H' : Hp) : Prop where
  free : H D = none
  same : Same H H'
  made : H' D = some (.lst ((picks f v i).map V.int))
theorem Pick.start {H : Hp} {D : Addr} {f : Nat → Bool} {v : Nat → Int} (h : H D = none) : Pick H D f v 0 (upd H D (.lst [])) := ⟨h, same_new h, upd_same⟩
theorem Pick.no {H H' H2 : Hp} {D : Addr} {f : Nat → Bool} {v : Nat → Int} {i : Nat} (p : Pick H D f v i H') (s : Same H' H2) (h : f i = false) : Pick H D f v (i + 1) H2 :=
  ⟨p.free, p.same.trans s, by rw [picks_no h]; exact s _ _ p.made⟩
theorem Pick.yes {H H' H2 : Hp} {D : Addr} {f : Nat → Bool} {v : Nat → Int} {i : Nat} (p : Pick H D f v i H') (s : Same H' H2) (h : f i = true) (hi : i < 100000) :
    ∃ acc, H2 D = some (.lst acc) ∧ acc.length < sizeLine ∧ Pick H D f v (i + 1) (upd H2 D (.lst (acc ++ [V.int (v i)]))) := by
  refine ⟨_, s _ _ p.made, ?_, p.free, Same.mut (p.same.trans s) p.free, ?_⟩
  · rw [List.length_map]
    have h1 := picks_len f v i
    exact Nat.lt_of_lt_of_le (show _ < 100000 by omega) (by decide)
  · rw [upd_same, picks_yes h, List.map_append]
    rfl
/-! ### the least common multiple -/
def lcmI (m n : Int) : Int := m / (Int.gcd m n : Int) * n
def lcmL (ns : List Int) : Int := ns.foldl lcmI 1
theorem lcmI_eq {m n : Int} : lcmI m n = m / (Int.gcd m n : Int) * n := rfl
theorem gcd_pos {m n : Int} (h : 0 < n) : (0 : Int) < (Int.gcd m n : Int) := by
  have : 0 < Int.gcd m n := Int.gcd_pos_of_ne_zero_right _ (by omega)
  omega
theorem lcmI_nat {m n : Int} (hm : 0 < m) (hn : 0 < n) : lcmI m n = (Nat.lcm m.toNat n.toNat : Int) := by
  obtain ⟨a, rfl⟩ := Int.eq_ofNat_of_zero_le (Int.le_of_lt hm)
  obtain ⟨b, rfl⟩ := Int.eq_ofNat_of_zero_le (Int.le_of_lt hn)
  show (a : Int) / (Nat.gcd a b : Int) * (b : Int) = (Nat.lcm a b : Int)
  rw [← Int.natCast_ediv, ← Int.natCast_mul]
  congr 1
  unfold Nat.lcm
  rw [Nat.mul_comm (a / Nat.gcd a b) b, Nat.mul_comm a b]
  exact (Nat.mul_div_assoc b (Nat.gcd_dvd_left a b)).symm
theorem lcmI_pos {m n : Int} (hm : 0 < m) (hn : 0 < n) : 0 < lcmI m n := by
  rw [lcmI_nat hm hn]
  have : 0 < Nat.lcm m.toNat n.toNat := Nat.lcm_pos (by omega) (by omega)
  omega
theorem lcmI_le {m n : Int} (hm : 0 < m) (hn : 0 < n) : (lcmI m n).natAbs ≤ m.natAbs * n.natAbs := by
  rw [lcmI_nat hm hn]
  show Nat.lcm m.toNat n.toNat ≤ _
  have h := Nat.div_le_self (m.toNat * n.toNat) (Nat.gcd m.toNat n.toNat)
  rw [show m.natAbs = m.toNat by omega, show n.natAbs = n.toNat by omega]
  exact h
def sp_lm : Sp := fun vs H Q _ => ∃ ns : List Int, vs = ns.map V.int ∧ (∀ n ∈ ns, 0 < n ∧ n.natAbs < 2 ^ 2000) ∧ ns.length ≤ 9 ∧ ∀ H', Same H H' → Q (.int (lcmL ns)) H'
def sp_lm0 (K : PySem.W.Frag) : Sp := fun vs H Q _ => ∃ (p : Addr) (ns : List Int), vs = [.ref p] ∧ SqT K H p (ns.map V.int) ∧ (∀ n ∈ ns, 0 < n ∧ n.natAbs < 2 ^ 2000) ∧ ns.length ≤ 9 ∧ Q (.int (lcmL ns)) H
theorem lcmL_take {ns : List Int} (h : ∀ n ∈ ns, 0 < n ∧ n.natAbs < 2 ^ 2000) : ∀ i, i ≤ ns.length → 0 < lcmL (ns.take i) ∧ (lcmL (ns.take i)).natAbs < 2 ^ (2000 * i + 1)
  | 0, _ => by
    rw [List.take_zero]
    show (0 : Int) < 1 ∧ (1 : Int).natAbs < 2 ^ (0 + 1)
    exact ⟨by decide, by decide⟩
  | i + 1, hi => by
    obtain ⟨h1, h2⟩ := lcmL_take h i (by omega)
    have hi' : i < ns.length := by omega
    obtain ⟨n1, n2⟩ := h ns[i] (List.getElem_mem hi')
    have e : lcmL (ns.take (i + 1)) = lcmI (lcmL (ns.take i)) ns[i] := by
      unfold lcmL
      rw [List.take_add_one, List.getElem?_eq_getElem hi', List.foldl_append]
      rfl
    rw [e]
    refine ⟨lcmI_pos h1 n1, Nat.lt_of_le_of_lt (lcmI_le h1 n1) ?_⟩
    rw [show 2000 * (i + 1) + 1 = 2000 * i + 1 + 2000 by omega, Nat.pow_add]
    exact Nat.mul_lt_mul'' h2 n2
section
variable {P : Program} {w : World} {K : PySem.W.Frag} {mg : Str → Option Value} {base : Heap}
theorem ok_lm (T : Txt K mg w) : FnR P w K mg base CX0 2 T.a_least_multiple sp_lm := by
  obtain ⟨oc, od, kV, doc, pm, an, cdv, ct, osl, _, lk, hcd⟩ := T.F_least_multiple.ex
  rw [‹T.d_least_multiple = _›] at lk
  refine FnR.imp (StX.fn_star (ps := []) (pv := "numbers") (sp := sp_lm0 K) (N := N_least_multiple) (k := 1) lk hcd sc_least_multiple StX.cxUp_none (fun us rest hl => ?_) (fun A outer s H vs Q E hr h => ?_)) (fun vs H Q E h => ?_)
  · match us, hl with
    | [], _ => cases rest <;> rfl
  · obtain ⟨p, ns, rfl, hS, hn, hl, q⟩ := h
    have G_greatest_divisor := ok_greatest_divisor (P := P) (w := w) (base := base) T
    refine ⟨_, PSs.nox (pss_cons (ps_set (i := 1) sc_least_multiple.nd rfl (Or.inl rfl) pe_int)
  (pss_cons (ps_for PassesOwn.never rfl (k_piT (K := K) (pv 0)) (pg_name (i := 2) sc_least_multiple.nd rfl (Or.inl rfl))
  (pss_one (ps_set (i := 1) sc_least_multiple.nd rfl (Or.inl rfl) (pe_op op_mulW (pe_op op_fdivW (pv 1) (pe_call G_greatest_divisor (hr.mono (by decide)) (by rfl) T.g_greatest_divisor T.F_greatest_divisor.kp T.b_greatest_divisor .nil pass0 (pa_cons (pv 1) (pa_cons (pv 2) pa_nil)))) (pv 2)))))
  (pss_one (ps_ret (pv 1))))), ?_⟩
    refine ⟨.ref p, rfl, p, rfl, ⟨_, hS⟩, for_tup (xs := ns.map V.int) (fun i σ H' => H' = H ∧ ∃ y, σ = [some (.ref p), some (.int (lcmL (ns.take i))), y]) ⟨rfl, none, rfl⟩
      (fun i σ H' _ hp => by rw [hp.1]; exact hS) (fun i x σ H' hx hp => ?_) (fun σ H' hp => ?_)⟩
    · obtain ⟨rfl, y, rfl⟩ := hp
      rw [List.getElem?_map] at hx
      cases hg : ns[i]? with
      | none =>
        rw [hg] at hx
        cases hx
      | some n =>
        rw [hg] at hx
        have ex : V.int n = x := Option.some.inj hx
        subst ex
        have hi : i < ns.length := (List.getElem?_eq_some_iff.mp hg).1
        obtain ⟨c1, c2⟩ := lcmL_take hn i (Nat.le_of_lt hi)
        obtain ⟨n1, n2⟩ := hn n (List.mem_of_getElem? hg)
        have e : lcmL (ns.take (i + 1)) = lcmI (lcmL (ns.take i)) n := by
          unfold lcmL
          rw [List.take_add_one, hg, List.foldl_append]
          rfl
        have g1 := gcd_pos (m := lcmL (ns.take i)) n1
        have g2 : ((Int.gcd (lcmL (ns.take i)) n : Int)).natAbs < 2 ^ 2000 := Nat.lt_of_le_of_lt (Nat.le_of_dvd (by omega) (by
          show Int.gcd (lcmL (ns.take i)) n ∣ n.natAbs
          exact Nat.gcd_dvd_right _ _)) n2
        refine ⟨_, rfl, _, rfl, _, rfl, _, _, rfl, _, _, rfl, rfl, wide_div g1 g2 (by decide) (by decide), _, rfl, _, _, rfl, rfl, ?_, ?_⟩
        · refine wide_mul (a := 2000 * i + 1) (b := 2000) (Nat.lt_of_le_of_lt ?_ c2) n2 (by omega) (by decide) (by omega)
          exact Int.natAbs_ediv_le_natAbs _ _
        · refine ⟨rfl, some (.int n), ?_⟩
          rw [e]
          rfl
    · obtain ⟨rfl, y, rfl⟩ := hp
      rw [List.length_map, List.take_length]
      exact ⟨_, rfl, q⟩
  · obtain ⟨ns, rfl, hn, hl, q⟩ := h
    refine ⟨[], ns.map V.int, rfl, rfl, ?_, fun p hp => ⟨p, ns, rfl, .inl (.inl upd_same), hn, hl, q _ (same_new hp)⟩⟩
    rw [List.length_map]
    exact le_line (by omega)
def swap2 {α : Type} : List α → List α → List α
  | [], [o, n] => [n, o]
  | _, _ => []
theorem kb_gcd (T : Txt K mg w) : KBinds K T.d_greatest_divisor P_greatest_divisor ["other", "one"] swap2 swap2 := by
  obtain ⟨oc, od, kV, doc, pm, an, cdv, ct, osl, e, lk, hcd⟩ := T.F_greatest_divisor.ex
  rw [e]
  refine ⟨fun s us ws _ hl => ?_, fun r1 r2 => ?_⟩
  · match us, ws, hl with
    | [], [o, n], _ => exact .of_eq rfl
  · cases r1 with
    | nil =>
      cases r2 with
      | nil => exact .nil
      | cons a r =>
        cases r with
        | nil => exact .nil
        | cons b r =>
          cases r with
          | nil => exact .cons b (.cons a .nil)
          | cons c r => exact .nil
    | cons a r => exact .nil
end
/-! ### the mathematics of the law -/
theorem lcmL_one (a : Int) (ha : 0 < a) : lcmL [a] = a := by
  show lcmI 1 a = a
  rw [lcmI_nat (by decide) ha]
  show ((Nat.lcm 1 a.toNat : Nat) : Int) = a
  rw [Nat.lcm_one_left]
  omega
theorem lcmL_two {a b : Int} (ha : 0 < a) (hb : 0 < b) : lcmL [a, b] = (Nat.lcm a.toNat b.toNat : Int) := by
  show lcmI (lcmL [a]) b = _
  rw [lcmL_one a ha, lcmI_nat ha hb]
theorem lcmL_three {a b c : Int} (ha : 0 < a) (hb : 0 < b) (hc : 0 < c) : lcmL [a, b, c] = (Nat.lcm (Nat.lcm a.toNat b.toNat) c.toNat : Int) := by
  show lcmI (lcmL [a, b]) c = _
  have h : 0 < Nat.lcm a.toNat b.toNat := Nat.lcm_pos (by omega) (by omega)
  rw [lcmL_two ha hb, lcmI_nat (by omega) hc]
  rfl
theorem toNat_mul {a f : Int} (ha : 0 < a) (hf : 0 < f) : (a * f).toNat = a.toNat * f.toNat := by
  obtain ⟨x, rfl⟩ := Int.eq_ofNat_of_zero_le (Int.le_of_lt ha)
  obtain ⟨y, rfl⟩ := Int.eq_ofNat_of_zero_le (Int.le_of_lt hf)
  rfl
theorem lcmL_scaled {a b c f : Int} (ha : 0 < a) (hb : 0 < b) (hc : 0 < c) (hf : 0 < f) : lcmL [a * f, b * f, c * f, f] = lcmL [a, b, c] * f := by
  show lcmI (lcmL [a * f, b * f, c * f]) f = _
  have h1 : 0 < Nat.lcm a.toNat b.toNat := Nat.lcm_pos (by omega) (by omega)
  have h2 : 0 < Nat.lcm (Nat.lcm a.toNat b.toNat) c.toNat := Nat.lcm_pos h1 (by omega)
  rw [lcmL_three (Int.mul_pos ha hf) (Int.mul_pos hb hf) (Int.mul_pos hc hf), lcmL_three ha hb hc, toNat_mul ha hf, toNat_mul hb hf, toNat_mul hc hf, Nat.lcm_mul_right, Nat.lcm_mul_right]
  have h3 : 0 < Nat.lcm (Nat.lcm a.toNat b.toNat) c.toNat * f.toNat := Nat.mul_pos h2 (by omega)
  rw [lcmI_nat (by omega) hf]
  show ((Nat.lcm (Nat.lcm (Nat.lcm a.toNat b.toNat) c.toNat * f.toNat) f.toNat : Nat) : Int) = _
  rw [Nat.lcm_comm, Nat.lcm_eq_right (Nat.dvd_mul_left _ _), Int.natCast_mul]
  congr 1
  omega
theorem fmod_zero {a : Int} {k : Int} (hk : 0 < k) : a.fmod k = 0 ↔ k ∣ a := by
  rw [Int.fmod_eq_emod_of_nonneg _ (by omega)]
  exact ⟨Int.dvd_of_emod_eq_zero, Int.emod_eq_zero_of_dvd⟩
def fG (a b : Int) (i : Nat) : Bool := decide (a.fmod (1 + (i : Int)) = 0) && decide (b.fmod (1 + (i : Int)) = 0) && !(decide (a = 0) && decide (b = 0))
theorem fG_iff {a b : Int} {i : Nat} : fG a b i = true ↔ (1 + (i : Int)) ∣ a ∧ (1 + (i : Int)) ∣ b ∧ ¬ (a = 0 ∧ b = 0) := by
  unfold fG
  rw [Bool.and_eq_true, Bool.and_eq_true, decide_eq_true_eq, decide_eq_true_eq, fmod_zero (by omega), fmod_zero (by omega), Bool.not_eq_true', Bool.and_eq_false_iff, decide_eq_false_iff_not, decide_eq_false_iff_not, and_assoc]
  constructor
  · rintro ⟨h1, h2, h3⟩
    exact ⟨h1, h2, fun h => by rcases h3 with h3 | h3 <;> exact h3 (by first | exact h.1 | exact h.2)⟩
  · rintro ⟨h1, h2, h3⟩
    refine ⟨h1, h2, ?_⟩
    by_cases e : a = 0
    · exact .inr fun e2 => h3 ⟨e, e2⟩
    · exact .inl e
def vUp (lo : Int) (i : Nat) : Int := lo + (i : Int)
theorem gcd_le20 {a b : Int} (ha : -20 ≤ a ∧ a ≤ 20) (hb : -20 ≤ b ∧ b ≤ 20) : (Int.gcd a b : Int) ≤ 20 := by
  by_cases e : a = 0
  · subst e
    rw [Int.gcd_zero_left]
    omega
  · have h := Nat.le_of_dvd (show 0 < a.natAbs by omega) (Nat.gcd_dvd_left a.natAbs b.natAbs)
    show ((Nat.gcd a.natAbs b.natAbs : Nat) : Int) ≤ 20
    omega
theorem max_gcd {a b m : Int} (ha : -20 ≤ a ∧ a ≤ 20) (hb : -20 ≤ b ∧ b ≤ 20) (hm : m ∈ 0 :: picks (fG a b) (vUp 1) 20) (hx : ∀ y, y ∈ 0 :: picks (fG a b) (vUp 1) 20 → y ≤ m) : m = (Int.gcd a b : Int) := by
  have g20 := gcd_le20 ha hb
  by_cases e : a = 0 ∧ b = 0
  · obtain ⟨rfl, rfl⟩ := e
    rcases List.mem_cons.mp hm with h | h
    · exact h
    · obtain ⟨i, _, h2, _⟩ := picks_mem.mp h
      exact absurd ⟨rfl, rfl⟩ (fG_iff.mp h2).2.2
  · have gp : 0 < Int.gcd a b := Nat.pos_of_ne_zero fun h => e (Int.gcd_eq_zero_iff.mp h)
    have hg : (Int.gcd a b : Int) ∈ 0 :: picks (fG a b) (vUp 1) 20 := by
      refine List.mem_cons_of_mem _ (picks_mem.mpr ⟨Int.gcd a b - 1, by omega, fG_iff.mpr ?_, ?_⟩)
      · have e1 : (1 + ((Int.gcd a b - 1 : Nat) : Int)) = (Int.gcd a b : Int) := by omega
        rw [e1]
        exact ⟨Int.gcd_dvd_left .., Int.gcd_dvd_right .., e⟩
      · show (1 : Int) + ((Int.gcd a b - 1 : Nat) : Int) = _
        omega
    have h1 := hx _ hg
    rcases List.mem_cons.mp hm with h | h
    · omega
    · obtain ⟨i, _, h2, h3⟩ := picks_mem.mp h
      have h4 := fG_iff.mp h2
      have h5 : m ∣ (Int.gcd a b : Int) := by
        rw [← h3]
        exact Int.dvd_coe_gcd h4.1 h4.2.1
      have h6 := Int.le_of_dvd (by omega) h5
      omega
def fL2 (a b : Int) (i : Nat) : Bool := decide ((1 + (i : Int)).fmod a = 0) && decide ((1 + (i : Int)).fmod b = 0)
def fL3 (a b c : Int) (i : Nat) : Bool := decide ((1 + (i : Int)).fmod a = 0) && (decide ((1 + (i : Int)).fmod b = 0) && decide ((1 + (i : Int)).fmod c = 0))
theorem dvd_toNat {a : Int} {i : Nat} (ha : 0 < a) : a ∣ (1 + (i : Int)) ↔ a.toNat ∣ 1 + i := by
  obtain ⟨x, rfl⟩ := Int.eq_ofNat_of_zero_le (Int.le_of_lt ha)
  show (x : Int) ∣ _ ↔ x ∣ 1 + i
  rw [show (1 + (i : Int)) = ((1 + i : Nat) : Int) by omega]
  exact Int.natCast_dvd_natCast
theorem min_pick {f : Nat → Bool} {n L : Nat} {m : Int} (hL : 0 < L) (hn : L ≤ n) (hf : ∀ i, f i = true ↔ L ∣ 1 + i) (hm : m ∈ picks f (vUp 1) n) (hx : ∀ y, y ∈ picks f (vUp 1) n → m ≤ y) : m = (L : Int) := by
  have h1 : (L : Int) ∈ picks f (vUp 1) n := picks_mem.mpr ⟨L - 1, by omega, (hf _).mpr (by rw [show 1 + (L - 1) = L by omega]; exact Nat.dvd_refl _), by show (1 : Int) + ((L - 1 : Nat) : Int) = _; omega⟩
  have h2 := hx _ h1
  obtain ⟨i, _, h3, h4⟩ := picks_mem.mp hm
  have h5 := Nat.le_of_dvd (by omega) ((hf i).mp h3)
  have h6 : (1 : Int) + (i : Int) = m := h4
  omega
theorem lcm_iff {a b k : Nat} : Nat.lcm a b ∣ k ↔ a ∣ k ∧ b ∣ k := ⟨fun h => ⟨Nat.dvd_trans (Nat.dvd_lcm_left a b) h, Nat.dvd_trans (Nat.dvd_lcm_right a b) h⟩, fun h => Nat.lcm_dvd h.1 h.2⟩
theorem lcm_le {a b x y : Nat} (ha : a ≤ x) (hb : b ≤ y) : Nat.lcm a b ≤ x * y := Nat.le_trans (Nat.div_le_self _ _) (Nat.mul_le_mul ha hb)
theorem min2 {a b m : Int} (ha : 1 ≤ a ∧ a ≤ 12) (hb : 1 ≤ b ∧ b ≤ 12) (hm : m ∈ picks (fL2 a b) (vUp 1) 144) (hx : ∀ y, y ∈ picks (fL2 a b) (vUp 1) 144 → m ≤ y) : m = lcmL [a, b] := by
  rw [lcmL_two (by omega) (by omega)]
  refine min_pick (Nat.lcm_pos (by omega) (by omega)) (lcm_le (x := 12) (y := 12) (by omega) (by omega)) (fun i => ?_) hm hx
  unfold fL2
  rw [Bool.and_eq_true, decide_eq_true_eq, decide_eq_true_eq, fmod_zero (by omega), fmod_zero (by omega), dvd_toNat (by omega), dvd_toNat (by omega), lcm_iff]
theorem min3 {a b c m : Int} (ha : 1 ≤ a ∧ a ≤ 12) (hb : 1 ≤ b ∧ b ≤ 12) (hc : 1 ≤ c ∧ c ≤ 12) (hm : m ∈ picks (fL3 a b c) (vUp 1) 1728) (hx : ∀ y, y ∈ picks (fL3 a b c) (vUp 1) 1728 → m ≤ y) : m = lcmL [a, b, c] := by
  rw [lcmL_three (by omega) (by omega) (by omega)]
  refine min_pick (Nat.lcm_pos (Nat.lcm_pos (by omega) (by omega)) (by omega)) (lcm_le (x := 144) (y := 12) (lcm_le (x := 12) (y := 12) (by omega) (by omega)) (by omega)) (fun i => ?_) hm hx
  unfold fL3
  rw [Bool.and_eq_true, Bool.and_eq_true, decide_eq_true_eq, decide_eq_true_eq, decide_eq_true_eq, fmod_zero (by omega), fmod_zero (by omega), fmod_zero (by omega), dvd_toNat (by omega), dvd_toNat (by omega), dvd_toNat (by omega), lcm_iff, lcm_iff, and_assoc]
theorem gcd_scaled (a b f : Int) (hf : 0 < f) : (Int.gcd (a * f) (b * f) : Int) = (Int.gcd a b : Int) * f := by
  rw [Int.gcd_mul_right, Int.natCast_mul]
  congr 1
  omega
theorem pick_pos {f : Nat → Bool} {n L : Nat} (hL : 0 < L) (hn : L ≤ n) (hf : ∀ i, f i = true ↔ L ∣ 1 + i) : 0 < (picks f (vUp 1) n).length :=
  List.length_pos_of_mem (picks_mem.mpr ⟨L - 1, by omega, (hf _).mpr (by rw [show 1 + (L - 1) = L by omega]; exact Nat.dvd_refl _), rfl⟩)
theorem pos2 {a b : Int} (ha : 1 ≤ a ∧ a ≤ 12) (hb : 1 ≤ b ∧ b ≤ 12) : 0 < (picks (fL2 a b) (vUp 1) 144).length := by
  refine pick_pos (L := Nat.lcm a.toNat b.toNat) (Nat.lcm_pos (by omega) (by omega)) (lcm_le (x := 12) (y := 12) (by omega) (by omega)) (fun i => ?_)
  unfold fL2
  rw [Bool.and_eq_true, decide_eq_true_eq, decide_eq_true_eq, fmod_zero (by omega), fmod_zero (by omega), dvd_toNat (by omega), dvd_toNat (by omega), lcm_iff]
theorem pos3 {a b c : Int} (ha : 1 ≤ a ∧ a ≤ 12) (hb : 1 ≤ b ∧ b ≤ 12) (hc : 1 ≤ c ∧ c ≤ 12) : 0 < (picks (fL3 a b c) (vUp 1) 1728).length := by
  refine pick_pos (L := Nat.lcm (Nat.lcm a.toNat b.toNat) c.toNat) (Nat.lcm_pos (Nat.lcm_pos (by omega) (by omega)) (by omega)) (lcm_le (x := 144) (y := 12) (lcm_le (x := 12) (y := 12) (by omega) (by omega)) (by omega)) (fun i => ?_)
  unfold fL3
  rw [Bool.and_eq_true, Bool.and_eq_true, decide_eq_true_eq, decide_eq_true_eq, decide_eq_true_eq, fmod_zero (by omega), fmod_zero (by omega), fmod_zero (by omega), dvd_toNat (by omega), dvd_toNat (by omega), dvd_toNat (by omega), lcm_iff, lcm_iff, and_assoc]
theorem lcm3_le {a b c : Int} (ha : 1 ≤ a ∧ a ≤ 12) (hb : 1 ≤ b ∧ b ≤ 12) (hc : 1 ≤ c ∧ c ≤ 12) : 0 < lcmL [a, b, c] ∧ lcmL [a, b, c] ≤ 1728 := by
  rw [lcmL_three (by omega) (by omega) (by omega)]
  have h1 : Nat.lcm (Nat.lcm a.toNat b.toNat) c.toNat ≤ 144 * 12 := lcm_le (x := 144) (y := 12) (lcm_le (x := 12) (y := 12) (by omega) (by omega)) (by omega)
  have h2 : 0 < Nat.lcm (Nat.lcm a.toNat b.toNat) c.toNat := Nat.lcm_pos (Nat.lcm_pos (by omega) (by omega)) (by omega)
  omega
theorem lm_ok {ns : List Int} (h : ∀ n ∈ ns, 0 < n ∧ n < 1000000000000000000000000000000) : ∀ n ∈ ns, 0 < n ∧ n.natAbs < 2 ^ 2000 := fun n hn =>
  ⟨(h n hn).1, small_pow (a := 140) (by have := h n hn; omega) (by decide)⟩
theorem mul_bd {a g : Int} (ha : 1 ≤ a ∧ a ≤ 12) (hg : 1 ≤ g ∧ g ≤ 1000000000000000000) : 0 < a * g ∧ a * g ≤ 12000000000000000000 := by
  have h1 : 0 < a * g := Int.mul_pos (by omega) (by omega)
  have h2 : a * g ≤ 12 * 1000000000000000000 := Int.mul_le_mul ha.2 hg.2 (by omega) (by decide)
  omega
theorem sm_ints {K : PySem.W.Frag} {H : Hp} {a b : Addr} {ns : List Int} (d : Nat) (hl : ns.length < 1000) (hx : SqL K H a (ns.map V.int)) (hy : SqL K H b (ns.map V.int)) : Sm K H (d + 1) (.ref a) (.ref b) := by
  refine .lst hx hy rfl (by rw [List.length_map]; exact hl) fun i x y h1 h2 => ?_
  have e : x = y := Option.some.inj (h1.symm.trans h2)
  subst e
  rw [List.getElem?_map] at h1
  cases hg : ns[i]? with
  | none =>
    rw [hg] at h1
    cases h1
  | some n =>
    rw [hg] at h1
    have ex : V.int n = x := Option.some.inj h1
    subst ex
    exact .int _ _
/-! ### the law -/
def spLaw (K : PySem.W.Frag) : Sp := fun vs H Q _ => ∃ (a : Addr) (ns : List Int), vs = [.ref a] ∧ SqL K H a (ns.map V.int) ∧ ns.length ≤ 63 ∧ ∀ H', Q (.bl true) H'
section
variable {P : Program} {w : World} {K : PySem.W.Frag} {mg : Str → Option Value} {base : Heap}
theorem ok_law (T : Txt K mg w) : FnOk P w K mg base CX0 9 T.a_law T.d_law P_law (spLaw K) := by
  have G__law_bag := ok__law_bag (P := P) (w := w) (base := base) T
  have G__law_pull := ok__law_pull (P := P) (w := w) (base := base) T
  have G__law_same := ok_same (P := P) (w := w) (base := base) T 1
  have G_greatest_divisor := ok_greatest_divisor (P := P) (w := w) (base := base) T
  have G_least_multiple := ok_lm (P := P) (w := w) (base := base) T
  have kb_greatest_divisor_other_one := kb_gcd T
  refine T.F_law.ok sc_law (fun vs H Q E h => ?_) (fun cdv A outer s H vs Q E hr h => ?_)
  · obtain ⟨a, ns, rfl, _⟩ := h
    rfl
  · obtain ⟨a, ns, rfl, hS, hlen, q⟩ := h
    refine ⟨_, (pss_cons (ps_set (i := 1) sc_law.nd rfl (Or.inr rfl) (pe_call G__law_bag (hr.mono (by decide)) (by rfl) T.g__law_bag T.F__law_bag.kp T.b__law_bag .nil pass0 (pa_cons (pv 0) pa_nil)))
  (pss_cons (ps_for PassesOwn.never rfl (pi_range1 rfl T.m_range (pa_cons pe_int pa_nil)) (pg_name (i := 2) sc_law.nd rfl (Or.inl rfl))
  (pss_cons (ps_asg (pe_tup (pa_cons (pe_op op_sub (pe_call G__law_pull (hr.mono (by decide)) (by rfl) T.g__law_pull T.F__law_pull.kp T.b__law_pull .nil pass0 (pa_cons (pv 1) (pa_cons pe_int pa_nil))) pe_int) (pa_cons (pe_op op_sub (pe_call G__law_pull (hr.mono (by decide)) (by rfl) T.g__law_pull T.F__law_pull.kp T.b__law_pull .nil pass0 (pa_cons (pv 1) (pa_cons pe_int pa_nil))) pe_int) pa_nil))) (k_gT (K := K) (n := 2) (pgs_cons (pg_name (i := 3) sc_law.nd rfl (Or.inr rfl)) (pgs_cons (pg_name (i := 4) sc_law.nd rfl (Or.inr rfl)) pgs_nil))))
  (pss_cons (ps_set (i := 5) sc_law.nd rfl (Or.inl rfl) (pe_callB (k_max (K := K)) (by rfl) T.m_max boot_max (pa_cons (pe_op op_cat (pe_lst (pa_cons pe_int pa_nil)) (pe_lc (own := [("_law_k", 12)]) rfl sc_law.nd (pi_range2 rfl T.m_range (pa_cons pe_int (pa_cons pe_int pa_nil))) (blkOk_by (N := N_law) (sc := defScope s_law) (by decide +kernel)) (fun _ _ _ _ _ => (pg_name (i := 12) sc_law.nd rfl (Or.inl rfl))) (fun _ _ _ _ _ => (pts_one (PW.pt (pw_and (pt_cmpR op_eq (pe_op op_modN (pe_callTy call_int1 (by rfl) T.m_int boot_int (pa_cons (pv 3) pa_nil)) (pv 12)) pe_int (nomark _)) (pw_and (pt_cmpR op_eq (pe_op op_modN (pe_callTy call_int1 (by rfl) T.m_int boot_int (pa_cons (pv 4) pa_nil)) (pv 12)) pe_int (nomark _)) (pw_and1 (pt_cmpR (k_neD (K := K) hr.units) (pe_tup (pa_cons (pv 3) (pa_cons (pv 4) pa_nil))) (pe_tup (pa_cons pe_int (pa_cons pe_int pa_nil))) (nomark _)))))))) (fun _ _ _ _ _ => (pv 12)))) pa_nil)))
  (pss_cons (ps_if (pt_not (pt_val (pe_call G__law_same (hr.mono (by decide)) (by rfl) T.g__law_same T.F__law_same.kp T.b__law_same .nil pass0 (pa_cons (pe_call G_greatest_divisor (hr.mono (by decide)) (by rfl) T.g_greatest_divisor T.F_greatest_divisor.kp T.b_greatest_divisor .nil pass0 (pa_cons (pv 3) (pa_cons (pv 4) pa_nil))) (pa_cons (pv 5) pa_nil)))))
  (pss_one (ps_ret pe_bl)) pss_nil)
  (pss_cons (ps_set (i := 6) sc_law.nd rfl (Or.inl rfl) (pe_op op_add pe_int (pe_call G__law_pull (hr.mono (by decide)) (by rfl) T.g__law_pull T.F__law_pull.kp T.b__law_pull .nil pass0 (pa_cons (pv 1) (pa_cons (pe_op op_pow pe_int pe_int) pa_nil)))))
  (pss_cons (ps_if (pt_not (pt_val (pe_call G__law_same (hr.mono (by decide)) (by rfl) T.g__law_same T.F__law_same.kp T.b__law_same .nil pass0 (pa_cons (pe_callK0 G_greatest_divisor (hr.mono (by decide)) (by rfl) T.g_greatest_divisor T.F_greatest_divisor.kp kb_greatest_divisor_other_one pass0 (pk_cons (pe_op op_mulW (pv 4) (pv 6)) (pk_cons (pe_op op_mulW (pv 3) (pv 6)) pk_nil))) (pa_cons (pe_op op_mulW (pv 5) (pv 6)) pa_nil)))))
  (pss_one (ps_ret pe_bl)) pss_nil)
  (pss_cons (ps_asg (pe_lc (own := [("_law_k", 12)]) rfl sc_law.nd (pi_range1 rfl T.m_range (pa_cons pe_int pa_nil)) (blkOk_by (N := N_law) (sc := defScope s_law) (by decide +kernel)) (fun _ _ _ _ _ => (pg_name (i := 12) sc_law.nd rfl (Or.inl rfl))) (fun _ _ _ _ _ => pts_nil) (fun _ _ _ _ _ => (pe_op op_add pe_int (pe_call G__law_pull (hr.mono (by decide)) (by rfl) T.g__law_pull T.F__law_pull.kp T.b__law_pull .nil pass0 (pa_cons (pv 1) (pa_cons pe_int pa_nil)))))) (k_gL (K := K) (n := 3) (pgs_cons (pg_name (i := 7) sc_law.nd rfl (Or.inr rfl)) (pgs_cons (pg_name (i := 8) sc_law.nd rfl (Or.inr rfl)) (pgs_cons (pg_name (i := 9) sc_law.nd rfl (Or.inr rfl)) pgs_nil)))))
  (pss_cons (ps_set (i := 10) sc_law.nd rfl (Or.inl rfl) (pe_lst (pa_cons (pe_callR0 G_least_multiple (hr.mono (by decide)) T.F_least_multiple.kp (by rfl) T.g_least_multiple pass0) (pa_cons (pe_callR G_least_multiple (hr.mono (by decide)) T.F_least_multiple.kp (by rfl) T.g_least_multiple pass0 (pa_cons (pv 7) pa_nil)) (pa_cons (pe_callR G_least_multiple (hr.mono (by decide)) T.F_least_multiple.kp (by rfl) T.g_least_multiple pass0 (pa_cons (pv 7) (pa_cons (pv 8) pa_nil))) (pa_cons (pe_callR G_least_multiple (hr.mono (by decide)) T.F_least_multiple.kp (by rfl) T.g_least_multiple pass0 (pa_cons (pv 7) (pa_cons (pv 8) (pa_cons (pv 9) pa_nil)))) pa_nil))))))
  (pss_cons (ps_set (i := 11) sc_law.nd rfl (Or.inl rfl) (pe_lst (pa_cons pe_int (pa_cons (pv 7) (pa_cons (pe_callB (k_min (K := K)) (by rfl) T.m_min boot_min (pa_cons (pe_lc (own := [("_law_k", 12)]) rfl sc_law.nd (pi_range2 rfl T.m_range (pa_cons pe_int (pa_cons pe_int pa_nil))) (blkOk_by (N := N_law) (sc := defScope s_law) (by decide +kernel)) (fun _ _ _ _ _ => (pg_name (i := 12) sc_law.nd rfl (Or.inl rfl))) (fun _ _ _ _ _ => (pts_one (PW.pt (pw_and (pt_cmpR op_eq (pe_op op_modN (pe_callTy call_int1 (by rfl) T.m_int boot_int (pa_cons (pv 12) pa_nil)) (pv 7)) pe_int (nomark _)) (pw_and1 (pt_cmpR op_eq (pe_op op_modN (pe_callTy call_int1 (by rfl) T.m_int boot_int (pa_cons (pv 12) pa_nil)) (pv 8)) pe_int (nomark _))))))) (fun _ _ _ _ _ => (pv 12))) pa_nil)) pa_nil)))))
  (pss_cons (ps_expr (pe_bm PySem.F.plainAttrs_list PySem.F.slot_list_append PySem.F.type_list_append mt_append (pv 11) (pa_cons (pe_callB (k_min (K := K)) (by rfl) T.m_min boot_min (pa_cons (pe_lc (own := [("_law_k", 12)]) rfl sc_law.nd (pi_range2 rfl T.m_range (pa_cons pe_int (pa_cons pe_int pa_nil))) (blkOk_by (N := N_law) (sc := defScope s_law) (by decide +kernel)) (fun _ _ _ _ _ => (pg_name (i := 12) sc_law.nd rfl (Or.inl rfl))) (fun _ _ _ _ _ => (pts_one (PW.pt (pw_and (pt_cmpR op_eq (pe_op op_modN (pe_callTy call_int1 (by rfl) T.m_int boot_int (pa_cons (pv 12) pa_nil)) (pv 7)) pe_int (nomark _)) (pw_and (pt_cmpR op_eq (pe_op op_modN (pe_callTy call_int1 (by rfl) T.m_int boot_int (pa_cons (pv 12) pa_nil)) (pv 8)) pe_int (nomark _)) (pw_and1 (pt_cmpR op_eq (pe_op op_modN (pe_callTy call_int1 (by rfl) T.m_int boot_int (pa_cons (pv 12) pa_nil)) (pv 9)) pe_int (nomark _)))))))) (fun _ _ _ _ _ => (pv 12))) pa_nil)) pa_nil)))
  (pss_one (ps_if (PW.pt (pw_or (pt_not (pt_val (pe_call G__law_same (hr.mono (by decide)) (by rfl) T.g__law_same T.F__law_same.kp T.b__law_same .nil pass0 (pa_cons (pv 10) (pa_cons (pv 11) pa_nil))))) (pw_or1 (pt_cmpR op_ne (pe_callR G_least_multiple (hr.mono (by decide)) T.F_least_multiple.kp (by rfl) T.g_least_multiple pass0 (pa_cons (pe_op op_mulW (pv 7) (pv 6)) (pa_cons (pe_op op_mulW (pv 8) (pv 6)) (pa_cons (pe_op op_mulW (pv 9) (pv 6)) (pa_cons (pv 6) pa_nil))))) (pe_op op_mulW (pe_ix (k_ixL (K := K)) (pv 11) pe_int (fun _ _ => rfl)) (pv 6)) (nomark _)))))
  (pss_one (ps_ret pe_bl)) pss_nil))))))))))))
  (pss_one (ps_ret (pe_and (pe_cmpR op_eq (pe_call G_greatest_divisor (hr.mono (by decide)) (by rfl) T.g_greatest_divisor T.F_greatest_divisor.kp T.b_greatest_divisor .nil pass0 (pa_cons pe_int (pa_cons pe_int pa_nil))) pe_int (nomark _)) (pe_one (pe_cmpR op_eq (pe_call G_greatest_divisor (hr.mono (by decide)) (by rfl) T.g_greatest_divisor T.F_greatest_divisor.kp T.b_greatest_divisor .nil pass0 (pa_cons pe_int (pa_cons (pe_un un_neg pe_int) pa_nil))) pe_int (nomark _)))))))), ?_⟩
    refine ⟨.ref a, rfl, a, ns, rfl, hS, hlen, fun b l H1 nb nl s1 hB1 => ?_⟩
    refine ⟨4, rfl, by decide, by decide, for_range (fun i σ H' => Bag H' b l ∧ ∃ y2 y3 y4 y5 y6 y7 y8 y9 y10 y11 y12, σ = [some (.ref a), some (.ref b), y2, y3, y4, y5, y6, y7, y8, y9, y10, y11, y12])
      ⟨hB1, none, none, none, none, none, none, none, none, none, none, none, rfl⟩ (fun i σ H2 hi hp => ?_) (fun σ H2 hp => ?_)⟩
    · obtain ⟨hB2, y2, y3, y4, y5, y6, y7, y8, y9, y10, y11, y12, rfl⟩ := hp
      walk_at "rds"
      walk_at "pull"
      intro x H3 x0 x1 hB3 b3
      walk_at "rds"
      walk_at "pull"
      intro z H4 z0 z1 hB4 b4
      walk_at "rds"
      intro p np
      refine ⟨p, _, rfl, .inl (.inl upd_same), rfl, _, _, rfl, _, _, rfl, rfl, ?_⟩
      have hB5 := hB4.same (same_new (o := .tup [V.int (x - 20), V.int (z - 20)]) np)
      generalize upd H4 p _ = H5 at hB5 ⊢
      have bx : -20 ≤ x - 20 ∧ x - 20 ≤ 20 := by omega
      have bz : -20 ≤ z - 20 ∧ z - 20 ≤ 20 := by omega
      -- due
      walk_at "rds"
      intro l0 nl0
      have h6 : upd H5 l0 (.lst [V.int 0]) l0 = some (.lst [V.int 0]) := upd_same
      have hB6 := hB5.same (same_new (o := .lst [V.int 0]) nl0)
      generalize upd H5 l0 _ = H6 at h6 hB6 ⊢
      refine ⟨1, 21, rfl, by decide, fun D hD => ?_⟩
      refine lc_by (n := 20) (Pick H6 D (fG (x - 20) (z - 20)) (vUp 1)) (Pick.start hD) (fun i H hi _ => hi) (fun H _ => Nat.le_refl _) (fun i H' x' H2' hi hp hy => ?_) (fun H7 hp => ?_)
      · obtain ⟨rfl, rfl⟩ := hy
        refine ⟨rfl, ?_⟩
        walk_at "rds"
        refine iteE (fun e1 => ?_) (fun e1 => ?_)
        · walk_at "rds"
          refine iteE (fun e2 => ?_) (fun e2 => ?_)
          · walk_at "rds"
            intro p1 np1
            walk_at "rds"
            intro p2 np2
            have s12 : Same H2' (upd (upd H2' p1 (.tup [V.int (x - 20), V.int (z - 20)])) p2 (.tup [V.int 0, V.int 0])) := (same_new np1).trans (same_new np2)
            refine ⟨_, _, .tup (.inl (.inl (same_new np2 _ _ upd_same))) (.cons (.int _) (.cons (.int _) .nil)), .tup (.inl (.inl upd_same)) (.cons (.int _) (.cons (.int _) .nil)), rfl, rfl, _, rfl, ?_⟩
            have ev : (!(PyData.tuple [PyData.int (x - 20), PyData.int (z - 20)]).eqv (PyData.tuple [PyData.int 0, PyData.int 0])) = fG (x - 20) (z - 20) i := by
              unfold fG
              rw [decide_eq_true e1, decide_eq_true e2, Bool.true_and, Bool.true_and]
              show (!((x - 20 == 0) && ((z - 20 == 0) && true))) = _
              rw [Bool.and_true]
              rfl
            rw [ev]
            cases hf : fG (x - 20) (z - 20) i with
            | true => exact ⟨_, rfl, hp.yes s12 hf (by omega)⟩
            | false => exact hp.no s12 hf
          · exact hp.no (Same.refl _) (by unfold fG; rw [decide_eq_false e2, Bool.and_false]; rfl)
        · exact hp.no (Same.refl _) (by unfold fG; rw [decide_eq_false e1]; rfl)
      · refine ⟨l0, D, _, _, rfl, rfl, hp.same _ _ h6, hp.made, ?_, fun c nc => ?_⟩
        · rw [List.length_map]
          have := picks_len (fG (x - 20) (z - 20)) (vUp 1) 20
          exact le_line (by simp only [List.length_cons, List.length_nil]; omega)
        refine ⟨c, 0 :: picks (fG (x - 20) (z - 20)) (vUp 1) 20, rfl, .inl (.inl upd_same), Nat.succ_pos _, fun m hm hmax => ?_⟩
        have em := max_gcd bx bz hm hmax
        clear hm hmax
        subst em
        have hB7 := hB6.same (hp.same.trans (same_new (o := .lst ([V.int 0] ++ (picks (fG (x - 20) (z - 20)) (vUp 1) 20).map V.int)) nc))
        generalize upd H7 c _ = H8 at hB7 ⊢
        have g20 := gcd_le20 bx bz
        have g0 : (0 : Int) ≤ (Int.gcd (x - 20) (z - 20) : Int) := Int.natCast_nonneg _
        walk_at "rds"
        walk_at "two"
        walk_at "rds"
        refine ⟨_, _, rfl, .int _ _, fun H9 s9 => ?_⟩
        have hB9 := hB7.same s9
        walk_at "rds"
        walk_at "pull"
        intro f H10 f0 f1 hB10 b10
        have f2 : f < 1000000000000000000 := f1
        clear f1
        walk_at "rds"
        walk_at "two"
        walk_at "rds"
        have hg : (Int.gcd ((x - 20) * (1 + f)) ((z - 20) * (1 + f)) : Int) = (Int.gcd (x - 20) (z - 20) : Int) * (1 + f) := gcd_scaled _ _ _ (by omega)
        refine ⟨_, _, rfl, by (show Sm K _ 1 _ (V.int _)); rw [← hg]; exact .int _ _, fun H11 s11 => ?_⟩
        have hB11 := hB10.same s11
        walk_at "rds"
        intro D2 hD2
        refine lc_by (n := 3) (fun i H' => Bag H' b l ∧ ∃ ms : List Int, ms.length = i ∧ (∀ n ∈ ms, 1 ≤ n ∧ n ≤ 12) ∧ H' D2 = some (.lst (ms.map V.int))) ⟨hB11.same (same_new hD2), [], rfl, fun _ h => (nomatch h), upd_same⟩
          (fun i H hi _ => hi) (fun H _ => Nat.le_refl _) (fun i H' x' H2' hi hp hy => ?_) (fun H12 hp => ?_)
        · obtain ⟨rfl, rfl⟩ := hy
          obtain ⟨hB12, ms, ml, mb, mD⟩ := hp
          refine ⟨rfl, ?_⟩
          walk_at "rds"
          walk_at "pull"
          intro k H13 k0 k1 hB13 b13
          walk_at "rds"
          have nDb := hB11.ne hD2
          have nDl := hB11.nl hD2
          refine ⟨_, b13.get nDb mD, ?_, hB13.mut nDb nDl, ms ++ [1 + k], by rw [List.length_append, ml]; rfl, fun n hn => ?_, ?_⟩
          · rw [List.length_map, ml]
            exact lt_line (by omega)
          · rcases List.mem_append.mp hn with h | h
            · exact mb n h
            · rw [List.mem_singleton] at h
              omega
          · rw [upd_same, List.map_append]
            rfl
        · obtain ⟨hB12, ms, ml, mb, mD⟩ := hp
          match ms, ml with
          | [ma, mb', mc], _ =>
          have ba := mb ma (by simp)
          have bb := mb mb' (by simp)
          have bc := mb mc (by simp)
          clear mb
          refine ⟨D2, _, rfl, .inl (.inl mD), rfl, _, _, rfl, _, _, rfl, _, _, rfl, rfl, ?_⟩
          -- found
          refine ⟨[], rfl, fun _ h => (nomatch h), by decide, fun H13 s13 => ?_⟩
          walk_at "rds"
          refine ⟨[ma], rfl, lm_ok fun n hn => ?_, Nat.le_of_ble_eq_true rfl, fun H14 s14 => ?_⟩
          · simp only [List.mem_cons, List.not_mem_nil, or_false] at hn
            omega
          walk_at "rds"
          refine ⟨[ma, mb'], rfl, lm_ok fun n hn => ?_, Nat.le_of_ble_eq_true rfl, fun H15 s15 => ?_⟩
          · simp only [List.mem_cons, List.not_mem_nil, or_false] at hn
            omega
          walk_at "rds"
          refine ⟨[ma, mb', mc], rfl, lm_ok fun n hn => ?_, Nat.le_of_ble_eq_true rfl, fun H16 s16 => ?_⟩
          · simp only [List.mem_cons, List.not_mem_nil, or_false] at hn
            omega
          walk_at "rds"
          intro pf nf
          have pF : upd H16 pf (.lst [V.int (lcmL []), V.int (lcmL [ma]), V.int (lcmL [ma, mb']), V.int (lcmL [ma, mb', mc])]) pf = some (.lst [V.int (lcmL []), V.int (lcmL [ma]), V.int (lcmL [ma, mb']), V.int (lcmL [ma, mb', mc])]) := upd_same
          have hB17 := hB12.same ((((s13.trans s14).trans s15).trans s16).trans (same_new (o := .lst [V.int (lcmL []), V.int (lcmL [ma]), V.int (lcmL [ma, mb']), V.int (lcmL [ma, mb', mc])]) nf))
          generalize upd H16 pf _ = H17 at pF hB17 ⊢
          clear s13 s14 s15 s16 nf mD
          -- dues
          walk_at "rds"
          refine ⟨1, 145, rfl, by decide, fun D3 hD3 => ?_⟩
          refine lc_by (n := 144) (Pick H17 D3 (fL2 ma mb') (vUp 1)) (Pick.start hD3) (fun i H hi _ => hi) (fun H _ => Nat.le_refl _) (fun i H' x' H2' hi hp hy => ?_) (fun H18 hp => ?_)
          · obtain ⟨rfl, rfl⟩ := hy
            refine ⟨rfl, ?_⟩
            walk_at "rds"
            refine iteE (fun e1 => ?_) (fun e1 => ?_)
            · walk_at "rds"
              refine iteE (fun e2 => ?_) (fun e2 => ?_)
              · exact ⟨_, rfl, hp.yes (Same.refl _) (by unfold fL2; rw [decide_eq_true e1, decide_eq_true e2]; rfl) (by omega)⟩
              · exact hp.no (Same.refl _) (by unfold fL2; rw [decide_eq_false e2, Bool.and_false])
            · exact hp.no (Same.refl _) (by unfold fL2; rw [decide_eq_false e1]; rfl)
          · refine ⟨D3, picks (fL2 ma mb') (vUp 1) 144, rfl, .inl (.inl hp.made), pos2 ba bb, fun m hm hmin => ?_⟩
            have em := min2 ba bb hm hmin
            clear hm hmin
            subst em
            have pF18 := hp.same _ _ pF
            have hB18 := hB17.same hp.same
            clear hp
            walk_at "rds"
            intro pd nd
            have nfd : pf ≠ pd := ne_of_none pF18 nd
            have ndb := hB18.ne nd
            have ndl := hB18.nl nd
            have pD : upd H18 pd (.lst [V.int 1, V.int ma, V.int (lcmL [ma, mb'])]) pd = some (.lst [V.int 1, V.int ma, V.int (lcmL [ma, mb'])]) := upd_same
            have s19 := same_new (o := .lst [V.int 1, V.int ma, V.int (lcmL [ma, mb'])]) nd
            have hB19 := hB18.same s19
            have pF19 := s19 _ _ pF18
            clear s19
            generalize upd H18 pd _ = H19 at pD hB19 pF19 ⊢
            refine ⟨.ref pd, rfl, .inl ⟨rfl, _, .inl (.inl pD)⟩, 1, 1729, rfl, by decide, fun D4 hD4 => ?_⟩
            refine lc_by (n := 1728) (Pick H19 D4 (fL3 ma mb' mc) (vUp 1)) (Pick.start hD4) (fun i H hi _ => hi) (fun H _ => Nat.le_refl _) (fun i H' x' H2' hi hp hy => ?_) (fun H20 hp => ?_)
            · obtain ⟨rfl, rfl⟩ := hy
              refine ⟨rfl, ?_⟩
              walk_at "rds"
              refine iteE (fun e1 => ?_) (fun e1 => ?_)
              · walk_at "rds"
                refine iteE (fun e2 => ?_) (fun e2 => ?_)
                · walk_at "rds"
                  refine iteE (fun e3 => ?_) (fun e3 => ?_)
                  · exact ⟨_, rfl, hp.yes (Same.refl _) (by unfold fL3; rw [decide_eq_true e1, decide_eq_true e2, decide_eq_true e3]; rfl) (by omega)⟩
                  · exact hp.no (Same.refl _) (by unfold fL3; rw [decide_eq_false e3, Bool.and_false, Bool.and_false])
                · exact hp.no (Same.refl _) (by unfold fL3; rw [decide_eq_false e2, Bool.false_and, Bool.and_false])
              · exact hp.no (Same.refl _) (by unfold fL3; rw [decide_eq_false e1]; rfl)
            · refine ⟨D4, picks (fL3 ma mb' mc) (vUp 1) 1728, rfl, .inl (.inl hp.made), pos3 ba bb bc, fun m hm hmin => ?_⟩
              have em := min3 ba bb bc hm hmin
              clear hm hmin
              subst em
              have pF20 := hp.same _ _ pF19
              have pD20 := hp.same _ _ pD
              have hB20 := hB19.same hp.same
              clear hp
              refine ⟨pd, _, _, rfl, rfl, pD20, lt_line (Nat.le_of_ble_eq_true rfl), ?_⟩
              have hB21 := hB20.mut (o := .lst ([V.int 1, V.int ma, V.int (lcmL [ma, mb'])] ++ [V.int (lcmL [ma, mb', mc])])) ndb ndl
              have pF21 : upd H20 pd (.lst ([V.int 1, V.int ma, V.int (lcmL [ma, mb'])] ++ [V.int (lcmL [ma, mb', mc])])) pf = some (.lst ([1, ma, lcmL [ma, mb'], lcmL [ma, mb', mc]].map V.int)) := by
                rw [upd_ne nfd, pF20]
                show some (HO.lst [V.int 1, V.int (lcmL [ma]), _, _]) = _
                rw [lcmL_one ma (by omega)]
                rfl
              have pD21 : upd H20 pd (.lst ([V.int 1, V.int ma, V.int (lcmL [ma, mb'])] ++ [V.int (lcmL [ma, mb', mc])])) pd = some (.lst ([1, ma, lcmL [ma, mb'], lcmL [ma, mb', mc]].map V.int)) := upd_same
              generalize upd H20 pd _ = H21 at hB21 pF21 pD21 ⊢
              walk_at "rds"
              refine ⟨_, _, rfl, sm_ints 0 (Nat.le_of_ble_eq_true rfl) (.inl (.inl pF21)) (.inl (.inl pD21)), fun H22 s22 => ?_⟩
              have hB22 := hB21.same s22
              have pD22 := s22 _ _ pD21
              have bf : 1 ≤ 1 + f ∧ 1 + f ≤ 1000000000000000000 := by omega
              have ta := mul_bd ba bf
              have tb := mul_bd bb bf
              have tc := mul_bd bc bf
              have tl := lcm3_le ba bb bc
              walk_at "rds"
              refine ⟨[ma * (1 + f), mb' * (1 + f), mc * (1 + f), 1 + f], rfl, lm_ok fun n hn => ?_, Nat.le_of_ble_eq_true rfl, fun H23 s23 => ?_⟩
              · simp only [List.mem_cons, List.not_mem_nil, or_false] at hn
                omega
              have pD23 : SqL K H23 pd _ := .inl (.inl (s23 _ _ pD22))
              walk_at "rds"
              refine iteNE (fun ne => absurd (lcmL_scaled (by omega) (by omega) (by omega) (by omega)) ne) (fun _ => ?_)
              exact ⟨hB22.same s23, _, _, _, _, _, _, _, _, _, _, _, rfl⟩
    · obtain ⟨hB2, y2, y3, y4, y5, y6, y7, y8, y9, y10, y11, y12, rfl⟩ := hp
      walk_at "rds"
      show Q (V.bl (decide (V.int ((Int.gcd 0 (-7) : Nat) : Int) = V.int 7))) H2
      rw [show decide (V.int ((Int.gcd 0 (-7) : Nat) : Int) = V.int 7) = true from by decide]
      exact q _
end
theorem all_mk {w : World} {K : PySem.W.Frag} {h : Heap} {mg : Str → Option Value} {fa : Addr} (X : K.In h) (G : h.Ns mainGlobals mg) (hfa : mg "law" = some (.ref fa))
    {f0 f1 f2 f3 f4 f5 : Addr} {od0 an0 od1 an1 od2 an2 od3 an3 od4 an4 od5 an5 : Option Addr} {sl0 sl1 sl2 sl3 sl4 sl5 : Array (Option Value)} {oc0 kV0 dc0 pm0 cd0 ct0 oc1 kV1 dc1 pm1 cd1 ct1 oc2 kV2 dc2 pm2 cd2 ct2 oc3 kV3 dc3 pm3 cd3 ct3 oc4 kV4 dc4 pm4 cd4 ct4 oc5 kV5 dc5 pm5 cd5 ct5 : Value}
    (a0 : PySem.W.nsIn K mainGlobals "greatest_divisor" = some (some (.ref f0))) (l0 : K.lookup f0 = some ⟨oc0, od0, .func (PySem.W.fnOf "greatest_divisor" "greatest_divisor" (defArgs s_greatest_divisor) (defBody s_greatest_divisor) (defScope s_greatest_divisor) .none kV0 dc0 pm0 an0 cd0 ct0), sl0⟩) (c0 : PySem.W.codeIn K cd0 "greatest_divisor" = true) (k0 : PySem.W.keepIn K (.ref f0) = true)
    (a1 : PySem.W.nsIn K mainGlobals "least_multiple" = some (some (.ref f1))) (l1 : K.lookup f1 = some ⟨oc1, od1, .func (PySem.W.fnOf "least_multiple" "least_multiple" (defArgs s_least_multiple) (defBody s_least_multiple) (defScope s_least_multiple) .none kV1 dc1 pm1 an1 cd1 ct1), sl1⟩) (c1 : PySem.W.codeIn K cd1 "least_multiple" = true) (k1 : PySem.W.keepIn K (.ref f1) = true)
    (a2 : PySem.W.nsIn K mainGlobals "_law_bag" = some (some (.ref f2))) (l2 : K.lookup f2 = some ⟨oc2, od2, .func (PySem.W.fnOf "_law_bag" "_law_bag" (defArgs s__law_bag) (defBody s__law_bag) (defScope s__law_bag) .none kV2 dc2 pm2 an2 cd2 ct2), sl2⟩) (c2 : PySem.W.codeIn K cd2 "_law_bag" = true) (k2 : PySem.W.keepIn K (.ref f2) = true)
    (a3 : PySem.W.nsIn K mainGlobals "_law_pull" = some (some (.ref f3))) (l3 : K.lookup f3 = some ⟨oc3, od3, .func (PySem.W.fnOf "_law_pull" "_law_pull" (defArgs s__law_pull) (defBody s__law_pull) (defScope s__law_pull) .none kV3 dc3 pm3 an3 cd3 ct3), sl3⟩) (c3 : PySem.W.codeIn K cd3 "_law_pull" = true) (k3 : PySem.W.keepIn K (.ref f3) = true)
    (a4 : PySem.W.nsIn K mainGlobals "_law_same" = some (some (.ref f4))) (l4 : K.lookup f4 = some ⟨oc4, od4, .func (PySem.W.fnOf "_law_same" "_law_same" (defArgs s__law_same) (defBody s__law_same) (defScope s__law_same) .none kV4 dc4 pm4 an4 cd4 ct4), sl4⟩) (c4 : PySem.W.codeIn K cd4 "_law_same" = true) (k4 : PySem.W.keepIn K (.ref f4) = true)
    (a5 : PySem.W.nsIn K mainGlobals "law" = some (some (.ref f5))) (l5 : K.lookup f5 = some ⟨oc5, od5, .func (PySem.W.fnOf "law" "law" (defArgs s_law) (defBody s_law) (defScope s_law) .none kV5 dc5 pm5 an5 cd5 ct5), sl5⟩) (c5 : PySem.W.codeIn K cd5 "law" = true) (k5 : PySem.W.keepIn K (.ref f5) = true)
    (z_abs : PySem.W.nsIn K mainGlobals "abs" = some none)
    (z_all : PySem.W.nsIn K mainGlobals "all" = some none)
    (z_bool : PySem.W.nsIn K mainGlobals "bool" = some none)
    (z_dict : PySem.W.nsIn K mainGlobals "dict" = some none)
    (z_int : PySem.W.nsIn K mainGlobals "int" = some none)
    (z_isinstance : PySem.W.nsIn K mainGlobals "isinstance" = some none)
    (z_len : PySem.W.nsIn K mainGlobals "len" = some none)
    (z_list : PySem.W.nsIn K mainGlobals "list" = some none)
    (z_max : PySem.W.nsIn K mainGlobals "max" = some none)
    (z_min : PySem.W.nsIn K mainGlobals "min" = some none)
    (z_range : PySem.W.nsIn K mainGlobals "range" = some none)
    (z_str : PySem.W.nsIn K mainGlobals "str" = some none)
    (z_tuple : PySem.W.nsIn K mainGlobals "tuple" = some none)
    (z_zip : PySem.W.nsIn K mainGlobals "zip" = some none)
    : ∃ fd : FuncData, (∀ (s : Shared) (v : Value), BindsTo s fd ⟨[v], []⟩ [("_law_script", v)]) ∧ ∀ base : Heap, K.In base → base.Ns mainGlobals mg → FnOk (PySem.Challenge.rw_pileports_k32_divisors_and_multiples).prog w K mg base CX0 9 fa fd ["_law_script"] (spLaw K) := by
  have e := hfa.symm.trans (PySem.W.mg_of X G a5)
  cases e
  have F0 := fun_mk (st := s_greatest_divisor) l0 c0 k0
  have F1 := fun_mk (st := s_least_multiple) l1 c1 k1
  have F2 := fun_mk (st := s__law_bag) l2 c2 k2
  have F3 := fun_mk (st := s__law_pull) l3 c3 k3
  have F4 := fun_mk (st := s__law_same) l4 c4 k4
  have F5 := fun_mk (st := s_law) l5 c5 k5
  let T : Txt K mg w := {
    a_greatest_divisor := _,
    d_greatest_divisor := _,
    F_greatest_divisor := F0,
    g_greatest_divisor := PySem.W.mg_of X G a0,
    b_greatest_divisor := F0.binds (ps := P_greatest_divisor) fun _ _ _ _ _ _ us hl => match us, hl with | [_, _], _ => rfl,
    a_least_multiple := _,
    d_least_multiple := _,
    F_least_multiple := F1,
    g_least_multiple := PySem.W.mg_of X G a1,
    a__law_bag := _,
    d__law_bag := _,
    F__law_bag := F2,
    g__law_bag := PySem.W.mg_of X G a2,
    b__law_bag := F2.binds (ps := P__law_bag) fun _ _ _ _ _ _ us hl => match us, hl with | [_], _ => rfl,
    a__law_pull := _,
    d__law_pull := _,
    F__law_pull := F3,
    g__law_pull := PySem.W.mg_of X G a3,
    b__law_pull := F3.binds (ps := P__law_pull) fun _ _ _ _ _ _ us hl => match us, hl with | [_, _], _ => rfl,
    a__law_same := _,
    d__law_same := _,
    F__law_same := F4,
    g__law_same := PySem.W.mg_of X G a4,
    b__law_same := F4.binds (ps := P__law_same) fun _ _ _ _ _ _ us hl => match us, hl with | [_, _], _ => rfl,
    a_law := _,
    d_law := _,
    F_law := F5,
    g_law := PySem.W.mg_of X G a5,
    m_abs := PySem.W.mg_none_of X G z_abs,
    m_all := PySem.W.mg_none_of X G z_all,
    m_bool := PySem.W.mg_none_of X G z_bool,
    m_dict := PySem.W.mg_none_of X G z_dict,
    m_int := PySem.W.mg_none_of X G z_int,
    m_isinstance := PySem.W.mg_none_of X G z_isinstance,
    m_len := PySem.W.mg_none_of X G z_len,
    m_list := PySem.W.mg_none_of X G z_list,
    m_max := PySem.W.mg_none_of X G z_max,
    m_min := PySem.W.mg_none_of X G z_min,
    m_range := PySem.W.mg_none_of X G z_range,
    m_str := PySem.W.mg_none_of X G z_str,
    m_tuple := PySem.W.mg_none_of X G z_tuple,
    m_zip := PySem.W.mg_none_of X G z_zip }
  exact ⟨_, fun s v => .of_eq rfl, fun base _ _ => ok_law T⟩
end Z
open PySem PySem.W PyProof.Rows
set_option maxHeartbeats 0 in
theorem PySem.Challenge.cw_pileports_k32_divisors_and_multiples_holds : PySem.Challenge.rw_pileports_k32_divisors_and_multiples.Holds := by
  w_on; o_law; k_head; (case hw => w_witness2)
  k_fill
  refine L2.walk_of (l := PySem.Challenge.rw_pileports_k32_divisors_and_multiples) (n := 63) (k := 9) (x := "_law_script") (CX := fun _ => L2.CX0) (sp := fun w => Z.spLaw _) rfl (by decide) rfl ⟨rfl, by decide, by decide⟩ (fun w h Y => PySem.W.kIn_of Y) ?F (fun _ _ a ns hl _ hS => ⟨a, ns, rfl, hS, hl, fun _ => rfl⟩) (fun _ _ _ _ _ h => h)
  case F =>
    intro w mg fa h KX G hmg
    refine' Z.all_mk KX G hmg ?a0 ?l0 ?c0 ?k0 ?a1 ?l1 ?c1 ?k1 ?a2 ?l2 ?c2 ?k2 ?a3 ?l3 ?c3 ?k3 ?a4 ?l4 ?c4 ?k4 ?a5 ?l5 ?c5 ?k5 ?z_abs ?z_all ?z_bool ?z_dict ?z_int ?z_isinstance ?z_len ?z_list ?z_max ?z_min ?z_range ?z_str ?z_tuple ?z_zip
    (case a0 => k_is); (case l0 => k_is); (case c0 => k_is); (case k0 => k_is); (case a1 => k_is); (case l1 => k_is); (case c1 => k_is); (case k1 => k_is); (case a2 => k_is); (case l2 => k_is); (case c2 => k_is); (case k2 => k_is); (case a3 => k_is); (case l3 => k_is); (case c3 => k_is); (case k3 => k_is); (case a4 => k_is); (case l4 => k_is); (case c4 => k_is); (case k4 => k_is); (case a5 => k_is); (case l5 => k_is); (case c5 => k_is); (case k5 => k_is); (case z_abs => k_is); (case z_all => k_is); (case z_bool => k_is); (case z_dict => k_is); (case z_int => k_is); (case z_isinstance => k_is); (case z_len => k_is); (case z_list => k_is); (case z_max => k_is); (case z_min => k_is); (case z_range => k_is); (case z_str => k_is); (case z_tuple => k_is); (case z_zip => k_is)
